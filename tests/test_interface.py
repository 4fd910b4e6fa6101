import unittest
from importlib import import_module
from inspect import Parameter, isclass, signature

MODULES = {
    "fracs": "is_frac/1 is_less/2 frac/2 whole/1 plus/2 minus/2 times/2 over/2 least_frac/1 most_frac/1 rounded/1 "
             "between/3",
    "kinds": "eased/2 slope/2 turned_kind/1 far_on/2",
    "motions": "is_motion/1 end_of/1 part_at/2 ends_between/1 worth_at/2 speed_at/2 turned/1 moved/2 slowed/2 "
               "even_time/2",
    "tracks": "is_track/1 end_time/1 last_worth/1 worth_of/2 worth_ahead/2 worth_behind/2 leaps/1 speed_of/2 "
              "with_motion/5 track_moved/2 track_slowed/2",
    "breaking": "is_run/1 begun/1 worth_on/2 speed_on/2 goes_till/1 comes_to/1 broken/5 held/2 kept_going/4 "
                "turned_round/2",
    "plans": "is_plan/1 steps_of/1 size_of/1 played/3 end_worth/2 slower/2 fitted/2 way_back/2",
    "sheets": "shown/2 last_end/1 going/2 added/2 with_track/3 without_track/2 put_off/3 staggered/5",
    "marks": "by_times/1 passed/3 next_mark/2 last_mark/2",
    "players": "Player/2",
    "texts": "frac_text/1 written/1 read_frac/1 read/1",
    "areas": "area/1 mean/1 track_area/1 rests/1 busy/1 travel/1 reach/1",
    "cues": "cues/2 step_at/3 first_steps/2 kinds_used/1",
    "scores": "Score/0 score_text/1 read_score/1",
}
METHODS = {
    ("players", "Player"): "play/0 pause/0 set_pace/1 seek/1 tick/1 time/0 worth/0 is_over/0 all_heard/0",
    ("scores", "Score"): "put/2 plan_of/1 take/1 chain/2 repeat/2 slow/2 names/0 back/0 forth/0 counts/0 twin/0",
}


def rows(text):
    for row in text.split():
        name, stroke, many = row.partition("/")
        yield name, int(many)


class InterfaceTest(unittest.TestCase):
    def assert_takes(self, call, many):
        given = list(signature(call).parameters.values())
        self.assertEqual(len(given), many)
        for one in given:
            self.assertEqual((one.kind, one.default), (Parameter.POSITIONAL_OR_KEYWORD, Parameter.empty))

    def test_all_is_there_under_its_name(self):
        for module, text in MODULES.items():
            for name, many in rows(text):
                with self.subTest(module=module, name=name):
                    found = getattr(import_module(f"glideways.{module}"), name)
                    self.assertEqual(isclass(found), name in ("Player", "Score"))
                    self.assert_takes(found, many)

    def test_all_methods_are_there_under_their_names(self):
        for (module, name), text in METHODS.items():
            for method, many in rows(text):
                with self.subTest(name=name, method=method):
                    found = getattr(getattr(import_module(f"glideways.{module}"), name), method)
                    self.assert_takes(found, many + 1)


if __name__ == "__main__":
    unittest.main()
