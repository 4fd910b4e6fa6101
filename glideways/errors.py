"""The refusals: each stands straight under GlideError, none under another."""


class GlideError(ValueError):
    pass


class NoFrac(GlideError):
    pass


class NoKind(GlideError):
    pass


class NoPlan(GlideError):
    pass


class NoTrack(GlideError):
    pass


class NoTime(GlideError):
    pass


class NoName(GlideError):
    pass


class NoText(GlideError):
    pass


class NoBack(GlideError):
    pass
