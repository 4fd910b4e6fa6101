import PyProof.Rows.All
import Wide.All
import OpenK.AllK
import Wide.FinOn
import Lean
import PyProof.EqAt
import PyProof.EqKinds
import PyProof.TupleCall
import KE.KIsAll
import KE.KRevIter
import KE.KSortTup
import KE.KTryMore
import OpenK.KRaise
import PyProof.CollectWalk
import PyProof.CompFree
import PyProof.ConsumeWalk
import PyProof.Draws
import PyProof.EnumFor
import PyProof.EnumMake
import PyProof.ExcAttrAll.ValueError
import PyProof.FactsAll.list_3
import PyProof.FactsAll.tuple_2
import PyProof.Fits
import PyProof.Lay0
import PyProof.P3Statements
import PyProof.Rows.SetFrom
import PyProof.WalksEnum
import PyProof.ZipIter
import PySem.Eval
import PySem.Challenge.RW_glideways_k54_whole_cues
def q_a:=@Option.bind_eq_some_iff
def q_b:=@PySem.wpAny_bind
def q_c:=@PySem.Heap.get?_push_of_some
def q_d:=@Option.map_eq_some_iff
def q_e:=@PySem.wpAny_pure
def q_f:=@List.size_toArray
def q_g:=@List.length_map
def q_h:=@PySem.Heap.lt_size
def q_i:=@Bool.and_eq_true
def q_j:=@Option.some.injEq
def q_k:=@PySem.Heap.get?_push_size
def q_l:=@Nat.ne_of_lt
def q_m:=@Nat.lt_of_lt_of_le
def q_n:=@List.mem_cons
def q_o:=@decide_eq_false
def q_p:=@List.getElem?_eq_some_iff
def q_q:=@List.getElem?_eq_getElem
def q_r:=@List.mem_append_right
def q_s:=@List.mem_cons_of_mem
def q_t:=@Nat.le_refl
def q_u:=@List.length_append
def q_v:=@Bool.false_eq_true
def q_w:=@List.filter_cons_of_neg
def q_x:=@List.filter_cons_of_pos
def q_y:=@List.getElem?_set_self
def q_z:=@List.getElem?_set_ne
def q_A:=@List.length_eq_zero_iff
def q_B:=@List.getElem?_append_left
def q_C:=@decide_eq_true_eq
def q_D:=@Nat.lt_succ_of_lt
def q_E:=@Array.length_toList
set_option Elab.async false
set_option compiler.extract_closed false
set_option bootstrap.genMatcherCode false
set_option maxRecDepth 100000 in set_option maxHeartbeats 0 in theorem V54.said:PySem.Challenge.rw_glideways_k54_whole_cues.wellSaid=true:=by kernel_rfl
set_option maxRecDepth 100000
set_option Elab.async false
set_option linter.all false
namespace L2
open PySem PySem.Spec PyProof.Rows
noncomputable abbrev Key:=Sum Int Str
noncomputable def JJV:Key->Value->Bool
 | .inl k,v=>Value.isInt k v
 | .inr x,v=>Value.isStrOf x v
noncomputable def keyH (w:World):Key->Int
 | .inl k=>hashInt k
 | .inr x=>hashStr w x
theorem JAb:∀ {k:Key} {v:Value},JJV k v=true->(∃i t,k=Sum.inl i/\v=Value.int i t)\/(∃x t,k=Sum.inr x/\v=Value.str x t)
 | .inl i,v,h=>by
  obtain ⟨t,e⟩:=Value.isInt_shape (k:=i) (v:=v) h
  exact .inl ⟨i,t,rfl,e⟩
 | .inr x,v,h=>by
  obtain ⟨t,e⟩:=Value.isStrOf_shape (x:=x) (v:=v) h
  exact .inr ⟨x,t,rfl,e⟩
theorem JH4 (x:Str) (t:Tok):JJV (.inr x) (.str x t)=true:=by simp [JJV,Value.isStrOf]
theorem JPx (a b:Int):decide ((Sum.inl a:Key)=Sum.inl b)=(a==b):=by
 by_cases e:a=b
 ·subst e;simp
 ·have h:¬(Sum.inl a:Key)=Sum.inl b:=fun q=>e (Sum.inl.inj q)
  rw [q_o h]
  exact (beq_eq_false_iff_ne.mpr e).symm
theorem JPw (a b:Str):decide ((Sum.inr a:Key)=Sum.inr b)=decide (a=b):=by
 by_cases e:a=b
 ·subst e;simp
 ·have h:¬(Sum.inr a:Key)=Sum.inr b:=fun q=>e (Sum.inr.inj q)
  rw [q_o h,q_o e]
theorem JPp (a:Int) (b:Str):decide ((Sum.inl a:Key)=Sum.inr b)=false:=q_o (fun q=>nomatch q)
theorem JP0 (a:Str) (b:Int):decide ((Sum.inr a:Key)=Sum.inl b)=false:=q_o (fun q=>nomatch q)
noncomputable def JBE (prog:Program) (w:World):PySem.KeyKind prog w Key where
 is:=JJV
 hash:=keyH w
 inj:=fun v a b ha hb=>by
  rcases JAb ha with ⟨i,t,rfl,rfl⟩ | ⟨x,t,rfl,rfl⟩
  ·rcases JAb hb with ⟨j,u,rfl,e⟩ | ⟨y,u,rfl,e⟩
   ·injection e with e1 _;rw [e1]
   ·exact nomatch e
  ·rcases JAb hb with ⟨j,u,rfl,e⟩ | ⟨y,u,rfl,e⟩
   ·exact nomatch e
   ·injection e with e1 _;rw [e1]
 byValue:=fun k v h=>by
  rcases JAb h with ⟨i,t,rfl,rfl⟩ | ⟨x,t,rfl,rfl⟩<;>rfl
 pyHash:=fun hv h=>by
  rcases JAb hv with ⟨i,t,rfl,rfl⟩ | ⟨x,t,rfl,rfl⟩
  ·exact wpAny_pyHash_int h
  ·exact wpAny_pyHash_str h
 eqBool:=fun hu hv h=>by
  rcases JAb hu with ⟨i,t,rfl,rfl⟩ | ⟨x,t,rfl,rfl⟩
  ·rcases JAb hv with ⟨j,u,rfl,rfl⟩ | ⟨y,u,rfl,rfl⟩
   ·rw [JPx] at h;exact wpAny_eqBool_int h
   ·rw [JPp] at h;exact SeqAt.EqAt.int_str i t y u _ _ _ _ h
  ·rcases JAb hv with ⟨j,u,rfl,rfl⟩ | ⟨y,u,rfl,rfl⟩
   ·rw [JP0] at h;exact SeqAt.EqAt.str_int x t j u _ _ _ _ h
   ·rw [JPw] at h;exact wpAny_eqBool_str h
 «strs»:=fun k x t v h=>by
  rcases JAb h with ⟨i,u,rfl,e⟩ | ⟨y,u,rfl,e⟩
  ·exact nomatch e
  ·injection e with e1 _
   subst e1
   cases v<;>rfl
theorem JB3 (prog:Program) (w:World) (x:Str) (t:Tok):(JBE prog w).is (.inr x) (.str x t)=true:=JH4 x t
end L2
namespace L2
open PySem PySem.Spec PyProof.Rows
inductive V where
 | non | bl (b:Bool) | int (i:Int) | str (x:Str) | byt (b:Array UInt8) | flt (b:UInt64) | ref (a:Addr) | ty (n:String)
 deriving DecidableEq
noncomputable def RelV:V->Value->Prop
 | .non,u=>u=Value.none
 | .bl b,u=>u=Value.bool b
 | .int i,u=>∃t,u=Value.int i t
 | .str x,u=>∃t,u=Value.str x t
 | .byt b,u=>∃t,u=Value.bytes b t
 | .flt b,u=>∃t,u=Value.float b t
 | .ref a,u=>u=Value.ref a
 | .ty n,u=>u=Value.type n
noncomputable abbrev Vals:List V->List Value->Prop:=Paired RelV
theorem Vals.length {xs:List V} {us:List Value} (r:Vals xs us):xs.length=us.length:=Paired.length r
theorem Vals.get:∀ {xs:List V} {us:List Value} {i:Nat} {x:V},Vals xs us->xs[i]? = some x->∃u,us[i]? = some u/\RelV x u
 | _,_,_,_,.nil,e=>by simp at e
 | _,_,0,_,.cons r _,e=>by simp at e;subst e;exact ⟨_,rfl,r⟩
 | _,_,i+1,x,.cons _ t,e=>by
  obtain ⟨u,h1,h2⟩:=Vals.get (i:=i) (x:=x) t (by simpa using e)
  exact ⟨u,by simpa using h1,h2⟩
theorem Vals.append:∀ {xs ys:List V} {us ws:List Value},Vals xs us->Vals ys ws->Vals (xs++ys) (us++ws)
 | _,_,_,_,.nil,s=>s
 | _,_,_,_,.cons r t,s=>.cons r (Vals.append t s)
theorem Vals.take:∀ {xs:List V} {us:List Value} (n:Nat),Vals xs us->Vals (xs.take n) (us.take n)
 | _,_,0,_=>.nil
 | _,_,_+1,.nil=>.nil
 | _,_,n+1,.cons r t=>.cons r (Vals.take n t)
theorem Vals.drop:∀ {xs:List V} {us:List Value} (n:Nat),Vals xs us->Vals (xs.drop n) (us.drop n)
 | _,_,0,r=>r
 | _,_,_+1,.nil=>.nil
 | _,_,n+1,.cons _ t=>Vals.drop n t
noncomputable def RelO:Option V->Option Value->Prop
 | some v,some u=>RelV v u
 | none,none=>True
 | _,_=>False
noncomputable def KV {κ:Type}:List (κ×V)->List (κ×Value)->Prop:=Paired fun (p:κ×V) (q:κ×Value)=>p.1=q.1/\RelV p.2 q.2
noncomputable def kV:Key->V
 | .inl i=>.int i
 | .inr x=>.str x
inductive HO where
 | lst (xs:List V)
 | tup (xs:List V)
 | dK (kvs:List (Key×V)) | dT (kvs:List (List Key×V))
 | set (S:Int->Bool) (n:Nat)
 | ins (C dx:Addr) (fs:List (Str×V))
 | own (x:Addr)
 | xd (fs:List (Str×V))
 | met (f x:Addr)
 | rng (lo hi:Int)
 | frz (o:Obj) (u:HO)
 | tbl (ps:Array Value)
 | ext (φ:Heap->Prop)
noncomputable abbrev Hp:=Addr->Option HO
noncomputable def upd (H:Hp) (a:Addr) (o:HO):Hp:=fun b=>if b=a then some o else H b
theorem JAH {H:Hp} {a:Addr} {o:HO}:upd H a o a=some o:=by unfold upd;rw [if_pos rfl]
theorem JAG {H:Hp} {a b:Addr} {o:HO} (h:b≠a):upd H a o b=H b:=by unfold upd;rw [if_neg h]
theorem JAW {H:Hp} {a b:Addr} {o:HO} (h:H a=some o) (h':H b=none):a≠b:=by
 intro e;subst e;rw [h] at h';cases h'
section
variable (P:Program) (w:World)
noncomputable def ObjOk (H:Hp) (h:Heap) (a:Addr):HO->Prop
 | .lst xs=>xs.length<=sizeLine/\∃(its:List Value) (n:Nat),Vals xs its/\h.get? a=some { cls:=.type "list",data:=.seq its.toArray n }
 | .tup xs=>xs.length<=sizeLine/\∃its:List Value,Vals xs its/\IsTup h a its.toArray
 | .dK kvs=>kvs.length<=sizeLine/\(a==sysModules)=false/\∃vs,KV kvs vs/\h.DictOf (JBE P w) a vs
 | .dT kvs=>kvs.length<=sizeLine/\(a==sysModules)=false/\∃xs:List (List Key×Addr×Value),
  Paired (fun (p:List Key×V) (q:List Key×Addr×Value)=>p.1=q.1/\H q.2.1=some (.tup (p.1.map kV))/\RelV p.2 q.2.2) kvs xs /\
  ∃o es ep,h.get? a=some o/\o.ExactDict/\o.data=.dict es ep/\es.toList=xs.map (entryOfKey (tupleKind (JBE P w)))/\(xs.map (·.1)).Nodup
 | .set S n=>h.SetOf (intKind P w) a S n
 | .ins C dx fs=>H dx=some (.own a)/\fs.length<=1000/\dx≠a/\h.get? a=some (PySem.W.instObj C dx) /\
  ∃mA,h.Ns1 dx mA/\(∀f,RelO (fs.lookup f) (mA f))/\PySem.Within mA (fs.map (·.1))
 | .own _=>∃o,h.get? a=some o
 | .xd fs=>∃mA,h.Ns1 a mA/\∀f,RelO (fs.lookup f) (mA f)
 | .rng lo hi=>∃t u v,h.get? a=some { cls:=.type "range",data:=.fields #[.int lo t,.int hi u,.int 1 v] }
 | .frz o u=>h.get? a=some o/\ObjOk H h a u
 | .tbl ps=>h.get? a=some { cls:=.none,data:=.fields ps }
 | .met f x=>h.get? a=some (PySem.W.methodObj (.ref f) (.ref x))
 | .ext φ=>φ h/\(∃o,h.get? a=some o)/\∀h1 h2:Heap,φ h1->(∀o,h1.get? a=some o->h2.get? a=some o)->φ h2
noncomputable def HOk (H:Hp) (h:Heap):Prop:=∀a o,H a=some o->ObjOk P w H h a o
end
section
variable {P:Program} {w:World} {H H':Hp} {h h':Heap} {a:Addr} {o:HO}
theorem ObjOk.lt (x:ObjOk P w H h a o):a<h.objs.size:=by
 cases o with
 | lst xs=>obtain ⟨_,_,_,_,e⟩:=x;exact q_h e
 | tup xs=>obtain ⟨_,_,_,p⟩:=x;exact p.lt
 | dK kvs=>obtain ⟨_,_,_,_,o,_,_,e,_⟩:=x;exact q_h e
 | dT kvs=>obtain ⟨_,_,_,_,o,_,_,e,_⟩:=x;exact q_h e
 | set S n=>obtain ⟨o,_,_,_,e,_⟩:=x;exact q_h e
 | ins C dx fs=>obtain ⟨_,_,_,e,_⟩:=x;exact q_h e
 | own y=>obtain ⟨_,e⟩:=x;exact q_h e
 | xd fs=>obtain ⟨_,⟨_,_,_,e,_⟩,_⟩:=x;exact q_h e
 | rng lo hi=>obtain ⟨_,_,_,e⟩:=x;exact q_h e
 | frz ob u=>obtain ⟨e,_⟩:=x;exact q_h e
 | tbl ps=>exact q_h (show h.get? a=some _ from x)
 | met f y=>exact q_h (show h.get? a=some _ from x)
 | ext φ=>obtain ⟨_,⟨_,e⟩,_⟩:=x;exact q_h e
theorem Paired.mapP {α β:Type} {F G:α->β->Prop}:∀ {l₁:List α} {l₂:List β},Paired F l₁ l₂->(∀a b,F a b->G a b)->Paired G l₁ l₂
 | _,_,.nil,_=>.nil
 | _,_,.cons r t,f=>.cons (f _ _ r) (Paired.mapP t f)
theorem ObjOk.stay (x:ObjOk P w H h a o) (k:∀b u,(b=a\/H b=some (.own a))->h.get? b=some u->h'.get? b=some u)
  (ho:∀b,H b=some (.own a)->H' b=some (.own a)) (ht:∀b xs,H b=some (.tup xs)->H' b=some (.tup xs)):ObjOk P w H' h' a o:=by
 induction o with
 | lst xs=>obtain ⟨z,its,n,r,e⟩:=x;exact ⟨z,its,n,r,k _ _ (.inl rfl) e⟩
 | tup xs=>obtain ⟨z,its,r,ob,e,c⟩:=x;exact ⟨z,its,r,ob,k _ _ (.inl rfl) e,c⟩
 | dK kvs=>obtain ⟨z,y,vs,r,ob,es,ep,e,c⟩:=x;exact ⟨z,y,vs,r,ob,es,ep,k _ _ (.inl rfl) e,c⟩
 | dT kvs =>
  obtain ⟨z,y,xs,r,ob,es,ep,e,c⟩:=x
  exact ⟨z,y,xs,Paired.mapP r fun p q z=>⟨z.1,ht _ _ z.2.1,z.2.2⟩,ob,es,ep,k _ _ (.inl rfl) e,c⟩
 | set S n=>obtain ⟨ob,es,ep,t,e,c⟩:=x;exact ⟨ob,es,ep,t,k _ _ (.inl rfl) e,c⟩
 | ins C dx fs =>
  obtain ⟨d,z,ne,e,mA,⟨od,es,ep,e2,c⟩,r⟩:=x
  exact ⟨ho _ d,z,ne,k _ _ (.inl rfl) e,mA,⟨od,es,ep,k _ _ (.inr d) e2,c⟩,r⟩
 | own y=>obtain ⟨ob,e⟩:=x;exact ⟨ob,k _ _ (.inl rfl) e⟩
 | xd fs=>obtain ⟨mA,⟨od,es,ep,e,c⟩,r⟩:=x;exact ⟨mA,⟨od,es,ep,k _ _ (.inl rfl) e,c⟩,r⟩
 | rng lo hi=>obtain ⟨t,u,v,e⟩:=x;exact ⟨t,u,v,k _ _ (.inl rfl) e⟩
 | frz ob u ih=>obtain ⟨e,q⟩:=x;exact ⟨k _ _ (.inl rfl) e,ih q⟩
 | tbl ps =>
  have e:h.get? a=some { cls:=.none,data:=.fields ps }:=x
  show h'.get? a=some { cls:=.none,data:=.fields ps }
  exact k a _ (.inl rfl) e
 | met f y =>
  have e:h.get? a=some (PySem.W.methodObj (.ref f) (.ref y)):=x
  show h'.get? a=some (PySem.W.methodObj (.ref f) (.ref y))
  exact k a _ (.inl rfl) e
 | ext φ=>obtain ⟨p,⟨o,e⟩,st⟩:=x;exact ⟨st _ _ p fun o q=>k _ _ (.inl rfl) q,⟨o,k _ _ (.inl rfl) e⟩,st⟩
theorem HOk.lt (x:HOk P w H h) (e:H a=some o):a<h.objs.size:=(x a o e).lt
theorem HOk.fresh (x:HOk P w H h) (e:h.objs.size<=a):H a=none:=by
 cases q:H a with
 | none=>rfl
 | some u=>exact absurd (q_m (x.lt q) e) (Nat.lt_irrefl _)
theorem HOk.kept (x:HOk P w H h) (k:∀b u,h.get? b=some u->h'.get? b=some u):HOk P w H h':=fun a o e =>
 (x a o e).stay (fun b u _ q=>k b u q) (fun _ q=>q) fun _ _ q=>q
theorem HOk.laid (x:HOk P w H h) (k:∀b u,h.get? b=some u->h'.get? b=some u) (hp:h.objs.size<=a) (new:ObjOk P w (upd H a o) h' a o):HOk P w (upd H a o) h':=fun b u e=>by
 have hn:=x.fresh hp
 by_cases hb:b=a
 ·subst hb;rw [JAH] at e;cases e;exact new
 ·rw [JAG hb] at e
  exact (x b u e).stay (fun c v _ q=>k c v q) (fun c q=>by rw [JAG (JAW q hn)];exact q) fun c xs q=>by rw [JAG (JAW q hn)];exact q
end
noncomputable def Rd (H:Hp) (a:Addr) (u:HO):Prop:=H a=some u\/∃o,H a=some (.frz o u)
theorem Rd.of {H:Hp} {a:Addr} {u:HO} (h:H a=some u):Rd H a u:=.inl h
theorem Rd.ok {P:Program} {w:World} {H:Hp} {h:Heap} {a:Addr} {u:HO} (r:Rd H a u) (x:HOk P w H h):ObjOk P w H h a u:=by
 rcases r with r | ⟨o,r⟩
 ·exact x a u r
 ·obtain ⟨_,q⟩:=x a _ r
  exact q
noncomputable def Mut:Option HO->Prop
 | some (.lst _)=>True
 | some (.dK _)=>True
 | some (.dT _)=>True
 | some (.set _ _)=>True
 | some (.ins _ _ _)=>True
 | some (.ext _)=>True
 | _=>False
section
variable {P:Program} {w:World} {H:Hp} {h h':Heap} {x e:Addr} {o':HO}
theorem HOk.write (ok:HOk P w H h) (mu:Mut (H x)) (he:e=x\/H e=some (.own x)) (k:∀b u,b≠e->h.get? b=some u->h'.get? b=some u) (heo:∃u,h'.get? e=some u)
  (new:ObjOk P w (upd H x o') h' x o'):HOk P w (upd H x o') h':=fun b u q=>by
 have nown:∀c y,H c=some (.own y)->c≠x:=fun c y r z=>by subst z;rw [r] at mu;exact mu
 have ntup:∀c xs,H c=some (.tup xs)->c≠x:=fun c xs r z=>by subst z;rw [r] at mu;exact mu
 by_cases hb:b=x
 ·subst hb;rw [JAH] at q;cases q;exact new
 ·rw [JAG hb] at q
  by_cases hbe:b=e
  · have q':H b=some (.own x):=by
     rcases he with z | z
     ·exact absurd (hbe.trans z) hb
     ·rw [hbe];exact z
    rw [q] at q';cases q'
    obtain ⟨v,hv⟩:=heo
    exact ⟨v,by rw [hbe];exact hv⟩
  · refine (ok b u q).stay (fun c v hc r=>k c v ?_ r) (fun c r=>by rw [JAG (nown c b r)];exact r) fun c xs r=>by rw [JAG (ntup c xs r)];exact r
    rcases hc with rfl | hc
    ·exact hbe
    ·rintro rfl
     rcases he with z | z
     ·exact nown c b hc z
     ·rw [hc] at z;cases z;exact hb rfl
end
structure Un (fs ex:List Addr) (H H':Hp) (h h':Heap):Prop where
 keep:∀b o,h.get? b=some o->H b=none->b ∉ fs->b ∉ ex->h'.get? b=some o
 slot:∀b o,h.get? b=some o->H b=none->b∈fs->b ∉ ex->∃sl,h'.get? b=some { o with slots:=sl }
 free:∀b o,h.get? b=some o->H b=none->b ∉ ex->H' b=none
 there:∀b o,h.get? b=some o->b ∉ ex->∃o',h'.get? b=some o'
 tups:∀b xs,H b=some (.tup xs)->H' b=some (.tup xs)
 frzs:∀b o u,H b=some (.frz o u)->H' b=some (.frz o u)
 tbls:∀b ps,H b=some (.tbl ps)->∃more,H' b=some (.tbl (ps++more))
section
variable {fs fs' ex ex':List Addr} {H H1 H2:Hp} {h h1 h2 h':Heap} {a x e:Addr} {o:HO}
theorem Un.any (u:Un fs ex H H1 h h1) {b:Addr} {ob:Obj} (q:h.get? b=some ob) (n:H b=none) (hx:b ∉ ex):∃sl,h1.get? b=some { ob with slots:=sl }:=by
 by_cases hb:b∈fs
 ·exact u.slot b ob q n hb hx
 ·exact ⟨ob.slots,u.keep b ob q n hb hx⟩
theorem Un.trans (a:Un fs ex H H1 h h1) (b:Un fs ex H1 H2 h1 h2):Un fs ex H H2 h h2 where
 keep:=fun c ob q n hc hx=>b.keep c ob (a.keep c ob q n hc hx) (a.free c ob q n hx) hc hx
 slot:=fun c ob q n hc hx=>by
  obtain ⟨sl,e1⟩:=a.slot c ob q n hc hx
  obtain ⟨sl',e2⟩:=b.slot c _ e1 (a.free c ob q n hx) hc hx
  exact ⟨sl',e2⟩
 free:=fun c ob q n hx=>by
  obtain ⟨o',e1⟩:=a.there c ob q hx
  exact b.free c o' e1 (a.free c ob q n hx) hx
 there:=fun c ob q hx=>by
  obtain ⟨o',e1⟩:=a.there c ob q hx
  exact b.there c o' e1 hx
 tups:=fun c xs q=>b.tups c xs (a.tups c xs q)
 frzs:=fun c ob xs q=>b.frzs c ob xs (a.frzs c ob xs q)
 tbls:=fun c ps q=>by
  obtain ⟨m1,e1⟩:=a.tbls c ps q
  obtain ⟨m2,e2⟩:=b.tbls c _ e1
  exact ⟨m1++m2,by rw [e2,Array.append_assoc]⟩
theorem Un.kept (k:∀b u,h.get? b=some u->h'.get? b=some u):Un fs ex H H h h' :=
 ⟨fun b ob q _ _ _=>k b ob q,fun b ob q _ _ _=>⟨ob.slots,k b ob q⟩,fun _ _ _ n _=>n,fun b ob q _=>⟨ob,k b ob q⟩,fun _ _ q=>q,fun _ _ _ q=>q,fun _ ps q=>⟨#[],by rw [q];simp⟩⟩
theorem Un.refl:Un fs ex H H h h:=Un.kept fun _ _ q=>q
theorem Un.laid (k:∀b u,h.get? b=some u->h'.get? b=some u) (hp:h.objs.size<=a) (hn:H a=none):Un fs ex H (upd H a o) h h' where
 keep:=fun b u q _ _ _=>k b u q
 slot:=fun b u q _ _ _=>⟨u.slots,k b u q⟩
 free:=fun b u q n _=>by rw [JAG (q_l (q_m (q_h q) hp))];exact n
 there:=fun b u q _=>⟨u,k b u q⟩
 tups:=fun b xs q=>by rw [JAG (JAW q hn)];exact q
 frzs:=fun b u xs q=>by rw [JAG (JAW q hn)];exact q
 tbls:=fun b ps q=>⟨#[],by rw [JAG (JAW q hn),q];simp⟩
theorem Un.write (mu:Mut (H x)) (he:e=x\/H e=some (.own x)) (k:∀b u,b≠e->h.get? b=some u->h'.get? b=some u) (heo:∃u,h'.get? e=some u):Un fs ex H (upd H x o) h h':=by
 have hx:∀b,H b=none->b≠x:=fun b n z=>by subst z;rw [n] at mu;exact mu
 have hb:∀b,H b=none->b≠e:=fun b n z=>by
  subst z
  rcases he with r | r
  ·exact hx b n r
  ·rw [n] at r;cases r
 have hm:∀b u,H b=some u->¬Mut (some u)->b≠x:=fun b u q nm z=>by subst z;rw [q] at mu;exact nm mu
 refine ⟨fun b u q n _ _=>k b u (hb b n) q,fun b u q n _ _=>⟨u.slots,k b u (hb b n) q⟩,fun b u q n _=>by rw [JAG (hx b n)];exact n,fun b u q _=>?_,
  fun b xs q=>by rw [JAG (hm b _ q fun z=>z)];exact q,fun b u xs q=>by rw [JAG (hm b _ q fun z=>z)];exact q,fun b ps q=>⟨#[],by rw [JAG (hm b _ q fun z=>z),q];simp⟩⟩
 by_cases hbe:b=e
 ·subst hbe;exact heo
 ·exact ⟨u,k b u hbe q⟩
theorem Un.mono (u:Un fs ex H H1 h h1) (hs:∀b∈fs,b∈fs') (hx:∀b∈ex,b∈ex'):Un fs' ex' H H1 h h1 :=
 ⟨fun b ob q n hb he=>u.keep b ob q n (fun z=>hb (hs b z)) fun z=>he (hx b z),fun _ _ q n _ he=>u.any q n fun z=>he (hx _ z),fun b ob q n he=>u.free b ob q n fun z=>he (hx b z),fun b ob q he=>u.there b ob q fun z=>he (hx b z),u.tups,u.frzs,u.tbls⟩
end
noncomputable def trk (h:Heap) (H:Hp):List Addr:=(List.range h.objs.size).filter fun a=>(H a).isSome
noncomputable def hidT (h:Heap) (H:Hp):Heap:=PySem.W.hideAll h (trk h H)
theorem JHa (h:Heap) (H:Hp):(hidT h H).objs.size=h.objs.size:=PySem.W.hideAll_size _ _
theorem JJN {h:Heap} {H:Hp} {b:Addr} {o:Obj} (e:h.get? b=some o) (n:H b=none):(hidT h H).get? b=some o :=
 PySem.W.hideAll_get _ e fun hm=>by
  have q:(H b).isSome=true:=(List.mem_filter.mp hm).2
  rw [n] at q;simp at q
theorem JMJ {h:Heap} {H:Hp} {b:Addr} {o:Obj} (e:(hidT h H).get? b=some o):h.get? b=some o/\H b=none:=by
 have e':h.get? b=some o:=PySem.W.of_hideAll (trk h H) e
 refine ⟨e',?_⟩
 cases q:H b with
 | none=>rfl
 | some x =>
  have hm:b∈trk h H:=List.mem_filter.mpr ⟨List.mem_range.mpr (q_h e'),by simp [q]⟩
  have z:(hidT h H).get? b=none:=PySem.W.hideAll_none (trk h H) hm
  rw [z] at e;cases e
noncomputable def JL8 (g h:Heap) (L:Addr):List (Addr×Obj):=(List.range h.objs.size).filterMap fun a=>if a=L\/(g.get? a).isSome=true then none else (h.get? a).map fun o=>(a,o)
noncomputable def rest (g h:Heap) (L d:Addr):List (Addr×Obj):=(JL8 g h L).filter fun p=>decide (p.1≠d)
end L2
namespace L2
open PySem PySem.Spec PyProof.Rows
structure Mod (K:PySem.W.Frag) (mg:Str->Option Value) (base:Heap):Prop where
 kin:K.In base
 glob:base.Ns mainGlobals mg
 blt:∃mb,base.Ns builtinsNs mb/\∀x:Str,x≠"__name__"->mb x=bootBuiltins x
 nolimit:base.NoLimit
structure Cx where
 prog:Program
 w:World
 K:PySem.W.Frag
 mg:Str->Option Value
 base:Heap
 A:Around
 N:List Str
 s₀:Shared
 H₀:Hp
 env:Env
 outer:List Env
 stack:List Env
 ex:List Addr
 fn:Str->Bool
 calm:Bool
 pn:List (Addr×Obj)
 xe:Value->Shared->Prop
noncomputable def frs (l:List Env):List Addr:=l.filterMap (·.frame)
noncomputable abbrev Cx.fs (X:Cx):List Addr:=frs X.outer
noncomputable def Vis (sc:Scope) (x:Str):Prop:=sc.names.lookup x=some .local\/sc.names.lookup x=some .cell\/sc.names.lookup x=some .free
noncomputable def Loc (sc:Scope) (x:Str):Prop:=sc.names.lookup x=some .local\/sc.names.lookup x=some .cell
noncomputable def Look (env:Env) (h:Heap) (m:Str->Option Value) (x:Str) (u:Value):Prop :=
 (env.kindOf x=some .local/\m x=some u)\/((env.kindOf x=some .cell\/env.kindOf x=some .free)/\∃c,env.cells.lookup x=some c/\h.IsCell c (some u))
structure Cx.Ok (X:Cx):Prop where
 mod:Mod X.K X.mg X.base
 kind:X.env.scope.kind=.function
 glob:X.env.globals=mainGlobals
 blt:X.env.builtins=builtinsNs
 above:X.s₀.heap.objs.size<=X.env.locals
 inj:∀x y c,X.env.cells.lookup x=some c->X.env.cells.lookup y=some c->x=y
 has:∀x,(X.env.kindOf x=some .cell\/X.env.kindOf x=some .free)->∃c,X.env.cells.lookup x=some c
 cab:∀x c,X.fn x=true->X.env.cells.lookup x=some c->X.s₀.heap.objs.size<=c
 hd:X.calm=true->X.A.handled=none
 frames:X.A.frames=some X.stack
 stk:X.stack=X.outer\/(X.stack=X.env::X.outer/\X.env.frame=some X.env.locals)
 exf:∀b∈X.ex,b≠X.env.locals/\∀x c,X.env.cells.lookup x=some c->c≠b
 bs:∀b o,X.base.get? b=some o->X.s₀.heap.get? b=some o/\X.H₀ b=none
 bsz:X.base.objs.size<=X.s₀.heap.objs.size
 noex:∀b o,X.base.get? b=some o->b ∉ X.ex
 exfs:∀b∈X.ex,b ∉ X.fs
 funs:X.s₀.heap.FunFrames X.base X.outer
 frf:∀b∈X.fs,X.H₀ b=none
structure Inv (X:Cx) (pins:List (Addr×Obj)) (σ:List (Option V)) (H:Hp) (s:Shared):Prop where
 ok:X.Ok
 os:s.os=X.s₀.os
 bare:AllBare s.gens
 base:Un X.fs X.ex X.H₀ H X.s₀.heap s.heap
 loc:∃m,s.heap.Ns X.env.locals m/\∀(i:Nat) (x:Str) (v:V),X.N[i]? = some x->σ[i]? = some (some v)->Vis X.env.scope x->∃u,RelV v u/\Look X.env s.heap m x u
 cell:∀x c,X.env.cells.lookup x=some c->∃v,s.heap.IsCell c v
 free:H X.env.locals=none
 freeC:∀x c,X.env.cells.lookup x=some c->H c=none
 pin:∀p∈X.pn++pins,s.heap.get? p.1=some p.2/\H p.1=none/\p.1≠X.env.locals/\p.1 ∉ X.fs/\∀v,p.2.data≠.cell v
 hok:HOk X.prog X.w H s.heap
 len:σ.length=X.N.length
section
variable {X:Cx} {pins:List (Addr×Obj)} {σ:List (Option V)} {H H':Hp} {s:Shared} {h':Heap}
theorem Cx.Ok.nofr (ok:X.Ok) {b:Addr} {o:Obj} (e:X.base.get? b=some o):b ∉ X.fs:=fun hb=>by
 have:=(ok.funs.mem hb).1
 rw [e] at this;cases this
theorem Inv.bs (I:Inv X pins σ H s):∀b o,X.base.get? b=some o->s.heap.get? b=some o/\H b=none:=fun b o e =>
 ⟨I.base.keep b o (I.ok.bs b o e).1 (I.ok.bs b o e).2 (I.ok.nofr e) (I.ok.noex b o e),I.base.free b o (I.ok.bs b o e).1 (I.ok.bs b o e).2 (I.ok.noex b o e)⟩
theorem Inv.bk (I:Inv X pins σ H s):∀b o,X.base.get? b=some o->s.heap.get? b=some o:=fun b o e=>(I.bs b o e).1
theorem Inv.mod (I:Inv X pins σ H s):Mod X.K X.mg X.base:=I.ok.mod
theorem Inv.kIn (I:Inv X pins σ H s):X.K.In s.heap:=I.ok.mod.kin.keeps I.bk
theorem Inv.lt (I:Inv X pins σ H s):X.env.locals<s.heap.objs.size:=let ⟨_,hn,_⟩:=I.loc;hn.lt
theorem Inv.sz (I:Inv X pins σ H s):X.s₀.heap.objs.size<=s.heap.objs.size:=Nat.le_trans I.ok.above (Nat.le_of_lt I.lt)
theorem Inv.nofs (I:Inv X pins σ H s) {a:Addr} (h:s.heap.objs.size<=a):a ∉ X.fs:=fun hb=>by
 obtain ⟨_,o,ho,_⟩:=I.ok.funs.mem hb
 exact absurd (q_m (q_h ho) (Nat.le_trans I.sz h)) (Nat.lt_irrefl _)
theorem Inv.cne (I:Inv X pins σ H s):∀x c,X.env.cells.lookup x=some c->c≠X.env.locals:=fun x c e z=>by
 obtain ⟨v,o,ho,hd⟩:=I.cell x c e
 obtain ⟨m,⟨o',es,ep,ho',hd',_⟩,_⟩:=I.loc
 rw [z,ho'] at ho;cases ho;rw [hd'] at hd;cases hd
theorem Inv.funs (I:Inv X pins σ H s):s.heap.FunFrames X.base X.outer:=by
 have all:∀(l:List Env),(∀b∈frs l,b∈X.fs)->X.s₀.heap.FunFrames X.base l->s.heap.FunFrames X.base l:=by
  intro l
  induction l with
  | nil=>intro _ _;trivial
  | cons env r ih =>
   intro hs hl
   obtain ⟨hk,⟨L,o,hf,hn,ho,hd⟩,hr⟩:=hl
   have hL:L∈X.fs:=hs L (by unfold frs;rw [List.filterMap_cons,hf];exact List.mem_cons_self)
   obtain ⟨sl,e⟩:=I.base.slot L o ho (I.ok.frf L hL) hL fun z=>I.ok.exfs L z hL
   exact ⟨hk,⟨L,_,hf,hn,e,hd⟩,ih (fun b hb=>hs b (by unfold frs;rw [List.filterMap_cons,hf];exact q_s _ hb)) hr⟩
 exact all X.outer (fun _ hb=>hb) I.ok.funs
theorem Inv.stack (I:Inv X pins σ H s):s.heap.FunFrames X.base X.stack:=by
 rcases I.ok.stk with e | ⟨e,hf⟩
 ·rw [e];exact I.funs
 ·rw [e]
  obtain ⟨m,hn,_⟩:=I.loc
  refine .cons (by rw [I.ok.kind];decide) hf hn ?_ I.funs
  exact Heap.get?_none_of_le (Nat.le_trans I.ok.bsz I.ok.above)
theorem Inv.stkSub (I:Inv X pins σ H s):∀b∈frs X.stack,b∈X.env.locals::X.fs:=fun b hb=>by
 rcases I.ok.stk with e | ⟨e,hf⟩
 ·rw [e] at hb;exact q_s _ hb
 ·rw [e] at hb
  unfold frs at hb
  rw [List.filterMap_cons,hf] at hb
  exact hb
theorem Inv.stkFree (I:Inv X pins σ H s):∀b∈frs X.stack,H b=none:=fun b hb=>by
 rcases q_n.mp (I.stkSub b hb) with e | hb
 ·rw [e];exact I.free
 ·obtain ⟨_,o,ho,_⟩:=I.ok.funs.mem hb
  exact I.base.free b o ho (I.ok.frf b hb) fun z=>I.ok.exfs b z hb
theorem Inv.step {g':Array GenState} {t':Nat} {d':Drawn} {ch:List Addr} (I:Inv X pins σ H s)
  (hch:∀b∈ch,(b∈X.ex\/X.s₀.heap.objs.size<=b)/\b≠X.env.locals/\(∀x c,X.env.cells.lookup x=some c->c≠b)/\∀p∈X.pn++pins,p.1≠b)
  (keep:∀b o,b≠X.env.locals->b ∉ X.fs->b ∉ ch->s.heap.get? b=some o->H b=none->h'.get? b=some o)
  (slot:∀b o,b≠X.env.locals->b∈X.fs->b ∉ ch->s.heap.get? b=some o->H b=none->∃sl,h'.get? b=some { o with slots:=sl }) (free:∀b o,b ∉ ch->s.heap.get? b=some o->H b=none->H' b=none)
  (there:∀b o,b ∉ ch->s.heap.get? b=some o->∃o',h'.get? b=some o')
  (tups:∀b xs,H b=some (.tup xs)->H' b=some (.tup xs)) (frzs:∀b o u,H b=some (.frz o u)->H' b=some (.frz o u)) (tbls:∀b ps,H b=some (.tbl ps)->∃more,H' b=some (.tbl (ps++more)))
  (ns:∀m,s.heap.Ns X.env.locals m->h'.Ns X.env.locals m) (hok:HOk X.prog X.w H' h') (hg:AllBare g') :
  Inv X pins σ H' { s with heap:=h',gens:=g',drawn:=d',toks:=t' }:=by
 have neL:∀b o,X.s₀.heap.get? b=some o->b≠X.env.locals:=fun b o e=>q_l (q_m (q_h e) I.ok.above)
 have neC:∀b o,X.s₀.heap.get? b=some o->b ∉ X.ex->b ∉ ch:=fun b o e hx hb=>by
  rcases (hch b hb).1 with z | z
  · exact hx z
  · exact absurd (q_m (q_h e) z) (Nat.lt_irrefl _)
 have cellK:∀x c,X.env.cells.lookup x=some c->∀v,s.heap.IsCell c v->h'.IsCell c v:=fun x c e v ⟨o,ho,hd⟩=>by
  have nch:c ∉ ch:=fun z=>(hch c z).2.2.1 x c e rfl
  by_cases hc:c∈X.fs
  · obtain ⟨sl,q⟩:=slot c o (I.cne x c e) hc nch ho (I.freeC x c e)
    exact ⟨_,q,hd⟩
  · exact ⟨o,keep c o (I.cne x c e) hc nch ho (I.freeC x c e),hd⟩
 refine ⟨I.ok,I.os,hg,⟨fun b o e n hb hx=>?_,fun b o e n hb hx=>?_,fun b o e n hx=>?_,fun b o e hx=>?_,fun b xs e=>tups b xs (I.base.tups b xs e),fun b o xs e=>frzs b o xs (I.base.frzs b o xs e),fun b ps e=>?_⟩,?_,fun x c e=>?_,?_,fun x c e=>?_,fun p hp=>?_,hok,I.len⟩
 ·exact keep b o (neL b o e) hb (neC b o e hx) (I.base.keep b o e n hb hx) (I.base.free b o e n hx)
 ·obtain ⟨sl,e1⟩:=I.base.slot b o e n hb hx
  obtain ⟨sl',e2⟩:=slot b _ (neL b o e) hb (neC b o e hx) e1 (I.base.free b o e n hx)
  exact ⟨sl',e2⟩
 ·obtain ⟨o',e1⟩:=I.base.there b o e hx
  exact free b o' (neC b o e hx) e1 (I.base.free b o e n hx)
 ·obtain ⟨o',e1⟩:=I.base.there b o e hx
  exact there b o' (neC b o e hx) e1
 ·obtain ⟨m1,e1⟩:=I.base.tbls b ps e
  obtain ⟨m2,e2⟩:=tbls b _ e1
  exact ⟨m1++m2,by rw [e2,Array.append_assoc]⟩
 ·obtain ⟨m,hn,hl⟩:=I.loc
  refine ⟨m,ns m hn,fun i x v e1 e2 e3=>?_⟩
  obtain ⟨u,r,l⟩:=hl i x v e1 e2 e3
  refine ⟨u,r,?_⟩
  rcases l with l | ⟨k,c,e,z⟩
  · exact .inl l
  · exact .inr ⟨k,c,e,cellK x c e _ z⟩
 ·obtain ⟨v,z⟩:=I.cell x c e
  exact ⟨v,cellK x c e v z⟩
 ·obtain ⟨m,⟨o,_,_,ho,_⟩,_⟩:=I.loc
  exact free _ o (fun z=>(hch _ z).2.1 rfl) ho I.free
 ·obtain ⟨v,o,ho,hd⟩:=I.cell x c e
  exact free c o (fun z=>(hch c z).2.2.1 x c e rfl) ho (I.freeC x c e)
 ·obtain ⟨e,n,ne,nf,d⟩:=I.pin p hp
  have nch:p.1 ∉ ch:=fun z=>(hch p.1 z).2.2.2 p hp rfl
  exact ⟨keep p.1 p.2 ne nf nch e n,free p.1 p.2 nch e n,ne,nf,d⟩
theorem Inv.un {t':Nat} (I:Inv X pins σ H s) (u:Un X.fs [] H H' s.heap h') (hok:HOk X.prog X.w H' h'):Inv X pins σ H' { s with heap:=h',toks:=t' }:=by
 obtain ⟨m,⟨o,es,ep,ho,r⟩,_⟩:=id I.loc
 obtain ⟨sl,hL⟩:=u.any ho I.free (by simp)
 exact I.step (g':=s.gens) (d':=s.drawn) (ch:=[]) (fun _ z=>nomatch z) (fun b o _ hb _ e n=>u.keep b o e n hb (by simp)) (fun b o _ hb _ e n=>u.slot b o e n hb (by simp)) (fun b o _ e n=>u.free b o e n (by simp)) (fun b o _ e=>u.there b o e (by simp)) u.tups u.frzs u.tbls (fun m' hm=>by
  obtain ⟨o',es',ep',ho',r'⟩:=hm
  rw [ho] at ho';cases ho'
  exact ⟨_,es',ep',hL,r'⟩) hok I.bare
theorem Inv.call {g':Array GenState} {t':Nat} {d':Drawn} {ch:List Addr} (I:Inv X pins σ H s) (u:Un (frs X.stack) ch H H' s.heap h') (hok:HOk X.prog X.w H' h') (hg:AllBare g')
  (hch:∀b∈ch,(b∈X.ex\/X.s₀.heap.objs.size<=b)/\b≠X.env.locals/\(∀x c,X.env.cells.lookup x=some c->c≠b)/\∀p∈X.pn++pins,p.1≠b) :
  Inv X pins σ H' { s with heap:=h',gens:=g',drawn:=d',toks:=t' }:=by
 obtain ⟨m,⟨o,es,ep,ho,r⟩,_⟩:=id I.loc
 obtain ⟨sl,hL⟩:=u.any ho I.free fun z=>(hch _ z).2.1 rfl
 exact I.step (ch:=ch) hch (fun b o hL hb hc e n=>u.keep b o e n (fun z=>(q_n.mp (I.stkSub b z)).elim hL hb) hc) (fun b o _ _ hc e n=>u.any e n hc) (fun b o hc e n=>u.free b o e n hc) (fun b o hc e=>u.there b o e hc) u.tups u.frzs u.tbls (fun m' hm=>by
  obtain ⟨o',es',ep',ho',r'⟩:=hm
  rw [ho] at ho';cases ho'
  exact ⟨_,es',ep',hL,r'⟩) hok hg
theorem Inv.turned {t':Nat} {it:Addr} (I:Inv X pins σ H s) (k:∀b o,b≠it->s.heap.get? b=some o->h'.get? b=some o) (hn:H it=none) (hL:it≠X.env.locals)
  (h1:it∈X.ex\/X.s₀.heap.objs.size<=it) (h2:∀x c,X.env.cells.lookup x=some c->c≠it) (h3:∀p∈X.pn++pins,p.1≠it):Inv X pins σ H { s with heap:=h',toks:=t' }:=by
 have nit:∀b u,H b=some u->b≠it:=fun b u e z=>by rw [z,hn] at e;cases e
 refine I.step (g':=s.gens) (d':=s.drawn) (ch:=[it]) (fun b hb=>?_) (fun b o _ _ hc e _=>k b o (fun z=>hc (by simp [z])) e) (fun b o _ _ hc e _=>⟨o.slots,k b o (fun z=>hc (by simp [z])) e⟩) (fun _ _ _ _ n=>n)
  (fun b o hc e=>⟨o,k b o (fun z=>hc (by simp [z])) e⟩) (fun _ _ e=>e) (fun _ _ _ e=>e) (fun b ps e=>⟨#[],by rw [e];simp⟩) (fun m hm=>?_) (fun b u e=>?_) I.bare
 ·have e:b=it:=by simpa using hb
  subst e
  exact ⟨h1,hL,h2,h3⟩
 ·obtain ⟨o,es,ep,ho,r⟩:=hm
  exact ⟨o,es,ep,k _ o (Ne.symm hL) ho,r⟩
 ·refine (I.hok b u e).stay (fun c v hc q=>k c v ?_ q) (fun _ q=>q) fun _ _ q=>q
  rcases hc with z | z
  · rw [z];exact nit b u e
  · exact nit c _ z
theorem Inv.tok (I:Inv X pins σ H s) (t:Nat):Inv X pins σ H { s with toks:=t }:=I.un (h':=s.heap) (t':=t) Un.refl I.hok
theorem Inv.kept {t':Nat} (I:Inv X pins σ H s) (k:∀b u,s.heap.get? b=some u->h'.get? b=some u):Inv X pins σ H { s with heap:=h',toks:=t' }:=I.un (Un.kept k) (I.hok.kept k)
theorem Inv.laid {a:Addr} {o:HO} {t':Nat} (I:Inv X pins σ H s) (k:∀b u,s.heap.get? b=some u->h'.get? b=some u) (hp:s.heap.objs.size<=a) (new:ObjOk X.prog X.w (upd H a o) h' a o) :
 Inv X pins σ (upd H a o) { s with heap:=h',toks:=t' }:=I.un (Un.laid k hp (I.hok.fresh hp)) (I.hok.laid k hp new)
theorem Inv.write {x e:Addr} {o:HO} {t':Nat} (I:Inv X pins σ H s) (mu:Mut (H x)) (he:e=x\/H e=some (.own x)) (k:∀b u,b≠e->s.heap.get? b=some u->h'.get? b=some u) (heo:∃u,h'.get? e=some u)
 (new:ObjOk X.prog X.w (upd H x o) h' x o):Inv X pins σ (upd H x o) { s with heap:=h',toks:=t' }:=I.un (Un.write mu he k heo) (I.hok.write mu he k heo new)
theorem Inv.weak {σ':List (Option V)} (I:Inv X pins σ H s) (hl:σ'.length=σ.length) (w:∀(i:Nat) v,σ'[i]? = some (some v)->σ[i]? = some (some v)):Inv X pins σ' H s :=
 ⟨I.ok,I.os,I.bare,I.base,let ⟨m,hn,hl'⟩:=I.loc;⟨m,hn,fun i x v e1 e2 e3=>hl' i x v e1 (w i v e2) e3⟩,I.cell,I.free,I.freeC,I.pin,I.hok,hl.trans I.len⟩
theorem Inv.pins_of {pins':List (Addr×Obj)} (I:Inv X pins σ H s) (h:∀p∈pins',s.heap.get? p.1=some p.2/\H p.1=none/\p.1≠X.env.locals/\p.1 ∉ X.fs/\∀v,p.2.data≠.cell v):Inv X pins' σ H s :=
 ⟨I.ok,I.os,I.bare,I.base,I.loc,I.cell,I.free,I.freeC,fun p hp=>(List.mem_append.mp hp).elim (fun z=>I.pin p (List.mem_append_left _ z)) (h p),I.hok,I.len⟩
theorem JDu {N:List Str} (hN:N.Nodup) {i j:Nat} {x:Str} (a:N[i]? = some x) (b:N[j]? = some x):i=j:=by
 obtain ⟨h1,e1⟩:=q_p.mp a
 obtain ⟨h2,e2⟩:=q_p.mp b
 exact (List.getElem_inj hN).mp (e1.trans e2.symm)
theorem JEI {M:Model} {A:Around} {E:Value->Shared->Prop} {i:Nat} {x:Str} {v:V} {u:Value} {Q:Unit->Shared->Prop} (I:Inv X pins σ H s) (hN:X.N.Nodup) (hi:X.N[i]? = some x) (hx:Loc X.env.scope x) (r:RelV v u)
  (h:∀s',Inv X pins (σ.set i (some v)) H s'->(∃a,Heap.SameBut a s.heap s'.heap/\(a=X.env.locals\/X.env.cells.lookup x=some a))->Q () s') (hf:X.fn x=true\/X.env.scope.names.lookup x=some .local:=by first | exact .inl rfl | exact .inr rfl | assumption):wpAny M A (storeName X.env x u) Q E s:=by
 obtain ⟨m,hn,hl⟩:=id I.loc
 have hcls:(X.env.scope.kind==.class || (X.env.scope.kind==.module&&X.env.locals != X.env.globals))=false:=by rw [I.ok.kind];rfl
 have hiσ:i<σ.length:=by rw [I.len];exact (q_p.mp hi).1
 have cne:=I.cne
 have tracked:∀ {a:Addr} {h':Heap},(∃o,s.heap.get? a=some o/\H a=none)->Heap.SameBut a s.heap h'->HOk X.prog X.w H h':=fun {a h'} ha hs b ob e=>by
  obtain ⟨_,_,hfree⟩:=ha
  refine (I.hok b ob e).stay (fun c w' hc q=>(hs.2 c ?_).trans q) (fun _ q=>q) fun _ _ q=>q
  rintro rfl
  rcases hc with rfl | hc
  · rw [hfree] at e;cases e
  · rw [hfree] at hc;cases hc
 rcases hx with hk | hk
 ·refine wpAny_storeName_local hk hn (fun h' hn' hs=>?_) hcls
  obtain ⟨oL,_,_,hoL,_⟩:=id hn
  refine h _ ⟨I.ok,I.os,I.bare,⟨fun b o e n hb hx=>?_,fun b o e n hb hx=>?_,I.base.free,fun b o e hx=>?_,I.base.tups,I.base.frzs,I.base.tbls⟩,⟨_,hn',fun j y v' e1 e2 e3=>?_⟩,fun y c e=>?_,I.free,I.freeC,fun p hp=>?_,tracked ⟨oL,hoL,I.free⟩ hs,by simpa using I.len⟩ ⟨_,hs,.inl rfl⟩
  · exact (hs.2 b (q_l (q_m (q_h e) I.ok.above))).trans (I.base.keep b o e n hb hx)
  · obtain ⟨sl,e1⟩:=I.base.slot b o e n hb hx
    exact ⟨sl,(hs.2 b (q_l (q_m (q_h e) I.ok.above))).trans e1⟩
  · obtain ⟨o',e1⟩:=I.base.there b o e hx
    exact ⟨o',(hs.2 b (q_l (q_m (q_h e) I.ok.above))).trans e1⟩
  · by_cases hj:j=i
    ·subst hj
     rw [hi] at e1;cases e1
     rw [q_y hiσ] at e2
     cases e2
     exact ⟨u,r,.inl ⟨hk,by simp⟩⟩
    ·rw [q_z (Ne.symm hj)] at e2
     obtain ⟨u',r',q⟩:=hl j y v' e1 e2 e3
     refine ⟨u',r',?_⟩
     rcases q with ⟨k,e⟩ | ⟨k,c,e,z⟩
     ·refine .inl ⟨k,?_⟩
      have:y≠x:=fun e=>hj (JDu hN e1 (e▸hi))
      simp [this,e]
     ·exact .inr ⟨k,c,e,z.sameBut hs (cne y c e)⟩
  · obtain ⟨w',z⟩:=I.cell y c e
    exact ⟨w',z.sameBut hs (cne y c e)⟩
  · obtain ⟨e,n,ne,nf,d⟩:=I.pin p hp
    exact ⟨(hs.2 p.1 ne).trans e,n,ne,nf,d⟩
 ·have hfn:X.fn x=true:=by
    rcases hf with z | z
    ·exact z
    ·rw [z] at hk;cases hk
  obtain ⟨c,hc⟩:=I.ok.has x (.inl hk)
  obtain ⟨w',z⟩:=I.cell x c hc
  refine wpAny_storeName_cell I.ok.kind hk hc z (fun h' hc' hs=>?_)
  obtain ⟨oc,hoc,hocd⟩:=id z
  refine h { s with heap:=h' } ⟨I.ok,I.os,I.bare,⟨fun b o e n hb hx=>?_,fun b o e n hb hx=>?_,I.base.free,fun b o e hx=>?_,I.base.tups,I.base.frzs,I.base.tbls⟩,⟨m,hn.sameBut hs (Ne.symm (cne x c hc)),fun j y v' e1 e2 e3=>?_⟩,fun y c' e=>?_,I.free,I.freeC,fun p hp=>?_,tracked ⟨oc,hoc,I.freeC x c hc⟩ hs,by simpa using I.len⟩ ⟨c,hs,.inr hc⟩
  · exact (hs.2 b (q_l (q_m (q_h e) (I.ok.cab x c hfn hc)))).trans (I.base.keep b o e n hb hx)
  · obtain ⟨sl,e1⟩:=I.base.slot b o e n hb hx
    exact ⟨sl,(hs.2 b (q_l (q_m (q_h e) (I.ok.cab x c hfn hc)))).trans e1⟩
  · obtain ⟨o',e1⟩:=I.base.there b o e hx
    exact ⟨o',(hs.2 b (q_l (q_m (q_h e) (I.ok.cab x c hfn hc)))).trans e1⟩
  · by_cases hj:j=i
    ·subst hj
     rw [hi] at e1;cases e1
     rw [q_y hiσ] at e2
     cases e2
     exact ⟨u,r,.inr ⟨.inl hk,c,hc,hc'⟩⟩
    ·rw [q_z (Ne.symm hj)] at e2
     obtain ⟨u',r',q⟩:=hl j y v' e1 e2 e3
     refine ⟨u',r',?_⟩
     rcases q with q | ⟨k,c',e,z'⟩
     ·exact .inl q
     ·refine .inr ⟨k,c',e,z'.sameBut hs ?_⟩
      rintro rfl
      exact hj (JDu hN e1 (I.ok.inj _ _ _ e hc▸hi))
  · by_cases hcc:c'=c
    ·subst hcc;exact ⟨_,hc'⟩
    ·obtain ⟨w2,z2⟩:=I.cell y c' e
     exact ⟨w2,z2.sameBut hs hcc⟩
  · obtain ⟨e,n,ne,nf,d⟩:=I.pin p hp
    refine ⟨(hs.2 p.1 ?_).trans e,n,ne,nf,d⟩
    intro q
    rw [q,hoc] at e
    have q':oc=p.2:=Option.some.inj e
    exact d w' (by rw [<-q'];exact hocd)
theorem JBC {M:Model} {A:Around} {E:Value->Shared->Prop} {i:Nat} {x:Str} {v:V} {u:Value} {Q:Unit->Shared->Prop} (I:Inv X pins σ H s) (hN:X.N.Nodup) (hi:X.N[i]? = some x) (hx:Loc X.env.scope x) (r:RelV v u)
  (h:∀s',Inv X pins (σ.set i (some v)) H s'->Q () s') (hf:X.fn x=true\/X.env.scope.names.lookup x=some .local:=by first | exact .inl rfl | exact .inr rfl | assumption):wpAny M A (storeName X.env x u) Q E s :=
 JEI I hN hi hx r (fun s' I' _=>h s' I') hf
theorem Inv.call' {s':Shared} {ch:List Addr} (I:Inv X pins σ H s) (ho:s'.os=s.os) (u:Un (frs X.stack) ch H H' s.heap s'.heap) (hok:HOk X.prog X.w H' s'.heap) (hg:AllBare s'.gens)
  (hch:∀b∈ch,(b∈X.ex\/X.s₀.heap.objs.size<=b)/\b≠X.env.locals/\(∀x c,X.env.cells.lookup x=some c->c≠b)/\∀p∈X.pn++pins,p.1≠b):Inv X pins σ H' s':=by
 obtain ⟨h',g',d',t',o'⟩:=s'
 have e:o'=s.os:=ho
 subst e
 exact I.call (g':=g') (t':=t') (d':=d') u hok hg hch
end
noncomputable abbrev XK:=Value->Option Addr->Hp->Prop
noncomputable abbrev St:=List (Option V)
noncomputable abbrev VK:=V->Hp->Prop
noncomputable abbrev TE:=St->Hp->VK->Prop
noncomputable abbrev TT:=St->Hp->(Bool->Hp->Prop)->Prop
noncomputable abbrev TA:=St->Hp->(List V->Hp->Prop)->Prop
structure Ends where
 nx:St->Hp->Prop
 rt:VK
 bk:St->Hp->Prop:=fun _ _=>False
 ct:St->Hp->Prop:=fun _ _=>False
noncomputable abbrev TS:=Ends->St->Hp->Prop
noncomputable def EP (X:Cx) (pins:List (Addr×Obj)) (σ:St) (Q:VK) (u:Value) (s':Shared):Prop:=∃v H',Inv X pins σ H' s'/\RelV v u/\Q v H'
noncomputable def TP (X:Cx) (pins:List (Addr×Obj)) (σ:St) (Q:Bool->Hp->Prop) (b:Bool) (s':Shared):Prop:=∃H',Inv X pins σ H' s'/\Q b H'
noncomputable def AP (X:Cx) (pins:List (Addr×Obj)) (σ:St) (Q:List V->Hp->Prop) (us:List Value) (s':Shared):Prop:=∃vs H',Inv X pins σ H' s'/\Vals vs us/\Q vs H'
noncomputable def SP (X:Cx) (pins:List (Addr×Obj)) (D:Ends) (f:Flow) (s':Shared):Prop :=
 match f with
 | .next=>∃σ' H',Inv X pins σ' H' s'/\D.nx σ' H'
 | .brk=>∃σ' H',Inv X pins σ' H' s'/\D.bk σ' H'
 | .cont=>∃σ' H',Inv X pins σ' H' s'/\D.ct σ' H'
 | .ret u=>∃v σ' H',Inv X pins σ' H' s'/\RelV v u/\D.rt v H'
noncomputable def PE (X:Cx) (e:Expr) (t:TE):Prop :=
 ∀(pins:List (Addr×Obj)) (s:Shared) (σ:St) (H:Hp) (Q:VK),Inv X pins σ H s->t σ H Q->wpAny (model X.prog X.w) X.A (eval e X.env) (EP X pins σ Q) X.xe s
noncomputable def PT (X:Cx) (e:Expr) (t:TT):Prop :=
 ∀(pins:List (Addr×Obj)) (s:Shared) (σ:St) (H:Hp) (Q:Bool->Hp->Prop),Inv X pins σ H s->t σ H Q->wpAny (model X.prog X.w) X.A (isTrue e X.env (eval e X.env)) (TP X pins σ Q) X.xe s
noncomputable def PW (X:Cx) (e:Expr) (t:TT):Prop :=
 ∀(whole:Sem Value) (pins:List (Addr×Obj)) (s:Shared) (σ:St) (H:Hp) (Q:Bool->Hp->Prop),Inv X pins σ H s->t σ H Q->wpAny (model X.prog X.w) X.A (isTrue e X.env whole) (TP X pins σ Q) X.xe s
theorem PW.pt {X:Cx} {e:Expr} {t:TT} (h:PW X e t):PT X e t:=h _
noncomputable def PA (X:Cx) (es:List Expr) (t:TA):Prop :=
 ∀(pos:Pos) (pins:List (Addr×Obj)) (s:Shared) (σ:St) (H:Hp) (Q:List V->Hp->Prop),Inv X pins σ H s->t σ H Q->wpAny (model X.prog X.w) X.A (spliced (backTo pos (starEach es X.env))) (AP X pins σ Q) X.xe s
noncomputable def PS (X:Cx) (st:Stmt) (t:TS):Prop :=
 ∀(pins:List (Addr×Obj)) (s:Shared) (σ:St) (H:Hp) (D:Ends),Inv X pins σ H s->t D σ H->wpAny (model X.prog X.w) X.A (exec st X.env) (SP X pins D) X.xe s
noncomputable def PSs (X:Cx) (st:List Stmt) (t:TS):Prop :=
 ∀(pins:List (Addr×Obj)) (s:Shared) (σ:St) (H:Hp) (D:Ends),Inv X pins σ H s->t D σ H->wpAny (model X.prog X.w) X.A (execs st X.env) (SP X pins D) X.xe s
theorem thn {α:Type} {t:Sem α} {Q Q':α->Shared->Prop} {M:Model} {A:Around} {E:Value->Shared->Prop} {s:Shared} (h:wpAny M A t Q E s) (hQ:∀a s,Q a s->Q' a s):wpAny M A t Q' E s:=wpAny_mono h hQ fun _ _ x=>x
end L2
namespace L2
open PySem PySem.Spec PyProof.Rows
section
variable {X:Cx}
theorem bin {a b:Expr} {ta tb:TE} (ha:PE X a ta) (hb:PE X b tb) {pins:List (Addr×Obj)} {s:Shared} {σ:St} {H:Hp} {R:V->V->Hp->Prop} (I:Inv X pins σ H s) (h:ta σ H fun x H1=>tb σ H1 fun y H2=>R x y H2)
  {α:Type} {Q:α->Shared->Prop} {f:Value->Value->Sem α}
  (hf:∀v u s2 x y H2,Inv X pins σ H2 s2->RelV x v->RelV y u->R x y H2->wpAny (model X.prog X.w) X.A (f v u) Q X.xe s2) :
  wpAny (model X.prog X.w) X.A (eval a X.env) (fun v s₁=>wpAny (model X.prog X.w) X.A (eval b X.env) (fun u s₂=>wpAny (model X.prog X.w) X.A (f v u) Q X.xe s₂) X.xe s₁) X.xe s:=by
 refine thn (ha pins s σ H _ I h) fun v s1 ⟨x,H1,I1,r1,q1⟩=>?_
 refine thn (hb pins s1 σ H1 _ I1 q1) fun u s2 ⟨y,H2,I2,r2,q2⟩=>?_
 exact hf v u s2 x y H2 I2 r1 r2 q2
noncomputable def tVar (i:Nat):TE:=fun σ H Q=>∃v,σ[i]? = some (some v)/\Q v H
noncomputable def tC (v:V):TE:=fun _ H Q=>Q v H
theorem JCw {i:Nat} {x:Str} {pos:Pos} (hN:X.N[i]? = some x) (hv:Vis X.env.scope x) (hd:(x==("__debug__":Str))=false:=by decide) (hcd:(x==("__classdict__":Str))=false:=by decide):PE X (.Name x pos) (tVar i):=by
 intro pins s σ H Q I h
 obtain ⟨v,e,h⟩:=h
 obtain ⟨m,hn,hl⟩:=I.loc
 obtain ⟨u,r,l⟩:=hl i x v hN e hv
 have fin:EP X pins σ Q u s:=⟨v,H,I,r,h⟩
 rcases l with ⟨hk,hm⟩ | ⟨hk,c,hc,hcell⟩
 ·exact wpAny_Name (wpAny_loadName_local I.ok.kind hk hn hm fin) hd
 ·rcases hk with hk | hk
  ·exact wpAny_Name (wpAny_loadName_cell I.ok.kind hk hc hcell fin) hd
  ·exact wpAny_Name (wpAny_loadName_free I.ok.kind hk hc hcell fin hcd) hd
theorem JE3 {i j pos}:PE X (.Constant (.int i) j pos) (tC (.int i)):=fun _ _ _ H _ I h=>wpAny_Constant_int ⟨.int i,H,I.tok _,⟨_,rfl⟩,h⟩
theorem JIM {b j pos}:PE X (.Constant (.bool b) j pos) (tC (.bl b)):=fun _ _ _ H _ I h=>Constant_bool ⟨.bl b,H,I,rfl,h⟩
theorem JOw {j pos}:PE X (.Constant .none j pos) (tC .non):=fun _ _ _ H _ I h=>Constant_none ⟨.non,H,I,rfl,h⟩
theorem JPd {x j pos}:PE X (.Constant (.str x) j pos) (tC (.str x)):=fun _ _ _ H _ I h=>Calls.Constant_str ⟨.str x,H,I.tok _,⟨_,rfl⟩,h⟩
noncomputable def Gl (X:Cx) (x:Str):Prop:=X.env.kindOf x=some .globalImplicit
theorem JD6 {E:Value->Shared->Prop} {pins:List (Addr×Obj)} {s:Shared} {σ:St} {H:Hp} {x:Str} {u:Value} {pos:Pos} {Q:Value->Shared->Prop} (I:Inv X pins σ H s) (hg:Gl X x) (hm:X.mg x=some u) (h:Q u s)
  (hd:(x==("__debug__":Str))=false:=by decide):wpAny (model X.prog X.w) X.A (eval (.Name x pos) X.env) Q E s :=
 Calls.Name_function_global I.ok.kind hg (Calls.loadGlobal_global (by rw [I.ok.glob];exact I.mod.glob.keeps I.bk) hm h) hd
theorem JDc {E:Value->Shared->Prop} {pins:List (Addr×Obj)} {s:Shared} {σ:St} {H:Hp} {x:Str} {u:Value} {pos:Pos} {Q:Value->Shared->Prop} (I:Inv X pins σ H s) (hg:Gl X x) (hm:X.mg x=none) (hv:bootBuiltins x=some u) (h:Q u s)
  (hn:x≠"__name__":=by decide) (hd:(x==("__debug__":Str))=false:=by decide):wpAny (model X.prog X.w) X.A (eval (.Name x pos) X.env) Q E s:=by
 obtain ⟨mb,h1,h2⟩:=I.mod.blt
 exact Calls.Name_function_global I.ok.kind hg (Calls.loadGlobal_builtin (by rw [I.ok.glob];exact I.mod.glob.keeps I.bk) hm (by rw [I.ok.blt];exact h1.keeps I.bk) ((h2 x hn).trans hv) h) hd
theorem JHD {x:Str} {v:V} {u:Value} {pos:Pos} (hg:Gl X x) (hm:X.mg x=some u) (r:RelV v u) (hd:(x==("__debug__":Str))=false:=by decide):PE X (.Name x pos) (tC v) :=
 fun _ _ _ H _ I h=>JD6 I hg hm ⟨v,H,I,r,h⟩ hd
theorem JMg {x:Str} {v:V} {u:Value} {pos:Pos} (hg:Gl X x) (hm:X.mg x=none) (hv:bootBuiltins x=some u) (r:RelV v u) (hn:x≠"__name__":=by decide) (hd:(x==("__debug__":Str))=false:=by decide):PE X (.Name x pos) (tC v) :=
 fun _ _ _ H _ I h=>JDc I hg hm hv ⟨v,H,I,r,h⟩ hn hd
variable {a b:Expr} {ta tb:TE} {pos:Pos}
noncomputable def PC (X:Cx) (op:CmpOp) (a b:Expr) (t:TE):Prop :=
 ∀(pins:List (Addr×Obj)) (s:Shared) (σ:St) (H:Hp) (Q:VK),Inv X pins σ H s->t σ H Q ->
  wpAny (model X.prog X.w) X.A (eval a X.env) (fun v s₁=>wpAny (model X.prog X.w) X.A (eval b X.env) (fun u s₂=>wpAny (model X.prog X.w) X.A (compareOp op v u) (EP X pins σ Q) X.xe s₂) X.xe s₁) X.xe s
theorem JGD (b:Expr) {op:CmpOp} (h:op≠.In) (h2:op≠.NotIn):behindInMarks op b=false:=by
 have e1:(op==CmpOp.In)=false:=by cases op<;>first | rfl | exact absurd rfl h
 have e2:(op==CmpOp.NotIn)=false:=by cases op<;>first | rfl | exact absurd rfl h2
 cases b<;>simp [behindInMarks,e1,e2]
noncomputable def tIsN (ta:TE):TE:=fun σ H Q=>ta σ H fun x H1=>Q (.bl (decide (x=.non))) H1
noncomputable def tNotN (ta:TE):TE:=fun σ H Q=>ta σ H fun x H1=>Q (.bl (!decide (x=.non))) H1
theorem RelV.none_iff {x:V} {v:Value} (r:RelV x v):(v==Value.none)=decide (x=.non):=by
 cases x with
 | non=>cases r;rfl
 | bl _=>cases r;rfl
 | int _=>obtain ⟨t,rfl⟩:=r;rfl
 | str _=>obtain ⟨t,rfl⟩:=r;rfl
 | byt _=>obtain ⟨t,rfl⟩:=r;rfl
 | flt _=>obtain ⟨t,rfl⟩:=r;rfl
 | ref _=>cases r;rfl
 | ty _=>cases r;rfl
theorem JLL {j pos'} (ha:PE X a ta):PC X .Is a (.Constant .none j pos') (tIsN ta):=by
 intro pins s σ H Q I h
 refine thn (ha pins s σ H _ I h) fun v s1 ⟨x,H1,I1,r1,q1⟩=>?_
 exact Constant_none (is_none_gen ⟨.bl _,H1,I1,by rw [r1.none_iff];rfl,q1⟩)
theorem JHO {j pos'} (ha:PE X a ta):PC X .IsNot a (.Constant .none j pos') (tNotN ta):=by
 intro pins s σ H Q I h
 refine thn (ha pins s σ H _ I h) fun v s1 ⟨x,H1,I1,r1,q1⟩=>?_
 exact Constant_none (isnot_none_gen ⟨.bl _,H1,I1,by rw [r1.none_iff];rfl,q1⟩)
noncomputable def tB (t:TE):TT:=fun σ H Q=>t σ H fun x H1=>∃c,x=.bl c/\Q c H1
theorem JK8 {op:CmpOp} {t:TE} (h:PC X op a b t) (h1:behindInMarks op b=false:=by first | exact JGD _ (by decide) (by decide) | rfl):PE X (.Compare a [op] [b] pos) t:=fun pins s σ H Q I hw=>wpAny_Compare1 (h pins s σ H Q I hw) h1
theorem JLM {op:CmpOp} {t:TE} (h:PC X op a b t) (h1:behindInMarks op b=false:=by first | exact JGD _ (by decide) (by decide) | rfl):PT X (.Compare a [op] [b] pos) (tB t):=by
 intro pins s σ H Q I hw
 refine wpAny_isTrue_Compare1 (thn (h pins s σ H _ I hw) fun v s1 h1=>thn h1 fun u s2 h2=>thn h2 fun c s3 ⟨x,H1,I1,r1,q1⟩=>?_) h1
 obtain ⟨d,rfl,q⟩:=q1
 cases r1
 exact wpAny_truthy_bool ⟨H1,I1,q⟩
variable {tA tB':TT} {rest:List Expr}
noncomputable def tAnd (t u:TT):TT:=fun σ H Q=>t σ H fun c H1=>if c=true then u σ H1 Q else Q false H1
noncomputable def tOr (t u:TT):TT:=fun σ H Q=>t σ H fun c H1=>if c=true then Q true H1 else u σ H1 Q
noncomputable def tNot (t:TT):TT:=fun σ H Q=>t σ H fun c H1=>Q (!c) H1
theorem JNd (ha:PT X a tA):PW X (.BoolOp .And [a] pos) tA:=by
 intro wh pins s σ H Q I h
 refine isTrue_and (thn (ha pins s σ H Q I h) fun c s1 e=>?_)
 cases c with
 | true=>exact isTrue_and_nil e
 | false=>exact e
theorem JOs (ha:PT X a tA):PW X (.BoolOp .Or [a] pos) tA:=by
 intro wh pins s σ H Q I h
 refine isTrue_or (thn (ha pins s σ H Q I h) fun c s1 e=>?_)
 cases c with
 | false=>exact isTrue_or_nil e
 | true=>exact e
theorem JPN (ha:PT X a tA) (hb:PW X (.BoolOp .And (b::rest) pos) tB'):PW X (.BoolOp .And (a::b::rest) pos) (tAnd tA tB'):=by
 intro wh pins s σ H Q I h
 refine isTrue_and (thn (ha pins s σ H _ I h) fun c s1 ⟨H1,I1,q1⟩=>?_)
 cases c with
 | true=>exact hb wh pins s1 σ H1 Q I1 q1
 | false=>exact ⟨H1,I1,q1⟩
theorem pw_or (ha:PT X a tA) (hb:PW X (.BoolOp .Or (b::rest) pos) tB'):PW X (.BoolOp .Or (a::b::rest) pos) (tOr tA tB'):=by
 intro wh pins s σ H Q I h
 refine isTrue_or (thn (ha pins s σ H _ I h) fun c s1 ⟨H1,I1,q1⟩=>?_)
 cases c with
 | true=>exact ⟨H1,I1,q1⟩
 | false=>exact hb wh pins s1 σ H1 Q I1 q1
theorem JPe (ha:PT X a tA):PT X (.UnaryOp .Not a pos) (tNot tA):=by
 intro pins s σ H Q I h
 exact isTrue_not (ha pins s σ H (fun c H1=>Q (!c) H1) I h)
noncomputable def tAndV (ta tb:TE):TE:=fun σ H Q=>ta σ H fun x H1=>∃c,x=.bl c/\if c=true then tb σ H1 Q else Q (.bl false) H1
noncomputable def tOrV (ta tb:TE):TE:=fun σ H Q=>ta σ H fun x H1=>∃c,x=.bl c/\if c=true then Q (.bl true) H1 else tb σ H1 Q
theorem JLg {op} {t:TE} (h:PE X a t):PE X (.BoolOp op [a] pos) t:=fun pins s σ H Q I hw=>BoolOp_one (h pins s σ H Q I hw)
theorem JPv (ha:PE X a ta) (hb:PE X (.BoolOp .And (b::rest) pos) tb):PE X (.BoolOp .And (a::b::rest) pos) (tAndV ta tb):=by
 intro pins s σ H Q I h
 refine BoolOp_and (thn (ha pins s σ H _ I h) fun v s1 ⟨x,H1,I1,r1,q1⟩=>?_)
 obtain ⟨c,rfl,q1⟩:=q1
 cases r1
 refine wpAny_truthy_bool ?_
 cases c with
 | true=>exact hb pins s1 σ H1 Q I1 q1
 | false=>exact ⟨.bl false,H1,I1,rfl,q1⟩
theorem pe_or (ha:PE X a ta) (hb:PE X (.BoolOp .Or (b::rest) pos) tb):PE X (.BoolOp .Or (a::b::rest) pos) (tOrV ta tb):=by
 intro pins s σ H Q I h
 refine BoolOp_or (thn (ha pins s σ H _ I h) fun v s1 ⟨x,H1,I1,r1,q1⟩=>?_)
 obtain ⟨c,rfl,q1⟩:=q1
 cases r1
 refine wpAny_truthy_bool ?_
 cases c with
 | false=>exact hb pins s1 σ H1 Q I1 q1
 | true=>exact ⟨.bl true,H1,I1,rfl,q1⟩
noncomputable def tIf (t:TT) (ta tb:TE):TE:=fun σ H Q=>t σ H fun c H1=>if c=true then ta σ H1 Q else tb σ H1 Q
theorem JJw {c:Expr} (hc:PT X c tA) (ha:PE X a ta) (hb:PE X b tb):PE X (.IfExp c a b pos) (tIf tA ta tb):=by
 intro pins s σ H Q I h
 refine wpAny_IfExp (thn (hc pins s σ H _ I h) fun d s1 ⟨H1,I1,q1⟩=>?_)
 cases d with
 | true=>exact ha pins s1 σ H1 Q I1 q1
 | false=>exact hb pins s1 σ H1 Q I1 q1
end
end L2
namespace L2
open PySem PySem.Spec PyProof.Rows
noncomputable def SqL (K:PySem.W.Frag) (H:Hp) (a:Addr) (xs:List V):Prop :=
 Rd H a (.lst xs) \/
  ∃(o:Obj) (its:Array Value) (n:Nat),K.lookup a=some o/\o.cls=.type "list"/\o.dict=none/\o.data=.seq its n/\its.size<=sizeLine/\Vals xs its.toList
noncomputable def SqT (K:PySem.W.Frag) (H:Hp) (a:Addr) (xs:List V):Prop :=
 Rd H a (.tup xs) \/
  ∃(o:Obj) (its:Array Value) (n:Nat),K.lookup a=some o/\o.cls=.type "tuple"/\o.data=.seq its n/\its.size<=sizeLine/\Vals xs its.toList
noncomputable def absV:Value->Option V
 | .none=>some .non
 | .bool b=>some (.bl b)
 | .int i _=>some (.int i)
 | .str x _=>some (.str x)
 | .bytes b _=>some (.byt b)
 | .float b _=>some (.flt b)
 | .ref a=>some (.ref a)
 | .type n=>some (.ty n)
 | _=>none
theorem RelV.abs {x:V} {u:Value} (r:RelV x u):absV u=some x:=by
 cases x with
 | non=>cases r;rfl
 | bl _=>cases r;rfl
 | int _=>obtain ⟨t,rfl⟩:=r;rfl
 | str _=>obtain ⟨t,rfl⟩:=r;rfl
 | byt _=>obtain ⟨t,rfl⟩:=r;rfl
 | flt _=>obtain ⟨t,rfl⟩:=r;rfl
 | ref _=>cases r;rfl
 | ty _=>cases r;rfl
theorem RelV.inj {x y:V} {u:Value} (r:RelV x u) (q:RelV y u):x=y:=Option.some.inj (r.abs.symm.trans q.abs)
theorem Vals.inj:∀ {xs ys:List V} {us:List Value},Vals xs us->Vals ys us->xs=ys
 | _,_,_,.nil,.nil=>rfl
 | _,_,_,.cons r t,.cons r' t'=>by rw [r.inj r',Vals.inj t t']
section
variable {X:Cx} {pins:List (Addr×Obj)} {σ:St} {H:Hp} {s:Shared} {a:Addr} {xs ys:List V}
theorem SqL.of {K:PySem.W.Frag} (h:H a=some (.lst xs)):SqL K H a xs:=.inl (.inl h)
theorem SqT.of {K:PySem.W.Frag} (h:H a=some (.tup xs)):SqT K H a xs:=.inl (.inl h)
theorem Inv.list (I:Inv X pins σ H s) (h:SqL X.K H a xs):∃its:List Value,Vals xs its/\PlainL s.heap a its.toArray/\xs.length<=sizeLine:=by
 rcases h with h | ⟨o,its,n,hk,hc,hd,hs,hz,r⟩
 ·obtain ⟨z,its,n,r,e⟩:=h.ok I.hok
  exact ⟨its,r,⟨_,n,e,rfl,rfl,rfl⟩,z⟩
 ·refine ⟨its.toList,r,⟨o,n,I.kIn a o hk,hc,hd,by simpa using hs⟩,?_⟩
  have e:=r.length
  simp only [q_E] at e
  omega
theorem Inv.tuple (I:Inv X pins σ H s) (h:SqT X.K H a xs):∃its:List Value,Vals xs its/\IsTup s.heap a its.toArray/\xs.length<=sizeLine:=by
 rcases h with h | ⟨o,its,n,hk,hc,hs,hz,r⟩
 ·obtain ⟨z,its,r,p⟩:=h.ok I.hok
  exact ⟨its,r,p,z⟩
 ·refine ⟨its.toList,r,⟨o,I.kIn a o hk,hc,n,by simpa using hs⟩,?_⟩
  have e:=r.length
  simp only [q_E] at e
  omega
theorem Inv.list_inj (I:Inv X pins σ H s) (h:SqL X.K H a xs) (h':SqL X.K H a ys):xs=ys:=by
 obtain ⟨its,r,⟨o,n,e,_,_,d⟩,_⟩:=I.list h
 obtain ⟨its',r',⟨o',n',e',_,_,d'⟩,_⟩:=I.list h'
 rw [e] at e';cases e'
 rw [d] at d'
 injection d' with d1 _
 have:its=its':=by simpa using congrArg Array.toList d1
 subst this
 exact r.inj r'
theorem Inv.tuple_inj (I:Inv X pins σ H s) (h:SqT X.K H a xs) (h':SqT X.K H a ys):xs=ys:=by
 obtain ⟨its,r,⟨o,e,_,n,d⟩,_⟩:=I.tuple h
 obtain ⟨its',r',⟨o',e',_,n',d'⟩,_⟩:=I.tuple h'
 rw [e] at e';cases e'
 rw [d] at d'
 injection d' with d1 _
 have:its=its':=by simpa using congrArg Array.toList d1
 subst this
 exact r.inj r'
end
noncomputable abbrev Cx.wish (X:Cx) (E:Value->Shared->Prop):Cx:={ X with xe:=E }
noncomputable abbrev Cx.nox (X:Cx):Cx:=X.wish fun _ _=>False
theorem Cx.Ok.wish {X:Cx} (ok:X.Ok) (E:Value->Shared->Prop):(X.wish E).Ok :=
 ⟨ok.mod,ok.kind,ok.glob,ok.blt,ok.above,ok.inj,ok.has,ok.cab,ok.hd,ok.frames,ok.stk,ok.exf,ok.bs,ok.bsz,ok.noex,ok.exfs,ok.funs,ok.frf⟩
theorem Cx.Ok.unwish {X:Cx} {E:Value->Shared->Prop} (ok:(X.wish E).Ok):X.Ok :=
 ⟨ok.mod,ok.kind,ok.glob,ok.blt,ok.above,ok.inj,ok.has,ok.cab,ok.hd,ok.frames,ok.stk,ok.exf,ok.bs,ok.bsz,ok.noex,ok.exfs,ok.funs,ok.frf⟩
section
variable {X:Cx} {pins:List (Addr×Obj)} {σ:St} {H:Hp} {s:Shared} {E:Value->Shared->Prop}
theorem Inv.wish (I:Inv X pins σ H s) (E:Value->Shared->Prop):Inv (X.wish E) pins σ H s:=⟨I.ok.wish E,I.os,I.bare,I.base,I.loc,I.cell,I.free,I.freeC,I.pin,I.hok,I.len⟩
theorem Inv.unwish (I:Inv (X.wish E) pins σ H s):Inv X pins σ H s:=⟨I.ok.unwish,I.os,I.bare,I.base,I.loc,I.cell,I.free,I.freeC,I.pin,I.hok,I.len⟩
theorem SP.unwish {D:Ends} {f:Flow} {s':Shared} (h:SP (X.wish E) pins D f s'):SP X pins D f s':=by
 cases f with
 | next=>obtain ⟨σ',H',I,q⟩:=h;exact ⟨σ',H',I.unwish,q⟩
 | brk=>obtain ⟨σ',H',I,q⟩:=h;exact ⟨σ',H',I.unwish,q⟩
 | cont=>obtain ⟨σ',H',I,q⟩:=h;exact ⟨σ',H',I.unwish,q⟩
 | ret u=>obtain ⟨v,σ',H',I,r,q⟩:=h;exact ⟨v,σ',H',I.unwish,r,q⟩
theorem PE.nox {e:Expr} {t:TE} (h:PE X.nox e t):PE X e t:=fun pins s σ H Q I hw =>
 wpAny_mono (h pins s σ H Q (I.wish _) hw) (fun _ _ ⟨v,H',I',r,q⟩=>⟨v,H',I'.unwish,r,q⟩) fun _ _ z=>False.elim z
theorem PT.nox {e:Expr} {t:TT} (h:PT X.nox e t):PT X e t:=fun pins s σ H Q I hw =>
 wpAny_mono (h pins s σ H Q (I.wish _) hw) (fun _ _ ⟨H',I',q⟩=>⟨H',I'.unwish,q⟩) fun _ _ z=>False.elim z
theorem PSs.nox {st:List Stmt} {t:TS} (h:PSs X.nox st t):PSs X st t:=fun pins s σ H D I hw =>
 wpAny_mono (h pins s σ H D (I.wish _) hw) (fun _ _ q=>q.unwish) fun _ _ z=>False.elim z
end
section
variable {X:Cx} {st:Stmt} {rest:List Stmt} {t u:TS} {e:Expr} {te:TE} {pos:Pos}
noncomputable def JMT:TS:=fun D σ H=>D.nx σ H
noncomputable def tSeq (t u:TS):TS:=fun D σ H=>t { D with nx:=u D } σ H
theorem JMX:PSs X [] JMT:=fun _ _ σ H _ I h=>wpAny_execs_nil ⟨σ,H,I,h⟩
theorem JKa (h1:PS X st t) (h2:PSs X rest u):PSs X (st::rest) (tSeq t u):=by
 intro pins s σ H D I h
 refine wpAny_execs_cons (thn (h1 pins s σ H { D with nx:=u D } I h) fun f s1 q=>?_)
 cases f with
 | next =>
  obtain ⟨σ',H',I',q⟩:=q
  exact h2 pins s1 σ' H' D I' q
 | ret v=>exact q
 | brk=>exact q
 | cont=>exact q
theorem JMa (h1:PS X st t):PSs X [st] t:=by
 intro pins s σ H D I h
 refine wpAny_execs_cons (thn (h1 pins s σ H D I h) fun f s1 q=>?_)
 cases f with
 | next=>exact wpAny_execs_nil q
 | ret v=>exact q
 | brk=>exact q
 | cont=>exact q
noncomputable def JQi:TS:=fun D σ H=>D.bk σ H
noncomputable def tCont:TS:=fun D σ H=>D.ct σ H
theorem JNX:PS X (.Pass pos) JMT:=fun _ _ σ H _ I h=>wpAny_Pass ⟨σ,H,I,h⟩
theorem JJz:PS X (.Break pos) JQi:=fun _ _ σ H _ I h=>wpAny_Break ⟨σ,H,I,h⟩
theorem JFM:PS X (.Continue pos) tCont:=fun _ _ σ H _ I h=>wpAny_Continue ⟨σ,H,I,h⟩
theorem Inv.quiet {pins:List (Addr×Obj)} {σ:St} {H:Hp} {s:Shared} (I:Inv X pins σ H s):interactive X.env=false:=by simp [interactive,I.ok.kind]
theorem JQj {x j pos pos'}:PS X (.Expr (.Constant (.str x) j pos) pos') JMT:=fun _ s σ H _ I h=>wpAny_Expr (Calls.Constant_str (show SP X _ _ .next { s with toks:=s.toks+1 } from ⟨σ,H,I.tok _,h⟩)) I.quiet
noncomputable def tDrop (te:TE):TS:=fun D σ H=>te σ H fun _ H1=>D.nx σ H1
theorem JC3 (he:PE X e te) (hs:swapsWith e none pos.line X.env=pure false:=by rfl):PS X (.Expr e pos) (tDrop te):=by
 intro pins s σ H D I h
 exact wpAny_Expr_any (thn (he pins s σ H _ I h) fun v s1 ⟨x,H1,I1,r1,q1⟩=>⟨σ,H1,I1,q1⟩) I.quiet hs
noncomputable def tRet (te:TE):TS:=fun D σ H=>te σ H D.rt
theorem JPE (he:PE X e te):PS X (.Return (some e) pos) (tRet te):=by
 intro pins s σ H D I h
 exact wpAny_Return_some (thn (he pins s σ H _ I h) fun v s1 ⟨x,H1,I1,r1,q1⟩=>⟨x,σ,H1,I1,r1,q1⟩)
noncomputable def tRetN:TS:=fun D _ H=>D.rt .non H
theorem JMV:PS X (.Return none pos) tRetN:=fun _ _ σ H _ I h=>wpAny_Return_none ⟨.non,σ,H,I,rfl,h⟩
noncomputable def tIfS (c:TT) (t u:TS):TS:=fun D σ H=>c σ H fun b H1=>if b=true then t D σ H1 else u D σ H1
theorem ps_if {c:Expr} {a b:List Stmt} {tc:TT} (hc:PT X c tc) (ha:PSs X a t) (hb:PSs X b u):PS X (.If c a b pos) (tIfS tc t u):=by
 intro pins s σ H D I h
 refine wpAny_If (thn (hc pins s σ H _ I h) fun d s1 ⟨H1,I1,q1⟩=>?_)
 cases d with
 | true=>exact ha pins s1 σ H1 D I1 q1
 | false=>exact hb pins s1 σ H1 D I1 q1
end
noncomputable abbrev TG:=V->St->Hp->(St->Hp->Prop)->Prop
noncomputable abbrev TGs:=List V->St->Hp->(St->Hp->Prop)->Prop
noncomputable def PG (X:Cx) (target:Expr) (t:TG):Prop :=
 ∀(pins:List (Addr×Obj)) (s:Shared) (σ:St) (H:Hp) (v:V) (u:Value) (Q:St->Hp->Prop),Inv X pins σ H s->RelV v u->t v σ H Q ->
  wpAny (model X.prog X.w) X.A (assign target X.env u) (fun _ s'=>∃σ' H',Inv X pins σ' H' s'/\Q σ' H') X.xe s
noncomputable def PGs (X:Cx) (ts:List Expr) (t:TGs):Prop :=
 ∀(pins:List (Addr×Obj)) (s:Shared) (σ:St) (H:Hp) (vs:List V) (us:List Value) (Q:St->Hp->Prop),Inv X pins σ H s->Vals vs us->t vs σ H Q ->
  wpAny (model X.prog X.w) X.A (assignInOrder ((assignEach ts X.env).map (·.2)) us) (fun _ s'=>∃σ' H',Inv X pins σ' H' s'/\Q σ' H') X.xe s
noncomputable abbrev TSet:=V->V->V->Hp->(Hp->Prop)->Prop
section
variable {X:Cx} {pos:Pos}
noncomputable def JEa (i:Nat):TG:=fun v σ H Q=>Q (σ.set i (some v)) H
theorem JDk {i:Nat} {x:Str} (hN:X.N.Nodup) (hi:X.N[i]? = some x) (hx:Loc X.env.scope x) (hf:X.fn x=true\/X.env.scope.names.lookup x=some .local:=by first | exact .inl rfl | exact .inr rfl | assumption):PG X (.Name x pos) (JEa i):=by
 intro pins s σ H v u Q I r h
 exact wpAny_assign_Name (JBC I hN hi hx r (fun s' I'=>⟨_,H,I',h⟩) hf)
noncomputable def gNil:TGs:=fun vs σ H Q=>vs=[]/\Q σ H
noncomputable def gCons (t:TG) (u:TGs):TGs:=fun vs σ H Q=>∃v r,vs=v::r/\t v σ H fun σ' H'=>u r σ' H' Q
theorem JH0:PGs X [] gNil:=by
 intro pins s σ H vs us Q I r h
 obtain ⟨e,h⟩:=h
 subst e
 cases r
 exact assignInOrder_nil ⟨σ,H,I,h⟩
theorem JFy {e:Expr} {es:List Expr} {t:TG} {u:TGs} (h1:PG X e t) (h2:PGs X es u)
  (hs:(assignEach (e::es) X.env).map (·.2)=assign e X.env::(assignEach es X.env).map (·.2):=by rfl):PGs X (e::es) (gCons t u):=by
 intro pins s σ H vs us Q I r h
 obtain ⟨v,vr,e1,h⟩:=h
 subst e1
 cases r with
 | cons r rr =>
  rw [hs]
  refine assignInOrder_cons (thn (h1 pins s σ H _ _ _ I r h) fun _ s1 ⟨σ1,H1,I1,q1⟩=>?_)
  exact h2 pins s1 σ1 H1 _ _ Q I1 rr q1
noncomputable def gTup (K:PySem.W.Frag) (n:Nat) (t:TGs):TG:=fun v σ H Q=>∃a xs,v=.ref a/\SqT K H a xs/\xs.length=n/\t xs σ H Q
theorem JHK {es:List Expr} {k:Nat} {t:TGs} {n:Nat} (hc:X.calm=true) (h:PGs X es t)
  (hn:(assignEach es X.env).length=n:=by rfl) (hst:(assignEach es X.env).findIdx? (·.1)=none:=by rfl):PG X (.Tuple es k pos) (gTup X.K n t):=by
 intro pins s σ H v u Q I r hw
 obtain ⟨a,xs,e1,hq,hl,hw⟩:=hw
 subst e1
 cases r
 obtain ⟨its,rv,ht,hz⟩:=I.tuple hq
 refine assign_Tuple_tuple (I.ok.hd hc) ht (by simp [hn,<-hl,rv.length]) hst fun h' hx=>?_
 have I1:Inv X pins σ H { s with heap:=h' }:=I.kept (t':=s.toks) fun b o e=>hx b o (q_l (q_h e)) e
 exact h pins _ σ H xs _ Q I1 (by simpa using rv) hw
noncomputable def tAsg (te:TE) (g:TG):TS:=fun D σ H=>te σ H fun x H1=>g x σ H1 D.nx
theorem JKt {tg e:Expr} {te:TE} {g:TG} (he:PE X e te) (hg:PG X tg g) (hs:swapsWithSole [tg] e pos.line X.env=pure false:=by rfl) (hw:swappedStores [tg] e X.env=pure none:=by rfl)
  (h1:(assignEach [tg] X.env).map (·.2)=[assign tg X.env]:=by rfl):PS X (.Assign [tg] e pos) (tAsg te g):=by
 intro pins s σ H D I h
 refine wpAny_Assign_stores (thn (he pins s σ H _ I h) fun v s1 ⟨x,H1,I1,r1,q1⟩=>?_) hs hw
 rw [h1]
 exact thn (hg pins s1 σ H1 x v _ I1 r1 q1) fun _ s2 q=>q
theorem JHx {i:Nat} {x:Str} {e:Expr} {te:TE} {pos':Pos} (hN:X.N.Nodup) (hi:X.N[i]? = some x) (hx:Loc X.env.scope x) (he:PE X e te) (hs:swapsWith e (some (.Name x pos')) pos.line X.env=pure false:=by rfl) (hf:X.fn x=true\/X.env.scope.names.lookup x=some .local:=by first | exact .inl rfl | exact .inr rfl | assumption) :
  PS X (.Assign [.Name x pos'] e pos) (tAsg te (JEa i)):=by
 intro pins s σ H D I h
 refine wpAny_Assign_Name (thn (he pins s σ H _ I h) fun v s1 ⟨y,H1,I1,r1,q1⟩=>?_) hs
 exact JBC I1 hN hi hx r1 (fun s2 I2=>⟨_,H1,I2,q1⟩) hf
noncomputable def tPar (i j:Nat) (ta:TA):TS:=fun D σ H=>ta σ H fun vs H1=>∃v w,vs=[v,w]/\D.nx ((σ.set i (some v)).set j (some w)) H1
theorem JO1 {i j:Nat} {x y:Str} {a b:Expr} {ta:TA} {px py pt:Pos} {kt k2 pt2} (hc:X.calm=true) (hN:X.N.Nodup) (hi:X.N[i]? = some x) (hj:X.N[j]? = some y) (hij:i≠j)
  (hx:X.env.scope.names.lookup x=some .local) (hy:X.env.scope.names.lookup y=some .local) (ha:PA X [a,b] ta)
  (hw:swappedStores [.Tuple [.Name x px,.Name y py] kt pt] (.Tuple [a,b] k2 pt2) X.env=pure (some [x,y]))
  (hs:swapsWithSole [.Tuple [.Name x px,.Name y py] kt pt] (.Tuple [a,b] k2 pt2) pos.line X.env=pure false:=by rfl) :
  PS X (.Assign [.Tuple [.Name x px,.Name y py] kt pt] (.Tuple [a,b] k2 pt2) pos) (tPar i j ta):=by
 intro pins s σ H D I h
 rw [exec_Assign_arm]
 refine q_b (wpAny_standAt ?_)
 rw [hs]
 refine q_b (q_e ?_)
 rw [if_neg (by decide)]
 refine q_b (Tuple_ (thn (ha _ pins s σ H _ I h) fun us s1 ⟨vs,H1,I1,r1,q1⟩=>?_))
 obtain ⟨v,w,e1,q1⟩:=q1
 subst e1
 obtain ⟨u1,u2,rfl,rv,rw'⟩:∃u1 u2,us=[u1,u2]/\RelV v u1/\RelV w u2:=by
  cases r1 with
  | cons p q =>
    cases q with
    | cons p' q' =>
     cases q'
     exact ⟨_,_,rfl,p,p'⟩
 refine wpAny_newObj_type ?_ (by show 2<=sizeLine;decide)
 have I2:Inv X pins σ H1 { s1 with heap:=s1.heap.push { cls:=.type "tuple",data:=.seq [u1,u2].toArray } }:=I1.kept (t':=s1.toks) fun b o e=>q_c _ e
 rw [hw]
 refine q_b (q_e ?_)
 show wpAny (model X.prog X.w) X.A (do rule "assign.swapped-stores";let items<-unpackItems (.ref s1.heap.objs.size) 2 none;assignInOrder [fun v=>bindName X.env y v,fun v=>bindName X.env x v] items.reverse;pure Flow.next) _ _ _
 refine q_b (wpAny_rule (q_b (unpackItems_tuple (items:=#[u1,u2]) (I.ok.hd hc) (IsTup.new s1.heap _) fun h' hx'=>?_)))
 have I3:=I2.kept (h':=h') (t':=s1.toks) fun b o e=>hx' b o (q_l (q_h e)) e
 show wpAny _ _ (assignInOrder [fun v=>bindName X.env y v,fun v=>bindName X.env x v] [u2,u1] >>= fun _=>pure Flow.next) _ _ _
 refine q_b (assignInOrder_cons (wpAny_bindName (JBC I3 hN hj (.inl hy) rw' (fun s2 I4=>?_) (.inr hy))))
 refine assignInOrder_cons (wpAny_bindName (JBC I4 hN hi (.inl hx) rv (fun s3 I5=>assignInOrder_nil (q_e ?_)) (.inr hx)))
 rw [List.set_comm _ _ (Ne.symm hij)] at I5
 exact ⟨_,H1,I5,q1⟩
end
section
variable {X:Cx} {pos:Pos}
noncomputable def JPc (c:TT) (tb:TS):TS:=fun D σ H=>∃W:Nat->St->Hp->Prop,(∃m,W m σ H)/\∀m σ H,W m σ H ->
 c σ H fun b H1=>if b=true then ∃N:St->Hp->Prop,(∀σ' H',N σ' H'->∃m',m'<m/\W m' σ' H')/\tb { D with nx:=N,ct:=N,bk:=D.nx } σ H1 else D.nx σ H1
theorem JJZ {c:Expr} {body:List Stmt} {tc:TT} {tb:TS} (hp:PassesOwn (model X.prog X.w) X.A X.env X.xe) (hc:PT X c tc) (hb:PSs X body tb):PS X (.While c body [] pos) (JPc tc tb):=by
 intro pins s σ H D I h
 obtain ⟨W,⟨m0,w0⟩,turn⟩:=h
 refine wpAny_While (codeAny_whileLoop (fun n s'=>∃σ' H',Inv X pins σ' H' s'/\W n σ' H') ?_ m0 ⟨σ,H,I,w0⟩)
 rintro n s1 ⟨σ1,H1,I1,w1⟩
 refine wpAny_passesOwn hp (thn (hc pins s1 σ1 H1 _ I1 (turn n σ1 H1 w1)) fun b s2 ⟨H2,I2,q2⟩=>?_)
 cases b with
 | true =>
  obtain ⟨N,hN,q2⟩:=q2
  rw [if_pos rfl]
  refine wpAny_passesOwn hp (thn (hb pins s2 σ1 H2 _ I2 q2) fun f s3 q3=>?_)
  cases f with
  | next =>
   obtain ⟨σ3,H3,I3,n3⟩:=q3
   obtain ⟨m',hm,w3⟩:=hN σ3 H3 n3
   exact ⟨m',hm,σ3,H3,I3,w3⟩
  | cont =>
   obtain ⟨σ3,H3,I3,n3⟩:=q3
   obtain ⟨m',hm,w3⟩:=hN σ3 H3 n3
   exact ⟨m',hm,σ3,H3,I3,w3⟩
  | brk=>exact q3
  | ret v=>exact q3
 | false =>
  rw [if_neg Bool.false_ne_true]
  exact wpAny_execs_nil ⟨σ1,H2,I2,q2⟩
end
structure It where
 go:Nat->Hp->Prop
 yld:Nat->Hp->V->Hp->Prop
 stop:Nat->Hp->Prop
noncomputable def FpOk (X:Cx) (pins:List (Addr×Obj)) (H:Hp) (b:Addr):Prop :=
 H b=none/\b≠X.env.locals/\b ∉ X.fs/\(b∈X.ex\/X.s₀.heap.objs.size<=b)/\(∀x c,X.env.cells.lookup x=some c->c≠b)/\∀p∈X.pn++pins,p.1≠b
theorem Inv.fpOk {X:Cx} {pins:List (Addr×Obj)} {σ:St} {H H':Hp} {s:Shared} {b:Addr} (I:Inv X pins σ H s) (hb:s.heap.objs.size<=b) (hn:H' b=none):FpOk X pins H' b:=by
 refine ⟨hn,Nat.ne_of_gt (q_m I.lt hb),I.nofs hb,.inr (Nat.le_trans I.sz hb),fun x c e z=>?_,fun p hp z=>?_⟩
 ·obtain ⟨v,q⟩:=I.cell x c e
  exact absurd (q_m q.lt (by rw [z];exact hb)) (Nat.lt_irrefl _)
 ·exact absurd (q_m (q_h (I.pin p hp).1) (by rw [z];exact hb)) (Nat.lt_irrefl _)
structure Turn (P:Program) (w:World) (K:PySem.W.Frag) (tg:Expr) (J:It) (fp:List Addr) (it:Addr) (tn:Nat->Heap->Prop):Prop where
 mem:it∈fp
 obj:∀i h,tn i h->∀b∈fp,∃o,h.get? b=some o/\∀v,o.data≠.cell v
 keep:∀i h h',tn i h->(∀b∈fp,∀o,h.get? b=some o->h'.get? b=some o)->tn i h'
 item:∀(X:Cx),X.prog=P->X.w=w->X.K=K->X.calm=true->∀(i:Nat) (pins:List (Addr×Obj)) (s:Shared) (σ:St) (H:Hp) (E:Value->Shared->Prop),Inv X pins σ H s->(∀b∈fp,FpOk X pins H b)->tn i s.heap->J.go i H ->
  wpAny (model P w) X.A (pyNext (.ref it)) (fun r s1=>∃u,r=some u /\
   wpAny (model P w) X.A (letOwnedTupleGo tg (.ref it) u) (fun _ s2=>∃x H',Inv X pins σ H' s2/\RelV x u/\J.yld i H x H'/\tn (i+1) s2.heap/\∀b∈fp,H' b=none) E s1) E s
 done:∀(X:Cx),X.prog=P->X.w=w->X.K=K->X.calm=true->∀(i:Nat) (pins:List (Addr×Obj)) (s:Shared) (σ:St) (H:Hp) (E:Value->Shared->Prop),Inv X pins σ H s->(∀b∈fp,FpOk X pins H b)->tn i s.heap->J.stop i H ->
  wpAny (model P w) X.A (pyNext (.ref it)) (fun r s1=>r=none/\Inv X pins σ H s1) E s
 self:∀(A:Around) (i:Nat) (s:Shared) (Q:Value->Shared->Prop) (E:Value->Shared->Prop),tn i s.heap->Q (.ref it) s->wpAny (model P w) A (pyIter (.ref it)) Q E s
noncomputable abbrev TI:=St->Hp->(It->Hp->Prop)->Prop
noncomputable def PIE (X:Cx) (pins:List (Addr×Obj)) (σ:St) (tg:Expr) (R:It->Hp->Prop) (itv:Value) (s2:Shared):Prop :=
 ∃(it:Addr) (fp:List Addr) (tn:Nat->Heap->Prop) (J:It) (H':Hp),itv=.ref it/\Inv X pins σ H' s2/\Turn X.prog X.w X.K tg J fp it tn/\tn 0 s2.heap/\(∀b∈fp,FpOk X pins H' b)/\R J H'
noncomputable def PI (X:Cx) (tg iter:Expr) (wi:TI):Prop :=
 ∀(pins:List (Addr×Obj)) (s:Shared) (σ:St) (H:Hp) (R:It->Hp->Prop),Inv X pins σ H s->wi σ H R ->
  wpAny (model X.prog X.w) X.A (eval iter X.env) (fun v s1=>wpAny (model X.prog X.w) X.A (pyIter v) (PIE X pins σ tg R) X.xe s1) X.xe s
theorem JNs {M:Model} {A:Around} {E:Value->Shared->Prop} {s:Shared} {tg:Expr} {it:Addr} {u:Value} {o:Obj} {n:String} {vs:Array Value} {Q:Unit->Shared->Prop} (ho:s.heap.get? it=some o) (hc:o.cls=.type n) (hd:o.data=.fields vs)
  (hn:["enumerate","zip","dict_itemiterator","dict_reverseitemiterator","odict_iterator","itertools.zip_longest","itertools.pairwise"].contains n=false) (hQ:Q () s):wpAny M A (letOwnedTupleGo tg (.ref it) u) Q E s:=by
 unfold letOwnedTupleGo
 cases tg<;>first
  | exact q_e hQ
  | (cases u<;>first
      | exact q_e hQ
      |(refine q_b (wpAny_load ho ?_)
        rw [hc,hd]
        show wpAny M A (if (["enumerate","zip","dict_itemiterator","dict_reverseitemiterator","odict_iterator","itertools.zip_longest","itertools.pairwise"].contains n&&vs[0]? == some (rawInt _))=true then _ else _) Q E s
        rw [if_neg (by intro h;rw [hn,Bool.false_and] at h;cases h)]
        exact q_e hQ))
noncomputable def Itl (K:PySem.W.Frag) (a:Addr):It :=
 ⟨fun i H=>∃xs x,SqL K H a xs/\xs[i]? = some x,fun i H x H'=>H'=H/\∀xs,SqL K H a xs->xs[i]? = some x,fun i H=>∃xs,SqL K H a xs/\xs.length<=i⟩
noncomputable def Itt (K:PySem.W.Frag) (a:Addr):It :=
 ⟨fun i H=>∃xs x,SqT K H a xs/\xs[i]? = some x,fun i H x H'=>H'=H/\∀xs,SqT K H a xs->xs[i]? = some x,fun i H=>∃xs,SqT K H a xs/\xs.length<=i⟩
noncomputable def Itr (lo:Int) (n:Nat):It:=⟨fun i _=>i<n,fun i H x H'=>H'=H/\x=.int (lo+i),fun i _=>n<=i⟩
theorem JIz {P:Program} {w:World} {K:PySem.W.Frag} {tg:Expr} (a it:Addr):Turn P w K tg (Itl K a) [it] it (fun i h=>h.IsListIter it a i) where
 mem:=by simp
 obj:=fun i h st b hb=>by
  have e:b=it:=by simpa using hb
  subst e
  obtain ⟨o,e,c,d⟩:=st
  exact ⟨o,e,fun v z=>by rw [d] at z;cases z⟩
 keep:=fun i h h' st k=>st.at fun o e=>k it (by simp) o e
 item:=by
  intro X hP hw hK hc i pins s σ H E I hf st hg
  subst hP hw hK
  obtain ⟨xs,x,hq,hx⟩:=hg
  obtain ⟨its,rv,p,hz⟩:=I.list hq
  obtain ⟨u,hu,ru⟩:=rv.get hx
  obtain ⟨f0,f1,f2,f3,f4,f5⟩:=hf it (by simp)
  refine wpAny_pyNext_list_item st p.isList (x:=u) (by simpa using hu) fun h' st' sb=>?_
  have I1:Inv X pins σ H { s with heap:=h' }:=I.turned (t':=s.toks) (fun b o hb e=>(sb.2 b hb).trans e) f0 f1 f3 f4 f5
  obtain ⟨o,e,c,d⟩:=id st'
  exact ⟨u,rfl,JNs (s:={ s with heap:=h' }) e c d (by decide) ⟨x,H,I1,ru,⟨rfl,fun ys hy=>by rw [I.list_inj hy hq];exact hx⟩,st',fun b hb=>(hf b hb).1⟩⟩
 done:=by
  intro X hP hw hK hc i pins s σ H E I hf st hg
  subst hP hw hK
  obtain ⟨xs,hq,hx⟩:=hg
  obtain ⟨its,rv,p,hz⟩:=I.list hq
  obtain ⟨f0,f1,f2,f3,f4,f5⟩:=hf it (by simp)
  have hl:=rv.length
  exact wpAny_pyNext_list_end (I.ok.hd hc) st p.isList (by simp;omega) fun h' eb=>⟨rfl,I.turned (t':=s.toks) (fun b o hb e=>eb b o hb e) f0 f1 f3 f4 f5⟩
 self:=fun _ _ _ _ _ st h=>wpAny_pyIter_listiter st h
theorem JGs {P:Program} {w:World} {K:PySem.W.Frag} {tg:Expr} (a it:Addr):Turn P w K tg (Itt K a) [it] it (fun i h=>h.IsTupleIter it a i) where
 mem:=by simp
 obj:=fun i h st b hb=>by
  have e:b=it:=by simpa using hb
  subst e
  obtain ⟨o,e,c,d⟩:=st
  exact ⟨o,e,fun v z=>by rw [d] at z;cases z⟩
 keep:=fun i h h' st k=>st.at fun o e=>k it (by simp) o e
 item:=by
  intro X hP hw hK hc i pins s σ H E I hf st hg
  subst hP hw hK
  obtain ⟨xs,x,hq,hx⟩:=hg
  obtain ⟨its,rv,p,hz⟩:=I.tuple hq
  obtain ⟨u,hu,ru⟩:=rv.get hx
  obtain ⟨f0,f1,f2,f3,f4,f5⟩:=hf it (by simp)
  refine wpAny_pyNext_tuple_item st (show s.heap.IsTuple a its.toArray from p) (x:=u) (by simpa using hu) fun h' st' sb=>?_
  have I1:Inv X pins σ H { s with heap:=h' }:=I.turned (t':=s.toks) (fun b o hb e=>(sb.2 b hb).trans e) f0 f1 f3 f4 f5
  obtain ⟨o,e,c,d⟩:=id st'
  exact ⟨u,rfl,JNs (s:={ s with heap:=h' }) e c d (by decide) ⟨x,H,I1,ru,⟨rfl,fun ys hy=>by rw [I.tuple_inj hy hq];exact hx⟩,st',fun b hb=>(hf b hb).1⟩⟩
 done:=by
  intro X hP hw hK hc i pins s σ H E I hf st hg
  subst hP hw hK
  obtain ⟨xs,hq,hx⟩:=hg
  obtain ⟨its,rv,p,hz⟩:=I.tuple hq
  obtain ⟨f0,f1,f2,f3,f4,f5⟩:=hf it (by simp)
  have hl:=rv.length
  exact wpAny_pyNext_tuple_end (I.ok.hd hc) st (show s.heap.IsTuple a its.toArray from p) (by simp;omega) fun h' eb=>⟨rfl,I.turned (t':=s.toks) (fun b o hb e=>eb b o hb e) f0 f1 f3 f4 f5⟩
 self:=fun _ _ _ _ _ st h=>wpAny_pyIter_tupleiter st h
theorem JG0 {P:Program} {w:World} {K:PySem.W.Frag} {tg:Expr} (it:Addr) (lo:Int) (n:Nat):Turn P w K tg (Itr lo n) [it] it (fun i h=>IsRangeIter h it (lo+(i:Nat)*1) ((n:Int) - (i:Nat)) 1) where
 mem:=by simp
 obj:=fun i h st b hb=>by
  have e:b=it:=by simpa using hb
  subst e
  exact ⟨_,st,fun v z=>by
   have z':Data.fields _=Data.cell v:=z
   cases z'⟩
 keep:=fun i h h' st k=>k it (by simp) _ st
 item:=by
  intro X hP hw hK hc i pins s σ H E I hf st hg
  subst hP hw hK
  obtain ⟨f0,f1,f2,f3,f4,f5⟩:=hf it (by simp)
  have W:=Walks.range (prog:=X.prog) (w:=X.w) (I.ok.hd hc) it lo 1 n
  refine W.item i s _ _ hg st fun v h' tk hv st' kk=>?_
  obtain ⟨t,rfl⟩:=hv
  have I1:Inv X pins σ H { s with heap:=h',toks:=tk }:=I.turned (fun b o hb e=>kk b o (by simpa using hb) e) f0 f1 f3 f4 f5
  refine ⟨_,rfl,JNs (s:={ s with heap:=h',toks:=tk }) (n:="range_iterator") st' rfl rfl (by decide) ⟨.int (lo+i),H,I1,⟨t,?_⟩,⟨rfl,rfl⟩,st',fun b hb=>(hf b hb).1⟩⟩
  rw [Int.mul_one]
 done:=by
  intro X hP hw hK hc i pins s σ H E I hf st hg
  subst hP hw hK
  obtain ⟨f0,f1,f2,f3,f4,f5⟩:=hf it (by simp)
  exact wpAny_pyNext_range_end (I.ok.hd hc) st (by have:n<=i:=hg;omega) fun h' eb=>⟨rfl,I.turned (t':=s.toks) (fun b o hb e=>eb b o hb e) f0 f1 f3 f4 f5⟩
 self:=fun _ _ _ _ _ st h=>wpAny_pyIter_rangeiter st h
end L2
namespace L2
open PySem PySem.Spec PyProof.Rows
section
variable {X:Cx} {tg:Expr}
noncomputable def iList (K:PySem.W.Frag) (tl:TE):TI:=fun σ H R=>tl σ H fun x H1=>∃a,x=.ref a/\(∃xs,SqL K H1 a xs)/\R (Itl K a) H1
noncomputable def iTup (K:PySem.W.Frag) (tl:TE):TI:=fun σ H R=>tl σ H fun x H1=>∃a,x=.ref a/\(∃xs,SqT K H1 a xs)/\R (Itt K a) H1
theorem JH2 {l:Expr} {tl:TE} (hl:PE X l tl):PI X tg l (iList X.K tl):=by
 intro pins s σ H R I h
 refine thn (hl pins s σ H _ I h) fun v s1 ⟨x,H1,I1,r1,q1⟩=>?_
 obtain ⟨a,e,⟨xs,hq⟩,q⟩:=q1
 subst e
 cases r1
 obtain ⟨its,rv,p,hz⟩:=I1.list hq
 refine wpAny_pyIter_list p.isList ?_
 refine ⟨s1.heap.objs.size,[s1.heap.objs.size],_,_,H1,rfl,I1.kept (t':=s1.toks) fun b o e=>q_c _ e,JIz a _,⟨_,q_k _ rfl,rfl,rfl⟩,fun b hb=>?_,q⟩
 have e:b=s1.heap.objs.size:=by simpa using hb
 subst e
 exact I1.fpOk (q_t _) (I1.hok.fresh (q_t _))
theorem JOW {l:Expr} {tl:TE} (hl:PE X l tl):PI X tg l (iTup X.K tl):=by
 intro pins s σ H R I h
 refine thn (hl pins s σ H _ I h) fun v s1 ⟨x,H1,I1,r1,q1⟩=>?_
 obtain ⟨a,e,⟨xs,hq⟩,q⟩:=q1
 subst e
 cases r1
 obtain ⟨its,rv,p,hz⟩:=I1.tuple hq
 refine wpAny_pyIter_tuple (show s1.heap.IsTuple a its.toArray from p) ?_
 refine ⟨s1.heap.objs.size,[s1.heap.objs.size],_,_,H1,rfl,I1.kept (t':=s1.toks) fun b o e=>q_c _ e,JGs a _,⟨_,q_k _ rfl,rfl,rfl⟩,fun b hb=>?_,q⟩
 have e:b=s1.heap.objs.size:=by simpa using hb
 subst e
 exact I1.fpOk (q_t _) (I1.hok.fresh (q_t _))
theorem JF6 {pins:List (Addr×Obj)} {σ:St} {H:Hp} {s:Shared} {R:It->Hp->Prop} {E:Value->Shared->Prop} {lo hi:Int} {t u v:Tok} {tk:Nat} (I:Inv X pins σ H s) (h1:-(2 ^ 62)<=lo) (h2:lo<2 ^ 62) (h3:-(2 ^ 62)<=hi) (h4:hi<2 ^ 62)
  (q:R (Itr lo (hi - lo).toNat) H):wpAny (model X.prog X.w) X.A (pyIter (.ref s.heap.objs.size)) (PIE X pins σ tg R) E { s with heap:=s.heap.push { cls:=.type "range",data:=.fields #[.int lo t,.int hi u,.int 1 v] },toks:=tk }:=by
 refine wpAny_pyIter_range (IsRange.new ..) (small_one h1 h2 h3 h4) ?_
 have I1:Inv X pins σ H { s with heap:=s.heap.push { cls:=.type "range",data:=.fields #[.int lo t,.int hi u,.int 1 v] },toks:=tk }:=I.kept fun b o e=>q_c _ e
 refine ⟨(s.heap.push { cls:=.type "range",data:=.fields #[.int lo t,.int hi u,.int 1 v] }).objs.size,[(s.heap.push { cls:=.type "range",data:=.fields #[.int lo t,.int hi u,.int 1 v] }).objs.size],_,_,H,rfl,
  I1.kept (t':=tk) fun b o e=>q_c _ e,JG0 _ lo (hi - lo).toNat,?_,fun b hb=>?_,q⟩
 ·have e1:lo+((0:Nat):Int)*1=lo:=by simp
  have e2:(((hi - lo).toNat:Nat):Int) - ((0:Nat):Int)=Builtin.Range.rangeSize lo hi 1:=by rw [rangeSize_one];split<;>omega
  show IsRangeIter _ _ (lo+((0:Nat):Int)*1) ((((hi - lo).toNat:Nat):Int) - ((0:Nat):Int)) 1
  rw [e1,e2]
  exact q_k _ rfl
 ·have e:b=(s.heap.push { cls:=.type "range",data:=.fields #[.int lo t,.int hi u,.int 1 v] }).objs.size:=by simpa using hb
  subst e
  exact I1.fpOk (q_t _) (I1.hok.fresh (q_t _))
noncomputable def iRng1 (ta:TA):TI:=fun σ H R=>ta σ H fun vs H1=>∃j:Int,vs=[.int j]/\-(2 ^ 62)<=j/\j<2 ^ 62/\R (Itr 0 j.toNat) H1
noncomputable def iRng2 (ta:TA):TI:=fun σ H R=>ta σ H fun vs H1=>∃i j:Int,vs=[.int i,.int j]/\(-(2 ^ 62)<=i/\i<2 ^ 62/\-(2 ^ 62)<=j/\j<2 ^ 62)/\R (Itr i (j - i).toNat) H1
theorem JHn {a:Expr} {ta:TA} {p pos:Pos} (hg:Gl X "range") (hm:X.mg "range"=none) (ha:PA X [a] ta) (hs:starEach [a] X.env=[(false,eval a X.env)]:=by rfl):PI X tg (.Call (.Name "range" p) [a] [] pos) (iRng1 ta):=by
 intro pins s σ H R I h
 refine Call_ (JDc I hg hm boot_range (PyProof.Rows.callWith_type1 (thn (ha pos pins s σ H _ I h) fun us s1 ⟨vs,H1,I1,r1,q1⟩=>?_) hs rfl))
 obtain ⟨j,e,q1,q2,q⟩:=q1
 subst e
 cases r1 with
 | cons r rr =>
  cases rr
  obtain ⟨t,rfl⟩:=r
  exact call_range_1 (JF6 I1 (by omega) (by omega) q1 q2 (by simpa using q))
theorem JIo {a b:Expr} {ta:TA} {p pos:Pos} (hg:Gl X "range") (hm:X.mg "range"=none) (ha:PA X [a,b] ta) (hs:starEach [a,b] X.env=[(false,eval a X.env),(false,eval b X.env)]:=by rfl) (hs2:starEach [b] X.env=[(false,eval b X.env)]:=by rfl) :
  PI X tg (.Call (.Name "range" p) [a,b] [] pos) (iRng2 ta):=by
 intro pins s σ H R I h
 refine Call_ (JDc I hg hm boot_range (PyProof.Rows.callWith_type1 (thn (ha pos pins s σ H _ I h) fun us s1 ⟨vs,H1,I1,r1,q1⟩=>?_) (by rw [hs,hs2]) (by rw [hs2];rfl)))
 obtain ⟨i,j,e,⟨q1,q2,q3,q4⟩,q⟩:=q1
 subst e
 cases r1 with
 | cons r rr =>
  cases rr with
  | cons r' rr =>
   cases rr
   obtain ⟨t,rfl⟩:=r
   obtain ⟨t',rfl⟩:=r'
   exact call_range_2 (JF6 I1 q1 q2 q3 q4 q)
noncomputable def tFor (wi:TI) (g:TG) (tb:TS):TS:=fun D σ H=>wi σ H fun J H1=>∃W:Nat->Nat->St->Hp->Prop,(∃m,W 0 m σ H1)/\∀i m σ H,W i m σ H ->
 (J.stop i H/\D.nx σ H)\/(J.go i H/\∃N:St->Hp->Prop,(∀σ' H',N σ' H'->∃m',m'<m/\W (i+1) m' σ' H')/\∀x H',J.yld i H x H'->g x σ H' fun σ2 H2=>tb { D with nx:=N,ct:=N,bk:=D.nx } σ2 H2)
noncomputable def JD9 (fp:List Addr) (h:Heap):List (Addr×Obj):=fp.filterMap fun b=>(h.get? b).map fun o=>(b,o)
theorem JBu {fp:List Addr} {h:Heap} {b:Addr} {o:Obj} (hb:b∈fp) (e:h.get? b=some o):(b,o)∈JD9 fp h:=List.mem_filterMap.mpr ⟨b,hb,by rw [e];rfl⟩
theorem JI2 {fp:List Addr} {h:Heap} {p:Addr×Obj} (hp:p∈JD9 fp h):p.1∈fp/\h.get? p.1=some p.2:=by
 obtain ⟨b,hb,e⟩:=List.mem_filterMap.mp hp
 cases q:h.get? b with
 | none=>rw [q] at e;cases e
 | some o =>
  rw [q] at e
  have e':(b,o)=p:=Option.some.inj e
  subst e'
  exact ⟨hb,q⟩
theorem Inv.pinned {pins:List (Addr×Obj)} {σ:St} {H:Hp} {s:Shared} {fp:List Addr} (I:Inv X pins σ H s) (hf:∀b∈fp,FpOk X pins H b) (ho:∀b∈fp,∃o,s.heap.get? b=some o/\∀v,o.data≠.cell v):Inv X (pins++JD9 fp s.heap) σ H s :=
 I.pins_of fun p hp=>(List.mem_append.mp hp).elim (fun z=>I.pin p (q_r _ z)) fun z=>by
  obtain ⟨hb,e⟩:=JI2 z
  obtain ⟨f0,f1,f2,_⟩:=hf p.1 hb
  obtain ⟨o,e',d⟩:=ho p.1 hb
  rw [e] at e';cases e'
  exact ⟨e,f0,f1,f2,d⟩
theorem Inv.unpinned {pins pl:List (Addr×Obj)} {σ:St} {H:Hp} {s:Shared} (I:Inv X (pins++pl) σ H s):Inv X pins σ H s:=I.pins_of fun p hp=>I.pin p (q_r _ (List.mem_append_left _ hp))
theorem JLD {iter:Expr} {body:List Stmt} {wi:TI} {g:TG} {tb:TS} {pos:Pos} (hp:PassesOwn (model X.prog X.w) X.A X.env X.xe) (hc:X.calm=true) (hi:PI X tg iter wi) (hg:PG X tg g) (hb:PSs X body tb)
  (hs:∀x,foldedSetIterable iter X.env x=pure x:=by intro _;rfl):PS X (.For tg iter body [] pos) (tFor wi g tb):=by
 intro pins s σ H D I h
 refine wpAny_For (thn (hi pins s σ H _ I h) fun v s1 h1=>thn h1 fun itv s2 h2=>?_) hs
 obtain ⟨it,fp,tn,J,H2,e,I2,T,st2,f2,W,⟨m0,w0⟩,turn⟩:=h2
 subst e
 have stat:∀ {H':Hp},(∀b∈fp,H' b=none)->∀b∈fp,FpOk X pins H' b:=fun hn b hb=>⟨hn b hb,(f2 b hb).2⟩
 refine codeAny_forLoop_any (fun n s'=>∃i σ' H',Inv X pins σ' H' s'/\tn i s'.heap/\(∀b∈fp,H' b=none)/\W i n σ' H') ?_ m0 ⟨0,σ,H2,I2,st2,fun b hb=>(f2 b hb).1,w0⟩
 rintro n s3 ⟨i,σ3,H3,I3,st3,fr3,w3⟩
 rcases turn i n σ3 H3 w3 with ⟨stop,qn⟩ | ⟨go,N,hN,step⟩
 ·refine wpAny_passesOwn hp (thn (T.done X rfl rfl rfl hc i pins s3 σ3 H3 X.xe I3 (stat fr3) st3 stop) fun r s4 ⟨hr,I4⟩=>?_)
  subst hr
  exact wpAny_execs_nil ⟨σ3,H3,I4,qn⟩
 ·refine wpAny_passesOwn hp (thn (T.item X rfl rfl rfl hc i pins s3 σ3 H3 X.xe I3 (stat fr3) st3 go) fun r s4 ⟨u,hr,h4⟩=>?_)
  subst hr
  refine wpAny_passesOwn hp (thn h4 fun _ s5 ⟨x,H5,I5,r5,y5,st5,fr5⟩=>?_)
  have I5':=I5.pinned (stat fr5) (T.obj _ _ st5)
  refine wpAny_passesOwn hp (thn (hg _ s5 σ3 H5 x u _ I5' r5 (step x H5 y5)) fun _ s6 ⟨σ6,H6,I6,q6⟩=>?_)
  refine wpAny_passesOwn hp (thn (hb _ s6 σ6 H6 _ I6 q6) fun f s7 q7=>?_)
  have again:∀ {σ7:St} {H7:Hp},Inv X (pins++JD9 fp s5.heap) σ7 H7 s7->N σ7 H7->∃m,m<n/\∃i σ' H',Inv X pins σ' H' s7/\tn i s7.heap/\(∀b∈fp,H' b=none)/\W i m σ' H':=fun {σ7 H7} I7 n7=>by
    obtain ⟨m',hm,w7⟩:=hN σ7 H7 n7
    refine ⟨m',hm,i+1,σ7,H7,I7.unpinned,T.keep _ _ _ st5 fun b hb o e=>(I7.pin (b,o) (q_r _ (q_r _ (JBu hb e)))).1,fun b hb=>?_,w7⟩
    obtain ⟨o,e,d⟩:=T.obj _ _ st5 b hb
    exact (I7.pin (b,o) (q_r _ (q_r _ (JBu hb e)))).2.1
  cases f with
  | next=>obtain ⟨σ7,H7,I7,n7⟩:=q7;exact again I7 n7
  | cont=>obtain ⟨σ7,H7,I7,n7⟩:=q7;exact again I7 n7
  | brk=>obtain ⟨σ7,H7,I7,q7⟩:=q7;exact ⟨σ7,H7,I7.unpinned,q7⟩
  | ret v=>obtain ⟨x7,σ7,H7,I7,r7,q7⟩:=q7;exact ⟨x7,σ7,H7,I7.unpinned,r7,q7⟩
end
end L2
namespace L2
open PySem PySem.Spec PyProof.Rows
noncomputable abbrev R2:=V->V->Hp->VK->Prop
noncomputable def OpR (X:Cx) (f:Value->Value->Sem Value) (r:R2):Prop :=
 ∀(pins:List (Addr×Obj)) (s:Shared) (σ:St) (H:Hp) (x y:V) (v u:Value) (Q:VK),Inv X pins σ H s->RelV x v->RelV y u->r x y H Q ->
  wpAny (model X.prog X.w) X.A (f v u) (EP X pins σ Q) X.xe s
noncomputable def UnR (X:Cx) (f:Value->Sem Value) (r:V->Hp->VK->Prop):Prop :=
 ∀(pins:List (Addr×Obj)) (s:Shared) (σ:St) (H:Hp) (x:V) (v:Value) (Q:VK),Inv X pins σ H s->RelV x v->r x H Q ->
  wpAny (model X.prog X.w) X.A (f v) (EP X pins σ Q) X.xe s
noncomputable def CallR (X:Cx) (f:Value) (r:List V->Hp->VK->Prop):Prop :=
 ∀(pins:List (Addr×Obj)) (s:Shared) (σ:St) (H:Hp) (xs:List V) (us:List Value) (Q:VK),Inv X pins σ H s->Vals xs us->r xs H Q ->
  wpAny (model X.prog X.w) X.A (call f us) (EP X pins σ Q) X.xe s
noncomputable def TruR (X:Cx) (r:V->Hp->(Bool->Hp->Prop)->Prop):Prop :=
 ∀(pins:List (Addr×Obj)) (s:Shared) (σ:St) (H:Hp) (x:V) (v:Value) (Q:Bool->Hp->Prop),Inv X pins σ H s->RelV x v->r x H Q ->
  wpAny (model X.prog X.w) X.A (truthy v) (TP X pins σ Q) X.xe s
noncomputable def tOp (r:R2) (ta tb:TE):TE:=fun σ H Q=>ta σ H fun x H1=>tb σ H1 fun y H2=>r x y H2 Q
noncomputable def tUn (r:V->Hp->VK->Prop) (ta:TE):TE:=fun σ H Q=>ta σ H fun x H1=>r x H1 Q
noncomputable def rI (C:Int->Int->Prop) (g:Int->Int->V):R2:=fun x y H Q=>∃i j,x=.int i/\y=.int j/\C i j/\Q (g i j) H
noncomputable def rI0 (g:Int->Int->V):R2:=fun x y H Q=>∃i j,x=.int i/\y=.int j/\Q (g i j) H
noncomputable def rU (g:Int->V):V->Hp->VK->Prop:=fun x H Q=>∃i,x=.int i/\Q (g i) H
section
variable {X:Cx} {a b c:Expr} {ta tb tc:TE} {pos:Pos}
theorem binT (ha:PE X a ta) (hb:PE X b tb) {pins:List (Addr×Obj)} {s:Shared} {σ:St} {H:Hp} {R:V->V->Hp->Prop} (I:Inv X pins σ H s)
  (h:ta σ H fun x H1=>tb σ H1 fun y H2=>R x y H2) {Q:Value->Shared->Prop} {f:Value->Value->Sem Value}
  (hf:∀v u s2 x y H2,Inv X pins σ H2 s2->RelV x v->RelV y u->R x y H2->wpAny (model X.prog X.w) X.A (f v u) Q X.xe s2) :
  wpAny (model X.prog X.w) X.A (eval a X.env) (fun v s₁=>wpAny (model X.prog X.w) X.A (eval b X.env) (fun u s₂=>wpAny (model X.prog X.w) X.A (f v u) Q X.xe s₂) X.xe s₁) X.xe s:=by
 refine thn (ha pins s σ H _ I h) fun v s1 ⟨x,H1,I1,r1,q1⟩=>?_
 refine thn (hb pins s1 σ H1 _ I1 q1) fun u s2 ⟨y,H2,I2,r2,q2⟩=>?_
 exact hf v u s2 x y H2 I2 r1 r2 q2
theorem JPC {op:Operator} {r:R2} (ho:OpR X (binaryOp op) r) (ha:PE X a ta) (hb:PE X b tb):PE X (.BinOp a op b pos) (tOp r ta tb):=by
 intro pins s σ H Q I h
 exact wpAny_BinOp (binT ha hb I h fun v u s2 x y H2 I2 rx ry q=>ho pins s2 σ H2 x y v u Q I2 rx ry q)
theorem JPG {op:UnaryOp} {r:V->Hp->VK->Prop} (ho:UnR X (unaryOp op) r) (ha:PE X a ta):PE X (.UnaryOp op a pos) (tUn r ta):=by
 intro pins s σ H Q I h
 exact UnaryOp_ (thn (ha pins s σ H _ I h) fun v s1 ⟨x,H1,I1,r1,q1⟩=>ho pins s1 σ H1 x v Q I1 r1 q1)
theorem opI {f:Value->Value->Sem Value} {C:Int->Int->Prop} {g:Int->Int->Int}
  (rule:∀(i j:Int) (t u:Tok) (s:Shared) (Q:Value->Shared->Prop) (E:Value->Shared->Prop),C i j->Q (.int (g i j) s.toks) { s with toks:=s.toks+1 }->wpAny (model X.prog X.w) X.A (f (.int i t) (.int j u)) Q E s) :
  OpR X f (rI C fun i j=>.int (g i j)):=by
 intro pins s σ H x y v u Q I rx ry h
 obtain ⟨i,j,rfl,rfl,hc,q⟩:=h
 obtain ⟨t,rfl⟩:=rx
 obtain ⟨t',rfl⟩:=ry
 exact rule i j t t' s _ _ hc ⟨.int (g i j),H,I.tok _,⟨_,rfl⟩,q⟩
theorem opI0 {f:Value->Value->Sem Value} {g:Int->Int->Int}
  (rule:∀(i j:Int) (t u:Tok) (s:Shared) (Q:Value->Shared->Prop) (E:Value->Shared->Prop),Q (.int (g i j) s.toks) { s with toks:=s.toks+1 }->wpAny (model X.prog X.w) X.A (f (.int i t) (.int j u)) Q E s) :
  OpR X f (rI0 fun i j=>.int (g i j)):=by
 intro pins s σ H x y v u Q I rx ry h
 obtain ⟨i,j,rfl,rfl,q⟩:=h
 obtain ⟨t,rfl⟩:=rx
 obtain ⟨t',rfl⟩:=ry
 exact rule i j t t' s _ _ ⟨.int (g i j),H,I.tok _,⟨_,rfl⟩,q⟩
theorem opB0 {f:Value->Value->Sem Value} {g:Int->Int->Bool}
  (rule:∀(i j:Int) (t u:Tok) (s:Shared) (Q:Value->Shared->Prop) (E:Value->Shared->Prop),Q (.bool (g i j)) s->wpAny (model X.prog X.w) X.A (f (.int i t) (.int j u)) Q E s) :
  OpR X f (rI0 fun i j=>.bl (g i j)):=by
 intro pins s σ H x y v u Q I rx ry h
 obtain ⟨i,j,rfl,rfl,q⟩:=h
 obtain ⟨t,rfl⟩:=rx
 obtain ⟨t',rfl⟩:=ry
 exact rule i j t t' s _ _ ⟨.bl (g i j),H,I,rfl,q⟩
noncomputable def CPow (i j:Int):Prop:=0<=j/\j<=1000000/\i.natAbs<2 ^ 64
noncomputable def CMul (i j:Int):Prop:=(-(2 ^ 64)<i/\i<2 ^ 64)\/(-(2 ^ 64)<j/\j<2 ^ 64)
theorem CMul.ok {i j:Int} (h:CMul i j):IntMulOk i j:=by
 rcases h with ⟨h1,h2⟩ | ⟨h1,h2⟩
 ·exact .of_left (intBits_le_64 h1 h2)
 ·exact .of_right (intBits_le_64 h1 h2)
theorem JOd:OpR X (binaryOp .Add) (rI0 fun i j=>.int (i+j)):=opI0 fun _ _ _ _ _ _ _ q=>add_int q
theorem JOc:OpR X (binaryOp .Sub) (rI0 fun i j=>.int (i - j)):=opI0 fun _ _ _ _ _ _ _ q=>sub_int q
theorem JML:OpR X (binaryOp .Mod) (rI (fun _ j=>j≠0) fun i j=>.int (i.fmod j)):=opI fun _ _ _ _ _ _ _ hc q=>mod_int' hc q
theorem JOi:OpR X (binaryOp .Pow) (rI CPow fun i j=>.int (i ^ j.toNat)):=opI fun _ _ _ _ _ _ _ hc q=>pow_int_small hc.1 hc.2.1 hc.2.2 q
theorem unI {f:Value->Sem Value} {g:Int->Int}
  (rule:∀(i:Int) (t:Tok) (s:Shared) (Q:Value->Shared->Prop) (E:Value->Shared->Prop),Q (.int (g i) s.toks) { s with toks:=s.toks+1 }->wpAny (model X.prog X.w) X.A (f (.int i t)) Q E s) :
  UnR X f (rU fun i=>.int (g i)):=by
 intro pins s σ H x v Q I rx h
 obtain ⟨i,rfl,q⟩:=h
 obtain ⟨t,rfl⟩:=rx
 exact rule i t s _ _ ⟨.int (g i),H,I.tok _,⟨_,rfl⟩,q⟩
theorem JL2:UnR X (unaryOp .USub) (rU fun i=>.int (-i)):=unI fun _ _ _ _ _ q=>neg_int q
end
section
variable {X:Cx} {a b c:Expr} {ta tb tc:TE} {pos:Pos}
theorem op_lt:OpR X (compareOp .Lt) (rI0 fun i j=>.bl (decide (i<j))):=opB0 fun _ _ _ _ _ _ _ q=>lt_int q
theorem op_le:OpR X (compareOp .LtE) (rI0 fun i j=>.bl (decide (i<=j))):=opB0 fun _ _ _ _ _ _ _ q=>le_int q
theorem op_gt:OpR X (compareOp .Gt) (rI0 fun i j=>.bl (decide (j<i))):=opB0 fun _ _ _ _ _ _ _ q=>gt_int q
theorem op_ge:OpR X (compareOp .GtE) (rI0 fun i j=>.bl (decide (j<=i))):=opB0 fun _ _ _ _ _ _ _ q=>ge_int q
theorem OpR.or {f:Value->Value->Sem Value} {r r':R2} (h:OpR X f r) (h':OpR X f r'):OpR X f (fun x y H Q=>r x y H Q\/r' x y H Q):=by
 intro pins s σ H x y v u Q I rx ry q
 rcases q with q | q
 ·exact h pins s σ H x y v u Q I rx ry q
 ·exact h' pins s σ H x y v u Q I rx ry q
theorem JFk {op:CmpOp} {r:R2} (ho:OpR X (compareOp op) r) (ha:PE X a ta) (hb:PE X b tb) (hm:behindInMarks op b=false):PE X (.Compare a [op] [b] pos) (tOp r ta tb):=by
 intro pins s σ H Q I h
 exact wpAny_Compare1 (binT ha hb I h fun v u s2 x y H2 I2 rx ry q=>ho pins s2 σ H2 x y v u Q I2 rx ry q) hm
noncomputable def JPD (t:TE):TT:=fun σ H Q=>t σ H fun x H'=>∃k,x=.bl k/\Q k H'
theorem JFZ {op:CmpOp} {r:R2} (ho:OpR X (compareOp op) r) (ha:PE X a ta) (hb:PE X b tb) (hm:behindInMarks op b=false):PT X (.Compare a [op] [b] pos) (JPD (tOp r ta tb)):=by
 intro pins s σ H Q I h
 refine wpAny_isTrue_Compare1 (thn (ha pins s σ H _ I h) fun v s1 ⟨x,H1,I1,r1,q1⟩=>thn (hb pins s1 σ H1 _ I1 q1) fun u s2 ⟨y,H2,I2,r2,q2⟩ =>
  thn (ho pins s2 σ H2 x y v u _ I2 r1 r2 q2) fun c s3 ⟨z,H3,I3,r3,k,e,q3⟩=>?_) hm
 subst e
 cases r3
 exact wpAny_truthy_bool ⟨H3,I3,q3⟩
noncomputable def TruV (K:PySem.W.Frag) (x:V) (H:Hp) (k:Bool):Prop :=
 match x with
 | .non=>k=false
 | .bl b=>k=b
 | .int i=>k=(i != 0)
 | .str y=>y.length<=sizeLine/\k=((y.length:Int) != 0)
 | .byt y=>y.size<=sizeLine/\k=((y.size:Int) != 0)
 | .ref p=>(∃xs,SqL K H p xs/\k=!xs.isEmpty)\/(∃xs,SqT K H p xs/\k=!xs.isEmpty)\/∃kvs,H p=some (.dK kvs)/\k=!kvs.isEmpty
 | _=>False
theorem JGy {κ:Type} {kvs:List (κ×V)} {vs:List (κ×Value)} (r:KV kvs vs):(!vs.isEmpty)=!kvs.isEmpty:=by
 cases r<;>rfl
theorem JDT {xs:List V} {its:List Value} (r:Vals xs its):(!its.toArray.isEmpty)=!xs.isEmpty:=by
 cases r<;>simp
theorem JFA:(sizeLine:Nat)<2 ^ 63:=by rw [sizeLine_eq];decide
theorem JKl:TruR X (fun x H Q=>∃k,TruV X.K x H k/\Q k H):=by
 intro pins s σ H x v Q I rx h
 obtain ⟨k,e,q⟩:=h
 have hl:=JFA
 have hs:sizeLine=16777216:=sizeLine_eq
 cases x with
 | non =>
  cases rx
  have e':k=false:=e
  subst e'
  exact truthy_none ⟨H,I,q⟩
 | bl b =>
  cases rx
  have e':k=b:=e
  subst e'
  exact wpAny_truthy_bool ⟨H,I,q⟩
 | int i =>
  obtain ⟨t,rfl⟩:=rx
  have e':k=(i != 0):=e
  subst e'
  exact PySem.P.truthy_int ⟨H,I,q⟩
 | str y =>
  obtain ⟨t,rfl⟩:=rx
  obtain ⟨hy,e'⟩:y.length<=sizeLine/\k=((y.length:Int) != 0):=e
  subst e'
  exact PySem.P.truthy_str (by omega) ⟨H,I.tok _,q⟩
 | byt y =>
  obtain ⟨t,rfl⟩:=rx
  obtain ⟨hy,e'⟩:y.size<=sizeLine/\k=((y.size:Int) != 0):=e
  subst e'
  exact PySem.W.truthy_bytes (by omega) ⟨H,I.tok _,q⟩
 | ref p =>
  cases rx
  have e':(∃xs,SqL X.K H p xs/\k=!xs.isEmpty)\/(∃xs,SqT X.K H p xs/\k=!xs.isEmpty)\/∃kvs,H p=some (.dK kvs)/\k=!kvs.isEmpty:=e
  rcases e' with ⟨xs,hx,e'⟩ | ⟨xs,hx,e'⟩ | ⟨kvs,hx,e'⟩
  ·subst e'
   obtain ⟨its,r,pl,hz⟩:=I.list hx
   have hlen:=r.length
   exact wpAny_truthy_list pl.isList (by simp only [q_f];omega) ⟨H,I.tok _,by rw [JDT r];exact q⟩
  ·subst e'
   obtain ⟨its,r,pl,hz⟩:=I.tuple hx
   have hlen:=r.length
   exact truthy_tuple pl (by simp only [q_f];omega) ⟨H,I.tok _,by rw [JDT r];exact q⟩
  ·subst e'
   obtain ⟨hz,hS,vs,r,m⟩:kvs.length<=sizeLine/\(p==sysModules)=false/\∃vs,KV kvs vs/\s.heap.DictOf (JBE X.prog X.w) p vs:=I.hok p _ hx
   have hlen:kvs.length=vs.length:=Paired.length r
   exact wpAny_truthy_dict hS m (by omega) ⟨H,I.tok _,by rw [JGy r];exact q⟩
 | _=>exact (show False from e).elim
theorem JJH (ha:PE X a ta) (he:∀whole,isTrue a X.env whole=(do let v<-whole;standAt a.pos;holding [v] (truthy v))) :
  PT X a (fun σ H Q=>ta σ H fun x H'=>∃k,TruV X.K x H' k/\Q k H'):=by
 intro pins s σ H Q I h
 exact isTrue_plain (thn (ha pins s σ H _ I h) fun v s1 ⟨x,H1,I1,r1,q1⟩=>JKl pins s1 σ H1 x v Q I1 r1 q1) (he _)
theorem vals1 {x:V} {us:List Value} (r:Vals [x] us):∃u,us=[u]/\RelV x u:=by
 cases r with
 | cons r1 r2=>cases r2;exact ⟨_,rfl,r1⟩
theorem JJL:CallR X (.builtin "abs") (fun xs H Q=>∃i,xs=[.int i]/\Q (.int (if i<0 then -i else i)) H):=by
 intro pins s σ H xs us Q I r h
 obtain ⟨i,rfl,q⟩:=h
 obtain ⟨u,rfl,t,rfl⟩:=vals1 r
 exact call_abs_int fun u tk=>⟨.int (if i<0 then -i else i),H,I.tok _,⟨_,rfl⟩,q⟩
noncomputable def LenV (K:PySem.W.Frag) (x:V) (H:Hp) (n:Nat):Prop :=
 match x with
 | .str y=>y.length<=sizeLine/\n=y.length
 | .byt y=>y.size<=sizeLine/\n=y.size
 | .ref p=>(∃xs,SqL K H p xs/\n=xs.length)\/∃xs,SqT K H p xs/\n=xs.length
 | _=>False
theorem JKV:CallR X (.builtin "len") (fun xs H Q=>∃x n,xs=[x]/\LenV X.K x H n/\Q (.int n) H):=by
 intro pins s σ H xs us Q I r h
 obtain ⟨x,n,rfl,e,q⟩:=h
 obtain ⟨u,rfl,rx⟩:=vals1 r
 have hl:=JFA
 have hs:sizeLine=16777216:=sizeLine_eq
 cases x with
 | str y =>
  obtain ⟨t,rfl⟩:=rx
  obtain ⟨hy,e'⟩:y.length<=sizeLine/\n=y.length:=e
  subst e'
  exact len_str (by omega) ⟨.int _,H,I.tok _,⟨_,rfl⟩,q⟩
 | byt y =>
  obtain ⟨t,rfl⟩:=rx
  obtain ⟨hy,e'⟩:y.size<=sizeLine/\n=y.size:=e
  subst e'
  exact PySem.W.len_bytes (by omega) ⟨.int _,H,I.tok _,⟨_,rfl⟩,q⟩
 | ref p =>
  cases rx
  have e':(∃xs,SqL X.K H p xs/\n=xs.length)\/∃xs,SqT X.K H p xs/\n=xs.length:=e
  rcases e' with ⟨xs,hx,e'⟩ | ⟨xs,hx,e'⟩
  ·subst e'
   obtain ⟨its,r',pl,hz⟩:=I.list hx
   have hlen:=r'.length
   exact Calls.call_len_list pl.isList (by simp only [q_f];omega) ⟨.int xs.length,H,I.tok _,⟨_,by simp only [q_f];rw [hlen]⟩,q⟩
  ·subst e'
   obtain ⟨its,r',pl,hz⟩:=I.tuple hx
   have hlen:=r'.length
   exact len_tuple pl (by simp only [q_f];omega) ⟨.int xs.length,H,I.tok _,⟨_,by simp only [q_f];rw [hlen]⟩,q⟩
 | _=>exact (show False from e).elim
end
end L2
namespace L2
open PySem PySem.Spec PyProof.Rows
structure ObjM (h:Heap) (x dx C:Addr) (mA:Str->Option Value):Prop where
 obj:h.get? x=some (PySem.W.instObj C dx)
 ns:h.Ns1 dx mA
 ne:dx≠x
section
variable {prog:Program} {w:World} {A:Around} {E:Value->Shared->Prop} {s:Shared} {K:PySem.W.Frag} {x dx C f:Addr} {mA:Str->Option Value} {name:Str} {v:Value}
end
section
variable {P:Program} {w:World} {H H':Hp} {h h':Heap} {a C dx:Addr} {fs fs':List (Str×V)}
end
structure Cls (K:PySem.W.Frag) (C:Addr):Prop where
 pg:PySem.W.plainGet K C Str.empty=true
 hd:PySem.W.hasDictIn K C=true
 po:PySem.W.plainOver K C=true
 sa:PySem.W.findIn K (.ref C) "__setattr__"=some (some (.builtin "object.__setattr__"))
theorem Cls.get {K:PySem.W.Frag} {C:Addr} (c:Cls K C) (f:Str):PySem.W.plainGet K C f=true:=c.pg
section
variable {X:Cx} {pins:List (Addr×Obj)} {σ:St} {H:Hp} {s:Shared} {a C dx:Addr} {fs:List (Str×V)} {f:Str} {v:V} {A:Around} {E:Value->Shared->Prop}
theorem Inv.made (I:Inv X pins σ H s):Inv X pins σ (upd (upd H s.heap.objs.size (.own (s.heap.objs.size+1))) (s.heap.objs.size+1) (.ins C s.heap.objs.size []))
  { s with heap:=(s.heap.push PySem.W.emptyDict).push (PySem.W.instObj C s.heap.objs.size) }:=by
 have e1:(s.heap.push PySem.W.emptyDict).get? s.heap.objs.size=some PySem.W.emptyDict:=q_k s.heap rfl
 have e2:((s.heap.push PySem.W.emptyDict).push (PySem.W.instObj C s.heap.objs.size)).get? (s.heap.objs.size+1)=some (PySem.W.instObj C s.heap.objs.size):=by
  have:=q_k (s.heap.push PySem.W.emptyDict) (o:=PySem.W.instObj C s.heap.objs.size) rfl
  rwa [Heap.size_push] at this
 have e3:(s.heap.push PySem.W.emptyDict).Ns s.heap.objs.size (fun _=>none):=⟨PySem.W.emptyDict,#[],_,e1,rfl,(fun e he=>absurd he (by simp)),fun _=>rfl⟩
 have I1:=I.laid (a:=s.heap.objs.size) (o:=.own (s.heap.objs.size+1)) (h':=s.heap.push PySem.W.emptyDict) (t':=s.toks) (fun b u q=>q_c _ q) (q_t _) ⟨_,e1⟩
 refine I1.laid (a:=s.heap.objs.size+1) (o:=.ins C s.heap.objs.size []) (t':=s.toks) (fun b u q=>q_c _ q) (Nat.le_of_eq (Heap.size_push _ _)) ?_
 have ne:s.heap.objs.size≠s.heap.objs.size+1:=q_l (Nat.lt_succ_self _)
 refine ⟨by rw [JAG ne,JAH],Nat.zero_le _,ne,e2,fun _=>none,(Heap.Ns1.of_empty e3).at fun o q=>q_c _ q,fun _=>True.intro,fun y hy=>absurd rfl hy⟩
end
section
variable {X:Cx} {o e value:Expr} {f:Str} {pos pos' tpos:Pos} {ta tv:TE}
end
section
variable {X:Cx} {pins:List (Addr×Obj)} {σ:St} {H:Hp} {s:Shared} {A:Around} {E:Value->Shared->Prop} {Q:Value->Shared->Prop} {c:Value} {b:Bool}
end
end L2
namespace L2
open PySem PySem.Spec PyProof.Rows
structure Room (k:Nat) (A:Around):Prop where
 hd:A.handled=none
 dp:A.depth+3*k+5<recursionLimit
 un:A.units+16*k+200<cLine
theorem Room.mono {j k:Nat} {A:Around} (r:Room k A) (h:j<=k):Room j A:=⟨r.hd,by have:=r.dp;omega,by have:=r.un;omega⟩
theorem Room.deeper {k:Nat} {A:Around} (r:Room (k+1) A) (env:Env):Room k (A.deeper env) :=
 ⟨r.hd,by have:=r.dp;show A.depth+1+3*k+5<_;omega,by have:=r.un;show A.units+3+16*k+200<_;omega⟩
theorem Room.depth {k:Nat} {A:Around} (r:Room k A):A.depth<recursionLimit:=by have:=r.dp;omega
noncomputable def tNil:TA:=fun _ H Q=>Q [] H
noncomputable def tCons (ta:TE) (tr:TA):TA:=fun σ H Q=>ta σ H fun x H1=>tr σ H1 fun xs H2=>Q (x::xs) H2
section
variable {X:Cx} {e:Expr} {es:List Expr} {te:TE} {t:TA} {pos:Pos}
theorem JCK:PA X [] tNil:=fun _ _ _ _ H Q I h=>Calls.spliced_nil ⟨[],H,I,.nil,h⟩
theorem JBL (ha:PE X e te) (hr:PA X es t) (hs:starEach (e::es) X.env=(false,eval e X.env)::starEach es X.env:=by rfl):PA X (e::es) (tCons te t):=by
 intro pos pins s σ H Q I h
 rw [hs]
 show wpAny _ _ (spliced ((false,eval e X.env)::backTo pos (starEach es X.env))) _ _ s
 refine Calls.spliced_cons (thn (ha pins s σ H _ I h) fun u s1 ⟨x,H1,I1,r1,q1⟩=>?_)
 exact thn (hr pos pins s1 σ H1 _ I1 q1) fun us s2 ⟨xs,H2,I2,r2,q2⟩=>⟨x::xs,H2,I2,.cons r1 r2,q2⟩
noncomputable def tTup (t:TA):TE:=fun σ H Q=>t σ H fun xs H1=>xs.length<=sizeLine/\∀p,H1 p=none->Q (.ref p) (upd H1 p (.tup xs))
noncomputable def tLst (t:TA):TE:=fun σ H Q=>t σ H fun xs H1=>xs.length<=sizeLine/\∀p,H1 p=none->Q (.ref p) (upd H1 p (.lst xs))
theorem JLO {x1} (h:PA X es t):PE X (.Tuple es x1 pos) (tTup t):=by
 intro pins s σ H Q I hq
 refine wpAny_Tuple_spliced (thn (h pos pins s σ H _ I hq) fun us s1 ⟨xs,H1,I1,r,z,q⟩=>⟨by rw [<-r.length];exact z,?_⟩)
 have hf:H1 s1.heap.objs.size=none:=I1.hok.fresh (q_t _)
 refine ⟨.ref s1.heap.objs.size,upd H1 s1.heap.objs.size (.tup xs),I1.laid (t':=s1.toks) (fun b u e=>q_c _ e) (q_t _) ?_,rfl,q _ hf⟩
 exact ⟨z,us,r,⟨_,q_k _ rfl,rfl,_,rfl⟩⟩
theorem JIR (h:PA X es t):PE X (.List es pos) (tLst t):=by
 intro pins s σ H Q I hq
 refine wpAny_List_spliced (thn (h pos pins s σ H _ I hq) fun us s1 ⟨xs,H1,I1,r,z,q⟩=>⟨by rw [<-r.length];exact z,?_⟩)
 have hf:H1 s1.heap.objs.size=none:=I1.hok.fresh (q_t _)
 refine ⟨.ref s1.heap.objs.size,upd H1 s1.heap.objs.size (.lst xs),I1.laid (t':=s1.toks) (fun b u e=>q_c _ e) (q_t _) ?_,rfl,q _ hf⟩
 exact ⟨z,us,0,r,q_k _ rfl⟩
end
noncomputable abbrev Sp:=List V->Hp->VK->XK->Prop
noncomputable abbrev CXT:=List Env->Hp->Shared->XK->Value->Shared->Prop
structure Env0 (P:Program) (w:World) (K:PySem.W.Frag) (mg:Str->Option Value) (base:Heap) (A:Around) (outer:List Env) (s:Shared) (H:Hp):Prop where
 frames:A.frames=some outer
 mod:Mod K mg base
 bs:∀b o,base.get? b=some o->s.heap.get? b=some o/\H b=none
 bsz:base.objs.size<=s.heap.objs.size
 funs:s.heap.FunFrames base outer
 frf:∀b∈frs outer,H b=none
 hok:HOk P w H s.heap
 bare:AllBare s.gens
noncomputable def CE (outer:List Env) (P:Program) (w:World) (H:Hp) (s:Shared) (Q:VK) (u:Value) (s':Shared):Prop :=
 ∃v H',s'.os=s.os/\AllBare s'.gens/\Un (frs outer) [] H H' s.heap s'.heap/\HOk P w H' s'.heap/\RelV v u/\Q v H'
noncomputable def CR (CX:CXT) (outer:List Env) (P:Program) (w:World) (H:Hp) (s:Shared) (Q:VK) (E:XK) (r:Result) (s':Shared):Prop :=
 match r with
 | .ok (.ret u)=>CE outer P w H s Q u s'
 | .ok _=>False
 | .error e=>CX outer H s E e s'
structure FnOk (P:Program) (w:World) (K:PySem.W.Frag) (mg:Str->Option Value) (base:Heap) (CX:CXT) (k:Nat) (f:Addr) (fd:FuncData) (ps:List Str) (sp:Sp):Prop where
 len:∀vs H Q E,sp vs H Q E->vs.length=ps.length
 run:∀(A:Around) (outer:List Env) (s:Shared) (H:Hp) (args:Args) (us:List Value) (vs:List V) (Q:VK) (E:XK),Room k A->Env0 P w K mg base A outer s H->BindsTo s fd args (ps.zip us)->Vals vs us->sp vs H Q E ->
  codeAny (model P w) A (.call (.ref f) args) (CR CX outer P w H s Q E) s
theorem FnOk.mono {P:Program} {w:World} {K:PySem.W.Frag} {mg:Str->Option Value} {base:Heap} {CX:CXT} {j k:Nat} {f:Addr} {fd:FuncData} {ps:List Str} {sp:Sp} (F:FnOk P w K mg base CX j f fd ps sp) (h:j<=k) :
 FnOk P w K mg base CX k f fd ps sp:=⟨F.len,fun A outer s H args us vs Q E hr=>F.run A outer s H args us vs Q E (hr.mono h)⟩
theorem FnOk.imp {P:Program} {w:World} {K:PySem.W.Frag} {mg:Str->Option Value} {base:Heap} {CX:CXT} {k:Nat} {f:Addr} {fd:FuncData} {ps:List Str} {sp sp':Sp} (F:FnOk P w K mg base CX k f fd ps sp)
  (h:∀vs H Q E,sp' vs H Q E->sp vs H Q E):FnOk P w K mg base CX k f fd ps sp' :=
 ⟨fun vs H Q E q=>F.len vs H Q E (h _ _ _ _ q),fun A outer s H args us vs Q E hr he hb hv hs=>F.run A outer s H args us vs Q E hr he hb hv (h _ _ _ _ hs)⟩
section
variable {X:Cx} {pins:List (Addr×Obj)} {σ:St} {H:Hp} {s s':Shared}
theorem Inv.env0 (I:Inv X pins σ H s):Env0 X.prog X.w X.K X.mg X.base X.A X.stack s H :=
 ⟨I.ok.frames,I.ok.mod,I.bs,Nat.le_trans I.ok.bsz I.sz,I.stack,I.stkFree,I.hok,I.bare⟩
theorem Inv.after {Q:VK} {u:Value} (I:Inv X pins σ H s) (h:CE X.stack X.prog X.w H s Q u s'):EP X pins σ Q u s':=by
 obtain ⟨v,H',os,bare,un,hok,r,q⟩:=h
 obtain ⟨hh,g,d,t,os'⟩:=s'
 obtain rfl:os'=s.os:=os
 exact ⟨v,H',I.call (h':=hh) (g':=g) (d':=d) (t':=t) (ch:=[]) un hok bare (fun b z=>absurd z (by simp)),r,q⟩
end
noncomputable def tCall (sp:Sp) (dvs:List V) (E:XK) (t:TA):TE:=fun σ H Q=>t σ H fun vs H1=>sp (vs++dvs) H1 Q E
noncomputable def Binds (K:PySem.W.Frag) (fd:FuncData) (ps:List Str) (ds:List Value):Prop :=
 ∀(s:Shared) (us:List Value),K.In s.heap->(us++ds).length=ps.length->BindsTo s fd ⟨us,[]⟩ (ps.zip (us++ds))
theorem Binds.all {K:PySem.W.Frag} {fd:FuncData} {ps:List Str} (h:∀us:List Value,us.length=ps.length->bindArgs fd ⟨us,[]⟩=pure (ps.zip us)):Binds K fd ps []:=fun s us _ hl=>by
 rw [List.append_nil] at hl ⊢
 exact .of_eq (h us hl)
noncomputable def JDd (CX:CXT) (X:Cx) (E:XK):Prop:=∀(pins:List (Addr×Obj)) (σ:St) (H:Hp) (s:Shared) (e:Value) (s':Shared),Inv X pins σ H s->CX X.stack H s E e s'->X.xe e s'
section
variable {X:Cx} {CX:CXT} {k:Nat} {f C:Addr} {fd:FuncData} {ps:List Str} {sp:Sp} {dvs:List V} {ds:List Value} {E:XK} {x m:Str} {p pos apos:Pos} {e o:Expr} {es:List Expr} {ta:TE} {t:TA}
theorem JNz {pins:List (Addr×Obj)} {σ:St} {H:Hp} {s:Shared} {Q:VK} {us:List Value} {vs:List V} (F:FnOk X.prog X.w X.K X.mg X.base CX k f fd ps sp) (hr:Room k X.A) (hb:Binds X.K fd ps ds) (hd:Vals dvs ds) (hx:JDd CX X E)
  (I:Inv X pins σ H s) (r:Vals vs us) (h:sp (vs++dvs) H Q E):wpAny (model X.prog X.w) X.A (call (.ref f) us) (EP X pins σ Q) X.xe s:=by
 have r2:Vals (vs++dvs) (us++ds):=r.append hd
 have hl:(us++ds).length=ps.length:=by rw [<-r2.length];exact F.len _ _ _ _ h
 refine wpAny_call (codeAny_mono (F.run X.A X.stack s H ⟨us,[]⟩ (us++ds) (vs++dvs) Q E hr I.env0 (hb s us I.kIn hl) r2 h) fun r s' hq=>?_)
 cases r with
 | error e=>exact hx pins σ H s e s' I hq
 | ok fl =>
  cases fl with
  | ret u=>exact I.after hq
  | next=>exact False.elim hq
  | brk=>exact False.elim hq
  | cont=>exact False.elim hq
theorem JNU (F:FnOk X.prog X.w X.K X.mg X.base CX k f fd ps sp) (hr:Room k X.A) (hg:Gl X x) (hm:X.mg x=some (.ref f)) (hk:PySem.W.keepIn X.K (.ref f)=true) (hb:Binds X.K fd ps ds) (hd:Vals dvs ds) (hx:JDd CX X E)
  (ha:PA X (e::es) t) (hdb:(x==("__debug__":Str))=false:=by decide) (he:starEach (e::es) X.env=(false,eval e X.env)::starEach es X.env:=by rfl) (hpl:(backTo pos (starEach es X.env)).any (·.1)=false:=by rfl) :
  PE X (.Call (.Name x p) (e::es) [] pos) (tCall sp dvs E t):=by
 intro pins s σ H Q I h
 refine wpAny_Call_Name_kw (JD6 I hg hm ?_ hdb)
 refine PySem.W.callWith_K (h₀:=X.base) I.ok.mod.kin hk (thn (ha pos pins s σ H _ I h) fun us s1 ⟨vs,H1,I1,r,q⟩=>⟨I1.kIn,?_⟩) he hpl
 exact JNz F hr hb hd hx I1 r q
end
section
variable {X:Cx} {CX:CXT} {k:Nat} {f C:Addr} {fd:FuncData} {ps ks:List Str} {sp:Sp} {E:XK} {x m:Str} {p pos apos kpos:Pos} {e o:Expr} {es:List Expr} {kws:List Keyword} {te ta:TE} {t tk:TA} {nm:Option Str}
variable {g:List Value->List Value->List Value} {gV:List V->List V->List V}
end
structure FnScope (N P:List Str) (sc:Scope):Prop where
 kind:sc.kind=.function
 co:sc.isCoroutine=false
 gen:sc.isGenerator=false
 nd:N.Nodup
 pre:N.take P.length=P
 par:∀x∈P,sc.names.lookup x=some .local\/sc.names.lookup x=some .cell
 nofree:∀y∈sc.names,y.2≠.free
theorem JFC {kindOf:Str->Option NameKind} {x:Str}:∀ {binds:List (Str×Value)} {m:Str->Option Value},(∀v,(x,v) ∉ binds)->bindL kindOf binds m x=m x
 | [],_,_=>rfl
 |(n,v)::r,m,h=>by
  unfold bindL
  rw [JFC fun w hw=>h w (q_s _ hw)]
  split
  · have:x≠n:=by rintro rfl;exact h v List.mem_cons_self
    simp [this]
  · rfl
theorem JEw {kindOf:Str->Option NameKind} {x:Str}:∀ {binds:List (Str×Value)} {m:Str->Option Value},(∀v,(x,v) ∉ binds)->bindC kindOf binds m x=m x
 | [],_,_=>rfl
 |(n,v)::r,m,h=>by
  unfold bindC
  rw [JEw fun w hw=>h w (q_s _ hw)]
  split
  · rfl
  · have:x≠n:=by rintro rfl;exact h v List.mem_cons_self
    simp [this]
theorem JE8 {kindOf:Str->Option NameKind} {x:Str} {v:Value}:∀ {P:List Str} {vs:List Value} {i:Nat} {m:Str->Option Value},P.Nodup->P[i]? = some x->vs[i]? = some v->kindOf x=some .local ->
  bindL kindOf (P.zip vs) m x=some v
 | [],_,_,_,_,h,_,_=>by simp at h
 | _::_,[],_,_,_,_,h,_=>by simp at h
 | p::P,w::vs,0,m,nd,h1,h2,hk=>by
  simp at h1 h2;subst h1;subst h2
  show bindL kindOf ((p,w)::P.zip vs) m p=_
  unfold bindL
  rw [JFC fun v hv=>(List.nodup_cons.mp nd).1 (List.of_mem_zip hv).1,if_pos hk]
  simp
 | p::P,w::vs,i+1,m,nd,h1,h2,hk=>by
  show bindL kindOf ((p,w)::P.zip vs) m x=_
  unfold bindL
  exact JE8 (i:=i) (List.nodup_cons.mp nd).2 (by simpa using h1) (by simpa using h2) hk
theorem JEp {kindOf:Str->Option NameKind} {x:Str} {v:Value}:∀ {P:List Str} {vs:List Value} {i:Nat} {m:Str->Option Value},P.Nodup->P[i]? = some x->vs[i]? = some v->kindOf x≠some .local ->
  bindC kindOf (P.zip vs) m x=some v
 | [],_,_,_,_,h,_,_=>by simp at h
 | _::_,[],_,_,_,_,h,_=>by simp at h
 | p::P,w::vs,0,m,nd,h1,h2,hk=>by
  simp at h1 h2;subst h1;subst h2
  show bindC kindOf ((p,w)::P.zip vs) m p=_
  unfold bindC
  rw [JEw fun v hv=>(List.nodup_cons.mp nd).1 (List.of_mem_zip hv).1,if_neg hk]
  simp
 | p::P,w::vs,i+1,m,nd,h1,h2,hk=>by
  show bindC kindOf ((p,w)::P.zip vs) m x=_
  unfold bindC
  exact JEp (i:=i) (List.nodup_cons.mp nd).2 (by simpa using h1) (by simpa using h2) hk
noncomputable def start (N:List Str) (vs:List V):St:=vs.map some++List.replicate (N.length - vs.length) none
noncomputable def cxOf (CX:CXT) (P:Program) (w:World) (K:PySem.W.Frag) (mg:Str->Option Value) (base:Heap) (N:List Str) (qual:Str) (scope:Scope) (f:Addr) (cd:Value) (A:Around) (outer:List Env) (s:Shared) (H:Hp) (E:XK):Cx where
 prog:=P
 w:=w
 K:=K
 mg:=mg
 base:=base
 A:=A.deeper (envOfC qual scope s.heap.objs.size f cd)
 N:=N
 s₀:=s
 H₀:=H
 env:=envOfC qual scope s.heap.objs.size f cd
 outer:=outer
 stack:=envOfC qual scope s.heap.objs.size f cd::outer
 ex:=[]
 calm:=true
 fn:=fun _=>true
 pn:=[]
 xe:=fun e s'=>wpAny (model P w) (A.deeper (envOfC qual scope s.heap.objs.size f cd)) (leaving (envOfC qual scope s.heap.objs.size f cd) e) (fun _ s''=>CX outer H s E e s'') (fun e' s''=>CX outer H s E e' s'') s'
theorem JFm {sc:Scope} {n:Nat} {x:Str} (h:sc.names.lookup x=some .cell):∃c,(cellsFrom n sc.names []).lookup x=some c:=by
 have q:=PySem.W.cellsFrom_some sc.names n [] (.inl h)
 exact Option.isSome_iff_exists.mp q
theorem JI0 {CX:CXT} {P:Program} {w:World} {K:PySem.W.Frag} {mg:Str->Option Value} {base:Heap} {N ps:List Str} {qual:Str} {scope:Scope} {f:Addr} {cd:Value} {A:Around} {outer:List Env} {s s1:Shared} {H:Hp} {E:XK} {us:List Value} {vs:List V}
  (S:FnScope N ps scope) (hd:A.handled=none) (e0:Env0 P w K mg base A outer s H) (hl:vs.length=ps.length) (r:Vals vs us)
  (x:InCallC s s.heap.objs.size (bindL (envOfC qual scope s.heap.objs.size f cd).kindOf (ps.zip us) fun _=>none) (cellsFrom (s.heap.objs.size+1) scope.names []) (bindC (envOfC qual scope s.heap.objs.size f cd).kindOf (ps.zip us) fun _=>none) s1) :
  Inv (cxOf CX P w K mg base N qual scope f cd A outer s H E) [] (start N vs) H s1:=by
 have hpl:ps.length<=N.length:=by have:=congrArg List.length S.pre;rw [List.length_take] at this;omega
 obtain ⟨h1,tk,rfl,hk⟩:=x.done
 have noA:∀b:Addr,b ∉ (cxOf CX P w K mg base N qual scope f cd A outer s H E).ex:=fun b z=>absurd (show b∈([]:List Addr) from z) (by simp)
 refine ⟨⟨e0.mod,S.kind,rfl,rfl,q_t _,fun y z c h1 h2=>?_,fun y hy=>?_,fun y c _ h=>?_,fun _=>hd,Around.frames_deeper e0.frames,.inr ⟨rfl,rfl⟩,fun b z=>absurd z (noA b),e0.bs,e0.bsz,fun b _ _=>noA b,fun b z=>absurd z (noA b),e0.funs,e0.frf⟩,
  rfl,e0.bare,Un.kept hk,⟨_,x.toInCall.ns,fun i y v h1 h2 h3=>?_⟩,fun y c h=>⟨_,x.cell y c h⟩,e0.hok.fresh (q_t _),fun y c h=>?_,fun p hp=>absurd (show p∈([]:List (Addr×Obj)) from hp) (by simp),e0.hok.kept hk,?_⟩
 ·exact name_of_addr x.apart (PySem.mem_of_lookup h1) (PySem.mem_of_lookup h2)
 ·have hy:scope.names.lookup y=some .cell\/scope.names.lookup y=some .free:=hy
  rcases hy with hy | hy
  · exact JFm hy
  · exact absurd rfl (S.nofree _ (PySem.mem_of_lookup hy))
 ·exact Nat.le_of_lt (x.above y c (PySem.mem_of_lookup h))
 ·have hi:i<vs.length:=by
    unfold start at h2
    by_cases hi:i<vs.length
    ·exact hi
    ·rw [List.getElem?_append_right (by simpa using hi)] at h2
     rw [List.getElem?_replicate] at h2
     split at h2<;>cases h2
  have ha:vs[i]? = some v:=by
    unfold start at h2
    rw [q_B (by simpa using hi),List.getElem?_map] at h2
    cases e:vs[i]? with
    | none=>rw [e] at h2;cases h2
    | some a=>rw [e] at h2;cases h2;rfl
  obtain ⟨u,hu,rv⟩:=r.get ha
  have hp:ps[i]? = some y:=by
    rw [<-S.pre,List.getElem?_take_of_lt (by omega)];exact h1
  have ndP:ps.Nodup:=by rw [<-S.pre];exact S.nd.sublist (List.take_sublist _ _)
  refine ⟨u,rv,?_⟩
  rcases S.par y (List.mem_of_getElem? hp) with k | k
  · exact .inl ⟨k,JE8 ndP hp hu k⟩
  · obtain ⟨c,e⟩:=JFm (n:=s.heap.objs.size+1) k
    refine .inr ⟨.inl k,c,e,?_⟩
    have q:=x.cell y c e
    rw [JEp ndP hp hu (by show scope.names.lookup y≠_;rw [k];decide)] at q
    exact q
 ·exact e0.hok.fresh (Nat.le_of_lt (x.above y c (PySem.mem_of_lookup h)))
 ·unfold start
  show _=N.length
  rw [q_u,q_g,List.length_replicate]
  omega
theorem JPY {CX:CXT} {P:Program} {w:World} {K:PySem.W.Frag} {mg:Str->Option Value} {base:Heap} {k:Nat} {f:Addr} {name qual:Str} {params:Arguments} {body:List Stmt} {scope:Scope} {dV kV doc pm cdv ct oc:Value} {an od:Option Addr}
  {osl:Array (Option Value)} {N ps:List Str} {sp:Sp} (lk:K.lookup f=some ⟨oc,od,.func (PySem.W.fnOf name qual params body scope dV kV doc pm an cdv ct),osl⟩) (hcd:PySem.W.codeIn K cdv qual=true) (S:FnScope N ps scope)
  (len:∀vs H Q E,sp vs H Q E->vs.length=ps.length)
  (hbody:∀(A:Around) (outer:List Env) (s:Shared) (H:Hp) (vs:List V) (Q:VK) (E:XK),Room k (A.deeper (envOfC qual scope s.heap.objs.size f cdv))->sp vs H Q E ->
    ∃t,PSs (cxOf CX P w K mg base N qual scope f cdv A outer s H E) body t/\t { nx:=fun _ H'=>Q .non H',rt:=Q } (start N vs) H) :
  FnOk P w K mg base CX (k+1) f (PySem.W.fnOf name qual params body scope dV kV doc pm an cdv ct) ps sp:=by
 refine ⟨len,fun A outer s H args us vs Q E hr e0 hb r hsp=>?_⟩
 have hl:=len _ _ _ _ hsp
 have KX:K.In s.heap:=e0.mod.kin.keeps fun b o e=>(e0.bs b o e).1
 have lim:s.heap.NoLimit:=e0.mod.nolimit.keeps fun b o e=>(e0.bs b o e).1
 have hkind:∀y∈ps.zip us,scope.names.lookup y.1=some .local\/(scope.names.lookup y.1=some .cell/\((cellsFrom (s.heap.objs.size+1) scope.names []).lookup y.1).isSome=true):=fun ⟨n,v⟩ hy=>by
  rcases S.par n (List.of_mem_zip hy).1 with q | q
  · exact .inl q
  · exact .inr ⟨q,PySem.W.cellsFrom_some _ _ _ (.inl q)⟩
 refine codeAny_call_function hr.depth (KX _ _ lk) rfl S.co S.gen rfl (PySem.W.codeRec_of KX hcd) (hb _ _ _ _ ?_)
 refine wpAny_newFunctionEnv_cells S.kind hkind fun env he s1 x=>?_
 subst he
 refine ⟨lim.keeps x.toInCall.keep,codeAny_func ?_⟩
 obtain ⟨t,ht,hq⟩:=hbody A outer s H vs Q E (hr.deeper _) hsp
 have I:Inv (cxOf CX P w K mg base N qual scope f cdv A outer s H E) [] (start N vs) H s1:=JI0 S hr.hd e0 hl r x
 refine wpAny_mono (ht [] s1 (start N vs) H _ I hq) (fun fl s' hs=>?_) fun e s' hs=>hs
 have fin:∀ {σ':St} {H':Hp} {v:V} {u:Value},Inv (cxOf CX P w K mg base N qual scope f cdv A outer s H E) [] σ' H' s'->RelV v u->Q v H'->CE outer P w H s Q u s' :=
  fun {σ' H' v u} J rv q=>⟨v,H',J.os,J.bare,J.base,J.hok,rv,q⟩
 cases fl with
 | ret u =>
  obtain ⟨v,σ',H',J,rv,q⟩:=hs
  exact fin J rv q
 | next =>
  obtain ⟨σ',H',J,q⟩:=hs
  exact fin (v:=V.non) (u:=Value.none) J rfl q
 | brk =>
  obtain ⟨_,_,_,q⟩:=hs
  exact False.elim q
 | cont =>
  obtain ⟨_,_,_,q⟩:=hs
  exact False.elim q
end L2
namespace L2
open PySem PySem.Spec PyProof.Rows
section
variable {X:Cx} {x:Str} {p pos:Pos} {e:Expr} {es:List Expr} {t:TA} {id T:String} {r:List V->Hp->VK->Prop}
noncomputable def tCB (r:List V->Hp->VK->Prop) (t:TA):TE:=fun σ H Q=>t σ H fun vs H1=>r vs H1 Q
theorem JDj (hc:CallR X (.builtin id) r) (hg:Gl X x) (hm:X.mg x=none) (hv:bootBuiltins x=some (.builtin id)) (ha:PA X (e::es) t) (hn:x≠"__name__":=by decide) (hdb:(x==("__debug__":Str))=false:=by decide)
  (he:starEach (e::es) X.env=(false,eval e X.env)::starEach es X.env:=by rfl) (hpl:(backTo pos (starEach es X.env)).any (·.1)=false:=by rfl):PE X (.Call (.Name x p) (e::es) [] pos) (tCB r t):=by
 intro pins s σ H Q I h
 refine wpAny_Call_Name_kw (JDc I hg hm hv ?_ hn hdb)
 exact PyProof.Rows.callWith_builtin1 (thn (ha pos pins s σ H _ I h) fun us s1 ⟨vs,H1,I1,r1,q1⟩=>hc pins s1 σ H1 vs us Q I1 r1 q1) he hpl
theorem JEf (hc:CallR X (.type T) r) (hg:Gl X x) (hm:X.mg x=none) (hv:bootBuiltins x=some (.type T)) (ha:PA X (e::es) t) (hn:x≠"__name__":=by decide) (hdb:(x==("__debug__":Str))=false:=by decide)
  (he:starEach (e::es) X.env=(false,eval e X.env)::starEach es X.env:=by rfl) (hpl:(backTo pos (starEach es X.env)).any (·.1)=false:=by rfl):PE X (.Call (.Name x p) (e::es) [] pos) (tCB r t):=by
 intro pins s σ H Q I h
 refine wpAny_Call_Name_kw (JDc I hg hm hv ?_ hn hdb)
 exact PyProof.Rows.callWith_type1 (thn (ha pos pins s σ H _ I h) fun us s1 ⟨vs,H1,I1,r1,q1⟩=>hc pins s1 σ H1 vs us Q I1 r1 q1) he hpl
end
end L2
namespace HT
open PySem PyProof.Rows
section
open PySem.SeqAt
open PySem.AutoSeq1 (wpAny_loadPart')
open PySem.MeetsSeq PySem.MeetsSeq2 PySem.MeetsSeq3
end
section
variable {prog:Program} {w:World} {A:Around} {E:Value->Shared->Prop} {s:Shared}
theorem cat_tup {t b:Addr} {vs ws:List Value} {Q:Value->Shared->Prop} (ht:IsTup s.heap t vs.toArray) (hb:IsTup s.heap b ws.toArray) (hv:vs≠[])
  (h1:ws=[]->Q (.ref t) s) (h2:ws≠[]->Q (.ref s.heap.objs.size) { s with heap:=s.heap.push { cls:=.type "tuple",data:=.seq (vs++ws).toArray } })
  (hsz:vs.length+ws.length<=sizeLine):wpAny (model prog w) A (binaryOp .Add (.ref t) (.ref b)) Q E s:=by
 obtain ⟨⟨cls,dd,data,sl⟩,ho,hc,n,hd⟩:=id ht
 obtain ⟨⟨cls2,dd2,data2,sl2⟩,ho2,hc2,n2,hd2⟩:=id hb
 simp only at hc hd hc2 hd2
 subst hc hd hc2 hd2
 have e:vs.toArray++ws.toArray=(vs++ws).toArray:=by simp
 by_cases hw:ws=[]
 ·exact concat_meets ⟨_,ho,rfl⟩ ⟨_,ho2,rfl⟩ noFill_tuple_add seq_tuple_add PySem.F.slot_tuple_add PySem.F.entry_tuple_add (PySem.F.args_tuple_add_2 _ _)
    (tuple_addW1 t b vs.toArray ws.toArray n n2 dd dd2 sl sl2 (by simpa using hv) (by simp [hw])) ⟨ho,ho2,h1 hw⟩
 ·refine concat_meets ⟨_,ho,rfl⟩ ⟨_,ho2,rfl⟩ noFill_tuple_add seq_tuple_add PySem.F.slot_tuple_add PySem.F.entry_tuple_add (PySem.F.args_tuple_add_2 _ _)
    (tuple_addW2 t b vs.toArray ws.toArray n n2 dd dd2 sl sl2 (by simpa using hv) (by simpa using hw) (by rw [q_f,q_f];exact hsz)) ⟨ho,ho2,?_⟩
  rw [e]
  exact h2 hw
noncomputable def sIx (n d:Nat):Option Int->Nat
 | none=>d
 | some v=>if v<0 then (v+(n:Int)).toNat else min v.toNat n
theorem JOB (n d:Nat) (hd:d<=n) (o:Option Int):sIx n d o<=n:=by
 cases o with
 | none=>exact hd
 | some v =>
  show (if v<0 then (v+(n:Int)).toNat else min v.toNat n)<=n
  by_cases hv:v<0
  ·rw [if_pos hv];omega
  ·rw [if_neg hv];exact Nat.min_le_right _ _
theorem JIP (v:Int) (n d:Nat):(if v<0 then max (v+(n:Int)) 0 else min v (n:Int))=((sIx n d (some v):Nat):Int):=by
 show (if v<0 then max (v+(n:Int)) 0 else min v (n:Int))=(((if v<0 then (v+(n:Int)).toNat else min v.toNat n):Nat):Int)
 by_cases hv:v<0
 ·simp only [if_pos hv];omega
 ·simp only [if_neg hv];omega
theorem JGm (lo hi:Option Int) (n:Nat):Builtin.Slice.sliceAdjust lo hi 1 (n:Int)=(((sIx n 0 lo:Nat):Int),((sIx n n hi:Nat):Int)):=by
 have h1:¬((1:Int)<0):=by omega
 unfold Builtin.Slice.sliceAdjust
 simp only [h1,if_false]
 refine Prod.ext ?_ ?_
 ·cases lo with
  | none=>rfl
  | some v=>exact JIP v n 0
 ·cases hi with
  | none=>rfl
  | some v=>exact JIP v n n
theorem JGu (i j:Nat):Builtin.Slice.slicePlaces (i:Int) (j:Int) 1=j - i:=by
 unfold Builtin.Slice.slicePlaces
 have h1:(1:Int) > 0:=by omega
 simp only [h1,if_true,Int.ediv_one]
 split<;>omega
theorem JDP {v:Value} {o:Option Int} {Q:Option Int->Shared->Prop} (p:IsPart v o) (h:Q o s):wpAny (model prog w) A (Builtin.Slice.slicePartIndex v) Q E s:=by
 cases p with
 | none=>exact slicePart_none h
 | int i t=>exact slicePart_int h
theorem sliceApplied_gen {sl:Addr} {vl vu:Value} {lo hi:Option Int} {n:Nat} {Q:Int×Int×Nat->Shared->Prop} (hs:s.heap.IsSliceOf sl vl vu .none) (pl:IsPart vl lo) (pu:IsPart vu hi)
  (h:Q (((sIx n 0 lo:Nat):Int),1,sIx n n hi - sIx n 0 lo) s):wpAny (model prog w) A (Builtin.Slice.sliceApplied (.ref sl) (pure (n:Int))) Q E s:=by
 obtain ⟨os,hos,hcs,hds⟩:=id hs
 unfold Builtin.Slice.sliceApplied Builtin.Slice.sliceFields
 refine q_b (q_b (wpAny_field hos hds (x:=vl) rfl (q_b (wpAny_field hos hds (x:=vu) rfl (q_b (wpAny_field hos hds (x:=.none) rfl (q_e ?_)))))))
 refine q_b (slicePart_none ?_)
 show wpAny _ _ (if ((1:Int)==0)=true then _ else _) _ _ s
 rw [if_neg (by decide)]
 refine q_b (JDP pl (q_b (JDP pu (q_b (q_e ?_)))))
 show wpAny _ _ (match Builtin.Slice.sliceAdjust lo hi 1 (n:Int) with | (lo,hi)=>pure (lo,(1:Int),Builtin.Slice.slicePlaces lo hi 1)) _ _ s
 rw [JGm lo hi n]
 show wpAny _ _ (pure (((sIx n 0 lo:Nat):Int),(1:Int),Builtin.Slice.slicePlaces ((sIx n 0 lo:Nat):Int) ((sIx n n hi:Nat):Int) 1)) _ _ s
 rw [JGu]
 exact q_e h
theorem JJM (xs:Array Value) (i k:Nat):((List.range k).filterMap fun (m:Nat)=>xs[((i:Int)+(m:Int)*1).toNat]?).toArray=((xs.toList.drop i).take k).toArray:=by
 have e:(fun (m:Nat)=>xs[((i:Int)+(m:Int)*1).toNat]?)=fun m=>xs[i+m]?:=by
  funext m
  have:((i:Int)+(m:Int)*1).toNat=i+m:=by omega
  rw [this]
 rw [e]
 have:=pick_run xs i k
 rw [List.filterMap_map] at this
 have e2:((fun x=>xs[x]?) ∘ fun x=>i+x)=fun m=>xs[i+m]?:=rfl
 rw [e2] at this
 rw [this]
theorem getItem_tuple_cut {t sl:Addr} {items:Array Value} {vl vu:Value} {lo hi:Option Int} {Q:Value->Shared->Prop} (ht:IsTup s.heap t items) (hs:s.heap.IsSliceOf sl vl vu .none) (pl:IsPart vl lo) (pu:IsPart vu hi)
  (hw:¬(sIx items.size 0 lo=0/\sIx items.size items.size hi=items.size))
  (h:Q (.ref s.heap.objs.size) { s with heap:=s.heap.push { cls:=.type "tuple",data:=.seq ((items.toList.drop (sIx items.size 0 lo)).take (sIx items.size items.size hi - sIx items.size 0 lo)).toArray } })
  (hsz:items.size<=sizeLine):wpAny (model prog w) A (getItem (.ref t) (.ref sl)) Q E s:=by
 have htake:sizeOk (.seq ((items.toList.drop (sIx items.size 0 lo)).take (sIx items.size items.size hi - sIx items.size 0 lo)).toArray):=by
  show ((items.toList.drop (sIx items.size 0 lo)).take (sIx items.size items.size hi - sIx items.size 0 lo)).toArray.size<=sizeLine
  rw [q_f,List.length_take,List.length_drop,q_E]
  omega
 have hj:sIx items.size items.size hi<=items.size:=JOB _ _ (q_t _) hi
 obtain ⟨os,hos,hcs,hds⟩:=id hs
 have hTs:s.TypeIs (.ref sl) "slice":=⟨os,hos,hcs⟩
 unfold getItem
 try with_reducible refine wpAny_holding ?_
 first | refine q_b (q_e ?_) | skip
 refine q_b (wpAny_sequenceKey ht.typeIs (by decide) ?_)
 refine q_b (wpAny_callSpecial?_slot (name:=Str.ofString "__getitem__") ht.typeIs PyProof.Rows.slot_tuple_getitem
  (wpAny_call_entry PyProof.Rows.slot_tuple_getitem ht.typeIs entry_tuple_getitem ?_ (args_tuple_getitem _ _)))
 show wpAny _ _ (Builtin.Tuple.tupleItemsOf (.ref t) >>= _) _ _ s
 refine q_b (tupleItemsOf_ ht ?_)
 refine q_b (wpAny_typeOf hTs ?_)
 rw [if_pos (by decide)]
 refine q_b (sliceApplied_gen hs pl pu ?_)
 have hno:¬((((sIx items.size 0 lo:Nat):Int)==0&&(1:Int)==1&&(sIx items.size items.size hi - sIx items.size 0 lo)==items.size)=true):=by
  intro q
  rw [q_i,q_i] at q
  have q1:((sIx items.size 0 lo:Nat):Int)=0:=eq_of_beq q.1.1
  have q2:sIx items.size items.size hi - sIx items.size 0 lo=items.size:=eq_of_beq q.2
  exact hw ⟨by omega,by omega⟩
 show wpAny _ _ (if (((sIx items.size 0 lo:Nat):Int)==0&&(1:Int)==1&&(sIx items.size items.size hi - sIx items.size 0 lo)==items.size)=true then _ else _) _ _ s
 rw [if_neg hno,JJM]
 first
  | exact q_b (m:=Builtin.Tuple.tupleExact _) (wpAny_newObj_type (q_e ⟨_,rfl,q_e h⟩) htake)
  | exact q_b (m:=Builtin.Tuple.tupleExact _) (wpAny_newObj_type (q_b (q_e (q_e ⟨_,rfl,q_e h⟩))) htake)
  | exact q_b (q_b (m:=Builtin.Tuple.tupleExact _) (wpAny_newObj_type (q_e (q_e ⟨_,rfl,q_e h⟩)) htake))
  | exact q_b (q_b (m:=Builtin.Tuple.tupleExact _) (wpAny_newObj_type (q_e ⟨_,rfl,q_e h⟩) htake))
end
end HT
namespace L2
open PySem PySem.Spec PyProof.Rows
noncomputable abbrev TO:=St->Hp->(Option Int->Hp->Prop)->Prop
noncomputable def PO (X:Cx) (e:Option Expr) (t:TO):Prop :=
 ∀(pins:List (Addr×Obj)) (s:Shared) (σ:St) (H:Hp) (Q:Option Int->Hp->Prop),Inv X pins σ H s->t σ H Q ->
  wpAny (model X.prog X.w) X.A (evalPart e X.env) (fun u s'=>∃o H',Inv X pins σ H' s'/\IsPart u o/\Q o H') X.xe s
noncomputable def JME:TO:=fun _ H Q=>Q none H
noncomputable def tPart (t:TE):TO:=fun σ H Q=>t σ H fun x H1=>∃i,x=.int i/\Q (some i) H1
section
variable {X:Cx} {e:Expr} {te:TE} {lo hi:Option Expr} {tl th:TO} {pos p2:Pos}
theorem JNF:PO X none JME:=by
 intro pins s σ H Q I h
 rw [evalPart_none]
 exact q_e ⟨none,H,I,.none,h⟩
theorem JIs (h:PE X e te):PO X (some e) (tPart te):=by
 intro pins s σ H Q I hw
 rw [evalPart_some]
 refine thn (h pins s σ H _ I hw) fun u s1 ⟨x,H1,I1,r1,q1⟩=>?_
 obtain ⟨i,rfl,q⟩:=q1
 obtain ⟨t,rfl⟩:=r1
 exact ⟨some i,H1,I1,.int i t,q⟩
noncomputable def SlR (X:Cx) (r:V->Option Int->Option Int->Hp->VK->Prop):Prop :=
 ∀(pins:List (Addr×Obj)) (s:Shared) (σ:St) (H:Hp) (x:V) (v vl vu:Value) (lo hi:Option Int) (sl:Addr) (Q:VK),Inv X pins σ H s->RelV x v->s.heap.IsSliceOf sl vl vu .none->IsPart vl lo->IsPart vu hi->r x lo hi H Q ->
  ∃T id,typeLookup (.type T) "__getitem__"=pure (some (.builtin id))/\s.TypeIs v T/\wpAny (model X.prog X.w) X.A (getItem v (.ref sl)) (EP X pins σ Q) X.xe s
theorem SlR.or {r r':V->Option Int->Option Int->Hp->VK->Prop} (h:SlR X r) (h':SlR X r'):SlR X (fun x lo hi H Q=>r x lo hi H Q\/r' x lo hi H Q):=by
 intro pins s σ H x v vl vu lo hi sl Q I rx hs pl pu q
 rcases q with q | q
 ·exact h pins s σ H x v vl vu lo hi sl Q I rx hs pl pu q
 ·exact h' pins s σ H x v vl vu lo hi sl Q I rx hs pl pu q
noncomputable def tSl (r:V->Option Int->Option Int->Hp->VK->Prop) (te:TE) (tl th:TO):TE:=fun σ H Q=>te σ H fun x H1=>tl σ H1 fun l H2=>th σ H2 fun u H3=>r x l u H3 Q
theorem JKO {r:V->Option Int->Option Int->Hp->VK->Prop} (hr:SlR X r) (he:PE X e te) (hl:PO X lo tl) (hu:PO X hi th):PE X (.Subscript e (.Slice lo hi none p2) pos) (tSl r te tl th):=by
 intro pins s σ H Q I h
 refine Subscript_ (thn (he pins s σ H _ I h) fun v s1 ⟨x,H1,I1,r1,q1⟩=>?_)
 refine wpAny_Slice (thn (hl pins s1 σ H1 _ I1 q1) fun vl s2 ⟨l,H2,I2,pl,q2⟩=>thn (hu pins s2 σ H2 _ I2 q2) fun vu s3 ⟨u,H3,I3,pu,q3⟩=>?_)
 rw [evalPart_none]
 refine q_e ?_
 have I4:Inv X pins σ H3 { s3 with heap:=s3.heap.push { cls:=.type "slice",data:=.fields #[vl,vu,.none] } }:=I3.kept (t':=s3.toks) fun b ob q=>q_c _ q
 obtain ⟨T,id,hT,ht,hg⟩:=hr pins { s3 with heap:=s3.heap.push { cls:=.type "slice",data:=.fields #[vl,vu,.none] } } σ H3 x v vl vu l u s3.heap.objs.size Q I4 r1 (Heap.IsSliceOf.new ..) pl pu q3
 show wpAny (model X.prog X.w) X.A (subscriptTail e (.Slice lo hi none p2) v (.ref s3.heap.objs.size)) (EP X pins σ Q) X.xe { s3 with heap:=s3.heap.push { cls:=.type "slice",data:=.fields #[vl,vu,.none] } }
 exact tail_any (ops:=[.ref s3.heap.objs.size,v]) ht hT hg (by with_unfolding_all rfl)
noncomputable def cutV (xs:List V) (lo hi:Option Int):List V:=(xs.drop (HT.sIx xs.length 0 lo)).take (HT.sIx xs.length xs.length hi - HT.sIx xs.length 0 lo)
theorem JC7 (xs:List V) (lo hi:Option Int):(cutV xs lo hi).length<=xs.length:=by
 unfold cutV
 rw [List.length_take,List.length_drop]
 omega
noncomputable def rSlT (K:PySem.W.Frag):V->Option Int->Option Int->Hp->VK->Prop:=fun x lo hi H Q=>∃a xs,x=.ref a/\SqT K H a xs /\
 ¬(HT.sIx xs.length 0 lo=0/\HT.sIx xs.length xs.length hi=xs.length)/\∀p,H p=none->Q (.ref p) (upd H p (.tup (cutV xs lo hi)))
theorem JPq:SlR X (rSlT X.K):=by
 intro pins s σ H x v vl vu lo hi sl Q I rx hs pl pu h
 obtain ⟨a,xs,rfl,hx,hw,q⟩:=h
 cases rx
 obtain ⟨its,r,ht,hz⟩:=I.tuple hx
 have hlen:its.toArray.size=xs.length:=by rw [q_f];exact r.length.symm
 refine ⟨"tuple",_,PyProof.Rows.slot_tuple_getitem.lookup,ht.typeIs,?_⟩
 refine HT.getItem_tuple_cut ht hs pl pu (by rw [hlen];exact hw) ?_ (by rw [hlen];exact hz)
 rw [hlen]
 refine ⟨.ref s.heap.objs.size,_,I.laid (t':=s.toks) (o:=.tup (cutV xs lo hi)) (fun b ob q=>q_c _ q) (q_t _) ?_,rfl,q _ (I.hok.fresh (q_t _))⟩
 exact ⟨Nat.le_trans (JC7 xs lo hi) hz,_,(r.drop (HT.sIx xs.length 0 lo)).take (HT.sIx xs.length xs.length hi - HT.sIx xs.length 0 lo),IsTup.new _ _⟩
noncomputable def rCatT (K:PySem.W.Frag):R2:=fun x y H Q=>∃a b xs ys,x=.ref a/\y=.ref b/\SqT K H a xs/\SqT K H b ys/\xs≠[]/\xs.length+ys.length<=sizeLine /\
 (ys=[]->Q (.ref a) H)/\(ys≠[]->∀p,H p=none->Q (.ref p) (upd H p (.tup (xs++ys))))
theorem Vals.nil_iff {xs:List V} {us:List Value} (r:Vals xs us):us=[]↔xs=[]:=by
 cases r with
 | nil=>simp
 | cons _ _=>simp
theorem JNB:OpR X (binaryOp .Add) (rCatT X.K):=by
 intro pins s σ H x y v u Q I rx ry h
 obtain ⟨a,b,xs,ys,rfl,rfl,ha,hb,hx,hz,q1,q2⟩:=h
 cases rx
 cases ry
 obtain ⟨its,r1,p1,_⟩:=I.tuple ha
 obtain ⟨its2,r2,p2,_⟩:=I.tuple hb
 refine HT.cat_tup p1 p2 (fun z=>hx (r1.nil_iff.mp z)) (fun z=>⟨.ref a,H,I,rfl,q1 (r2.nil_iff.mp z)⟩) (fun z=>?_) (by rw [<-r1.length,<-r2.length];exact hz)
 refine ⟨.ref s.heap.objs.size,_,I.laid (t':=s.toks) (o:=.tup (xs++ys)) (fun b ob q=>q_c _ q) (q_t _) ?_,rfl,q2 (fun w=>z (r2.nil_iff.mpr w)) _ (I.hok.fresh (q_t _))⟩
 exact ⟨by rw [q_u];exact hz,_,r1.append r2,IsTup.new _ _⟩
end
end L2
namespace L2
open PySem PySem.Spec PyProof.Rows
noncomputable def ixN (n:Nat) (i:Int):Option Nat:=if 0<=i then (if i<n then some i.toNat else none) else if -(n:Int)<=i then some (i+n).toNat else none
noncomputable def atI {α:Type} (xs:List α) (i:Int):Option α:=(ixN xs.length i).bind fun j=>xs[j]?
theorem JND {n:Nat} {i:Int} {j:Nat} (h:ixN n i=some j):seqIndex? i n=some j/\j<n/\-(n:Int)<=i/\i<n:=by
 unfold ixN at h
 by_cases h0:0<=i
 ·rw [if_pos h0] at h
  by_cases h1:i<n
  ·rw [if_pos h1] at h
   have e:i.toNat=j:=Option.some.inj h
   exact ⟨by rw [seqIndex_of h0 h1,e],by omega,by omega,h1⟩
  ·rw [if_neg h1] at h;cases h
 ·rw [if_neg h0] at h
  by_cases h1:-(n:Int)<=i
  ·rw [if_pos h1] at h
   have e:(i+n).toNat=j:=Option.some.inj h
   exact ⟨by rw [seqIndex_neg (by omega) h1,e],by omega,h1,by omega⟩
  ·rw [if_neg h1] at h;cases h
theorem JFe {α:Type} {xs:List α} {i:Int} {v:α} (h:atI xs i=some v):∃j,seqIndex? i xs.length=some j/\xs[j]? = some v/\j<xs.length/\-(xs.length:Int)<=i/\i<xs.length:=by
 unfold atI at h
 cases e:ixN xs.length i with
 | none=>rw [e] at h;cases h
 | some j =>
  rw [e] at h
  obtain ⟨h1,h2,h3,h4⟩:=JND e
  exact ⟨j,h1,h,h2,h3,h4⟩
noncomputable def JHS (b:Expr):Prop:=∀o i,subscripted b false o i=operate [o,i] (getItem o i)
noncomputable def IxR (X:Cx) (r:R2):Prop :=
 ∀(value slice:Expr) (pins:List (Addr×Obj)) (s:Shared) (σ:St) (H:Hp) (x y:V) (v u:Value) (Q:VK),Inv X pins σ H s->RelV x v->RelV y u->r x y H Q ->
  subscripted slice false v u=operate [v,u] (getItem v u)->wpAny (model X.prog X.w) X.A (subscriptTail value slice v u) (EP X pins σ Q) X.xe s
noncomputable def MtR (X:Cx) (id:String) (r:V->List V->Hp->VK->Prop):Prop :=
 ∀(pins:List (Addr×Obj)) (s:Shared) (σ:St) (H:Hp) (x:V) (xs:List V) (v:Value) (us:List Value) (Q:VK),Inv X pins σ H s->RelV x v->Vals xs us->r x xs H Q ->
  wpAny (model X.prog X.w) X.A (call (.builtin id) (v::us)) (EP X pins σ Q) X.xe s
section
variable {X:Cx} {a b:Expr} {ta tb:TE} {pos:Pos}
theorem IxR.or {r r':R2} (h:IxR X r) (h':IxR X r'):IxR X (fun x y H Q=>r x y H Q\/r' x y H Q):=by
 intro value slice pins s σ H x y v u Q I rx ry q hs
 rcases q with q | q
 ·exact h value slice pins s σ H x y v u Q I rx ry q hs
 ·exact h' value slice pins s σ H x y v u Q I rx ry q hs
theorem MtR.or {id:String} {r r':V->List V->Hp->VK->Prop} (h:MtR X id r) (h':MtR X id r'):MtR X id (fun x xs H Q=>r x xs H Q\/r' x xs H Q):=by
 intro pins s σ H x xs v us Q I rx rs q
 rcases q with q | q
 ·exact h pins s σ H x xs v us Q I rx rs q
 ·exact h' pins s σ H x xs v us Q I rx rs q
theorem pe_ix {r:R2} (hr:IxR X r) (ha:PE X a ta) (hb:PE X b tb) (hs:JHS b):PE X (.Subscript a b pos) (tOp r ta tb):=by
 intro pins s σ H Q I h
 exact Subscript_ (binT ha hb I h fun v u s2 x y H2 I2 rx ry q=>hr a b pins s2 σ H2 x y v u Q I2 rx ry q (hs _ _))
noncomputable def rIxL (K:PySem.W.Frag):R2:=fun x y H Q=>∃p xs i v,x=.ref p/\y=.int i/\SqL K H p xs/\atI xs i=some v/\Q v H
noncomputable def rIxT (K:PySem.W.Frag):R2:=fun x y H Q=>∃p xs i v,x=.ref p/\y=.int i/\SqT K H p xs/\atI xs i=some v/\Q v H
noncomputable def rIxS:R2:=fun x y H Q=>∃z i c,x=.str z/\y=.int i/\z.length<=sizeLine/\atI z.cps.toList i=some c/\Q (.str ⟨#[c]⟩) H
theorem ix_list:IxR X (rIxL X.K):=by
 intro value slice pins s σ H x y v u Q I rx ry h hs
 obtain ⟨p,xs,i,z,rfl,rfl,hq,he,q⟩:=h
 cases rx
 obtain ⟨t,rfl⟩:=ry
 obtain ⟨its,r,pl,hz⟩:=I.list hq
 obtain ⟨j,h1,h2,h3,h4,h5⟩:=JFe he
 obtain ⟨w,ew,rw'⟩:=r.get h2
 have hl:=r.length
 have hn:=JFA
 have fin:EP X pins σ Q w s:=⟨z,H,I,rw',q⟩
 by_cases h0:0<=i
 ·have hj:i.toNat=j:=by
   rw [seqIndex_of h0 h5] at h1
   exact Option.some.inj h1
  exact item_listR pl.isList h0 (by omega) (by rw [hj];simpa using ew) fin hs
 ·have hj:(i+(its.toArray.size:Int)).toNat=j:=by
   rw [seqIndex_neg (by omega) h4] at h1
   rw [q_f,<-hl]
   exact Option.some.inj h1
  exact subscriptTail_builtinR (x:=w) pl.isList.typeIs slot_list_getitem.lookup
   (wpAny_getItem_list_neg (Q:=fun r s'=>r=w/\EP X pins σ Q r s') pl.isList (by omega) (by rw [q_f]<;>omega) (by omega) (by rw [hj];simpa using ew) ⟨rfl,fin⟩) hs
theorem ix_tup:IxR X (rIxT X.K):=by
 intro value slice pins s σ H x y v u Q I rx ry h hs
 obtain ⟨p,xs,i,z,rfl,rfl,hq,he,q⟩:=h
 cases rx
 obtain ⟨t,rfl⟩:=ry
 obtain ⟨its,r,pl,hz⟩:=I.tuple hq
 obtain ⟨j,h1,h2,h3,h4,h5⟩:=JFe he
 obtain ⟨w,ew,rw'⟩:=r.get h2
 have hl:=r.length
 have hn:=JFA
 have fin:EP X pins σ Q w s:=⟨z,H,I,rw',q⟩
 exact subscriptTail_builtinR (x:=w) pl.typeIs slot_tuple_getitem.lookup
  (getItem_tuple (j:=j) (Q:=fun r s'=>r=w/\EP X pins σ Q r s') pl (by omega) (by omega) (by rw [q_f,<-hl];exact h1) (by simpa using ew) ⟨rfl,fin⟩) hs
theorem JPK:IxR X rIxS:=by
 intro value slice pins s σ H x y v u Q I rx ry h hs
 obtain ⟨z,i,c,rfl,rfl,hz,he,q⟩:=h
 obtain ⟨t,rfl⟩:=rx
 obtain ⟨t',rfl⟩:=ry
 obtain ⟨j,h1,h2,h3,h4,h5⟩:=JFe he
 have hl:z.cps.toList.length=z.length:=by simp [Str.length]
 rw [hl] at h1 h4 h5
 have hn:=JFA
 exact tail_any (typeIs_str s z t) slot_str_getitem.lookup (getItem_str (c:=c) (by
  have e1:decide (i < -(2 ^ 63:Int))=false:=q_o (by omega)
  have e2:decide (i ≥ 2 ^ 63)=false:=q_o (by omega)
  rw [e1,e2,Bool.or_false]) (by rw [h1];simpa using h2) ⟨.str ⟨#[c]⟩,H,I.tok _,⟨_,rfl⟩,q⟩) hs
noncomputable def rIx (K:PySem.W.Frag):R2:=fun x y H Q=>rIxL K x y H Q\/rIxT K x y H Q\/rIxS x y H Q
theorem ix_seq:IxR X (rIx X.K):=ix_list.or (ix_tup.or JPK)
theorem JE7 (lo hi:Option Int) (n:Nat):(sliceBounds lo hi none n).1=((HT.sIx n 0 lo:Nat):Int)/\(sliceBounds lo hi none n).2.1=((HT.sIx n n hi:Nat):Int)/\(sliceBounds lo hi none n).2.2=1:=by
 refine ⟨?_,?_,rfl⟩
 ·cases lo with
  | none=>simp [sliceBounds,HT.sIx]
  | some i =>
   simp only [sliceBounds,HT.sIx,Option.getD_none,show (1:Int) > 0 by decide,if_true]
   by_cases h:i<0
   ·simp only [h,if_true]<;>omega
   ·simp only [h,if_false]<;>omega
 ·cases hi with
  | none=>simp [sliceBounds,HT.sIx]
  | some i =>
   simp only [sliceBounds,HT.sIx,Option.getD_none,show (1:Int) > 0 by decide,if_true]
   by_cases h:i<0
   ·simp only [h,if_true]<;>omega
   ·simp only [h,if_false]<;>omega
theorem JDn (its:List Value) (lo hi:Option Int):slicePick its.toArray lo hi none=((its.drop (HT.sIx its.length 0 lo)).take (HT.sIx its.length its.length hi - HT.sIx its.length 0 lo)).toArray:=by
 obtain ⟨h1,h2,h3⟩:=JE7 lo hi its.toArray.size
 unfold slicePick
 rw [h1,h2,h3]
 simp only [sliceRange_one,pick_run,q_f]<;>rfl
noncomputable def rSlL (K:PySem.W.Frag):V->Option Int->Option Int->Hp->VK->Prop:=fun x lo hi H Q=>∃a xs,x=.ref a/\SqL K H a xs/\∀p,H p=none->Q (.ref p) (upd H p (.lst (cutV xs lo hi)))
theorem JMO:SlR X (rSlL X.K):=by
 intro pins s σ H x v vl vu lo hi sl Q I rx hs pl pu h
 obtain ⟨a,xs,rfl,hx,q⟩:=h
 cases rx
 obtain ⟨its,r,ht,hz⟩:=I.list hx
 have hlen:=r.length
 refine ⟨"list",_,slot_list_getitem.lookup,ht.isList.typeIs,?_⟩
 refine wpAny_getItem_list_slice ht.isList hs pl pu .none (by simp) ?_ (by rw [q_f]<;>omega)
 rw [JDn,<-hlen]
 refine ⟨.ref s.heap.objs.size,_,I.laid (t':=s.toks) (o:=.lst (cutV xs lo hi)) (fun b ob q=>q_c _ q) (q_t _) ?_,rfl,q _ (I.hok.fresh (q_t _))⟩
 exact ⟨Nat.le_trans (JC7 xs lo hi) hz,_,0,(r.drop (HT.sIx xs.length 0 lo)).take (HT.sIx xs.length xs.length hi - HT.sIx xs.length 0 lo),q_k _ rfl⟩
theorem CallR.or {f:Value} {r r':List V->Hp->VK->Prop} (h:CallR X f r) (h':CallR X f r'):CallR X f (fun xs H Q=>r xs H Q\/r' xs H Q):=by
 intro pins s σ H xs us Q I rs q
 rcases q with q | q
 ·exact h pins s σ H xs us Q I rs q
 ·exact h' pins s σ H xs us Q I rs q
theorem JE0:CallR X (.type "list") (fun xs H Q=>∃p ys,xs=[.ref p]/\(SqL X.K H p ys\/SqT X.K H p ys)/\∀l,H l=none->Q (.ref l) (upd H l (.lst ys))):=by
 intro pins s σ H xs us Q I r h
 obtain ⟨p,ys,rfl,hq,q⟩:=h
 obtain ⟨u,rfl,rx⟩:=vals1 r
 cases rx
 have fin:∀(its:List Value),Vals ys its->ys.length<=sizeLine->∀(h':Heap) (c':Nat),(∀b o',s.heap.get? b=some o'->h'.get? b=some o') ->
   h'.get? s.heap.objs.size=some { cls:=.type "list",dict:=none,data:=.seq its.toArray c',slots:=#[] }->EP X pins σ Q (.ref s.heap.objs.size) { s with heap:=h' }:=fun its r' hz h' c' kp e =>
  ⟨.ref s.heap.objs.size,_,I.laid (t':=s.toks) kp (q_t _) (show ObjOk X.prog X.w _ h' _ (.lst ys) from ⟨hz,its,c',r',e⟩),rfl,q _ (I.hok.fresh (q_t _))⟩
 rcases hq with hq | hq
 ·obtain ⟨its,r',pl,hz⟩:=I.list hq
  have hlen:=r'.length
  obtain ⟨o,ho,hc,n,hd⟩:=pl.isList
  exact call_list_seq p (.inl rfl) ho hc hd (fun h' c' kp e=>fin its r' hz h' c' kp e) (by simp only [q_f]<;>omega)
 ·obtain ⟨its,r',pl,hz⟩:=I.tuple hq
  have hlen:=r'.length
  obtain ⟨o,ho,hc,n,hd⟩:=pl
  exact call_list_seq p (.inr rfl) ho hc hd (fun h' c' kp e=>fin its r' hz h' c' kp e) (by simp only [q_f]<;>omega)
theorem JD0:CallR X (.type "tuple") (fun xs H Q=>∃p ys,xs=[.ref p]/\((SqL X.K H p ys/\∀l,H l=none->Q (.ref l) (upd H l (.tup ys)))\/(SqT X.K H p ys/\Q (.ref p) H))):=by
 intro pins s σ H xs us Q I r h
 obtain ⟨p,ys,rfl,h⟩:=h
 obtain ⟨u,rfl,rx⟩:=vals1 r
 cases rx
 rcases h with ⟨hq,q⟩ | ⟨hq,q⟩
 ·obtain ⟨its,r',pl,hz⟩:=I.list hq
  have hlen:=r'.length
  refine call_tuple_list pl.isList (fun h' kp=>?_) (by simp only [q_f]<;>omega)
  have I1:Inv X pins σ H { s with heap:=h' }:=I.kept (t':=s.toks) kp
  have I2:Inv X pins σ (upd H h'.objs.size (.tup ys)) { s with heap:=h'.push { cls:=.type "tuple",data:=.seq its.toArray } } :=
   I1.laid (t':=s.toks) (fun b o e=>q_c _ e) (q_t _) (show ObjOk X.prog X.w _ _ _ (.tup ys) from ⟨hz,its,r',IsTup.new _ _⟩)
  exact ⟨.ref h'.objs.size,_,I2,rfl,q _ (I1.hok.fresh (q_t _))⟩
 ·obtain ⟨its,r',pl,hz⟩:=I.tuple hq
  exact call_tuple_same pl ⟨.ref p,H,I,rfl,q⟩
noncomputable def tyV (K:PySem.W.Frag) (T:String) (x:V) (H:Hp):Prop:=match x with
 | .str _=>T="str"
 | .int _=>T="int"
 | .ref p=>(T="list"/\∃xs,SqL K H p xs)\/(T="tuple"/\∃o,K.lookup p=some o/\o.cls=.type "tuple"/\o.dict=none) \/
  (T="dict"/\((∃kvs,H p=some (.dK kvs))\/∃kvs,H p=some (.dT kvs)))\/(T="set"/\∃S n,H p=some (.set S n))
 | _=>False
theorem JPh {pins:List (Addr×Obj)} {σ:St} {H:Hp} {s:Shared} {T:String} {x:V} {v:Value} (I:Inv X pins σ H s) (r:RelV x v) (ty:tyV X.K T x H) :
  s.TypeIs v T/\∀a,v=.ref a->∃ob,s.heap.get? a=some ob/\ob.dict=none:=by
 cases x with
 | str z =>
  obtain ⟨t,rfl⟩:=r
  cases (show T="str" from ty)
  exact ⟨typeIs_str s z t,fun _ e=>nomatch e⟩
 | int i =>
  obtain ⟨t,rfl⟩:=r
  cases (show T="int" from ty)
  exact ⟨typeIs_int s i t,fun _ e=>nomatch e⟩
 | ref p =>
  cases r
  rcases ty with ⟨rfl,xs,hq⟩ | ⟨rfl,o,hk,hc,hd⟩ | ⟨rfl,hk⟩ | ⟨rfl,S,n,hk⟩
  ·obtain ⟨its,_,pl,_⟩:=I.list hq
   refine ⟨pl.isList.typeIs,fun a e=>?_⟩
   cases e
   obtain ⟨o,n,e,c,hd,_⟩:=pl
   exact ⟨o,e,hd⟩
  ·refine ⟨⟨o,I.kIn p o hk,hc⟩,fun a e=>?_⟩
   cases e
   exact ⟨o,I.kIn _ o hk,hd⟩
  ·have z:∃o,s.heap.get? p=some o/\o.ExactDict:=by
    rcases hk with ⟨kvs,hk⟩ | ⟨kvs,hk⟩
    ·obtain ⟨_,_,_,_,o,_,_,e,ex,_⟩:=I.hok p _ hk
     exact ⟨o,e,ex⟩
    ·obtain ⟨_,_,_,_,o,_,_,e,ex,_⟩:=I.hok p _ hk
     exact ⟨o,e,ex⟩
   obtain ⟨o,e,ex⟩:=z
   refine ⟨⟨o,e,ex.1⟩,fun a e2=>?_⟩
   cases e2
   exact ⟨o,e,ex.2.1⟩
  ·obtain ⟨o,_,_,_,e,ex,_⟩:=I.hok p _ hk
   refine ⟨⟨o,e,ex.1⟩,fun a e2=>?_⟩
   cases e2
   exact ⟨o,e,ex.2.1⟩
 | _=>exact False.elim ty
noncomputable def tBM (K:PySem.W.Frag) (T:String) (r:V->List V->Hp->VK->Prop) (to:TE) (t:TA):TE:=fun σ H Q=>to σ H fun x H1=>tyV K T x H1/\t σ H1 fun xs H2=>r x xs H2 Q
variable {o e:Expr} {es:List Expr} {to:TE} {t:TA} {name:Str} {apos cpos:Pos} {T id:String} {r:V->List V->Hp->VK->Prop}
theorem JIT (pa:PlainAttrs T) (slot:Slot T name id) (hty:typeOf (.builtin id)=pure (.type "method_descriptor")) (hm:MtR X id r) (ho:PE X o to) (ha:PA X (e::es) t)
  (hbase:attributeBase o name X.env (eval o X.env)=eval o X.env:=by rfl)
  (hfew:((backTo cpos (starEach (e::es) X.env)).all (fun x=>!x.1)&&(backToKw cpos (keywordEach [] X.env)).all (fun x=>x.1.isSome)
    && decide ((e::es).length+([]:List Keyword).length+(if ([]:List Keyword).isEmpty then 0 else 1)<30))=true:=by rfl)
  (hline:(apos.endLine==cpos.line)=true:=by rfl) (hs:starEach (e::es) X.env=(false,eval e X.env)::starEach es X.env:=by rfl) (hplain:(backTo cpos (starEach es X.env)).any (·.1)=false:=by rfl) :
  PE X (.Call (.Attribute o name apos) (e::es) [] cpos) (tBM X.K T r to t):=by
 intro pins s σ H Q I h
 refine wpAny_Call_method_late hbase hfew hline rfl (thn (ho pins s σ H _ I h) fun v s1 ⟨x,H1,I1,r1,ty,q1⟩=>?_)
 obtain ⟨h1,h2⟩:=JPh I1 r1 ty
 refine ⟨T,id,pa,slot,hty,h1,h2,?_⟩
 have hA:=ha cpos pins s1 σ H1 _ I1 q1
 rw [hs] at hA ⊢
 refine Calls.callWith_builtin (by show (false || (backTo cpos (starEach es X.env)).any (·.1))=false;rw [hplain]<;>rfl) (Calls.evalArgs_plain ?_)
 exact thn hA fun us s2 ⟨vs,H2,I2,r2,q2⟩=>hm pins s2 σ H2 x vs v us Q I2 r1 r2 q2
end
end L2
namespace L2
open PySem PySem.Spec PyProof.Rows
noncomputable def MtM (X:Cx) (id:String) (r:V->List V->Hp->VK->Prop):Prop :=
 ∀(pins:List (Addr×Obj)) (s:Shared) (σ:St) (H:Hp) (x:V) (xs:List V) (v:Value) (us:List Value) (Q:VK),Inv X pins σ H s->RelV x v->Vals xs us->r x xs H Q ->
  wpAny (model X.prog X.w) X.A (call (.builtin id) (v::us)) (EP X pins σ Q) X.xe s
theorem Vals.one:∀ {x:V} {us:List Value},Vals [x] us->∃u,us=[u]/\RelV x u
 | _,_,.cons r .nil=>⟨_,rfl,r⟩
theorem Vals.two:∀ {x y:V} {us:List Value},Vals [x,y] us->∃u v,us=[u,v]/\RelV x u/\RelV y v
 | _,_,_,.cons r (.cons q .nil)=>⟨_,_,rfl,r,q⟩
theorem Vals.rep {xs:List V} {us:List Value} (h:Vals xs us):∀k:Nat,Vals (List.replicate k xs).flatten (List.replicate k us).flatten
 | 0=>.nil
 | k+1=>by
  rw [List.replicate_succ,List.replicate_succ,List.flatten_cons,List.flatten_cons]
  exact Vals.append h (Vals.rep h k)
section
variable {X:Cx} {pins:List (Addr×Obj)} {σ:St} {H:Hp} {s:Shared} {l b:Addr} {xs ys zs:List V}
theorem Inv.lset {its its':List Value} {n:Nat} {f:Array Value->Array Value} {t':Nat} (I:Inv X pins σ H s) (hH:H l=some (.lst xs))
  (e:s.heap.get? l=some { cls:=.type "list",data:=.seq its.toArray n }) (hf:f its.toArray=its'.toArray) (hv:Vals ys its') (hz:ys.length<=sizeLine) :
  Inv X pins σ (upd H l (.lst ys)) { s with heap:=s.heap.update l (Obj.mapSeq f),toks:=t' }:=by
 have q:=PySem.IsL.update e f
 rw [hf] at q
 refine I.write (x:=l) (e:=l) (by rw [hH];exact trivial) (.inl rfl) (fun b' u hb hu=>(Heap.get?_update_other s.heap (Obj.mapSeq f) (Ne.symm hb)).trans hu) ⟨_,q⟩ ?_
 exact ⟨hz,its',_,hv,q⟩
theorem Inv.lnew {its:List Value} {t':Nat} (I:Inv X pins σ H s) (hv:Vals ys its) (hz:ys.length<=sizeLine) :
  Inv X pins σ (upd H s.heap.objs.size (.lst ys)) { s with heap:=s.heap.push { cls:=.type "list",data:=.seq its.toArray },toks:=t' } :=
 I.laid (fun _ _ q=>q_c _ q) (q_t _) ⟨hz,its,0,hv,q_k _ rfl⟩
theorem Inv.fresh (I:Inv X pins σ H s):H s.heap.objs.size=none:=I.hok.fresh (q_t _)
theorem Inv.lstM (I:Inv X pins σ H s) (hH:H l=some (.lst xs)):xs.length<=sizeLine/\∃(its:List Value) (n:Nat),Vals xs its/\xs.length=its.length/\s.heap.get? l=some { cls:=.type "list",data:=.seq its.toArray n }:=by
 obtain ⟨z,its,n,r,e⟩:=I.hok l _ hH
 exact ⟨z,its,n,r,r.length,e⟩
theorem JD1 {n:Nat} (h:n<=sizeLine):Builtin.List.listTooLong n=false:=by
 unfold Builtin.List.listTooLong
 exact q_o (by omega)
end
section
variable {X:Cx}
noncomputable def JMB:V->List V->Hp->VK->Prop:=fun x vs H Q=>∃l xs y,x=.ref l/\vs=[y]/\H l=some (.lst xs)/\xs.length<sizeLine/\Q .non (upd H l (.lst (xs++[y])))
theorem JHJ:MtM X "list.append" JMB:=by
 intro pins s σ H x vs v us Q I rx rv h
 obtain ⟨l,xs,y,rfl,rfl,hH,hz,q⟩:=h
 cases rx
 obtain ⟨u,rfl,ru⟩:=rv.one
 obtain ⟨z,its,n,r,hl,e⟩:=I.lstM hH
 refine call_meets F.slot_list_append ⟨_,e,rfl⟩ F.entry_list_append (F.args_list_append_2 _ _) (PySem.list_append l its.toArray n u (by rw [q_f];omega)) ⟨e,?_⟩
 refine ⟨.non,_,I.lset (its':=its++[u]) hH e (by simp) (r.append (.cons ru .nil)) ?_,rfl,q⟩
 rw [q_u,List.length_singleton]
 omega
noncomputable def JMl:V->List V->Hp->VK->Prop:=fun x vs H Q=>∃l b xs zs,x=.ref l/\vs=[.ref b]/\H l=some (.lst xs)/\H b=some (.lst zs)/\xs.length+zs.length<=sizeLine/\Q .non (upd H l (.lst (xs++zs)))
theorem JIc:MtM X "list.extend" JMl:=by
 intro pins s σ H x vs v us Q I rx rv h
 obtain ⟨l,b,xs,zs,rfl,rfl,hH,hB,hz,q⟩:=h
 cases rx
 obtain ⟨u,rfl,ru⟩:=rv.one
 cases ru
 obtain ⟨z,its,n,r,hl,e⟩:=I.lstM hH
 obtain ⟨z2,its2,n2,r2,hl2,e2⟩:=I.lstM hB
 have hsz:its.toArray.size+its2.toArray.size<=sizeLine:=by rw [q_f,q_f];omega
 have hlong:¬(!its.toArray.isEmpty&&Builtin.List.listTooLong (its.toArray.size+its2.toArray.size))=true:=by
  rw [JD1 hsz,Bool.and_false]
  exact Bool.false_ne_true
 refine call_meets F.slot_list_extend ⟨_,e,rfl⟩ F.entry_list_extend (F.args_list_extend_2 _ _)
  (AutoSeq1.list_extend_list_list_0 l its.toArray n b its2.toArray n2 hlong (by rw [q_f];omega) (by omega)) ⟨e,e2,?_⟩
 refine ⟨.non,_,I.lset (its':=its++its2) hH e (by simp) (r.append r2) ?_,rfl,q⟩
 rw [q_u]
 omega
theorem len_rep {α:Type} (xs:List α) (k:Nat):(List.replicate k xs).flatten.length=k*xs.length:=by
 induction k with
 | zero=>simp
 | succ k ih=>rw [List.replicate_succ,List.flatten_cons,q_u,ih,Nat.succ_mul,Nat.add_comm]
end
section
variable {prog:Program} {w:World} {A:Around} {E:Value->Shared->Prop} {s:Shared}
set_option maxRecDepth 100000 in
end
section
variable {X:Cx}
end
end L2
namespace Att
open PySem PySem.W PySem.Calls PyProof.Rows
theorem JC4 {P:Params} {h:Heap}:∀(ns:List Int) (vs:List Value),WellAll P h vs (ns.map WData.int)->IntsAre vs ns:=by
 intro ns
 induction ns with
 | nil =>
  intro vs w
  rw [List.map_nil] at w
  cases w
  exact .nil
 | cons n ns ih =>
  intro vs w
  rw [List.map_cons] at w
  cases w with
  | cons a b =>
   cases a
   exact .cons _ _ (ih _ b)
theorem JHm {l:OpenLaw} {n:Nat} (hn:l.most=some n) {P:Params} {h:Heap} {args:List WData} {vals:List Value}
  (hpre:l.row.toRowW.claim.pre args=true) (hwl:WellAll P h vals args) :
  ∃a vs ns,vals=[Value.ref a]/\args=[WData.list (ns.map WData.int)]/\h.get? a=some { cls:=.type "list",data:=.seq vs.toArray }/\IntsAre vs ns/\ns.length<=n:=by
 have hsh:WShape.hasAll [] args [.list .int]=true:=(pre_splitW hpre).1
 have hc:l.pre.holds [] { args:=args }=true:=(pre_splitW hpre).2
 obtain ⟨d,r,rfl,h1,h2⟩:=hasAllW_cons hsh
 obtain rfl:=hasAllW_nil h2
 obtain ⟨xs,rfl,h3⟩:=hasW_list h1
 obtain ⟨ns,rfl⟩:=items_int h3
 have hlen:ns.length<=n:=by
  unfold OpenLaw.pre at hc
  have h4:(WTm.not (.lt (.lit (.int (n:Int))) (.len (.arg 0)))).holds [] { args:=[.list (ns.map .int)] }=true:=by
    have h4:=(holds_andW hc).1
    rw [hn] at h4
    exact h4
  have h5:=condW_of h4 (w_not (w_lt w_lit (w_len_list (w_arg rfl))))
  rw [q_g] at h5
  refine Nat.le_of_not_lt fun q=>?_
  have q':(n:Int)<((ns.length:Nat):Int):=by omega
  first
    |(rw [decide_eq_true q'] at h5;exact absurd h5 (by decide))
    |(simp at h5;omega)
 cases hwl with
 | cons w1 w2 =>
  cases w2
  cases w1 with
  | list ho hall=>exact ⟨_,_,ns,rfl,rfl,ho,JC4 ns _ hall,hlen⟩
theorem JHk (l:OpenLaw) (args:List WData):l.row.toRowW.claim.post args (.bool true) args=true :=
 postW_of (r:=l.row.toRowW) (X:=(true==true))
  (show WShape.has [] (.bool true) .bool=true by first | rfl | decide | simp [WShape.has,WShape.arms,WShape.armsAll])
  (show (WTm.eq .res (.lit (.bool true))).value [] { args:=args,res:=some (.bool true),after:=args }=some (.bool (true==true)) from w_eq_bool (w_res rfl) w_lit) rfl
theorem attach_call {l:OpenLaw} {n:Nat} {q:Program} {loose:List Str} {XP:(Str->Option Value)->Heap->Prop} {YP:World->Heap->Prop} {d:DefRec}
  (hn:l.most=some n) (hdf:d.params.defaults=[])
  (call:∀(w:World) (s₀ s₁:Shared) (mg mb:Str->Option Value) (fa:Addr) (o:Obj) (pm cd doc:Value) (a:Addr) (vs:List Value) (ns:List Int),
    Ground q loose [] XP w s₀ mg mb s₁.heap->YP w s₁.heap ->
    s₁.heap.get? fa=some o->o.data=.func (docDef d.name d.params d.body d.scope pm cd doc)->s₁.heap.CodeRec cd d.name->mg d.name=some (.ref fa) ->
    s₁.heap.get? a=some { cls:=.type "list",data:=.seq vs.toArray }->IntsAre vs ns->ns.length<=n->s₁.gens=#[] ->
    codeAny (model l.prog w) callerA (.call (.ref fa) ⟨[.ref a],[]⟩) (fun r s'=>r=.ok (.ret (.bool true))/\OldK s₁.heap s'.heap/\s'.os=s₁.os/\AllBare s'.gens) s₁) :
  WalkO q loose XP YP l.row.toRowW d [] (fun f vs=>PySem.call f vs):=by
 intro w s₀ s₁ mg mb G Y fa o pm cd doc dV kV ho hd hcd hD hmg hg args vals as hpre hlay hrd hwl hlo
 obtain rfl:dV=.none:=Dflts.none hD hdf
 obtain rfl:kV=.none:=Dflts.noKw hD
 obtain ⟨a,vs,ns,rfl,rfl,hobj,hints,hlen⟩:=JHm hn hpre hwl
 refine enter_call (codeAny_mono (call w s₀ s₁ mg mb fa o pm cd doc a vs ns G Y ho (fd_plain hd) hcd hmg hobj hints hlen hg) fun r s' hq=>?_)
 obtain ⟨rfl,h2,h3,h4⟩:=hq
 exact ⟨.inl ⟨.bool true,.bool true,[],rfl,fun _=>rfl,.bool true,JHk l _,fun _=>⟨List.Pairwise.nil,fun _ hm=>(nomatch hm)⟩⟩,h2,h3,h4⟩
section
variable {prog:Program} {w:World} {A:Around} {E:Value->Shared->Prop} {s:Shared} {K:Frag}
noncomputable def ledger (h:Heap) (L d:Addr):List (Addr×Obj):=(List.range h.objs.size).filterMap fun a=>if a=L\/a=d then none else (h.get? a).map fun o=>(a,o)
end
end Att
namespace L2
open PySem PySem.Spec PyProof.Rows
theorem JD8:∀ {vs:List Value} {ns:List Int},IntsAre vs ns->Vals (ns.map V.int) vs
 | _,_,.nil=>.nil
 | _,_,.cons n t h=>.cons ⟨t,rfl⟩ (JD8 h)
noncomputable def Only (H:Hp):Prop:=∀b,H b=none\/∃o xs,H b=some (.frz o (.lst xs))
theorem JJW {P:Program} {w:World} {K:PySem.W.Frag} {mg mb:Str->Option Value} {CX:CXT} {k:Nat} {fa a:Addr} {fd:FuncData} {x:Str} {sp:Sp} {s₁:Shared} {vs:List Value} {ns:List Int}
  (KX:K.In s₁.heap) (hns:s₁.heap.Ns mainGlobals mg) (hb:s₁.heap.Ns builtinsNs mb) (hbb:∀x:Str,x≠"__name__"->mb x=bootBuiltins x) (hlim:s₁.heap.NoLimit) (hg:s₁.gens=#[])
  (ha:s₁.heap.get? a=some { cls:=.type "list",data:=.seq vs.toArray }) (hi:IntsAre vs ns) (hl:ns.length<=sizeLine) (hr:Room k callerA)
  (F:∀base:Heap,K.In base->base.Ns mainGlobals mg->FnOk P w K mg base CX k fa fd [x] sp) (hbind:∀(s:Shared) (u:Value),BindsTo s fd ⟨[u],[]⟩ [(x,u)])
  (hsp:∀H:Hp,Only H->SqL K H a (ns.map V.int)->sp [.ref a] H (fun v _=>v=.bl true) fun _ _ _=>False)
  (hCX:∀H e s',CX [] H s₁ (fun _ _ _=>False) e s'->False) :
  codeAny (model P w) callerA (.call (.ref fa) ⟨[.ref a],[]⟩) (fun r s'=>r=.ok (.ret (.bool true))/\OldK s₁.heap s'.heap/\s'.os=s₁.os/\AllBare s'.gens) s₁:=by
 have rv:=JD8 hi
 have lenV:=hi.length
 have core:∀H:Hp,Only H->SqL K H a (ns.map V.int)->HOk P w H s₁.heap->(∀b,H b≠none->b=a)->(H a≠none->K.lookup a=none) ->
    codeAny (model P w) callerA (.call (.ref fa) ⟨[.ref a],[]⟩) (fun r s'=>r=.ok (.ret (.bool true))/\OldK s₁.heap s'.heap/\s'.os=s₁.os/\AllBare s'.gens) s₁:=by
  intro H hO hS hok hA hK
  have base_of:∀ {b:Addr} {o:Obj},s₁.heap.get? b=some o->H b=none->(hidT s₁.heap H).get? b=some o:=fun e n=>JJN e n
  have noA:∀ {b:Addr} {o:Obj} {es:Array DictEntry} {ep:Nat},s₁.heap.get? b=some o->o.data=.dict es ep->H b=none:=fun {b o es ep} e d=>by
    cases q:H b with
    | none=>rfl
    | some u =>
     have e':b=a:=hA b (by rw [q];simp)
     subst e'
     rw [ha] at e;cases e
     have d':Data.seq vs.toArray _=Data.dict es ep:=d
     cases d'
  have nsK:∀ {b:Addr} {m:Str->Option Value},s₁.heap.Ns b m->(hidT s₁.heap H).Ns b m:=fun {b m} ⟨o,es,ep,e,d,r⟩=>⟨o,es,ep,base_of e (noA e d),d,r⟩
  have hKb:K.In (hidT s₁.heap H):=fun b o e=>base_of (KX b o e) (by
    cases q:H b with
    | none=>rfl
    | some u =>
     have e':b=a:=hA b (by rw [q];simp)
     subst e'
     rw [hK (by rw [q];simp)] at e;cases e)
  have hM:Mod K mg (hidT s₁.heap H):=⟨hKb,nsK hns,⟨mb,nsK hb,hbb⟩,let ⟨mc,h1,h2⟩:=hlim;⟨mc,nsK h1,h2⟩⟩
  have e0:Env0 P w K mg (hidT s₁.heap H) callerA [] s₁ H:=⟨rfl,hM,fun b o e=>JMJ e,Nat.le_of_eq (JHa _ _),trivial,fun b hb=>absurd (show b∈([]:List Addr) from hb) (by simp),hok,.of_eq hg⟩
  refine codeAny_mono ((F _ hKb (nsK hns)).run callerA [] s₁ H ⟨[.ref a],[]⟩ [.ref a] [.ref a] _ _ hr e0 (hbind s₁ (.ref a)) (.cons rfl .nil) (hsp H hO hS)) fun r s' h=>?_
  cases r with
  | error e=>exact (hCX H e s' h).elim
  | ok fl =>
    cases fl with
    | next=>exact False.elim h
    | brk=>exact False.elim h
    | cont=>exact False.elim h
    | ret u =>
     obtain ⟨v,H',os,bare,un,hok',r',q⟩:=h
     have q':v=.bl true:=q
     subst q'
     obtain rfl:u=Value.bool true:=r'
     refine ⟨rfl,OldK.of_keep fun b o e=>?_,os,bare⟩
     cases q:H b with
     | none=>exact un.keep b o e q (by intro z;exact absurd (show b∈([]:List Addr) from z) (by simp)) (by simp)
     | some u =>
      rcases hO b with z | ⟨ob,xs,z⟩
      ·rw [q] at z;cases z
      ·have z2:=un.frzs b ob _ z
       obtain ⟨e1,_⟩:=hok b _ z
       obtain ⟨e2,_⟩:=hok' b _ z2
       rw [e] at e1;cases e1
       exact e2
 cases hk:K.lookup a with
 | some o =>
  have e:=KX a o hk
  rw [ha] at e
  cases e
  refine core (fun _=>none) (fun _=>.inl rfl) (.inr ⟨_,vs.toArray,_,hk,rfl,rfl,rfl,by rw [q_f,lenV];exact hl,by simpa using rv⟩) (fun b u z=>by have z':(none:Option HO)=some u:=z;cases z') (fun b z=>absurd rfl z) fun z=>absurd rfl z
 | none =>
  refine core (fun b=>if b=a then some (.frz { cls:=.type "list",data:=.seq vs.toArray } (.lst (ns.map V.int))) else none) (fun b=>?_) (.inl (.inr ⟨{ cls:=.type "list",data:=.seq vs.toArray },if_pos rfl⟩)) (fun b u z=>?_) (fun b z=>?_) fun _=>hk
  · by_cases hb:b=a
    ·exact .inr ⟨_,_,if_pos hb⟩
    ·exact .inl (if_neg hb)
  · by_cases hb:b=a
    ·have z':=(if_pos hb).symm.trans z
     cases z'
     subst hb
     exact ⟨ha,by rw [q_g];exact hl,vs,_,rv,ha⟩
    ·have z':=(if_neg hb).symm.trans z
     cases z'
  · by_cases hb:b=a
    ·exact hb
    ·exact absurd (if_neg hb) z
end L2
namespace L2
open PySem PySem.Spec PyProof.Rows
noncomputable abbrev KOf {K:PySem.W.Frag} {h:Heap} (_:K.In h):PySem.W.Frag:=K
theorem walk_of {l:PySem.W.OpenLaw} {n k:Nat} {q:Program} {loose:List Str} {XP:(Str->Option Value)->Heap->Prop} {YP:World->Heap->Prop} {d:DefRec} {K:Params->PySem.W.Frag} {CX:World->CXT} {sp:World->Sp} {x:Str}
  (hn:l.most=some n) (hn2:n<=sizeLine) (hdf:d.params.defaults=[]) (hr:Room k callerA)
  (hY:∀(w:World) (h:Heap),YP w h->(K w.params).In h)
  (F:∀(w:World) (mg:Str->Option Value) (fa:Addr) (h:Heap),(K w.params).In h->h.Ns mainGlobals mg->mg d.name=some (.ref fa) ->
    ∃fd:FuncData,(∀(s:Shared) (u:Value),BindsTo s fd ⟨[u],[]⟩ [(x,u)]) /\
     ∀base:Heap,(K w.params).In base->base.Ns mainGlobals mg->FnOk l.prog w (K w.params) mg base (CX w) k fa fd [x] (sp w))
  (hsp:∀(w:World) (H:Hp) (a:Addr) (ns:List Int),ns.length<=n->Only H->SqL (K w.params) H a (ns.map V.int)->sp w [.ref a] H (fun v _=>v=.bl true) fun _ _ _=>False)
  (hCX:∀(w:World) (H:Hp) (s:Shared) (e:Value) (s':Shared),CX w [] H s (fun _ _ _=>False) e s'->False) :
  PySem.W.WalkO q loose XP YP l.row.toRowW d [] (fun f vs=>PySem.call f vs):=by
 refine Att.attach_call hn hdf fun w s₀ s₁ mg mb fa o pm cd doc a vs ns G Y ho hd hcd hmg hobj hints hlen hg=>?_
 have KX:=hY w _ Y
 obtain ⟨fd,hb,hF⟩:=F w mg fa _ KX G.T.g hmg
 exact JJW KX G.T.g G.T.b G.T.builtins G.T.nolimit hg hobj hints (Nat.le_trans hlen hn2) hr hF hb (fun H hO hS=>hsp w H a ns hlen hO hS) fun H e s'=>hCX w H s₁ e s'
end L2
namespace L2
open PySem PySem.Spec PyProof.Rows
noncomputable def JBG (s:Stmt):Arguments:=match s with
 | .FunctionDef _ a _ _ _ _ _ _ _ _=>a
 | _=>{ posonlyargs:=[],args:=[],vararg:=none,kwonlyargs:=[],kw_defaults:=[],kwarg:=none,defaults:=[] }
noncomputable def JAu (s:Stmt):List Stmt:=match s with
 | .FunctionDef _ _ b _ _ _ _ _ _ _=>b
 | _=>[]
noncomputable def JAV (s:Stmt):Scope:=match s with
 | .FunctionDef _ _ _ _ _ _ sc _ _ _=>sc
 | _=>{ kind:=.function,names:=[],isGenerator:=false,isCoroutine:=false }
noncomputable abbrev CX0:CXT:=fun _ _ _ _ _ _=>False
structure Fun (K:PySem.W.Frag) (x qual:Str) (st:Stmt) (f:Addr) (fd:FuncData):Prop where
 ex:∃(oc:Value) (od:Option Addr) (kV doc pm:Value) (an:Option Addr) (cdv ct:Value) (osl:Array (Option Value)),
  fd=PySem.W.fnOf x qual (JBG st) (JAu st) (JAV st) .none kV doc pm an cdv ct/\K.lookup f=some ⟨oc,od,.func fd,osl⟩/\PySem.W.codeIn K cdv qual=true
 kp:PySem.W.keepIn K (.ref f)=true
section
variable {P:Program} {w:World} {K:PySem.W.Frag} {mg:Str->Option Value} {base:Heap}
theorem Fun.ok {x qual:Str} {st:Stmt} {f:Addr} {fd:FuncData} {N ps:List Str} {k:Nat} {sp:Sp} (F:Fun K x qual st f fd) (S:FnScope N ps (JAV st)) (len:∀vs H Q E,sp vs H Q E->vs.length=ps.length)
  (hbody:∀(cdv:Value) (A:Around) (outer:List Env) (s:Shared) (H:Hp) (vs:List V) (Q:VK) (E:XK),Room k (A.deeper (envOfC qual (JAV st) s.heap.objs.size f cdv))->sp vs H Q E ->
    ∃t,PSs (cxOf CX0 P w K mg base N qual (JAV st) f cdv A outer s H E).nox (JAu st) t/\t { nx:=fun _ H'=>Q .non H',rt:=Q } (start N vs) H):FnOk P w K mg base CX0 (k+1) f fd ps sp:=by
 obtain ⟨oc,od,kV,doc,pm,an,cdv,ct,osl,rfl,lk,hcd⟩:=F.ex
 refine JPY lk hcd S len fun A outer s H vs Q E hr hsp=>?_
 obtain ⟨t,h,q⟩:=hbody cdv A outer s H vs Q E hr hsp
 exact ⟨t,h.nox,q⟩
theorem Fun.binds {x qual:Str} {st:Stmt} {f:Addr} {fd:FuncData} {ps:List Str} (F:Fun K x qual st f fd)
  (h:∀(kV doc pm:Value) (an:Option Addr) (cdv ct:Value) (us:List Value),us.length=ps.length->bindArgs (PySem.W.fnOf x qual (JBG st) (JAu st) (JAV st) .none kV doc pm an cdv ct) ⟨us,[]⟩=pure (ps.zip us)):Binds K fd ps []:=by
 obtain ⟨oc,od,kV,doc,pm,an,cdv,ct,osl,rfl,lk,hcd⟩:=F.ex
 exact .all (h kV doc pm an cdv ct)
theorem JLs {x qual:Str} {st:Stmt} {f:Addr} {oc:Value} {od an:Option Addr} {osl:Array (Option Value)} {kV doc pm cdv ct:Value} (l:K.lookup f=some ⟨oc,od,.func (PySem.W.fnOf x qual (JBG st) (JAu st) (JAV st) .none kV doc pm an cdv ct),osl⟩)
 (c:PySem.W.codeIn K cdv qual=true) (k:PySem.W.keepIn K (.ref f)=true):Fun K x qual st f (PySem.W.fnOf x qual (JBG st) (JAu st) (JAV st) .none kV doc pm an cdv ct):=⟨⟨oc,od,kV,doc,pm,an,cdv,ct,osl,rfl,l,c⟩,k⟩
end
section
variable {X:Cx}
theorem pv (i:Nat) {x:Str} {pos:Pos} (hN:X.N[i]? = some x:=by rfl) (hv:Vis X.env.scope x:=by first | exact Or.inl rfl | exact Or.inr (Or.inl rfl) | exact Or.inr (Or.inr rfl)) (hd:(x==("__debug__":Str))=false:=by decide)
 (hcd:(x==("__classdict__":Str))=false:=by decide):PE X (.Name x pos) (tVar i):=JCw hN hv hd hcd
end
theorem iteF {A B:Prop} (h:B):if false=true then A else B:=by
 rw [if_neg Bool.false_ne_true]
 exact h
theorem iteT {A B:Prop} (h:A):if true=true then A else B:=by
 rw [if_pos rfl]
 exact h
noncomputable def Same (H H':Hp):Prop:=∀b o,H b=some o->H' b=some o
theorem Same.refl (H:Hp):Same H H:=fun _ _ h=>h
theorem Same.trans {H H1 H2:Hp} (a:Same H H1) (b:Same H1 H2):Same H H2:=fun c o h=>b c o (a c o h)
theorem Same.free {H H':Hp} (e:Same H H') {l:Addr} (h:H' l=Option.none):H l=Option.none:=by
 cases q:H l with
 | none=>rfl
 | some o =>
  rw [e l o q] at h
  cases h
theorem Same.seq {K:PySem.W.Frag} {H H':Hp} {a:Addr} {xs:List V} (e:Same H H') (h:SqL K H a xs):SqL K H' a xs:=by
 rcases h with (h | ⟨o,h⟩) | h
 ·exact .inl (.inl (e _ _ h))
 ·exact .inl (.inr ⟨o,e _ _ h⟩)
 ·exact .inr h
end L2
set_option autoImplicit false
section
set_option backward.eqns.nonrecursive false
namespace VI
open PySem
abbrev D:=PyData
noncomputable def excD (c:Nat):D:=.dict [(.none,.int (c:Int))]
inductive R (α:Type) where
 | ok (a:α)
 | exc (c:Nat)
 | bad
@[reducible] def R.bind {α β:Type} (r:R α) (f:α->R β):R β :=
 match r with
 | .ok a=>f a
 | .exc c=>.exc c
 | .bad=>.bad
inductive Ty where
 | int | bool | str | list | tuple | dict | valueError | own (c:Nat)
 deriving DecidableEq
inductive Blt where
 | len | abs | min | all
 deriving DecidableEq
inductive O1 where
 | slice (lo hi:Option Int)
 | toTup | toLst | rev
 deriving DecidableEq
inductive XO where
 | rev | enm | srt | zip | sst
 deriving DecidableEq
inductive E where
 | var (i:Nat)
 | cint (i:Int) | cbl (b:Bool) | cnon | cstr (x:Str)
 | glo (i:Nat)
 | bin (op:Operator) (a b:E)
 | neg (a:E)
 | not (a:E)
 | and (a b:E)
 | or (a b:E)
 | cmp (op:CmpOp) (a b:E)
 | isN (a:E) (neg:Bool)
 | isB (a:E) (b:Bool)
 | ife (c a b:E)
 | nil
 | cons (a r:E)
 | tup (es:E)
 | lst (es:E)
 | idx (a i:E)
 | call (f:Nat) (es:E)
 | blt (b:Blt) (es:E)
 | rng (es:E)
 | isi (a:E) (t:Ty)
 | mcount (o a:E)
 | mindex (o a:E)
 | mget (o a b:E)
 | cmpr (k:Nat) (elt iter cond:E)
 | dct (ks:List Str) (es:E)
 | rep (k:Nat) (es:E)
 | fn1 (o:O1) (a:E)
 | isnB (a:E) (b:Bool)
 | xop (k:XO) (es:E)
inductive Sl where
 | no
 | val (d:D)
 | own (d:D)
noncomputable def Sl.get:Sl->R D
 | .no=>.bad
 | .val d=>.ok d
 | .own d=>.ok d
noncomputable def Sl.frz:Sl->Sl
 | .own d=>.val d
 | s=>s
noncomputable def Sl.isOwn:Sl->Bool
 | .own _=>true
 | _=>false
abbrev Env:=List Sl
noncomputable def look (δ:Env) (i:Nat):R D:=match δ[i]? with
 | some s=>s.get
 | none=>.bad
structure Cn where
 fn:Nat->List D->R D
 glo:Nat->R D
 sub:Nat->Nat->Bool
noncomputable def truth:D->R Bool
 | .none=>.ok false
 | .bool b=>.ok b
 | .int i=>.ok (i != 0)
 | .str x=>if x.length<=16777216 then .ok ((x.length:Int) != 0) else .bad
 | .list xs=>.ok (!xs.isEmpty)
 | .tuple xs=>.ok (!xs.isEmpty)
 | .dict _=>.bad
open Classical in
noncomputable def binD (op:Operator) (x y:D):R D :=
 match op,x,y with
 | .Add,.int i,.int j=>.ok (.int (i+j))
 | .Sub,.int i,.int j=>.ok (.int (i - j))
 | .Mult,.int i,.int j=>if IntMulOk i j then .ok (.int (i*j)) else .bad
 | .FloorDiv,.int i,.int j=>if j≠0/\Builtin.divisionGoesByPylong i j=false then .ok (.int (i.fdiv j)) else .bad
 | .Mod,.int i,.int j=>if j≠0 then .ok (.int (i.fmod j)) else .bad
 | .Add,.tuple xs,.tuple ys=>if xs.length+ys.length<=16777216 then .ok (.tuple (xs++ys)) else .bad
 | .Add,.list xs,.list ys=>if xs.length+ys.length<=16777216 then .ok (.list (xs++ys)) else .bad
 | .Mult,.tuple xs,.int k=>if 2<=k/\k<=1000/\xs.length<=1000/\xs≠[] then .ok (.tuple (List.replicate k.toNat xs).flatten) else .bad
 | .Mult,.list xs,.int k=>if -(2 ^ 62)<=k/\k<2 ^ 62/\xs.length*k.toNat<=16777216 then .ok (.list (List.replicate k.toNat xs).flatten) else .bad
 | _,_,_=>.bad
noncomputable def shaped (d:D):Bool:=d.canLay0&&decide (d.depth<=64)
noncomputable def JB5 (xs:List D) (x:D):Bool:=PyData.canLayAll0 xs&&x.canLay0&&decide (x.depth<=60)
noncomputable def cmpD (op:CmpOp) (x y:D):R D :=
 match op with
 | .Eq=>if (shaped x&&shaped y)=true then .ok (.bool (PyData.eqv x y)) else .bad
 | .NotEq=>if (shaped x&&shaped y)=true then .ok (.bool (!PyData.eqv x y)) else .bad
 | .Lt=>match x,y with | .int i,.int j=>.ok (.bool (decide (i<j))) | _,_=>.bad
 | .LtE=>match x,y with | .int i,.int j=>.ok (.bool (decide (i<=j))) | _,_=>.bad
 | .Gt=>match x,y with | .int i,.int j=>.ok (.bool (decide (j<i))) | _,_=>.bad
 | .GtE=>match x,y with | .int i,.int j=>.ok (.bool (decide (j<=i))) | _,_=>.bad
 | .In=>match y with
  | .list xs=>if JB5 xs x=true then .ok (.bool (xs.any fun z=>PyData.eqv z x)) else .bad
  | .tuple xs=>if JB5 xs x=true then .ok (.bool (xs.any fun z=>PyData.eqv z x)) else .bad
  | _=>.bad
 | .NotIn=>match y with
  | .list xs=>if JB5 xs x=true then .ok (.bool (!xs.any fun z=>PyData.eqv z x)) else .bad
  | .tuple xs=>if JB5 xs x=true then .ok (.bool (!xs.any fun z=>PyData.eqv z x)) else .bad
  | _=>.bad
 | _=>.bad
noncomputable def isNone:D->Bool
 | .none=>true
 | _=>false
noncomputable def isBool (b:Bool):D->R Bool
 | .bool c=>.ok (c==b)
 | _=>.bad
noncomputable def ixN (n:Nat) (i:Int):Option Nat:=if 0<=i then (if i<n then some i.toNat else none) else if -(n:Int)<=i then some (i+n).toNat else none
noncomputable def atI {α:Type} (xs:List α) (i:Int):Option α:=(ixN xs.length i).bind fun j=>xs[j]?
noncomputable def optR {α:Type}:Option α->R α
 | some a=>.ok a
 | none=>.bad
noncomputable def getK:List (D×D)->Str->R D
 | [],_=>.bad
 |(.str k,v)::r,x=>if k=x then .ok v else getK r x
 | _::_,_=>.bad
noncomputable def idxD (x i:D):R D :=
 match x,i with
 | .list xs,.int i=>optR (atI xs i)
 | .tuple xs,.int i=>optR (atI xs i)
 | .dict kvs,.str y=>getK kvs y
 | .str x,.int i=>if x.cps.size<=1000 then optR ((atI x.cps.toList i).map fun c=>.str ⟨#[c]⟩) else .bad
 | _,_=>.bad
noncomputable def isiD (sub:Nat->Nat->Bool) (x:D) (t:Ty):R D :=
 match x with
 | .none=>.ok (.bool false)
 | .bool _=>.ok (.bool (t==.int || t==.bool))
 | .int _=>.ok (.bool (t==.int))
 | .str _=>.ok (.bool (t==.str))
 | .list _=>.ok (.bool (t==.list))
 | .tuple _=>.ok (.bool (t==.tuple))
 | .dict [(.none,.int c)]=>if sub c.toNat c.toNat=true then (match t with
  | .own e=>.ok (.bool (sub c.toNat e))
  | .valueError=>.ok (.bool true)
  | _=>.bad) else .bad
 | .dict _=>.bad
noncomputable def lexI:List Int->List Int->Bool
 | [],[]=>false
 | [],_::_=>true
 | _::_,[]=>false
 | a::r,b::t=>if a=b then lexI r t else decide (a<b)
noncomputable def intsOf:List D->Option (List Int)
 | []=>some []
 | .int a::r=>(intsOf r).map (a::·)
 | _=>none
noncomputable def keysOf:List D->Option (List (List Int))
 | []=>some []
 | .tuple a::r=>(intsOf a).bind fun k=>(keysOf r).map (k::·)
 | _=>none
noncomputable def minK:List Int->List (List Int)->List Int
 | k,[]=>k
 | k,b::r=>minK (if lexI b k=true then b else k) r
noncomputable def minD (ds:List D):R D:=match keysOf ds with
 | some (k::ks)=>.ok (.tuple ((minK k ks).map fun i=>.int i))
 | _=>.bad
noncomputable def allD:List D->R D
 | []=>.ok (.bool true)
 | .bool b::r=>(match allD r with
  | .ok (.bool c)=>.ok (.bool (b&&c))
  | _=>.bad)
 | _=>.bad
noncomputable def bltD (b:Blt) (xs:List D):R D :=
 match b,xs with
 | .len,[.list ys]=>.ok (.int ys.length)
 | .len,[.tuple ys]=>.ok (.int ys.length)
 | .abs,[.int i]=>.ok (.int (if i<0 then -i else i))
 | .min,[.list ys]=>minD ys
 | .all,[.list ys]=>allD ys
 | _,_=>.bad
noncomputable def JEB (lo hi:Int):List D:=(List.range (hi - lo).toNat).map fun (k:Nat)=>.int (lo+k)
noncomputable def small (i:Int):Bool:=decide (-(2 ^ 62)<=i)&&decide (i<2 ^ 62)
noncomputable def rngD (xs:List D):R (List D) :=
 match xs with
 | [.int j]=>if small j=true then .ok (JEB 0 j) else .bad
 | [.int i,.int j]=>if (small i&&small j)=true then .ok (JEB i j) else .bad
 | _=>.bad
noncomputable def JAg:D->R (List D)
 | .list xs=>.ok xs
 | .tuple xs=>.ok xs
 | _=>.bad
noncomputable def JDF (x y:D):R D :=
 match x with
 | .list xs=>if JB5 xs y=true then .ok (.int (xs.countP fun z=>PyData.eqv z y:Nat)) else .bad
 | _=>.bad
noncomputable def JEX (x y:D):R D :=
 match x with
 | .list xs=>if JB5 xs y=true then
  (match xs.findIdx? fun z=>PyData.eqv z y with
   | some j=>.ok (.int j)
   | none=>.bad) else .bad
 | _=>.bad
noncomputable def getD:List (D×D)->Str->D->R D
 | [],_,z=>.ok z
 |(.str k,v)::r,x,z=>if k=x then .ok v else getD r x z
 | _,_,_=>.bad
noncomputable def JFa (x k z:D):R D :=
 match x,k with
 | .dict kvs,.str y=>getD kvs y z
 | _,_=>.bad
def sI (n d:Nat):Option Int->Nat
 | none=>d
 | some v=>if v<0 then (v+(n:Int)).toNat else min v.toNat n
def cutD {α:Type} (xs:List α) (lo hi:Option Int):List α:=(xs.drop (sI xs.length 0 lo)).take (sI xs.length xs.length hi - sI xs.length 0 lo)
noncomputable def op1D (o:O1) (d:D):R D:=match o,d with
 | .slice lo hi,.tuple xs=>.ok (.tuple (cutD xs lo hi))
 | .slice lo hi,.list xs=>.ok (.list (cutD xs lo hi))
 | .toTup,.tuple xs=>.ok (.tuple xs)
 | .toTup,.list xs=>.ok (.tuple xs)
 | .toLst,.tuple xs=>.ok (.list xs)
 | .toLst,.list xs=>.ok (.list xs)
 | .rev,.list xs=>.ok (.list xs.reverse)
 | _,_=>.bad
noncomputable def enmL:Nat->List D->List D
 | _,[]=>[]
 | i,d::r=>.tuple [.int (i:Nat),d]::enmL (i+1) r
noncomputable def kGo {α:Type} (lt:Nat->Nat->Bool):PySem.W.KasT α->α
 | .ret a=>a
 | .ask i j k=>kGo lt (k (lt i j))
inductive At where
 | i (n:Int) | s (x:Str) | t (k:List Int)
 deriving DecidableEq
noncomputable def At.kd:At->Nat
 | .i _=>0
 | .s _=>1
 | .t _=>2
noncomputable def ltAt:At->At->Bool
 | .i a,.i b=>decide (a<b)
 | .s x,.s y=>decide (x.cps.toList<y.cps.toList)
 | .t a,.t b=>lexI a b
 | _,_=>false
noncomputable def lexA:List At->List At->Bool
 | [],[]=>false
 | [],_::_=>true
 | _::_,[]=>false
 | a::r,b::t=>if a=b then lexA r t else ltAt a b
noncomputable def atOf:D->Option At
 | .int n=>some (.i n)
 | .str x=>some (.s x)
 | .tuple ds=>(intsOf ds).map .t
 | _=>none
noncomputable def JN7:List D->Option (List At)
 | []=>some []
 | d::r=>(atOf d).bind fun a=>(JN7 r).map (a::·)
noncomputable def JQb:List D->Option (List (List At))
 | []=>some []
 | .tuple ds::r=>(JN7 ds).bind fun k=>(JQb r).map (k::·)
 | _=>none
noncomputable def sortA (ks:List (List At)):List Nat:=(kGo (fun i j=>lexA (ks.getD i []) (ks.getD j [])) (PySem.W.kas_sort ks.length)).toList
noncomputable def sigOk:List (List At)->Bool
 | []=>false
 | k::ks=>!k.isEmpty&&ks.all fun q=>q.map At.kd==k.map At.kd
noncomputable def strsOf:List D->Option (List Str)
 | []=>some []
 | .str x::r=>(strsOf r).map (x::·)
 | _=>none
noncomputable def ltS (x y:Str):Bool:=decide (x.cps.toList<y.cps.toList)
noncomputable def JAk (zs:List Str):List Str:=if zs.length<2 then zs else (kGo (fun i j=>ltS (zs.getD i "") (zs.getD j "")) (PySem.W.kas_sort zs.length)).toList.map fun i=>zs.getD i ""
noncomputable def dedS:List Str->List Str
 | []=>[]
 | x::r=>if x∈dedS r then dedS r else x::dedS r
noncomputable def srtS (ys:List D):R D:=match strsOf ys with
 | some xs=>if xs.length<=7 then .ok (.list ((JAk xs).map .str)) else .bad
 | none=>.bad
noncomputable def sstS (ys:List D):R D:=match strsOf ys with
 | some xs=>if xs.length<=1000/\(dedS xs).length<=7 then .ok (.list ((JAk (dedS xs)).map .str)) else .bad
 | none=>.bad
noncomputable def srtA (ys:List D):R D:=match JQb ys with
 | some ks=>if 2<=ks.length/\ks.length<=5/\sigOk ks=true then .ok (.list ((sortA ks).map fun i=>ys.getD i .none)) else .bad
 | none=>srtS ys
noncomputable def srtD (ys:List D):R D:=if ys.length<2 then .ok (.list ys) else srtA ys
noncomputable def xD (k:XO) (xs:List D):R D:=match k,xs with
 | .rev,[.list ys]=>.ok (.list ys.reverse)
 | .enm,[.list ys]=>.ok (.list (enmL 0 ys))
 | .enm,[.tuple ys]=>.ok (.list (enmL 0 ys))
 | .srt,[.list ys]=>srtD ys
 | .sst,[.list ys]=>sstS ys
 | .zip,[.list xs,.list ys]=>.ok (.list (List.zipWith (fun a b=>PyData.tuple [a,b]) xs ys))
 | _,_=>.bad
noncomputable def JM2:D->Bool
 | .list _=>true
 | _=>false
noncomputable def JKW:D->Bool
 | .dict []=>true
 | .dict ((.str _,_)::_)=>true
 | _=>false
noncomputable def push (k:Nat) (x:D) (δ:Env):R Env :=
 match k with
 | 0=>.ok (.val x::δ)
 | n+1=>match x with
  | .tuple xs=>if xs.length=n+1 then .ok (xs.map Sl.val++δ) else .bad
  | _=>.bad
noncomputable def JAp (f:D->R (Option D)):List D->R (List D)
 | []=>.ok []
 | x::xs=>match f x with
  | .ok (some y)=>(match JAp f xs with
   | .ok ys=>.ok (y::ys)
   | _=>.bad)
  | .ok none=>JAp f xs
  | _=>.bad
mutual
noncomputable def ev (C:Cn):E->Env->R D
 | .var i,δ=>look δ i
 | .cint i,_=>.ok (.int i)
 | .cbl b,_=>.ok (.bool b)
 | .cnon,_=>.ok .none
 | .cstr x,_=>.ok (.str x)
 | .glo i,_=>C.glo i
 | .bin op a b,δ=>(ev C a δ).bind fun x=>(ev C b δ).bind fun y=>binD op x y
 | .neg a,δ=>(ev C a δ).bind fun x=>match x with | .int i=>.ok (.int (-i)) | _=>.bad
 | .not a,δ=>((ev C a δ).bind truth).bind fun b=>.ok (.bool (!b))
 | .and a b,δ=>(ev C a δ).bind fun x=>match x with | .bool true=>ev C b δ | .bool false=>.ok (.bool false) | _=>.bad
 | .or a b,δ=>(ev C a δ).bind fun x=>match x with | .bool true=>.ok (.bool true) | .bool false=>ev C b δ | _=>.bad
 | .cmp op a b,δ=>(ev C a δ).bind fun x=>(ev C b δ).bind fun y=>cmpD op x y
 | .isN a n,δ=>(ev C a δ).bind fun x=>.ok (.bool (if n=true then !isNone x else isNone x))
 | .isB a b,δ=>(ev C a δ).bind fun x=>(isBool b x).bind fun k=>.ok (.bool k)
 | .ife c a b,δ=>(evT C c δ).bind fun k=>if k=true then ev C a δ else ev C b δ
 | .nil,_=>.bad
 | .cons _ _,_=>.bad
 | .tup es,δ=>(evA C es δ).bind fun xs=>.ok (.tuple xs)
 | .lst es,δ=>(evA C es δ).bind fun xs=>.ok (.list xs)
 | .idx a i,δ=>(ev C a δ).bind fun x=>(ev C i δ).bind fun y=>idxD x y
 | .call f es,δ=>(evA C es δ).bind fun xs=>C.fn f xs
 | .blt b es,δ=>(evA C es δ).bind fun xs=>bltD b xs
 | .rng _,_=>.bad
 | .isi a t,δ=>(ev C a δ).bind fun x=>isiD C.sub x t
 | .mcount o a,δ=>(ev C o δ).bind fun x=>if JM2 x=true then (ev C a δ).bind fun y=>JDF x y else .bad
 | .mindex o a,δ=>(ev C o δ).bind fun x=>if JM2 x=true then (ev C a δ).bind fun y=>JEX x y else .bad
 | .mget o a b,δ=>(ev C o δ).bind fun x=>if JKW x=true then (ev C a δ).bind fun y=>(ev C b δ).bind fun z=>JFa x y z else .bad
 | .cmpr k elt iter cond,δ=>(evI C iter δ).bind fun xs=>if xs.length<=16777216 then (JAp (fun x=>(push k x δ).bind fun δ1=>(evT C cond δ1).bind fun t =>
  if t=true then (ev C elt δ1).bind fun y=>.ok (some y) else .ok none) xs).bind fun ys=>.ok (.list ys) else .bad
 | .dct ks es,δ=>(evA C es δ).bind fun xs=>.ok (.dict ((ks.map PyData.str).zip xs))
 | .rep k es,δ=>(evA C es δ).bind fun xs=>.ok (.list (List.replicate k xs).flatten)
 | .fn1 o a,δ=>(ev C a δ).bind fun x=>op1D o x
 | .isnB a b,δ=>(ev C a δ).bind fun x=>(isBool b x).bind fun k=>.ok (.bool (!k))
 | .xop k es,δ=>(evA C es δ).bind (xD k)
noncomputable def evT (C:Cn):E->Env->R Bool
 | .not a,δ=>(evT C a δ).bind fun b=>.ok (!b)
 | .and a b,δ=>(evT C a δ).bind fun x=>if x=true then evT C b δ else .ok false
 | .or a b,δ=>(evT C a δ).bind fun x=>if x=true then .ok true else evT C b δ
 | .var i,δ=>(look δ i).bind truth
 | .cbl b,_=>.ok b
 | .cmp op a b,δ=>((ev C a δ).bind fun x=>(ev C b δ).bind fun y=>cmpD op x y).bind truth
 | .isN a n,δ=>(ev C a δ).bind fun x=>.ok (if n=true then !isNone x else isNone x)
 | .isB a b,δ=>(ev C a δ).bind fun x=>isBool b x
 | .idx a i,δ=>((ev C a δ).bind fun x=>(ev C i δ).bind fun y=>idxD x y).bind truth
 | .call f es,δ=>((evA C es δ).bind fun xs=>C.fn f xs).bind truth
 | .blt b es,δ=>((evA C es δ).bind fun xs=>bltD b xs).bind truth
 | .isi a t,δ=>((ev C a δ).bind fun x=>isiD C.sub x t).bind truth
 | .isnB a b,δ=>(ev C a δ).bind fun x=>(isBool b x).bind fun k=>.ok (!k)
 | _,_=>.bad
noncomputable def evA (C:Cn):E->Env->R (List D)
 | .nil,_=>.ok []
 | .cons a r,δ=>(ev C a δ).bind fun x=>(evA C r δ).bind fun xs=>.ok (x::xs)
 | _,_=>.bad
noncomputable def evI (C:Cn):E->Env->R (List D)
 | .rng es,δ=>(evA C es δ).bind rngD
 | .var i,δ=>(look δ i).bind JAg
 | .glo i,_=>(C.glo i).bind JAg
 | .idx a i,δ=>((ev C a δ).bind fun x=>(ev C i δ).bind fun y=>idxD x y).bind JAg
 | .call f es,δ=>((evA C es δ).bind fun xs=>C.fn f xs).bind JAg
 | .tup es,δ=>evA C es δ
 | .lst es,δ=>evA C es δ
 | .fn1 o a,δ=>((ev C a δ).bind fun x=>op1D o x).bind JAg
 | .bin op a b,δ=>((ev C a δ).bind fun x=>(ev C b δ).bind fun y=>binD op x y).bind JAg
 | .xop k es,δ=>((evA C es δ).bind (xD k)).bind JAg
 | _,_=>.bad
end
noncomputable def E.uses:E->Nat->Bool
 | .var i,j=>i==j
 | .bin _ a b,j=>a.uses j || b.uses j
 | .neg a,j=>a.uses j
 | .not a,j=>a.uses j
 | .and a b,j=>a.uses j || b.uses j
 | .or a b,j=>a.uses j || b.uses j
 | .cmp _ a b,j=>a.uses j || b.uses j
 | .isN a _,j=>a.uses j
 | .isB a _,j=>a.uses j
 | .ife c a b,j=>c.uses j || a.uses j || b.uses j
 | .cons a r,j=>a.uses j || r.uses j
 | .tup es,j=>es.uses j
 | .lst es,j=>es.uses j
 | .idx a i,j=>a.uses j || i.uses j
 | .call _ es,j=>es.uses j
 | .blt _ es,j=>es.uses j
 | .rng es,j=>es.uses j
 | .isi a _,j=>a.uses j
 | .mcount o a,j=>o.uses j || a.uses j
 | .mindex o a,j=>o.uses j || a.uses j
 | .mget o a b,j=>o.uses j || a.uses j || b.uses j
 | .dct _ es,j=>es.uses j
 | .rep _ es,j=>es.uses j
 | .fn1 _ a,j=>a.uses j
 | .isnB a _,j=>a.uses j
 | .xop _ es,j=>es.uses j
 | .cmpr k elt iter cond,j=>iter.uses j || elt.uses (j+(if k=0 then 1 else k)) || cond.uses (j+(if k=0 then 1 else k))
 | .cint _,_=>false
 | .cbl _,_=>false
 | .cnon,_=>false
 | .cstr _,_=>false
 | .glo _,_=>false
 | .nil,_=>false
noncomputable def E.fresh:E->Bool
 | .lst _=>true
 | .cmpr ..=>true
 | _=>false
mutual
noncomputable def JAQ:D->Bool
 | .none=>true
 | .bool _=>true
 | .int _=>true
 | .str _=>true
 | .list _=>false
 | .tuple xs=>JBf xs
 | .dict [(.none,.int _)]=>true
 | .dict _=>false
noncomputable def JBf:List D->Bool
 | []=>true
 | x::xs=>JAQ x&&JBf xs
end
noncomputable def JAn (e:E):Nat->Env->Env
 | _,[]=>[]
 | i,s::r=>(if e.uses i=true then s.frz else s)::JAn e (i+1) r
noncomputable def JAK (e:E):Nat->Env->Bool
 | _,[]=>false
 | i,s::r=>(e.uses i&&s.isOwn) || JAK e (i+1) r
noncomputable def after (e:E) (d:D) (δ:Env):Env:=if (JAK e 0 δ&&!JAQ d)=true then JAn e 0 δ else δ
inductive Fl where
 | nx (δ:Env)
 | rt (d:D)
 | bk (δ:Env)
 | ct (δ:Env)
 | ex (c:Nat)
 | bad
inductive S where
 | nil | cons (s r:S)
 | pass | brk | cnt
 | asg (i:Nat) (e:E)
 | unp (is:List Nat) (e:E)
 | ret (e:E) | retN
 | ife (c:E) (a b:S)
 | app (i:Nat) (e:E)
 | ext (i:Nat) (e:E)
 | ins (i:Nat) (es:E)
 | drop (e:E)
 | for1 (i:Nat) (e:E) (b:S)
 | forT (is:List Nat) (e:E) (b:S)
 | whl (c:E) (b:S)
 | rais (c:Nat)
 | tryx (b:S) (c:Nat) (i:Nat) (h:S)
@[reducible] def stepR {α:Type} (r:R α) (f:α->Fl):Fl :=
 match r with
 | .ok a=>f a
 | .exc c=>.ex c
 | .bad=>.bad
noncomputable def JBR:List Nat->List D->Env->Env
 | i::is,d::ds,δ=>JBR is ds (δ.set i (.val d))
 | _,_,δ=>δ
noncomputable def JAj (n:Nat):D->R (List D)
 | .tuple xs=>if xs.length=n then .ok xs else .bad
 | .list xs=>if xs.length=n then .ok xs else .bad
 | _=>.bad
noncomputable def forL (put:D->Env->Option Env) (body:Env->Fl):List D->Env->Fl
 | [],δ=>.nx δ
 | d::ds,δ=>match put d δ with
  | none=>.bad
  | some δ1=>match body δ1 with
   | .nx δ'=>forL put body ds δ'
   | .ct δ'=>forL put body ds δ'
   | .bk δ'=>.nx δ'
   | r=>r
noncomputable def put1 (i:Nat) (d:D) (δ:Env):Option Env:=some (δ.set i (.val d))
noncomputable def putT (is:List Nat) (d:D) (δ:Env):Option Env:=match d with
 | .tuple xs=>if xs.length=is.length then some (JBR is xs δ) else none
 | _=>none
noncomputable def JAh (c:Env->R Bool) (body:Env->Fl):Nat->Env->Fl
 | 0,_=>.bad
 | n+1,δ=>match c δ with
  | .ok true=>(match body δ with
   | .nx δ'=>JAh c body n δ'
   | .ct δ'=>JAh c body n δ'
   | .bk δ'=>.nx δ'
   | r=>r)
  | .ok false=>.nx δ
  | .exc k=>.ex k
  | .bad=>.bad
open Classical in
noncomputable def JBi (c:Env->R Bool) (body:Env->Fl) (δ:Env):Fl :=
 if h:∃n,JAh c body n δ≠.bad then JAh c body h.choose δ else .bad
noncomputable def JBN (i:Nat) (ds:List D) (e:E) (x:D) (δ:Env):Fl :=
 if ds.length<16777216 then (if (JAK e 0 δ&&!JAQ x)=true then .bad else .nx (δ.set i (.own (.list (ds++[x]))))) else .bad
noncomputable def JBP (i:Nat) (ds:List D) (e:E) (x:D) (δ:Env):Fl :=
 match x with
 | .list zs=>if ds.length+zs.length<=16777216 then (if JAK e 0 δ=true then .bad else .nx (δ.set i (.own (.list (ds++zs))))) else .bad
 | _=>.bad
noncomputable def JFP (i:Nat) (ds:List D) (es:E) (xs:List D) (δ:Env):Fl :=
 match xs with
 | [.int k,y]=>if 0<=k/\k<=ds.length/\ds.length<16777216 then (if (JAK es 0 δ&&!JAQ y)=true then .bad else .nx (δ.set i (.own (.list (ds.take k.toNat++y::ds.drop k.toNat))))) else .bad
 | _=>.bad
noncomputable def exec (C:Cn):S->Env->Fl
 | .nil,δ=>.nx δ
 | .cons s r,δ=>match exec C s δ with
  | .nx δ'=>exec C r δ'
  | f=>f
 | .pass,δ=>.nx δ
 | .brk,δ=>.bk δ
 | .cnt,δ=>.ct δ
 | .asg i e,δ=>stepR (ev C e δ) fun x=>if e.fresh=true then .nx ((after e x δ).set i (.own x)) else .nx ((after e x δ).set i (.val x))
 | .unp is e,δ=>stepR (ev C e δ) fun d=>stepR (JAj is.length d) fun xs=>.nx (JBR is xs (after e d δ))
 | .ret e,δ=>stepR (ev C e δ) fun x=>.rt x
 | .retN,_=>.rt .none
 | .ife c a b,δ=>stepR (evT C c δ) fun k=>if k=true then exec C a δ else exec C b δ
 | .app i e,δ=>match δ[i]? with
  | some (.own (.list ds))=>stepR (ev C e δ) fun x=>JBN i ds e x δ
  | _=>.bad
 | .ext i e,δ=>match δ[i]? with
  | some (.own (.list ds))=>stepR (ev C e δ) fun x=>JBP i ds e x δ
  | _=>.bad
 | .ins i es,δ=>match δ[i]? with
  | some (.own (.list ds))=>stepR (evA C es δ) fun xs=>JFP i ds es xs δ
  | _=>.bad
 | .drop e,δ=>stepR (ev C e δ) fun x=>.nx (after e x δ)
 | .for1 i e b,δ=>stepR (evI C e δ) fun xs=>forL (put1 i) (exec C b) xs (JAn e 0 δ)
 | .forT is e b,δ=>stepR (evI C e δ) fun xs=>forL (putT is) (exec C b) xs (JAn e 0 δ)
 | .whl c b,δ=>JBi (evT C c) (exec C b) δ
 | .rais c,_=>.ex c
 | .tryx b c i h,δ=>match exec C b δ with
  | .ex k=>if C.sub k c=true then (match exec C h ((δ.map fun _=>Sl.no).set i (.val (excD k))) with
   | .nx δ2=>.nx (δ2.set i .no)
   | .rt d=>.rt d
   | _=>.bad) else .bad
  | f=>f
structure Fd where
 par:Nat
 slots:Nat
 body:S
noncomputable def JFH (x:Bool) (C:Cn) (f:Fd) (xs:List D):R D :=
 if xs.length=f.par then
  (match exec C f.body (xs.map Sl.val++List.replicate (f.slots - f.par) Sl.no) with
   | .nx _=>.ok .none
   | .rt d=>.ok d
   | .ex c=>if x=true then .exc c else .bad
   | _=>.bad)
 else .bad
noncomputable def run (x:Bool) (tab:Nat->Option Fd) (glo:Nat->R D) (sub:Nat->Nat->Bool):Nat->Nat->List D->R D
 | 0,_,_=>.bad
 | n+1,f,xs=>match tab f with
  | none=>.bad
  | some fd=>JFH x ⟨run x tab glo sub n,glo,sub⟩ fd xs
end VI
end
section
set_option backward.eqns.nonrecursive false
namespace VI
open PySem
inductive GK where
 | fn (i:Nat) | con (i:Nat) | blt (b:Blt) | ty (t:Ty) | rng | isi | cls (c:Nat) | opt | nam
 deriving DecidableEq
noncomputable def JMQ:Blt->Str
 | .len=>"len"
 | .abs=>"abs"
 | .min=>"min"
 | .all=>"all"
noncomputable def JA9:Ty->Option Str
 | .int=>some "int"
 | .bool=>some "bool"
 | .str=>some "str"
 | .list=>some "list"
 | .tuple=>some "tuple"
 | .dict=>some "dict"
 | .valueError=>some "ValueError"
 | .own _=>none
noncomputable def idxOf (x:Str):List Str->Option Nat
 | []=>none
 | y::r=>if (x==y)=true then some 0 else (idxOf x r).map (· + 1)
noncomputable def vis:Option NameKind->Bool
 | some .local=>true
 | some .cell=>true
 | some .free=>true
 | _=>false
noncomputable def JAS (x:Str):Bool:=x=="__debug__" || x=="__classdict__" || x=="__name__"
noncomputable def glob (G:List (Str×GK)) (names:List (Str×NameKind)) (x:Str):Option GK :=
 if JAS x=true then none else if names.lookup x=some .globalImplicit then G.lookup x else none
noncomputable def JAJ (f:Expr->Option E):List Expr->Option E
 | []=>some .nil
 | e::r=>(f e).bind fun a=>(JAJ f r).bind fun b=>some (.cons a b)
noncomputable def JAw (mk:E->E->E) (f:Expr->Option E):List Expr->Option E
 | []=>none
 | [e]=>f e
 | e::r=>(f e).bind fun a=>(JAw mk f r).bind fun b=>some (mk a b)
noncomputable def okBin:Operator->Bool
 | .Add | .Sub | .Mult | .FloorDiv | .Mod=>true
 | _=>false
noncomputable def isSlice:Expr->Bool
 | .Slice ..=>true
 | _=>false
noncomputable def JBM:Expr->Bool
 | .Call _ [] [] _=>true
 | _=>false
noncomputable def JAm (outer:List (Str×NameKind)) (names:List (Str×NameKind)):List (Str×NameKind) :=
 names.map fun (n,k)=>if (k==.free&&true&&outer.lookup n==some .cell)=true then (n,.cell) else (n,k)
noncomputable def dots (i:Nat):Str:=⟨Array.replicate (i+2) 46⟩
noncomputable def mask (xs:List Str):Nat->List Str->List Str
 | _,[]=>[]
 | i,y::r=>(if xs.contains y=true then dots i else y)::mask xs (i+1) r
noncomputable def namesOf:List Expr->Option (List Str)
 | []=>some []
 | .Name x _::r=>(namesOf r).map (x::·)
 | _=>none
noncomputable def JB7:Expr->Option (Nat×List Str)
 | .Name x _=>some (0,[x])
 | .Tuple ts _ _=>(namesOf ts).bind fun xs=>if xs=[] then none else some (xs.length,xs)
 | _=>none
noncomputable def itK (k:Nat) (q:Option (XO×List Expr)) (f:List Expr->Option E) (d:Option E):Option E :=
 if k=0 then d else match q with
  | some q=>(f q.2).map (E.xop q.1)
  | none=>d
noncomputable def JB9 (outer names:List (Str×NameKind)) (xs N:List Str):Bool :=
 names.all (fun (n,k)=>k != .cell&&(k != .local || names.lookup n==some .local)&&(k != .free || (outer.lookup n==some .cell || outer.lookup n==some .free)))&&xs.all (fun x=>names.lookup x==some .local)
  && N.all (fun y=>xs.contains y || names.lookup y != some .local)&&(List.range N.length).all (fun i=>!vis ((JAm outer names).lookup (dots i)))&&decide (xs++mask xs 0 N).Nodup
noncomputable def strKeys:List (Option Expr)->Option (List Str)
 | []=>some []
 | some (.Constant (.str k) _ _)::r=>(strKeys r).map (k::·)
 | _=>none
noncomputable def JNL (a:Expr) (op:Operator) (b:Expr):Option (List Expr×Nat):=match a,op,b with
 | .List es _,.Mult,.Constant (.int k) _ _=>if 0<=k/\k<=1000/\es.length<=1000 then some (es,k.toNat) else none
 | _,_,_=>none
noncomputable def JCt:Option Expr->Option (Option Int)
 | none=>some none
 | some (.Constant (.int k) _ _)=>some (some k)
 | some (.UnaryOp .USub (.Constant (.int k) _ _) _)=>some (some (-k))
 | _=>none
noncomputable def sliceOf:Expr->Option (Option Int×Option Int)
 | .Slice lo hi none _=>(JCt lo).bind fun l=>(JCt hi).bind fun h=>some (l,h)
 | _=>none
noncomputable def JNa:Expr->Bool
 | .Slice none none (some (.UnaryOp .USub (.Constant (.int 1) _ _) _)) _=>true
 | _=>false
noncomputable def JMM (a:Expr) (op:Operator) (b:Expr):Option (Int×Int):=match a,op,b with
 | .Constant (.int x) _ _,.Pow,.Constant (.int y) _ _=>if 0<=x/\x<=100/\0<=y/\y<=20 then some (x,y) else none
 | _,_,_=>none
noncomputable def o1Of:Ty->Option O1
 | .tuple=>some .toTup
 | .list=>some .toLst
 | _=>none
noncomputable def XO.flag:XO->Str
 | .rev=>".rev"
 | .enm=>".enm"
 | .srt=>".srt"
 | .zip=>".zip"
 | .sst=>".sst"
noncomputable def JFE (G:List (Str×GK)) (names:List (Str×NameKind)) (f:Str) (a:Expr):Option (XO×List Expr) :=
 if f="sorted"/\glob G names f=some .nam then (match a with
  | .Call (.Name r _) [b] [] _=>if r="set"/\glob G names r=some .nam then some (.sst,[b]) else some (.srt,[a])
  | _=>some (.srt,[a]))
 else none
noncomputable def JC5 (G:List (Str×GK)) (names:List (Str×NameKind)) (it:Bool) (f:Str) (a:Expr):Option (XO×List Expr) :=
 if it=true then (if f="reversed"/\glob G names f=some .nam then some (.rev,[a]) else JFE G names f a)
 else if f="list"/\glob G names f=some (.ty .list) then (match a with
  | .Call (.Name r _) [b] [] _=>if r="reversed"/\glob G names r=some .nam then some (.rev,[b]) else none
  | _=>none)
 else JFE G names f a
noncomputable def xRaw (G:List (Str×GK)) (names:List (Str×NameKind)) (it:Bool):Expr->Option (XO×List Expr)
 | .Call (.Name f _) [a] [] _=>JC5 G names it f a
 | _=>none
noncomputable def xOf (G:List (Str×GK)) (names:List (Str×NameKind)) (it:Bool) (e:Expr):Option (XO×List Expr) :=
 (xRaw G names it e).bind fun q=>if G.lookup q.1.flag=some GK.opt then some q else none
noncomputable def xTgt (G:List (Str×GK)) (names:List (Str×NameKind)):Expr->Option (XO×List Expr)
 | .Call (.Name f _) [a] [] _=>if f="enumerate"/\glob G names f=some .nam then some (.enm,[a]) else none
 | .Call (.Name f _) [a,b] [] _=>if f="zip"/\glob G names f=some .nam then some (.zip,[a,b]) else none
 | _=>none
noncomputable def xT (G:List (Str×GK)) (names:List (Str×NameKind)) (e:Expr):Option (XO×List Expr) :=
 (xTgt G names e).bind fun q=>if G.lookup q.1.flag=some GK.opt then some q else none
noncomputable def JAO (G:List (Str×GK)) (f:Bool->List (Str×NameKind)->List Str->Expr->Option E) (it:Bool) (names:List (Str×NameKind)) (N:List Str) (e:Expr):Option E:=match e with
 | .Name x _=>if JAS x=true then none else if vis (names.lookup x)=true then (idxOf x N).map E.var
   else (match glob G names x with
   | some (.con i)=>some (.glo i)
   | _=>none)
 | .Constant c _ _=>(match it,c with
  | false,.none=>some .cnon
  | false,.bool b=>some (.cbl b)
  | false,.int i=>some (.cint i)
  | false,.str x=>some (.cstr x)
  | _,_=>none)
 | .Tuple es _ _=>if es.length<=1000 then (JAJ (f false names N) es).map E.tup else none
 | .List es _=>if es.length<=1000 then (JAJ (f false names N) es).map E.lst else none
 | .Subscript a i _=>if isSlice i=true then (if JNa i=true then (f false names N a).map (E.fn1 .rev) else (sliceOf i).bind fun q=>(f false names N a).map (E.fn1 (.slice q.1 q.2))) else (f false names N a).bind fun x=>(f false names N i).bind fun y=>some (.idx x y)
 | .Call (.Name g _) args [] _=>(match glob G names g with
   | some (.fn i)=>(match args with
       | _::_=>(JAJ (f false names N) args).map (E.call i)
       | []=>none)
   | some .rng=>if it=true/\g="range" then (match args with
       | [_]=>(JAJ (f false names N) args).map E.rng
       | [_,_]=>(JAJ (f false names N) args).map E.rng
       | _=>none) else none
   | some (.blt b)=>if it=false/\g=JMQ b then (match args with
       | _::_=>(JAJ (f false names N) args).map (E.blt b)
       | []=>none) else none
   | some .isi=>if it=false/\g="isinstance" then (match args with
       | [a,.Name t _]=>(match glob G names t with
        | some (.ty y)=>if JA9 y=some t then (f false names N a).map fun x=>.isi x y else none
        | some (.cls c)=>(f false names N a).map fun x=>.isi x (.own c)
        | _=>none)
       | _=>none) else none
   | some (.ty y)=>if it=false/\JA9 y=some g then (o1Of y).bind fun o=>(match args with
       | [a]=>(f false names N a).map (E.fn1 o)
       | _=>none) else none
   | _=>none)
 | .Dict ks vs _=>(match strKeys ks with
  | some xs=>if it=false/\G.lookup (".dct":Str)=some GK.opt/\1<=xs.length/\xs.length<=15/\xs.length=vs.length/\decide xs.Nodup=true then (JAJ (f false names N) vs).map (E.dct xs) else none
  | none=>none)
 | .BinOp a op b _=>match (if it=false/\G.lookup (".rep":Str)=some GK.opt then JNL a op b else none) with
  | some (es,k)=>(JAJ (f false names N) es).map (E.rep k)
  | none=>match JMM a op b with
   | some (x,y)=>if it=false then some (.cint (x ^ y.toNat)) else none
   | none=>if okBin op=true then (f false names N a).bind fun x=>(f false names N b).bind fun y=>some (.bin op x y) else none
 | .UnaryOp op a _=>(match it,op with
  | false,.USub=>(f false names N a).map .neg
  | false,.Not=>(f false names N a).map .not
  | _,_=>none)
 | .BoolOp op es _=>(match it,op with
  | false,.And=>JAw .and (f false names N) es
  | false,.Or=>JAw .or (f false names N) es
  | _,_=>none)
 | .Compare a [op] [b] _=>if it=true then none else (match op with
  | .Is=>(match b with
   | .Constant .none _ _=>(f false names N a).map fun x=>.isN x false
   | .Constant (.bool k) _ _=>(f false names N a).map fun x=>.isB x k
   | _=>none)
  | .IsNot=>(match b with
   | .Constant .none _ _=>(f false names N a).map fun x=>.isN x true
   | .Constant (.bool k) _ _=>(f false names N a).map fun x=>.isnB x k
   | _=>none)
  | _=>if behindInMarks op b=true then none else (f false names N a).bind fun x=>(f false names N b).bind fun y=>some (.cmp op x y))
 | .IfExp c a b _=>if it=true then none else (f false names N c).bind fun z=>(f false names N a).bind fun x=>(f false names N b).bind fun y=>some (.ife z x y)
 | .Call (.Attribute o m ap) [a] [] cp=>if it=false/\JBM o=false/\(ap.endLine==cp.line)=true then
   (if m="count" then (f false names N o).bind fun x=>(f false names N a).bind fun y=>some (.mcount x y)
    else if m="index" then (f false names N o).bind fun x=>(f false names N a).bind fun y=>some (.mindex x y) else none) else none
 | .Call (.Attribute o m ap) [a,b] [] cp=>if it=false/\JBM o=false/\(ap.endLine==cp.line)=true/\m="get" then
   (f false names N o).bind fun x=>(f false names N a).bind fun y=>(f false names N b).bind fun z=>some (.mget x y z) else none
 | .ListComp elt [⟨tg,iter,ifs,as⟩] sc _=>if it=true\/as≠0\/sc.kind≠.function then none else (match JB7 tg with
  | none=>none
  | some (k,xs)=>if JB9 names sc.names xs N=true then
     (itK k (xT G names iter) (JAJ (f false names N)) (f true names N iter)).bind fun i =>
     (f false (JAm names sc.names) (xs++mask xs 0 N) elt).bind fun x =>
     (match ifs with
      | []=>some (.cmpr k x i (.cbl true))
      | [c]=>(f false (JAm names sc.names) (xs++mask xs 0 N) c).bind fun y=>some (.cmpr k x i y)
      | _=>none)
   else none)
 | _=>none
noncomputable def JAZ (G:List (Str×GK)) (f:Bool->List (Str×NameKind)->List Str->Expr->Option E) (it:Bool) (names:List (Str×NameKind)) (N:List Str) (e:Expr):Option E:=match xOf G names it e with
 | some q=>(JAJ (f false names N) q.2).map (E.xop q.1)
 | none=>JAO G f it names N e
noncomputable def JAL (G:List (Str×GK)):Nat->Bool->List (Str×NameKind)->List Str->Expr->Option E
 | 0,_,_,_,_=>none
 | n+1,it,names,N,e=>JAZ G (JAL G n) it names N e
theorem JAC {G:List (Str×GK)} {n:Nat} {it:Bool} {names:List (Str×NameKind)} {N:List Str} {e:Expr} (h:xOf G names it e=none):JAL G (n+1) it names N e=JAO G (JAL G n) it names N e:=by
 unfold JAL JAZ;rw [h]
theorem JGE {G:List (Str×GK)} {n:Nat} {it:Bool} {names:List (Str×NameKind)} {N:List Str} {e:Expr} {q:XO×List Expr} (h:xOf G names it e=some q):JAL G (n+1) it names N e=(JAJ (JAL G n false names N) q.2).map (E.xop q.1):=by
 unfold JAL JAZ;rw [h]
theorem JAF {α:Type} {x:α} {P:Prop} (h:(none:Option α)=some x):P:=by cases h
noncomputable def JD5:Option NameKind->Bool
 | some .local=>true
 | some .cell=>true
 | _=>false
noncomputable def slot (names:List (Str×NameKind)) (N:List Str) (x:Str):Option Nat:=if JD5 (names.lookup x)=true then idxOf x N else none
noncomputable def slots (names:List (Str×NameKind)) (N:List Str):List Expr->Option (List Nat)
 | []=>some []
 | .Name x _::r=>(slot names N x).bind fun i=>(slots names N r).bind fun is=>some (i::is)
 | _=>none
noncomputable def JAe (f:Stmt->Option S):List Stmt->Option S
 | []=>some .nil
 | s::r=>(f s).bind fun a=>(JAe f r).bind fun b=>some (.cons a b)
noncomputable def JDe:Expr->Bool
 | .ListComp ..=>true
 | _=>false
noncomputable def isTup:Expr->Bool
 | .Tuple ..=>true
 | _=>false
noncomputable def JDl:Expr->Bool
 | .List ..=>true
 | _=>false
noncomputable def JQD (names:List (Str×NameKind)) (t1 t2 e:Expr):Bool:=match t1,t2,e with
 | .Name x px,.Name y py,.Tuple [a,b] _ _=>names.lookup x==some .local&&names.lookup y==some .local&&px.line==py.line&&x != y&&!([a,b].all (foldedForSure 8))&&!([a,b].all (constantsAlone 8))
 | _,_,_=>false
noncomputable def JEt (names:List (Str×NameKind)) (ts:List Expr) (e:Expr):Bool:=match ts with
 | [a,b]=>JQD names a b e
 | _=>false
noncomputable def JNV:Expr->Option (List Expr)
 | .Tuple es _ _=>some es
 | _=>none
noncomputable def JIv:Expr->Bool
 | .List [] _=>true
 | _=>false
noncomputable def three (names:List (Str×NameKind)) (t1 t2 t3:Expr) (es:List Expr):Bool:=match t1,t2,t3 with
 | .Name x px,.Name y py,.Name z pz=>es.length==3&&names.lookup x==some .local&&names.lookup y==some .local&&names.lookup z==some .local&&px.line==py.line&&px.line==pz.line&&x != y&&x != z&&y != z&&!(es.all (foldedForSure 8))&&!(es.all (constantsAlone 8))
 | _,_,_=>false
noncomputable def JKn (names:List (Str×NameKind)):Expr->Bool
 | .Name x _=>names.lookup x==some .cell
 | _=>false
noncomputable def JIf (names:List (Str×NameKind)) (ts es:List Expr):Bool:=match ts with
 | [a,b,c]=>three names a b c es
 | _::_::_::_::_=>ts.length==es.length&&decide (es.length<=1000)
 | _=>false
noncomputable def JF1 (names:List (Str×NameKind)) (ts es:List Expr):Bool:=(ts.any (JKn names)&&decide (es.length<=1000)) || JIf names ts es
noncomputable def JDG (f:Expr->Option E):List Expr->List Nat->Option (E×Option Nat)
 | [],_=>some (.nil,none)
 | _::_,[]=>none
 | e::r,i::is=>if JIv e=true then (JAJ f r).bind fun b=>some (.cons .cnon b,some i) else (f e).bind fun a=>(JDG f r is).bind fun q=>some (.cons a q.1,q.2)
noncomputable def unpO (is:List Nat) (x:E):Option Nat->S
 | none=>.unp is (.tup x)
 | some i=>.cons (.unp is (.tup x)) (.asg i (.lst .nil))
noncomputable def JFp (e c:Option Expr):Option Str:=match e,c with
 | some (.Call (.Name x _) [.Constant (.str _) _ _] [] _),none=>some x
 | _,_=>none
noncomputable def handOf:List ExceptHandler->Option (Str×Str×Str)
 | [.ExceptHandler (some (.Name cn _)) (some en) [.Assign [.Name kn _] (.Name en2 _) _] _]=>if en2=en then some (cn,en,kn) else none
 | _=>none
noncomputable def JIQ:Expr->Option (Str×Str×Expr)
 | .Call (.Attribute (.Name x _) m ap) [a] [] cp=>if (ap.endLine==cp.line)=true then some (x,m,a) else none
 | _=>none
noncomputable def JMR:Expr->Option (Str×Expr×Expr)
 | .Call (.Attribute (.Name x _) m ap) [a,b] [] cp=>if (ap.endLine==cp.line)=true/\m="insert" then some (x,a,b) else none
 | _=>none
noncomputable def docOf:Expr->Bool
 | .Constant (.str _) _ _=>true
 | _=>false
noncomputable def JGj:List Expr->Option (Sum Str (List Expr))
 | [.Name x _]=>some (.inl x)
 | [.Tuple ts _ _]=>some (.inr ts)
 | _=>none
noncomputable def JCG (G:List (Str×GK)) (fE:Bool->List (Str×NameKind)->List Str->Expr->Option E) (fS:Bool->List (Str×NameKind)->List Str->Stmt->Option S) (zz:Bool) (names:List (Str×NameKind)) (N:List Str) (st:Stmt):Option S:=match st with
 | .Pass _=>some .pass
 | .Break _=>some .brk
 | .Continue _=>some .cnt
 | .Return none _=>some .retN
 | .Return (some e) _=>(fE false names N e).map S.ret
 | .Assign ts e _=>(match JGj ts with
  | some (.inl x)=>(slot names N x).bind fun i=>(fE false names N e).bind fun y=>if y.fresh=true/\JDl e=false/\JDe e=false then none else some (.asg i y)
  | some (.inr ts)=>(slots names N ts).bind fun is=>if decide is.Nodup=true/\(isTup e=false\/JEt names ts e=true) then (fE false names N e).map (S.unp is)
    else (JNV e).bind fun es=>if decide is.Nodup=true/\JF1 names ts es=true then (JDG (fE false names N) es is).map (fun q=>unpO is q.1 q.2) else none
  | none=>none)
 | .If c a b _=>(fE false names N c).bind fun z=>(JAe (fS zz names N) a).bind fun x=>(JAe (fS zz names N) b).bind fun y=>some (.ife z x y)
 | .Expr e _=>(match JIQ e with
  | some (x,m,a)=>if JAS x=false then
    (if m="append" then (slot names N x).bind fun i=>(fE false names N a).map (S.app i)
     else if m="extend"/\JDe a=false then (slot names N x).bind fun i=>(fE false names N a).map (S.ext i) else none) else none
  | none=>(match JMR e with
   | some (x,a,b)=>if JAS x=false then (slot names N x).bind fun i=>(JAJ (fE false names N) [a,b]).map (S.ins i) else none
   | none=>if docOf e=true then some .pass else if JDe e=true then none else (fE false names N e).map S.drop))
 | .For tg iter body [] _=>(match JGj [tg] with
  | some (.inl x)=>(slot names N x).bind fun i=>(fE true names N iter).bind fun e=>(JAe (fS zz names N) body).bind fun b=>some (.for1 i e b)
  | some (.inr ts)=>(slots names N ts).bind fun is=>(match xT G names iter with
   | some q=>(JAJ (fE false names N) q.2).map (E.xop q.1)
   | none=>fE true names N iter).bind fun e=>(JAe (fS zz names N) body).bind fun b=>some (.forT is e b)
  | none=>none)
 | .While c body [] _=>(fE false names N c).bind fun z=>(JAe (fS zz names N) body).bind fun b=>some (.whl z b)
 | .Raise e c _=>(JFp e c).bind fun x=>(match glob G names x with
   | some (.cls c)=>if zz=true then some (.rais c) else none
   | _=>none)
 | .Try body hs [] [] _=>(handOf hs).bind fun q =>
   if zz=true/\G.lookup (".try":Str)=some GK.opt/\JAS q.2.1=false/\names.lookup q.2.1=some .local then (match glob G names q.1 with
   | some (.cls c)=>(JAe (fS false names N) body).bind fun b=>(idxOf q.2.1 N).bind fun i=>(slot names N q.2.2).bind fun j =>
      if i=j then none else some (.tryx b c i (.cons (.asg j (.var i)) .nil))
   | _=>none) else none
 | _=>none
noncomputable def JCj (G:List (Str×GK)):Nat->Bool->List (Str×NameKind)->List Str->Stmt->Option S
 | 0,_,_,_,_=>none
 | n+1,zz,names,N,st=>JCG G (JAL G n) (JCj G n) zz names N st
end VI
end
section
namespace VI
open PySem
def JBA (cells:List (Str×Addr)):List (Str×NameKind)->List (Str×Addr)->List (Str×Addr)
 | [],cs=>cs
 |(n,k)::r,cs=>if (k==NameKind.free)=true then JBA cells r ((n,(cells.lookup n).getD 0)::cs) else JBA cells r cs
theorem JCT {env:PySem.Env}:∀(names:List (Str×NameKind)) (cs:List (Str×Addr)),(∀n,(n,NameKind.free)∈names->(env.cells.lookup n).isSome=true) ->
  (forIn names cs (fun (x:Str×NameKind) (r:List (Str×Addr))=>if (x.2==NameKind.free)=true then (do let c<-cellOf env x.1;pure (ForInStep.yield ((x.1,c)::r))) else pure (ForInStep.yield r)):Sem (List (Str×Addr)))=pure (JBA env.cells names cs)
 | [],cs,_=>rfl
 |(n,k)::r,cs,h=>by
  rw [List.forIn_cons]
  have ih:=fun cs=>JCT (env:=env) r cs fun m hm=>h m (q_s _ hm)
  by_cases hk:(k==NameKind.free)=true
  · have e:k=.free:=eq_of_beq hk
    subst e
    have q:=h n List.mem_cons_self
    obtain ⟨c,hc⟩:=Option.isSome_iff_exists.mp q
    simp only [hk,if_true]
    have e2:cellOf env n=pure c:=by unfold cellOf;rw [hc]
    rw [e2,pure_bind,pure_bind]
    show (forIn r ((n,c)::cs) _:Sem _)=_
    rw [ih]
    show pure (JBA env.cells r ((n,c)::cs))=pure (JBA env.cells ((n,NameKind.free)::r) cs)
    rw [show JBA env.cells ((n,NameKind.free)::r) cs=JBA env.cells r ((n,(env.cells.lookup n).getD 0)::cs) from if_pos rfl,hc]
    rfl
  · rw [if_neg hk,pure_bind]
    show (forIn r cs _:Sem _)=_
    rw [ih]
    show _=pure (JBA env.cells ((n,k)::r) cs)
    rw [show JBA env.cells ((n,k)::r) cs=JBA env.cells r cs from if_neg hk]
theorem JD2 {env:PySem.Env} {sc:Scope} (h:∀n,(n,NameKind.free)∈sc.names->(env.cells.lookup n).isSome=true):closureFor sc env=pure (JBA env.cells sc.names []):=by
 have:=JCT (env:=env) sc.names [] h
 unfold closureFor
 first
  | exact this
  |(simp only [] at this ⊢;rw [show (forIn sc.names [] _:Sem (List (Str×Addr)))=_ from this];rfl)
  |(rw [this];rfl)
theorem JBh {cells:List (Str×Addr)} {x:Str}:∀(names:List (Str×NameKind)) (cs:List (Str×Addr)),(JBA cells names cs).lookup x =
  if (x,NameKind.free)∈names then some ((cells.lookup x).getD 0) else cs.lookup x
 | [],cs=>by simp [JBA]
 |(n,k)::r,cs=>by
  unfold JBA
  by_cases hk:(k==NameKind.free)=true
  · have e:k=.free:=eq_of_beq hk
    subst e
    rw [if_pos hk,JBh r]
    by_cases hr:(x,NameKind.free)∈r
    ·rw [if_pos hr,if_pos (q_s _ hr)]
    ·rw [if_neg hr]
     by_cases hx:x=n
     ·subst hx
      rw [if_pos List.mem_cons_self,List.lookup_cons,beq_self_eq_true]
     ·have hb:(x==n)=false:=beq_eq_false_iff_ne.mpr hx
      rw [List.lookup_cons,hb,if_neg]
      intro hm
      rcases q_n.mp hm with e | e
      ·exact hx (Prod.mk.inj e).1
      ·exact hr e
  · rw [if_neg hk,JBh r]
    have:((x,NameKind.free)∈(n,k)::r)↔(x,NameKind.free)∈r:=by
     constructor
     ·intro hm
      rcases q_n.mp hm with e | e
      ·exfalso;apply hk;rw [<-(Prod.mk.inj e).2];rfl
      ·exact e
     ·exact q_s _
    simp only [this]
end VI
end
section
namespace VI
open PySem PySem.Spec PyProof.Rows L2
section
variable {X:Cx}
noncomputable def rCat2 (K:PySem.W.Frag):R2:=fun x y H Q=>∃a b xs ys,x=.ref a/\y=.ref b/\SqT K H a xs/\SqT K H b ys/\xs.length+ys.length<=sizeLine /\
 (xs=[]->Q (.ref b) H)/\(xs≠[]->ys=[]->Q (.ref a) H)/\(xs≠[]->ys≠[]->∀p,H p=none->Q (.ref p) (upd H p (.tup (xs++ys))))
theorem JJg:OpR X (binaryOp .Add) (rCat2 X.K):=by
 intro pins s σ H x y v u Q I rx ry h
 obtain ⟨a,b,xs,ys,e1,e2,ha,hb,hz,q0,q1,q2⟩:=h
 by_cases hx:xs=[]
 ·subst e1 e2
  cases rx
  cases ry
  obtain ⟨its,r1,p1,_⟩:=I.tuple ha
  obtain ⟨its2,r2,p2,_⟩:=I.tuple hb
  obtain ⟨⟨cls,dd,data,sl⟩,ho,hc,n,hd⟩:=id p1
  obtain ⟨⟨cls2,dd2,data2,sl2⟩,ho2,hc2,n2,hd2⟩:=id p2
  simp only at hc hd hc2 hd2
  subst hc hd hc2 hd2
  have hv:its=[]:=r1.nil_iff.mpr hx
  exact concat_meets ⟨_,ho,rfl⟩ ⟨_,ho2,rfl⟩ noFill_tuple_add seq_tuple_add PySem.F.slot_tuple_add PySem.F.entry_tuple_add (PySem.F.args_tuple_add_2 _ _)
   (tuple_addW0 a b its.toArray its2.toArray n n2 dd dd2 sl sl2 (by simp [hv])) ⟨ho,ho2,⟨.ref b,H,I,rfl,q0 hx⟩⟩
 ·exact JNB pins s σ H x y v u Q I rx ry ⟨a,b,xs,ys,e1,e2,ha,hb,hx,hz,q1 hx,q2 hx⟩
noncomputable def rCatL (K:PySem.W.Frag):R2:=fun x y H Q=>∃a b xs ys,x=.ref a/\y=.ref b/\SqL K H a xs/\SqL K H b ys/\xs.length+ys.length<=sizeLine/\∀p,H p=none->Q (.ref p) (upd H p (.lst (xs++ys)))
theorem JMA:OpR X (binaryOp .Add) (rCatL X.K):=by
 intro pins s σ H x y v u Q I rx ry h
 obtain ⟨a,b,xs,ys,rfl,rfl,ha,hb,hz,q⟩:=h
 cases rx
 cases ry
 obtain ⟨its,r,⟨⟨cls,dd,data,sl⟩,n,ho,hc,hdd,hd⟩,_⟩:=I.list ha
 obtain ⟨its2,r2,⟨⟨cls2,dd2,data2,sl2⟩,n2,ho2,hc2,hdd2,hd2⟩,_⟩:=I.list hb
 simp only at hc hd hc2 hd2
 subst hc hd hc2 hd2
 have e:its.toArray++its2.toArray=(its++its2).toArray:=by simp
 have hl:its.toArray.size+its2.toArray.size<=sizeLine:=by
  rw [q_f,q_f,<-r.length,<-r2.length];exact hz
 refine concat_meets ⟨_,ho,rfl⟩ ⟨_,ho2,rfl⟩ noFill_list_add seq_list_add PySem.F.slot_list_add PySem.F.entry_list_add (PySem.F.args_list_add_2 _ _) (list_addW a b its.toArray its2.toArray n n2 dd dd2 sl sl2 hl) ⟨ho,ho2,?_⟩
 rw [e]
 exact ⟨.ref _,_,I.lnew (t':=s.toks) (r.append r2) (by rw [q_u];omega),rfl,q _ I.fresh⟩
noncomputable def rRepL (K:PySem.W.Frag):R2:=fun x y H Q=>∃a k xs,x=.ref a/\y=.int k/\SqL K H a xs/\-(2 ^ 63)<=k/\k<2 ^ 63/\xs.length*k.toNat<=sizeLine/\∀p,H p=none->Q (.ref p) (upd H p (.lst (List.replicate k.toNat xs).flatten))
theorem JL6:OpR X (binaryOp .Mult) (rRepL X.K):=by
 intro pins s σ H x y v u Q I rx ry h
 obtain ⟨a,k,xs,rfl,rfl,ha,h1,h2,hz,q⟩:=h
 cases rx
 obtain ⟨t,rfl⟩:=ry
 obtain ⟨its,r,⟨⟨cls,dd,data,sl⟩,n,ho,hc,hdd,hd⟩,_⟩:=I.list ha
 simp only at hc hd
 subst hc hd
 have hlen:its.toArray.size*k.toNat<=sizeLine:=by rw [q_f,<-r.length];exact hz
 have hcap:¬its.toArray.size*k.toNat > (2 ^ 63 - 1) / 8:=by
  have:(sizeLine:Nat)<=(2 ^ 63 - 1) / 8:=by decide
  omega
 have hfit:¬(!Builtin.List.listFitsIndex k)=true:=by
  rw [fitsIndex_both h1 h2]
  exact Bool.false_ne_true
 have hlong:¬Builtin.List.listTooLong (its.toArray.size*k.toNat)=true:=by
  rw [JD1 hlen]
  exact Bool.false_ne_true
 refine wpAny_binaryOp_repeat_ref (T:="list") (U:="int") (by decide) ⟨_,ho,rfl⟩ (fun s'=>typeIs_int s' k t) noFill_list_mul PySem.F.fills_int_mul PySem.F.slot_int_rmul repeat_list PySem.F.slot_int_index.lookup
  (call_meets PySem.F.slot_int_rmul (typeIs_int s k t) PySem.F.entry_int_rmul (PySem.F.args_int_rmul_2 _ _) (lm_int_rmul_list_any k t a its.toArray n dd sl)
    ⟨ho,rfl,⟨_,ho,rfl⟩,call_meets PySem.F.slot_list_mul ⟨_,ho,rfl⟩ PySem.F.entry_list_mul (PySem.F.args_list_mul_2 _ _) (lm_list_mul_any a its.toArray n dd sl k t hfit hcap hlong) ⟨ho,?_⟩⟩)
 rw [listMul_foldl_if]
 exact ⟨.ref _,_,I.lnew (t':=s.toks) (r.rep k.toNat) (by rw [len_rep,Nat.mul_comm];exact hz),rfl,q _ I.fresh⟩
theorem JCl:fillsNumberSlot (.type "tuple") "mul"=pure false :=
 PySem.fillsNumberSlot_seq (id:="tuple.__mul__") (r:=some (.builtin "tuple.__rmul__")) PySem.F.slot_tuple_mul.lookup (by decide +kernel) PySem.F.slot_tuple_rmul.lookup (by decide +kernel)
theorem JEn:seqRepeat? (.type "tuple")=pure (some (.builtin "tuple.__mul__")):=by
 unfold seqRepeat?
 rw [PySem.seqSlot_of (T:="tuple") (name:="__mul__") (id:="tuple.__mul__") PySem.F.slot_tuple_mul.lookup (by decide +kernel),PySem.seqSlot_of (T:="tuple") (name:="__rmul__") (id:="tuple.__rmul__") PySem.F.slot_tuple_rmul.lookup (by decide +kernel)]
 rfl
theorem JDK (a:Int) (t:Tok) (l:Addr) (items:Array Value) (n:Nat) (d:Option Addr) (sl:Array (Option Value)) :
  Meets (Builtin.«int.__rmul__» ⟨[.int a t,.ref l],[]⟩) (fun _ R s=>s.heap.get? l=some { cls:=.type "tuple",dict:=d,data:=.seq items n,slots:=sl }/\R (.ok (.ret Value.notImplemented)) s) :=
 .of_wp fun prog w A R s h=>by obtain ⟨hp,g,d,tk,os⟩:=s;obtain ⟨hl,h⟩:=h;wp_walk;exact ⟨_,rfl,h⟩
theorem JDh (l:Addr) (items:Array Value) (n:Nat) (d:Option Addr) (sl:Array (Option Value)) (x:Int) (u:Tok) (h1:2<=x) (h2:x<=1000) (h3:items.size<=1000) (h4:items.isEmpty=false) (h5:(List.foldl (fun x1 x2=>x1++x2) #[] (List.replicate x.toNat items)).size<=sizeLine) :
  Meets (Builtin.«tuple.__mul__» ⟨[.ref l,.int x u],[]⟩) (fun _ R s=>s.heap.get? l=some { cls:=.type "tuple",dict:=d,data:=.seq items n,slots:=sl }/\R (.ok (.ret (Value.ref s.heap.objs.size))) { s with heap:=s.heap.push { cls:=Value.type "tuple",data:=Data.seq (List.foldl (fun x1 x2=>x1++x2) #[] (List.replicate x.toNat items)) },toks:=s.toks }) :=
 .of_wp fun prog w A R s h=>by
  obtain ⟨hp,g,d,tk,os⟩:=s;obtain ⟨hl,h⟩:=h
  have c1:(decide (x < -(2 ^ 63)) || decide (x ≥ 2 ^ 63))=false:=by simp;omega
  have c2:(items.isEmpty || x==1)=false:=by rw [h4];simp;omega
  have c3:(decide (x<=0) || items.isEmpty)=false:=by rw [h4];simp;omega
  have c4:((items.size:Int)*x)<=1000*1000:=Int.mul_le_mul (by omega) h2 (by omega) (by omega)
  have c5:¬((items.size:Int)*x > (2 ^ 63 - 1) / 8):=by omega
  have c6:Builtin.Tuple.tupleTooMany ((items.size:Int)*x)=false:=by
   unfold Builtin.Tuple.tupleTooMany
   rw [sizeLine_eq]
   exact q_o (by omega)
  wp_walk
  rw [if_neg (by rw [c1];decide)]
  wp_walk
  rw [if_neg (by rw [c2];decide)]
  dsimp only
  rw [if_neg (by rw [c3];decide)]
  rw [if_neg c5]
  rw [if_neg (by rw [c6];decide)]
  unfold Builtin.Tuple.tupleExact
  refine q_b (wpAny_newObj_type (q_e ⟨_,rfl,h⟩) h5)
noncomputable def rRepT (K:PySem.W.Frag):R2:=fun x y H Q=>∃a k xs,x=.ref a/\y=.int k/\SqT K H a xs/\2<=k/\k<=1000/\xs.length<=1000/\xs≠[]/\∀p,H p=none->Q (.ref p) (upd H p (.tup (List.replicate k.toNat xs).flatten))
theorem JMt:OpR X (binaryOp .Mult) (rRepT X.K):=by
 intro pins s σ H x y v u Q I rx ry h
 obtain ⟨a,k,xs,rfl,rfl,ha,h1,h2,h3,h4,q⟩:=h
 cases rx
 obtain ⟨t,rfl⟩:=ry
 obtain ⟨its,r,⟨⟨cls,dd,data,sl⟩,ho,hc,n,hd⟩,_⟩:=I.tuple ha
 simp only at hc hd
 subst hc hd
 have hl:=r.length
 have he:its.toArray.isEmpty=false:=by
  cases its with
  | nil=>exact absurd (q_A.mp (by simpa using hl)) h4
  | cons _ _=>rfl
 have ef:List.foldl (fun x1 x2=>x1++x2) #[] (List.replicate k.toNat its.toArray)=(List.replicate k.toNat its).flatten.toArray:=by
  have:=listMul_foldl_if its.toArray k.toNat
  rw [he] at this
  simpa using this
 have hz:(List.replicate k.toNat its).flatten.length<=1000000:=by
  rw [len_rep]
  exact Nat.le_trans (Nat.mul_le_mul (show k.toNat<=1000 by omega) (show its.length<=1000 by omega)) (by decide)
 refine wpAny_binaryOp_repeat_ref (T:="tuple") (U:="int") (by decide) ⟨_,ho,rfl⟩ (fun s'=>typeIs_int s' k t) JCl PySem.F.fills_int_mul PySem.F.slot_int_rmul JEn PySem.F.slot_int_index.lookup
  (call_meets PySem.F.slot_int_rmul (typeIs_int s k t) PySem.F.entry_int_rmul (PySem.F.args_int_rmul_2 _ _) (JDK k t a its.toArray n dd sl)
    ⟨ho,rfl,⟨_,ho,rfl⟩,call_meets PySem.F.slot_tuple_mul ⟨_,ho,rfl⟩ PySem.F.entry_tuple_mul (PySem.F.args_tuple_mul_2 _ _) (JDh a its.toArray n dd sl k t h1 h2 (by simp only [q_f];omega) he (by rw [ef,sizeLine_eq];simp only [q_f];omega)) ⟨ho,?_⟩⟩)
 rw [ef]
 refine ⟨.ref s.heap.objs.size,upd H s.heap.objs.size (.tup (List.replicate k.toNat xs).flatten),I.laid (t':=s.toks) (fun b u e=>q_c _ e) (q_t _) ?_,rfl,q _ I.fresh⟩
 exact ⟨by rw [(r.rep k.toNat).length,sizeLine_eq];omega,_,r.rep k.toNat,⟨_,q_k _ rfl,rfl,_,rfl⟩⟩
theorem JEh:∀ {vs:List V} {us:List Value},Vals vs us->∀n:Nat,Vals (vs.take n) (us.take n)
 | [],_,r,n=>by cases r;simp;exact .nil
 | v::vs,us,r,0=>by simp;exact .nil
 | v::vs,us,r,n+1=>by
  cases r with
  | cons p q=>exact .cons p (JEh q n)
theorem JEk:∀ {vs:List V} {us:List Value},Vals vs us->∀n:Nat,Vals (vs.drop n) (us.drop n)
 | [],_,r,n=>by cases r;simp;exact .nil
 | v::vs,us,r,0=>r
 | v::vs,us,r,n+1=>by
  cases r with
  | cons p q=>exact JEk q n
noncomputable def insF (i:Int) (x:Value) (xs:Array Value):Array Value:=(xs.extract 0 (if i<0 then (i+xs.size).toNat else min i.toNat xs.size)).push x++xs.extract (if i<0 then (i+xs.size).toNat else min i.toNat xs.size)
theorem JIw {i:Int} {x:Value} {its:List Value} (h0:0<=i) (h1:i<=its.length):insF i x its.toArray=(its.take i.toNat++x::its.drop i.toNat).toArray:=by
 unfold insF
 rw [if_neg (by omega)]
 have e:min i.toNat its.toArray.size=i.toNat:=by simp only [q_f];omega
 rw [e]
 apply Array.ext'
 simp
 exact List.take_of_length_le (by simp)
theorem JEC (l:Addr) (is:Array Value) (n:Nat) (i:Int) (t:Tok) (x:Value) (h0:0<=i) (h1:i<=is.size) (h2:is.size<sizeLine) (h3:(insF i x is).size<=sizeLine) :
  Meets (Builtin.«list.insert» ⟨[.ref l,.int i t,x],[]⟩) (fun _ R s=>s.heap.get? l=some ⟨.type "list",none,.seq is n,#[]⟩/\R (.ok (.ret Value.none)) { s with heap:=s.heap.update l (Obj.mapSeq (insF i x)),toks:=s.toks }) :=
 .of_wp fun prog w A R s h=>by
  obtain ⟨hp,g,d,tk,os⟩:=s
  obtain ⟨hl,h⟩:=h
  have hs:(sizeLine:Int)<=2 ^ 62:=by rw [sizeLine_eq];decide
  wp_walk
  rw [if_neg (by rw [fitsIndex_both (by omega) (by omega)];decide)]
  dsimp only
  refine q_b ?_
  show wpAny _ _ (updateSeq l (insF i x)) _ _ _
  exact wpAny_updateSeq hl rfl (q_e ⟨_,rfl,h⟩) (Nat.le_of_lt h2) (Nat.le_trans h3 (Nat.le_succ _))
noncomputable def rIns:V->List V->Hp->VK->Prop:=fun x vs H Q=>∃l xs i y,x=.ref l/\vs=[.int i,y]/\H l=some (.lst xs)/\0<=i/\i<=xs.length/\xs.length<sizeLine/\Q .non (upd H l (.lst (xs.take i.toNat++y::xs.drop i.toNat)))
theorem JNv:MtM X "list.insert" rIns:=by
 intro pins s σ H x vs v us Q I rx rv h
 obtain ⟨l,xs,i,y,rfl,rfl,hH,h0,h1,h2,q⟩:=h
 cases rx
 cases rv with
 | cons ri rr =>
  cases rr with
  | cons ry rn =>
   cases rn
   rename_i u
   obtain ⟨t,rfl⟩:=ri
   obtain ⟨z,its,n,r,hl,e⟩:=I.lstM hH
   have hlen:=r.length
   have ef:=JIw (x:=u) (its:=its) h0 (by omega)
   refine call_meets PySem.F.slot_list_insert ⟨_,e,rfl⟩ PySem.F.entry_list_insert (PySem.F.args_list_insert_3 _ _ _) (JEC l its.toArray n i t _ h0 (by rw [q_f];omega) (by rw [q_f];omega) (by rw [ef];simp;omega)) ⟨e,?_⟩
   refine ⟨.non,_,I.lset hH e ef ((JEh r _).append (.cons ry (JEk r _))) (by simp;omega),rfl,q⟩
theorem JE2 (l b:Addr) (is js:Array Value) (n m:Nat) (sl:Array (Option Value)) (h0:¬(!is.isEmpty&&Builtin.List.listTooLong (is.size+js.size))=true) (h1:is.size<=sizeLine) (h2:is.size+js.size<=sizeLine+1) :
  Meets (Builtin.«list.extend» ⟨[.ref l,.ref b],[]⟩) (fun _ R s=>s.heap.get? l=some ⟨.type "list",none,.seq is n,#[]⟩/\s.heap.get? b=some ⟨.type "list",none,.seq js m,sl⟩/\R (.ok (.ret Value.none)) { s with heap:=s.heap.update l (Obj.mapSeq fun x=>x++js),toks:=s.toks }) :=
 .of_wp fun prog w A R s h=>by
  obtain ⟨hp,g,d,tk,os⟩:=s
  obtain ⟨hl,hb,h⟩:=h
  have f1:=AutoSeq1.sub_list_list
  have f2:=AutoSeq1.sub_list_tuple
  have hz':(is++js).size<=sizeLine+1:=by rw [Array.size_append];exact h2
  wp_walk using (wpAny_updateSeq hl rfl (hz:=h1) (_hz':=hz')),AutoSeq1.wpAny_loadPart' hl,AutoSeq1.wpAny_loadPart' hb
  exact ⟨_,rfl,h⟩
noncomputable def rExtL (K:PySem.W.Frag):V->List V->Hp->VK->Prop:=fun x vs H Q=>∃l b xs zs,x=.ref l/\vs=[.ref b]/\H l=some (.lst xs)/\SqL K H b zs/\xs.length+zs.length<=sizeLine/\Q .non (upd H l (.lst (xs++zs)))
theorem JL9:MtM X "list.extend" (rExtL X.K):=by
 intro pins s σ H x vs v us Q I rx rv h
 obtain ⟨l,b,xs,zs,rfl,rfl,hH,hB,hz,q⟩:=h
 cases rx
 obtain ⟨u,rfl,ru⟩:=rv.one
 cases ru
 obtain ⟨z,its,n,r,hl,e⟩:=I.lstM hH
 obtain ⟨its2,r2,⟨⟨cls,dd,data,sl⟩,m,ho,hc,hdd,hd⟩,_⟩:=I.list hB
 simp only at hc hdd hd
 subst hc hdd hd
 have l2:=r2.length
 have hsz:its.toArray.size+its2.toArray.size<=sizeLine:=by rw [q_f,q_f];omega
 have hlong:¬(!its.toArray.isEmpty&&Builtin.List.listTooLong (its.toArray.size+its2.toArray.size))=true:=by
  rw [JD1 hsz,Bool.and_false]
  exact Bool.false_ne_true
 refine call_meets PySem.F.slot_list_extend ⟨_,e,rfl⟩ PySem.F.entry_list_extend (PySem.F.args_list_extend_2 _ _)
  (JE2 l b its.toArray its2.toArray n m sl hlong (by rw [q_f];omega) (by omega)) ⟨e,ho,?_⟩
 refine ⟨.non,_,I.lset (its':=its++its2) hH e (by simp) (r.append r2) ?_,rfl,q⟩
 rw [q_u]
 omega
end
section
variable {prog:Program} {w:World} {A:Around} {E:Value->Shared->Prop} {s:Shared}
theorem JCF {t sl:Addr} {items:Array Value} {vl vu:Value} {lo hi:Option Int} {Q:Value->Shared->Prop} (ht:IsTup s.heap t items) (hs:s.heap.IsSliceOf sl vl vu .none) (pl:IsPart vl lo) (pu:IsPart vu hi)
  (hw:HT.sIx items.size 0 lo=0/\HT.sIx items.size items.size hi=items.size) (h:Q (.ref t) s):wpAny (model prog w) A (getItem (.ref t) (.ref sl)) Q E s:=by
 obtain ⟨os,hos,hcs,hds⟩:=id hs
 have hTs:s.TypeIs (.ref sl) "slice":=⟨os,hos,hcs⟩
 unfold getItem
 try with_reducible refine wpAny_holding ?_
 first | refine q_b (q_e ?_) | skip
 refine q_b (wpAny_sequenceKey ht.typeIs (by decide) ?_)
 refine q_b (wpAny_callSpecial?_slot (name:=Str.ofString "__getitem__") ht.typeIs PyProof.Rows.slot_tuple_getitem
  (wpAny_call_entry PyProof.Rows.slot_tuple_getitem ht.typeIs entry_tuple_getitem ?_ (args_tuple_getitem _ _)))
 show wpAny _ _ (Builtin.Tuple.tupleItemsOf (.ref t) >>= _) _ _ s
 refine q_b (tupleItemsOf_ ht ?_)
 refine q_b (wpAny_typeOf hTs ?_)
 rw [if_pos (by decide)]
 refine q_b (HT.sliceApplied_gen hs pl pu ?_)
 have hyes:(((HT.sIx items.size 0 lo:Nat):Int)==0&&(1:Int)==1&&(HT.sIx items.size items.size hi - HT.sIx items.size 0 lo)==items.size)=true:=by
  rw [hw.1,hw.2];simp
 show wpAny _ _ (if (((HT.sIx items.size 0 lo:Nat):Int)==0&&(1:Int)==1&&(HT.sIx items.size items.size hi - HT.sIx items.size 0 lo)==items.size)=true then _ else _) _ _ s
 rw [if_pos hyes]
 refine q_b ?_
 unfold Builtin.Tuple.tupleIsExact
 refine q_b (wpAny_typeOf ht.typeIs (q_e ?_))
 rw [if_pos (by decide)]
 refine q_b (wpAny_rule ?_)
 exact q_e ⟨_,rfl,q_e h⟩
end
section
variable {X:Cx}
noncomputable def rSlW (K:PySem.W.Frag):V->Option Int->Option Int->Hp->VK->Prop:=fun x lo hi H Q=>∃a xs,x=.ref a/\SqT K H a xs/\(HT.sIx xs.length 0 lo=0/\HT.sIx xs.length xs.length hi=xs.length)/\Q (.ref a) H
theorem JL7:SlR X (rSlW X.K):=by
 intro pins s σ H x v vl vu lo hi sl Q I rx hs pl pu h
 obtain ⟨a,xs,rfl,hx,hw,q⟩:=h
 cases rx
 obtain ⟨its,r,ht,hz⟩:=I.tuple hx
 have hlen:its.toArray.size=xs.length:=by rw [q_f];exact r.length.symm
 refine ⟨"tuple",_,PyProof.Rows.slot_tuple_getitem.lookup,ht.typeIs,?_⟩
 exact JCF ht hs pl pu (by rw [hlen];exact hw) ⟨.ref a,H,I,rfl,q⟩
end
end VI
end
section
namespace VI
open PySem PySem.Spec PyProof.Rows L2
abbrev St:=L2.St
structure Bs where
 K:PySem.W.Frag
 cl:Nat->Addr
 w:World
noncomputable def ExcAt (a C:Addr) (h:Heap):Prop:=∃o,h.get? a=some o/\o.cls=.ref C
noncomputable def SqD (K:PySem.W.Frag) (w:World) (H:Hp) (a:Addr) (xs:List (Key×V)):Prop :=
 Rd H a (.dK xs)\/∀(P:Program) (h:Heap),K.In h->(a==sysModules)=false/\∃vs,KV xs vs/\h.DictOf (JBE P w) a vs
mutual
noncomputable def Den (B:Bs) (H:Hp):D->V->Prop
 | .none,v=>v=.non
 | .bool b,v=>v=.bl b
 | .int i,v=>v=.int i
 | .str x,v=>v=.str x
 | .tuple ds,v=>∃a xs,v=.ref a/\SqT B.K H a xs/\DenL B H ds xs
 | .list ds,v=>∃a xs,v=.ref a/\SqL B.K H a xs/\DenL B H ds xs
 | .dict kvs,v=>(∃a c,v=.ref a/\kvs=[(.none,.int ((c:Nat):Int))]/\H a=some (.ext (ExcAt a (B.cl c))))\/∃a xs,v=.ref a/\SqD B.K B.w H a xs/\DenK B H kvs xs
noncomputable def DenL (B:Bs) (H:Hp):List D->List V->Prop
 | [],vs=>vs=[]
 | d::ds,vs=>∃v r,vs=v::r/\Den B H d v/\DenL B H ds r
noncomputable def DenK (B:Bs) (H:Hp):List (D×D)->List (Key×V)->Prop
 | [],vs=>vs=[]
 |(k,d)::ds,vs=>∃x v r,vs=(Sum.inr x,v)::r/\k=.str x/\Den B H d v/\DenK B H ds r
end
theorem JKR {K:PySem.W.Frag} {H H':Hp} {a:Addr} {xs:List V} (e:Same H H') (h:SqT K H a xs):SqT K H' a xs:=by
 rcases h with (h | ⟨o,h⟩) | h
 ·exact .inl (.inl (e _ _ h))
 ·exact .inl (.inr ⟨o,e _ _ h⟩)
 ·exact .inr h
theorem JO2 {K:PySem.W.Frag} {w:World} {H H':Hp} {a:Addr} {xs:List (Key×V)} (e:Same H H') (h:SqD K w H a xs):SqD K w H' a xs:=by
 rcases h with (h | ⟨o,h⟩) | h
 ·exact .inl (.inl (e _ _ h))
 ·exact .inl (.inr ⟨o,e _ _ h⟩)
 ·exact .inr h
mutual
theorem Den.mono {B:Bs} {H H':Hp} (s:Same H H'):∀(d:D) (v:V),Den B H d v->Den B H' d v
 | .none,_,h=>h
 | .bool _,_,h=>h
 | .int _,_,h=>h
 | .str _,_,h=>h
 | .tuple ds,v,h=>by
  simp only [Den] at h ⊢
  obtain ⟨a,xs,e,q,l⟩:=h
  exact ⟨a,xs,e,JKR s q,DenL.mono s ds xs l⟩
 | .list ds,v,h=>by
  simp only [Den] at h ⊢
  obtain ⟨a,xs,e,q,l⟩:=h
  exact ⟨a,xs,e,s.seq q,DenL.mono s ds xs l⟩
 | .dict kvs,v,h=>by
  simp only [Den] at h ⊢
  rcases h with ⟨a,c,e,k,q⟩ | ⟨a,xs,e,q,l⟩
  ·exact .inl ⟨a,c,e,k,s _ _ q⟩
  ·exact .inr ⟨a,xs,e,JO2 s q,DenK.mono s kvs xs l⟩
theorem DenL.mono {B:Bs} {H H':Hp} (s:Same H H'):∀(ds:List D) (vs:List V),DenL B H ds vs->DenL B H' ds vs
 | [],_,h=>h
 | d::ds,vs,h=>by
  simp only [DenL] at h ⊢
  obtain ⟨v,r,e,q,l⟩:=h
  exact ⟨v,r,e,Den.mono s d v q,DenL.mono s ds r l⟩
theorem DenK.mono {B:Bs} {H H':Hp} (s:Same H H'):∀(ds:List (D×D)) (vs:List (Key×V)),DenK B H ds vs->DenK B H' ds vs
 | [],_,h=>h
 |(k,d)::ds,vs,h=>by
  simp only [DenK] at h ⊢
  obtain ⟨x,v,r,e,e',q,l⟩:=h
  exact ⟨x,v,r,e,e',Den.mono s d v q,DenK.mono s ds r l⟩
end
theorem DenL.len {B:Bs} {H:Hp}:∀(ds:List D) (vs:List V),DenL B H ds vs->ds.length=vs.length
 | [],_,h=>by simp only [DenL] at h;subst h;rfl
 | d::ds,vs,h=>by
  simp only [DenL] at h
  obtain ⟨v,r,e,q,l⟩:=h
  subst e
  simp only [List.length_cons,DenL.len ds r l]
theorem DenL.get {B:Bs} {H:Hp}:∀(ds:List D) (vs:List V) (i:Nat) (d:D),DenL B H ds vs->ds[i]? = some d->∃v,vs[i]? = some v/\Den B H d v
 | [],_,_,_,_,e=>by simp at e
 | d::ds,vs,i,x,h,e=>by
  simp only [DenL] at h
  obtain ⟨v,r,e1,q,l⟩:=h
  subst e1
  cases i with
  | zero =>
   simp only [List.getElem?_cons_zero,q_j] at e
   subst e
   exact ⟨v,rfl,q⟩
  | succ i =>
   simp only [List.getElem?_cons_succ] at e
   obtain ⟨u,e2,q2⟩:=DenL.get ds r i x l e
   exact ⟨u,by simpa using e2,q2⟩
theorem DenL.append {B:Bs} {H:Hp}:∀(ds es:List D) (vs us:List V),DenL B H ds vs->DenL B H es us->DenL B H (ds++es) (vs++us)
 | [],es,_,us,h,h2=>by simp only [DenL] at h;subst h;exact h2
 | d::ds,es,vs,us,h,h2=>by
  simp only [DenL,List.cons_append] at h ⊢
  obtain ⟨v,r,e,q,l⟩:=h
  subst e
  exact ⟨v,r++us,rfl,q,DenL.append ds es r us l h2⟩
mutual
theorem Den.reads {B:Bs} {X:Cx} {pins:List (Addr×Obj)} {σ:St} {H:Hp} {s:Shared} (hK:X.K=B.K) (I:Inv X pins σ H s) :
  ∀(d:D) (v:V) (u:Value),d.canLay0=true->Den B H d v->RelV v u->∃as,Reads s.heap u d as
 | .none,v,u,_,h,r=>by simp only [Den] at h;subst h;cases r;exact ⟨_,.none⟩
 | .bool b,v,u,_,h,r=>by simp only [Den] at h;subst h;cases r;exact ⟨_,.bool b⟩
 | .int i,v,u,_,h,r=>by simp only [Den] at h;subst h;obtain ⟨t,rfl⟩:=r;exact ⟨_,.int i t⟩
 | .str x,v,u,_,h,r=>by simp only [Den] at h;subst h;obtain ⟨t,rfl⟩:=r;exact ⟨_,.str x t⟩
 | .tuple ds,v,u,c,h,r=>by
  simp only [Den] at h
  obtain ⟨a,xs,e,q,l⟩:=h
  subst e
  cases r
  obtain ⟨its,rv,⟨o,h1,h2,n,h3⟩,_⟩:=I.tuple (hK▸q)
  obtain ⟨as,ra⟩:=DenL.reads hK I ds xs its (by simpa only [PyData.canLay0] using c) l rv
  exact ⟨as,.tuple h1 h2 h3 (by simpa using ra)⟩
 | .list ds,v,u,c,h,r=>by
  simp only [Den] at h
  obtain ⟨a,xs,e,q,l⟩:=h
  subst e
  cases r
  obtain ⟨its,rv,⟨o,n,h1,h2,_,h3⟩,_⟩:=I.list (hK▸q)
  obtain ⟨as,ra⟩:=DenL.reads hK I ds xs its (by simpa only [PyData.canLay0] using c) l rv
  exact ⟨a::as,.list h1 h2 h3 (by simpa using ra)⟩
 | .dict kvs,v,u,c,h,r=>by simp only [PyData.canLay0] at c;cases c
theorem DenL.reads {B:Bs} {X:Cx} {pins:List (Addr×Obj)} {σ:St} {H:Hp} {s:Shared} (hK:X.K=B.K) (I:Inv X pins σ H s) :
  ∀(ds:List D) (vs:List V) (us:List Value),PyData.canLayAll0 ds=true->DenL B H ds vs->Vals vs us->∃as,ReadsAll s.heap us ds as
 | [],vs,us,_,h,r=>by simp only [DenL] at h;subst h;cases r;exact ⟨_,.nil⟩
 | d::ds,vs,us,c,h,r=>by
  simp only [DenL] at h
  obtain ⟨v,t,e,q,l⟩:=h
  subst e
  simp only [PyData.canLayAll0,q_i] at c
  cases r with
  | cons r1 r2 =>
   obtain ⟨as,h1⟩:=Den.reads hK I d v _ c.1 q r1
   obtain ⟨bs,h2⟩:=DenL.reads hK I ds t _ c.2 l r2
   exact ⟨_,.cons h1 h2⟩
end
noncomputable def KE (B:Bs) (XX:Nat->Hp->Prop) (r:R D) (H:Hp) (Q:VK):Prop:=match r with
 | .ok d=>∀v H',Same H H'->Den B H' d v->Q v H'
 | .exc c=>XX c H
 | .bad=>False
noncomputable def KL (B:Bs) (XX:Nat->Hp->Prop) (r:R (List D)) (H:Hp) (Q:List V->Hp->Prop):Prop:=match r with
 | .ok ds=>∀vs H',Same H H'->DenL B H' ds vs->Q vs H'
 | .exc c=>XX c H
 | .bad=>False
noncomputable def KB (XX:Nat->Hp->Prop) (r:R Bool) (H:Hp) (Q:Bool->Hp->Prop):Prop:=match r with
 | .ok b=>∀H',Same H H'->Q b H'
 | .exc c=>XX c H
 | .bad=>False
noncomputable def Sok (B:Bs) (σ:St) (H:Hp) (δ:Env):Prop:=∀i d,look δ i=.ok d->∃v,σ[i]? = some (some v)/\Den B H d v
theorem Sok.mono {B:Bs} {σ:St} {H H':Hp} {δ:Env} (h:Sok B σ H δ) (s:Same H H'):Sok B σ H' δ:=fun i d e =>
 let ⟨v,e1,q⟩:=h i d e
 ⟨v,e1,Den.mono s d v q⟩
noncomputable def JCh (B:Bs) (n:Nat) (fn:List D->R D):Sp:=fun vs H Q E=>vs.length=n/\∃ds,DenL B H ds vs/\(match fn ds with
 | .ok d=>∀v H',Same H H'->Den B H' d v->Q v H'
 | .exc c=>∀H',Same H H'->E (.ref (B.cl c)) none H'
 | .bad=>False)
noncomputable def EX (B:Bs) (XX:Nat->Hp->Prop):XK:=fun u _ H=>∃c,u=.ref (B.cl c)/\XX c H
structure Gk (X:Cx) (B:Bs) (C:Cn) (CX:CXT) (XX:Nat->Hp->Prop) (G:List (Str×GK)):Prop where
 K:X.K=B.K
 W:X.w=B.w
 anti:∀c H H',Same H H'->XX c H->XX c H'
 units:X.A.units+200<cLine
 calm:X.calm=true
 fn:∀x i,G.lookup x=some (.fn i)->∃f fd ps k,X.mg x=some (.ref f)/\PySem.W.keepIn X.K (.ref f)=true /\
  FnOk X.prog X.w X.K X.mg X.base CX k f fd ps (JCh B ps.length (C.fn i))/\Room k X.A/\Binds X.K fd ps []/\∀ds,C.fn i ds≠.bad->ds.length=ps.length
 pas:JDd CX X (EX B XX)
 con:∀x i d,G.lookup x=some (.con i)->C.glo i=.ok d->∃u v,X.mg x=some u/\RelV v u/\∀H,Den B H d v
 noexg:∀i c,C.glo i≠.exc c
 blt:∀x b,G.lookup x=some (.blt b)->X.mg x=none
 rng:∀x,G.lookup x=some .rng->X.mg x=none
 isi:∀x,G.lookup x=some .isi->X.mg x=none
 ty:∀x t,G.lookup x=some (.ty t)->X.mg x=none
 cls:∀x c,G.lookup x=some (.cls c)->X.mg x=some (.ref (B.cl c))
 nam:∀x,G.lookup x=some .nam->X.mg x=none
section
variable {X:Cx} {B:Bs} {C:Cn} {CX:CXT} {XX:Nat->Hp->Prop} {G:List (Str×GK)}
noncomputable def RE (B:Bs) (C:Cn) (XX:Nat->Hp->Prop) (e:E):TE:=fun σ H Q=>∃δ,Sok B σ H δ/\KE B XX (ev C e δ) H Q
noncomputable def RT (B:Bs) (C:Cn) (XX:Nat->Hp->Prop) (e:E):TT:=fun σ H Q=>∃δ,Sok B σ H δ/\KB XX (evT C e δ) H Q
noncomputable def RA (B:Bs) (C:Cn) (XX:Nat->Hp->Prop) (e:E):TA:=fun σ H Q=>∃δ,Sok B σ H δ/\KL B XX (evA C e δ) H Q
theorem PE.imp {e:Expr} {t t':TE} (h:PE X e t) (i:∀σ H Q,t' σ H Q->t σ H Q):PE X e t':=fun pins s σ H Q I q=>h pins s σ H Q I (i σ H Q q)
theorem PT.imp {e:Expr} {t t':TT} (h:PT X e t) (i:∀σ H Q,t' σ H Q->t σ H Q):PT X e t':=fun pins s σ H Q I q=>h pins s σ H Q I (i σ H Q q)
theorem PA.imp {e:List Expr} {t t':TA} (h:PA X e t) (i:∀σ H Q,t' σ H Q->t σ H Q):PA X e t':=fun pos pins s σ H Q I q=>h pos pins s σ H Q I (i σ H Q q)
theorem RE.of {e:E} {δ:Env} {σ:St} {H:Hp} {Q:VK} {α:Type} {f:D->R α} {W:R α->Hp->Prop} (ok:Sok B σ H δ)
  (hx:∀c H,W (.exc c) H->XX c H) (hb:∀H,W .bad H->False) (h:W ((ev C e δ).bind f) H)
  (go:∀d v H1,Same H H1->Den B H1 d v->W (f d) H->Q v H1):RE B C XX e σ H Q:=by
 refine ⟨δ,ok,?_⟩
 cases q:ev C e δ with
 | ok d =>
  rw [q] at h
  exact fun v H1 s1 d1=>go d v H1 s1 d1 h
 | exc c =>
  rw [q] at h
  exact hx c H h
 | bad =>
  rw [q] at h
  exact (hb H h).elim
theorem RT.of {e:E} {δ:Env} {σ:St} {H:Hp} {Q:Bool->Hp->Prop} {α:Type} {f:Bool->R α} {W:R α->Hp->Prop} (ok:Sok B σ H δ)
  (hx:∀c H,W (.exc c) H->XX c H) (hb:∀H,W .bad H->False) (h:W ((evT C e δ).bind f) H)
  (go:∀b H1,Same H H1->W (f b) H->Q b H1):RT B C XX e σ H Q:=by
 refine ⟨δ,ok,?_⟩
 cases q:evT C e δ with
 | ok d =>
  rw [q] at h
  exact fun H1 s1=>go d H1 s1 h
 | exc c =>
  rw [q] at h
  exact hx c H h
 | bad =>
  rw [q] at h
  exact (hb H h).elim
theorem RA.of {e:E} {δ:Env} {σ:St} {H:Hp} {Q:List V->Hp->Prop} {α:Type} {f:List D->R α} {W:R α->Hp->Prop} (ok:Sok B σ H δ)
  (hx:∀c H,W (.exc c) H->XX c H) (hb:∀H,W .bad H->False) (h:W ((evA C e δ).bind f) H)
  (go:∀ds vs H1,Same H H1->DenL B H1 ds vs->W (f ds) H->Q vs H1):RA B C XX e σ H Q:=by
 refine ⟨δ,ok,?_⟩
 cases q:evA C e δ with
 | ok d =>
  rw [q] at h
  exact fun v H1 s1 d1=>go d v H1 s1 d1 h
 | exc c =>
  rw [q] at h
  exact hx c H h
 | bad =>
  rw [q] at h
  exact (hb H h).elim
theorem KE.mono (g:Gk X B C CX XX G) {r:R D} {H H':Hp} {Q:VK} (s:Same H H') (h:KE B XX r H Q):KE B XX r H' Q:=by
 cases r with
 | ok d=>exact fun v H2 s2 d2=>h v H2 (s.trans s2) d2
 | exc c=>exact g.anti c H H' s h
 | bad=>exact h
theorem KB.mono (g:Gk X B C CX XX G) {r:R Bool} {H H':Hp} {Q:Bool->Hp->Prop} (s:Same H H') (h:KB XX r H Q):KB XX r H' Q:=by
 cases r with
 | ok d=>exact fun H2 s2=>h H2 (s.trans s2)
 | exc c=>exact g.anti c H H' s h
 | bad=>exact h
theorem KL.mono (g:Gk X B C CX XX G) {r:R (List D)} {H H':Hp} {Q:List V->Hp->Prop} (s:Same H H') (h:KL B XX r H Q):KL B XX r H' Q:=by
 cases r with
 | ok d=>exact fun v H2 s2 d2=>h v H2 (s.trans s2) d2
 | exc c=>exact g.anti c H H' s h
 | bad=>exact h
theorem KE.ok {d:D} {v:V} {H:Hp} {Q:VK} (h:KE B XX (.ok d) H Q) (q:Den B H d v):Q v H:=h v H (Same.refl H) q
theorem two (g:Gk X B C CX XX G) {a b:E} {σ:St} {H:Hp} {Q:VK} {f:D->D->R D} {r:R2}
  (hr:∀x y H dx dy,Den B H dx x->Den B H dy y->KE B XX (f dx dy) H Q->r x y H Q) :
  (∃δ,Sok B σ H δ/\KE B XX ((ev C a δ).bind fun x=>(ev C b δ).bind fun y=>f x y) H Q)->tOp r (RE B C XX a) (RE B C XX b) σ H Q:=by
 rintro ⟨δ,ok,h⟩
 refine RE.of (W:=fun r H=>KE B XX r H Q) ok (fun _ _ z=>z) (fun _ z=>z) h fun dx x H1 s1 d1 h1=>?_
 refine RE.of (W:=fun r H=>KE B XX r H Q) (ok.mono s1) (fun _ _ z=>z) (fun _ z=>z) (KE.mono g s1 h1) fun dy y H2 s2 d2 h2=>?_
 exact hr x y H2 dx dy (Den.mono s2 dx x d1) d2 (KE.mono g s2 h2)
theorem DenL.repN {H:Hp} {ds:List D} {vs:List V} (h:DenL B H ds vs):∀k:Nat,DenL B H (List.replicate k ds).flatten (List.replicate k vs).flatten
 | 0=>by simp only [List.replicate_zero,List.flatten_nil,DenL]
 | k+1=>by
  simp only [List.replicate_succ,List.flatten_cons]
  exact DenL.append _ _ _ _ h (DenL.repN h k)
theorem binOk (g:Gk X B C CX XX G) (op:Operator):OpR X (binaryOp op) (fun x y H Q=>∃dx dy,Den B H dx x/\Den B H dy y/\KE B XX (binD op dx dy) H Q):=by
 intro pins s σ H x y v u Q I rx ry ⟨dx,dy,hx,hy,k⟩
 cases dx<;>cases dy<;>first
  |(exfalso;cases op<;>exact k)
  | skip
 case list.list xs ys =>
  cases op<;>first
   | exact False.elim k
   | skip
  simp only [binD] at k
  split at k
  ·rename_i hz
   simp only [Den] at hx hy
   obtain ⟨a,us,e1,q1,l1⟩:=hx
   obtain ⟨c,ws,e2,q2,l2⟩:=hy
   subst e1;subst e2
   have n1:=DenL.len _ _ l1
   have n2:=DenL.len _ _ l2
   refine JMA pins s σ H _ _ v u Q I rx ry ⟨a,c,us,ws,rfl,rfl,g.K▸q1,g.K▸q2,by rw [sizeLine_eq];omega,fun p hp=>?_⟩
   have sm:Same H (upd H p (.lst (us++ws))):=fun b o e=>by rw [JAG (JAW e hp)];exact e
   refine k _ _ sm ?_
   simp only [Den]
   exact ⟨p,_,rfl,SqL.of JAH,DenL.append _ _ _ _ (DenL.mono sm _ _ l1) (DenL.mono sm _ _ l2)⟩
  ·exact k.elim
 case list.int xs j =>
  cases op<;>first
   | exact False.elim k
   | skip
  simp only [binD] at k
  split at k
  ·rename_i hz
   simp only [Den] at hx hy
   obtain ⟨a,us,e1,q1,l1⟩:=hx
   subst e1;subst hy
   have n1:=DenL.len _ _ l1
   refine JL6 pins s σ H _ _ v u Q I rx ry ⟨a,j,us,rfl,rfl,g.K▸q1,by omega,by omega,by rw [sizeLine_eq,<-n1];exact hz.2.2,fun p hp=>?_⟩
   have sm:Same H (upd H p (.lst (List.replicate j.toNat us).flatten)):=fun b o e=>by rw [JAG (JAW e hp)];exact e
   refine k _ _ sm ?_
   simp only [Den]
   exact ⟨p,_,rfl,SqL.of JAH,DenL.repN (DenL.mono sm _ _ l1) _⟩
  ·exact k.elim
 case tuple.int xs j =>
  cases op<;>first
   | exact False.elim k
   | skip
  simp only [binD] at k
  split at k
  ·rename_i hz
   simp only [Den] at hx hy
   obtain ⟨a,us,e1,q1,l1⟩:=hx
   subst e1;subst hy
   have n1:=DenL.len _ _ l1
   refine JMt pins s σ H _ _ v u Q I rx ry ⟨a,j,us,rfl,rfl,g.K▸q1,hz.1,hz.2.1,by omega,fun z=>hz.2.2.2 (by rw [z] at n1;exact q_A.mp n1),fun p hp=>?_⟩
   have sm:Same H (upd H p (.tup (List.replicate j.toNat us).flatten)):=fun b o e=>by rw [JAG (JAW e hp)];exact e
   refine k _ _ sm ?_
   simp only [Den]
   exact ⟨p,_,rfl,SqT.of JAH,DenL.repN (DenL.mono sm _ _ l1) _⟩
  ·exact k.elim
 case tuple.tuple xs ys =>
  cases op<;>first
   | exact False.elim k
   | skip
  simp only [binD] at k
  split at k
  ·rename_i hz
   simp only [Den] at hx hy
   obtain ⟨a,us,e1,q1,l1⟩:=hx
   obtain ⟨c,ws,e2,q2,l2⟩:=hy
   subst e1;subst e2
   have n1:=DenL.len _ _ l1
   have n2:=DenL.len _ _ l2
   refine JJg pins s σ H _ _ v u Q I rx ry ⟨a,c,us,ws,rfl,rfl,g.K▸q1,g.K▸q2,by rw [sizeLine_eq];omega,fun h=>?_,fun h h2=>?_,fun h h2 p hp=>?_⟩
   · have:xs=[]:=by rw [h] at n1;exact List.eq_nil_of_length_eq_zero n1
     subst this
     refine k _ _ (Same.refl H) ?_
     simp only [Den,List.nil_append]
     exact ⟨c,ws,rfl,q2,l2⟩
   · have:ys=[]:=by rw [h2] at n2;exact List.eq_nil_of_length_eq_zero n2
     subst this
     refine k _ _ (Same.refl H) ?_
     simp only [Den,List.append_nil]
     exact ⟨a,us,rfl,q1,l1⟩
   · have sm:Same H (upd H p (.tup (us++ws))):=fun b o e=>by rw [JAG (JAW e hp)];exact e
     refine k _ _ sm ?_
     simp only [Den]
     exact ⟨p,_,rfl,SqT.of JAH,DenL.append _ _ _ _ (DenL.mono sm _ _ l1) (DenL.mono sm _ _ l2)⟩
  ·exact k.elim
 rename_i i j
 simp only [Den] at hx hy
 subst hx;subst hy
 cases op<;>first
  | exact False.elim k
  | skip
 ·exact JOd pins s σ H _ _ v u Q I rx ry ⟨i,j,rfl,rfl,KE.ok k (by simp only [Den])⟩
 ·exact JOc pins s σ H _ _ v u Q I rx ry ⟨i,j,rfl,rfl,KE.ok k (by simp only [Den])⟩
 ·simp only [binD] at k
  split at k
  ·rename_i hm
   obtain ⟨t,rfl⟩:=rx
   obtain ⟨t',rfl⟩:=ry
   exact mul_int ⟨.int _,H,I.tok _,⟨_,rfl⟩,KE.ok k (by simp only [Den])⟩ hm
  ·exact k.elim
 ·simp only [binD] at k
  split at k
  ·rename_i hm
   exact JML pins s σ H _ _ v u Q I rx ry ⟨i,j,rfl,rfl,hm,KE.ok k (by simp only [Den])⟩
  ·exact k.elim
 ·simp only [binD] at k
  split at k
  ·rename_i hm
   obtain ⟨t,rfl⟩:=rx
   obtain ⟨t',rfl⟩:=ry
   exact floordiv_int hm.1 ⟨.int _,H,I.tok _,⟨_,rfl⟩,KE.ok k (by simp only [Den])⟩ (.inl hm.2)
  ·exact k.elim
theorem JHi (g:Gk X B C CX XX G):X.A.units+64<cLine:=by have:=g.units;omega
theorem JPL (g:Gk X B C CX XX G) (op:CmpOp):OpR X (compareOp op) (fun x y H Q=>∃dx dy,Den B H dx x/\Den B H dy y/\KE B XX (cmpD op dx dy) H Q):=by
 intro pins s σ H x y v u Q I rx ry ⟨dx,dy,hx,hy,k⟩
 cases op with
 | Eq =>
  simp only [cmpD] at k
  split at k
  ·rename_i hs
   simp only [q_i] at hs
   have c1:dx.canLay0=true:=(Bool.and_eq_true_iff.mp hs.1).1
   have c2:dy.canLay0=true:=(Bool.and_eq_true_iff.mp hs.2).1
   obtain ⟨as,ra⟩:=Den.reads g.K I dx x v c1 hx rx
   obtain ⟨bs,rb⟩:=Den.reads g.K I dy y u c2 hy ry
   exact SeqAt.compareEq_shaped ra rb hs.1 hs.2 (JHi g) ⟨.bl _,H,I,rfl,KE.ok k (by simp only [Den])⟩
  ·exact k.elim
 | NotEq =>
  simp only [cmpD] at k
  split at k
  ·rename_i hs
   simp only [q_i] at hs
   have c1:dx.canLay0=true:=(Bool.and_eq_true_iff.mp hs.1).1
   have c2:dy.canLay0=true:=(Bool.and_eq_true_iff.mp hs.2).1
   obtain ⟨as,ra⟩:=Den.reads g.K I dx x v c1 hx rx
   obtain ⟨bs,rb⟩:=Den.reads g.K I dy y u c2 hy ry
   exact SeqAt.compareNe_shaped ra rb hs.1 hs.2 (JHi g) ⟨.bl _,H,I,rfl,KE.ok k (by simp only [Den])⟩
  ·exact k.elim
 | Lt =>
  cases dx<;>cases dy<;>first | exact False.elim k | skip
  rename_i i j
  simp only [Den] at hx hy
  subst hx;subst hy
  exact op_lt pins s σ H _ _ v u Q I rx ry ⟨i,j,rfl,rfl,KE.ok k (by simp only [Den])⟩
 | LtE =>
  cases dx<;>cases dy<;>first | exact False.elim k | skip
  rename_i i j
  simp only [Den] at hx hy
  subst hx;subst hy
  exact op_le pins s σ H _ _ v u Q I rx ry ⟨i,j,rfl,rfl,KE.ok k (by simp only [Den])⟩
 | Gt =>
  cases dx<;>cases dy<;>first | exact False.elim k | skip
  rename_i i j
  simp only [Den] at hx hy
  subst hx;subst hy
  exact op_gt pins s σ H _ _ v u Q I rx ry ⟨i,j,rfl,rfl,KE.ok k (by simp only [Den])⟩
 | GtE =>
  cases dx<;>cases dy<;>first | exact False.elim k | skip
  rename_i i j
  simp only [Den] at hx hy
  subst hx;subst hy
  exact op_ge pins s σ H _ _ v u Q I rx ry ⟨i,j,rfl,rfl,KE.ok k (by simp only [Den])⟩
 | Is=>exact False.elim k
 | IsNot=>exact False.elim k
 | In =>
  cases dy with
  | list ds =>
   simp only [cmpD] at k
   split at k
   ·rename_i hs
    simp only [JB5,q_i,q_C] at hs
    obtain ⟨as,ra⟩:=Den.reads g.K I dx x v hs.1.2 hx rx
    obtain ⟨bs,rb⟩:=Den.reads g.K I (.list ds) y u (by simpa only [PyData.canLay0] using hs.1.1) hy ry
    have hu:=g.units
    refine SeqAt.in_list_reads rb ra hs.1.1 hs.1.2 ?_ ⟨.bl _,H,I,rfl,KE.ok k (by simp only [Den])⟩
    have:=Nat.min_le_right (PyData.depthAll ds) dx.depth
    omega
   ·exact k.elim
  | tuple ds =>
   simp only [cmpD] at k
   split at k
   ·rename_i hs
    simp only [JB5,q_i,q_C] at hs
    obtain ⟨as,ra⟩:=Den.reads g.K I dx x v hs.1.2 hx rx
    obtain ⟨bs,rb⟩:=Den.reads g.K I (.tuple ds) y u (by simpa only [PyData.canLay0] using hs.1.1) hy ry
    have hu:=g.units
    refine SeqAt.in_tuple_reads rb ra hs.1.1 hs.1.2 ?_ ⟨.bl _,H,I,rfl,KE.ok k (by simp only [Den])⟩
    have:=Nat.min_le_right (PyData.depthAll ds) dx.depth
    omega
   ·exact k.elim
  | _=>exact False.elim k
 | NotIn =>
  cases dy with
  | list ds =>
   simp only [cmpD] at k
   split at k
   ·rename_i hs
    simp only [JB5,q_i,q_C] at hs
    obtain ⟨as,ra⟩:=Den.reads g.K I dx x v hs.1.2 hx rx
    obtain ⟨bs,rb⟩:=Den.reads g.K I (.list ds) y u (by simpa only [PyData.canLay0] using hs.1.1) hy ry
    have hu:=g.units
    refine SeqAt.notIn_list_reads rb ra hs.1.1 hs.1.2 ?_ ⟨.bl _,H,I,rfl,KE.ok k (by simp only [Den])⟩
    have:=Nat.min_le_right (PyData.depthAll ds) dx.depth
    omega
   ·exact k.elim
  | tuple ds =>
   simp only [cmpD] at k
   split at k
   ·rename_i hs
    simp only [JB5,q_i,q_C] at hs
    obtain ⟨as,ra⟩:=Den.reads g.K I dx x v hs.1.2 hx rx
    obtain ⟨bs,rb⟩:=Den.reads g.K I (.tuple ds) y u (by simpa only [PyData.canLay0] using hs.1.1) hy ry
    have hu:=g.units
    refine SeqAt.notIn_tuple_reads rb ra hs.1.1 hs.1.2 ?_ ⟨.bl _,H,I,rfl,KE.ok k (by simp only [Den])⟩
    have:=Nat.min_le_right (PyData.depthAll ds) dx.depth
    omega
   ·exact k.elim
  | _=>exact False.elim k
end
noncomputable def NewT (B:Bs) (H H2 H3:Hp) (d:D) (x:V):Prop:=∃p xs es,H2 p=none/\H3=upd H2 p (.tup xs)/\x=.ref p/\d=.tuple es/\DenL B H es xs
noncomputable def ItOk (B:Bs) (J:It) (H:Hp) (ds:List D):Prop:=∀H2,Same H H2->∀i:Nat,
 (∀d,ds[i]? = some d->J.go i H2/\∀x H3,J.yld i H2 x H3->(H3=H2/\Den B H d x)\/NewT B H H2 H3 d x)/\(ds.length<=i->J.stop i H2)
noncomputable def KI (B:Bs) (XX:Nat->Hp->Prop) (r:R (List D)) (H:Hp) (Q:It->Hp->Prop):Prop:=match r with
 | .ok ds=>∀J H',Same H H'->ItOk B J H' ds->Q J H'
 | .exc c=>XX c H
 | .bad=>False
noncomputable def RI (B:Bs) (C:Cn) (XX:Nat->Hp->Prop) (e:E):TI:=fun σ H Q=>∃δ,Sok B σ H δ/\KI B XX (evI C e δ) H Q
theorem JJn {δ:Env} {i c:Nat}:look δ i≠.exc c:=by
 unfold look
 cases δ[i]? with
 | none=>intro h;cases h
 | some s=>cases s<;>(intro h;cases h)
theorem JDB:∀ {N:List Str} {x:Str} {i:Nat},idxOf x N=some i->N[i]? = some x
 | [],x,i,h=>by simp [idxOf] at h
 | y::r,x,i,h=>by
  unfold idxOf at h
  split at h
  ·rename_i hy
   cases h
   have:x=y:=eq_of_beq hy
   subst this;rfl
  ·cases q:idxOf x r with
   | none=>rw [q] at h;cases h
   | some j =>
    rw [q] at h
    simp only [Option.map_some,q_j] at h
    subst h
    simpa using JDB q
theorem JBD {H:Hp} {p:Addr} {o:HO} (h:H p=none):Same H (upd H p o):=fun b u e=>by rw [JAG (JAW e h)];exact e
theorem JAU {G:List (Str×GK)} {n:Nat} {it:Bool} {names:List (Str×NameKind)} {N:List Str} {e:Expr} {x:E} (h:JAL G n it names N e=some x) (es:List Expr) (env:PySem.Env) :
  starEach (e::es) env=(false,eval e env)::starEach es env:=by
 cases n with
 | zero=>simp [JAL,JAZ,JAO] at h
 | succ n=>cases e<;>first | rfl | (simp [JAL,JAZ,JAO,xOf,xRaw] at h)
theorem JBt {G:List (Str×GK)} {n:Nat} {it:Bool} {names:List (Str×NameKind)} {N:List Str} {pos:Pos} {env:PySem.Env}:∀ {es:List Expr} {x:E},JAJ (JAL G n it names N) es=some x ->
  (backTo pos (starEach es env)).any (·.1)=false
 | [],_,_=>rfl
 | e::es,x,h=>by
  unfold JAJ at h
  cases h1:JAL G n it names N e with
  | none=>rw [h1] at h;cases h
  | some a =>
    rw [h1] at h
    cases h2:JAJ (JAL G n it names N) es with
    | none=>simp [h2] at h
    | some b =>
     rw [JAU h1 es env]
     show (false || (backTo pos (starEach es env)).any (·.1))=false
     rw [JBt h2];rfl
theorem JMK {b:Expr} (h:isSlice b=false):JHS b:=by
 intro o i
 cases b<;>first | rfl | cases h
theorem JAD {x:Str} (h:JAS x=false):(x==("__debug__":Str))=false/\(x==("__classdict__":Str))=false/\x≠"__name__":=by
 unfold JAS at h
 simp only [Bool.or_eq_false_iff] at h
 exact ⟨h.1.1,h.1.2,fun e=>by have:=h.2;rw [e] at this;simp at this⟩
noncomputable def cnt:E->Nat
 | .cons _ r=>cnt r+1
 | _=>0
theorem JBm {C:Cn}:∀(e:E) (δ:Env) (ds:List D),evA C e δ=.ok ds->ds.length=cnt e
 | .nil,δ,ds,h=>by simp only [evA] at h;cases h;rfl
 | .cons a r,δ,ds,h=>by
  simp only [evA] at h
  cases q:ev C a δ with
  | ok d =>
   cases q2:evA C r δ with
   | ok es =>
    rw [q,q2] at h
    cases h
    simp only [List.length_cons,cnt,JBm r δ es q2]
   | exc c=>rw [q,q2] at h;cases h
   | bad=>rw [q,q2] at h;cases h
  | exc c=>rw [q] at h;cases h
  | bad=>rw [q] at h;cases h
 | .var _,_,_,h | .cint _,_,_,h | .cbl _,_,_,h | .cnon,_,_,h | .cstr _,_,_,h | .glo _,_,_,h | .bin _ _ _,_,_,h | .neg _,_,_,h | .not _,_,_,h | .and _ _,_,_,h | .or _ _,_,_,h | .cmp _ _ _,_,_,h
 | .isN _ _,_,_,h | .isB _ _,_,_,h | .ife _ _ _,_,_,h | .tup _,_,_,h | .lst _,_,_,h | .idx _ _,_,_,h | .call _ _,_,_,h | .blt _ _,_,_,h | .rng _,_,_,h | .isi _ _,_,_,h | .mcount _ _,_,_,h | .mindex _ _,_,_,h | .mget _ _ _,_,_,h | .cmpr _ _ _ _,_,_,h=>by simp only [evA] at h;cases h
theorem JAR {f:Expr->Option E}:∀ {es:List Expr} {x:E},JAJ f es=some x->cnt x=es.length
 | [],x,h=>by unfold JAJ at h;cases h;rfl
 | e::es,x,h=>by
  unfold JAJ at h
  cases h1:f e with
  | none=>rw [h1] at h;cases h
  | some a =>
   cases h2:JAJ f es with
   | none=>simp [h1,h2] at h
   | some b =>
    simp only [h1,h2,Option.bind_some,q_j] at h
    subst h
    simp only [cnt,List.length_cons,JAR h2]
section
variable {X:Cx} {B:Bs} {C:Cn} {CX:CXT} {XX:Nat->Hp->Prop} {G:List (Str×GK)} {a b c:Expr} {x y z:E} {pos:Pos}
theorem s_bad {e:Expr} {x:E} (h:∀δ,ev C x δ=.bad):PE X e (RE B C XX x):=fun _ _ _ _ _ _ ⟨δ,_,k⟩=>by rw [h δ] at k;exact k.elim
theorem t_bad {e:Expr} {x:E} (h:∀δ,evT C x δ=.bad):PT X e (RT B C XX x):=fun _ _ _ _ _ _ ⟨δ,_,k⟩=>by rw [h δ] at k;exact k.elim
theorem s_var {i:Nat} {nm:Str} (hN:X.N[i]? = some nm) (hv:Vis X.env.scope nm) (hb:JAS nm=false):PE X (.Name nm pos) (RE B C XX (.var i)) :=
 PE.imp (JCw hN hv (JAD hb).1 (JAD hb).2.1) fun σ H Q ⟨δ,ok,k⟩=>by
  simp only [ev] at k
  cases q:look δ i with
  | ok d =>
   obtain ⟨v,e,dn⟩:=ok i d q
   rw [q] at k
   exact ⟨v,e,KE.ok k dn⟩
  | exc c=>exact (JJn q).elim
  | bad=>rw [q] at k;exact k.elim
theorem s_int {i:Int} {j:Nat}:PE X (.Constant (.int i) j pos) (RE B C XX (.cint i)):=PE.imp JE3 fun σ H Q ⟨δ,ok,k⟩=>KE.ok k (by simp only [Den])
theorem s_bl {i:Bool} {j:Nat}:PE X (.Constant (.bool i) j pos) (RE B C XX (.cbl i)):=PE.imp JIM fun σ H Q ⟨δ,ok,k⟩=>KE.ok k (by simp only [Den])
theorem s_non {j:Nat}:PE X (.Constant .none j pos) (RE B C XX .cnon):=PE.imp JOw fun σ H Q ⟨δ,ok,k⟩=>KE.ok k (by simp only [Den])
theorem s_str {i:Str} {j:Nat}:PE X (.Constant (.str i) j pos) (RE B C XX (.cstr i)):=PE.imp JPd fun σ H Q ⟨δ,ok,k⟩=>KE.ok k (by simp only [Den])
theorem s_glo (g:Gk X B C CX XX G) {i:Nat} {nm:Str} (hg:Gl X nm) (hl:G.lookup nm=some (.con i)) (hb:JAS nm=false):PE X (.Name nm pos) (RE B C XX (.glo i)):=by
 cases q:C.glo i with
 | ok d =>
  obtain ⟨u,v,hm,r,dn⟩:=g.con nm i d hl q
  exact PE.imp (JHD hg hm r (JAD hb).1) fun σ H Q ⟨δ,ok,k⟩=>by
   simp only [ev] at k
   rw [q] at k
   exact KE.ok k (dn H)
 | exc c=>exact (g.noexg i c q).elim
 | bad=>exact s_bad fun δ=>by simp only [ev];exact q
theorem JQC (g:Gk X B C CX XX G) {op:Operator} (ha:PE X a (RE B C XX x)) (hb:PE X b (RE B C XX y)):PE X (.BinOp a op b pos) (RE B C XX (.bin op x y)) :=
 PE.imp (JPC (binOk g op) ha hb) fun σ H Q ⟨δ,ok,k⟩=>two g (f:=binD op) (fun x y H dx dy h1 h2 k=>⟨dx,dy,h1,h2,k⟩) ⟨δ,ok,by simpa only [ev] using k⟩
theorem JA2 (g:Gk X B C CX XX G) {op:CmpOp} (ha:PE X a (RE B C XX x)) (hb:PE X b (RE B C XX y)) (hm:behindInMarks op b=false):PE X (.Compare a [op] [b] pos) (RE B C XX (.cmp op x y)) :=
 PE.imp (JFk (JPL g op) ha hb hm) fun σ H Q ⟨δ,ok,k⟩=>two g (f:=cmpD op) (fun x y H dx dy h1 h2 k=>⟨dx,dy,h1,h2,k⟩) ⟨δ,ok,by simpa only [ev] using k⟩
theorem s_neg (g:Gk X B C CX XX G) (ha:PE X a (RE B C XX x)):PE X (.UnaryOp .USub a pos) (RE B C XX (.neg x)) :=
 PE.imp (JPG JL2 ha) fun σ H Q ⟨δ,ok,k⟩=>by
  simp only [ev] at k
  refine RE.of (W:=fun r H=>KE B XX r H Q) ok (fun _ _ z=>z) (fun _ z=>z) k fun d v H1 s1 d1 h1=>?_
  have h2:=KE.mono g s1 h1
  cases d<;>first | exact False.elim h2 | skip
  rename_i i
  simp only [Den] at d1
  exact ⟨i,d1,KE.ok h2 (by simp only [Den])⟩
theorem truV {K:PySem.W.Frag} (hK:K=B.K) {d:D} {v:V} {H:Hp} {k:Bool} (h:Den B H d v) (t:truth d=.ok k):TruV K v H k:=by
 subst hK
 cases d with
 | none=>simp only [Den] at h;subst h;simp only [truth] at t;cases t;rfl
 | bool b=>simp only [Den] at h;subst h;simp only [truth] at t;cases t;rfl
 | int i=>simp only [Den] at h;subst h;simp only [truth] at t;cases t;rfl
 | str s =>
  simp only [Den] at h;subst h
  simp only [truth] at t
  split at t
  ·rename_i hl
   cases t
   exact ⟨by rw [sizeLine_eq];exact hl,rfl⟩
  ·cases t
 | list ds =>
  simp only [Den] at h
  obtain ⟨p,xs,e,q,l⟩:=h
  subst e
  simp only [truth] at t;cases t
  refine .inl ⟨xs,q,?_⟩
  have:=DenL.len ds xs l
  cases ds<;>cases xs<;>simp_all
 | tuple ds =>
  simp only [Den] at h
  obtain ⟨p,xs,e,q,l⟩:=h
  subst e
  simp only [truth] at t;cases t
  refine .inr (.inl ⟨xs,q,?_⟩)
  have:=DenL.len ds xs l
  cases ds<;>cases xs<;>simp_all
 | dict kvs=>simp only [truth] at t;cases t
theorem JEm {d:D} {c:Nat}:truth d≠.exc c:=by
 cases d<;>simp only [truth]<;>(try split)<;>(intro h;cases h)
theorem s_not (g:Gk X B C CX XX G) (ha:PE X a (RE B C XX x)):PE X (.UnaryOp .Not a pos) (RE B C XX (.not x)):=by
 intro pins s σ H Q I ⟨δ,ok,k⟩
 refine UnaryOp_ (thn (ha pins s σ H (fun v H1=>∃t,TruV X.K v H1 t/\Q (.bl (!t)) H1) I ?_) fun v s1 ⟨w,H1,I1,r1,t,tv,q⟩=>?_)
 ·refine ⟨δ,ok,?_⟩
  simp only [ev] at k
  cases q:ev C x δ with
  | ok d =>
   rw [q] at k
   cases q2:truth d with
   | ok t =>
    simp only [R.bind,q2] at k
    exact fun v H1 s1 d1=>⟨t,truV g.K d1 q2,k _ H1 s1 (by simp only [Den])⟩
   | exc c=>exact (JEm q2).elim
   | bad=>simp only [R.bind,q2] at k;exact k.elim
  | exc c=>rw [q] at k;exact k
  | bad=>rw [q] at k;exact k.elim
 ·exact not_of (thn (JKl pins s1 σ H1 w v (fun b H=>b=t/\H=H1) I1 r1 ⟨t,tv,rfl,rfl⟩) fun b s2 ⟨H2,I2,e1,e2⟩=>by subst e1;subst e2;exact ⟨.bl (!b),H2,I2,rfl,q⟩)
theorem s_and (g:Gk X B C CX XX G) {rest:List Expr} (ha:PE X a (RE B C XX x)) (hb:PE X (.BoolOp .And (b::rest) pos) (RE B C XX y)):PE X (.BoolOp .And (a::b::rest) pos) (RE B C XX (.and x y)) :=
 PE.imp (JPv ha hb) fun σ H Q ⟨δ,ok,k⟩=>by
  simp only [ev] at k
  refine RE.of (W:=fun r H=>KE B XX r H Q) ok (fun _ _ z=>z) (fun _ z=>z) k fun d v H1 s1 d1 h1=>?_
  cases d<;>first | exact False.elim h1 | skip
  rename_i t
  simp only [Den] at d1
  refine ⟨t,d1,?_⟩
  cases t with
  | true=>exact iteT ⟨δ,ok.mono s1,KE.mono g s1 h1⟩
  | false=>exact iteF (KE.ok (KE.mono g s1 h1) (by simp only [Den]))
theorem s_or (g:Gk X B C CX XX G) {rest:List Expr} (ha:PE X a (RE B C XX x)) (hb:PE X (.BoolOp .Or (b::rest) pos) (RE B C XX y)):PE X (.BoolOp .Or (a::b::rest) pos) (RE B C XX (.or x y)) :=
 PE.imp (pe_or ha hb) fun σ H Q ⟨δ,ok,k⟩=>by
  simp only [ev] at k
  refine RE.of (W:=fun r H=>KE B XX r H Q) ok (fun _ _ z=>z) (fun _ z=>z) k fun d v H1 s1 d1 h1=>?_
  cases d<;>first | exact False.elim h1 | skip
  rename_i t
  simp only [Den] at d1
  refine ⟨t,d1,?_⟩
  cases t with
  | true=>exact iteT (KE.ok (KE.mono g s1 h1) (by simp only [Den]))
  | false=>exact iteF ⟨δ,ok.mono s1,KE.mono g s1 h1⟩
theorem JCp {d:D} {v:V} {H:Hp} (h:Den B H d v):decide (v=.non)=isNone d:=by
 cases d with
 | none=>simp only [Den] at h;subst h;rfl
 | bool _=>simp only [Den] at h;subst h;rfl
 | int _=>simp only [Den] at h;subst h;rfl
 | str _=>simp only [Den] at h;subst h;rfl
 | list _=>simp only [Den] at h;obtain ⟨p,xs,e,_⟩:=h;subst e;rfl
 | tuple _=>simp only [Den] at h;obtain ⟨p,xs,e,_⟩:=h;subst e;rfl
 | dict _ =>
  simp only [Den] at h
  rcases h with ⟨p,xs,e,_⟩ | ⟨p,xs,e,_⟩
  ·subst e;rfl
  ·subst e;rfl
theorem s_isN (g:Gk X B C CX XX G) {j:Nat} {pos':Pos} (ha:PE X a (RE B C XX x)):PE X (.Compare a [.Is] [.Constant .none j pos'] pos) (RE B C XX (.isN x false)) :=
 PE.imp (JK8 (JLL ha)) fun σ H Q ⟨δ,ok,k⟩=>by
  simp only [ev] at k
  refine RE.of (W:=fun r H=>KE B XX r H Q) ok (fun _ _ z=>z) (fun _ z=>z) k fun d v H1 s1 d1 h1=>?_
  rw [JCp d1]
  exact KE.ok (KE.mono g s1 h1) (by simp [Den])
theorem JNl (g:Gk X B C CX XX G) {j:Nat} {pos':Pos} (ha:PE X a (RE B C XX x)):PE X (.Compare a [.IsNot] [.Constant .none j pos'] pos) (RE B C XX (.isN x true)) :=
 PE.imp (JK8 (JHO ha)) fun σ H Q ⟨δ,ok,k⟩=>by
  simp only [ev] at k
  refine RE.of (W:=fun r H=>KE B XX r H Q) ok (fun _ _ z=>z) (fun _ z=>z) k fun d v H1 s1 d1 h1=>?_
  rw [JCp d1]
  exact KE.ok (KE.mono g s1 h1) (by simp [Den])
theorem JLp:OpR X (compareOp .Is) (fun v u H Q=>∃c d,v=.bl c/\u=.bl d/\Q (.bl (c==d)) H):=by
 intro pins s σ H v u w t Q I rx ry ⟨c,d,e1,e2,q⟩
 subst e1;subst e2
 cases rx;cases ry
 exact is_bool ⟨.bl _,H,I,rfl,q⟩
theorem s_isB (g:Gk X B C CX XX G) {j:Nat} {pos':Pos} {k:Bool} (ha:PE X a (RE B C XX x)):PE X (.Compare a [.Is] [.Constant (.bool k) j pos'] pos) (RE B C XX (.isB x k)) :=
 PE.imp (JFk JLp ha JIM rfl) fun σ H Q ⟨δ,ok,kk⟩=>by
  simp only [ev] at kk
  refine RE.of (W:=fun r H=>KE B XX r H Q) ok (fun _ _ z=>z) (fun _ z=>z) kk fun d v H1 s1 d1 h1=>?_
  cases d<;>first | exact False.elim h1 | skip
  rename_i t
  simp only [Den] at d1
  exact ⟨t,k,d1,rfl,KE.ok (KE.mono g s1 h1) (by simp only [Den])⟩
theorem s_ife (g:Gk X B C CX XX G) (hc:PT X c (RT B C XX z)) (ha:PE X a (RE B C XX x)) (hb:PE X b (RE B C XX y)):PE X (.IfExp c a b pos) (RE B C XX (.ife z x y)) :=
 PE.imp (JJw hc ha hb) fun σ H Q ⟨δ,ok,k⟩=>by
  simp only [ev] at k
  refine RT.of (W:=fun r H=>KE B XX r H Q) ok (fun _ _ z=>z) (fun _ z=>z) k fun t H1 s1 h1=>?_
  cases t with
  | true=>exact iteT ⟨δ,ok.mono s1,KE.mono g s1 h1⟩
  | false=>exact iteF ⟨δ,ok.mono s1,KE.mono g s1 h1⟩
theorem JNS:PA X [] (RA B C XX .nil):=PA.imp JCK fun σ H Q ⟨δ,ok,k⟩=>k [] H (Same.refl H) (by simp only [DenL])
theorem JGH (g:Gk X B C CX XX G) {es:List Expr} (ha:PE X a (RE B C XX x)) (hr:PA X es (RA B C XX y)) (hs:starEach (a::es) X.env=(false,eval a X.env)::starEach es X.env):PA X (a::es) (RA B C XX (.cons x y)) :=
 PA.imp (JBL ha hr hs) fun σ H Q ⟨δ,ok,k⟩=>by
  simp only [evA] at k
  refine RE.of (W:=fun r H=>KL B XX r H Q) ok (fun _ _ z=>z) (fun _ z=>z) k fun d v H1 s1 d1 h1=>?_
  refine RA.of (W:=fun r H=>KL B XX r H Q) (ok.mono s1) (fun _ _ z=>z) (fun _ z=>z) (KL.mono g s1 h1) fun ds vs H2 s2 d2 h2=>?_
  exact h2 (v::vs) H2 s2 (by simp only [DenL];exact ⟨v,vs,rfl,Den.mono s2 d v d1,d2⟩)
theorem s_tup (g:Gk X B C CX XX G) {es:List Expr} {k2:Nat} (h:PA X es (RA B C XX x)) (hl:cnt x<=1000):PE X (.Tuple es k2 pos) (RE B C XX (.tup x)) :=
 PE.imp (JLO h) fun σ H Q ⟨δ,ok,k⟩=>by
  simp only [ev] at k
  cases q:evA C x δ with
  | ok ds =>
   rw [q] at k
   refine ⟨δ,ok,?_⟩
   rw [q]
   intro vs H1 s1 d1
   have e1:=DenL.len ds vs d1
   have e2:=JBm x δ ds q
   refine ⟨by rw [sizeLine_eq];omega,fun p hp=>k _ _ (s1.trans (JBD hp)) ?_⟩
   simp only [Den]
   exact ⟨p,vs,rfl,SqT.of JAH,DenL.mono (JBD hp) ds vs d1⟩
  | exc c=>rw [q] at k;exact ⟨δ,ok,by rw [q];exact k⟩
  | bad=>rw [q] at k;exact k.elim
theorem s_lst (g:Gk X B C CX XX G) {es:List Expr} (h:PA X es (RA B C XX x)) (hl:cnt x<=1000):PE X (.List es pos) (RE B C XX (.lst x)) :=
 PE.imp (JIR h) fun σ H Q ⟨δ,ok,k⟩=>by
  simp only [ev] at k
  cases q:evA C x δ with
  | ok ds =>
   rw [q] at k
   refine ⟨δ,ok,?_⟩
   rw [q]
   intro vs H1 s1 d1
   have e1:=DenL.len ds vs d1
   have e2:=JBm x δ ds q
   refine ⟨by rw [sizeLine_eq];omega,fun p hp=>k _ _ (s1.trans (JBD hp)) ?_⟩
   simp only [Den]
   exact ⟨p,vs,rfl,SqL.of JAH,DenL.mono (JBD hp) ds vs d1⟩
  | exc c=>rw [q] at k;exact ⟨δ,ok,by rw [q];exact k⟩
  | bad=>rw [q] at k;exact k.elim
theorem JG6 {H:Hp} {ds:List D} {vs:List V} {i:Int} {d:D} (h:DenL B H ds vs) (e:VI.atI ds i=some d):∃v,L2.atI vs i=some v/\Den B H d v:=by
 have hl:=DenL.len ds vs h
 unfold VI.atI at e
 cases q:VI.ixN ds.length i with
 | none=>rw [q] at e;cases e
 | some j =>
  rw [q] at e
  obtain ⟨v,e1,dn⟩:=DenL.get ds vs j d h e
  refine ⟨v,?_,dn⟩
  unfold L2.atI
  have q':L2.ixN vs.length i=some j:=by rw [<-hl];exact q
  rw [q']
  exact e1
theorem SqD.at {pins:List (Addr×Obj)} {σ:St} {H:Hp} {s:Shared} {a:Addr} {xs:List (Key×V)} (I:Inv X pins σ H s) (h:SqD X.K X.w H a xs):(a==sysModules)=false/\∃vs,KV xs vs/\s.heap.DictOf (JBE X.prog X.w) a vs:=by
 rcases h with h | h
 ·rcases h with h | ⟨o,h⟩
  ·obtain ⟨_,h1,h2⟩:=I.hok a _ h
   exact ⟨h1,h2⟩
  ·obtain ⟨_,_,h1,h2⟩:=I.hok a _ h
   exact ⟨h1,h2⟩
 ·exact h X.prog s.heap I.kIn
theorem JFS {ks:List (Key×V)} {vs:List (Key×Value)} {x:Str} (h:KV ks vs):(∀v,(ks.find? fun p=>p.1=Sum.inr x).map (·.2)=some v->∃u,valueAt vs (Sum.inr x:Key)=some u/\RelV v u)/\((ks.find? fun p=>p.1=Sum.inr x).map (·.2)=none->valueAt vs (Sum.inr x:Key)=none):=by
 induction h with
 | nil=>exact ⟨fun v e=>(by simp at e),fun _=>rfl⟩
 | @cons p q ps qs hq t ih =>
  obtain ⟨k,v⟩:=p
  obtain ⟨k',u⟩:=q
  obtain ⟨e1,e2⟩:=hq
  simp only at e1 e2
  subst e1
  unfold valueAt at ih ⊢
  simp only [List.find?_cons]
  by_cases hk:k=Sum.inr x
  ·simp only [hk,decide_true,Option.map_some,q_j]
   exact ⟨fun v' e=>⟨u,rfl,e▸e2⟩,fun e=>by cases e⟩
  ·simp only [hk,decide_false]
   exact ih
theorem JM3:IxR X (fun x y H Q=>∃p xs k v,x=.ref p/\y=.str k/\SqD X.K X.w H p xs/\((xs.find? fun p=>p.1=Sum.inr k).map (·.2))=some v/\Q v H):=by
 intro value slice pins s σ H x y v u Q I rx ry h hs
 obtain ⟨p,xs,k,z,rfl,rfl,hq,he,q⟩:=h
 cases rx
 obtain ⟨t,rfl⟩:=ry
 obtain ⟨hsys,vs,kv,dd⟩:=SqD.at I hq
 obtain ⟨u,g1,g2⟩:=(JFS kv).1 z he
 exact subscriptTail_builtinR (x:=u) dd.typeIs slot_dict_getitem.lookup (wpAny_getItem_of (Q:=fun r s'=>r=u/\EP X pins σ Q r s') (JB3 _ _ k t) dd.mapOf g1 ⟨rfl,z,H,I.tok _,g2,q⟩) hs
theorem JEG {H:Hp} {x:Str} {d:D}:∀ {kvs:List (D×D)} {xs:List (Key×V)},DenK B H kvs xs->getK kvs x=.ok d->∃v,(xs.find? fun p=>p.1=Sum.inr x).map (·.2)=some v/\Den B H d v
 | [],xs,h,e=>by cases e
 |(k,b)::r,xs,h,e=>by
  simp only [DenK] at h
  obtain ⟨y,v,r',rfl,rfl,h1,h2⟩:=h
  simp only [getK] at e
  by_cases hk:y=x
  · rw [if_pos hk] at e
    cases e
    exact ⟨v,by simp [List.find?,hk],h1⟩
  · rw [if_neg hk] at e
    obtain ⟨v',e1,e2⟩:=JEG h2 e
    have:¬((Sum.inr y:Key)=Sum.inr x):=fun z=>hk (Sum.inr.inj z)
    exact ⟨v',by simpa [List.find?,this] using e1,e2⟩
theorem JFv {x:Str} {c:Nat}:∀ {kvs:List (D×D)},getK kvs x≠.exc c
 | []=>by intro h;cases h
 |(k,b)::r=>by
  cases k<;>simp only [getK]<;>first | (intro h;cases h;done) | skip
  split
  · intro h;cases h
  · exact JFv
theorem idxOk (g:Gk X B C CX XX G):IxR X (fun v u H Q=>∃dx dy,Den B H dx v/\Den B H dy u/\KE B XX (idxD dx dy) H Q):=by
 intro value slice pins s σ H v u w t Q I rx ry ⟨dx,dy,hx,hy,k⟩ hs
 refine (ix_seq.or JM3) value slice pins s σ H v u w t Q I rx ry ?_ hs
 cases dx with
 | list ds =>
  cases dy<;>first | exact False.elim k | skip
  rename_i i
  simp only [Den] at hx hy
  obtain ⟨p,xs,e,q,l⟩:=hx
  simp only [idxD] at k
  cases qa:VI.atI ds i with
  | none=>rw [qa] at k;exact k.elim
  | some d =>
   rw [qa] at k
   obtain ⟨z,e2,dn⟩:=JG6 l qa
   exact .inl (.inl ⟨p,xs,i,z,e,hy,g.K▸q,e2,KE.ok k dn⟩)
 | tuple ds =>
  cases dy<;>first | exact False.elim k | skip
  rename_i i
  simp only [Den] at hx hy
  obtain ⟨p,xs,e,q,l⟩:=hx
  simp only [idxD] at k
  cases qa:VI.atI ds i with
  | none=>rw [qa] at k;exact k.elim
  | some d =>
   rw [qa] at k
   obtain ⟨z,e2,dn⟩:=JG6 l qa
   exact .inl (.inr (.inl ⟨p,xs,i,z,e,hy,g.K▸q,e2,KE.ok k dn⟩))
 | dict kvs =>
  cases dy<;>first | exact False.elim k | skip
  rename_i y
  simp only [Den] at hx hy
  simp only [idxD] at k
  rcases hx with ⟨p,c,e1,e2,_⟩ | ⟨p,xs,e1,e2,e3⟩
  ·subst e2;exact False.elim k
  ·cases qg:getK kvs y with
   | ok d =>
    rw [qg] at k
    obtain ⟨z,f1,f2⟩:=JEG e3 qg
    exact .inr ⟨p,xs,y,z,e1,hy,by rw [g.K,g.W];exact e2,f1,KE.ok k f2⟩
   | exc c=>exact (JFv qg).elim
   | bad=>rw [qg] at k;exact k.elim
 | str z =>
  cases dy<;>first | exact False.elim k | skip
  rename_i i
  simp only [Den] at hx hy
  simp only [idxD] at k
  split at k
  ·rename_i hz
   cases qa:VI.atI z.cps.toList i with
   | none=>rw [qa] at k;exact k.elim
   | some c =>
    rw [qa] at k
    exact .inl (.inr (.inr ⟨z,i,c,hx,hy,by rw [sizeLine_eq];exact Nat.le_trans hz (by decide),qa,k _ _ (Same.refl H) (by simp only [Den])⟩))
  ·exact k.elim
 | _=>exact False.elim k
theorem s_idx (g:Gk X B C CX XX G) (ha:PE X a (RE B C XX x)) (hb:PE X b (RE B C XX y)) (hs:isSlice b=false):PE X (.Subscript a b pos) (RE B C XX (.idx x y)) :=
 PE.imp (pe_ix (idxOk g) ha hb (JMK hs)) fun σ H Q ⟨δ,ok,k⟩=>two g (f:=idxD) (fun x y H dx dy h1 h2 k=>⟨dx,dy,h1,h2,k⟩) ⟨δ,ok,by simpa only [ev] using k⟩
theorem JMh (g:Gk X B C CX XX G) {n:Nat} {fn:List D->R D} {vs:List V} {ds:List D} {H:Hp} {Q:VK} (hn:fn ds≠.bad->ds.length=n) (dn:DenL B H ds vs) (k:KE B XX (fn ds) H Q):JCh B n fn vs H Q (EX B XX):=by
 have hb:fn ds≠.bad:=fun z=>by rw [z] at k;exact k
 refine ⟨by rw [<-DenL.len ds vs dn];exact hn hb,ds,dn,?_⟩
 cases q:fn ds with
 | ok d=>rw [q] at k;exact k
 | exc c=>rw [q] at k;exact fun H' s'=>⟨c,rfl,g.anti c H H' s' k⟩
 | bad=>exact (hb q).elim
end
section
variable {X:Cx} {B:Bs} {C:Cn} {CX:CXT} {XX:Nat->Hp->Prop} {G:List (Str×GK)} {a b c:Expr} {x y z:E} {pos p:Pos}
theorem s_call (g:Gk X B C CX XX G) {i:Nat} {nm:Str} {e:Expr} {r:List Expr} (hg:Gl X nm) (hl:G.lookup nm=some (.fn i)) (hb:JAS nm=false) (ha:PA X (e::r) (RA B C XX x))
  (he:starEach (e::r) X.env=(false,eval e X.env)::starEach r X.env) (hpl:(backTo pos (starEach (e::r) X.env)).any (·.1)=false):PE X (.Call (.Name nm p) (e::r) [] pos) (RE B C XX (.call i x)):=by
 obtain ⟨f,fd,ps,k,hm,hk,F,hr,hbi,hn⟩:=g.fn nm i hl
 refine PE.imp (JNU F hr hg hm hk hbi .nil g.pas ha (JAD hb).1 he ?_) ?_
 ·rw [he] at hpl
  exact hpl
 ·rintro σ H Q ⟨δ,ok,kk⟩
  simp only [ev] at kk
  refine RA.of (W:=fun r H=>KE B XX r H Q) ok (fun _ _ z=>z) (fun _ z=>z) kk fun ds vs H1 s1 d1 h1=>?_
  show JCh B ps.length (C.fn i) (vs++[]) H1 Q (EX B XX)
  rw [List.append_nil]
  exact JMh g (hn ds) d1 (KE.mono g s1 h1)
theorem JII (g:Gk X B C CX XX G):CallR X (.builtin "len") (fun vs H Q=>∃ds,DenL B H ds vs/\KE B XX (bltD .len ds) H Q):=by
 intro pins s σ H vs us Q I r ⟨ds,dn,k⟩
 refine JKV pins s σ H vs us Q I r ?_
 match ds,dn,k with
 | [.list ys],dn,k =>
  simp only [DenL,Den] at dn
  obtain ⟨v,r',e,⟨a,xs,e1,q,l⟩,e2⟩:=dn
  subst e2;subst e;subst e1
  exact ⟨_,xs.length,rfl,.inl ⟨xs,g.K▸q,rfl⟩,by rw [<-DenL.len ys xs l];exact KE.ok k (by simp only [Den])⟩
 | [.tuple ys],dn,k =>
  simp only [DenL,Den] at dn
  obtain ⟨v,r',e,⟨a,xs,e1,q,l⟩,e2⟩:=dn
  subst e2;subst e;subst e1
  exact ⟨_,xs.length,rfl,.inr ⟨xs,g.K▸q,rfl⟩,by rw [<-DenL.len ys xs l];exact KE.ok k (by simp only [Den])⟩
 | [],_,k=>exact False.elim k
 | [.none],_,k=>exact False.elim k
 | [.bool _],_,k=>exact False.elim k
 | [.int _],_,k=>exact False.elim k
 | [.str _],_,k=>exact False.elim k
 | [.dict _],_,k=>exact False.elim k
 | d::_::_,_,k=>cases d<;>exact False.elim k
theorem JH1 (g:Gk X B C CX XX G):CallR X (.builtin "abs") (fun vs H Q=>∃ds,DenL B H ds vs/\KE B XX (bltD .abs ds) H Q):=by
 intro pins s σ H vs us Q I r ⟨ds,dn,k⟩
 refine JJL pins s σ H vs us Q I r ?_
 match ds,dn,k with
 | [.int i],dn,k =>
  simp only [DenL,Den] at dn
  obtain ⟨v,r',e,e1,e2⟩:=dn
  subst e2;subst e;subst e1
  exact ⟨i,rfl,KE.ok k (by simp only [Den])⟩
 | [],_,k=>exact False.elim k
 | [.none],_,k=>exact False.elim k
 | [.bool _],_,k=>exact False.elim k
 | [.list _],_,k=>exact False.elim k
 | [.tuple _],_,k=>exact False.elim k
 | [.str _],_,k=>exact False.elim k
 | [.dict _],_,k=>exact False.elim k
 | d::_::_,_,k=>cases d<;>exact False.elim k
theorem JKb (g:Gk X B C CX XX G) {bl:Blt} {id:String} {nm:Str} {e:Expr} {r:List Expr} (hc:CallR X (.builtin id) (fun vs H Q=>∃ds,DenL B H ds vs/\KE B XX (bltD bl ds) H Q)) (hv:bootBuiltins nm=some (.builtin id))
  (hg:Gl X nm) (hl:G.lookup nm=some (.blt bl)) (hb:JAS nm=false) (ha:PA X (e::r) (RA B C XX x))
  (he:starEach (e::r) X.env=(false,eval e X.env)::starEach r X.env) (hpl:(backTo pos (starEach (e::r) X.env)).any (·.1)=false):PE X (.Call (.Name nm p) (e::r) [] pos) (RE B C XX (.blt bl x)):=by
 refine PE.imp (JDj hc hg (g.blt nm bl hl) hv ha (JAD hb).2.2 (JAD hb).1 he ?_) ?_
 ·rw [he] at hpl
  exact hpl
 ·rintro σ H Q ⟨δ,ok,kk⟩
  simp only [ev] at kk
  refine RA.of (W:=fun r H=>KE B XX r H Q) ok (fun _ _ z=>z) (fun _ z=>z) kk fun ds vs H1 s1 d1 h1=>?_
  exact ⟨ds,d1,KE.mono g s1 h1⟩
theorem JNr (g:Gk X B C CX XX G) (ha:PE X a (RE B C XX x)) (he:∀whole,isTrue a X.env whole=(do let v<-whole;standAt a.pos;holding [v] (truthy v))) (ht:∀δ,evT C x δ=(ev C x δ).bind truth):PT X a (RT B C XX x) :=
 PT.imp (JJH ha he) fun σ H Q ⟨δ,ok,k⟩=>by
  rw [ht] at k
  refine RE.of (W:=fun r H=>KB XX r H Q) ok (fun _ _ z=>z) (fun _ z=>z) k fun d v H1 s1 d1 h1=>?_
  cases q:truth d with
  | ok t=>rw [q] at h1;exact ⟨t,truV g.K d1 q,h1 H1 s1⟩
  | exc c=>exact (JEm q).elim
  | bad=>rw [q] at h1;exact h1.elim
theorem JPM {t:TE} (op:CmpOp) (h:PT X (.Compare a [op] [b] pos) (JPD t)) (ht:∀σ H Q,RE B C XX x σ H Q->t σ H Q) (hb:∀δ,evT C x δ=(ev C x δ).bind truth) (hbool:∀δ d,ev C x δ=.ok d->∃k,d=.bool k):PT X (.Compare a [op] [b] pos) (RT B C XX x) :=
 PT.imp h fun σ H Q ⟨δ,ok,k⟩=>by
  refine ht σ H _ ⟨δ,ok,?_⟩
  rw [hb] at k
  cases q:ev C x δ with
  | ok d =>
   rw [q] at k
   obtain ⟨t',rfl⟩:=hbool δ d q
   intro v H1 s1 d1
   simp only [Den] at d1
   exact ⟨t',d1,k H1 s1⟩
  | exc c=>rw [q] at k;exact k
  | bad=>rw [q] at k;exact k.elim
theorem JKE (g:Gk X B C CX XX G) (ha:PT X a (RT B C XX x)):PT X (.UnaryOp .Not a pos) (RT B C XX (.not x)) :=
 PT.imp (JPe ha) fun σ H Q ⟨δ,ok,k⟩=>by
  simp only [evT] at k
  exact RT.of (W:=fun r H=>KB XX r H Q) ok (fun _ _ z=>z) (fun _ z=>z) k fun t H1 s1 h1=>h1 H1 s1
theorem w_and (g:Gk X B C CX XX G) {rest:List Expr} (ha:PT X a (RT B C XX x)) (hb:PW X (.BoolOp .And (b::rest) pos) (RT B C XX y)):PW X (.BoolOp .And (a::b::rest) pos) (RT B C XX (.and x y)) :=
 fun wh pins s σ H Q I ⟨δ,ok,k⟩=>JPN ha hb wh pins s σ H Q I (by
  simp only [evT] at k
  refine RT.of (W:=fun r H=>KB XX r H Q) ok (fun _ _ z=>z) (fun _ z=>z) k fun t H1 s1 h1=>?_
  cases t with
  | true=>exact iteT ⟨δ,ok.mono s1,KB.mono g s1 h1⟩
  | false=>exact iteF (h1 H1 s1))
theorem w_or (g:Gk X B C CX XX G) {rest:List Expr} (ha:PT X a (RT B C XX x)) (hb:PW X (.BoolOp .Or (b::rest) pos) (RT B C XX y)):PW X (.BoolOp .Or (a::b::rest) pos) (RT B C XX (.or x y)) :=
 fun wh pins s σ H Q I ⟨δ,ok,k⟩=>pw_or ha hb wh pins s σ H Q I (by
  simp only [evT] at k
  refine RT.of (W:=fun r H=>KB XX r H Q) ok (fun _ _ z=>z) (fun _ z=>z) k fun t H1 s1 h1=>?_
  cases t with
  | true=>exact iteT (h1 H1 s1)
  | false=>exact iteF ⟨δ,ok.mono s1,KB.mono g s1 h1⟩)
end
theorem JDJ {prog:Program} {w:World} {A:Around} {R:Result->Shared->Prop} {s:Shared} {elt target iter:Expr} {ifs:List Expr} {scope:Scope} {pos:Pos} {it acc:Value} {env:PySem.Env} (I:Nat->Shared->Prop)
  (turn:∀n s,I n s->wpAny (model prog w) A (pyNext it) (fun r s₁=>match r with
    | none=>R (.ok .next) s₁
    | some v=>wpAny (model prog w) A (letOwnedTupleGo target it v) (fun _ s₁'=>wpAny (model prog w) A (assign target env v) (fun _ s₂ =>
     wpAny (model prog w) A (forIn ifs true fun c r=>if r=true then do let ok<-isTrue c env (eval c env);pure (ForInStep.yield ok) else pure (ForInStep.yield r)) (fun ok s₃ =>
      if ok=true then wpAny (model prog w) A (eval elt env) (fun x s₄ =>
       wpAny (model prog w) A (call (.builtin "list.append") [acc,x]) (fun _ s₅=>∃m,m<n/\I m s₅) (notedBy (model prog w) A env fun e s'=>R (.error e) s') s₄) (notedBy (model prog w) A env fun e s'=>R (.error e) s') s₃
      else ∃m,m<n/\I m s₃) (notedBy (model prog w) A env fun e s'=>R (.error e) s') s₂) (notedBy (model prog w) A env fun e s'=>R (.error e) s') s₁') (notedBy (model prog w) A env fun e s'=>R (.error e) s') s₁) (notedBy (model prog w) A env fun e s'=>R (.error e) s') s)
  (n:Nat) (h:I n s) :
  codeAny (model prog w) A (.compLoop (.ListComp elt [⟨target,iter,ifs,0⟩] scope pos) 0 it acc env) R s:=by
 refine codeAny_loop rfl I (fun n s hI=>?_) n h
 show wpAny _ A ((compTurn (.ListComp elt [⟨target,iter,ifs,0⟩] scope pos) 0 it acc env).onRaise (fun x=>do noteFrame x env;theTreesLotGoes x)) _ _ s
 refine wpAny_noted ?_
 rw [compTurn_list]
 refine q_b (wpAny_standAt (q_b (wpAny_mono (turn n s hI) (fun r s₁ h₁=>?_) fun _ _ h'=>h')))
 cases r with
 | none=>exact q_e h₁
 | some v =>
  refine q_b (wpAny_mono h₁ (fun _ s₁' h₁'=>?_) fun _ _ h'=>h')
  refine q_b (wpAny_mono h₁' (fun _ s₂ h₂=>q_b (wpAny_mono h₂ (fun ok s₃ h₃=>?_) fun _ _ h'=>h')) fun _ _ h'=>h')
  cases ok with
  | false=>exact q_e ⟨rfl,h₃⟩
  | true =>
    exact q_b (q_b (wpAny_mono h₃ (fun x s₄ h₄=>q_b (wpAny_mono h₄ (fun _ s₅ h₅=>q_e (q_e ⟨rfl,h₅⟩)) fun _ _ h'=>h')) fun _ _ h'=>h'))
noncomputable def JAa (X:Cx) (sc:Scope) (Cc:Addr) (N':List Str) (fp:List Addr) (s:Shared) (H:Hp):Cx where
 prog:=X.prog
 w:=X.w
 K:=X.K
 mg:=X.mg
 base:=X.base
 A:=X.A
 N:=N'
 s₀:=s
 H₀:=H
 env:=compEnvC sc (JBA X.env.cells sc.names []) Cc X.env
 outer:=X.stack
 stack:=X.stack
 ex:=fp
 fn:=fun _=>false
 calm:=true
 pn:=[]
 xe:=fun _ _=>False
theorem JAT {X:Cx} {sc:Scope} {Cc:Addr} (hk:X.env.scope.kind=.function):(compEnvC sc (JBA X.env.cells sc.names []) Cc X.env).scope.names=JAm X.env.scope.names sc.names:=by
 show (sc.names.map fun (x:Str×NameKind)=>match x with | (n,k)=>if (k==NameKind.free&&X.env.scope.kind==ScopeKind.function&&X.env.kindOf n==some NameKind.cell)=true then (n,NameKind.cell) else (n,k))=_
 have:(X.env.scope.kind==ScopeKind.function)=true:=by rw [hk];rfl
 simp only [this]
 rfl
theorem JA3 {outer:List (Str×NameKind)}:∀ {names:List (Str×NameKind)} {x:Str},names.lookup x=some .local->(JAm outer names).lookup x=some .local
 | [],x,h=>by simp at h
 |(n,k)::r,x,h=>by
  unfold JAm
  rw [List.map_cons]
  rw [List.lookup_cons] at h
  cases q:x==n with
  | true =>
    rw [q] at h
    cases h
    show List.lookup x ((if (NameKind.local==NameKind.free&&true&&outer.lookup n==some NameKind.cell)=true then (n,NameKind.cell) else (n,NameKind.local))::_)=_
    rw [if_neg (by simp),List.lookup_cons,q]
  | false =>
    rw [q] at h
    have e:∀kk,List.lookup x ((n,kk)::JAm outer r)=List.lookup x (JAm outer r):=fun kk=>by rw [List.lookup_cons,q]
    show List.lookup x ((if (k==NameKind.free&&true&&outer.lookup n==some NameKind.cell)=true then (n,NameKind.cell) else (n,k))::JAm outer r)=_
    split
    ·rw [e];exact JA3 h
    ·rw [e];exact JA3 h
theorem JBS {outer:List (Str×NameKind)}:∀ {names:List (Str×NameKind)} {x:Str},(∀y∈names,y.2≠.cell)->(JAm outer names).lookup x=some .cell\/(JAm outer names).lookup x=some .free->(x,NameKind.free)∈names
 | [],x,_,h=>by simp [JAm] at h
 |(n,k)::r,x,hc,h=>by
  have hc':∀y∈r,y.2≠.cell:=fun y hy=>hc y (q_s _ hy)
  have hk:k≠.cell:=hc (n,k) List.mem_cons_self
  have e0:JAm outer ((n,k)::r)=(if (k==NameKind.free&&true&&outer.lookup n==some NameKind.cell)=true then (n,NameKind.cell) else (n,k))::JAm outer r:=rfl
  rw [e0] at h
  cases q:x==n with
  | true =>
    have e:x=n:=eq_of_beq q
    subst e
    by_cases hf:k=.free
    ·subst hf;exact List.mem_cons_self
    ·rw [if_neg (by simp [hf]),List.lookup_cons,q] at h
     rcases h with h | h
     ·exact absurd (Option.some.inj h) hk
     ·exact absurd (Option.some.inj h) hf
  | false =>
    have e:∀kk,List.lookup x ((n,kk)::JAm outer r)=List.lookup x (JAm outer r):=fun kk=>by rw [List.lookup_cons,q]
    have h':List.lookup x (JAm outer r)=some .cell\/List.lookup x (JAm outer r)=some .free:=by
     split at h
     ·rw [e] at h;exact h
     ·rw [e] at h;exact h
    exact q_s _ (JBS hc' h')
section
variable {X:Cx} {B:Bs} {C:Cn} {CX:CXT} {G:List (Str×GK)} {pins:List (Addr×Obj)} {σ:St} {H:Hp} {s:Shared} {sc:Scope} {fp:List Addr} {N':List Str} {Cc:Addr}
structure BlkOk (X:Cx) (sc:Scope) (xs:List Str):Prop where
 kind:sc.kind=.function
 nocell:∀y∈sc.names,y.2≠.cell
 loc:∀y∈sc.names,y.2=.local->sc.names.lookup y.1=some .local
 free:∀n,(n,NameKind.free)∈sc.names->X.env.kindOf n=some .cell\/X.env.kindOf n=some .free
 tg:∀x∈xs,sc.names.lookup x=some .local
 out:∀y∈X.N,y ∉ xs->sc.names.lookup y≠some .local
 dots:∀i,i<X.N.length->Vis (compEnvC sc (JBA X.env.cells sc.names []) 0 X.env).scope (dots i)->False
 nd:(xs++mask xs 0 X.N).Nodup
theorem vis_same {Cc C':Addr} {x:Str}:Vis (compEnvC sc (JBA X.env.cells sc.names []) Cc X.env).scope x↔Vis (compEnvC sc (JBA X.env.cells sc.names []) C' X.env).scope x:=Iff.rfl
theorem BlkOk.clos {xs:List Str} (b:BlkOk X sc xs) (ok:X.Ok):closureFor sc X.env=pure (JBA X.env.cells sc.names []) :=
 JD2 fun n hn=>by
  obtain ⟨c,hc⟩:=ok.has n (b.free n hn)
  rw [hc];rfl
theorem JBH {xs:List Str} (b:BlkOk X sc xs) (ok:X.Ok) {x:Str} {c:Addr}:(JBA X.env.cells sc.names []).lookup x=some c↔(x,NameKind.free)∈sc.names/\X.env.cells.lookup x=some c:=by
 rw [JBh]
 by_cases h:(x,NameKind.free)∈sc.names
 ·rw [if_pos h]
  obtain ⟨d,hd⟩:=ok.has x (b.free x h)
  rw [hd]
  simp [h]
 ·rw [if_neg h]
  simp [h]
theorem JNO {xs:List Str} (b:BlkOk X sc xs) (hcalm:X.calm=true) (I:Inv X pins σ H s) (hf:∀b∈fp,FpOk X pins H b) (hlt:∀b∈fp,b<s.heap.objs.size) (hC:s.heap.objs.size<=Cc):(JAa X sc Cc N' fp s H).Ok where
 mod:=I.mod
 kind:=b.kind
 glob:=I.ok.glob
 blt:=I.ok.blt
 above:=hC
 inj:=fun x y c h1 h2=>I.ok.inj x y c ((JBH b I.ok).mp h1).2 ((JBH b I.ok).mp h2).2
 has:=fun x h=>by
  have e:=JAT (X:=X) (sc:=sc) (Cc:=Cc) I.ok.kind
  have h':(JAm X.env.scope.names sc.names).lookup x=some .cell\/(JAm X.env.scope.names sc.names).lookup x=some .free:=by
   rw [<-e];exact h
  have hm:=JBS b.nocell h'
  obtain ⟨c,hc⟩:=I.ok.has x (b.free x hm)
  exact ⟨c,(JBH b I.ok).mpr ⟨hm,hc⟩⟩
 cab:=fun _ _ z=>by cases z
 hd:=fun _=>I.ok.hd hcalm
 frames:=I.ok.frames
 stk:=.inl rfl
 exf:=fun a ha=>⟨q_l (q_m (hlt a ha) hC),fun x c e=>(hf a ha).2.2.2.2.1 x c ((JBH b I.ok).mp e).2⟩
 bs:=I.bs
 bsz:=Nat.le_trans I.ok.bsz I.sz
 noex:=fun a o e ha=>by
  rcases (hf a ha).2.2.2.1 with z | z
  ·exact I.ok.noex a o e z
  ·exact absurd (q_m (q_h e) (Nat.le_trans I.ok.bsz z)) (Nat.lt_irrefl _)
 exfs:=fun a ha hm=>by
  rcases q_n.mp (I.stkSub a hm) with z | z
  ·exact (hf a ha).2.1 z
  ·exact (hf a ha).2.2.1 z
 funs:=I.stack
 frf:=I.stkFree
theorem JGR {xs:List Str}:∀(N:List Str) (i j:Nat) (y:Str),(mask xs i N)[j]? = some y->∃z,N[j]? = some z/\((z ∉ xs/\y=z)\/(z∈xs/\y=dots (i+j)))
 | [],_,_,_,h=>by simp [mask] at h
 | z::r,i,0,y,h=>by
  unfold mask at h
  simp only [List.getElem?_cons_zero,q_j] at h
  refine ⟨z,rfl,?_⟩
  split at h
  ·rename_i hc;exact .inr ⟨by simpa using hc,h.symm⟩
  ·rename_i hc;exact .inl ⟨by simpa using hc,h.symm⟩
 | z::r,i,j+1,y,h=>by
  unfold mask at h
  simp only [List.getElem?_cons_succ] at h
  obtain ⟨w,e,q⟩:=JGR r (i+1) j y h
  refine ⟨w,by simpa using e,?_⟩
  rw [show i+(j+1)=i+1+j by omega]
  exact q
theorem JGO {xs:List Str}:∀(N:List Str) (i:Nat),(mask xs i N).length=N.length
 | [],_=>rfl
 | _::r,i=>by simp only [mask,List.length_cons,JGO r]
theorem JGv {xs:List Str} (b:BlkOk X sc xs) (hcalm:X.calm=true) (I:Inv X pins σ H s) (hf:∀b∈fp,FpOk X pins H b) (hlt:∀b∈fp,b<s.heap.objs.size) (hC:s.heap.objs.size<=Cc)
  {h':Heap} {t':Nat} {m:Str->Option Value} (k:∀b o,s.heap.get? b=some o->h'.get? b=some o) (hn:h'.Ns Cc m) :
  Inv (JAa X sc Cc (xs++mask xs 0 X.N) fp s H) [] (xs.map (fun _=>none)++σ) H { s with heap:=h',toks:=t' } where
 ok:=JNO b hcalm I hf hlt hC
 os:=rfl
 bare:=I.bare
 base:=Un.kept k
 loc:=by
  refine ⟨m,hn,fun i y v e1 e2 e3=>?_⟩
  by_cases hi:i<xs.length
  ·rw [q_B (by simpa using hi)] at e2
   simp [hi] at e2
  ·have hi':xs.length<=i:=by omega
   rw [List.getElem?_append_right (by simpa using hi')] at e2
   simp only [q_g] at e2
   have e1':(mask xs 0 X.N)[i - xs.length]? = some y:=by
    have:(xs++mask xs 0 X.N)[i]? = some y:=e1
    rwa [List.getElem?_append_right hi'] at this
   obtain ⟨z,ez,q⟩:=JGR X.N 0 _ y e1'
   rcases q with ⟨hz,rfl⟩ | ⟨hz,rfl⟩
   ·have e3':Vis (compEnvC sc (JBA X.env.cells sc.names []) Cc X.env).scope y:=e3
    have hfree:(y,NameKind.free)∈sc.names:=by
     have en:=JAT (X:=X) (sc:=sc) (Cc:=Cc) I.ok.kind
     unfold Vis at e3'
     rw [en] at e3'
     rcases e3' with e | e | e
     ·exfalso
      refine b.out y (List.mem_of_getElem? ez) hz ?_
      have:∀(names:List (Str×NameKind)),(JAm X.env.scope.names names).lookup y=some .local->names.lookup y=some .local:=by
       intro names
       induction names with
       | nil=>intro h;simp [JAm] at h
       | cons p r ih =>
        obtain ⟨n,kk⟩:=p
        intro h
        have e0:JAm X.env.scope.names ((n,kk)::r)=(if (kk==NameKind.free&&true&&X.env.scope.names.lookup n==some NameKind.cell)=true then (n,NameKind.cell) else (n,kk))::JAm X.env.scope.names r:=rfl
        rw [e0] at h
        rw [List.lookup_cons]
        split at h
        ·rw [List.lookup_cons] at h
         cases q:y==n with
         | true=>rw [q] at h;cases h
         | false=>rw [q] at h;exact ih h
        ·rw [List.lookup_cons] at h
         cases q:y==n with
         | true=>rw [q] at h;exact h
         | false=>rw [q] at h;exact ih h
      exact this sc.names e
     ·exact JBS b.nocell (.inl e)
     ·exact JBS b.nocell (.inr e)
    have hvis:Vis X.env.scope y:=by
     rcases b.free y hfree with e | e
     ·exact .inr (.inl e)
     ·exact .inr (.inr e)
    obtain ⟨mm,hmm,hl⟩:=I.loc
    obtain ⟨u,r,l⟩:=hl (i - xs.length) y v ez e2 hvis
    refine ⟨u,r,.inr ⟨?_,?_⟩⟩
    ·have en:=JAT (X:=X) (sc:=sc) (Cc:=Cc) I.ok.kind
     rcases e3' with e | e | e
     ·exfalso
      have e':(JAm X.env.scope.names sc.names).lookup y=some .local:=by rw [<-en];exact e
      have hh:=JBS (outer:=X.env.scope.names) (names:=sc.names) (x:=y) b.nocell
      have:∀(names:List (Str×NameKind)),(JAm X.env.scope.names names).lookup y=some .local->names.lookup y=some .local:=by
       intro names
       induction names with
       | nil=>intro h;simp [JAm] at h
       | cons p r ih =>
        obtain ⟨n,kk⟩:=p
        intro h
        have e0:JAm X.env.scope.names ((n,kk)::r)=(if (kk==NameKind.free&&true&&X.env.scope.names.lookup n==some NameKind.cell)=true then (n,NameKind.cell) else (n,kk))::JAm X.env.scope.names r:=rfl
        rw [e0] at h
        rw [List.lookup_cons]
        split at h
        ·rw [List.lookup_cons] at h
         cases q:y==n with
         | true=>rw [q] at h;cases h
         | false=>rw [q] at h;exact ih h
        ·rw [List.lookup_cons] at h
         cases q:y==n with
         | true=>rw [q] at h;exact h
         | false=>rw [q] at h;exact ih h
      exact b.out y (List.mem_of_getElem? ez) hz (this sc.names e')
     ·exact .inl e
     ·exact .inr e
    ·rcases l with ⟨hk,_⟩ | ⟨_,c,hc,hcell⟩
     ·exfalso
      rcases b.free y hfree with e | e
      ·rw [e] at hk;cases hk
      ·rw [e] at hk;cases hk
     ·refine ⟨c,(JBH b I.ok).mpr ⟨hfree,hc⟩,?_⟩
      obtain ⟨o,ho,hd⟩:=hcell
      exact ⟨o,k _ _ ho,hd⟩
   ·exfalso
    have hlt':i - xs.length<X.N.length:=(q_p.mp ez).1
    have:dots (0+(i - xs.length))=dots (i - xs.length):=by rw [Nat.zero_add]
    exact b.dots (i - xs.length) hlt' (by rw [<-this];exact vis_same.mp e3)
 cell:=fun x c e=>by
  obtain ⟨v,o,ho,hd⟩:=I.cell x c ((JBH b I.ok).mp e).2
  exact ⟨v,o,k _ _ ho,hd⟩
 free:=I.hok.fresh hC
 freeC:=fun x c e=>I.freeC x c ((JBH b I.ok).mp e).2
 pin:=fun p hp=>absurd (show p∈([]:List (Addr×Obj)) from hp) (by simp)
 hok:=I.hok.kept k
 len:=by
  show (xs.map (fun _=>(none:Option V))++σ).length=(xs++mask xs 0 X.N).length
  rw [q_u,q_u,q_g,JGO,I.len]
end
section
variable {X:Cx} {B:Bs} {C:Cn} {CX:CXT} {XX:Nat->Hp->Prop} {G:List (Str×GK)} {pins:List (Addr×Obj)} {σ:St} {H:Hp} {s:Shared} {sc:Scope} {N':List Str} {Cc:Addr}
abbrev noE:Value->Shared->Prop:=fun _ _=>False
noncomputable def JB6 (X':Cx) (B:Bs) (σ:St) (n:Nat) (δ:Env) (target elt:Expr) (ifs:List Expr) (F:D->R (Option D)):Prop :=
 ∀(pins:List (Addr×Obj)) (s:Shared) (pre:St) (H:Hp) (d:D) (o:Option D) (v:V) (u:Value),pre.length=n->F d=.ok o->Inv X' pins (pre++σ) H s->RelV v u->Den B H d v->Sok B σ H δ ->
  wpAny (model X'.prog X'.w) X'.A (assign target X'.env u) (fun _ s₂ =>
   wpAny (model X'.prog X'.w) X'.A (forIn ifs true fun c r=>if r=true then do let ok<-isTrue c X'.env (eval c X'.env);pure (ForInStep.yield ok) else pure (ForInStep.yield r)) (fun ok s₃ =>
    if ok=true then ∃y,o=some y/\wpAny (model X'.prog X'.w) X'.A (eval elt X'.env) (fun x s₄=>∃pre' H' w,pre'.length=n/\Inv X' pins (pre'++σ) H' s₄/\Same H H'/\RelV w x/\Den B H' y w) noE s₃
    else o=none/\∃pre' H',pre'.length=n/\Inv X' pins (pre'++σ) H' s₃/\Same H H') noE s₂) noE s
theorem JE9 {α:Type} {l:List α} {j:Nat} (h:j<l.length):l.drop j=l[j]::l.drop (j+1):=List.drop_eq_getElem_cons h
theorem JHY {elt iter target:Expr} {ifs:List Expr} {pos pos':Pos} {i:E} {δ:Env} {xs:List Str} {ds zs:List D} {F:D->R (Option D)} {use:Option (Value->Sem Unit)} {Q:Value->Shared->Prop}
  (g:Gk X B C CX XX G) (b:BlkOk X sc xs) (hi:PI X target iter (RI B C XX i)) (hs:∀x,foldedSetIterable iter X.env x=pure x)
  (hrun:∀Cc fp s0 H0,JB6 (JAa X sc Cc (xs++mask xs 0 X.N) fp s0 H0) B σ xs.length δ target elt ifs F)
  (I:Inv X pins σ H s) (ok:Sok B σ H δ) (hds:evI C i δ=.ok ds) (hlen:ds.length<=16777216) (hz:JAp F ds=.ok zs)
  (fin:∀(D Cc:Addr) (s':Shared) (m:Str->Option Value) (H3:Hp) (yv:List V),s'.heap.Ns Cc m->Inv X pins σ (upd H3 D (.lst yv)) s'->Same H H3->H3 D=none->DenL B H3 zs yv->(upd H3 D (.lst yv)) Cc=none->Cc≠X.env.locals->X.s₀.heap.objs.size<=Cc ->
    (∀x c,X.env.cells.lookup x=some c->c≠Cc)->(∀p∈X.pn++pins,p.1≠Cc)->compPost (model X.prog X.w) X.A X.xe use Q (.ref D) Cc (.ok .next) s') :
  wpAny (model X.prog X.w) X.A (comprehension (.ListComp elt [⟨target,iter,ifs,0⟩] sc pos) sc X.env pos' (newList []) false (eval iter X.env) use) Q X.xe s:=by
 refine wpAny_comprehension_free rfl hs (b.clos I.ok) b.kind b.loc (wpAny_mono (hi pins s σ H (fun J H1=>Same H H1/\ItOk B J H1 ds) I ⟨δ,ok,?_⟩) (fun xv s₁ h₁=>wpAny_mono h₁ (fun itv s₂ h₂=>?_) (fun _ _ e=>e)) (fun _ _ e=>e))
 ·rw [hds];exact fun J H' s' io=>⟨s',io⟩
 obtain ⟨it,fp,tn,J,H2,e,I2,T,st2,f2,sm2,io⟩:=h₂
 subst e
 have hlt:∀b∈fp,b<s₂.heap.objs.size:=fun b hb=>by
  obtain ⟨o,ho,_⟩:=T.obj 0 _ st2 b hb
  exact q_h ho
 refine wpAny_newObj_type (wpAny_newFunctionEnv b.nocell (by intro y hy;simp at hy) (fun h₁ hns₁ hsb₁=>?_) b.kind)
 dsimp only at hns₁ hsb₁ ⊢
 generalize hH2:s₂.heap.push { cls:=.type "list",dict:=none,data:=.seq ([]:List Value).toArray }=P2 at hns₁ hsb₁ ⊢
 have hC:P2.objs.size=s₂.heap.objs.size+1:=by rw [<-hH2,Heap.size_push]
 have hCle:s₂.heap.objs.size<=P2.objs.size:=by rw [hC];exact Nat.le_succ _
 have hDC:s₂.heap.objs.size≠P2.objs.size:=by rw [hC];exact q_l (Nat.lt_succ_self _)
 have below:∀b,b<s₂.heap.objs.size->b≠P2.objs.size:=fun b hb=>by rw [hC];exact q_l (q_D hb)
 have old:∀b o,s₂.heap.get? b=some o->h₁.get? b=some o:=fun b o e=>hsb₁.extBut b o (below b (q_h e)) (q_c _ (hH2▸q_c _ e))
 have hacc:h₁.get? s₂.heap.objs.size=some { cls:=.type "list",dict:=none,data:=.seq ([]:List Value).toArray }:=hsb₁.extBut _ _ hDC (q_c _ (hH2▸q_k _ rfl))
 have I4:=JGv (fp:=fp) (t':=s₂.toks+([]:List (Str×Value)).length) b g.calm I2 f2 hlt hCle old hns₁
 have st4:tn 0 h₁:=T.keep _ _ _ st2 fun b _ o e=>old b o e
 have hH2D:H2 s₂.heap.objs.size=none:=I2.hok.fresh (q_t _)
 have fpX:∀ {ps:List (Addr×Obj)} {H':Hp},(∀b∈fp,H' b=none)->(∀p∈ps,p.1=s₂.heap.objs.size)->∀b∈fp,FpOk (JAa X sc P2.objs.size (xs++mask xs 0 X.N) fp s₂ H2) ps H' b:=fun {ps H'} hn hp a ha=>by
  refine ⟨hn a ha,below a (hlt a ha),I4.ok.exfs a ha,.inl ha,fun x c e=>(I4.ok.exf a ha).2 x c e,fun p hpp=>?_⟩
  have hpp':p∈ps:=hpp
  rw [hp p hpp']
  exact Nat.ne_of_gt (hlt a ha)
 have loop:∀s₃:Shared,s₃={ s₂ with heap:=h₁,toks:=s₂.toks+([]:List (Str×Value)).length } ->
    codeAny (model X.prog X.w) X.A (.compLoop (.ListComp elt [⟨target,iter,ifs,0⟩] sc pos) 0 (.ref it) (.ref s₂.heap.objs.size) (JAa X sc P2.objs.size (xs++mask xs 0 X.N) fp s₂ H2).env)
      (compPost (model X.prog X.w) X.A X.xe use Q (.ref s₂.heap.objs.size) P2.objs.size) s₃:=by
  rintro s₃ rfl
  refine JDJ (fun n s'=>∃(j:Nat) (pre:St) (H':Hp) (ys:List D) (yv:List V) (its:List Value) (ep:Nat) (rest:List D),n=ds.length - j/\j<=ds.length/\pre.length=xs.length /\
    Inv (JAa X sc P2.objs.size (xs++mask xs 0 X.N) fp s₂ H2) [] (pre++σ) H' s'/\tn j s'.heap/\(∀b∈fp,H' b=none)/\Same H2 H'/\H' s₂.heap.objs.size=none /\
    s'.heap.get? s₂.heap.objs.size=some { cls:=.type "list",data:=.seq its.toArray ep }/\Vals yv its/\DenL B H' ys yv/\ys.length<=j/\JAp F (ds.drop j)=.ok rest/\zs=ys++rest) ?_ ds.length
    ⟨0,xs.map (fun _=>none),H2,[],[],[],0,zs,by simp,Nat.zero_le _,by simp,I4,st4,fun b hb=>(f2 b hb).1,Same.refl _,hH2D,hacc,.nil,by simp only [DenL],q_t _,by simpa using hz,rfl⟩
  rintro n s3 ⟨j,pre,H3,ys,yv,its,ep,rest,hn,hj,hpl,I3,st3,fr3,sm3,hD3,ho3,rv3,dn3,hyl,hr3,hzs⟩
  subst hn
  have I3p:Inv (JAa X sc P2.objs.size (xs++mask xs 0 X.N) fp s₂ H2) [(s₂.heap.objs.size,{ cls:=.type "list",data:=.seq its.toArray ep })] (pre++σ) H3 s3:=I3.pins_of fun p hp=>by
    have e:p=(s₂.heap.objs.size,{ cls:=.type "list",data:=.seq its.toArray ep }):=by simpa using hp
    subst e
    refine ⟨ho3,hD3,hDC,fun hm=>?_,fun v z=>?_⟩
    · obtain ⟨_,o,ho,_⟩:=I4.ok.funs.mem hm
      exact absurd (q_h ho) (Nat.lt_irrefl _)
    · have z':Data.seq its.toArray ep=Data.cell v:=z
      cases z'
  have sameE:∀(e:Value) (s':Shared),noE e s'->notedBy (model X.prog X.w) X.A (JAa X sc P2.objs.size (xs++mask xs 0 X.N) fp s₂ H2).env (fun e s'=>compPost (model X.prog X.w) X.A X.xe use Q (.ref s₂.heap.objs.size) P2.objs.size (.error e) s') e s':=fun _ _ z=>z.elim
  by_cases hlt3:j<ds.length
  ·
    have hd:ds[j]? = some ds[j]:=by simp [hlt3]
    obtain ⟨go,yl⟩:=(io H3 sm3 j).1 ds[j] hd
    refine wpAny_mono (T.item (JAa X sc P2.objs.size (xs++mask xs 0 X.N) fp s₂ H2) rfl rfl rfl rfl j [(s₂.heap.objs.size,{ cls:=.type "list",data:=.seq its.toArray ep })] s3 (pre++σ) H3 noE I3p (fpX fr3 (fun p hp=>by rw [List.mem_singleton.mp hp])) st3 go) (fun r s4 h4=>?_) sameE
    obtain ⟨u,hu,h4⟩:=h4
    subst hu
    show wpAny _ _ (letOwnedTupleGo target (.ref it) u) _ _ s4
    refine wpAny_mono h4 (fun _ s5 h5=>?_) sameE
    obtain ⟨v,H5,I5,r5,y5,st5,fr5⟩:=h5
    obtain ⟨s35,d5⟩:Same H3 H5/\Den B H5 ds[j] v:=by
      rcases yl v H5 y5 with ⟨e5,d5⟩ | ⟨p,ws,es,hp,e5,ex,ed,dl⟩
      · subst e5;exact ⟨Same.refl _,Den.mono sm3 _ _ d5⟩
      · subst e5;subst ex
        have s35:Same H3 (upd H3 p (.tup ws)):=JBD hp
        refine ⟨s35,?_⟩
        rw [ed]
        simp only [Den]
        exact ⟨p,ws,rfl,SqT.of JAH,DenL.mono (sm3.trans s35) _ _ dl⟩
    replace sm3:=sm3.trans s35
    replace dn3:=DenL.mono s35 ys yv dn3
    have I5p:=I5.pinned (fpX fr5 (fun p hp=>by rw [List.mem_singleton.mp hp])) (T.obj _ _ st5)
    rw [JE9 hlt3] at hr3
    unfold JAp at hr3
    have okσ:Sok B σ H5 δ:=(ok.mono sm2).mono sm3
    cases qF:F ds[j] with
    | exc c=>rw [qF] at hr3;cases hr3
    | bad=>rw [qF] at hr3;cases hr3
    | ok o =>
      have hstep:=hrun P2.objs.size fp s₂ H2 _ s5 pre H5 ds[j] o v u hpl qF I5p r5 d5 okσ
      refine wpAny_mono hstep (fun _ s6 h6=>wpAny_mono h6 (fun okb s7 h7=>?_) sameE) sameE
      have back:∀ {σ':St} {H':Hp} {s':Shared},Inv (JAa X sc P2.objs.size (xs++mask xs 0 X.N) fp s₂ H2) ([(s₂.heap.objs.size,{ cls:=.type "list",data:=.seq its.toArray ep })]++JD9 fp s5.heap) σ' H' s' ->
         s'.heap.get? s₂.heap.objs.size=some { cls:=.type "list",data:=.seq its.toArray ep }/\H' s₂.heap.objs.size=none/\tn (j+1) s'.heap/\(∀b∈fp,H' b=none):=fun {σ' H' s'} J'=>by
        have p0:=J'.pin (s₂.heap.objs.size,{ cls:=.type "list",data:=.seq its.toArray ep }) (q_r _ (List.mem_append_left _ (by simp)))
        refine ⟨p0.1,p0.2.1,T.keep _ _ _ st5 fun a ha o e=>(J'.pin (a,o) (q_r _ (q_r _ (JBu ha e)))).1,fun a ha=>?_⟩
        obtain ⟨o,e,_⟩:=T.obj _ _ st5 a ha
        exact (J'.pin (a,o) (q_r _ (q_r _ (JBu ha e)))).2.1
      cases okb with
      | false =>
        obtain ⟨eo,pre',H',hp',I',sm'⟩:=h7
        subst eo
        rw [qF] at hr3
        obtain ⟨b1,b2,b3,b4⟩:=back I'
        rw [if_neg Bool.false_ne_true]
        refine ⟨ds.length - (j+1),by omega,j+1,pre',H',ys,yv,its,ep,rest,rfl,hlt3,hp',I'.pins_of (fun p hp=>absurd hp (by simp)),b3,b4,sm3.trans sm',b2,b1,rv3,DenL.mono sm' ys yv dn3,by omega,hr3,hzs⟩
      | true =>
        rw [if_pos rfl] at h7 ⊢
        obtain ⟨y,eo,h7⟩:=h7
        subst eo
        rw [qF] at hr3
        cases qr:JAp F (ds.drop (j+1)) with
        | exc c=>simp only [qr] at hr3;cases hr3
        | bad=>simp only [qr] at hr3;cases hr3
        | ok rs =>
         simp only [qr] at hr3
         have hr3':y::rs=rest:=by injection hr3
         refine wpAny_mono h7 (fun x s8 h8=>?_) sameE
         obtain ⟨pre',H',w',hp',I',sm',rw8,d8⟩:=h8
         obtain ⟨b1,b2,b3,b4⟩:=back I'
         have hsz:its.length<=j:=by rw [<-rv3.length,<-DenL.len ys yv dn3];exact hyl
         have hlim:its.toArray.size<sizeLine:=by rw [q_f,sizeLine_eq];omega
         refine call_meets PySem.F.slot_list_append ⟨_,b1,rfl⟩ PySem.F.entry_list_append (PySem.F.args_list_append_2 _ _) (PySem.list_append s₂.heap.objs.size its.toArray ep x (by omega)) ⟨b1,?_⟩
         have q8:=PySem.IsL.update b1 (fun a=>a.push x)
         have q8':(s8.heap.update s₂.heap.objs.size (Obj.mapSeq (fun a=>a.push x))).get? s₂.heap.objs.size=some { cls:=.type "list",data:=.seq (its++[x]).toArray (if (its.toArray.push x).size==its.toArray.size then ep else ep+1) }:=by simpa using q8
         have I0:Inv (JAa X sc P2.objs.size (xs++mask xs 0 X.N) fp s₂ H2) [] (pre'++σ) H' s8:=I'.pins_of (fun p hp=>absurd hp (by simp))
         have I9:=I0.turned (h':=s8.heap.update s₂.heap.objs.size (Obj.mapSeq (fun a=>a.push x))) (t':=s8.toks) (it:=s₂.heap.objs.size) (fun b o hb e=>(Heap.get?_update_other _ _ (Ne.symm hb)).trans e) b2 hDC (.inr (q_t _))
          (fun x c e z=>by
            obtain ⟨v',o',ho',_⟩:=I2.cell x c ((JBH b I.ok).mp e).2
            rw [z] at ho'
            exact absurd (q_h ho') (Nat.lt_irrefl _)) (fun p hp=>absurd (show p∈([]:List (Addr×Obj)) from hp) (by simp))
         refine ⟨ds.length - (j+1),by omega,j+1,pre',H',ys++[y],yv++[w'],its++[x],_,rs,rfl,hlt3,hp',I9,T.keep _ _ _ b3 fun a ha o e=>(Heap.get?_update_other _ _ (Nat.ne_of_gt (hlt a ha))).trans e,b4,sm3.trans sm',b2,q8',rv3.append (.cons rw8 .nil),
          DenL.append ys [y] yv [w'] (DenL.mono sm' ys yv dn3) (by simp only [DenL];exact ⟨w',[],rfl,d8,rfl⟩),by rw [q_u,List.length_singleton];omega,qr,by rw [hzs,<-hr3'];simp⟩
  ·
    have ej:j=ds.length:=by omega
    have stop:=(io H3 sm3 j).2 (by omega)
    refine wpAny_mono (T.done (JAa X sc P2.objs.size (xs++mask xs 0 X.N) fp s₂ H2) rfl rfl rfl rfl j [(s₂.heap.objs.size,{ cls:=.type "list",data:=.seq its.toArray ep })] s3 (pre++σ) H3 noE I3p (fpX fr3 (fun p hp=>by rw [List.mem_singleton.mp hp])) st3 stop) (fun r s4 h4=>?_) sameE
    obtain ⟨hr,I5⟩:=h4
    subst hr
    show compPost _ _ _ _ _ _ _ _ s4
    have p0:=I5.pin (s₂.heap.objs.size,{ cls:=.type "list",data:=.seq its.toArray ep }) (q_r _ (by simp))
    have hrest:rest=[]:=by
      rw [ej,List.drop_length] at hr3
      unfold JAp at hr3
      injection hr3 with hr3
      exact hr3.symm
    have u0:Un (frs X.stack) fp H2 H3 s₂.heap s4.heap:=I5.base
    have neD:∀b o,s₂.heap.get? b=some o->b≠s₂.heap.objs.size:=fun b o e=>q_l (q_h e)
    have nD:∀b o,H3 b=some o->b≠s₂.heap.objs.size:=fun b o e z=>by rw [z,hD3] at e;cases e
    have u1:Un (frs X.stack) fp H2 (upd H3 s₂.heap.objs.size (.lst yv)) s₂.heap s4.heap :=
      ⟨u0.keep,u0.slot,fun b o e n hx=>by rw [JAG (neD b o e)];exact u0.free b o e n hx,u0.there,fun b xs' e=>by rw [JAG (nD b _ (u0.tups b xs' e))];exact u0.tups b xs' e,
        fun b o u e=>by rw [JAG (nD b _ (u0.frzs b o u e))];exact u0.frzs b o u e,fun b ps e=>by
         obtain ⟨more,q⟩:=u0.tbls b ps e
         exact ⟨more,by rw [JAG (nD b _ q)];exact q⟩⟩
    have hvl:yv.length<=sizeLine:=by rw [<-DenL.len ys yv dn3,sizeLine_eq];omega
    have hok1:HOk X.prog X.w (upd H3 s₂.heap.objs.size (.lst yv)) s4.heap:=fun a u e=>by
      by_cases ha:a=s₂.heap.objs.size
      · subst ha
        rw [JAH] at e;cases e
        exact ⟨hvl,its,ep,rv3,p0.1⟩
      · rw [JAG ha] at e
        exact (I5.hok a u e).stay (fun c w' _ q=>q) (fun c q=>by rw [JAG (nD c _ q)];exact q) fun c xs' q=>by rw [JAG (nD c _ q)];exact q
    have J:=I2.call' (s':=s4) I5.os u1 hok1 I5.bare fun a ha=>⟨(f2 a ha).2.2.2.1,(f2 a ha).2.1,(f2 a ha).2.2.2.2.1,(f2 a ha).2.2.2.2.2⟩
    obtain ⟨m4,hn4,_⟩:=I5.loc
    refine fin s₂.heap.objs.size P2.objs.size s4 m4 H3 yv hn4 J (sm2.trans sm3) hD3 ?_ ?_ ?_ ?_ ?_ ?_
    · rw [hzs,hrest,List.append_nil]
      exact dn3
    · rw [JAG (Ne.symm hDC)];exact I5.free
    · exact Nat.ne_of_gt (q_m I2.lt hCle)
    · exact Nat.le_trans I2.sz hCle
    · intro x c e z
      obtain ⟨v',o',ho',_⟩:=I2.cell x c e
      rw [z] at ho'
      exact absurd (q_m (q_h ho') hCle) (Nat.lt_irrefl _)
    · intro p hp z
      exact absurd (q_m (q_h (I2.pin p hp).1) (by rw [z];exact hCle)) (Nat.lt_irrefl _)
 exact codeAny_compStart_list (loop _ rfl) (T.self _ _ _ _ _ st4 (loop _ rfl))
end
theorem JI3 {B:Bs} {H:Hp} {a:Addr} {ds:List D} {xs:List V} (q:SqL B.K H a xs) (l:DenL B H ds xs):ItOk B (Itl B.K a) H ds:=by
 intro H2 s2 i
 have q2:=s2.seq q
 refine ⟨fun d e=>?_,fun h=>⟨xs,q2,by rw [<-DenL.len ds xs l];exact h⟩⟩
 obtain ⟨v,e1,dn⟩:=DenL.get ds xs i d l e
 refine ⟨⟨xs,v,q2,e1⟩,fun x H3 y=>?_⟩
 obtain ⟨e3,y⟩:=y
 have:=y xs q2
 rw [e1] at this
 cases this
 exact .inl ⟨e3,dn⟩
theorem JJK {B:Bs} {H:Hp} {a:Addr} {ds:List D} {xs:List V} (q:SqT B.K H a xs) (l:DenL B H ds xs):ItOk B (Itt B.K a) H ds:=by
 intro H2 s2 i
 have q2:=JKR s2 q
 refine ⟨fun d e=>?_,fun h=>⟨xs,q2,by rw [<-DenL.len ds xs l];exact h⟩⟩
 obtain ⟨v,e1,dn⟩:=DenL.get ds xs i d l e
 refine ⟨⟨xs,v,q2,e1⟩,fun x H3 y=>?_⟩
 obtain ⟨e3,y⟩:=y
 have:=y xs q2
 rw [e1] at this
 cases this
 exact .inl ⟨e3,dn⟩
theorem JFn {B:Bs} {H:Hp} {lo hi:Int}:ItOk B (Itr lo (hi - lo).toNat) H (JEB lo hi):=by
 intro H2 s2 i
 unfold JEB
 refine ⟨fun d e=>?_,fun h=>show (hi - lo).toNat<=i by simpa using h⟩
 rw [List.getElem?_map] at e
 by_cases hi':i<(hi - lo).toNat
 ·rw [List.getElem?_range hi'] at e
  simp only [Option.map_some,q_j] at e
  refine ⟨hi',fun x H3 y=>?_⟩
  obtain ⟨e3,y⟩:=y
  refine .inl ⟨e3,?_⟩
  rw [<-e,y]
  simp only [Den]
 ·rw [List.getElem?_eq_none_iff.mpr (by simpa using hi')] at e
  cases e
section
variable {X:Cx} {B:Bs} {C:Cn} {CX:CXT} {XX:Nat->Hp->Prop} {G:List (Str×GK)} {a b c tg:Expr} {x y z:E} {pos p:Pos}
theorem JEM (g:Gk X B C CX XX G) (ha:PE X a (RE B C XX x)) (hi:∀δ,evI C x δ=(ev C x δ).bind JAg):PI X tg a (RI B C XX x):=by
 intro pins s σ H R I ⟨δ,ok,k⟩
 rw [hi] at k
 cases q:ev C x δ with
 | ok d =>
  rw [q] at k
  cases d with
  | list ds =>
   refine JH2 ha pins s σ H R I ⟨δ,ok,?_⟩
   rw [q]
   intro v H1 s1 d1
   simp only [Den] at d1
   obtain ⟨p,xs,e,hq,l⟩:=d1
   refine ⟨p,e,⟨xs,g.K▸hq⟩,?_⟩
   rw [g.K]
   exact k _ H1 s1 (JI3 hq l)
  | tuple ds =>
   refine JOW ha pins s σ H R I ⟨δ,ok,?_⟩
   rw [q]
   intro v H1 s1 d1
   simp only [Den] at d1
   obtain ⟨p,xs,e,hq,l⟩:=d1
   refine ⟨p,e,⟨xs,g.K▸hq⟩,?_⟩
   rw [g.K]
   exact k _ H1 s1 (JJK hq l)
  | _=>exact False.elim k
 | exc c =>
  rw [q] at k
  refine JH2 ha pins s σ H R I ⟨δ,ok,?_⟩
  rw [q]
  exact k
 | bad=>rw [q] at k;exact k.elim
theorem JC1 {i:Int} (h:small i=true):-(2 ^ 62)<=i/\i<2 ^ 62:=by
 unfold small at h
 simp only [q_i,q_C] at h
 exact h
theorem JOT (g:Gk X B C CX XX G) (hg:Gl X "range") (hm:X.mg "range"=none) (ha:PA X [a] (RA B C XX x)) (hc:cnt x=1) (hs:starEach [a] X.env=[(false,eval a X.env)]):PI X tg (.Call (.Name "range" p) [a] [] pos) (RI B C XX (.rng x)):=by
 intro pins s σ H R I ⟨δ,ok,k⟩
 refine JHn hg hm ha hs pins s σ H R I ?_
 simp only [evI] at k
 refine ⟨δ,ok,?_⟩
 cases q:evA C x δ with
 | ok ds =>
  rw [q] at k
  intro vs H1 s1 d1
  have hl:=JBm x δ ds q
  rw [hc] at hl
  match ds,hl,k,d1 with
  | [.none],_,k,_=>exact False.elim k
  | [.bool _],_,k,_=>exact False.elim k
  | [.str _],_,k,_=>exact False.elim k
  | [.list _],_,k,_=>exact False.elim k
  | [.tuple _],_,k,_=>exact False.elim k
  | [.dict _],_,k,_=>exact False.elim k
  | [.int j],_,k,d1 =>
   simp only [VI.R.bind,rngD] at k
   split at k
   ·rename_i hsm
    simp only [DenL,Den] at d1
    obtain ⟨v,r,e,e1,e2⟩:=d1
    subst e2;subst e;subst e1
    obtain ⟨b1,b2⟩:=JC1 hsm
    refine ⟨j,rfl,b1,b2,?_⟩
    have:=k (Itr 0 (j - 0).toNat) H1 s1 JFn
    simpa using this
   ·exact k.elim
 | exc c=>rw [q] at k;exact k
 | bad=>rw [q] at k;exact k.elim
theorem JQv (g:Gk X B C CX XX G) (hg:Gl X "range") (hm:X.mg "range"=none) (ha:PA X [a,b] (RA B C XX x)) (hc:cnt x=2) (hs:starEach [a,b] X.env=[(false,eval a X.env),(false,eval b X.env)]) (hs2:starEach [b] X.env=[(false,eval b X.env)]) :
  PI X tg (.Call (.Name "range" p) [a,b] [] pos) (RI B C XX (.rng x)):=by
 intro pins s σ H R I ⟨δ,ok,k⟩
 refine JIo hg hm ha hs hs2 pins s σ H R I ?_
 simp only [evI] at k
 refine ⟨δ,ok,?_⟩
 cases q:evA C x δ with
 | ok ds =>
  rw [q] at k
  intro vs H1 s1 d1
  have hl:=JBm x δ ds q
  rw [hc] at hl
  match ds,hl,k,d1 with
  | [.none,_],_,k,_=>exact False.elim k
  | [.bool _,_],_,k,_=>exact False.elim k
  | [.str _,_],_,k,_=>exact False.elim k
  | [.list _,_],_,k,_=>exact False.elim k
  | [.tuple _,_],_,k,_=>exact False.elim k
  | [.dict _,_],_,k,_=>exact False.elim k
  | [.int _,.none],_,k,_=>exact False.elim k
  | [.int _,.bool _],_,k,_=>exact False.elim k
  | [.int _,.str _],_,k,_=>exact False.elim k
  | [.int _,.list _],_,k,_=>exact False.elim k
  | [.int _,.tuple _],_,k,_=>exact False.elim k
  | [.int _,.dict _],_,k,_=>exact False.elim k
  | [.int i,.int j],_,k,d1 =>
   simp only [VI.R.bind,rngD] at k
   split at k
   ·rename_i hsm
    simp only [q_i] at hsm
    simp only [DenL,Den] at d1
    obtain ⟨v,r,e,e1,v',r',e',e1',e2⟩:=d1
    subst e2;subst e';subst e;subst e1;subst e1'
    obtain ⟨b1,b2⟩:=JC1 hsm.1
    obtain ⟨b3,b4⟩:=JC1 hsm.2
    exact ⟨i,j,rfl,⟨b1,b2,b3,b4⟩,k _ H1 s1 JFn⟩
   ·exact k.elim
 | exc c=>rw [q] at k;exact k
 | bad=>rw [q] at k;exact k.elim
end
theorem JBp {G:List (Str×GK)} {n:Nat} {it:Bool} {names:List (Str×NameKind)} {N:List Str} {e:Expr} {x:E} (h:JAL G n it names N e=some x) (env:PySem.Env) (v:Value):foldedSetIterable e env v=pure v:=by
 cases n with
 | zero=>simp [JAL,JAZ,JAO] at h
 | succ n=>cases e<;>first | rfl | (simp [JAL,JAZ,JAO,xOf,xRaw] at h)
theorem Gk.nox {X X':Cx} {B:Bs} {C:Cn} {CX:CXT} {XX:Nat->Hp->Prop} {G:List (Str×GK)} (g:Gk X B C CX XX G) (h1:X'.K=X.K) (h2:X'.A=X.A) (h3:X'.mg=X.mg) (h4:X'.prog=X.prog) (h5:X'.w=X.w) (h6:X'.base=X.base) (h7:X'.calm=true)
  (hp:JDd CX X' (EX B fun _ _=>False)):Gk X' B C CX (fun _ _=>False) G where
 K:=h1.trans g.K
 W:=h5.trans g.W
 anti:=fun _ _ _ _ z=>z
 units:=by rw [h2];exact g.units
 calm:=h7
 fn:=by rw [h1,h2,h3,h4,h5,h6];exact g.fn
 pas:=hp
 con:=by rw [h3];exact g.con
 noexg:=g.noexg
 blt:=by rw [h3];exact g.blt
 rng:=by rw [h3];exact g.rng
 isi:=by rw [h3];exact g.isi
 ty:=by rw [h3];exact g.ty
 cls:=by rw [h3];exact g.cls
 nam:=by rw [h3];exact g.nam
theorem JCP {f:D->R (Option D)} {c:Nat}:∀ {ds:List D},JAp f ds≠.exc c
 | []=>fun h=>by unfold JAp at h;cases h
 | x::xs=>fun h=>by
  unfold JAp at h
  cases q:f x with
  | ok o =>
   rw [q] at h
   cases o with
   | none=>exact JCP h
   | some y =>
    cases q2:JAp f xs with
    | ok ys=>simp only [q2] at h;cases h
    | exc c=>simp only [q2] at h;cases h
    | bad=>simp only [q2] at h;cases h
  | exc c=>rw [q] at h;cases h
  | bad=>rw [q] at h;cases h
section
variable {X:Cx} {B:Bs} {C:Cn} {CX:CXT} {XX:Nat->Hp->Prop} {G:List (Str×GK)} {a b c tg:Expr} {x y z:E} {pos p:Pos}
noncomputable def itemF (C:Cn) (k:Nat) (x y:E) (δ:Env) (d:D):R (Option D):=(push k d δ).bind fun δ1=>(evT C y δ1).bind fun t=>if t=true then (ev C x δ1).bind fun z=>.ok (some z) else .ok none
theorem JGS {σ:St} {H:Hp} {δ:Env} {d:D} {v:V} (ok:Sok B σ H δ) (dn:Den B H d v):Sok B (some v::σ) H (.val d::δ):=by
 intro i d' e
 cases i with
 | zero =>
  have:d=d':=by
   have e':(R.ok d:R D)=.ok d':=e
   injection e'
  subst this
  exact ⟨v,rfl,dn⟩
 | succ i=>exact ok i d' e
theorem JCI {X':Cx} {nm:Str} {px:Pos} {elt:Expr} {ifs:List Expr} {σ:St} {δ:Env} (hN0:X'.N.Nodup) (hN:X'.N[0]? = some nm) (hloc:X'.env.scope.names.lookup nm=some .local)
  (he:PE X' elt (RE B C (fun _ _=>False) x)) (hc:∀c,ifs=[c]->PT X' c (RT B C (fun _ _=>False) y)) (hifs:ifs=[]/\y=.cbl true\/∃c,ifs=[c]) (hxe:X'.xe=noE) :
  JB6 X' B σ 1 δ (.Name nm px) elt ifs (itemF C 0 x y δ):=by
 intro pins s pre H d o v u hpre hF I r dn ok
 obtain ⟨p0,rfl⟩:∃p0,pre=[p0]:=by
  match pre,hpre with
  | [p0],_=>exact ⟨p0,rfl⟩
 have hF':(evT C y (.val d::δ)).bind (fun t=>if t=true then (ev C x (.val d::δ)).bind fun z=>.ok (some z) else .ok none)=.ok o:=hF
 have ok1:=JGS ok dn
 have hst:=JDk (X:=X') (pos:=px) hN0 hN (.inl hloc) (.inr hloc) pins s ([p0]++σ) H v u (fun σ' H'=>σ'=some v::σ/\H'=H) I r ⟨rfl,rfl⟩
 rw [hxe] at hst
 refine thn hst fun _ s2 ⟨σ2,H2,I2,e1,e2⟩=>?_
 subst e1;subst e2
 have elt_go:∀(s3:Shared) (H3:Hp) (t:Bool),Inv X' pins (some v::σ) H3 s3->Same H2 H3->evT C y (.val d::δ)=.ok t ->
    (if t=true then ∃z,o=some z/\wpAny (model X'.prog X'.w) X'.A (eval elt X'.env) (fun x s₄=>∃pre' H' w,pre'.length=1/\Inv X' pins (pre'++σ) H' s₄/\Same H2 H'/\RelV w x/\Den B H' z w) noE s3
      else o=none/\∃pre' H',pre'.length=1/\Inv X' pins (pre'++σ) H' s3/\Same H2 H'):=by
  intro s3 H3 t I3 s23 qt
  rw [qt] at hF'
  cases t with
  | true =>
    rw [if_pos rfl]
    simp only [R.bind,if_true] at hF'
    cases qx:ev C x (.val d::δ) with
    | ok z =>
      simp only [qx] at hF'
      have eo:o=some z:=by injection hF' with h;exact h.symm
      refine ⟨z,eo,?_⟩
      have hh:=he pins s3 (some v::σ) H3 (fun w H'=>Same H3 H'/\Den B H' z w) I3 ⟨_,ok1.mono s23,by rw [qx];exact fun w H' s' d'=>⟨s',d'⟩⟩
      rw [hxe] at hh
      exact thn hh fun x' s4 ⟨w,H',I4,rw4,s34,d4⟩=>⟨[some v],H',w,rfl,I4,s23.trans s34,rw4,d4⟩
    | exc c=>simp only [qx] at hF';cases hF'
    | bad=>simp only [qx] at hF';cases hF'
  | false =>
    rw [if_neg Bool.false_ne_true]
    simp only [R.bind,q_v,if_false] at hF'
    have eo:o=none:=by injection hF' with h;exact h.symm
    exact ⟨eo,[some v],H3,rfl,I3,s23⟩
 rcases hifs with ⟨e1,e2⟩ | ⟨c',e1⟩
 ·subst e1;subst e2
  exact wpAny_tests_nil (elt_go s2 H2 true I2 (Same.refl _) (by simp only [evT]))
 ·subst e1
  refine wpAny_tests_one ?_
  cases qt:evT C y (.val d::δ) with
  | ok t =>
    have hh:=hc c' rfl pins s2 (some v::σ) H2 (fun t' H'=>t'=t/\Same H2 H') I2 ⟨_,ok1,by rw [qt];exact fun H' s'=>⟨rfl,s'⟩⟩
    rw [hxe] at hh
    refine thn hh fun t' s3 ⟨H3,I3,e3,s23⟩=>?_
    subst e3
    exact elt_go s3 H3 t' I3 s23 qt
  | exc c=>rw [qt] at hF';cases hF'
  | bad=>rw [qt] at hF';cases hF'
theorem JCf {e:Expr} {r:List Expr} {xs:List Str} (h:namesOf (e::r)=some xs):∃nm p ys,e=.Name nm p/\namesOf r=some ys/\xs=nm::ys:=by
 unfold namesOf at h
 split at h
 ·rename_i q;cases q
 ·rename_i q
  cases q
  obtain ⟨ys,h1,h2⟩:=q_d.mp h
  exact ⟨_,_,ys,rfl,h1,h2.symm⟩
 ·cases h
theorem JCg {env:PySem.Env}:∀ {ts:List Expr} {xs:List Str},namesOf ts=some xs->(assignEach ts env).findIdx? (·.1)=none/\(assignEach ts env).length=xs.length
 | [],xs,h=>by unfold namesOf at h;cases h;exact ⟨rfl,rfl⟩
 | e::r,xs,h=>by
  obtain ⟨nm,p,ys,rfl,h1,rfl⟩:=JCf h
  obtain ⟨q1,q2⟩:=JCg (env:=env) h1
  refine ⟨?_,by show (assignEach r env).length+1=_;rw [q2];rfl⟩
  show List.findIdx? (·.1) ((false,assign (.Name nm p) env)::assignEach r env)=none
  rw [List.findIdx?_cons]
  simp [q1]
noncomputable def JDw:Nat->List V->St->St
 | _,[],σ=>σ
 | j,v::r,σ=>JDw (j+1) r (σ.set j (some v))
theorem JDD:∀(vs:List V) (a pre σ:St),pre.length=vs.length->JDw a.length vs (a++(pre++σ))=a++(vs.map some++σ)
 | [],a,pre,σ,h=>by
  have:pre=[]:=q_A.mp h
  subst this;rfl
 | v::r,a,[],σ,h=>by cases h
 | v::r,a,p::pre,σ,h=>by
  simp only [JDw]
  have e:(a++(p::pre++σ)).set a.length (some v)=(a++[some v])++(pre++σ):=by
   rw [List.set_append_right _ _ (q_t _),Nat.sub_self]
   simp
  rw [e,show a.length+1=(a++[some v]).length by simp,JDD r (a++[some v]) pre σ (by simpa using h)]
  simp
theorem JGU {X':Cx} (hN0:X'.N.Nodup):∀ {ts:List Expr} {xs:List Str} {j:Nat},namesOf ts=some xs->(∀(i:Nat) (nm:Str),xs[i]? = some nm->X'.N[j+i]? = some nm)->(∀nm∈xs,X'.env.scope.names.lookup nm=some .local)->PGs X' ts (fun vs σ H Q=>vs.length=xs.length/\Q (JDw j vs σ) H)
 | [],xs,j,h,_,_=>by
  unfold namesOf at h;cases h
  intro pins s σ H vs us Q I r ⟨e,q⟩
  have ev:vs=[]:=q_A.mp e
  subst ev
  exact JH0 pins s σ H [] us Q I r ⟨rfl,q⟩
 | e::r,xs,j,h,hN,hl=>by
  obtain ⟨nm,p,ys,rfl,h1,rfl⟩:=JCf h
  have hx:X'.env.scope.names.lookup nm=some .local:=hl nm (by simp)
  have ih:=JGU hN0 (j:=j+1) h1 (fun i z e=>by have:=hN (i+1) z (by simpa using e);rw [show j+1+i=j+(i+1) by omega];exact this) (fun z hz=>hl z (by simp [hz]))
  intro pins s σ H vs us Q I rv ⟨e,q⟩
  refine JFy (JDk hN0 (hN 0 nm rfl) (.inl hx) (.inr hx)) ih rfl pins s σ H vs us Q I rv ?_
  match vs,e,q with
  | v::vr,e,q=>exact ⟨v,vr,rfl,by simpa using e,q⟩
theorem JDS {σ:St} {H:Hp} {δ:Env}:∀ {ds:List D} {vs:List V},Sok B σ H δ->DenL B H ds vs->Sok B (vs.map some++σ) H (ds.map Sl.val++δ)
 | [],vs,ok,dn=>by simp only [DenL] at dn;subst dn;exact ok
 | d::ds,vs,ok,dn=>by
  simp only [DenL] at dn
  obtain ⟨v,r,rfl,d1,d2⟩:=dn
  exact JGS (JDS ok d2) d1
theorem item_tup {X':Cx} {ts:List Expr} {kt:Nat} {pt:Pos} {xs:List Str} {elt:Expr} {ifs:List Expr} {σ:St} {δ:Env} (hcalm:X'.calm=true) (hK:X'.K=B.K) (hx:namesOf ts=some xs) (hne:xs≠[]) (hN0:X'.N.Nodup) (hN:∀(i:Nat) (nm:Str),xs[i]? = some nm->X'.N[i]? = some nm) (hloc:∀nm∈xs,X'.env.scope.names.lookup nm=some .local)
  (he:PE X' elt (RE B C (fun _ _=>False) x)) (hc:∀c,ifs=[c]->PT X' c (RT B C (fun _ _=>False) y)) (hifs:ifs=[]/\y=.cbl true\/∃c,ifs=[c]) (hxe:X'.xe=noE) :
  JB6 X' B σ xs.length δ (.Tuple ts kt pt) elt ifs (itemF C xs.length x y δ):=by
 intro pins s pre H d o v u hpre hF I r dn ok
 obtain ⟨ds,ed,hdl,hF'⟩:∃ds,d=.tuple ds/\ds.length=xs.length/\(evT C y (ds.map Sl.val++δ)).bind (fun t=>if t=true then (ev C x (ds.map Sl.val++δ)).bind fun z=>.ok (some z) else .ok none)=.ok o:=by
  obtain ⟨n,hn⟩:∃n,xs.length=n+1:=⟨xs.length - 1,by have:=List.length_pos_iff.mpr hne;omega⟩
  rw [hn] at hF ⊢
  unfold itemF push at hF
  cases d<;>first | (cases hF;done) | skip
  rename_i ds
  simp only at hF
  split at hF
  · rename_i h;exact ⟨ds,rfl,h,hF⟩
  · cases hF
 subst ed
 simp only [Den] at dn
 obtain ⟨a,vs,rfl,sq,dl⟩:=dn
 have hvl:=DenL.len ds vs dl
 have ok1:=JDS ok dl
 obtain ⟨st1,st2⟩:=JCg (env:=X'.env) hx
 have hst:=JHK (X:=X') (pos:=pt) (k:=kt) hcalm (JGU (j:=0) hN0 hx (fun i nm e=>by rw [Nat.zero_add];exact hN i nm e) hloc) st2 st1 pins s (pre++σ) H (.ref a) u (fun σ' H'=>σ'=vs.map some++σ/\H'=H) I r
  ⟨a,vs,rfl,by rw [hK];exact sq,by omega,by omega,by have:=JDD vs [] pre σ (by omega);simpa using this,rfl⟩
 rw [hxe] at hst
 refine thn hst fun _ s2 ⟨σ2,H2,I2,e1,e2⟩=>?_
 subst e1;subst e2
 have hlen:(vs.map some:St).length=xs.length:=by simp;omega
 generalize (vs.map some:St)=P at *
 generalize ds.map Sl.val++δ=δ1 at *
 have elt_go:∀(s3:Shared) (H3:Hp) (t:Bool),Inv X' pins (P++σ) H3 s3->Same H2 H3->evT C y δ1=.ok t ->
    (if t=true then ∃z,o=some z/\wpAny (model X'.prog X'.w) X'.A (eval elt X'.env) (fun x s₄=>∃pre' H' w,pre'.length=xs.length/\Inv X' pins (pre'++σ) H' s₄/\Same H2 H'/\RelV w x/\Den B H' z w) noE s3
      else o=none/\∃pre' H',pre'.length=xs.length/\Inv X' pins (pre'++σ) H' s3/\Same H2 H'):=by
  intro s3 H3 t I3 s23 qt
  rw [qt] at hF'
  cases t with
  | true =>
    rw [if_pos rfl]
    simp only [R.bind,if_true] at hF'
    cases qx:ev C x δ1 with
    | ok z =>
      simp only [qx] at hF'
      have eo:o=some z:=by injection hF' with h;exact h.symm
      refine ⟨z,eo,?_⟩
      have hh:=he pins s3 (P++σ) H3 (fun w H'=>Same H3 H'/\Den B H' z w) I3 ⟨_,ok1.mono s23,by rw [qx];exact fun w H' s' d'=>⟨s',d'⟩⟩
      rw [hxe] at hh
      exact thn hh fun x' s4 ⟨w,H',I4,rw4,s34,d4⟩=>⟨P,H',w,hlen,I4,s23.trans s34,rw4,d4⟩
    | exc c=>simp only [qx] at hF';cases hF'
    | bad=>simp only [qx] at hF';cases hF'
  | false =>
    rw [if_neg Bool.false_ne_true]
    simp only [R.bind,q_v,if_false] at hF'
    have eo:o=none:=by injection hF' with h;exact h.symm
    exact ⟨eo,P,H3,hlen,I3,s23⟩
 rcases hifs with ⟨e1,e2⟩ | ⟨c',e1⟩
 ·subst e1;subst e2
  exact wpAny_tests_nil (elt_go s2 H2 true I2 (Same.refl _) (by simp only [evT]))
 ·subst e1
  refine wpAny_tests_one ?_
  cases qt:evT C y δ1 with
  | ok t =>
    have hh:=hc c' rfl pins s2 (P++σ) H2 (fun t' H'=>t'=t/\Same H2 H') I2 ⟨_,ok1,by rw [qt];exact fun H' s'=>⟨rfl,s'⟩⟩
    rw [hxe] at hh
    refine thn hh fun t' s3 ⟨H3,I3,e3,s23⟩=>?_
    subst e3
    exact elt_go s3 H3 t' I3 s23 qt
  | exc c=>rw [qt] at hF';cases hF'
  | bad=>rw [qt] at hF';cases hF'
noncomputable def REF (B:Bs) (C:Cn) (XX:Nat->Hp->Prop) (x:E):TE:=fun σ H Q=>∃δ,Sok B σ H δ/\(match ev C x δ with
 | .ok d=>∀D ds xs H1,d=.list ds->Same H H1->H1 D=none->DenL B H1 ds xs->Q (.ref D) (upd H1 D (.lst xs))
 | .exc c=>XX c H
 | .bad=>False)
theorem REF.of {e:Expr} (h:PE X e (REF B C XX x)) (hl:∀δ d,ev C x δ=.ok d->∃ds,d=.list ds):PE X e (RE B C XX x) :=
 PE.imp h fun σ H Q ⟨δ,ok,k⟩=>by
  refine ⟨δ,ok,?_⟩
  cases q:ev C x δ with
  | ok d =>
   rw [q] at k
   intro D ds xs H1 e s1 hD dn
   refine k _ _ (s1.trans (JBD hD)) ?_
   subst e
   simp only [Den]
   exact ⟨D,xs,rfl,SqL.of JAH,DenL.mono (JBD hD) ds xs dn⟩
  | exc c=>rw [q] at k;exact k
  | bad=>rw [q] at k;exact k
theorem JOU (g:Gk X B C CX XX G) {es:List Expr} (h:PA X es (RA B C XX x)) (hl:cnt x<=1000):PE X (.List es pos) (REF B C XX (.lst x)) :=
 PE.imp (JIR h) fun σ H Q ⟨δ,ok,k⟩=>by
  simp only [ev] at k
  refine ⟨δ,ok,?_⟩
  cases q:evA C x δ with
  | ok ds =>
   rw [q] at k
   intro vs H1 s1 d1
   have e1:=DenL.len ds vs d1
   have e2:=JBm x δ ds q
   exact ⟨by rw [sizeLine_eq];omega,fun p hp=>k p ds vs H1 rfl s1 hp d1⟩
  | exc c=>rw [q] at k;exact k
  | bad=>rw [q] at k;exact k.elim
theorem JF4 (g:Gk X B C CX XX G) {elt iter target:Expr} {ifs:List Expr} {sc:Scope} {xs:List Str} {k:Nat} (b:BlkOk X sc xs) (hi:PI X target iter (RI B C XX z)) (hs:∀v,foldedSetIterable iter X.env v=pure v)
  (hrun:∀Cc fp s0 H0 σ δ,JB6 (JAa X sc Cc (xs++mask xs 0 X.N) fp s0 H0) B σ xs.length δ target elt ifs (itemF C k x y δ))
  {pins:List (Addr×Obj)} {s:Shared} {σ:St} {H:Hp} {Q:VK} {pos':Pos} {use:Option (Value->Sem Unit)} {Q':Value->Shared->Prop} (I:Inv X pins σ H s) (h:REF B C XX (.cmpr k x z y) σ H Q)
  (fin:∀(D Cc:Addr) (s':Shared) (m:Str->Option Value) (H':Hp),s'.heap.Ns Cc m->Inv X pins σ H' s'->Q (.ref D) H'->H' Cc=none->Cc≠X.env.locals->X.s₀.heap.objs.size<=Cc ->
    (∀x c,X.env.cells.lookup x=some c->c≠Cc)->(∀p∈X.pn++pins,p.1≠Cc)->compPost (model X.prog X.w) X.A X.xe use Q' (.ref D) Cc (.ok .next) s') :
  wpAny (model X.prog X.w) X.A (comprehension (.ListComp elt [⟨target,iter,ifs,0⟩] sc pos) sc X.env pos' (newList []) false (eval iter X.env) use) Q' X.xe s:=by
 obtain ⟨δ,ok,kk⟩:=h
 simp only [ev] at kk
 cases q:evI C z δ with
 | ok ds =>
  simp only [q,R.bind] at kk
  split at kk
  · rename_i d hd
    split at hd
    · rename_i hlen
      cases qz:JAp (itemF C k x y δ) ds with
      | ok zs =>
       have qz':=qz
       unfold itemF at qz'
       simp only [R.bind] at qz'
       rw [qz'] at hd
       have hd':PyData.list zs=d:=by injection hd
       refine JHY g b hi hs (fun Cc fp s0 H0=>hrun Cc fp s0 H0 σ δ) I ok q hlen qz ?_
       intro D Cc s' m H3 yv hn J sm hD dn h1 h2 h3 h4 h5
       exact fin D Cc s' m _ hn J (kk D zs yv H3 hd'.symm sm hD dn) h1 h2 h3 h4 h5
      | exc c=>exact (JCP qz).elim
      | bad=>unfold itemF at qz;simp only [R.bind] at qz;rw [qz] at hd;cases hd
    · cases hd
  · rename_i c hd
    exfalso
    split at hd
    · cases qz:JAp (itemF C k x y δ) ds with
      | ok zs=>unfold itemF at qz;simp only [R.bind] at qz;rw [qz] at hd;cases hd
      | exc c=>exact (JCP qz).elim
      | bad=>unfold itemF at qz;simp only [R.bind] at qz;rw [qz] at hd;cases hd
    · cases hd
  · exact kk.elim
 | exc c =>
  simp only [q,R.bind] at kk
  refine wpAny_comprehension_free rfl hs (b.clos I.ok) b.kind b.loc (wpAny_mono (hi pins s σ H (fun _ _=>False) I ⟨δ,ok,by rw [q];exact kk⟩) (fun xv s₁ h₁=>wpAny_mono h₁ (fun itv s₂ h₂=>?_) (fun _ _ e=>e)) (fun _ _ e=>e))
  obtain ⟨_,_,_,_,_,_,_,_,_,_,f⟩:=h₂
  exact f.elim
 | bad=>simp only [q,R.bind] at kk
theorem JCv (g:Gk X B C CX XX G) {elt iter target:Expr} {ifs:List Expr} {sc:Scope} {xs:List Str} {k:Nat} (b:BlkOk X sc xs) (hi:PI X target iter (RI B C XX z)) (hs:∀v,foldedSetIterable iter X.env v=pure v)
  (hrun:∀Cc fp s0 H0 σ δ,JB6 (JAa X sc Cc (xs++mask xs 0 X.N) fp s0 H0) B σ xs.length δ target elt ifs (itemF C k x y δ)) :
  PE X (.ListComp elt [⟨target,iter,ifs,0⟩] sc pos) (REF B C XX (.cmpr k x z y)):=by
 intro pins s σ H Q I h
 rw [eval_ListComp]
 refine JF4 (use:=none) g b hi hs hrun I h ?_
 intro D Cc s' m H' hn J hq h1 h2 h3 h4 h5
 refine ⟨m,hn,fun h' hsb=>?_⟩
 have J':=J.turned (h':=h') (t':=s'.toks) (it:=Cc) (fun b o hb e=>(hsb.2 b hb).trans e) h1 h2 (.inr h3) h4 h5
 exact ⟨.ref D,H',J',rfl,hq⟩
theorem JJe (g:Gk X B C CX XX G) {elt iter target:Expr} {ifs:List Expr} {sc:Scope} {xs:List Str} {k i:Nat} {nm:Str} {px spos:Pos} (b:BlkOk X sc xs) (hi:PI X target iter (RI B C XX z)) (hs:∀v,foldedSetIterable iter X.env v=pure v)
  (hrun:∀Cc fp s0 H0 σ δ,JB6 (JAa X sc Cc (xs++mask xs 0 X.N) fp s0 H0) B σ xs.length δ target elt ifs (itemF C k x y δ))
  (hsw:swapsWith (.ListComp elt [⟨target,iter,ifs,0⟩] sc pos) (some (.Name nm px)) spos.line X.env=pure true) (hnd:X.N.Nodup) (hN:X.N[i]? = some nm) (hloc:X.env.scope.names.lookup nm=some .local) :
  PS X (.Assign [.Name nm px] (.ListComp elt [⟨target,iter,ifs,0⟩] sc pos) spos) (tAsg (REF B C XX (.cmpr k x z y)) (JEa i)):=by
 intro pins s σ H D I h
 rw [exec_Assign_Name_used _ _ _ _ hsw]
 refine q_b (wpAny_standAt (q_b ?_))
 show wpAny _ _ (do let _<-comprehension (.ListComp elt [⟨target,iter,ifs,0⟩] sc pos) sc X.env _ (newList []) false (eval iter X.env) (some (assign (.Name nm px) X.env))) _ _ s
 refine q_b (wpAny_mono (JF4 (use:=some (assign (.Name nm px) X.env)) (Q':=fun _ s'=>SP X pins D .next s') g b hi hs hrun I h ?_) (fun _ s' hq=>q_e (q_e hq)) fun _ _ e=>e)
 intro Da Cc s' m H' hn J hq h1 h2 h3 h4 h5
 show wpAny _ _ (assign (.Name nm px) X.env (.ref Da)) _ _ s'
 refine wpAny_assign_Name (JEI J hnd hN (.inl hloc) (v:=.ref Da) rfl (fun s2 J2 hch=>?_) (.inr hloc))
 obtain ⟨a,sb,ha⟩:=hch
 have hne:Cc≠a:=by
  rcases ha with z | z
  · rw [z];exact h2
  · exact fun e=>h4 nm a z e.symm
 refine ⟨m,hn.sameBut sb hne,fun h' hsb=>?_⟩
 exact ⟨_,H',J2.turned (h':=h') (t':=s2.toks) (it:=Cc) (fun b o hb e=>(hsb.2 b hb).trans e) h1 h2 (.inr h3) h4 h5,hq⟩
end
theorem JLX {X:Cx} {sc:Scope} {xs:List Str} {names:List (Str×NameKind)} {N:List Str} (hk:X.env.scope.kind=.function) (hn:X.env.scope.names=names) (hN:X.N=N) (hs:sc.kind=.function) (h:JB9 names sc.names xs N=true):BlkOk X sc xs:=by
 subst hn;subst hN
 unfold JB9 at h
 simp only [q_i,List.all_eq_true] at h
 obtain ⟨⟨⟨⟨h1,h2⟩,h3⟩,h4⟩,h5⟩:=h
 refine ⟨hs,fun y hy=>?_,fun y hy hl=>?_,fun n hm=>?_,fun x hx=>?_,fun y hy hx=>?_,fun i hi hv=>?_,of_decide_eq_true h5⟩
 ·have:=(h1 y hy).1.1
  intro e;rw [e] at this;simp at this
 ·have:=(h1 y hy).1.2
  rw [hl] at this
  simpa using this
 ·have:=(h1 (n,.free) hm).2
  simpa [PySem.Env.kindOf] using this
 ·simpa using h2 x hx
 ·have:=h3 y hy
  simp only [Bool.or_eq_true,bne_iff_ne,ne_eq] at this
  rcases this with e | e
  ·exact absurd (by simpa using e) hx
  ·exact e
 ·have:=h4 i (List.mem_range.mpr hi)
  unfold Vis at hv
  rw [JAT hk] at hv
  rcases hv with e | e | e<;>(rw [e] at this;simp [vis] at this)
section
variable {X:Cx} {B:Bs} {C:Cn} {CX:CXT} {XX:Nat->Hp->Prop} {G:List (Str×GK)} {pos p:Pos} {names:List (Str×NameKind)} {N:List Str} {n:Nat}
theorem allA (g:Gk X B C CX XX G) (ih:∀e x,JAL G n false names N e=some x->PE X e (RE B C XX x)):∀ {es:List Expr} {x:E},JAJ (JAL G n false names N) es=some x->PA X es (RA B C XX x)
 | [],x,h=>by unfold JAJ at h;cases h;exact JNS
 | e::es,x,h=>by
  unfold JAJ at h
  obtain ⟨a,h1,h⟩:=q_a.mp h
  obtain ⟨b,h2,h⟩:=q_a.mp h
  cases h
  exact JGH g (ih e a h1) (allA g ih h2) (JAU h1 es X.env)
theorem JKv (g:Gk X B C CX XX G) (ih:∀e x,JAL G n false names N e=some x->PE X e (RE B C XX x)/\PT X e (RT B C XX x)):∀ {es:List Expr} {x:E},JAw .and (JAL G n false names N) es=some x ->
  PE X (.BoolOp .And es pos) (RE B C XX x)/\PW X (.BoolOp .And es pos) (RT B C XX x)
 | [],x,h=>by unfold JAw at h;cases h
 | [e],x,h=>by
  unfold JAw at h
  exact ⟨JLg (ih e x h).1,JNd (ih e x h).2⟩
 | e::e'::es,x,h=>by
  unfold JAw at h
  obtain ⟨a,h1,h⟩:=q_a.mp h
  obtain ⟨b,h2,h⟩:=q_a.mp h
  cases h
  obtain ⟨q1,q2⟩:=JKv g ih h2
  exact ⟨s_and g (ih e a h1).1 q1,w_and g (ih e a h1).2 q2⟩
theorem JOE (g:Gk X B C CX XX G) (ih:∀e x,JAL G n false names N e=some x->PE X e (RE B C XX x)/\PT X e (RT B C XX x)):∀ {es:List Expr} {x:E},JAw .or (JAL G n false names N) es=some x ->
  PE X (.BoolOp .Or es pos) (RE B C XX x)/\PW X (.BoolOp .Or es pos) (RT B C XX x)
 | [],x,h=>by unfold JAw at h;cases h
 | [e],x,h=>by
  unfold JAw at h
  exact ⟨JLg (ih e x h).1,JOs (ih e x h).2⟩
 | e::e'::es,x,h=>by
  unfold JAw at h
  obtain ⟨a,h1,h⟩:=q_a.mp h
  obtain ⟨b,h2,h⟩:=q_a.mp h
  cases h
  obtain ⟨q1,q2⟩:=JOE g ih h2
  exact ⟨s_or g (ih e a h1).1 q1,w_or g (ih e a h1).2 q2⟩
theorem JA5 {x:Str} {k:GK} (h:glob G names x=some k):JAS x=false/\names.lookup x=some .globalImplicit/\G.lookup x=some k:=by
 unfold glob at h
 split at h
 ·cases h
 ·rename_i hb
  split at h
  ·rename_i hg
   exact ⟨by simpa using hb,hg,h⟩
  ·cases h
theorem JEc {x:Str} (hn:X.env.scope.names=names) (h:vis (names.lookup x)=true):Vis X.env.scope x:=by
 unfold Vis
 rw [hn]
 cases q:names.lookup x with
 | none=>rw [q] at h;cases h
 | some k=>cases k<;>simp_all [vis]
theorem JB4 {x:Str} (hn:X.env.scope.names=names) (h:names.lookup x=some .globalImplicit):Gl X x:=by
 show X.env.scope.names.lookup x=_
 rw [hn];exact h
theorem JKD {op:CmpOp} {d d' r:D} (h:cmpD op d d'=.ok r):∃k,r=.bool k:=by
 cases op<;>simp only [cmpD] at h<;>(repeat' split at h)<;>first | (cases h;exact ⟨_,rfl⟩) | cases h
theorem JFL {op:CmpOp} {x y:E} {δ:Env} {d:D} (h:ev C (.cmp op x y) δ=.ok d):∃k,d=.bool k:=by
 simp only [ev] at h
 cases q:ev C x δ with
 | ok dx =>
  cases q2:ev C y δ with
  | ok dy=>rw [q,q2] at h;exact JKD h
  | exc c=>rw [q,q2] at h;cases h
  | bad=>rw [q,q2] at h;cases h
 | exc c=>rw [q] at h;cases h
 | bad=>rw [q] at h;cases h
end
end VI
end
section
namespace VI
open PySem PySem.Spec PyProof.Rows L2
section
variable {X:Cx} {B:Bs} {C:Cn} {CX:CXT} {XX:Nat->Hp->Prop} {G:List (Str×GK)} {a b c:Expr} {x y z:E} {pos p:Pos}
theorem JQl (n d:Nat) (o:Option Int):sI n d o=HT.sIx n d o:=by cases o<;>rfl
theorem JDo {e:Option Expr} {o:Option Int} (h:JCt e=some o):∃t,PO X e t/\∀σ H Q,Q o H->t σ H Q:=by
 unfold JCt at h
 split at h
 ·cases h;exact ⟨_,JNF,fun σ H Q q=>q⟩
 ·cases h;exact ⟨_,JIs JE3,fun σ H Q q=>⟨_,rfl,q⟩⟩
 ·cases h;exact ⟨_,JIs (JPG JL2 JE3),fun σ H Q q=>⟨_,rfl,_,rfl,q⟩⟩
 ·cases h
theorem DenL.drop {H:Hp}:∀(n:Nat) (ds:List D) (vs:List V),DenL B H ds vs->DenL B H (ds.drop n) (vs.drop n)
 | 0,ds,vs,h=>h
 | n+1,[],vs,h=>by simp only [DenL] at h;subst h;simp only [List.drop_nil,DenL]
 | n+1,d::ds,vs,h=>by
  simp only [DenL] at h
  obtain ⟨v,r,e,q,l⟩:=h
  subst e
  exact DenL.drop n ds r l
theorem DenL.take {H:Hp}:∀(n:Nat) (ds:List D) (vs:List V),DenL B H ds vs->DenL B H (ds.take n) (vs.take n)
 | 0,ds,vs,h=>by simp only [List.take_zero,DenL]
 | n+1,[],vs,h=>by simp only [DenL] at h;subst h;simp only [List.take_nil,DenL]
 | n+1,d::ds,vs,h=>by
  simp only [DenL] at h
  obtain ⟨v,r,e,q,l⟩:=h
  subst e
  simp only [List.take_succ_cons,DenL]
  exact ⟨v,_,rfl,q,DenL.take n ds r l⟩
theorem DenL.cut {H:Hp} {ds:List D} {vs:List V} (h:DenL B H ds vs) (lo hi:Option Int):DenL B H (cutD ds lo hi) (cutV vs lo hi):=by
 unfold cutD cutV
 have e:=DenL.len _ _ h
 simp only [JQl,e]
 exact DenL.take _ _ _ (DenL.drop _ _ _ h)
theorem JIX {xs:List D} {lo hi:Option Int} (h:HT.sIx xs.length 0 lo=0/\HT.sIx xs.length xs.length hi=xs.length):cutD xs lo hi=xs:=by
 unfold cutD
 simp only [JQl,h.1,h.2]
 simp
theorem JBb {H:Hp} {q:Addr} {o:HO} (h:H q=none):Same H (upd H q o):=fun b u e=>by rw [JAG (JAW e h)];exact e
theorem JI1:∀ {vs:List V} {us:List Value},Vals vs us->Vals vs.reverse us.reverse
 | [],us,h=>by cases h;exact .nil
 | v::vs,us,h=>by
  cases h with
  | cons r1 r2 =>
   simp only [List.reverse_cons]
   exact (JI1 r2).append (.cons r1 .nil)
theorem JHf {H:Hp}:∀(ds:List D) (vs:List V),DenL B H ds vs->DenL B H ds.reverse vs.reverse
 | [],vs,h=>by simp only [DenL] at h;subst h;simp only [List.reverse_nil,DenL]
 | d::ds,vs,h=>by
  simp only [DenL] at h
  obtain ⟨v,r,e,q,l⟩:=h
  subst e
  simp only [List.reverse_cons]
  refine DenL.append _ _ _ _ (JHf ds r l) ?_
  simp only [DenL]
  exact ⟨v,[],rfl,q,rfl⟩
theorem JDx (its:List Value):slicePick its.toArray none none (some (-1))=its.reverse.toArray:=by
 have hr:sliceRange ((its.length:Int) - 1) (-1) (-1)=(List.range its.length).reverse:=by
  unfold sliceRange
  have hc:(if (-1:Int) > 0 then (if (its.length:Int) - 1 < -1 then (-1 - ((its.length:Int) - 1) + -1 - 1) / -1 else 0) else (if (its.length:Int) - 1 > -1 then ((its.length:Int) - 1 - -1 - -1 - 1) / (-(-1)) else 0)).toNat=its.length:=by
   rw [if_neg (by decide)]
   by_cases h:(its.length:Int) - 1 > -1
   ·rw [if_pos h]
    simp
   ·rw [if_neg h]
    omega
  simp only [hc]
  refine List.ext_getElem (by simp) fun i h1 h2=>?_
  simp at h1
  simp [List.getElem_reverse]
  omega
 have hp:=pick_run its.toArray 0 its.length
 simp only [Nat.zero_add,List.map_id',List.drop_zero,List.take_length] at hp
 unfold slicePick
 have hb:sliceBounds none none (some (-1)) its.toArray.size=((its.length:Int) - 1, -1, -1):=by
  simp [sliceBounds]
 rw [hb]
 simp only
 rw [hr,List.filterMap_reverse,hp]
theorem s_rev (g:Gk X B C CX XX G) {i:Expr} (hs:JNa i=true) (ha:PE X a (RE B C XX x)):PE X (.Subscript a i pos) (RE B C XX (.fn1 .rev x)):=by
 unfold JNa at hs
 split at hs
 ·rename_i j p1 p2 p3
  intro pins s σ H Q I ⟨δ,ok,k⟩
  simp only [ev] at k
  refine Subscript_ (thn (ha pins s σ H (fun v H1=>∃q us ds,v=.ref q/\SqL X.K H1 q us/\Same H H1/\DenL B H1 ds us/\KE B XX (.ok (.list ds.reverse)) H1 Q) I ?_) fun v s1 ⟨x1,H1,I1,r1,q,us,ds,e1,sq,sm,dn,k1⟩=>?_)
  ·refine RE.of (W:=fun r H=>KE B XX r H Q) ok (fun _ _ z=>z) (fun _ z=>z) k fun d v H1 s1 d1 h1=>?_
   cases d<;>first | exact False.elim h1 | skip
   simp only [Den] at d1
   obtain ⟨q,us,e1,sq,l⟩:=d1
   exact ⟨q,us,_,e1,g.K▸sq,s1,l,KE.mono g s1 h1⟩
  ·subst e1
   cases r1
   obtain ⟨its,rv,pl,hz⟩:=I1.list sq
   obtain ⟨ts,ps,qs⟩:=JDo (X:=X) (show JCt (some (.UnaryOp .USub (.Constant (.int 1) j p1) p2))=some (some (-1)) from rfl)
   refine wpAny_Slice ?_
   rw [evalPart_none]
   refine q_e ?_
   refine q_e ?_
   refine thn (ps pins s1 σ H1 (fun st H2=>st=some (-1)/\H2=H1) I1 (qs _ _ _ ⟨rfl,rfl⟩)) fun vst s2 ⟨st,H2,I2,pst,e2,e3⟩=>?_
   subst e2;subst e3
   have I3:Inv X pins σ H2 { s2 with heap:=s2.heap.push { cls:=.type "slice",data:=.fields #[Value.none,Value.none,vst] } }:=I2.kept (t':=s2.toks) fun b ob q=>q_c _ q
   obtain ⟨its2,rv2,pl2,hz2⟩:=I3.list sq
   have hl:=rv2.length
   refine tail_any (ops:=[.ref q,.ref s2.heap.objs.size]) (T:="list") pl2.isList.typeIs list_getitem_lookup ?_ (by with_unfolding_all rfl)
   refine wpAny_getItem_list_slice (lo:=none) (hi:=none) (st:=some (-1)) pl2.isList (Heap.IsSliceOf.new ..) .none .none pst (by decide) ?_ (by rw [q_f,<-hl];exact hz2)
   rw [JDx]
   refine ⟨.ref _,_,I3.lnew (t':=s2.toks) (JI1 rv2) (by rw [List.length_reverse];exact hz2),rfl,?_⟩
   have hf:=I3.fresh
   have sm2:Same H2 (upd H2 (s2.heap.push { cls:=.type "slice",data:=.fields #[Value.none,Value.none,vst] }).objs.size (.lst us.reverse)):=JBb hf
   refine k1 _ _ sm2 ?_
   simp only [Den]
   exact ⟨_,_,rfl,SqL.of JAH,DenL.mono sm2 _ _ (JHf _ _ dn)⟩
 ·cases hs
theorem JNE (g:Gk X B C CX XX G) {i:Expr} {lo hi:Option Int} (hs:sliceOf i=some (lo,hi)) (ha:PE X a (RE B C XX x)):PE X (.Subscript a i pos) (RE B C XX (.fn1 (.slice lo hi) x)):=by
 unfold sliceOf at hs
 split at hs
 ·rename_i l h p2
  obtain ⟨l',h1,hs⟩:=q_a.mp hs
  obtain ⟨h',h2,hs⟩:=q_a.mp hs
  cases hs
  obtain ⟨tl,pl,ql⟩:=JDo (X:=X) h1
  obtain ⟨th,ph,qh⟩:=JDo (X:=X) h2
  refine PE.imp (JKO (SlR.or (SlR.or JPq JL7) JMO) ha pl ph) fun σ H Q ⟨δ,ok,k⟩=>?_
  simp only [ev] at k
  refine RE.of (W:=fun r H=>KE B XX r H Q) ok (fun _ _ z=>z) (fun _ z=>z) k fun d v H1 s1 d1 h1=>?_
  refine ql _ _ _ (qh _ _ _ ?_)
  have h1:=KE.mono g s1 h1
  cases d<;>first | exact False.elim h1 | skip
  ·rename_i ds
   simp only [Den] at d1
   obtain ⟨q,vs,e,sq,l⟩:=d1
   refine .inr ⟨q,vs,e,g.K▸sq,fun p' hp=>?_⟩
   have sm:Same H1 (upd H1 p' (.lst (cutV vs lo hi))):=JBb hp
   refine h1 _ _ sm ?_
   simp only [Den]
   exact ⟨p',_,rfl,SqL.of JAH,DenL.mono sm _ _ (DenL.cut l lo hi)⟩
  ·rename_i ds
   simp only [Den] at d1
   obtain ⟨q,vs,e,sq,l⟩:=d1
   have el:=DenL.len _ _ l
   by_cases hw:HT.sIx vs.length 0 lo=0/\HT.sIx vs.length vs.length hi=vs.length
   ·refine .inl (.inr ⟨q,vs,e,g.K▸sq,hw,?_⟩)
    refine h1 _ _ (Same.refl H1) ?_
    rw [JIX (by rw [el];exact hw)]
    subst e
    simp only [Den]
    exact ⟨q,vs,rfl,sq,l⟩
   ·refine .inl (.inl ⟨q,vs,e,g.K▸sq,hw,fun p' hp=>?_⟩)
    have sm:Same H1 (upd H1 p' (.tup (cutV vs lo hi))):=JBb hp
    refine h1 _ _ sm ?_
    simp only [Den]
    exact ⟨p',_,rfl,SqT.of JAH,DenL.mono sm _ _ (DenL.cut l lo hi)⟩
 ·cases hs
theorem JQu (g:Gk X B C CX XX G) {f:Str} {ty:Ty} {o:O1} (ho:o1Of ty=some o) (hf:JA9 ty=some f) (hg:Gl X f) (hl:G.lookup f=some (.ty ty)) (hb:JAS f=false) (ha:PE X a (RE B C XX x))
  (he:starEach [a] X.env=[(false,eval a X.env)]):PE X (.Call (.Name f p) [a] [] pos) (RE B C XX (.fn1 o x)):=by
 have key:∀ {T:String} {r:List V->Hp->VK->Prop},CallR X (.type T) r->bootBuiltins f=some (.type T) ->
    (∀d v H Q,Den B H d v->KE B XX (op1D o d) H Q->r [v] H Q)->PE X (.Call (.Name f p) [a] [] pos) (RE B C XX (.fn1 o x)):=fun {T r} hc hv hr=>by
  refine PE.imp (JEf (es:=[]) hc hg (g.ty f ty hl) hv (JBL ha JCK he) (JAD hb).2.2 (JAD hb).1 he rfl) fun σ H Q ⟨δ,ok,k⟩=>?_
  simp only [ev] at k
  refine RE.of (W:=fun r H=>KE B XX r H Q) ok (fun _ _ z=>z) (fun _ z=>z) k fun d v H1 s1 d1 h1=>?_
  exact hr d v H1 Q d1 (KE.mono g s1 h1)
 cases ty<;>simp only [o1Of,q_j,reduceCtorEq] at ho
 ·subst ho
  simp only [JA9,q_j] at hf
  subst hf
  refine key JE0 (by decide +kernel) fun d v H Q dn k=>?_
  cases d<;>first | exact False.elim k | skip
  · simp only [Den] at dn
    obtain ⟨q,vs,e,sq,l⟩:=dn
    subst e
    refine ⟨q,vs,rfl,.inl (g.K▸sq),fun p' hp=>?_⟩
    have sm:Same H (upd H p' (.lst vs)):=JBb hp
    refine k _ _ sm ?_
    simp only [Den]
    exact ⟨p',_,rfl,SqL.of JAH,DenL.mono sm _ _ l⟩
  · simp only [Den] at dn
    obtain ⟨q,vs,e,sq,l⟩:=dn
    subst e
    refine ⟨q,vs,rfl,.inr (g.K▸sq),fun p' hp=>?_⟩
    have sm:Same H (upd H p' (.lst vs)):=JBb hp
    refine k _ _ sm ?_
    simp only [Den]
    exact ⟨p',_,rfl,SqL.of JAH,DenL.mono sm _ _ l⟩
 ·subst ho
  simp only [JA9,q_j] at hf
  subst hf
  refine key JD0 (by decide +kernel) fun d v H Q dn k=>?_
  cases d<;>first | exact False.elim k | skip
  · simp only [Den] at dn
    obtain ⟨q,vs,e,sq,l⟩:=dn
    subst e
    refine ⟨q,vs,rfl,.inl ⟨g.K▸sq,fun p' hp=>?_⟩⟩
    have sm:Same H (upd H p' (.tup vs)):=JBb hp
    refine k _ _ sm ?_
    simp only [Den]
    exact ⟨p',_,rfl,SqT.of JAH,DenL.mono sm _ _ l⟩
  · have dn':=dn
    simp only [Den] at dn
    obtain ⟨q,vs,e,sq,l⟩:=dn
    subst e
    exact ⟨q,vs,rfl,.inr ⟨g.K▸sq,KE.ok k dn'⟩⟩
theorem s_pow {i j:Nat} {u v:Int} {p1 p2:Pos} (h0:0<=u) (h1:u<=100) (h2:0<=v) (h3:v<=20):PE X (.BinOp (.Constant (.int u) i p1) .Pow (.Constant (.int v) j p2) pos) (RE B C XX (.cint (u ^ v.toNat))) :=
 PE.imp (JPC JOi JE3 JE3) fun σ H Q ⟨δ,ok,k⟩=>by
  simp only [ev] at k
  exact ⟨u,v,rfl,rfl,⟨h2,by omega,by omega⟩,KE.ok k (by simp only [Den])⟩
theorem JHP:OpR X (compareOp .IsNot) (fun v u H Q=>∃c d,v=.bl c/\u=.bl d/\Q (.bl (!(c==d))) H):=by
 intro pins s σ H v u w t Q I rx ry ⟨c,d,e1,e2,q⟩
 subst e1;subst e2
 cases rx;cases ry
 exact isnot_bool ⟨.bl _,H,I,rfl,q⟩
theorem JOO (g:Gk X B C CX XX G) {j:Nat} {pos':Pos} {k:Bool} (ha:PE X a (RE B C XX x)):PE X (.Compare a [.IsNot] [.Constant (.bool k) j pos'] pos) (RE B C XX (.isnB x k)) :=
 PE.imp (JFk JHP ha JIM rfl) fun σ H Q ⟨δ,ok,kk⟩=>by
  simp only [ev] at kk
  refine RE.of (W:=fun r H=>KE B XX r H Q) ok (fun _ _ z=>z) (fun _ z=>z) kk fun d v H1 s1 d1 h1=>?_
  cases d<;>first | exact False.elim h1 | skip
  rename_i t
  simp only [Den] at d1
  exact ⟨t,k,d1,rfl,KE.ok (KE.mono g s1 h1) (by simp only [Den])⟩
theorem JGV (g:Gk X B C CX XX G) {j:Nat} {pos':Pos} {k:Bool} (ha:PE X a (RE B C XX x)):PT X (.Compare a [.IsNot] [.Constant (.bool k) j pos'] pos) (RT B C XX (.isnB x k)) :=
 PT.imp (JFZ JHP ha JIM rfl) fun σ H Q ⟨δ,ok,kk⟩=>by
  simp only [evT] at kk
  refine RE.of (W:=fun r H=>KB XX r H Q) ok (fun _ _ z=>z) (fun _ z=>z) kk fun d v H1 s1 d1 h1=>?_
  cases d<;>first | exact False.elim h1 | skip
  rename_i t
  simp only [Den] at d1
  exact ⟨t,k,d1,rfl,!(t==k),rfl,h1 H1 s1⟩
theorem JDf:∀ {ys:List D} {d:D},allD ys=.ok d->∃bs:List Bool,ys=bs.map PyData.bool/\d=.bool (bs.all id)
 | [],d,h=>by simp only [allD] at h;cases h;exact ⟨[],rfl,rfl⟩
 | y::r,d,h=>by
  cases y<;>simp only [allD,reduceCtorEq] at h
  rename_i b
  split at h
  ·rename_i c e
   cases h
   obtain ⟨bs,h1,h2⟩:=JDf e
   refine ⟨b::bs,by rw [h1];rfl,?_⟩
   simp only [PyData.bool.injEq] at h2
   simp only [List.all_cons,id,h2]
  ·cases h
theorem JJ0:∀ {ys:List D} {c:Nat},allD ys≠.exc c
 | [],c=>by simp only [allD];intro h;cases h
 | y::r,c=>by
  cases y<;>simp only [allD]<;>first | (intro h;cases h;done) | skip
  split<;>(intro h;cases h)
theorem JDO {H:Hp}:∀ {bs:List Bool} {vs:List V},DenL B H (bs.map PyData.bool) vs->vs=bs.map V.bl
 | [],vs,h=>by simpa only [List.map_nil,DenL] using h
 | b::bs,vs,h=>by
  simp only [List.map_cons,DenL,Den] at h
  obtain ⟨v,r,e,q,l⟩:=h
  subst e;subst q
  rw [JDO l];rfl
theorem JDb:∀ {bs:List Bool} {us:List Value},Vals (bs.map V.bl) us->us=bs.map Value.bool
 | [],us,h=>by cases h;rfl
 | b::bs,us,h=>by
  cases h with
  | cons r1 r2 =>
   cases r1
   rw [JDb r2];rfl
theorem all_range (bs:List Bool):((List.range bs.length).all fun i=>bs.getD i false)=bs.all id:=by
 rw [Bool.eq_iff_iff]
 simp only [List.all_eq_true,List.mem_range,id]
 constructor
 ·intro h b hb
  obtain ⟨i,hi,e⟩:=List.getElem_of_mem hb
  have:=h i hi
  rw [List.getD_eq_getElem?_getD,q_q hi] at this
  simpa [e] using this
 ·intro h i hi
  rw [List.getD_eq_getElem?_getD,q_q hi]
  exact h _ (List.getElem_mem hi)
theorem JHb (g:Gk X B C CX XX G):CallR X (.builtin "all") (fun vs H Q=>∃ds,DenL B H ds vs/\KE B XX (bltD .all ds) H Q):=by
 intro pins s σ H vs us Q I r ⟨ds,dn,k⟩
 match ds,dn,k with
 | [.list ys],dn,k =>
  simp only [DenL,Den] at dn
  obtain ⟨v,r1,e,⟨a,xs,e1,hq,dl⟩,e2⟩:=dn
  subst e2;subst e1;subst e
  cases r with
  | cons ra rb =>
   cases rb
   cases ra
   rw [<-g.K] at hq
   obtain ⟨its,rv,p,hz⟩:=I.list hq
   simp only [bltD] at k
   cases hk:allD ys with
   | ok d =>
    rw [hk] at k
    obtain ⟨bs,e1,e2⟩:=JDf hk
    subst e1;subst e2
    have e3:=JDO dl
    subst e3
    have e4:=JDb rv
    subst e4
    have hA:X.A.handled=none:=I.ok.hd g.calm
    have hlt:a<s.heap.objs.size:=by
     obtain ⟨o,n,ho,_⟩:=p
     exact q_h ho
    refine call_all_walk (wpAny_pyIter_list p.isList ?_)
    have hne:a≠s.heap.objs.size:=q_l hlt
    refine ⟨s.heap.objs.size,_,_,_,_,_,(fun i=>bs.getD i false),rfl,Walks.list (prog:=X.prog) (w:=X.w) (A:=X.A.in1) hA s.heap.objs.size a hne (bs.map Value.bool).toArray,?_,?_,?_⟩
    ·exact ⟨⟨_,q_k _ rfl,rfl,rfl⟩,p.isList.at fun o e=>q_c _ e⟩
    ·intro i v s' Q' E' hP hQ
     simp only [List.getElem?_toArray,List.getElem?_map] at hP
     obtain ⟨b,hb,rfl⟩:=q_d.mp hP
     refine wpAny_truthy_bool ?_
     have hQ:Q' (bs.getD i false) s':=hQ
     rw [List.getD_eq_getElem?_getD,hb] at hQ
     exact hQ
    ·intro h' tk hk'
     refine ⟨.bl _,H,I.kept fun b o e=>hk' b o ?_ (q_c _ e),rfl,?_⟩
     ·simp only [List.mem_singleton]
      exact q_l (q_h e)
     ·have:((List.range (bs.map Value.bool).toArray.size).all fun i=>bs.getD i false)=bs.all id:=by
       rw [q_f,q_g];exact all_range bs
      rw [this]
      exact KE.ok k (by simp only [Den])
   | exc c=>exact (JJ0 hk).elim
   | bad=>rw [hk] at k;exact k.elim
 | [],_,k=>exact False.elim k
 | [.none],_,k=>exact False.elim k
 | [.bool _],_,k=>exact False.elim k
 | [.int _],_,k=>exact False.elim k
 | [.str _],_,k=>exact False.elim k
 | [.tuple _],_,k=>exact False.elim k
 | [.dict _],_,k=>exact False.elim k
 | d1::d2::r,_,k=>cases d1<;>exact False.elim k
end
end VI
end
section
namespace VI
open PySem PySem.Spec PyProof.Rows L2
section
variable {X:Cx} {B:Bs} {C:Cn} {CX:CXT} {XX:Nat->Hp->Prop} {G:List (Str×GK)} {a b c tg:Expr} {x y z:E} {pos p:Pos}
theorem JJx (g:Gk X B C CX XX G) {j:Nat} {pos':Pos} (ha:PE X a (RE B C XX x)):PT X (.Compare a [.Is] [.Constant .none j pos'] pos) (RT B C XX (.isN x false)) :=
 PT.imp (JLM (JLL ha)) fun σ H Q ⟨δ,ok,k⟩=>by
  simp only [evT] at k
  refine RE.of (W:=fun r H=>KB XX r H Q) ok (fun _ _ z=>z) (fun _ z=>z) k fun d v H1 s1 d1 h1=>?_
  exact ⟨isNone d,by rw [JCp d1],by simpa using h1 H1 s1⟩
theorem JM0 (g:Gk X B C CX XX G) {j:Nat} {pos':Pos} (ha:PE X a (RE B C XX x)):PT X (.Compare a [.IsNot] [.Constant .none j pos'] pos) (RT B C XX (.isN x true)) :=
 PT.imp (JLM (JHO ha)) fun σ H Q ⟨δ,ok,k⟩=>by
  simp only [evT] at k
  refine RE.of (W:=fun r H=>KB XX r H Q) ok (fun _ _ z=>z) (fun _ z=>z) k fun d v H1 s1 d1 h1=>?_
  exact ⟨!isNone d,by rw [JCp d1],by simpa using h1 H1 s1⟩
theorem JJ2 (g:Gk X B C CX XX G) {j:Nat} {pos':Pos} {k:Bool} (ha:PE X a (RE B C XX x)):PT X (.Compare a [.Is] [.Constant (.bool k) j pos'] pos) (RT B C XX (.isB x k)) :=
 PT.imp (JFZ JLp ha JIM rfl) fun σ H Q ⟨δ,ok,kk⟩=>by
  simp only [evT] at kk
  refine RE.of (W:=fun r H=>KB XX r H Q) ok (fun _ _ z=>z) (fun _ z=>z) kk fun d v H1 s1 d1 h1=>?_
  cases d<;>first | exact False.elim h1 | skip
  rename_i t
  simp only [Den] at d1
  exact ⟨t,k,d1,rfl,t==k,rfl,h1 H1 s1⟩
end
theorem JCR {C:Cn} {k:Nat} {x y z:E} (δ:Env) (d:D) (h:ev C (.cmpr k x z y) δ=.ok d):∃ds,d=.list ds:=by
 simp only [ev] at h
 cases q:evI C z δ with
 | ok xs =>
  simp only [q,R.bind] at h
  split at h
  ·cases qz:JAp (itemF C k x y δ) xs with
   | ok zs=>unfold itemF at qz;simp only [R.bind] at qz;rw [qz] at h;cases h;exact ⟨zs,rfl⟩
   | exc c=>exact (JCP qz).elim
   | bad=>unfold itemF at qz;simp only [R.bind] at qz;rw [qz] at h;cases h
  ·cases h
 | exc c=>simp only [q,R.bind] at h;cases h
 | bad=>simp only [q,R.bind] at h;cases h
theorem JGq {a b:Expr} {op:Operator} {es:List Expr} {k:Nat} (h:JNL a op b=some (es,k)):∃p kk j p2,a=.List es p/\op=.Mult/\b=.Constant (.int kk) j p2/\k=kk.toNat/\0<=kk/\kk<=1000/\es.length<=1000:=by
 unfold JNL at h
 split at h
 ·split at h
  ·rename_i hc
   cases h
   exact ⟨_,_,_,_,rfl,rfl,rfl,rfl,hc.1,hc.2.1,hc.2.2⟩
  ·cases h
 ·cases h
theorem JG4 {a b:Expr} {op:Operator} {u v:Int} (h:JMM a op b=some (u,v)):∃i p j p2,a=.Constant (.int u) i p/\op=.Pow/\b=.Constant (.int v) j p2/\0<=u/\u<=100/\0<=v/\v<=20:=by
 unfold JMM at h
 split at h
 ·split at h
  ·rename_i hc
   cases h
   exact ⟨_,_,_,_,rfl,rfl,rfl,hc.1,hc.2.1,hc.2.2.1,hc.2.2.2⟩
  ·cases h
 ·cases h
section
variable {B:Bs} {C:Cn} {CX:CXT} {G:List (Str×GK)}
structure XOk (B:Bs) (C:Cn) (CX:CXT) (G:List (Str×GK)) (k:XO):Prop where
 val:∀(X:Cx) (XX:Nat->Hp->Prop),Gk X B C CX XX G->∀(e:Expr) (args:List Expr) (y:E),xRaw G X.env.scope.names false e=some (k,args)->PA X args (RA B C XX y)->(∀a∈args,∀es env,starEach (a::es) env=(false,eval a env)::starEach es env)->cnt y=args.length->PE X e (RE B C XX (.xop k y))
 itr:∀(X:Cx) (XX:Nat->Hp->Prop),Gk X B C CX XX G->∀(tg e:Expr) (args:List Expr) (y:E),xRaw G X.env.scope.names true e=some (k,args)->PA X args (RA B C XX y)->(∀a∈args,∀es env,starEach (a::es) env=(false,eval a env)::starEach es env)->cnt y=args.length->PI X tg e (RI B C XX (.xop k y))
 tgt:∀(X:Cx) (XX:Nat->Hp->Prop),Gk X B C CX XX G->∀(ts:List Expr) (kt:Nat) (pt:Pos) (e:Expr) (args:List Expr) (y:E),xTgt G X.env.scope.names e=some (k,args)->PA X args (RA B C XX y)->(∀a∈args,∀es env,starEach (a::es) env=(false,eval a env)::starEach es env)->cnt y=args.length->PI X (.Tuple ts kt pt) e (RI B C XX (.xop k y))
structure Rare (B:Bs) (C:Cn) (CX:CXT) (G:List (Str×GK)):Prop where
 nox:∀outer H s e s',¬CX outer H s (EX B fun _ _=>False) e s'
 isi:∀(X:Cx) (XX:Nat->Hp->Prop),Gk X B C CX XX G->∀(a:Expr) (x:E) (t:Str) (ty:Ty) (p pt pos:Pos),Gl X "isinstance"->Gl X t->G.lookup ("isinstance":Str)=some GK.isi->(G.lookup t=some (.ty ty)/\JA9 ty=some t\/∃c,ty=.own c/\G.lookup t=some (.cls c))->JAS t=false ->
  PE X a (RE B C XX x)->starEach [a,.Name t pt] X.env=(false,eval a X.env)::starEach [.Name t pt] X.env->PE X (.Call (.Name "isinstance" p) [a,.Name t pt] [] pos) (RE B C XX (.isi x ty))
 count:∀(X:Cx) (XX:Nat->Hp->Prop),Gk X B C CX XX G->∀(o a:Expr) (x y:E) (ap cp:Pos),JBM o=false->(ap.endLine==cp.line)=true->PE X o (RE B C XX x)->PE X a (RE B C XX y)->starEach [a] X.env=[(false,eval a X.env)] ->
  PE X (.Call (.Attribute o "count" ap) [a] [] cp) (RE B C XX (.mcount x y))
 index:∀(X:Cx) (XX:Nat->Hp->Prop),Gk X B C CX XX G->∀(o a:Expr) (x y:E) (ap cp:Pos),JBM o=false->(ap.endLine==cp.line)=true->PE X o (RE B C XX x)->PE X a (RE B C XX y)->starEach [a] X.env=[(false,eval a X.env)] ->
  PE X (.Call (.Attribute o "index" ap) [a] [] cp) (RE B C XX (.mindex x y))
 get:∀(X:Cx) (XX:Nat->Hp->Prop),Gk X B C CX XX G->∀(o a b:Expr) (x y z:E) (ap cp:Pos),JBM o=false->(ap.endLine==cp.line)=true->PE X o (RE B C XX x)->PE X a (RE B C XX y)->PE X b (RE B C XX z) ->
  starEach [a,b] X.env=[(false,eval a X.env),(false,eval b X.env)]->starEach [b] X.env=[(false,eval b X.env)]->PE X (.Call (.Attribute o "get" ap) [a,b] [] cp) (RE B C XX (.mget x y z))
 min:G.lookup ("min":Str)=some (.blt .min)->∀(X:Cx) (XX:Nat->Hp->Prop),Gk X B C CX XX G->CallR X (.builtin "min") (fun vs H Q=>∃ds,DenL B H ds vs/\KE B XX (bltD .min ds) H Q)
 dct:G.lookup (".dct":Str)=some GK.opt->∀(X:Cx) (XX:Nat->Hp->Prop),Gk X B C CX XX G->∀(n:Nat) (names:List (Str×NameKind)) (N:List Str) (ks:List (Option Expr)) (vs:List Expr) (xs:List Str) (x:E) (pos:Pos),(∀e x,JAL G n false names N e=some x->PE X e (RE B C XX x)) ->
  strKeys ks=some xs->1<=xs.length->xs.length<=15->xs.length=vs.length->xs.Nodup->JAJ (JAL G n false names N) vs=some x->PE X (.Dict ks vs pos) (RE B C XX (.dct xs x))
 rep:G.lookup (".rep":Str)=some GK.opt->∀(X:Cx) (XX:Nat->Hp->Prop),Gk X B C CX XX G->∀(es:List Expr) (x:E) (k:Int) (j:Nat) (p p2 pos:Pos),PA X es (RA B C XX x)->cnt x<=1000->0<=k->k<=1000->PE X (.BinOp (.List es p) .Mult (.Constant (.int k) j p2) pos) (RE B C XX (.rep k.toNat x))
 xop:∀k:XO,G.lookup k.flag=some GK.opt->XOk B C CX G k
theorem JDy {names:List (Str×NameKind)} {e:Expr} {q:XO×List Expr} (h:xT G names e=some q):xTgt G names e=some q/\G.lookup q.1.flag=some GK.opt:=by
 unfold xT at h
 obtain ⟨r,h1,h2⟩:=q_a.mp h
 split at h2
 ·cases h2
  exact ⟨h1,by assumption⟩
 ·cases h2
theorem JFT {names:List (Str×NameKind)} {e:Expr} {q:XO×List Expr} (h:xT G names e=some q) (env:PySem.Env) (v:Value):foldedSetIterable e env v=pure v:=by
 obtain ⟨h1,_⟩:=JDy h
 unfold xTgt at h1
 split at h1
 ·rfl
 ·rfl
 ·cases h1
theorem JGB {names:List (Str×NameKind)} {it:Bool} {e:Expr} {q:XO×List Expr} (h:xOf G names it e=some q):xRaw G names it e=some q/\G.lookup q.1.flag=some GK.opt:=by
 unfold xOf at h
 obtain ⟨r,h1,h2⟩:=q_a.mp h
 split at h2
 ·rename_i hf
  cases h2
  exact ⟨h1,hf⟩
 ·cases h2
theorem JEx {n:Nat} {names:List (Str×NameKind)} {N:List Str}:∀ {es:List Expr} {x:E},JAJ (JAL G n false names N) es=some x->∀a∈es,∀r env,starEach (a::r) env=(false,eval a env)::starEach r env
 | e::es,x,h,a,ha,r,env=>by
  unfold JAJ at h
  obtain ⟨y,h1,h⟩:=q_a.mp h
  obtain ⟨z,h2,h⟩:=q_a.mp h
  rcases q_n.mp ha with z | ha
  ·subst z;exact JAU h1 r env
  ·exact JEx h2 a ha r env
theorem sound (ra:Rare B C CX G):∀(n:Nat) (X:Cx) (XX:Nat->Hp->Prop) (names:List (Str×NameKind)) (N:List Str),Gk X B C CX XX G->X.env.scope.kind=.function->X.env.scope.names=names->X.N=N->N.Nodup ->
  (∀e x,JAL G n false names N e=some x->PE X e (RE B C XX x)/\PT X e (RT B C XX x))/\(∀tg e x,JAL G n true names N e=some x->PI X tg e (RI B C XX x))
 | 0,X,XX,names,N,g,hk,hn,hN,hnd=>⟨fun e x h=>by simp [JAL,JAZ,JAO] at h,fun tg e x h=>by simp [JAL,JAZ,JAO] at h⟩
 | n+1,X,XX,names,N,g,hk,hn,hN,hnd=>by
  obtain ⟨ih,ihI⟩:=sound ra n X XX names N g hk hn hN hnd
  have ihE:∀e x,JAL G n false names N e=some x->PE X e (RE B C XX x):=fun e x h=>(ih e x h).1
  have truthOf:∀ {e:Expr} {x:E},PE X e (RE B C XX x)->(∀whole,isTrue e X.env whole=(do let v<-whole;standAt e.pos;holding [v] (truthy v)))->(∀δ,evT C x δ=(ev C x δ).bind truth)->PE X e (RE B C XX x)/\PT X e (RT B C XX x) :=
    fun h1 h2 h3=>⟨h1,JNr g h1 h2 h3⟩
  have valOnly:∀ {e:Expr} {x:E},PE X e (RE B C XX x)->(∀δ,evT C x δ=.bad)->PE X e (RE B C XX x)/\PT X e (RT B C XX x):=fun h1 h2=>⟨h1,t_bad h2⟩
  have nameE:∀(b:Bool) (x:Str) (p:Pos) (y:E),xOf G names b (.Name x p)=none->JAL G (n+1) b names N (.Name x p)=some y->PE X (.Name x p) (RE B C XX y)/\((∀δ,evT C y δ=(ev C y δ).bind truth)\/∀δ,evT C y δ=.bad)/\∀δ,evI C y δ=(ev C y δ).bind JAg:=by
    intro b x p y hxx h
    rw [JAC hxx] at h;dsimp only [JAO] at h
    split at h
    ·cases h
    ·rename_i hb
     have hb':JAS x=false:=by simpa using hb
     split at h
     · rename_i hv
       obtain ⟨i,hi,e⟩:=q_d.mp h
       subst e
       exact ⟨s_var (by rw [hN];exact JDB hi) (JEc hn hv) hb',(.inl fun δ=>by simp only [evT,ev]),fun δ=>by simp only [evI,ev]⟩
     · split at h
       ·rename_i i hg
        cases h
        obtain ⟨_,h2,h3⟩:=JA5 hg
        exact ⟨s_glo g (JB4 hn h2) h3 hb',(.inr fun δ=>by simp only [evT]),fun δ=>by simp only [evI,ev]⟩
       ·cases h
  have callE:∀(b:Bool) (f:Str) (p pos:Pos) (args:List Expr) (y:E),xOf G names b (.Call (.Name f p) args [] pos)=none->JAL G (n+1) b names N (.Call (.Name f p) args [] pos)=some y->(∃i x,y=.call i x/\PE X (.Call (.Name f p) args [] pos) (RE B C XX y)) \/
     (b=false/\((∃i x,y=.blt i x)\/(∃a t,y=.isi a t)\/∃o a,y=.fn1 o a)/\PE X (.Call (.Name f p) args [] pos) (RE B C XX y))\/(b=true/\∃x,y=.rng x/\∀tg,PI X tg (.Call (.Name f p) args [] pos) (RI B C XX y)):=by
    intro b f p pos args y hxx h
    rw [JAC hxx] at h;dsimp only [JAO] at h
    split at h
    ·rename_i i hg
     obtain ⟨h1,h2,h3⟩:=JA5 hg
     split at h
     · rename_i e r
       obtain ⟨x,hx,e'⟩:=q_d.mp h
       subst e'
       obtain ⟨a,ha,hx'⟩:=q_a.mp (by unfold JAJ at hx;exact hx)
       exact .inl ⟨i,x,rfl,s_call g (JB4 hn h2) h3 h1 (allA g ihE hx) (JAU ha r X.env) (JBt hx)⟩
     · cases h
    ·rename_i hg
     obtain ⟨h1,h2,h3⟩:=JA5 hg
     split at h
     · rename_i hb
       obtain ⟨hb1,hb2⟩:=hb
       subst hb2
       split at h
       ·rename_i a
        obtain ⟨x,hx,e'⟩:=q_d.mp h
        subst e'
        obtain ⟨a',ha,_⟩:=q_a.mp (by unfold JAJ at hx;exact hx)
        exact .inr (.inr ⟨hb1,x,rfl,fun tg=>JOT g (JB4 hn h2) (g.rng _ h3) (allA g ihE hx) (JAR hx) (JAU ha [] X.env)⟩)
       ·rename_i a a2
        obtain ⟨x,hx,e'⟩:=q_d.mp h
        subst e'
        obtain ⟨a',ha,hr⟩:=q_a.mp (by unfold JAJ at hx;exact hx)
        obtain ⟨r',hr',_⟩:=q_a.mp hr
        obtain ⟨a2',ha2,_⟩:=q_a.mp (by unfold JAJ at hr';exact hr')
        exact .inr (.inr ⟨hb1,x,rfl,fun tg=>JQv g (JB4 hn h2) (g.rng _ h3) (allA g ihE hx) (JAR hx) (by rw [JAU ha [a2] X.env,JAU ha2 [] X.env];rfl) (JAU ha2 [] X.env)⟩)
       ·cases h
     · cases h
    ·rename_i bl hg
     obtain ⟨h1,h2,h3⟩:=JA5 hg
     split at h
     · rename_i hb
       obtain ⟨hb1,hb2⟩:=hb
       split at h
       ·rename_i e r
        obtain ⟨x,hx,e'⟩:=q_d.mp h
        subst e'
        obtain ⟨a,ha,hx'⟩:=q_a.mp (by unfold JAJ at hx;exact hx)
        refine .inr (.inl ⟨hb1,.inl ⟨bl,x,rfl⟩,?_⟩)
        subst hb2
        cases bl with
        | len=>exact JKb g (JII g) PySem.boot_len (JB4 hn h2) h3 h1 (allA g ihE hx) (JAU ha r X.env) (JBt hx)
        | abs=>exact JKb (id:="abs") g (JH1 g) (by decide +kernel) (JB4 hn h2) h3 h1 (allA g ihE hx) (JAU ha r X.env) (JBt hx)
        | all=>exact JKb (id:="all") g (JHb g) (by decide +kernel) (JB4 hn h2) h3 h1 (allA g ihE hx) (JAU ha r X.env) (JBt hx)
        | min=>exact JKb (id:="min") g (ra.min h3 X XX g) (by decide +kernel) (JB4 hn h2) h3 h1 (allA g ihE hx) (JAU ha r X.env) (JBt hx)
       ·cases h
     · cases h
    ·rename_i hg
     obtain ⟨h1,h2,h3⟩:=JA5 hg
     split at h
     · rename_i hb
       obtain ⟨hb1,hb2⟩:=hb
       subst hb2
       split at h
       ·rename_i a t pt
        split at h
        ·rename_i ty hgt
         obtain ⟨t1,t2,t3⟩:=JA5 hgt
         split at h
         · rename_i ht
           obtain ⟨x,hx,e'⟩:=q_d.mp h
           subst e'
           exact .inr (.inl ⟨hb1,.inr (.inl ⟨x,ty,rfl⟩),ra.isi X XX g a x t ty p pt pos (JB4 hn h2) (JB4 hn t2) h3 (.inl ⟨t3,ht⟩) t1 (ihE a x hx) (JAU hx _ X.env)⟩)
         · cases h
        ·rename_i c hgt
         obtain ⟨t1,t2,t3⟩:=JA5 hgt
         obtain ⟨x,hx,e'⟩:=q_d.mp h
         subst e'
         exact .inr (.inl ⟨hb1,.inr (.inl ⟨x,.own c,rfl⟩),ra.isi X XX g a x t (.own c) p pt pos (JB4 hn h2) (JB4 hn t2) h3 (.inr ⟨c,rfl,t3⟩) t1 (ihE a x hx) (JAU hx _ X.env)⟩)
        ·cases h
       ·cases h
     · cases h
    ·rename_i ty hg
     obtain ⟨h1,h2,h3⟩:=JA5 hg
     split at h
     · rename_i hb
       obtain ⟨hb1,hb2⟩:=hb
       obtain ⟨o,ho,h⟩:=q_a.mp h
       match args,h with
       | [a],h =>
        obtain ⟨x,hx,e'⟩:=q_d.mp h
        subst e'
        exact .inr (.inl ⟨hb1,.inr (.inr ⟨o,x,rfl⟩),JQu g ho hb2 (JB4 hn h2) h3 h1 (ihE a x hx) (JAU hx [] X.env)⟩)
       | [],h=>cases h
       | _::_::_,h=>cases h
     · cases h
    ·cases h
  have tupE:∀(b:Bool) (es:List Expr) (k:Nat) (p:Pos) (y:E),xOf G names b (.Tuple es k p)=none->JAL G (n+1) b names N (.Tuple es k p)=some y->∃x,y=.tup x/\PE X (.Tuple es k p) (RE B C XX y):=by
    intro b es k p y hxx h
    rw [JAC hxx] at h;dsimp only [JAO] at h
    split at h
    ·rename_i hl
     obtain ⟨x,hx,e'⟩:=q_d.mp h
     subst e'
     exact ⟨x,rfl,s_tup g (allA g ihE hx) (by rw [JAR hx];exact hl)⟩
    ·cases h
  have lstE:∀(b:Bool) (es:List Expr) (p:Pos) (y:E),xOf G names b (.List es p)=none->JAL G (n+1) b names N (.List es p)=some y->∃x,y=.lst x/\PE X (.List es p) (RE B C XX y):=by
    intro b es p y hxx h
    rw [JAC hxx] at h;dsimp only [JAO] at h
    split at h
    ·rename_i hl
     obtain ⟨x,hx,e'⟩:=q_d.mp h
     subst e'
     exact ⟨x,rfl,s_lst g (allA g ihE hx) (by rw [JAR hx];exact hl)⟩
    ·cases h
  have subE:∀(b:Bool) (a i:Expr) (p:Pos) (y:E),xOf G names b (.Subscript a i p)=none->JAL G (n+1) b names N (.Subscript a i p)=some y->((∃x z,y=.idx x z)\/∃o x,y=.fn1 o x)/\PE X (.Subscript a i p) (RE B C XX y):=by
    intro b a i p y hxx h
    rw [JAC hxx] at h;dsimp only [JAO] at h
    split at h
    ·split at h
     · rename_i hr
       obtain ⟨x,hx,e'⟩:=q_d.mp h
       subst e'
       exact ⟨.inr ⟨_,x,rfl⟩,s_rev g hr (ihE a x hx)⟩
     · obtain ⟨q,hq,h⟩:=q_a.mp h
       obtain ⟨x,hx,e'⟩:=q_d.mp h
       subst e'
       exact ⟨.inr ⟨_,x,rfl⟩,JNE g hq (ihE a x hx)⟩
    ·rename_i hs
     obtain ⟨x,hx,h⟩:=q_a.mp h
     obtain ⟨z,hz,h⟩:=q_a.mp h
     cases h
     exact ⟨.inl ⟨x,z,rfl⟩,s_idx g (ihE a x hx) (ihE i z hz) (by simpa using hs)⟩
  constructor
  · intro e x h
    cases hxx:xOf G names false e with
    | some q =>
     rw [JGE hxx] at h
     obtain ⟨y,hy,e'⟩:=q_d.mp h
     subst e'
     obtain ⟨q1,q2⟩:=JGB hxx
     exact valOnly ((ra.xop q.1 q2).val X XX g e q.2 y (by rw [hn];exact q1) (allA g ihE hy) (JEx hy) (JAR hy)) fun δ=>by simp only [evT]
    | none =>
    cases e with
    | Name nm p =>
     obtain ⟨h1,h2,_⟩:=nameE false nm p x hxx h
     rcases h2 with h2 | h2
     · exact truthOf h1 (fun _=>rfl) h2
     · exact valOnly h1 h2
    | Constant c j p =>
     rw [JAC hxx] at h;dsimp only [JAO] at h
     cases c<;>simp only [q_j,reduceCtorEq] at h<;>subst h
     · exact valOnly s_non fun δ=>by simp only [evT]
     · exact truthOf s_bl (fun _=>rfl) fun δ=>by simp only [evT,ev,R.bind,truth]
     · exact valOnly s_int fun δ=>by simp only [evT]
     · exact valOnly s_str fun δ=>by simp only [evT]
    | Tuple es k p =>
     obtain ⟨y,rfl,h1⟩:=tupE false es k p x hxx h
     exact valOnly h1 fun δ=>by simp only [evT]
    | List es p =>
     obtain ⟨y,rfl,h1⟩:=lstE false es p x hxx h
     exact valOnly h1 fun δ=>by simp only [evT]
    | Subscript a i p =>
     obtain ⟨⟨y,z,rfl⟩ | ⟨o,y,rfl⟩,h1⟩:=subE false a i p x hxx h
     · exact truthOf h1 (fun _=>rfl) fun δ=>by simp only [evT,ev]
     · exact valOnly h1 fun δ=>by simp only [evT]
    | Dict ks vs p =>
     rw [JAC hxx] at h;dsimp only [JAO] at h
     split at h
     · rename_i xs hks
       split at h
       ·rename_i hc
        obtain ⟨y,hy,e'⟩:=q_d.mp h
        subst e'
        exact valOnly (ra.dct hc.2.1 X XX g n names N ks vs xs y p ihE hks hc.2.2.1 hc.2.2.2.1 hc.2.2.2.2.1 (of_decide_eq_true hc.2.2.2.2.2) hy) fun δ=>by simp only [evT]
       ·cases h
     · cases h
    | BinOp a op b p =>
     rw [JAC hxx] at h;dsimp only [JAO] at h
     split at h
     · rename_i es k hr
       split at hr
       case isFalse=>cases hr
       rename_i hz
       obtain ⟨p1,kk,j,p2,rfl,rfl,rfl,rfl,hr1,hr2,hr3⟩:=JGq hr
       obtain ⟨y,hy,e'⟩:=q_d.mp h
       subst e'
       exact valOnly (ra.rep hz.2 X XX g es y kk j p1 p2 p (allA g ihE hy) (by rw [JAR hy];exact hr3) hr1 hr2) fun δ=>by simp only [evT]
     · split at h
       ·rename_i u v hp
        obtain ⟨i1,q1,i2,q2,rfl,rfl,rfl,hp1,hp2,hp3,hp4⟩:=JG4 hp
        split at h
        case isFalse=>cases h
        cases h
        exact valOnly (s_pow hp1 hp2 hp3 hp4) fun δ=>by simp only [evT]
       ·split at h
        ·rename_i ho
         obtain ⟨y,hy,h⟩:=q_a.mp h
         obtain ⟨z,hz,h⟩:=q_a.mp h
         cases h
         exact valOnly (JQC g (ihE a y hy) (ihE b z hz)) fun δ=>by simp only [evT]
        ·cases h
    | UnaryOp op a p =>
     rw [JAC hxx] at h;dsimp only [JAO] at h
     cases op<;>simp only [q_d,reduceCtorEq] at h
     · obtain ⟨y,hy,e'⟩:=h
       subst e'
       exact ⟨s_not g (ihE a y hy),JKE g (ih a y hy).2⟩
     · obtain ⟨y,hy,e'⟩:=h
       subst e'
       exact valOnly (s_neg g (ihE a y hy)) fun δ=>by simp only [evT]
    | BoolOp op es p =>
     rw [JAC hxx] at h;dsimp only [JAO] at h
     cases op
     · obtain ⟨q1,q2⟩:=JKv g ih h
       exact ⟨q1,q2.pt⟩
     · obtain ⟨q1,q2⟩:=JOE g ih h
       exact ⟨q1,q2.pt⟩
    | Compare a ops bs p =>
     match ops,bs,h with
     | [op],[b],h =>
       rw [JAC hxx] at h;dsimp only [JAO] at h;rw [if_neg Bool.false_ne_true] at h
       have cmpd:∀(y z:E),PE X a (RE B C XX y)->PE X b (RE B C XX z)->behindInMarks op b=false->PE X (.Compare a [op] [b] p) (RE B C XX (.cmp op y z))/\PT X (.Compare a [op] [b] p) (RT B C XX (.cmp op y z)):=fun y z h1 h2 hm =>
        ⟨JA2 g h1 h2 hm,JPM op (JFZ (JPL g op) h1 h2 hm) (fun σ H Q ⟨δ,ok,k⟩=>two g (f:=cmpD op) (fun x y H dx dy h1 h2 k=>⟨dx,dy,h1,h2,k⟩) ⟨δ,ok,by simpa only [ev] using k⟩) (fun δ=>by simp only [evT,ev]) fun δ d h=>JFL h⟩
       cases op<;>simp only at h<;>first
        |(split at h
          · cases h
          · rename_i hm
            obtain ⟨y,hy,h⟩:=q_a.mp h
            obtain ⟨z,hz,h⟩:=q_a.mp h
            cases h
            exact cmpd y z (ihE a y hy) (ihE b z hz) (by simpa using hm))
        | skip
       ·split at h
        ·obtain ⟨y,hy,e'⟩:=q_d.mp h
         subst e'
         exact ⟨s_isN g (ihE a y hy),JJx g (ihE a y hy)⟩
        ·obtain ⟨y,hy,e'⟩:=q_d.mp h
         subst e'
         exact ⟨s_isB g (ihE a y hy),JJ2 g (ihE a y hy)⟩
        ·cases h
       ·split at h
        ·obtain ⟨y,hy,e'⟩:=q_d.mp h
         subst e'
         exact ⟨JNl g (ihE a y hy),JM0 g (ihE a y hy)⟩
        ·obtain ⟨y,hy,e'⟩:=q_d.mp h
         subst e'
         exact ⟨JOO g (ihE a y hy),JGV g (ihE a y hy)⟩
        ·cases h
     | [],_,h=>exact JAF ((JAC hxx).symm.trans h)
     | _::_::_,_,h=>exact JAF ((JAC hxx).symm.trans h)
     | [_],[],h=>exact JAF ((JAC hxx).symm.trans h)
     | [_],_::_::_,h=>exact JAF ((JAC hxx).symm.trans h)
    | IfExp c a b p =>
     rw [JAC hxx] at h;dsimp only [JAO] at h;rw [if_neg Bool.false_ne_true] at h
     obtain ⟨z,hz,h⟩:=q_a.mp h
     obtain ⟨y,hy,h⟩:=q_a.mp h
     obtain ⟨w,hw,h⟩:=q_a.mp h
     cases h
     exact valOnly (s_ife g (ih c z hz).2 (ihE a y hy) (ihE b w hw)) fun δ=>by simp only [evT]
    | Call f args kws p =>
     cases f with
     | Name nm p2 =>
       cases kws with
       | nil =>
        rcases callE false nm p2 p args x hxx h with ⟨i,y,rfl,h1⟩ | ⟨_,hs,h1⟩ | ⟨hb,_⟩
        ·exact truthOf h1 (fun _=>rfl) fun δ=>by simp only [evT,ev]
        ·rcases hs with ⟨i,y,rfl⟩ | ⟨y,t,rfl⟩ | ⟨o,y,rfl⟩
         · exact truthOf h1 (fun _=>rfl) fun δ=>by simp only [evT,ev]
         · exact truthOf h1 (fun _=>rfl) fun δ=>by simp only [evT,ev]
         · exact valOnly h1 fun δ=>by simp only [evT]
        ·cases hb
       | cons k ks=>exact JAF ((JAC hxx).symm.trans h)
     | Attribute o m ap =>
       cases kws with
       | cons k ks=>match args,h with
        | [],h=>exact JAF ((JAC hxx).symm.trans h)
        | [_],h=>exact JAF ((JAC hxx).symm.trans h)
        | [_,_],h=>exact JAF ((JAC hxx).symm.trans h)
        | _::_::_::_,h=>exact JAF ((JAC hxx).symm.trans h)
       | nil=>match args,h with
        | [],h=>exact JAF ((JAC hxx).symm.trans h)
        | _::_::_::_,h=>exact JAF ((JAC hxx).symm.trans h)
        | [a],hh =>
         clear h
         rw [JAC hxx] at hh;dsimp only [JAO] at hh
         split at hh
         · rename_i hc
           split at hh
           · rename_i hm
             subst hm
             obtain ⟨y,hy,hh⟩:=q_a.mp hh
             obtain ⟨z,hz,hh⟩:=q_a.mp hh
             cases hh
             exact valOnly (ra.count X XX g o a y z ap p hc.2.1 hc.2.2 (ihE o y hy) (ihE a z hz) (JAU hz [] X.env)) fun δ=>by simp only [evT]
           · split at hh
             ·rename_i hm
              subst hm
              obtain ⟨y,hy,hh⟩:=q_a.mp hh
              obtain ⟨z,hz,hh⟩:=q_a.mp hh
              cases hh
              exact valOnly (ra.index X XX g o a y z ap p hc.2.1 hc.2.2 (ihE o y hy) (ihE a z hz) (JAU hz [] X.env)) fun δ=>by simp only [evT]
             ·cases hh
         · cases hh
        | [a,b],hh =>
         clear h
         rw [JAC hxx] at hh;dsimp only [JAO] at hh
         split at hh
         · rename_i hc
           obtain ⟨_,h1,h2,h3⟩:=hc
           subst h3
           obtain ⟨y,hy,hh⟩:=q_a.mp hh
           obtain ⟨z,hz,hh⟩:=q_a.mp hh
           obtain ⟨w,hw,hh⟩:=q_a.mp hh
           cases hh
           exact valOnly (ra.get X XX g o a b y z w ap p h1 h2 (ihE o y hy) (ihE a z hz) (ihE b w hw) (by rw [JAU hz [b] X.env,JAU hw [] X.env];rfl) (JAU hw [] X.env)) fun δ=>by simp only [evT]
         · cases hh
     | _=>exact JAF ((JAC hxx).symm.trans h)
    | ListComp elt gens sc p =>
     match gens,h with
     | [],h=>exact JAF ((JAC hxx).symm.trans h)
     | ⟨_,_,_,_⟩::_::_,h=>exact JAF ((JAC hxx).symm.trans h)
     | [⟨tg,iter,ifs,as⟩],h =>
       rw [JAC hxx] at h;dsimp only [JAO] at h
       split at h
       ·cases h
       ·rename_i hc
        have hc1:as=0:=Decidable.byContradiction fun z=>hc (.inr (.inl z))
        have hc2:sc.kind=.function:=Decidable.byContradiction fun z=>hc (.inr (.inr z))
        subst hc1
        split at h
        ·cases h
        ·rename_i k xs htg
         split at h
         · rename_i hs
           obtain ⟨i,hi,h⟩:=q_a.mp h
           obtain ⟨y,hy,h⟩:=q_a.mp h
           have bk:=JLX hk hn hN hc2 hs
           refine valOnly ?_ fun δ=>?_
           · cases tg with
             | Name nm px =>
              simp only [JB7,q_j,Prod.mk.injEq] at htg
              obtain ⟨e1,e2⟩:=htg
              subst e1;subst e2
              unfold itK at hi;rw [if_pos rfl] at hi
              have inner:=fun (Cc:Addr) (fp:List Addr) (s0:Shared) (H0:Hp)=>sound ra n (JAa X sc Cc ([nm]++mask [nm] 0 X.N) fp s0 H0) (fun _ _=>False) (JAm names sc.names) ([nm]++mask [nm] 0 N)
               (Gk.nox g rfl rfl rfl rfl rfl rfl rfl fun _ _ _ _ _ _ _ z=>(ra.nox _ _ _ _ _ z).elim) hc2 (by rw [<-hn];exact JAT hk) (by rw [<-hN];rfl) (by rw [<-hN];exact bk.nd)
              have hloc:∀Cc fp s0 H0,(JAa X sc Cc ([nm]++mask [nm] 0 X.N) fp s0 H0).env.scope.names.lookup nm=some .local:=fun Cc fp s0 H0=>by
               show (compEnvC sc (JBA X.env.cells sc.names []) Cc X.env).scope.names.lookup nm=_
               rw [JAT hk]
               exact JA3 (bk.tg nm (by simp))
              match ifs,h with
              | [],h =>
               cases h
               exact REF.of (JCv g bk (ihI _ iter i hi) (JBp hi X.env) fun Cc fp s0 H0 σ δ=>JCI (by exact bk.nd) rfl (hloc Cc fp s0 H0) ((inner Cc fp s0 H0).1 elt y hy).1 (fun c hc=>by cases hc) (.inl ⟨rfl,rfl⟩) rfl) JCR
              | [c],h =>
               obtain ⟨w,hw,h⟩:=q_a.mp h
               cases h
               exact REF.of (JCv g bk (ihI _ iter i hi) (JBp hi X.env) fun Cc fp s0 H0 σ δ=>JCI (by exact bk.nd) rfl (hloc Cc fp s0 H0) ((inner Cc fp s0 H0).1 elt y hy).1 (fun c' hc=>by cases hc;exact ((inner Cc fp s0 H0).1 c w hw).2) (.inr ⟨c,rfl⟩) rfl) JCR
              | _::_::_,h=>cases h
             | Tuple ts kt pt =>
              simp only [JB7] at htg
              obtain ⟨xs',hx,htg⟩:=q_a.mp htg
              split at htg
              ·cases htg
              ·rename_i hne
               simp only [q_j,Prod.mk.injEq] at htg
               obtain ⟨e1,e2⟩:=htg
               subst e2;subst e1
               have hk0:xs'.length≠0:=fun z=>hne (q_A.mp z)
               unfold itK at hi;rw [if_neg hk0] at hi
               have inner:=fun (Cc:Addr) (fp:List Addr) (s0:Shared) (H0:Hp)=>sound ra n (JAa X sc Cc (xs'++mask xs' 0 X.N) fp s0 H0) (fun _ _=>False) (JAm names sc.names) (xs'++mask xs' 0 N)
                 (Gk.nox g rfl rfl rfl rfl rfl rfl rfl fun _ _ _ _ _ _ _ z=>(ra.nox _ _ _ _ _ z).elim) hc2 (by rw [<-hn];exact JAT hk) (by rw [<-hN];rfl) (by rw [<-hN];exact bk.nd)
               have hloc:∀Cc fp s0 H0,∀nm∈xs',(JAa X sc Cc (xs'++mask xs' 0 X.N) fp s0 H0).env.scope.names.lookup nm=some .local:=fun Cc fp s0 H0 nm hnm=>by
                 show (compEnvC sc (JBA X.env.cells sc.names []) Cc X.env).scope.names.lookup nm=_
                 rw [JAT hk]
                 exact JA3 (bk.tg nm hnm)
               have hat:∀Cc fp s0 H0 (i:Nat) (nm:Str),xs'[i]? = some nm->(JAa X sc Cc (xs'++mask xs' 0 X.N) fp s0 H0).N[i]? = some nm:=fun Cc fp s0 H0 i nm e=>by
                 show (xs'++mask xs' 0 X.N)[i]? = some nm
                 rw [q_B (q_p.mp e).1];exact e
               obtain ⟨hpi,hfo⟩:PI X (.Tuple ts kt pt) iter (RI B C XX i)/\∀v,foldedSetIterable iter X.env v=pure v:=by
                 cases hq:xT G names iter with
                 | none=>rw [hq] at hi;exact ⟨ihI _ iter i hi,JBp hi X.env⟩
                 | some q =>
                   rw [hq] at hi
                   obtain ⟨y',hy',rfl⟩:=q_d.mp hi
                   obtain ⟨q1,q2⟩:=JDy hq
                   exact ⟨(ra.xop q.1 q2).tgt X XX g ts kt pt iter q.2 y' (by rw [hn];exact q1) (allA g ihE hy') (JEx hy') (JAR hy'),JFT hq X.env⟩
               match ifs,h with
               | [],h =>
                 cases h
                 exact REF.of (JCv g bk hpi hfo fun Cc fp s0 H0 σ δ=>item_tup rfl g.K hx hne (by exact bk.nd) (hat Cc fp s0 H0) (hloc Cc fp s0 H0) ((inner Cc fp s0 H0).1 elt y hy).1 (fun c hc=>by cases hc) (.inl ⟨rfl,rfl⟩) rfl) JCR
               | [c],h =>
                 obtain ⟨w,hw,h⟩:=q_a.mp h
                 cases h
                 exact REF.of (JCv g bk hpi hfo fun Cc fp s0 H0 σ δ=>item_tup rfl g.K hx hne (by exact bk.nd) (hat Cc fp s0 H0) (hloc Cc fp s0 H0) ((inner Cc fp s0 H0).1 elt y hy).1 (fun c' hc=>by cases hc;exact ((inner Cc fp s0 H0).1 c w hw).2) (.inr ⟨c,rfl⟩) rfl) JCR
               | _::_::_,h=>cases h
             | _=>simp [JB7] at htg
           · match ifs,h with
             | [],h=>cases h;simp only [evT]
             | [c],h =>
              obtain ⟨w,hw,h⟩:=q_a.mp h
              cases h
              simp only [evT]
             | _::_::_,h=>cases h
         · cases h
    | _=>exact JAF ((JAC hxx).symm.trans h)
  · intro tg e x h
    cases hxx:xOf G names true e with
    | some q =>
     rw [JGE hxx] at h
     obtain ⟨y,hy,e'⟩:=q_d.mp h
     subst e'
     obtain ⟨q1,q2⟩:=JGB hxx
     exact (ra.xop q.1 q2).itr X XX g tg e q.2 y (by rw [hn];exact q1) (allA g ihE hy) (JEx hy) (JAR hy)
    | none =>
    cases e with
    | Name nm p =>
     obtain ⟨h1,_,h3⟩:=nameE true nm p x hxx h
     exact JEM g h1 h3
    | Tuple es k p =>
     obtain ⟨y,rfl,h1⟩:=tupE true es k p x hxx h
     refine JEM g h1 fun δ=>?_
     simp only [evI,ev]
     cases evA C y δ<;>rfl
    | List es p =>
     obtain ⟨y,rfl,h1⟩:=lstE true es p x hxx h
     refine JEM g h1 fun δ=>?_
     simp only [evI,ev]
     cases evA C y δ<;>rfl
    | Subscript a i p =>
     obtain ⟨⟨y,z,rfl⟩ | ⟨o,y,rfl⟩,h1⟩:=subE true a i p x hxx h
     · exact JEM g h1 fun δ=>by simp only [evI,ev]
     · exact JEM g h1 fun δ=>by simp only [evI,ev]
    | Call f args kws p =>
     cases f with
     | Name nm p2 =>
       cases kws with
       | nil =>
        rcases callE true nm p2 p args x hxx h with ⟨i,y,rfl,h1⟩ | ⟨hb,_⟩ | ⟨_,y,rfl,h1⟩
        ·exact JEM g h1 fun δ=>by simp only [evI,ev]
        ·cases hb
        ·exact h1 tg
       | cons k ks=>exact JAF ((JAC hxx).symm.trans h)
     | Attribute o m ap =>
       cases kws with
       | cons k ks=>match args,h with
        | [],h=>exact JAF ((JAC hxx).symm.trans h)
        | [_],h=>exact JAF ((JAC hxx).symm.trans h)
        | [_,_],h=>exact JAF ((JAC hxx).symm.trans h)
        | _::_::_::_,h=>exact JAF ((JAC hxx).symm.trans h)
       | nil=>match args,h with
        | [],h=>exact JAF ((JAC hxx).symm.trans h)
        | [_],h=>exact JAF ((JAC hxx).symm.trans h)
        | [_,_],h=>exact JAF ((JAC hxx).symm.trans h)
        | _::_::_::_,h=>exact JAF ((JAC hxx).symm.trans h)
     | _=>exact JAF ((JAC hxx).symm.trans h)
    | Compare a ops bs p=>match ops,bs,h with
     | [_],[_],h=>exact JAF ((JAC hxx).symm.trans h)
     | [],_,h=>exact JAF ((JAC hxx).symm.trans h)
     | _::_::_,_,h=>exact JAF ((JAC hxx).symm.trans h)
     | [_],[],h=>exact JAF ((JAC hxx).symm.trans h)
     | [_],_::_::_,h=>exact JAF ((JAC hxx).symm.trans h)
    | ListComp elt gens sc p=>match gens,h with
     | [],h=>exact JAF ((JAC hxx).symm.trans h)
     | ⟨_,_,_,_⟩::_::_,h=>exact JAF ((JAC hxx).symm.trans h)
     | [⟨tg,iter,ifs,as⟩],h=>exact JAF ((JAC hxx).symm.trans h)
    | BinOp a op b p =>
     rw [JAC hxx] at h;dsimp only [JAO] at h
     split at h
     · rename_i hr
       simp at hr
     · split at h
       ·simp at h
       ·split at h
        ·obtain ⟨y,hy,h⟩:=q_a.mp h
         obtain ⟨z,hz,h⟩:=q_a.mp h
         cases h
         exact JEM g (JQC g (ihE a y hy) (ihE b z hz)) fun δ=>by simp only [evI,ev]
        ·cases h
    | Dict ks vs p =>
     rw [JAC hxx] at h;dsimp only [JAO] at h
     split at h
     · simp at h
     · cases h
    | _=>exact JAF ((JAC hxx).symm.trans h)
theorem JHU (ra:Rare B C CX G) {n:Nat} {X:Cx} {XX:Nat->Hp->Prop} {names:List (Str×NameKind)} {N:List Str} (g:Gk X B C CX XX G) (hk:X.env.scope.kind=.function) (hn:X.env.scope.names=names) (hN:X.N=N) (hnd:N.Nodup)
  {elt:Expr} {gens:List Comprehension} {sc:Scope} {p:Pos} {x:E} (h:JAL G n false names N (.ListComp elt gens sc p)=some x) :
  ∃target iter ifs xs k y z w,gens=[⟨target,iter,ifs,0⟩]/\x=.cmpr k y z w/\BlkOk X sc xs/\PI X target iter (RI B C XX z)/\(∀v,foldedSetIterable iter X.env v=pure v) /\
   ∀Cc fp s0 H0 σ δ,JB6 (JAa X sc Cc (xs++mask xs 0 X.N) fp s0 H0) B σ xs.length δ target elt ifs (itemF C k y w δ):=by
 cases n with
 | zero=>simp [JAL,JAZ,JAO,xOf,xRaw] at h
 | succ n =>
  match gens,h with
  | [],h=>simp [JAL,JAZ,JAO,xOf,xRaw] at h
  | ⟨_,_,_,_⟩::_::_,h=>simp [JAL,JAZ,JAO,xOf,xRaw] at h
  | [⟨tg,iter,ifs,as⟩],h =>
   simp only [JAL,JAZ,JAO,xOf,xRaw,Option.bind_none] at h
   split at h
   ·cases h
   ·rename_i hc
    have hc1:as=0:=Decidable.byContradiction fun z=>hc (.inr (.inl z))
    have hc2:sc.kind=.function:=Decidable.byContradiction fun z=>hc (.inr (.inr z))
    subst hc1
    split at h
    ·cases h
    ·rename_i k xs htg
     split at h
     ·rename_i hs
      obtain ⟨i,hi,h⟩:=q_a.mp h
      obtain ⟨y,hy,h⟩:=q_a.mp h
      have bk:=JLX hk hn hN hc2 hs
      have ihI:=(sound ra n X XX names N g hk hn hN hnd).2
      cases tg with
      | Name nm px =>
       simp only [JB7,q_j,Prod.mk.injEq] at htg
       obtain ⟨e1,e2⟩:=htg
       subst e1;subst e2
       unfold itK at hi;rw [if_pos rfl] at hi
       have inner:=fun (Cc:Addr) (fp:List Addr) (s0:Shared) (H0:Hp)=>sound ra n (JAa X sc Cc ([nm]++mask [nm] 0 X.N) fp s0 H0) (fun _ _=>False) (JAm names sc.names) ([nm]++mask [nm] 0 N)
        (Gk.nox g rfl rfl rfl rfl rfl rfl rfl fun _ _ _ _ _ _ _ z=>(ra.nox _ _ _ _ _ z).elim) hc2 (by rw [<-hn];exact JAT hk) (by rw [<-hN];rfl) (by rw [<-hN];exact bk.nd)
       have hloc:∀Cc fp s0 H0,(JAa X sc Cc ([nm]++mask [nm] 0 X.N) fp s0 H0).env.scope.names.lookup nm=some .local:=fun Cc fp s0 H0=>by
        show (compEnvC sc (JBA X.env.cells sc.names []) Cc X.env).scope.names.lookup nm=_
        rw [JAT hk]
        exact JA3 (bk.tg nm (by simp))
       match ifs,h with
       | [],h =>
        cases h
        exact ⟨_,iter,[],[nm],0,y,i,_,rfl,rfl,bk,ihI _ iter i hi,JBp hi X.env,fun Cc fp s0 H0 σ δ=>JCI (by exact bk.nd) rfl (hloc Cc fp s0 H0) ((inner Cc fp s0 H0).1 elt y hy).1 (fun c hc=>by cases hc) (.inl ⟨rfl,rfl⟩) rfl⟩
       | [c],h =>
        obtain ⟨w,hw,h⟩:=q_a.mp h
        cases h
        exact ⟨_,iter,[c],[nm],0,y,i,w,rfl,rfl,bk,ihI _ iter i hi,JBp hi X.env,fun Cc fp s0 H0 σ δ=>JCI (by exact bk.nd) rfl (hloc Cc fp s0 H0) ((inner Cc fp s0 H0).1 elt y hy).1 (fun c' hc=>by cases hc;exact ((inner Cc fp s0 H0).1 c w hw).2) (.inr ⟨c,rfl⟩) rfl⟩
       | _::_::_,h=>cases h
      | Tuple ts kt pt =>
       simp only [JB7] at htg
       obtain ⟨xs',hx,htg⟩:=q_a.mp htg
       split at htg
       ·cases htg
       ·rename_i hne
        simp only [q_j,Prod.mk.injEq] at htg
        obtain ⟨e1,e2⟩:=htg
        subst e2;subst e1
        have hk0:xs'.length≠0:=fun z=>hne (q_A.mp z)
        unfold itK at hi;rw [if_neg hk0] at hi
        have inner:=fun (Cc:Addr) (fp:List Addr) (s0:Shared) (H0:Hp)=>sound ra n (JAa X sc Cc (xs'++mask xs' 0 X.N) fp s0 H0) (fun _ _=>False) (JAm names sc.names) (xs'++mask xs' 0 N)
          (Gk.nox g rfl rfl rfl rfl rfl rfl rfl fun _ _ _ _ _ _ _ z=>(ra.nox _ _ _ _ _ z).elim) hc2 (by rw [<-hn];exact JAT hk) (by rw [<-hN];rfl) (by rw [<-hN];exact bk.nd)
        have hloc:∀Cc fp s0 H0,∀nm∈xs',(JAa X sc Cc (xs'++mask xs' 0 X.N) fp s0 H0).env.scope.names.lookup nm=some .local:=fun Cc fp s0 H0 nm hnm=>by
          show (compEnvC sc (JBA X.env.cells sc.names []) Cc X.env).scope.names.lookup nm=_
          rw [JAT hk]
          exact JA3 (bk.tg nm hnm)
        have hat:∀Cc fp s0 H0 (i:Nat) (nm:Str),xs'[i]? = some nm->(JAa X sc Cc (xs'++mask xs' 0 X.N) fp s0 H0).N[i]? = some nm:=fun Cc fp s0 H0 i nm e=>by
          show (xs'++mask xs' 0 X.N)[i]? = some nm
          rw [q_B (q_p.mp e).1];exact e
        obtain ⟨hpi,hfo⟩:PI X (.Tuple ts kt pt) iter (RI B C XX i)/\∀v,foldedSetIterable iter X.env v=pure v:=by
          cases hq:xT G names iter with
          | none=>rw [hq] at hi;exact ⟨ihI _ iter i hi,JBp hi X.env⟩
          | some q =>
            rw [hq] at hi
            obtain ⟨y',hy',rfl⟩:=q_d.mp hi
            obtain ⟨q1,q2⟩:=JDy hq
            exact ⟨(ra.xop q.1 q2).tgt X XX g ts kt pt iter q.2 y' (by rw [hn];exact q1) (allA g (fun e x h=>((sound ra n X XX names N g hk hn hN hnd).1 e x h).1) hy') (JEx hy') (JAR hy'),JFT hq X.env⟩
        match ifs,h with
        | [],h =>
          cases h
          exact ⟨_,iter,[],xs',_,y,i,_,rfl,rfl,bk,hpi,hfo,fun Cc fp s0 H0 σ δ=>item_tup rfl g.K hx hne (by exact bk.nd) (hat Cc fp s0 H0) (hloc Cc fp s0 H0) ((inner Cc fp s0 H0).1 elt y hy).1 (fun c hc=>by cases hc) (.inl ⟨rfl,rfl⟩) rfl⟩
        | [c],h =>
          obtain ⟨w,hw,h⟩:=q_a.mp h
          cases h
          exact ⟨_,iter,[c],xs',_,y,i,w,rfl,rfl,bk,hpi,hfo,fun Cc fp s0 H0 σ δ=>item_tup rfl g.K hx hne (by exact bk.nd) (hat Cc fp s0 H0) (hloc Cc fp s0 H0) ((inner Cc fp s0 H0).1 elt y hy).1 (fun c' hc=>by cases hc;exact ((inner Cc fp s0 H0).1 c w hw).2) (.inr ⟨c,rfl⟩) rfl⟩
        | _::_::_,h=>cases h
      | _=>simp [JB7] at htg
     ·cases h
theorem JED (ra:Rare B C CX G) {n:Nat} {X:Cx} {XX:Nat->Hp->Prop} {names:List (Str×NameKind)} {N:List Str} (g:Gk X B C CX XX G) (hk:X.env.scope.kind=.function) (hn:X.env.scope.names=names) (hN:X.N=N) (hnd:N.Nodup)
  {es:List Expr} {p:Pos} {x:E} (h:JAL G n false names N (.List es p)=some x):PE X (.List es p) (REF B C XX x):=by
 cases n with
 | zero=>simp [JAL,JAZ,JAO,xOf,xRaw] at h
 | succ n =>
  simp only [JAL,JAZ,JAO,xOf,xRaw,Option.bind_none] at h
  split at h
  ·rename_i hl
   obtain ⟨y,hx,e'⟩:=q_d.mp h
   subst e'
   exact JOU g (allA g (fun e x h=>((sound ra n X XX names N g hk hn hN hnd).1 e x h).1) hx) (by rw [JAR hx];exact hl)
  ·cases h
end
noncomputable def Agr (x:E) (δ δ':Env):Prop:=∀i,x.uses i=true->δ[i]? = δ'[i]?
theorem JJ5 {δ δ':Env} {i:Nat} (h:δ[i]? = δ'[i]?):look δ i=look δ' i:=by unfold look;rw [h]
theorem JKC {k:Nat} {d:D} {δ δ' δ1:Env} (h:push k d δ=.ok δ1):∃δ1',push k d δ'=.ok δ1'/\∀x:E,(∀i,x.uses (i+(if k=0 then 1 else k))=true->δ[i]? = δ'[i]?)->Agr x δ1 δ1':=by
 cases k with
 | zero =>
  have e:(.val d::δ)=δ1:=by injection h
  subst e
  refine ⟨_,rfl,fun x hx i hi=>?_⟩
  cases i with
  | zero=>rfl
  | succ i=>simpa using hx i hi
 | succ k =>
  unfold push at h ⊢
  cases d<;>first | cases h | skip
  rename_i ds
  simp only at h ⊢
  split at h
  ·rename_i hl
   have e:ds.map Sl.val++δ=δ1:=by injection h
   subst e
   rw [if_pos hl]
   refine ⟨_,rfl,fun x hx i hi=>?_⟩
   by_cases hi2:i<ds.length
   ·rw [q_B (by simpa using hi2),q_B (by simpa using hi2)]
   ·rw [List.getElem?_append_right (by simpa using hi2),List.getElem?_append_right (by simpa using hi2)]
    simp only [q_g]
    refine hx _ ?_
    rw [if_neg (Nat.succ_ne_zero k),<-hl,Nat.sub_add_cancel (by omega)]
    exact hi
  ·cases h
theorem JKU {k:Nat} {d:D} {δ δ':Env} (h:push k d δ=.bad):push k d δ'=.bad:=by
 cases k with
 | zero=>cases h
 | succ k =>
  unfold push at h ⊢
  cases d<;>first | rfl | skip
  simp only at h ⊢
  split at h
  ·cases h
  ·rename_i hl;rw [if_neg hl]
theorem JJB {k c:Nat} {d:D} {δ:Env}:push k d δ≠.exc c:=by
 cases k with
 | zero=>intro h;cases h
 | succ k =>
  unfold push
  cases d<;>simp only<;>(try split)<;>(intro h;cases h)
theorem ub_l {a b:Bool} (h:a=true):(a || b)=true:=by rw [h];rfl
theorem ub_r {a b:Bool} (h:b=true):(a || b)=true:=by rw [h];exact Bool.or_true a
theorem JAf {a b c:Bool} (h:a=true):(a || b || c)=true:=ub_l (ub_l h)
theorem JAd {a b c:Bool} (h:b=true):(a || b || c)=true:=ub_l (ub_r h)
theorem agree (C:Cn) (x:E):∀(δ δ':Env),Agr x δ δ'->ev C x δ=ev C x δ'/\evT C x δ=evT C x δ'/\evA C x δ=evA C x δ'/\evI C x δ=evI C x δ':=by
 induction x with
 | var i=>intro δ δ' h;simp only [ev,evT,evA,evI,JJ5 (h i (show (i==i)=true from beq_self_eq_true i)),and_self]
 | cint _ | cbl _ | cnon | cstr _ | glo _ | nil=>intro δ δ' h;simp only [ev,evT,evA,evI,and_self]
 | bin op a b iha ihb =>
  intro δ δ' h
  have ha:=iha δ δ' fun i hi=>h i (by first | exact hi | exact ub_l hi | exact ub_r hi | exact JAf hi | exact JAd hi)
  have hb:=ihb δ δ' fun i hi=>h i (by first | exact hi | exact ub_l hi | exact ub_r hi | exact JAf hi | exact JAd hi)
  simp only [ev,evT,evA,evI,ha.1,hb.1,and_self]
 | neg a iha =>
  intro δ δ' h
  have ha:=iha δ δ' fun i hi=>h i (by first | exact hi | exact ub_l hi | exact ub_r hi | exact JAf hi | exact JAd hi)
  simp only [ev,evT,evA,evI,ha.1,and_self]
 | not a iha =>
  intro δ δ' h
  have ha:=iha δ δ' fun i hi=>h i (by first | exact hi | exact ub_l hi | exact ub_r hi | exact JAf hi | exact JAd hi)
  simp only [ev,evT,evA,evI,ha.1,ha.2.1,and_self]
 | and a b iha ihb =>
  intro δ δ' h
  have ha:=iha δ δ' fun i hi=>h i (by first | exact hi | exact ub_l hi | exact ub_r hi | exact JAf hi | exact JAd hi)
  have hb:=ihb δ δ' fun i hi=>h i (by first | exact hi | exact ub_l hi | exact ub_r hi | exact JAf hi | exact JAd hi)
  simp only [ev,evT,evA,evI,ha.1,hb.1,ha.2.1,hb.2.1,and_self]
 | or a b iha ihb =>
  intro δ δ' h
  have ha:=iha δ δ' fun i hi=>h i (by first | exact hi | exact ub_l hi | exact ub_r hi | exact JAf hi | exact JAd hi)
  have hb:=ihb δ δ' fun i hi=>h i (by first | exact hi | exact ub_l hi | exact ub_r hi | exact JAf hi | exact JAd hi)
  simp only [ev,evT,evA,evI,ha.1,hb.1,ha.2.1,hb.2.1,and_self]
 | cmp op a b iha ihb =>
  intro δ δ' h
  have ha:=iha δ δ' fun i hi=>h i (by first | exact hi | exact ub_l hi | exact ub_r hi | exact JAf hi | exact JAd hi)
  have hb:=ihb δ δ' fun i hi=>h i (by first | exact hi | exact ub_l hi | exact ub_r hi | exact JAf hi | exact JAd hi)
  simp only [ev,evT,evA,evI,ha.1,hb.1,and_self]
 | isN a n iha =>
  intro δ δ' h
  have ha:=iha δ δ' fun i hi=>h i (by first | exact hi | exact ub_l hi | exact ub_r hi | exact JAf hi | exact JAd hi)
  simp only [ev,evT,evA,evI,ha.1,and_self]
 | isB a n iha =>
  intro δ δ' h
  have ha:=iha δ δ' fun i hi=>h i (by first | exact hi | exact ub_l hi | exact ub_r hi | exact JAf hi | exact JAd hi)
  simp only [ev,evT,evA,evI,ha.1,and_self]
 | ife c a b ihc iha ihb =>
  intro δ δ' h
  have hc:=ihc δ δ' fun i hi=>h i (by first | exact hi | exact ub_l hi | exact ub_r hi | exact JAf hi | exact JAd hi)
  have ha:=iha δ δ' fun i hi=>h i (by first | exact hi | exact ub_l hi | exact ub_r hi | exact JAf hi | exact JAd hi)
  have hb:=ihb δ δ' fun i hi=>h i (by first | exact hi | exact ub_l hi | exact ub_r hi | exact JAf hi | exact JAd hi)
  simp only [ev,evT,evA,evI,ha.1,hb.1,hc.2.1,and_self]
 | cons a r iha ihr =>
  intro δ δ' h
  have ha:=iha δ δ' fun i hi=>h i (by first | exact hi | exact ub_l hi | exact ub_r hi | exact JAf hi | exact JAd hi)
  have hr:=ihr δ δ' fun i hi=>h i (by first | exact hi | exact ub_l hi | exact ub_r hi | exact JAf hi | exact JAd hi)
  simp only [ev,evT,evA,evI,ha.1,hr.2.2.1,and_self]
 | tup es ih =>
  intro δ δ' h
  have ha:=ih δ δ' fun i hi=>h i (by first | exact hi | exact ub_l hi | exact ub_r hi | exact JAf hi | exact JAd hi)
  simp only [ev,evT,evA,evI,ha.2.2.1,and_self]
 | lst es ih =>
  intro δ δ' h
  have ha:=ih δ δ' fun i hi=>h i (by first | exact hi | exact ub_l hi | exact ub_r hi | exact JAf hi | exact JAd hi)
  simp only [ev,evT,evA,evI,ha.2.2.1,and_self]
 | fn1 o a iha =>
  intro δ δ' h
  have ha:=iha δ δ' fun i hi=>h i (by first | exact hi | exact ub_l hi | exact ub_r hi | exact JAf hi | exact JAd hi)
  simp only [ev,evT,evA,evI,ha.1,and_self]
 | xop k es ih =>
  intro δ δ' h
  have ha:=ih δ δ' fun i hi=>h i (by first | exact hi | exact ub_l hi | exact ub_r hi | exact JAf hi | exact JAd hi)
  simp only [ev,evT,evA,evI,ha.2.2.1,and_self]
 | isnB a n iha =>
  intro δ δ' h
  have ha:=iha δ δ' fun i hi=>h i (by first | exact hi | exact ub_l hi | exact ub_r hi | exact JAf hi | exact JAd hi)
  simp only [ev,evT,evA,evI,ha.1,and_self]
 | dct ks es ih =>
  intro δ δ' h
  have ha:=ih δ δ' fun i hi=>h i (by first | exact hi | exact ub_l hi | exact ub_r hi | exact JAf hi | exact JAd hi)
  simp only [ev,evT,evA,evI,ha.2.2.1,and_self]
 | rep k es ih =>
  intro δ δ' h
  have ha:=ih δ δ' fun i hi=>h i (by first | exact hi | exact ub_l hi | exact ub_r hi | exact JAf hi | exact JAd hi)
  simp only [ev,evT,evA,evI,ha.2.2.1,and_self]
 | idx a b iha ihb =>
  intro δ δ' h
  have ha:=iha δ δ' fun i hi=>h i (by first | exact hi | exact ub_l hi | exact ub_r hi | exact JAf hi | exact JAd hi)
  have hb:=ihb δ δ' fun i hi=>h i (by first | exact hi | exact ub_l hi | exact ub_r hi | exact JAf hi | exact JAd hi)
  simp only [ev,evT,evA,evI,ha.1,hb.1,and_self]
 | call f es ih =>
  intro δ δ' h
  have ha:=ih δ δ' fun i hi=>h i (by first | exact hi | exact ub_l hi | exact ub_r hi | exact JAf hi | exact JAd hi)
  simp only [ev,evT,evA,evI,ha.2.2.1,and_self]
 | blt b es ih =>
  intro δ δ' h
  have ha:=ih δ δ' fun i hi=>h i (by first | exact hi | exact ub_l hi | exact ub_r hi | exact JAf hi | exact JAd hi)
  simp only [ev,evT,evA,evI,ha.2.2.1,and_self]
 | rng es ih =>
  intro δ δ' h
  have ha:=ih δ δ' fun i hi=>h i (by first | exact hi | exact ub_l hi | exact ub_r hi | exact JAf hi | exact JAd hi)
  simp only [ev,evT,evA,evI,ha.2.2.1,and_self]
 | isi a t iha =>
  intro δ δ' h
  have ha:=iha δ δ' fun i hi=>h i (by first | exact hi | exact ub_l hi | exact ub_r hi | exact JAf hi | exact JAd hi)
  simp only [ev,evT,evA,evI,ha.1,and_self]
 | mcount a b iha ihb =>
  intro δ δ' h
  have ha:=iha δ δ' fun i hi=>h i (by first | exact hi | exact ub_l hi | exact ub_r hi | exact JAf hi | exact JAd hi)
  have hb:=ihb δ δ' fun i hi=>h i (by first | exact hi | exact ub_l hi | exact ub_r hi | exact JAf hi | exact JAd hi)
  simp only [ev,evT,evA,evI,ha.1,hb.1,and_self]
 | mindex a b iha ihb =>
  intro δ δ' h
  have ha:=iha δ δ' fun i hi=>h i (by first | exact hi | exact ub_l hi | exact ub_r hi | exact JAf hi | exact JAd hi)
  have hb:=ihb δ δ' fun i hi=>h i (by first | exact hi | exact ub_l hi | exact ub_r hi | exact JAf hi | exact JAd hi)
  simp only [ev,evT,evA,evI,ha.1,hb.1,and_self]
 | mget a b c iha ihb ihc =>
  intro δ δ' h
  have ha:=iha δ δ' fun i hi=>h i (by first | exact hi | exact ub_l hi | exact ub_r hi | exact JAf hi | exact JAd hi)
  have hb:=ihb δ δ' fun i hi=>h i (by first | exact hi | exact ub_l hi | exact ub_r hi | exact JAf hi | exact JAd hi)
  have hc:=ihc δ δ' fun i hi=>h i (by first | exact hi | exact ub_l hi | exact ub_r hi | exact JAf hi | exact JAd hi)
  simp only [ev,evT,evA,evI,ha.1,hb.1,hc.1,and_self]
 | cmpr k elt iter cond ihe ihi ihc =>
  intro δ δ' h
  have hi:=ihi δ δ' fun i hi=>h i (by first | exact hi | exact ub_l hi | exact ub_r hi | exact JAf hi | exact JAd hi)
  refine ⟨?_,by simp only [evT],by simp only [evA],by simp only [evI]⟩
  simp only [ev,hi.2.2.2]
  congr 1
  funext xs
  congr 2
  congr 1
  funext d
  cases q:push k d δ with
  | ok δ1 =>
   obtain ⟨δ1',q',ag⟩:=JKC (δ':=δ') q
   rw [q']
   have h1:=ihc δ1 δ1' (ag cond fun i hi=>h i (by exact ub_r hi))
   have h2:=ihe δ1 δ1' (ag elt fun i hi=>h i (by exact JAd hi))
   simp only [R.bind,h1.2.1,h2.1]
  | exc c=>exact (JJB q).elim
  | bad=>rw [JKU (δ':=δ') q]
abbrev Ow:=Nat->Option Addr
open Classical in
noncomputable def hidP (H:Hp) (P:Addr->Prop):Hp:=fun b=>if P b then none else H b
theorem JA6 {H:Hp} {P:Addr->Prop} {b:Addr} (h:P b):hidP H P b=none:=by unfold hidP;rw [if_pos h]
theorem JAI {H:Hp} {P:Addr->Prop} {b:Addr} (h:¬P b):hidP H P b=H b:=by unfold hidP;rw [if_neg h]
theorem JAv {H:Hp} {P:Addr->Prop} {b:Addr} {o:HO} (h:hidP H P b=some o):¬P b/\H b=some o:=by
 by_cases hp:P b
 ·rw [JA6 hp] at h;cases h
 ·rw [JAI hp] at h;exact ⟨hp,h⟩
open Classical in
noncomputable def mixP (H H1:Hp) (P:Addr->Prop):Hp:=fun b=>if P b then H b else H1 b
theorem JBs {H H1:Hp} {P:Addr->Prop} {b:Addr} (h:P b):mixP H H1 P b=H b:=by unfold mixP;rw [if_pos h]
theorem JAM {H H1:Hp} {P:Addr->Prop} {b:Addr} (h:¬P b):mixP H H1 P b=H1 b:=by unfold mixP;rw [if_neg h]
section
variable {X:Cx} {pins ps:List (Addr×Obj)} {σ:St} {H H1:Hp} {s s1:Shared} {P:Addr->Prop}
theorem JIm (I:Inv X pins σ H s) {a:Addr} {xs:List V} (h:H a=some (.lst xs)) (h0:X.H₀ a=none):a≠X.env.locals/\a ∉ X.fs:=by
 refine ⟨fun z=>(by rw [z,I.free] at h;cases h),fun z=>?_⟩
 obtain ⟨_,o,ho,_⟩:=I.ok.funs.mem z
 have:=I.base.free a o ho (I.ok.frf a z) fun q=>I.ok.exfs a q z
 rw [h] at this;cases this
theorem JBI (I:Inv X pins σ H s) (hP:∀a,P a->∃xs,H a=some (.lst xs)/\X.H₀ a=none) (hps:∀p∈ps,P p.1/\s.heap.get? p.1=some p.2):Inv X (pins++ps) σ (hidP H P) s where
 ok:=I.ok
 os:=I.os
 bare:=I.bare
 base:=by
  have nP:∀b u,H b=some u->(∀xs,u≠.lst xs)->¬P b:=fun b u e hu hp=>by
   obtain ⟨xs,h1,_⟩:=hP b hp
   rw [e] at h1;cases h1;exact hu xs rfl
  refine ⟨I.base.keep,I.base.slot,fun b o e n hx=>?_,I.base.there,fun b xs e=>?_,fun b o u e=>?_,fun b t e=>?_⟩
  ·have:=I.base.free b o e n hx
   by_cases hp:P b
   ·exact JA6 hp
   ·rw [JAI hp];exact this
  ·have q:=I.base.tups b xs e
   rw [JAI (nP b _ q fun _ z=>by cases z)];exact q
  ·have q:=I.base.frzs b o u e
   rw [JAI (nP b _ q fun _ z=>by cases z)];exact q
  ·obtain ⟨m,q⟩:=I.base.tbls b t e
   exact ⟨m,by rw [JAI (nP b _ q fun _ z=>by cases z)];exact q⟩
 loc:=I.loc
 cell:=I.cell
 free:=by
  by_cases hp:P X.env.locals
  ·exact JA6 hp
  ·rw [JAI hp];exact I.free
 freeC:=fun x c e=>by
  by_cases hp:P c
  ·exact JA6 hp
  ·rw [JAI hp];exact I.freeC x c e
 pin:=fun p hp=>by
  have old:∀p∈X.pn++pins,s.heap.get? p.1=some p.2/\hidP H P p.1=none/\p.1≠X.env.locals/\p.1 ∉ X.fs/\∀v,p.2.data≠.cell v:=fun p hp=>by
   obtain ⟨h1,h2,h3⟩:=I.pin p hp
   refine ⟨h1,?_,h3⟩
   by_cases hq:P p.1
   ·exact JA6 hq
   ·rw [JAI hq];exact h2
  rcases List.mem_append.mp hp with z | z
  ·exact old p (List.mem_append_left _ z)
  ·rcases List.mem_append.mp z with z | z
   ·exact old p (q_r _ z)
   ·obtain ⟨hq,ho⟩:=hps p z
    obtain ⟨xs,h1,h0⟩:=hP _ hq
    obtain ⟨n1,n2⟩:=JIm I h1 h0
    refine ⟨ho,JA6 hq,n1,n2,fun v e=>?_⟩
    obtain ⟨_,its,n,_,e2⟩:=I.hok _ _ h1
    rw [ho] at e2
    have e3:p.2={ cls:=.type "list",data:=.seq its.toArray n }:=Option.some.inj e2
    rw [e3] at e
    have e4:Data.seq its.toArray n=Data.cell v:=e
    cases e4
 hok:=fun b u e=>by
  obtain ⟨hb,e⟩:=JAv e
  refine (I.hok b u e).stay (fun c w _ q=>q) (fun c q=>?_) fun c xs q=>?_
  ·rw [JAI fun hc=>by obtain ⟨xs,h1,_⟩:=hP c hc;rw [q] at h1;cases h1];exact q
  ·rw [JAI fun hc=>by obtain ⟨ys,h1,_⟩:=hP c hc;rw [q] at h1;cases h1];exact q
 len:=I.len
theorem JAr {σ':St} (I:Inv X pins σ H s) (J:Inv X (pins++ps) σ' H1 s1) (hP:∀a,P a->∃xs,H a=some (.lst xs)/\X.H₀ a=none) (hps:∀a,P a->∃o,(a,o)∈ps/\s.heap.get? a=some o) :
  Inv X pins σ' (mixP H H1 P) s1/\∀a,P a->H1 a=none:=by
 have hpin:∀a,P a->∃o,s1.heap.get? a=some o/\H1 a=none/\s.heap.get? a=some o:=fun a ha=>by
  obtain ⟨o,hm,ho⟩:=hps a ha
  obtain ⟨h1,h2,_⟩:=J.pin (a,o) (q_r _ (q_r _ hm))
  exact ⟨o,h1,h2,ho⟩
 have nP:∀b u,H1 b=some u->¬P b:=fun b u e hp=>by obtain ⟨_,_,h,_⟩:=hpin b hp;rw [e] at h;cases h
 have nS:∀b o,X.s₀.heap.get? b=some o->X.H₀ b=none->b ∉ X.ex->¬P b:=fun b o e n hx hp=>by
  obtain ⟨xs,h1,_⟩:=hP b hp
  have:=I.base.free b o e n hx
  rw [h1] at this;cases this
 refine ⟨⟨J.ok,J.os,J.bare,⟨J.base.keep,J.base.slot,fun b o e n hx=>?_,J.base.there,fun b xs e=>?_,fun b o u e=>?_,fun b t e=>?_⟩,J.loc,J.cell,?_,fun x c e=>?_,fun p hp=>?_,fun b u e=>?_,J.len⟩,fun a ha=>?_⟩
 ·rw [JAM (nS b o e n hx)];exact J.base.free b o e n hx
 ·have q:=J.base.tups b xs e
  rw [JAM (nP b _ q)];exact q
 ·have q:=J.base.frzs b o u e
  rw [JAM (nP b _ q)];exact q
 ·obtain ⟨m,q⟩:=J.base.tbls b t e
  exact ⟨m,by rw [JAM (nP b _ q)];exact q⟩
 ·rw [JAM fun hp=>by obtain ⟨xs,h1,_⟩:=hP _ hp;rw [I.free] at h1;cases h1];exact J.free
 ·rw [JAM fun hp=>by obtain ⟨xs,h1,_⟩:=hP _ hp;rw [I.freeC x c e] at h1;cases h1];exact J.freeC x c e
 ·have hp':p∈X.pn++(pins++ps):=by
   rcases List.mem_append.mp hp with z | z
   ·exact List.mem_append_left _ z
   ·exact q_r _ (List.mem_append_left _ z)
  obtain ⟨h1,h2,h3⟩:=J.pin p hp'
  refine ⟨h1,?_,h3⟩
  rw [JAM fun hq=>by
   obtain ⟨xs,g1,_⟩:=hP _ hq
   have:=(I.pin p hp).2.1
   rw [g1] at this;cases this]
  exact h2
 ·by_cases hb:P b
  ·rw [JBs hb] at e
   obtain ⟨xs,h1,_⟩:=hP b hb
   rw [h1] at e;cases e
   obtain ⟨o,g1,_,g3⟩:=hpin b hb
   obtain ⟨z,its,n,r,e2⟩:=I.hok b _ h1
   rw [g3] at e2;cases e2
   exact ⟨z,its,n,r,g1⟩
  ·rw [JAM hb] at e
   refine (J.hok b u e).stay (fun c w _ q=>q) (fun c q=>?_) fun c xs q=>?_
   ·rw [JAM (nP c _ q)];exact q
   ·rw [JAM (nP c _ q)];exact q
 ·obtain ⟨_,_,h,_⟩:=hpin a ha;exact h
end
noncomputable def ownP (O:Ow) (b:Addr):Prop:=∃i,O i=some b
noncomputable abbrev hid (H:Hp) (O:Ow):Hp:=hidP H (ownP O)
noncomputable def JAN (B:Bs) (H₀ H:Hp) (O:Ow) (σ:St) (i:Nat):Option Sl->Prop
 | some (.own d)=>∃a ds xs,O i=some a/\d=.list ds/\σ[i]? = some (some (.ref a))/\H a=some (.lst xs)/\H₀ a=none/\DenL B (hid H O) ds xs
 | some (.val d)=>O i=none/\∃v,σ[i]? = some (some v)/\Den B (hid H O) d v
 | _=>O i=none
structure SO (B:Bs) (H₀:Hp) (σ:St) (H:Hp) (δ:Env) (O:Ow):Prop where
 len:σ.length=δ.length
 same:Same H₀ H
 inj:∀i j a,O i=some a->O j=some a->i=j
 slot:∀i,JAN B H₀ H O σ i δ[i]?
noncomputable def JAY (x:E):Nat->Env->Env
 | _,[]=>[]
 | i,s::r=>(if x.uses i=true then s else if s.isOwn=true then .no else s)::JAY x (i+1) r
theorem JCW (x:E):∀(δ:Env) (k i:Nat),(JAY x k δ)[i]? = (δ[i]?).map fun s=>if x.uses (k+i)=true then s else if s.isOwn=true then .no else s
 | [],_,_=>by simp [JAY]
 | s::r,k,0=>by simp [JAY]
 | s::r,k,i+1=>by
  have:=JCW x r (k+1) i
  rw [show k+1+i=k+(i+1) by omega] at this
  simpa [JAY] using this
theorem JEP (x:E):∀(δ:Env) (k i:Nat),(JAn x k δ)[i]? = (δ[i]?).map fun s=>if x.uses (k+i)=true then s.frz else s
 | [],_,_=>by simp [JAn]
 | s::r,k,0=>by simp [JAn]
 | s::r,k,i+1=>by
  have:=JEP x r (k+1) i
  rw [show k+1+i=k+(i+1) by omega] at this
  simpa [JAn] using this
theorem JEH (x:E):∀(δ:Env) (k:Nat),(JAn x k δ).length=δ.length
 | [],_=>rfl
 | s::r,k=>by simp only [JAn,List.length_cons,JEH x r]
theorem JBc (x:E):∀(δ:Env) (k i:Nat) (s:Sl),JAK x k δ=false->δ[i]? = some s->x.uses (k+i)=true->s.isOwn=false
 | [],_,_,_,_,e,_=>by simp at e
 | s::r,k,0,t,h,e,hu=>by
  unfold JAK at h
  simp only [Bool.or_eq_false_iff,Bool.and_eq_false_iff] at h
  simp only [List.getElem?_cons_zero,q_j] at e
  subst e
  rcases h.1 with z | z
  ·rw [Nat.add_zero] at hu;rw [hu] at z;cases z
  ·exact z
 | s::r,k,i+1,t,h,e,hu=>by
  unfold JAK at h
  simp only [Bool.or_eq_false_iff] at h
  exact JBc x r (k+1) i t h.2 (by simpa using e) (by rw [show k+1+i=k+(i+1) by omega];exact hu)
mutual
theorem JDR {B:Bs} {H1 H2:Hp} (hk:∀b o,H1 b=some o->(∀xs,o≠.lst xs)->H2 b=some o):∀(d:D) (v:V),JAQ d=true->Den B H1 d v->Den B H2 d v
 | .none,_,_,h=>h
 | .bool _,_,_,h=>h
 | .int _,_,_,h=>h
 | .str _,_,_,h=>h
 | .list _,_,n,_=>by simp only [JAQ] at n;cases n
 | .tuple ds,v,n,h=>by
  simp only [Den] at h ⊢
  obtain ⟨a,xs,e,q,l⟩:=h
  refine ⟨a,xs,e,?_,JCB hk ds xs (by simpa only [JAQ] using n) l⟩
  rcases q with (q | ⟨o,q⟩) | q
  ·exact .inl (.inl (hk _ _ q fun _ z=>by cases z))
  ·exact .inl (.inr ⟨o,hk _ _ q fun _ z=>by cases z⟩)
  ·exact .inr q
 | .dict kvs,v,n,h=>by
  simp only [Den] at h ⊢
  rcases h with ⟨a,c,e,k,q⟩ | ⟨a,xs,e,q,l⟩
  ·exact .inl ⟨a,c,e,k,hk _ _ q fun _ z=>by cases z⟩
  ·exfalso
   match kvs,n,l with
   | [],n,_=>simp [JAQ] at n
   |(k,w)::r,n,l =>
    simp only [DenK] at l
    obtain ⟨x,v',r',_,ek,_⟩:=l
    subst ek
    simp [JAQ] at n
theorem JCB {B:Bs} {H1 H2:Hp} (hk:∀b o,H1 b=some o->(∀xs,o≠.lst xs)->H2 b=some o):∀(ds:List D) (vs:List V),JBf ds=true->DenL B H1 ds vs->DenL B H2 ds vs
 | [],_,_,h=>h
 | d::ds,vs,n,h=>by
  simp only [DenL] at h ⊢
  simp only [JBf,q_i] at n
  obtain ⟨v,r,e,q,l⟩:=h
  exact ⟨v,r,e,JDR hk d v n.1 q,JCB hk ds r n.2 l⟩
end
section
variable {X:Cx} {B:Bs} {C:Cn} {CX:CXT} {XX:Nat->Hp->Prop} {G:List (Str×GK)} {pins:List (Addr×Obj)} {σ:St} {H:Hp} {s:Shared} {δ:Env} {O:Ow} {x:E} {Hb:Hp}
noncomputable def unP (x:E) (O:Ow) (b:Addr):Prop:=∃i,O i=some b/\x.uses i=false
theorem SO.own (so:SO B Hb σ H δ O) {i:Nat} {a:Addr} (h:O i=some a):∃ds xs,δ[i]? = some (.own (.list ds))/\σ[i]? = some (some (.ref a))/\H a=some (.lst xs)/\Hb a=none/\DenL B (hid H O) ds xs:=by
 have q:=so.slot i
 cases e:δ[i]? with
 | none=>rw [e] at q;simp only [JAN] at q;rw [h] at q;cases q
 | some t =>
  rw [e] at q
  cases t with
  | no=>simp only [JAN] at q;rw [h] at q;cases q
  | val d=>simp only [JAN] at q;rw [h] at q;cases q.1
  | own d =>
   simp only [JAN] at q
   obtain ⟨a',ds,xs,e1,e2,e3,e4,e5,e6⟩:=q
   rw [h] at e1;cases e1
   subst e2
   exact ⟨ds,xs,rfl,e3,e4,e5,e6⟩
noncomputable def JCL (x:E) (O:Ow) (n:Nat) (h:Heap):List (Addr×Obj) :=
 (List.range n).filterMap fun i=>match O i with
   | some a=>if x.uses i=true then none else (h.get? a).map fun o=>(a,o)
   | none=>none
theorem JAt (hb:Same X.H₀ Hb) (so:SO B Hb σ H δ O):∀a,unP x O a->∃xs,H a=some (.lst xs)/\X.H₀ a=none:=fun a ⟨i,h,_⟩=>by
 obtain ⟨ds,xs,_,_,e4,e5,_⟩:=so.own h
 exact ⟨xs,e4,hb.free e5⟩
theorem JA1 {n:Nat} {h:Heap}:∀p∈JCL x O n h,unP x O p.1/\h.get? p.1=some p.2:=fun p hp=>by
 obtain ⟨i,_,e⟩:=List.mem_filterMap.mp hp
 cases q:O i with
 | none=>rw [q] at e;cases e
 | some a =>
  rw [q] at e
  simp only at e
  split at e
  ·cases e
  ·rename_i hu
   obtain ⟨o,ho,e2⟩:=q_d.mp e
   subst e2
   exact ⟨⟨i,q,by simpa using hu⟩,ho⟩
theorem JAs (I:Inv X pins σ H s) (so:SO B Hb σ H δ O):∀a,unP x O a->∃o,(a,o)∈JCL x O δ.length s.heap/\s.heap.get? a=some o:=fun a ⟨i,h,hu⟩=>by
 obtain ⟨ds,xs,e1,_,e4,_,_⟩:=so.own h
 obtain ⟨_,its,n,_,ho⟩:=I.hok a _ e4
 refine ⟨_,List.mem_filterMap.mpr ⟨i,List.mem_range.mpr (q_p.mp e1).1,?_⟩,ho⟩
 rw [h]
 simp only [hu,q_v,if_false,ho,Option.map_some]
theorem JAq (so:SO B Hb σ H δ O):Same Hb (hid H O):=fun b o e=>by
 rw [hid,JAI fun ⟨i,h⟩=>by obtain ⟨_,_,_,_,_,e5,_⟩:=so.own h;rw [e] at e5;cases e5]
 exact so.same b o e
theorem same_un:Same (hid H O) (hidP H (unP x O)):=fun b o e=>by
 obtain ⟨h1,h2⟩:=JAv e
 rw [JAI fun ⟨i,h,_⟩=>h1 ⟨i,h⟩]
 exact h2
theorem JAi (so:SO B Hb σ H δ O):Sok B σ (hidP H (unP x O)) (JAY x 0 δ):=fun i d e=>by
 unfold look at e
 rw [JCW,Nat.zero_add] at e
 have q:=so.slot i
 cases e1:δ[i]? with
 | none=>rw [e1] at e;cases e
 | some t =>
  rw [e1] at e q
  simp only [Option.map_some] at e
  cases t with
  | no =>
   simp only [Sl.isOwn,q_v,if_false,ite_self,Sl.get] at e
   cases e
  | val d' =>
   simp only [Sl.isOwn,q_v,if_false,ite_self,Sl.get] at e
   cases e
   simp only [JAN] at q
   obtain ⟨_,v,e2,dn⟩:=q
   exact ⟨v,e2,Den.mono same_un d v dn⟩
  | own d' =>
   by_cases hu:x.uses i=true
   ·rw [if_pos hu] at e
    simp only [Sl.get] at e
    cases e
    simp only [JAN] at q
    obtain ⟨a,ds,xs,q1,q2,q3,q4,q5,q6⟩:=q
    subst q2
    refine ⟨_,q3,?_⟩
    simp only [Den]
    refine ⟨a,xs,rfl,SqL.of ?_,DenL.mono same_un ds xs q6⟩
    rw [JAI fun ⟨j,hj,hu2⟩=>by
     have:=so.inj i j a q1 hj
     subst this
     rw [hu] at hu2;cases hu2]
    exact q4
   ·rw [if_neg hu] at e
    simp only [Sl.isOwn,if_true,Sl.get] at e
    cases e
theorem JBe:Agr x δ (JAY x 0 δ):=fun i hi=>by
 rw [JCW,Nat.zero_add]
 cases δ[i]? with
 | none=>rfl
 | some t=>simp [hi]
theorem JCu (so:SO B Hb σ H δ O) {H1:Hp} (sm:Same (hidP H (unP x O)) H1) (hz:∀a,unP x O a->H1 a=none):SO B Hb σ (mixP H H1 (unP x O)) δ O:=by
 have s1:Same (hid H O) (hid (mixP H H1 (unP x O)) O):=fun b o e=>by
  obtain ⟨h1,h2⟩:=JAv e
  rw [hid,JAI h1,JAM fun ⟨i,h,_⟩=>h1 ⟨i,h⟩]
  exact sm b o (by rw [JAI fun ⟨i,h,_⟩=>h1 ⟨i,h⟩];exact h2)
 refine ⟨so.len,fun b o e=>?_,so.inj,fun i=>?_⟩
 ·have e1:=JAq so b o e
  obtain ⟨_,h2⟩:=JAv (s1 b o e1)
  exact h2
 ·have q:=so.slot i
  cases e1:δ[i]? with
  | none=>rw [e1] at q;exact q
  | some t =>
   rw [e1] at q
   cases t with
   | no=>exact q
   | val d =>
    simp only [JAN] at q ⊢
    obtain ⟨h0,v,e2,dn⟩:=q
    exact ⟨h0,v,e2,Den.mono s1 d v dn⟩
   | own d =>
    simp only [JAN] at q ⊢
    obtain ⟨a,ds,xs,q1,q2,q3,q4,q5,q6⟩:=q
    refine ⟨a,ds,xs,q1,q2,q3,?_,q5,DenL.mono s1 ds xs q6⟩
    by_cases hp:unP x O a
    ·rw [JBs hp];exact q4
    ·rw [JAM hp]
     exact sm a _ (by rw [JAI hp];exact q4)
noncomputable def frzO (x:E) (O:Ow):Ow:=fun i=>if x.uses i=true then none else O i
theorem ownP_frz {b:Addr}:ownP (frzO x O) b↔unP x O b:=by
 constructor
 ·rintro ⟨i,h⟩
  unfold frzO at h
  split at h
  ·cases h
  ·rename_i hu;exact ⟨i,h,by simpa using hu⟩
 ·rintro ⟨i,h,hu⟩
  exact ⟨i,by unfold frzO;rw [if_neg (by rw [hu];exact Bool.false_ne_true)];exact h⟩
theorem JA8 {H1:Hp} (hz:∀a,unP x O a->H1 a=none):Same H1 (hid (mixP H H1 (unP x O)) (frzO x O)):=fun b o e=>by
 have hb:¬unP x O b:=fun h=>by rw [hz b h] at e;cases e
 rw [hid,JAI (fun h=>hb (ownP_frz.mp h)),JAM hb]
 exact e
theorem JFo (so:SO B Hb σ H δ O) {H1:Hp} (sm:Same (hidP H (unP x O)) H1) (hz:∀a,unP x O a->H1 a=none):SO B Hb σ (mixP H H1 (unP x O)) (JAn x 0 δ) (frzO x O):=by
 have s1:Same (hid H O) (hid (mixP H H1 (unP x O)) (frzO x O)):=(same_un.trans sm).trans (JA8 hz)
 have k:=JCu so sm hz
 refine ⟨by rw [JEH];exact so.len,k.same,fun i j a h1 h2=>?_,fun i=>?_⟩
 ·unfold frzO at h1 h2
  split at h1
  ·cases h1
  ·split at h2
   ·cases h2
   ·exact so.inj i j a h1 h2
 ·rw [JEP,Nat.zero_add]
  have q:=so.slot i
  cases e1:δ[i]? with
  | none=>rw [e1] at q;simp only [JAN,Option.map_none] at q ⊢;unfold frzO;split<;>first | rfl | exact q
  | some t =>
   rw [e1] at q
   simp only [Option.map_some]
   cases t with
   | no =>
    simp only [Sl.frz,ite_self,JAN] at q ⊢
    unfold frzO;split<;>first | rfl | exact q
   | val d =>
    simp only [Sl.frz,ite_self,JAN] at q ⊢
    obtain ⟨h0,v,e2,dn⟩:=q
    exact ⟨by unfold frzO;split<;>first | rfl | exact h0,v,e2,Den.mono s1 d v dn⟩
   | own d =>
    by_cases hu:x.uses i=true
    ·rw [if_pos hu]
     simp only [Sl.frz,JAN] at q ⊢
     obtain ⟨a,ds,xs,q1,q2,q3,q4,q5,q6⟩:=q
     subst q2
     refine ⟨by unfold frzO;rw [if_pos hu],_,q3,?_⟩
     simp only [Den]
     refine ⟨a,xs,rfl,SqL.of ?_,DenL.mono s1 ds xs q6⟩
     have hp:¬unP x O a:=fun ⟨j,hj,hu2⟩=>by
      have:=so.inj i j a q1 hj
      subst this
      rw [hu] at hu2;cases hu2
     exact JA8 hz a _ (sm a _ (by rw [JAI hp];exact q4))
    ·rw [if_neg hu]
     simp only [JAN] at q ⊢
     obtain ⟨a,ds,xs,q1,q2,q3,q4,q5,q6⟩:=q
     have hp:unP x O a:=⟨i,q1,by simpa using hu⟩
     refine ⟨a,ds,xs,by unfold frzO;rw [if_neg hu];exact q1,q2,q3,by rw [JBs hp];exact q4,q5,DenL.mono s1 ds xs q6⟩
theorem JJ3 (so:SO B Hb σ H δ O) {H1:Hp} {d:D} {v:V} (sm:Same (hidP H (unP x O)) H1) (hz:∀a,unP x O a->H1 a=none) (dn:Den B H1 d v) :
  ∃O',SO B Hb σ (mixP H H1 (unP x O)) (after x d δ) O'/\Den B (hid (mixP H H1 (unP x O)) O') d v:=by
 unfold after
 split
 ·exact ⟨_,JFo so sm hz,Den.mono (JA8 hz) d v dn⟩
 ·rename_i hb
  refine ⟨O,JCu so sm hz,?_⟩
  cases hu:JAK x 0 δ with
  | false =>
   refine Den.mono (fun b o e=>?_) d v dn
   have hb':¬unP x O b:=fun h=>by rw [hz b h] at e;cases e
   have hb2:¬ownP O b:=fun ⟨i,h⟩=>by
    obtain ⟨ds,xs,e1,_⟩:=so.own h
    refine hb' ⟨i,h,?_⟩
    cases q:x.uses i with
    | false=>rfl
    | true =>
     have:=JBc x δ 0 i _ hu e1 (by rw [Nat.zero_add];exact q)
     cases this
   rw [hid,JAI hb2,JAM hb']
   exact e
  | true =>
   have hl:JAQ d=true:=by
    rw [hu] at hb
    cases q:JAQ d with
    | true=>rfl
    | false=>rw [q] at hb;exact absurd rfl hb
   refine JDR (fun b o e ho=>?_) d v hl dn
   have hb':¬unP x O b:=fun h=>by rw [hz b h] at e;cases e
   have hb2:¬ownP O b:=fun ⟨i,h⟩=>by
    obtain ⟨ds,xs,_,_,e4,_⟩:=so.own h
    have:=sm b _ (by rw [JAI hb'];exact e4)
    rw [e] at this
    exact ho xs (Option.some.inj this)
   rw [hid,JAI hb2,JAM hb']
   exact e
noncomputable def RS (X:Cx) (B:Bs) (C:Cn) (XX:Nat->Hp->Prop) (x:E):TE:=fun σ H Q=>∃δ O Hb,Same X.H₀ Hb/\SO B Hb σ H δ O/\(match ev C x δ with
 | .ok d=>∀v H' O',SO B Hb σ H' (after x d δ) O'->Den B (hid H' O') d v->Q v H'
 | .exc c=>XX c Hb
 | .bad=>False)
noncomputable def RTS (X:Cx) (B:Bs) (C:Cn) (XX:Nat->Hp->Prop) (x:E):TT:=fun σ H Q=>∃δ O Hb,Same X.H₀ Hb/\SO B Hb σ H δ O/\(match evT C x δ with
 | .ok b=>∀H',SO B Hb σ H' δ O->Q b H'
 | .exc c=>XX c Hb
 | .bad=>False)
noncomputable def RIS (X:Cx) (B:Bs) (C:Cn) (XX:Nat->Hp->Prop) (x:E):TI:=fun σ H Q=>∃δ O Hb,Same X.H₀ Hb/\SO B Hb σ H δ O/\(match evI C x δ with
 | .ok ds=>∀J H' O',SO B Hb σ H' (JAn x 0 δ) O'->ItOk B J (hid H' O') ds->Q J H'
 | .exc c=>XX c Hb
 | .bad=>False)
theorem JG1 (g:Gk X B C CX XX G) {e:Expr} (he:PE X e (RE B C XX x)):PE X e (RS X B C XX x):=by
 intro pins s σ H Q I ⟨δ,O,Hb,hb,so,k⟩
 have J0:=JBI (ps:=JCL x O δ.length s.heap) I (JAt (x:=x) hb so) JA1
 have hev:=(agree C x δ (JAY x 0 δ) JBe).1
 cases q:ev C x δ with
 | ok d =>
  rw [q] at k
  refine thn (he _ s σ _ (fun v H1=>Same (hidP H (unP x O)) H1/\Den B H1 d v) J0 ⟨JAY x 0 δ,JAi so,by rw [<-hev,q];exact fun v H1 s1 d1=>⟨s1,d1⟩⟩) fun u s1 ⟨v,H1,J,r,sm,dn⟩=>?_
  obtain ⟨I',hz⟩:=JAr I J (JAt hb so) (JAs I so)
  obtain ⟨O',so',dn'⟩:=JJ3 so sm hz dn
  exact ⟨v,_,I',r,k v _ O' so' dn'⟩
 | exc c =>
  rw [q] at k
  exact thn (he _ s σ _ (fun v H1=>False) J0 ⟨JAY x 0 δ,JAi so,by rw [<-hev,q];exact g.anti c _ _ ((JAq so).trans same_un) k⟩) fun u s1 ⟨v,H1,J,r,f⟩=>f.elim
 | bad=>rw [q] at k;exact k.elim
theorem JLa (g:Gk X B C CX XX G) {e:Expr} (he:PT X e (RT B C XX x)):PT X e (RTS X B C XX x):=by
 intro pins s σ H Q I ⟨δ,O,Hb,hb,so,k⟩
 have J0:=JBI (ps:=JCL x O δ.length s.heap) I (JAt (x:=x) hb so) JA1
 have hev:=(agree C x δ (JAY x 0 δ) JBe).2.1
 cases q:evT C x δ with
 | ok d =>
  rw [q] at k
  refine thn (he _ s σ _ (fun b H1=>b=d/\Same (hidP H (unP x O)) H1) J0 ⟨JAY x 0 δ,JAi so,by rw [<-hev,q];exact fun H1 s1=>⟨rfl,s1⟩⟩) fun u s1 ⟨H1,J,e,sm⟩=>?_
  subst e
  obtain ⟨I',hz⟩:=JAr I J (JAt hb so) (JAs I so)
  exact ⟨_,I',k _ (JCu so sm hz)⟩
 | exc c =>
  rw [q] at k
  exact thn (he _ s σ _ (fun v H1=>False) J0 ⟨JAY x 0 δ,JAi so,by rw [<-hev,q];exact g.anti c _ _ ((JAq so).trans same_un) k⟩) fun u s1 ⟨H1,J,f⟩=>f.elim
 | bad=>rw [q] at k;exact k.elim
theorem JLj (g:Gk X B C CX XX G) {tg e:Expr} (he:PI X tg e (RI B C XX x)):PI X tg e (RIS X B C XX x):=by
 intro pins s σ H Q I ⟨δ,O,Hb,hb,so,k⟩
 have J0:=JBI (ps:=JCL x O δ.length s.heap) I (JAt (x:=x) hb so) JA1
 have hev:=(agree C x δ (JAY x 0 δ) JBe).2.2.2
 cases q:evI C x δ with
 | ok ds =>
  rw [q] at k
  refine thn (he _ s σ _ (fun Jt H1=>Same (hidP H (unP x O)) H1/\ItOk B Jt H1 ds) J0 ⟨JAY x 0 δ,JAi so,by rw [<-hev,q];exact fun Jt H1 s1 d1=>⟨s1,d1⟩⟩) fun u s1 h1=>thn h1 fun itv s2 h2=>?_
  obtain ⟨it,fp,tn,Jt,H1,e,J,T,st,f,sm,io⟩:=h2
  obtain ⟨I',hz⟩:=JAr I J (JAt hb so) (JAs I so)
  refine ⟨it,fp,tn,Jt,_,e,I',T,st,fun b hb=>?_,k Jt _ _ (JFo so sm hz) fun H2 s2 i=>⟨fun d e=>⟨((io H2 ((JA8 hz).trans s2) i).1 d e).1,fun v H3 y=>(((io H2 ((JA8 hz).trans s2) i).1 d e).2 v H3 y).imp (fun q=>⟨q.1,Den.mono (JA8 hz) d v q.2⟩) fun ⟨p,xs,es,z1,z2,z3,z4,z5⟩=>⟨p,xs,es,z1,z2,z3,z4,DenL.mono (JA8 hz) _ _ z5⟩⟩,(io H2 ((JA8 hz).trans s2) i).2⟩⟩
  obtain ⟨f1,f2,f3,f4,f5,f6⟩:=f b hb
  refine ⟨?_,f2,f3,f4,f5,fun p hp=>f6 p ?_⟩
  ·rw [JAM fun hp=>by
    obtain ⟨o,hm,_⟩:=JAs I so b hp
    exact f6 (b,o) (q_r _ (q_r _ hm)) rfl]
   exact f1
  ·rcases List.mem_append.mp hp with z | z
   ·exact List.mem_append_left _ z
   ·exact q_r _ (List.mem_append_left _ z)
 | exc c =>
  rw [q] at k
  refine thn (he _ s σ _ (fun _ _=>False) J0 ⟨JAY x 0 δ,JAi so,by rw [<-hev,q];exact g.anti c _ _ ((JAq so).trans same_un) k⟩) fun u s1 h1=>thn h1 fun itv s2 h2=>?_
  obtain ⟨_,_,_,_,_,_,_,_,_,_,f⟩:=h2
  exact f.elim
 | bad=>rw [q] at k;exact k.elim
end
theorem same_hidP {H:Hp} {P:Addr->Prop}:Same (hidP H P) H:=fun b o e=>(JAv e).2
section
variable {X:Cx} {B:Bs} {C:Cn} {CX:CXT} {XX:Nat->Hp->Prop} {G:List (Str×GK)} {pins:List (Addr×Obj)} {σ:St} {H:Hp} {s:Shared} {δ:Env} {O:Ow} {x:E} {Hb Hb':Hp}
theorem SO.weak (so:SO B Hb' σ H δ O) (h:Same Hb Hb'):SO B Hb σ H δ O:=by
 refine ⟨so.len,h.trans so.same,so.inj,fun i=>?_⟩
 have q:=so.slot i
 cases e:δ[i]? with
 | none=>rw [e] at q;exact q
 | some t =>
  rw [e] at q
  cases t with
  | no=>exact q
  | val d=>exact q
  | own d =>
   simp only [JAN] at q ⊢
   obtain ⟨a,ds,xs,q1,q2,q3,q4,q5,q6⟩:=q
   exact ⟨a,ds,xs,q1,q2,q3,q4,h.free q5,q6⟩
theorem SO.base (so:SO B Hb σ H δ O):SO B (hid H O) σ H δ O:=by
 refine ⟨so.len,same_hidP,so.inj,fun i=>?_⟩
 have q:=so.slot i
 cases e:δ[i]? with
 | none=>rw [e] at q;exact q
 | some t =>
  rw [e] at q
  cases t with
  | no=>exact q
  | val d=>exact q
  | own d =>
   simp only [JAN] at q ⊢
   obtain ⟨a,ds,xs,q1,q2,q3,q4,q5,q6⟩:=q
   exact ⟨a,ds,xs,q1,q2,q3,q4,JA6 ⟨i,q1⟩,q6⟩
noncomputable def setO (O:Ow) (i:Nat) (a:Option Addr):Ow:=fun j=>if j=i then a else O j
theorem JAx {O:Ow} {i:Nat} {a:Option Addr}:setO O i a i=a:=if_pos rfl
theorem JAl {O:Ow} {i j:Nat} {a:Option Addr} (h:j≠i):setO O i a j=O j:=if_neg h
theorem JA7 {i:Nat}:Same (hid H O) (hid H (setO O i none)):=fun b o e=>by
 obtain ⟨h1,h2⟩:=JAv e
 rw [hid,JAI fun ⟨j,hj⟩=>h1 ⟨j,by
  by_cases hji:j=i
  ·subst hji;rw [JAx] at hj;cases hj
  ·rw [JAl hji] at hj;exact hj⟩]
 exact h2
theorem JHo (so:SO B Hb σ H δ O) {i:Nat} {d:D} {v:V} (dn:Den B (hid H O) d v):SO B Hb (σ.set i (some v)) H (δ.set i (.val d)) (setO O i none):=by
 refine ⟨by simpa using so.len,so.same,fun j k a h1 h2=>?_,fun j=>?_⟩
 ·by_cases hj:j=i
  ·subst hj;rw [JAx] at h1;cases h1
  ·by_cases hk:k=i
   ·subst hk;rw [JAx] at h2;cases h2
   ·rw [JAl hj] at h1;rw [JAl hk] at h2
    exact so.inj j k a h1 h2
 ·by_cases hj:j=i
  ·subst hj
   by_cases hl:j<δ.length
   ·rw [q_y hl]
    simp only [JAN]
    exact ⟨JAx,v,q_y (by rw [so.len];exact hl),Den.mono JA7 d v dn⟩
   ·rw [List.getElem?_eq_none_iff.mpr (by simpa using hl)]
    exact JAx
  ·rw [q_z (Ne.symm hj)]
   have q:=so.slot j
   cases e:δ[j]? with
   | none=>rw [e] at q;simp only [JAN] at q ⊢;rw [JAl hj];exact q
   | some t =>
    rw [e] at q
    cases t with
    | no=>simp only [JAN] at q ⊢;rw [JAl hj];exact q
    | val d' =>
     simp only [JAN] at q ⊢
     rw [JAl hj,q_z (Ne.symm hj)]
     obtain ⟨h0,w,e2,dn'⟩:=q
     exact ⟨h0,w,e2,Den.mono JA7 d' w dn'⟩
    | own d' =>
     simp only [JAN] at q ⊢
     rw [JAl hj,q_z (Ne.symm hj)]
     obtain ⟨a,ds,xs,q1,q2,q3,q4,q5,q6⟩:=q
     exact ⟨a,ds,xs,q1,q2,q3,q4,q5,DenL.mono JA7 ds xs q6⟩
theorem JEj (so:SO B Hb σ H δ O) {Da:Addr} {o:HO} (hD:H Da=none):SO B Hb σ (upd H Da o) δ O:=by
 have own:∀j a,O j=some a->∃xs,H a=some (.lst xs):=fun j a h=>by
  have q:=so.slot j
  cases e:δ[j]? with
  | none=>rw [e] at q;simp only [JAN] at q;rw [h] at q;cases q
  | some t =>
   rw [e] at q
   cases t with
   | no=>simp only [JAN] at q;rw [h] at q;cases q
   | val d=>simp only [JAN] at q;rw [h] at q;cases q.1
   | own d =>
    simp only [JAN] at q
    obtain ⟨a',ds',xs',e1,e2,e3,e4,_⟩:=q
    rw [h] at e1;cases e1
    exact ⟨xs',e4⟩
 have s1:Same (hid H O) (hid (upd H Da o) O):=fun b u e=>by
  obtain ⟨h1,h2⟩:=JAv e
  have hb:b≠Da:=fun z=>by rw [z,hD] at h2;cases h2
  rw [hid,JAI h1,JAG hb]
  exact h2
 refine ⟨so.len,so.same.trans (JBD hD),so.inj,fun j=>?_⟩
 have q:=so.slot j
 cases e:δ[j]? with
 | none=>rw [e] at q;exact q
 | some t =>
  rw [e] at q
  cases t with
  | no=>exact q
  | val d' =>
   simp only [JAN] at q ⊢
   obtain ⟨h0,w,e2,dn'⟩:=q
   exact ⟨h0,w,e2,Den.mono s1 d' w dn'⟩
  | own d' =>
   simp only [JAN] at q ⊢
   obtain ⟨a,ds',xs',q1,q2,q3,q4,q5,q6⟩:=q
   exact ⟨a,ds',xs',q1,q2,q3,by rw [JAG fun z=>by rw [z,hD] at q4;cases q4];exact q4,q5,DenL.mono s1 ds' xs' q6⟩
theorem JGi (so:SO B Hb σ H δ O) {i:Nat} (hil:i<δ.length) {Da:Addr} {ds:List D} {xs:List V} (hD:H Da=none) (dn:DenL B (hid H O) ds xs):SO B Hb (σ.set i (some (.ref Da))) (upd H Da (.lst xs)) (δ.set i (.own (.list ds))) (setO O i (some Da)):=by
 have nO:∀j a,O j=some a->a≠Da:=fun j a h z=>by
  subst z
  have q:=so.slot j
  cases e:δ[j]? with
  | none=>rw [e] at q;simp only [JAN] at q;rw [h] at q;cases q
  | some t =>
   rw [e] at q
   cases t with
   | no=>simp only [JAN] at q;rw [h] at q;cases q
   | val d=>simp only [JAN] at q;rw [h] at q;cases q.1
   | own d =>
    simp only [JAN] at q
    obtain ⟨a',ds',xs',e1,e2,e3,e4,_⟩:=q
    rw [h] at e1;cases e1
    rw [hD] at e4;cases e4
 have s1:Same (hid H O) (hid (upd H Da (.lst xs)) (setO O i (some Da))):=fun b o e=>by
  obtain ⟨h1,h2⟩:=JAv e
  have hb:b≠Da:=fun z=>by rw [z,hD] at h2;cases h2
  rw [hid,JAI fun ⟨j,hj⟩=>by
   by_cases hji:j=i
   ·subst hji;rw [JAx] at hj;exact hb (Option.some.inj hj).symm
   ·rw [JAl hji] at hj;exact h1 ⟨j,hj⟩,JAG hb]
  exact h2
 refine ⟨by simpa using so.len,so.same.trans (JBD hD),fun j k a h1 h2=>?_,fun j=>?_⟩
 ·by_cases hj:j=i
  ·subst hj
   rw [JAx] at h1
   by_cases hk:k=j
   ·exact hk.symm
   ·rw [JAl hk] at h2
    exact absurd (Option.some.inj h1).symm (nO k a h2)
  ·by_cases hk:k=i
   ·subst hk;rw [JAx] at h2;rw [JAl hj] at h1
    exact absurd (Option.some.inj h2).symm (nO j a h1)
   ·rw [JAl hj] at h1;rw [JAl hk] at h2
    exact so.inj j k a h1 h2
 ·by_cases hj:j=i
  ·subst hj
   by_cases hl:j<δ.length
   ·rw [q_y hl]
    simp only [JAN]
    exact ⟨Da,ds,xs,JAx,rfl,q_y (by rw [so.len];exact hl),JAH,so.same.free hD,DenL.mono s1 ds xs dn⟩
   ·exact absurd hil hl
  ·rw [q_z (Ne.symm hj)]
   have q:=so.slot j
   cases e:δ[j]? with
   | none=>rw [e] at q;simp only [JAN] at q ⊢;rw [JAl hj];exact q
   | some t =>
    rw [e] at q
    cases t with
    | no=>simp only [JAN] at q ⊢;rw [JAl hj];exact q
    | val d' =>
     simp only [JAN] at q ⊢
     rw [JAl hj,q_z (Ne.symm hj)]
     obtain ⟨h0,w,e2,dn'⟩:=q
     exact ⟨h0,w,e2,Den.mono s1 d' w dn'⟩
    | own d' =>
     simp only [JAN] at q ⊢
     rw [JAl hj,q_z (Ne.symm hj)]
     obtain ⟨a,ds',xs',q1,q2,q3,q4,q5,q6⟩:=q
     exact ⟨a,ds',xs',q1,q2,q3,by rw [JAG (nO j a q1)];exact q4,q5,DenL.mono s1 ds' xs' q6⟩
theorem JEi (so:SO B Hb σ H δ O) {i:Nat} {Da:Addr} {ds:List D} {xs:List V} (hD:H Da=none) (dn:DenL B (hid H O) ds xs):∃O',SO B Hb (σ.set i (some (.ref Da))) (upd H Da (.lst xs)) (δ.set i (.own (.list ds))) O':=by
 by_cases hi:i<δ.length
 ·exact ⟨_,JGi so hi hD dn⟩
 ·rw [List.set_eq_of_length_le (l:=σ) (by rw [so.len];omega),List.set_eq_of_length_le (l:=δ) (by omega)]
  exact ⟨O,JEj so hD⟩
theorem JGW (so:SO B Hb σ H δ O) {i:Nat} {a:Addr} {ds:List D} {xs:List V} (ha:O i=some a) (dn:DenL B (hid H O) ds xs):SO B Hb σ (upd H a (.lst xs)) (δ.set i (.own (.list ds))) O:=by
 have eh:hid (upd H a (.lst xs)) O=hid H O:=by
  funext b
  by_cases hb:ownP O b
  ·rw [hid,hid,JA6 hb,JA6 hb]
  ·rw [hid,hid,JAI hb,JAI hb,JAG fun z=>hb ⟨i,by rw [z];exact ha⟩]
 have own:=fun (j:Nat) (b:Addr) (h:O j=some b)=>so.inj i j
 have hq:=so.slot i
 obtain ⟨ds0,xs0,e1,e2,e3,e4⟩:∃ds0 xs0,δ[i]? = some (.own (.list ds0))/\σ[i]? = some (some (.ref a))/\H a=some (.lst xs0)/\Hb a=none:=by
  cases e:δ[i]? with
  | none=>rw [e] at hq;simp only [JAN] at hq;rw [ha] at hq;cases hq
  | some t =>
   rw [e] at hq
   cases t with
   | no=>simp only [JAN] at hq;rw [ha] at hq;cases hq
   | val d=>simp only [JAN] at hq;rw [ha] at hq;cases hq.1
   | own d =>
    simp only [JAN] at hq
    obtain ⟨a',ds',xs',f1,f2,f3,f4,f5,_⟩:=hq
    rw [ha] at f1;cases f1
    subst f2
    exact ⟨ds',xs',rfl,f3,f4,f5⟩
 refine ⟨by simpa using so.len,fun b o e=>?_,so.inj,fun j=>?_⟩
 ·rw [JAG fun z=>by rw [z,e4] at e;cases e]
  exact so.same b o e
 ·by_cases hj:j=i
  ·subst hj
   rw [q_y (q_p.mp e1).1]
   simp only [JAN]
   exact ⟨a,ds,xs,ha,rfl,e2,JAH,e4,by rw [eh];exact dn⟩
  ·rw [q_z (Ne.symm hj)]
   have q:=so.slot j
   cases e:δ[j]? with
   | none=>rw [e] at q;exact q
   | some t =>
    rw [e] at q
    cases t with
    | no=>exact q
    | val d' =>
     simp only [JAN] at q ⊢
     rw [eh];exact q
    | own d' =>
     simp only [JAN] at q ⊢
     obtain ⟨a',ds',xs',q1,q2,q3,q4,q5,q6⟩:=q
     refine ⟨a',ds',xs',q1,q2,q3,?_,q5,by rw [eh];exact q6⟩
     rw [JAG fun z=>hj (so.inj j i a (by rw [<-z];exact q1) ha)]
     exact q4
noncomputable def RSF (X:Cx) (B:Bs) (C:Cn) (XX:Nat->Hp->Prop) (x:E):TE:=fun σ H Q=>∃δ O Hb,Same X.H₀ Hb/\SO B Hb σ H δ O/\(match ev C x δ with
 | .ok d=>∀Da ds xs H1 O',d=.list ds->SO B Hb σ H1 (after x d δ) O'->H1 Da=none->DenL B (hid H1 O') ds xs->Q (.ref Da) (upd H1 Da (.lst xs))
 | .exc c=>XX c Hb
 | .bad=>False)
theorem JFI {H1:Hp} {P:Addr->Prop} {Da:Addr} {o:HO} (h:¬P Da):mixP H (upd H1 Da o) P=upd (mixP H H1 P) Da o:=by
 funext b
 by_cases hb:b=Da
 ·subst hb;rw [JAM h,JAH,JAH]
 ·rw [JAG hb]
  by_cases hp:P b
  ·rw [JBs hp,JBs hp]
  ·rw [JAM hp,JAM hp,JAG hb]
theorem JEZ (so:SO B Hb σ H δ O) {H1:Hp} {ds:List D} {xs:List V} (sm:Same (hidP H (unP x O)) H1) (hz:∀a,unP x O a->H1 a=none) (dn:DenL B H1 ds xs) :
  ∃O',SO B Hb σ (mixP H H1 (unP x O)) (after x (.list ds) δ) O'/\DenL B (hid (mixP H H1 (unP x O)) O') ds xs:=by
 unfold after
 split
 ·exact ⟨_,JFo so sm hz,DenL.mono (JA8 hz) ds xs dn⟩
 ·rename_i hb
  have hu:JAK x 0 δ=false:=by
   cases q:JAK x 0 δ with
   | false=>rfl
   | true=>rw [q] at hb;exact absurd (by simp [JAQ]) hb
  refine ⟨O,JCu so sm hz,DenL.mono (fun b o e=>?_) ds xs dn⟩
  have hb':¬unP x O b:=fun h=>by rw [hz b h] at e;cases e
  have hb2:¬ownP O b:=fun ⟨i,h⟩=>by
   obtain ⟨ds,xs,e1,_⟩:=so.own h
   refine hb' ⟨i,h,?_⟩
   cases q:x.uses i with
   | false=>rfl
   | true =>
    have:=JBc x δ 0 i _ hu e1 (by rw [Nat.zero_add];exact q)
    cases this
  rw [hid,JAI hb2,JAM hb']
  exact e
theorem JKw (g:Gk X B C CX XX G) {e:Expr} (he:PE X e (REF B C XX x)):PE X e (RSF X B C XX x):=by
 intro pins s σ H Q I ⟨δ,O,Hb,hb,so,k⟩
 have J0:=JBI (ps:=JCL x O δ.length s.heap) I (JAt (x:=x) hb so) JA1
 have hev:=(agree C x δ (JAY x 0 δ) JBe).1
 cases q:ev C x δ with
 | ok d =>
  rw [q] at k
  refine thn (he _ s σ _ (fun v H1=>∃Da ds xs H2,v=.ref Da/\H1=upd H2 Da (.lst xs)/\d=.list ds/\Same (hidP H (unP x O)) H2/\H2 Da=none/\DenL B H2 ds xs) J0
   ⟨JAY x 0 δ,JAi so,by rw [<-hev,q];exact fun Da ds xs H1 e s1 hD dn=>⟨Da,ds,xs,H1,rfl,rfl,e,s1,hD,dn⟩⟩) fun u s1 ⟨v,H1,J,r,Da,ds,xs,H2,e1,e2,e3,sm,hD,dn⟩=>?_
  subst e1;subst e2;subst e3
  obtain ⟨I',hz⟩:=JAr I J (JAt hb so) (JAs I so)
  have nD:¬unP x O Da:=fun h=>by have:=hz Da h;rw [JAH] at this;cases this
  have hz2:∀a,unP x O a->H2 a=none:=fun a h=>by
   have:=hz a h
   rwa [JAG fun z=>nD (by rw [<-z];exact h)] at this
  rw [JFI nD] at I'
  obtain ⟨O',so',dn'⟩:=JEZ so sm hz2 dn
  exact ⟨_,_,I',r,k Da ds xs _ O' rfl so' (by rw [JAM nD];exact hD) dn'⟩
 | exc c =>
  rw [q] at k
  exact thn (he _ s σ _ (fun v H1=>False) J0 ⟨JAY x 0 δ,JAi so,by rw [<-hev,q];exact g.anti c _ _ ((JAq so).trans same_un) k⟩) fun u s1 ⟨v,H1,J,r,f⟩=>f.elim
 | bad=>rw [q] at k;exact k.elim
theorem JO9 (g:Gk X B C CX XX G) {st:Stmt} {i:Nat} (he:PS X st (tAsg (REF B C XX x) (JEa i))):PS X st (tAsg (RSF X B C XX x) (JEa i)):=by
 intro pins s σ H D I h
 obtain ⟨δ,O,Hb,hb,so,k⟩:=h
 have J0:=JBI (ps:=JCL x O δ.length s.heap) I (JAt (x:=x) hb so) JA1
 have hev:=(agree C x δ (JAY x 0 δ) JBe).1
 cases q:ev C x δ with
 | ok d =>
  rw [q] at k
  refine thn (he _ s σ _ { nx:=fun σ' H1=>∃Da ds xs H2,σ'=σ.set i (some (.ref Da))/\H1=upd H2 Da (.lst xs)/\d=.list ds/\Same (hidP H (unP x O)) H2/\H2 Da=none/\DenL B H2 ds xs,rt:=fun _ _=>False } J0
   ⟨JAY x 0 δ,JAi so,by rw [<-hev,q];exact fun Da ds xs H1 e s1 hD dn=>⟨Da,ds,xs,H1,rfl,rfl,e,s1,hD,dn⟩⟩) fun f s1 hf=>?_
  cases f with
  | next =>
   obtain ⟨σ',H1,J,Da,ds,xs,H2,e1,e2,e3,sm,hD,dn⟩:=hf
   subst e1;subst e2;subst e3
   obtain ⟨I',hz⟩:=JAr I J (JAt hb so) (JAs I so)
   have nD:¬unP x O Da:=fun h=>by have:=hz Da h;rw [JAH] at this;cases this
   have hz2:∀a,unP x O a->H2 a=none:=fun a h=>by
    have:=hz a h
    rwa [JAG fun z=>nD (by rw [<-z];exact h)] at this
   rw [JFI nD] at I'
   obtain ⟨O',so',dn'⟩:=JEZ so sm hz2 dn
   exact ⟨_,_,I',k Da ds xs _ O' rfl so' (by rw [JAM nD];exact hD) dn'⟩
  | ret v=>obtain ⟨_,_,_,_,_,f⟩:=hf;exact f.elim
  | brk=>obtain ⟨_,_,_,f⟩:=hf;exact False.elim f
  | cont=>obtain ⟨_,_,_,f⟩:=hf;exact False.elim f
 | exc c =>
  rw [q] at k
  refine thn (he _ s σ _ { nx:=fun _ _=>False,rt:=fun _ _=>False } J0 ⟨JAY x 0 δ,JAi so,by rw [<-hev,q];exact g.anti c _ _ ((JAq so).trans same_un) k⟩) fun f s1 hf=>?_
  cases f with
  | next=>obtain ⟨_,_,_,f⟩:=hf;exact f.elim
  | ret v=>obtain ⟨_,_,_,_,_,f⟩:=hf;exact f.elim
  | brk=>obtain ⟨_,_,_,f⟩:=hf;exact False.elim f
  | cont=>obtain ⟨_,_,_,f⟩:=hf;exact False.elim f
 | bad=>rw [q] at k;exact k.elim
end
section
variable {X:Cx} {B:Bs} {C:Cn} {CX:CXT} {XX:Nat->Hp->Prop} {G:List (Str×GK)} {x:E} {pos:Pos}
noncomputable def JCi (X:Cx) (B:Bs) (XX:Nat->Hp->Prop) (Hb:Hp) (D:Ends):Fl->Prop
 | .nx δ=>∀σ H O,SO B Hb σ H δ O->D.nx σ H
 | .rt d=>∀v H,Same Hb H->Den B H d v->D.rt v H
 | .bk δ=>∀σ H O,SO B Hb σ H δ O->D.bk σ H
 | .ct δ=>∀σ H O,SO B Hb σ H δ O->D.ct σ H
 | .ex c=>XX c Hb
 | .bad=>False
noncomputable def RSt (X:Cx) (B:Bs) (C:Cn) (XX:Nat->Hp->Prop) (t:S):TS:=fun D σ H=>∃δ O Hb,Same X.H₀ Hb/\SO B Hb σ H δ O/\JCi X B XX Hb D (exec C t δ)
theorem PS.imp {st:Stmt} {t t':TS} (h:PS X st t) (i:∀D σ H,t' D σ H->t D σ H):PS X st t':=fun pins s σ H D I q=>h pins s σ H D I (i D σ H q)
theorem PSs.imp {st:List Stmt} {t t':TS} (h:PSs X st t) (i:∀D σ H,t' D σ H->t D σ H):PSs X st t':=fun pins s σ H D I q=>h pins s σ H D I (i D σ H q)
theorem JPV:PSs X [] (RSt X B C XX .nil):=PSs.imp JMX fun D σ H ⟨δ,O,Hb,hb,so,k⟩=>k σ H O so
theorem JNY {st:Stmt} {r:List Stmt} {a b:S} (h1:PS X st (RSt X B C XX a)) (h2:PSs X r (RSt X B C XX b)):PSs X (st::r) (RSt X B C XX (.cons a b)) :=
 PSs.imp (JKa h1 h2) fun D σ H ⟨δ,O,Hb,hb,so,k⟩=>by
  refine ⟨δ,O,Hb,hb,so,?_⟩
  simp only [exec] at k
  cases q:exec C a δ with
  | nx δ'=>rw [q] at k;exact fun σ' H' O' so'=>⟨δ',O',Hb,hb,so',k⟩
  | rt d=>rw [q] at k;exact k
  | bk d=>rw [q] at k;exact k
  | ct d=>rw [q] at k;exact k
  | ex c=>rw [q] at k;exact k
  | bad=>rw [q] at k;exact k
theorem JNA:PS X (.Pass pos) (RSt X B C XX .pass):=PS.imp JNX fun D σ H ⟨δ,O,Hb,hb,so,k⟩=>k σ H O so
theorem JQR:PS X (.Break pos) (RSt X B C XX .brk):=PS.imp JJz fun D σ H ⟨δ,O,Hb,hb,so,k⟩=>k σ H O so
theorem JQL:PS X (.Continue pos) (RSt X B C XX .cnt):=PS.imp JFM fun D σ H ⟨δ,O,Hb,hb,so,k⟩=>k σ H O so
theorem JQh {y:Str} {j:Nat} {pos':Pos}:PS X (.Expr (.Constant (.str y) j pos) pos') (RSt X B C XX .pass):=PS.imp JQj fun D σ H ⟨δ,O,Hb,hb,so,k⟩=>k σ H O so
theorem JMd:PS X (.Return none pos) (RSt X B C XX .retN):=PS.imp JMV fun D σ H ⟨δ,O,Hb,hb,so,k⟩=>k .non H so.same (by simp only [Den])
theorem JOV (g:Gk X B C CX XX G) {e:Expr} (he:PE X e (RE B C XX x)):PS X (.Return (some e) pos) (RSt X B C XX (.ret x)) :=
 PS.imp (JPE (JG1 g he)) fun D σ H ⟨δ,O,Hb,hb,so,k⟩=>by
  refine ⟨δ,O,Hb,hb,so,?_⟩
  simp only [exec] at k
  cases q:ev C x δ with
  | ok d=>rw [q] at k;exact fun v H' O' so' dn=>k v H' so'.same (Den.mono same_hidP d v dn)
  | exc c=>rw [q] at k;exact k
  | bad=>rw [q] at k;exact k
theorem JOa (g:Gk X B C CX XX G) {c:Expr} {a b:List Stmt} {s1 s2:S} (hc:PT X c (RT B C XX x)) (ha:PSs X a (RSt X B C XX s1)) (hb:PSs X b (RSt X B C XX s2)):PS X (.If c a b pos) (RSt X B C XX (.ife x s1 s2)) :=
 PS.imp (ps_if (JLa g hc) ha hb) fun D σ H ⟨δ,O,Hb,hb,so,k⟩=>by
  refine ⟨δ,O,Hb,hb,so,?_⟩
  simp only [exec] at k
  cases q:evT C x δ with
  | ok t =>
   rw [q] at k
   intro H' so'
   cases t with
   | true=>exact iteT ⟨δ,O,Hb,hb,so',k⟩
   | false=>exact iteF ⟨δ,O,Hb,hb,so',k⟩
  | exc c=>rw [q] at k;exact k
  | bad=>rw [q] at k;exact k
theorem JNH (g:Gk X B C CX XX G) {e:Expr} (he:PE X e (RE B C XX x)) (hs:swapsWith e none pos.line X.env=pure false):PS X (.Expr e pos) (RSt X B C XX (.drop x)) :=
 PS.imp (JC3 (JG1 g he) hs) fun D σ H ⟨δ,O,Hb,hb,so,k⟩=>by
  refine ⟨δ,O,Hb,hb,so,?_⟩
  simp only [exec] at k
  cases q:ev C x δ with
  | ok d=>rw [q] at k;exact fun v H' O' so' dn=>k σ H' O' so'
  | exc c=>rw [q] at k;exact k
  | bad=>rw [q] at k;exact k
theorem JQs (g:Gk X B C CX XX G) {e:Expr} {i:Nat} {nm:Str} {pos':Pos} (he:PE X e (RE B C XX x)) (hf:x.fresh=false) (hnd:X.N.Nodup) (hN:X.N[i]? = some nm) (hx:Loc X.env.scope nm) (hs:swapsWith e (some (.Name nm pos')) pos.line X.env=pure false)
  (hfn:X.fn nm=true\/X.env.scope.names.lookup nm=some .local):PS X (.Assign [.Name nm pos'] e pos) (RSt X B C XX (.asg i x)) :=
 PS.imp (JHx hnd hN hx (JG1 g he) hs hfn) fun D σ H ⟨δ,O,Hb,hb,so,k⟩=>by
  refine ⟨δ,O,Hb,hb,so,?_⟩
  simp only [exec,hf,q_v,if_false] at k
  cases q:ev C x δ with
  | ok d=>rw [q] at k;exact fun v H' O' so' dn=>k _ H' _ (JHo so' dn)
  | exc c=>rw [q] at k;exact k
  | bad=>rw [q] at k;exact k
theorem JEO {i:Nat} (hf:x.fresh=true) {D:Ends} {σ:St} {H:Hp} (h:RSt X B C XX (.asg i x) D σ H):tAsg (RSF X B C XX x) (JEa i) D σ H:=by
 obtain ⟨δ,O,Hb,hb,so,k⟩:=h
 refine ⟨δ,O,Hb,hb,so,?_⟩
 simp only [exec,hf,if_true] at k
 cases q:ev C x δ with
 | ok d =>
  rw [q] at k
  intro Da ds xs H1 O' e so' hD dn
  subst e
  obtain ⟨O2,so2⟩:=JEi (i:=i) so' hD dn
  exact k _ _ O2 so2
 | exc c=>rw [q] at k;exact k
 | bad=>rw [q] at k;exact k
theorem JG8 (g:Gk X B C CX XX G) {e:Expr} {i:Nat} {nm:Str} {pos':Pos} (he:PE X e (REF B C XX x)) (hf:x.fresh=true) (hnd:X.N.Nodup) (hN:X.N[i]? = some nm) (hx:Loc X.env.scope nm) (hs:swapsWith e (some (.Name nm pos')) pos.line X.env=pure false)
  (hfn:X.fn nm=true\/X.env.scope.names.lookup nm=some .local):PS X (.Assign [.Name nm pos'] e pos) (RSt X B C XX (.asg i x)) :=
 PS.imp (JHx hnd hN hx (JKw g he) hs hfn) fun D σ H h=>JEO hf h
theorem JNm (g:Gk X B C CX XX G) {st:Stmt} {i:Nat} (h:PS X st (tAsg (REF B C XX x) (JEa i))) (hf:x.fresh=true):PS X st (RSt X B C XX (.asg i x)) :=
 PS.imp (JO9 g h) fun D σ H h=>JEO hf h
theorem JQx (g:Gk X B C CX XX G) (hp:PassesOwn (model X.prog X.w) X.A X.env X.xe) {c:Expr} {body:List Stmt} {b:S} (hc:PT X c (RT B C XX x)) (hb:PSs X body (RSt X B C XX b)):PS X (.While c body [] pos) (RSt X B C XX (.whl x b)) :=
 PS.imp (JJZ hp (JLa g hc) hb) fun D σ H ⟨δ,O,Hb,hb0,so,k⟩=>by
  simp only [exec] at k
  unfold JBi at k
  split at k
  ·rename_i hex
   refine ⟨fun m σ H=>∃δ O,SO B Hb σ H δ O/\JCi X B XX Hb D (JAh (evT C x) (exec C b) m δ),⟨hex.choose,δ,O,so,k⟩,?_⟩
   rintro m σ H ⟨δ,O,so,k⟩
   cases m with
   | zero=>exact False.elim k
   | succ m =>
    refine ⟨δ,O,Hb,hb0,so,?_⟩
    simp only [JAh] at k
    cases q:evT C x δ with
    | ok t =>
     rw [q] at k
     intro H' so'
     cases t with
     | true =>
      refine iteT ⟨fun σ' H'=>∃δ O,SO B Hb σ' H' δ O/\JCi X B XX Hb D (JAh (evT C x) (exec C b) m δ),fun σ' H' h=>⟨m,Nat.lt_succ_self m,h⟩,δ,O,Hb,hb0,so',?_⟩
      simp only at k
      cases q2:exec C b δ with
      | nx δ'=>rw [q2] at k;exact fun σ2 H2 O2 so2=>⟨δ',O2,so2,k⟩
      | ct δ'=>rw [q2] at k;exact fun σ2 H2 O2 so2=>⟨δ',O2,so2,k⟩
      | bk δ'=>rw [q2] at k;exact k
      | rt d=>rw [q2] at k;exact k
      | ex c=>rw [q2] at k;exact k
      | bad=>rw [q2] at k;exact k
     | false=>exact iteF (k σ H' O so')
    | exc c=>rw [q] at k;exact k
    | bad=>rw [q] at k;exact k
  ·exact False.elim k
theorem JKh (g:Gk X B C CX XX G) {put:D->Env->Option Env} {gt:TG} {tb:TS} {b:S} {De:Ends} {σ:St} {H1:Hp} {J:It} {ds:List D} {δ:Env} {O:Ow} {Hb:Hp} (hb:Same X.H₀ Hb) (so:SO B Hb σ H1 δ O) (io:ItOk B J (hid H1 O) ds)
  (hput:∀(d:D) (v:V) (σ:St) (H:Hp) (δ δ':Env) (O:Ow) (Hb':Hp) (Q:St->Hp->Prop),SO B Hb' σ H δ O->Den B (hid H O) d v->put d δ=some δ'->(∀σ' O',SO B Hb' σ' H δ' O'->Q σ' H)->gt v σ H Q)
  (htb:∀De σ H,RSt X B C XX b De σ H->tb De σ H) (k:JCi X B XX Hb De (forL put (exec C b) ds δ)) :
  ∃W:Nat->Nat->St->Hp->Prop,(∃m,W 0 m σ H1)/\∀i m σ H,W i m σ H->(J.stop i H/\De.nx σ H)\/(J.go i H/\∃N:St->Hp->Prop,(∀σ' H',N σ' H'->∃m',m'<m/\W (i+1) m' σ' H')/\∀x H',J.yld i H x H'->gt x σ H' fun σ2 H2=>tb { De with nx:=N,ct:=N,bk:=De.nx } σ2 H2):=by
 have hb1:Same Hb (hid H1 O):=JAq so
 refine ⟨fun i m σ H=>m=ds.length - i/\i<=ds.length/\∃δ O',SO B (hid H1 O) σ H δ O'/\JCi X B XX Hb De (forL put (exec C b) (ds.drop i) δ),⟨ds.length,by simp,Nat.zero_le _,δ,O,so.base,by simpa using k⟩,?_⟩
 rintro i m σ H ⟨rfl,hi,δ2,O2,so2,k2⟩
 by_cases hlt:i<ds.length
 ·right
  have hd:ds[i]? = some ds[i]:=by simp [hlt]
  obtain ⟨go,yl⟩:=(io H so2.same i).1 ds[i] hd
  refine ⟨go,fun σ' H'=>∃δ O',SO B (hid H1 O) σ' H' δ O'/\JCi X B XX Hb De (forL put (exec C b) (ds.drop (i+1)) δ),fun σ' H' ⟨δ3,O3,so3,k3⟩=>⟨ds.length - (i+1),by omega,rfl,hlt,δ3,O3,so3,k3⟩,fun v H' y=>?_⟩
  obtain ⟨so3',dn2⟩:SO B (hid H1 O) σ H' δ2 O2/\Den B (hid H' O2) ds[i] v:=by
    rcases yl v H' y with ⟨e,dn⟩ | ⟨p,xs,es,hp,e,ex,ed,dl⟩
    ·subst e;exact ⟨so2,Den.mono (JAq so2) _ v dn⟩
    ·subst e;subst ex
     have s3:=JEj so2 (o:=.tup xs) hp
     refine ⟨s3,?_⟩
     rw [ed]
     simp only [Den]
     refine ⟨p,xs,rfl,SqT.of ?_,DenL.mono (JAq s3) _ _ dl⟩
     rw [hid,JAI fun ⟨j,hj⟩=>by obtain ⟨_,_,_,_,e5,_⟩:=so2.own hj;rw [hp] at e5;cases e5]
     exact JAH
  rw [JE9 hlt] at k2
  unfold forL at k2
  cases qp:put ds[i] δ2 with
  | none=>rw [qp] at k2;exact False.elim k2
  | some δ3 =>
    rw [qp] at k2
    refine hput ds[i] v σ H' δ2 δ3 O2 _ _ so3' dn2 qp fun σ3 O3 so3=>?_
    refine htb _ _ _ ⟨δ3,O3,_,hb.trans hb1,so3,?_⟩
    simp only at k2
    cases q2:exec C b δ3 with
    | nx δ'=>rw [q2] at k2;exact fun σ4 H4 O4 so4=>⟨δ',O4,so4,k2⟩
    | ct δ'=>rw [q2] at k2;exact fun σ4 H4 O4 so4=>⟨δ',O4,so4,k2⟩
    | bk δ'=>rw [q2] at k2;exact fun σ4 H4 O4 so4=>k2 σ4 H4 O4 (so4.weak hb1)
    | rt d=>rw [q2] at k2;exact fun v4 H4 s4 d4=>k2 v4 H4 (hb1.trans s4) d4
    | ex c=>rw [q2] at k2;exact g.anti c Hb _ hb1 k2
    | bad=>rw [q2] at k2;exact k2
 ·left
  have ei:i=ds.length:=by omega
  refine ⟨(io H so2.same i).2 (by omega),?_⟩
  rw [ei,List.drop_length] at k2
  exact k2 σ H O2 (so2.weak hb1)
theorem JMY (g:Gk X B C CX XX G) (hp:PassesOwn (model X.prog X.w) X.A X.env X.xe) {iter:Expr} {body:List Stmt} {b:S} {i:Nat} {nm:Str} {pos':Pos} (hi:PI X (.Name nm pos') iter (RI B C XX x)) (hb:PSs X body (RSt X B C XX b)) (hnd:X.N.Nodup) (hN:X.N[i]? = some nm) (hx:Loc X.env.scope nm)
  (hfn:X.fn nm=true\/X.env.scope.names.lookup nm=some .local) (hs:∀v,foldedSetIterable iter X.env v=pure v):PS X (.For (.Name nm pos') iter body [] pos) (RSt X B C XX (.for1 i x b)) :=
 PS.imp (JLD hp g.calm (JLj g hi) (JDk hnd hN hx hfn) hb hs) fun De σ H ⟨δ,O,Hb,hb0,so,k⟩=>by
  refine ⟨δ,O,Hb,hb0,so,?_⟩
  simp only [exec] at k
  cases q:evI C x δ with
  | ok ds =>
    rw [q] at k
    intro J H' O' so' io
    refine JKh g hb0 so' io (put:=put1 i) (fun d v σ H δ δ' O Hb' Q so dn e h=>?_) (fun _ _ _ h=>h) k
    have e':δ.set i (.val d)=δ':=Option.some.inj e
    subst e'
    exact h _ _ (JHo so dn)
  | exc c=>rw [q] at k;exact k
  | bad=>rw [q] at k;exact k
end
section
variable {prog:Program} {w:World} {A:Around} {E:Value->Shared->Prop}
theorem JEl {it t:Addr} {items:Array Value} (hne:t≠it):∀(n i:Nat) (s:Shared) (Q:List Value->Shared->Prop),s.heap.IsListIter it t i->s.heap.IsList t items->i+n<=items.size ->
  (∀h':Heap,h'.IsListIter it t (i+n)->Heap.SameBut it s.heap h'->Q ((items.toList.drop i).take n) { s with heap:=h' })->wpAny (model prog w) A (draw (.ref it) n) Q E s
 | 0,i,s,Q,hit,_,_,hQ=>by
  show wpAny _ _ (pure []) Q E s
  exact q_e (by simpa using hQ s.heap hit (Heap.SameBut.refl ..))
 | n+1,i,s,Q,hit,ht,hle,hQ=>by
  have hlt:i<items.size:=by omega
  show wpAny _ _ (pyNext (.ref it) >>= _) Q E s
  refine q_b (wpAny_pyNext_list_item hit ht (x:=items[i]) (by simp [hlt]) fun h₁ hit₁ hs₁=>?_)
  refine q_b (wpAny_holding (JEl hne n (i+1) _ _ hit₁ (ht.extBut hs₁.extBut hne) (by omega) fun h₂ hit₂ hs₂=>q_e ?_))
  have hd:items.toList.drop i=items[i]::items.toList.drop (i+1):=by simp [List.drop_eq_getElem_cons,hlt]
  have:=hQ h₂ (by rw [show i+(n+1)=i+1+n by omega];exact hit₂) (hs₁.trans hs₂)
  rw [hd,List.take_succ_cons] at this
  exact this
theorem JCX {s:Shared} {env:PySem.Env} {elts:List Expr} {x1:Nat} {pos:Pos} {t:Addr} {items:Array Value} {Q:Unit->Shared->Prop} (hh:A.handled=none) (ht:s.heap.IsList t items)
  (hn:(assignEach elts env).length=items.size) (hstar:(assignEach elts env).findIdx? (·.1)=none)
  (h:∀h',Heap.ExtBut s.heap.objs.size s.heap h'->wpAny (model prog w) A (assignInOrder ((assignEach elts env).map (·.2)) items.toList) Q E { s with heap:=h' }) :
  wpAny (model prog w) A (assign (.Tuple elts x1 pos) env (.ref t)) Q E s:=by
 have hlt:t≠s.heap.objs.size:=by obtain ⟨o,ho,_⟩:=ht;exact q_l (q_h ho)
 rw [assign_Tuple]
 refine q_b (wpAny_standAt ?_)
 unfold unpack
 rw [hn,hstar]
 refine q_b (wpAny_holding ?_)
 unfold unpackItems
 refine q_b ?_
 unfold notIterableAtAll
 refine q_b (wpAny_specialOf ht.typeIs slot_list_iter.lookup ?_)
 refine q_e ?_
 simp only [q_v,if_false]
 refine q_b (wpAny_holding (wpAny_pyIter_list ht ?_))
 refine q_b (wpAny_holding (JEl hlt items.size 0 _ _ ⟨_,q_k _ rfl,rfl,rfl⟩ (ht.extBut (fun b o _ e=>q_c _ e) (q_l (q_D (by obtain ⟨o,ho,_⟩:=ht;exact q_h ho)))) (by omega) fun h₁ hit₁ hs₁=>?_))
 have hall:List.take items.size (List.drop 0 items.toList)=items.toList:=by
  rw [List.drop_zero];exact List.take_of_length_le (by simp)
 rw [hall]
 rw [if_neg (by simp)]
 have ht1:h₁.IsList t items:=by
  refine Heap.IsList.extBut ?_ hs₁.extBut hlt
  exact ht.extBut (fun b o _ e=>q_c _ e) hlt
 refine q_b (wpAny_holding (wpAny_pyNext_list_end hh hit₁ ht1 (by simp) fun h₂ he₂=>?_))
 simp only [Option.isSome_none,q_v,if_false]
 refine q_e (h h₂ fun b o hb e=>he₂ b o hb (hs₁.extBut b o hb (q_c _ e)))
end
noncomputable def setV:List Nat->List V->St->St
 | i::is,v::vs,σ=>setV is vs (σ.set i (some v))
 | _,_,σ=>σ
section
variable {X:Cx} {B:Bs} {C:Cn} {CX:CXT} {XX:Nat->Hp->Prop} {G:List (Str×GK)} {x:E} {pos:Pos} {names:List (Str×NameKind)} {N:List Str}
theorem JEr {nm:Str} (hn:X.env.scope.names=names) (h:JD5 (names.lookup nm)=true):L2.Loc X.env.scope nm:=by
 unfold L2.Loc
 rw [hn]
 cases q:names.lookup nm with
 | none=>rw [q] at h;cases h
 | some k=>cases k<;>simp_all [JD5]
theorem slot_of {nm:Str} {i:Nat} (hn:X.env.scope.names=names) (hN:X.N=N) (h:slot names N nm=some i):X.N[i]? = some nm/\L2.Loc X.env.scope nm:=by
 unfold slot at h
 split at h
 ·rename_i hb
  exact ⟨by rw [hN];exact JDB h,JEr hn hb⟩
 ·cases h
theorem JBU {e:Expr} {r:List Expr} {is:List Nat} (h:slots names N (e::r)=some is):∃nm p i js,e=.Name nm p/\slot names N nm=some i/\slots names N r=some js/\is=i::js:=by
 unfold slots at h
 split at h
 ·rename_i q;cases q
 ·rename_i q
  cases q
  obtain ⟨i,h1,h⟩:=q_a.mp h
  obtain ⟨js,h2,h⟩:=q_a.mp h
  cases h
  exact ⟨_,_,i,js,rfl,h1,h2,rfl⟩
 ·cases h
theorem JB0 {env:PySem.Env}:∀ {ts:List Expr} {is:List Nat},slots names N ts=some is->(assignEach ts env).findIdx? (·.1)=none/\(assignEach ts env).length=is.length
 | [],is,h=>by unfold slots at h;cases h;exact ⟨rfl,rfl⟩
 | e::r,is,h=>by
  obtain ⟨nm,p,i,js,rfl,h1,h2,rfl⟩:=JBU h
  obtain ⟨q1,q2⟩:=JB0 (env:=env) h2
  refine ⟨?_,by show (assignEach r env).length+1=_;rw [q2];rfl⟩
  show List.findIdx? (·.1) ((false,assign (.Name nm p) env)::assignEach r env)=none
  rw [List.findIdx?_cons]
  simp [q1]
theorem JCS (hn:X.env.scope.names=names) (hN:X.N=N) (hnd:N.Nodup) (hfn:∀nm,X.fn nm=true\/X.env.scope.names.lookup nm≠some .cell):∀ {ts:List Expr} {is:List Nat},slots names N ts=some is->PGs X ts (fun vs σ H Q=>vs.length=is.length/\Q (setV is vs σ) H)
 | [],is,h=>by
  unfold slots at h;cases h
  intro pins s σ H vs us Q I r ⟨e,q⟩
  refine JH0 pins s σ H vs us Q I r ⟨q_A.mp e,?_⟩
  cases vs<;>exact q
 | e::r,is,h=>by
  obtain ⟨nm,p,i,js,rfl,h1,h2,rfl⟩:=JBU h
  obtain ⟨q1,q2⟩:=slot_of hn hN h1
  have hf:X.fn nm=true\/X.env.scope.names.lookup nm=some .local:=by
   rcases hfn nm with z | z
   ·exact .inl z
   ·rcases q2 with k | k
    ·exact .inr k
    ·exact absurd k z
  intro pins s σ H vs us Q I rv ⟨e,q⟩
  refine JFy (JDk (by rw [hN];exact hnd) q1 q2 hf) (JCS hn hN hnd hfn h2) rfl pins s σ H vs us Q I rv ?_
  match vs,e,q with
  | v::vr,e,q=>exact ⟨v,vr,rfl,by simpa using e,q⟩
theorem JLx (g:Gk X B C CX XX G) {es:List Expr} {k n:Nat} {t:TGs} (h:PGs X es t) (hn:(assignEach es X.env).length=n) (hst:(assignEach es X.env).findIdx? (·.1)=none) :
  PG X (.Tuple es k pos) (fun v σ H Q=>∃a xs,v=.ref a/\(SqT X.K H a xs\/SqL X.K H a xs)/\xs.length=n/\t xs σ H Q):=by
 intro pins s σ H v u Q I r ⟨a,xs,e1,hq,hl,hw⟩
 rcases hq with hq | hq
 ·exact JHK g.calm h hn hst pins s σ H v u Q I r ⟨a,xs,e1,hq,hl,hw⟩
 ·subst e1
  cases r
  obtain ⟨its,rv,⟨o,m,ho,hc,hd,hs⟩,hz⟩:=I.list hq
  refine JCX (I.ok.hd g.calm) (items:=its.toArray) ⟨o,ho,hc,m,hs⟩ (by simp [hn,<-hl,rv.length]) hst fun h' hx=>?_
  have I1:Inv X pins σ H { s with heap:=h' }:=I.kept (t':=s.toks) fun b o e=>hx b o (q_l (q_h e)) e
  exact h pins _ σ H xs _ Q I1 (by simpa using rv) hw
theorem JBQ:∀(is:List Nat) (ds:List D) (vs:List V) {Hb:Hp} {σ:St} {H:Hp} {δ:Env} {O:Ow},SO B Hb σ H δ O->DenL B (hid H O) ds vs->∃O',SO B Hb (setV is vs σ) H (JBR is ds δ) O'
 | [],ds,vs,_,_,_,_,O,so,dn=>by cases ds<;>cases vs<;>exact ⟨O,so⟩
 | i::is,[],vs,_,_,_,_,O,so,dn=>by
  simp only [DenL] at dn;subst dn
  exact ⟨O,so⟩
 | i::is,d::ds,vs,_,_,_,_,O,so,dn=>by
  simp only [DenL] at dn
  obtain ⟨v,r,e,q,l⟩:=dn
  subst e
  exact JBQ is ds r (JHo (i:=i) so q) (DenL.mono JA7 ds r l)
theorem JFD {n c:Nat} {d:D}:JAj n d≠.exc c:=by
 cases d<;>simp only [JAj]<;>(try split)<;>(intro h;cases h)
theorem JOk (g:Gk X B C CX XX G) {e:Expr} {ts:List Expr} {is:List Nat} {k:Nat} {pt:Pos} (he:PE X e (RE B C XX x)) (hn:X.env.scope.names=names) (hN:X.N=N) (hnd:N.Nodup) (hfn:∀nm,X.fn nm=true\/X.env.scope.names.lookup nm≠some .cell)
  (h:slots names N ts=some is) (hs:swapsWithSole [.Tuple ts k pt] e pos.line X.env=pure false) (hw:swappedStores [.Tuple ts k pt] e X.env=pure none):PS X (.Assign [.Tuple ts k pt] e pos) (RSt X B C XX (.unp is x)):=by
 obtain ⟨q1,q2⟩:=JB0 (env:=X.env) h
 refine PS.imp (JKt (JG1 g he) (JLx g (JCS hn hN hnd hfn h) q2 q1) hs hw rfl) fun De σ H ⟨δ,O,Hb,hb,so,kk⟩=>?_
 refine ⟨δ,O,Hb,hb,so,?_⟩
 simp only [exec] at kk
 cases q:ev C x δ with
 | ok d =>
  rw [q] at kk
  intro v H' O' so' dn
  have kk:JCi X B XX Hb De (stepR (JAj is.length d) fun xs=>Fl.nx (JBR is xs (after x d δ))):=kk
  cases qu:JAj is.length d with
  | ok ds =>
    rw [qu] at kk
    have hl:ds.length=is.length/\∃a xs,v=.ref a/\(SqT X.K H' a xs\/SqL X.K H' a xs)/\DenL B (hid H' O') ds xs:=by
     cases d with
     | tuple ys =>
      simp only [JAj] at qu
      split at qu
      ·rename_i hy
       cases qu
       simp only [Den] at dn
       obtain ⟨a,xs,e1,e2,e3⟩:=dn
       exact ⟨hy,a,xs,e1,.inl (JKR same_hidP (g.K▸e2)),e3⟩
      ·cases qu
     | list ys =>
      simp only [JAj] at qu
      split at qu
      ·rename_i hy
       cases qu
       simp only [Den] at dn
       obtain ⟨a,xs,e1,e2,e3⟩:=dn
       exact ⟨hy,a,xs,e1,.inr (same_hidP.seq (g.K▸e2)),e3⟩
      ·cases qu
     | _=>simp only [JAj] at qu;cases qu
    obtain ⟨hl1,a,xs,e1,e2,e3⟩:=hl
    have hlx:=DenL.len ds xs e3
    obtain ⟨O2,so2⟩:=JBQ is ds xs so' e3
    exact ⟨a,xs,e1,e2,by omega,by omega,kk _ _ O2 so2⟩
  | exc c=>exact (JFD qu).elim
  | bad=>rw [qu] at kk;exact kk.elim
 | exc c=>rw [q] at kk;exact kk
 | bad=>rw [q] at kk;exact kk
theorem JH8 (g:Gk X B C CX XX G) (hp:PassesOwn (model X.prog X.w) X.A X.env X.xe) {iter:Expr} {body:List Stmt} {b:S} {ts:List Expr} {is:List Nat} {k:Nat} {pt:Pos} (hi:PI X (.Tuple ts k pt) iter (RI B C XX x)) (hb:PSs X body (RSt X B C XX b)) (hn:X.env.scope.names=names) (hN:X.N=N) (hnd:N.Nodup) (hfn:∀nm,X.fn nm=true\/X.env.scope.names.lookup nm≠some .cell)
  (h:slots names N ts=some is) (hs:∀v,foldedSetIterable iter X.env v=pure v):PS X (.For (.Tuple ts k pt) iter body [] pos) (RSt X B C XX (.forT is x b)):=by
 obtain ⟨q1,q2⟩:=JB0 (env:=X.env) h
 refine PS.imp (JLD hp g.calm (JLj g hi) (JLx g (JCS hn hN hnd hfn h) q2 q1) hb hs) fun De σ H ⟨δ,O,Hb,hb0,so,kk⟩=>?_
 refine ⟨δ,O,Hb,hb0,so,?_⟩
 simp only [exec] at kk
 cases q:evI C x δ with
 | ok ds =>
  rw [q] at kk
  intro J H' O' so' io
  refine JKh g hb0 so' io (put:=putT is) (gt:=fun v σ H Q=>∃a xs,v=.ref a/\(SqT X.K H a xs\/SqL X.K H a xs)/\xs.length=is.length/\(xs.length=is.length/\Q (setV is xs σ) H)) (fun d v σ H δ δ' O Hb' Q so dn e h=>?_) (fun _ _ _ h=>h) kk
  cases d with
  | tuple ys =>
    simp only [putT] at e
    split at e
    ·rename_i hy
     cases e
     simp only [Den] at dn
     obtain ⟨a,xs,e1,e2,e3⟩:=dn
     have hlx:=DenL.len ys xs e3
     obtain ⟨O2,so2⟩:=JBQ is ys xs so e3
     exact ⟨a,xs,e1,.inl (JKR same_hidP (g.K▸e2)),by omega,by omega,h _ O2 so2⟩
    ·cases e
  | _=>simp only [putT] at e;cases e
 | exc c=>rw [q] at kk;exact kk
 | bad=>rw [q] at kk;exact kk
noncomputable def RAS (X:Cx) (B:Bs) (C:Cn) (XX:Nat->Hp->Prop) (x:E):TA:=fun σ H Q=>∃δ O Hb,Same X.H₀ Hb/\SO B Hb σ H δ O/\(match evA C x δ with
 | .ok ds=>∀vs H' O',SO B Hb σ H' (after (.tup x) (.tuple ds) δ) O'->DenL B (hid H' O') ds vs->Q vs H'
 | .exc c=>XX c Hb
 | .bad=>False)
theorem JEq {Hb:Hp} {σ:St} {H:Hp} {δ:Env} {O:Ow} (so:SO B Hb σ H δ O) {H1:Hp} {ds:List D} {vs:List V} (sm:Same (hidP H (unP x O)) H1) (hz:∀a,unP x O a->H1 a=none) (dn:DenL B H1 ds vs) :
  ∃O',SO B Hb σ (mixP H H1 (unP x O)) (after x (.tuple ds) δ) O'/\DenL B (hid (mixP H H1 (unP x O)) O') ds vs:=by
 unfold after
 split
 ·exact ⟨_,JFo so sm hz,DenL.mono (JA8 hz) ds vs dn⟩
 ·rename_i hb
  refine ⟨O,JCu so sm hz,?_⟩
  cases hu:JAK x 0 δ with
  | false =>
   refine DenL.mono (fun b o e=>?_) ds vs dn
   have hb':¬unP x O b:=fun h=>by rw [hz b h] at e;cases e
   have hb2:¬ownP O b:=fun ⟨i,h⟩=>by
    obtain ⟨ds,xs,e1,_⟩:=so.own h
    refine hb' ⟨i,h,?_⟩
    cases q:x.uses i with
    | false=>rfl
    | true =>
     have:=JBc x δ 0 i _ hu e1 (by rw [Nat.zero_add];exact q)
     cases this
   rw [hid,JAI hb2,JAM hb']
   exact e
  | true =>
   have hl:JBf ds=true:=by
    rw [hu] at hb
    cases q:JBf ds with
    | true=>rfl
    | false=>exact absurd (by simp [JAQ,q]) hb
   refine JCB (fun b o e ho=>?_) ds vs hl dn
   have hb':¬unP x O b:=fun h=>by rw [hz b h] at e;cases e
   have hb2:¬ownP O b:=fun ⟨i,h⟩=>by
    obtain ⟨ds,xs,_,_,e4,_⟩:=so.own h
    have:=sm b _ (by rw [JAI hb'];exact e4)
    rw [e] at this
    exact ho xs (Option.some.inj this)
   rw [hid,JAI hb2,JAM hb']
   exact e
theorem JJm {es:E} {j:Nat}:(E.tup es).uses j=es.uses j:=rfl
theorem JBd:∀(δ:Env) (k:Nat),JAK (.tup x) k δ=JAK x k δ
 | [],_=>rfl
 | s::r,k=>by simp only [JAK,JJm,JBd r]
theorem JC0:∀(δ:Env) (k:Nat),JAn (.tup x) k δ=JAn x k δ
 | [],_=>rfl
 | s::r,k=>by simp only [JAn,JC0 r];rfl
theorem JHe (g:Gk X B C CX XX G) {es:List Expr} (he:PA X es (RA B C XX x)):PA X es (RAS X B C XX x):=by
 intro pos pins s σ H Q I ⟨δ,O,Hb,hb,so,k⟩
 have J0:=JBI (ps:=JCL x O δ.length s.heap) I (JAt (x:=x) hb so) JA1
 have hev:=(agree C x δ (JAY x 0 δ) JBe).2.2.1
 cases q:evA C x δ with
 | ok ds =>
  rw [q] at k
  refine thn (he pos _ s σ _ (fun vs H1=>Same (hidP H (unP x O)) H1/\DenL B H1 ds vs) J0 ⟨JAY x 0 δ,JAi so,by rw [<-hev,q];exact fun v H1 s1 d1=>⟨s1,d1⟩⟩) fun u s1 ⟨vs,H1,J,r,sm,dn⟩=>?_
  obtain ⟨I',hz⟩:=JAr I J (JAt hb so) (JAs I so)
  obtain ⟨O',so',dn'⟩:=JEq so sm hz dn
  refine ⟨vs,_,I',r,k vs _ O' ?_ dn'⟩
  have:after (.tup x) (.tuple ds) δ=after x (.tuple ds) δ:=by unfold after;rw [JBd,JC0]
  rw [this];exact so'
 | exc c =>
  rw [q] at k
  exact thn (he pos _ s σ _ (fun v H1=>False) J0 ⟨JAY x 0 δ,JAi so,by rw [<-hev,q];exact g.anti c _ _ ((JAq so).trans same_un) k⟩) fun u s1 ⟨v,H1,J,r,f⟩=>f.elim
 | bad=>rw [q] at k;exact k.elim
theorem JP8 (g:Gk X B C CX XX G) {a b:Expr} {i j:Nat} {nx ny:Str} {px py pt pt2:Pos} {kt k2:Nat} (ha:PA X [a,b] (RA B C XX x)) (hnd:X.N.Nodup) (hi:X.N[i]? = some nx) (hj:X.N[j]? = some ny) (hij:i≠j)
  (hx:X.env.scope.names.lookup nx=some .local) (hy:X.env.scope.names.lookup ny=some .local)
  (hw:swappedStores [.Tuple [.Name nx px,.Name ny py] kt pt] (.Tuple [a,b] k2 pt2) X.env=pure (some [nx,ny])):PS X (.Assign [.Tuple [.Name nx px,.Name ny py] kt pt] (.Tuple [a,b] k2 pt2) pos) (RSt X B C XX (.unp [i,j] (.tup x))) :=
 PS.imp (JO1 g.calm hnd hi hj hij hx hy (JHe g ha) hw) fun De σ H ⟨δ,O,Hb,hb,so,kk⟩=>by
  refine ⟨δ,O,Hb,hb,so,?_⟩
  simp only [exec,ev] at kk
  cases q:evA C x δ with
  | ok ds =>
    rw [q] at kk
    intro vs H' O' so' dn
    simp only [R.bind,JAj,List.length_cons,List.length_nil] at kk
    match ds,vs,dn,kk,so' with
    | [d1,d2],vs,dn,kk,so' =>
     obtain ⟨O2,so2⟩:=JBQ [i,j] [d1,d2] vs so' dn
     simp only [DenL] at dn
     obtain ⟨v1,r,e,q1,v2,r2,e2,q2,e3⟩:=dn
     subst e3;subst e2;subst e
     exact ⟨v1,v2,rfl,kk _ _ O2 so2⟩
    | [],_,_,kk,_=>exact False.elim kk
    | [_],_,_,kk,_=>exact False.elim kk
    | _::_::_::_,_,_,kk,_=>simp at kk;exact False.elim kk
  | exc c=>rw [q] at kk;exact kk
  | bad=>rw [q] at kk;exact kk
noncomputable def ROA (X:Cx) (B:Bs) (C:Cn) (XX:Nat->Hp->Prop) (x:E) (k:Nat):TA:=fun σ H Q=>Same X.H₀ H/\∃δ,Sok B σ H δ /\
 KL B XX (evA C x δ) H fun vs H1=>∀a,H1 a=none->Q (vs.set k (.ref a)) (upd H1 a (.lst []))
theorem JM7 (g:Gk X B C CX XX G) {es:List Expr} {p:Pos} (h:PA X es (RA B C XX x)):PA X (.List [] p::es) (ROA X B C XX (.cons .cnon x) 0):=by
 intro pos pins s σ H Q I ⟨hs,δ,ok,k⟩
 show wpAny _ _ (spliced ((false,eval (.List [] p) X.env)::backTo pos (starEach es X.env))) _ _ s
 refine Calls.spliced_cons (thn (JIR (pos:=p) JCK pins s σ H (fun v H1=>∃a,H a=none/\v=.ref a/\H1=upd H a (.lst [])) I ⟨Nat.zero_le _,fun a ha=>⟨a,ha,rfl,rfl⟩⟩) fun u s1 ⟨v,H1,I1,r1,a,ha,e1,e2⟩=>?_)
 subst e1;subst e2
 have hP:∀b,b=a->∃xs,upd H a (.lst []) b=some (.lst xs)/\X.H₀ b=none:=fun b e=>by subst e;exact ⟨[],JAH,hs.free ha⟩
 obtain ⟨_,its,n,_,ho⟩:=I1.hok a _ JAH
 have J:=JBI (P:=fun b=>b=a) (ps:=[(a,_)]) I1 hP (by
  intro q hq
  simp only [List.mem_singleton] at hq
  subst hq
  exact ⟨rfl,ho⟩)
 have eh:hidP (upd H a (.lst [])) (fun b=>b=a)=H:=by
  funext b
  by_cases hb:b=a
  ·subst hb;rw [JA6 (P:=fun c=>c=b) rfl,ha]
  ·rw [JAI (P:=fun c=>c=a) hb,JAG hb]
 rw [eh] at J
 simp only [evA,ev,R.bind] at k
 cases q:evA C x δ with
 | ok ds =>
  rw [q] at k
  refine thn (h pos _ s1 σ H (fun vs H3=>Same H H3/\DenL B H3 ds vs) J ⟨δ,ok,by rw [q];exact fun vs H3 s3 d3=>⟨s3,d3⟩⟩) fun us s2 ⟨vs,H3,J3,r3,sm,dn⟩=>?_
  obtain ⟨I3,hz⟩:=JAr (P:=fun b=>b=a) I1 J3 hP (fun b e=>by subst e;exact ⟨_,List.mem_singleton.mpr rfl,ho⟩)
  have em:mixP (upd H a (.lst [])) H3 (fun b=>b=a)=upd H3 a (.lst []):=by
   funext b
   by_cases hb:b=a
   ·subst hb;rw [JBs (P:=fun c=>c=b) rfl,JAH,JAH]
   ·rw [JAM (P:=fun c=>c=a) hb,JAG hb]
  rw [em] at I3
  refine ⟨.ref a::vs,_,I3,.cons r1 r3,?_⟩
  exact k (.non::vs) H3 sm (by simp only [DenL,Den];exact ⟨_,_,rfl,rfl,dn⟩) a (hz a rfl)
 | exc c =>
  rw [q] at k
  exact thn (h pos _ s1 σ H (fun vs H3=>False) J ⟨δ,ok,by rw [q];exact k⟩) fun us s2 ⟨vs,H3,J3,r3,f⟩=>f.elim
 | bad=>rw [q] at k;exact k.elim
theorem JM1 (g:Gk X B C CX XX G) {e:Expr} {es:List Expr} {y:E} {k:Nat} (ha:PE X e (RE B C XX x)) (hr:PA X es (ROA X B C XX y k)) (hs:starEach (e::es) X.env=(false,eval e X.env)::starEach es X.env):PA X (e::es) (ROA X B C XX (.cons x y) (k+1)) :=
 PA.imp (JBL ha hr hs) fun σ H Q ⟨hs,δ,ok,kk⟩=>by
  simp only [evA] at kk
  refine RE.of (W:=fun r H=>KL B XX r H _) ok (fun _ _ z=>z) (fun _ z=>z) kk fun d v H1 s1 d1 h1=>?_
  refine ⟨hs.trans s1,δ,ok.mono s1,?_⟩
  have h1:=KL.mono g s1 h1
  cases q:evA C y δ with
  | ok ds =>
   rw [q] at h1
   intro vs H2 s2 d2 a ha
   exact h1 (v::vs) H2 s2 (by simp only [DenL];exact ⟨v,vs,rfl,Den.mono s2 d v d1,d2⟩) a ha
  | exc c=>rw [q] at h1;exact h1
  | bad=>rw [q] at h1;exact h1
noncomputable def RASO (X:Cx) (B:Bs) (C:Cn) (XX:Nat->Hp->Prop) (x:E) (k:Nat):TA:=fun σ H Q=>∃δ O Hb,Same X.H₀ Hb/\SO B Hb σ H δ O/\(match evA C x δ with
 | .ok ds=>∀vs H' O',SO B Hb σ H' (after (.tup x) (.tuple ds) δ) O'->DenL B (hid H' O') ds vs->∀a,H' a=none->Q (vs.set k (.ref a)) (upd H' a (.lst []))
 | .exc c=>XX c Hb
 | .bad=>False)
theorem JMp (g:Gk X B C CX XX G) {es:List Expr} {k:Nat} (he:PA X es (ROA X B C XX x k)):PA X es (RASO X B C XX x k):=by
 intro pos pins s σ H Q I ⟨δ,O,Hb,hb,so,kk⟩
 have J0:=JBI (ps:=JCL x O δ.length s.heap) I (JAt (x:=x) hb so) JA1
 have hev:=(agree C x δ (JAY x 0 δ) JBe).2.2.1
 have hS:Same X.H₀ (hidP H (unP x O)):=hb.trans ((JAq so).trans same_un)
 cases q:evA C x δ with
 | ok ds =>
  rw [q] at kk
  refine thn (he pos _ s σ _ (fun us H1=>∃vs H2 a,us=vs.set k (.ref a)/\H1=upd H2 a (.lst [])/\H2 a=none/\Same (hidP H (unP x O)) H2/\DenL B H2 ds vs) J0 ⟨hS,JAY x 0 δ,JAi so,by rw [<-hev,q];exact fun vs H1 s1 d1 a ha=>⟨vs,H1,a,rfl,rfl,ha,s1,d1⟩⟩) fun u s1 ⟨us,H1,J,r,vs,H2,a,e1,e2,ha,sm,dn⟩=>?_
  subst e1;subst e2
  obtain ⟨I',hz⟩:=JAr I J (JAt hb so) (JAs I so)
  have nD:¬unP x O a:=fun h=>by have:=hz a h;rw [JAH] at this;cases this
  have hz2:∀b,unP x O b->H2 b=none:=fun b h=>by
   have:=hz b h
   rwa [JAG fun z=>nD (by rw [<-z];exact h)] at this
  rw [JFI nD] at I'
  obtain ⟨O',so',dn'⟩:=JEq so sm hz2 dn
  refine ⟨_,_,I',r,kk vs _ O' ?_ dn' a (by rw [JAM nD];exact ha)⟩
  have:after (.tup x) (.tuple ds) δ=after x (.tuple ds) δ:=by unfold after;rw [JBd,JC0]
  rw [this];exact so'
 | exc c =>
  rw [q] at kk
  exact thn (he pos _ s σ _ (fun v H1=>False) J0 ⟨hS,JAY x 0 δ,JAi so,by rw [<-hev,q];exact g.anti c _ _ ((JAq so).trans same_un) kk⟩) fun u s1 ⟨v,H1,J,r,f⟩=>f.elim
 | bad=>rw [q] at kk;exact kk.elim
noncomputable def JIq (is:List Nat) (ta:TA):TS:=fun D σ H=>ta σ H fun vs H1=>vs.length=is.length/\vs.length<=1000/\∀H2,(H2=H1\/∃p,H1 p=none/\H2=upd H1 p (.tup vs))->D.nx (setV is vs σ) H2
theorem JId (g:Gk X B C CX XX G) {ts es:List Expr} {is:List Nat} {ta:TA} {k k2:Nat} {pt pt2:Pos} (ha:PA X es ta) (hn:X.env.scope.names=names) (hN:X.N=N) (hnd:N.Nodup) (hfn:∀nm,X.fn nm=true\/X.env.scope.names.lookup nm≠some .cell)
  (h:slots names N ts=some is) (hs:swapsWithSole [.Tuple ts k pt] (.Tuple es k2 pt2) pos.line X.env=pure false) (hw:swappedStores [.Tuple ts k pt] (.Tuple es k2 pt2) X.env=pure none):PS X (.Assign [.Tuple ts k pt] (.Tuple es k2 pt2) pos) (JIq is ta):=by
 obtain ⟨q1,q2⟩:=JB0 (env:=X.env) h
 have ha':PA X es (fun σ H Q'=>∃Q,ta σ H Q/\∀vs H,Q vs H->Q' vs H):=fun pos pins s σ H Q I ⟨Q0,h,m⟩=>thn (ha pos pins s σ H Q0 I h) fun u s1 ⟨vs,H1,I1,r,q⟩=>⟨vs,H1,I1,r,m _ _ q⟩
 refine PS.imp (JKt (JLO ha') (JHK g.calm (JCS hn hN hnd hfn h) q2 q1) hs hw rfl) fun De σ H hh=>⟨_,hh,fun vs H1 ⟨a1,a2,a3⟩=>⟨Nat.le_trans a2 (by decide),fun p hp=>⟨p,vs,rfl,SqT.of JAH,a1,a1,a3 _ (.inr ⟨p,hp,rfl⟩)⟩⟩⟩
theorem JMi {i j l:Nat} {x y z:Str} {a b c:Expr} {ta:TA} {px py pz pt:Pos} {kt k2 pt2} (hc:X.calm=true) (hN:X.N.Nodup) (hi:X.N[i]? = some x) (hj:X.N[j]? = some y) (hl:X.N[l]? = some z) (hij:i≠j) (hil:i≠l) (hjl:j≠l)
  (hx:X.env.scope.names.lookup x=some .local) (hy:X.env.scope.names.lookup y=some .local) (hz:X.env.scope.names.lookup z=some .local) (ha:PA X [a,b,c] ta)
  (hw:swappedStores [.Tuple [.Name x px,.Name y py,.Name z pz] kt pt] (.Tuple [a,b,c] k2 pt2) X.env=pure (some [x,y,z]))
  (hs:swapsWithSole [.Tuple [.Name x px,.Name y py,.Name z pz] kt pt] (.Tuple [a,b,c] k2 pt2) pos.line X.env=pure false:=by rfl) :
  PS X (.Assign [.Tuple [.Name x px,.Name y py,.Name z pz] kt pt] (.Tuple [a,b,c] k2 pt2) pos) (JIq [i,j,l] ta):=by
 intro pins s σ H D I h
 rw [exec_Assign_arm]
 refine q_b (wpAny_standAt ?_)
 rw [hs]
 refine q_b (q_e ?_)
 rw [if_neg (by decide)]
 refine q_b (Tuple_ (thn (ha _ pins s σ H _ I h) fun us s1 ⟨vs,H1,I1,r1,q0,q00,q1⟩=>?_))
 have q1:=q1 H1 (.inl rfl)
 obtain ⟨v,w,o,rfl⟩:∃v w o,vs=[v,w,o]:=by
  match vs,q0 with
  | [v,w,o],_=>exact ⟨v,w,o,rfl⟩
 obtain ⟨u1,u2,u3,rfl,rv,rw',ro⟩:∃u1 u2 u3,us=[u1,u2,u3]/\RelV v u1/\RelV w u2/\RelV o u3:=by
  cases r1 with
  | cons p q =>
    cases q with
    | cons p' q' =>
     cases q' with
     | cons p'' q'' =>
      cases q''
      exact ⟨_,_,_,rfl,p,p',p''⟩
 refine wpAny_newObj_type ?_ (by show 3<=sizeLine;decide)
 have I2:Inv X pins σ H1 { s1 with heap:=s1.heap.push { cls:=.type "tuple",data:=.seq [u1,u2,u3].toArray } }:=I1.kept (t':=s1.toks) fun b o e=>q_c _ e
 rw [hw]
 refine q_b (q_e ?_)
 show wpAny (model X.prog X.w) X.A (do rule "assign.swapped-stores";let items<-unpackItems (.ref s1.heap.objs.size) 3 none;assignInOrder [fun v=>bindName X.env z v,fun v=>bindName X.env y v,fun v=>bindName X.env x v] items.reverse;pure Flow.next) _ _ _
 refine q_b (wpAny_rule (q_b (unpackItems_tuple (items:=#[u1,u2,u3]) (I.ok.hd hc) (IsTup.new s1.heap _) fun h' hx'=>?_)))
 have I3:=I2.kept (h':=h') (t':=s1.toks) fun b o e=>hx' b o (q_l (q_h e)) e
 show wpAny _ _ (assignInOrder [fun v=>bindName X.env z v,fun v=>bindName X.env y v,fun v=>bindName X.env x v] [u3,u2,u1] >>= fun _=>pure Flow.next) _ _ _
 refine q_b (assignInOrder_cons (wpAny_bindName (JBC I3 hN hl (.inl hz) ro (fun s2 I4=>?_) (.inr hz))))
 refine assignInOrder_cons (wpAny_bindName (JBC I4 hN hj (.inl hy) rw' (fun s3 I5=>?_) (.inr hy)))
 refine assignInOrder_cons (wpAny_bindName (JBC I5 hN hi (.inl hx) rv (fun s4 I6=>assignInOrder_nil (q_e ?_)) (.inr hx)))
 rw [List.set_comm _ _ (Ne.symm hjl),List.set_comm _ _ (Ne.symm hil),List.set_comm _ _ (Ne.symm hij)] at I6
 exact ⟨_,H1,I6,q1⟩
theorem JGT:∀(is:List Nat) (vs:List V) (σ:St) (k i:Nat) (v:V),is.Nodup->vs.length=is.length->is[k]? = some i->setV is (vs.set k v) σ=(setV is vs σ).set i (some v)
 | [],_,_,_,_,_,_,_,h=>by simp at h
 | j::is,[],_,_,_,_,_,h,_=>by simp at h
 | j::is,w::vs,σ,0,i,v,hn,hl,h=>by
  simp only [List.getElem?_cons_zero,q_j] at h
  subst h
  simp only [List.set_cons_zero,setV]
  have q:∀(is:List Nat) (vs:List V) (σ:St),j ∉ is->(setV is vs σ).set j (some v)=setV is vs (σ.set j (some v)):=by
   intro is
   induction is with
   | nil=>intro vs σ _;rfl
   | cons a r ih =>
    intro vs σ hj
    cases vs with
    | nil=>rfl
    | cons b t =>
     simp only [setV]
     rw [ih t _ (fun z=>hj (q_s _ z)),List.set_comm _ _ (fun z=>hj (by rw [z];exact List.mem_cons_self ..))]
  rw [q is vs _ (List.nodup_cons.mp hn).1]
  simp
 | j::is,w::vs,σ,k+1,i,v,hn,hl,h=>by
  simp only [List.set_cons_succ,setV]
  exact JGT is vs _ k i v (List.nodup_cons.mp hn).2 (by simpa using hl) (by simpa using h)
theorem JEU {is:List Nat} {δ:Env} {ds:List D} (q:evA C x δ=.ok ds):exec C (.unp is (.tup x)) δ=if ds.length=is.length then .nx (JBR is ds (after (.tup x) (.tuple ds) δ)) else .bad:=by
 by_cases h:ds.length=is.length
 ·simp only [exec,ev,q,R.bind,stepR,JAj,h,if_true]
 ·simp only [exec,ev,q,R.bind,stepR,JAj,h,if_false]
theorem JMf (g:Gk X B C CX XX G) {is:List Nat} {st:Stmt} (hl:cnt x<=1000) (h:PS X st (JIq is (RAS X B C XX x))):PS X st (RSt X B C XX (.unp is (.tup x))) :=
 PS.imp h fun De σ H ⟨δ,O,Hb,hb,so,kk⟩=>by
  refine ⟨δ,O,Hb,hb,so,?_⟩
  cases q:evA C x δ with
  | ok ds =>
   rw [JEU q] at kk
   intro vs H' O' so' dn
   have e1:=DenL.len ds vs dn
   have e2:=JBm x δ ds q
   split at kk
   ·refine ⟨by omega,by omega,fun H2 h2=>?_⟩
    obtain ⟨O2,so2⟩:=JBQ is ds vs so' dn
    rcases h2 with h2 | ⟨p,hp,h2⟩
    ·subst h2;exact kk _ _ O2 so2
    ·subst h2;exact kk _ _ O2 (JEj so2 hp)
   ·exact kk.elim
  | exc c=>simp only [exec,ev,q] at kk;exact kk
  | bad=>simp only [exec,ev,q] at kk;exact kk
theorem JNM (g:Gk X B C CX XX G) {is:List Nat} {k i:Nat} {st:Stmt} (hl:cnt x<=1000) (hn:is.Nodup) (hi:is[k]? = some i) (h:PS X st (JIq is (RASO X B C XX x k))):PS X st (RSt X B C XX (.cons (.unp is (.tup x)) (.asg i (.lst .nil)))) :=
 PS.imp h fun De σ H ⟨δ,O,Hb,hb,so,kk⟩=>by
  refine ⟨δ,O,Hb,hb,so,?_⟩
  cases q:evA C x δ with
  | ok ds =>
   have e3:exec C (.cons (.unp is (.tup x)) (.asg i (.lst .nil))) δ=match exec C (.unp is (.tup x)) δ with | .nx δ'=>exec C (.asg i (.lst .nil)) δ' | f=>f:=rfl
   rw [e3,JEU q] at kk
   intro vs H' O' so' dn a ha
   have e1:=DenL.len ds vs dn
   have e2:=JBm x δ ds q
   by_cases hy:ds.length=is.length
   ·rw [if_pos hy] at kk
    refine ⟨by simp;omega,by simp;omega,fun H2 h2=>?_⟩
    obtain ⟨O2,so2⟩:=JBQ is ds vs so' dn
    obtain ⟨O3,so3⟩:=JEi (i:=i) so2 (Da:=a) (ds:=[]) (xs:=[]) ha (by simp only [DenL])
    rw [JGT is vs σ k i _ hn (by omega) hi]
    have ea:after (.lst .nil) (.list []) (JBR is ds (after (.tup x) (.tuple ds) δ))=JBR is ds (after (.tup x) (.tuple ds) δ):=by
     unfold after
     rw [if_neg]
     have:∀(δ:Env) (k:Nat),JAK (.lst .nil) k δ=false:=by
      intro δ
      induction δ with
      | nil=>intro k;rfl
      | cons s r ih=>intro k;simp only [JAK,ih,E.uses,Bool.false_and,Bool.or_self]
     rw [this];simp
    have kk:JCi X B XX Hb De (.nx ((after (.lst .nil) (.list []) (JBR is ds (after (.tup x) (.tuple ds) δ))).set i (.own (.list [])))):=kk
    rw [ea] at kk
    rcases h2 with h2 | ⟨p,hp,h2⟩
    ·subst h2;exact kk _ _ O3 so3
    ·subst h2;exact kk _ _ O3 (JEj so3 hp)
   ·rw [if_neg hy] at kk
    exact kk.elim
  | exc c=>simp only [exec,ev,q] at kk;exact kk
  | bad=>simp only [exec,ev,q] at kk;exact kk
end
section
variable {X:Cx} {B:Bs} {C:Cn} {CX:CXT} {XX:Nat->Hp->Prop} {G:List (Str×GK)} {x:E} {pos:Pos}
theorem SO.slotOwn {Hb:Hp} {σ:St} {H:Hp} {δ:Env} {O:Ow} (so:SO B Hb σ H δ O) {i:Nat} {ds:List D} (h:δ[i]? = some (.own (.list ds))):∃a xs,O i=some a/\σ[i]? = some (some (.ref a))/\H a=some (.lst xs)/\DenL B (hid H O) ds xs:=by
 have q:=so.slot i
 rw [h] at q
 simp only [JAN] at q
 obtain ⟨a,ds',xs,q1,q2,q3,q4,q5,q6⟩:=q
 cases q2
 exact ⟨a,xs,q1,q3,q4,q6⟩
theorem JEy {H:Hp}:∀ {ds:List D} {vs:List V},DenL B H ds vs->∀n:Nat,DenL B H (ds.take n) (vs.take n)
 | [],vs,h,n=>by simp only [DenL] at h;subst h;simp [DenL]
 | d::ds,vs,h,0=>by simp [DenL]
 | d::ds,vs,h,n+1=>by
  simp only [DenL] at h
  obtain ⟨v,r,e,q,l⟩:=h
  subst e
  simp only [List.take_succ_cons,DenL]
  exact ⟨v,_,rfl,q,JEy l n⟩
theorem JE6 {H:Hp}:∀ {ds:List D} {vs:List V},DenL B H ds vs->∀n:Nat,DenL B H (ds.drop n) (vs.drop n)
 | [],vs,h,n=>by simp only [DenL] at h;subst h;simp [DenL]
 | d::ds,vs,h,0=>h
 | d::ds,vs,h,n+1=>by
  simp only [DenL] at h
  obtain ⟨v,r,e,q,l⟩:=h
  subst e
  exact JE6 l n
theorem JPm (g:Gk X B C CX XX G) {a:Expr} {i:Nat} {nm:Str} {p1 ap cp:Pos} (hN:X.N[i]? = some nm) (hv:Vis X.env.scope nm) (hbn:JAS nm=false) (he:PE X a (RE B C XX x)) (hs:starEach [a] X.env=[(false,eval a X.env)]) (hl:(ap.endLine==cp.line)=true) :
  PS X (.Expr (.Call (.Attribute (.Name nm p1) "append" ap) [a] [] cp) pos) (RSt X B C XX (.app i x)):=by
 refine PS.imp (JC3 (JIT PySem.F.plainAttrs_list PySem.F.slot_list_append PySem.F.type_list_append JHJ (JCw hN hv (JAD hbn).1 (JAD hbn).2.1) (JBL (JG1 g he) JCK hs) rfl (by rw [hs];rfl) hl hs rfl) rfl) fun De σ H ⟨δ,O,Hb,hb,so,kk⟩=>?_
 simp only [exec] at kk
 split at kk
 ·rename_i ds hd
  obtain ⟨l,xs,q1,q2,q3,q4⟩:=so.slotOwn hd
  refine ⟨_,q2,.inl ⟨rfl,xs,SqL.of q3⟩,δ,O,Hb,hb,so,?_⟩
  cases q:ev C x δ with
  | ok d =>
   rw [q] at kk
   intro v H' O' so' dn
   have kk:JCi X B XX Hb De (JBN i ds x d δ):=kk
   unfold JBN at kk
   split at kk
   ·rename_i hlen
    split at kk
    ·exact False.elim kk
    ·rename_i hu
     have ea:after x d δ=δ:=by unfold after;rw [if_neg hu]
     rw [ea] at so'
     obtain ⟨l',xs',r1,r2,r3,r4⟩:=so'.slotOwn hd
     rw [q2] at r2
     cases r2
     refine ⟨l,xs',v,rfl,rfl,r3,by rw [<-DenL.len ds xs' r4,sizeLine_eq];exact hlen,?_⟩
     exact kk _ _ O' (JGW so' r1 (DenL.append ds [d] xs' [v] r4 (by simp only [DenL];exact ⟨v,[],rfl,dn,rfl⟩)))
   ·exact False.elim kk
  | exc c=>rw [q] at kk;exact kk
  | bad=>rw [q] at kk;exact kk
 ·exact False.elim kk
theorem JQW (g:Gk X B C CX XX G) {a b:Expr} {i:Nat} {nm:Str} {p1 ap cp:Pos} (hN:X.N[i]? = some nm) (hv:Vis X.env.scope nm) (hbn:JAS nm=false) (he:PA X [a,b] (RA B C XX x)) (hs:starEach [a,b] X.env=[(false,eval a X.env),(false,eval b X.env)]) (hs2:starEach [b] X.env=[(false,eval b X.env)]) (hl:(ap.endLine==cp.line)=true) :
  PS X (.Expr (.Call (.Attribute (.Name nm p1) "insert" ap) [a,b] [] cp) pos) (RSt X B C XX (.ins i x)):=by
 refine PS.imp (JC3 (JIT PySem.F.plainAttrs_list PySem.F.slot_list_insert PySem.F.type_list_insert JNv (JCw hN hv (JAD hbn).1 (JAD hbn).2.1) (JHe g he) rfl (by rw [hs];rfl) hl (by rw [hs,hs2]) (by rw [hs2];rfl)) rfl) fun De σ H ⟨δ,O,Hb,hb,so,kk⟩=>?_
 simp only [exec] at kk
 split at kk
 ·rename_i ds hd
  obtain ⟨l,xs,q1,q2,q3,q4⟩:=so.slotOwn hd
  refine ⟨_,q2,.inl ⟨rfl,xs,SqL.of q3⟩,δ,O,Hb,hb,so,?_⟩
  cases q:evA C x δ with
  | ok zs =>
   rw [q] at kk
   intro vs H' O' so' dn
   have kk:JCi X B XX Hb De (JFP i ds x zs δ):=kk
   unfold JFP at kk
   split at kk
   ·rename_i k y _
    split at kk
    ·rename_i hlen
     obtain ⟨k0,k1,k2⟩:=hlen
     split at kk
     ·exact False.elim kk
     ·rename_i hu
      have ea:after (.tup x) (.tuple [.int k,y]) δ=δ:=by
       unfold after
       rw [if_neg]
       rw [JBd]
       intro z
       apply hu
       simpa [JAQ,JBf] using z
      rw [ea] at so'
      obtain ⟨l',xs',r1,r2,r3,r4⟩:=so'.slotOwn hd
      rw [q2] at r2
      cases r2
      simp only [DenL,Den] at dn
      obtain ⟨v1,vr,e1,e2,v2,vr2,e3,dy,e4⟩:=dn
      subst e4;subst e3;subst e2;subst e1
      have hle:=DenL.len ds xs' r4
      refine ⟨l,xs',k,v2,rfl,rfl,r3,k0,by omega,by rw [sizeLine_eq];omega,?_⟩
      refine kk _ _ O' (JGW so' r1 (DenL.append _ _ _ _ (JEy r4 _) ?_))
      simp only [DenL]
      exact ⟨v2,_,rfl,dy,JE6 r4 _⟩
    ·exact False.elim kk
   ·exact False.elim kk
  | exc c=>rw [q] at kk;exact kk
  | bad=>rw [q] at kk;exact kk
 ·exact False.elim kk
theorem JPF (g:Gk X B C CX XX G) {a:Expr} {i:Nat} {nm:Str} {p1 ap cp:Pos} (hN:X.N[i]? = some nm) (hv:Vis X.env.scope nm) (hbn:JAS nm=false) (he:PE X a (REF B C XX x)) (hs:starEach [a] X.env=[(false,eval a X.env)]) (hl:(ap.endLine==cp.line)=true) :
  PS X (.Expr (.Call (.Attribute (.Name nm p1) "extend" ap) [a] [] cp) pos) (RSt X B C XX (.ext i x)):=by
 refine PS.imp (JC3 (JIT PySem.F.plainAttrs_list PySem.F.slot_list_extend PySem.F.type_list_extend JIc (JCw hN hv (JAD hbn).1 (JAD hbn).2.1) (JBL (JKw g he) JCK hs) rfl (by rw [hs];rfl) hl hs rfl) rfl) fun De σ H ⟨δ,O,Hb,hb,so,kk⟩=>?_
 simp only [exec] at kk
 split at kk
 ·rename_i ds hd
  obtain ⟨l,xs,q1,q2,q3,q4⟩:=so.slotOwn hd
  refine ⟨_,q2,.inl ⟨rfl,xs,SqL.of q3⟩,δ,O,Hb,hb,so,?_⟩
  cases q:ev C x δ with
  | ok d =>
   rw [q] at kk
   intro Da zs zv H1 O' ed so' hD dn
   subst ed
   have kk:JCi X B XX Hb De (JBP i ds x (.list zs) δ):=kk
   unfold JBP at kk
   simp only at kk
   split at kk
   ·rename_i hlen
    split at kk
    ·exact False.elim kk
    ·rename_i hu
     have hu':JAK x 0 δ=false:=by simpa using hu
     have ea:after x (.list zs) δ=δ:=by unfold after;rw [hu'];simp
     rw [ea] at so'
     obtain ⟨l',xs',r1,r2,r3,r4⟩:=so'.slotOwn hd
     rw [q2] at r2
     cases r2
     have hne:l≠Da:=fun z=>by rw [z,hD] at r3;cases r3
     have so2:=JEj (o:=.lst zv) so' hD
     refine ⟨l,Da,xs',zv,rfl,rfl,by rw [JAG hne];exact r3,JAH,by rw [<-DenL.len ds xs' r4,<-DenL.len zs zv dn,sizeLine_eq];exact hlen,?_⟩
     have s1:Same (hid H1 O') (hid (upd H1 Da (.lst zv)) O'):=fun b u e=>by
      obtain ⟨h1,h2⟩:=JAv e
      have hb:b≠Da:=fun z=>by rw [z,hD] at h2;cases h2
      rw [hid,JAI h1,JAG hb]
      exact h2
     exact kk _ _ O' (JGW so2 r1 (DenL.append ds zs xs' zv (DenL.mono s1 ds xs' r4) (DenL.mono s1 zs zv dn)))
   ·exact False.elim kk
  | exc c=>rw [q] at kk;exact kk
  | bad=>rw [q] at kk;exact kk
 ·exact False.elim kk
theorem JMb (g:Gk X B C CX XX G) {a:Expr} {i:Nat} {nm:Str} {p1 ap cp:Pos} (hN:X.N[i]? = some nm) (hv:Vis X.env.scope nm) (hbn:JAS nm=false) (he:PE X a (RE B C XX x)) (hs:starEach [a] X.env=[(false,eval a X.env)]) (hl:(ap.endLine==cp.line)=true) :
  PS X (.Expr (.Call (.Attribute (.Name nm p1) "extend" ap) [a] [] cp) pos) (RSt X B C XX (.ext i x)):=by
 refine PS.imp (JC3 (JIT PySem.F.plainAttrs_list PySem.F.slot_list_extend PySem.F.type_list_extend JL9 (JCw hN hv (JAD hbn).1 (JAD hbn).2.1) (JBL (JG1 g he) JCK hs) rfl (by rw [hs];rfl) hl hs rfl) rfl) fun De σ H ⟨δ,O,Hb,hb,so,kk⟩=>?_
 simp only [exec] at kk
 split at kk
 ·rename_i ds hd
  obtain ⟨l,xs,q1,q2,q3,q4⟩:=so.slotOwn hd
  refine ⟨_,q2,.inl ⟨rfl,xs,SqL.of q3⟩,δ,O,Hb,hb,so,?_⟩
  cases q:ev C x δ with
  | ok d =>
   rw [q] at kk
   intro v H' O' so' dn
   have kk:JCi X B XX Hb De (JBP i ds x d δ):=kk
   cases d with
   | list zs =>
    unfold JBP at kk
    simp only at kk
    split at kk
    ·rename_i hlen
     split at kk
     ·exact False.elim kk
     ·rename_i hu
      have hu':JAK x 0 δ=false:=by simpa using hu
      have ea:after x (.list zs) δ=δ:=by unfold after;rw [hu'];simp
      rw [ea] at so'
      obtain ⟨l',xs',r1,r2,r3,r4⟩:=so'.slotOwn hd
      rw [q2] at r2
      cases r2
      simp only [Den] at dn
      obtain ⟨Da,zv,e1,e2,e3⟩:=dn
      exact ⟨l,Da,xs',zv,rfl,by rw [e1],r3,same_hidP.seq (g.K▸e2),by rw [<-DenL.len ds xs' r4,<-DenL.len zs zv e3,sizeLine_eq];exact hlen,kk _ _ O' (JGW so' r1 (DenL.append ds zs xs' zv r4 e3))⟩
    ·exact False.elim kk
   | _=>exact False.elim kk
  | exc c=>rw [q] at kk;exact kk
  | bad=>rw [q] at kk;exact kk
 ·exact False.elim kk
end
theorem JGL {G:List (Str×GK)} {n:Nat} {it:Bool} {names:List (Str×NameKind)} {N:List Str} {e:Expr} {x:E} (h:JAL G n it names N e=some x) (hc:JDe e=false) (t:Option Expr) (l:Nat) (env:PySem.Env):swapsWith e t l env=pure false:=by
 cases n with
 | zero=>simp [JAL,JAZ,JAO] at h
 | succ n=>cases e<;>first | rfl | (simp [JAL,JAZ,JAO,xOf,xRaw] at h;done) | cases hc
theorem JIZ {G:List (Str×GK)} {n:Nat} {it:Bool} {names:List (Str×NameKind)} {N:List Str} {e:Expr} {x:E} (h:JAL G n it names N e=some x) (ts:List Expr) (k:Nat) (p:Pos) (l:Nat) (env:PySem.Env):swapsWithSole [.Tuple ts k p] e l env=pure false:=by
 cases n with
 | zero=>simp [JAL,JAZ,JAO] at h
 | succ n=>cases e<;>first | rfl | (simp [JAL,JAZ,JAO,xOf,xRaw] at h)
theorem JEL {e:Expr} (hc:isTup e=false) (ts:List Expr) (k:Nat) (p:Pos) (env:PySem.Env):swappedStores [.Tuple ts k p] e env=pure none:=by
 cases e<;>first | rfl | cases hc
theorem JBg {P:Prop} (h:false=true):P:=by cases h
theorem JFO {names:List (Str×NameKind)} {ts:List Expr} {e:Expr} (h:JEt names ts e=true):∃nx px ny py a b k2 pt2,ts=[.Name nx px,.Name ny py]/\e=.Tuple [a,b] k2 pt2:=by
 rcases ts with _ | ⟨t1,_ | ⟨t2,_ | ⟨_,_⟩⟩⟩<;>try exact JBg h
 cases t1<;>try exact JBg h
 cases t2<;>try exact JBg h
 cases e<;>try exact JBg h
 rename_i es k p
 rcases es with _ | ⟨a,_ | ⟨b,_ | ⟨_,_⟩⟩⟩<;>try exact JBg h
 exact ⟨_,_,_,_,_,_,_,_,rfl,rfl⟩
theorem JDQ {names:List (Str×NameKind)} {t1 t2 t3:Expr} {es:List Expr} (h:three names t1 t2 t3 es=true):∃nx px ny py nz pz,t1=.Name nx px/\t2=.Name ny py/\t3=.Name nz pz/\es.length=3:=by
 cases t1<;>try exact JBg h
 cases t2<;>try exact JBg h
 cases t3<;>try exact JBg h
 simp only [three,q_i,beq_iff_eq] at h
 exact ⟨_,_,_,_,_,_,rfl,rfl,rfl,h.1.1.1.1.1.1.1.1.1.1⟩
theorem JE4 {names:List (Str×NameKind)} {env:PySem.Env} {a b:Expr} {nx ny:Str} {px py pt pt2:Pos} {kt k2:Nat} (hk:env.scope.kind=.function) (hn:env.scope.names=names) (hs:∀es:List Expr,es=[a,b]->(es.any fun | .Starred ..=>true | _=>false)=false)
  (h:JEt names [.Name nx px,.Name ny py] (.Tuple [a,b] k2 pt2)=true) :
  swappedStores [.Tuple [.Name nx px,.Name ny py] kt pt] (.Tuple [a,b] k2 pt2) env=pure (some [nx,ny])/\nx≠ny/\env.scope.names.lookup nx=some .local/\env.scope.names.lookup ny=some .local:=by
 simp only [JEt,JQD,q_i,beq_iff_eq,Bool.not_eq_true',bne_iff_ne,ne_eq] at h
 obtain ⟨⟨⟨⟨⟨h1,h2⟩,h3⟩,h4⟩,h5⟩,h6⟩:=h
 have hb:env.blockKind=.function:=by unfold PySem.Env.blockKind;rw [hk];rfl
 have e1:env.kindOf nx=some .local:=by show env.scope.names.lookup nx=_;rw [hn];exact h1
 have e2:env.kindOf ny=some .local:=by show env.scope.names.lookup ny=_;rw [hn];exact h2
 refine ⟨?_,h4,e1,e2⟩
 have hst:=hs [a,b] rfl
 unfold swappedStores
 simp only [List.length_cons,List.length_nil,hb,List.head?_cons,Option.map_some,Option.getD_some,List.filterMap_cons,List.filterMap_nil,e1,e2]
 have l1:((Expr.Name nx px).pos).line=px.line:=rfl
 simp only [l1,h3,beq_self_eq_true,Bool.and_self,Bool.true_or,Bool.or_true,Bool.true_and,if_true,bne_self_eq_false,Bool.or_false,Bool.not_true,Bool.false_or,q_v,if_false,h5,h6,hst]
 have l2:([nx,ny]:List Str).eraseDups.length=2:=by
  have hne:(ny==nx)=false:=beq_eq_false_iff_ne.mpr (Ne.symm h4)
  simp [List.eraseDups_cons,List.filter_cons,hne,bne]
 have hst':∀q:Expr->Bool,([a,b].any q)=false->q a=false/\q b=false:=fun q h=>by simpa using h
 have hab:=hst' _ hst
 simp [l2]
 intro hz
 exfalso
 rcases hz with z | z
 ·have:=hab.1
  cases a<;>first | (cases z;done) | (cases this;done)
 ·have:=hab.2
  cases b<;>first | (cases z;done) | (cases this;done)
theorem JGb {e:Expr} (h:JDl e=true):∃es p,e=.List es p:=by
 cases e<;>first | exact ⟨_,_,rfl⟩ | cases h
theorem JJt {e:Expr} (h:JDe e=true):∃a b c p,e=.ListComp a b c p:=by
 cases e<;>first | exact ⟨_,_,_,_,rfl⟩ | cases h
section
variable {B:Bs} {C:Cn} {CX:CXT} {G:List (Str×GK)}
noncomputable def JLZ (X:Cx) (B:Bs) (G:List (Str×GK)) (XX:Nat->Hp->Prop):Prop:=∀(nm:Str) (c:Nat) (m:Str) (j:Nat) (p1 p2 p3 pos:Pos),Gl X nm->JAS nm=false->G.lookup nm=some (.cls c) ->
 ∀(pins:List (Addr×Obj)) (s:Shared) (σ:St) (H:Hp) (D:Ends),Inv X pins σ H s->XX c H->wpAny (model X.prog X.w) X.A (PySem.exec (.Raise (some (.Call (.Name nm p1) [.Constant (.str m) j p2] [] p3)) none pos) X.env) (SP X pins D) X.xe s
noncomputable def atX (X:Cx) (A:Around) (pn:List (Addr×Obj)) (xe:Value->Shared->Prop) (calm:Bool):Cx:={ X with A:=A,pn:=pn,xe:=xe,calm:=calm }
noncomputable def Tries (X:Cx) (B:Bs) (C:Cn) (CX:CXT) (G:List (Str×GK)) (XX:Nat->Hp->Prop):Prop:=∀(body:List Stmt) (b:S) (cn en kn:Str) (c i j:Nat) (np p1 p2 p3 hpos pos:Pos),
 (∀(pn:List (Addr×Obj)) (xe:Value->Shared->Prop) (XX':Nat->Hp->Prop),PassesOwn (model X.prog X.w) X.A X.env xe->Gk (atX X X.A pn xe true) B C CX XX' G->PSs (atX X X.A pn xe true) body (RSt (atX X X.A pn xe true) B C XX' b)) ->
 Gl X cn->JAS cn=false->JAS en=false->G.lookup cn=some (.cls c)->X.N.Nodup->X.N[i]? = some en->X.env.scope.names.lookup en=some .local->X.N[j]? = some kn->Loc X.env.scope kn->i≠j ->
 PS X (.Try body [.ExceptHandler (some (.Name cn np)) (some en) [.Assign [.Name kn p1] (.Name en p2) p3] hpos] [] [] pos) (RSt X B C XX (.tryx b c i (.cons (.asg j (.var i)) .nil)))
theorem JDv {e c:Option Expr} {x:Str} (h:JFp e c=some x):∃p1 m j p2 p3,e=some (.Call (.Name x p1) [.Constant (.str m) j p2] [] p3)/\c=none:=by
 rcases e with _ | e
 ·exact JAF h
 cases e<;>try exact JAF h
 rename_i f as ks p3
 cases f<;>try exact JAF h
 rename_i x' p1
 rcases as with _ | ⟨a,as⟩
 ·exact JAF h
 cases a<;>try exact JAF h
 rename_i k j p2
 cases k<;>try exact JAF h
 rcases as with _ | ⟨_,_⟩<;>try exact JAF h
 rcases ks with _ | ⟨_,_⟩<;>try exact JAF h
 rcases c with _ | c<;>try exact JAF h
 cases h;exact ⟨_,_,_,_,_,rfl,rfl⟩
theorem JFf {hs:List ExceptHandler} {q:Str×Str×Str} (h:handOf hs=some q):∃np p1 p2 p3 hp,hs=[.ExceptHandler (some (.Name q.1 np)) (some q.2.1) [.Assign [.Name q.2.2 p1] (.Name q.2.1 p2) p3] hp]:=by
 rcases hs with _ | ⟨⟨ty,en,b,hp⟩,hs⟩
 ·exact JAF h
 rcases ty with _ | ty
 ·exact JAF h
 cases ty<;>try exact JAF h
 rename_i cn np
 rcases en with _ | en
 ·exact JAF h
 rcases b with _ | ⟨st,b⟩
 ·exact JAF h
 cases st<;>try exact JAF h
 rename_i ts v p3
 rcases ts with _ | ⟨t1,ts⟩
 ·exact JAF h
 cases t1<;>try exact JAF h
 rcases ts with _ | ⟨_,_⟩<;>try exact JAF h
 cases v<;>try exact JAF h
 rcases b with _ | ⟨_,_⟩<;>try exact JAF h
 rcases hs with _ | ⟨_,_⟩<;>try exact JAF h
 dsimp only [handOf] at h
 split at h
 ·rename_i e
  cases h
  subst e
  exact ⟨_,_,_,_,_,rfl⟩
 ·cases h
theorem JFR {e:Expr} {x m:Str} {a:Expr} (h:JIQ e=some (x,m,a)):∃p1 ap cp,e=.Call (.Attribute (.Name x p1) m ap) [a] [] cp/\(ap.endLine==cp.line)=true:=by
 cases e<;>try exact JAF h
 rename_i f as ks cp
 cases f<;>try exact JAF h
 rename_i o m ap
 cases o<;>try exact JAF h
 rcases as with _ | ⟨a,_ | ⟨_,_⟩⟩<;>try exact JAF h
 rcases ks with _ | ⟨_,_⟩<;>try exact JAF h
 dsimp only [JIQ] at h
 split at h
 ·rename_i e
  cases h
  exact ⟨_,_,_,rfl,e⟩
 ·cases h
theorem JG2 {e:Expr} {x:Str} {a b:Expr} (h:JMR e=some (x,a,b)):∃p1 ap cp,e=.Call (.Attribute (.Name x p1) "insert" ap) [a,b] [] cp/\(ap.endLine==cp.line)=true:=by
 cases e<;>try exact JAF h
 rename_i f as ks cp
 cases f<;>try exact JAF h
 rename_i o m ap
 cases o<;>try exact JAF h
 rcases as with _ | ⟨a,_ | ⟨b,_ | ⟨_,_⟩⟩⟩<;>try exact JAF h
 rcases ks with _ | ⟨_,_⟩<;>try exact JAF h
 dsimp only [JMR] at h
 split at h
 ·rename_i e
  cases h
  obtain ⟨e1,e2⟩:=e
  subst e2
  exact ⟨_,_,_,rfl,e1⟩
 ·cases h
theorem JGz {e:Expr} (h:docOf e=true):∃y j p,e=.Constant (.str y) j p:=by
 unfold docOf at h
 split at h
 ·exact ⟨_,_,_,rfl⟩
 ·cases h
theorem JET {ts:List Expr} {x:Str} (h:JGj ts=some (.inl x)):∃p,ts=[.Name x p]:=by
 unfold JGj at h
 split at h
 ·cases h;exact ⟨_,rfl⟩
 ·cases h
 ·cases h
theorem JEK {ts us:List Expr} (h:JGj ts=some (.inr us)):∃k p,ts=[.Tuple us k p]:=by
 unfold JGj at h
 split at h
 ·cases h
 ·cases h;exact ⟨_,_,rfl⟩
 ·cases h
theorem JGr {e:Expr} {es:List Expr} (h:JNV e=some es):∃k p,e=.Tuple es k p:=by
 unfold JNV at h
 split at h
 ·cases h;exact ⟨_,_,rfl⟩
 ·cases h
theorem JCx {e:Expr} (h:JIv e=true):∃p,e=.List [] p:=by
 unfold JIv at h
 split at h
 ·exact ⟨_,rfl⟩
 ·cases h
noncomputable def isStar:Expr->Bool
 | .Starred ..=>true
 | _=>false
theorem JIG {n:Nat} {names:List (Str×NameKind)} {N:List Str} {e:Expr} {x:E} (h:JAL G n false names N e=some x):isStar e=false:=by
 cases e<;>first | rfl | (cases n<;>simp [JAL,JAZ,JAO,xOf,xRaw] at h)
theorem JDN {n:Nat} {names:List (Str×NameKind)} {N:List Str}:∀ {es:List Expr} {is:List Nat} {q:E×Option Nat},JDG (JAL G n false names N) es is=some q->∀e∈es,isStar e=false
 | [],_,_,_,e,he=>by cases he
 | _::_,[],_,h,_,_=>by unfold JDG at h;cases h
 | a::r,i::is,q,h,e,he=>by
  unfold JDG at h
  split at h
  ·rename_i hn
   obtain ⟨p,rfl⟩:=JCx hn
   obtain ⟨b,hb,_⟩:=q_a.mp h
   rcases q_n.mp he with rfl | he
   ·rfl
   ·have:∀ {es:List Expr} {x:E},JAJ (JAL G n false names N) es=some x->∀e∈es,isStar e=false:=by
     intro es
     induction es with
     | nil=>intro x _ e he;cases he
     | cons a r ih =>
      intro x h e he
      unfold JAJ at h
      obtain ⟨y,h1,h⟩:=q_a.mp h
      obtain ⟨z,h2,_⟩:=q_a.mp h
      rcases q_n.mp he with rfl | he
      ·exact JIG h1
      ·exact ih h2 e he
    exact this hb e he
  ·obtain ⟨y,h1,h⟩:=q_a.mp h
   obtain ⟨z,h2,_⟩:=q_a.mp h
   rcases q_n.mp he with rfl | he
   ·exact JIG h1
   ·exact JDN h2 e he
theorem JGY {X:Cx} {XX:Nat->Hp->Prop} {n:Nat} {names:List (Str×NameKind)} {N:List Str} (g:Gk X B C CX XX G) (ih:∀e x,JAL G n false names N e=some x->PE X e (RE B C XX x)):∀ {es:List Expr} {is:List Nat} {q:E×Option Nat},JDG (JAL G n false names N) es is=some q ->
  cnt q.1=es.length/\(q.2=none->PA X es (RA B C XX q.1))/\∀i,q.2=some i->∃k,is[k]? = some i/\PA X es (ROA X B C XX q.1 k)
 | [],_,q,h=>by
  unfold JDG at h;cases h
  exact ⟨rfl,fun _=>JNS,fun _ z=>by cases z⟩
 | _::_,[],_,h=>by unfold JDG at h;cases h
 | e::r,i::is,q,h=>by
  unfold JDG at h
  split at h
  ·rename_i hn
   obtain ⟨p,rfl⟩:=JCx hn
   obtain ⟨b,hb,h⟩:=q_a.mp h
   cases h
   have hc:cnt b=r.length:=JAR hb
   refine ⟨by simp only [cnt,hc,List.length_cons],(fun z=>nomatch z),fun j hj=>⟨0,?_,JM7 g (allA g ih hb)⟩⟩
   simpa using hj
  ·obtain ⟨y,h1,h⟩:=q_a.mp h
   obtain ⟨z,h2,h⟩:=q_a.mp h
   cases h
   obtain ⟨c1,c2,c3⟩:=JGY g ih h2
   refine ⟨by simp only [cnt,c1,List.length_cons],fun w=>JGH g (ih e y h1) (c2 w) (JAU h1 r X.env),fun j hj=>?_⟩
   obtain ⟨k,hk,hp⟩:=c3 j hj
   exact ⟨k+1,by simpa using hk,JM1 g (ih e y h1) hp (JAU h1 r X.env)⟩
theorem disp3 {names:List (Str×NameKind)} {env:PySem.Env} {a b c:Expr} {nx ny nz:Str} {px py pz pt pt2:Pos} {kt k2:Nat} (hk:env.scope.kind=.function) (hn:env.scope.names=names) (s1:isStar a=false) (s2:isStar b=false) (s3:isStar c=false)
  (h:JIf names [.Name nx px,.Name ny py,.Name nz pz] [a,b,c]=true) :
  swappedStores [.Tuple [.Name nx px,.Name ny py,.Name nz pz] kt pt] (.Tuple [a,b,c] k2 pt2) env=pure (some [nx,ny,nz])/\env.scope.names.lookup nx=some .local/\env.scope.names.lookup ny=some .local/\env.scope.names.lookup nz=some .local:=by
 simp only [JIf,three,q_i,beq_iff_eq,Bool.not_eq_true',bne_iff_ne,ne_eq] at h
 obtain ⟨⟨⟨⟨⟨⟨⟨⟨⟨⟨_,h1⟩,h2⟩,h3⟩,l1⟩,l2⟩,n1⟩,n2⟩,n3⟩,h5⟩,h6⟩:=h
 have hb:env.blockKind=.function:=by unfold PySem.Env.blockKind;rw [hk];rfl
 have e1:env.kindOf nx=some .local:=by show env.scope.names.lookup nx=_;rw [hn];exact h1
 have e2:env.kindOf ny=some .local:=by show env.scope.names.lookup ny=_;rw [hn];exact h2
 have e3:env.kindOf nz=some .local:=by show env.scope.names.lookup nz=_;rw [hn];exact h3
 refine ⟨?_,e1,e2,e3⟩
 have el:([nx,ny,nz]:List Str).eraseDups.length=3:=by
  have m1:(ny==nx)=false:=beq_eq_false_iff_ne.mpr (Ne.symm n1)
  have m2:(nz==nx)=false:=beq_eq_false_iff_ne.mpr (Ne.symm n2)
  have m3:(nz==ny)=false:=beq_eq_false_iff_ne.mpr (Ne.symm n3)
  simp [List.eraseDups_cons,List.filter_cons,m1,m2,m3,bne]
 unfold swappedStores
 have lx:((Expr.Name nx px).pos).line=px.line:=rfl
 simp only [List.length_cons,List.length_nil,hb,List.head?_cons,Option.map_some,Option.getD_some,List.filterMap_cons,List.filterMap_nil,e1,e2,e3,lx,<-l1,<-l2,beq_self_eq_true,Bool.and_self,if_true,h5,h6,el,bne_self_eq_false,Bool.or_false,Bool.not_true,q_v,if_false]
 simp
 intro hz
 exfalso
 rcases hz with z | z | z
 ·cases a<;>first | (cases z;done) | (cases s1;done)
 ·cases b<;>first | (cases z;done) | (cases s2;done)
 ·cases c<;>first | (cases z;done) | (cases s3;done)
theorem disp4 {env:PySem.Env} {a b c d:Expr} {r es:List Expr} {pt pt2:Pos} {kt k2:Nat}:swappedStores [.Tuple (a::b::c::d::r) kt pt] (.Tuple es k2 pt2) env=pure none:=by
 unfold swappedStores
 have:(!((a::b::c::d::r).length==2 || (a::b::c::d::r).length==3))=true:=by simp
 simp only [this,Bool.true_or,if_true]
theorem JIn {names:List (Str×NameKind)} {env:PySem.Env} {ts es:List Expr} {pt pt2:Pos} {kt k2:Nat} (hn:env.scope.names=names) (h:ts.any (JKn names)=true):swappedStores [.Tuple ts kt pt] (.Tuple es k2 pt2) env=pure none:=by
 have key:∀line:Nat,(ts.filterMap fun
  | .Name id pos=>if env.kindOf id==some .local&&pos.line==line then some id else none
  | _=>none).length≠ts.length:=fun line e=>by
  rw [List.filterMap_length_eq_length] at e
  obtain ⟨t,ht,hc⟩:=List.any_eq_true.mp h
  have:=e t ht
  cases t<;>try exact JBg hc
  rename_i x p
  have hc:(names.lookup x==some NameKind.cell)=true:=hc
  have hk:env.kindOf x=some .cell:=by show env.scope.names.lookup x=_;rw [hn];simpa using hc
  have e0:(some NameKind.cell==some NameKind.local)=false:=by decide
  simp only [hk,e0,Bool.false_and,q_v,if_false,Option.isSome_none] at this
 unfold swappedStores
 dsimp only
 split
 ·rfl
 ·split
  ·rfl
  ·rw [if_pos]
   have:=key (ts.head?.map (·.pos.line) |>.getD 0)
   simp only [Bool.or_eq_true,bne_iff_ne,ne_eq]
   exact .inl this
theorem JMu {X:Cx} {XX:Nat->Hp->Prop} {n:Nat} {names:List (Str×NameKind)} {N:List Str} (g:Gk X B C CX XX G) (ih:∀e x,JAL G n false names N e=some x->PE X e (RE B C XX x)) (hk:X.env.scope.kind=.function) (hn:X.env.scope.names=names) (hN:X.N=N) (hnd:N.Nodup) (hfn:∀nm,X.fn nm=true\/X.env.scope.names.lookup nm≠some .cell)
  {ts es:List Expr} {is:List Nat} {k k2:Nat} {pt pt2 pos:Pos} {q:E×Option Nat} (hi:slots names N ts=some is) (hd:is.Nodup) (ho:JF1 names ts es=true) (hq:JDG (JAL G n false names N) es is=some q) :
  PS X (.Assign [.Tuple ts k pt] (.Tuple es k2 pt2) pos) (RSt X B C XX (unpO is q.1 q.2)):=by
 obtain ⟨c1,c2,c3⟩:=JGY g ih hq
 have key:∀ta,PA X es ta->PS X (.Assign [.Tuple ts k pt] (.Tuple es k2 pt2) pos) (JIq is ta):=fun ta ha=>by
  unfold JF1 at ho
  rcases Bool.or_eq_true_iff.mp ho with hcl | ho
  ·exact JId g ha hn hN hnd hfn hi rfl (JIn hn (Bool.and_eq_true_iff.mp hcl).1)
  have ho':=ho
  unfold JIf at ho'
  split at ho'
  ·obtain ⟨nx,px,ny,py,nz,pz,rfl,rfl,rfl,he3⟩:=JDQ ho'
   obtain ⟨a,b,c,rfl⟩:∃a b c,es=[a,b,c]:=by
    match es,he3 with
    | [a,b,c],_=>exact ⟨a,b,c,rfl⟩
   have hs:=JDN hq
   obtain ⟨w1,w2,w3,w4⟩:=disp3 (env:=X.env) (kt:=k) (pt:=pt) (k2:=k2) (pt2:=pt2) hk hn (hs a (by simp)) (hs b (by simp)) (hs c (by simp)) ho
   obtain ⟨_,_,i,js,e0,i1,hi,e4⟩:=JBU hi
   cases e0
   obtain ⟨_,_,j,ls,e0,i2,hi,e5⟩:=JBU hi
   cases e0
   obtain ⟨_,_,l,us,e0,i3,hi,e6⟩:=JBU hi
   cases e0
   unfold slots at hi
   cases hi
   subst e6;subst e5;subst e4
   simp only [List.nodup_cons,q_n,List.not_mem_nil,or_false,not_or] at hd
   exact JMi g.calm (by rw [hN];exact hnd) (slot_of hn hN i1).1 (slot_of hn hN i2).1 (slot_of hn hN i3).1 hd.1.1 hd.1.2 hd.2.1 w2 w3 w4 ha w1
  ·exact JId g ha hn hN hnd hfn hi rfl disp4
  ·cases ho'
 have hl:es.length<=1000:=by
  unfold JF1 at ho
  rcases Bool.or_eq_true_iff.mp ho with hcl | ho
  ·exact of_decide_eq_true (Bool.and_eq_true_iff.mp hcl).2
  unfold JIf at ho
  split at ho
  ·obtain ⟨_,_,_,_,_,_,_,_,_,he3⟩:=JDQ ho
   omega
  ·simp only [q_i,q_C] at ho
   exact ho.2
  ·cases ho
 cases e:q.2 with
 | none=>exact JMf g (by omega) (key _ (JHe g (c2 e)))
 | some i =>
  obtain ⟨k',hk',hp⟩:=c3 i e
  exact JNM g (by omega) hd hk' (key _ (JMp g hp))
theorem JCO {X:Cx} {XX:Nat->Hp->Prop} {f:Stmt->Option S} (ih:∀st t,f st=some t->PS X st (RSt X B C XX t)):∀ {sts:List Stmt} {t:S},JAe f sts=some t->PSs X sts (RSt X B C XX t)
 | [],t,h=>by unfold JAe at h;cases h;exact JPV
 | st::r,t,h=>by
  unfold JAe at h
  obtain ⟨a,h1,h⟩:=q_a.mp h
  obtain ⟨b,h2,h⟩:=q_a.mp h
  cases h
  exact JNY (ih st a h1) (JCO ih h2)
theorem JG9 (ra:Rare B C CX G):∀(n:Nat) (X:Cx) (XX:Nat->Hp->Prop) (names:List (Str×NameKind)) (N:List Str) (zz:Bool),Gk X B C CX XX G->X.env.scope.kind=.function->X.env.scope.names=names->X.N=N->N.Nodup ->
  PassesOwn (model X.prog X.w) X.A X.env X.xe->(∀nm,X.fn nm=true)->(zz=true->JLZ X B G XX)->(zz=true->G.lookup (".try":Str)=some GK.opt->Tries X B C CX G XX)->∀(st:Stmt) (t:S),JCj G n zz names N st=some t->PS X st (RSt X B C XX t)
 | 0,X,XX,names,N,zz,g,hk,hn,hN,hnd,hpo,hfn,hr,ht,st,t,h=>JAF h
 | n+1,X,XX,names,N,zz,g,hk,hn,hN,hnd,hpo,hfn,hr,ht,st,t,h=>by
  have ih:=JG9 ra n X XX names N zz g hk hn hN hnd hpo hfn hr ht
  obtain ⟨ihE,ihI⟩:=sound ra n X XX names N g hk hn hN hnd
  cases st with
  | Pass p=>cases h;exact JNA
  | Break p=>cases h;exact JQR
  | Continue p=>cases h;exact JQL
  | Return e p =>
   cases e with
   | none=>cases h;exact JMd
   | some e =>
    dsimp only [JCj,JCG] at h
    obtain ⟨x,hx,e'⟩:=q_d.mp h
    subst e'
    exact JOV g (ihE e x hx).1
  | If c a b p =>
   dsimp only [JCj,JCG] at h
   obtain ⟨z,hz,h⟩:=q_a.mp h
   obtain ⟨x,hx,h⟩:=q_a.mp h
   obtain ⟨y,hy,h⟩:=q_a.mp h
   cases h
   exact JOa g (ihE c z hz).2 (JCO ih hx) (JCO ih hy)
  | While c body orelse p =>
   cases orelse with
   | cons a b=>exact JAF h
   | nil =>
    dsimp only [JCj,JCG] at h
    obtain ⟨z,hz,h⟩:=q_a.mp h
    obtain ⟨x,hx,h⟩:=q_a.mp h
    cases h
    exact JQx g hpo (ihE c z hz).2 (JCO ih hx)
  | For tg iter body orelse p =>
   cases orelse with
   | cons a b=>exact JAF h
   | nil =>
    dsimp only [JCj,JCG] at h
    split at h
    ·rename_i nm ht
     obtain ⟨p2,e2⟩:=JET ht
     cases e2
     obtain ⟨i,hi,h⟩:=q_a.mp h
     obtain ⟨x,hx,h⟩:=q_a.mp h
     obtain ⟨b,hb,h⟩:=q_a.mp h
     cases h
     obtain ⟨q1,q2⟩:=slot_of hn hN hi
     exact JMY g hpo (ihI _ iter x hx) (JCO ih hb) (by rw [hN];exact hnd) q1 q2 (.inl (hfn nm)) (JBp hx X.env)
    ·rename_i ts ht
     obtain ⟨k,p2,e2⟩:=JEK ht
     cases e2
     obtain ⟨is,hi,h⟩:=q_a.mp h
     obtain ⟨x,hx,h⟩:=q_a.mp h
     obtain ⟨b,hb,h⟩:=q_a.mp h
     cases h
     cases hxx:xT G names iter with
     | none =>
      rw [hxx] at hx
      exact JH8 g hpo (ihI _ iter x hx) (JCO ih hb) hn hN hnd (fun nm=>.inl (hfn nm)) hi (JBp hx X.env)
     | some q =>
      rw [hxx] at hx
      obtain ⟨y,hy,rfl⟩:=q_d.mp hx
      obtain ⟨q1,q2⟩:=JDy hxx
      exact JH8 g hpo ((ra.xop q.1 q2).tgt X XX g ts k p2 iter q.2 y (by rw [hn];exact q1) (allA g (fun a x h=>(ihE a x h).1) hy) (JEx hy) (JAR hy)) (JCO ih hb) hn hN hnd (fun nm=>.inl (hfn nm)) hi (JFT hxx X.env)
    ·cases h
  | Raise exc cause p =>
   dsimp only [JCj,JCG] at h
   obtain ⟨nm,hr0,h9⟩:=q_a.mp h
   clear h
   obtain ⟨p1,m,j,p2,p3,rfl,rfl⟩:=JDv hr0
   have h:=h9
   clear h9
   split at h
   ·rename_i c hg
    split at h
    case isFalse=>cases h
    rename_i hz
    cases h
    obtain ⟨g1,g2,g3⟩:=JA5 hg
    intro pins s σ H D I ⟨δ,O,Hb,hb,so,k⟩
    simp only [exec] at k
    exact hr hz nm c m j p1 p2 p3 p (JB4 hn g2) g1 g3 pins s σ H D I (g.anti c Hb H so.same k)
   ·cases h
  | Assign ts e p =>
   have hfn':∀nm,X.fn nm=true\/X.env.scope.names.lookup nm=some .local:=fun nm=>.inl (hfn nm)
   dsimp only [JCj,JCG] at h
   split at h
   ·rename_i nm ht
    obtain ⟨p1,rfl⟩:=JET ht
    obtain ⟨i,hi,h⟩:=q_a.mp h
    obtain ⟨y,hy,h⟩:=q_a.mp h
    split at h
    ·cases h
    ·rename_i hc
     cases h
     obtain ⟨q1,q2⟩:=slot_of hn hN hi
     have hnd':X.N.Nodup:=by rw [hN];exact hnd
     by_cases h1:JDl e=true
     ·obtain ⟨es,p2,rfl⟩:=JGb h1
      have hf:y.fresh=true:=by
       cases n with
       | zero=>simp [JAL,JAZ,JAO] at hy
       | succ n =>
        simp only [JAL,JAZ,JAO,xOf,xRaw,Option.bind_none] at hy
        split at hy
        ·obtain ⟨z,_,e'⟩:=q_d.mp hy
         subst e';rfl
        ·cases hy
      exact JG8 g (JED ra g hk hn hN hnd hy) hf hnd' q1 q2 rfl (hfn' nm)
     ·by_cases h2:JDe e=true
      ·obtain ⟨elt,gens,sc,p2,rfl⟩:=JJt h2
       obtain ⟨target,iter,ifs,xs,k,y1,z1,w1,e1,e2,bk,hi2,hs2,hrun⟩:=JHU ra g hk hn hN hnd hy
       subst e1;subst e2
       cases hb:(X.env.blockKind==.function&&X.env.kindOf nm==some .local&&p1.line==(Expr.ListComp elt [⟨target,iter,ifs,0⟩] sc p2).pos.line&&!(sc.names.any fun (n,k)=>n==nm&&(k==.local || k==.cell))) with
       | true =>
        have hsw:swapsWith (.ListComp elt [⟨target,iter,ifs,0⟩] sc p2) (some (.Name nm p1)) p.line X.env=pure true:=by rw [<-hb];rfl
        have hloc:X.env.scope.names.lookup nm=some .local:=by
         simp only [q_i,beq_iff_eq] at hb
         exact hb.1.1.2
        exact JNm g (JJe g bk hi2 hs2 hrun hsw hnd' q1 hloc) rfl
       | false =>
        have hsw:swapsWith (.ListComp elt [⟨target,iter,ifs,0⟩] sc p2) (some (.Name nm p1)) p.line X.env=pure false:=by rw [<-hb];rfl
        exact JG8 g (JCv g bk hi2 hs2 hrun) rfl hnd' q1 q2 hsw (hfn' nm)
      ·have hf:y.fresh=false:=by
        cases hz:y.fresh with
        | false=>rfl
        | true=>exact absurd ⟨hz,by simpa using h1,by simpa using h2⟩ hc
       exact JQs g (ihE e y hy).1 hf hnd' q1 q2 (JGL hy (by simpa using h2) _ _ _) (hfn' nm)
   ·rename_i ts ht
    obtain ⟨k,pt,rfl⟩:=JEK ht
    obtain ⟨is,hi,h⟩:=q_a.mp h
    split at h
    ·rename_i hc
     obtain ⟨y,hy,e'⟩:=q_d.mp h
     subst e'
     by_cases ht:isTup e=true
     ·have hp:JEt names ts e=true:=by
       rcases hc.2 with z | z
       ·rw [ht] at z;cases z
       ·exact z
      obtain ⟨nx,px,ny,py,a,b,k2,pt2,e7,e8⟩:=JFO hp
      subst e7;subst e8
      ·skip
       obtain ⟨w1,w2,w3,w4⟩:=JE4 (env:=X.env) (kt:=k) (pt:=pt) hk hn (fun es e=>by
        subst e
        cases n with
        | zero=>simp [JAL,JAZ,JAO] at hy
        | succ n =>
         simp only [JAL,JAZ,JAO,xOf,xRaw,Option.bind_none] at hy
         split at hy
         ·obtain ⟨z,hz,_⟩:=q_d.mp hy
          unfold JAJ at hz
          obtain ⟨z1,hz1,hz⟩:=q_a.mp hz
          obtain ⟨z2,hz2,hz⟩:=q_a.mp hz
          unfold JAJ at hz2
          obtain ⟨z3,hz3,hz2⟩:=q_a.mp hz2
          have t1:∀ {e:Expr} {x:E},JAL G n false names N e=some x->(match e with | .Starred ..=>true | _=>false)=false:=by
           intro e x h
           cases e<;>first | rfl | (cases n<;>simp [JAL,JAZ,JAO,xOf,xRaw] at h)
          simp only [List.any_cons,List.any_nil,t1 hz1,t1 hz3,Bool.or_self,Bool.or_false]
         ·cases hy) hp
       simp only [slots] at hi
       obtain ⟨i,hi1,hi⟩:=q_a.mp hi
       obtain ⟨js,hi2,hi⟩:=q_a.mp hi
       obtain ⟨j,hi3,hi2⟩:=q_a.mp hi2
       simp only [Option.bind_some,q_j] at hi2
       subst hi2
       cases hi
       have hy':=hy
       cases n with
       | zero=>simp [JAL,JAZ,JAO] at hy
       | succ n =>
        simp only [JAL,JAZ,JAO,xOf,xRaw,Option.bind_none] at hy
        split at hy
        ·obtain ⟨z,hz,e'⟩:=q_d.mp hy
         subst e'
         have hij:i≠j:=by
          have:=of_decide_eq_true hc.1
          simp at this
          exact this
         exact JP8 g (allA g (fun e x h=>((sound ra n X XX names N g hk hn hN hnd).1 e x h).1) hz) (by rw [hN];exact hnd) (slot_of hn hN hi1).1 (slot_of hn hN hi3).1 hij w3 w4 w1
        ·cases hy
     ·exact JOk g (ihE e y hy).1 hn hN hnd (fun nm=>.inl (hfn nm)) hi (JIZ hy _ _ _ _ _) (JEL (by simpa using ht) _ _ _ _)
    ·obtain ⟨es,he,h9⟩:=q_a.mp h
     clear h
     obtain ⟨k2,pt2,rfl⟩:=JGr he
     split at h9
     case isFalse=>cases h9
     rename_i hc
     obtain ⟨q,hq,rfl⟩:=q_d.mp h9
     exact JMu g (fun e x h=>((sound ra n X XX names N g hk hn hN hnd).1 e x h).1) hk hn hN hnd (fun nm=>.inl (hfn nm)) hi (of_decide_eq_true hc.1) hc.2 hq
   ·cases h
  | Expr e p =>
   dsimp only [JCj,JCG] at h
   split at h
   ·rename_i nm m a hm
    obtain ⟨p1,ap,cp,rfl,hc1⟩:=JFR hm
    split at h
    ·rename_i hc2
     have JEc:∀ {i},slot names N nm=some i->Vis X.env.scope nm:=fun hi=>by
      rcases (slot_of hn hN hi).2 with k | k
      ·exact .inl k
      ·exact .inr (.inl k)
     split at h
     ·rename_i hm
      subst hm
      obtain ⟨i,hi,h⟩:=q_a.mp h
      obtain ⟨y,hy,e'⟩:=q_d.mp h
      subst e'
      exact JPm g (slot_of hn hN hi).1 (JEc hi) hc2 (ihE a y hy).1 (JAU hy [] _) hc1
     ·split at h
      ·rename_i hm
       obtain ⟨hm,hl⟩:=hm
       subst hm
       obtain ⟨i,hi,h⟩:=q_a.mp h
       obtain ⟨y,hy,e'⟩:=q_d.mp h
       subst e'
       by_cases hl2:JDl a=true
       ·obtain ⟨es,p2,rfl⟩:=JGb hl2
        exact JPF g (slot_of hn hN hi).1 (JEc hi) hc2 (JED ra g hk hn hN hnd hy) (JAU hy [] _) hc1
       ·exact JMb g (slot_of hn hN hi).1 (JEc hi) hc2 (ihE a y hy).1 (JAU hy [] _) hc1
      ·cases h
    ·cases h
   ·split at h
    ·rename_i nm a b hm
     obtain ⟨p1,ap,cp,rfl,hc1⟩:=JG2 hm
     split at h
     ·rename_i hc2
      obtain ⟨i,hi,h⟩:=q_a.mp h
      obtain ⟨y,hy,e'⟩:=q_d.mp h
      subst e'
      have vs:Vis X.env.scope nm:=by
       rcases (slot_of hn hN hi).2 with k | k
       ·exact .inl k
       ·exact .inr (.inl k)
      have s1:=JEx hy a (by simp) [b] X.env
      have s2:=JEx hy b (by simp) [] X.env
      have s3:starEach ([]:List Expr) X.env=[]:=rfl
      rw [s3] at s2
      rw [s2] at s1
      exact JQW g (slot_of hn hN hi).1 vs hc2 (allA g (fun e x h=>((sound ra n X XX names N g hk hn hN hnd).1 e x h).1) hy) s1 s2 hc1
     ·cases h
    ·split at h
     ·rename_i hd
      obtain ⟨y,j,p2,rfl⟩:=JGz hd
      cases h
      exact JQh
     ·split at h
      ·cases h
      ·rename_i hc
       obtain ⟨y,hy,e'⟩:=q_d.mp h
       subst e'
       exact JNH g (ihE e y hy).1 (JGL hy (by simpa using hc) _ _ _)
  | Try body hs orelse fin p =>
   cases orelse with
   | cons a b=>exact JAF h
   | nil =>
    cases fin with
    | cons a b=>exact JAF h
    | nil =>
     dsimp only [JCj,JCG] at h
     obtain ⟨⟨cn,en,kn⟩,hq,h9⟩:=q_a.mp h
     clear h
     obtain ⟨np,p1,p2,p3,hp,rfl⟩:=JFf hq
     have h:=h9
     clear h9 hq
     simp only at h ⊢
     split at h
     case isFalse=>cases h
     rename_i hc
     obtain ⟨hz,ho,hb,hl⟩:=hc
     split at h
     case h_2=>cases h
     rename_i c hg
     obtain ⟨b,hbb,h⟩:=q_a.mp h
     obtain ⟨i,hi,h⟩:=q_a.mp h
     obtain ⟨j,hj,h⟩:=q_a.mp h
     split at h
     case isTrue=>cases h
     rename_i hij
     cases h
     obtain ⟨g1,g2,g3⟩:=JA5 hg
     have hie:slot names N en=some i:=by unfold slot;rw [hl];exact hi
     refine ht hz ho _ _ _ _ _ _ _ _ _ _ _ _ _ _ (fun pn xe XX' po gk=>?_) (JB4 hn g2) g1 hb g3 (by rw [hN];exact hnd) (slot_of hn hN hie).1 (by rw [hn];exact hl) (slot_of hn hN hj).1 (slot_of hn hN hj).2 hij
     exact JCO (JG9 ra n (atX X X.A pn xe true) XX' names N false gk hk hn hN hnd po hfn (fun z=>by cases z) (fun z=>by cases z)) hbb
  | _=>exact JAF h
end
structure Turned (G:List (Str×GK)) (st:Stmt) (N ps:List Str) (fd:Fd):Prop where
 comp:JAe (JCj G 60 true (JAV st).names N) (JAu st)=some fd.body
 sc:FnScope N ps (JAV st)
 par:fd.par=ps.length
 slots:fd.slots=N.length
structure DefAt (K:PySem.W.Frag) (mg:Str->Option Value) (G:List (Str×GK)) (x:Str) (fd:Fd):Prop where
 ex:∃f fo st N ps,mg x=some (.ref f)/\Fun K x x st f fo/\Binds K fo ps []/\Turned G st N ps fd
theorem JGf {N:List Str} {ds:List D} {vs:List V} {B:Bs} {H:Hp} {m:Nat} (h:DenL B H ds vs) (hl:N.length=m) (hv:vs.length<=m):SO B H (start N vs) H (ds.map Sl.val++List.replicate (m - ds.length) Sl.no) (fun _=>none):=by
 have hlen:=DenL.len ds vs h
 refine ⟨?_,Same.refl H,(fun i j a e=>by cases e),fun i=>?_⟩
 ·simp only [L2.start,q_u,q_g,List.length_replicate];omega
 ·have hh:hid H (fun _=>none)=H:=by
   funext b
   unfold hid hidP
   rw [if_neg]
   rintro ⟨i,e⟩
   cases e
  by_cases hi:i<ds.length
  ·rw [q_B (by simpa using hi),List.getElem?_map]
   obtain ⟨d,hd⟩:∃d,ds[i]? = some d:=⟨_,q_q hi⟩
   obtain ⟨v,hv,dn⟩:=DenL.get ds vs i d h hd
   rw [hd]
   refine ⟨rfl,v,?_,by rw [hh];exact dn⟩
   unfold L2.start
   rw [q_B (by rw [q_g];omega),List.getElem?_map,hv]
   rfl
  ·rw [List.getElem?_append_right (by simpa using hi),List.getElem?_replicate]
   split
   ·rfl
   ·rfl
section
variable {B:Bs} {G:List (Str×GK)} {tab:Nat->Option Fd} {glo:Nat->R D} {sub:Nat->Nat->Bool}
theorem JNo {x:Bool} {n i:Nat} {ds:List D} (h:run x tab glo sub n i ds≠.bad):∃fd,tab i=some fd/\ds.length=fd.par:=by
 cases n with
 | zero=>exact absurd rfl h
 | succ n =>
  unfold run at h
  cases e:tab i with
  | none=>rw [e] at h;exact absurd rfl h
  | some fd =>
   have h:JFH x ⟨run x tab glo sub n,glo,sub⟩ fd ds≠.bad:=by rw [e] at h;exact h
   refine ⟨fd,rfl,?_⟩
   unfold JFH at h
   by_cases hl:ds.length=fd.par
   ·exact hl
   ·rw [if_neg hl] at h
    exact absurd rfl h
noncomputable def JNR (K:PySem.W.Frag):Sp:=fun vs H Q E=>∃(a:Addr) (ns:List Int),vs=[.ref a]/\ns.length<=63/\SqL K H a (ns.map V.int)/\∀H',Q (.bl true) H'
theorem JF9 {H:Hp}:∀ns:List Int,DenL B H (ns.map fun i=>PyData.int i) (ns.map V.int)
 | []=>by simp only [List.map_nil,DenL]
 | n::ns=>by
  simp only [List.map_cons,DenL]
  exact ⟨_,_,rfl,by simp only [Den],JF9 ns⟩
end
structure FnIn (K:PySem.W.Frag) (x:Str) (st:Stmt):Prop where
 ex:∃(f:Addr) (oc:Value) (od an:Option Addr) (sl:Array (Option Value)) (kV dc pm cd ct:Value),PySem.W.nsIn K mainGlobals x=some (some (.ref f)) /\
  K.lookup f=some ⟨oc,od,.func (PySem.W.fnOf x x (JBG st) (JAu st) (JAV st) .none kV dc pm an cd ct),sl⟩/\PySem.W.codeIn K cd x=true/\PySem.W.keepIn K (.ref f)=true
theorem fn_in {K:PySem.W.Frag} {x:Str} {st:Stmt} {f:Addr} {oc:Value} {od an:Option Addr} {sl:Array (Option Value)} {kV dc pm cd ct:Value} (a:PySem.W.nsIn K mainGlobals x=some (some (.ref f)))
  (l:K.lookup f=some ⟨oc,od,.func (PySem.W.fnOf x x (JBG st) (JAu st) (JAV st) .none kV dc pm an cd ct),sl⟩) (c:PySem.W.codeIn K cd x=true) (k:PySem.W.keepIn K (.ref f)=true):FnIn K x st :=
 ⟨f,oc,od,an,sl,kV,dc,pm,cd,ct,a,l,c,k⟩
noncomputable def JAP (x:Str) (st:Stmt) (ps:List Str):Prop:=∀(kV doc pm:Value) (an:Option Addr) (cdv ct:Value) (us:List Value),us.length=ps.length->bindArgs (PySem.W.fnOf x x (JBG st) (JAu st) (JAV st) .none kV doc pm an cdv ct) ⟨us,[]⟩=pure (ps.zip us)
theorem FnIn.at {K:PySem.W.Frag} {h:Heap} {mg:Str->Option Value} {G:List (Str×GK)} {x:Str} {st:Stmt} {N ps:List Str} {fd:Fd} (F:FnIn K x st) (X:K.In h) (Gm:h.Ns mainGlobals mg) (b:JAP x st ps) (T:Turned G st N ps fd):DefAt K mg G x fd:=by
 obtain ⟨f,oc,od,an,sl,kV,dc,pm,cd,ct,a,l,c,k⟩:=F.ex
 have Fn:=JLs (st:=st) l c k
 exact ⟨f,_,st,N,ps,PySem.W.mg_of X Gm a,Fn,Fn.binds b,T⟩
noncomputable def AllP (P:Str->GK->Prop):List (Str×GK)->Prop
 | []=>True
 |(x,k)::r=>P x k/\AllP P r
theorem AllP.get {P:Str->GK->Prop}:∀ {G:List (Str×GK)} {x:Str} {k:GK},AllP P G->G.lookup x=some k->P x k
 | [],x,k,_,h=>by cases h
 |(y,j)::r,x,k,⟨h1,h2⟩,h=>by
  rw [List.lookup_cons] at h
  by_cases e:(x==y)=true
  · rw [e] at h
    have e':x=y:=by simpa using e
    cases h
    subst e'
    exact h1
  · have e':(x==y)=false:=by simpa using e
    rw [e'] at h
    exact AllP.get h2 h
theorem JES {o:Expr} (h:JBM o=false) (nm:Str) (env:PySem.Env) (m:Sem Value):attributeBase o nm env m=m:=by
 cases o with
 | Call f as ks p =>
  cases as with
  | nil =>
   cases ks with
   | nil=>cases h
   | cons k ks=>cases f<;>rfl
  | cons a as=>cases f<;>rfl
 | _=>rfl
section
variable {X:Cx} {B:Bs} {C:Cn} {CX:CXT} {XX:Nat->Hp->Prop} {G:List (Str×GK)}
noncomputable def JO5 (B:Bs) (XX:Nat->Hp->Prop):V->List V->Hp->VK->Prop:=fun v vs H Q=>∃dx dy u,Den B H dx v/\vs=[u]/\Den B H dy u/\KE B XX (JDF dx dy) H Q
noncomputable def JQY (B:Bs) (XX:Nat->Hp->Prop):V->List V->Hp->VK->Prop:=fun v vs H Q=>∃dx dy u,Den B H dx v/\vs=[u]/\Den B H dy u/\KE B XX (JEX dx dy) H Q
theorem JJp (g:Gk X B C CX XX G):MtR X "list.count" (JO5 B XX):=by
 intro pins s σ H v vs vv us Q I rv rs ⟨dx,dy,u,hx,e,hy,k⟩
 subst e
 obtain ⟨w,rfl,rw'⟩:=rs.one
 cases dx with
 | list ds =>
  simp only [JDF] at k
  split at k
  ·rename_i hs
   simp only [JB5,q_i,q_C] at hs
   obtain ⟨bs,rb⟩:=Den.reads g.K I dy u w hs.1.2 hy rw'
   obtain ⟨as,ra⟩:=Den.reads g.K I (.list ds) v vv (by simpa only [PyData.canLay0] using hs.1.1) hx rv
   have hu:=g.units
   have hm:=Nat.min_le_right (PyData.depthAll ds) dy.depth
   cases ra with
   | list h1 h2 h3 h4 =>
    rename_i l o items n as'
    obtain ⟨oc,od,oD,os⟩:=o
    simp only at h2 h3
    subst h2;subst h3
    refine call_meets PySem.F.slot_list_count ⟨_,h1,rfl⟩ PySem.F.entry_list_count (PySem.F.args_list_count_2 _ _) (SeqAt.list_countAt l items n od os w _) ⟨h1,SeqAt.items_eqAt h4 rb hs.1.1 hs.1.2 (by omega),?_⟩
    refine ⟨.int _,H,I.tok _,⟨_,rfl⟩,KE.ok k ?_⟩
    simp only [Den]
    congr 2
    rw [<-SeqAt.readsAll_map ds _ _ hs.1.1 h4,List.countP_map]
    rfl
  ·exact k.elim
 | _=>exact False.elim k
theorem JKH (g:Gk X B C CX XX G):MtR X "list.index" (JQY B XX):=by
 intro pins s σ H v vs vv us Q I rv rs ⟨dx,dy,u,hx,e,hy,k⟩
 subst e
 obtain ⟨w,rfl,rw'⟩:=rs.one
 cases dx with
 | list ds =>
  simp only [JEX] at k
  split at k
  ·rename_i hs
   simp only [JB5,q_i,q_C] at hs
   obtain ⟨bs,rb⟩:=Den.reads g.K I dy u w hs.1.2 hy rw'
   obtain ⟨as,ra⟩:=Den.reads g.K I (.list ds) v vv (by simpa only [PyData.canLay0] using hs.1.1) hx rv
   have hu:=g.units
   have hm:=Nat.min_le_right (PyData.depthAll ds) dy.depth
   split at k
   ·rename_i j hj
    have hz:ds.length<=sizeLine:=by
     simp only [Den] at hx
     obtain ⟨a,xs,e1,q,l⟩:=hx
     obtain ⟨_,_,_,z⟩:=I.list (g.K▸q)
     rw [DenL.len ds xs l];exact z
    cases ra with
    | list h1 h2 h3 h4 =>
     rename_i l o items n as'
     obtain ⟨oc,od,oD,os⟩:=o
     simp only at h2 h3
     subst h2;subst h3
     have hmap:=SeqAt.readsAll_map ds _ _ hs.1.1 h4
     have hlen:items.size=ds.length:=by rw [<-hmap,q_g,q_E]
     obtain ⟨q1,q2,q3⟩:=List.findIdx?_eq_some_iff_getElem.mp hj
     have get:∀m (hm:m<items.size),SeqAt.readOf s.heap items[m]=ds[m]'(by omega):=fun m hm=>by
      have:(items.toList.map (SeqAt.readOf s.heap))[m]'(by simpa using hm)=ds[m]'(by omega):=by simp only [hmap]
      simpa using this
     refine call_meets PySem.F.slot_list_index ⟨_,h1,rfl⟩ PySem.F.entry_list_index (PySem.F.args_list_index_2 _ _) (SeqAt.list_indexAt l items n od os w (fun y=>PyData.eqv (SeqAt.readOf s.heap y) dy) j (by omega) ?_ ?_ ?_) ⟨h1,SeqAt.items_eqAt h4 rb hs.1.1 hs.1.2 (by omega),?_⟩
     ·have:(sizeLine:Int)<2 ^ 63 - 1:=by decide
      omega
     ·simp only [get j (by omega)];exact q2
     ·intro m hm hmj
      simp only [get m hm]
      have:=q3 m hmj
      simpa using this
     ·refine ⟨.int _,H,I.tok _,⟨_,rfl⟩,KE.ok k ?_⟩
      simp only [Den]
   ·exact False.elim k
  ·exact k.elim
 | _=>exact False.elim k
theorem few1 {a:Expr} {cp:Pos} (hs:starEach [a] X.env=[(false,eval a X.env)]):((backTo cp (starEach [a] X.env)).all (fun x=>!x.1)&&(backToKw cp (keywordEach [] X.env)).all (fun x=>x.1.isSome)
  && decide (([a]:List Expr).length+([]:List Keyword).length+(if ([]:List Keyword).isEmpty then 0 else 1)<30))=true:=by
 rw [hs];rfl
theorem JPk (g:Gk X B C CX XX G) {o a:Expr} {x y:E} {ap cp:Pos} {m:Str} {id:String} {f:D->D->R D} (slot:Slot "list" m id) (hty:typeOf (.builtin id)=pure (.type "method_descriptor"))
  (hm:MtR X id (fun v vs H Q=>∃dx dy u,Den B H dx v/\vs=[u]/\Den B H dy u/\KE B XX (f dx dy) H Q)) (ho:JBM o=false) (hl:(ap.endLine==cp.line)=true) (hx:PE X o (RE B C XX x)) (hy:PE X a (RE B C XX y)) (hs:starEach [a] X.env=[(false,eval a X.env)]) {z:E}
  (hz:∀δ,ev C z δ=(ev C x δ).bind fun x=>if JM2 x=true then (ev C y δ).bind fun y=>f x y else .bad):PE X (.Call (.Attribute o m ap) [a] [] cp) (RE B C XX z):=by
 refine PE.imp (JIT PySem.F.plainAttrs_list slot hty hm hx (JBL hy JCK hs) (JES ho _ _ _) (few1 hs) hl hs rfl) fun σ H Q ⟨δ,ok,h⟩=>?_
 rw [hz] at h
 refine RE.of (W:=fun r H=>KE B XX r H Q) ok (fun _ _ z=>z) (fun _ z=>z) h fun dx v H1 s1 d1 h1=>?_
 cases dx with
 | list ds =>
  have d1':=d1
  simp only [Den] at d1'
  obtain ⟨l,xs,e,q,dl⟩:=d1'
  subst e
  refine ⟨.inl ⟨rfl,xs,by rw [g.K];exact q⟩,?_⟩
  refine RE.of (W:=fun r H=>KE B XX r H Q) (ok.mono s1) (fun _ _ z=>z) (fun _ z=>z) (KE.mono g s1 h1) fun dy u H2 s2 d2 h2=>?_
  exact ⟨_,_,_,Den.mono s2 _ _ d1,rfl,d2,KE.mono g s2 h2⟩
 | _=>exact False.elim h1
theorem JM9 (g:Gk X B C CX XX G) (o a:Expr) (x y:E) (ap cp:Pos) (ho:JBM o=false) (hl:(ap.endLine==cp.line)=true) (hx:PE X o (RE B C XX x)) (hy:PE X a (RE B C XX y)) (hs:starEach [a] X.env=[(false,eval a X.env)]) :
  PE X (.Call (.Attribute o "count" ap) [a] [] cp) (RE B C XX (.mcount x y)) :=
 JPk g PySem.F.slot_list_count PySem.F.type_list_count (JJp g) ho hl hx hy hs fun δ=>by simp only [ev]
theorem JNb (g:Gk X B C CX XX G) (o a:Expr) (x y:E) (ap cp:Pos) (ho:JBM o=false) (hl:(ap.endLine==cp.line)=true) (hx:PE X o (RE B C XX x)) (hy:PE X a (RE B C XX y)) (hs:starEach [a] X.env=[(false,eval a X.env)]) :
  PE X (.Call (.Attribute o "index" ap) [a] [] cp) (RE B C XX (.mindex x y)) :=
 JPk g PySem.F.slot_list_index PySem.F.type_list_index (JKH g) ho hl hx hy hs fun δ=>by simp only [ev]
theorem JGP {H:Hp} {x:Str} {z d:D}:∀ {kvs:List (D×D)} {xs:List (Key×V)},DenK B H kvs xs->getD kvs x z=.ok d ->
  (∃v,(xs.find? fun p=>p.1=Sum.inr x).map (·.2)=some v/\Den B H d v)\/((xs.find? fun p=>p.1=Sum.inr x).map (·.2)=none/\d=z)
 | [],xs,h,e=>by
  simp only [DenK] at h
  subst h
  simp only [getD,R.ok.injEq] at e
  exact .inr ⟨rfl,e.symm⟩
 |(k,d')::r,xs,h,e=>by
  simp only [DenK] at h
  obtain ⟨y,v,t,e1,e2,q,l⟩:=h
  subst e1;subst e2
  simp only [getD] at e
  simp only [List.find?_cons]
  split at e
  · rename_i hk
    subst hk
    cases e
    simp only [decide_true,Option.map_some]
    exact .inl ⟨v,rfl,q⟩
  · rename_i hk
    have:¬((Sum.inr y:Key)=Sum.inr x):=fun z=>hk (Sum.inr.inj z)
    simp only [this,decide_false]
    exact JGP l e
theorem r_get (g:Gk X B C CX XX G) (o a b:Expr) (x y z:E) (ap cp:Pos) (ho:JBM o=false) (hl:(ap.endLine==cp.line)=true) (hx:PE X o (RE B C XX x)) (hy:PE X a (RE B C XX y)) (hz:PE X b (RE B C XX z))
  (hs:starEach [a,b] X.env=[(false,eval a X.env),(false,eval b X.env)]) (hs2:starEach [b] X.env=[(false,eval b X.env)]):PE X (.Call (.Attribute o "get" ap) [a,b] [] cp) (RE B C XX (.mget x y z)):=by
 intro pins s σ H Q I ⟨δ,ok,h⟩
 simp only [ev] at h
 have hA:PA X [a,b] (RA B C XX (.cons y (.cons z .nil))):=JGH g hy (JGH g hz JNS (by rw [hs2];rfl)) (by rw [hs,hs2])
 refine wpAny_Call_method_late (JES ho _ _ _) (by rw [hs];rfl) hl rfl (thn (hx pins s σ H (fun v H1=>∃dx,Den B H1 dx v/\Same H H1/\KE B XX (if JKW dx=true then (ev C y δ).bind fun y=>(ev C z δ).bind fun z=>JFa dx y z else .bad) H Q) I
  (RE.of (W:=fun r H=>KE B XX r H Q) ok (fun _ _ z=>z) (fun _ z=>z) h fun dx v H1 s1 d1 h1=>⟨dx,d1,s1,h1⟩)) fun v s1 ⟨vx,H1,I1,r1,dx,d1,sm,h1⟩=>?_)
 cases hd:JKW dx with
 | false=>rw [hd] at h1;exact False.elim h1
 | true =>
  rw [hd] at h1
  have h1:KE B XX ((ev C y δ).bind fun y=>(ev C z δ).bind fun z=>JFa dx y z) H Q:=h1
  have hk:∃kvs p xs,dx=.dict kvs/\vx=.ref p/\SqD B.K B.w H1 p xs/\DenK B H1 kvs xs:=by
    cases dx with
    | dict kvs =>
     simp only [Den] at d1
     rcases d1 with ⟨p,c,e1,e2,_⟩ | ⟨p,xs,e1,e2,e3⟩
     ·subst e2
      cases hd
     ·exact ⟨kvs,p,xs,rfl,e1,e2,e3⟩
    | _=>cases hd
  obtain ⟨kvs,p,xs,rfl,rfl,sq,dk⟩:=hk
  cases r1
  rw [<-g.K,<-g.W] at sq
  have ex:=SqD.at I1 sq
  obtain ⟨hsys,vs,kv,dd⟩:=ex
  have dd':=dd
  obtain ⟨ob,es,ep,ho',hex,_⟩:=dd'
  refine ⟨"dict",_,PySem.F.plainAttrs_dict,PySem.F.slot_dict_get,PySem.F.type_dict_get,dd.typeIs,fun q e=>?_,?_⟩
  · cases e
    exact ⟨ob,ho',hex.2.1⟩
  · have run:=hA cp pins s1 σ H1 (fun us H2=>∃dy dz,Same H1 H2/\DenL B H2 [dy,dz] us/\KE B XX (JFa (.dict kvs) dy dz) H Q) I1 (by
     refine ⟨δ,ok.mono sm,?_⟩
     simp only [evA]
     cases q1:ev C y δ with
     | ok dy =>
      rw [q1] at h1
      cases q2:ev C z δ with
      | ok dz=>rw [q2] at h1;exact fun us H2 s2 d2=>⟨dy,dz,s2,d2,h1⟩
      | exc c=>rw [q2] at h1;exact g.anti c H H1 sm h1
      | bad=>rw [q2] at h1;exact h1
     | exc c=>rw [q1] at h1;exact g.anti c H H1 sm h1
     | bad=>rw [q1] at h1;exact h1)
    rw [hs] at run ⊢
    refine Calls.callWith_builtin rfl (Calls.evalArgs_plain (thn run fun us s2 ⟨ws,H2,I2,r2,dy,dz,s12,dl,hq⟩=>?_))
    simp only [DenL] at dl
    obtain ⟨u1,t1,e1,q1,u2,t2,e2,q2,e3⟩:=dl
    subst e3;subst e2;subst e1
    obtain ⟨w1,w2,rfl,rw1,rw2⟩:=r2.two
    cases dy with
    | str k =>
     simp only [Den] at q1
     subst q1
     obtain ⟨tk,rfl⟩:=rw1
     obtain ⟨hsys,vs,kv,dd⟩:=SqD.at I2 (JO2 s12 sq)
     refine call_meetsIn PySem.F.slot_dict_get dd.typeIs PySem.F.entry_dict_get (PySem.F.args_dict_get_3 _ _ _) (meets_dict_get_default (JBE X.prog X.w) p (JB3 _ _ k tk) hsys w2) ⟨_,dd.mapOf,?_⟩
     have dk2:=DenK.mono s12 kvs xs dk
     simp only [JFa] at hq
     cases hg:getD kvs k dz with
     | ok d =>
      rw [hg] at hq
      rcases JGP dk2 hg with ⟨v,f1,f2⟩ | ⟨f1,f2⟩
      ·obtain ⟨u,g1,g2⟩:=(JFS kv).1 v f1
       refine ⟨v,H2,I2.tok _,by rw [g1];exact g2,hq v H2 (sm.trans s12) f2⟩
      ·have g1:=(JFS kv).2 f1
       subst f2
       refine ⟨u2,H2,I2.tok _,by rw [g1];exact rw2,hq u2 H2 (sm.trans s12) q2⟩
     | exc c =>
      exfalso
      have:∀kvs:List (D×D),getD kvs k dz≠.exc c:=by
       intro kvs
       induction kvs with
       | nil=>intro h;cases h
       | cons p r ih =>
        obtain ⟨a,b⟩:=p
        cases a<;>simp only [getD]<;>first | (intro h;cases h;done) | skip
        split
        ·intro h;cases h
        ·exact ih
      exact this kvs hg
     | bad=>rw [hg] at hq;exact False.elim hq
    | _=>exact False.elim hq
end
noncomputable def TrAt (h:Heap) (e T:Addr) (cls:Value):Prop:=∃oe vs a0 oT ts,h.get? e=some oe/\(oe.cls=cls/\vs[0]? = some a0)/\oe.data=.fields vs/\vs[1]? = some (.ref T)/\T≠e/\h.get? T=some oT/\oT.data=.fields ts/\ts[3]? = some .none
noncomputable def CXV (P:Program) (w:World) (B:Bs):CXT:=fun outer H s E e s'=>∃(ea T:Addr) (c:Nat) (H':Hp),e=.ref ea/\s'.os=s.os/\AllBare s'.gens/\Un (frs outer) [] H H' s.heap s'.heap/\HOk P w H' s'.heap /\
 TrAt s'.heap ea T (.ref (B.cl c))/\(s.heap.get? ea=none/\H' ea=none)/\(s.heap.get? T=none/\H' T=none)/\E (.ref (B.cl c)) none H'
theorem JFz {P:Program} {w:World} {H:Hp} {h:Heap} {a:Addr} {o:HO} (x:HOk P w H h) (q:H a=some o):∃u,h.get? a=some u:=by
 have:=x a o q
 cases o with
 | lst xs=>obtain ⟨_,_,_,_,e⟩:=this;exact ⟨_,e⟩
 | tup xs=>obtain ⟨_,_,_,_,e,_⟩:=this;exact ⟨_,e⟩
 | dK kvs=>obtain ⟨_,_,_,_,_,_,_,e,_⟩:=this;exact ⟨_,e⟩
 | dT kvs=>obtain ⟨_,_,_,_,_,_,_,e,_⟩:=this;exact ⟨_,e⟩
 | set S n=>obtain ⟨_,_,_,_,e,_⟩:=this;exact ⟨_,e⟩
 | ins C dx fs=>obtain ⟨_,_,_,e,_⟩:=this;exact ⟨_,e⟩
 | own y=>exact this
 | xd fs=>obtain ⟨_,⟨_,_,_,e,_⟩,_⟩:=this;exact ⟨_,e⟩
 | rng lo hi=>obtain ⟨_,_,_,e⟩:=this;exact ⟨_,e⟩
 | frz ob u=>exact ⟨_,this.1⟩
 | tbl ps=>exact ⟨_,this⟩
 | met f y=>exact ⟨_,this⟩
 | ext φ=>exact this.2.1
theorem JJv {P:Program} {w:World} {H:Hp} {h:Heap} {a:Addr} (x:HOk P w H h) (q:h.get? a=none):H a=none:=by
 cases z:H a with
 | none=>rfl
 | some o =>
  obtain ⟨u,e⟩:=JFz x z
  rw [q] at e;cases e
section
variable {X:Cx} {pins:List (Addr×Obj)} {σ:St} {H':Hp} {s1:Shared} {h2:Heap}
theorem JDW (I:Inv X pins σ H' s1) (up:s1.heap.UpToSlots h2) {b:Addr} (hb:b∈frs X.stack):∃o,h2.get? b=some o/\∀vs,o.data≠.fields vs:=by
 obtain ⟨_,o,ho,hd⟩:=I.stack.mem hb
 obtain ⟨sl,hs⟩:=up b o ho hd
 exact ⟨_,hs,hd⟩
theorem JHF (I:Inv X pins σ H' s1) (hex:X.ex=[]) {as:List Addr} (has:∀b∈as,b∈frs X.stack\/(X.s₀.heap.get? b=none/\H' b=none)) {ea:Addr} {cls a0:Value} {l:List PySem.Env}
  (fl:Heap.FlyingW (PySem.W.hideAll s1.heap as) l ea cls a0 h2) (up:s1.heap.UpToSlots h2) :
  Un X.fs [] X.H₀ H' X.s₀.heap h2/\HOk X.prog X.w H' h2/\∃T,TrAt h2 ea T cls/\X.s₀.heap.get? T=none/\H' T=none:=by
 obtain ⟨st,fe,ff,oe,vs,T,oT,ts,q1,q2,q3,q4,q5,q6,q7,q8,q9⟩:=fl
 have U:=I.base
 rw [hex] at U
 have sub:∀b∈X.fs,b∈frs X.stack:=fun b hb=>by
  rcases I.ok.stk with e | ⟨e,hf⟩
  · rw [e];exact hb
  · rw [e]
    unfold frs
    rw [List.filterMap_cons,hf]
    exact q_s _ hb
 have loc:∀b o,X.s₀.heap.get? b=some o->b ∉ X.fs->b ∉ frs X.stack:=fun b o e n z=>by
  rcases q_n.mp (I.stkSub b z) with q | q
  · rw [q] at e
    exact absurd (q_h e) (Nat.not_lt.mpr I.ok.above)
  · exact n q
 have out:∀b o,X.s₀.heap.get? b=some o->b ∉ frs X.stack->b ∉ as:=fun b o e n z=>by
  rcases has b z with q | ⟨q,_⟩
  · exact n q
  · rw [q] at e;cases e
 have keep:∀b o,s1.heap.get? b=some o->b ∉ as->h2.get? b=some o:=fun b o e n=>st b o (PySem.W.hideAll_get _ e n)
 have trk:∀b o,H' b=some o->b ∉ as:=fun b o e z=>by
  rcases has b z with q | ⟨_,q⟩
  · rw [I.stkFree b q] at e;cases e
  · rw [q] at e;cases e
 refine ⟨⟨fun b o e n hf hx=>keep b o (U.keep b o e n hf hx) (out b o e (loc b o e hf)),fun b o e n hf hx=>?_,U.free,fun b o e hx=>?_,U.tups,U.frzs,U.tbls⟩,fun a o e=>?_,T,⟨oe,vs,a0,oT,ts,q1,q2,q3,q4,q6,q7,q8,q9⟩,?_,?_⟩
 ·obtain ⟨sl,e1⟩:=U.slot b o e n hf hx
  obtain ⟨_,o',ho',hd'⟩:=I.stack.mem (sub b hf)
  rw [e1] at ho'
  cases ho'
  obtain ⟨sl',e2⟩:=up b _ e1 hd'
  exact ⟨sl',e2⟩
 ·obtain ⟨o',e1⟩:=U.there b o e hx
  by_cases hb:b∈frs X.stack
  · obtain ⟨o2,e2,_⟩:=JDW I up hb
    exact ⟨o2,e2⟩
  · exact ⟨o',keep b o' e1 (out b o e hb)⟩
 ·refine (I.hok a o e).stay (fun b u hb eb=>keep b u eb ?_) (fun _ q=>q) fun _ _ q=>q
  rcases hb with rfl | hb
  · exact trk _ _ e
  · exact trk _ _ hb
 ·cases q:X.s₀.heap.get? T with
  | none=>rfl
  | some o =>
    exfalso
    obtain ⟨o',e1⟩:=U.there T o q (by simp)
    by_cases hb:T∈frs X.stack
    ·obtain ⟨o2,e2,hd⟩:=JDW I up hb
     rw [q7] at e2;cases e2
     exact hd _ q8
    ·have:=PySem.W.hideAll_get as e1 (out T o q hb)
     rw [q5] at this;cases this
 ·cases q:H' T with
  | none=>rfl
  | some o =>
    exfalso
    have hl:=(I.hok T o q).lt
    have hn:=trk T o q
    obtain ⟨u,e⟩:=JFz I.hok q
    have:=PySem.W.hideAll_get as e hn
    rw [q5] at this;cases this
end
section
variable {P:Program} {w:World} {B:Bs} {mg:Str->Option Value} {base:Heap} {N:List Str} {qual:Str} {scope:Scope} {f:Addr} {cd:Value} {A:Around} {outer:List PySem.Env} {s:Shared} {H:Hp} {E:XK}
abbrev XXd (B:Bs) (E:XK):Nat->Hp->Prop:=fun c H1=>∀H',Same H1 H'->E (.ref (B.cl c)) none H'
theorem JNq:JDd (CXV P w B) (cxOf (CXV P w B) P w B.K mg base N qual scope f cd A outer s H E) (EX B (XXd B E)):=by
 intro pins σ H1 s1 e s' I ⟨ea,T,c,H',e1,os,bare,un,hok,tr,⟨f1,f2⟩,⟨f3,f4⟩,⟨c',ec,hE⟩⟩
 subst e1
 have I':=I.call' (ch:=[]) os un hok bare (fun b hb=>by simp at hb)
 obtain ⟨oe,vs,a0,oT,ts,q1,q2,q3,q4,q6,q7,q8,q9⟩:=id tr
 have fr0:∀b,s1.heap.get? b=none->s.heap.get? b=none:=fun b q=>by
  cases z:s.heap.get? b with
  | none=>rfl
  | some o =>
   obtain ⟨o',e2⟩:=I.base.there b o z (by simp [cxOf])
   rw [q] at e2;cases e2
 have has:∀b∈(ea::T::frs (cxOf (CXV P w B) P w B.K mg base N qual scope f cd A outer s H E).stack),b∈frs (cxOf (CXV P w B) P w B.K mg base N qual scope f cd A outer s H E).stack\/(s.heap.get? b=none/\H' b=none):=fun b hb=>by
  rcases q_n.mp hb with rfl | hb
  ·exact .inr ⟨fr0 _ f1,f2⟩
  ·rcases q_n.mp hb with rfl | hb
   ·exact .inr ⟨fr0 _ f3,f4⟩
   ·exact .inl hb
 refine PySem.wpAny_leaves_onW (base:=PySem.W.hideAll s'.heap (ea::T::frs (cxOf (CXV P w B) P w B.K mg base N qual scope f cd A outer s H E).stack)) (outer:=outer) (cls:=.ref (B.cl c)) (a0:=a0) I'.ok.frames rfl
  ⟨fun b o q=>PySem.W.of_hideAll _ q,PySem.W.hideAll_none _ (by simp),PySem.W.funFrames_hide I'.stack (fun env he a hf=>q_s _ (q_s _ (List.mem_filterMap.mpr ⟨env,he,hf⟩))),oe,vs,T,oT,ts,q1,q2,q3,q4,PySem.W.hideAll_none _ (by simp),q6,q7,q8,q9⟩ fun h2 fl up=>?_
 obtain ⟨u2,hok2,T2,tr2,t1,t2⟩:=JHF I' rfl has fl up
 refine ⟨ea,T2,c,H',rfl,?_,bare,u2,hok2,tr2,⟨fr0 _ f1,f2⟩,⟨t1,t2⟩,?_⟩
 ·exact os.trans I.os
 ·rw [ec];exact hE H' (Same.refl H')
theorem JHA:∀(outer:List PySem.Env) (H:Hp) (s:Shared) (e:Value) (s':Shared),¬CXV P w B outer H s (EX B fun _ _=>False) e s':=by
 rintro outer H s e s' ⟨ea,T,c,H',_,_,_,_,_,_,_,_,c',_,z⟩
 exact z
end
abbrev bmV:List Value:=[.type "ValueError",.type "Exception",.type "BaseException",.type "object"]
theorem JMk {K:PySem.W.Frag} {h:Heap} {C:Addr} {bmB:List Value} {newId:String} (X:K.In h) (q:PySem.W.excIn K C bmB newId=true) :
  ∃(bm:List Value) (N:Addr) (nm qn:Str) (bs:List Value) (hdct:Bool) (sn:List Str) (sub:List Value) (ab:Bool) (col:Option Bool) (dd:Option Addr) (k0 k1 k2 k3 k5:Option Value) (mN:Str->Option Value),
   h.get? C=some (excClassObj nm qn C N bs bm hdct sn sub ab col dd k0 k1 k2 k3 k5 newId)/\h.Ns N mN/\mN "__init__"=none/\OwnTail h bmB bm:=by
 unfold PySem.W.excIn at q
 split at q
 case h_2=>cases q
 rename_i od cdat slots hlook
 split at q
 case h_2=>cases q
 rename_i C2 tl a0 a1 a2 a3 idn a5 hmro hsl
 simp only [q_i,beq_iff_eq,Bool.not_eq_true'] at q
 obtain ⟨⟨⟨⟨⟨e1,e2⟩,e3⟩,e4⟩,e5⟩,e6⟩:=q
 subst e1;subst e2
 cases cdat with
 | mk nm bs mro ns qn hd sn sub ab col del =>
  simp only at hmro e3 e5 e6
  subst hmro;subst e3
  cases slots with
  | mk l =>
   simp only at hsl
   subst hsl
   exact ⟨tl,ns,nm,qn,bs,hd,sn,sub,ab,col,od,a0,a1,a2,a3,a5,_,X _ _ hlook,.of_isNs (PySem.W.isNs_of_in X e5),PySem.W.nsMap_none_of_in X e5 e6,PySem.W.tail_of_in X e4⟩
section
variable {P:Program} {w:World} {B:Bs} {mg:Str->Option Value} {base:Heap} {N:List Str} {qual:Str} {scope:Scope} {f:Addr} {cd:Value} {A:Around} {outer:List PySem.Env} {s:Shared} {H:Hp} {E:XK} {G:List (Str×GK)}
structure Cl (mg:Str->Option Value) (B:Bs) (G:List (Str×GK)):Prop where
 mgc:∀x c,G.lookup x=some (.cls c)->mg x=some (.ref (B.cl c))
 exc:∀x c,G.lookup x=some (.cls c)->∃Bn inN bmN newId,ExcBaseFacts Bn newId inN bmN/\bmV.contains (.type Bn)=true/\PySem.W.excIn B.K (B.cl c) bmV newId=true
theorem JGt (cl:Cl mg B G) (hA:A.handled=none):JLZ (cxOf (CXV P w B) P w B.K mg base N qual scope f cd A outer s H E) B G (XXd B E):=by
 intro nm c m j p1 p2 p3 pos hg hb hl pins s1 σ H1 D I hx
 obtain ⟨Bn,inN,bmN,newId,Fn,hBn,q⟩:=cl.exc nm c hl
 obtain ⟨bm,N',nm',qn,bs,hdct,sn,sub,ab,col,dd,k0,k1,k2,k3,k5,mN,hC,hN,hni,TL⟩:=JMk I.kIn q
 refine wpAny_Raise_call_subU (C:=B.cl c) (nm:=nm') (q:=qn) (N:=N') (bs:=bs) (bm:=bm) (hdct:=hdct) (sn:=sn) (sub:=sub) (ab:=ab) (col:=col) (dd:=dd) (k0:=k0) (k1:=k1) (k2:=k2) (k3:=k3) (k5:=k5)
  Fn hBn PySem.F.excBase_ValueError (mN:=mN) (TL.hasType PySem.F.excBase_ValueError.hasBase) hA rfl hni (JD6 I hg (cl.mgc nm c hl) ⟨rfl,?_⟩ (JAD hb).1)
 refine Calls.evalArgs_plain (Calls.spliced_cons (Calls.Constant_str (k:=j) (pos:=p2) (Calls.spliced_nil ⟨rfl,(show (1:Nat)<=sizeLine by decide),hC,hN,TL,fun h' e hx'=>?_⟩)))
 have none0:s.heap.get? e=none:=by
  cases z:s.heap.get? e with
  | none=>rfl
  | some o =>
    obtain ⟨o',e2⟩:=I.base.there e o z (by simp [cxOf])
    have:=hx'.new
    rw [e2] at this;cases this
 refine PySem.wpAny_leaves_madeW (base:=PySem.W.hideAll s1.heap (frs (cxOf (CXV P w B) P w B.K mg base N qual scope f cd A outer s H E).stack)) (outer:=outer) I.ok.frames rfl (fun b o q=>PySem.W.of_hideAll _ q)
  (PySem.W.funFrames_hide I.stack (fun env he a hf=>List.mem_filterMap.mpr ⟨env,he,hf⟩)) hx' fun h2 t x1 x2 x3 x4=>?_
 obtain ⟨u2,hok2,T2,tr2,t1,t2⟩:=JHF I rfl (fun b hb=>.inl hb) x1 ((Heap.UpToSlots.of_keeps hx'.keeps).trans x4)
 exact ⟨e,T2,c,H1,rfl,I.os,I.bare,u2,hok2,tr2,⟨none0,JJv I.hok hx'.new⟩,⟨t1,t2⟩,hx H1 (Same.refl H1)⟩
end
section
variable {X:Cx} {pins pins' pn:List (Addr×Obj)} {σ:St} {H:Hp} {s:Shared} {A:Around} {xe:Value->Shared->Prop} {calm:Bool} {h2:Heap}
theorem JGF (I:Inv X pins σ H s) (hA:A.frames=X.A.frames) (hc:calm=true->A.handled=none) (hp:∀p∈pn++pins',p∈X.pn++pins):Inv (atX X A pn xe calm) pins' σ H s :=
 let ok:=I.ok
 ⟨⟨ok.mod,ok.kind,ok.glob,ok.blt,ok.above,ok.inj,ok.has,ok.cab,hc,hA.trans ok.frames,ok.stk,ok.exf,ok.bs,ok.bsz,ok.noex,ok.exfs,ok.funs,ok.frf⟩,I.os,I.bare,I.base,I.loc,I.cell,I.free,I.freeC,fun p q=>I.pin p (hp p q),I.hok,I.len⟩
theorem JDY (I:Inv (atX X A pn xe calm) pins' σ H s) (hA:X.A.frames=A.frames) (hc:X.calm=true->X.A.handled=none) (hp:∀p∈X.pn++pins,p∈pn++pins'):Inv X pins σ H s :=
 let ok:=I.ok
 ⟨⟨ok.mod,ok.kind,ok.glob,ok.blt,ok.above,ok.inj,ok.has,ok.cab,hc,hA.trans ok.frames,ok.stk,ok.exf,ok.bs,ok.bsz,ok.noex,ok.exfs,ok.funs,ok.frf⟩,I.os,I.bare,I.base,I.loc,I.cell,I.free,I.freeC,fun p q=>I.pin p (hp p q),I.hok,I.len⟩
theorem JIy (I:Inv X pins σ H s) (hex:X.ex=[]) {as:List Addr} (has:∀b∈as,b∈frs X.stack\/(X.s₀.heap.get? b=none/\H b=none)) (hpin:∀p∈X.pn++pins,p.1 ∉ as) {ea:Addr} {cls a0:Value} {l:List PySem.Env}
  (fl:Heap.FlyingW (PySem.W.hideAll s.heap as) l ea cls a0 h2) (up:s.heap.UpToSlots h2) (t:Nat):Inv X pins σ H { s with heap:=h2,toks:=t }:=by
 obtain ⟨u2,hok2,_⟩:=JHF I hex has fl up
 obtain ⟨m,hn,hl⟩:=id I.loc
 have cell:∀ {c:Addr} {v:Option Value},s.heap.IsCell c v->h2.IsCell c v:=fun {c v} ⟨o,ho,hd⟩=>by
  obtain ⟨sl,e⟩:=up c o ho (fun vs q=>by rw [hd] at q;cases q)
  exact ⟨_,e,hd⟩
 refine ⟨I.ok,I.os,I.bare,by rw [hex];exact u2,⟨m,up.ns hn,fun i x v e1 e2 e3=>?_⟩,fun x c e=>?_,I.free,I.freeC,fun p hp=>?_,hok2,I.len⟩
 ·obtain ⟨u,r,q⟩:=hl i x v e1 e2 e3
  refine ⟨u,r,?_⟩
  rcases q with q | ⟨k,c,e,z⟩
  · exact .inl q
  · exact .inr ⟨k,c,e,cell z⟩
 ·obtain ⟨v,z⟩:=I.cell x c e
  exact ⟨v,cell z⟩
 ·obtain ⟨e,n,ne,nf,d⟩:=I.pin p hp
  exact ⟨fl.1 _ _ (PySem.W.hideAll_get _ e (hpin p hp)),n,ne,nf,d⟩
theorem JHE (I:Inv X pins σ H s) {ea C:Addr} {oe:Obj} {vs:Array Value} (he:s.heap.get? ea=some oe) (hc:oe.cls=.ref C) (hd:oe.data=.fields vs) (h0:X.s₀.heap.get? ea=none) (hn:H ea=none) (hpin:∀p∈X.pn++pins,p.1≠ea) :
  Inv X pins σ (upd H ea (.ext (ExcAt ea C))) s:=by
 have hloc:ea≠X.env.locals:=fun z=>by
  obtain ⟨m,⟨o,es,ep,ho,hdo,_⟩,_⟩:=I.loc
  rw [<-z,he] at ho
  cases ho
  rw [hd] at hdo;cases hdo
 have hcell:∀x c,X.env.cells.lookup x=some c->c≠ea:=fun x c e z=>by
  obtain ⟨v,o,ho,hdo⟩:=I.cell x c e
  rw [z,he] at ho
  cases ho
  rw [hd] at hdo;cases hdo
 have U:=I.base
 refine ⟨I.ok,I.os,I.bare,⟨U.keep,U.slot,fun b o e n hx=>?_,U.there,fun b xs e=>?_,fun b o u e=>?_,fun b ps e=>?_⟩,I.loc,I.cell,?_,fun x c e=>?_,fun p hp=>?_,fun a o e=>?_,I.len⟩
 ·rw [JAG fun z=>by rw [z,h0] at e;cases e]
  exact U.free b o e n hx
 ·have q:=U.tups b xs e
  rw [JAG fun z=>by rw [z,hn] at q;cases q]
  exact q
 ·have q:=U.frzs b o u e
  rw [JAG fun z=>by rw [z,hn] at q;cases q]
  exact q
 ·obtain ⟨more,q⟩:=U.tbls b ps e
  exact ⟨more,by rw [JAG fun z=>by rw [z,hn] at q;cases q];exact q⟩
 ·rw [JAG hloc.symm];exact I.free
 ·rw [JAG (hcell x c e)];exact I.freeC x c e
 ·obtain ⟨e,n,ne,nf,d⟩:=I.pin p hp
  exact ⟨e,by rw [JAG (hpin p hp)];exact n,ne,nf,d⟩
 ·by_cases ha:a=ea
  ·subst ha
   rw [JAH] at e
   cases e
   refine ⟨⟨oe,he,hc⟩,⟨oe,he⟩,fun h1 h2 ⟨o1,q1,q2⟩ k=>⟨o1,k o1 q1,q2⟩⟩
  ·rw [JAG ha] at e
   have ne:∀b o,H b=some o->b≠ea:=fun b o q z=>by rw [z,hn] at q;cases q
   exact (I.hok a o e).stay (fun b u _ q=>q) (fun b q=>by rw [JAG (ne b _ q)];exact q) fun b xs q=>by rw [JAG (ne b _ q)];exact q
theorem JHr {M:Model} {A:Around} {E:Value->Shared->Prop} {i:Nat} {x:Str} {v:V} {Q:Unit->Shared->Prop} (I:Inv X pins σ H s) (hN:X.N.Nodup) (hi:X.N[i]? = some x) (hx:X.env.scope.names.lookup x=some .local) (hv:σ[i]? = some (some v))
  (h:∀s',Inv X pins (σ.set i none) H s'->Q () s'):wpAny M A (unbindName X.env x) Q E s:=by
 obtain ⟨m,hn,hl⟩:=id I.loc
 obtain ⟨u,r,q⟩:=hl i x v hi hv (.inl hx)
 have hm:m x=some u:=by
  rcases q with ⟨_,q⟩ | ⟨k,_⟩
  · exact q
  · have hk:X.env.kindOf x=some .local:=hx
    rcases k with k | k<;>rw [hk] at k<;>cases k
 have hcls:(X.env.scope.kind==.class || (X.env.scope.kind==.module&&X.env.locals != X.env.globals))=false:=by rw [I.ok.kind];rfl
 refine wpAny_unbindName_local hx hn hm hcls fun h' u' hn' hs=>h _ ?_
 obtain ⟨oL,_,_,hoL,_⟩:=id hn
 have old:∀b o,X.s₀.heap.get? b=some o->h'.get? b=s.heap.get? b:=fun b o e=>hs.2 b (q_l (q_m (q_h e) I.ok.above))
 have trk:∀b o,H b=some o->b≠X.env.locals:=fun b o e z=>by rw [z,I.free] at e;cases e
 have U:=I.base
 refine ⟨I.ok,I.os,I.bare,⟨fun b o e n hb hx=>(old b o e).trans (U.keep b o e n hb hx),fun b o e n hb hx=>?_,U.free,fun b o e hx=>?_,U.tups,U.frzs,U.tbls⟩,⟨_,hn',fun j y v' e1 e2 e3=>?_⟩,fun y c e=>?_,I.free,I.freeC,fun p hp=>?_,fun a o e=>?_,by simpa using I.len⟩
 ·obtain ⟨sl,q⟩:=U.slot b o e n hb hx
  exact ⟨sl,(old b o e).trans q⟩
 ·obtain ⟨o',q⟩:=U.there b o e hx
  exact ⟨o',(old b o e).trans q⟩
 ·have hj:j≠i:=fun z=>by
    subst z
    have:j<σ.length:=(q_p.mp hv).1
    rw [q_y this] at e2;cases e2
  rw [q_z (Ne.symm hj)] at e2
  obtain ⟨w,r',q⟩:=hl j y v' e1 e2 e3
  have hne:y≠x:=fun e=>hj (JDu hN e1 (e▸hi))
  refine ⟨w,r',?_⟩
  rcases q with ⟨k,e⟩ | ⟨k,c,e,z⟩
  · exact .inl ⟨k,by simp [hne,e]⟩
  · exact .inr ⟨k,c,e,z.sameBut hs (I.cne y c e)⟩
 ·obtain ⟨w,z⟩:=I.cell y c e
  exact ⟨w,z.sameBut hs (I.cne y c e)⟩
 ·obtain ⟨e,n,ne,nf,d⟩:=I.pin p hp
  exact ⟨(hs.2 p.1 ne).trans e,n,ne,nf,d⟩
 ·refine (I.hok a o e).stay (fun b w hb q=>(hs.2 b ?_).trans q) (fun _ q=>q) fun _ _ q=>q
  rcases hb with rfl | hb
  · exact trk _ _ e
  · exact trk _ _ hb
end
section
variable {X:Cx} {B:Bs} {C:Cn} {XX:Nat->Hp->Prop} {G:List (Str×GK)}
theorem sp_un {pins:List (Addr×Obj)} {D:Ends} {xe:Value->Shared->Prop} {f:Flow} {s:Shared} (hc:X.calm=true->X.A.handled=none) (h:SP (atX X X.A (X.pn++pins) xe true) [] D f s):SP X pins D f s:=by
 have hp:∀p∈X.pn++pins,p∈(X.pn++pins)++[]:=fun p hp=>by simpa using hp
 cases f with
 | next=>obtain ⟨σ',H',I,q⟩:=h;exact ⟨σ',H',JDY I rfl hc hp,q⟩
 | brk=>obtain ⟨σ',H',I,q⟩:=h;exact ⟨σ',H',JDY I rfl hc hp,q⟩
 | cont=>obtain ⟨σ',H',I,q⟩:=h;exact ⟨σ',H',JDY I rfl hc hp,q⟩
 | ret u=>obtain ⟨v,σ',H',I,r,q⟩:=h;exact ⟨v,σ',H',JDY I rfl hc hp,r,q⟩
theorem JOl {CX:CXT} (g:Gk X B C CX XX G) {pn:List (Addr×Obj)} {xe:Value->Shared->Prop} {XX':Nat->Hp->Prop} (ha:∀c H H',Same H H'->XX' c H->XX' c H') (hp:JDd CX (atX X X.A pn xe true) (EX B XX')):Gk (atX X X.A pn xe true) B C CX XX' G where
 K:=g.K
 W:=g.W
 anti:=ha
 units:=g.units
 calm:=rfl
 fn:=g.fn
 pas:=hp
 con:=g.con
 noexg:=g.noexg
 blt:=g.blt
 rng:=g.rng
 isi:=g.isi
 ty:=g.ty
 cls:=g.cls
 nam:=g.nam
theorem JOZ {Hb H9:Hp} {σ':St} {δ:Env} {ea:Addr} {k1 i j:Nat} (hl:σ'.length=δ.length) (hj:j<δ.length) (hij:i≠j) (sm:Same Hb H9) (he:H9 ea=some (.ext (ExcAt ea (B.cl k1)))) :
  SO B Hb ((((σ'.set i (some (.ref ea))).set j (some (.ref ea))).set i (some .non)).set i none) H9 ((((δ.map fun _=>Sl.no).set i (.val (excD k1))).set j (.val (excD k1))).set i .no) (fun _=>none):=by
 refine ⟨by simp [hl],sm,(fun a b c e=>by cases e),fun m=>?_⟩
 have hh:hid H9 (fun _=>none)=H9:=by
  funext b
  unfold hid hidP
  rw [if_neg]
  rintro ⟨i,e⟩
  cases e
 by_cases hmi:m=i
 ·subst hmi
  by_cases hm:m<δ.length
  ·rw [q_y (by simpa using hm)]
   rfl
  ·rw [List.getElem?_eq_none (by simp;omega)]
   rfl
 ·rw [q_z (Ne.symm hmi)]
  by_cases hmj:m=j
  ·subst hmj
   rw [q_y (by simpa using hj)]
   refine ⟨rfl,.ref ea,?_,?_⟩
   ·rw [q_z (Ne.symm hmi),q_z (Ne.symm hmi),q_y (by simp;omega)]
   ·rw [hh]
    unfold excD
    simp only [Den]
    exact .inl ⟨ea,k1,rfl,rfl,he⟩
  ·rw [q_z (Ne.symm hmj),q_z (Ne.symm hmi),List.getElem?_map]
   cases δ[m]?<;>rfl
theorem JPJ (g:Gk X B C (CXV X.prog X.w B) XX G) (hst:X.stack=X.env::X.outer) (hf:X.env.frame=some X.env.locals) (hex:X.ex=[]) (hnd:X.N.Nodup) (hfn:∀nm,X.fn nm=true) (hh:X.A.handled=none)
  {body:List Stmt} {b:S} {cn en kn:Str} {c i j:Nat} {np p1 p2 p3 hpos pos:Pos}
  (hbody:∀(pn:List (Addr×Obj)) (xe:Value->Shared->Prop) (XX':Nat->Hp->Prop),PassesOwn (model X.prog X.w) X.A X.env xe->Gk (atX X X.A pn xe true) B C (CXV X.prog X.w B) XX' G->PSs (atX X X.A pn xe true) body (RSt (atX X X.A pn xe true) B C XX' b))
  (hgl:Gl X cn) (hmc:X.mg cn=some (.ref (B.cl c))) (hbn:JAS cn=false) (hben:JAS en=false)
  (hsub:∀k,C.sub k c=true->PySem.W.exmOne B.K (.ref (B.cl k)) (.ref (B.cl c))=some true)
  (hi:X.N[i]? = some en) (hle:X.env.scope.names.lookup en=some .local) (hj:X.N[j]? = some kn) (hlk:Loc X.env.scope kn) (hij:i≠j) :
  PS X (.Try body [.ExceptHandler (some (.Name cn np)) (some en) [.Assign [.Name kn p1] (.Name en p2) p3] hpos] [] [] pos) (RSt X B C XX (.tryx b c i (.cons (.asg j (.var i)) .nil))):=by
 intro pins s σ H D I ⟨δ,O,Hb,hb,so,k⟩
 refine wpAny_Try_except ?_
 have hcal:X.calm=true->X.A.handled=none:=I.ok.hd
 have hpp:∀p∈(X.pn++pins)++[],p∈X.pn++pins:=fun p hp=>by simpa using hp
 have hlen:σ.length=δ.length:=so.len
 have hlN:σ.length=X.N.length:=I.len
 simp only [exec] at k
 cases q:exec C b δ with
 | ex k1 =>
  rw [q] at k
  simp only at k
  split at k
  case isFalse=>exact False.elim k
  rename_i hs1
  have hiδ:i<δ.length:=by
    have:=(q_p.mp hi).1
    omega
  have hjδ:j<δ.length:=by
    have:=(q_p.mp hj).1
    omega
  have e0:look ((δ.map fun _=>Sl.no).set i (.val (excD k1))) i=.ok (excD k1):=by
    unfold look
    rw [q_y (by simpa using hiδ)]
    rfl
  have e1:after (.var i) (excD k1) ((δ.map fun _=>Sl.no).set i (.val (excD k1)))=(δ.map fun _=>Sl.no).set i (.val (excD k1)):=by
    unfold after
    have:JAQ (excD k1)=true:=rfl
    rw [this]
    simp
  simp only [ev,e0,stepR,E.fresh,e1] at k
  have k:∀σ H O,SO B Hb σ H ((((δ.map fun _=>Sl.no).set i (.val (excD k1))).set j (.val (excD k1))).set i .no) O->D.nx σ H:=k
  refine wpAny_mono (hbody (X.pn++pins) (fun e s₁=>wpAny (model X.prog X.w) X.A (noteFrame e X.env) (fun _ s₂=>wpAny (model X.prog X.w) X.A (setFlight e none) (fun _ s₃=>wpAny (model X.prog X.w) X.A (handleBy e X.env [.ExceptHandler (some (.Name cn np)) (some en) [.Assign [.Name kn p1] (.Name en p2) p3] hpos]) (SP X pins D) X.xe s₃) X.xe s₂) X.xe s₁)
    (fun k H1=>k=k1/\Same Hb H1) PassesOwn.looking (JOl g (fun c H H' s ⟨a,b⟩=>⟨a,b.trans s⟩) ?_) [] s σ H ⟨fun _ _=>False,fun _ _=>False,fun _ _=>False,fun _ _=>False⟩ (JGF I rfl (fun _=>hh) hpp) ⟨δ,O,Hb,hb,so,by rw [q];exact ⟨rfl,Same.refl Hb⟩⟩) (fun f s₁ h₁=>?_) fun _ _ z=>z
  ·
    intro pins' σ' H1 s1 e s' I1 ⟨ea,T,c',H',ee,os,bare,un,hok,tr,⟨f1,f2⟩,⟨f3,f4⟩,⟨c2,ec,hk2,sm⟩⟩
    subst ee;subst hk2
    have I':=I1.call' (ch:=[]) os un hok bare (fun b hb=>by simp at hb)
    have J0:Inv X pins σ' H' s':=JDY I' rfl hcal (fun p hp=>List.mem_append_left _ hp)
    obtain ⟨oe,vs,a0,oT,ts,q1,q2,q3,q4,q6,q7,q8,q9⟩:=id tr
    have fr0:∀b,s1.heap.get? b=none->X.s₀.heap.get? b=none:=fun b q=>by
      cases z:X.s₀.heap.get? b with
      | none=>rfl
      | some o =>
       obtain ⟨o',e2⟩:=I1.base.there b o z (by show b ∉ X.ex;rw [hex];simp)
       rw [q] at e2;cases e2
    have has:∀b∈(ea::T::frs X.stack),b∈frs X.stack\/(X.s₀.heap.get? b=none/\H' b=none):=fun b hb=>by
      rcases q_n.mp hb with rfl | hb
      ·exact .inr ⟨fr0 _ f1,f2⟩
      ·rcases q_n.mp hb with rfl | hb
       ·exact .inr ⟨fr0 _ f3,f4⟩
       ·exact .inl hb
    have hpin:∀p∈X.pn++pins,p.1 ∉ (ea::T::frs X.stack):=fun p hp hm=>by
      obtain ⟨e,n,ne,nf,d⟩:=I1.pin p (List.mem_append_left _ hp)
      rcases q_n.mp hm with z | hm
      ·rw [z,f1] at e;cases e
      ·rcases q_n.mp hm with z | hm
       ·rw [z,f3] at e;cases e
       ·rcases q_n.mp (J0.stkSub _ hm) with z | z
        ·exact ne z
        ·exact nf z
    have stk:=J0.stack
    have fl0:Heap.FlyingW (PySem.W.hideAll s'.heap (ea::T::frs X.stack)) X.stack ea (.ref (B.cl c')) a0 s'.heap :=
      ⟨fun b o q=>PySem.W.of_hideAll _ q,PySem.W.hideAll_none _ (by simp),PySem.W.funFrames_hide stk (fun env he a hf=>q_s _ (q_s _ (List.mem_filterMap.mpr ⟨env,he,hf⟩))),oe,vs,T,oT,ts,q1,q2,q3,q4,PySem.W.hideAll_none _ (by simp),q6,q7,q8,q9⟩
    refine PySem.wpAny_looks_onW (base:=PySem.W.hideAll s'.heap (ea::T::frs X.stack)) (outer:=X.outer) (cls:=.ref (B.cl c')) (a0:=a0) (J0.ok.frames.trans (congrArg some hst)) hf (by rw [<-hst];exact fl0) fun h4 held4 up4=>?_
    refine PySem.wpAny_landsW held4 fun h5 fl5 up5'=>?_
    have up5:=up4.trans up5'
    have fl5':=fl5
    have J5:Inv X pins σ' H' { s' with heap:=h5 }:=JIy J0 hex has hpin fl5 up5 s'.toks
    have J5m:Inv (atX X (X.A.mark (some (.ref ea))) X.pn (fun _ _=>False) false) pins σ' H' { s' with heap:=h5 }:=JGF J5 rfl (fun z=>by cases z) (fun p hp=>hp)
    refine wpAny_handleBy_cons (codeAny_handlers_test (JD6 J5m hgl hmc ?_ (JAD hbn).1)) (by intro q;cases q)
    obtain ⟨ob,hob,hoc⟩:=fl5.there
    have LT:PySem.W.Looks (model X.prog X.w) h5 (typeOf (.ref ea)) (.ref (B.cl c')):=by
      rw [<-hoc]
      exact (PySem.W.Looks.ld hob).andThen .now
    have hex1:PySem.W.exmOne X.K (.ref (B.cl c')) (.ref (B.cl c))=some true:=by
      rw [g.K,show Value.ref (B.cl c')=Value.ref (B.cl c2) from ec]
      exact hsub c2 hs1
    refine (PySem.W.exm_one J5.kIn LT hex1).here (s:={ s' with heap:=h5 }) (codeAny_handlers_suite_as ?_)
    refine lands_againW (s:={ s' with heap:=h5 }) fl5 fun h6 fl6 up6=>?_
    have J6:Inv X pins σ' H' { s' with heap:=h6 }:=JIy J0 hex has hpin fl6 (up5.trans up6) s'.toks
    obtain ⟨_,_,_,oe6,vs6,T6,oT6,ts6,w1,⟨w2,_⟩,w3,_⟩:=id fl6
    have ecl:B.cl c'=B.cl c2:=by
      have:=ec
      injection this
    have J7:=JHE J6 w1 (by rw [w2,ecl]) w3 (fr0 _ f1) f2 (fun p hp z=>hpin p hp (by rw [z];simp))
    refine JBC J7 hnd hi (.inl hle) (v:=.ref ea) rfl (fun s8 J8'=>?_) (.inr hle)
    have J8:Inv (atX X (X.A.mark (some (.ref ea))) X.pn (fun _ _=>False) false) pins _ _ s8:=JGF J8' rfl (fun z=>by cases z) (fun p hp=>hp)
    have P1:PS (atX X (X.A.mark (some (.ref ea))) X.pn (fun _ _=>False) false) (.Assign [.Name kn p1] (.Name en p2) p3) (tAsg (tVar i) (JEa j)) :=
      JHx (i:=j) hnd hj hlk (JCw hi (.inl hle) (JAD hben).1 (JAD hben).2.1) rfl (.inl (hfn kn))
    have hiσ:i<σ'.length:=by rw [J6.len];exact (q_p.mp hi).1
    refine wpAny_mono (JMa P1 pins s8 _ _ ⟨fun σ9 H9=>σ9=(σ'.set i (some (.ref ea))).set j (some (.ref ea))/\H9=upd H' ea (.ext (ExcAt ea (B.cl c2))),fun _ _=>False,fun _ _=>False,fun _ _=>False⟩ J8 ⟨.ref ea,q_y hiσ,rfl,rfl⟩) (fun f s9 h9=>?_) fun _ _ z=>z.elim
    cases f with
    | brk=>obtain ⟨_,_,_,z⟩:=h9;exact z.elim
    | cont=>obtain ⟨_,_,_,z⟩:=h9;exact z.elim
    | ret u=>obtain ⟨_,_,_,_,_,z⟩:=h9;exact z.elim
    | next =>
      obtain ⟨σ9,H9,J9,rfl,rfl⟩:=h9
      have J9':Inv X pins _ _ s9:=JDY J9 rfl hcal (fun p hp=>hp)
      show wpAny (model X.prog X.w) X.A (do bindName X.env en .none;unbindBehindTheSuite X.env en hpos) (fun _ s₃=>SP X pins D .next s₃) X.xe s9
      refine q_b (wpAny_bindName (JBC J9' hnd hi (.inl hle) (v:=.non) rfl (fun s10 J10=>?_) (.inr hle)))
      unfold unbindBehindTheSuite
      have hv:((((σ'.set i (some (V.ref ea))).set j (some (V.ref ea))).set i (some V.non)))[i]? = some (some V.non):=q_y (by simpa using hiσ)
      refine wpAny_onRaise (JHr J10 hnd hi hle hv fun s11 J11=>⟨_,_,J11,k _ _ _ (JOZ (by rw [J6.len,<-hlN,hlen]) hjδ hij (sm.trans fun b o e=>?_) JAH)⟩)
      rw [JAG fun z=>by rw [z,f2] at e;cases e]
      exact e
  · cases f with
    | next=>obtain ⟨_,_,_,z⟩:=h₁;exact z.elim
    | brk=>obtain ⟨_,_,_,z⟩:=h₁;exact z.elim
    | cont=>obtain ⟨_,_,_,z⟩:=h₁;exact z.elim
    | ret u=>obtain ⟨_,_,_,_,_,z⟩:=h₁;exact z.elim
 | bad=>rw [q] at k;exact False.elim k
 | _ =>
  rw [q] at k
  refine wpAny_mono (hbody (X.pn++pins) (fun _ _=>False) (fun _ _=>False) PassesOwn.never (JOl g (fun _ _ _ _ z=>z) fun _ _ _ _ _ _ _ z=>(JHA _ _ _ _ _ z).elim) [] s σ H D (JGF I rfl (fun _=>hh) hpp) ⟨δ,O,Hb,hb,so,by rw [q];exact k⟩) (fun f s₁ h₁=>?_) fun _ _ z=>z.elim
  have h2:=sp_un hcal h₁
  cases f with
  | next=>exact wpAny_execs_nil h2
  | brk=>exact h2
  | cont=>exact h2
  | ret u=>exact h2
end
section
variable {B:Bs} {G:List (Str×GK)} {tab:Nat->Option Fd} {glo:Nat->R D} {sub:Nat->Nat->Bool}
structure Mo (mg:Str->Option Value) (B:Bs) (G:List (Str×GK)) (tab:Nat->Option Fd) (glo:Nat->R D) (sub:Nat->Nat->Bool):Prop where
 fn:∀x i,G.lookup x=some (.fn i)->∃fd,tab i=some fd/\DefAt B.K mg G x fd
 con:∀x i d,G.lookup x=some (.con i)->glo i=.ok d->∃u v,mg x=some u/\RelV v u/\∀H,Den B H d v
 noexg:∀i c,glo i≠.exc c
 blt:∀x b,G.lookup x=some (.blt b)->mg x=none
 rng:∀x,G.lookup x=some .rng->mg x=none
 isi:∀x,G.lookup x=some .isi->mg x=none
 ty:∀x t,G.lookup x=some (.ty t)->mg x=none
 nam:∀x,G.lookup x=some .nam->mg x=none
 cl:Cl mg B G
 exm:∀x c,G.lookup x=some (.cls c)->∀k,sub k c=true->PySem.W.exmOne B.K (.ref (B.cl k)) (.ref (B.cl c))=some true
theorem JN0 {P:Program} {w:World} (hw:w=B.w) {mg:Str->Option Value} {base:Heap} (M:Mo mg B G tab glo sub) (ra:∀n,Rare B ⟨run true tab glo sub n,glo,sub⟩ (CXV P w B) G) {n i:Nat} {x:Str} {f:Addr} {fo:FuncData} {st:Stmt} {N ps:List Str} {fd:Fd}
  (ih:∀(y:Str) (j:Nat),G.lookup y=some (.fn j)->∃f fd ps,mg y=some (.ref f)/\PySem.W.keepIn B.K (.ref f)=true/\FnOk P w B.K mg base (CXV P w B) n f fd ps (JCh B ps.length (run true tab glo sub n j))/\Binds B.K fd ps []/\∀ds,run true tab glo sub n j ds≠.bad->ds.length=ps.length)
  (F:Fun B.K x x st f fo) (T:Turned G st N ps fd) (ht:tab i=some fd):FnOk P w B.K mg base (CXV P w B) (n+1) f fo ps (JCh B ps.length (run true tab glo sub (n+1) i)):=by
 obtain ⟨oc,od,kV,doc,pm,an,cdv,ct,osl,rfl,lk,hcd⟩:=F.ex
 refine JPY lk hcd T.sc (fun vs H Q E q=>q.1) fun A outer s H vs Q E hr q=>?_
 obtain ⟨hl,ds,dn,q⟩:=q
 have hA:A.handled=none:=hr.hd
 have g:Gk (cxOf (CXV P w B) P w B.K mg base N x (JAV st) f cdv A outer s H E) B ⟨run true tab glo sub n,glo,sub⟩ (CXV P w B) (XXd B E) G:={
  K:=rfl
  W:=hw
  anti:=fun c H1 H2 sm z H' s'=>z H' (sm.trans s')
  units:=by have:=hr.un;show (A.deeper _).units+200<_;omega
  calm:=rfl
  fn:=fun y j hy=>by
    obtain ⟨f',fd',ps',w1,w2,w3,w4,w5⟩:=ih y j hy
    exact ⟨f',fd',ps',n,w1,w2,w3,hr,w4,w5⟩
  pas:=JNq
  con:=M.con
  noexg:=M.noexg
  blt:=M.blt
  rng:=M.rng
  isi:=M.isi
  ty:=M.ty
  cls:=M.cl.mgc
  nam:=M.nam }
 have hs:=JG9 (ra n) 60 _ _ _ _ true g T.sc.kind rfl rfl T.sc.nd PassesOwn.leaving (fun _=>rfl) (fun _=>JGt M.cl hA)
  (fun _ _ body b cn en kn c i j np p1 p2 p3 hpos pos hbody hgl hbn hben hlk hnd hi hle hj hlj hij =>
    JPJ g rfl rfl rfl hnd (fun _=>rfl) hA hbody hgl (M.cl.mgc cn c hlk) hbn hben (fun k hk=>M.exm cn c hlk k hk) hi hle hj hlj hij)
 refine ⟨_,JCO hs T.comp,?_⟩
 have hlen:=DenL.len ds vs dn
 have hN:N.length=fd.slots:=T.slots.symm
 have hpl:ps.length<=N.length:=by have:=congrArg List.length T.sc.pre;rw [List.length_take] at this;omega
 refine ⟨_,_,H,Same.refl H,JGf dn rfl (by omega),?_⟩
 unfold run at q
 rw [ht] at q
 simp only [JFH] at q
 rw [if_pos (by rw [T.par];omega)] at q
 rw [show fd.slots - fd.par=N.length - ds.length by rw [T.slots,T.par];omega] at q
 split at q
 ·rename_i r d hd
  split at hd
  · rename_i δ he
    cases hd
    rw [he]
    exact fun σ' H' O' so'=>q .non H' so'.same (by simp only [Den])
  · rename_i d' he
    cases hd
    rw [he]
    exact fun v H' sm dn'=>q v H' sm dn'
  · simp at hd
  · cases hd
 ·rename_i r c hd
  split at hd
  · cases hd
  · cases hd
  · rename_i c' he
    simp only [if_true,R.exc.injEq] at hd
    subst hd
    rw [he]
    exact q
  · cases hd
 ·exact q.elim
theorem fns {P:Program} {w:World} (hw:w=B.w) {mg:Str->Option Value} {base:Heap} (M:Mo mg B G tab glo sub) (ra:∀n,Rare B ⟨run true tab glo sub n,glo,sub⟩ (CXV P w B) G):∀(n:Nat) (x:Str) (i:Nat),G.lookup x=some (.fn i) ->
  ∃f fd ps,mg x=some (.ref f)/\PySem.W.keepIn B.K (.ref f)=true/\FnOk P w B.K mg base (CXV P w B) n f fd ps (JCh B ps.length (run true tab glo sub n i))/\Binds B.K fd ps []/\∀ds,run true tab glo sub n i ds≠.bad->ds.length=ps.length
 | 0,x,i,h=>by
  obtain ⟨fd,ht,⟨f,fo,st,N,ps,e1,F,bi,T⟩⟩:=M.fn x i h
  refine ⟨f,fo,ps,e1,F.kp,⟨fun vs H Q E q=>q.1,fun A outer s H args us vs Q E hr he hb hv ⟨_,ds,_,q⟩=>?_⟩,bi,fun ds q=>absurd rfl q⟩
  exact False.elim q
 | n+1,x,i,h=>by
  obtain ⟨fd,ht,⟨f,fo,st,N,ps,e1,F,bi,T⟩⟩:=M.fn x i h
  refine ⟨f,fo,ps,e1,F.kp,JN0 hw M ra (fns hw M ra n) F T ht,bi,fun ds q=>?_⟩
  obtain ⟨fd',h1,h2⟩:=JNo q
  rw [ht] at h1
  cases h1
  rw [h2,T.par]
theorem JO6 {P:Program} {w:World} (hw:w=B.w) {mg:Str->Option Value} {base:Heap} (M:Mo mg B G tab glo sub) (ra:∀n,Rare B ⟨run true tab glo sub n,glo,sub⟩ (CXV P w B) G) {x:Str} {i:Nat} {f:Addr} {fo:FuncData} {st:Stmt} {N ps:List Str} {fd:Fd}
  (F:Fun B.K x x st f fo) (T:Turned G st N ps fd) (ht:tab i=some fd):∀n,FnOk P w B.K mg base (CXV P w B) n f fo ps (JCh B ps.length (run true tab glo sub n i))
 | 0=>⟨fun vs H Q E q=>q.1,fun A outer s H args us vs Q E hr he hb hv ⟨_,ds,_,q⟩=>False.elim q⟩
 | n+1=>JN0 hw M ra (fns hw M ra n) F T ht
theorem JQn {P:Program} {w:World} {mg:Str->Option Value} {base:Heap} {f:Addr} {fd:FuncData} {ps:List Str} {n:Nat} {r:List D->R D} (F:FnOk P w B.K mg base (CXV P w B) n f fd ps (JCh B ps.length r)) (hp:ps.length=1)
  (h:∀ns:List Int,ns.length<=63->r [.list (ns.map fun i=>PyData.int i)]=.ok (.bool true)):FnOk P w B.K mg base CX0 n f fd ps (JNR B.K):=by
 refine ⟨fun vs H Q E ⟨a,ns,e,_⟩=>by subst e;rw [hp];rfl,fun A outer s H args us vs Q E hr he hb hv ⟨a,ns,e,hl,hS,k⟩=>?_⟩
 subst e
 refine codeAny_mono (F.run A outer s H args us [.ref a] Q (fun _ _ _=>False) hr he hb hv ⟨by rw [hp];rfl,[.list (ns.map fun i=>PyData.int i)],?_,?_⟩) fun r s' z=>?_
 ·simp only [DenL]
  exact ⟨_,_,rfl,by simp only [Den];exact ⟨a,_,rfl,hS,JF9 ns⟩,rfl⟩
 ·rw [h ns hl]
  intro v H' sm dn
  simp only [Den] at dn
  subst dn
  exact k H'
 ·cases r with
  | ok v=>cases v<;>exact z
  | error e =>
    obtain ⟨ea,T,c,H',_,_,_,_,_,_,_,_,z⟩:=z
    exact z
theorem JP9 {P:Program} {w:World} {K:PySem.W.Frag} {h:Heap} {mg:Str->Option Value} {cl:Nat->Addr} {fa:Addr} {st:Stmt} {N:List Str} {x:Str} {fd:Fd} {i n:Nat}
  (X:K.In h) (Gm:h.Ns mainGlobals mg) (hfa:mg "law"=some (.ref fa)) (F:FnIn K "law" st) (T:Turned G st N [x] fd) (hb:JAP "law" st [x]) (hl:G.lookup ("law":Str)=some (.fn i)) (ht:tab i=some fd)
  (M:∀base:Heap,K.In base->base.Ns mainGlobals mg->Mo mg ⟨K,cl,w⟩ G tab glo sub) (ra:∀n,Rare ⟨K,cl,w⟩ ⟨run true tab glo sub n,glo,sub⟩ (CXV P w ⟨K,cl,w⟩) G)
  (hbind:∀(kV doc pm:Value) (an:Option Addr) (cdv ct:Value) (s:Shared) (u:Value),BindsTo s (PySem.W.fnOf "law" "law" (JBG st) (JAu st) (JAV st) .none kV doc pm an cdv ct) ⟨[u],[]⟩ [(x,u)])
  (ok:∀ns:List Int,ns.length<=63->run true tab glo sub n i [.list (ns.map fun i=>PyData.int i)]=.ok (.bool true)) :
  ∃fo:FuncData,(∀(s:Shared) (u:Value),BindsTo s fo ⟨[u],[]⟩ [(x,u)])/\∀base:Heap,K.In base->base.Ns mainGlobals mg->FnOk P w K mg base CX0 n fa fo [x] (JNR K):=by
 obtain ⟨f,oc,od,an,sl,kV,dc,pm,cd,ct,a,l,c,k⟩:=F.ex
 have e:=hfa.symm.trans (PySem.W.mg_of X Gm a)
 cases e
 refine ⟨PySem.W.fnOf "law" "law" (JBG st) (JAu st) (JAV st) .none kV dc pm an cd ct,fun s u=>hbind kV dc pm an cd ct s u,fun base kb nb=>?_⟩
 have:=JO6 (P:=P) (w:=w) (base:=base) (B:=⟨K,cl,w⟩) rfl (M base kb nb) ra (JLs (st:=st) l c k) T ht n
 exact JQn this rfl ok
end
end VI
end
section
namespace VI
open PySem PySem.Spec PyProof.Rows L2 Builtin Builtin.ObjectAttr Builtin.Getset_descriptor
structure ExcK (K:PySem.W.Frag) (C:Addr):Prop where
 ga:PySem.W.findIn K (.ref C) "__getattribute__"=some (some (.builtin "BaseException.__getattribute__"))
 gh:PySem.W.findIn K (.ref C) "__getattr__"=some none
 cl:PySem.W.findIn K (.ref C) "__class__"=some (some (.builtin "object.__class__"))
 ob:PySem.W.mroIn K C (.type "object")=some true
 bx:PySem.W.mroIn K C (.type "BaseException")=some true
 gt:PySem.W.specialIn K (.builtin "object.__class__") "__get__"=some (some (.builtin "getset_descriptor.__get__"))
 st:PySem.W.takesIn K (.builtin "object.__class__")=some true
section
variable {K:PySem.W.Frag} {a C:Addr} {prog:Program} {w:World} {A:Around} {s:Shared}
theorem JCn {M:Model} {h:Heap} (p:ExcAt a C h):PySem.W.Looks M h (typeOf (.ref a)) (.ref C):=by
 obtain ⟨o,h1,h2⟩:=p
 rw [<-h2]
 exact (PySem.W.Looks.ld h1).andThen .now
theorem JIW {M:Model} {h:Heap} {nm:Str} {d g:Value} (X:K.In h) (h1:PySem.W.findIn K (.ref C) nm=some (some d)) (h2:PySem.W.specialIn K d "__get__"=some (some g)) (h3:PySem.W.takesIn K d=some true) :
   PySem.W.Looks M h (find (.ref a) (.ref C) nm) (.bind g d) :=
 (PySem.W.looks_findIn X h1).andThen ((show PySem.W.Looks M h (getOf (some d)) (some g) from PySem.W.looks_specialIn X h2).andThen
   ((show PySem.W.Looks M h (dataDescriptor? (some d) (some g)) (some (g,d)) from (PySem.W.looks_takesIn X h3).andThen .now).andThen (PySem.W.Looks.tag .now)))
theorem JNJ {R:Result->Shared->Prop} {tp:Value} (X:K.In s.heap) (p:ExcAt a C s.heap) (hm:PySem.W.mroIn K C (.type "object")=some true) (h:R (.ok (.ret (.ref C))) s) :
  codeAny (model prog w) A (.call (.builtin "getset_descriptor.__get__") ⟨[.builtin "object.__class__",.ref a,tp],[]⟩) R s:=by
 obtain ⟨hp,gs,dn,tk,os⟩:=s
 have q0:=JCn (M:=model prog w) p
 have q1:=PySem.W.looks_mroIn (M:=model prog w) X hm
 refine codeAny_call_builtin PySem.W.KF.slot_gs.plain PySem.W.KF.entry_gs (PySem.W.KF.slot_gs.check _ _ _ _ _ _ _ _ PySem.W.KF.type_class (PySem.W.KF.args_gs _ _ _) ?_)
 unfold Builtin.«getset_descriptor.__get__» descrGet;rw [PySem.W.dga_obj];refine q_b (q_e ?_)
 unfold descrGetter descrCheckInstance descrNameAndClass isInstance;simp only [PySem.W.KF.owner_class];repeat lk
 refine ⟨Code.quiet_builtin _ (by decide +kernel),codeAny_builtin PySem.W.KF.entry_class ?_⟩
 unfold Builtin.«object.__class__» shownTypeOf;repeat lk
 exact h
theorem JKG {nameV:Value} {E:Value->Shared->Prop} {Q:Unit->Shared->Prop} (F:ExcK K C) (X:K.In s.heap) (p:ExcAt a C s.heap) (h:Q () s):wpAny (model prog w) A (checkBuiltinCall "BaseException.__getattribute__" ⟨[.ref a,nameV],[]⟩) Q E s:=by
 obtain ⟨hp,gs,dn,tk,os⟩:=s
 have q:PySem.W.Looks (model prog w) hp (isInstance (.ref a) (.type "BaseException")) true:=(JCn p).andThen (PySem.W.looks_mroIn X F.bx)
 have k1:builtinKind "BaseException.__getattribute__"=some .slot:=by decide +kernel
 have k2:splitId "BaseException.__getattribute__"=some ("BaseException","__getattribute__"):=by decide +kernel
 have ha:=PySem.F.args_bexc_ga (.ref a) nameV
 simp only [checkBuiltinCall,k1,k2]
 refine q_b (q.at ?_)
 repeat (first | exact h | wp_step)
theorem JID {E:Value->Shared->Prop} {Q:Option Value->Shared->Prop} (F:ExcK K C) (X:K.In s.heap) (p:ExcAt a C s.heap) (h:Q (some (.ref C)) { s with toks:=s.toks+1 }) :
  wpAny (model prog w) A (getAttr? (.ref a) "__class__") Q E s:=by
 obtain ⟨hp,gs,dn,tk,os⟩:=s
 have q0:=JCn (M:=model prog w) p
 have q1:=PySem.W.looks_findIn (M:=model prog w) X F.ga
 have q2:=PySem.W.looks_findIn (M:=model prog w) X F.gh
 have q3:=JIW (M:=model prog w) (a:=a) X F.cl F.gt F.st
 have B:=PySem.F.attr_ValueError.ga
 unfold getAttr? getAttrBy? getAttrBy
 refine q_b (wpAny_mkText (q_b (wpAny_attempt (wpAny_holding (q_b (q0.at (q_b (q1.at ?_))))))))
 show wpAny _ _ (getAttrByItsOwn _ _ _ _ _ _) _ _ _
 refine q_b (q2.at (q_b (wpAny_attempt (wpAny_holding ?_))))
 show wpAny _ _ (boundAndCalled _ _ _) _ _ _
 unfold boundAndCalled
 rw [B.bind]
 refine q_b (q_e (wpAny_call (codeAny_call_builtin B.plain PySem.F.entry_bexc_ga (JKG F X p ?_))))
 refine q_b (q_e (q_b (q_e (q_b (q0.at (q_b (q3.at ?_)))))))
 show wpAny _ _ (holding [Value.builtin "object.__class__"] (call (.builtin "getset_descriptor.__get__") [Value.builtin "object.__class__",.ref a,.ref C]) >>= ret) _ _ _
 refine q_b (wpAny_holding (wpAny_call (JNJ X p F.ob (q_e ?_))))
 show wpAny _ _ (handedOut (.ref C)) _ _ _
 exact PySem.W.handed_on rfl (q_e h)
theorem JGJ (F:ExcK K C):PySem.W.KitX K (.ref a) (.ref C) (ExcAt a C) where
 ty:=fun M h _ p=>JCn p
 it:=fun M h X _=>by
  obtain ⟨cd,e1,_⟩:=q_a.mp F.ob
  unfold PySem.W.clsIn at e1
  split at e1
  ·rename_i ho
   intro A' Q' E' s' k q
   unfold isType loadHead
   exact q_b (wpAny_loadPart (k _ _ (X _ _ ho)) (q_e q))
  ·cases e1
 ne:=fun h tp dd its n sl X ht=>by
  obtain ⟨cd,e1,_⟩:=q_a.mp F.ob
  refine Bool.eq_false_iff.mpr fun q=>?_
  have e:C=tp:=Value.ref.inj (beq_iff_eq.mp q)
  subst e
  unfold PySem.W.clsIn at e1
  split at e1
  ·rename_i ho
   have z:=(X _ _ ho).symm.trans ht
   cases z
  ·cases e1
 ca:=fun X p k=>JID F X p k
end
noncomputable def nmOf:Ty->String
 | .int=>"int"
 | .bool=>"bool"
 | .str=>"str"
 | .list=>"list"
 | .tuple=>"tuple"
 | .dict=>"dict"
 | .valueError=>"ValueError"
 | .own _=>""
theorem JNI {ty:Ty} {t:Str} (h:JA9 ty=some t):bootBuiltins t=some (.type (nmOf ty)):=by
 cases ty<;>simp only [JA9,q_j,reduceCtorEq] at h<;>subst h<;>boot_by_name
section
variable {K:PySem.W.Frag}
theorem JPf {ty:Ty} (h:(JA9 ty).isSome=true):PySem.W.kitOne K (.type "NoneType") (.type (nmOf ty))=some false:=by
 cases ty<;>first | (cases h;done) | kernel_rfl
theorem JMr {ty:Ty} (h:(JA9 ty).isSome=true):PySem.W.kitOne K (.type "bool") (.type (nmOf ty))=some (ty==.int || ty==.bool):=by
 cases ty<;>first | (cases h;done) | kernel_rfl
theorem JOe {ty:Ty} (h:(JA9 ty).isSome=true):PySem.W.kitOne K (.type "int") (.type (nmOf ty))=some (ty==.int):=by
 cases ty<;>first | (cases h;done) | kernel_rfl
theorem JQI {ty:Ty} (h:(JA9 ty).isSome=true):PySem.W.kitOne K (.type "str") (.type (nmOf ty))=some (ty==.str):=by
 cases ty<;>first | (cases h;done) | kernel_rfl
theorem JNk {ty:Ty} (h:(JA9 ty).isSome=true):PySem.W.kitOne K (.type "list") (.type (nmOf ty))=some (ty==.list):=by
 cases ty<;>first | (cases h;done) | kernel_rfl
theorem JKX {ty:Ty} (h:(JA9 ty).isSome=true):PySem.W.kitOne K (.type "tuple") (.type (nmOf ty))=some (ty==.tuple):=by
 cases ty<;>first | (cases h;done) | kernel_rfl
theorem ko_of {C:Addr} {T:String} (h:PySem.W.kitOne K (.type "NoneType") (.ref C)=some false) (hs:PySem.W.subIn K (.type T) (.ref C)=some false):PySem.W.kitOne K (.type T) (.ref C)=some false:=by
 have n1:∀T:String,((Value.type T)==Value.ref C)=false:=fun T=>rfl
 unfold PySem.W.kitOne PySem.W.kitCls at h ⊢
 rw [n1] at h ⊢
 simp only [q_v,if_false] at h ⊢
 split at h
 ·rename_i z
  rw [if_pos z];exact hs
 ·cases h
theorem JM5 {C:Addr}:PySem.W.subIn K (.type "bool") (.ref C)=some false:=by kernel_rfl
theorem JOQ {C:Addr}:PySem.W.subIn K (.type "int") (.ref C)=some false:=by kernel_rfl
theorem JQd {C:Addr}:PySem.W.subIn K (.type "str") (.ref C)=some false:=by kernel_rfl
theorem JMw {C:Addr}:PySem.W.subIn K (.type "list") (.ref C)=some false:=by kernel_rfl
theorem JJb {C:Addr}:PySem.W.subIn K (.type "tuple") (.ref C)=some false:=by kernel_rfl
end
structure Isi (B:Bs) (G:List (Str×GK)) (sub:Nat->Nat->Bool):Prop where
 own:∀x c,G.lookup x=some (.cls c)->PySem.W.kitOne B.K (.type "NoneType") (.ref (B.cl c))=some false
 exc:∀k,sub k k=true->ExcK B.K (B.cl k)/\PySem.W.kitOne B.K (.ref (B.cl k)) (.type "ValueError")=some true
 rel:∀k,sub k k=true->∀x c,G.lookup x=some (.cls c)->PySem.W.kitOne B.K (.ref (B.cl k)) (.ref (B.cl c))=some (sub k c)
section
variable {X:Cx} {B:Bs} {C:Cn} {CX:CXT} {XX:Nat->Hp->Prop} {G:List (Str×GK)}
noncomputable def TyV (B:Bs) (G:List (Str×GK)) (ty:Ty) (v:V):Prop:=((JA9 ty).isSome=true/\v=.ty (nmOf ty))\/∃x c,ty=.own c/\G.lookup x=some (.cls c)/\v=.ref (B.cl c)
theorem JKQ (I0:Isi B G C.sub) (g:Gk X B C CX XX G) (ty:Ty):CallR X (.builtin "isinstance") (fun vs H Q=>∃d v1 v2,vs=[v1,v2]/\Den B H d v1/\TyV B G ty v2/\KE B XX (isiD C.sub d ty) H Q):=by
 intro pins s σ H vs us Q I r ⟨d,v1,v2,e,dn,tv,k⟩
 subst e
 obtain ⟨u1,us',rfl,r1,rs⟩:∃u1 us',us=u1::us'/\RelV v1 u1/\Vals [v2] us':=by cases r;exact ⟨_,_,rfl,‹_›,‹_›⟩
 obtain ⟨u2,rfl,r2⟩:=rs.one
 have KI:B.K.In s.heap:=g.K▸I.kIn
 have fin:∀ {x t:Value} {Hh:Heap->Prop} {b:Bool},PySem.W.KitX B.K x t Hh->Hh s.heap->isiD C.sub d ty=.ok (.bool b)->x=u1->x≠.builtin "__main__.__loader__#opaque"->PySem.W.kitOne B.K t u2=some b->wpAny (model X.prog X.w) X.A (call (.builtin "isinstance") [u1,u2]) (EP X pins σ Q) X.xe s:=by
  intro x t Hh b Z p e hx hne e2
  subst hx
  rw [e] at k
  exact PySem.W.kia_one Z KI p e2 hne fun tk=>⟨.bl b,H,I.tok tk,rfl,KE.ok k (by simp only [Den])⟩
 have u2e:∀(T:String) (f:Ty->Bool),((JA9 ty).isSome=true->PySem.W.kitOne B.K (.type T) (.type (nmOf ty))=some (f ty))->(∀c,f (.own c)=false)->(∀c,PySem.W.subIn B.K (.type T) (.ref c)=some false)->PySem.W.kitOne B.K (.type T) u2=some (f ty):=by
  intro T f h1 h2 h3
  rcases tv with ⟨t1,rfl⟩ | ⟨x,c,rfl,hl,rfl⟩
  ·cases r2
   exact h1 t1
  ·cases r2
   rw [h2]
   exact ko_of (I0.own x c hl) (h3 _)
 cases d with
 | none =>
  simp only [Den] at dn
  subst dn;cases r1
  refine fin PySem.W.kitx_none trivial rfl rfl (by intro q;cases q) (u2e "NoneType" (fun _=>false) (fun h=>JPf h) (fun _=>rfl) fun c=>?_)
  kernel_rfl
 | bool b =>
  simp only [Den] at dn
  subst dn;cases r1
  exact fin PySem.W.kitx_bool trivial rfl rfl (by intro q;cases q) (u2e "bool" (fun ty=>ty==.int || ty==.bool) (fun h=>JMr h) (fun _=>rfl) fun c=>JM5)
 | int b =>
  simp only [Den] at dn
  subst dn;obtain ⟨t,rfl⟩:=r1
  exact fin PySem.W.kitx_int trivial rfl rfl (by intro q;cases q) (u2e "int" (fun ty=>ty==.int) (fun h=>JOe h) (fun _=>rfl) fun c=>JOQ)
 | str b =>
  simp only [Den] at dn
  subst dn;obtain ⟨t,rfl⟩:=r1
  exact fin PySem.W.kitx_str trivial rfl rfl (by intro q;cases q) (u2e "str" (fun ty=>ty==.str) (fun h=>JQI h) (fun _=>rfl) fun c=>JQd)
 | list b =>
  simp only [Den] at dn
  obtain ⟨l,xs,rfl,q,_⟩:=dn
  cases r1
  obtain ⟨its,_,⟨o,n,e1,e2,_⟩,_⟩:=I.list (g.K▸q)
  exact fin PySem.W.kitx_list ⟨o,e1,e2⟩ rfl rfl (by intro q;cases q) (u2e "list" (fun ty=>ty==.list) (fun h=>JNk h) (fun _=>rfl) fun c=>JMw)
 | tuple b =>
  simp only [Den] at dn
  obtain ⟨l,xs,rfl,q,_⟩:=dn
  cases r1
  obtain ⟨its,_,⟨o,e1,e2,_⟩,_⟩:=I.tuple (g.K▸q)
  exact fin PySem.W.kitx_tuple ⟨o,e1,e2⟩ rfl rfl (by intro q;cases q) (u2e "tuple" (fun ty=>ty==.tuple) (fun h=>JKX h) (fun _=>rfl) fun c=>JJb)
 | dict kvs =>
  simp only [Den] at dn
  rcases dn with ⟨l,c,rfl,rfl,q⟩ | ⟨l,xs,rfl,q,dk⟩
  ·cases r1
   simp only [isiD,Int.toNat_natCast] at k fin
   by_cases hk:C.sub c c=true
   ·rw [if_pos hk] at k fin
    have p:ExcAt l (B.cl c) s.heap:=by
     have:=I.hok l _ q
     exact this.1
    rcases tv with ⟨t1,rfl⟩ | ⟨x,e,rfl,hl,rfl⟩
    ·cases r2
     cases ty with
     | valueError=>exact fin (JGJ (I0.exc c hk).1) p rfl rfl (by intro q;cases q) (I0.exc c hk).2
     | own e=>cases t1
     | _=>exact False.elim k
    ·cases r2
     exact fin (JGJ (I0.exc c hk).1) p rfl rfl (by intro q;cases q) (I0.rel c hk x e hl)
   ·rw [if_neg hk] at k
    exact False.elim k
  ·cases kvs with
   | nil=>exact False.elim k
   | cons p r =>
    obtain ⟨p1,p2⟩:=p
    simp only [DenK] at dk
    obtain ⟨_,_,_,_,rfl,_⟩:=dk
    exact False.elim k
theorem r_isi (I0:Isi B G C.sub) (g:Gk X B C CX XX G) (a:Expr) (x:E) (t:Str) (ty:Ty) (p pt pos:Pos) (h1:Gl X "isinstance") (h2:Gl X t) (h3:G.lookup ("isinstance":Str)=some GK.isi)
  (h4:G.lookup t=some (.ty ty)/\JA9 ty=some t\/∃c,ty=.own c/\G.lookup t=some (.cls c)) (h5:JAS t=false) (ha:PE X a (RE B C XX x)) (hs:starEach [a,.Name t pt] X.env=(false,eval a X.env)::starEach [.Name t pt] X.env) :
  PE X (.Call (.Name "isinstance" p) [a,.Name t pt] [] pos) (RE B C XX (.isi x ty)):=by
 have hst:starEach [.Name t pt] X.env=[(false,eval (.Name t pt) X.env)]:=rfl
 obtain ⟨v2,tv,hn⟩:∃v2,TyV B G ty v2/\PE X (.Name t pt) (tC v2):=by
  rcases h4 with ⟨e1,e2⟩ | ⟨c,rfl,e1⟩
  · exact ⟨_,.inl ⟨by rw [e2];rfl,rfl⟩,JMg h2 (g.ty t ty e1) (JNI e2) rfl (JAD h5).2.2 (JAD h5).1⟩
  · exact ⟨_,.inr ⟨t,c,rfl,e1,rfl⟩,JHD h2 (g.cls t c e1) rfl (JAD h5).1⟩
 refine PE.imp (JDj (JKQ I0 g ty) h1 (g.isi _ h3) (by boot_by_name) (JBL ha (JBL hn JCK hst) hs) (by decide) (by decide) hs (by rw [hst];rfl)) ?_
 rintro σ H Q ⟨δ,ok,kk⟩
 simp only [ev] at kk
 refine RE.of (W:=fun r H=>KE B XX r H Q) ok (fun _ _ z=>z) (fun _ z=>z) kk fun d v H1 s1 d1 h1=>?_
 exact ⟨d,v,v2,rfl,d1,tv,KE.mono g s1 h1⟩
end
end VI
end
section
namespace VI
open PySem PySem.Spec PyProof.Rows L2
theorem JL5 {B:Bs} {C:Cn} {G:List (Str×GK)} {P:Program} {w:World} (I0:Isi B G C.sub)
  (mn:G.lookup ("min":Str)=some (.blt .min)->∀(X:Cx) (XX:Nat->Hp->Prop),Gk X B C (CXV P w B) XX G->CallR X (.builtin "min") (fun vs H Q=>∃ds,DenL B H ds vs/\KE B XX (bltD .min ds) H Q))
  (dc:G.lookup (".dct":Str)=some GK.opt->∀(X:Cx) (XX:Nat->Hp->Prop),Gk X B C (CXV P w B) XX G->∀(n:Nat) (names:List (Str×NameKind)) (N:List Str) (ks:List (Option Expr)) (vs:List Expr) (xs:List Str) (x:E) (pos:Pos),(∀e x,JAL G n false names N e=some x->PE X e (RE B C XX x)) ->
    strKeys ks=some xs->1<=xs.length->xs.length<=15->xs.length=vs.length->xs.Nodup->JAJ (JAL G n false names N) vs=some x->PE X (.Dict ks vs pos) (RE B C XX (.dct xs x)))
  (xo:∀k:XO,G.lookup k.flag=some GK.opt->XOk B C (CXV P w B) G k)
  (rp:G.lookup (".rep":Str)=some GK.opt->∀(X:Cx) (XX:Nat->Hp->Prop),Gk X B C (CXV P w B) XX G->∀(es:List Expr) (x:E) (k:Int) (j:Nat) (p p2 pos:Pos),PA X es (RA B C XX x)->cnt x<=1000->0<=k->k<=1000->PE X (.BinOp (.List es p) .Mult (.Constant (.int k) j p2) pos) (RE B C XX (.rep k.toNat x))):Rare B C (CXV P w B) G where
 nox:=fun outer H s e s'=>JHA outer H s e s'
 isi:=fun X XX g a x t ty p pt pos h1 h2 h3 h4 h5 h6 h7=>r_isi I0 g a x t ty p pt pos h1 h2 h3 h4 h5 h6 h7
 count:=fun X XX g o a x y ap cp h1 h2 h3 h4 h5=>JM9 g o a x y ap cp h1 h2 h3 h4 h5
 index:=fun X XX g o a x y ap cp h1 h2 h3 h4 h5=>JNb g o a x y ap cp h1 h2 h3 h4 h5
 get:=fun X XX g o a b x y z ap cp h1 h2 h3 h4 h5 h6 h7=>r_get g o a b x y z ap cp h1 h2 h3 h4 h5 h6 h7
 min:=mn
 dct:=dc
 rep:=rp
 xop:=xo
theorem x_no {B:Bs} {C:Cn} {CX:CXT} {G:List (Str×GK)} {k:XO} (h:G.lookup k.flag=none) (z:G.lookup k.flag=some GK.opt):XOk B C CX G k:=by rw [h] at z;cases z
theorem JMP {B:Bs} {C:Cn} {G:List (Str×GK)} {P:Program} {w:World} (I0:Isi B G C.sub) (h1:G.lookup ("min":Str)=none) (h2:G.lookup (".dct":Str)=none) (h3:G.lookup (".rep":Str)=none) (xo:∀k:XO,G.lookup k.flag=some GK.opt->XOk B C (CXV P w B) G k):Rare B C (CXV P w B) G :=
 JL5 I0 (fun z=>by rw [h1] at z;cases z) (fun z=>by rw [h2] at z;cases z) xo (fun z=>by rw [h3] at z;cases z)
noncomputable def allN:Nat->(List Value->Prop)->Prop
 | 0,P=>P []
 | n+1,P=>∀a,allN n fun r=>P (a::r)
theorem JHy:∀ {n:Nat} {P:List Value->Prop},allN n P->∀us:List Value,us.length=n->P us
 | 0,P,h,us,e=>by rw [q_A.mp e];exact h
 | n+1,P,h,us,e=>by
  cases us with
  | nil=>cases e
  | cons a r=>exact JHy (h a) r (by simpa using e)
theorem bOk {x:Str} {st:Stmt} {ps:List Str} (h:allN ps.length fun us=>∀(kV doc pm:Value) (an:Option Addr) (cdv ct:Value),bindArgs (PySem.W.fnOf x x (JBG st) (JAu st) (JAV st) .none kV doc pm an cdv ct) ⟨us,[]⟩=pure (ps.zip us)):JAP x st ps :=
 fun kV doc pm an cdv ct us hl=>JHy h us hl kV doc pm an cdv ct
theorem fnI {K:PySem.W.Frag} {x:Str} {st:Stmt} (f c:Addr) (pm:Value) (a:PySem.W.nsIn K mainGlobals x=some (some (.ref f)):=by kernel_rfl)
 (l:K.lookup f=some ⟨.type "function",none,.func (PySem.W.fnOf x x (JBG st) (JAu st) (JAV st) .none .none .none pm none (.ref c) .none),#[]⟩:=by kernel_rfl) (cc:PySem.W.codeIn K (.ref c) x=true:=by kernel_rfl) (k:PySem.W.keepIn K (.ref f)=true:=by kernel_rfl):FnIn K x st:=fn_in a l cc k
theorem tuI {G:List (Str×GK)} {st:Stmt} {N ps:List Str} {fd:Fd} (c:JAe (JCj G 60 true (JAV st).names N) (JAu st)=some fd.body:=by kernel_rfl)
 (s:FnScope N ps (JAV st):=by exact ⟨rfl,rfl,rfl,by decide +kernel,rfl,by decide +kernel,by decide +kernel⟩) (p:fd.par=ps.length:=by rfl) (l:fd.slots=N.length:=by rfl):Turned G st N ps fd:=⟨c,s,p,l⟩
noncomputable def JFc (rs:List (Nat×List Nat)) (k c:Nat):Bool:=match rs.lookup k with
 | some l=>l.contains c
 | none=>false
noncomputable def AllR (P:Nat->List Nat->Prop):List (Nat×List Nat)->Prop
 | []=>True
 |(k,l)::r=>P k l/\AllR P r
theorem AllR.get {P:Nat->List Nat->Prop}:∀ {rs:List (Nat×List Nat)} {k:Nat} {l:List Nat},AllR P rs->rs.lookup k=some l->P k l
 | [],k,l,_,h=>by cases h
 |(j,m)::r,k,l,⟨h1,h2⟩,h=>by
  rw [List.lookup_cons] at h
  by_cases e:(k==j)=true
  · rw [e] at h
    have e':k=j:=by simpa using e
    cases h
    subst e'
    exact h1
  · have e':(k==j)=false:=by simpa using e
    rw [e'] at h
    exact AllR.get h2 h
structure ClIn (K:PySem.W.Frag) (x:Str) (C:Addr):Prop where
 ns:PySem.W.nsIn K mainGlobals x=some (some (.ref C))
 ex:PySem.W.excIn K C bmV "ValueError.__new__"=true
 ty:PySem.W.kitOne K (.type "NoneType") (.ref C)=some false
structure RaIn (K:PySem.W.Frag) (C:Addr):Prop where
 k:ExcK K C
 v:PySem.W.kitOne K (.ref C) (.type "ValueError")=some true
noncomputable def JJD (K:PySem.W.Frag) (C D:Addr) (b:Bool):Prop:=PySem.W.kitOne K (.ref C) (.ref D)=some b/\(b=true->PySem.W.exmOne K (.ref C) (.ref D)=some true)
theorem rel_t {K:PySem.W.Frag} {C D:Addr} (h:PySem.W.kitOne K (.ref C) (.ref D)=some true) (h2:PySem.W.exmOne K (.ref C) (.ref D)=some true):JJD K C D true:=⟨h,fun _=>h2⟩
theorem rel_f {K:PySem.W.Frag} {C D:Addr} (h:PySem.W.kitOne K (.ref C) (.ref D)=some false):JJD K C D false:=⟨h,fun z=>by cases z⟩
section
variable {B:Bs} {G:List (Str×GK)} {tab:Nat->Option Fd} {glo:Nat->R D} {rs:List (Nat×List Nat)} {mg:Str->Option Value}
noncomputable def MoP (mg:Str->Option Value) (B:Bs) (G:List (Str×GK)) (tab:Nat->Option Fd) (glo:Nat->R D) (x:Str):GK->Prop
 | .fn i=>∃fd,tab i=some fd/\DefAt B.K mg G x fd
 | .con i=>∀d,glo i=.ok d->∃u v,mg x=some u/\RelV v u/\∀H,Den B H d v
 | .blt _=>mg x=none
 | .rng=>mg x=none
 | .isi=>mg x=none
 | .ty _=>mg x=none
 | .nam=>mg x=none
 | .cls c=>ClIn B.K x (B.cl c)/\mg x=some (.ref (B.cl c))
 | .opt=>True
noncomputable def RaP (B:Bs) (G:List (Str×GK)) (k:Nat) (l:List Nat):Prop:=RaIn B.K (B.cl k)/\AllP (fun _ gk=>match gk with
 | .cls c=>JJD B.K (B.cl k) (B.cl c) (l.contains c)
 | _=>True) G
theorem JCa {k c:Nat} (h:JFc rs k c=true):∃l,rs.lookup k=some l/\l.contains c=true:=by
 unfold JFc at h
 split at h
 ·rename_i l e
  exact ⟨l,e,h⟩
 ·cases h
theorem JLC (hr:AllR (RaP B G) rs) {x:Str} {k c:Nat} {l:List Nat} (hx:G.lookup x=some (.cls c)) (hk:rs.lookup k=some l):JJD B.K (B.cl k) (B.cl c) (l.contains c):=(hr.get hk).2.get hx
theorem JOC (h:AllP (MoP mg B G tab glo) G) (hr:AllR (RaP B G) rs):Isi B G (JFc rs) where
 own:=fun x c e=>(h.get e).1.ty
 exc:=fun k hk=>by
  obtain ⟨l,e,_⟩:=JCa hk
  exact ⟨(hr.get e).1.k,(hr.get e).1.v⟩
 rel:=fun k hk x c e=>by
  obtain ⟨l,el,_⟩:=JCa hk
  have:JFc rs k c=l.contains c:=by unfold JFc;rw [el]
  rw [this]
  exact (JLC hr e el).1
theorem mo_of (h:AllP (MoP mg B G tab glo) G) (hr:AllR (RaP B G) rs) (hg:∀i c,glo i≠.exc c):Mo mg B G tab glo (JFc rs) where
 fn:=fun x i e=>h.get e
 con:=fun x i d e q=>h.get e d q
 noexg:=hg
 blt:=fun x b e=>h.get e
 rng:=fun x e=>h.get e
 isi:=fun x e=>h.get e
 ty:=fun x t e=>h.get e
 nam:=fun x e=>h.get e
 cl:=⟨fun x c e=>(h.get e).2,fun x c e=>⟨_,_,_,_,PySem.F.excBase_ValueError,by decide,(h.get e).1.ex⟩⟩
 exm:=fun x c e k hk=>by
  obtain ⟨l,el,hc⟩:=JCa hk
  exact (JLC hr e el).2 hc
end
noncomputable def conV:Value->Option D
 | .none=>some .none
 | .bool b=>some (.bool b)
 | .int i _=>some (.int i)
 | .str x _=>some (.str x)
 | _=>none
theorem JKY {B:Bs} {u:Value} {d:D} (h:conV u=some d):∃v,RelV v u/\∀H,Den B H d v:=by
 cases u<;>simp only [conV,q_j,reduceCtorEq] at h<;>subst h
 ·exact ⟨.non,rfl,fun H=>by simp only [Den]⟩
 ·exact ⟨.bl _,rfl,fun H=>by simp only [Den]⟩
 ·exact ⟨.int _,⟨_,rfl⟩,fun H=>by simp only [Den]⟩
 ·exact ⟨.str _,⟨_,rfl⟩,fun H=>by simp only [Den]⟩
inductive EntOk (B:Bs) (w:World):List DictEntry->List (D×D)->Prop
 | nil:EntOk B w [] []
 | cons {en:DictEntry} {x:Str} {t:Tok} {d:D} {es:List DictEntry} {kvs:List (D×D)}:en.key=.str x t->en.hash=hashStr w x->(∃v,RelV v en.val/\∀H,Den B H d v)->EntOk B w es kvs->EntOk B w (en::es) ((.str x,d)::kvs)
theorem EntOk.den {B:Bs} {w:World} {es:List DictEntry} {kvs:List (D×D)} (h:EntOk B w es kvs):∃ks:List (Key×V),(∀H,DenK B H kvs ks)/\∀P:Program,∃rs:List (Key×Value),KV ks rs/\Pairs (JBE P w) es rs/\(∀e∈es,∃k,(JBE P w).is k e.key=true/\e.hash=(JBE P w).hash k)/\rs.map (·.1)=kvs.filterMap (fun p=>match p.1 with | .str x=>some (Sum.inr x:Key) | _=>none):=by
 induction h with
 | nil=>exact ⟨[],fun H=>by simp only [DenK],fun P=>⟨[],.nil,.nil,fun e he=>(by simp at he),rfl⟩⟩
 | @cons en x t d es kvs h1 h2 h3 _ ih =>
  obtain ⟨ks,b,ih⟩:=ih
  obtain ⟨v,r,q⟩:=h3
  refine ⟨(Sum.inr x,v)::ks,fun H=>?_,fun P=>?_⟩
  ·simp only [DenK]
   exact ⟨x,v,ks,rfl,rfl,q H,b H⟩
  ·obtain ⟨rs,a,c,e,f⟩:=ih P
   have hk:(JBE P w).is (Sum.inr x) en.key=true:=by rw [h1];exact JB3 P w x t
   refine ⟨(Sum.inr x,en.val)::rs,.cons ⟨rfl,r⟩ a,.cons hk rfl c,fun e' he=>?_,by simp only [List.map_cons,f];rfl⟩
   rcases q_n.mp he with rfl | he
   ·exact ⟨Sum.inr x,hk,h2⟩
   ·exact e e' he
end VI
namespace VI
open PySem PySem.Spec PyProof.Rows L2
mutual
noncomputable def conK (K:PySem.W.Frag):Nat->Value->Option D
 | 0,_=>none
 | n+1,u=>match u with
  | .ref a=>(match K.lookup a with
   | some ⟨.type "tuple",_,.seq its 0,_⟩=>if its.size<=1000 then (JGp K n its.toList).map PyData.tuple else none
   | _=>none)
  | u=>conV u
noncomputable def JGp (K:PySem.W.Frag):Nat->List Value->Option (List D)
 | 0,_=>none
 | _,[]=>some []
 | n+1,u::us=>(conK K n u).bind fun d=>(JGp K n us).map (d::·)
end
mutual
theorem JGM {B:Bs}:∀ {n:Nat} {u:Value} {d:D},conK B.K n u=some d->∃v,RelV v u/\∀H,Den B H d v
 | 0,u,d,h=>by simp [conK] at h
 | n+1,u,d,h=>by
  unfold conK at h
  split at h
  ·rename_i a
   split at h
   ·rename_i od its sl l
    split at h
    ·rename_i hz
     obtain ⟨ds,h1,e⟩:=q_d.mp h
     subst e
     obtain ⟨vs,r,q⟩:=JE1 h1
     refine ⟨.ref a,rfl,fun H=>?_⟩
     simp only [Den]
     exact ⟨a,vs,rfl,.inr ⟨_,its,_,l,rfl,rfl,by rw [sizeLine_eq];omega,r⟩,q H⟩
    ·cases h
   ·cases h
  ·exact JKY h
theorem JE1 {B:Bs}:∀ {n:Nat} {us:List Value} {ds:List D},JGp B.K n us=some ds->∃vs,Vals vs us/\∀H,DenL B H ds vs
 | 0,us,ds,h=>by simp [JGp] at h
 | n+1,[],ds,h=>by
  simp only [JGp,q_j] at h
  subst h
  exact ⟨[],.nil,fun H=>by simp only [DenL]⟩
 | n+1,u::us,ds,h=>by
  unfold JGp at h
  obtain ⟨d,h1,h⟩:=q_a.mp h
  obtain ⟨r,h2,e⟩:=q_d.mp h
  subst e
  obtain ⟨v,r1,q1⟩:=JGM h1
  obtain ⟨vs,r2,q2⟩:=JE1 h2
  exact ⟨v::vs,.cons r1 r2,fun H=>by simp only [DenL];exact ⟨v,vs,rfl,q1 H,q2 H⟩⟩
end
theorem JC2 {K:PySem.W.Frag} {cl:Nat->Addr} {w:World} {h:Heap} {mg:Str->Option Value} {x:Str} {d0:D} (X:K.In h) (Gm:h.Ns mainGlobals mg)
  (e:((PySem.W.nsIn K mainGlobals x).bind fun o=>o.bind fun u=>conK K 64 u)=some d0) {glo:Nat->R D} {i:Nat} (hg:glo i=.ok d0) :
  ∀d,glo i=.ok d->∃u v,mg x=some u/\RelV v u/\∀H,Den ⟨K,cl,w⟩ H d v:=by
 intro d hd
 rw [hg] at hd
 cases hd
 obtain ⟨o,h1,h2⟩:=q_a.mp e
 obtain ⟨u,h3,h4⟩:=q_a.mp h2
 subst h3
 obtain ⟨v,r,q⟩:=JGM (B:=⟨K,cl,w⟩) h4
 exact ⟨u,v,PySem.W.mg_of X Gm h1,r,q⟩
end VI
end
section
namespace Fr
theorem JBW {a g:Int} (h:g ∣ a):a.fdiv g=a / g:=Int.fdiv_eq_ediv_of_dvd h
theorem JCq (up down:Int) (h:down≠0):up.fdiv (if down<0 then -((up.gcd down:Nat):Int) else ((up.gcd down:Nat):Int))=(Rat.divInt up down).num:=by
 have hg:((up.gcd down:Nat):Int) ∣ up:=Int.gcd_dvd_left ..
 rw [Rat.num_divInt,Int.gcd_comm down up]
 by_cases hd:down<0
 ·rw [if_pos hd,JBW (Int.neg_dvd.mpr hg),Int.sign_eq_neg_one_of_neg hd,Int.neg_one_mul,Int.ediv_neg,Int.neg_ediv_of_dvd hg]
 ·rw [if_neg hd,JBW hg,Int.sign_eq_one_of_pos (by omega),Int.one_mul]
theorem JDz (up down:Int) (h:down≠0):down.fdiv (if down<0 then -((up.gcd down:Nat):Int) else ((up.gcd down:Nat):Int))=((Rat.divInt up down).den:Int):=by
 have hg:((up.gcd down:Nat):Int) ∣ down:=Int.gcd_dvd_right ..
 rw [Rat.den_divInt,if_neg h,Int.gcd_comm down up]
 by_cases hd:down<0
 ·rw [if_pos hd,JBW (Int.neg_dvd.mpr hg),Int.ediv_neg,Int.natCast_ediv,<-Int.neg_ediv_of_dvd hg]
  congr 1
  omega
 ·rw [if_neg hd,JBW hg,Int.natCast_ediv]
  congr 1
  omega
theorem den_pos (q:Rat):(0:Int)<(q.den:Int):=by have:=q.den_pos;omega
theorem JAo (q:Rat):(q.den:Int)≠0:=by have:=den_pos q;omega
theorem JHB (a b:Rat):Rat.divInt (a.num*b.den+b.num*a.den) ((a.den:Int)*b.den)=a+b:=by
 conv=>rhs;rw [<-Rat.num_divInt_den a,<-Rat.num_divInt_den b]
 rw [Rat.divInt_add_divInt _ _ (JAo a) (JAo b)]
theorem JLz (a b:Rat):Rat.divInt (a.num*b.den - b.num*a.den) ((a.den:Int)*b.den)=a - b:=by
 conv=>rhs;rw [<-Rat.num_divInt_den a,<-Rat.num_divInt_den b]
 rw [Rat.divInt_sub_divInt _ _ (JAo a) (JAo b)]
theorem JIi (a b:Rat):Rat.divInt (a.num*b.num) ((a.den:Int)*b.den)=a*b:=by
 conv=>rhs;rw [<-Rat.num_divInt_den a,<-Rat.num_divInt_den b]
 rw [Rat.divInt_mul_divInt]
theorem JMW (q:Rat):q.num.gcd (q.den:Int)=1:=by
 have:=q.reduced
 unfold Nat.Coprime at this
 unfold Int.gcd
 simpa using this
theorem JGa (a b:Int):b.gcd (a.fmod b)=a.gcd b:=by
 have h:=Int.mul_fdiv_add_fmod a b
 have e:a.fmod b=a - b*a.fdiv b:=by omega
 rw [e,Int.gcd_comm a b]
 apply Nat.dvd_antisymm
 ·apply Int.dvd_gcd
  ·exact Int.gcd_dvd_left ..
  ·have h1:((b.gcd (a - b*a.fdiv b):Nat):Int) ∣ b:=Int.gcd_dvd_left ..
   have h2:((b.gcd (a - b*a.fdiv b):Nat):Int) ∣ a - b*a.fdiv b:=Int.gcd_dvd_right ..
   have h3:=Int.dvd_add h2 (Int.dvd_mul_of_dvd_left (c:=a.fdiv b) h1)
   have e2:a - b*a.fdiv b+b*a.fdiv b=a:=by omega
   rwa [e2] at h3
 ·apply Int.dvd_gcd
  ·exact Int.gcd_dvd_left ..
  ·exact Int.dvd_sub (Int.gcd_dvd_right ..) (Int.dvd_mul_of_dvd_left (Int.gcd_dvd_left ..))
theorem JIl (a b:Int) (h:b≠0):(a.fmod b).natAbs<b.natAbs:=by
 by_cases hb:0<b
 ·have h1:=Int.fmod_nonneg_of_pos a hb
  have h2:=Int.fmod_lt_of_pos a hb
  omega
 ·have hb':b<0:=by omega
  have h1:=Int.mul_fdiv_add_fmod a b
  rw [Int.fmod_eq_emod]
  have h2:=Int.emod_nonneg a h
  have h3:=Int.emod_lt a h
  split
  ·rename_i q
   rcases q with q | q
   ·omega
   ·have:=Int.emod_eq_zero_of_dvd q
    omega
  ·rename_i q
   have h4:a % b≠0:=fun z=>q (.inr (Int.dvd_of_emod_eq_zero z))
   omega
end Fr
end
section
namespace VI.VP
open PySem
theorem JAB {x:Bool} {tab:Nat->Option Fd} {glo:Nat->R D} {sub:Nat->Nat->Bool} {n f:Nat} {xs:List D} {fd:Fd} (h:tab f=some fd):run x tab glo sub (n+1) f xs=JFH x ⟨run x tab glo sub n,glo,sub⟩ fd xs:=by
 rw [run,h]
@[simp] theorem look_zero (s:Sl) (δ:Env):look (s::δ) 0=s.get:=rfl
@[simp] theorem look_succ (s:Sl) (δ:Env) (i:Nat):look (s::δ) (i+1)=look δ i:=rfl
@[simp] theorem get_val (d:D):(Sl.val d).get=.ok d:=rfl
@[simp] theorem get_own (d:D):(Sl.own d).get=.ok d:=rfl
@[simp] theorem bind_ok {α β:Type} (a:α) (f:α->R β):(R.ok a).bind f=f a:=rfl
@[simp] theorem bind_exc {α β:Type} (c:Nat) (f:α->R β):(R.exc c).bind f=.exc c:=rfl
@[simp] theorem stepR_ok {α:Type} (a:α) (f:α->Fl):stepR (.ok a) f=f a:=rfl
@[simp] theorem stepR_exc {α:Type} (c:Nat) (f:α->Fl):stepR (.exc c) f=.ex c:=rfl
theorem JCD (e:E) (i:Nat) (d:D) (r:Env):JAK e i (.val d::r)=JAK e (i+1) r:=by simp [JAK,Sl.isOwn]
theorem JDU (e:E) (i:Nat) (r:Env):JAK e i (.no::r)=JAK e (i+1) r:=by simp [JAK,Sl.isOwn]
theorem JAX (e:E) (i:Nat) (d:D) (r:Env):JAK e i (.own d::r)=(e.uses i || JAK e (i+1) r):=by simp [JAK,Sl.isOwn]
theorem JB8 (e:E) (i:Nat):JAK e i []=false:=rfl
theorem JBj (e:E) (i:Nat) (d:D) (r:Env):JAn e i (.val d::r)=.val d::JAn e (i+1) r:=by simp [JAn,Sl.frz]
theorem JCM (e:E) (i:Nat) (r:Env):JAn e i (.no::r)=.no::JAn e (i+1) r:=by simp [JAn,Sl.frz]
theorem JCH (e:E) (i:Nat) (d:D) (r:Env):JAn e i (.own d::r)=(if e.uses i=true then .val d else .own d)::JAn e (i+1) r:=by
 simp only [JAn,Sl.frz]
theorem JBo (e:E) (i:Nat):JAn e i []=[]:=rfl
theorem JGZ (e:E) (d:D) (δ:Env):after e d δ=if (JAK e 0 δ&&!JAQ d)=true then JAn e 0 δ else δ:=rfl
noncomputable def JIN (x:Bool):Fl->R D
 | .nx _=>.ok .none
 | .rt d=>.ok d
 | .ex c=>if x=true then .exc c else .bad
 | _=>.bad
theorem JAA {x:Bool} {C:Cn} {f:Fd} {xs:List D} (h:xs.length=f.par):JFH x C f xs=JIN x (exec C f.body (xs.map Sl.val++List.replicate (f.slots - f.par) Sl.no)):=by
 unfold JFH
 rw [if_pos h]
 cases exec C f.body (xs.map Sl.val++List.replicate (f.slots - f.par) Sl.no)<;>rfl
section
variable {c:Env->R Bool} {b:Env->Fl}
theorem JCE:∀(n:Nat) (δ:Env),JAh c b n δ≠.bad->JAh c b (n+1) δ=JAh c b n δ
 | 0,δ,h=>absurd rfl h
 | n+1,δ,h=>by
  unfold JAh at h ⊢
  cases hc:c δ with
  | ok k =>
   cases k with
   | true =>
    rw [hc] at h
    simp only at h ⊢
    cases hb:b δ with
    | nx δ'=>rw [hb] at h;exact JCE n δ' h
    | ct δ'=>rw [hb] at h;exact JCE n δ' h
    | bk δ'=>rfl
    | rt d=>rfl
    | ex k=>rfl
    | bad=>rfl
   | false=>rfl
  | exc k=>rfl
  | bad=>rfl
theorem JEz {n m:Nat} {δ:Env} (h:JAh c b n δ≠.bad) (hm:n<=m):JAh c b m δ=JAh c b n δ:=by
 induction hm with
 | refl=>rfl
 | step _ ih=>rw [JCE _ _ (by rw [ih];exact h),ih]
theorem JC8 {n:Nat} {δ:Env} (h:JAh c b n δ≠.bad):JBi c b δ=JAh c b n δ:=by
 unfold JBi
 have hx:∃n,JAh c b n δ≠.bad:=⟨n,h⟩
 rw [dif_pos hx]
 have h2:=hx.choose_spec
 rcases Nat.le_total n hx.choose with l | l
 ·exact JEz h l
 ·exact (JEz h2 l).symm
theorem JDE {δ:Env} (hc:c δ=.ok false):JBi c b δ=.nx δ:=by
 have:JAh c b 1 δ=.nx δ:=by unfold JAh;rw [hc]
 rw [JC8 (n:=1) (by rw [this];intro h;cases h),this]
theorem JCs {δ δ':Env} (hc:c δ=.ok true) (hb:b δ=.nx δ'):JBi c b δ=JBi c b δ':=by
 have hs:∀n,JAh c b (n+1) δ=JAh c b n δ':=fun n=>by
  conv=>lhs;unfold JAh
  rw [hc];simp only;rw [hb]
 by_cases h:∃n,JAh c b n δ'≠.bad
 ·obtain ⟨n,h⟩:=h
  rw [JC8 h,JC8 (n:=n+1) (by rw [hs];exact h),hs]
 ·have h1:JBi c b δ'=.bad:=by unfold JBi;rw [dif_neg h]
  have h2:¬ ∃n,JAh c b n δ≠.bad:=by
   rintro ⟨n,q⟩
   cases n with
   | zero=>exact q rfl
   | succ n=>exact h ⟨n,by rw [<-hs];exact q⟩
  rw [h1]
  unfold JBi
  rw [dif_neg h2]
end
theorem JBw {i:Int} {k:Nat} (h:i.natAbs<2 ^ k):Builtin.Int.intBits i<=k:=by
 unfold Builtin.Int.intBits
 split
 ·omega
 ·rename_i hz
  have hn:i.natAbs≠0:=by simpa using hz
  have:=(Nat.log2_lt hn).mpr h
  omega
theorem JG5 {i j:Int} (h:j.natAbs<2 ^ 9000):Builtin.divisionGoesByPylong i j=false:=by
 unfold Builtin.divisionGoesByPylong
 simp only [Bool.and_eq_false_iff,decide_eq_false_iff_not]
 left
 split
 ·omega
 ·rename_i hz
  have hn:j.natAbs≠0:=by simpa using hz
  have:=(Nat.log2_lt hn).mpr h
  omega
end VI.VP
end
section
namespace VI.VP
open PySem Fr
noncomputable def L (i:Int):Prop:=i.natAbs<2 ^ 4000
theorem L.of {i:Int} {k:Nat} (h:i.natAbs<2 ^ k) (hk:k<=4000):L i:=q_m h (Nat.pow_le_pow_right (by omega) hk)
theorem JOb {i j:Int} (hi:L i) (hj:L j):IntMulOk i j:=by
 have h1:=JBw hi
 have h2:=JBw hj
 unfold IntMulOk
 intro h
 simp only [q_i,q_C] at h
 have h3:=h.2
 unfold Builtin.Int.intTooBig at h3
 have:(bitsLine:Int) ≥ 8000:=by decide
 simp only [q_C] at h3
 omega
theorem pyl {i j:Int} (hj:L j):Builtin.divisionGoesByPylong i j=false:=JG5 (q_m hj (Nat.pow_le_pow_right (by omega) (by omega)))
theorem JBn {i j:Int} (hi:L i) (hj:L j):binD .Mult (.int i) (.int j)=.ok (.int (i*j)):=by
 simp only [binD,if_pos (JOb hi hj)]
theorem JFx {i j:Int} (hj:j.natAbs<2 ^ 64):binD .Mult (.int i) (.int j)=.ok (.int (i*j)):=by
 simp only [binD,if_pos (IntMulOk.of_right (a:=i) (JBw hj))]
theorem JDX {i j:Int} (hj:i.natAbs<2 ^ 64):binD .Mult (.int i) (.int j)=.ok (.int (i*j)):=by
 simp only [binD,if_pos (IntMulOk.of_left (b:=j) (JBw hj))]
theorem JOF {i j:Int}:binD .Add (.int i) (.int j)=.ok (.int (i+j)):=rfl
theorem JOq {i j:Int}:binD .Sub (.int i) (.int j)=.ok (.int (i - j)):=rfl
theorem JHg {i j:Int} (h:j≠0) (hj:L j):binD .FloorDiv (.int i) (.int j)=.ok (.int (i.fdiv j)):=by
 simp only [binD,if_pos (And.intro h (pyl (i:=i) hj))]
theorem JFj {i j:Int} (h:j≠0):binD .Mod (.int i) (.int j)=.ok (.int (i.fmod j)):=by
 simp only [binD,if_pos h]
noncomputable def F (q:Rat):D:=.tuple [.int q.num,.int q.den]
theorem JMN (p q:Rat):PyData.eqv (F p) (F q)=decide (p=q):=by
 simp only [F,PyData.eqv,PyData.eqvAll,Bool.and_true]
 by_cases h:p=q
 ·subst h;simp
 ·rw [q_o h]
  simp only [Bool.and_eq_false_iff,beq_eq_false_iff_ne,ne_eq]
  by_cases hn:p.num=q.num
  ·right
   intro hd
   exact h (Rat.ext hn (by omega))
  ·left;exact hn
theorem JFt (q:Rat):shaped (F q)=true:=by
 simp only [shaped,F,PyData.canLay0,PyData.canLayAll0,PyData.depth,PyData.depthAll,Bool.and_true,Bool.true_and]
 decide
theorem JLw (q:Rat):idxD (F q) (.int 0)=.ok (.int q.num):=rfl
theorem JK0 (q:Rat):idxD (F q) (.int 1)=.ok (.int q.den):=rfl
theorem F_ne (p q:Rat):cmpD .NotEq (F p) (F q)=.ok (.bool (!decide (p=q))):=by
 simp only [cmpD,JFt,Bool.and_self,if_true,JMN]
theorem F_eq (p q:Rat):cmpD .Eq (F p) (F q)=.ok (.bool (decide (p=q))):=by
 simp only [cmpD,JFt,Bool.and_self,if_true,JMN]
theorem i_ne (i j:Int):cmpD .NotEq (.int i) (.int j)=.ok (.bool (!decide (i=j))):=by
 have:PyData.eqv (.int i) (.int j)=decide (i=j):=by simp only [PyData.eqv];rfl
 simp only [cmpD,shaped,PyData.canLay0,PyData.depth,this]
 rfl
theorem i_eq (i j:Int):cmpD .Eq (.int i) (.int j)=.ok (.bool (decide (i=j))):=by
 have:PyData.eqv (.int i) (.int j)=decide (i=j):=by simp only [PyData.eqv];rfl
 simp only [cmpD,shaped,PyData.canLay0,PyData.depth,this]
 rfl
theorem i_lt (i j:Int):cmpD .Lt (.int i) (.int j)=.ok (.bool (decide (i<j))):=rfl
theorem i_gt (i j:Int):cmpD .Gt (.int i) (.int j)=.ok (.bool (decide (j<i))):=rfl
theorem i_le (i j:Int):cmpD .LtE (.int i) (.int j)=.ok (.bool (decide (i<=j))):=rfl
theorem i_ge (i j:Int):cmpD .GtE (.int i) (.int j)=.ok (.bool (decide (j<=i))):=rfl
theorem JIC (u d:Int) (h:d≠0):(Rat.divInt u d).num.natAbs<=u.natAbs:=by
 rw [<-JCq u d h]
 have hg:((u.gcd d:Nat):Int) ∣ u:=Int.gcd_dvd_left ..
 have key:∀g:Int,g ∣ u->(u.fdiv g).natAbs<=u.natAbs:=fun g hg=>by
  rw [JBW hg]
  obtain ⟨k,rfl⟩:=hg
  by_cases hz:g=0
  ·subst hz;simp
  ·rw [Int.mul_ediv_cancel_left _ hz,Int.natAbs_mul]
   have:0<g.natAbs:=by omega
   exact Nat.le_mul_of_pos_left _ this
 split
 ·exact key _ (Int.neg_dvd.mpr hg)
 ·exact key _ hg
theorem JGG (u d:Int) (h:d≠0):(Rat.divInt u d).den<=d.natAbs:=by
 rw [Rat.den_divInt,if_neg h]
 exact Nat.div_le_self _ _
noncomputable def Sz (k:Nat) (q:Rat):Prop:=q.num.natAbs<2 ^ k/\q.den<2 ^ k
theorem Sz.mono {i k:Nat} {q:Rat} (h:Sz i q) (hk:i<=k):Sz k q:=⟨q_m h.1 (Nat.pow_le_pow_right (by omega) hk),q_m h.2 (Nat.pow_le_pow_right (by omega) hk)⟩
theorem Sz.of {u d:Int} {k:Nat} (h:d≠0) (hu:u.natAbs<2 ^ k) (hd:d.natAbs<2 ^ k):Sz k (Rat.divInt u d):=⟨Nat.lt_of_le_of_lt (JIC u d h) hu,Nat.lt_of_le_of_lt (JGG u d h) hd⟩
theorem Sz.n {k:Nat} {q:Rat} (h:Sz k q):q.num.natAbs<2 ^ k:=h.1
theorem Sz.d {k:Nat} {q:Rat} (h:Sz k q):(q.den:Int).natAbs<2 ^ k:=by simpa using h.2
theorem JBT {a b:Int} {i j:Nat} (h1:a.natAbs<2 ^ i) (h2:b.natAbs<2 ^ j):(a*b).natAbs<2 ^ (i+j):=by
 rw [Int.natAbs_mul,Nat.pow_add]
 exact Nat.mul_lt_mul'' h1 h2
theorem JOX {a b:Int} {i:Nat} (h1:a.natAbs<2 ^ i) (h2:b.natAbs<2 ^ i):(a+b).natAbs<2 ^ (i+1):=by
 have:=Int.natAbs_add_le a b
 rw [Nat.pow_succ]
 omega
theorem JQf {a b:Int} {i:Nat} (h1:a.natAbs<2 ^ i) (h2:b.natAbs<2 ^ i):(a - b).natAbs<2 ^ (i+1):=by
 have:=Int.natAbs_sub_le a b
 rw [Nat.pow_succ]
 omega
theorem JGn {a:Int} {i k:Nat} (h:a.natAbs<2 ^ i) (hk:i<=k):a.natAbs<2 ^ k:=q_m h (Nat.pow_le_pow_right (by omega) hk)
section
variable {i j k:Nat} {p q:Rat}
theorem Sz.add (hp:Sz i p) (hq:Sz j q) (hk:i+j+1<=k):Sz k (p+q):=by
 rw [<-JHB]
 have h1:=JBT hp.n hq.d
 have h2:=JBT hq.n hp.d
 rw [Nat.add_comm j i] at h2
 refine Sz.of (Int.mul_ne_zero (JAo p) (JAo q)) (JGn (JOX h1 h2) hk) (JGn (JBT hp.d hq.d) (by omega))
theorem Sz.sub (hp:Sz i p) (hq:Sz j q) (hk:i+j+1<=k):Sz k (p - q):=by
 rw [<-JLz]
 have h1:=JBT hp.n hq.d
 have h2:=JBT hq.n hp.d
 rw [Nat.add_comm j i] at h2
 refine Sz.of (Int.mul_ne_zero (JAo p) (JAo q)) (JGn (JQf h1 h2) hk) (JGn (JBT hp.d hq.d) (by omega))
theorem Sz.mul (hp:Sz i p) (hq:Sz j q) (hk:i+j<=k):Sz k (p*q):=by
 rw [<-JIi]
 exact Sz.of (Int.mul_ne_zero (JAo p) (JAo q)) (JGn (JBT hp.n hq.n) hk) (JGn (JBT hp.d hq.d) hk)
end
abbrev Q (q:Rat):Prop:=Sz 1500 q
theorem Sz.Ln {k:Nat} {q:Rat} (h:Sz k q) (hk:k<=4000):L q.num:=L.of h.n hk
theorem Sz.Ld {k:Nat} {q:Rat} (h:Sz k q) (hk:k<=4000):L (q.den:Int):=L.of h.d hk
end VI.VP
end
section
namespace VI.VP
open PySem
section
variable {C:Cn} {δ:Env} {a b c e es o i r:E} {x y z d:D} {xs:List D}
noncomputable def bin1 (op:Operator):R D->R D->R D
 | .ok x,.ok y=>binD op x y
 | .ok _,r=>r
 | r,_=>r
noncomputable def neg1:R D->R D
 | .ok (.int i)=>.ok (.int (-i))
 | .exc c=>.exc c
 | _=>.bad
noncomputable def not1:R Bool->R D
 | .ok b=>.ok (.bool (!b))
 | .exc c=>.exc c
 | .bad=>.bad
noncomputable def tr1:R D->R Bool
 | .ok d=>truth d
 | .exc c=>.exc c
 | .bad=>.bad
noncomputable def and1 (C:Cn) (b:E) (δ:Env):R D->R D
 | .ok (.bool true)=>ev C b δ
 | .ok (.bool false)=>.ok (.bool false)
 | .exc c=>.exc c
 | _=>.bad
noncomputable def or1 (C:Cn) (b:E) (δ:Env):R D->R D
 | .ok (.bool true)=>.ok (.bool true)
 | .ok (.bool false)=>ev C b δ
 | .exc c=>.exc c
 | _=>.bad
noncomputable def cmp1 (op:CmpOp):R D->R D->R D
 | .ok x,.ok y=>cmpD op x y
 | .ok _,r=>r
 | r,_=>r
noncomputable def isN1 (n:Bool):R D->R D
 | .ok x=>.ok (.bool (if n=true then !isNone x else isNone x))
 | r=>r
noncomputable def isB1 (b:Bool):R D->R D
 | .ok (.bool c)=>.ok (.bool (c==b))
 | .exc c=>.exc c
 | _=>.bad
noncomputable def ife1 (C:Cn) (a b:E) (δ:Env):R Bool->R D
 | .ok true=>ev C a δ
 | .ok false=>ev C b δ
 | .exc c=>.exc c
 | .bad=>.bad
noncomputable def tup1:R (List D)->R D
 | .ok xs=>.ok (.tuple xs)
 | .exc c=>.exc c
 | .bad=>.bad
noncomputable def lst1:R (List D)->R D
 | .ok xs=>.ok (.list xs)
 | .exc c=>.exc c
 | .bad=>.bad
noncomputable def idx1:R D->R D->R D
 | .ok x,.ok y=>idxD x y
 | .ok _,r=>r
 | r,_=>r
noncomputable def JI6 (C:Cn) (f:Nat):R (List D)->R D
 | .ok xs=>C.fn f xs
 | .exc c=>.exc c
 | .bad=>.bad
noncomputable def blt1 (b:Blt):R (List D)->R D
 | .ok xs=>bltD b xs
 | .exc c=>.exc c
 | .bad=>.bad
noncomputable def isi1 (C:Cn) (t:Ty):R D->R D
 | .ok x=>isiD C.sub x t
 | r=>r
noncomputable def JLy:R D->R D->R D
 | .ok (.list xs),.ok y=>JDF (.list xs) y
 | .ok (.list _),r=>r
 | .exc c,_=>.exc c
 | _,_=>.bad
noncomputable def JLN:R D->R D->R D
 | .ok (.list xs),.ok y=>JEX (.list xs) y
 | .ok (.list _),r=>r
 | .exc c,_=>.exc c
 | _,_=>.bad
noncomputable def get1:R D->R D->R D->R D
 | .ok x,r1,r2=>if JKW x=true then (r1.bind fun y=>r2.bind fun z=>JFa x y z) else .bad
 | .exc c,_,_=>.exc c
 | _,_,_=>.bad
noncomputable def JJG:R D->R (List D)->R (List D)
 | .ok x,.ok xs=>.ok (x::xs)
 | .ok _,r=>r
 | .exc c,_=>.exc c
 | .bad,_=>.bad
noncomputable def JFb (C:Cn) (k:Nat) (elt cond:E) (δ:Env) (x:D):R (Option D):=(push k x δ).bind fun δ1=>(evT C cond δ1).bind fun t=>if t=true then (ev C elt δ1).bind fun y=>.ok (some y) else .ok none
noncomputable def JCZ (C:Cn) (k:Nat) (elt cond:E) (δ:Env):R (List D)->R D
 | .ok xs=>if xs.length<=16777216 then (JAp (JFb C k elt cond δ) xs).bind fun ys=>.ok (.list ys) else .bad
 | .exc c=>.exc c
 | .bad=>.bad
noncomputable def its1:R D->R (List D)
 | .ok d=>JAg d
 | .exc c=>.exc c
 | .bad=>.bad
noncomputable def rng1:R (List D)->R (List D)
 | .ok d=>rngD d
 | r=>r
theorem JDA (r:R D):r.bind truth=tr1 r:=by cases r<;>rfl
theorem JCJ (r:R D):r.bind JAg=its1 r:=by cases r<;>rfl
theorem v_var {j:Nat}:ev C (.var j) δ=look δ j:=by simp only [ev]
theorem JPi {j:Int}:ev C (.cint j) δ=.ok (.int j):=by simp only [ev]
theorem v_bl {j:Bool}:ev C (.cbl j) δ=.ok (.bool j):=by simp only [ev]
theorem JPr:ev C .cnon δ=.ok .none:=by simp only [ev]
theorem JPy {j:Str}:ev C (.cstr j) δ=.ok (.str j):=by simp only [ev]
theorem JOn {j:Nat}:ev C (.glo j) δ=C.glo j:=by simp only [ev]
theorem JOm {op:Operator}:ev C (.bin op a b) δ=bin1 op (ev C a δ) (ev C b δ):=by
 simp only [ev]
 cases ev C a δ<;>cases ev C b δ<;>rfl
theorem JQP:ev C (.neg a) δ=neg1 (ev C a δ):=by
 simp only [ev]
 cases h:ev C a δ with
 | ok d=>cases d<;>rfl
 | exc c=>rfl
 | bad=>rfl
theorem v_not:ev C (.not a) δ=not1 (tr1 (ev C a δ)):=by
 simp only [ev]
 cases h:ev C a δ with
 | ok d=>simp only [R.bind,tr1];cases truth d<;>rfl
 | exc c=>rfl
 | bad=>rfl
theorem v_and:ev C (.and a b) δ=and1 C b δ (ev C a δ):=by
 simp only [ev]
 cases h:ev C a δ with
 | ok d =>
  cases d with
  | bool k=>cases k<;>rfl
  | _=>rfl
 | exc c=>rfl
 | bad=>rfl
theorem v_or:ev C (.or a b) δ=or1 C b δ (ev C a δ):=by
 simp only [ev]
 cases h:ev C a δ with
 | ok d =>
  cases d with
  | bool k=>cases k<;>rfl
  | _=>rfl
 | exc c=>rfl
 | bad=>rfl
theorem JQN {op:CmpOp}:ev C (.cmp op a b) δ=cmp1 op (ev C a δ) (ev C b δ):=by
 simp only [ev]
 cases ev C a δ<;>cases ev C b δ<;>rfl
theorem JP4 {k:Bool}:ev C (.isN a k) δ=isN1 k (ev C a δ):=by
 simp only [ev]
 cases ev C a δ<;>rfl
theorem JN1 {k:Bool}:ev C (.isB a k) δ=isB1 k (ev C a δ):=by
 simp only [ev]
 cases h:ev C a δ with
 | ok d=>cases d<;>rfl
 | exc c=>rfl
 | bad=>rfl
theorem JQQ:ev C (.ife c a b) δ=ife1 C a b δ (evT C c δ):=by
 simp only [ev]
 cases h:evT C c δ with
 | ok k=>cases k<;>rfl
 | exc c=>rfl
 | bad=>rfl
theorem JPg:ev C (.tup es) δ=tup1 (evA C es δ):=by simp only [ev];cases evA C es δ<;>rfl
theorem JN4:ev C (.lst es) δ=lst1 (evA C es δ):=by simp only [ev];cases evA C es δ<;>rfl
theorem JOY:ev C (.idx a i) δ=idx1 (ev C a δ) (ev C i δ):=by
 simp only [ev]
 cases ev C a δ<;>cases ev C i δ<;>rfl
theorem JKz {f:Nat}:ev C (.call f es) δ=JI6 C f (evA C es δ):=by simp only [ev];cases evA C es δ<;>rfl
theorem JOD {f:Blt}:ev C (.blt f es) δ=blt1 f (evA C es δ):=by simp only [ev];cases evA C es δ<;>rfl
theorem JOt {t:Ty}:ev C (.isi a t) δ=isi1 C t (ev C a δ):=by simp only [ev];cases ev C a δ<;>rfl
theorem v_count:ev C (.mcount o a) δ=JLy (ev C o δ) (ev C a δ):=by
 simp only [ev]
 cases ev C o δ with
 | ok d=>cases d<;>cases ev C a δ<;>rfl
 | exc c=>rfl
 | bad=>rfl
theorem JHI:ev C (.mindex o a) δ=JLN (ev C o δ) (ev C a δ):=by
 simp only [ev]
 cases ev C o δ with
 | ok d=>cases d<;>cases ev C a δ<;>rfl
 | exc c=>rfl
 | bad=>rfl
theorem v_get:ev C (.mget o a b) δ=get1 (ev C o δ) (ev C a δ) (ev C b δ):=by
 simp only [ev]
 cases ev C o δ with
 | ok d=>rfl
 | exc c=>rfl
 | bad=>rfl
theorem JLU {k:Nat}:ev C (.cmpr k e i c) δ=JCZ C k e c δ (evI C i δ):=by
 simp only [ev]
 cases evI C i δ<;>rfl
noncomputable def dct1 (ks:List Str):R (List D)->R D
 | .ok xs=>.ok (.dict ((ks.map PyData.str).zip xs))
 | .exc c=>.exc c
 | .bad=>.bad
noncomputable def rep1 (k:Nat):R (List D)->R D
 | .ok xs=>.ok (.list (List.replicate k xs).flatten)
 | .exc c=>.exc c
 | .bad=>.bad
theorem JOR {ks:List Str}:ev C (.dct ks es) δ=dct1 ks (evA C es δ):=by simp only [ev];cases evA C es δ<;>rfl
theorem JOu {k:Nat}:ev C (.rep k es) δ=rep1 k (evA C es δ):=by simp only [ev];cases evA C es δ<;>rfl
noncomputable def fn11 (o:O1):R D->R D
 | .ok x=>op1D o x
 | r=>r
noncomputable def JMU (b:Bool):R D->R D
 | .ok (.bool c)=>.ok (.bool (!(c==b)))
 | .exc c=>.exc c
 | _=>.bad
theorem JPo {o1:O1}:ev C (.fn1 o1 a) δ=fn11 o1 (ev C a δ):=by simp only [ev];cases ev C a δ<;>rfl
theorem JLd {k:Bool}:ev C (.isnB a k) δ=JMU k (ev C a δ):=by
 simp only [ev]
 cases h:ev C a δ with
 | ok d=>cases d<;>rfl
 | exc c=>rfl
 | bad=>rfl
theorem JGV {k:Bool}:evT C (.isnB a k) δ=tr1 (JMU k (ev C a δ)):=by
 simp only [evT]
 cases h:ev C a δ with
 | ok d=>cases d<;>rfl
 | exc c=>rfl
 | bad=>rfl
noncomputable def xop1 (k:XO):R (List D)->R D
 | .ok xs=>xD k xs
 | .exc c=>.exc c
 | .bad=>.bad
theorem JN8 {k:XO}:ev C (.xop k es) δ=xop1 k (evA C es δ):=by simp only [ev];cases evA C es δ<;>rfl
theorem JN3 {k:XO}:evI C (.xop k es) δ=its1 (xop1 k (evA C es δ)):=by simp only [evI,JCJ];cases evA C es δ<;>rfl
theorem JQK {o1:O1}:evI C (.fn1 o1 a) δ=its1 (fn11 o1 (ev C a δ)):=by simp only [evI,JCJ];cases ev C a δ<;>rfl
theorem JO4 {op:Operator}:evI C (.bin op a b) δ=its1 (bin1 op (ev C a δ) (ev C b δ)):=by
 simp only [evI,JCJ]
 cases ev C a δ<;>cases ev C b δ<;>rfl
theorem JLH:evA C .nil δ=.ok []:=by simp only [evA]
theorem JH3:evA C (.cons a r) δ=JJG (ev C a δ) (evA C r δ):=by
 simp only [evA]
 cases ev C a δ<;>cases evA C r δ<;>rfl
theorem JKE:evT C (.not a) δ=tr1 (not1 (evT C a δ)):=by
 simp only [evT]
 cases evT C a δ<;>rfl
noncomputable def andT (C:Cn) (b:E) (δ:Env):R Bool->R Bool
 | .ok true=>evT C b δ
 | r=>r
noncomputable def orT (C:Cn) (b:E) (δ:Env):R Bool->R Bool
 | .ok false=>evT C b δ
 | r=>r
theorem JOH:evT C (.and a b) δ=andT C b δ (evT C a δ):=by
 simp only [evT]
 cases h:evT C a δ with
 | ok k=>cases k<;>rfl
 | exc c=>rfl
 | bad=>rfl
theorem t_or:evT C (.or a b) δ=orT C b δ (evT C a δ):=by
 simp only [evT]
 cases h:evT C a δ with
 | ok k=>cases k<;>rfl
 | exc c=>rfl
 | bad=>rfl
theorem JPu {j:Nat}:evT C (.var j) δ=tr1 (look δ j):=by simp only [evT];cases look δ j<;>rfl
theorem t_bl {j:Bool}:evT C (.cbl j) δ=.ok j:=by simp only [evT]
theorem JOL {op:CmpOp}:evT C (.cmp op a b) δ=tr1 (cmp1 op (ev C a δ) (ev C b δ)):=by
 simp only [evT,JDA]
 cases ev C a δ<;>cases ev C b δ<;>rfl
theorem JJx {k:Bool}:evT C (.isN a k) δ=tr1 (isN1 k (ev C a δ)):=by simp only [evT];cases ev C a δ<;>rfl
theorem JJ2 {k:Bool}:evT C (.isB a k) δ=tr1 (isB1 k (ev C a δ)):=by
 simp only [evT]
 cases h:ev C a δ with
 | ok d=>cases d<;>rfl
 | exc c=>rfl
 | bad=>rfl
theorem JP2:evT C (.idx a i) δ=tr1 (idx1 (ev C a δ) (ev C i δ)):=by
 simp only [evT,JDA]
 cases ev C a δ<;>cases ev C i δ<;>rfl
theorem JLh {f:Nat}:evT C (.call f es) δ=tr1 (JI6 C f (evA C es δ)):=by simp only [evT,JDA];cases evA C es δ<;>rfl
theorem JPl {f:Blt}:evT C (.blt f es) δ=tr1 (blt1 f (evA C es δ)):=by simp only [evT,JDA];cases evA C es δ<;>rfl
theorem JN2 {t:Ty}:evT C (.isi a t) δ=tr1 (isi1 C t (ev C a δ)):=by simp only [evT,JDA];cases ev C a δ<;>rfl
theorem JO7:evI C (.rng es) δ=rng1 (evA C es δ):=by simp only [evI];cases evA C es δ<;>rfl
theorem JP6 {j:Nat}:evI C (.var j) δ=its1 (look δ j):=by simp only [evI];cases look δ j<;>rfl
theorem JPI {j:Nat}:evI C (.glo j) δ=its1 (C.glo j):=by simp only [evI];cases C.glo j<;>rfl
theorem l_idx:evI C (.idx a i) δ=its1 (idx1 (ev C a δ) (ev C i δ)):=by
 simp only [evI,JCJ]
 cases ev C a δ<;>cases ev C i δ<;>rfl
theorem JK2 {f:Nat}:evI C (.call f es) δ=its1 (JI6 C f (evA C es δ)):=by simp only [evI,JCJ];cases evA C es δ<;>rfl
theorem JPH:evI C (.tup es) δ=evA C es δ:=by simp only [evI]
theorem JNy:evI C (.lst es) δ=evA C es δ:=by simp only [evI]
noncomputable def seq1 (C:Cn) (r:S):Fl->Fl
 | .nx δ=>exec C r δ
 | f=>f
noncomputable def asg1 (i:Nat) (e:E) (δ:Env):R D->Fl
 | .ok x=>if e.fresh=true then .nx ((after e x δ).set i (.own x)) else .nx ((after e x δ).set i (.val x))
 | .exc c=>.ex c
 | .bad=>.bad
noncomputable def unp2 (is:List Nat) (δ:Env):R (List D)->Fl
 | .ok xs=>.nx (JBR is xs δ)
 | .exc c=>.ex c
 | .bad=>.bad
noncomputable def unp1 (is:List Nat) (e:E) (δ:Env):R D->Fl
 | .ok d=>unp2 is (after e d δ) (JAj is.length d)
 | .exc c=>.ex c
 | .bad=>.bad
noncomputable def ret1:R D->Fl
 | .ok d=>.rt d
 | .exc c=>.ex c
 | .bad=>.bad
noncomputable def ifs1 (C:Cn) (a b:S) (δ:Env):R Bool->Fl
 | .ok true=>exec C a δ
 | .ok false=>exec C b δ
 | .exc c=>.ex c
 | .bad=>.bad
noncomputable def app1 (i:Nat) (e:E) (δ:Env) (r:R D):Option Sl->Fl
 | some (.own (.list ds))=>(match r with
  | .ok x=>JBN i ds e x δ
  | .exc c=>.ex c
  | .bad=>.bad)
 | _=>.bad
noncomputable def ext1 (i:Nat) (e:E) (δ:Env) (r:R D):Option Sl->Fl
 | some (.own (.list ds))=>(match r with
  | .ok x=>JBP i ds e x δ
  | .exc c=>.ex c
  | .bad=>.bad)
 | _=>.bad
noncomputable def JNQ (e:E) (δ:Env):R D->Fl
 | .ok x=>.nx (after e x δ)
 | .exc c=>.ex c
 | .bad=>.bad
noncomputable def for2 (C:Cn) (i:Nat) (b:S):List D->Env->Fl:=forL (put1 i) (exec C b)
noncomputable def for1 (C:Cn) (i:Nat) (e:E) (b:S) (δ:Env):R (List D)->Fl
 | .ok xs=>for2 C i b xs (JAn e 0 δ)
 | .exc c=>.ex c
 | .bad=>.bad
noncomputable def whl1 (C:Cn) (c:E) (b:S) (δ:Env):Fl:=JBi (evT C c) (exec C b) δ
noncomputable def try1 (C:Cn) (c i:Nat) (h:S) (δ:Env):Fl->Fl
 | .ex k=>if C.sub k c=true then (match exec C h ((δ.map fun _=>Sl.no).set i (.val (excD k))) with
  | .nx δ2=>.nx (δ2.set i .no)
  | .rt d=>.rt d
  | _=>.bad) else .bad
 | f=>f
variable {s t h:S} {j k:Nat}
theorem JN9:exec C .nil δ=.nx δ:=by simp only [exec]
theorem JLK:exec C (.cons s t) δ=seq1 C t (exec C s δ):=by simp only [exec];cases exec C s δ<;>rfl
theorem JKo:exec C .pass δ=.nx δ:=by simp only [exec]
theorem JP5:exec C .brk δ=.bk δ:=by simp only [exec]
theorem JQS:exec C .cnt δ=.ct δ:=by simp only [exec]
theorem JPs:exec C (.asg j e) δ=asg1 j e δ (ev C e δ):=by simp only [exec];cases ev C e δ<;>rfl
theorem JQX {is:List Nat}:exec C (.unp is e) δ=unp1 is e δ (ev C e δ):=by
 simp only [exec]
 cases ev C e δ with
 | ok d=>simp only [stepR,unp1];cases JAj is.length d<;>rfl
 | exc c=>rfl
 | bad=>rfl
theorem JPz:exec C (.ret e) δ=ret1 (ev C e δ):=by simp only [exec];cases ev C e δ<;>rfl
theorem JLq:exec C .retN δ=.rt .none:=by simp only [exec]
theorem JQr:exec C (.ife c s t) δ=ifs1 C s t δ (evT C c δ):=by
 simp only [exec]
 cases h:evT C c δ with
 | ok k=>cases k<;>rfl
 | exc c=>rfl
 | bad=>rfl
theorem JOG:exec C (.app j e) δ=app1 j e δ (ev C e δ) δ[j]?:=by
 simp only [exec]
 cases h:δ[j]? with
 | none=>rfl
 | some u =>
  cases u with
  | own d =>
   cases d with
   | list ds=>simp only [app1];cases ev C e δ<;>rfl
   | _=>rfl
  | _=>rfl
theorem JQw:exec C (.ext j e) δ=ext1 j e δ (ev C e δ) δ[j]?:=by
 simp only [exec]
 cases h:δ[j]? with
 | none=>rfl
 | some u =>
  cases u with
  | own d =>
   cases d with
   | list ds=>simp only [ext1];cases ev C e δ<;>rfl
   | _=>rfl
  | _=>rfl
theorem JKs:exec C (.drop e) δ=JNQ e δ (ev C e δ):=by simp only [exec];cases ev C e δ<;>rfl
theorem JK6:exec C (.for1 j e s) δ=for1 C j e s δ (evI C e δ):=by simp only [exec];cases evI C e δ<;>rfl
theorem JOx:exec C (.whl c s) δ=whl1 C c s δ:=by simp only [exec];rfl
theorem JLc:exec C (.rais k) δ=.ex k:=by simp only [exec]
theorem JLT:exec C (.tryx s k j h) δ=try1 C k j h δ (exec C s δ):=by simp only [exec];cases exec C s δ<;>rfl
noncomputable def forN (C:Cn) (i:Nat) (b:S) (ds:List D):Fl->Fl
 | .nx δ'=>for2 C i b ds δ'
 | .ct δ'=>for2 C i b ds δ'
 | .bk δ'=>.nx δ'
 | r=>r
theorem for_nil:for2 C j s [] δ=.nx δ:=rfl
theorem JJA:for2 C j s (d::xs) δ=forN C j s xs (exec C s (δ.set j (.val d))):=by
 unfold for2 forL
 simp only [put1]
 cases exec C s (δ.set j (.val d))<;>rfl
noncomputable def pushc:R (Option D)->R (List D)->R (List D)
 | .ok (some y),.ok ys=>.ok (y::ys)
 | .ok none,r=>r
 | _,_=>.bad
noncomputable def mkl:R (List D)->R D
 | .ok ys=>.ok (.list ys)
 | .exc c=>.exc c
 | .bad=>.bad
theorem JBX {k:Nat} (hl:xs.length<=16777216):JCZ C k e c δ (.ok xs)=mkl (JAp (JFb C k e c δ) xs):=by
 simp only [JCZ,if_pos hl]
 cases JAp (JFb C k e c δ) xs<;>rfl
theorem JOr {f:D->R (Option D)}:JAp f []=.ok []:=rfl
theorem JNt {f:D->R (Option D)} (hf:∀c,f d≠.exc c):JAp f (d::xs)=pushc (f d) (JAp f xs):=by
 conv=>lhs;unfold JAp
 cases h:f d with
 | ok o =>
  cases o with
  | none=>rfl
  | some y =>
   simp only
   cases JAp f xs<;>rfl
 | exc c=>exact absurd h (hf c)
 | bad=>cases JAp f xs<;>rfl
theorem JIO {f:D->R (Option D)} {g:D->D}:∀ {xs:List D},(∀x∈xs,f x=.ok (some (g x)))->JAp f xs=.ok (xs.map g)
 | [],_=>rfl
 | x::xs,h=>by
  unfold JAp
  rw [h x (by simp),JIO fun y hy=>h y (by simp [hy])]
  rfl
theorem JEA {f:D->R (Option D)} {p:D->Bool} {g:D->D}:∀ {xs:List D},(∀x∈xs,f x=.ok (if p x=true then some (g x) else none))->JAp f xs=.ok ((xs.filter p).map g)
 | [],_=>rfl
 | x::xs,h=>by
  unfold JAp
  rw [h x (by simp)]
  have ih:=JEA (xs:=xs) fun y hy=>h y (by simp [hy])
  cases hp:p x
  ·simp only [q_v,if_false]
   rw [ih,q_w (by simp [hp])]
  ·simp only [if_true]
   rw [ih,q_x hp]
   rfl
noncomputable def opt1 (b:Bool):R D->R (Option D)
 | .ok y=>.ok (some y)
 | .exc c=>.exc c
 | .bad=>.bad
noncomputable def JGd (C:Cn) (e:E) (δ:Env):R Bool->R (Option D)
 | .ok true=>opt1 true (ev C e δ)
 | .ok false=>.ok none
 | .exc c=>.exc c
 | .bad=>.bad
theorem JBr:JFb C 0 e c δ x=JGd C e (.val x::δ) (evT C c (.val x::δ)):=by
 unfold JFb
 simp only [push,R.bind]
 cases h:evT C c (.val x::δ) with
 | ok k =>
  cases k
  ·rfl
  ·simp only [if_true,JGd]
   cases ev C e (.val x::δ)<;>rfl
 | exc c=>rfl
 | bad=>rfl
theorem JJj {n:Nat} {ys:List D} (h:ys.length=n+1):JFb C (n+1) e c δ (.tuple ys)=JGd C e (ys.map Sl.val++δ) (evT C c (ys.map Sl.val++δ)):=by
 have hp:push (n+1) (.tuple ys) δ=.ok (ys.map Sl.val++δ):=by unfold push;simp only [h,if_true]
 unfold JFb
 rw [hp]
 generalize ys.map Sl.val++δ=δ1
 simp only [R.bind]
 cases h:evT C c δ1 with
 | ok k =>
  cases k
  ·rfl
  ·simp only [if_true,JGd]
   cases ev C e δ1<;>rfl
 | exc c=>rfl
 | bad=>rfl
end
theorem JKg {i:Nat} {e:E} {δ:Env} {d:D}:asg1 i e δ (.ok d)=.nx ((after e d δ).set i (if e.fresh=true then .own d else .val d)):=by
 simp only [asg1]
 split<;>rfl
theorem JEu (s:Sl) (δ:Env):(s::δ)[0]? = some s:=rfl
theorem JEv (s:Sl) (δ:Env) (i:Nat):(s::δ)[i+1]? = δ[i]?:=rfl
theorem JIp (b:Bool):tr1 (.ok (.bool b))=.ok b:=rfl
theorem if_tt {α:Sort _} (a b:α):(if true=true then a else b)=a:=rfl
theorem if_ff {α:Sort _} (a b:α):(if false=true then a else b)=b:=rfl
theorem JQE {op:Operator} {x y:D}:bin1 op (.ok x) (.ok y)=binD op x y:=rfl
theorem JPQ {i:Int}:neg1 (.ok (.int i))=.ok (.int (-i)):=rfl
theorem JPU {b:Bool}:not1 (.ok b)=.ok (.bool (!b)):=rfl
theorem JLV {C:Cn} {b:E} {δ:Env}:and1 C b δ (.ok (.bool true))=ev C b δ:=rfl
theorem JKu {C:Cn} {b:E} {δ:Env}:and1 C b δ (.ok (.bool false))=.ok (.bool false):=rfl
theorem JQq {C:Cn} {b:E} {δ:Env}:or1 C b δ (.ok (.bool true))=.ok (.bool true):=rfl
theorem JOh {C:Cn} {b:E} {δ:Env}:or1 C b δ (.ok (.bool false))=ev C b δ:=rfl
theorem JOP {op:CmpOp} {x y:D}:cmp1 op (.ok x) (.ok y)=cmpD op x y:=rfl
theorem JN6 {n:Bool} {x:D}:isN1 n (.ok x)=.ok (.bool (if n=true then !isNone x else isNone x)):=rfl
theorem JO3 {b c:Bool}:isB1 b (.ok (.bool c))=.ok (.bool (c==b)):=rfl
theorem JKy {C:Cn} {a b:E} {δ:Env}:ife1 C a b δ (.ok true)=ev C a δ:=rfl
theorem JK7 {C:Cn} {a b:E} {δ:Env}:ife1 C a b δ (.ok false)=ev C b δ:=rfl
theorem JQF {xs:List D}:tup1 (.ok xs)=.ok (.tuple xs):=rfl
theorem JQM {ks:List Str} {xs:List D}:dct1 ks (.ok xs)=.ok (.dict ((ks.map PyData.str).zip xs)):=rfl
theorem JOJ {k:Nat} {xs:List D}:rep1 k (.ok xs)=.ok (.list (List.replicate k xs).flatten):=rfl
theorem JOz {o:O1} {x:D}:fn11 o (.ok x)=op1D o x:=rfl
theorem JQV {k:XO} {xs:List D}:xop1 k (.ok xs)=xD k xs:=rfl
theorem k_rev {xs:List D}:xD .rev [.list xs]=.ok (.list xs.reverse):=rfl
theorem JPP {k:XO} {es:E} {j:Nat}:(E.xop k es).uses j=es.uses j:=rfl
theorem JLJ {b c:Bool}:JMU b (.ok (.bool c))=.ok (.bool (!(c==b))):=rfl
theorem JP3 {lo hi:Option Int} {xs:List D}:op1D (.slice lo hi) (.tuple xs)=.ok (.tuple (cutD xs lo hi)):=rfl
theorem JQo {lo hi:Option Int} {xs:List D}:op1D (.slice lo hi) (.list xs)=.ok (.list (cutD xs lo hi)):=rfl
theorem k_tt {xs:List D}:op1D .toTup (.tuple xs)=.ok (.tuple xs):=rfl
theorem k_tl {xs:List D}:op1D .toTup (.list xs)=.ok (.tuple xs):=rfl
theorem k_lt {xs:List D}:op1D .toLst (.tuple xs)=.ok (.list xs):=rfl
theorem k_ll {xs:List D}:op1D .toLst (.list xs)=.ok (.list xs):=rfl
theorem JHs {e:E} {δ:Env} {c:Nat}:JNQ e δ (.exc c)=.ex c:=rfl
theorem JPT {xs:List D}:lst1 (.ok xs)=.ok (.list xs):=rfl
theorem JQy {x y:D}:idx1 (.ok x) (.ok y)=idxD x y:=rfl
theorem JKk {C:Cn} {f:Nat} {xs:List D}:JI6 C f (.ok xs)=C.fn f xs:=rfl
theorem JPW {b:Blt} {xs:List D}:blt1 b (.ok xs)=bltD b xs:=rfl
theorem JP7 {C:Cn} {t:Ty} {x:D}:isi1 C t (.ok x)=isiD C.sub x t:=rfl
theorem JIh {x:List D} {y:D}:JLy (.ok (.list x)) (.ok y)=JDF (.list x) y:=rfl
theorem JHZ {x:List D} {y:D}:JLN (.ok (.list x)) (.ok y)=JEX (.list x) y:=rfl
theorem JQk {k:Str} {v:D} {x:List (D×D)} {y z:D}:get1 (.ok (.dict ((.str k,v)::x))) (.ok y) (.ok z)=JFa (.dict ((.str k,v)::x)) y z:=rfl
theorem JLE {x:D} {xs:List D}:JJG (.ok x) (.ok xs)=.ok (x::xs):=rfl
theorem JHq {C:Cn} {b:E} {δ:Env}:andT C b δ (.ok true)=evT C b δ:=rfl
theorem JHG {C:Cn} {b:E} {δ:Env}:andT C b δ (.ok false)=.ok false:=rfl
theorem JK9 {C:Cn} {b:E} {δ:Env}:orT C b δ (.ok true)=.ok true:=rfl
theorem JLf {C:Cn} {b:E} {δ:Env}:orT C b δ (.ok false)=evT C b δ:=rfl
theorem JPX {d:D}:its1 (.ok d)=JAg d:=rfl
theorem JOy {d:List D}:rng1 (.ok d)=rngD d:=rfl
theorem JOK {C:Cn} {r:S} {δ:Env}:seq1 C r (.nx δ)=exec C r δ:=rfl
theorem JKi {C:Cn} {r:S} {d:D}:seq1 C r (.rt d)=.rt d:=rfl
theorem JLk {C:Cn} {r:S} {c:Nat}:seq1 C r (.ex c)=.ex c:=rfl
theorem JLB {C:Cn} {r:S} {δ:Env}:seq1 C r (.bk δ)=.bk δ:=rfl
theorem JLA {C:Cn} {r:S} {δ:Env}:seq1 C r (.ct δ)=.ct δ:=rfl
theorem JKq {i:Nat} {e:E} {δ:Env} {c:Nat}:asg1 i e δ (.exc c)=.ex c:=rfl
theorem JOA {is:List Nat} {e:E} {δ:Env} {d:D}:unp1 is e δ (.ok d)=unp2 is (after e d δ) (JAj is.length d):=rfl
theorem JLo {is:List Nat} {δ:Env} {xs:List D}:unp2 is δ (.ok xs)=.nx (JBR is xs δ):=rfl
theorem JPb {d:D}:ret1 (.ok d)=.rt d:=rfl
theorem JLG {c:Nat}:ret1 (.exc c)=.ex c:=rfl
theorem JLI {C:Cn} {a b:S} {δ:Env}:ifs1 C a b δ (.ok true)=exec C a δ:=rfl
theorem JKf {C:Cn} {a b:S} {δ:Env}:ifs1 C a b δ (.ok false)=exec C b δ:=rfl
theorem JLt {C:Cn} {a b:S} {δ:Env} {c:Nat}:ifs1 C a b δ (.exc c)=.ex c:=rfl
theorem JOg {i:Nat} {e:E} {δ:Env} {x:D} {ds:List D}:app1 i e δ (.ok x) (some (.own (.list ds)))=JBN i ds e x δ:=rfl
theorem JPA {i:Nat} {e:E} {δ:Env} {x:D} {ds:List D}:ext1 i e δ (.ok x) (some (.own (.list ds)))=JBP i ds e x δ:=rfl
theorem JKd {e:E} {δ:Env} {x:D}:JNQ e δ (.ok x)=.nx (after e x δ):=rfl
theorem JNx {C:Cn} {i:Nat} {e:E} {b:S} {δ:Env} {xs:List D}:for1 C i e b δ (.ok xs)=for2 C i b xs (JAn e 0 δ):=rfl
theorem JKm {C:Cn} {i:Nat} {b:S} {ds:List D} {δ:Env}:forN C i b ds (.nx δ)=for2 C i b ds δ:=rfl
theorem JLY {C:Cn} {i:Nat} {b:S} {ds:List D} {δ:Env}:forN C i b ds (.ct δ)=for2 C i b ds δ:=rfl
theorem JLl {C:Cn} {i:Nat} {b:S} {ds:List D} {δ:Env}:forN C i b ds (.bk δ)=.nx δ:=rfl
theorem JLe {C:Cn} {i:Nat} {b:S} {ds:List D} {d:D}:forN C i b ds (.rt d)=.rt d:=rfl
theorem JLv {C:Cn} {i:Nat} {b:S} {ds:List D} {c:Nat}:forN C i b ds (.ex c)=.ex c:=rfl
theorem JLb {x:Bool} {δ:Env}:JIN x (.nx δ)=.ok .none:=rfl
theorem JLn {x:Bool} {d:D}:JIN x (.rt d)=.ok d:=rfl
theorem JKr {c:Nat}:JIN true (.ex c)=.exc c:=rfl
theorem JKj {C:Cn} {c i:Nat} {h:S} {δ δ':Env}:try1 C c i h δ (.nx δ')=.nx δ':=rfl
theorem JLF {C:Cn} {c i:Nat} {h:S} {δ:Env} {d:D}:try1 C c i h δ (.rt d)=.rt d:=rfl
theorem JLQ {C:Cn} {e:E} {δ:Env}:JGd C e δ (.ok true)=opt1 true (ev C e δ):=rfl
theorem JIr {C:Cn} {e:E} {δ:Env}:JGd C e δ (.ok false)=.ok none:=rfl
theorem JQt {b:Bool} {y:D}:opt1 b (.ok y)=.ok (some y):=rfl
theorem JI5 {C:Cn} {f c:Nat}:JI6 C f (.exc c)=.exc c:=rfl
theorem JH7 {c:Nat} {r:R (List D)}:JJG (.exc c) r=.exc c:=rfl
theorem JF3 {x:D} {c:Nat}:JJG (.ok x) (.exc c)=.exc c:=rfl
theorem JPS {xs:List D}:bltD .len [.list xs]=.ok (.int xs.length):=rfl
theorem JLi {xs:List D}:bltD .len [.tuple xs]=.ok (.int xs.length):=rfl
theorem JPn {i:Int}:bltD .abs [.int i]=.ok (.int (if i<0 then -i else i)):=rfl
theorem JQc {xs:List D}:bltD .min [.list xs]=minD xs:=rfl
theorem JDV {i j:Nat}:(E.var i).uses j=(i==j):=rfl
theorem JDM {j:Nat}:E.nil.uses j=false:=rfl
theorem JCd {a r:E} {j:Nat}:(E.cons a r).uses j=(a.uses j || r.uses j):=rfl
theorem JQZ {a:E} {j:Nat}:(E.lst a).uses j=a.uses j:=rfl
theorem JQH {a:E} {j:Nat}:(E.tup a).uses j=a.uses j:=rfl
theorem us_isi {a:E} {t:Ty} {j:Nat}:(E.isi a t).uses j=a.uses j:=rfl
theorem JCV {a:E} {f:Nat} {j:Nat}:(E.call f a).uses j=a.uses j:=rfl
theorem JLW {a:E} {f:Blt} {j:Nat}:(E.blt f a).uses j=a.uses j:=rfl
theorem JF2 {a b:E} {j:Nat}:(E.idx a b).uses j=(a.uses j || b.uses j):=rfl
theorem JIe {a b:E} {o:Operator} {j:Nat}:(E.bin o a b).uses j=(a.uses j || b.uses j):=rfl
theorem JFV {k:Nat} {a b c:E} {j:Nat}:(E.cmpr k a b c).uses j=(b.uses j || a.uses (j+(if k=0 then 1 else k)) || c.uses (j+(if k=0 then 1 else k))):=rfl
theorem JPa {o:O1} {a:E} {j:Nat}:(E.fn1 o a).uses j=a.uses j:=rfl
theorem us_isnB {a:E} {b:Bool} {j:Nat}:(E.isnB a b).uses j=a.uses j:=rfl
theorem JFr {i:Int} {j:Nat}:(E.cint i).uses j=false:=rfl
theorem us_bl {i:Bool} {j:Nat}:(E.cbl i).uses j=false:=rfl
theorem JQp {i:Str} {j:Nat}:(E.cstr i).uses j=false:=rfl
end VI.VP
end
local macro_rules | `(tactic| dsimp! [$ts,*])=>`(tactic| simp only [VI.VP.v_var,VI.VP.JPi,VI.VP.v_bl,VI.VP.JPr,VI.VP.JPy,VI.VP.JOn,VI.VP.JOm,VI.VP.JQP,VI.VP.v_not,VI.VP.v_and,VI.VP.v_or,VI.VP.JQN,VI.VP.JP4,VI.VP.JN1,VI.VP.JQQ,VI.VP.JPg,VI.VP.JN4,VI.VP.JOY,VI.VP.JKz,VI.VP.JOD,VI.VP.JOt,
 VI.VP.v_count,VI.VP.JHI,VI.VP.v_get,VI.VP.JLU,VI.VP.JOR,VI.VP.JOu,VI.VP.JPo,VI.VP.JN8,VI.VP.JN3,VI.VP.JQV,VI.VP.JLd,VI.VP.JGV,VI.VP.JQK,VI.VP.JO4,VI.VP.JOz,VI.VP.JLJ,VI.VP.JP3,VI.VP.JQo,VI.VP.k_tt,VI.VP.k_tl,VI.VP.k_lt,VI.VP.k_ll,VI.VP.JLH,VI.VP.JH3,VI.VP.JKE,VI.VP.JOH,VI.VP.t_or,VI.VP.JPu,VI.VP.t_bl,VI.VP.JOL,VI.VP.JJx,VI.VP.JJ2,VI.VP.JP2,VI.VP.JLh,VI.VP.JPl,VI.VP.JN2,VI.VP.JO7,VI.VP.JP6,VI.VP.JPI,VI.VP.l_idx,VI.VP.JK2,VI.VP.JPH,VI.VP.JNy,
 VI.VP.JN9,VI.VP.JLK,VI.VP.JKo,VI.VP.JP5,VI.VP.JQS,VI.VP.JPs,VI.VP.JQX,VI.VP.JPz,VI.VP.JLq,VI.VP.JQr,VI.VP.JOG,VI.VP.JQw,VI.VP.JKs,VI.VP.JK6,VI.VP.JOx,VI.VP.JLc,VI.VP.JLT,
 VI.VP.JIp,VI.VP.JKg,VI.VP.JQE,VI.VP.JPQ,VI.VP.JPU,VI.VP.JLV,VI.VP.JKu,VI.VP.JQq,VI.VP.JOh,VI.VP.JOP,VI.VP.JN6,VI.VP.JO3,VI.VP.JKy,VI.VP.JK7,VI.VP.JQF,VI.VP.JPT,VI.VP.JQy,VI.VP.JKk,VI.VP.JPW,VI.VP.JP7,VI.VP.JIh,VI.VP.JHZ,VI.VP.JQk,VI.VP.JLE,VI.VP.JHq,VI.VP.JHG,VI.VP.JK9,VI.VP.JLf,VI.VP.JPX,VI.VP.JOy,VI.VP.JOK,VI.VP.JKi,VI.VP.JLk,VI.VP.JLB,VI.VP.JLA,VI.VP.JKq,VI.VP.JOA,VI.VP.JLo,VI.VP.JPb,VI.VP.JLG,VI.VP.JLI,VI.VP.JKf,VI.VP.JLt,VI.VP.JOg,VI.VP.JPA,VI.VP.JKd,VI.VP.JNx,VI.VP.JKm,VI.VP.JLY,VI.VP.JLl,VI.VP.JLe,VI.VP.JLv,VI.VP.JLb,VI.VP.JLn,VI.VP.JKr,VI.VP.JKj,VI.VP.JLF,VI.VP.JLQ,VI.VP.JIr,VI.VP.JQt,VI.VP.JI5,VI.VP.JH7,VI.VP.JF3,VI.VP.JPS,VI.VP.JLi,VI.VP.JPn,VI.VP.JQc,VI.VP.JQM,VI.VP.JOJ,VI.VP.JHs,
 VI.VP.look_zero,VI.VP.look_succ,VI.VP.get_val,VI.VP.get_own,VI.VP.JEu,VI.VP.JEv,List.map_cons,List.map_nil,List.cons_append,List.nil_append,
 List.replicate_succ,List.replicate_zero,Nat.reduceSub,List.set_cons_zero,List.set_cons_succ,VI.E.fresh,VI.VP.JGZ,VI.VP.JCD,VI.VP.JDU,VI.VP.JB8,Bool.false_and,q_v,eq_self,if_true,if_false,VI.VP.i_ne,VI.VP.i_eq,VI.VP.i_lt,VI.VP.i_gt,VI.VP.i_le,VI.VP.i_ge,
 VI.VP.F_ne,VI.VP.F_eq,VI.VP.JLw,VI.VP.JK0,VI.VP.JOF,VI.VP.JOq,$ts,*])
section
namespace VI.VP
noncomputable def b_0:S:=(.cons (.asg 2 (.blt .abs (.cons (.var 0) .nil))) (.cons (.asg 3 (.blt .abs (.cons (.var 1) .nil))) (.cons (.whl (.cmp .NotEq (.var 3) (.cint 0)) (.cons (.asg 4 (.bin .Mod (.var 2) (.var 3))) (.cons (.asg 2 (.var 3)) (.cons (.asg 3 (.var 4)) .nil)))) (.cons (.ret (.var 2)) .nil))))
noncomputable def d_0:Fd:=⟨2,5,b_0⟩
noncomputable def b_1:S:=(.cons (.ife (.cmp .Eq (.var 1) (.cint 0)) (.cons (.rais 1) .nil) .nil) (.cons (.asg 2 (.call 0 (.cons (.var 0) (.cons (.var 1) .nil)))) (.cons (.ife (.cmp .Lt (.var 1) (.cint 0)) (.cons (.asg 2 (.neg (.var 2))) .nil) .nil) (.cons (.ret (.tup (.cons (.bin .FloorDiv (.var 0) (.var 2)) (.cons (.bin .FloorDiv (.var 1) (.var 2)) .nil)))) .nil))))
noncomputable def d_1:Fd:=⟨2,3,b_1⟩
noncomputable def b_2:S:=(.cons (.ret (.tup (.cons (.var 0) (.cons (.cint 1) .nil)))) .nil)
noncomputable def d_2:Fd:=⟨1,1,b_2⟩
noncomputable def b_3:S:=(.cons (.ret (.call 1 (.cons (.bin .Add (.bin .Mult (.idx (.var 0) (.cint 0)) (.idx (.var 1) (.cint 1))) (.bin .Mult (.idx (.var 1) (.cint 0)) (.idx (.var 0) (.cint 1)))) (.cons (.bin .Mult (.idx (.var 0) (.cint 1)) (.idx (.var 1) (.cint 1))) .nil)))) .nil)
noncomputable def d_3:Fd:=⟨2,2,b_3⟩
noncomputable def b_4:S:=(.cons (.ret (.call 1 (.cons (.bin .Sub (.bin .Mult (.idx (.var 0) (.cint 0)) (.idx (.var 1) (.cint 1))) (.bin .Mult (.idx (.var 1) (.cint 0)) (.idx (.var 0) (.cint 1)))) (.cons (.bin .Mult (.idx (.var 0) (.cint 1)) (.idx (.var 1) (.cint 1))) .nil)))) .nil)
noncomputable def d_4:Fd:=⟨2,2,b_4⟩
noncomputable def b_5:S:=(.cons (.ret (.call 1 (.cons (.bin .Mult (.idx (.var 0) (.cint 0)) (.idx (.var 1) (.cint 0))) (.cons (.bin .Mult (.idx (.var 0) (.cint 1)) (.idx (.var 1) (.cint 1))) .nil)))) .nil)
noncomputable def d_5:Fd:=⟨2,2,b_5⟩
noncomputable def b_6:S:=(.cons (.ret (.cmp .Lt (.bin .Mult (.idx (.var 0) (.cint 0)) (.idx (.var 1) (.cint 1))) (.bin .Mult (.idx (.var 1) (.cint 0)) (.idx (.var 0) (.cint 1))))) .nil)
noncomputable def d_6:Fd:=⟨2,2,b_6⟩
noncomputable def b_7:S:=(.cons (.asg 1 (.idx (.var 0) (.cint 0))) (.cons (.for1 2 (.var 0) (.cons (.ife (.call 6 (.cons (.var 2) (.cons (.var 1) .nil))) (.cons (.asg 1 (.var 2)) .nil) .nil) .nil)) (.cons (.ret (.var 1)) .nil)))
noncomputable def d_7:Fd:=⟨1,3,b_7⟩
noncomputable def b_8:S:=(.cons (.asg 1 (.idx (.var 0) (.cint 0))) (.cons (.for1 2 (.var 0) (.cons (.ife (.call 6 (.cons (.var 1) (.cons (.var 2) .nil))) (.cons (.asg 1 (.var 2)) .nil) .nil) .nil)) (.cons (.ret (.var 1)) .nil)))
noncomputable def d_8:Fd:=⟨1,3,b_8⟩
noncomputable def b_9:S:=(.cons (.ret (.bin .FloorDiv (.bin .Add (.bin .Mult (.cint 2) (.idx (.var 0) (.cint 0))) (.idx (.var 0) (.cint 1))) (.bin .Mult (.cint 2) (.idx (.var 0) (.cint 1))))) .nil)
noncomputable def d_9:Fd:=⟨1,1,b_9⟩
noncomputable def b_10:S:=(.cons (.ret (.call 3 (.cons (.var 0) (.cons (.call 5 (.cons (.var 2) (.cons (.call 4 (.cons (.var 1) (.cons (.var 0) .nil))) .nil))) .nil)))) .nil)
noncomputable def d_10:Fd:=⟨3,3,b_10⟩
noncomputable def b_11:S:=(.cons (.ife (.cmp .Lt (.var 1) (.blt .len (.cons (.var 0) .nil))) (.cons (.ret (.idx (.var 0) (.var 1))) .nil) .nil) (.cons (.ife (.cmp .Eq (.var 0) (.lst .nil)) (.cons (.ret (.cint 0)) .nil) .nil) (.cons (.ret (.bin .Add (.bin .Mult (.idx (.var 0) (.bin .Mod (.var 1) (.blt .len (.cons (.var 0) .nil)))) (.cint 31)) (.var 1))) .nil)))
noncomputable def d_11:Fd:=⟨2,2,b_11⟩
noncomputable def b_12:S:=(.cons (.asg 3 (.bin .Mod (.bin .Mult (.bin .Add (.call 11 (.cons (.var 0) (.cons (.var 1) .nil))) (.bin .Mult (.cint 6151) (.bin .Add (.var 1) (.cint 1)))) (.cint 40692)) (.cint 2147483399))) (.cons (.ret (.bin .Mod (.bin .Mod (.bin .Add (.bin .Mult (.var 3) (.var 3)) (.bin .FloorDiv (.var 3) (.cint 31))) (.cint 2147483629)) (.var 2))) .nil))
noncomputable def d_12:Fd:=⟨3,4,b_12⟩
noncomputable def b_13:S:=(.cons (.whl (.cmp .NotEq (.var 1) (.cint 0)) (.cons (.unp [0,1] (.tup (.cons (.var 1) (.cons (.bin .Mod (.var 0) (.var 1)) .nil)))) .nil)) (.cons (.ret (.blt .abs (.cons (.var 0) .nil))) .nil))
noncomputable def d_13:Fd:=⟨2,2,b_13⟩
noncomputable def b_14:S:=(.cons (.asg 2 (.bin .Mult (.call 13 (.cons (.var 0) (.cons (.var 1) .nil))) (.ife (.cmp .Gt (.var 1) (.cint 0)) (.cint 1) (.neg (.cint 1))))) (.cons (.ret (.tup (.cons (.bin .FloorDiv (.var 0) (.var 2)) (.cons (.bin .FloorDiv (.var 1) (.var 2)) .nil)))) .nil))
noncomputable def d_14:Fd:=⟨2,3,b_14⟩
noncomputable def b_15:S:=(.cons (.asg 2 (.bin .Add (.cint 1) (.call 12 (.cons (.var 0) (.cons (.var 1) (.cons (.cint 4) .nil)))))) (.cons (.ret (.call 14 (.cons (.bin .Sub (.call 12 (.cons (.var 0) (.cons (.bin .Add (.var 1) (.cint 1)) (.cons (.bin .Add (.bin .Mult (.cint 12) (.var 2)) (.cint 1)) .nil)))) (.bin .Mult (.cint 6) (.var 2))) (.cons (.var 2) .nil)))) .nil))
noncomputable def d_15:Fd:=⟨2,3,b_15⟩
noncomputable def b_16:S:=(.cons (.asg 2 (.bin .Add (.cint 1) (.call 12 (.cons (.var 0) (.cons (.var 1) (.cons (.cint 3) .nil)))))) (.cons (.ret (.call 14 (.cons (.bin .Add (.cint 1) (.call 12 (.cons (.var 0) (.cons (.bin .Add (.var 1) (.cint 1)) (.cons (.bin .Mult (.cint 6) (.var 2)) .nil))))) (.cons (.var 2) .nil)))) .nil))
noncomputable def d_16:Fd:=⟨2,3,b_16⟩
noncomputable def b_17:S:=(.cons (.ret (.call 14 (.cons (.bin .Add (.bin .Mult (.idx (.var 0) (.cint 0)) (.idx (.var 1) (.cint 1))) (.bin .Mult (.idx (.var 1) (.cint 0)) (.idx (.var 0) (.cint 1)))) (.cons (.bin .Mult (.idx (.var 0) (.cint 1)) (.idx (.var 1) (.cint 1))) .nil)))) .nil)
noncomputable def d_17:Fd:=⟨2,2,b_17⟩
noncomputable def b_18:S:=(.cons (.ret (.call 14 (.cons (.bin .Sub (.bin .Mult (.idx (.var 0) (.cint 0)) (.idx (.var 1) (.cint 1))) (.bin .Mult (.idx (.var 1) (.cint 0)) (.idx (.var 0) (.cint 1)))) (.cons (.bin .Mult (.idx (.var 0) (.cint 1)) (.idx (.var 1) (.cint 1))) .nil)))) .nil)
noncomputable def d_18:Fd:=⟨2,2,b_18⟩
noncomputable def b_19:S:=(.cons (.ret (.call 14 (.cons (.bin .Mult (.idx (.var 0) (.cint 0)) (.idx (.var 1) (.cint 0))) (.cons (.bin .Mult (.idx (.var 0) (.cint 1)) (.idx (.var 1) (.cint 1))) .nil)))) .nil)
noncomputable def d_19:Fd:=⟨2,2,b_19⟩
noncomputable def b_20:S:=(.cons (.ret (.call 14 (.cons (.bin .Mult (.idx (.var 0) (.cint 0)) (.idx (.var 1) (.cint 1))) (.cons (.bin .Mult (.idx (.var 0) (.cint 1)) (.idx (.var 1) (.cint 0))) .nil)))) .nil)
noncomputable def d_20:Fd:=⟨2,2,b_20⟩
noncomputable def b_21:S:=(.cons (.ret (.cmp .Lt (.bin .Mult (.idx (.var 0) (.cint 0)) (.idx (.var 1) (.cint 1))) (.bin .Mult (.idx (.var 1) (.cint 0)) (.idx (.var 0) (.cint 1))))) .nil)
noncomputable def d_21:Fd:=⟨2,2,b_21⟩
end VI.VP
end
section
namespace VI.VP
open PySem Fr
structure TabF (tab:Nat->Option Fd):Prop where
 h0:tab 0=some d_0
 h1:tab 1=some d_1
 h2:tab 2=some d_2
 h3:tab 3=some d_3
 h4:tab 4=some d_4
 h5:tab 5=some d_5
 h6:tab 6=some d_6
section
variable {x:Bool} {tab:Nat->Option Fd} {glo:Nat->R D} {sub:Nat->Nat->Bool} {n:Nat}
theorem JJi {C:Cn} (one other:D):∀(m:Nat) (a b:Int) (z:Sl),z.isOwn=false->0<=a->0<=b->b.natAbs=m->∃z',whl1 C (.cmp .NotEq (.var 3) (.cint 0)) (.cons (.asg 4 (.bin .Mod (.var 2) (.var 3))) (.cons (.asg 2 (.var 3)) (.cons (.asg 3 (.var 4)) .nil)))
  [.val one,.val other,.val (.int a),.val (.int b),z]=.nx [.val one,.val other,.val (.int (a.gcd b)),.val (.int 0),z']:=by
 intro m
 induction m using Nat.strongRecOn with
 | ind m ih =>
  intro a b z hz ha hb hm
  by_cases h0:b=0
  ·subst h0
   refine ⟨z,?_⟩
   have e:((a.gcd 0:Nat):Int)=a:=by simp;omega
   rw [e]
   exact JDE (by dsimp! [];simp)
  ·have hf:=JIl a b h0
   obtain ⟨z',h⟩:=ih (a.fmod b).natAbs (by omega) b (a.fmod b) (.val (.int (a.fmod b))) rfl hb (Int.fmod_nonneg_of_pos a (by omega)) rfl
   refine ⟨z',?_⟩
   rw [JGa] at h
   rw [<-h]
   refine JCs (by dsimp! [];simp [h0]) ?_
   cases z with
   | own d=>cases hz
   | no=>dsimp! [JFj h0]
   | val d=>dsimp! [JFj h0]
theorem JMH (a b:Int):((if a<0 then -a else a).gcd (if b<0 then -b else b))=a.gcd b:=by
 split<;>split<;>simp
theorem JKL (T:TabF tab) (a b:Int):run x tab glo sub (n+1) 0 [.int a,.int b]=.ok (.int (a.gcd b)):=by
 rw [JAB T.h0,JAA rfl]
 obtain ⟨z',h⟩:=JJi (C:=⟨run x tab glo sub n,glo,sub⟩) (.int a) (.int b) _ (if a<0 then -a else a) (if b<0 then -b else b) .no rfl (by split<;>omega) (by split<;>omega) rfl
 rw [JMH] at h
 dsimp! [d_0,b_0,h]
theorem JHl (T:TabF tab) (a b:Int) (hb:b≠0) (lb:L b):run x tab glo sub (n+2) 1 [.int a,.int b]=.ok (F (Rat.divInt a b)):=by
 rw [JAB T.h1,JAA rfl]
 have hg:a.gcd b≠0:=by
  intro z
  exact hb (Int.gcd_eq_zero_iff.mp z).2
 have lg:(a.gcd b)<=b.natAbs:=Int.gcd_le_natAbs_right _ hb
 unfold L at lb
 have q1:=JCq a b hb
 have q2:=JDz a b hb
 by_cases h:b<0
 ·rw [if_pos h] at q1 q2
  dsimp! [d_1,b_1,JKL T,hb,h,decide_true,decide_false,JHg (j:=-((a.gcd b:Nat):Int)) (by omega) (by unfold L;omega),q1,q2,F]
 ·rw [if_neg h] at q1 q2
  dsimp! [d_1,b_1,JKL T,hb,h,decide_true,decide_false,JHg (j:=((a.gcd b:Nat):Int)) (by omega) (by unfold L;omega),q1,q2,F]
theorem JNe (T:TabF tab) {p q:Rat} (hp:Q p) (hq:Q q):run x tab glo sub (n+3) 3 [F p,F q]=.ok (F (p+q)):=by
 rw [JAB T.h3,JAA rfl]
 dsimp! [d_3,b_3,JBn (hp.Ln (by omega)) (hq.Ld (by omega)),JBn (hq.Ln (by omega)) (hp.Ld (by omega)),JBn (hp.Ld (by omega)) (hq.Ld (by omega)),
  JHl T _ _ (Int.mul_ne_zero (JAo p) (JAo q)) (L.of (JBT hp.d hq.d) (by omega)),JHB]
theorem JJ6 (T:TabF tab) {p q:Rat} (hp:Q p) (hq:Q q):run x tab glo sub (n+3) 5 [F p,F q]=.ok (F (p*q)):=by
 rw [JAB T.h5,JAA rfl]
 dsimp! [d_5,b_5,JBn (hp.Ln (by omega)) (hq.Ln (by omega)),JBn (hp.Ld (by omega)) (hq.Ld (by omega)),
  JHl T _ _ (Int.mul_ne_zero (JAo p) (JAo q)) (L.of (JBT hp.d hq.d) (by omega)),JIi]
theorem lt_iff (p q:Rat):p.num*q.den<q.num*p.den↔p<q:=(Rat.lt_iff p q).symm
theorem JMm (T:TabF tab) {p q:Rat} (hp:Q p) (hq:Q q):run x tab glo sub (n+1) 6 [F p,F q]=.ok (.bool (decide (p<q))):=by
 rw [JAB T.h6,JAA rfl]
 dsimp! [d_6,b_6,JBn (hp.Ln (by omega)) (hq.Ld (by omega)),JBn (hq.Ln (by omega)) (hp.Ld (by omega)),lt_iff]
structure TabL (tab:Nat->Option Fd):Prop where
 h11:tab 11=some d_11
 h12:tab 12=some d_12
 h13:tab 13=some d_13
 h14:tab 14=some d_14
 h15:tab 15=some d_15
 h16:tab 16=some d_16
 h17:tab 17=some d_17
 h18:tab 18=some d_18
 h19:tab 19=some d_19
 h20:tab 20=some d_20
 h21:tab 21=some d_21
theorem JKK {C:Cn}:∀(m:Nat) (a b:Int),b.natAbs=m->∃g:Int,g.natAbs=a.gcd b/\whl1 C (.cmp .NotEq (.var 1) (.cint 0)) (.cons (.unp [0,1] (.tup (.cons (.var 1) (.cons (.bin .Mod (.var 0) (.var 1)) .nil)))) .nil) [.val (.int a),.val (.int b)]=.nx [.val (.int g),.val (.int 0)]:=by
 intro m
 induction m using Nat.strongRecOn with
 | ind m ih =>
  intro a b hm
  by_cases h0:b=0
  ·subst h0
   exact ⟨a,by simp,JDE (by dsimp! [];simp)⟩
  ·have hf:=JIl a b h0
   obtain ⟨g,h1,h2⟩:=ih (a.fmod b).natAbs (by omega) b (a.fmod b) rfl
   refine ⟨g,by rw [h1,JGa],?_⟩
   rw [<-h2]
   refine JCs (by dsimp! [];simp [h0]) ?_
   dsimp! [JFj h0,JAj,JBR,List.length_cons,List.length_nil]
theorem JDa (T:TabL tab) (a b:Int):run x tab glo sub (n+1) 13 [.int a,.int b]=.ok (.int (a.gcd b)):=by
 rw [JAB T.h13,JAA rfl]
 obtain ⟨g,h1,h2⟩:=JKK (C:=⟨run x tab glo sub n,glo,sub⟩) _ a b rfl
 dsimp! [d_13,b_13,h2]
 congr 2
 split<;>omega
theorem JCY (T:TabL tab) (a b:Int) (hb:b≠0) (lb:L b):run x tab glo sub (n+2) 14 [.int a,.int b]=.ok (F (Rat.divInt a b)):=by
 rw [JAB T.h14,JAA rfl]
 have hg:a.gcd b≠0:=by
  intro z
  exact hb (Int.gcd_eq_zero_iff.mp z).2
 have lg:(a.gcd b)<=b.natAbs:=Int.gcd_le_natAbs_right _ hb
 unfold L at lb
 have q1:=JCq a b hb
 have q2:=JDz a b hb
 by_cases h:b<0
 ·rw [if_pos h] at q1 q2
  have h':¬0<b:=by omega
  dsimp! [d_14,b_14,JDa T,h',decide_true,decide_false,JFx (i:=((a.gcd b:Nat):Int)) (j:=-1) (by decide),Int.mul_neg_one,JHg (j:=-((a.gcd b:Nat):Int)) (by omega) (by unfold L;omega),q1,q2,F]
 ·rw [if_neg h] at q1 q2
  have h':0<b:=by omega
  dsimp! [d_14,b_14,JDa T,h',decide_true,decide_false,JFx (i:=((a.gcd b:Nat):Int)) (j:=1) (by decide),Int.mul_one,JHg (j:=((a.gcd b:Nat):Int)) (by omega) (by unfold L;omega),q1,q2,F]
theorem JJc (T:TabL tab) {p q:Rat} (hp:Q p) (hq:Q q):run x tab glo sub (n+3) 17 [F p,F q]=.ok (F (p+q)):=by
 rw [JAB T.h17,JAA rfl]
 dsimp! [d_17,b_17,JBn (hp.Ln (by omega)) (hq.Ld (by omega)),JBn (hq.Ln (by omega)) (hp.Ld (by omega)),JBn (hp.Ld (by omega)) (hq.Ld (by omega)),
  JCY T _ _ (Int.mul_ne_zero (JAo p) (JAo q)) (L.of (JBT hp.d hq.d) (by omega)),JHB]
theorem JHt (T:TabL tab) {p q:Rat} (hp:Q p) (hq:Q q):run x tab glo sub (n+3) 18 [F p,F q]=.ok (F (p - q)):=by
 rw [JAB T.h18,JAA rfl]
 dsimp! [d_18,b_18,JBn (hp.Ln (by omega)) (hq.Ld (by omega)),JBn (hq.Ln (by omega)) (hp.Ld (by omega)),JBn (hp.Ld (by omega)) (hq.Ld (by omega)),
  JCY T _ _ (Int.mul_ne_zero (JAo p) (JAo q)) (L.of (JBT hp.d hq.d) (by omega)),JLz]
theorem JIH (T:TabL tab) {p q:Rat} (hp:Q p) (hq:Q q):run x tab glo sub (n+3) 19 [F p,F q]=.ok (F (p*q)):=by
 rw [JAB T.h19,JAA rfl]
 dsimp! [d_19,b_19,JBn (hp.Ln (by omega)) (hq.Ln (by omega)),JBn (hp.Ld (by omega)) (hq.Ld (by omega)),
  JCY T _ _ (Int.mul_ne_zero (JAo p) (JAo q)) (L.of (JBT hp.d hq.d) (by omega)),JIi]
theorem JKJ (T:TabL tab) {p q:Rat} (hp:Q p) (hq:Q q):run x tab glo sub (n+1) 21 [F p,F q]=.ok (.bool (decide (p<q))):=by
 rw [JAB T.h21,JAA rfl]
 dsimp! [d_21,b_21,JBn (hp.Ln (by omega)) (hq.Ld (by omega)),JBn (hq.Ln (by omega)) (hp.Ld (by omega)),lt_iff]
abbrev sc (ns:List Int):D:=.list (ns.map fun i=>.int i)
theorem JEe (ns:List Int):shaped (sc ns)=true:=by
 have h1:∀ns:List Int,PyData.canLayAll0 (ns.map fun i=>PyData.int i)=true:=fun ns=>by
  induction ns with
  | nil=>rfl
  | cons a r ih=>simp only [List.map_cons,PyData.canLayAll0,PyData.canLay0,ih,Bool.and_self]
 have h2:∀ns:List Int,PyData.depthAll (ns.map fun i=>PyData.int i)=0:=fun ns=>by
  induction ns with
  | nil=>rfl
  | cons a r ih=>simp only [List.map_cons,PyData.depthAll,PyData.depth,ih];rfl
 simp only [shaped,PyData.canLay0,h1,PyData.depth,h2]
 decide
theorem JEo (ns:List Int):cmpD .Eq (sc ns) (.list [])=.ok (.bool ns.isEmpty):=by
 have:shaped (.list [])=true:=JEe []
 simp only [cmpD,JEe,this,Bool.and_self,if_true]
 cases ns<;>simp [PyData.eqv,PyData.eqvAll]
theorem JKp (ns:List Int) (k:Int) (h0:0<=k) (h1:k<ns.length):∃i,idxD (sc ns) (.int k)=.ok (.int i):=by
 refine ⟨ns[k.toNat]'(by omega),?_⟩
 simp only [sc,idxD,atI,ixN,q_g,if_pos h0,if_pos h1,Option.bind_some]
 rw [List.getElem?_map,q_q (by omega)]
 rfl
theorem JMC (T:TabL tab) (ns:List Int) (k:Int) (hk:0<=k):∃i,run x tab glo sub (n+1) 11 [sc ns,.int k]=.ok (.int i):=by
 rw [JAB T.h11,JAA rfl]
 by_cases h:k<ns.length
 ·obtain ⟨i,hi⟩:=JKp ns k hk h
  refine ⟨i,?_⟩
  dsimp! [d_11,b_11,q_g,h,decide_true,hi]
 ·have hd:decide (k<(ns.length:Int))=false:=q_o h
  by_cases hn:ns=[]
  ·refine ⟨0,?_⟩
   have e:cmpD .Eq (sc ns) (.list [])=.ok (.bool true):=by rw [JEo,hn];rfl
   dsimp! [d_11,b_11,q_g,hd,e]
  ·have hl:0<(ns.length:Int):=by
    have:=List.length_pos_iff.mpr hn
    omega
   obtain ⟨i,hi⟩:=JKp ns (k.fmod ns.length) (Int.fmod_nonneg_of_pos k hl) (Int.fmod_lt_of_pos k hl)
   refine ⟨i*31+k,?_⟩
   have e:cmpD .Eq (sc ns) (.list [])=.ok (.bool false):=by rw [JEo];cases ns<;>simp at hn ⊢
   dsimp! [d_11,b_11,q_g,hd,e,JFj (i:=k) (j:=(ns.length:Int)) (by omega),hi,JFx (i:=i) (j:=31) (by decide)]
theorem JCc (T:TabL tab) (ns:List Int) (k m:Int) (hk:0<=k) (hk2:k<2000000) (hm:0<m):∃i,0<=i/\i<m/\run x tab glo sub (n+2) 12 [sc ns,.int k,.int m]=.ok (.int i):=by
 rw [JAB T.h12,JAA rfl]
 obtain ⟨c,hc⟩:=JMC (x:=x) (glo:=glo) (sub:=sub) (n:=n) T ns k hk
 obtain ⟨d,hd⟩:∃d,d=((c+6151*(k+1))*40692).fmod 2147483399:=⟨_,rfl⟩
 have hd0:0<=d:=by rw [hd];exact Int.fmod_nonneg_of_pos _ (by decide)
 have hd1:d<2147483399:=by rw [hd];exact Int.fmod_lt_of_pos _ (by decide)
 have hm1:binD .Mod (.int ((c+6151*(k+1))*40692)) (.int 2147483399)=.ok (.int d):=by rw [JFj (by decide),hd]
 refine ⟨((d*d+d.fdiv 31).fmod 2147483629).fmod m,Int.fmod_nonneg_of_pos _ hm,Int.fmod_lt_of_pos _ hm,?_⟩
 dsimp! [d_12,b_12,hc,JDX (i:=6151) (j:=k+1) (by decide),JFx (i:=c+6151*(k+1)) (j:=40692) (by decide),hm1,JDX (i:=d) (j:=d) (by omega),JHg (i:=d) (j:=31) (by decide) (L.of (k:=10) (by decide) (by omega)),
  JFj (j:=2147483629) (by decide),JFj (j:=m) (show m≠0 by omega)]
structure Small (q:Rat):Prop where
 n:q.num.natAbs<=24
 d:q.den<=4
 w:q.num.natAbs<=6*q.den
theorem Small.sz {q:Rat} (h:Small q):Sz 5 q:=⟨by have:=h.n;omega,by have:=h.d;omega⟩
theorem Small.Q {q:Rat} (h:Small q):Q q:=h.sz.mono (by omega)
theorem JCe (a b:Int) (hb:0<b):∃g:Int,0<g/\a=(Rat.divInt a b).num*g/\b=((Rat.divInt a b).den:Int)*g:=by
 have hg:a.gcd b≠0:=by
  intro z
  have:=(Int.gcd_eq_zero_iff.mp z).2
  omega
 have q1:=JCq a b (by omega)
 have q2:=JDz a b (by omega)
 rw [if_neg (by omega)] at q1 q2
 refine ⟨((a.gcd b:Nat):Int),by omega,?_,?_⟩
 ·rw [<-q1,JBW (Int.gcd_dvd_left ..),Int.ediv_mul_cancel (Int.gcd_dvd_left ..)]
 ·rw [<-q2,JBW (Int.gcd_dvd_right ..),Int.ediv_mul_cancel (Int.gcd_dvd_right ..)]
theorem JEW (a b m:Int) (hb:0<b) (h1:-(m*b)<=a) (h2:a<=m*b):-(m*(Rat.divInt a b).den)<=(Rat.divInt a b).num/\(Rat.divInt a b).num<=m*(Rat.divInt a b).den:=by
 obtain ⟨g,hg,e1,e2⟩:=JCe a b hb
 generalize (Rat.divInt a b).num=u at *
 generalize ((Rat.divInt a b).den:Int)=d at *
 subst e1;subst e2
 rw [<-Int.mul_assoc] at h1 h2
 constructor
 ·rw [<-Int.neg_mul] at h1
  exact Int.le_of_mul_le_mul_right h1 hg
 ·exact Int.le_of_mul_le_mul_right h2 hg
theorem JJr (T:TabL tab) (ns:List Int) (k:Int) (hk:0<=k) (hk2:k<1000000):∃q,Small q/\run x tab glo sub (n+3) 15 [sc ns,.int k]=.ok (F q):=by
 rw [JAB T.h15,JAA rfl]
 obtain ⟨i,i0,i1,hi⟩:=JCc (x:=x) (glo:=glo) (sub:=sub) (n:=n) T ns k 4 hk (by omega) (by decide)
 obtain ⟨j,j0,j1,hj⟩:=JCc (x:=x) (glo:=glo) (sub:=sub) (n:=n) T ns (k+1) (12*(1+i)+1) (by omega) (by omega) (by omega)
 refine ⟨Rat.divInt (j - 6*(1+i)) (1+i),?_,?_⟩
 ·have h1:=JEW (j - 6*(1+i)) (1+i) 6 (by omega) (by omega) (by omega)
  have h2:=JIC (j - 6*(1+i)) (1+i) (by omega)
  have h3:=JGG (j - 6*(1+i)) (1+i) (by omega)
  exact ⟨by omega,by omega,by omega⟩
 ·dsimp! [d_15,b_15,hi,JDX (i:=12) (j:=1+i) (by decide),JDX (i:=6) (j:=1+i) (by decide),hj,JCY T (j - 6*(1+i)) (1+i) (by omega) (L.of (k:=10) (by omega) (by omega))]
theorem JIu (T:TabL tab) (ns:List Int) (k:Int) (hk:0<=k) (hk2:k<1000000):∃q,Small q/\0<q/\q.den<=3/\run x tab glo sub (n+3) 16 [sc ns,.int k]=.ok (F q):=by
 rw [JAB T.h16,JAA rfl]
 obtain ⟨i,i0,i1,hi⟩:=JCc (x:=x) (glo:=glo) (sub:=sub) (n:=n) T ns k 3 hk (by omega) (by decide)
 obtain ⟨j,j0,j1,hj⟩:=JCc (x:=x) (glo:=glo) (sub:=sub) (n:=n) T ns (k+1) (6*(1+i)) (by omega) (by omega) (by omega)
 refine ⟨Rat.divInt (1+j) (1+i),?_,?_,by have h3:=JGG (1+j) (1+i) (by omega);omega,?_⟩
 ·have h1:=JEW (1+j) (1+i) 6 (by omega) (by omega) (by omega)
  have h2:=JIC (1+j) (1+i) (by omega)
  have h3:=JGG (1+j) (1+i) (by omega)
  exact ⟨by omega,by omega,by omega⟩
 ·rw [Rat.lt_iff]
  obtain ⟨g,hg,e1,e2⟩:=JCe (1+j) (1+i) (by omega)
  have h:0<(Rat.divInt (1+j) (1+i)).num*g:=by omega
  have h2:=Int.pos_of_mul_pos_left h hg
  simpa using h2
 ·dsimp! [d_16,b_16,hi,JDX (i:=6) (j:=1+i) (by decide),hj,JCY T (1+j) (1+i) (by omega) (L.of (k:=10) (by omega) (by omega))]
theorem JJI (T:TabL tab) (ns:List Int) (k:Int) (hk:0<=k) (hk2:k<1000000):∃q,Small q/\0<q/\run x tab glo sub (n+3) 16 [sc ns,.int k]=.ok (F q):=by
 obtain ⟨q,h1,h2,_,h⟩:=JIu (x:=x) (glo:=glo) (sub:=sub) (n:=n) T ns k hk hk2
 exact ⟨q,h1,h2,h⟩
end
end VI.VP
end
section
namespace VI
open PySem PySem.Spec PyProof.Rows L2
section
variable {prog:Program} {w:World} {A:Around} {E:Value->Shared->Prop} {s:Shared}
end
section
variable {X:Cx} {pins:List (Addr×Obj)} {σ:St} {H:Hp} {s:Shared} {h':Heap}
end
section
variable {X:Cx} {B:Bs} {C:Cn} {CX:CXT} {XX:Nat->Hp->Prop} {G:List (Str×GK)}
theorem JN5 (ds:List D):(∃ys,ds=[.list ys])\/(xD .rev ds=.bad/\xD .srt ds=.bad/\xD .sst ds=.bad) :=
 match ds with
 | [.list ys]=>.inl ⟨ys,rfl⟩
 | []=>.inr ⟨rfl,rfl,rfl⟩
 | [.none]=>.inr ⟨rfl,rfl,rfl⟩
 | [.bool _]=>.inr ⟨rfl,rfl,rfl⟩
 | [.int _]=>.inr ⟨rfl,rfl,rfl⟩
 | [.str _]=>.inr ⟨rfl,rfl,rfl⟩
 | [.tuple _]=>.inr ⟨rfl,rfl,rfl⟩
 | [.dict _]=>.inr ⟨rfl,rfl,rfl⟩
 | d1::d2::r=>.inr (by cases d1<;>exact ⟨rfl,rfl,rfl⟩)
theorem forget {pins:List (Addr×Obj)} {σ:St} {H1:Hp} {s:Shared} {p:Addr} {φ:Heap->Prop} (I:Inv X pins σ (upd H1 p (.ext φ)) s) (h1:H1 p=none) (hs:X.s₀.heap.objs.size<=p):Inv X pins σ H1 s/\FpOk X pins H1 p:=by
 have hp:upd H1 p (.ext φ) p=some (.ext φ):=JAH
 have no:∀b,upd H1 p (.ext φ) b=none->b≠p:=fun b e z=>by rw [z,hp] at e;cases e
 have f:FpOk X pins H1 p:=by
  refine ⟨h1,fun z=>no _ I.free z.symm,fun hb=>?_,.inr hs,fun x c e=>no _ (I.freeC x c e),fun q hq=>no _ (I.pin q hq).2.1⟩
  obtain ⟨_,o,ho,_⟩:=I.ok.funs.mem hb
  exact absurd (q_m (q_h ho) hs) (Nat.lt_irrefl _)
 have dn:∀b u,upd H1 p (.ext φ) b=some u->u≠.ext φ->H1 b=some u:=fun b u e ne=>by
  by_cases hb:b=p
  · rw [hb,hp] at e;cases e;exact absurd rfl ne
  · rw [JAG hb] at e;exact e
 refine ⟨?_,f⟩
 refine I.step (g':=s.gens) (d':=s.drawn) (t':=s.toks) (h':=s.heap) (ch:=[]) (fun _ z=>nomatch z) (fun b u _ _ _ e _=>e) (fun b u _ _ _ e _=>⟨u.slots,e⟩)
  (fun b u _ e n=>by rw [JAG (no b n)] at n;exact n) (fun b u _ e=>⟨u,e⟩) (fun b xs e=>dn b _ e (by simp)) (fun b u v e=>dn b _ e (by simp)) (fun b ps e=>⟨#[],by rw [dn b _ e (by simp)];simp⟩) (fun m hm=>hm) (fun b u e=>?_) I.bare
 have hb:b≠p:=fun z=>by rw [z,h1] at e;cases e
 exact (I.hok b u (by rw [JAG hb];exact e)).stay (fun c v _ q=>q) (fun c q=>dn c _ q (by simp)) fun c xs q=>dn c _ q (by simp)
theorem JCr {names:List (Str×NameKind)} {f:Str} {a:Expr} {k:XO} {args:List Expr} (h:JFE G names f a=some (k,args)):k=.srt/\args=[a]/\f="sorted"/\glob G names f=some .nam \/
  k=.sst/\f="sorted"/\glob G names f=some .nam/\∃b r p pos,args=[b]/\a=.Call (.Name r p) [b] [] pos/\r="set"/\glob G names r=some .nam:=by
 unfold JFE at h
 split at h
 ·rename_i hf
  split at h
  ·rename_i r p b pos
   split at h
   ·rename_i hr
    cases h
    exact .inr ⟨rfl,hf.1,hf.2,b,r,p,pos,rfl,rfl,hr.1,hr.2⟩
   ·cases h;exact .inl ⟨rfl,rfl,hf.1,hf.2⟩
  ·cases h;exact .inl ⟨rfl,rfl,hf.1,hf.2⟩
 ·cases h
theorem JJh {names:List (Str×NameKind)} {f:Str} {a:Expr} {k:XO} {args:List Expr} (h:JFE G names f a=some (k,args)) (h1:k≠.srt) (h2:k≠.sst):False:=by
 rcases JCr h with ⟨z,_⟩ | ⟨z,_⟩
 ·exact h1 z
 ·exact h2 z
theorem JEQ {names:List (Str×NameKind)} {f:Str} {a:Expr} {k:XO} {args:List Expr} (h:JC5 G names false f a=some (k,args)):k=.rev\/k=.srt/\args=[a]/\f="sorted"/\glob G names f=some .nam \/
  k=.sst/\f="sorted"/\glob G names f=some .nam/\∃b r p pos,args=[b]/\a=.Call (.Name r p) [b] [] pos/\r="set"/\glob G names r=some .nam:=by
 unfold JC5 at h
 rw [if_neg (by decide)] at h
 split at h
 ·split at h
  ·split at h
   ·cases h;exact .inl rfl
   ·cases h
  ·cases h
 ·exact .inr (JCr h)
theorem JGC {names:List (Str×NameKind)} {f:Str} {a:Expr} {k:XO} {args:List Expr} (h:JC5 G names true f a=some (k,args)):(k=.rev/\args=[a]/\f="reversed"/\glob G names f=some .nam)\/JFE G names f a=some (k,args):=by
 unfold JC5 at h
 rw [if_pos rfl] at h
 split at h
 ·rename_i hf
  cases h
  exact .inl ⟨rfl,rfl,hf.1,hf.2⟩
 ·exact .inr h
theorem JHT {names:List (Str×NameKind)} {f:Str} {a:Expr} {p pos:Pos} {k:XO} {args:List Expr} (h:JFE G names f a=some (k,args)):xRaw G names false (.Call (.Name f p) [a] [] pos)=some (k,args):=by
 have hf:f="sorted":=by
  rcases JCr h with ⟨_,_,z,_⟩ | ⟨_,z,_⟩<;>exact z
 show JC5 G names false f a=_
 unfold JC5
 rw [if_neg (by decide),if_neg (by rw [hf];intro z;exact absurd z.1 (by decide))]
 exact h
end
end VI
end
section
namespace VI
open PySem PySem.Spec PyProof.Rows L2
open AutoSeq1 (wpAny_loadPart')
section
variable {prog:Program} {w:World} {A:Around} {E:Value->Shared->Prop} {s:Shared}
end
section
variable {prog:Program} {w:World} {A:Around} {E:Value->Shared->Prop} {s:Shared}
end
end VI
end
section
namespace VI
open PySem PySem.Spec PyProof.Rows L2
section
variable {X:Cx} {pins:List (Addr×Obj)} {σ:St} {H:Hp} {s:Shared} {h':Heap}
theorem JER {t':Nat} {fp:List Addr} {a:Addr} {o:HO} (I:Inv X pins σ H s) (k:∀b u,b ∉ fp->s.heap.get? b=some u->h'.get? b=some u) (f:∀b∈fp,FpOk X pins H b) (hp:s.heap.objs.size<=a) (new:ObjOk X.prog X.w (upd H a o) h' a o) :
  Inv X pins σ (upd H a o) { s with heap:=h',toks:=t' }:=by
 have ha:=I.hok.fresh hp
 have nit:∀b u,H b=some u->b ∉ fp:=fun b u e z=>by rw [(f b z).1] at e;cases e
 have na:∀b u,s.heap.get? b=some u->b≠a:=fun b u e=>q_l (q_m (q_h e) hp)
 have kp:∀b u,H b=some u->upd H a o b=some u:=fun b u e=>by rw [JAG (JAW e ha)];exact e
 refine I.step (g':=s.gens) (d':=s.drawn) (ch:=fp) (fun b hb=>?_) (fun b u _ _ hc e _=>k b u hc e) (fun b u _ _ hc e _=>⟨u.slots,k b u hc e⟩)
  (fun b u _ e n=>by rw [JAG (na b u e)];exact n) (fun b u hc e=>⟨u,k b u hc e⟩) (fun b xs e=>kp b _ e) (fun b u v e=>kp b _ e) (fun b ps e=>⟨#[],by rw [kp b _ e];simp⟩) (fun m hm=>?_) (fun b u e=>?_) I.bare
 ·obtain ⟨_,hL,hfs,h1,h2,h3⟩:=f b hb
  exact ⟨h1,hL,h2,h3⟩
 ·obtain ⟨ob,es,ep,ho,r⟩:=hm
  exact ⟨ob,es,ep,k _ ob (fun z=>(f _ z).2.1 rfl) ho,r⟩
 ·by_cases hb:b=a
  · subst hb;rw [JAH] at e;cases e;exact new
  · rw [JAG hb] at e
    refine (I.hok b u e).stay (fun c v hc q=>k c v ?_ q) (fun c q=>kp c _ q) fun c xs q=>kp c _ q
    rcases hc with z | z
    ·rw [z];exact nit b u e
    ·exact nit c _ z
end
section
variable {X:Cx} {B:Bs} {C:Cn} {CX:CXT} {XX:Nat->Hp->Prop} {G:List (Str×GK)}
end
end VI
end
section
namespace VI
open PySem PySem.Spec PyProof.Rows L2
open PySem.W (KasT kas_sort kas_ask KatTups KatLex KasFin UpdF)
noncomputable def kIn {α:Type} (n:Nat):KasT α->Bool
 | .ret _=>true
 | .ask i j k=>decide (i<n)&&decide (j<n)&&kIn n (k true)&&kIn n (k false)
theorem JKx {α:Type} {n:Nat} {cmp:Nat->Nat->(Bool->Shared->Prop)->Shared->Prop} {lt:Nat->Nat->Bool} {Q:α->Shared->Prop} {s:Shared} (h:∀i j C,i<n->j<n->C (lt i j) s->cmp i j C s) :
  ∀t:KasT α,kIn n t=true->Q (kGo lt t) s->t.kasWp cmp Q s
 | .ret a,_,q=>q
 | .ask i j k,hk,q=>by
  simp only [kIn,q_i,q_C] at hk
  refine h i j _ hk.1.1.1 hk.1.1.2 ?_
  refine JKx h (k (lt i j)) ?_ q
  cases lt i j
  ·exact hk.2
  ·exact hk.1.2
theorem JIY {P:Program} {w:World} {H:Hp} {h:Heap} {a:Addr} {o:HO} (x:ObjOk P w H h a o):∃u,h.get? a=some u:=by
 cases o with
 | lst xs=>obtain ⟨_,_,_,_,e⟩:=x;exact ⟨_,e⟩
 | tup xs=>obtain ⟨_,_,_,o,e,_⟩:=x;exact ⟨_,e⟩
 | dK kvs=>obtain ⟨_,_,_,_,o,_,_,e,_⟩:=x;exact ⟨_,e⟩
 | dT kvs=>obtain ⟨_,_,_,_,o,_,_,e,_⟩:=x;exact ⟨_,e⟩
 | set S n=>obtain ⟨o,_,_,_,e,_⟩:=x;exact ⟨_,e⟩
 | ins C dx fs=>obtain ⟨_,_,_,e,_⟩:=x;exact ⟨_,e⟩
 | own y=>obtain ⟨_,e⟩:=x;exact ⟨_,e⟩
 | xd fs=>obtain ⟨_,⟨_,_,_,e,_⟩,_⟩:=x;exact ⟨_,e⟩
 | rng lo hi=>obtain ⟨_,_,_,e⟩:=x;exact ⟨_,e⟩
 | frz ob u=>obtain ⟨e,_⟩:=x;exact ⟨_,e⟩
 | tbl ps=>exact ⟨_,x⟩
 | met f y=>exact ⟨_,x⟩
 | ext φ=>obtain ⟨_,⟨_,e⟩,_⟩:=x;exact ⟨_,e⟩
noncomputable def below (h:Heap) (L:Nat):Heap:={ h with objs:=h.objs.extract 0 L }
theorem below_get {h:Heap} {L b:Nat} {o:Obj}:(below h L).get? b=some o↔b<L/\h.get? b=some o:=by
 unfold below Heap.get?
 simp only
 constructor
 ·intro e
  by_cases hb:b<L
  ·refine ⟨hb,?_⟩
   rw [Array.getElem?_extract] at e
   simp only [Nat.sub_zero,Nat.zero_add] at e
   by_cases hs:b<min L h.objs.size
   ·rw [if_pos hs] at e;exact e
   ·rw [if_neg hs] at e;cases e
  ·rw [Array.getElem?_extract] at e
   rw [if_neg (by omega)] at e
   cases e
 ·rintro ⟨hb,e⟩
  rw [Array.getElem?_extract]
  simp only [Nat.sub_zero,Nat.zero_add]
  have hs:b<h.objs.size:=q_h (h:=h) (o:=o) (by unfold Heap.get?;exact e)
  rw [if_pos (by omega)]
  exact e
noncomputable def JGX (h:Heap) (L:Nat):List (Addr×Obj):=(List.range h.objs.size).filterMap fun b=>if b<=L then none else (h.get? b).map fun o=>(b,o)
theorem above_mem {h:Heap} {L:Nat} {p:Addr×Obj}:p∈JGX h L↔L<p.1/\h.get? p.1=some p.2:=by
 unfold JGX
 rw [List.mem_filterMap]
 constructor
 ·rintro ⟨b,_,e⟩
  split at e
  ·cases e
  ·rename_i hb
   obtain ⟨o,ho,e⟩:=q_d.mp e
   subst e
   exact ⟨by omega,ho⟩
 ·rintro ⟨h1,h2⟩
  refine ⟨p.1,List.mem_range.mpr (q_h h2),?_⟩
  rw [if_neg (by omega),h2]
  rfl
theorem JI9 {h:Heap} {L:Addr} {m:Str->Option Value} (hn:h.Ns L m):Fr (below h L) L h m :=
 ⟨hn,fun b o e=>(below_get.mp e).2,by
  show (h.objs.extract 0 L).size<=L
  simp
  omega⟩
theorem JCb {h:Heap} {L:Addr}:News (below h L) L h (JGX h L):=fun p hp=>by
 obtain ⟨h1,h2⟩:=above_mem.mp hp
 refine ⟨h2,Nat.ne_of_gt h1,?_⟩
 cases e:(below h L).get? p.1 with
 | none=>rfl
 | some o=>exact absurd (below_get.mp e).1 (by omega)
theorem JJu {h h':Heap} {L:Addr} {m:Str->Option Value} {r:List (Addr×Obj)} (F:Fr (below h L) L h' m) (N:News (below h L) L h' r) (hr:∀p∈JGX h L,p∈r):∀b o,b≠L->h.get? b=some o->h'.get? b=some o:=fun b o hb e=>by
 by_cases hl:b<L
 ·exact F.keep b o (below_get.mpr ⟨hl,e⟩)
 ·exact (N (b,o) (hr _ (above_mem.mpr ⟨Nat.lt_of_le_of_ne (Nat.le_of_not_lt hl) (Ne.symm hb),e⟩))).1
theorem JOj {h:Heap} {L:Addr} {m m':Str->Option Value} (h1:h.Ns L m) (h2:h.Ns L m'):m=m':=by
 obtain ⟨o,es,ep,e1,e2,_,e3⟩:=h1
 obtain ⟨o',es',ep',f1,f2,_,f3⟩:=h2
 rw [e1] at f1;cases f1
 rw [e2] at f2;cases f2
 funext x
 rw [<-e3,<-f3]
theorem JJJ {X:Cx} {pins:List (Addr×Obj)} {σ:St} {H:Hp} {s:Shared} {h':Heap} {D:Addr} {o:HO} {m:Str->Option Value} (I:Inv X pins σ H s) (hn:s.heap.Ns X.env.locals m) (hn':h'.Ns X.env.locals m) (kp:∀b u,b≠X.env.locals->s.heap.get? b=some u->h'.get? b=some u) (hD:s.heap.get? D=none) (new:ObjOk X.prog X.w (upd H D o) h' D o) :
  H D=none/\Inv X pins σ (upd H D o) { s with heap:=h' }:=by
 have h0:H D=none:=by
  cases e:H D with
  | none=>rfl
  | some u=>obtain ⟨v,hv⟩:=JIY (I.hok D u e);rw [hD] at hv;cases hv
 refine ⟨h0,?_⟩
 have na:∀b u,s.heap.get? b=some u->b≠D:=fun b u e z=>by rw [z,hD] at e;cases e
 have ku:∀b u,H b=some u->upd H D o b=some u:=fun b u e=>by rw [JAG (JAW e h0)];exact e
 have there:∀b u,s.heap.get? b=some u->∃v,h'.get? b=some v:=fun b u e=>by
  by_cases hb:b=X.env.locals
  · subst hb;obtain ⟨ob,_,_,ho,_⟩:=hn';exact ⟨ob,ho⟩
  · exact ⟨u,kp b u hb e⟩
 refine I.step (g':=s.gens) (d':=s.drawn) (t':=s.toks) (ch:=[]) (fun _ z=>nomatch z) (fun b u hL _ _ e _=>kp b u hL e) (fun b u hL _ _ e _=>⟨u.slots,kp b u hL e⟩)
  (fun b u _ e n=>by rw [JAG (na b u e)];exact n) (fun b u _ e=>there b u e) (fun b xs e=>ku b _ e) (fun b u v e=>ku b _ e) (fun b ps e=>⟨#[],by rw [ku b _ e];simp⟩) (fun m' hm=>?_) (fun b u e=>?_) I.bare
 ·rw [JOj hm hn];exact hn'
 ·by_cases hb:b=D
  · subst hb;rw [JAH] at e;cases e;exact new
  · rw [JAG hb] at e
    refine (I.hok b u e).stay (fun c v hc q=>kp c v ?_ q) (fun c q=>ku c _ q) fun c xs q=>ku c _ q
    rcases hc with z | z
    ·rw [z];exact fun z2=>by rw [z2,I.free] at e;cases e
    ·exact fun z2=>by rw [z2,I.free] at z;cases z
noncomputable def TI (h:Heap):List (List Int)->List Value->Prop
 | [],[]=>True
 | k::ks,v::vs=>(∃a o xs n,v=.ref a/\h.get? a=some o/\o.cls=.type "tuple"/\o.data=.seq (List.toArray xs) n/\Vals (k.map V.int) xs)/\TI h ks vs
 | _,_=>False
theorem TI.get {h:Heap}:∀ {ks:List (List Int)} {vs:List Value} {i:Nat},TI h ks vs->i<ks.length->∃a o xs n,vs.getD i Value.none=.ref a/\h.get? a=some o/\o.cls=.type "tuple"/\o.data=.seq (List.toArray xs) n/\Vals ((ks.getD i []).map V.int) xs
 | [],_,_,_,hi=>by simp at hi
 | _::_,[],_,t,_=>t.elim
 | k::ks,v::vs,0,t,_=>by
  obtain ⟨⟨a,o,xs,n,e1,e2,e3,e4,e5⟩,_⟩:=t
  exact ⟨a,o,xs,n,by simpa using e1,e2,e3,e4,by simpa using e5⟩
 | k::ks,v::vs,i+1,t,hi=>by
  obtain ⟨a,o,xs,n,e1,r⟩:=TI.get (i:=i) t.2 (by simpa using hi)
  exact ⟨a,o,xs,n,by simpa using e1,by simpa using r⟩
theorem TI.len {h:Heap}:∀ {ks:List (List Int)} {vs:List Value},TI h ks vs->vs.length=ks.length
 | [],[],_=>rfl
 | [],_::_,t=>t.elim
 | _::_,[],t=>t.elim
 | _::_,_::_,t=>by simp [TI.len t.2]
theorem TI.mono {h h':Heap} {L:Addr} {m:Str->Option Value} (hn:h.Ns L m) (kp:∀b o,b≠L->h.get? b=some o->h'.get? b=some o):∀ {ks:List (List Int)} {vs:List Value},TI h ks vs->TI h' ks vs
 | [],[],_=>trivial
 | [],_::_,t=>t.elim
 | _::_,[],t=>t.elim
 | k::ks,v::vs,⟨⟨a,o,xs,n,e1,e2,e3,e4,e5⟩,r⟩=>by
  refine ⟨⟨a,o,xs,n,e1,kp a o (fun z=>?_) e2,e3,e4,e5⟩,TI.mono hn kp r⟩
  subst z
  obtain ⟨o',es,ep,f1,f2,_⟩:=hn
  rw [e2] at f1;cases f1
  rw [e4] at f2;cases f2
section
variable {prog:Program} {w:World} {A:Around} {s:Shared}
end
noncomputable def AtV (h:Heap):At->Value->Prop
 | .i n,v=>∃t,v=.int n t
 | .s x,v=>∃t,v=.str x t
 | .t k,v=>∃a o xs n,v=.ref a/\h.get? a=some o/\o.cls=.type "tuple"/\o.data=.seq (List.toArray xs) n/\Vals (k.map V.int) xs
noncomputable def AtsV (h:Heap):List At->List Value->Prop
 | [],[]=>True
 | a::r,v::vs=>AtV h a v/\AtsV h r vs
 | _,_=>False
theorem AtsV.len {h:Heap}:∀ {a:List At} {vs:List Value},AtsV h a vs->vs.length=a.length
 | [],[],_=>rfl
 | [],_::_,t=>t.elim
 | _::_,[],t=>t.elim
 | _::_,_::_,t=>by simp [AtsV.len t.2]
noncomputable def TA' (h:Heap):List (List At)->List Value->Prop
 | [],[]=>True
 | k::ks,v::vs=>(∃a o xs n,v=.ref a/\h.get? a=some o/\o.cls=.type "tuple"/\o.data=.seq (List.toArray xs) n/\AtsV h k xs)/\TA' h ks vs
 | _,_=>False
theorem TA'.get {h:Heap}:∀ {ks:List (List At)} {vs:List Value} {i:Nat},TA' h ks vs->i<ks.length->∃a o xs n,vs.getD i Value.none=.ref a/\h.get? a=some o/\o.cls=.type "tuple"/\o.data=.seq (List.toArray xs) n/\AtsV h (ks.getD i []) xs
 | [],_,_,_,hi=>by simp at hi
 | _::_,[],_,t,_=>t.elim
 | k::ks,v::vs,0,t,_=>by
  obtain ⟨⟨a,o,xs,n,e1,e2,e3,e4,e5⟩,_⟩:=t
  exact ⟨a,o,xs,n,by simpa using e1,e2,e3,e4,by simpa using e5⟩
 | k::ks,v::vs,i+1,t,hi=>by
  obtain ⟨a,o,xs,n,e1,r⟩:=TA'.get (i:=i) t.2 (by simpa using hi)
  exact ⟨a,o,xs,n,by simpa using e1,by simpa using r⟩
theorem TA'.len {h:Heap}:∀ {ks:List (List At)} {vs:List Value},TA' h ks vs->vs.length=ks.length
 | [],[],_=>rfl
 | [],_::_,t=>t.elim
 | _::_,[],t=>t.elim
 | _::_,_::_,t=>by simp [TA'.len t.2]
theorem AtV.mono {h h':Heap} {L:Addr} {m:Str->Option Value} (hn:h.Ns L m) (kp:∀b o,b≠L->h.get? b=some o->h'.get? b=some o):∀ {a:At} {v:Value},AtV h a v->AtV h' a v
 | .i _,_,t=>t
 | .s _,_,t=>t
 | .t k,v,⟨a,o,xs,n,e1,e2,e3,e4,e5⟩=>by
  refine ⟨a,o,xs,n,e1,kp a o (fun z=>?_) e2,e3,e4,e5⟩
  subst z
  obtain ⟨o',es,ep,f1,f2,_⟩:=hn
  rw [e2] at f1;cases f1
  rw [e4] at f2;cases f2
theorem AtsV.mono {h h':Heap} {L:Addr} {m:Str->Option Value} (hn:h.Ns L m) (kp:∀b o,b≠L->h.get? b=some o->h'.get? b=some o):∀ {a:List At} {vs:List Value},AtsV h a vs->AtsV h' a vs
 | [],[],_=>trivial
 | [],_::_,t=>t.elim
 | _::_,[],t=>t.elim
 | _::_,_::_,t=>⟨t.1.mono hn kp,AtsV.mono hn kp t.2⟩
theorem TA'.mono {h h':Heap} {L:Addr} {m:Str->Option Value} (hn:h.Ns L m) (kp:∀b o,b≠L->h.get? b=some o->h'.get? b=some o):∀ {ks:List (List At)} {vs:List Value},TA' h ks vs->TA' h' ks vs
 | [],[],_=>trivial
 | [],_::_,t=>t.elim
 | _::_,[],t=>t.elim
 | k::ks,v::vs,⟨⟨a,o,xs,n,e1,e2,e3,e4,e5⟩,r⟩=>by
  refine ⟨⟨a,o,xs,n,e1,kp a o (fun z=>?_) e2,e3,e4,e5.mono hn kp⟩,TA'.mono hn kp r⟩
  subst z
  obtain ⟨o',es,ep,f1,f2,_⟩:=hn
  rw [e2] at f1;cases f1
  rw [e4] at f2;cases f2
section
variable {prog:Program} {w:World} {A:Around} {s:Shared}
end
section
variable {X:Cx} {B:Bs} {C:Cn} {CX:CXT} {XX:Nat->Hp->Prop} {G:List (Str×GK)}
noncomputable def IT (K:PySem.W.Frag) (H:Hp):List (List Int)->List V->Prop
 | [],[]=>True
 | k::ks,y::ys=>(∃a,y=.ref a/\SqT K H a (k.map V.int))/\IT K H ks ys
 | _,_=>False
theorem IT.len {K:PySem.W.Frag} {H:Hp}:∀ {ks:List (List Int)} {ys:List V},IT K H ks ys->ys.length=ks.length
 | [],[],_=>rfl
 | [],_::_,t=>t.elim
 | _::_,[],t=>t.elim
 | _::_,_::_,t=>by simp [IT.len t.2]
theorem JEE {ys:List V} {us:List Value} (r:Vals ys us):∀l:List Nat,(∀i∈l,i<ys.length)->Vals (l.map fun i=>ys.getD i .non) (l.map fun i=>us.getD i Value.none)
 | [],_=>.nil
 | i::l,h=>by
  have hi:=h i (by simp)
  obtain ⟨u,hu,ru⟩:=r.get (q_q hi)
  refine .cons ?_ (JEE r l fun j hj=>h j (by simp [hj]))
  have e1:ys.getD i .non=ys[i]:=by simp [hi]
  have e2:us.getD i Value.none=u:=by simp [hu]
  show RelV (ys.getD i .non) (us.getD i Value.none)
  rw [e1,e2];exact ru
noncomputable def kOut (n:Nat):KasT (Array Nat)->Bool
 | .ret a=>a.toList.all fun i=>decide (i<n)
 | .ask _ _ k=>kOut n (k true)&&kOut n (k false)
theorem JHw {n:Nat} {lt:Nat->Nat->Bool}:∀t:KasT (Array Nat),kOut n t=true->∀i∈(kGo lt t).toList,i<n
 | .ret a,h,i,hi=>by
  simp only [kOut,List.all_eq_true,q_C] at h
  exact h i hi
 | .ask i j k,h,x,hx=>by
  simp only [kOut,q_i] at h
  simp only [kGo] at hx
  refine JHw (k (lt i j)) ?_ x hx
  cases lt i j
  ·exact h.2
  ·exact h.1
noncomputable def kLen (n:Nat):KasT (Array Nat)->Bool
 | .ret a=>decide (a.size<=n)
 | .ask _ _ k=>kLen n (k true)&&kLen n (k false)
theorem JHN {n:Nat} {lt:Nat->Nat->Bool}:∀t:KasT (Array Nat),kLen n t=true->(kGo lt t).size<=n
 | .ret a,h=>by simpa [kLen,kGo] using h
 | .ask i j k,h=>by
  simp only [kLen,q_i] at h
  simp only [kGo]
  refine JHN (k (lt i j)) ?_
  cases lt i j
  ·exact h.2
  ·exact h.1
noncomputable def IAt (K:PySem.W.Frag) (H:Hp):At->V->Prop
 | .i n,v=>v=.int n
 | .s x,v=>v=.str x
 | .t k,v=>∃a,v=.ref a/\SqT K H a (k.map V.int)
noncomputable def IAs (K:PySem.W.Frag) (H:Hp):List At->List V->Prop
 | [],[]=>True
 | a::r,v::vs=>IAt K H a v/\IAs K H r vs
 | _,_=>False
noncomputable def IA (K:PySem.W.Frag) (H:Hp):List (List At)->List V->Prop
 | [],[]=>True
 | k::ks,y::ys=>(∃a zs,y=.ref a/\SqT K H a zs/\IAs K H k zs)/\IA K H ks ys
 | _,_=>False
theorem IAt.at {pins:List (Addr×Obj)} {σ:St} {H:Hp} {s:Shared} (I:Inv X pins σ H s) {a:At} {v:V} {u:Value} (h:IAt X.K H a v) (r:RelV v u):AtV s.heap a u:=by
 cases a with
 | i n=>have h:v=.int n:=h;subst h;exact r
 | s x=>have h:v=.str x:=h;subst h;exact r
 | t k =>
  obtain ⟨a,rfl,q⟩:=h
  cases r
  obtain ⟨its,rv,⟨o,ho,hc,n,hd⟩,_⟩:=I.tuple q
  exact ⟨a,o,its,n,rfl,ho,hc,hd,rv⟩
theorem IAs.ats {pins:List (Addr×Obj)} {σ:St} {H:Hp} {s:Shared} (I:Inv X pins σ H s):∀ {a:List At} {vs:List V} {us:List Value},IAs X.K H a vs->Vals vs us->AtsV s.heap a us
 | [],[],_,_,r=>by cases r;trivial
 | [],_::_,_,t,_=>t.elim
 | _::_,[],_,t,_=>t.elim
 | _::_,_::_,_,t,r=>by
  cases r with
  | cons p q=>exact ⟨t.1.at I p,IAs.ats I t.2 q⟩
theorem IA.ta {pins:List (Addr×Obj)} {σ:St} {H:Hp} {s:Shared} (I:Inv X pins σ H s):∀ {ks:List (List At)} {ys:List V} {us:List Value},IA X.K H ks ys->Vals ys us->TA' s.heap ks us
 | [],[],_,_,r=>by cases r;trivial
 | [],_::_,_,t,_=>t.elim
 | _::_,[],_,t,_=>t.elim
 | k::ks,y::ys,us,⟨⟨a,zs,e,q,t0⟩,t⟩,r=>by
  cases r with
  | cons p r =>
   subst e
   cases p
   obtain ⟨its,rv,⟨o,ho,hc,n,hd⟩,_⟩:=I.tuple q
   exact ⟨⟨a,o,its,n,rfl,ho,hc,hd,t0.ats I rv⟩,IA.ta I t r⟩
theorem IA.len {K:PySem.W.Frag} {H:Hp}:∀ {ks:List (List At)} {ys:List V},IA K H ks ys->ys.length=ks.length
 | [],[],_=>rfl
 | [],_::_,t=>t.elim
 | _::_,[],t=>t.elim
 | _::_,_::_,t=>by simp [IA.len t.2]
section
variable {prog:Program} {w:World} {A:Around} {E:Value->Shared->Prop} {s:Shared}
end
end
end VI
end
section
namespace VI
open PySem PySem.Spec PyProof.Rows L2
theorem JMc {X:Cx} {pins:List (Addr×Obj)} {σ:St} {H:Hp} {s:Shared} {h':Heap} {fp:List Addr} (I:Inv X pins σ H s) (k:∀b u,b ∉ fp->s.heap.get? b=some u->h'.get? b=some u) (f:∀b∈fp,FpOk X pins H b):Inv X pins σ H { s with heap:=h' }:=by
 have nit:∀b u,H b=some u->b ∉ fp:=fun b u e z=>by rw [(f b z).1] at e;cases e
 refine I.step (g':=s.gens) (d':=s.drawn) (t':=s.toks) (ch:=fp) (fun b hb=>?_) (fun b u _ _ hc e _=>k b u hc e) (fun b u _ _ hc e _=>⟨u.slots,k b u hc e⟩)
  (fun b u _ e n=>n) (fun b u hc e=>⟨u,k b u hc e⟩) (fun b xs e=>e) (fun b u v e=>e) (fun b ps e=>⟨#[],by rw [e];simp⟩) (fun m hm=>?_) (fun b u e=>?_) I.bare
 ·obtain ⟨_,hL,hfs,h1,h2,h3⟩:=f b hb
  exact ⟨h1,hL,h2,h3⟩
 ·obtain ⟨ob,es,ep,ho,r⟩:=hm
  exact ⟨ob,es,ep,k _ ob (fun z=>(f _ z).2.1 rfl) ho,r⟩
 ·refine (I.hok b u e).stay (fun c v hc q=>k c v ?_ q) (fun c q=>q) fun c xs q=>q
  rcases hc with z | z
  · rw [z];exact nit b u e
  · exact nit c _ z
noncomputable def Itz (K:PySem.W.Frag) (a b:Addr):It :=
 ⟨fun i H=>∃xs ys x y,SqL K H a xs/\SqL K H b ys/\xs[i]? = some x/\ys[i]? = some y,
  fun i H x H'=>∃p v u,H p=none/\H'=upd H p (.tup [v,u])/\x=.ref p/\(∀xs,SqL K H a xs->xs[i]? = some v)/\∀ys,SqL K H b ys->ys[i]? = some u,
  fun i H=>∃xs ys,SqL K H a xs/\SqL K H b ys/\(xs.length<=i\/ys.length<=i)⟩
theorem JJy {P:Program} {w:World} {K:PySem.W.Frag} {ts:List Expr} {kt:Nat} {pt:Pos} (z TI TO i1 i2 l1 l2:Addr) (D:ZipApart z TI TO i1 i2 l1 l2) :
  Turn P w K (.Tuple ts kt pt) (Itz K l1 l2) [z,TI,TO,i1,i2] z (fun i h=>IsZip h z TI TO .none/\IsPair h TI (.ref i1) (.ref i2)/\(∃a b,IsPair h TO a b)/\h.IsListIter i1 l1 i/\h.IsListIter i2 l2 i) where
 mem:=by simp
 obj:=fun i h st b hb=>by
  obtain ⟨hz,hTI,⟨a,c,hTO⟩,⟨o1,e1,_,d1⟩,⟨o2,e2,_,d2⟩⟩:=st
  simp only [q_n,List.not_mem_nil,or_false] at hb
  rcases hb with rfl | rfl | rfl | rfl | rfl
  ·exact ⟨_,hz,fun v z=>by cases z⟩
  ·exact ⟨_,hTI,fun v z=>by cases z⟩
  ·exact ⟨_,hTO,fun v z=>by cases z⟩
  ·exact ⟨o1,e1,fun v z=>by rw [d1] at z;cases z⟩
  ·exact ⟨o2,e2,fun v z=>by rw [d2] at z;cases z⟩
 keep:=fun i h h' st k=>by
  obtain ⟨hz,hTI,⟨a,c,hTO⟩,h1,h2⟩:=st
  exact ⟨k z (by simp) _ hz,k TI (by simp) _ hTI,⟨a,c,k TO (by simp) _ hTO⟩,h1.at fun o e=>k i1 (by simp) o e,h2.at fun o e=>k i2 (by simp) o e⟩
 item:=by
  intro X hP hw hK hc i pins s σ H E I hf st hg
  subst hP hw hK
  obtain ⟨xs,ys,x,y,q1,q2,hx,hy⟩:=hg
  obtain ⟨its,rv,p,hz0⟩:=I.list q1
  obtain ⟨its2,rv2,p2,hz2⟩:=I.list q2
  obtain ⟨u,hu,ru⟩:=rv.get hx
  obtain ⟨u2,hu2,ru2⟩:=rv2.get hy
  obtain ⟨hz,hTI,⟨a,c,hTO⟩,h1,h2⟩:=st
  have lt:∀b∈[z,TI,TO,i1,i2],b<s.heap.objs.size:=fun b hb=>by
   simp only [q_n,List.not_mem_nil,or_false] at hb
   obtain ⟨o1,e1,_⟩:=id h1
   obtain ⟨o2,e2,_⟩:=id h2
   rcases hb with rfl | rfl | rfl | rfl | rfl
   ·exact q_h hz
   ·exact q_h hTI
   ·exact q_h hTO
   ·exact q_h e1
   ·exact q_h e2
  refine wpAny_pyNext_zip_item D hz hTI hTO h1 h2 p.isList p2.isList (x:=u) (y:=u2) (by simpa using hu) (by simpa using hu2) fun h' g1 g2 g3 g4 g5 g6 g7=>?_
  refine ⟨_,rfl,wpAny_letOwnedTupleGo_zip g1 fun h2' j1 j2=>?_⟩
  have ltz:=lt z (by simp)
  have ht:h2'.get? s.heap.objs.size=some _:=(j2.2 _ (Nat.ne_of_gt ltz)).trans g5
  refine ⟨.ref s.heap.objs.size,upd H s.heap.objs.size (.tup [x,y]),JER (s:=s) (h':=h2') (t':=s.toks) I (fun b o hb zz=>?_) hf (q_t _) ?_,rfl,⟨_,x,y,I.hok.fresh (q_t _),rfl,rfl,fun zs hzs=>by rw [I.list_inj hzs q1];exact hx,fun zs hzs=>by rw [I.list_inj hzs q2];exact hy⟩,⟨j1,?_,⟨u,u2,?_⟩,?_,?_⟩,fun b hb=>?_⟩
  ·simp only [q_n,List.not_mem_nil,or_false,not_or] at hb
   exact (j2.2 b hb.1).trans (g7 b o hb.1 hb.2.2.1 hb.2.2.2.1 hb.2.2.2.2 zz)
  ·exact ⟨by simp only [List.length_cons,List.length_nil];rw [sizeLine_eq];decide,[u,u2],.cons ru (.cons ru2 .nil),_,ht,rfl,_,rfl⟩
  ·exact (j2.2 _ D.TIz).trans (g7 TI _ D.TIz D.TITO D.TIi1 D.TIi2 hTI)
  ·exact (j2.2 _ D.TOz).trans g2
  ·exact g3.at fun o e=>(j2.2 _ D.i1z).trans e
  ·exact g4.at fun o e=>(j2.2 _ D.i2z).trans e
  ·rw [JAG (q_l (lt b hb))]
   exact (hf b hb).1
 done:=by
  intro X hP hw hK hc i pins s σ H E I hf st hg
  subst hP hw hK
  obtain ⟨xs,ys,q1,q2,hx⟩:=hg
  obtain ⟨its,rv,p,hz0⟩:=I.list q1
  obtain ⟨its2,rv2,p2,hz2⟩:=I.list q2
  obtain ⟨hz,hTI,⟨a,c,hTO⟩,h1,h2⟩:=st
  have e1:=rv.length
  have e2:=rv2.length
  refine wpAny_pyNext_zip_end (I.ok.hd hc) D hz hTI hTO h1 h2 p.isList p2.isList (by
   rcases hx with hx | hx
   ·exact .inl (by simp;omega)
   ·exact .inr (by simp;omega)) fun h' g=>⟨rfl,JMc I (fun b u hb e=>?_) hf⟩
  simp only [q_n,List.not_mem_nil,or_false,not_or] at hb
  exact g b u hb.1 hb.2.2.1 hb.2.2.2.1 hb.2.2.2.2 e
 self:=fun _ _ _ _ _ st h=>wpAny_pyIter_zip st.1 h
section
variable {X:Cx} {B:Bs} {C:Cn} {CX:CXT} {XX:Nat->Hp->Prop} {G:List (Str×GK)}
theorem JJT {H:Hp} {a b:Addr} {ds es:List D} {xs ys:List V} (q:SqL B.K H a xs) (l:DenL B H ds xs) (q':SqL B.K H b ys) (l':DenL B H es ys):ItOk B (Itz B.K a b) H (List.zipWith (fun a b=>PyData.tuple [a,b]) ds es):=by
 intro H2 s2 i
 have q2:=s2.seq q
 have q2':=s2.seq q'
 refine ⟨fun d e=>?_,fun h=>⟨xs,ys,q2,q2',?_⟩⟩
 ·rw [List.getElem?_zipWith] at e
  cases e1:ds[i]? with
  | none=>rw [e1] at e;cases e
  | some d1 =>
   cases e2:es[i]? with
   | none=>rw [e1,e2] at e;cases e
   | some d2 =>
    rw [e1,e2] at e
    simp only [q_j] at e
    obtain ⟨v,f1,dn⟩:=DenL.get ds xs i d1 l e1
    obtain ⟨u,f2,dn2⟩:=DenL.get es ys i d2 l' e2
    refine ⟨⟨xs,ys,v,u,q2,q2',f1,f2⟩,fun x H3 y=>.inr ?_⟩
    obtain ⟨p,v',u',hp,e3,ex,y1,y2⟩:=y
    have w1:=y1 xs q2
    have w2:=y2 ys q2'
    rw [f1] at w1;cases w1
    rw [f2] at w2;cases w2
    refine ⟨p,[v,u],_,hp,e3,ex,e.symm,?_⟩
    simp only [DenL]
    exact ⟨_,_,rfl,dn,_,_,rfl,dn2,rfl⟩
 ·rw [List.length_zipWith] at h
  rw [<-DenL.len ds xs l,<-DenL.len es ys l']
  omega
theorem x_zip:XOk B C CX G .zip where
 val:=by
  intro X XX g e args y h ha hs hc
  unfold xRaw at h
  split at h
  ·rcases JEQ h with z | ⟨z,_⟩ | ⟨z,_⟩<;>cases z
  ·cases h
 itr:=by
  intro X XX g tg e args y h ha hs hc
  unfold xRaw at h
  split at h
  ·rcases JGC h with ⟨z,_⟩ | z
   ·cases z
   ·exact (JJh z (by decide) (by decide)).elim
  ·cases h
 tgt:=by
  intro X XX g ts kt pt e args y h ha hs hc
  unfold xTgt at h
  split at h
  ·split at h<;>cases h
  ·rename_i f p a b pos
   split at h
   ·rename_i hf
    obtain ⟨rfl,h2⟩:=hf
    cases h
    obtain ⟨_,h3,h4⟩:=JA5 h2
    intro pins s σ H R I ⟨δ,ok,k⟩
    simp only [evI] at k
    refine wpAny_Call_Name_kw (JDc I h3 (g.nam _ h4) (show bootBuiltins (Str.ofString "zip")=some (.type "zip") by decide +kernel) ?_ (by decide) (by decide))
    have s1:=hs a (by simp) [b] X.env
    have s2:=hs b (by simp) [] X.env
    refine PyProof.Rows.callWith_type1 (thn (ha pos pins s σ H (fun vs H1=>∃q1 q2 us1 us2,vs=[.ref q1,.ref q2]/\SqL X.K H1 q1 us1/\SqL X.K H1 q2 us2/\R (Itz X.K q1 q2) H1) I ?_) fun us s1 ⟨vs,H1,I1,r1,q1,q2,us1,us2,e1,sq1,sq2,hR⟩=>?_) s1 (by rw [s2];rfl)
    ·refine RA.of (W:=fun r H=>KI B XX r H R) ok (fun _ _ z=>z) (fun _ z=>z) (by
      cases q:evA C y δ with
      | ok ds=>rw [q] at k;exact k
      | exc c=>rw [q] at k;exact k
      | bad=>rw [q] at k;exact k) (f:=fun ds=>(xD .zip ds).bind JAg) fun ds vs H1 s1 d1 k1=>?_
     have key:∀xs ys,ds=[.list xs,.list ys]->∃q1 q2 us1 us2,vs=[.ref q1,.ref q2]/\SqL X.K H1 q1 us1/\SqL X.K H1 q2 us2/\R (Itz X.K q1 q2) H1:=by
      intro xs ys e
      subst e
      simp only [DenL,Den] at d1
      obtain ⟨v,r,e,⟨qa,us,e1,sq,l⟩,v2,r2,e3,⟨qb,us2,e4,sq2,l2⟩,e5⟩:=d1
      subst e5;subst e4;subst e3;subst e1;subst e
      refine ⟨qa,qb,us,us2,rfl,g.K▸sq,g.K▸sq2,?_⟩
      rw [g.K]
      exact k1 _ _ s1 (JJT sq l sq2 l2)
     match ds,k1,key with
     | [.list xs,.list ys],_,key=>exact key xs ys rfl
     | [],k1,_=>exact False.elim k1
     | [d],k1,_=>cases d<;>exact False.elim k1
     | d1::d2::d3::r,k1,_=>cases d1<;>cases d2<;>exact False.elim k1
     | [.none,_],k1,_=>exact False.elim k1
     | [.bool _,_],k1,_=>exact False.elim k1
     | [.int _,_],k1,_=>exact False.elim k1
     | [.str _,_],k1,_=>exact False.elim k1
     | [.tuple _,_],k1,_=>exact False.elim k1
     | [.dict _,_],k1,_=>exact False.elim k1
     | [.list _,.none],k1,_=>exact False.elim k1
     | [.list _,.bool _],k1,_=>exact False.elim k1
     | [.list _,.int _],k1,_=>exact False.elim k1
     | [.list _,.str _],k1,_=>exact False.elim k1
     | [.list _,.tuple _],k1,_=>exact False.elim k1
     | [.list _,.dict _],k1,_=>exact False.elim k1
    ·subst e1
     cases r1 with
     | cons ra rb =>
      cases rb with
      | cons rb rn =>
       cases rn
       cases ra
       cases rb
       obtain ⟨its,rv,pl,_⟩:=I1.list sq1
       obtain ⟨its2,rv2,pl2,_⟩:=I1.list sq2
       have b1:@LT.lt Nat instLTNat q1 s1.heap.objs.size:=by obtain ⟨o,ho,_⟩:=pl.isList;exact q_h ho
       have b2:@LT.lt Nat instLTNat q2 s1.heap.objs.size:=by obtain ⟨o,ho,_⟩:=pl2.isList;exact q_h ho
       refine call_zip_2 pl.isList pl2.isList fun h' g1 g2 g3 g4 g5 g6 g7=>?_
       have I2:Inv X pins σ H1 { s1 with heap:=h' }:=I1.kept (t':=s1.toks) g7
       have fpo:∀n,FpOk X pins H1 (s1.heap.objs.size+n):=fun n=>I1.fpOk (Nat.le_add_right _ _) (I1.hok.fresh (Nat.le_add_right _ _))
       refine wpAny_pyIter_zip g1 ⟨_,[s1.heap.objs.size+4,s1.heap.objs.size+2,s1.heap.objs.size+3,s1.heap.objs.size,s1.heap.objs.size+1],_,_,H1,rfl,I2,JJy _ _ _ _ _ q1 q2 ?_,⟨g1,g2,⟨_,_,g3⟩,g4,g5⟩,fun b hb=>?_,hR⟩
       ·constructor<;>first | (intro z;have z:@Eq Nat _ _:=z;omega)
       ·simp only [q_n,List.not_mem_nil,or_false] at hb
        rcases hb with rfl | rfl | rfl | rfl | rfl
        ·exact fpo 4
        ·exact fpo 2
        ·exact fpo 3
        ·exact fpo 0
        ·exact fpo 1
   ·cases h
  ·cases h
end
end VI
end
section
namespace VI
open PySem PySem.W
namespace So
noncomputable def inn {α:Type} (n:Nat):KasT α->Bool
 | .ret _=>true
 | .ask i j k=>decide (i<n)&&decide (j<n)&&inn n (k true)&&inn n (k false)
theorem JF5 {α:Type} {n:Nat} {lt lt':Nat->Nat->Bool} (h:∀i j,i<n->j<n->lt i j=lt' i j):∀t:KasT α,inn n t=true->kGo lt t=kGo lt' t
 | .ret a,_=>rfl
 | .ask i j k,hk=>by
  simp only [inn,q_i,q_C] at hk
  simp only [kGo]
  rw [h i j hk.1.1.1 hk.1.1.2]
  refine JF5 h _ ?_
  cases lt' i j
  ·exact hk.2
  ·exact hk.1.2
noncomputable def chk (n:Nat) (r:List Nat):Bool:=(kGo (fun i j=>decide (r.getD i n<r.getD j n)) (kas_sort n)).toList.map (fun i=>r.getD i n)==List.range n
noncomputable def vecs:Nat->Nat->List (List Nat)
 | 0,_=>[[]]
 | k+1,n=>(vecs k n).flatMap fun v=>((List.range n).filter fun a=>!v.contains a).map fun a=>a::v
theorem JDq {n:Nat}:∀(v:List Nat),v.Nodup->(∀a∈v,a<n)->v∈vecs v.length n
 | [],_,_=>by simp [vecs]
 | a::v,h,h'=>by
  obtain ⟨h1,h2⟩:=List.nodup_cons.mp h
  have ih:=JDq v h2 fun b hb=>h' b (by simp [hb])
  simp only [List.length_cons,vecs]
  refine List.mem_flatMap.mpr ⟨v,ih,List.mem_map.mpr ⟨a,List.mem_filter.mpr ⟨List.mem_range.mpr (h' a (by simp)),?_⟩,rfl⟩⟩
  simpa using h1
theorem chk2:(vecs 2 2).all (chk 2)=true:=by decide +kernel
theorem chk3:(vecs 3 3).all (chk 3)=true:=by decide +kernel
theorem chk4:(vecs 4 4).all (chk 4)=true:=by decide +kernel
theorem chk5:(vecs 5 5).all (chk 5)=true:=by decide +kernel
noncomputable def wel (n:Nat):KasT (Array Nat)->Bool
 | .ret a=>decide (a.size<=n)&&a.toList.all (fun i=>decide (i<n))
 | .ask i j k=>decide (i<n)&&decide (j<n)&&wel n (k true)&&wel n (k false)
theorem wel2:wel 2 (kas_sort 2)=true:=by decide +kernel
theorem wel3:wel 3 (kas_sort 3)=true:=by decide +kernel
theorem wel4:wel 4 (kas_sort 4)=true:=by decide +kernel
theorem wel5:wel 5 (kas_sort 5)=true:=by decide +kernel
theorem wel6:wel 6 (kas_sort 6)=true:=by decide +kernel
theorem wel7:wel 7 (kas_sort 7)=true:=by decide +kernel
theorem chk6:(vecs 6 6).all (chk 6)=true:=by decide +kernel
noncomputable def chs (a:Nat):Bool:=((vecs 6 7).filter fun v=>!v.contains a).all fun v=>chk 7 (a::v)
theorem chs0:chs 0=true:=by decide +kernel
theorem chs1:chs 1=true:=by decide +kernel
theorem chs2:chs 2=true:=by decide +kernel
theorem chs3:chs 3=true:=by decide +kernel
theorem chs4:chs 4=true:=by decide +kernel
theorem chs5:chs 5=true:=by decide +kernel
theorem chs6:chs 6=true:=by decide +kernel
theorem JMy {n:Nat} (h2:2<=n) (h7:n<=7) {r:List Nat} (hl:r.length=n) (hd:r.Nodup) (hr:∀a∈r,a<n):chk n r=true:=by
 have h:=JDq r hd hr
 rw [hl] at h
 obtain rfl | rfl | rfl | rfl | rfl | rfl:n=2\/n=3\/n=4\/n=5\/n=6\/n=7:=by omega
 ·exact List.all_eq_true.mp chk2 r h
 ·exact List.all_eq_true.mp chk3 r h
 ·exact List.all_eq_true.mp chk4 r h
 ·exact List.all_eq_true.mp chk5 r h
 ·exact List.all_eq_true.mp chk6 r h
 ·cases r with
  | nil=>cases hl
  | cons a v =>
   obtain ⟨d1,d2⟩:=List.nodup_cons.mp hd
   have hv:=JDq v d2 fun b hb=>hr b (by simp [hb])
   rw [show v.length=6 by simpa using hl] at hv
   have hm:v∈(vecs 6 7).filter fun v=>!v.contains a:=List.mem_filter.mpr ⟨hv,by simpa using d1⟩
   have ha:=hr a (by simp)
   have ok:chs a=true:=by
    obtain rfl | rfl | rfl | rfl | rfl | rfl | rfl:a=0\/a=1\/a=2\/a=3\/a=4\/a=5\/a=6:=by omega
    ·exact chs0
    ·exact chs1
    ·exact chs2
    ·exact chs3
    ·exact chs4
    ·exact chs5
    ·exact chs6
   unfold chs at ok
   exact List.all_eq_true.mp ok v hm
theorem wel_all {n:Nat} (h2:2<=n) (h7:n<=7):wel n (kas_sort n)=true:=by
 obtain rfl | rfl | rfl | rfl | rfl | rfl:n=2\/n=3\/n=4\/n=5\/n=6\/n=7:=by omega
 ·exact wel2
 ·exact wel3
 ·exact wel4
 ·exact wel5
 ·exact wel6
 ·exact wel7
theorem JFG {n:Nat}:∀t:KasT (Array Nat),wel n t=true->inn n t=true
 | .ret a,_=>rfl
 | .ask i j k,h=>by
  simp only [wel,q_i] at h
  simp only [inn,q_i]
  exact ⟨⟨h.1.1,JFG _ h.1.2⟩,JFG _ h.2⟩
theorem JNK {n:Nat} (h2:2<=n) (h7:n<=7):inn n (kas_sort n)=true:=JFG _ (wel_all h2 h7)
theorem JLR {α:Type} {p q:α->Bool}:∀ {l:List α},(∀y∈l,p y=true->q y=true)->l.countP p<=l.countP q
 | [],_=>q_t _
 | b::l,h=>by
  have ih:=JLR (l:=l) fun y hy=>h y (by simp [hy])
  have hb:=h b (by simp)
  simp only [List.countP_cons]
  by_cases e:p b=true
  ·rw [if_pos e,if_pos (hb e)];omega
  ·rw [if_neg e];omega
theorem JIF {α:Type} {p q:α->Bool}:∀ {l:List α},(∀y∈l,p y=true->q y=true)->(∃a∈l,q a=true/\p a=false)->l.countP p<l.countP q
 | [],_,⟨a,ha,_⟩=>by cases ha
 | b::l,h,⟨a,ha,h1,h2⟩=>by
  have hb:=h b (by simp)
  have hr:∀y∈l,p y=true->q y=true:=fun y hy=>h y (by simp [hy])
  have ih0:=JLR hr
  simp only [List.countP_cons]
  rcases q_n.mp ha with rfl | ha
  ·rw [if_pos h1,if_neg (by rw [h2];simp)];omega
  ·have ih:=JIF hr ⟨a,ha,h1,h2⟩
   by_cases e:p b=true
   ·rw [if_pos e,if_pos (hb e)];omega
   ·rw [if_neg e];omega
theorem JK4 (x:Str):ltS x x=false:=q_o (List.lt_irrefl _)
theorem lt_tr {x y z:Str} (h1:ltS x y=true) (h2:ltS y z=true):ltS x z=true:=decide_eq_true (List.lt_trans (of_decide_eq_true h1) (of_decide_eq_true h2))
theorem JHu {x y:Str} (h1:ltS x y=false) (h2:ltS y x=false):x=y:=by
 have h1:=of_decide_eq_false h1
 have h2:=of_decide_eq_false h2
 have e:x.cps.toList=y.cps.toList:=List.le_antisymm (List.not_lt.mp h2) (List.not_lt.mp h1)
 cases x;cases y
 simp only [Str.mk.injEq]
 exact Array.toList_inj.mp e
noncomputable def rk (zs:List Str) (a:Str):Nat:=zs.countP fun y=>ltS y a
theorem JPj {zs:List Str} {a b:Str} (ha:a∈zs) (h:ltS a b=true):rk zs a<rk zs b:=JIF (fun y _ e=>lt_tr e h) ⟨a,ha,h,JK4 a⟩
theorem JMj {zs:List Str} {a b:Str} (ha:a∈zs) (hb:b∈zs):ltS a b=decide (rk zs a<rk zs b):=by
 cases h:ltS a b with
 | true=>exact (decide_eq_true (JPj ha h)).symm
 | false =>
  refine (q_o ?_).symm
  cases h':ltS b a with
  | true=>have:=JPj hb h';omega
  | false=>rw [JHu h h'];omega
theorem JLP {zs:List Str} {a b:Str} (ha:a∈zs) (hb:b∈zs) (h:rk zs a=rk zs b):a=b:=by
 refine JHu ?_ ?_
 ·rw [JMj ha hb];exact q_o (by omega)
 ·rw [JMj hb ha];exact q_o (by omega)
theorem rk_n {zs:List Str} {a:Str} (ha:a∈zs):rk zs a<zs.length:=by
 have:=JIF (p:=fun y=>ltS y a) (q:=fun _=>true) (l:=zs) (fun _ _ _=>rfl) ⟨a,ha,rfl,JK4 a⟩
 rwa [show (zs.countP fun _=>true)=zs.length by simp] at this
theorem JHp {α:Type} {f:α->Nat}:∀ {L L':List α},(∀a∈L,∀b∈L',f a=f b->a=b)->L.map f=L'.map f->L=L'
 | [],[],_,_=>rfl
 | [],b::r,_,h=>by simp at h
 | a::r,[],_,h=>by simp at h
 | a::r,b::t,hi,h=>by
  simp only [List.map_cons,List.cons.injEq] at h
  rw [hi a (by simp) b (by simp) h.1,JHp (fun x hx y hy=>hi x (by simp [hx]) y (by simp [hy])) h.2]
theorem core {zs:List Str} (hp:zs.Nodup) (l2:2<=zs.length) (l5:zs.length<=7):(∀a∈JAk zs,a∈zs)/\(JAk zs).map (rk zs)=List.range zs.length:=by
 have gt:∀i,i<zs.length->∃a∈zs,zs.getD i ""=a/\(zs.map (rk zs)).getD i zs.length=rk zs a:=fun i hi=>by
  refine ⟨zs[i],List.getElem_mem hi,?_,?_⟩<;>simp [List.getD_eq_getElem?_getD,hi]
 have nd:(zs.map (rk zs)).Nodup:=by
  unfold List.Nodup
  rw [List.pairwise_map]
  exact List.Pairwise.imp_of_mem (fun ha hb h e=>h (JLP ha hb e)) hp
 have ck:=JMy l2 l5 (r:=zs.map (rk zs)) (by simp) nd fun a ha=>by
  obtain ⟨m,hm,rfl⟩:=List.mem_map.mp ha
  exact rk_n hm
 unfold chk at ck
 have ck:=eq_of_beq ck
 have ek:kGo (fun i j=>ltS (zs.getD i "") (zs.getD j "")) (kas_sort zs.length)=kGo (fun i j=>decide ((zs.map (rk zs)).getD i zs.length<(zs.map (rk zs)).getD j zs.length)) (kas_sort zs.length) :=
  JF5 (fun i j hi hj=>by
   obtain ⟨a,ha,a2,a4⟩:=gt i hi
   obtain ⟨b,hb,b2,b4⟩:=gt j hj
   simp only [a2,b2,a4,b4]
   exact JMj ha hb) _ (JNK l2 l5)
 have es:JAk zs=(kGo (fun i j=>decide ((zs.map (rk zs)).getD i zs.length<(zs.map (rk zs)).getD j zs.length)) (kas_sort zs.length)).toList.map fun i=>zs.getD i "":=by
  unfold JAk
  rw [if_neg (by omega),ek]
 generalize (kGo (fun i j=>decide ((zs.map (rk zs)).getD i zs.length<(zs.map (rk zs)).getD j zs.length)) (kas_sort zs.length)).toList=p at ck es
 have hin:∀i∈p,i<zs.length:=fun i hi=>by
  have:(zs.map (rk zs)).getD i zs.length∈List.range zs.length:=by rw [<-ck];exact List.mem_map.mpr ⟨i,hi,rfl⟩
  have:=List.mem_range.mp this
  by_cases o:i<zs.length
  ·exact o
  ·rw [List.getD_eq_getElem?_getD,List.getElem?_eq_none (by simp;omega)] at this
   simp at this
 rw [es]
 refine ⟨fun a ha=>?_,?_⟩
 ·obtain ⟨i,hi,rfl⟩:=List.mem_map.mp ha
  obtain ⟨a,ha,a1,_⟩:=gt i (hin i hi)
  rw [a1];exact ha
 ·rw [<-ck,List.map_map]
  refine List.map_congr_left fun i hi=>?_
  obtain ⟨a,_,a1,a4⟩:=gt i (hin i hi)
  simp only [Function.comp]
  rw [a4,a1]
theorem sort_perm {zs zs':List Str} (p:zs'.Perm zs) (hp:zs.Nodup) (l5:zs.length<=7):JAk zs'=JAk zs:=by
 by_cases l2:2<=zs.length
 ·have pl:=p.length_eq
  obtain ⟨m1,r1⟩:=core hp l2 l5
  obtain ⟨m2,r2⟩:=core (p.nodup_iff.mpr hp) (by omega) (by omega)
  have er:rk zs'=rk zs:=funext fun a=>p.countP_eq _
  rw [er,pl,<-r1] at r2
  exact JHp (fun a ha b hb=>JLP (p.mem_iff.mp (m2 a ha)) (m1 b hb)) r2
 ·have:zs'=zs:=by
   match zs,l2,p with
   | [],_,p=>exact List.perm_nil.mp p
   | [a],_,p=>exact List.perm_singleton.mp p
   | _::_::_,l2,_=>exact absurd (by simp) l2
  rw [this]
theorem ded_nd:∀xs:List Str,(dedS xs).Nodup
 | []=>List.nodup_nil
 | x::r=>by
  unfold dedS
  split
  ·exact ded_nd r
  ·rename_i h;exact List.nodup_cons.mpr ⟨h,ded_nd r⟩
theorem ded_mem {x:Str}:∀ {xs:List Str},x∈dedS xs↔x∈xs
 | []=>Iff.rfl
 | y::r=>by
  unfold dedS
  have ih:=ded_mem (x:=x) (xs:=r)
  split
  ·rename_i h
   rw [ih,q_n]
   exact ⟨.inr,fun z=>z.elim (fun z=>z▸ded_mem.mp h) id⟩
  ·rw [q_n,q_n,ih]
end So
end VI
end
section
namespace VI
open PySem PySem.Spec PyProof.Rows L2
namespace Ft
theorem JFq:Manifest.owners.lookup (String.ofList ['r','o','t','a','r','e','t','i','_','t','e','s'].reverse)=some Manifest.sig_set_iterator:=by kernel_rfl
theorem slot_si_next:Slot "set_iterator" "__next__" "set_iterator.__next__" :=
 .of (owner:="set_iterator") (n:="__next__") (by rw [typeLookup_type,builtinLookup_eq_fast];kernel_rfl) (by decide +kernel) (by decide +kernel) (by decide +kernel)
  (by first | exact .inl (by decide +kernel) | exact .inr (by decide +kernel)) (by rw [isSubtype_type];kernel_rfl)
theorem entry_si_next:entryFor table "set_iterator.__next__"=some Builtin.«set_iterator.__next__»:=entryFor_of_tree (by kernel_rfl)
theorem args_si_next_1 (a:Value):argsOk "set_iterator.__next__" ⟨[a],[]⟩:=by
 unfold argsOk;rw [signature?_of (id:="set_iterator.__next__") (n:=['_','_','t','x','e','n','_','_']) (o:=['r','o','t','a','r','e','t','i','_','t','e','s']) (by kernel_rfl) JFq];kernel_rfl
theorem slot_si_iter:Slot "set_iterator" "__iter__" "set_iterator.__iter__" :=
 .of (owner:="set_iterator") (n:="__iter__") (by rw [typeLookup_type,builtinLookup_eq_fast];kernel_rfl) (by decide +kernel) (by decide +kernel) (by decide +kernel)
  (by first | exact .inl (by decide +kernel) | exact .inr (by decide +kernel)) (by rw [isSubtype_type];kernel_rfl)
theorem args_si_iter_1 (a:Value):argsOk "set_iterator.__iter__" ⟨[a],[]⟩:=by
 unfold argsOk;rw [signature?_of (id:="set_iterator.__iter__") (n:=['_','_','r','e','t','i','_','_']) (o:=['r','o','t','a','r','e','t','i','_','t','e','s']) (by kernel_rfl) JFq];kernel_rfl
theorem entry_si_iter:entryFor table "set_iterator.__iter__"=some Builtin.«dict_keyiterator.__iter__» :=
 entryFor_alias (id':="dict_keyiterator.__iter__") (by kernel_rfl) (by first | rfl | decide +kernel | (unfold String.splitOn;simp +decide [String.splitOnAux])) (by decide +kernel) (by kernel_rfl)
theorem owner_set:Manifest.owners.lookup (String.ofList ['t','e','s'].reverse)=some Manifest.sig_set:=by kernel_rfl
theorem slot_set_iter:Slot "set" "__iter__" "set.__iter__" :=
 .of (owner:="set") (n:="__iter__") (by rw [typeLookup_type,builtinLookup_eq_fast];kernel_rfl) (by decide +kernel) (by decide +kernel) (by decide +kernel)
  (by first | exact .inl (by decide +kernel) | exact .inr (by decide +kernel)) (by rw [isSubtype_type];kernel_rfl)
theorem args_set_iter_1 (a:Value):argsOk "set.__iter__" ⟨[a],[]⟩:=by
 unfold argsOk;rw [signature?_of (id:="set.__iter__") (n:=['_','_','r','e','t','i','_','_']) (o:=['t','e','s']) (by kernel_rfl) owner_set];kernel_rfl
theorem entry_set_iter:entryFor table "set.__iter__"=some Builtin.«frozenset.__iter__» :=
 entryFor_alias (id':="frozenset.__iter__") (by kernel_rfl) (by first | rfl | decide +kernel | (unfold String.splitOn;simp +decide [String.splitOnAux])) (by decide +kernel) (by kernel_rfl)
theorem len_set:typeLookup (.type "set") "__len__"=pure (some (.builtin "set.__len__")):=by rw [typeLookup_type,builtinLookup_eq_fast];kernel_rfl
end Ft
section
variable {prog:Program} {w:World} {A:Around} {E:Value->Shared->Prop} {s:Shared}
theorem JFl {α:Type}:∀ {l:List α} {i:Nat} (h:i<l.length),(l[i]::l.eraseIdx i).Perm l
 | [],i,h=>by simp at h
 | a::l,0,h=>by simp
 | a::l,i+1,h=>by
  simp only [List.getElem_cons_succ,List.eraseIdx_cons_succ]
  exact (List.Perm.swap _ _ _).trans (List.Perm.cons a (JFl (by simpa using h)))
theorem JGk {src:Source} {n:Nat} {Q:Nat->Shared->Prop} (hn:n≠0) (h:∀i d,i<n->Q i { s with drawn:=d }):wpAny (model prog w) A (choose src n) Q E s:=by
 intro Γ p hΓ
 unfold choose
 rw [Sem.wp_choose]
 exact ⟨hn,by rw [Sem.wp_pure];exact h _ _ (Nat.mod_lt _ (Nat.pos_of_ne_zero hn))⟩
theorem JEd {α:Type}:∀(n:Nat) (xs:List α) {s:Shared} {Q:List α->Shared->Prop},n=xs.length->(∀ys d,ys.Perm xs->Q ys { s with drawn:=d })->wpAny (model prog w) A (drawOrder n xs) Q E s
 | 0,xs,s,Q,hn,h=>by
  have:xs=[]:=q_A.mp hn.symm
  subst this
  exact q_e (h [] s.drawn (List.Perm.refl _))
 | n+1,[],s,Q,hn,h=>by simp at hn
 | n+1,x::xs,s,Q,hn,h=>by
  simp only [drawOrder]
  refine q_b (JGk (by simp) fun i d hi=>?_)
  rw [q_q hi]
  have hl:((x::xs).eraseIdx i).length=n:=by rw [List.length_eraseIdx_of_lt hi];simp only [List.length_cons] at hn ⊢;omega
  refine q_b (JEd n _ hl.symm fun ys d' p=>?_)
  refine q_e (h _ d' ?_)
  exact (List.Perm.cons _ p).trans (JFl hi)
theorem JEJ {α:Type} (next:Nat->Nat):∀(n k:Nat) (left:List α) (out:Array α),n=left.length->∃ys,ys.Perm left/\(pickOrder.go next n k left out).toList=out.toList++ys
 | 0,k,left,out,hn=>by
  have:left=[]:=q_A.mp hn.symm
  subst this
  exact ⟨[],List.Perm.refl _,by simp [pickOrder.go]⟩
 | n+1,k,left,out,hn=>by
  have hi:next k % left.length<left.length:=Nat.mod_lt _ (by omega)
  have hl:(left.eraseIdx (next k % left.length)).length=n:=by rw [List.length_eraseIdx_of_lt hi];omega
  obtain ⟨ys,p,e⟩:=JEJ next n (k+1) (left.eraseIdx (next k % left.length)) (out.push left[next k % left.length]) hl.symm
  refine ⟨left[next k % left.length]::ys,(List.Perm.cons _ p).trans (JFl hi),?_⟩
  simp only [pickOrder.go]
  rw [q_q hi]
  simp only
  rw [e]
  simp
theorem JGe {α:Type} (next:Nat->Nat) (xs:Array α):(pickOrder next xs).toList.Perm xs.toList:=by
 obtain ⟨ys,p,e⟩:=JEJ next xs.size 0 xs.toList #[] (by simp)
 unfold pickOrder
 rw [e]
 simpa using p
end
end VI
end
section
namespace VI
open PySem PySem.Spec PyProof.Rows L2
def IsSI (h:Heap) (I:Addr) (first:Value) (i:Int) (a:Addr) (n ep:Nat):Prop:=∃o,h.get? I=some o/\o.cls=.type "set_iterator"/\o.data=.fields #[first,rawInt i,.ref a,rawInt n,rawInt ep]
theorem IsSI.ty {s:Shared} {I a:Addr} {first:Value} {i:Int} {n ep:Nat} (x:IsSI s.heap I first i a n ep):s.TypeIs (.ref I) "set_iterator":=let ⟨o,ho,hc,_⟩:=x;⟨o,ho,hc⟩
theorem IsSI.at {h h':Heap} {I a:Addr} {first:Value} {i:Int} {n ep:Nat} (x:IsSI h I first i a n ep) (e:∀o,h.get? I=some o->h'.get? I=some o):IsSI h' I first i a n ep:=let ⟨o,ho,r⟩:=x;⟨o,e _ ho,r⟩
structure SetAt (h:Heap) (a:Addr) (so:Obj) (es:Array (Int×Value)) (ep:Nat) (t:SetTable):Prop where
 get:h.get? a=some so
 cls:so.cls=.type "set"
 data:so.data=.set es ep t
 fits:t.fits es.size=true
theorem SetAt.at {h h':Heap} {a:Addr} {so:Obj} {es:Array (Int×Value)} {ep:Nat} {t:SetTable} (x:SetAt h a so es ep t) (e:∀o,h.get? a=some o->h'.get? a=some o):SetAt h' a so es ep t:=⟨e _ x.get,x.cls,x.data,x.fits⟩
section
variable {prog:Program} {w:World} {A:Around} {E:Value->Shared->Prop} {s:Shared} {I a:Addr} {so:Obj} {es:Array (Int×Value)} {ep:Nat} {t:SetTable} {i:Nat}
def byT (w:World):Bool:=w.params.followText "set-order"
theorem JBy {Q:Bool->Shared->Prop} (h:Q (byT w) s):wpAny (model prog w) A setsByText Q E s:=by
 unfold setsByText
 exact q_b (wpAny_askSetting (q_e h))
theorem JCz {slot nxt:Nat} {x:Value} {Q:Option Value->Shared->Prop} (hit:IsSI s.heap I (rawInt slot) i a es.size ep) (hs:SetAt s.heap a so es ep t)
  (hn:∀(Q':Option (Value×Nat)->Shared->Prop) (E':Value->Shared->Prop),Q' (some (x,nxt)) s->wpAny (model prog w) A.in1 (setNext a slot i ep) Q' E' s)
  (hQ:∀h',IsSI h' I (rawInt nxt) ((i+1:Nat):Int) a es.size ep->Heap.SameBut I s.heap h'->Q (some x) { s with heap:=h' }):wpAny (model prog w) A (pyNext (.ref I)) Q E s:=by
 obtain ⟨o,ho,hc,hd⟩:=id hit
 unfold pyNext
 refine q_b (wpAny_attempt (wpAny_callSpecial?_slot (name:=Str.ofString "__next__") hit.ty Ft.slot_si_next
  (wpAny_call_entry Ft.slot_si_next hit.ty Ft.entry_si_next ?_ (Ft.args_si_next_1 _))))
 unfold Builtin.«set_iterator.__next__»
 refine q_b (wpAny_of_eq (a:=(Value.ref I,[])) rfl ?_)
 try dsimp only
 refine q_b (wpAny_fieldsOf ho hd ?_)
 show wpAny _ _ (setEntries a >>= _) _ _ s
 refine q_b (wpAny_setEntries_of hs.get hs.data hs.fits ?_)
 rw [if_neg (by simp)]
 show wpAny _ _ (setNext a (slot:Int).toNat (i:Int).toNat (ep:Int).toNat >>= _) _ _ s
 simp only [Int.toNat_natCast]
 refine q_b (hn _ _ ?_)
 dsimp only
 refine q_b (wpAny_setField ho hd (by simp) ?_)
 have g1:=Heap.get?_update_self (Obj.mapFields (·.setIfInBounds 0 (rawInt nxt))) ho (Obj.isFreed_of_fields (Obj.data_mapFields hd _))
 have d1:=Obj.data_mapFields hd (·.setIfInBounds 0 (rawInt nxt))
 refine q_b (wpAny_setField g1 d1 (by simp) ?_)
 refine q_e ⟨x,rfl,q_e (hQ _ ?_ ((Heap.SameBut.update ..).trans (Heap.SameBut.update ..)))⟩
 refine ⟨_,Heap.get?_update_self _ g1 (Obj.isFreed_of_fields (Obj.data_mapFields d1 _)),(Obj.cls_mapFields ..).trans ((Obj.cls_mapFields ..).trans hc),?_⟩
 rw [Obj.data_mapFields d1]
 simp
theorem JF8 {h1:Heap} (hh:A.handled=none) {Q:Option Value->Shared->Prop} (hQ:∀h',(∀b o,h1.get? b=some o->h'.get? b=some o)->Q none { s with heap:=h' }) :
  wpAny (model prog w) A.in1 (do raiseNew (<-newExc (.type "StopIteration") []))
   (fun r s'=>∃v,r=PySem.Fin.done (Flow.ret v)/\wpAny (model prog w) A (pure (some v)) Q E s')
   (fun e s'=>wpAny (model prog w) A (do if (<-isInstance e (.type "StopIteration"))=true then pure none else throw e) Q E s') { s with heap:=h1 }:=by
 refine q_b ?_
 simp only [newExc,newTuple]
 refine q_b (wpAny_newObj_type ?_ (by size_fits))
 refine q_b (m:=firstArgMember _ _) (wpAny_of_eq (a:=Value.none) (by first | rfl | (simp only [firstArgMember];rfl)) ?_)
 refine wpAny_newObj_type ?_ (by size_fits)
 simp only [raiseNew]
 refine q_b (wpAny_handled ?_)
 first | rw [show A.in1.handled=none from hh] | rw [hh]
 refine q_b (q_e (wpAny_throw ?_))
 refine q_b (wpAny_isInstance (T:="StopIteration") (b:=true) ⟨_,q_k _ rfl,rfl⟩ isSubtype_stop ?_)
 exact q_e (hQ _ fun b o e=>q_c _ (q_c _ e))
theorem JDZ {slot:Nat} {Q:Option Value->Shared->Prop} (hh:A.handled=none) (hit:IsSI s.heap I (rawInt slot) i a es.size ep) (hs:SetAt s.heap a so es ep t)
  (hn:∀(Q':Option (Value×Nat)->Shared->Prop) (E':Value->Shared->Prop),Q' none s->wpAny (model prog w) A.in1 (setNext a slot i ep) Q' E' s)
  (hQ:∀h',(∀b o,b≠I->s.heap.get? b=some o->h'.get? b=some o)->Q none { s with heap:=h' }):wpAny (model prog w) A (pyNext (.ref I)) Q E s:=by
 obtain ⟨o,ho,hc,hd⟩:=id hit
 unfold pyNext
 refine q_b (wpAny_attempt (wpAny_callSpecial?_slot (name:=Str.ofString "__next__") hit.ty Ft.slot_si_next
  (wpAny_call_entry Ft.slot_si_next hit.ty Ft.entry_si_next ?_ (Ft.args_si_next_1 _))))
 unfold Builtin.«set_iterator.__next__»
 refine q_b (wpAny_of_eq (a:=(Value.ref I,[])) rfl ?_)
 try dsimp only
 refine q_b (wpAny_fieldsOf ho hd ?_)
 show wpAny _ _ (setEntries a >>= _) _ _ s
 refine q_b (wpAny_setEntries_of hs.get hs.data hs.fits ?_)
 rw [if_neg (by simp)]
 show wpAny _ _ (setNext a (slot:Int).toNat (i:Int).toNat (ep:Int).toNat >>= _) _ _ s
 simp only [Int.toNat_natCast]
 refine q_b (hn _ _ ?_)
 dsimp only
 refine q_b (wpAny_setField ho hd (by simp) ?_)
 refine JF8 hh fun h' hk=>hQ h' fun b o hb e=>hk b o ?_
 exact ((Heap.SameBut.update s.heap I _).2 b hb).trans e
theorem JDs {T:Addr} {to:Obj} {c place:Nat} {ps:Array Value} {x:Value} {z:Int} {Q:Option Value->Shared->Prop} (hit:IsSI s.heap I (.ref T) i a es.size ep) (hs:SetAt s.heap a so es ep t)
  (hT:s.heap.get? T=some to) (hTd:to.data=.seq ps c) (hp:ps[i]? = some (rawInt place)) (hx:es[place]? = some (z,x))
  (hQ:∀h',IsSI h' I (.ref T) ((i+1:Nat):Int) a es.size ep->Heap.SameBut I s.heap h'->Q (some x) { s with heap:=h' }):wpAny (model prog w) A (pyNext (.ref I)) Q E s:=by
 obtain ⟨o,ho,hc,hd⟩:=id hit
 unfold pyNext
 refine q_b (wpAny_attempt (wpAny_callSpecial?_slot (name:=Str.ofString "__next__") hit.ty Ft.slot_si_next
  (wpAny_call_entry Ft.slot_si_next hit.ty Ft.entry_si_next ?_ (Ft.args_si_next_1 _))))
 unfold Builtin.«set_iterator.__next__»
 refine q_b (wpAny_of_eq (a:=(Value.ref I,[])) rfl ?_)
 try dsimp only
 refine q_b (wpAny_fieldsOf ho hd ?_)
 show wpAny _ _ (setEntries a >>= _) _ _ s
 refine q_b (wpAny_setEntries_of hs.get hs.data hs.fits ?_)
 rw [if_neg (by simp)]
 show wpAny _ _ (seqItems? (.ref T) >>= _) _ _ s
 refine q_b (wpAny_seqItems hT hTd ?_)
 simp only [Int.toNat_natCast,hp]
 show wpAny _ _ (setNextDrawn a (place:Int).toNat (ep:Int).toNat >>= _) _ _ s
 simp only [Int.toNat_natCast]
 refine q_b ?_
 unfold setNextDrawn
 refine q_b (wpAny_setState_of hs.get hs.data hs.fits ?_)
 dsimp only
 rw [if_neg (by simp),hx]
 refine q_e ?_
 refine q_b (wpAny_setField ho hd (by simp) ?_)
 refine q_e ⟨x,rfl,q_e (hQ _ ?_ (Heap.SameBut.update ..))⟩
 refine ⟨_,Heap.get?_update_self _ ho (Obj.isFreed_of_fields (Obj.data_mapFields hd _)),(Obj.cls_mapFields ..).trans hc,?_⟩
 rw [Obj.data_mapFields hd]
 simp
theorem JEN {T:Addr} {to:Obj} {c:Nat} {ps:Array Value} {Q:Option Value->Shared->Prop} (hh:A.handled=none) (hit:IsSI s.heap I (.ref T) i a es.size ep) (hs:SetAt s.heap a so es ep t)
  (hT:s.heap.get? T=some to) (hTd:to.data=.seq ps c) (hp:ps[i]? = none)
  (hQ:∀h',(∀b o,b≠I->s.heap.get? b=some o->h'.get? b=some o)->Q none { s with heap:=h' }):wpAny (model prog w) A (pyNext (.ref I)) Q E s:=by
 obtain ⟨o,ho,hc,hd⟩:=id hit
 unfold pyNext
 refine q_b (wpAny_attempt (wpAny_callSpecial?_slot (name:=Str.ofString "__next__") hit.ty Ft.slot_si_next
  (wpAny_call_entry Ft.slot_si_next hit.ty Ft.entry_si_next ?_ (Ft.args_si_next_1 _))))
 unfold Builtin.«set_iterator.__next__»
 refine q_b (wpAny_of_eq (a:=(Value.ref I,[])) rfl ?_)
 try dsimp only
 refine q_b (wpAny_fieldsOf ho hd ?_)
 show wpAny _ _ (setEntries a >>= _) _ _ s
 refine q_b (wpAny_setEntries_of hs.get hs.data hs.fits ?_)
 rw [if_neg (by simp)]
 show wpAny _ _ (seqItems? (.ref T) >>= _) _ _ s
 refine q_b (wpAny_seqItems hT hTd ?_)
 simp only [Int.toNat_natCast,hp]
 refine q_b (wpAny_setField ho hd (by simp) ?_)
 have g1:=Heap.get?_update_self (Obj.mapFields (·.setIfInBounds 0 (rawInt 0))) ho (Obj.isFreed_of_fields (Obj.data_mapFields hd _))
 have d1:=Obj.data_mapFields hd (·.setIfInBounds 0 (rawInt 0))
 refine q_b (wpAny_setField g1 d1 (by simp) ?_)
 refine JF8 hh fun h' hk=>hQ h' fun b o hb e=>hk b o ?_
 exact (((Heap.SameBut.update s.heap I _).trans (Heap.SameBut.update _ I _)).2 b hb).trans e
theorem JIj (hs:SetAt s.heap a so es ep t) (hB:byT w=true) {Q:Array (Int×Value)->Shared->Prop} (h:Q (pickOrder (w.params.setOrder a ep) es) s):wpAny (model prog w) A (setWalk a) Q E s:=by
 unfold setWalk
 refine q_b (wpAny_setState_of hs.get hs.data hs.fits ?_)
 dsimp only
 refine q_b (JBy ?_)
 rw [hB,if_pos rfl]
 exact q_b (wpAny_askSetting (q_e h))
theorem JIV {slot:Nat} (hs:SetAt s.heap a so es ep t) (hB:byT w=true) {Q:Option (Value×Nat)->Shared->Prop} (h:Q (((pickOrder (w.params.setOrder a ep) es)[i]?).map fun e=>(e.2,slot)) s):wpAny (model prog w) A (setNext a slot i ep) Q E s:=by
 unfold setNext
 refine q_b (wpAny_setState_of hs.get hs.data hs.fits ?_)
 dsimp only
 refine q_b (JBy ?_)
 rw [hB,if_pos rfl,if_neg (by simp)]
 exact q_b (JIj hs hB (q_e h))
theorem JL0 {slot:Nat} (hs:SetAt s.heap a so es ep t) (hB:byT w=false) (he:es.size<=1) (hl:t.led=true) {Q:Option (Value×Nat)->Shared->Prop}
  (h:Q (match es[SetTable.below t.place slot]?,t.place[SetTable.below t.place slot]? with | some (_,x),some j=>some (x,j+1) | _,_=>none) s):wpAny (model prog w) A (setNext a slot i ep) Q E s:=by
 unfold setNext
 refine q_b (wpAny_setState_of hs.get hs.data hs.fits ?_)
 dsimp only
 refine q_b (JBy ?_)
 rw [hB,if_neg (by decide)]
 have hd:(!t.plain&&decide (es.size > 1))=false:=by rw [show decide (es.size > 1)=false from q_o (by omega),Bool.and_false]
 split
 ·rename_i hx
  have hx:(!t.plain&&decide (es.size > 1))=true:=hx
  rw [hd] at hx;cases hx
 ·refine q_b ?_
  show wpAny _ _ (if (!t.led&&!es.isEmpty)=true then unsupported "set:maker-not-led" else pure ()) _ _ _
  rw [hl,Bool.not_true,Bool.false_and,if_neg (by decide)]
  exact q_e (q_e h)
theorem JJX (hs:SetAt s.heap a so es ep t) (hz:es.size<=100)
  {Q:Value->Shared->Prop}
  (h1:(byT w=true\/(t.plain=true\/es.size<=1))->Q (.ref s.heap.objs.size) { s with heap:=s.heap.push { cls:=.type "set_iterator",data:=.fields #[rawInt 0,rawInt 0,.ref a,rawInt es.size,rawInt ep] } })
  (h2:byT w=false->t.plain=false->∀(ord:List Nat) d,ord.Perm (List.range es.size)->Q (.ref (s.heap.objs.size+1)) { s with drawn:=d,heap:=(s.heap.push { cls:=.type "tuple",data:=.seq (ord.map fun i:Nat=>rawInt i).toArray }).push { cls:=.type "set_iterator",data:=.fields #[.ref s.heap.objs.size,rawInt 0,.ref a,rawInt es.size,rawInt ep] } }) :
  wpAny (model prog w) A (pyIter (.ref a)) Q E s:=by
 have hT:s.TypeIs (.ref a) "set":=⟨so,hs.get,hs.cls⟩
 refine wpAny_pyIter_slot hT Ft.slot_set_iter (wpAny_call_entry Ft.slot_set_iter hT Ft.entry_set_iter ?_ (Ft.args_set_iter_1 _))
 unfold Builtin.«frozenset.__iter__»
 refine q_b (wpAny_of_eq (a:=a) rfl ?_)
 refine q_b ?_
 unfold Builtin.Frozenset.sizeOf
 refine q_b (wpAny_setEntries_of hs.get hs.data hs.fits (q_e ?_))
 refine q_b ?_
 unfold setDrawn
 refine q_b (wpAny_setState_of hs.get hs.data hs.fits ?_)
 dsimp only
 refine q_b (JBy (q_e ?_))
 show wpAny _ _ (if (!byT w&&(!t.plain&&decide (es.size > 1)))=true then _ else _) _ _ _
 by_cases hd:(!byT w&&(!t.plain&&decide (es.size > 1)))=true
 ·rw [if_pos hd]
  simp only [q_i,Bool.not_eq_true',q_C] at hd
  refine q_b (JEd es.size (List.range es.size) (by simp) fun ord d po=>?_)
  refine q_b (wpAny_newTuple ?_ ?_)
  rotate_left
  · rw [q_g,po.length_eq,List.length_range,sizeLine_eq];omega
  dsimp only
  have hs1:SetAt (s.heap.push { cls:=.type "tuple",data:=.seq (ord.map fun i:Nat=>rawInt i).toArray }) a so es ep t:=hs.at fun o e=>q_c _ e
  refine q_b ?_
  unfold setEpoch
  refine q_b (wpAny_setState_of hs1.get hs1.data hs1.fits (q_e ?_))
  refine q_b (m:=newFields _ _) (wpAny_newObj_type ?_ (by size_fits))
  refine q_e ⟨_,rfl,"set_iterator",_,⟨_,q_k _ rfl,rfl⟩,Ft.slot_si_next.lookup,?_⟩
  rw [Heap.size_push]
  exact h2 hd.1 hd.2.1 ord d po
 ·rw [if_neg hd]
  refine q_b (q_e ?_)
  refine q_b ?_
  unfold setEpoch
  refine q_b (wpAny_setState_of hs.get hs.data hs.fits (q_e ?_))
  refine q_b (m:=newFields _ _) (wpAny_newObj_type ?_ (by size_fits))
  refine q_e ⟨_,rfl,"set_iterator",_,⟨_,q_k _ rfl,rfl⟩,Ft.slot_si_next.lookup,?_⟩
  refine h1 ?_
  cases hb:byT w
  · right
    rw [hb] at hd
    cases hp:t.plain
    ·right
     rw [hp] at hd
     simp only [Bool.not_false,Bool.true_and,q_C] at hd
     omega
    ·exact .inl rfl
  · exact .inl rfl
end
end VI
end
section
namespace VI
open PySem PySem.Spec PyProof.Rows L2
section
variable {prog:Program} {w:World} {A:Around} {E:Value->Shared->Prop} {s:Shared} {I a:Addr} {so:Obj} {es:Array (Int×Value)} {ep:Nat} {t:SetTable} {i:Nat}
theorem JOM (hh:A.handled=none) (hne:a≠I) (hB:byT w=true):Walks prog w A I [I,a] [I] (pickOrder (w.params.setOrder a ep) es).size (fun i v=>((pickOrder (w.params.setOrder a ep) es)[i]?).map (·.2)=some v) (fun i h=>IsSI h I (rawInt 0) i a es.size ep/\SetAt h a so es ep t) where
 sub:=fun b hb=>by simp at hb;simp [hb]
 frame:=fun _ _ _ st hk=>⟨st.1.at fun o e=>hk I (by simp) o e,st.2.at fun o e=>hk a (by simp) o e⟩
 item:=fun i s Q E hi st hQ=>by
  have hg:(pickOrder (w.params.setOrder a ep) es)[i]? = some (pickOrder (w.params.setOrder a ep) es)[i]:=Array.getElem?_eq_getElem hi
  refine JCz (slot:=0) (nxt:=0) (x:=((pickOrder (w.params.setOrder a ep) es)[i]).2) st.1 st.2 (fun Q' E' q=>JIV st.2 hB (by rw [hg];exact q)) fun h' st' sb=>?_
  exact hQ _ h' s.toks (by rw [hg];rfl) ⟨st',st.2.at fun o e=>(sb.2 a hne).trans e⟩ fun b o hb e=>(sb.2 b fun z=>hb (by simp [z])).trans e
 done:=fun s Q E st hQ=>by
  refine JDZ (slot:=0) hh st.1 st.2 (fun Q' E' q=>JIV st.2 hB (by rw [Array.getElem?_eq_none (q_t _)];exact q)) fun h' hk=>?_
  exact hQ h' s.toks fun b o hb e=>hk b o (fun z=>hb (by simp [z])) e
 self:=fun _ s _ _ st hQ=>by
  refine wpAny_pyIter_slot st.1.ty Ft.slot_si_iter (wpAny_call_entry Ft.slot_si_iter st.1.ty Ft.entry_si_iter ?_ (Ft.args_si_iter_1 _))
  show wpAny _ _ (ret (.ref I)) _ _ s
  exact q_e ⟨_,rfl,"set_iterator",_,st.1.ty,Ft.slot_si_next.lookup,hQ⟩
theorem JMs {T:Addr} {to:Obj} {c:Nat} {ord:List Nat} (hh:A.handled=none) (hne:a≠I) (hnT:T≠I) (hTd:to.data=.seq (ord.map fun i:Nat=>rawInt i).toArray c) (ho:ord.Perm (List.range es.size)) :
  Walks prog w A I [I,a,T] [I] es.size (fun i v=>(ord[i]?.bind fun p=>es[p]?).map (·.2)=some v) (fun i h=>IsSI h I (.ref T) i a es.size ep/\SetAt h a so es ep t/\h.get? T=some to) where
 sub:=fun b hb=>by simp at hb;simp [hb]
 frame:=fun _ _ _ st hk=>⟨st.1.at fun o e=>hk I (by simp) o e,st.2.1.at fun o e=>hk a (by simp) o e,hk T (by simp) _ st.2.2⟩
 item:=fun i s Q E hi st hQ=>by
  have hl:ord.length=es.size:=by rw [ho.length_eq,List.length_range]
  have hi':i<ord.length:=by omega
  have hp:ord[i]<es.size:=List.mem_range.mp (ho.mem_iff.mp (List.getElem_mem hi'))
  have g1:ord[i]? = some ord[i]:=q_q hi'
  have g2:es[ord[i]]? = some es[ord[i]]:=Array.getElem?_eq_getElem hp
  refine JDs (place:=ord[i]) (z:=(es[ord[i]]).1) (x:=(es[ord[i]]).2) st.1 st.2.1 st.2.2 hTd (by simp [g1]) g2 fun h' st' sb=>?_
  exact hQ _ h' s.toks (by rw [g1,Option.bind_some,g2];rfl) ⟨st',st.2.1.at fun o e=>(sb.2 a hne).trans e,(sb.2 T hnT).trans st.2.2⟩ fun b o hb e=>(sb.2 b fun z=>hb (by simp [z])).trans e
 done:=fun s Q E st hQ=>by
  have hl:ord.length=es.size:=by rw [ho.length_eq,List.length_range]
  refine JEN hh st.1 st.2.1 st.2.2 hTd (by simp;omega) fun h' hk=>?_
  exact hQ h' s.toks fun b o hb e=>hk b o (fun z=>hb (by simp [z])) e
 self:=fun _ s _ _ st hQ=>by
  refine wpAny_pyIter_slot st.1.ty Ft.slot_si_iter (wpAny_call_entry Ft.slot_si_iter st.1.ty Ft.entry_si_iter ?_ (Ft.args_si_iter_1 _))
  show wpAny _ _ (ret (.ref I)) _ _ s
  exact q_e ⟨_,rfl,"set_iterator",_,st.1.ty,Ft.slot_si_next.lookup,hQ⟩
theorem JK1 {xs:Array Nat} (h:xs.size<=1):SetTable.below xs 0=0:=by
 unfold SetTable.below
 obtain e | e:xs.size=0\/xs.size=1:=by omega
 ·rw [e];rfl
 ·rw [e]
  simp [SetTable.below.go]
theorem JQO {xs:Array Nat} {j:Nat} (h:xs.size=1) (hj:xs[0]? = some j):SetTable.below xs (j+1)=1:=by
 unfold SetTable.below
 rw [h]
 simp [SetTable.below.go,Array.getD_eq_getD_getElem?,hj]
theorem W_one (hh:A.handled=none) (hne:a≠I) (hB:byT w=false) (he:es.size<=1) (hl:t.led=true) (hf:t.place.size=es.size) :
  Walks prog w A I [I,a] [I] es.size (fun i v=>es[i]?.map (·.2)=some v) (fun i h=>∃slot:Nat,IsSI h I (rawInt slot) i a es.size ep/\SetAt h a so es ep t/\((i=0/\slot=0)\/(i=1/\∃j,t.place[0]? = some j/\slot=j+1))) where
 sub:=fun b hb=>by simp at hb;simp [hb]
 frame:=fun _ _ _ ⟨slot,st1,st2,st3⟩ hk=>⟨slot,st1.at fun o e=>hk I (by simp) o e,st2.at fun o e=>hk a (by simp) o e,st3⟩
 item:=fun i s Q E hi ⟨slot,st1,st2,st3⟩ hQ=>by
  have i0:i=0:=by omega
  subst i0
  have s0:slot=0:=by
   rcases st3 with ⟨_,z⟩ | ⟨z,_⟩
   ·exact z
   ·cases z
  subst s0
  have hp:0<t.place.size:=by omega
  have g1:es[0]? = some es[0]:=Array.getElem?_eq_getElem hi
  have g2:t.place[0]? = some t.place[0]:=Array.getElem?_eq_getElem hp
  refine JCz (slot:=0) (nxt:=t.place[0]+1) (x:=(es[0]).2) st1 st2 (fun Q' E' q=>JL0 st2 hB he hl (by rw [JK1 (by omega),g1,g2];exact q)) fun h' st' sb=>?_
  exact hQ _ h' s.toks (by rw [g1];rfl) ⟨_,st',st2.at fun o e=>(sb.2 a hne).trans e,.inr ⟨rfl,_,g2,rfl⟩⟩ fun b o hb e=>(sb.2 b fun z=>hb (by simp [z])).trans e
 done:=fun s Q E ⟨slot,st1,st2,st3⟩ hQ=>by
  refine JDZ (slot:=slot) hh st1 st2 (fun Q' E' q=>JL0 st2 hB he hl ?_) fun h' hk=>hQ h' s.toks fun b o hb e=>hk b o (fun z=>hb (by simp [z])) e
  rcases st3 with ⟨z,rfl⟩ | ⟨z,j,g,rfl⟩
  ·rw [JK1 (by omega),Array.getElem?_eq_none (by omega)];exact q
  ·rw [JQO (by omega) g,Array.getElem?_eq_none (by omega)];exact q
 self:=fun _ s _ _ ⟨slot,st1,st2,st3⟩ hQ=>by
  refine wpAny_pyIter_slot st1.ty Ft.slot_si_iter (wpAny_call_entry Ft.slot_si_iter st1.ty Ft.entry_si_iter ?_ (Ft.args_si_iter_1 _))
  show wpAny _ _ (ret (.ref I)) _ _ s
  exact q_e ⟨_,rfl,"set_iterator",_,st1.ty,Ft.slot_si_next.lookup,hQ⟩
abbrev hL (s:Shared):Heap:=s.heap.push { cls:=.type "list",data:=.seq ([]:List Value).toArray }
abbrev siO (first:Value) (a:Addr) (n ep:Nat):Obj:={ cls:=.type "set_iterator",data:=.fields #[first,rawInt 0,.ref a,rawInt n,rawInt ep] }
theorem itep {α:Type} {c:Prop} [Decidable c] {m1 m2:Sem α} {Q:α->Shared->Prop} (hc:c) (h:wpAny (model prog w) A m1 Q E s):wpAny (model prog w) A (if c then m1 else m2) Q E s:=by rw [if_pos hc];exact h
theorem JFu (hT:s.TypeIs (.ref a) "set") {Q:Bool->Shared->Prop} (h:Q false s):wpAny (model prog w) A (Builtin.List.listLengthHint (.ref a)) Q E s:=by
 unfold Builtin.List.listLengthHint
 refine q_b (wpAny_specialOf hT Ft.len_set ?_)
 (generalize hid:("set.__len__":String)=id0;(fail_if_success (clear hid id0));wp_delta;rw [show splitId id0=some ("set","__len__") from by subst hid;decide +kernel];subst hid)
 refine q_b (wpAny_isInstance (b:=true) hT (by rw [isSubtype_type];kernel_rfl) ?_)
 rw [if_neg (by decide)]
 dsimp only
 refine itep (by decide +kernel) ?_
 refine q_b (wpAny_typeOf hT ?_)
 exact q_e h
theorem JDg {S:Addr} {fp:List Addr} {n:Nat} {P:Nat->Value->Prop} {St:Nat->Heap->Prop} {R:Result->Shared->Prop} {res:Value} (W:Walks prog w A.in1 I fp [I] n P St) (hn:n<=sizeLine) (hst:St 0 s.heap) (hSf:S ∉ fp)
  (hS:s.heap.get? S=some { cls:=.type "list",data:=.seq ([]:List Value).toArray })
  (hR:∀h' tk acc' c',(∀b o,b≠S->b≠I->s.heap.get? b=some o->h'.get? b=some o)->h'.get? S=some { cls:=.type "list",dict:=none,data:=.seq acc' c',slots:=#[] }->ItemsOf P acc' n->R (.ok (.ret res)) { s with heap:=h',toks:=tk }) :
  wpAny (model prog w) A.in1 (rule "list.extend.makes-room" >>= fun _=>Builtin.List.listTouch (.ref S) >>= fun _=>again (.builtin "list.extend.loop" ⟨[.ref S,.ref I,res],[]⟩))
    (fun fin s'=>match fin with | .done f=>R (.ok f) s' | .again c'=>c'.quiet=true/\codeAny (model prog w) A c' R s') (fun e s'=>R (.error e) s') s:=by
 refine q_b (wpAny_rule ?_)
 refine q_b ?_
 show wpAny _ A.in1 (updateSeq S (·.push .none) >>= fun _=>updateSeq S (·.pop)) _ _ _
 refine q_b (wpAny_updateSeq hS rfl ?_)
 have hS₂:=Heap.get?_update_self (Obj.mapSeq (·.push Value.none)) hS rfl
 refine wpAny_updateSeq hS₂ rfl ?_
 have hS₃:=Heap.get?_update_self (Obj.mapSeq (·.pop)) hS₂ rfl
 have oth:∀b o,b≠S->s.heap.get? b=some o->((s.heap.update S (Obj.mapSeq (·.push Value.none))).update S (Obj.mapSeq (·.pop))).get? b=some o :=
  fun b o hb e=>(Heap.get?_update_other _ _ (Ne.symm hb)).trans ((Heap.get?_update_other _ _ (Ne.symm hb)).trans e)
 have hst2:St 0 ((s.heap.update S (Obj.mapSeq (·.push Value.none))).update S (Obj.mapSeq (·.pop))):=W.frame 0 _ _ hst fun b hb o e=>oth b o (fun h=>hSf (h▸hb)) e
 refine q_e ⟨plainId_quiet PySem.F.plain_extend_loop _,codeAny_extend_loopS W.toS hn S hSf res n 0 _ _ _ rfl (Nat.zero_le _) hst2 hS₃ (ItemsOf.nil P) fun s' acc' c' hm hS' hacc=>?_⟩
 have e:=Moved.eq_with hm
 rw [e]
 refine hR s'.heap s'.toks acc' c' (fun b o hb hbI e=>hm.heap b o (fun hmem=>?_) (oth b o hb e)) hS' hacc
 rcases q_n.mp hmem with e' | hmem
 ·exact hb e'
 ·exact hbI (List.mem_singleton.mp hmem)
theorem JCk {R:Result->Shared->Prop} (hh:A.handled=none) (hs:SetAt s.heap a so es ep t) (hz:es.size<=100) (hc:byT w=false->t.led=true/\(es.size<=1\/t.plain=false))
  (fin:∀(h':Heap) (d:Drawn) (tk:Nat) (acc:Array Value) (c:Nat),(∀b o,s.heap.get? b=some o->h'.get? b=some o)->h'.get? s.heap.objs.size=some { cls:=.type "list",dict:=none,data:=.seq acc c,slots:=#[] }->acc.toList.Perm (es.toList.map (·.2)) ->
    R (.ok (.ret (.ref s.heap.objs.size))) { s with heap:=h',drawn:=d,toks:=tk }) :
  codeAny (model prog w) A (.builtin "proto.collect" ⟨[.ref a],[]⟩) R s:=by
 have hlt:a<s.heap.objs.size:=q_h hs.get
 refine codeAny_builtin PySem.F.entry_proto_collect ?_
 rw [Around.under_plainId PySem.F.plain_proto_collect _]
 show wpAny _ A.in1 (newList [] >>= fun l=>again (.builtin "list.__iadd__" ⟨[l,.ref a],[]⟩)) _ _ s
 refine q_b (wpAny_newObj_type ?_)
 refine q_e ⟨plainId_quiet PySem.F.plain_list_iadd _,codeAny_builtin PySem.F.entry_list_iadd ?_⟩
 rw [Around.under_plainId PySem.F.plain_list_iadd _]
 show wpAny _ A.in1 (Builtin.List.listExtendWith (.ref s.heap.objs.size) (.ref a) (.ref s.heap.objs.size)) _ _ _
 unfold Builtin.List.listExtendWith
 have hs1:SetAt (hL s) a so es ep t:=hs.at fun o e=>q_c _ e
 have hT1:∀h',(∀o,(hL s).get? a=some o->h'.get? a=some o)->∀s2:Shared,s2.heap=h'->s2.TypeIs (.ref a) "set":=fun h' k s2 e=>by
  subst e
  exact ⟨so,k _ hs1.get,hs.cls⟩
 refine q_b (wpAny_typeOf (hT1 _ (fun o e=>e) _ rfl) ?_)
 have h1:Builtin.List.listSameRef (.ref s.heap.objs.size) (.ref a)=false:=by simp [Builtin.List.listSameRef,Nat.ne_of_gt hlt]
 have h2:(Value.type "set"==Value.type "list")=false:=by decide
 have h3:(Value.type "set"==Value.type "tuple")=false:=by decide
 simp only [h1,h2,h3,Bool.or_false,q_v,if_false]
 have hS:(hL s).get? s.heap.objs.size=some { cls:=.type "list",data:=.seq ([]:List Value).toArray }:=q_k _ rfl
 have hsz:(hL s).objs.size=s.heap.objs.size+1:=Heap.size_push _ _
 have items:∀ {acc:Array Value} {n:Nat} {P:Nat->Value->Prop} {xs:List Value},ItemsOf P acc n->n=xs.length->(∀i v,P i v->xs[i]? = some v)->acc.toList=xs:=fun {acc n P xs} hi hn hp=>by
  refine List.ext_getElem? fun i=>?_
  by_cases o:i<acc.size
  · have e:acc[i]? = some acc[i]:=Array.getElem?_eq_getElem o
    rw [Array.getElem?_toList,e,hp i _ (hi.2 i _ e)]
  · rw [Array.getElem?_toList,Array.getElem?_eq_none (by omega),List.getElem?_eq_none (by have:=hi.1;omega)]
 refine q_b (JJX hs1 hz (fun ho=>?_) (fun hB hp ord d po=>?_))
 ·have hI:(hL s).objs.size≠s.heap.objs.size:=by rw [hsz];omega
  have hIa:a≠(hL s).objs.size:=by rw [hsz];exact q_l (q_D hlt)
  refine q_b (wpAny_holding (JFu (hT1 _ (fun o e=>q_c _ e) _ rfl) ?_))
  refine itep (by decide +kernel) ?_
  have hSf:s.heap.objs.size ∉ [(hL s).objs.size,a]:=by
    simp only [q_n,List.not_mem_nil,or_false,not_or]
    exact ⟨Ne.symm hI,Nat.ne_of_gt hlt⟩
  have hs2:=hs1.at (h':=(hL s).push (siO (rawInt 0) a es.size ep)) fun o e=>q_c _ e
  have hit:IsSI ((hL s).push (siO (rawInt 0) a es.size ep)) (hL s).objs.size (rawInt 0) ((0:Nat):Int) a es.size ep:=⟨_,q_k _ rfl,rfl,rfl⟩
  cases hB:byT w with
  | true =>
    have pp:=JGe (w.params.setOrder a ep) es
    have hps:(pickOrder (w.params.setOrder a ep) es).size=es.size:=by rw [<-q_E,pp.length_eq,q_E]
    refine JDg (s:={ s with heap:=(hL s).push (siO (rawInt 0) a es.size ep) }) (JOM (A:=A.in1) (so:=so) (es:=es) (ep:=ep) (t:=t) hh hIa hB) (by rw [hps,sizeLine_eq];omega) ⟨hit,hs2⟩ hSf (q_c _ hS) fun h' tk acc c hk hS' hi=>?_
    refine fin h' s.drawn tk acc c (fun b o e=>hk b o (q_l (q_h e)) (by rw [hsz];exact q_l (q_D (q_h e))) (q_c _ (q_c _ e))) hS' ?_
    rw [items (xs:=(pickOrder (w.params.setOrder a ep) es).toList.map (·.2)) hi (by simp) (fun i v e=>by rw [List.getElem?_map,Array.getElem?_toList];exact e)]
    exact pp.map _
  | false =>
    obtain ⟨hl,hc2⟩:=hc hB
    have he:es.size<=1:=by
     rcases ho with z | z | z
     ·rw [hB] at z;cases z
     ·rcases hc2 with z' | z'
      ·exact z'
      ·rw [z] at z';cases z'
     ·exact z
    have hf:t.place.size=es.size:=by
     have:=hs.fits
     simp only [SetTable.fits,q_i,beq_iff_eq] at this
     exact this.1
    refine JDg (s:={ s with heap:=(hL s).push (siO (rawInt 0) a es.size ep) }) (W_one (A:=A.in1) (so:=so) (es:=es) (ep:=ep) (t:=t) hh hIa hB he hl hf) (by rw [sizeLine_eq];omega) ⟨0,hit,hs2,.inl ⟨rfl,rfl⟩⟩ hSf (q_c _ hS) fun h' tk acc c hk hS' hi=>?_
    refine fin h' s.drawn tk acc c (fun b o e=>hk b o (q_l (q_h e)) (by rw [hsz];exact q_l (q_D (q_h e))) (q_c _ (q_c _ e))) hS' ?_
    rw [items (xs:=es.toList.map (·.2)) hi (by simp) (fun i v e=>by rw [List.getElem?_map,Array.getElem?_toList];exact e)]
 ·have hI:(hL s).objs.size+1≠s.heap.objs.size:=by rw [hsz];omega
  have hIa:a≠(hL s).objs.size+1:=by rw [hsz];exact q_l (q_D (q_D hlt))
  obtain ⟨to,eto⟩:∃to:Obj,to={ cls:=.type "tuple",data:=.seq (ord.map fun i:Nat=>rawInt i).toArray }:=⟨_,rfl⟩
  rw [<-eto]
  have k1:∀b o,(hL s).get? b=some o->(((hL s).push to).push (siO (.ref (hL s).objs.size) a es.size ep)).get? b=some o:=fun b o e=>q_c _ (q_c _ e)
  have hfz:to.isFreed=false:=by rw [eto];rfl
  have hTg:(((hL s).push to).push (siO (.ref (hL s).objs.size) a es.size ep)).get? (hL s).objs.size=some to:=q_c _ (q_k _ hfz)
  have hgI:(((hL s).push to).push (siO (.ref (hL s).objs.size) a es.size ep)).get? ((hL s).objs.size+1)=some (siO (.ref (hL s).objs.size) a es.size ep):=by
    have:=q_k (o:=siO (.ref (hL s).objs.size) a es.size ep) ((hL s).push to) rfl
    rwa [show ((hL s).push to).objs.size=(hL s).objs.size+1 from Heap.size_push _ _] at this
  refine q_b (wpAny_holding (JFu (hT1 _ (fun o e=>k1 a o e) _ rfl) ?_))
  refine itep (by decide +kernel) ?_
  have hSf:s.heap.objs.size ∉ [(hL s).objs.size+1,a,(hL s).objs.size]:=by
    simp only [q_n,List.not_mem_nil,or_false,not_or]
    exact ⟨Ne.symm hI,Nat.ne_of_gt hlt,by rw [hsz];omega⟩
  have hs2:=hs1.at (h':=((hL s).push to).push (siO (.ref (hL s).objs.size) a es.size ep)) fun o e=>k1 a o e
  have hit:IsSI (((hL s).push to).push (siO (.ref (hL s).objs.size) a es.size ep)) ((hL s).objs.size+1) (.ref (hL s).objs.size) ((0:Nat):Int) a es.size ep:=⟨_,hgI,rfl,rfl⟩
  have hTd:to.data=.seq (ord.map fun i:Nat=>rawInt i).toArray 0:=by rw [eto]
  refine JDg (s:={ s with drawn:=d,heap:=((hL s).push to).push (siO (.ref (hL s).objs.size) a es.size ep) }) (JMs (A:=A.in1) (so:=so) (es:=es) (ep:=ep) (t:=t) hh hIa (q_l (Nat.lt_succ_self _)) hTd po) (by rw [sizeLine_eq];omega) ⟨hit,hs2,hTg⟩ hSf (k1 _ _ hS) fun h' tk acc c hk hS' hi=>?_
  refine fin h' d tk acc c (fun b o e=>hk b o (q_l (q_h e)) (by rw [hsz];exact q_l (q_D (q_D (q_h e)))) (k1 b o (q_c _ e))) hS' ?_
  have hl:ord.length=es.size:=by rw [po.length_eq,List.length_range]
  have hb:∀p∈ord,p<es.size:=fun p hp=>List.mem_range.mp (po.mem_iff.mp hp)
  have e0:∀(l:List Nat),(∀p∈l,p<es.size)->∀(i:Nat) (v:Value),(l[i]?.bind fun p:Nat=>es[p]?).map (fun e:Int×Value=>e.2)=some v->(l.filterMap fun p=>es[p]?.map (·.2))[i]? = some v:=by
    intro l
    induction l with
    | nil=>intro _ i v e;simp at e
    | cons p l ih =>
     intro h i v e
     have g:=Array.getElem?_eq_getElem (h p (by simp))
     rw [List.filterMap_cons_some (b:=(es[p]'(h p (by simp))).2) (by rw [g];rfl)]
     cases i with
     | zero=>simpa [g] using e
     | succ i=>simpa using ih (fun q hq=>h q (by simp [hq])) i v (by simpa using e)
  have e1:∀(l:List Nat),(∀p∈l,p<es.size)->(l.filterMap fun p=>es[p]?.map (·.2)).length=l.length:=by
    intro l
    induction l with
    | nil=>intro _;rfl
    | cons p l ih =>
     intro h
     have g:=Array.getElem?_eq_getElem (h p (by simp))
     rw [List.filterMap_cons_some (b:=(es[p]'(h p (by simp))).2) (by rw [g];rfl),List.length_cons,List.length_cons,ih fun q hq=>h q (by simp [hq])]
  rw [items (xs:=ord.filterMap fun p=>es[p]?.map (·.2)) hi (by rw [e1 ord hb,hl]) (e0 ord hb)]
  refine (po.filterMap _).trans ?_
  have:(List.range es.size).filterMap (fun p=>es[p]?.map (·.2))=es.toList.map (·.2):=by
    refine List.ext_getElem? fun i=>?_
    by_cases o:i<es.size
    ·have hx:=e0 (List.range es.size) (fun p hp=>List.mem_range.mp hp) i (es[i]).2 (by simp [o])
     rw [hx]
     simp [o]
    ·rw [List.getElem?_eq_none (by rw [e1 _ (fun p hp=>List.mem_range.mp hp),List.length_range];omega),List.getElem?_eq_none (by simp;omega)]
  rw [this]
theorem JFN {Q:List Value->Shared->Prop} (hh:A.handled=none) (hs:SetAt s.heap a so es ep t) (hz:es.size<=100) (hc:byT w=false->t.led=true/\(es.size<=1\/t.plain=false))
  (hQ:∀h' d tk (vs:List Value),(∀b o,s.heap.get? b=some o->h'.get? b=some o)->vs.Perm (es.toList.map (·.2))->Q vs { s with heap:=h',drawn:=d,toks:=tk }) :
  wpAny (model prog w) A (collect (.ref a)) Q E s:=by
 unfold collect
 refine q_b (wpAny_runValue (JCk hh hs hz hc fun h' d tk acc c hk hS' hp=>?_))
 show wpAny _ A (load s.heap.objs.size >>= _) _ _ _
 refine q_b (wpAny_load hS' ?_)
 exact q_e (hQ h' d tk _ hk hp)
end
end VI
end
section
namespace VI
open PySem PySem.Spec PyProof.Rows L2
theorem JGo (t:SetTable) (es:Array (Int×Value)) (h:Int) (x:Value):(layNew t es h x).2.1.led=t.led:=by
 unfold layNew
 split
 ·dsimp only [SetTable.put,SetTable.orStandIn]
  split<;>first | rfl | (split<;>rfl)
 ·rfl
theorem JH5 (t:SetTable) (es:Array (Int×Value)) (n:Nat):(relayAll t es n).2.1.led=t.led/\(t.plain=false->(relayAll t es n).2.1.plain=false):=by
 unfold relayAll
 split
 ·rename_i t' order e
  have ht:t'.led=t.led/\t'.plain=t.plain:=by
   unfold SetTable.relaid SetTable.laid at e
   simp only [Option.bind_eq_bind,q_a,Option.pure_def,q_j,Prod.mk.injEq] at e
   obtain ⟨_,_,rfl,_⟩:=e
   exact ⟨rfl,rfl⟩
  dsimp only
  split
  ·exact ⟨ht.1,fun h=>ht.2.trans h⟩
  ·exact ⟨rfl,fun _=>rfl⟩
 ·exact ⟨rfl,fun _=>rfl⟩
def keyOf:Int×Value->Str
 |(_,.str s _)=>s
 | _=>""
structure TSet (prog:Program) (w:World) (h:Heap) (a:Addr) (so:Obj) (es:Array (Int×Value)) (ep:Nat) (t:SetTable) (l:List Str):Prop where
 at':SetAt h a so es ep t
 ex:so.ExactSet
 el:ElemsOf (strKind prog w) es.toList
 nd:(es.toList.map keyOf).Nodup
 mem:∀k,k∈es.toList.map keyOf↔k∈l
 sz:es.size<=l.length
 led:byT w=false->t.led=true/\(es.size=0\/t.plain=false)
def TS (prog:Program) (w:World) (h:Heap) (a:Addr) (l:List Str):Prop:=∃so es ep t,TSet prog w h a so es ep t l
theorem TS.at {prog:Program} {w:World} {h h':Heap} {a:Addr} {l:List Str} (x:TS prog w h a l) (e:∀o,h.get? a=some o->h'.get? a=some o):TS prog w h' a l :=
 let ⟨so,es,ep,t,y⟩:=x;⟨so,es,ep,t,y.at'.at e,y.ex,y.el,y.nd,y.mem,y.sz,y.led⟩
section
variable {prog:Program} {w:World} {A:Around} {E:Value->Shared->Prop} {s:Shared} {a:Addr} {so:Obj} {es:Array (Int×Value)} {ep:Nat} {t:SetTable} {l:List Str} {k:Str} {tk:Tok}
theorem JF7 {e:Int×Value} {l:List (Int×Value)} (h:ElemsOf (strKind prog w) l) (he:e∈l):(strKind prog w).is (keyOf e) e.2=true/\e.1=(strKind prog w).hash (keyOf e):=by
 obtain ⟨⟨k,h1,h2⟩,_⟩:=h e he
 obtain ⟨u,hu⟩:=Value.isStrOf_shape h1
 obtain ⟨e1,e2⟩:=e
 simp only at hu h1 h2
 subst hu
 exact ⟨h1,h2⟩
theorem el_is {e:Int×Value} {l:List (Int×Value)} (h:ElemsOf (strKind prog w) l) (he:e∈l) {k:Str}:(strKind prog w).is k e.2=true↔k=keyOf e :=
 ⟨fun z=>(strKind prog w).inj _ _ _ z (JF7 h he).1,fun z=>z▸(JF7 h he).1⟩
theorem JGA {g:Bool->Sem Unit} (hg:∀(b:Bool) (s₁:Shared) (Q':Unit->Shared->Prop),Q' () s₁->wpAny (model prog w) A (g b) Q' E s₁)
  (ho:s.heap.get? a=some so) (hd:so.data=.set es ep t)
  {es1:Array (Int×Value)} {t2:SetTable} (hb1:es1.size<scanBound) (hf2:t2.fits es1.size=true) (hp2:t2.plain=false) {wasDummy:Bool} {R:Option Bool->Shared->Prop}
  (h:∀h' so' es' ep' t',Heap.SameBut a s.heap h'->h'.get? a=some so'->so'.cls=so.cls/\so'.dict=so.dict/\so'.slots=so.slots->so'.data=.set es' ep' t'->es'.toList.Perm es1.toList->t'.fits es'.size=true->t'.led=t2.led->t'.plain=false->R (some true) { s with heap:=h' }) :
  wpAny (model prog w) A (do
     storeSet a es1 t2
     if (!wasDummy&&t2.tooFull)=true then do
       g (relayAll t2 es1 (SetTable.grown es1.size)).2.2
       storeSet a (relayAll t2 es1 (SetTable.grown es1.size)).1 (relayAll t2 es1 (SetTable.grown es1.size)).2.1
       pure (some true)
      else pure (some true)) R E s:=by
 refine q_b (wpAny_storeSet_of ho hd ?_ (fits_of_scanBound hb1))
 have g1:(s.heap.update a (Obj.putSet es1 t2)).get? a=some { so with data:=.set es1 (ep+1) t2 }:=by
  have:=Heap.get?_update_self (Obj.putSet es1 t2) ho (by rw [putSet_of es1 t2 hd];rfl)
  rw [putSet_of es1 t2 hd] at this;exact this
 have hsb1:=Heap.SameBut.update s.heap a (Obj.putSet es1 t2)
 split
 ·have hp:=relayAll_perm t2 es1 (SetTable.grown es1.size)
  have hfr:=relayAll_fits t2 es1 (SetTable.grown es1.size)
  have hlr:=JH5 t2 es1 (SetTable.grown es1.size)
  generalize hRl:relayAll t2 es1 (SetTable.grown es1.size)=Rl at hp hfr hlr ⊢
  obtain ⟨es2,t3,gave2⟩:=Rl
  dsimp only at hp hfr hlr ⊢
  have hsz:es2.size=es1.size:=by rw [<-q_E,hp.length_eq,q_E]
  have hb2:es2.size<scanBound:=by rw [hsz];exact hb1
  refine q_b (hg _ _ _ ?_)
  refine q_b (wpAny_storeSet_of g1 rfl ?_ (fits_of_scanBound hb2))
  have g2:((s.heap.update a (Obj.putSet es1 t2)).update a (Obj.putSet es2 t3)).get? a=some { so with data:=.set es2 (ep+1+1) t3 }:=by
    have:=Heap.get?_update_self (Obj.putSet es2 t3) g1 (by rw [putSet_of es2 t3 rfl];rfl)
    rw [putSet_of es2 t3 rfl] at this;exact this
  exact q_e (h _ _ _ _ _ (hsb1.trans (Heap.SameBut.update _ a _)) g2 ⟨rfl,rfl,rfl⟩ rfl hp hfr hlr.1 (hlr.2 hp2))
 ·exact q_e (h _ _ _ _ _ hsb1 g1 ⟨rfl,rfl,rfl⟩ rfl (List.Perm.refl _) hf2 rfl hp2)
theorem JNf {Q:Bool->Shared->Prop} (hS:TS prog w s.heap a l) (hr:l.length+1<scanBound)
  (h:∀h' b,Heap.SameBut a s.heap h'->TS prog w h' a (l++[k])->Q b { s with heap:=h' }):wpAny (model prog w) A (setAddHashed a (.str k tk) ((strKind prog w).hash k)) Q E s:=by
 obtain ⟨so,es,ep,t,T⟩:=hS
 have hkey:=strKind_is prog w k tk
 have hsc:(Value.str k tk).scannable=true:=rfl
 have ho:=T.at'.get
 have hd:=T.at'.data
 have hf:=T.at'.fits
 have hel:=T.el
 have hb:es.size<scanBound:=by have:=T.sz;omega
 unfold setAddHashed setAddHashedIn
 refine wpAny_holding (q_b (wpAny_setState_of ho hd hf ?_))
 dsimp only
 rw [byScan_of hsc hb hel]
 simp only [↓reduceIte]
 unfold setAddByScan
 refine q_b ?_
 refine q_b (wpAny_rule ?_)
 refine q_b (wpAny_setScan_of hkey ho hd hf hel ?_)
 cases hr':List.findIdx? (fun e=>(strKind prog w).is k e.2) es.toList with
 | some j =>
  dsimp only
  obtain ⟨hj,hpj,_⟩:=List.findIdx?_eq_some_iff_getElem.mp hr'
  have hk:k∈l:=(T.mem k).mp (List.mem_map.mpr ⟨_,List.getElem_mem hj,((el_is hel (List.getElem_mem hj)).mp hpj).symm⟩)
  refine q_e (q_e ?_)
  have e:s={ s with heap:=s.heap }:=by cases s;rfl
  rw [e]
  refine h s.heap _ (Heap.SameBut.refl a s.heap) ⟨so,es,ep,t,T.at',T.ex,T.el,T.nd,fun k'=>?_,by have:=T.sz;simp only [q_u,List.length_cons,List.length_nil];omega,T.led⟩
  rw [T.mem k',List.mem_append,List.mem_singleton]
  exact ⟨.inl,fun z=>z.elim id fun z=>z▸hk⟩
 | none =>
  dsimp only
  have hk:k ∉ es.toList.map keyOf:=fun z=>by
    obtain ⟨e,he,rfl⟩:=List.mem_map.mp z
    have:=List.findIdx?_eq_none_iff.mp hr' e he
    rw [(JF7 hel he).1] at this;cases this
  have hgw:∀(b:Bool) {s₁:Shared} {Q':Unit->Shared->Prop},Q' () s₁->wpAny (model prog w) A (match b with | true=>rule "set.scan.the-table-gave-way" | false=>pure ()) Q' E s₁ :=
    fun b s₁ Q' hq=>by cases b<;>first | exact q_e hq | exact wpAny_rule hq
  have hperm:=layNew_perm t es ((strKind prog w).hash k) (.str k tk)
  have hfits:=layNew_fits t es ((strKind prog w).hash k) (.str k tk)
  have hled:=JGo t es ((strKind prog w).hash k) (.str k tk)
  generalize hL:layNew t es ((strKind prog w).hash k) (.str k tk)=L at hperm hfits hled ⊢
  obtain ⟨es1,t1,wasDummy,gave⟩:=L
  dsimp only at hperm hfits hled ⊢
  rw [Array.toList_push] at hperm
  have hb1':es1.size<scanBound:=by
    rw [<-q_E,hperm.length_eq,q_u,q_E]
    have:=T.sz
    simp only [List.length_cons,List.length_nil];omega
  refine q_b (hgw _ ?_)
  have hend:∀h' so' es' ep' t',Heap.SameBut a s.heap h'->h'.get? a=some so'->so'.cls=so.cls/\so'.dict=so.dict/\so'.slots=so.slots->so'.data=.set es' ep' t'->es'.toList.Perm es1.toList->t'.fits es'.size=true->t'.led=t1.led->t'.plain=false->Q true { s with heap:=h' }:=by
    intro h' so' es' ep' t' hsb hg hc hd' hp hf' hl' hpl
    have pk:(es'.toList.map keyOf).Perm (es.toList.map keyOf++[k]):=by
     have:=(hp.trans hperm).map keyOf
     rwa [List.map_append] at this
    refine h h' _ hsb ⟨so',es',ep',t',⟨hg,hc.1.trans T.at'.cls,hd',hf'⟩,⟨hc.1.trans T.ex.1,hc.2.1.trans T.ex.2.1,hc.2.2.trans T.ex.2.2⟩,(hel.push hkey hsc).perm (hp.trans hperm),?_,fun k'=>?_,?_,fun hB=>⟨hl'.trans (hled.trans (T.led hB).1),.inr hpl⟩⟩
    ·rw [pk.nodup_iff,List.nodup_append]
     exact ⟨T.nd,by simp,fun x hx y hy e=>hk (by rw [List.mem_singleton.mp hy] at e;exact e▸hx)⟩
    ·rw [pk.mem_iff,List.mem_append,List.mem_append,T.mem k']
    ·have:=T.sz
     rw [<-q_E,(hp.trans hperm).length_eq,q_u,q_u,q_E]
     simp only [List.length_cons,List.length_nil];omega
  split
  · refine q_b ?_
    rw [hashByValue_scannable 8 hsc]
    refine q_e ?_
    rw [show plainKind (.str k tk)=false from rfl]
    refine JGA (so:=so) (es:=es) (ep:=ep) (t:=t) ?_ ho hd hb1' ?_ ?_ ?_
    ·intro b s₁ Q' hq;cases b<;>first | exact q_e hq | exact wpAny_rule hq
    ·exact SetTable.fits_plain_off hfits
    ·rfl
    ·intro h' so' es' ep' t' a1 a2 a3 a4 a5 a6 a7 a8;dsimp only;exact q_e (hend h' so' es' ep' t' a1 a2 a3 a4 a5 a6 a7 a8)
  · rename_i hpl
    refine q_b (q_e ?_)
    simp only [↓reduceIte]
    refine JGA (so:=so) (es:=es) (ep:=ep) (t:=t) ?_ ho hd hb1' hfits ?_ ?_
    ·intro b s₁ Q' hq;cases b<;>first | exact q_e hq | exact wpAny_rule hq
    ·simpa using hpl
    ·intro h' so' es' ep' t' a1 a2 a3 a4 a5 a6 a7 a8;dsimp only;exact q_e (hend h' so' es' ep' t' a1 a2 a3 a4 a5 a6 a7 a8)
theorem JNP (x:Value) {Q₁:Value->Shared->Prop}
  (h:Q₁ (.ref s.heap.objs.size) { s with heap:=s.heap.push { cls:=.type "set",dict:=none,data:=.set #[] 0 (.fresh 0 0 (!byT w)) } }) :
  codeAny (model prog w) A (.call (.builtin "set.__new__") ⟨[.type "set",x],[]⟩) (wants Q₁ E) s:=by
 refine codeAny_of_tree ?_
 show wpAny _ A.in1 (do checkBuiltinCall "set.__new__" ⟨[.type "set",x],[]⟩;again (.builtin "set.__new__" ⟨[.type "set",x],[]⟩)) _ _ s
 refine q_b (wpAny_of_eq (PySem.F.newCall_set_1 x) (q_e ⟨plainId_quiet PySem.F.plain_set_new _,codeAny_builtin PySem.F.entry_set_new ?_⟩))
 rw [Around.under_plainId PySem.F.plain_set_new _]
 unfold Builtin.«set.__new__» Builtin.Frozenset.newClass
 have hsub:=sub_set_self
 obtain ⟨hp,g,d,tk,os⟩:=s
 dsimp only
 wp_walk
 refine wpAny_askSetting (q_e ?_)
 dsimp only
 simp only [newObj]
 refine q_b (wpAny_alloc (q_e ?_))
 exact q_e h
theorem JKS {I:Addr} {fp wr:List Addr} {G:Array GenState->Array GenState->Prop} {n:Nat} {P:Nat->Value->Prop} {St:Nat->Shared->Prop} {R:Result->Shared->Prop}
  (W:WalksS prog w A.in1 I fp wr G n P St) (S:Addr) (hSf:S ∉ fp) (xs:List Str) (hn:xs.length=n) (hval:∀(i:Nat) v,P i v->∃k t,xs[i]? = some k/\v=.str k t) (hb:n+1<scanBound) :
  ∀(k i:Nat) (s:Shared),n - i=k->i<=n->St i s->TS prog w s.heap S (xs.take i) ->
    (∀s',Moved (S::wr) G s s'->TS prog w s'.heap S xs->R (.ok (.ret .none)) s') ->
    codeAny (model prog w) A (.builtin "set.update.loop" ⟨[.ref S,.ref I],[]⟩) R s:=by
 have hSw:S ∉ wr:=fun h=>hSf (W.sub _ h)
 have hsub:∀b∈wr,b∈S::wr:=fun b hb=>q_s _ hb
 intro k
 induction k with
 | zero =>
  intro i s hk hi hst hS hR
  have hin:i=n:=by omega
  subst hin
  refine codeAny_builtin PyProof.Rows.F.entry_set_update_loop ?_
  rw [Around.under_plainId PyProof.Rows.F.plain_set_update_loop _]
  show wpAny _ A.in1 (pyNext (.ref I) >>= _) _ _ s
  refine q_b (W.done s _ _ hst fun s' hm=>?_)
  show wpAny _ A.in1 (ret Value.none) _ _ s'
  rw [<-hn,List.take_length] at hS
  exact q_e (hR s' (hm.mono hsub) (hS.at fun o e=>hm.heap S _ hSw e))
 | succ k ih =>
  intro i s hk hi hst hS hR
  have hlt:i<n:=by omega
  refine codeAny_builtin PyProof.Rows.F.entry_set_update_loop ?_
  rw [Around.under_plainId PyProof.Rows.F.plain_set_update_loop _]
  show wpAny _ A.in1 (pyNext (.ref I) >>= _) _ _ s
  refine q_b (W.item i s _ _ hlt hst fun v s' hP hst' hm=>?_)
  obtain ⟨x,t,hx,rfl⟩:=hval i v hP
  have hS':TS prog w s'.heap S (xs.take i):=hS.at fun o e=>hm.heap S _ hSw e
  show wpAny _ A.in1 (holding [Value.str x t] (setAdd S (.str x t)) >>= _) _ _ s'
  refine q_b (wpAny_holding ?_)
  unfold setAdd
  refine wpAny_holding ?_
  refine q_b ((strKind prog w).pyHash (k:=x) (strKind_is _ _ _ _) ?_)
  refine JNf (s:={ s' with toks:=s'.toks+1 }) hS' (by rw [List.length_take];omega) fun h' b hsb hS2=>?_
  have hSi:TS prog w h' S (xs.take (i+1)):=by
    rw [List.take_succ,hx];exact hS2
  refine q_e ⟨plainId_quiet PyProof.Rows.F.plain_set_update_loop _,ih (i+1) _ (by omega) hlt (W.frame _ s' _ _ hst' (Nat.le_succ _) fun b hb o e=>?_) hSi fun s'' hm'' hS''=>?_⟩
  · rw [hsb.2 b (fun h:b=S=>hSf (by rw [<-h];exact hb))];exact e
  · refine hR s'' (Moved.trans W.gtrans ((hm.mono hsub).then_heap (Nat.le_succ _) fun b o hb e=>?_) hm'') hS''
    rw [hsb.2 b (fun h:b=S=>hb (by rw [h];exact List.mem_cons_self))];exact e
set_option maxHeartbeats 3200000 in
theorem JEs {l:Addr} {items:Array Value} {xs:List Str} {Q:Value->Shared->Prop}
  (hh:A.handled=none) (hl:s.heap.IsList l items) (hn:xs.length=items.size) (hi:∀(i:Nat) v,items[i]? = some v->∃k t,xs[i]? = some k/\v=.str k t) (hb:items.size+1<scanBound)
  (h:∀(h':Heap) (tk:Nat),TS prog w h' s.heap.objs.size xs->(∀b o,b<s.heap.objs.size->s.heap.get? b=some o->h'.get? b=some o)->Q (.ref s.heap.objs.size) { s with heap:=h',toks:=tk }) :
  wpAny (model prog w) A (call (.type "set") [.ref l]) Q E s:=by
 obtain ⟨c,tl,hmro⟩:=PySem.F.called_set.mro
 have hmade:=PySem.F.called_set.made
 have hsub:=PySem.F.called_set.sub
 refine wpAny_call (codeAny_of_tree ?_)
 show wpAny _ _ (callAny (.type "set") _) _ _ _
 refine q_e ⟨Code.quiet_builtin _ (by decide +kernel),codeAny_builtin PySem.F.entry_type_call ?_⟩
 rw [Around.under_plain (weight_type_call_type "set" [.ref l] []) rfl]
 have h1:=PySem.F.called_set.notType
 have h2:=PySem.F.called_set.canCreate
 have hct:=PySem.F.typeCall_set_1 (.ref l)
 repeat (any_goals (first | assumption | wp_step))
 refine codeAny_mono (JNP (.ref l) (E:=E) (Q₁:=fun obj s₁=>obj=.ref s.heap.objs.size/\s₁={ s with heap:=s.heap.push { cls:=.type "set",dict:=none,data:=.set #[] 0 (.fresh 0 0 (!byT w)) } }) ⟨rfl,rfl⟩) fun r s₁ hr=>?_
 cases r with
 | error e=>exact hr
 | ok fl =>
  cases fl with
  | ret obj =>
    obtain ⟨rfl,rfl⟩:=hr
    generalize hled:(!byT w)=led at *
    have hS:(s.heap.push { cls:=.type "set",dict:=none,data:=.set #[] 0 (.fresh 0 0 led) }).get? s.heap.objs.size=some { cls:=.type "set",dict:=none,data:=.set #[] 0 (.fresh 0 0 led) }:=q_k _ rfl
    have hT:Shared.TypeIs { s with heap:=s.heap.push { cls:=.type "set",dict:=none,data:=.set #[] 0 (.fresh 0 0 led) } } (.ref s.heap.objs.size) "set":=⟨_,hS,rfl⟩
    have hli:=PySem.F.called_set.init.lookup
    have hbi:=PySem.F.called_set.init.bind (.ref s.heap.objs.size)
    repeat (any_goals (first | assumption | wp_step))
    refine codeAny_mono (codeAny_call_builtin (R:=wants (fun r s₂=>r=.none/\∃h' tk,s₂={ s with heap:=h',toks:=tk }/\TS prog w h' s.heap.objs.size xs /\
      (∀b o,b<s.heap.objs.size->s.heap.get? b=some o->h'.get? b=some o)) E) PySem.F.called_set.init.plain PySem.F.entry_set_init (check_set_init_1 hT ?_)) fun r₂ s₂ hr₂=>?_
    ·obtain ⟨ol,hol,hcl,nl,hdl⟩:=hl
     obtain ⟨ocls,odict,odata,oslots⟩:=ol
     simp only at hcl hdl
     subst hcl;subst hdl
     have hol':(s.heap.push { cls:=.type "set",dict:=none,data:=.set #[] 0 (.fresh 0 0 led) }).get? l=some { cls:=.type "list",dict:=odict,data:=.seq items nl,slots:=oslots }:=q_c _ hol
     have hsls:=PySem.F.sub_list_set
     have hslf:=PySem.F.sub_list_frozenset
     have hne:(Value.type "list"==Value.type "dict")=false:=by decide
     have hl1:(s.heap.push { cls:=.type "set",dict:=none,data:=.set #[] 0 (.fresh 0 0 led) }).IsList l items:=⟨_,hol',rfl,nl,rfl⟩
     unfold Builtin.«set.__init__» noKeywords Builtin.Frozenset.updateFrom
     generalize hPI:pyIter=PI
     wp_walk
     subst hPI
     refine wpAny_pyIter_list hl1 ?_
     refine q_b (wpAny_runValue ?_)
     have hlS:l<s.heap.objs.size:=q_h hol
     have hh3:A.in1.in1.in1.handled=none:=by simp [hh]
     have hneI:l≠(s.heap.push { cls:=.type "set",dict:=none,data:=.set #[] 0 (.fresh 0 0 led) }).objs.size:=by
      rw [Heap.size_push];exact q_l (q_D hlS)
     have hSf:s.heap.objs.size ∉ [(s.heap.push { cls:=.type "set",dict:=none,data:=.set #[] 0 (.fresh 0 0 led) }).objs.size,l]:=by
      rw [Heap.size_push];simp only [q_n,List.mem_singleton,List.not_mem_nil,or_false,not_or]
      exact ⟨q_l (Nat.lt_succ_self _),Nat.ne_of_gt hlS⟩
     refine JKS ((Walks.list hh3 _ l hneI items).toS) s.heap.objs.size
      hSf xs hn hi hb (items.size - 0) 0 _ (by omega) (Nat.zero_le _)
      ⟨⟨_,q_k _ rfl,rfl,rfl⟩,(hl1.push _)⟩ ?hS0 ?hR
     case hS0 =>
      have hget:((s.heap.push { cls:=.type "set",dict:=none,data:=.set #[] 0 (.fresh 0 0 led) }).push { cls:=.type "list_iterator",data:=.fields #[.ref l,.int 0 0] }).get? s.heap.objs.size
         = some { cls:=.type "set",dict:=none,data:=.set #[] 0 (.fresh 0 0 led) }:=q_c _ hS
      exact ⟨_,#[],0,.fresh 0 0 led,⟨hget,rfl,rfl,rfl⟩,⟨rfl,rfl,rfl⟩,fun e he=>by simp at he,by simp,fun k=>by simp,Nat.zero_le _,fun hB=>⟨by rw [<-hled,hB];rfl,.inl rfl⟩⟩
     case hR =>
      intro s' hm hS'
      obtain ⟨h',g',d',tk',os'⟩:=s'
      have eg:g'=s.gens:=hm.gens
      have ed:d'=s.drawn:=hm.drawn
      have eo:os'=s.os:=hm.os
      subst eg;subst ed;subst eo
      show wpAny _ _ _ _ _ _
      refine q_e ?_
      show wpAny _ _ (ret Value.none) _ _ _
      refine q_e ⟨rfl,h',tk',rfl,hS',fun b o hb e=>?_⟩
      have hb1:b≠s.heap.objs.size:=q_l hb
      have hb2:b≠(s.heap.push { cls:=.type "set",dict:=none,data:=.set #[] 0 (.fresh 0 0 led) }).objs.size:=by
        rw [Heap.size_push];exact q_l (q_D hb)
      exact hm.heap b o (by simp only [q_n,List.mem_singleton,List.not_mem_nil,or_false,not_or];exact ⟨hb1,hb2⟩) (q_c _ (q_c _ e))
    ·cases r₂ with
     | error e=>exact hr₂
     | ok fl₂ =>
      cases fl₂ with
      | ret r =>
        obtain ⟨rfl,h',tk,rfl,hS',hk'⟩:=hr₂
        repeat (any_goals (first | assumption | wp_step))
        exact h _ _ hS' hk'
      | _=>exact hr₂.elim
  | _=>exact hr.elim
end
end VI
end
section
namespace VI
open PySem PySem.Spec PySem.W PyProof.Rows L2
theorem JFF {n:Nat}:∀t:KasT (Array Nat),So.wel n t=true->kIn n t=true
 | .ret a,_=>rfl
 | .ask i j k,h=>by
  simp only [So.wel,q_i] at h
  simp only [kIn,q_i]
  exact ⟨⟨h.1.1,JFF _ h.1.2⟩,JFF _ h.2⟩
theorem JDr {n:Nat}:∀t:KasT (Array Nat),So.wel n t=true->kOut n t=true
 | .ret a,h=>by
  simp only [So.wel,q_i] at h
  exact h.2
 | .ask i j k,h=>by
  simp only [So.wel,q_i] at h
  simp only [kOut,q_i]
  exact ⟨JDr _ h.1.2,JDr _ h.2⟩
theorem JD4 {n:Nat}:∀t:KasT (Array Nat),So.wel n t=true->kLen n t=true
 | .ret a,h=>by
  simp only [So.wel,q_i] at h
  exact h.1
 | .ask i j k,h=>by
  simp only [So.wel,q_i] at h
  simp only [kLen,q_i]
  exact ⟨JD4 _ h.1.2,JD4 _ h.2⟩
theorem JGI {zs:List Str} {vs:List Value} (h:Vals (zs.map V.str) vs) {i:Nat} (hi:i<zs.length):∃t,vs.getD i Value.none=.str (zs.getD i "") t:=by
 obtain ⟨u,hu,ru⟩:=h.get (i:=i) (x:=V.str zs[i]) (by simp [hi])
 obtain ⟨t,rfl⟩:∃t,u=.str zs[i] t:=ru
 exact ⟨t,by simp [List.getD_eq_getElem?_getD,hu,hi]⟩
theorem JPB {zs:List Str} {vs:List Value} (h:Vals (zs.map V.str) vs):∀v∈vs,∃x t,v=.str x t:=fun v hv=>by
 obtain ⟨i,hi,rfl⟩:=List.mem_iff_getElem.mp hv
 have hl:=h.length
 rw [q_g] at hl
 obtain ⟨t,e⟩:=JGI h (i:=i) (by omega)
 exact ⟨_,t,by simpa [List.getD_eq_getElem?_getD,hi] using e⟩
theorem JNh {zs:List Str} {vs:List Value} (h:Vals (zs.map V.str) vs) (l:List Nat) (hl:∀i∈l,i<zs.length):Vals ((l.map fun i=>zs.getD i "").map V.str) (l.map fun i=>vs.getD i Value.none):=by
 have:=JEE h l fun i hi=>by rw [q_g];exact hl i hi
 have e:(l.map fun i=>(zs.map V.str).getD i .non)=(l.map fun i=>zs.getD i "").map V.str:=by
  rw [List.map_map]
  refine List.map_congr_left fun i hi=>?_
  have:=hl i hi
  simp [List.getD_eq_getElem?_getD,this]
 rwa [e] at this
section
variable {prog:Program} {w:World} {A:Around} {E:Value->Shared->Prop} {s s2:Shared} {L D:Addr} {m:Str->Option Value} {vs:List Value} {zs:List Str} {n:Nat}
theorem JGx {P:PySem.Fin->Shared->Prop} (hoL:s2.heap.get? D=some (seqObj "list" vs.toArray n)) (h2:vs.length<2)
  (h:∀h' c,(∀b o,b≠D->s2.heap.get? b=some o->h'.get? b=some o)->h'.get? D=some (seqObj "list" vs.toArray c)->P (.done (.ret .none)) { s2 with heap:=h' }) :
  wpAny (model prog w) A (Builtin.«list.sort» ⟨[.ref D],[]⟩) P E s2:=by
 obtain ⟨e1,ho1⟩:∃e1,(s2.heap.update D (Obj.mapSeq fun _=>(#[]:Array Value))).get? D=some (seqObj "list" #[] e1):=⟨_,get?_update_seq hoL fun _=>#[]⟩
 rw [list_sort_plain]
 refine q_b (listItems_at hoL rfl ?_)
 refine q_b (listUpdate_at hoL rfl ?_ (by rw [q_f,sizeLine_eq];omega) (Nat.zero_le _))
 refine q_b (seqEpoch_at ho1 rfl ?_)
 refine q_b (wpAny_newTuple ?_ (by show vs.length<=_;rw [sizeLine_eq];omega))
 refine q_b (wpAny_newList ?_ (Nat.zero_le _))
 refine wpAny_holding ?_
 dsimp only
 have hn2:vs.toArray.size<2:=by rw [q_f];omega
 rw [if_pos hn2,if_pos hn2]
 refine q_b (q_e ?_)
 refine q_b ?_
 refine (show wpAny (model prog w) A (pure ((),SortSt.mk' general' (vs.toArray.zip vs.toArray) #[] 7 none)) _ _ _ from q_e ?_)
 dsimp only
 have ho3:(((s2.heap.update D (Obj.mapSeq fun _=>(#[]:Array Value))).push { cls:=Value.type "tuple",data:=Data.seq vs.toArray }).push { cls:=Value.type "list",data:=Data.seq #[] }).get? D=some (seqObj "list" #[] e1):=q_c _ (q_c _ ho1)
 have hout:Array.map (fun x:Keyed=>x.snd) (arrOf (SortSt.mk' general' (vs.toArray.zip vs.toArray) #[] 7 none))=vs.toArray:=by
  show Array.map (fun x:Keyed=>x.snd) (vs.toArray.zip vs.toArray)=vs.toArray
  apply Array.ext'
  simp [List.map_snd_zip]
 refine q_b (seqEpoch_at ho3 rfl ?_)
 refine q_b (listUpdate_at ho3 rfl ?_ (Nat.zero_le _) (by rw [hout,q_f,sizeLine_eq];omega))
 have hfl:failedOf (SortSt.mk' general' (vs.toArray.zip vs.toArray) #[] 7 none)=none:=rfl
 simp only [bne_self_eq_false,q_v,if_false]
 refine q_e ?_
 rw [hout]
 obtain ⟨c2,hc2⟩:∃c2,((((s2.heap.update D (Obj.mapSeq fun _=>(#[]:Array Value))).push { cls:=Value.type "tuple",data:=Data.seq vs.toArray }).push { cls:=Value.type "list",data:=Data.seq #[] }).update D (Obj.mapSeq fun _=>vs.toArray)).get? D=some (seqObj "list" vs.toArray c2):=⟨_,get?_update_seq ho3 fun _=>vs.toArray⟩
 refine h _ c2 (fun b o hne q=>?_) hc2
 rw [Heap.get?_update_ne _ _ _ _ hne]
 refine q_c _ (q_c _ ?_)
 rw [Heap.get?_update_ne _ _ _ _ hne]
 exact q
theorem JHd {P:PySem.Fin->Shared->Prop} (hn:s.heap.Ns L m) (keep:∀b o,s.heap.get? b=some o->s2.heap.get? b=some o) (hDn:s.heap.get? D=none) (ho:s2.heap.get? D=some (seqObj "list" vs.toArray n)) (tv:Vals (zs.map V.str) vs) (h5:zs.length<=7)
  (h:∀h' c out,(∀b o,b≠L->s.heap.get? b=some o->h'.get? b=some o)->h'.Ns L m->h'.get? D=some (seqObj "list" (List.toArray out) c)->Vals ((JAk zs).map V.str) out->P (.done (.ret .none)) { s2 with heap:=h' }) :
  wpAny (model prog w) A (Builtin.«list.sort» ⟨[.ref D],[]⟩) P E s2:=by
 have hl:=tv.length
 rw [q_g] at hl
 have ne:∀b o,s.heap.get? b=some o->b≠D:=fun b o q z=>by rw [z,hDn] at q;cases q
 have hLD:D≠L:=by
  obtain ⟨o,_,_,q,_⟩:=hn
  exact Ne.symm (ne L o q)
 by_cases h2:zs.length<2
 ·have e:JAk zs=zs:=by unfold JAk;rw [if_pos h2]
  rw [e] at h
  refine JGx ho (by omega) fun h' c hk hd=>?_
  have kp:∀b o,s.heap.get? b=some o->h'.get? b=some o:=fun b o q=>hk b o (ne b o q) (keep b o q)
  exact h h' c vs (fun b o _ q=>kp b o q) (hn.at' fun o q=>kp L o q) hd tv
 ·have F:=(JI9 hn).kept keep
  have N:=(JCb (h:=s.heap) (L:=L)).grown keep
  refine kas_list_sort (T:=.type "str") F N ho hLD ?_ (fun p hp=>?_) (by omega) (by omega) (fun e1 h' F' N' v hv=>?_) (by decide) (by decide) fun e1 h' F' N'=>?_
  · cases e:(below s.heap L).get? D with
    | none=>rfl
    | some o=>rw [(below_get.mp e).2] at hDn;cases hDn
  · exact ne _ _ (JCb (h:=s.heap) (L:=L) p hp).1
  · obtain ⟨x,t,rfl⟩:=JPB tv v hv
    exact Looks.of_pure rfl
  · rw [<-hl]
    refine JKx (n:=zs.length) (lt:=fun i j=>ltS (zs.getD i "") (zs.getD j "")) (fun i j C hi hj c=>?_) _ (JFF _ (So.wel_all (by omega) h5)) ?_
    ·unfold kas_ask
     obtain ⟨t1,e1⟩:=JGI tv hi
     obtain ⟨t2,e2⟩:=JGI tv hj
     rw [e1,e2]
     exact kas_lt_str c
    ·refine KasFin.intro F' N' (UpdF.head fun p hp=>ne _ _ (JCb (h:=s.heap) (L:=L) p hp).1) fun h2' c F2 N2=>?_
     have kp2:∀b o,b≠L->s.heap.get? b=some o->h2'.get? b=some o:=JJu F2 N2 fun p hp=>q_s _ hp
     refine h h2' c _ kp2 F2.ns (N2 _ (.head _)).1 ?_
     have e:JAk zs=(kGo (fun i j=>ltS (zs.getD i "") (zs.getD j "")) (kas_sort zs.length)).toList.map fun i=>zs.getD i "":=by unfold JAk;rw [if_neg h2]
     rw [e]
     exact JNh tv _ fun i hi=>JHw _ (JDr _ (So.wel_all (by omega) h5)) i hi
end
end VI
end
section
namespace VI
open PySem PySem.Spec PyProof.Rows L2
open PySem.W (KasT kas_sort kas_ask KatTups KatLex KasFin UpdF)
def strV:Value->Str
 | .str s _=>s
 | _=>""
theorem JF0:∀ {vs:List Value},(∀v∈vs,∃x t,v=.str x t)->Vals ((vs.map strV).map V.str) vs
 | [],_=>.nil
 | v::vs,h=>by
  obtain ⟨x,t,rfl⟩:=h v (by simp)
  exact .cons ⟨t,rfl⟩ (JF0 fun u hu=>h u (by simp [hu]))
theorem JHC {zs:List Str} (h5:zs.length<=7):(JAk zs).length<=7:=by
 unfold JAk
 split
 ·exact h5
 ·rw [q_g,q_E]
  have:=JHN (lt:=fun i j=>ltS (zs.getD i "") (zs.getD j "")) _ (JD4 _ (So.wel_all (n:=zs.length) (by omega) h5))
  omega
theorem JFB {prog:Program} {w:World} {h:Heap} {a:Addr} {so:Obj} {es:Array (Int×Value)} {ep:Nat} {t:SetTable} {l:List Str} (T:TSet prog w h a so es ep t l) {vs:List Value} (p:vs.Perm (es.toList.map (·.2))) :
  Vals ((vs.map strV).map V.str) vs/\(vs.map strV).Perm (dedS l):=by
 refine ⟨JF0 fun v hv=>?_,?_⟩
 ·obtain ⟨e,he,rfl⟩:=List.mem_map.mp (p.mem_iff.mp hv)
  obtain ⟨u,hu⟩:=Value.isStrOf_shape (JF7 T.el he).1
  exact ⟨_,u,hu⟩
 ·have e1:(es.toList.map (·.2)).map strV=es.toList.map keyOf:=by
   rw [List.map_map]
   refine List.map_congr_left fun e _=>?_
   obtain ⟨z,v⟩:=e
   cases v<;>rfl
  have p1:(vs.map strV).Perm (es.toList.map keyOf):=by rw [<-e1];exact p.map _
  refine p1.trans ((List.perm_ext_iff_of_nodup T.nd (So.ded_nd l)).mpr fun k=>?_)
  rw [T.mem k,So.ded_mem]
section
variable {X:Cx} {B:Bs} {C:Cn} {CX:CXT} {XX:Nat->Hp->Prop} {G:List (Str×GK)}
noncomputable def StO (X:Cx) (p:Addr) (zs:List Str):HO:=.ext fun h=>X.s₀.heap.objs.size<=p/\TS X.prog X.w h p zs
theorem JFh (hc:X.calm=true):CallR X (.type "set") (fun xs H Q=>∃l zs,xs=[.ref l]/\SqL X.K H l (zs.map V.str)/\zs.length<=1000/\∀p,H p=none->Q (.ref p) (upd H p (StO X p zs))):=by
 intro pins s σ H xs us Q I r ⟨l,zs,e,hq,h5,q⟩
 subst e
 cases r with
 | cons ra rb =>
  cases rb
  cases ra
  obtain ⟨vs,rv,pl,hz⟩:=I.list hq
  have hl:=rv.length
  rw [q_g] at hl
  refine JEs (xs:=zs) (items:=vs.toArray) (I.ok.hd hc) pl.isList (by rw [q_f];exact hl) (fun i v hv=>?_) (by rw [q_f];unfold scanBound;omega) fun h' tk hS hk=>?_
  ·have hi:i<vs.length:=by
    have:=(Array.getElem?_eq_some_iff.mp hv).1
    simpa using this
   obtain ⟨t,et⟩:=JGI rv (i:=i) (by omega)
   have hi2:i<zs.length:=by omega
   refine ⟨zs[i],t,by simp [hi2],?_⟩
   have:vs.getD i Value.none=v:=by
    rw [List.getElem?_toArray] at hv
    simp [List.getD_eq_getElem?_getD,hv]
   rw [<-this,et]
   simp [List.getD_eq_getElem?_getD,hi2]
  ·refine ⟨.ref s.heap.objs.size,_,I.laid (t':=tk) (fun b o e=>hk b o (q_h e) e) (q_t _) (o:=StO X s.heap.objs.size zs) ?_,rfl,q _ I.fresh⟩
   have g:∃o,h'.get? s.heap.objs.size=some o:=by obtain ⟨so,_,_,_,T⟩:=hS;exact ⟨so,T.at'.get⟩
   exact ⟨⟨I.sz,hS⟩,g,fun h1 h2 z k=>⟨z.1,z.2.at k⟩⟩
theorem JCy (hc:X.calm=true):CallR X (.builtin "sorted") (fun xs H Q=>∃p zs H1,xs=[.ref p]/\H=upd H1 p (StO X p zs)/\H1 p=none/\(dedS zs).length<=7/\∀q,H1 q=none->Q (.ref q) (upd H1 q (.lst ((JAk (dedS zs)).map V.str)))):=by
 intro pins s σ H xs us Q I r ⟨p,zs,H1,e,eH,h1,h5,q⟩
 subst e;subst eH
 cases r with
 | cons ra rb =>
  cases rb
  cases ra
  obtain ⟨⟨hs,so,es,ep,t,T⟩,_,_⟩:=I.hok p _ JAH
  obtain ⟨I1,f⟩:=forget I h1 hs
  obtain ⟨m,hn,_⟩:=I1.loc
  have esz:es.size<=7:=by
   have:=(JFB T (List.Perm.refl _)).2.length_eq
   rw [q_g,q_g,q_E] at this
   omega
  refine PySem.Calls.call_function_entry kind_sorted plain_sorted entry_sorted (args_sorted1 _) ?_
  unfold Builtin.«sorted»
  refine q_b (m:=checkCount "sorted" 1 1 _) (q_e ?_)
  refine q_b (JFN (by first | exact I.ok.hd hc | (simp only [Around.in1_handled];exact I.ok.hd hc)) T.at' (by omega) (fun hB=>⟨(T.led hB).1,(T.led hB).2.elim (fun z=>.inl (by omega)) .inr⟩) fun h2 d tk vs k2 pv=>?_)
  obtain ⟨tv0,pz⟩:=JFB T pv
  have hvl:vs.length<=7:=by rw [pv.length_eq,q_g,q_E];exact esz
  refine q_b (wpAny_newList ?_ (by rw [sizeLine_eq];omega))
  have hoL:(h2.push (seqObj "list" vs.toArray 0)).get? h2.objs.size=some (seqObj "list" vs.toArray 0):=q_k _ rfl
  have keep:∀b o,s.heap.get? b=some o->(h2.push (seqObj "list" vs.toArray 0)).get? b=some o:=fun b o e=>q_c _ (k2 b o e)
  have hDn:s.heap.get? h2.objs.size=none:=by
   cases e:s.heap.get? h2.objs.size with
   | none=>rfl
   | some o=>exact absurd (q_h (k2 _ o e)) (Nat.lt_irrefl _)
  show wpAny _ _ _ _ _ { s with heap:=h2.push (seqObj "list" vs.toArray 0),drawn:=d,toks:=tk }
  refine q_b (wpAny_holding (wpAny_call_entry slot_list_sort ⟨_,hoL,rfl⟩ entry_list_sort (JHd (s:=s) hn keep hDn hoL tv0 (by rw [pz.length_eq];exact h5) fun h' c out kp hn' hd tv=>?_) (args_list_sort _)))
  refine ⟨_,rfl,q_e ⟨_,rfl,?_⟩⟩
  rw [So.sort_perm pz (So.ded_nd zs) h5] at tv
  have ok:ObjOk X.prog X.w (upd H1 h2.objs.size (.lst ((JAk (dedS zs)).map V.str))) h' h2.objs.size (.lst ((JAk (dedS zs)).map V.str)):=by
   refine ⟨?_,out,c,tv,hd⟩
   have:=JHC h5
   rw [q_g,sizeLine_eq];omega
  have I3:Inv X pins σ H1 { s with drawn:=d,toks:=tk } :=
   I1.step (g':=s.gens) (d':=d) (t':=tk) (h':=s.heap) (ch:=[]) (fun _ z=>nomatch z) (fun b u _ _ _ e _=>e) (fun b u _ _ _ e _=>⟨u.slots,e⟩)
    (fun b u _ e n=>n) (fun b u _ e=>⟨u,e⟩) (fun b xs e=>e) (fun b u v e=>e) (fun b ps e=>⟨#[],by rw [e];simp⟩) (fun m hm=>hm) I1.hok I1.bare
  obtain ⟨h0,I2⟩:=JJJ (D:=h2.objs.size) I3 hn hn' kp hDn ok
  exact ⟨.ref h2.objs.size,_,I2,rfl,q _ h0⟩
end
end VI
end
section
namespace VI
open PySem PySem.Spec PyProof.Rows L2
section
variable {X:Cx} {B:Bs} {C:Cn} {CX:CXT} {XX:Nat->Hp->Prop} {G:List (Str×GK)}
theorem JGK {H:Hp}:∀ {ds:List D} {us:List V} {zs:List Str},strsOf ds=some zs->DenL B H ds us->us=zs.map V.str
 | [],us,zs,h,l=>by
  simp only [strsOf,q_j] at h
  simp only [DenL] at l
  subst h;subst l;rfl
 | d::ds,us,zs,h,l=>by
  simp only [DenL] at l
  obtain ⟨v,r,e,dv,l⟩:=l
  subst e
  cases d with
  | str x =>
   simp only [strsOf,q_d] at h
   obtain ⟨zs',h1,rfl⟩:=h
   simp only [Den] at dv
   subst dv
   rw [JGK h1 l]
   rfl
  | _=>simp [strsOf] at h
theorem JEb {H:Hp}:∀(zs:List Str) (H':Hp),DenL B H' (zs.map PyData.str) (zs.map V.str)
 | [],_=>by simp only [List.map_nil,DenL]
 | z::zs,H'=>by
  simp only [List.map_cons,DenL]
  exact ⟨_,_,rfl,by simp only [Den],JEb (H:=H) zs H'⟩
theorem JNu (g:Gk X B C CX XX G) {b:Expr} {p pos:Pos} {t:TA} (hg:glob G X.env.scope.names "set"=some .nam) (ha:PA X [b] t) (he:starEach [b] X.env=[(false,eval b X.env)]) :
  PE X (.Call (.Name "set" p) [b] [] pos) (tCB (fun xs H Q=>∃l zs,xs=[.ref l]/\SqL X.K H l (zs.map V.str)/\zs.length<=1000/\∀p,H p=none->Q (.ref p) (upd H p (StO X p zs))) t):=by
 obtain ⟨_,h2,h3⟩:=JA5 hg
 exact JEf (es:=[]) (JFh g.calm) h2 (g.nam _ h3) (by decide +kernel) ha (by decide) (by decide) he rfl
theorem JLS (X:Cx) (XX:Nat->Hp->Prop) (g:Gk X B C CX XX G) (e:Expr) (args:List Expr) (y:E) (h:xRaw G X.env.scope.names false e=some (.sst,args)) (ha:PA X args (RA B C XX y)) (hs:∀a∈args,∀es env,starEach (a::es) env=(false,eval a env)::starEach es env) (hc:cnt y=args.length):PE X e (RE B C XX (.xop .sst y)):=by
 unfold xRaw at h
 split at h
 ·rename_i f p a pos
  rcases JEQ h with z | ⟨z,_⟩ | ⟨_,rfl,h1,b,r,p2,pos2,rfl,rfl,rfl,h2⟩
  ·cases z
  ·cases z
  ·obtain ⟨_,h3,h4⟩:=JA5 h1
   refine PE.imp (JDj (es:=[]) (JCy g.calm) h3 (g.nam _ h4) (by decide +kernel) (JBL (JNu g h2 ha (hs b (by simp) [] X.env)) JCK rfl) (by decide) (by decide) rfl rfl) fun σ H Q ⟨δ,ok,k⟩=>?_
   simp only [ev] at k
   refine RA.of (W:=fun r H=>KE B XX r H Q) ok (fun _ _ z=>z) (fun _ z=>z) k fun ds vs H1 s1 d1 k1=>?_
   have k1:=KE.mono g s1 k1
   rcases JN5 ds with ⟨ys,rfl⟩ | ⟨b1,b2,b3⟩
   rotate_left
   ·rw [b3] at k1;exact False.elim k1
   ·simp only [DenL,Den] at d1
    obtain ⟨v,r,e,⟨q,us,e1,sq,l⟩,e2⟩:=d1
    subst e2;subst e1;subst e
    simp only [xD] at k1
    unfold sstS at k1
    cases hst:strsOf ys with
    | none=>rw [hst] at k1;exact False.elim k1
    | some zs =>
     rw [hst] at k1
     simp only at k1
     split at k1
     ·rename_i h5
      have eu:=JGK hst l
      subst eu
      refine ⟨q,zs,rfl,g.K▸sq,h5.1,fun p' hp=>⟨p',zs,H1,rfl,rfl,hp,h5.2,fun p3 hp3=>?_⟩⟩
      have sm:Same H1 (upd H1 p3 (.lst ((JAk (dedS zs)).map V.str))):=JBb hp3
      refine k1 _ _ sm ?_
      simp only [Den]
      exact ⟨p3,_,rfl,SqL.of JAH,JEb (H:=H1) _ _⟩
     ·exact False.elim k1
 ·cases h
theorem x_sst:XOk B C CX G .sst where
 val:=JLS
 itr:=by
  intro X XX g tg e args y h ha hs hc
  unfold xRaw at h
  split at h
  ·rcases JGC h with ⟨z,_⟩ | z
   ·cases z
   ·exact JEM g (JLS X XX g _ args y (JHT z) ha hs hc) fun δ=>by simp only [evI,ev]
  ·cases h
 tgt:=by
  intro X XX g ts kt pt e args y h ha hs hc
  unfold xTgt at h
  split at h
  ·split at h<;>cases h
  ·split at h<;>cases h
  ·cases h
end
end VI
end
section
namespace VI.VP
open PySem Fr
structure TabM (tab:Nat->Option Fd):Prop where
 h7:tab 7=some d_7
 h8:tab 8=some d_8
 h9:tab 9=some d_9
 h10:tab 10=some d_10
section
variable {x:Bool} {tab:Nat->Option Fd} {glo:Nat->R D} {sub:Nat->Nat->Bool} {n:Nat}
end
end VI.VP
end
section
namespace VI.VP
open PySem Fr
theorem F_can (p:Rat):(F p).canLay0=true:=by
 simp only [F,PyData.canLayAll0,PyData.canLay0,Bool.and_self]
theorem JNj (p:Rat):(F p).depth=1:=by
 simp only [F,PyData.depth,PyData.depthAll];rfl
section
variable {x:Bool} {tab:Nat->Option Fd} {glo:Nat->R D} {sub:Nat->Nat->Bool} {n:Nat}
end
end VI.VP
end
section
namespace VI.VP
noncomputable def b_23:S:=(.cons (.ret (.and (.isi (.var 0) .int) (.not (.isi (.var 0) .bool)))) .nil)
noncomputable def d_23:Fd:=⟨1,1,b_23⟩
noncomputable def b_24:S:=(.cons (.ife (.or (.not (.isi (.var 0) .tuple)) (.cmp .NotEq (.blt .len (.cons (.var 0) .nil)) (.cint 2))) (.cons (.ret (.cbl false)) .nil) .nil) (.cons (.asg 1 (.idx (.var 0) (.cint 0))) (.cons (.asg 2 (.idx (.var 0) (.cint 1))) (.cons (.ife (.or (.not (.call 23 (.cons (.var 1) .nil))) (.not (.call 23 (.cons (.var 2) .nil)))) (.cons (.ret (.cbl false)) .nil) .nil) (.cons (.ret (.and (.cmp .Gt (.var 2) (.cint 0)) (.cmp .Eq (.call 0 (.cons (.var 1) (.cons (.var 2) .nil))) (.cint 1)))) .nil)))))
noncomputable def d_24:Fd:=⟨1,3,b_24⟩
noncomputable def b_25:S:=(.cons (.ret (.call 1 (.cons (.bin .Mult (.idx (.var 0) (.cint 0)) (.idx (.var 1) (.cint 1))) (.cons (.bin .Mult (.idx (.var 0) (.cint 1)) (.idx (.var 1) (.cint 0))) .nil)))) .nil)
noncomputable def d_25:Fd:=⟨2,2,b_25⟩
noncomputable def b_26:S:=(.cons (.asg 1 (.lst (.cons (.isi (.var 0) (.own 1)) (.cons (.isi (.var 0) (.own 2)) (.cons (.isi (.var 0) (.own 6)) (.cons (.isi (.var 0) (.own 3)) .nil)))))) (.cons (.ext 1 (.lst (.cons (.isi (.var 0) (.own 7)) (.cons (.isi (.var 0) (.own 5)) (.cons (.isi (.var 0) (.own 4)) .nil))))) (.cons (.ife (.or (.cmp .NotEq (.mcount (.var 1) (.cbl true)) (.cint 1)) (.not (.isi (.var 0) .valueError))) (.cons (.ret (.cstr "wrong")) .nil) .nil) (.cons (.ret (.idx (.lst (.cons (.cstr "no frac") (.cons (.cstr "no kind") (.cons (.cstr "no name") (.cons (.cstr "no plan") (.cons (.cstr "no text") (.cons (.cstr "no time") (.cons (.cstr "no track") .nil)))))))) (.mindex (.var 1) (.cbl true)))) .nil))))
noncomputable def d_26:Fd:=⟨1,2,b_26⟩
noncomputable def b_27:S:=(.cons (.asg 3 .cnon) (.cons (.asg 4 .cnon) (.cons (.tryx (.cons (.asg 4 (.ife (.cmp .Eq (.var 0) (.cint 0)) (.call 1 (.cons (.var 1) (.cons (.var 2) .nil))) (.call 25 (.cons (.var 1) (.cons (.var 2) .nil))))) .nil) 0 5 (.cons (.asg 3 (.var 5)) .nil)) (.cons (.ife (.isN (.var 3) false) (.cons (.ret (.var 4)) .nil) .nil) (.cons (.ret (.call 26 (.cons (.var 3) .nil))) .nil)))))
noncomputable def d_27:Fd:=⟨3,6,b_27⟩
end VI.VP
end
section
namespace VI.VP
open PySem Fr
section
variable {x:Bool} {tab:Nat->Option Fd} {glo:Nat->R D} {sub:Nat->Nat->Bool} {n:Nat}
structure TabI (tab:Nat->Option Fd):Prop where
 h23:tab 23=some d_23
 h24:tab 24=some d_24
 h25:tab 25=some d_25
noncomputable def isW:D->Bool
 | .int _=>true
 | _=>false
theorem JBV (T:TabI tab) (d:D) {b1 b2:Bool} (h1:isiD sub d .int=.ok (.bool b1)) (h2:isiD sub d .bool=.ok (.bool b2)):run x tab glo sub (n+1) 23 [d]=.ok (.bool (b1&&!b2)):=by
 rw [JAB T.h23,JAA rfl]
 cases b1
 ·dsimp! [d_23,b_23,h1,h2]
 ·dsimp! [d_23,b_23,h1,h2,Bool.true_and]
theorem JHV (T:TabI tab) (d:D) (h:∀k,d≠.dict k):run x tab glo sub (n+1) 23 [d]=.ok (.bool (isW d)):=by
 cases d with
 | dict k=>exact absurd rfl (h k)
 | none=>exact JBV (b1:=false) (b2:=false) T _ rfl rfl
 | bool k=>exact JBV (b1:=true) (b2:=true) T _ rfl rfl
 | int k=>exact JBV (b1:=true) (b2:=false) T _ rfl rfl
 | str k=>exact JBV (b1:=false) (b2:=false) T _ rfl rfl
 | list k=>exact JBV (b1:=false) (b2:=false) T _ rfl rfl
 | tuple k=>exact JBV (b1:=false) (b2:=false) T _ rfl rfl
theorem JKB (T:TabF tab) (I:TabI tab) (a b:Int):run x tab glo sub (n+2) 24 [.tuple [.int a,.int b]]=.ok (.bool (decide (0<b)&&decide (a.gcd b=1))):=by
 have w:=fun (d:D) (h:∀k,d≠.dict k)=>JHV (x:=x) (glo:=glo) (sub:=sub) (n:=n) I d h
 have e0:idxD (.tuple [.int a,.int b]) (.int 0)=.ok (.int a):=rfl
 have e1:idxD (.tuple [.int a,.int b]) (.int 1)=.ok (.int b):=rfl
 have e2:isiD sub (.tuple [.int a,.int b]) .tuple=.ok (.bool true):=rfl
 have e3:(2:Int)=(((0+1+1:Nat)):Int):=rfl
 have e4:((((a.gcd b:Nat):Int))=1)=(a.gcd b=1):=by apply propext;omega
 rw [JAB I.h24,JAA rfl]
 by_cases hb:0<b
 ·dsimp! [d_24,b_24,e0,e1,e2,e3,w (.int a) (fun k h=>by cases h),w (.int b) (fun k h=>by cases h),isW,List.length_cons,List.length_nil,Nat.reduceAdd,Bool.not_true,hb,decide_true,JKL T,Bool.true_and,e4]
 ·dsimp! [d_24,b_24,e0,e1,e2,e3,w (.int a) (fun k h=>by cases h),w (.int b) (fun k h=>by cases h),isW,List.length_cons,List.length_nil,Nat.reduceAdd,Bool.not_true,hb,decide_true,decide_false,JKL T,Bool.true_and,e4]
theorem isf_F (T:TabF tab) (I:TabI tab) (p:Rat):run x tab glo sub (n+2) 24 [F p]=.ok (.bool true):=by
 rw [F,JKB T I,JMW]
 have:=den_pos p
 rw [decide_eq_true this]
 rfl
end
end VI.VP
end
section
namespace VI.VP
noncomputable def b_29:S:=(.cons (.ret (.cmp .In (.var 0) (.glo 41))) .nil)
noncomputable def d_29:Fd:=⟨1,1,b_29⟩
noncomputable def b_30:S:=(.cons (.ife (.not (.call 29 (.cons (.var 0) .nil))) (.cons (.rais 2) .nil) .nil) .nil)
noncomputable def d_30:Fd:=⟨1,1,b_30⟩
noncomputable def b_31:S:=(.cons (.ret (.call 8 (.cons (.lst (.cons (.glo 39) (.cons (.call 7 (.cons (.lst (.cons (.glo 40) (.cons (.var 0) .nil))) .nil)) .nil))) .nil))) .nil)
noncomputable def d_31:Fd:=⟨1,1,b_31⟩
noncomputable def b_32:S:=(.cons (.drop (.call 30 (.cons (.var 0) .nil))) (.cons (.asg 2 (.call 31 (.cons (.var 1) .nil))) (.cons (.ife (.cmp .Eq (.var 0) (.cstr "even")) (.cons (.ret (.var 2)) .nil) .nil) (.cons (.ife (.cmp .Eq (.var 0) (.cstr "in")) (.cons (.ret (.call 5 (.cons (.var 2) (.cons (.var 2) .nil)))) .nil) .nil) (.cons (.ife (.cmp .Eq (.var 0) (.cstr "out")) (.cons (.ret (.call 4 (.cons (.call 5 (.cons (.call 2 (.cons (.cint 2) .nil)) (.cons (.var 2) .nil))) (.cons (.call 5 (.cons (.var 2) (.cons (.var 2) .nil))) .nil)))) .nil) .nil) (.cons (.ife (.cmp .Eq (.var 0) (.cstr "both")) (.cons (.ret (.call 5 (.cons (.call 5 (.cons (.var 2) (.cons (.var 2) .nil))) (.cons (.call 4 (.cons (.call 2 (.cons (.cint 3) .nil)) (.cons (.call 5 (.cons (.call 2 (.cons (.cint 2) .nil)) (.cons (.var 2) .nil))) .nil))) .nil)))) .nil) .nil) (.cons (.ife (.cmp .Eq (.var 0) (.cstr "hold")) (.cons (.ret (.ife (.cmp .Eq (.var 2) (.glo 40)) (.glo 40) (.glo 39))) .nil) .nil) (.cons (.ret (.ife (.cmp .Eq (.var 2) (.glo 39)) (.glo 39) (.glo 40))) .nil))))))))
noncomputable def d_32:Fd:=⟨2,3,b_32⟩
noncomputable def b_33:S:=(.cons (.drop (.call 30 (.cons (.var 0) .nil))) (.cons (.ret (.mget (.glo 42) (.var 0) (.var 0))) .nil))
noncomputable def d_33:Fd:=⟨1,1,b_33⟩
noncomputable def b_34:S:=(.cons (.drop (.call 30 (.cons (.var 0) .nil))) (.cons (.ife (.cmp .Lt (.var 1) (.cint 1)) (.cons (.ret (.lst .nil)) .nil) .nil) (.cons (.ret (.cmpr 0 (.call 32 (.cons (.var 1) (.cons (.call 1 (.cons (.var 0) (.cons (.var 2) .nil))) .nil))) (.rng (.cons (.bin .Add (.var 1) (.cint 1)) .nil)) (.cbl true))) .nil)))
noncomputable def d_34:Fd:=⟨2,2,b_34⟩
noncomputable def b_35:S:=(.cons (.ret (.idx (.lst (.cons (.cstr "even") (.cons (.cstr "in") (.cons (.cstr "out") (.cons (.cstr "both") (.cons (.cstr "hold") (.cons (.cstr "jump") .nil))))))) (.call 12 (.cons (.var 0) (.cons (.var 1) (.cons (.cint 6) .nil)))))) .nil)
noncomputable def d_35:Fd:=⟨2,2,b_35⟩
noncomputable def b_36:S:=(.cons (.ife (.cmp .LtE (.idx (.var 1) (.cint 0)) (.cint 0)) (.cons (.ret (.tup (.cons (.cint 0) (.cons (.cint 1) .nil)))) .nil) .nil) (.cons (.ife (.cmp .GtE (.idx (.var 1) (.cint 0)) (.idx (.var 1) (.cint 1))) (.cons (.ret (.tup (.cons (.cint 1) (.cons (.cint 1) .nil)))) .nil) .nil) (.cons (.ife (.cmp .In (.var 0) (.tup (.cons (.cstr "hold") (.cons (.cstr "jump") .nil)))) (.cons (.ret (.ife (.cmp .Eq (.var 0) (.cstr "hold")) (.tup (.cons (.cint 0) (.cons (.cint 1) .nil))) (.tup (.cons (.cint 1) (.cons (.cint 1) .nil))))) .nil) .nil) (.cons (.unp [2,3] (.var 1)) (.cons (.ife (.cmp .Eq (.var 0) (.cstr "even")) (.cons (.ret (.var 1)) .nil) .nil) (.cons (.ife (.cmp .Eq (.var 0) (.cstr "in")) (.cons (.ret (.call 14 (.cons (.bin .Mult (.var 2) (.var 2)) (.cons (.bin .Mult (.var 3) (.var 3)) .nil)))) .nil) .nil) (.cons (.ife (.cmp .Eq (.var 0) (.cstr "out")) (.cons (.ret (.call 14 (.cons (.bin .Sub (.bin .Mult (.bin .Mult (.cint 2) (.var 2)) (.var 3)) (.bin .Mult (.var 2) (.var 2))) (.cons (.bin .Mult (.var 3) (.var 3)) .nil)))) .nil) .nil) (.cons (.ret (.call 14 (.cons (.bin .Sub (.bin .Mult (.bin .Mult (.bin .Mult (.cint 3) (.var 2)) (.var 2)) (.var 3)) (.bin .Mult (.bin .Mult (.bin .Mult (.cint 2) (.var 2)) (.var 2)) (.var 2))) (.cons (.bin .Mult (.bin .Mult (.var 3) (.var 3)) (.var 3)) .nil)))) .nil))))))))
noncomputable def d_36:Fd:=⟨2,4,b_36⟩
noncomputable def b_37:S:=(.cons (.asg 2 .cnon) (.cons (.asg 3 .cnon) (.cons (.tryx (.cons (.asg 3 (.ife (.cmp .Eq (.var 0) (.cint 0)) (.call 32 (.cons (.var 1) (.cons (.tup (.cons (.cint 1) (.cons (.cint 2) .nil))) .nil))) (.call 33 (.cons (.var 1) .nil)))) .nil) 0 4 (.cons (.asg 2 (.var 4)) .nil)) (.cons (.ife (.isN (.var 2) false) (.cons (.ret (.var 3)) .nil) .nil) (.cons (.ret (.call 26 (.cons (.var 2) .nil))) .nil)))))
noncomputable def d_37:Fd:=⟨2,5,b_37⟩
end VI.VP
end
section
namespace VI.VP
open PySem Fr
inductive Kd where
 | even | inn | out | both | hold | jump
 deriving DecidableEq
noncomputable def Kd.str:Kd->Str
 | .even=>"even"
 | .inn=>"in"
 | .out=>"out"
 | .both=>"both"
 | .hold=>"hold"
 | .jump=>"jump"
noncomputable def Kd.turn:Kd->Kd
 | .inn=>.out
 | .out=>.inn
 | .hold=>.jump
 | .jump=>.hold
 | k=>k
noncomputable def JHM (r:Rat):Rat:=if r<=0 then 0 else if 1<=r then 1 else r
noncomputable def ez (k:Kd) (p:Rat):Rat:=match k with
 | .even=>p
 | .inn=>p*p
 | .out=>2*p - p*p
 | .both=>p*p*(3 - 2*p)
 | .hold=>if p=1 then 1 else 0
 | .jump=>if p=0 then 0 else 1
noncomputable def kinds:D:=.tuple [.str "even",.str "in",.str "out",.str "both",.str "hold",.str "jump"]
noncomputable def turned:D:=.dict [(.str "in",.str "out"),(.str "out",.str "in"),(.str "hold",.str "jump"),(.str "jump",.str "hold")]
structure GloK (glo:Nat->R D):Prop where
 zero:glo 39=.ok (F 0)
 one:glo 40=.ok (F 1)
 kinds:glo 41=.ok VP.kinds
 turned:glo 42=.ok VP.turned
structure TabK (tab:Nat->Option Fd):Prop where
 h29:tab 29=some d_29
 h30:tab 30=some d_30
 h31:tab 31=some d_31
 h32:tab 32=some d_32
 h33:tab 33=some d_33
section
variable {x:Bool} {tab:Nat->Option Fd} {glo:Nat->R D} {sub:Nat->Nat->Bool} {n:Nat}
theorem JQe (g:GloK glo) (T:TabK tab) (d:D) {b:Bool} (h:cmpD .In d VP.kinds=.ok (.bool b)):run x tab glo sub (n+1) 29 [d]=.ok (.bool b):=by
 rw [JAB T.h29,JAA rfl]
 dsimp! [d_29,b_29,g.kinds,h]
theorem JJo (k:Kd):cmpD .In (.str k.str) VP.kinds=.ok (.bool true):=by
 have h:JB5 [.str "even",.str "in",.str "out",.str "both",.str "hold",.str "jump"] (.str k.str)=true:=by cases k<;>decide +kernel
 have h2:([.str "even",.str "in",.str "out",.str "both",.str "hold",.str "jump"]:List D).any (fun z=>PyData.eqv z (.str k.str))=true:=by cases k<;>decide +kernel
 simp only [cmpD,VP.kinds,h,if_true,h2]
end
section
variable {x:Bool} {tab:Nat->Option Fd} {glo:Nat->R D} {sub:Nat->Nat->Bool} {n:Nat}
theorem F0':PyData.tuple [.int 0,.int 1]=F 0:=rfl
theorem JMx (i:Int) (h0:0<=i) (h1:i<6):∃k:Kd,idxD (.list [.str "even",.str "in",.str "out",.str "both",.str "hold",.str "jump"]) (.int i)=.ok (.str k.str):=by
 have:i=0\/i=1\/i=2\/i=3\/i=4\/i=5:=by omega
 rcases this with rfl | rfl | rfl | rfl | rfl | rfl
 ·exact ⟨.even,rfl⟩
 ·exact ⟨.inn,rfl⟩
 ·exact ⟨.out,rfl⟩
 ·exact ⟨.both,rfl⟩
 ·exact ⟨.hold,rfl⟩
 ·exact ⟨.jump,rfl⟩
theorem JJd (Lw:TabL tab) (h35:tab 35=some d_35) (ns:List Int) (j:Int) (hj:0<=j) (hj2:j<1000000):∃k:Kd,run x tab glo sub (n+3) 35 [sc ns,.int j]=.ok (.str k.str):=by
 rw [JAB h35,JAA rfl]
 obtain ⟨i,i0,i1,hi⟩:=JCc (x:=x) (glo:=glo) (sub:=sub) (n:=n) Lw ns j 6 hj (by omega) (by decide)
 obtain ⟨k,hk⟩:=JMx i i0 i1
 refine ⟨k,?_⟩
 dsimp! [d_35,b_35,hi,hk]
end
noncomputable def e8 (k:Kd) (s:Int):Rat:=ez k (JHM (Rat.divInt s 8))
section
variable {x:Bool} {tab:Nat->Option Fd} {glo:Nat->R D} {sub:Nat->Nat->Bool} {n:Nat}
noncomputable def parts (k:Kd) (m:Int):List Rat:=(List.range (m+1).toNat).map fun j:Nat=>ez k (JHM (Rat.divInt (j:Int) m))
end
end VI.VP
end
section
namespace VI.VP
noncomputable def b_43:S:=(.cons (.drop (.call 30 (.cons (.var 0) .nil))) (.cons (.ife (.or (.call 6 (.cons (.var 1) (.cons (.glo 39) .nil))) (.call 6 (.cons (.glo 40) (.cons (.var 1) .nil)))) (.cons (.ret (.glo 39)) .nil) .nil) (.cons (.ife (.cmp .Eq (.var 0) (.cstr "even")) (.cons (.ret (.glo 40)) .nil) .nil) (.cons (.ife (.cmp .Eq (.var 0) (.cstr "in")) (.cons (.ret (.call 5 (.cons (.call 2 (.cons (.cint 2) .nil)) (.cons (.var 1) .nil)))) .nil) .nil) (.cons (.ife (.cmp .Eq (.var 0) (.cstr "out")) (.cons (.ret (.call 4 (.cons (.call 2 (.cons (.cint 2) .nil)) (.cons (.call 5 (.cons (.call 2 (.cons (.cint 2) .nil)) (.cons (.var 1) .nil))) .nil)))) .nil) .nil) (.cons (.ife (.cmp .Eq (.var 0) (.cstr "both")) (.cons (.ret (.call 5 (.cons (.call 2 (.cons (.cint 6) .nil)) (.cons (.call 4 (.cons (.var 1) (.cons (.call 5 (.cons (.var 1) (.cons (.var 1) .nil))) .nil))) .nil)))) .nil) .nil) (.cons (.ret (.glo 39)) .nil)))))))
noncomputable def d_43:Fd:=⟨2,2,b_43⟩
noncomputable def b_44:S:=(.cons (.asg 1 .cnon) (.cons (.tryx (.cons (.drop (.call 43 (.cons (.var 0) (.cons (.tup (.cons (.cint 1) (.cons (.cint 2) .nil))) .nil)))) .nil) 0 2 (.cons (.asg 1 (.var 2)) .nil)) (.cons (.ret (.isi (.var 1) (.own 2))) .nil)))
noncomputable def d_44:Fd:=⟨1,3,b_44⟩
end VI.VP
end
section
namespace VI.VP
open PySem Fr
noncomputable def slm (k:Kd) (r:Rat):Rat:=match k with
 | .even=>1
 | .inn=>2*r
 | .out=>2 - 2*r
 | .both=>6*(r - r*r)
 | .hold=>0
 | .jump=>0
noncomputable def sl (k:Kd) (r:Rat):Rat:=if r<0\/1<r then 0 else slm k r
section
variable {x:Bool} {tab:Nat->Option Fd} {glo:Nat->R D} {sub:Nat->Nat->Bool} {n:Nat}
end
end VI.VP
end
section
namespace VI.VP
open PySem Fr
class Z (k:outParam Nat) (q:Rat):Prop where
 h:Sz k q
theorem Z.le {k:Nat} {q:Rat} (z:Z k q) {n:Nat} (h:k<=n):Sz n q:=z.h.mono h
section
variable {i j:Nat} {p q:Rat}
instance [a:Z i p] [b:Z j q]:Z (i+j+1) (p+q):=⟨a.h.add b.h (q_t _)⟩
instance [a:Z i p] [b:Z j q]:Z (i+j+1) (p - q):=⟨a.h.sub b.h (q_t _)⟩
instance [a:Z i p] [b:Z j q]:Z (i+j) (p*q):=⟨a.h.mul b.h (q_t _)⟩
theorem Small.Z {q:Rat} (h:Small q):Z 5 q:=⟨h.sz⟩
end
theorem nd (q:Rat):q*((q.den:Int):Rat)=(q.num:Rat):=by
 have z:((q.den:Int):Rat)≠0:=by exact_mod_cast JAo q
 conv=>lhs;lhs;rw [<-Rat.num_divInt_den q,Rat.divInt_eq_div,Rat.div_def]
 rw [Rat.mul_assoc,Rat.inv_mul_cancel _ z,Rat.mul_one]
section
variable {a c i i4 i5 i6:Nat} {s g l u v q:Rat}
end
section
variable {j:Nat} {p:Rat} [a:Z j p]
end
end VI.VP
end
section
namespace VI.VP
noncomputable def b_68:S:=(.cons (.ret (.and (.call 24 (.cons (.var 0) .nil)) (.cmp .Gt (.idx (.var 0) (.cint 0)) (.cint 0)))) .nil)
noncomputable def d_68:Fd:=⟨1,1,b_68⟩
noncomputable def b_80:S:=(.cons (.ret (.tup (.cons (.var 0) (.cons (.var 1) (.cons (.var 2) (.cons (.var 3) (.cons (.var 4) (.cons (.glo 77) .nil)))))))) .nil)
noncomputable def d_80:Fd:=⟨5,5,b_80⟩
noncomputable def JKA:S:=(.cons (.asg 1 (.glo 39)) (.cons (.for1 2 (.var 0) (.cons (.asg 1 (.call 3 (.cons (.var 1) (.cons (.var 2) .nil)))) .nil)) (.cons (.ret (.var 1)) .nil)))
noncomputable def JJq:Fd:=⟨1,3,JKA⟩
noncomputable def JKM:S:=(.cons (.ret (.call 141 (.cons (.var 0) (.cons (.glo 151) .nil)))) .nil)
noncomputable def JJk:Fd:=⟨1,1,JKM⟩
noncomputable def JCQ:S:=(.cons (.ife (.or (.cmp .Eq (.var 1) (.cint 0)) (.or (.not (.isi (.var 0) .tuple)) (.cmp .Eq (.blt .len (.cons (.var 0) .nil)) (.cint 0)))) (.cons (.ret (.cbl false)) .nil) .nil) (.cons (.asg 2 (.idx (.var 0) (.cint 0))) (.cons (.ife (.or (.cmp .Eq (.var 2) (.cstr "go")) (.cmp .Eq (.var 2) (.cstr "by"))) (.cons (.ret (.and (.cmp .Eq (.blt .len (.cons (.var 0) .nil)) (.cint 4)) (.and (.call 24 (.cons (.idx (.var 0) (.cint 1)) .nil)) (.and (.call 68 (.cons (.idx (.var 0) (.cint 2)) .nil)) (.call 29 (.cons (.idx (.var 0) (.cint 3)) .nil)))))) .nil) .nil) (.cons (.ife (.cmp .Eq (.var 2) (.cstr "wait")) (.cons (.ret (.and (.cmp .Eq (.blt .len (.cons (.var 0) .nil)) (.cint 2)) (.call 68 (.cons (.idx (.var 0) (.cint 1)) .nil)))) .nil) .nil) (.cons (.ife (.cmp .Eq (.var 2) (.cstr "then")) (.cons (.ret (.and (.cmp .Eq (.blt .len (.cons (.var 0) .nil)) (.cint 3)) (.and (.call 141 (.cons (.idx (.var 0) (.cint 1)) (.cons (.bin .Sub (.var 1) (.cint 1)) .nil))) (.call 141 (.cons (.idx (.var 0) (.cint 2)) (.cons (.bin .Sub (.var 1) (.cint 1)) .nil)))))) .nil) .nil) (.cons (.ife (.cmp .Eq (.var 2) (.cstr "again")) (.cons (.ret (.and (.cmp .Eq (.blt .len (.cons (.var 0) .nil)) (.cint 3)) (.and (.call 142 (.cons (.idx (.var 0) (.cint 1)) .nil)) (.call 141 (.cons (.idx (.var 0) (.cint 2)) (.cons (.bin .Sub (.var 1) (.cint 1)) .nil)))))) .nil) .nil) (.cons (.ret (.cbl false)) .nil)))))))
noncomputable def JBq:Fd:=⟨2,3,JCQ⟩
noncomputable def JIK:S:=(.cons (.ret (.and (.call 23 (.cons (.var 0) .nil)) (.and (.cmp .GtE (.var 0) (.cint 0)) (.cmp .LtE (.var 0) (.glo 152))))) .nil)
noncomputable def JH6:Fd:=⟨1,1,JIK⟩
noncomputable def JFg:S:=(.cons (.ife (.cmp .Eq (.idx (.var 0) (.cint 0)) (.cstr "then")) (.cons (.ret (.bin .Add (.call 143 (.cons (.idx (.var 0) (.cint 1)) .nil)) (.call 143 (.cons (.idx (.var 0) (.cint 2)) .nil)))) .nil) .nil) (.cons (.ife (.cmp .Eq (.idx (.var 0) (.cint 0)) (.cstr "again")) (.cons (.ret (.bin .Mult (.call 143 (.cons (.idx (.var 0) (.cint 2)) .nil)) (.idx (.var 0) (.cint 1)))) .nil) .nil) (.cons (.ret (.lst (.cons (.var 0) .nil))) .nil)))
noncomputable def JDL:Fd:=⟨1,1,JFg⟩
noncomputable def JHc:S:=(.cons (.ret (.ife (.cmp .Eq (.idx (.var 0) (.cint 0)) (.cstr "wait")) (.idx (.var 0) (.cint 1)) (.idx (.var 0) (.cint 2)))) .nil)
noncomputable def JIJ:Fd:=⟨1,1,JHc⟩
noncomputable def JKZ:S:=(.cons (.ret (.call 179 (.cons (.cmpr 0 (.call 144 (.cons (.var 0) .nil)) (.call 143 (.cons (.var 0) .nil)) (.cbl true)) .nil))) .nil)
noncomputable def JJ8:Fd:=⟨1,1,JKZ⟩
noncomputable def JC9:S:=(.cons (.asg 3 (.call 12 (.cons (.var 0) (.cons (.var 1) (.cons (.cint 8) .nil))))) (.cons (.ife (.or (.cmp .Eq (.var 2) (.cint 1)) (.cmp .Lt (.var 3) (.cint 3))) (.cons (.asg 4 (.call 12 (.cons (.var 0) (.cons (.bin .Add (.var 1) (.cint 1)) (.cons (.cint 5) .nil))))) (.cons (.ife (.cmp .Eq (.var 4) (.cint 0)) (.cons (.ret (.tup (.cons (.cstr "wait") (.cons (.call 16 (.cons (.var 0) (.cons (.bin .Add (.var 1) (.cint 2)) .nil))) .nil)))) .nil) .nil) (.cons (.asg 5 (.ife (.cmp .Lt (.var 4) (.cint 3)) (.cstr "go") (.cstr "by"))) (.cons (.ret (.tup (.cons (.var 5) (.cons (.call 15 (.cons (.var 0) (.cons (.bin .Add (.var 1) (.cint 4)) .nil))) (.cons (.call 16 (.cons (.var 0) (.cons (.bin .Add (.var 1) (.cint 6)) .nil))) (.cons (.call 35 (.cons (.var 0) (.cons (.bin .Add (.var 1) (.cint 8)) .nil))) .nil)))))) .nil)))) .nil) (.cons (.ife (.cmp .Lt (.var 3) (.cint 6)) (.cons (.asg 6 (.call 146 (.cons (.var 0) (.cons (.bin .Add (.bin .Mult (.cint 3) (.var 1)) (.cint 11)) (.cons (.bin .Sub (.var 2) (.cint 1)) .nil))))) (.cons (.ret (.tup (.cons (.cstr "then") (.cons (.var 6) (.cons (.call 146 (.cons (.var 0) (.cons (.bin .Add (.bin .Mult (.cint 3) (.var 1)) (.cint 37)) (.cons (.bin .Sub (.var 2) (.cint 1)) .nil)))) .nil))))) .nil)) .nil) (.cons (.ret (.tup (.cons (.cstr "again") (.cons (.call 12 (.cons (.var 0) (.cons (.bin .Add (.var 1) (.cint 9)) (.cons (.cint 4) .nil)))) (.cons (.call 146 (.cons (.var 0) (.cons (.bin .Add (.bin .Mult (.cint 3) (.var 1)) (.cint 23)) (.cons (.bin .Sub (.var 2) (.cint 1)) .nil)))) .nil))))) .nil))))
noncomputable def d_146:Fd:=⟨3,7,JC9⟩
noncomputable def JFW:S:=(.cons (.ife (.cmp .Eq (.idx (.var 0) (.cint 0)) (.cstr "then")) (.cons (.ret (.bin .Add (.call 147 (.cons (.idx (.var 0) (.cint 1)) .nil)) (.call 147 (.cons (.idx (.var 0) (.cint 2)) .nil)))) .nil) .nil) (.cons (.ife (.cmp .Eq (.idx (.var 0) (.cint 0)) (.cstr "again")) (.cons (.asg 1 (.lst .nil)) (.cons (.for1 2 (.rng (.cons (.idx (.var 0) (.cint 1)) .nil)) (.cons (.ext 1 (.call 147 (.cons (.idx (.var 0) (.cint 2)) .nil))) .nil)) (.cons (.ret (.var 1)) .nil))) .nil) (.cons (.ret (.lst (.cons (.var 0) .nil))) .nil)))
noncomputable def JDI:Fd:=⟨1,3,JFW⟩
noncomputable def JJR:S:=(.cons (.ife (.not (.call 140 (.cons (.var 0) .nil))) (.cons (.rais 3) .nil) .nil) .nil)
noncomputable def JJY:Fd:=⟨1,1,JJR⟩
noncomputable def JG3:S:=(.cons (.ife (.cmp .Eq (.idx (.var 0) (.cint 0)) (.cstr "wait")) (.cons (.ret (.var 1)) .nil) .nil) (.cons (.ife (.cmp .Eq (.idx (.var 0) (.cint 0)) (.cstr "by")) (.cons (.ret (.call 3 (.cons (.var 1) (.cons (.idx (.var 0) (.cint 1)) .nil)))) .nil) .nil) (.cons (.ret (.idx (.var 0) (.cint 1))) .nil)))
noncomputable def JGw:Fd:=⟨2,2,JG3⟩
noncomputable def JEY:S:=(.cons (.drop (.call 153 (.cons (.var 0) .nil))) (.cons (.asg 3 (.lst .nil)) (.cons (.asg 4 (.var 1)) (.cons (.asg 5 (.var 2)) (.cons (.for1 6 (.call 143 (.cons (.var 0) .nil)) (.cons (.asg 7 (.call 154 (.cons (.var 6) (.cons (.var 4) .nil)))) (.cons (.ife (.cmp .NotEq (.idx (.var 6) (.cint 0)) (.cstr "wait")) (.cons (.app 3 (.call 80 (.cons (.var 4) (.cons (.var 7) (.cons (.var 5) (.cons (.idx (.var 6) (.cint 2)) (.cons (.idx (.var 6) (.cint 3)) .nil))))))) .nil) .nil) (.cons (.asg 4 (.var 7)) (.cons (.asg 5 (.call 3 (.cons (.var 5) (.cons (.call 144 (.cons (.var 6) .nil)) .nil)))) .nil))))) (.cons (.ret (.tup (.cons (.var 1) (.cons (.fn1 .toTup (.var 3)) .nil)))) .nil))))))
noncomputable def JKc:Fd:=⟨3,8,JEY⟩
noncomputable def JJO:S:=(.cons (.drop (.call 153 (.cons (.var 0) .nil))) (.cons (.ret (.call 161 (.cons (.var 0) (.cons (.var 1) .nil)))) .nil))
noncomputable def JJ9:Fd:=⟨2,2,JJO⟩
noncomputable def JFJ:S:=(.cons (.ife (.cmp .Eq (.idx (.var 0) (.cint 0)) (.cstr "then")) (.cons (.ret (.tup (.cons (.cstr "then") (.cons (.call 161 (.cons (.idx (.var 0) (.cint 1)) (.cons (.var 1) .nil))) (.cons (.call 161 (.cons (.idx (.var 0) (.cint 2)) (.cons (.var 1) .nil))) .nil))))) .nil) .nil) (.cons (.ife (.cmp .Eq (.idx (.var 0) (.cint 0)) (.cstr "again")) (.cons (.ret (.tup (.cons (.cstr "again") (.cons (.idx (.var 0) (.cint 1)) (.cons (.call 161 (.cons (.idx (.var 0) (.cint 2)) (.cons (.var 1) .nil))) .nil))))) .nil) .nil) (.cons (.ife (.cmp .Eq (.idx (.var 0) (.cint 0)) (.cstr "wait")) (.cons (.ret (.tup (.cons (.cstr "wait") (.cons (.call 5 (.cons (.idx (.var 0) (.cint 1)) (.cons (.var 1) .nil))) .nil)))) .nil) .nil) (.cons (.ret (.tup (.cons (.idx (.var 0) (.cint 0)) (.cons (.idx (.var 0) (.cint 1)) (.cons (.call 5 (.cons (.idx (.var 0) (.cint 2)) (.cons (.var 1) .nil))) (.cons (.idx (.var 0) (.cint 3)) .nil)))))) .nil))))
noncomputable def JDH:Fd:=⟨2,2,JFJ⟩
noncomputable def JKF:S:=(.cons (.drop (.call 153 (.cons (.var 0) .nil))) (.cons (.asg 2 (.lst .nil)) (.cons (.asg 3 (.var 1)) (.cons (.for1 4 (.call 143 (.cons (.var 0) .nil)) (.cons (.app 2 (.var 3)) (.cons (.asg 3 (.call 3 (.cons (.var 3) (.cons (.call 144 (.cons (.var 4) .nil)) .nil)))) .nil))) (.cons (.ret (.var 2)) .nil)))))
noncomputable def JJ1:Fd:=⟨2,5,JKF⟩
noncomputable def JFd:S:=(.cons (.asg 3 (.cmpr 0 (.var 0) (.call 231 (.cons (.var 0) (.cons (.var 1) .nil))) (.not (.call 6 (.cons (.var 3) (.cons (.var 0) .nil)))))) (.cons (.ife (.or (.cmp .Eq (.blt .len (.cons (.var 3) .nil)) (.cint 0)) (.not (.call 6 (.cons (.var 2) (.cons (.call 3 (.cons (.var 1) (.cons (.call 180 (.cons (.var 0) .nil)) .nil))) .nil))))) (.cons (.ret .cnon) .nil) .nil) (.cons (.ret (.bin .Sub (.blt .len (.cons (.var 3) .nil)) (.cint 1))) .nil)))
noncomputable def JFY:Fd:=⟨3,4,JFd⟩
noncomputable def JIa:S:=(.cons (.ret (.ife (.cmp .Eq (.idx (.var 0) (.cint 0)) (.cstr "wait")) (.idx (.var 0) (.cint 0)) (.idx (.var 0) (.cint 3)))) .nil)
noncomputable def JHv:Fd:=⟨1,1,JIa⟩
noncomputable def JJQ:S:=(.cons (.drop (.call 153 (.cons (.var 0) .nil))) (.cons (.asg 1 (.cmpr 0 (.call 233 (.cons (.var 0) .nil)) (.call 143 (.cons (.var 0) .nil)) (.cbl true))) (.cons (.ret (.cmpr 0 (.tup (.cons (.var 0) (.cons (.mcount (.var 2) (.var 0)) .nil))) (.xop .sst (.cons (.var 1) .nil)) (.cbl true))) .nil)))
noncomputable def JJs:Fd:=⟨1,2,JJQ⟩
noncomputable def JIB:S:=(.cons (.unp [1,2] (.tup (.cons (.call 146 (.cons (.var 0) (.cons (.cint 100) (.cons (.cint 3) .nil)))) (.cons (.call 15 (.cons (.var 0) (.cons (.cint 0) .nil))) .nil)))) (.cons (.cons (.unp [3,4,5] (.tup (.cons (.call 147 (.cons (.var 1) .nil)) (.cons .cnon (.cons (.var 2) .nil))))) (.asg 4 (.lst .nil))) (.cons (.for1 6 (.var 3) (.cons (.app 4 (.var 5)) (.cons (.asg 5 (.call 17 (.cons (.var 5) (.cons (.ife (.cmp .Eq (.idx (.var 6) (.cint 0)) (.cstr "wait")) (.idx (.var 6) (.cint 1)) (.idx (.var 6) (.cint 2))) .nil)))) .nil))) (.cons (.asg 7 (.call 231 (.cons (.var 1) (.cons (.var 2) .nil)))) (.cons (.ife (.or (.cmp .NotEq (.var 7) (.var 4)) (.cmp .NotEq (.var 5) (.call 17 (.cons (.var 2) (.cons (.call 180 (.cons (.var 1) .nil)) .nil))))) (.cons (.ret (.cbl false)) .nil) .nil) (.cons (.asg 8 (.bin .Add (.fn1 (.slice (some 1) none) (.var 4)) (.lst (.cons (.var 5) .nil)))) (.cons (.for1 9 (.rng (.cons (.cint 5) .nil)) (.cons (.asg 10 (.call 17 (.cons (.var 2) (.cons (.call 19 (.cons (.call 180 (.cons (.var 1) .nil)) (.cons (.call 14 (.cons (.bin .Sub (.call 12 (.cons (.var 0) (.cons (.bin .Add (.cint 30) (.var 9)) (.cons (.cint 9) .nil)))) (.cint 1)) (.cons (.cint 6) .nil))) .nil))) .nil)))) (.cons (.ife (.cmp .Lt (.var 9) (.blt .len (.cons (.var 4) .nil))) (.cons (.asg 10 (.ife (.cmp .Eq (.bin .Mod (.var 9) (.cint 2)) (.cint 0)) (.idx (.var 4) (.call 12 (.cons (.var 0) (.cons (.bin .Add (.cint 40) (.var 9)) (.cons (.blt .len (.cons (.var 4) .nil)) .nil))))) (.var 10))) .nil) .nil) (.cons (.asg 11 (.cmpr 0 (.var 0) (.rng (.cons (.blt .len (.cons (.var 4) .nil)) .nil)) (.and (.not (.call 21 (.cons (.var 11) (.cons (.idx (.var 5) (.var 0)) .nil)))) (.call 21 (.cons (.var 11) (.cons (.idx (.var 9) (.var 0)) .nil)))))) (.cons (.ife (.cmp .NotEq (.call 232 (.cons (.var 1) (.cons (.var 2) (.cons (.var 10) .nil)))) (.ife (.cmp .NotEq (.var 11) (.lst .nil)) (.idx (.var 11) (.cint 0)) .cnon)) (.cons (.ret (.cbl false)) .nil) .nil) .nil))))) (.cons (.asg 12 (.cmpr 0 (.idx (.var 0) (.cint 2)) (.idx (.call 155 (.cons (.var 1) (.cons (.tup (.cons (.cint 0) (.cons (.cint 1) .nil))) (.cons (.var 2) .nil)))) (.cint 1)) (.cbl true))) (.cons (.ife (.cmp .NotEq (.var 12) (.cmpr 2 (.var 0) (.xop .zip (.cons (.var 7) (.cons (.var 3) .nil))) (.cmp .NotEq (.idx (.var 1) (.cint 0)) (.cstr "wait")))) (.cons (.ret (.cbl false)) .nil) .nil) (.cons (.ife (.isN (.call 232 (.cons (.var 1) (.cons (.var 2) (.cons (.var 5) .nil)))) true) (.cons (.ret (.cbl false)) .nil) .nil) (.cons (.asg 13 (.cmpr 0 (.ife (.cmp .NotEq (.idx (.var 0) (.cint 0)) (.cstr "wait")) (.idx (.var 0) (.cint 3)) (.cstr "wait")) (.var 3) (.cbl true))) (.cons (.ife (.cmp .NotEq (.call 234 (.cons (.var 1) .nil)) (.cmpr 0 (.tup (.cons (.var 0) (.cons (.mcount (.var 14) (.var 0)) .nil))) (.xop .sst (.cons (.var 13) .nil)) (.cbl true))) (.cons (.ret (.cbl false)) .nil) .nil) (.cons (.asg 14 (.call 16 (.cons (.var 0) (.cons (.cint 20) .nil)))) (.cons (.asg 15 (.cmpr 0 (.call 17 (.cons (.var 3) (.cons (.call 19 (.cons (.var 15) (.cons (.call 18 (.cons (.var 0) (.cons (.var 3) .nil))) .nil))) .nil))) (.var 7) (.cbl true))) (.cons (.ret (.and (.cmp .Eq (.call 231 (.cons (.call 160 (.cons (.var 1) (.cons (.var 14) .nil))) (.cons (.var 2) .nil))) (.var 15)) (.cmp .Eq (.call 234 (.cons (.call 160 (.cons (.var 1) (.cons (.var 14) .nil))) .nil)) (.call 234 (.cons (.var 1) .nil))))) .nil)))))))))))))))
noncomputable def JKT:Fd:=⟨1,16,JIB⟩
noncomputable def tabA (i:Nat):Option Fd:=match i with
 | 0=>some d_0
 | 1=>some d_1
 | 2=>some d_2
 | 3=>some d_3
 | 4=>some d_4
 | 5=>some d_5
 | 6=>some d_6
 | 7=>some d_7
 | 8=>some d_8
 | 9=>some d_9
 | 10=>some d_10
 | 11=>some d_11
 | 12=>some d_12
 | 13=>some d_13
 | 14=>some d_14
 | 15=>some d_15
 | 16=>some d_16
 | 17=>some d_17
 | 18=>some d_18
 | 19=>some d_19
 | 20=>some d_20
 | 21=>some d_21
 | 23=>some d_23
 | 24=>some d_24
 | 25=>some d_25
 | 26=>some d_26
 | 27=>some d_27
 | 29=>some d_29
 | 30=>some d_30
 | 31=>some d_31
 | 32=>some d_32
 | 33=>some d_33
 | 34=>some d_34
 | 35=>some d_35
 | 36=>some d_36
 | 37=>some d_37
 | 43=>some d_43
 | 44=>some d_44
 | 68=>some d_68
 | 80=>some d_80
 | 140=>some JJk
 | 141=>some JBq
 | 142=>some JH6
 | 143=>some JDL
 | 144=>some JIJ
 | 146=>some d_146
 | 147=>some JDI
 | 153=>some JJY
 | 154=>some JGw
 | 155=>some JKc
 | 160=>some JJ9
 | 161=>some JDH
 | 179=>some JJq
 | 180=>some JJ8
 | 231=>some JJ1
 | 232=>some JFY
 | 233=>some JHv
 | 234=>some JJs
 | 235=>some JKT
 | _=>none
noncomputable def gloA (i:Nat):R D:=match i with
 | 39=>.ok (F 0)
 | 40=>.ok (F 1)
 | 41=>.ok (VI.VP.kinds)
 | 42=>.ok (VI.VP.turned)
 | 55=>.ok (.int 0)
 | 56=>.ok (.int 1)
 | 57=>.ok (.int 2)
 | 58=>.ok (.int 3)
 | 59=>.ok (.int 4)
 | 60=>.ok (.int 5)
 | 61=>.ok (.str "kept")
 | 77=>.ok (.tuple [F 0,F 0])
 | 93=>.ok (.int 0)
 | 94=>.ok (.int 1)
 | 128=>.ok (.int 0)
 | 129=>.ok (.int 1)
 | 151=>.ok (.int 5)
 | 152=>.ok (.int 4)
 | 192=>.ok (.dict [(.str "even",.tuple [.int 1,.int 2]),(.str "both",.tuple [.int 1,.int 2]),(.str "kept",.tuple [.int 1,.int 2]),(.str "in",.tuple [.int 1,.int 3]),(.str "out",.tuple [.int 2,.int 3]),(.str "hold",.tuple [.int 0,.int 1]),(.str "jump",.tuple [.int 1,.int 1])])
 | 226=>.ok (.int 1)
 | _=>.bad
end VI.VP
end
section
namespace VI.VP
open PySem Fr
theorem tF:TabF tabA:=⟨rfl,rfl,rfl,rfl,rfl,rfl,rfl⟩
theorem tL:TabL tabA:=⟨rfl,rfl,rfl,rfl,rfl,rfl,rfl,rfl,rfl,rfl,rfl⟩
theorem tM:TabM tabA:=⟨rfl,rfl,rfl,rfl⟩
theorem tK:TabK tabA:=⟨rfl,rfl,rfl,rfl,rfl⟩
theorem gK:GloK gloA:=⟨rfl,rfl,rfl,rfl⟩
theorem G39:gloA 39=.ok (F 0):=rfl
theorem G40:gloA 40=.ok (F 1):=rfl
theorem G55:gloA 55=.ok (.int 0):=rfl
theorem G56:gloA 56=.ok (.int 1):=rfl
theorem G57:gloA 57=.ok (.int 2):=rfl
theorem G58:gloA 58=.ok (.int 3):=rfl
theorem G59:gloA 59=.ok (.int 4):=rfl
theorem G60:gloA 60=.ok (.int 5):=rfl
theorem G61:gloA 61=.ok (.str "kept"):=rfl
section
variable {x:Bool} {sub:Nat->Nat->Bool} {m i j:Nat} {p q:Rat}
theorem JAE {k:Nat} (h:k<=m):∃n,m=n+k:=⟨m - k,by omega⟩
theorem JQg [a:Z i p] [b:Z j q] (hi:i<=1500) (hj:j<=1500) (hm:3<=m):run x tabA gloA sub m 3 [F p,F q]=.ok (F (p+q)):=by
 obtain ⟨n,rfl⟩:=JAE hm
 exact JNe tF (a.le hi) (b.le hj)
theorem JMI [a:Z i p] [b:Z j q] (hi:i<=1500) (hj:j<=1500) (hm:3<=m):run x tabA gloA sub m 5 [F p,F q]=.ok (F (p*q)):=by
 obtain ⟨n,rfl⟩:=JAE hm
 exact JJ6 tF (a.le hi) (b.le hj)
theorem JQm [a:Z i p] [b:Z j q] (hi:i<=1500) (hj:j<=1500) (hm:1<=m):run x tabA gloA sub m 6 [F p,F q]=.ok (.bool (decide (p<q))):=by
 obtain ⟨n,rfl⟩:=JAE hm
 exact JMm tF (a.le hi) (b.le hj)
theorem JPt [a:Z i p] [b:Z j q] (hi:i<=1500) (hj:j<=1500) (hm:3<=m):run x tabA gloA sub m 17 [F p,F q]=.ok (F (p+q)):=by
 obtain ⟨n,rfl⟩:=JAE hm
 exact JJc tL (a.le hi) (b.le hj)
theorem JNp [a:Z i p] [b:Z j q] (hi:i<=1500) (hj:j<=1500) (hm:3<=m):run x tabA gloA sub m 18 [F p,F q]=.ok (F (p - q)):=by
 obtain ⟨n,rfl⟩:=JAE hm
 exact JHt tL (a.le hi) (b.le hj)
theorem JMD [a:Z i p] [b:Z j q] (hi:i<=1500) (hj:j<=1500) (hm:3<=m):run x tabA gloA sub m 19 [F p,F q]=.ok (F (p*q)):=by
 obtain ⟨n,rfl⟩:=JAE hm
 exact JIH tL (a.le hi) (b.le hj)
theorem JQJ [a:Z i p] [b:Z j q] (hi:i<=1500) (hj:j<=1500) (hm:1<=m):run x tabA gloA sub m 21 [F p,F q]=.ok (.bool (decide (p<q))):=by
 obtain ⟨n,rfl⟩:=JAE hm
 exact JKJ tL (a.le hi) (b.le hj)
theorem JOo {a b:Int} (hb:b≠0) (lb:b.natAbs<2 ^ 64) (hm:2<=m):run x tabA gloA sub m 14 [.int a,.int b]=.ok (F (Rat.divInt a b)):=by
 obtain ⟨n,rfl⟩:=JAE hm
 exact JCY tL a b hb (L.of lb (by omega))
theorem JEV (ns:List Int) (k c:Int) (hm:2<=m) (hk:0<=k) (hk2:k<2000000) (hc:0<c):∃i,0<=i/\i<c/\run x tabA gloA sub m 12 [sc ns,.int k,.int c]=.ok (.int i):=by
 obtain ⟨n,rfl⟩:=JAE hm
 exact JCc tL ns k c hk hk2 hc
theorem JL1 (ns:List Int) (k:Int) (hm:3<=m) (hk:0<=k) (hk2:k<1000000):∃q,Small q/\run x tabA gloA sub m 15 [sc ns,.int k]=.ok (F q):=by
 obtain ⟨n,rfl⟩:=JAE hm
 exact JJr tL ns k hk hk2
theorem JIt (ns:List Int) (k:Int) (hm:3<=m) (hk:0<=k) (hk2:k<1000000):∃q,Small q/\0<q/\run x tabA gloA sub m 16 [sc ns,.int k]=.ok (F q):=by
 obtain ⟨n,rfl⟩:=JAE hm
 exact JJI tL ns k hk hk2
theorem JQA (ns:List Int) (k:Int) (hm:3<=m) (hk:0<=k) (hk2:k<1000000):∃d:Kd,run x tabA gloA sub m 35 [sc ns,.int k]=.ok (.str d.str):=by
 obtain ⟨n,rfl⟩:=JAE hm
 exact JJd tL rfl ns k hk hk2
end
end VI.VP
end
local macro_rules | `(tactic| dsimp?! [$ts,*])=>`(tactic| simp (disch:=first | omega | assumption) only [VI.VP.v_var,VI.VP.JPi,VI.VP.v_bl,VI.VP.JPr,VI.VP.JPy,VI.VP.JOn,VI.VP.JOm,VI.VP.JQP,VI.VP.v_not,VI.VP.v_and,VI.VP.v_or,VI.VP.JQN,VI.VP.JP4,VI.VP.JN1,VI.VP.JQQ,VI.VP.JPg,VI.VP.JN4,VI.VP.JOY,VI.VP.JKz,VI.VP.JOD,VI.VP.JOt,
 VI.VP.v_count,VI.VP.JHI,VI.VP.v_get,VI.VP.JLU,VI.VP.JOR,VI.VP.JOu,VI.VP.JPo,VI.VP.JN8,VI.VP.JN3,VI.VP.JQV,VI.VP.JLd,VI.VP.JGV,VI.VP.JQK,VI.VP.JO4,VI.VP.JOz,VI.VP.JLJ,VI.VP.JP3,VI.VP.JQo,VI.VP.k_tt,VI.VP.k_tl,VI.VP.k_lt,VI.VP.k_ll,VI.VP.JLH,VI.VP.JH3,VI.VP.JKE,VI.VP.JOH,VI.VP.t_or,VI.VP.JPu,VI.VP.t_bl,VI.VP.JOL,VI.VP.JJx,VI.VP.JJ2,VI.VP.JP2,VI.VP.JLh,VI.VP.JPl,VI.VP.JN2,VI.VP.JO7,VI.VP.JP6,VI.VP.JPI,VI.VP.l_idx,VI.VP.JK2,VI.VP.JPH,VI.VP.JNy,
 VI.VP.JN9,VI.VP.JLK,VI.VP.JKo,VI.VP.JP5,VI.VP.JQS,VI.VP.JPs,VI.VP.JQX,VI.VP.JPz,VI.VP.JLq,VI.VP.JQr,VI.VP.JOG,VI.VP.JQw,VI.VP.JKs,VI.VP.JK6,VI.VP.JOx,VI.VP.JLc,VI.VP.JLT,
 VI.VP.JIp,VI.VP.JKg,VI.VP.JQE,VI.VP.JPQ,VI.VP.JPU,VI.VP.JLV,VI.VP.JKu,VI.VP.JQq,VI.VP.JOh,VI.VP.JOP,VI.VP.JN6,VI.VP.JO3,VI.VP.JKy,VI.VP.JK7,VI.VP.JQF,VI.VP.JPT,VI.VP.JQy,VI.VP.JKk,VI.VP.JPW,VI.VP.JP7,VI.VP.JIh,VI.VP.JHZ,VI.VP.JQk,VI.VP.JLE,VI.VP.JHq,VI.VP.JHG,VI.VP.JK9,VI.VP.JLf,VI.VP.JPX,VI.VP.JOy,VI.VP.JOK,VI.VP.JKi,VI.VP.JLk,VI.VP.JLB,VI.VP.JLA,VI.VP.JKq,VI.VP.JOA,VI.VP.JLo,VI.VP.JPb,VI.VP.JLG,VI.VP.JLI,VI.VP.JKf,VI.VP.JLt,VI.VP.JOg,VI.VP.JPA,VI.VP.JKd,VI.VP.JNx,VI.VP.JKm,VI.VP.JLY,VI.VP.JLl,VI.VP.JLe,VI.VP.JLv,VI.VP.JLb,VI.VP.JLn,VI.VP.JKr,VI.VP.JKj,VI.VP.JLF,VI.VP.JLQ,VI.VP.JIr,VI.VP.JQt,VI.VP.JI5,VI.VP.JH7,VI.VP.JF3,VI.VP.JPS,VI.VP.JLi,VI.VP.JPn,VI.VP.JQc,VI.VP.JQM,VI.VP.JOJ,VI.VP.JHs,
 VI.VP.look_zero,VI.VP.look_succ,VI.VP.get_val,VI.VP.get_own,VI.VP.JEu,VI.VP.JEv,List.map_cons,List.map_nil,List.cons_append,List.nil_append,
 List.replicate_succ,List.replicate_zero,Nat.reduceSub,List.set_cons_zero,List.set_cons_succ,VI.E.fresh,VI.VP.JGZ,VI.VP.JCD,VI.VP.JDU,VI.VP.JB8,Bool.false_and,q_v,eq_self,if_true,if_false,VI.VP.i_ne,VI.VP.i_eq,VI.VP.i_lt,VI.VP.i_gt,VI.VP.i_le,VI.VP.i_ge,
 VI.VP.F_ne,VI.VP.F_eq,VI.VP.JLw,VI.VP.JK0,VI.VP.JOF,VI.VP.JOq,
 VI.VP.G39,VI.VP.G40,VI.VP.G55,VI.VP.G56,VI.VP.G57,VI.VP.G58,VI.VP.G59,VI.VP.G60,VI.VP.G61,VI.VP.JQg,VI.VP.JMI,VI.VP.JQm,VI.VP.JPt,VI.VP.JNp,VI.VP.JMD,VI.VP.JQJ,$ts,*])
section
namespace VI.VP
open PySem Fr
noncomputable def kst:Option Kd->Str
 | some k=>k.str
 | none=>"kept"
noncomputable def mo (s g b l:Rat) (k:Option Kd) (u v:Rat):D:=.tuple [F s,F g,F b,F l,.str (kst k),.tuple [F u,F v]]
noncomputable def kw (s g l u v p:Rat):Rat:=s+ez .both (JHM p)*(g - s)+l*(u*(p*p*p - 2*(p*p)+p)+v*(p*p*p - p*p))
noncomputable def wo (s g b l:Rat) (k:Option Kd) (u v t:Rat):Rat:=match k with
 | some k=>s+ez k (JHM ((t - b) / l))*(g - s)
 | none=>kw s g l u v (JHM ((t - b) / l))
noncomputable def ks (s g l u v p:Rat):Rat:=(g - s) / l*sl .both p+(u*(3*(p*p) - 4*p+1)+v*(3*(p*p) - 2*p))
noncomputable def sd (s g b l:Rat) (k:Option Kd) (u v t:Rat):Rat:=match k with
 | some k=>(g - s) / l*sl k ((t - b) / l)
 | none=>if (t - b) / l<0\/1<(t - b) / l then 0 else ks s g l u v ((t - b) / l)
section
variable {s g b l u v:Rat} {k:Option Kd}
end
section
variable {x:Bool} {sub:Nat->Nat->Bool} {m i1 i2 i3 i4 i5 i6 j:Nat} {s g b l u v t p:Rat}
end
end VI.VP
end
section
namespace VI.VP
open PySem Fr
section
variable {s g b l u v t:Rat} {k:Option Kd} {i1 i2 i3 i4 i5 i6 j:Nat}
end
section
variable {x:Bool} {sub:Nat->Nat->Bool} {m i1 i2 i3 i4 i5 i6 j:Nat} {s g b l u v t p:Rat}
end
noncomputable def Vs (z:Sl):Prop:=z.isOwn=false
theorem Vs.own {z:Sl} (h:Vs z) (e:E) (i:Nat) (r:Env):JAK e i (z::r)=JAK e (i+1) r:=by
 unfold Vs at h
 cases z<;>first | (cases h;done) | simp [JAK,Sl.isOwn]
end VI.VP
end
section
namespace VI.VP
open PySem Fr
theorem tI:TabI tabA:=⟨rfl,rfl,rfl⟩
theorem G77:gloA 77=.ok (.tuple [F 0,F 0]):=rfl
theorem JNG {p:Rat}:(0<p.num)=(0<p):=by
 apply propext
 rw [Rat.lt_iff]
 simp
theorem JCA {sub:Nat->Nat->Bool} (ds:List D):isiD sub (.tuple ds) .tuple=.ok (.bool true):=rfl
section
variable {x:Bool} {sub:Nat->Nat->Bool} {m i1 i2 i3 i4 i5 i6 j:Nat} {s g b l u v t p:Rat}
theorem JMz (hm:2<=m):run x tabA gloA sub m 24 [F p]=.ok (.bool true):=by
 obtain ⟨n,rfl⟩:=JAE hm
 exact isf_F tF tI p
theorem JNc (hm:3<=m):run x tabA gloA sub m 68 [F p]=.ok (.bool (decide (0<p))):=by
 obtain ⟨n,rfl⟩:=JAE hm
 rw [JAB (n:=n+2) (show tabA 68=some d_68 from rfl),JAA rfl]
 dsimp?! [d_68,b_68,JMz,JNG]
theorem JPO {k:Kd} (hm:1<=m):run x tabA gloA sub m 29 [.str k.str]=.ok (.bool true):=by
 obtain ⟨n,rfl⟩:=JAE hm
 exact JQe gK tK _ (JJo k)
end
end VI.VP
end
section
namespace VI.VP
open PySem Fr
structure Mv where
 s:Rat
 g:Rat
 b:Rat
 l:Rat
 k:Option Kd
 u:Rat
 v:Rat
noncomputable def Mv.d (m:Mv):D:=mo m.s m.g m.b m.l m.k m.u m.v
structure Mv.Ok (m:Mv):Prop where
 l0:0<m.l
 uv:m.k≠none->m.u=0/\m.v=0
 b:Sz 200 m.b
 l:Sz 20 m.l
 sg:∃i j,Sz i m.s/\Sz j m.g/\i+j<=1180
 us:∃i j,Sz i m.u/\Sz j m.v/\i+j<=900
theorem Mv.Ok.of {m:Mv} (l0:0<m.l) (uv:m.k≠none->m.u=0/\m.v=0) (s:Sz 20 m.s) (g:Sz 20 m.g) (b:Sz 200 m.b) (l:Sz 20 m.l) (u:Sz 20 m.u) (v:Sz 20 m.v):m.Ok :=
 ⟨l0,uv,b,l,⟨20,20,s,g,by omega⟩,⟨20,20,u,v,by omega⟩⟩
noncomputable def Mv.e (m:Mv):Rat:=m.b+m.l
noncomputable def tr (w:Rat) (ms:List Mv):D:=.tuple [F w,.tuple (ms.map Mv.d)]
section
variable {x:Bool} {sub:Nat->Nat->Bool} {m n:Nat} {w:Rat} {w':D} {ms:List Mv}
theorem JNn {a b c d e:D} (hm:1<=m):run x tabA gloA sub m 80 [a,b,c,d,e]=.ok (.tuple [a,b,c,d,e,.tuple [F 0,F 0]]):=by
 obtain ⟨n,rfl⟩:=JAE hm
 rw [JAB (n:=n) (show tabA 80=some d_80 from rfl),JAA rfl]
 dsimp?! [d_80,b_80,G77]
theorem noF {p:Rat}:JAQ (F p)=true:=rfl
section
variable {g b l:Rat} {k:Kd} {i:Nat}
end
end
end VI.VP
end
section
namespace VI.VP
open PySem Fr
theorem JBZ {C:Cn} {i:Nat} {b:S} {Inv:List D->Env->Prop} (hb:∀d ds δ,Inv (d::ds) δ->∃δ',(exec C b (δ.set i (.val d))=.nx δ'\/exec C b (δ.set i (.val d))=.ct δ')/\Inv ds δ'):∀ {ds:List D} {δ},Inv ds δ->∃δ',for2 C i b ds δ=.nx δ'/\Inv [] δ'
 | [],δ,h=>⟨δ,rfl,h⟩
 | d::ds,δ,h=>by
  obtain ⟨δ1,e,h1⟩:=hb d ds δ h
  obtain ⟨δ2,e2,h2⟩:=JBZ hb h1
  refine ⟨δ2,?_,h2⟩
  rw [JJA]
  rcases e with e | e<;>(rw [e];exact e2)
def Tw (B:Nat) (q:Rat):Prop:=∃z:Int,z.natAbs<=B/\q=Rat.divInt z 12
theorem Tw.add {A B:Nat} {p q:Rat} (h:Tw A p) (h':Tw B q):Tw (A+B) (p+q):=by
 obtain ⟨z,hz,rfl⟩:=h
 obtain ⟨y,hy,rfl⟩:=h'
 refine ⟨z+y,by omega,?_⟩
 simp only [Rat.divInt_eq_div]
 have:((z+y:Int):Rat)=z+y:=Rat.intCast_add z y
 rw [this]
 grind
theorem Tw.mono {A B:Nat} {p:Rat} (h:Tw A p) (e:A<=B):Tw B p:=by
 obtain ⟨z,hz,rfl⟩:=h
 exact ⟨z,by omega,rfl⟩
theorem Tw.sz {B:Nat} {p:Rat} (h:Tw B p) (e:B<1024):Sz 10 p:=by
 obtain ⟨z,hz,rfl⟩:=h
 exact Sz.of (by decide) (by omega) (by decide)
theorem Small.tw {q:Rat} (h:Small q):Tw 72 q:=by
 have hd:=h.d
 have hp:=q.den_pos
 have hw:=h.w
 have e:=(Rat.num_divInt_den q).symm
 have:q.den=1\/q.den=2\/q.den=3\/q.den=4:=by omega
 rcases this with k | k | k | k
 ·refine ⟨q.num*12,by omega,?_⟩
  rw [k] at e
  rw [e,Rat.divInt_eq_divInt_iff (by decide) (by decide)]
  rw [<-e]
  simp
 ·refine ⟨q.num*6,by omega,?_⟩
  rw [k] at e
  conv=>lhs;rw [e]
  rw [Rat.divInt_eq_divInt_iff (by decide) (by decide)]
  simp
  omega
 ·refine ⟨q.num*4,by omega,?_⟩
  rw [k] at e
  conv=>lhs;rw [e]
  rw [Rat.divInt_eq_divInt_iff (by decide) (by decide)]
  simp
  omega
 ·refine ⟨q.num*3,by omega,?_⟩
  rw [k] at e
  conv=>lhs;rw [e]
  rw [Rat.divInt_eq_divInt_iff (by decide) (by decide)]
  simp
  omega
section
variable {x:Bool} {sub:Nat->Nat->Bool} {m n:Nat} {w t:Rat} {ms:List Mv} {ns:List Int}
theorem JIb {a:E} {j:Nat}:(E.rng a).uses j=a.uses j:=rfl
end
end VI.VP
end
section
namespace VI.VP
open PySem Fr
noncomputable def Mv.w (m:Mv) (t:Rat):Rat:=wo m.s m.g m.b m.l m.k m.u m.v t
noncomputable def Mv.sp (m:Mv) (t:Rat):Rat:=sd m.s m.g m.b m.l m.k m.u m.v t
theorem JCm {α:Type} {f:D->R (Option D)} {c g:α->D} {p:α->Bool}:∀ {xs:List α},(∀a∈xs,f (c a)=.ok (if p a=true then some (g a) else none))->JAp f (xs.map c)=.ok ((xs.filter p).map g)
 | [],_=>rfl
 | a::xs,h=>by
  simp only [List.map_cons]
  unfold JAp
  rw [h a (by simp)]
  have ih:=JCm (xs:=xs) fun y hy=>h y (by simp [hy])
  cases hp:p a
  ·simp only [q_v,if_false]
   rw [ih,q_w (by simp [hp])]
  ·simp only [if_true]
   rw [ih,q_x hp]
   rfl
section
variable {x:Bool} {sub:Nat->Nat->Bool} {m n i3 i4 j:Nat} {w t:Rat} {ms:List Mv}
end
end VI.VP
end
section
namespace VI.VP
open PySem Fr
inductive Pl where
 | wait (q:Rat)
 | step (o:Bool) (g q:Rat) (k:Kd)
 | thn (a b:Pl)
 | agn (c:Nat) (a:Pl)
noncomputable def gw (o:Bool):Str:=if o=true then "go" else "by"
theorem gwF:gw false="by":=rfl
theorem gwT:gw true="go":=rfl
noncomputable def Pl.d:Pl->D
 | .wait q=>.tuple [.str "wait",F q]
 | .step o g q k=>.tuple [.str (gw o),F g,F q,.str k.str]
 | .thn a b=>.tuple [.str "then",a.d,b.d]
 | .agn c a=>.tuple [.str "again",.int c,a.d]
noncomputable def Pl.dep:Pl->Nat
 | .wait _=>1
 | .step ..=>1
 | .thn a b=>max a.dep b.dep+1
 | .agn _ a=>a.dep+1
noncomputable def Pl.Ok:Pl->Prop
 | .wait q=>0<q
 | .step _ _ q _=>0<q
 | .thn a b=>a.Ok/\b.Ok
 | .agn c a=>c<=4/\a.Ok
noncomputable def Pl.steps:Pl->List Pl
 | .thn a b=>a.steps++b.steps
 | .agn c a=>(List.replicate c a.steps).flatten
 | p=>[p]
theorem JA2 {a b:Str} {k:Bool} (ha:shaped (.str a)=true) (hb:shaped (.str b)=true) (h:(a==b)=k):cmpD .Eq (.str a) (.str b)=.ok (.bool k):=by
 simp only [cmpD,ha,hb,Bool.and_self,if_true,PyData.eqv,h]
theorem h_go:shaped (.str "go")=true:=by decide +kernel
theorem h_by:shaped (.str "by")=true:=by decide +kernel
theorem JB1:shaped (.str "wait")=true:=by decide +kernel
theorem JB2:shaped (.str "then")=true:=by decide +kernel
theorem JBO:shaped (.str "again")=true:=by decide +kernel
theorem JNi:cmpD .Eq (.str "go") (.str "go")=.ok (.bool true):=JA2 h_go h_go (by decide +kernel)
theorem JIx:cmpD .Eq (.str "go") (.str "by")=.ok (.bool false):=JA2 h_go h_by (by decide +kernel)
theorem JAy:cmpD .Eq (.str "go") (.str "wait")=.ok (.bool false):=JA2 h_go JB1 (by decide +kernel)
theorem JCN:cmpD .Eq (.str "go") (.str "then")=.ok (.bool false):=JA2 h_go JB2 (by decide +kernel)
theorem JBx:cmpD .Eq (.str "go") (.str "again")=.ok (.bool false):=JA2 h_go JBO (by decide +kernel)
theorem JM6:cmpD .Eq (.str "by") (.str "go")=.ok (.bool false):=JA2 h_by h_go (by decide +kernel)
theorem JHh:cmpD .Eq (.str "by") (.str "by")=.ok (.bool true):=JA2 h_by h_by (by decide +kernel)
theorem JAz:cmpD .Eq (.str "by") (.str "wait")=.ok (.bool false):=JA2 h_by JB1 (by decide +kernel)
theorem JCU:cmpD .Eq (.str "by") (.str "then")=.ok (.bool false):=JA2 h_by JB2 (by decide +kernel)
theorem JBv:cmpD .Eq (.str "by") (.str "again")=.ok (.bool false):=JA2 h_by JBO (by decide +kernel)
theorem JHX:cmpD .Eq (.str "wait") (.str "go")=.ok (.bool false):=JA2 JB1 h_go (by decide +kernel)
theorem JI7:cmpD .Eq (.str "wait") (.str "by")=.ok (.bool false):=JA2 JB1 h_by (by decide +kernel)
theorem JAc:cmpD .Eq (.str "wait") (.str "wait")=.ok (.bool true):=JA2 JB1 JB1 (by decide +kernel)
theorem JBY:cmpD .Eq (.str "wait") (.str "then")=.ok (.bool false):=JA2 JB1 JB2 (by decide +kernel)
theorem JBK:cmpD .Eq (.str "wait") (.str "again")=.ok (.bool false):=JA2 JB1 JBO (by decide +kernel)
theorem JDC:cmpD .Eq (.str "then") (.str "go")=.ok (.bool false):=JA2 JB2 h_go (by decide +kernel)
theorem JC6:cmpD .Eq (.str "then") (.str "by")=.ok (.bool false):=JA2 JB2 h_by (by decide +kernel)
theorem JCC:cmpD .Eq (.str "then") (.str "wait")=.ok (.bool false):=JA2 JB2 JB1 (by decide +kernel)
theorem JA0:cmpD .Eq (.str "then") (.str "then")=.ok (.bool true):=JA2 JB2 JB2 (by decide +kernel)
theorem JBk:cmpD .Eq (.str "then") (.str "again")=.ok (.bool false):=JA2 JB2 JBO (by decide +kernel)
theorem JGg:cmpD .Eq (.str "again") (.str "go")=.ok (.bool false):=JA2 JBO h_go (by decide +kernel)
theorem JGh:cmpD .Eq (.str "again") (.str "by")=.ok (.bool false):=JA2 JBO h_by (by decide +kernel)
theorem JEg:cmpD .Eq (.str "again") (.str "wait")=.ok (.bool false):=JA2 JBO JB1 (by decide +kernel)
theorem JBJ:cmpD .Eq (.str "again") (.str "then")=.ok (.bool false):=JA2 JBO JB2 (by decide +kernel)
theorem JBB:cmpD .Eq (.str "again") (.str "again")=.ok (.bool true):=JA2 JBO JBO (by decide +kernel)
theorem G151:gloA 151=.ok (.int 5):=rfl
theorem G152:gloA 152=.ok (.int 4):=rfl
theorem t20 {a b:D}:idxD (.tuple [a,b]) (.int 0)=.ok a:=rfl
theorem t21 {a b:D}:idxD (.tuple [a,b]) (.int 1)=.ok b:=rfl
theorem t30 {a b c:D}:idxD (.tuple [a,b,c]) (.int 0)=.ok a:=rfl
theorem t31 {a b c:D}:idxD (.tuple [a,b,c]) (.int 1)=.ok b:=rfl
theorem t32 {a b c:D}:idxD (.tuple [a,b,c]) (.int 2)=.ok c:=rfl
theorem t40 {a b c e:D}:idxD (.tuple [a,b,c,e]) (.int 0)=.ok a:=rfl
theorem t41 {a b c e:D}:idxD (.tuple [a,b,c,e]) (.int 1)=.ok b:=rfl
theorem t42 {a b c e:D}:idxD (.tuple [a,b,c,e]) (.int 2)=.ok c:=rfl
theorem t43 {a b c e:D}:idxD (.tuple [a,b,c,e]) (.int 3)=.ok e:=rfl
theorem len2' {a b:D}:(([a,b].length:Nat):Int)=2:=rfl
theorem JKI {a b c:D}:(([a,b,c].length:Nat):Int)=3:=rfl
theorem JOI {a b c e:D}:(([a,b,c,e].length:Nat):Int)=4:=rfl
theorem n2 {a b:D}:bltD .len [.tuple [a,b]]=.ok (.int 2):=rfl
theorem n3 {a b c:D}:bltD .len [.tuple [a,b,c]]=.ok (.int 3):=rfl
theorem n4 {a b c e:D}:bltD .len [.tuple [a,b,c,e]]=.ok (.int 4):=rfl
theorem JMn {sub:Nat->Nat->Bool} {i:Int}:isiD sub (.int i) .int=.ok (.bool true):=rfl
theorem JJS {sub:Nat->Nat->Bool} {i:Int}:isiD sub (.int i) .bool=.ok (.bool false):=rfl
theorem Pl.dep_pos:∀p:Pl,1<=p.dep:=by
 intro p
 cases p<;>simp only [Pl.dep]<;>omega
section
variable {x:Bool} {sub:Nat->Nat->Bool} {m:Nat}
theorem JOS {i:Int} (hm:1<=m):run x tabA gloA sub m 23 [.int i]=.ok (.bool true):=by
 obtain ⟨n,rfl⟩:=JAE hm
 rw [JAB (n:=n) (show tabA 23=some d_23 from rfl),JAA rfl]
 dsimp?! [d_23,b_23,JMn,JJS,Bool.not_false]
theorem JPR {i:Int} (hm:2<=m):run x tabA gloA sub m 142 [.int i]=.ok (.bool (decide (0<=i/\i<=4))):=by
 obtain ⟨n,rfl⟩:=JAE hm
 rw [JAB (n:=n+1) (show tabA 142=some JH6 from rfl),JAA rfl]
 by_cases h:0<=i
 ·have e:decide (0<=i/\i<=4)=decide (i<=4):=by simp [h]
  rw [e]
  dsimp?! [JH6,JIK,JOS,G152,h,decide_true]
 ·have e:decide (0<=i/\i<=4)=false:=by simp [h]
  rw [e]
  dsimp?! [JH6,JIK,JOS,G152,h,decide_false]
theorem JL4:∀(p:Pl) {m:Nat} (deep:Int),p.Ok->0<=deep->p.dep+4<=m->run x tabA gloA sub m 141 [p.d,.int deep]=.ok (.bool (decide ((p.dep:Int)<=deep))):=by
 intro p
 induction p with
 | wait q =>
  intro m deep ok h0 hm
  obtain ⟨n,rfl⟩:=JAE (k:=5) hm
  rw [JAB (n:=n+4) (show tabA 141=some JBq from rfl),JAA rfl]
  have oq:0<q:=ok
  by_cases hd:deep=0
  ·subst hd
   dsimp?! [JBq,JCQ,Pl.d,Pl.dep,decide_true]
   rfl
  ·have r:decide (((Pl.wait q).dep:Int)<=deep)=true:=decide_eq_true (by simp only [Pl.dep];omega)
   rw [r]
   dsimp?! [JBq,JCQ,Pl.d,hd,decide_false,decide_true,JCA,Bool.not_true,n2,len2',Int.reduceEq,t20,t21,JHX,JI7,JAc,JBY,JBK,JNc,oq]
 | step o g q k =>
  intro m deep ok h0 hm
  obtain ⟨n,rfl⟩:=JAE (k:=5) hm
  rw [JAB (n:=n+4) (show tabA 141=some JBq from rfl),JAA rfl]
  have oq:0<q:=ok
  by_cases hd:deep=0
  ·subst hd
   dsimp?! [JBq,JCQ,Pl.d,Pl.dep,decide_true]
   rfl
  ·have r:decide (((Pl.step o g q k).dep:Int)<=deep)=true:=decide_eq_true (by simp only [Pl.dep];omega)
   rw [r]
   cases o
   ·dsimp?! [JBq,JCQ,Pl.d,gwF,gwT,hd,decide_false,decide_true,JCA,Bool.not_true,n4,JOI,Int.reduceEq,t40,t41,t42,t43,JM6,JHh,JAz,JCU,JBv,JMz,JNc,JPO,oq]
   ·dsimp?! [JBq,JCQ,Pl.d,gwF,gwT,hd,decide_false,decide_true,JCA,Bool.not_true,n4,JOI,Int.reduceEq,t40,t41,t42,t43,JNi,JIx,JAy,JCN,JBx,JMz,JNc,JPO,oq]
 | thn a b iha ihb =>
  intro m deep ok h0 hm
  obtain ⟨n,rfl⟩:=JAE (k:=5) (m:=m) (by have:=(Pl.thn a b).dep_pos;omega)
  rw [JAB (n:=n+4) (show tabA 141=some JBq from rfl),JAA rfl]
  simp only [Pl.dep] at hm
  by_cases hd:deep=0
  ·subst hd
   have r:decide (((Pl.thn a b).dep:Int)<=0)=false:=q_o (by have:=(Pl.thn a b).dep_pos;omega)
   rw [r]
   dsimp?! [JBq,JCQ,Pl.d,decide_true]
  ·have ha:=iha (m:=n+4) (deep - 1) ok.1 (by omega) (by omega)
   have hb:=ihb (m:=n+4) (deep - 1) ok.2 (by omega) (by omega)
   generalize hda:a.d=da at *
   generalize hdb:b.d=db at *
   by_cases h1:(a.dep:Int)<=deep - 1
   ·by_cases h2:(b.dep:Int)<=deep - 1
    ·have r:decide (((Pl.thn a b).dep:Int)<=deep)=true:=decide_eq_true (by simp only [Pl.dep];omega)
     rw [r]
     dsimp?! [JBq,JCQ,Pl.d,hda,hdb,hd,decide_false,decide_true,JCA,Bool.not_true,n3,JKI,Int.reduceEq,t30,t31,t32,JDC,JC6,JCC,JA0,JBk,ha,hb,h1,h2]
    ·have r:decide (((Pl.thn a b).dep:Int)<=deep)=false:=q_o (by simp only [Pl.dep];omega)
     rw [r]
     dsimp?! [JBq,JCQ,Pl.d,hda,hdb,hd,decide_false,decide_true,JCA,Bool.not_true,n3,JKI,Int.reduceEq,t30,t31,t32,JDC,JC6,JCC,JA0,JBk,ha,hb,h1,h2]
   ·have r:decide (((Pl.thn a b).dep:Int)<=deep)=false:=q_o (by simp only [Pl.dep];omega)
    rw [r]
    dsimp?! [JBq,JCQ,Pl.d,hda,hdb,hd,decide_false,decide_true,JCA,Bool.not_true,n3,JKI,Int.reduceEq,t30,t31,t32,JDC,JC6,JCC,JA0,JBk,ha,h1]
 | agn c a iha =>
  intro m deep ok h0 hm
  obtain ⟨n,rfl⟩:=JAE (k:=5) (m:=m) (by have:=(Pl.agn c a).dep_pos;omega)
  rw [JAB (n:=n+4) (show tabA 141=some JBq from rfl),JAA rfl]
  simp only [Pl.dep] at hm
  by_cases hd:deep=0
  ·subst hd
   have r:decide (((Pl.agn c a).dep:Int)<=0)=false:=q_o (by have:=(Pl.agn c a).dep_pos;omega)
   rw [r]
   dsimp?! [JBq,JCQ,Pl.d,decide_true]
  ·have ha:=iha (m:=n+4) (deep - 1) ok.2 (by omega) (by omega)
   have hc:decide ((0:Int)<=c/\(c:Int)<=4)=true:=decide_eq_true (by have:=ok.1;omega)
   generalize hda:a.d=da at *
   have r:decide (((Pl.agn c a).dep:Int)<=deep)=decide ((a.dep:Int)<=deep - 1):=by
    simp only [Pl.dep]
    apply decide_eq_decide.mpr
    omega
   rw [r]
   dsimp?! [JBq,JCQ,Pl.d,hda,hd,decide_false,decide_true,JCA,Bool.not_true,n3,JKI,Int.reduceEq,t30,t31,t32,JGg,JGh,JEg,JBJ,JBB,JPR,ha,hc]
theorem JGN (p:Pl) (ok:p.Ok) (hm:p.dep+5<=m):run x tabA gloA sub m 140 [p.d]=.ok (.bool (decide (p.dep<=5))):=by
 obtain ⟨n,rfl⟩:=JAE (k:=1) (m:=m) (by omega)
 rw [JAB (n:=n) (show tabA 140=some JJk from rfl),JAA rfl]
 have h:=JL4 (x:=x) (sub:=sub) p (m:=n) 5 ok (by omega) (by omega)
 have r:decide ((p.dep:Int)<=5)=decide (p.dep<=5):=decide_eq_decide.mpr (by omega)
 rw [r] at h
 generalize p.d=d at *
 dsimp?! [JJk,JKM,G151,h]
end
end VI.VP
end
section
namespace VI.VP
open PySem Fr
theorem JDp:∀p:Pl,p.Ok->p.steps.length<=4 ^ p.dep:=by
 intro p
 induction p with
 | wait q=>intro _;simp [Pl.steps,Pl.dep]
 | step o g q k=>intro _;simp [Pl.steps,Pl.dep]
 | thn a b ha hb =>
  intro ok
  simp only [Pl.steps,Pl.dep,q_u]
  have h1:=ha ok.1
  have h2:=hb ok.2
  have h3:4 ^ a.dep<=4 ^ max a.dep b.dep:=Nat.pow_le_pow_right (by decide) (by omega)
  have h4:4 ^ b.dep<=4 ^ max a.dep b.dep:=Nat.pow_le_pow_right (by decide) (by omega)
  rw [Nat.pow_succ]
  omega
 | agn c a ha =>
  intro ok
  simp only [Pl.steps,Pl.dep,List.length_flatten,List.map_replicate,List.sum_replicate_nat]
  have h1:=ha ok.2
  rw [Nat.pow_succ,Nat.mul_comm]
  exact Nat.mul_le_mul h1 ok.1
theorem JBz {p:Pl} (ok:p.Ok) (hd:p.dep<=8):p.steps.length<=65536:=Nat.le_trans (JDp p ok) (Nat.le_trans (Nat.pow_le_pow_right (by decide) hd) (by decide))
theorem JNW {a:E} {j:Nat}:(E.rng a).uses j=a.uses j:=rfl
noncomputable def Pl.one:Pl->Bool
 | .wait _=>true
 | .step ..=>true
 | _=>false
noncomputable def Pl.q:Pl->Rat
 | .wait q=>q
 | .step _ _ q _=>q
 | _=>0
theorem addL {xs ys:List D} (h:xs.length+ys.length<=16777216):binD .Add (.list xs) (.list ys)=.ok (.list (xs++ys)):=by
 simp only [binD,h,if_true]
theorem mulL {xs:List D} {c:Nat} (hc:c<=1000) (h:xs.length*c<=16777216):binD .Mult (.list xs) (.int c)=.ok (.list (List.replicate c xs).flatten):=by
 simp only [binD,Int.toNat_natCast]
 rw [if_pos ⟨by omega,by omega,h⟩]
theorem extOk {i:Nat} {ds zs:List D} {e:E} {δ:Env} (h:ds.length+zs.length<=16777216) (hu:JAK e 0 δ=false):JBP i ds e (.list zs) δ=.nx (δ.set i (.own (.list (ds++zs)))):=by
 simp only [JBP,h,if_true,hu,q_v,if_false]
theorem JNC {c:Nat} {xs:List Pl}:(List.replicate c (xs.map Pl.d)).flatten=((List.replicate c xs).flatten).map Pl.d:=by
 simp [List.map_flatten,List.map_replicate]
noncomputable def JFK:S:=.cons (.ext 1 (.call 147 (.cons (.idx (.var 0) (.cint 2)) .nil))) .nil
section
variable {x:Bool} {sub:Nat->Nat->Bool} {m:Nat}
theorem JD3:∀(p:Pl) {m:Nat},p.Ok->p.dep<=8->p.dep<=m->run x tabA gloA sub m 143 [p.d]=.ok (.list (p.steps.map Pl.d)):=by
 intro p
 induction p with
 | wait q =>
  intro m ok hd hm
  obtain ⟨n,rfl⟩:=JAE (k:=1) hm
  rw [JAB (n:=n) (show tabA 143=some JDL from rfl),JAA rfl]
  dsimp?! [JDL,JFg,Pl.d,Pl.steps,t20,JBY,JBK]
 | step o g q k =>
  intro m ok hd hm
  obtain ⟨n,rfl⟩:=JAE (k:=1) hm
  rw [JAB (n:=n) (show tabA 143=some JDL from rfl),JAA rfl]
  cases o<;>dsimp?! [JDL,JFg,Pl.d,Pl.steps,gwF,gwT,t40,JCN,JBx,JCU,JBv]
 | thn a b iha ihb =>
  intro m ok hd hm
  have s1:=JBz (p:=a) ok.1 (by simp only [Pl.dep] at hd;omega)
  have s2:=JBz (p:=b) ok.2 (by simp only [Pl.dep] at hd;omega)
  simp only [Pl.dep] at hd hm
  obtain ⟨n,rfl⟩:=JAE (k:=1) (m:=m) (by omega)
  rw [JAB (n:=n) (show tabA 143=some JDL from rfl),JAA rfl]
  have ha:=iha (m:=n) ok.1 (by omega) (by omega)
  have hb:=ihb (m:=n) ok.2 (by omega) (by omega)
  have hs:binD .Add (.list (a.steps.map Pl.d)) (.list (b.steps.map Pl.d))=.ok (.list ((Pl.thn a b).steps.map Pl.d)):=by
   rw [addL (by simp only [q_g];omega)]
   simp only [Pl.steps,List.map_append]
  generalize (Pl.thn a b).steps.map Pl.d=rs at *
  generalize hda:a.d=da at *
  generalize hdb:b.d=db at *
  generalize a.steps.map Pl.d=xs at *
  generalize b.steps.map Pl.d=ys at *
  dsimp?! [JDL,JFg,Pl.d,hda,hdb,t30,t31,t32,JA0,ha,hb,hs]
 | agn c a iha =>
  intro m ok hd hm
  have s1:=JBz (p:=a) ok.2 (by simp only [Pl.dep] at hd;omega)
  simp only [Pl.dep] at hd hm
  obtain ⟨n,rfl⟩:=JAE (k:=1) (m:=m) (by omega)
  rw [JAB (n:=n) (show tabA 143=some JDL from rfl),JAA rfl]
  have ha:=iha (m:=n) ok.2 (by omega) (by omega)
  have hc:=ok.1
  have hs:binD .Mult (.list (a.steps.map Pl.d)) (.int c)=.ok (.list ((Pl.agn c a).steps.map Pl.d)):=by
   rw [mulL (by omega) (by simp only [q_g];have:=Nat.mul_le_mul s1 hc;omega),JNC]
   rfl
  generalize (Pl.agn c a).steps.map Pl.d=rs at *
  generalize hda:a.d=da at *
  generalize a.steps.map Pl.d=xs at *
  dsimp?! [JDL,JFg,Pl.d,hda,t30,t31,t32,JBJ,JBB,ha,hs]
theorem JH9 (c:Nat) (hc:c<=1000):rngD [.int c]=.ok (((List.range c).map fun j:Nat=>(j:Int)).map PyData.int):=by
 have h:small (c:Int)=true:=by
  unfold small
  simp only [q_i,q_C]
  omega
 simp only [rngD,h,if_true,JEB,List.map_map]
 simp
theorem JNN:∀(p:Pl) {m:Nat},p.Ok->p.dep<=8->p.dep<=m->run x tabA gloA sub m 147 [p.d]=.ok (.list (p.steps.map Pl.d)):=by
 intro p
 induction p with
 | wait q =>
  intro m ok hd hm
  obtain ⟨n,rfl⟩:=JAE (k:=1) hm
  rw [JAB (n:=n) (show tabA 147=some JDI from rfl),JAA rfl]
  dsimp?! [JDI,JFW,Pl.d,Pl.steps,t20,JBY,JBK]
 | step o g q k =>
  intro m ok hd hm
  obtain ⟨n,rfl⟩:=JAE (k:=1) hm
  rw [JAB (n:=n) (show tabA 147=some JDI from rfl),JAA rfl]
  cases o<;>dsimp?! [JDI,JFW,Pl.d,Pl.steps,gwF,gwT,t40,JCN,JBx,JCU,JBv]
 | thn a b iha ihb =>
  intro m ok hd hm
  have s1:=JBz (p:=a) ok.1 (by simp only [Pl.dep] at hd;omega)
  have s2:=JBz (p:=b) ok.2 (by simp only [Pl.dep] at hd;omega)
  simp only [Pl.dep] at hd hm
  obtain ⟨n,rfl⟩:=JAE (k:=1) (m:=m) (by omega)
  rw [JAB (n:=n) (show tabA 147=some JDI from rfl),JAA rfl]
  have ha:=iha (m:=n) ok.1 (by omega) (by omega)
  have hb:=ihb (m:=n) ok.2 (by omega) (by omega)
  have hs:binD .Add (.list (a.steps.map Pl.d)) (.list (b.steps.map Pl.d))=.ok (.list ((Pl.thn a b).steps.map Pl.d)):=by
   rw [addL (by simp only [q_g];omega)]
   simp only [Pl.steps,List.map_append]
  generalize (Pl.thn a b).steps.map Pl.d=rs at *
  generalize hda:a.d=da at *
  generalize hdb:b.d=db at *
  generalize a.steps.map Pl.d=xs at *
  generalize b.steps.map Pl.d=ys at *
  dsimp?! [JDI,JFW,Pl.d,hda,hdb,t30,t31,t32,JA0,ha,hb,hs]
 | agn c a iha =>
  intro m ok hd hm
  have s1:=JBz (p:=a) ok.2 (by simp only [Pl.dep] at hd;omega)
  simp only [Pl.dep] at hd hm
  obtain ⟨n,rfl⟩:=JAE (k:=1) (m:=m) (by omega)
  rw [JAB (n:=n) (show tabA 147=some JDI from rfl),JAA rfl]
  have ha:=iha (m:=n) ok.2 (by omega) (by omega)
  have hc:=ok.1
  obtain ⟨C,hC⟩:∃C:Cn,C=⟨run x tabA gloA sub n,gloA,sub⟩:=⟨_,rfl⟩
  have fn:C.fn=run x tabA gloA sub n:=by rw [hC]
  have fg:C.glo=gloA:=by rw [hC]
  rw [<-hC]
  generalize hda:a.d=da at *
  have rg:=JH9 c (by omega)
  obtain ⟨δ',lp,k,y2,ek,v2,eδ⟩:=JBZ (C:=C) (i:=2) (b:=JFK)
   (Inv:=fun ds δ=>∃(k:Nat) (y2:Sl),ds.length+k=c/\Vs y2/\δ=[.val (.tuple [.str "again",.int c,da]),.own (.list (((List.replicate k a.steps).flatten).map Pl.d)),y2])
   (fun d ds δ ⟨k,y2,ek,v2,e⟩=>by
     subst e
     simp only [List.length_cons] at ek
     refine ⟨[.val (.tuple [.str "again",.int c,da]),.own (.list (((List.replicate (k+1) a.steps).flatten).map Pl.d)),.val d],.inl ?_,k+1,.val d,by omega,rfl,rfl⟩
     have hl:(((List.replicate k a.steps).flatten).map Pl.d).length<=65536*4:=by
      simp only [q_g,List.length_flatten,List.map_replicate,List.sum_replicate_nat]
      rw [Nat.mul_comm]
      exact Nat.mul_le_mul s1 (by omega)
     have ex:∀y:Sl,Vs y->JBP 1 (((List.replicate k a.steps).flatten).map Pl.d) (.call 147 (.cons (.idx (.var 0) (.cint 2)) .nil)) (.list (a.steps.map Pl.d)) [.val (.tuple [.str "again",.int c,da]),.own (.list (((List.replicate k a.steps).flatten).map Pl.d)),y]
       = .nx [.val (.tuple [.str "again",.int c,da]),.own (.list (((List.replicate (k+1) a.steps).flatten).map Pl.d)),y]:=fun y v=>by
      rw [extOk (by simp only [q_g] at hl ⊢;omega)
       (by rw [JCD,JAX,v.own,JB8];rfl)]
      rw [List.replicate_succ',List.flatten_append,List.map_append]
      simp
     generalize ((List.replicate (k+1) a.steps).flatten).map Pl.d=r1 at *
     generalize ((List.replicate k a.steps).flatten).map Pl.d=r0 at *
     generalize a.steps.map Pl.d=xs at *
     dsimp?! [JFK,fn,fg,t32,ha,ex (.val d) rfl])
   (ds:=((List.range c).map fun j:Nat=>(j:Int)).map PyData.int)
   (δ:=[.val (.tuple [.str "again",.int c,da]),.own (.list []),.no])
   ⟨0,.no,by simp,rfl,by simp⟩
  subst eδ
  have ek:k=c:=by simpa using ek
  subst ek
  have hs:(Pl.agn k a).steps=(List.replicate k a.steps).flatten:=rfl
  rw [hs]
  simp only [JFK] at lp
  generalize ((List.replicate k a.steps).flatten).map Pl.d=rs at *
  generalize ((List.range k).map fun j:Nat=>(j:Int)).map PyData.int=js at *
  dsimp?! [JDI,JFW,Pl.d,hda,fn,fg,t30,t31,t32,JBJ,JBB,rg,lp,JBj,JCM,JCH,JBo,JAX,JDV,JDM,JCd,JF2,JCV,JNW,JFr,Nat.reduceAdd,Nat.reduceBEq,Bool.or_false,Bool.or_self,v2.own]
end
end VI.VP
end
section
namespace VI.VP
open PySem Fr
noncomputable def tot:List Rat->Rat->Rat
 | [],s=>s
 | q::r,s=>tot r (s+q)
theorem Tw.sz20 {B:Nat} {p:Rat} (h:Tw B p) (e:B<2 ^ 20):Sz 20 p:=by
 obtain ⟨z,hz,rfl⟩:=h
 exact Sz.of (by decide) (by omega) (by decide)
theorem JA4 {α:Type} {f:D->R (Option D)} {c g:α->D}:∀ {xs:List α},(∀a∈xs,f (c a)=.ok (some (g a)))->JAp f (xs.map c)=.ok (xs.map g)
 | [],_=>rfl
 | a::xs,h=>by
  simp only [List.map_cons]
  unfold JAp
  rw [h a (by simp)]
  simp only
  rw [JA4 fun y hy=>h y (by simp [hy])]
noncomputable def Pl.Sm:Pl->Prop
 | .wait q=>Small q
 | .step _ g q _=>Small g/\Small q
 | .thn a b=>a.Sm/\b.Sm
 | .agn _ a=>a.Sm
theorem JBF:∀p:Pl,∀s∈p.steps,s.one=true:=by
 intro p
 induction p with
 | wait q=>intro s h;simp only [Pl.steps,List.mem_singleton] at h;subst h;rfl
 | step o g q k=>intro s h;simp only [Pl.steps,List.mem_singleton] at h;subst h;rfl
 | thn a b ha hb =>
  intro s h
  simp only [Pl.steps,List.mem_append] at h
  rcases h with h | h
  ·exact ha s h
  ·exact hb s h
 | agn c a ha =>
  intro s h
  simp only [Pl.steps,List.mem_flatten,List.mem_replicate] at h
  obtain ⟨l,⟨_,rfl⟩,h⟩:=h
  exact ha s h
theorem JBl {P:Pl->Prop} (h:∀a b,P (.thn a b)->P a/\P b) (h2:∀c a,P (.agn c a)->P a):∀p:Pl,P p->∀s∈p.steps,P s:=by
 intro p
 induction p with
 | wait q=>intro hp s h;simp only [Pl.steps,List.mem_singleton] at h;subst h;exact hp
 | step o g q k=>intro hp s h;simp only [Pl.steps,List.mem_singleton] at h;subst h;exact hp
 | thn a b ha hb =>
  intro hp s hs
  simp only [Pl.steps,List.mem_append] at hs
  rcases hs with hs | hs
  ·exact ha (h a b hp).1 s hs
  ·exact hb (h a b hp).2 s hs
 | agn c a ha =>
  intro hp s hs
  simp only [Pl.steps,List.mem_flatten,List.mem_replicate] at hs
  obtain ⟨l,⟨_,rfl⟩,hs⟩:=hs
  exact ha (h2 c a hp) s hs
theorem Pl.Sm.q {s:Pl} (h:s.Sm) (o:s.one=true):Small s.q:=by
 cases s with
 | wait q=>exact h
 | step o g q k=>exact h.2
 | thn a b=>cases o
 | agn c a=>cases o
theorem JBa {p:Pl} (h:p.Sm):∀s∈p.steps,Small s.q:=fun s hs=>Pl.Sm.q (JBl (P:=Pl.Sm) (fun _ _ h=>h) (fun _ _ h=>h) p h s hs) (JBF p s hs)
section
variable {x:Bool} {sub:Nat->Nat->Bool} {m:Nat}
theorem JFi {p:Pl} (h:p.one=true) (hm:1<=m):run x tabA gloA sub m 144 [p.d]=.ok (F p.q):=by
 obtain ⟨n,rfl⟩:=JAE hm
 rw [JAB (n:=n) (show tabA 144=some JIJ from rfl),JAA rfl]
 cases p with
 | wait q=>dsimp?! [JIJ,JHc,Pl.d,Pl.q,t20,t21,JAc]
 | step o g q k=>cases o<;>dsimp?! [JIJ,JHc,Pl.d,Pl.q,gwF,gwT,t40,t42,JAy,JAz]
 | thn a b=>cases h
 | agn c a=>cases h
noncomputable def JFU:S:=.cons (.asg 1 (.call 3 (.cons (.var 1) (.cons (.var 2) .nil)))) .nil
theorem q_all (qs:List Rat) (hq:∀q∈qs,Tw 72 q) (hl:qs.length<=10000) (hm:4<=m):run x tabA gloA sub m 179 [.list (qs.map F)]=.ok (F (tot qs 0)):=by
 obtain ⟨n,rfl⟩:=JAE hm
 rw [JAB (n:=n+3) (show tabA 179=some JJq from rfl),JAA rfl]
 obtain ⟨C,hC⟩:∃C:Cn,C=⟨run x tabA gloA sub (n+3),gloA,sub⟩:=⟨_,rfl⟩
 have fn:C.fn=run x tabA gloA sub (n+3):=by rw [hC]
 have fg:C.glo=gloA:=by rw [hC]
 rw [<-hC]
 have it:JAg (.list (qs.map F))=.ok (qs.map F):=rfl
 generalize hds:qs.map F=ds at *
 obtain ⟨δ',lp,r,s,y2,er,_,_,es,v2,eδ⟩:=JBZ (C:=C) (i:=2) (b:=JFU)
  (Inv:=fun es δ=>∃(r:List Rat) (s:Rat) (y2:Sl),es=r.map F/\(∀q∈r,Tw 72 q)/\Tw (72*(10000 - r.length)) s/\(r.length<=10000/\tot r s=tot qs 0)/\Vs y2/\δ=[.val (.list ds),.val (F s),y2])
  (fun d es δ ⟨r,s,y2,er,hr,hs,ht,v2,e⟩=>by
    subst e
    cases r with
    | nil=>cases er
    | cons q r =>
     simp only [List.map_cons,List.cons.injEq] at er
     obtain ⟨rfl,rfl⟩:=er
     simp only [List.length_cons] at hs ht
     have tq:=hr q (by simp)
     have z1:Z 20 s:=⟨hs.sz20 (by omega)⟩
     have z2:Z 20 q:=⟨tq.sz20 (by omega)⟩
     refine ⟨[.val (.list ds),.val (F (s+q)),.val (F q)],.inl ?_,r,s+q,.val (F q),rfl,fun a h=>hr a (by simp [h]),(hs.add tq).mono (by omega),⟨by omega,ht.2⟩,rfl,rfl⟩
     dsimp?! [JFU,fn,fg])
  (ds:=ds) (δ:=[.val (.list ds),.val (F 0),.no])
  ⟨qs,0,.no,hds.symm,hq,⟨0,by omega,by rw [Rat.zero_divInt]⟩,⟨hl,rfl⟩,rfl,rfl⟩
 subst eδ
 cases r with
 | cons q r=>cases er
 | nil =>
  have es:s=tot qs 0:=es.2
  subst es
  simp only [JFU] at lp
  generalize tot qs 0=T at *
  dsimp?! [JJq,JKA,fn,fg,it,lp,JBj,JCM,JBo]
theorem JKe {p:Pl} (ok:p.Ok) (sm:p.Sm) (hd:p.dep<=5) (hm:p.dep+4<=m):run x tabA gloA sub m 180 [p.d]=.ok (F (tot (p.steps.map Pl.q) 0)):=by
 have h1:=p.dep_pos
 obtain ⟨n,rfl⟩:=JAE (k:=5) (m:=m) (by omega)
 rw [JAB (n:=n+4) (show tabA 180=some JJ8 from rfl),JAA rfl]
 have hl:p.steps.length<=1024:=Nat.le_trans (JDp p ok) (Nat.le_trans (Nat.pow_le_pow_right (by decide) hd) (by decide))
 have e1:=JD3 (x:=x) (sub:=sub) p (m:=n+4) ok (by omega) (by omega)
 have e2:=q_all (x:=x) (sub:=sub) (m:=n+4) (p.steps.map Pl.q) (fun q h=>by
  obtain ⟨s,hs,rfl⟩:=List.mem_map.mp h
  exact (JBa sm s hs).tw) (by simp only [q_g];omega) (by omega)
 obtain ⟨C,hC⟩:∃C:Cn,C=⟨run x tabA gloA sub (n+4),gloA,sub⟩:=⟨_,rfl⟩
 have fn:C.fn=run x tabA gloA sub (n+4):=by rw [hC]
 have fg:C.glo=gloA:=by rw [hC]
 rw [<-hC]
 have it:JAg (.list (p.steps.map Pl.d))=.ok (p.steps.map Pl.d):=rfl
 have cp:JCZ C 0 (.call 144 (.cons (.var 0) .nil)) (.cbl true) [.val p.d] (.ok (p.steps.map Pl.d))=.ok (.list ((p.steps.map Pl.q).map F)):=by
  rw [JBX (by rw [q_g];omega),JA4 (c:=Pl.d) (g:=fun s=>F s.q) (fun a ha=>?_),List.map_map]
  ·rfl
  ·rw [JBr]
   have h3:=JFi (x:=x) (sub:=sub) (m:=n+4) (JBF p a ha) (by omega)
   generalize a.d=ad at *
   dsimp?! [fn,fg,h3]
 generalize (p.steps.map Pl.q).map F=qs at *
 generalize p.steps.map Pl.d=ds at *
 generalize tot _ _=T at *
 generalize p.d=pd at *
 dsimp?! [JJ8,JKZ,fn,fg,e1,it,cp,e2]
end
end VI.VP
end
section
namespace VI.VP
open PySem Fr
noncomputable def pB:Nat->Int
 | 0=>900000
 | 1=>900000
 | 2=>299000
 | 3=>99000
 | _=>32000
theorem JM4 {d:Nat} {a:Int} (hd:d<=3) (h1:1<=d) (h:a<=pB (d+1)):3*a+37<=pB d:=by
 have:d=1\/d=2\/d=3:=by omega
 rcases this with rfl | rfl | rfl<;>simp only [pB] at h ⊢<;>omega
theorem pB_le (d:Nat):pB d<=900000:=by
 unfold pB
 split<;>omega
section
variable {x:Bool} {sub:Nat->Nat->Bool} {m:Nat}
theorem JFw (ns:List Int):∀(d:Nat) {m:Nat} (at':Int),1<=d->d<=4->0<=at'->at'<=pB d->d+3<=m->∃p:Pl,p.Ok/\p.Sm/\p.dep<=d/\run x tabA gloA sub m 146 [sc ns,.int at',.int d]=.ok p.d
 | 0,_,_,h,_,_,_,_=>absurd h (by omega)
 | d+1,m,at',_,hd,h0,h1,hm=>by
  obtain ⟨n,rfl⟩:=JAE (k:=1) (m:=m) (by omega)
  rw [JAB (n:=n) (show tabA 146=some d_146 from rfl),JAA rfl]
  have hb:=pB_le (d+1)
  obtain ⟨w,w0,w1,hw⟩:=JEV (x:=x) (sub:=sub) (m:=n) ns at' 8 (by omega) (by omega) (by omega) (by omega)
  have e1:((d+1:Nat):Int) - 1=d:=by omega
  by_cases hs:d=0\/w<3
  ·obtain ⟨s,s0,s1,hs1⟩:=JEV (x:=x) (sub:=sub) (m:=n) ns (at'+1) 5 (by omega) (by omega) (by omega) (by omega)
   obtain ⟨q2,sq2,q20,h2⟩:=JIt (x:=x) (sub:=sub) (m:=n) ns (at'+2) (by omega) (by omega) (by omega)
   obtain ⟨g,sg,hg⟩:=JL1 (x:=x) (sub:=sub) (m:=n) ns (at'+4) (by omega) (by omega) (by omega)
   obtain ⟨q,sq,q0,hq⟩:=JIt (x:=x) (sub:=sub) (m:=n) ns (at'+6) (by omega) (by omega) (by omega)
   obtain ⟨k,hk⟩:=JQA (x:=x) (sub:=sub) (m:=n) ns (at'+8) (by omega) (by omega) (by omega)
   have go:∀b:Bool,decide (((d+1:Nat):Int)=1)=b->(b=false->decide (w<3)=true)->∃p:Pl,p.Ok/\p.Sm/\p.dep<=d+1/\JIN x (exec ⟨run x tabA gloA sub n,gloA,sub⟩ d_146.body ([sc ns,.int at',.int ((d+1:Nat):Int)].map Sl.val++List.replicate (d_146.slots - d_146.par) Sl.no))=.ok p.d:=by
    intro b hb1 hb2
    by_cases z:s=0
    ·refine ⟨.wait q2,q20,sq2,by simp only [Pl.dep];omega,?_⟩
     cases b
     ·dsimp?! [d_146,JC9,hw,hb1,hb2 rfl,hs1,z,decide_true,h2,Pl.d]
     ·dsimp?! [d_146,JC9,hw,hb1,hs1,z,decide_true,h2,Pl.d]
    ·by_cases z3:s<3
     ·refine ⟨.step true g q k,q0,⟨sg,sq⟩,by simp only [Pl.dep];omega,?_⟩
      cases b
      ·dsimp?! [d_146,JC9,hw,hb1,hb2 rfl,hs1,z,z3,decide_true,decide_false,hg,hq,hk,Pl.d,gwT]
      ·dsimp?! [d_146,JC9,hw,hb1,hs1,z,z3,decide_true,decide_false,hg,hq,hk,Pl.d,gwT]
     ·refine ⟨.step false g q k,q0,⟨sg,sq⟩,by simp only [Pl.dep];omega,?_⟩
      cases b
      ·dsimp?! [d_146,JC9,hw,hb1,hb2 rfl,hs1,z,z3,decide_true,decide_false,hg,hq,hk,Pl.d,gwF]
      ·dsimp?! [d_146,JC9,hw,hb1,hs1,z,z3,decide_true,decide_false,hg,hq,hk,Pl.d,gwF]
   by_cases hd0:d=0
   ·exact go true (decide_eq_true (by omega)) (fun h=>by cases h)
   ·exact go false (q_o (by omega)) (fun _=>decide_eq_true (by omega))
  ·have hd1:decide (((d+1:Nat):Int)=1)=false:=q_o (by omega)
   have hw3:decide (w<3)=false:=q_o (by omega)
   have bm:binD .Mult (.int 3) (.int at')=.ok (.int (3*at')):=JDX (i:=3) (j:=at') (by decide)
   have hst:=JM4 (d:=d) (a:=at') (by omega) (by omega) h1
   by_cases h6:w<6
   ·obtain ⟨a,oa,sa,da,ha⟩:=JFw ns d (m:=n) (3*at'+11) (by omega) (by omega) (by omega) (by omega) (by omega)
    obtain ⟨b,ob,sb,db,hb⟩:=JFw ns d (m:=n) (3*at'+37) (by omega) (by omega) (by omega) (by omega) (by omega)
    refine ⟨.thn a b,⟨oa,ob⟩,⟨sa,sb⟩,by simp only [Pl.dep];omega,?_⟩
    simp only [Pl.d]
    generalize a.d=ad at *
    generalize b.d=bd at *
    dsimp?! [d_146,JC9,hw,hd1,hw3,h6,decide_true,bm,e1,ha,hb]
   ·obtain ⟨c,c0,c1,hc⟩:=JEV (x:=x) (sub:=sub) (m:=n) ns (at'+9) 4 (by omega) (by omega) (by omega) (by omega)
    obtain ⟨a,oa,sa,da,ha⟩:=JFw ns d (m:=n) (3*at'+23) (by omega) (by omega) (by omega) (by omega) (by omega)
    have ec:((c.toNat:Nat):Int)=c:=by omega
    refine ⟨.agn c.toNat a,⟨by omega,oa⟩,sa,by simp only [Pl.dep];omega,?_⟩
    simp only [Pl.d,ec]
    generalize a.d=ad at *
    dsimp?! [d_146,JC9,hw,hd1,hw3,h6,decide_false,bm,e1,ha,hc]
end
end VI.VP
end
section
namespace VI.VP
open PySem Fr
section
variable {x:Bool} {sub:Nat->Nat->Bool} {m:Nat}
end
end VI.VP
end
section
namespace VI.VP
open PySem Fr
noncomputable def Pl.goal:Pl->Rat->Rat
 | .step o g _ _,h=>if o=true then g else h+g
 | _,h=>h
noncomputable def Pl.mv:Pl->Rat->Rat->List Mv
 | .step o g q k,h,t=>[⟨h,(Pl.step o g q k).goal h,t,q,some k,0,0⟩]
 | _,_,_=>[]
noncomputable def mvs:List Pl->Rat->Rat->List Mv
 | [],_,_=>[]
 | s::r,h,t=>s.mv h t++mvs r (s.goal h) (t+s.q)
theorem JD7:∀(qs:List Rat) (s y:Rat),tot qs (s+y)=tot qs s+y
 | [],_,_=>rfl
 | q::r,s,y=>by
  simp only [tot]
  rw [show s+y+q=(s+q)+y by grind,JD7 r]
theorem JFQ:∀(as bs:List Rat) (s:Rat),tot (as++bs) s=tot bs (tot as s)
 | [],_,_=>rfl
 | a::r,bs,s=>by simp only [List.cons_append,tot];exact JFQ r bs _
theorem JIU:∀(ss:List Pl) (h t:Rat),(mvs ss h t).length<=ss.length
 | [],_,_=>q_t _
 | s::r,h,t=>by
  have:=JIU r (s.goal h) (t+s.q)
  have:(s.mv h t).length<=1:=by cases s<;>simp [Pl.mv]
  simp only [mvs,q_u,List.length_cons]
  omega
noncomputable def Sts (ss:List Pl):Prop:=∀a∈ss,a.one=true/\a.Sm/\a.Ok
theorem Sts.of {p:Pl} (ok:p.Ok) (sm:p.Sm):Sts p.steps:=fun s hs=>⟨JBF p s hs,JBl (P:=Pl.Sm) (fun _ _ h=>h) (fun _ _ h=>h) p sm s hs,JBl (P:=Pl.Ok) (fun _ _ h=>h) (fun _ _ h=>h.2) p ok s hs⟩
theorem Sts.tl {a:Pl} {r:List Pl} (h:Sts (a::r)):Sts r:=fun b hb=>h b (by simp [hb])
theorem JMS {s:Pl} {A:Nat} {h:Rat} (o1:s.one=true) (sm:s.Sm) (hA:Tw A h):Tw (A+72) (s.goal h):=by
 cases s with
 | wait q=>exact hA.mono (by omega)
 | step o g q k =>
  simp only [Pl.goal]
  split
  ·exact sm.1.tw.mono (by omega)
  ·exact hA.add sm.1.tw
 | thn a b=>cases o1
 | agn c a=>cases o1
theorem JOf {s:Pl} (o1:s.one=true) (ok:s.Ok):0<s.q:=by
 cases s with
 | wait q=>exact ok
 | step o g q k=>exact ok
 | thn a b=>cases o1
 | agn c a=>cases o1
theorem JMv {i:Nat} {ds:List D} {e:E} {x:D} {δ:Env} (h:ds.length<16777216) (hn:JAQ x=true):JBN i ds e x δ=.nx (δ.set i (.own (.list (ds++[x])))):=by
 simp only [JBN,h,if_true,hn,Bool.not_true,Bool.and_false,q_v,if_false]
section
variable {x:Bool} {sub:Nat->Nat->Bool} {m:Nat}
theorem s_ne {a b:Str} {k:Bool} (h:cmpD .Eq (.str a) (.str b)=.ok (.bool k)):cmpD .NotEq (.str a) (.str b)=.ok (.bool (!k)):=by
 simp only [cmpD] at h ⊢
 split at h
 ·rename_i z
  simp only [R.ok.injEq,PyData.bool.injEq] at h
  rw [if_pos z,h]
 ·cases h
theorem JQB {s:Pl} {h:Rat} {i:Nat} (o1:s.one=true) (sm:s.Sm) [Z i h] (hi:i<=400) (hm:4<=m):run x tabA gloA sub m 154 [s.d,F h]=.ok (F (s.goal h)):=by
 obtain ⟨n,rfl⟩:=JAE hm
 rw [JAB (n:=n+3) (show tabA 154=some JGw from rfl),JAA rfl]
 cases s with
 | wait q=>dsimp?! [JGw,JG3,Pl.d,Pl.goal,t20,JAc]
 | step o g q k =>
  have zg:Z 5 g:=sm.1.Z
  cases o
  ·dsimp?! [JGw,JG3,Pl.d,Pl.goal,gwF,t40,t41,JAz,JHh]
  ·dsimp?! [JGw,JG3,Pl.d,Pl.goal,gwT,t40,t41,JAy,JIx]
 | thn a b=>cases o1
 | agn c a=>cases o1
theorem JCo {d:D} {n:Nat} (h:run x tabA gloA sub n 140 [d]=.ok (.bool true)):run x tabA gloA sub (n+1) 153 [d]=.ok .none:=by
 rw [JAB (n:=n) (show tabA 153=some JJY from rfl),JAA rfl]
 dsimp?! [JJY,JJR,h,Bool.not_true]
noncomputable def JJf:S:=match JEY with
 | .cons _ (.cons _ (.cons _ (.cons _ (.cons (.for1 _ _ b) _))))=>b
 | _=>.nil
theorem JJ4 {p:Pl} {w t:Rat} (ok:p.Ok) (sm:p.Sm) (hd:p.dep<=5) (hl:p.steps.length<=900) (hw:Tw 20000 w) (ht:Tw 20000 t) (hm:12<=m):run x tabA gloA sub m 155 [p.d,F w,F t]=.ok (tr w (mvs p.steps w t)):=by
 obtain ⟨n,rfl⟩:=JAE hm
 rw [JAB (n:=n+11) (show tabA 155=some JKc from rfl),JAA rfl]
 have hn:run x tabA gloA sub (n+11) 153 [p.d]=.ok .none:=JCo (n:=n+10) (by rw [JGN p ok (by omega),decide_eq_true hd])
 have hs:=JD3 (x:=x) (sub:=sub) p (m:=n+11) ok (by omega) (by omega)
 obtain ⟨C,hC⟩:∃C:Cn,C=⟨run x tabA gloA sub (n+11),gloA,sub⟩:=⟨_,rfl⟩
 have fn:C.fn=run x tabA gloA sub (n+11):=by rw [hC]
 have fg:C.glo=gloA:=by rw [hC]
 rw [<-hC]
 have it:JAg (.list (p.steps.map Pl.d))=.ok (p.steps.map Pl.d):=rfl
 obtain ⟨δ',lp,r,acc,h',t',y6,y7,er,_,_,_,_,ea,v6,v7,eδ⟩:=JBZ (C:=C) (i:=6) (b:=JJf)
  (Inv:=fun es δ=>∃(r:List Pl) (acc:List Mv) (h u:Rat) (y6 y7:Sl),es=r.map Pl.d/\Sts r/\Tw (20000+72*(900 - r.length)) h/\Tw (20000+72*(900 - r.length)) u/\(r.length<=900/\acc.length+r.length<=900)/\acc++mvs r h u=mvs p.steps w t/\Vs y6/\Vs y7/\δ=[.val p.d,.val (F w),.val (F t),.own (.list (acc.map Mv.d)),.val (F h),.val (F u),y6,y7])
  (fun d es δ ⟨r,acc,h,u,y6,y7,er,sr,hh,hu,hl,ha,v6,v7,e⟩=>by
    subst e
    cases r with
    | nil=>cases er
    | cons a r =>
     simp only [List.map_cons,List.cons.injEq] at er
     obtain ⟨rfl,rfl⟩:=er
     simp only [List.length_cons] at hh hu hl
     obtain ⟨o1,sa,oa⟩:=sr a (by simp)
     have tq:=(Pl.Sm.q sa o1).tw
     have z1:Z 20 h:=⟨hh.sz20 (by omega)⟩
     have z2:Z 20 u:=⟨hu.sz20 (by omega)⟩
     have z3:Z 20 a.q:=⟨tq.sz20 (by omega)⟩
     have hg:=JQB (x:=x) (sub:=sub) (m:=n+11) (h:=h) o1 sa (by omega) (by omega)
     have hz:=JFi (x:=x) (sub:=sub) (m:=n+11) o1 (by omega)
     have tg:=JMS o1 sa hh
     have ln:(acc++a.mv h u).length+r.length<=900:=by
      have:(a.mv h u).length<=1:=by cases a<;>simp [Pl.mv]
      rw [q_u];omega
     refine ⟨[.val p.d,.val (F w),.val (F t),.own (.list ((acc++a.mv h u).map Mv.d)),.val (F (a.goal h)),.val (F (u+a.q)),.val a.d,.val (F (a.goal h))],.inl ?_,r,acc++a.mv h u,a.goal h,u+a.q,.val a.d,.val (F (a.goal h)),rfl,sr.tl,tg.mono (by omega),(hu.add tq).mono (by omega),⟨by omega,ln⟩,by rw [<-ha,mvs,List.append_assoc],rfl,rfl,rfl⟩
     generalize p.d=pd at *
     have wn:JAQ a.d=true:=by
      cases a with
      | wait q=>rfl
      | step o g q k=>rfl
      | thn a b=>cases o1
      | agn c a=>cases o1
     cases a with
     | wait q =>
      have nw:=s_ne JAc
      simp only [Pl.mv,List.append_nil,Pl.goal] at hg ⊢
      simp only [Pl.q] at z3 hz ⊢
      simp only [Pl.d] at hg hz wn ⊢
      generalize acc.map Mv.d=ds at *
      dsimp?! [JJf,JEY,fn,fg,hg,hz,t20,nw,JAQ,noF,Bool.not_true,Bool.and_false,v6.own,v7.own,JAX]
     | step o g q k =>
      have nw:cmpD .NotEq (.str (gw o)) (.str "wait")=.ok (.bool true):=by
       cases o
       ·exact s_ne JAz
       ·exact s_ne JAy
      have em:(acc++(Pl.step o g q k).mv h u).map Mv.d=acc.map Mv.d++[.tuple [F h,F ((Pl.step o g q k).goal h),F u,F q,.str k.str,.tuple [F 0,F 0]]]:=by
       simp only [Pl.mv,List.map_append,List.map_cons,List.map_nil]
       rfl
      have ap:∀δ:Env,∀e:E,JBN 3 (acc.map Mv.d) e (.tuple [F h,F ((Pl.step o g q k).goal h),F u,F q,.str k.str,.tuple [F 0,F 0]]) δ=.nx (δ.set 3 (.own (.list (acc.map Mv.d++[.tuple [F h,F ((Pl.step o g q k).goal h),F u,F q,.str k.str,.tuple [F 0,F 0]]])))):=fun δ e=>JMv (by rw [q_g];omega) rfl
      rw [em]
      generalize (Pl.step o g q k).goal h=gg at *
      simp only [Pl.q] at z3 hz ⊢
      simp only [Pl.d] at hg hz wn ⊢
      generalize acc.map Mv.d=ds at *
      dsimp?! [JJf,JEY,fn,fg,hg,hz,t40,t42,t43,nw,JNn,ap,JAQ,noF,Bool.not_true,Bool.and_false,v6.own,v7.own,JAX]
     | thn a b=>cases o1
     | agn c a=>cases o1)
  (ds:=p.steps.map Pl.d) (δ:=[.val p.d,.val (F w),.val (F t),.own (.list []),.val (F w),.val (F t),.no,.no])
  ⟨p.steps,[],w,t,.no,.no,rfl,Sts.of ok sm,hw.mono (by omega),ht.mono (by omega),⟨hl,by simpa using hl⟩,by simp,rfl,rfl,rfl⟩
 subst eδ
 cases r with
 | cons q r=>cases er
 | nil =>
  simp only [mvs,List.append_nil] at ea
  subst ea
  simp only [JJf,JEY] at lp
  have tt:op1D .toTup (.list ((mvs p.steps w t).map Mv.d))=.ok (.tuple ((mvs p.steps w t).map Mv.d)):=rfl
  have ee:tr w (mvs p.steps w t)=.tuple [F w,.tuple ((mvs p.steps w t).map Mv.d)]:=rfl
  rw [ee]
  generalize (mvs p.steps w t).map Mv.d=ds at *
  generalize p.steps.map Pl.d=ps at *
  generalize p.d=pd at *
  dsimp?! [JKc,JEY,fn,fg,hn,hs,it,lp,tt,JBj,JCM,JCH,JBo,JAX,JDV,JDM,JCd,JCV,Nat.reduceAdd,Nat.reduceBEq,Bool.or_false,Bool.or_self,JAQ,noF,Bool.not_true,Bool.and_false,v6.own,v7.own]
end
end VI.VP
end
section
namespace VI.VP
open PySem Fr
noncomputable def Pl.slow (r:Rat):Pl->Pl
 | .wait q=>.wait (q*r)
 | .step o g q k=>.step o g (q*r) k
 | .thn a b=>.thn (a.slow r) (b.slow r)
 | .agn c a=>.agn c (a.slow r)
noncomputable def Pl.Zq (i:Nat):Pl->Prop
 | .wait q=>Sz i q
 | .step _ _ q _=>Sz i q
 | .thn a b=>a.Zq i/\b.Zq i
 | .agn _ a=>a.Zq i
theorem Pl.Sm.zq:∀p:Pl,p.Sm->p.Zq 5:=by
 intro p
 induction p with
 | wait q=>exact fun h=>Small.sz h
 | step o g q k=>exact fun h=>Small.sz h.2
 | thn a b ha hb=>exact fun h=>⟨ha h.1,hb h.2⟩
 | agn c a ha=>exact fun h=>ha h
theorem JJU {r:Rat}:∀p:Pl,(p.slow r).dep=p.dep:=by
 intro p
 induction p with
 | wait q=>rfl
 | step o g q k=>rfl
 | thn a b ha hb=>simp only [Pl.slow,Pl.dep,ha,hb]
 | agn c a ha=>simp only [Pl.slow,Pl.dep,ha]
theorem JMF {r:Rat} (h0:0<r):∀p:Pl,p.Ok->(p.slow r).Ok:=by
 intro p
 induction p with
 | wait q=>exact fun h=>Rat.mul_pos h h0
 | step o g q k=>exact fun h=>Rat.mul_pos h h0
 | thn a b ha hb=>exact fun h=>⟨ha h.1,hb h.2⟩
 | agn c a ha=>exact fun h=>⟨h.1,ha h.2⟩
theorem JGl {r:Rat}:∀p:Pl,(p.slow r).steps=p.steps.map (Pl.slow r):=by
 intro p
 induction p with
 | wait q=>rfl
 | step o g q k=>rfl
 | thn a b ha hb=>simp only [Pl.slow,Pl.steps,ha,hb,List.map_append]
 | agn c a ha=>simp only [Pl.slow,Pl.steps,ha,List.map_flatten,List.map_replicate]
theorem JHQ {r:Rat} {s:Pl} (o:s.one=true):(s.slow r).q=s.q*r:=by
 cases s with
 | wait q=>rfl
 | step o g q k=>rfl
 | thn a b=>cases o
 | agn c a=>cases o
theorem JMo {r:Rat} {ss:List Pl} (h:∀s∈ss,s.one=true):(ss.map (Pl.slow r)).map Pl.q=(ss.map Pl.q).map (· * r):=by
 rw [List.map_map,List.map_map]
 exact List.map_congr_left fun s hs=>JHQ (h s hs)
theorem JHj (r:Rat):∀(qs:List Rat) (s:Rat),tot (qs.map (· * r)) (s*r)=tot qs s*r
 | [],_=>rfl
 | q::l,s=>by
  simp only [List.map_cons,tot]
  rw [show s*r+q*r=(s+q)*r by grind,JHj r l]
section
variable {x:Bool} {sub:Nat->Nat->Bool} {m:Nat}
theorem JQU {r:Rat} {i j:Nat} [zr:Z j r] (hi:i<=400) (hj:j<=400):∀(p:Pl) {m:Nat},p.Zq i->p.dep+3<=m->run x tabA gloA sub m 161 [p.d,F r]=.ok (p.slow r).d:=by
 intro p
 induction p with
 | wait q =>
  intro m hz hm
  obtain ⟨n,rfl⟩:=JAE (k:=4) hm
  have zq:Z i q:=⟨hz⟩
  rw [JAB (n:=n+3) (show tabA 161=some JDH from rfl),JAA rfl]
  dsimp?! [JDH,JFJ,Pl.d,Pl.slow,t20,t21,JBY,JBK,JAc]
 | step o g q k =>
  intro m hz hm
  obtain ⟨n,rfl⟩:=JAE (k:=4) hm
  have zq:Z i q:=⟨hz⟩
  rw [JAB (n:=n+3) (show tabA 161=some JDH from rfl),JAA rfl]
  cases o<;>dsimp?! [JDH,JFJ,Pl.d,Pl.slow,gwF,gwT,t40,t41,t42,t43,JCN,JBx,JAy,JCU,JBv,JAz]
 | thn a b iha ihb =>
  intro m hz hm
  simp only [Pl.dep] at hm
  obtain ⟨n,rfl⟩:=JAE (k:=1) (m:=m) (by omega)
  rw [JAB (n:=n) (show tabA 161=some JDH from rfl),JAA rfl]
  have ha:=iha (m:=n) hz.1 (by omega)
  have hb:=ihb (m:=n) hz.2 (by omega)
  simp only [Pl.slow,Pl.d]
  generalize (a.slow r).d=sa at *
  generalize (b.slow r).d=sb at *
  generalize a.d=da at *
  generalize b.d=db at *
  dsimp?! [JDH,JFJ,t30,t31,t32,JA0,ha,hb]
 | agn c a iha =>
  intro m hz hm
  simp only [Pl.dep] at hm
  obtain ⟨n,rfl⟩:=JAE (k:=1) (m:=m) (by omega)
  rw [JAB (n:=n) (show tabA 161=some JDH from rfl),JAA rfl]
  have ha:=iha (m:=n) hz (by omega)
  simp only [Pl.slow,Pl.d]
  generalize (a.slow r).d=sa at *
  generalize a.d=da at *
  dsimp?! [JDH,JFJ,t30,t31,t32,JBJ,JBB,ha]
theorem JKN {p:Pl} {r:Rat} {i j:Nat} [zr:Z j r] (ok:p.Ok) (hz:p.Zq i) (hd:p.dep<=5) (hi:i<=400) (hj:j<=400) (hm:12<=m):run x tabA gloA sub m 160 [p.d,F r]=.ok (p.slow r).d:=by
 obtain ⟨n,rfl⟩:=JAE hm
 rw [JAB (n:=n+11) (show tabA 160=some JJ9 from rfl),JAA rfl]
 have h1:run x tabA gloA sub (n+11) 153 [p.d]=.ok .none:=JCo (n:=n+10) (by rw [JGN p ok (by omega),decide_eq_true hd])
 have h2:=JQU (x:=x) (sub:=sub) (r:=r) hi hj p (m:=n+11) hz (by omega)
 generalize (p.slow r).d=sd at *
 generalize p.d=pd at *
 dsimp?! [JJ9,JJO,h1,h2]
end
end VI.VP
end
section
namespace VI.VP
open PySem Fr PySem.W
noncomputable def cu:List Pl->Rat->List Rat
 | [],_=>[]
 | s::r,t=>t::cu r (t+s.q)
noncomputable def en:List Pl->Rat->List Rat
 | [],_=>[]
 | s::r,t=>(t+s.q)::en r (t+s.q)
theorem JEF:∀(ss:List Pl) (t:Rat),(cu ss t).length=ss.length
 | [],_=>rfl
 | s::r,t=>by simp only [cu,List.length_cons,JEF r]
theorem JK5:∀(ss:List Pl) (t:Rat),(en ss t).length=ss.length
 | [],_=>rfl
 | s::r,t=>by simp only [en,List.length_cons,JK5 r]
theorem JG7:∀(a b:List Pl) (t:Rat),cu (a++b) t=cu a t++cu b (tot (a.map Pl.q) t)
 | [],_,_=>rfl
 | s::r,b,t=>by simp only [List.cons_append,cu,List.map_cons,tot,JG7 r b]
theorem JNg:∀ {ss:List Pl} {t:Rat},(∀s∈ss,0<s.q)->∀a∈cu ss t,t<=a
 | [],_,_,a,h=>by cases h
 | s::r,t,hp,a,h=>by
  simp only [cu,q_n] at h
  rcases h with rfl | h
  ·exact Rat.le_refl
  ·have:=JNg (fun s hs=>hp s (by simp [hs])) a h
   have:=hp s (by simp)
   grind
theorem JI4:∀ {ss:List Pl} {t:Rat},(∀s∈ss,0<s.q)->t<=tot (ss.map Pl.q) t
 | [],_,_=>Rat.le_refl
 | s::r,t,hp=>by
  simp only [List.map_cons,tot]
  have:=JI4 (ss:=r) (t:=t+s.q) fun s hs=>hp s (by simp [hs])
  have:=hp s (by simp)
  grind
theorem JL3:∀ {ss:List Pl} {A:Nat} {t:Rat},(∀s∈ss,Tw 72 s.q)->Tw A t->∀a∈cu ss t,Tw (A+72*ss.length) a
 | [],_,_,_,_,a,h=>by cases h
 | s::r,A,t,hp,ht,a,h=>by
  simp only [cu,q_n,List.length_cons] at h ⊢
  rcases h with rfl | h
  ·exact ht.mono (by omega)
  ·exact (JL3 (fun s hs=>hp s (by simp [hs])) (ht.add (hp s (by simp))) a h).mono (by omega)
theorem JQa:∀ {ss:List Pl} {A:Nat} {t:Rat},(∀s∈ss,Tw 72 s.q)->Tw A t->∀a∈en ss t,Tw (A+72*ss.length) a
 | [],_,_,_,_,a,h=>by cases h
 | s::r,A,t,hp,ht,a,h=>by
  simp only [en,q_n,List.length_cons] at h ⊢
  rcases h with rfl | h
  ·exact (ht.add (hp s (by simp))).mono (by omega)
  ·exact (JQa (fun s hs=>hp s (by simp [hs])) (ht.add (hp s (by simp))) a h).mono (by omega)
theorem JO0:∀ {ss:List Pl} {t:Rat},ss≠[]->(cu ss t).drop 1++[tot (ss.map Pl.q) t]=en ss t
 | [],_,h=>(h rfl).elim
 | [s],t,_=>rfl
 | s::s'::r,t,_=>by
  have:=JO0 (ss:=s'::r) (t:=t+s.q) (by simp)
  simp only [cu,en,List.drop_succ_cons,List.drop_zero,List.map_cons,tot,List.cons_append] at this ⊢
  rw [this]
noncomputable def onB (ss:List Pl) (t τ:Rat) (j:Nat):Bool:=decide ((cu ss t).getD j 0<=τ)&&decide (τ<(en ss t).getD j 0)
noncomputable def bgn (ss:List Pl) (t τ:Rat):List Rat:=(cu ss t).filter fun a=>!decide (τ<a)
theorem JHL:∀ {ss:List Pl} {t τ:Rat},(∀s∈ss,0<s.q)->(List.range ss.length).filter (onB ss t τ)=if t<=τ/\τ<tot (ss.map Pl.q) t then [(bgn ss t τ).length - 1] else []
 | [],t,τ,_=>by
  simp only [List.length_nil,List.range_zero,List.filter_nil,List.map_nil,tot]
  rw [if_neg (by grind)]
 | s::r,t,τ,hp=>by
  have hq:=hp s (by simp)
  have ih:=JHL (ss:=r) (t:=t+s.q) (τ:=τ) fun s hs=>hp s (by simp [hs])
  have hg:=JI4 (ss:=r) (t:=t+s.q) fun s hs=>hp s (by simp [hs])
  have hc:=JNg (ss:=r) (t:=t+s.q) fun s hs=>hp s (by simp [hs])
  rw [List.length_cons,List.range_succ_eq_map,List.filter_cons,List.filter_map]
  have e1:(onB (s::r) t τ) ∘ Nat.succ=onB r (t+s.q) τ:=by
   funext j
   simp only [Function.comp,onB,cu,en,List.getD_cons_succ]
  have e0:onB (s::r) t τ 0=(decide (t<=τ)&&decide (τ<t+s.q)):=rfl
  rw [e1,ih,e0]
  simp only [List.map_cons,tot]
  have eb:bgn (s::r) t τ=(if τ<t then [] else [t])++bgn r (t+s.q) τ:=by
   unfold bgn
   simp only [cu,List.filter_cons]
   by_cases z:τ<t
   ·simp [z]
   ·simp [z]
  rw [eb]
  have hn:r=[]->tot (r.map Pl.q) (t+s.q)=t+s.q:=fun e=>by rw [e];rfl
  generalize tot (r.map Pl.q) (t+s.q)=T at *
  by_cases h1:τ<t
  ·rw [if_neg (by simp;grind),if_neg (by grind),if_neg (by grind)];rfl
  ·by_cases h2:τ<t+s.q
   ·have en0:bgn r (t+s.q) τ=[]:=by
     unfold bgn
     rw [List.filter_eq_nil_iff]
     intro a ha
     have:=hc a ha
     simp
     grind
    rw [if_pos (by simp;grind),if_neg (by grind),if_pos (by grind),en0,if_neg h1];rfl
   ·rw [if_neg (by simp;grind),if_neg h1]
    by_cases h3:τ<T
    ·rw [if_pos (by grind),if_pos (by grind)]
     have:bgn r (t+s.q) τ≠[]:=by
      cases r with
      | nil=>have:=hn rfl;grind
      | cons s' r =>
       unfold bgn
       simp only [cu]
       rw [q_x (by simp;grind)]
       simp
     have:0<(bgn r (t+s.q) τ).length:=List.length_pos_iff.mpr this
     simp only [List.map_cons,List.map_nil,q_u,List.length_cons,List.length_nil]
     congr 1
     omega
    ·rw [if_neg (by grind),if_neg (by grind)];rfl
noncomputable def Pl.isW:Pl->Bool
 | .wait _=>true
 | _=>false
theorem JON:∀ {ss:List Pl} {h t:Rat},(∀s∈ss,s.one=true)->(mvs ss h t).map Mv.b=(((cu ss t).zip ss).filter fun z=>!z.2.isW).map Prod.fst
 | [],_,_,_=>rfl
 | s::r,h,t,ho=>by
  have ih:=JON (ss:=r) (h:=s.goal h) (t:=t+s.q) fun s hs=>ho s (by simp [hs])
  have o:=ho s (by simp)
  simp only [mvs,List.map_append,ih,cu,List.zip_cons_cons,List.filter_cons]
  cases s with
  | wait q=>rfl
  | step o g q k=>rfl
  | thn a b=>cases o
  | agn c a=>cases o
theorem JHH {r b:Rat}:∀ {ss:List Pl} {t:Rat},(∀s∈ss,s.one=true)->cu (ss.map (Pl.slow r)) (b+r*(t - b))=(cu ss t).map fun u=>b+r*(u - b)
 | [],_,_=>rfl
 | s::ss,t,ho=>by
  have ih:=JHH (r:=r) (b:=b) (ss:=ss) (t:=t+s.q) fun s hs=>ho s (by simp [hs])
  simp only [List.map_cons,cu,JHQ (ho s (by simp))]
  rw [<-ih,show b+r*(t - b)+s.q*r=b+r*(t+s.q - b) by grind]
noncomputable def Pl.wrd:Pl->Str
 | .step _ _ _ k=>k.str
 | _=>"wait"
noncomputable def W7:List Str:=["wait","even","in","out","both","hold","jump"]
theorem JMG (s:Pl):s.wrd∈W7:=by
 cases s with
 | step o g q k=>cases k<;>simp [Pl.wrd,Kd.str,W7]
 | _=>simp [Pl.wrd,W7]
theorem JJP {r:Rat} (s:Pl):(s.slow r).wrd=s.wrd:=by cases s<;>rfl
theorem JHW:∀z∈W7,(PyData.str z).canLay0=true:=by
 intro z hz
 simp only [W7,q_n,List.not_mem_nil,or_false] at hz
 rcases hz with rfl | rfl | rfl | rfl | rfl | rfl | rfl<;>decide +kernel
theorem strs_map:∀zs:List Str,strsOf (zs.map PyData.str)=some zs
 | []=>rfl
 | z::zs=>by simp only [List.map_cons,strsOf,strs_map zs];rfl
theorem JIA {zs:List Str} (h1:zs.length<=1000) (h:(dedS zs).length<=7):xD .sst [.list (zs.map PyData.str)]=.ok (.list ((JAk (dedS zs)).map PyData.str)):=by
 simp only [xD]
 unfold sstS
 rw [strs_map]
 simp only [if_pos (And.intro h1 h)]
theorem JFs {zs:List Str} (hp:zs.Nodup) (h:zs.length<=7):∀z∈JAk zs,z∈zs:=by
 by_cases h2:2<=zs.length
 ·exact (So.core hp h2 h).1
 ·unfold JAk
  rw [if_pos (by omega)]
  exact fun z hz=>hz
theorem JLm:∀ {l L:List Str},l.Nodup->(∀z∈l,z∈L)->l.length<=L.length
 | [],_,_,_=>Nat.zero_le _
 | z::l,L,hn,hs=>by
  obtain ⟨h1,h2⟩:=List.nodup_cons.mp hn
  have m:=hs z (by simp)
  have:=JLm (L:=L.erase z) h2 fun y hy=>(List.mem_erase_of_ne (fun e:y=z=>h1 (by rw [<-e];exact hy))).mpr (hs y (by simp [hy]))
  rw [List.length_erase_of_mem m] at this
  have:0<L.length:=List.length_pos_of_mem m
  simp only [List.length_cons]
  omega
theorem ded7 {ws:List Str} (h:∀z∈ws,z∈W7):(dedS ws).length<=7:=JLm (L:=W7) (So.ded_nd ws) fun z hz=>h z (So.ded_mem.mp hz)
theorem JIS:∀ {ws:List Str},(∀z∈ws,z∈W7)->PyData.canLayAll0 (ws.map PyData.str)=true
 | [],_=>rfl
 | z::r,h=>by simp only [List.map_cons,PyData.canLayAll0,JHW z (h z (by simp)),JIS (ws:=r) fun y hy=>h y (by simp [hy]),Bool.and_self]
noncomputable def cntS (ws:List Str) (z:Str):Nat:=(ws.map PyData.str).countP fun y=>PyData.eqv y (.str z)
noncomputable def knd (ws:List Str):List D:=(JAk (dedS ws)).map fun z=>PyData.tuple [.str z,.int (cntS ws z:Nat)]
theorem JOv {ws:List Str} (h:∀z∈ws,z∈W7) {z:Str} (hz:z∈W7):JDF (.list (ws.map PyData.str)) (.str z)=.ok (.int (cntS ws z:Nat)):=by
 have:JB5 (ws.map PyData.str) (.str z)=true:=by
  unfold JB5
  rw [JIS h,JHW z hz]
  rfl
 simp only [JDF,this,if_true]
 rfl
theorem JLr:∀ {xs:List D},(∀d∈xs,d.canLay0=true/\d.depth<=4/\PyData.eqv d d=true)->PyData.canLayAll0 xs=true/\PyData.depthAll xs<=4/\PyData.eqvAll xs xs=true
 | [],_=>⟨rfl,by simp [PyData.depthAll],by simp only [PyData.eqvAll]⟩
 | d::r,h=>by
  obtain ⟨h1,h2,h3⟩:=h d (by simp)
  obtain ⟨i1,i2,i3⟩:=JLr (xs:=r) fun a ha=>h a (by simp [ha])
  refine ⟨by simp only [PyData.canLayAll0,h1,i1,Bool.and_self],?_,by simp only [PyData.eqvAll,h3,i3,Bool.and_self]⟩
  simp only [PyData.depthAll]
  omega
theorem JQT {xs:List D} (h:∀d∈xs,d.canLay0=true/\d.depth<=4/\PyData.eqv d d=true):shaped (.list xs)=true/\PyData.eqvAll xs xs=true:=by
 obtain ⟨i1,i2,i3⟩:=JLr h
 refine ⟨?_,i3⟩
 unfold shaped
 rw [q_i]
 refine ⟨by simp only [PyData.canLay0,i1],decide_eq_true ?_⟩
 simp only [PyData.depth]
 omega
theorem JJl {xs:List D} (h:∀d∈xs,d.canLay0=true/\d.depth<=4/\PyData.eqv d d=true):cmpD .NotEq (.list xs) (.list xs)=.ok (.bool false):=by
 obtain ⟨h1,h2⟩:=JQT h
 simp only [cmpD,h1,Bool.and_self,if_true,PyData.eqv,h2,Bool.not_true]
theorem JPZ {xs:List D} (h:∀d∈xs,d.canLay0=true/\d.depth<=4/\PyData.eqv d d=true):cmpD .Eq (.list xs) (.list xs)=.ok (.bool true):=by
 obtain ⟨h1,h2⟩:=JQT h
 simp only [cmpD,h1,Bool.and_self,if_true,PyData.eqv,h2]
theorem JK3 {ws:List Str} (h:∀z∈ws,z∈W7):∀d∈knd ws,d.canLay0=true/\d.depth<=4/\PyData.eqv d d=true:=by
 intro d hd
 obtain ⟨z,hz,rfl⟩:=List.mem_map.mp hd
 have hz:=h z (So.ded_mem.mp (JFs (So.ded_nd ws) (ded7 h) z hz))
 refine ⟨?_,?_,?_⟩
 ·simp only [PyData.canLay0,PyData.canLayAll0,Bool.and_true]
  have:=JHW z hz
  simpa only [PyData.canLay0] using this
 ·simp only [PyData.depth,PyData.depthAll];decide
 ·simp only [PyData.eqv,PyData.eqvAll,decide_true,Bool.and_true,beq_self_eq_true]
end VI.VP
end
section
namespace VI.VP
open PySem Fr PySem.W
theorem JDt:∀ {qs:List Rat} {A:Nat} {s:Rat},(∀q∈qs,Tw 72 q)->Tw A s->Tw (A+72*qs.length) (tot qs s)
 | [],A,s,_,h=>h.mono (by omega)
 | q::r,A,s,hq,h=>by
  simp only [tot,List.length_cons]
  exact (JDt (fun a ha=>hq a (by simp [ha])) (h.add (hq q (by simp)))).mono (by omega)
section
variable {x:Bool} {sub:Nat->Nat->Bool} {m n:Nat}
noncomputable def JMZ:S:=.cons (.app 2 (.var 3)) (.cons (.asg 3 (.call 3 (.cons (.var 3) (.cons (.call 144 (.cons (.var 4) .nil)) .nil)))) .nil)
theorem JIE {s:Pl} (h:s.one=true):JAQ s.d=true:=by
 cases s with
 | wait q=>rfl
 | step o g q k=>rfl
 | thn a b=>cases h
 | agn c a=>cases h
theorem JHR {p:Pl} {t:Rat} (ok:p.Ok) (hd:p.dep<=5) (hl:p.steps.length<=900) (hq:∀s∈p.steps,Sz 20 s.q) (ht:∀a b,p.steps=a++b->Sz 200 (tot (a.map Pl.q) t)) (hm:12<=m):run x tabA gloA sub m 231 [p.d,F t]=.ok (.list ((cu p.steps t).map F)):=by
 obtain ⟨n,rfl⟩:=JAE hm
 rw [JAB (n:=n+11) (show tabA 231=some JJ1 from rfl),JAA rfl]
 have hn:run x tabA gloA sub (n+11) 153 [p.d]=.ok .none:=JCo (n:=n+10) (by rw [JGN p ok (by omega),decide_eq_true hd])
 have hs:=JD3 (x:=x) (sub:=sub) p (m:=n+11) ok (by omega) (by omega)
 obtain ⟨C,hC⟩:∃C:Cn,C=⟨run x tabA gloA sub (n+11),gloA,sub⟩:=⟨_,rfl⟩
 have fn:C.fn=run x tabA gloA sub (n+11):=by rw [hC]
 have fg:C.glo=gloA:=by rw [hC]
 rw [<-hC]
 have it:JAg (.list (p.steps.map Pl.d))=.ok (p.steps.map Pl.d):=rfl
 obtain ⟨δ',lp,pre,r,y4,er,sr,v4,eδ⟩:=JBZ (C:=C) (i:=4) (b:=JMZ)
  (Inv:=fun es δ=>∃(pre r:List Pl) (y4:Sl),es=r.map Pl.d/\p.steps=pre++r/\Vs y4/\δ=[.val p.d,.val (F t),.own (.list ((cu pre t).map F)),.val (F (tot (pre.map Pl.q) t)),y4])
  (fun d es δ ⟨pre,r,y4,er,sr,v4,e⟩=>by
    subst e
    cases r with
    | nil=>cases er
    | cons a r =>
     simp only [List.map_cons,List.cons.injEq] at er
     obtain ⟨rfl,rfl⟩:=er
     have am:a∈p.steps:=by rw [sr];simp
     have o1:=JBF p a am
     have lq:pre.length<900:=by
      rw [sr,q_u,List.length_cons] at hl
      omega
     have et:tot ((pre++[a]).map Pl.q) t=tot (pre.map Pl.q) t+a.q:=by rw [List.map_append,JFQ];rfl
     have ec:(cu (pre++[a]) t).map F=(cu pre t).map F++[F (tot (pre.map Pl.q) t)]:=by rw [JG7,List.map_append];rfl
     have z1:Z 200 (tot (pre.map Pl.q) t):=⟨ht _ _ sr⟩
     have z3:Z 20 a.q:=⟨hq a am⟩
     have hz:=JFi (x:=x) (sub:=sub) (m:=n+11) o1 (by omega)
     have wn:=JIE o1
     have ap:∀δ:Env,∀e:E,JBN 2 ((cu pre t).map F) e (F (tot (pre.map Pl.q) t)) δ=.nx (δ.set 2 (.own (.list ((cu pre t).map F++[F (tot (pre.map Pl.q) t)])))):=fun δ e=>JMv (by rw [q_g,JEF];omega) rfl
     refine ⟨[.val p.d,.val (F t),.own (.list ((cu (pre++[a]) t).map F)),.val (F (tot ((pre++[a]).map Pl.q) t)),.val a.d],.inl ?_,pre++[a],r,.val a.d,rfl,by rw [sr];simp,rfl,rfl⟩
     rw [et,ec]
     clear hq ht sr et ec
     generalize tot (pre.map Pl.q) t=u at *
     generalize (cu pre t).map F=ds at *
     generalize p.d=pd at *
     generalize a.d=ad at *
     dsimp?! [JMZ,fn,fg,hz,ap,JAQ,noF,wn,Bool.not_true,Bool.and_false,v4.own,JAX])
  (ds:=p.steps.map Pl.d) (δ:=[.val p.d,.val (F t),.own (.list []),.val (F t),.no])
  ⟨[],p.steps,.no,rfl,rfl,rfl,rfl⟩
 subst eδ
 cases r with
 | cons q r=>cases er
 | nil =>
  rw [List.append_nil] at sr
  rw [<-sr] at lp
  simp only [JMZ] at lp
  clear hq ht
  generalize tot (p.steps.map Pl.q) t=uu at *
  generalize (cu p.steps t).map F=ds at *
  generalize p.steps.map Pl.d=ps at *
  generalize p.d=pd at *
  dsimp?! [JJ1,JKF,fn,fg,hn,hs,it,lp,JBj,JCM,JCH,JBo,JAX,JDV,JDM,JCd,JCV,Nat.reduceAdd,Nat.reduceBEq,Bool.or_false,Bool.or_self,JAQ,noF,Bool.not_true,Bool.and_false,v4.own]
noncomputable def stA (ss:List Pl) (t τ:Rat):D:=if t<=τ/\τ<tot (ss.map Pl.q) t then .int ((bgn ss t τ).length - 1:Nat) else .none
theorem JMq (xs:List Rat):(((xs.map F).length:Nat):Int)=xs.length:=by rw [q_g]
theorem JJ7 {p:Pl} {t τ:Rat} {j:Nat} [zj:Z j τ] (ok:p.Ok) (sm:p.Sm) (hd:p.dep<=5) (hl:p.steps.length<=900) (ht:Tw 72 t) (hj:j<=1000) (hm:13<=m):run x tabA gloA sub m 232 [p.d,F t,F τ]=.ok (stA p.steps t τ):=by
 obtain ⟨n,rfl⟩:=JAE hm
 rw [JAB (n:=n+12) (show tabA 232=some JFY from rfl),JAA rfl]
 have ho:∀s∈p.steps,Tw 72 s.q:=fun s hs=>(JBa sm s hs).tw
 have hp:∀s∈p.steps,0<s.q:=fun s hs=>JOf (JBF p s hs) (JBl (P:=Pl.Ok) (fun _ _ h=>h) (fun _ _ h=>h.2) p ok s hs)
 have hc:=JHR (x:=x) (sub:=sub) (m:=n+12) (t:=t) ok hd hl (fun s hs=>(ho s hs).sz20 (by omega)) (fun a b e=>by
  have:Tw (72+72*(a.map Pl.q).length) (tot (a.map Pl.q) t):=JDt (fun q hq=>by
   obtain ⟨s,hs,rfl⟩:=List.mem_map.mp hq
   exact ho s (by rw [e];simp [hs])) ht
  have la:a.length<=900:=by
   rw [e,q_u] at hl
   omega
  rw [q_g] at this
  exact (this.sz20 (by omega)).mono (by omega)) (by omega)
 have hz:=JKe (x:=x) (sub:=sub) (m:=n+12) ok sm hd (by omega)
 have tz:Tw 72000 (tot (p.steps.map Pl.q) 0):=(JDt (A:=0) (fun q hq=>by
  obtain ⟨s,hs,rfl⟩:=List.mem_map.mp hq
  exact ho s hs) ⟨0,q_t 0,by rw [Rat.zero_divInt]⟩).mono (by rw [q_g];omega)
 have z1:Z 20 (tot (p.steps.map Pl.q) 0):=⟨tz.sz20 (by omega)⟩
 have z2:Z 20 t:=⟨ht.sz20 (by omega)⟩
 have eT:t+tot (p.steps.map Pl.q) 0=tot (p.steps.map Pl.q) t:=by
  have:=JD7 (p.steps.map Pl.q) 0 t
  rw [Rat.zero_add] at this
  rw [this,Rat.add_comm]
 have hcu:=JL3 (ss:=p.steps) ho ht
 obtain ⟨C,hC⟩:∃C:Cn,C=⟨run x tabA gloA sub (n+12),gloA,sub⟩:=⟨_,rfl⟩
 have fn:C.fn=run x tabA gloA sub (n+12):=by rw [hC]
 have fg:C.glo=gloA:=by rw [hC]
 rw [<-hC]
 have it:JAg (.list ((cu p.steps t).map F))=.ok ((cu p.steps t).map F):=rfl
 have cp:JCZ C 0 (.var 0) (.not (.call 6 (.cons (.var 3) (.cons (.var 0) .nil)))) [.val p.d,.val (F t),.val (F τ),.no] (.ok ((cu p.steps t).map F))=.ok (.list ((bgn p.steps t τ).map F)):=by
  rw [JBX (by rw [q_g,JEF];omega),JCm (p:=fun a=>!decide (τ<a)) (g:=F) (fun a ha=>?_)]
  ·rfl
  ·rw [JBr]
   have za:Z 20 a:=⟨(hcu a ha).sz20 (by omega)⟩
   generalize p.d=pd at *
   cases hb:decide (τ<a)<;>dsimp?! [fn,fg,hb,Bool.not_true,Bool.not_false]
 unfold stA
 have gt:=JI4 (t:=t) hp
 have on:=JHL (ss:=p.steps) (t:=t) (τ:=τ) hp
 have hb:t<=τ->τ<tot (p.steps.map Pl.q) t->(bgn p.steps t τ).length≠0:=fun h1 h2=>by
  cases e:p.steps with
  | nil=>rw [e] at h2;simp only [List.map_nil,tot] at h2;grind
  | cons s r =>
   unfold bgn
   simp only [cu]
   rw [q_x (by simp;grind)]
   simp
 have hb2:¬t<=τ->bgn p.steps t τ=[]:=fun h1=>by
  unfold bgn
  rw [List.filter_eq_nil_iff]
  intro a ha
  have:=JNg hp a ha
  simp
  grind
 have lb:=JMq (bgn p.steps t τ)
 by_cases h1:t<=τ
 ·by_cases h2:τ<tot (p.steps.map Pl.q) t
  ·rw [if_pos ⟨h1,h2⟩]
   have:=hb h1 h2
   have e1:decide (((bgn p.steps t τ).length:Int)=0)=false:=q_o (by omega)
   have e2:decide (τ<tot (p.steps.map Pl.q) t)=true:=decide_eq_true h2
   have e3:(((bgn p.steps t τ).length - 1:Nat):Int)=((bgn p.steps t τ).length:Int) - 1:=by omega
   rw [e3]
   clear hb hb2 on hcu tz h1 h2 this gt ho hp
   generalize (bgn p.steps t τ).length=L at *
   generalize (bgn p.steps t τ).map F=bs at *
   generalize (cu p.steps t).map F=cs at *
   generalize hT:tot (p.steps.map Pl.q) 0=T0 at *
   rw [<-eT] at e2
   generalize p.d=pd at *
   dsimp?! [JFY,JFd,fn,fg,hc,hz,it,cp,lb,e1,e2,Bool.not_true,JAQ]
  ·rw [if_neg (by grind)]
   by_cases h0:((bgn p.steps t τ).length:Int)=0
   ·have e1:decide (((bgn p.steps t τ).length:Int)=0)=true:=decide_eq_true h0
    clear hb hb2 on hcu tz h1 h2 gt ho hp h0
    generalize (bgn p.steps t τ).length=L at *
    generalize (bgn p.steps t τ).map F=bs at *
    generalize (cu p.steps t).map F=cs at *
    generalize p.d=pd at *
    dsimp?! [JFY,JFd,fn,fg,hc,it,cp,lb,e1,Bool.not_true,JAQ]
   ·have e1:decide (((bgn p.steps t τ).length:Int)=0)=false:=q_o h0
    have e2:decide (τ<tot (p.steps.map Pl.q) t)=false:=q_o h2
    clear hb hb2 on hcu tz h1 h2 gt ho hp h0
    generalize (bgn p.steps t τ).length=L at *
    generalize (bgn p.steps t τ).map F=bs at *
    generalize (cu p.steps t).map F=cs at *
    generalize hT:tot (p.steps.map Pl.q) 0=T0 at *
    rw [<-eT] at e2
    generalize p.d=pd at *
    dsimp?! [JFY,JFd,fn,fg,hc,hz,it,cp,lb,e1,e2,Bool.not_false,JAQ]
 ·rw [if_neg (fun z=>h1 z.1)]
  have e0:=hb2 h1
  have e1:decide (((bgn p.steps t τ).length:Int)=0)=true:=by rw [e0];rfl
  clear hb hb2 on hcu tz h1 gt ho hp e0
  generalize (bgn p.steps t τ).length=L at *
  generalize (bgn p.steps t τ).map F=bs at *
  generalize (cu p.steps t).map F=cs at *
  generalize p.d=pd at *
  dsimp?! [JFY,JFd,fn,fg,hc,it,cp,lb,e1,Bool.not_true,JAQ]
theorem q_kw {s:Pl} (h:s.one=true) (hm:1<=m):run x tabA gloA sub m 233 [s.d]=.ok (.str s.wrd):=by
 obtain ⟨n,rfl⟩:=JAE hm
 rw [JAB (n:=n) (show tabA 233=some JHv from rfl),JAA rfl]
 cases s with
 | wait q=>dsimp?! [JHv,JIa,Pl.d,Pl.wrd,t20,JAc]
 | step o g q k=>cases o<;>dsimp?! [JHv,JIa,Pl.d,Pl.wrd,gwF,gwT,t40,t43,JAy,JAz]
 | thn a b=>cases h
 | agn c a=>cases h
theorem JGQ (ss:List Pl):∀z∈ss.map Pl.wrd,z∈W7:=fun z hz=>by
 obtain ⟨s,_,rfl⟩:=List.mem_map.mp hz
 exact JMG s
theorem JM8 {zs:List Str} (hp:zs.Nodup) (h:zs.length<=7):(JAk zs).length=zs.length:=by
 by_cases h2:2<=zs.length
 ·have:=congrArg List.length (So.core hp h2 h).2
  simpa using this
 ·unfold JAk
  rw [if_pos (by omega)]
theorem JI8 {C:Cn} {δ:Env} {i:Nat} {ws:List Str} (h:∀z∈ws,z∈W7) (hl:look δ i=.ok (.list (ws.map PyData.str))):JCZ C 0 (.tup (.cons (.var 0) (.cons (.mcount (.var (i+1)) (.var 0)) .nil))) (.cbl true) δ (.ok ((JAk (dedS ws)).map PyData.str))=.ok (.list (knd ws)):=by
 have ls:(JAk (dedS ws)).length<=16777216:=by
  have:=JM8 (So.ded_nd ws) (ded7 h)
  have:=ded7 h
  omega
 rw [JBX (by rw [q_g];exact ls),JA4 (c:=PyData.str) (g:=fun z=>PyData.tuple [.str z,.int (cntS ws z:Nat)]) (fun z hz=>?_)]
 ·rfl
 ·rw [JBr]
  have hz:=h z (So.ded_mem.mp (JFs (So.ded_nd ws) (ded7 h) z hz))
  have hc:=JOv h hz
  have l1:look (.val (.str z)::δ) (i+1)=look δ i:=rfl
  generalize cntS ws z=N at *
  generalize ws.map PyData.str=wd at *
  dsimp?! [l1,hl,hc]
theorem JO8 {p:Pl} (ok:p.Ok) (hd:p.dep<=5) (hl:p.steps.length<=900) (hm:12<=m):run x tabA gloA sub m 234 [p.d]=.ok (.list (knd (p.steps.map Pl.wrd))):=by
 obtain ⟨n,rfl⟩:=JAE hm
 rw [JAB (n:=n+11) (show tabA 234=some JJs from rfl),JAA rfl]
 have hn:run x tabA gloA sub (n+11) 153 [p.d]=.ok .none:=JCo (n:=n+10) (by rw [JGN p ok (by omega),decide_eq_true hd])
 have hs:=JD3 (x:=x) (sub:=sub) p (m:=n+11) ok (by omega) (by omega)
 have wi:=JGQ p.steps
 have sx:=JIA (zs:=p.steps.map Pl.wrd) (by rw [q_g];omega) (ded7 wi)
 obtain ⟨C,hC⟩:∃C:Cn,C=⟨run x tabA gloA sub (n+11),gloA,sub⟩:=⟨_,rfl⟩
 have fn:C.fn=run x tabA gloA sub (n+11):=by rw [hC]
 have fg:C.glo=gloA:=by rw [hC]
 rw [<-hC]
 have it:JAg (.list (p.steps.map Pl.d))=.ok (p.steps.map Pl.d):=rfl
 have it2:JAg (.list ((JAk (dedS (p.steps.map Pl.wrd))).map PyData.str))=.ok ((JAk (dedS (p.steps.map Pl.wrd))).map PyData.str):=rfl
 have cp:JCZ C 0 (.call 233 (.cons (.var 0) .nil)) (.cbl true) [.val p.d,.no] (.ok (p.steps.map Pl.d))=.ok (.list ((p.steps.map Pl.wrd).map PyData.str)):=by
  rw [JBX (by rw [q_g];omega),JA4 (c:=Pl.d) (g:=fun s=>PyData.str s.wrd) (fun a ha=>?_),List.map_map]
  ·rfl
  ·rw [JBr]
   have h3:=q_kw (x:=x) (sub:=sub) (m:=n+11) (JBF p a ha) (by omega)
   generalize a.d=ad at *
   dsimp?! [fn,fg,h3]
 have cp2:=JI8 (C:=C) (δ:=[.val p.d,.own (.list ((p.steps.map Pl.wrd).map PyData.str))]) (i:=1) wi rfl
 generalize knd (p.steps.map Pl.wrd)=kd at *
 generalize (JAk (dedS (p.steps.map Pl.wrd))).map PyData.str=sd at *
 generalize (p.steps.map Pl.wrd).map PyData.str=wd at *
 generalize p.steps.map Pl.d=ds at *
 generalize p.d=pd at *
 dsimp?! [JJs,JJQ,fn,fg,hn,hs,it,it2,cp,cp2,sx,JAQ]
end
end VI.VP
end
section
namespace VI.VP
open PySem Fr PySem.W
noncomputable def JJF:S:=(.cons (.app 4 (.var 5)) (.cons (.asg 5 (.call 17 (.cons (.var 5) (.cons (.ife (.cmp .Eq (.idx (.var 6) (.cint 0)) (.cstr "wait")) (.idx (.var 6) (.cint 1)) (.idx (.var 6) (.cint 2))) .nil)))) .nil))
noncomputable def bE1:S:=(.asg 10 (.call 17 (.cons (.var 2) (.cons (.call 19 (.cons (.call 180 (.cons (.var 1) .nil)) (.cons (.call 14 (.cons (.bin .Sub (.call 12 (.cons (.var 0) (.cons (.bin .Add (.cint 30) (.var 9)) (.cons (.cint 9) .nil)))) (.cint 1)) (.cons (.cint 6) .nil))) .nil))) .nil))))
noncomputable def bE2:S:=(.ife (.cmp .Lt (.var 9) (.blt .len (.cons (.var 4) .nil))) (.cons (.asg 10 (.ife (.cmp .Eq (.bin .Mod (.var 9) (.cint 2)) (.cint 0)) (.idx (.var 4) (.call 12 (.cons (.var 0) (.cons (.bin .Add (.cint 40) (.var 9)) (.cons (.blt .len (.cons (.var 4) .nil)) .nil))))) (.var 10))) .nil) .nil)
noncomputable def bE3:S:=(.asg 11 (.cmpr 0 (.var 0) (.rng (.cons (.blt .len (.cons (.var 4) .nil)) .nil)) (.and (.not (.call 21 (.cons (.var 11) (.cons (.idx (.var 5) (.var 0)) .nil)))) (.call 21 (.cons (.var 11) (.cons (.idx (.var 9) (.var 0)) .nil))))))
noncomputable def bE4:S:=(.ife (.cmp .NotEq (.call 232 (.cons (.var 1) (.cons (.var 2) (.cons (.var 10) .nil)))) (.ife (.cmp .NotEq (.var 11) (.lst .nil)) (.idx (.var 11) (.cint 0)) .cnon)) (.cons (.ret (.cbl false)) .nil) .nil)
noncomputable def JKP:S:=.cons bE1 (.cons bE2 (.cons bE3 (.cons bE4 .nil)))
noncomputable def cE3:E:=(.and (.not (.call 21 (.cons (.var 11) (.cons (.idx (.var 5) (.var 0)) .nil)))) (.call 21 (.cons (.var 11) (.cons (.idx (.var 9) (.var 0)) .nil))))
theorem JIk {d:D}:(Sl.val d).isOwn=false:=rfl
theorem JMe:Sl.no.isOwn=false:=rfl
theorem JIg {d:D}:(Sl.own d).isOwn=true:=rfl
theorem Vs.frz {z:Sl} (h:Vs z) (e:E) (i:Nat) (r:Env):JAn e i (z::r)=z::JAn e (i+1) r:=by
 cases z with
 | own d=>cases h
 | no=>simp only [JAn,Sl.frz,ite_self]
 | val d=>simp only [JAn,Sl.frz,ite_self]
theorem up2 {a b:D}:JAj 2 (.tuple [a,b])=.ok [a,b]:=rfl
theorem up3 {a b c:D}:JAj 3 (.tuple [a,b,c])=.ok [a,b,c]:=rfl
theorem JDm {a b:E} {j:Nat}:(E.and a b).uses j=(a.uses j || b.uses j):=rfl
theorem JDi {a:E} {j:Nat}:(E.not a).uses j=a.uses j:=rfl
theorem JJC {a b c:E} {j:Nat}:(E.ife c a b).uses j=(c.uses j || a.uses j || b.uses j):=rfl
theorem JJE {a b:E} {o:CmpOp} {j:Nat}:(E.cmp o a b).uses j=(a.uses j || b.uses j):=rfl
theorem Pl.no54:∀p:Pl,JAQ p.d=true:=by
 intro p
 induction p with
 | wait q=>rfl
 | step o g q k=>rfl
 | thn a b ia ib=>simp only [Pl.d,JAQ,JBf,ia,ib,Bool.and_self]
 | agn c a ia=>simp only [Pl.d,JAQ,JBf,ia,Bool.and_self]
theorem ixF {cs:List Rat} {j:Nat} (h:j<cs.length):idxD (.list (cs.map F)) (.int (j:Nat))=.ok (F (cs.getD j 0)):=by
 have e:(cs.map F)[j]? = some (F (cs.getD j 0)):=by
  rw [List.getElem?_map,q_q h]
  simp [List.getD,q_q h]
 simp only [idxD,atI,ixN,optR,q_g]
 rw [if_pos (by omega),if_pos (by omega)]
 simp only [Option.bind_some,Int.toNat_natCast,e]
theorem getD_mem {cs:List Rat} {j:Nat} (h:j<cs.length):cs.getD j 0∈cs:=by
 simp [List.getD,q_q h]
theorem cut1 (cs:List Rat):cutD (cs.map F) (some 1) none=(cs.drop 1).map F:=by
 have e:sI (cs.map F).length 0 (some 1)=min 1 cs.length:=by simp [sI]
 have e2:sI (cs.map F).length (cs.map F).length none=cs.length:=by simp [sI]
 unfold cutD
 rw [e,e2]
 cases cs with
 | nil=>rfl
 | cons a r =>
  have:min 1 (a::r).length=1:=by simp only [List.length_cons];omega
  rw [this]
  simp only [List.map_cons,List.drop_succ_cons,List.drop_zero,List.length_cons]
  rw [show r.length+1 - 1=(r.map F).length by simp]
  exact List.take_length
theorem JNT (qs:List Rat):∀d∈qs.map F,d.canLay0=true/\d.depth<=4/\PyData.eqv d d=true:=by
 intro d hd
 obtain ⟨q,_,rfl⟩:=List.mem_map.mp hd
 exact ⟨F_can q,by rw [JNj];omega,by rw [JMN];simp⟩
theorem ow54 (e:E) (i:Nat) (y:Sl) (r:Env):JAK e i (y::r)=((e.uses i&&y.isOwn) || JAK e (i+1) r):=rfl
theorem rng54:rngD [.int 5]=.ok ((([0,1,2,3,4]:List Int)).map PyData.int):=rfl
theorem nn54:cmpD .NotEq .none .none=.ok (.bool false):=by
 have:shaped .none=true:=by decide +kernel
 simp only [cmpD,this,Bool.and_self,if_true,PyData.eqv,Bool.not_true]
theorem ln54 (i:Int):cmpD .NotEq (.list [.int i]) (.list [])=.ok (.bool true):=by
 have h1:shaped (.list [.int i])=true:=by
  unfold shaped
  simp [PyData.canLay0,PyData.canLayAll0,PyData.depth,PyData.depthAll]
 have h2:shaped (.list [])=true:=by decide +kernel
 simp only [cmpD,h1,h2,Bool.and_self,if_true,PyData.eqv,PyData.eqvAll,Bool.not_false]
theorem l0_54:cmpD .NotEq (.list []) (.list [])=.ok (.bool false):=JJl (xs:=[]) (fun d h=>by cases h)
section
variable {x:Bool} {sub:Nat->Nat->Bool} {m n:Nat}
theorem JJa (ns:List Int):run true tabA gloA sub (n+15) 235 [sc ns]=.ok (.bool true):=by
 rw [JAB (n:=n+14) (show tabA 235=some JKT from rfl),JAA rfl]
 obtain ⟨p,ok,sm,hd,hp⟩:=JFw (x:=true) (sub:=sub) ns 3 (m:=n+14) 100 (by omega) (by omega) (by omega) (by decide) (by omega)
 have hp:run true tabA gloA sub (n+14) 146 [sc ns,.int 100,.int 3]=.ok p.d:=hp
 obtain ⟨b,sb,hb⟩:=JL1 (x:=true) (sub:=sub) (m:=n+14) ns 0 (by omega) (by omega) (by omega)
 obtain ⟨r,sr,r0,hr⟩:=JIt (x:=true) (sub:=sub) (m:=n+14) ns 20 (by omega) (by omega) (by omega)
 have hpl:p.steps.length<=64:=Nat.le_trans (JDp p ok) (Nat.le_trans (Nat.pow_le_pow_right (by decide) hd) (by decide))
 have hd5:p.dep<=5:=by omega
 have one:∀s∈p.steps,s.one=true:=fun s hs=>JBF p s hs
 have ho:∀s∈p.steps,Tw 72 s.q:=fun s hs=>(JBa sm s hs).tw
 have hpo:∀s∈p.steps,0<s.q:=fun s hs=>JOf (one s hs) (JBl (P:=Pl.Ok) (fun _ _ h=>h) (fun _ _ h=>h.2) p ok s hs)
 have tb:=sb.tw
 have zb:Z 5 b:=sb.Z
 have zr:Z 5 r:=sr.Z
 have t0:Tw 0 (0:Rat):=⟨0,q_t 0,by rw [Rat.zero_divInt]⟩
 have totw:∀(a:List Pl),(∀s∈a,s∈p.steps)->a.length<=64->∀ {A:Nat} {t:Rat},Tw A t->Tw (A+4608) (tot (a.map Pl.q) t):=fun a ha la A t h=>(JDt (fun q hq=>by
  obtain ⟨s,hs,rfl⟩:=List.mem_map.mp hq
  exact ho s (ha s hs)) h).mono (by rw [q_g];omega)
 have k1:=JHR (x:=true) (sub:=sub) (m:=n+14) (t:=b) ok hd5 (by omega) (fun s hs=>(ho s hs).sz20 (by omega)) (fun a c e=>((totw a (fun s hs=>by rw [e];simp [hs]) (by rw [e,q_u] at hpl;omega) tb).sz20 (by omega)).mono (by omega)) (by omega)
 have k2:=JKe (x:=true) (sub:=sub) (m:=n+14) ok sm hd5 (by omega)
 have k3:=fun (τ:Rat) (h:Z 40 τ)=>JJ7 (x:=true) (sub:=sub) (m:=n+14) (t:=b) (τ:=τ) ok sm hd5 (by omega) tb (by omega) (by omega)
 have k4:=JJ4 (x:=true) (sub:=sub) (m:=n+14) (w:=0) (t:=b) ok sm hd5 (by omega) (t0.mono (by omega)) (tb.mono (by omega)) (by omega)
 have k5:=JO8 (x:=true) (sub:=sub) (m:=n+14) ok hd5 (by omega) (by omega)
 have k6:=JKN (x:=true) (sub:=sub) (m:=n+14) (r:=r) ok sm.zq hd5 (by omega) (by omega) (by omega)
 have okS:=JMF (r:=r) r0 p ok
 have dS:(p.slow r).dep<=5:=by rw [JJU];exact hd5
 have stS:=JGl (r:=r) p
 have k7:=JO8 (x:=true) (sub:=sub) (m:=n+14) okS dS (by rw [stS,q_g];omega) (by omega)
 have k8:=JHR (x:=true) (sub:=sub) (m:=n+14) (t:=b) okS dS (by rw [stS,q_g];omega) (fun s hs=>by
  rw [stS] at hs
  obtain ⟨a,ha,rfl⟩:=List.mem_map.mp hs
  rw [JHQ (one a ha)]
  have z1:Z 5 a.q:=(JBa sm a ha).Z
  exact (inferInstance:Z (5+5) (a.q*r)).h.mono (by omega)) (fun a c e=>by
  rw [stS] at e
  obtain ⟨a',c',e1,rfl,rfl⟩:=List.map_eq_append_iff.mp e
  have ha:∀s∈a',s∈p.steps:=fun s hs=>by rw [e1];simp [hs]
  have la:a'.length<=64:=by rw [e1,q_u] at hpl;omega
  rw [JMo fun s hs=>one s (ha s hs)]
  have e2:=JD7 ((a'.map Pl.q).map (· * r)) 0 b
  have e3:=JHj r (a'.map Pl.q) 0
  rw [Rat.zero_mul] at e3
  rw [Rat.zero_add,e3] at e2
  rw [e2]
  have z1:Z 20 (tot (a'.map Pl.q) 0):=⟨(totw a' ha la t0).sz20 (by omega)⟩
  exact (inferInstance:Z (20+5+5+1) (tot (a'.map Pl.q) 0*r+b)).h.mono (by omega)) (by omega)
 have eK:(p.slow r).steps.map Pl.wrd=p.steps.map Pl.wrd:=by
  rw [stS,List.map_map]
  exact List.map_congr_left fun s _=>JJP s
 rw [eK] at k7
 have eC:=JHH (r:=r) (b:=b) (ss:=p.steps) (t:=b) one
 rw [show b+r*(b - b)=b by grind,<-stS] at eC
 rw [eC] at k8
 have hs:=JNN (x:=true) (sub:=sub) p (m:=n+14) ok (by omega) (by omega)
 have pn:=Pl.no54 p
 obtain ⟨ss,hss⟩:∃ss,ss=p.steps:=⟨_,rfl⟩
 rw [<-hss] at k1 k2 k3 k4 k5 k7 k8 hs one ho hpo hpl totw
 obtain ⟨T0,hT0⟩:∃T,T=tot (ss.map Pl.q) 0:=⟨_,rfl⟩
 obtain ⟨T,hT⟩:∃T,T=tot (ss.map Pl.q) b:=⟨_,rfl⟩
 have eT:b+T0=T:=by
  rw [hT0,hT]
  have:=JD7 (ss.map Pl.q) 0 b
  rw [Rat.zero_add] at this
  rw [this,Rat.add_comm]
 have zT0:Z 20 T0:=⟨by rw [hT0];exact (totw ss (fun s h=>h) hpl t0).sz20 (by omega)⟩
 have zT:Z 20 T:=⟨by rw [hT];exact (totw ss (fun s h=>h) hpl tb).sz20 (by omega)⟩
 rw [<-hT0] at k2
 obtain ⟨cs,hcs⟩:∃cs,cs=cu ss b:=⟨_,rfl⟩
 have lcs:cs.length=ss.length:=by rw [hcs,JEF]
 have zcs:∀a∈cs,Sz 20 a:=fun a ha=>by rw [hcs] at ha;exact (JL3 ho tb a ha).sz20 (by omega)
 rw [<-hcs] at k1 k8
 obtain ⟨es,hes⟩:∃es,es=cs.drop 1++[T]:=⟨_,rfl⟩
 have ees:ss≠[]->es=en ss b:=fun h=>by rw [hes,hcs,hT];exact JO0 h
 have les:ss≠[]->es.length=ss.length:=fun h=>by rw [ees h,JK5]
 have zes:ss≠[]->∀a∈es,Sz 20 a:=fun h a ha=>by rw [ees h] at ha;exact (JQa ho tb a ha).sz20 (by omega)
 obtain ⟨C,hC⟩:∃C:Cn,C=⟨run true tabA gloA sub (n+14),gloA,sub⟩:=⟨_,rfl⟩
 have fn:C.fn=run true tabA gloA sub (n+14):=by rw [hC]
 have fg:C.glo=gloA:=by rw [hC]
 rw [<-hC]
 have it:JAg (.list (ss.map Pl.d))=.ok (ss.map Pl.d):=rfl
 obtain ⟨δ',lp,pre,rr,y6,er,esr,v6,eδ⟩:=JBZ (C:=C) (i:=6) (b:=JJF)
  (Inv:=fun es δ=>∃(pre rr:List Pl) (y6:Sl),es=rr.map Pl.d/\ss=pre++rr/\Vs y6/\δ=[.val (sc ns),.val p.d,.val (F b),.val (.list (ss.map Pl.d)),.own (.list ((cu pre b).map F)),.val (F (tot (pre.map Pl.q) b)),y6,.no,.no,.no,.no,.no,.no,.no,.no,.no])
  (fun d es δ ⟨pre,rr,y6,er,esr,v6,e⟩=>by
    subst e
    cases rr with
    | nil=>cases er
    | cons a rr =>
     simp only [List.map_cons,List.cons.injEq] at er
     obtain ⟨rfl,rfl⟩:=er
     have am:a∈ss:=by rw [esr];simp
     have o1:=one a am
     have lq:pre.length<900:=by
      rw [esr,q_u,List.length_cons] at hpl
      omega
     have et:tot ((pre++[a]).map Pl.q) b=tot (pre.map Pl.q) b+a.q:=by rw [List.map_append,JFQ];rfl
     have ec:(cu (pre++[a]) b).map F=(cu pre b).map F++[F (tot (pre.map Pl.q) b)]:=by rw [JG7,List.map_append];rfl
     have z1:Z 20 (tot (pre.map Pl.q) b):=⟨(totw pre (fun s hs=>by rw [esr];simp [hs]) (by rw [esr,q_u] at hpl;omega) tb).sz20 (by omega)⟩
     have z3:Z 20 a.q:=⟨(ho a am).sz20 (by omega)⟩
     have wn:=JIE o1
     have ap:∀δ:Env,∀e:E,JBN 4 ((cu pre b).map F) e (F (tot (pre.map Pl.q) b)) δ=.nx (δ.set 4 (.own (.list ((cu pre b).map F++[F (tot (pre.map Pl.q) b)])))):=fun δ e=>JMv (by rw [q_g,JEF];omega) rfl
     refine ⟨[.val (sc ns),.val p.d,.val (F b),.val (.list (ss.map Pl.d)),.own (.list ((cu (pre++[a]) b).map F)),.val (F (tot ((pre++[a]).map Pl.q) b)),.val a.d,.no,.no,.no,.no,.no,.no,.no,.no,.no],.inl ?_,pre++[a],rr,.val a.d,rfl,by rw [esr];simp,rfl,rfl⟩
     rw [et,ec]
     clear et ec
     generalize tot (pre.map Pl.q) b=u at *
     generalize (cu pre b).map F=ds at *
     generalize p.d=pd at *
     generalize ss.map Pl.d=sd at *
     cases a with
     | wait q =>
      simp only [Pl.q] at z3 ⊢
      simp only [Pl.d] at wn ⊢
      dsimp?! [JJF,fn,fg,ap,t20,t21,JAc,JAQ,noF,wn,Bool.not_true,Bool.and_false,v6.own,JAX]
     | step o g q k =>
      have nw:cmpD .Eq (.str (gw o)) (.str "wait")=.ok (.bool false):=by
       cases o
       ·exact JAz
       ·exact JAy
      simp only [Pl.q] at z3 ⊢
      simp only [Pl.d] at wn ⊢
      dsimp?! [JJF,fn,fg,ap,t40,t42,nw,JAQ,noF,wn,Bool.not_true,Bool.and_false,v6.own,JAX]
     | thn a b=>cases o1
     | agn c a=>cases o1)
  (ds:=ss.map Pl.d) (δ:=[.val (sc ns),.val p.d,.val (F b),.val (.list (ss.map Pl.d)),.own (.list []),.val (F b),.no,.no,.no,.no,.no,.no,.no,.no,.no,.no])
  ⟨[],ss,.no,rfl,rfl,rfl,rfl⟩
 subst eδ
 cases rr with
 | cons q r=>cases er
 | nil =>
 rw [List.append_nil] at esr
 rw [<-esr,<-hcs,<-hT] at lp
 have len1:(((cs.map F).length:Nat):Int)=ss.length:=by rw [q_g,lcs]
 obtain ⟨δ2,lp2,r2,y9,y10,y11,er2,_,v9,v10,eδ2⟩:=JBZ (C:=C) (i:=9) (b:=JKP)
  (Inv:=fun es' δ=>∃(r:List Int) (y9 y10 y11:Sl),es'=r.map PyData.int/\(∀k∈r,0<=k/\k<=4)/\Vs y9/\Vs y10/\δ=[.val (sc ns),.val p.d,.val (F b),.val (.list (ss.map Pl.d)),.val (.list (cs.map F)),.val (F T),y6,.val (.list (cs.map F)),.val (.list (es.map F)),y9,y10,y11,.no,.no,.no,.no])
  (fun d es' δ ⟨r2,y9,y10,y11,er2,hb2,v9,v10,e⟩=>by
    subst e
    cases r2 with
    | nil=>cases er2
    | cons κ r2 =>
     simp only [List.map_cons,List.cons.injEq] at er2
     obtain ⟨rfl,rfl⟩:=er2
     have hκ:=hb2 κ (by simp)
     obtain ⟨c,c0,c1,hc⟩:=JEV (x:=true) (sub:=sub) (m:=n+14) ns (30+κ) 9 (by omega) (by omega) (by omega) (by omega)
     have hmd:run true tabA gloA sub (n+14) 14 [.int (c - 1),.int 6]=.ok (F (Rat.divInt (c - 1) 6)):=JOo (by decide) (by decide) (by omega)
     have zc:Z 5 (Rat.divInt (c - 1) 6):=⟨Sz.of (by decide) (by omega) (by decide)⟩
     have st2:∃τ:Rat,Sz 40 τ/\exec C bE2 [.val (sc ns),.val p.d,.val (F b),.val (.list (ss.map Pl.d)),.val (.list (cs.map F)),.val (F T),y6,.val (.list (cs.map F)),.val (.list (es.map F)),.val (.int κ),.val (F (b+T0*Rat.divInt (c - 1) 6)),y11,.no,.no,.no,.no]=.nx [.val (sc ns),.val p.d,.val (F b),.val (.list (ss.map Pl.d)),.val (.list (cs.map F)),.val (F T),y6,.val (.list (cs.map F)),.val (.list (es.map F)),.val (.int κ),.val (F τ),y11,.no,.no,.no,.no]:=by
      have zz:Sz 40 (b+T0*Rat.divInt (c - 1) 6):=(inferInstance:Z (5+(20+5)+1) (b+T0*Rat.divInt (c - 1) 6)).h.mono (by omega)
      by_cases h1:κ<ss.length
      ·have e1:decide (κ<(ss.length:Int))=true:=decide_eq_true h1
       have md:binD .Mod (.int κ) (.int 2)=.ok (.int (κ.fmod 2)):=by
        simp only [binD]
        exact if_pos (by decide)
       by_cases h2:κ.fmod 2=0
       ·have e2:decide (κ.fmod 2=0)=true:=decide_eq_true h2
        obtain ⟨i,i0,i1,hi⟩:=JEV (x:=true) (sub:=sub) (m:=n+14) ns (40+κ) ss.length (by omega) (by omega) (by omega) (by omega)
        have hj:i.toNat<cs.length:=by omega
        have hx:=ixF hj
        rw [show ((i.toNat:Nat):Int)=i by omega] at hx
        refine ⟨cs.getD i.toNat 0,(zcs _ (getD_mem hj)).mono (by omega),?_⟩
        clear zz zc hmd
        generalize cs.getD i.toNat 0=τ at *
        generalize b+T0*Rat.divInt (c - 1) 6=τ0 at *
        generalize κ.fmod 2=k2 at *
        generalize es.map F=ed at *
        generalize cs.map F=cd at *
        generalize p.d=pd at *
        generalize ss.map Pl.d=sd at *
        dsimp?! [bE2,fn,fg,len1,e1,e2,md,hi,hx,JAQ,noF,Bool.not_true,Bool.and_false]
       ·have e2:decide (κ.fmod 2=0)=false:=q_o h2
        refine ⟨_,zz,?_⟩
        clear zz zc hmd
        generalize b+T0*Rat.divInt (c - 1) 6=τ0 at *
        generalize κ.fmod 2=k2 at *
        generalize es.map F=ed at *
        generalize cs.map F=cd at *
        generalize p.d=pd at *
        generalize ss.map Pl.d=sd at *
        dsimp?! [bE2,fn,fg,len1,e1,e2,md,JAQ,noF,Bool.not_true,Bool.and_false]
      ·have e1:decide (κ<(ss.length:Int))=false:=q_o h1
       refine ⟨_,zz,?_⟩
       clear zz zc hmd
       generalize b+T0*Rat.divInt (c - 1) 6=τ0 at *
       generalize es.map F=ed at *
       generalize cs.map F=cd at *
       generalize p.d=pd at *
       generalize ss.map Pl.d=sd at *
       dsimp?! [bE2,fn,fg,len1,e1]
     obtain ⟨τ,sτ,st2⟩:=st2
     have zτ:Z 40 τ:=⟨sτ⟩
     have on:=JHL (ss:=ss) (t:=b) (τ:=τ) hpo
     rw [<-hT] at on
     have ka:=k3 τ zτ
     unfold stA at ka
     rw [<-hT] at ka
     have rg:=JH9 ss.length (by omega)
     rw [List.map_map] at rg
     have cp:JCZ C 0 (.var 0) cE3 [.val (sc ns),.val p.d,.val (F b),.val (.list (ss.map Pl.d)),.val (.list (cs.map F)),.val (F T),y6,.val (.list (cs.map F)),.val (.list (es.map F)),.val (.int κ),.val (F τ),y11,.no,.no,.no,.no] (.ok ((List.range ss.length).map (PyData.int ∘ fun j:Nat=>(j:Int))))=.ok (.list (((List.range ss.length).filter (onB ss b τ)).map (PyData.int ∘ fun j:Nat=>(j:Int)))):=by
      rw [JBX (by rw [q_g,List.length_range];omega),JCm (p:=onB ss b τ) (g:=PyData.int ∘ fun j:Nat=>(j:Int)) (fun j hj=>?_)]
      ·rfl
      ·rw [JBr]
       have hj:=List.mem_range.mp hj
       have hne:ss≠[]:=fun z=>by rw [z] at hj;cases hj
       have i1:=ixF (cs:=cs) (j:=j) (by omega)
       have i2:=ixF (cs:=es) (j:=j) (by rw [les hne];exact hj)
       have z1:Z 20 (cs.getD j 0):=⟨zcs _ (getD_mem (by omega))⟩
       have z2:Z 20 (es.getD j 0):=⟨zes hne _ (getD_mem (by rw [les hne];exact hj))⟩
       have eB:onB ss b τ j=(!decide (τ<cs.getD j 0)&&decide (τ<es.getD j 0)):=by
        unfold onB
        rw [<-hcs,<-ees hne]
        have e9:decide (cs.getD j 0<=τ)=!decide (τ<cs.getD j 0):=by
         by_cases z:τ<cs.getD j 0
         ·rw [decide_eq_true z,q_o (by grind)];rfl
         ·rw [q_o z,decide_eq_true (by grind)];rfl
        rw [e9]
       rw [eB]
       simp only [Function.comp]
       clear eB on ka k3 st2 zcs zes les ees
       generalize cs.getD j 0=a1 at *
       generalize es.getD j 0=a2 at *
       generalize es.map F=ed at *
       generalize cs.map F=cd at *
       generalize p.d=pd at *
       generalize ss.map Pl.d=sd at *
       cases hb1:decide (τ<a1)<;>cases hb2:decide (τ<a2)<;>dsimp?! [cE3,fn,fg,i1,i2,hb1,hb2,Bool.not_true,Bool.not_false,Bool.and_true,Bool.and_false,Bool.true_and,Bool.and_self]
     rw [on] at cp
     refine ⟨[.val (sc ns),.val p.d,.val (F b),.val (.list (ss.map Pl.d)),.val (.list (cs.map F)),.val (F T),y6,.val (.list (cs.map F)),.val (.list (es.map F)),.val (.int κ),.val (F τ),.own (.list ((if b<=τ/\τ<T then [(bgn ss b τ).length - 1] else []).map (PyData.int ∘ fun j:Nat=>(j:Int)))),.no,.no,.no,.no],.inl ?_,r2,.val (.int κ),.val (F τ),_,rfl,fun k hk=>hb2 k (by simp [hk]),rfl,rfl,rfl⟩
     clear k3 on zcs zes les ees
     by_cases hcnd:b<=τ/\τ<T
     ·rw [if_pos hcnd] at ka cp ⊢
      simp only [List.map_cons,List.map_nil,Function.comp] at cp ⊢
      have ln:=ln54 (((bgn ss b τ).length - 1:Nat):Int)
      have i0:idxD (.list [.int (((bgn ss b τ).length - 1:Nat):Int)]) (.int 0)=.ok (.int (((bgn ss b τ).length - 1:Nat):Int)):=rfl
      clear hcnd
      simp only [bE2] at st2
      simp only [cE3] at cp
      generalize (((bgn ss b τ).length - 1:Nat):Int)=N at *
      generalize (List.range ss.length).map (PyData.int ∘ fun j:Nat=>(j:Int))=rd at *
      generalize Rat.divInt (c - 1) 6=qc at *
      generalize es.map F=ed at *
      generalize cs.map F=cd at *
      generalize p.d=pd at *
      generalize ss.map Pl.d=sd at *
      dsimp?! [JKP,bE1,bE2,bE3,bE4,fn,fg,hc,hmd,k2,st2,cp,ka,rg,len1,ln,i0,decide_true,Bool.not_true,Bool.and_false,JAQ,noF,v9.own,v10.own,v6.own,ow54,JIk,JMe,JIg,Bool.false_or,Bool.true_or,Bool.true_and,Bool.and_true,JDV,JFr,JCd,JDM,JCV,JF2,JIb,JFV,JDm,JDi,JLW,JIe,Nat.reduceAdd,Nat.reduceBEq,Bool.or_false,Bool.or_self,Nat.reduceEqDiff]
     ·rw [if_neg hcnd] at ka cp ⊢
      simp only [List.map_nil] at cp ⊢
      have ln:=l0_54
      have nn:=nn54
      clear hcnd
      simp only [bE2] at st2
      simp only [cE3] at cp
      generalize (List.range ss.length).map (PyData.int ∘ fun j:Nat=>(j:Int))=rd at *
      generalize Rat.divInt (c - 1) 6=qc at *
      generalize es.map F=ed at *
      generalize cs.map F=cd at *
      generalize p.d=pd at *
      generalize ss.map Pl.d=sd at *
      dsimp?! [JKP,bE1,bE2,bE3,bE4,fn,fg,hc,hmd,k2,st2,cp,ka,rg,len1,ln,nn,decide_true,Bool.not_true,Bool.and_false,JAQ,noF,v9.own,v10.own,v6.own,ow54,JIk,JMe,JIg,Bool.false_or,Bool.true_or,Bool.true_and,Bool.and_true,JDV,JFr,JCd,JDM,JCV,JF2,JIb,JFV,JDm,JDi,JLW,JIe,Nat.reduceAdd,Nat.reduceBEq,Bool.or_false,Bool.or_self,Nat.reduceEqDiff])
  (ds:=(([0,1,2,3,4]:List Int)).map PyData.int) (δ:=[.val (sc ns),.val p.d,.val (F b),.val (.list (ss.map Pl.d)),.val (.list (cs.map F)),.val (F T),y6,.val (.list (cs.map F)),.val (.list (es.map F)),.no,.no,.no,.no,.no,.no,.no])
  ⟨[0,1,2,3,4],.no,.no,.no,rfl,by decide,rfl,rfl,rfl⟩
 subst eδ2
 have cp4:∀δ,JCZ C 0 (.idx (.var 0) (.cint 2)) (.cbl true) δ (.ok ((mvs ss 0 b).map Mv.d))=.ok (.list (((mvs ss 0 b).map Mv.b).map F)):=by
  intro δ
  have ml:=JIU ss 0 b
  rw [JBX (by rw [q_g];omega),JA4 (c:=Mv.d) (g:=fun m=>F m.b) (fun a ha=>?_),List.map_map]
  · rfl
  · rw [JBr]
    have h2:idxD a.d (.int 2)=.ok (F a.b):=rfl
    generalize a.d=ad at *
    dsimp?! [h2]
 have cp5:∀δ,JCZ C 2 (.var 0) (.cmp .NotEq (.idx (.var 1) (.cint 0)) (.cstr "wait")) δ (.ok (List.zipWith (fun a b=>PyData.tuple [a,b]) (cs.map F) (ss.map Pl.d)))=.ok (.list (((mvs ss 0 b).map Mv.b).map F)):=by
  intro δ
  have ez:List.zipWith (fun a b=>PyData.tuple [a,b]) (cs.map F) (ss.map Pl.d)=(cs.zip ss).map fun z=>PyData.tuple [F z.1,z.2.d]:=by
    rw [List.zipWith_map,List.zip,List.map_zipWith]
  have eb:=JON (ss:=ss) (h:=0) (t:=b) one
  rw [<-hcs] at eb
  rw [eb,ez,JBX (by rw [q_g,List.length_zip];omega),JCm (p:=fun z:Rat×Pl=>!z.2.isW) (g:=fun z=>F z.1) (fun z hz=>?_),List.map_map]
  · rfl
  · rw [JJj rfl]
    have o1:=one z.2 (List.of_mem_zip hz).2
    obtain ⟨z1,z2⟩:=z
    simp only at o1
    cases z2 with
    | wait q =>
     have nw:=s_ne JAc
     simp only [Pl.d,Pl.isW]
     dsimp?! [t20,nw,Bool.not_true]
    | step o g q k =>
     have nw:cmpD .NotEq (.str (gw o)) (.str "wait")=.ok (.bool true):=by
      cases o
      ·exact s_ne JAz
      ·exact s_ne JAy
     simp only [Pl.d,Pl.isW]
     dsimp?! [t40,nw,Bool.not_false]
    | thn a b=>cases o1
    | agn c a=>cases o1
 have cp6:∀δ,JCZ C 0 (.ife (.cmp .NotEq (.idx (.var 0) (.cint 0)) (.cstr "wait")) (.idx (.var 0) (.cint 3)) (.cstr "wait")) (.cbl true) δ (.ok (ss.map Pl.d))=.ok (.list ((ss.map Pl.wrd).map PyData.str)):=by
  intro δ
  rw [JBX (by rw [q_g];omega),JA4 (c:=Pl.d) (g:=fun s=>PyData.str s.wrd) (fun a ha=>?_),List.map_map]
  · rfl
  · rw [JBr]
    have o1:=one a ha
    cases a with
    | wait q =>
     have nw:=s_ne JAc
     simp only [Pl.d,Pl.wrd]
     dsimp?! [t20,nw,Bool.not_true]
    | step o g q k =>
     have nw:cmpD .NotEq (.str (gw o)) (.str "wait")=.ok (.bool true):=by
      cases o
      ·exact s_ne JAz
      ·exact s_ne JAy
     simp only [Pl.d,Pl.wrd]
     dsimp?! [t40,t43,nw,Bool.not_false]
    | thn a b=>cases o1
    | agn c a=>cases o1
 have wi:=JGQ ss
 have sx:=JIA (zs:=ss.map Pl.wrd) (by rw [q_g];omega) (ded7 wi)
 have it2:JAg (.list ((JAk (dedS (ss.map Pl.wrd))).map PyData.str))=.ok ((JAk (dedS (ss.map Pl.wrd))).map PyData.str):=rfl
 have cp7:∀z0 z1 z2 z3 z4 z5 z6 z7 z8 z9 z10 z11 z12 z14 z15:Sl,JCZ C 0 (.tup (.cons (.var 0) (.cons (.mcount (.var 14) (.var 0)) .nil))) (.cbl true) [z0,z1,z2,z3,z4,z5,z6,z7,z8,z9,z10,z11,z12,.own (.list ((ss.map Pl.wrd).map PyData.str)),z14,z15] (.ok ((JAk (dedS (ss.map Pl.wrd))).map PyData.str))=.ok (.list (knd (ss.map Pl.wrd))):=fun _ _ _ _ _ _ _ _ _ _ _ _ _ _ _=>JI8 (C:=C) (i:=13) wi rfl
 have g1:=JJl (JK3 wi)
 have g2:=JPZ (JK3 wi)
 have g3:=JPZ (JNT (cs.map fun u=>b+r*(u - b)))
 have g4:=JJl (JNT ((mvs ss 0 b).map Mv.b))
 have g5:=JJl (JNT cs)
 have cp8:∀z0 z1 z3 z4 z5 z6 z7 z8 z9 z10 z11 z12 z13 z15:Sl,JCZ C 0 (.call 17 (.cons (.var 3) (.cons (.call 19 (.cons (.var 15) (.cons (.call 18 (.cons (.var 0) (.cons (.var 3) .nil))) .nil))) .nil))) (.cbl true) [z0,z1,.val (F b),z3,z4,z5,z6,z7,z8,z9,z10,z11,z12,z13,.val (F r),z15] (.ok (cs.map F))=.ok (.list ((cs.map fun u=>b+r*(u - b)).map F)):=by
  intro z0 z1 z3 z4 z5 z6 z7 z8 z9 z10 z11 z12 z13 z15
  rw [JBX (by rw [q_g];omega),JA4 (c:=F) (g:=fun u=>F (b+r*(u - b))) (fun a ha=>?_),List.map_map]
  · rfl
  · rw [JBr]
    have za:Z 20 a:=⟨zcs a ha⟩
    dsimp?! [fn,fg]
 have zpx:xD .zip [.list (cs.map F),.list (ss.map Pl.d)]=.ok (.list (List.zipWith (fun a b=>PyData.tuple [a,b]) (cs.map F) (ss.map Pl.d))):=rfl
 have itz:JAg (.list (List.zipWith (fun a b=>PyData.tuple [a,b]) (cs.map F) (ss.map Pl.d)))=.ok (List.zipWith (fun a b=>PyData.tuple [a,b]) (cs.map F) (ss.map Pl.d)):=rfl
 have itc:JAg (.list (cs.map F))=.ok (cs.map F):=rfl
 have i1:idxD (tr 0 (mvs ss 0 b)) (.int 1)=.ok (.tuple ((mvs ss 0 b).map Mv.d)):=rfl
 have it3:JAg (.tuple ((mvs ss 0 b).map Mv.d))=.ok ((mvs ss 0 b).map Mv.d):=rfl
 have ka:=k3 T ⟨zT.h.mono (by omega)⟩
 unfold stA at ka
 rw [<-hT,if_neg (fun z=>by grind)] at ka
 have cu1:=cut1 cs
 have ad:binD .Add (.list ((cs.drop 1).map F)) (.list [F T])=.ok (.list (es.map F)):=by
  rw [addL (by simp only [q_g,List.length_drop,List.length_cons,List.length_nil];omega),hes,List.map_append]
  rfl
 have rg:=rng54
 simp only [JJF] at lp
 simp only [JKP,bE1,bE2,bE3,bE4] at lp2
 clear k3 zcs zes les ees hcs hes hT hT0 totw eC eK stS
 generalize (([0,1,2,3,4]:List Int)).map PyData.int=js at *
 generalize knd (ss.map Pl.wrd)=kd at *
 generalize (JAk (dedS (ss.map Pl.wrd))).map PyData.str=sd2 at *
 generalize (ss.map Pl.wrd).map PyData.str=wd at *
 generalize List.zipWith (fun a b=>PyData.tuple [a,b]) (cs.map F) (ss.map Pl.d)=zd at *
 generalize ((mvs ss 0 b).map Mv.b).map F=bd at *
 generalize (mvs ss 0 b).map Mv.d=md at *
 generalize tr 0 (mvs ss 0 b)=trd at *
 generalize (cs.map fun u=>b+r*(u - b)).map F=sl at *
 generalize (cs.drop 1).map F=c1 at *
 generalize es.map F=ed at *
 generalize cs.map F=cd at *
 generalize ss.map Pl.d=sd at *
 generalize (p.slow r).d=pS at *
 generalize p.d=pd at *
 subst eT
 dsimp?! [JKT,JIB,List.length_cons,List.length_nil,up2,up3,JBR,fn,fg,hp,hb,hr,hs,k1,k2,k4,k5,k6,k7,k8,ka,it,it2,it3,itz,itc,i1,lp,lp2,cp4,cp5,cp6,cp7,cp8,cu1,ad,rg,zpx,sx,g1,g2,g3,g4,g5,F0',decide_true,Bool.not_true,JAQ,noF,pn,Bool.and_false,isNone,v6.own,v9.own,v10.own,v6.frz,v9.frz,v10.frz,JBj,JCM,JCH,JBo,JAX,ow54,JIk,JMe,JIg,Bool.false_or,Bool.true_or,Bool.true_and,Bool.and_true,JDV,JDM,JCd,JFr,JIb,JCV,JQH,JPa,JF2,JQZ,JIe,JFV,us_bl,JQp,JPP,JJC,JJE,JDm,JDi,Nat.reduceEqDiff,Nat.reduceAdd,Nat.reduceBEq,Bool.or_false,Bool.or_self,Bool.or_true,Bool.not_false]
end
end VI.VP
end
section
namespace VH
open PySem PySem.W
noncomputable def rP:Pos:=⟨0,0,0,0⟩
noncomputable def dName:Stmt->Str
 | .FunctionDef n _ _ _ _ _ _ _ _ _=>n
 | _=>"?"
noncomputable def dArgs:Stmt->Arguments
 | .FunctionDef _ a _ _ _ _ _ _ _ _=>a
 | _=>⟨[],[],none,[],[],none,[]⟩
noncomputable def JNw:Stmt->List Stmt
 | .FunctionDef _ _ b _ _ _ _ _ _ _=>b
 | _=>[]
noncomputable def JLu:Stmt->Scope
 | .FunctionDef _ _ _ _ _ _ s _ _ _=>s
 | _=>default
noncomputable def tO (xs:List Value):Obj:=⟨.type "tuple",none,.seq xs.toArray 0,#[]⟩
noncomputable def fO (xs:List Value):Obj:=⟨.none,none,.fields xs.toArray,#[]⟩
noncomputable def sqs:Nat->List Str->List Value
 | _,[]=>[]
 | t,x::r=>.str x t::sqs (t+1) r
noncomputable def f1 (st:Stmt):Obj:=⟨.none,none,.func { name:=dName st,qualname:=dName st,params:=dArgs st,body:=.stmts (JNw st),scope:=JLu st,globals:=0,closure:=[],defaults:=.none,kwdefaults:=.none },#[]⟩
noncomputable def f2 (st:Stmt) (pm:Value) (cd:Addr):Obj:=⟨.type "function",none,.func { name:=dName st,qualname:=dName st,params:=dArgs st,body:=.stmts (JNw st),scope:=JLu st,globals:=mainNs,closure:=[],defaults:=.none,kwdefaults:=.none,pyModule:=pm,code:=.ref cd },#[]⟩
noncomputable def cO (x:Str) (t l k loc a:Nat) (b:Bool) (u t2:Nat):Obj :=
 ⟨.type "code",none,.fields #[.str x t,.str x (t+1),.str "/claim/cut.py" (t+2),.int l 0,.int k 0,.int 0 0,.int 0 0,.int loc 0,.ref a,.bool b,.int 181 0,.ref (a+1),.none,.ref (a+2),.ref (a+3),.ref (a+4),.int t2 0,.int u 0,.str "/claim/cut.py" (t2+1)],#[]⟩
noncomputable def ent (P:Params) (x:Str) (t:Nat) (v:Value):DictEntry:=⟨PyData.keyHash P x,.str x t,v⟩
noncomputable def dO (es:List DictEntry) (n:Nat):Obj:=⟨.type "dict",none,.dict es.toArray n,#[]⟩
def alt:Bool->List Obj->List Obj
 | _,[]=>[]
 | true,o::r=>o::alt false r
 | false,_::r=>alt true r
def bt:Nat->List Obj->BT
 | 0,_=>.nil
 | _,[]=>.nil
 | n+1,o::r=>.node o (bt n (alt true r)) (bt n (alt false r))
def put:Nat->Obj->List Obj->List Obj
 | _,_,[]=>[]
 | 0,o,_::r=>o::r
 | n+1,o,x::r=>x::put n o r
noncomputable def sT (l:List Obj) (n k:Nat) (os:OsState):SharedT:=⟨bt 12 l,n,{},#[],{},k,os⟩
noncomputable def sH (l:List Obj) (k:Nat) (os:OsState):Shared:=⟨⟨l.toArray,{}⟩,#[],{},k,os⟩
noncomputable def envOf (p:Program):PySem.Env:={ scope:=p.main.scope,locals:=mainNs,globals:=mainNs,cells:=[],code:=.ref 13,frame:=some 14 }
noncomputable def cdOf (p:Program):Code:=.body (behindTheImports p) (envOf p)
end VH
end
section
set_option Elab.async false
set_option maxHeartbeats 0
namespace V54
open PySem PySem.W VH L2 VI VI.VP
noncomputable abbrev prog:Program:=PySem.Challenge.pw_glideways_k54_whole_cues
noncomputable def top (i:Nat):Stmt:=prog.main.body.getD i (.Pass ⟨0,0,0,0⟩)
noncomputable def mainE (P:Params):List DictEntry:=[ent P "__name__" 165 (.str "law_glideways_k54_whole_cues" 480),ent P "__doc__" 166 (.none),ent P "__package__" 167 (.none),ent P "__loader__" 168 (.builtin "__main__.__loader__#opaque"),ent P "__spec__" 169 (.none),ent P "__annotations__" 170 (.ref 6),ent P "__builtins__" 171 (.ref 4),ent P "__file__" 173 (.str "/claim/cut.py" 172),ent P "__cached__" 174 (.none),ent P "GlideError" 206 (.ref 24),ent P "NoFrac" 222 (.ref 37),ent P "NoPlan" 238 (.ref 49),ent P "ZERO" 243 (.ref 52),ent P "is_whole" 250 (.ref 59),ent P "common_divisor" 261 (.ref 66),ent P "is_frac" 270 (.ref 73),ent P "is_size" 277 (.ref 80),ent P "frac" 286 (.ref 87),ent P "plus" 294 (.ref 94),ent P "times" 302 (.ref 101),ent P "all_plus" 311 (.ref 108),ent P "is_less" 319 (.ref 115),ent P "KINDS" 328 (.ref 116),ent P "is_kind" 335 (.ref 123),ent P "NO_SPEEDS" 342 (.ref 126),ent P "plain_motion" 353 (.ref 133),ent P "DEEPEST" 357 (.int 5 356),ent P "MOST_AGAIN" 359 (.int 4 358),ent P "is_plan" 366 (.ref 140),ent P "is_plan_within" 375 (.ref 147),ent P "is_many" 382 (.ref 154),ent P "need_plan" 389 (.ref 161),ent P "steps_of" 396 (.ref 168),ent P "step_size" 403 (.ref 175),ent P "size_of" 409 (.ref 180),ent P "step_goal" 417 (.ref 187),ent P "played" 431 (.ref 194),ent P "slower" 439 (.ref 201),ent P "with_sizes_times" 447 (.ref 208),ent P "cues" 460 (.ref 215),ent P "step_at" 466 (.ref 220),ent P "kind_word" 473 (.ref 227),ent P "kinds_used" 479 (.ref 232),ent P "_law_cell" 489 (.ref 239),ent P "_law_pick" 499 (.ref 246),ent P "_law_divisor" 507 (.ref 253),ent P "_law_made" 516 (.ref 260),ent P "_law_frac" 525 (.ref 267),ent P "_law_size" 534 (.ref 274),ent P "_law_plus" 542 (.ref 281),ent P "_law_minus" 550 (.ref 288),ent P "_law_times" 558 (.ref 295),ent P "_law_over" 566 (.ref 302),ent P "_law_less" 574 (.ref 309),ent P "_law_kind" 582 (.ref 316),ent P "_law_plan" 595 (.ref 323),ent P "_law_steps" 604 (.ref 330),ent P "law" 610 (.ref 335)]
noncomputable def mainN:Value:=.str "law_glideways_k54_whole_cues" 480
noncomputable def JGc (P:Params) (m k:Nat) (v:Value):Obj:=dO (ent P "__name__" 165 v::((mainE P).take m).drop 1) k
noncomputable def twelve:List Value:=[.int 2 0,.int 0 0,.ref 20,.int 4 0,.int 0 0,.ref 33,.int 6 0,.int 0 0,.ref 45,.int 10 0,.int 0 0,.ref 58,.int 12 0,.int 0 0,.ref 65,.int 20 0,.int 0 0,.ref 72,.int 28 0,.int 0 0,.ref 79,.int 30 0,.int 0 0,.ref 86,.int 37 0,.int 0 0,.ref 93,.int 39 0,.int 0 0,.ref 100,.int 41 0,.int 0 0,.ref 107,.int 46 0,.int 0 0,.ref 114,.int 50 0,.int 0 0,.ref 122,.int 54 0,.int 0 0,.ref 132,.int 59 0,.int 0 0,.ref 139,.int 61 0,.int 0 0,.ref 146,.int 74 0,.int 0 0,.ref 153,.int 76 0,.int 0 0,.ref 160,.int 79 0,.int 0 0,.ref 167,.int 85 0,.int 0 0,.ref 174,.int 87 0,.int 0 0,.ref 179,.int 89 0,.int 0 0,.ref 186,.int 95 0,.int 0 0,.ref 193,.int 107 0,.int 0 0,.ref 200,.int 110 0,.int 0 0,.ref 207,.int 119 0,.int 0 0,.ref 214,.int 127 0,.int 0 0,.ref 219,.int 132 0,.int 0 0,.ref 226,.int 134 0,.int 0 0,.ref 231,.int 139 0,.int 0 0,.ref 238,.int 145 0,.int 0 0,.ref 245,.int 148 0,.int 0 0,.ref 252,.int 152 0,.int 0 0,.ref 259,.int 155 0,.int 0 0,.ref 266,.int 158 0,.int 0 0,.ref 273,.int 161 0,.int 0 0,.ref 280,.int 163 0,.int 0 0,.ref 287,.int 165 0,.int 0 0,.ref 294,.int 167 0,.int 0 0,.ref 301,.int 169 0,.int 0 0,.ref 308,.int 171 0,.int 0 0,.ref 315,.int 173 0,.int 0 0,.ref 322,.int 185 0,.int 0 0,.ref 329,.int 194 0,.int 0 0,.ref 334]
noncomputable def ob (P:Params):List Obj:=[
 boot_o_0 P,
 boot_o_1 P,
 boot_o_2 P,
 JGc P 58 58 mainN,
 boot_o_4 P,
 boot_o_5 P,
 boot_o_6 P,
 boot_o_7 P,
 boot_o_8 P,
 boot_o_9 P,
 boot_o_10 P,
 tO [],
 fO twelve,
 ⟨.type "code",none,.fields #[.str "<module>" 182,.str "<module>" 183,.str "/claim/cut.py" 184,.int 1 0,.int 0 0,.int 0 0,.int 0 0,.int 0 0,.ref 11,.bool false,.int 181 0,.ref 12,.none,.none,.none,.none,.int 185 0,.int 1 0,.str "/claim/cut.py" 186],#[]⟩,
 ⟨.type "frame",none,.plain,#[some (.ref 13),some (.ref 3),some (.ref 3),none,some (.str "__main__" 164),none,some (.ref 0)]⟩,
 tO [.type "ValueError"],
 ⟨.type "builtin_function_or_method",none,.fields #[.builtin "type.__prepare__",.type "type"],#[]⟩,
 dO [ent P "__module__" 196 (.str "glideways.errors" 187),ent P "__qualname__" 198 (.str "GlideError" 197),ent P "__firstlineno__" 200 (.int 2 199),ent P "__static_attributes__" 201 (.ref 22)] 4,
 tO [],
 fO [],
 ⟨.type "code",none,.fields #[.str "GlideError" 191,.str "GlideError" 192,.str "/claim/cut.py" 193,.int 2 0,.int 0 0,.int 0 0,.int 0 0,.int 0 0,.ref 18,.bool false,.int 181 0,.ref 19,.none,.none,.none,.none,.int 194 0,.int 2 0,.str "/claim/cut.py" 195],#[]⟩,
 ⟨.type "frame",none,.plain,#[some (.ref 20),some (.ref 3),some (.ref 17),none,some (.str "glideways.errors" 187),none,some (.ref 0)]⟩,
 tO [],
 dO [ent P "__module__" 196 (.str "glideways.errors" 187),ent P "__firstlineno__" 200 (.int 2 199),ent P "__static_attributes__" 201 (.ref 22),ent P "__weakref__" 203 (.ref 25),ent P "__doc__" 204 (.none)] 3,
 ⟨.type "type",none,.cls { name:="GlideError",bases:=[.type "ValueError"],mro:=[.ref 24,.type "ValueError",.type "Exception",.type "BaseException",.type "object"],ns:=23,qualname:="GlideError",hasDict:=true,slotNames:=[],subclasses:=[.ref 37,.ref 49],abstract:=false,hasDel:=false },#[some (.ref 15),none,some (.str "GlideError" 189),some (.str "GlideError" 197),some (.builtin "ValueError.__new__"),some (.bool true)]⟩,
 ⟨.type "getset_descriptor",none,.fields #[.str "__weakref__" 202,.ref 24,.builtin "ExceptionGroup.__weakref__",.none],#[]⟩,
 ⟨.type "super",none,.fields #[.ref 24,.ref 24,.ref 24],#[]⟩,
 ⟨.type "builtin_function_or_method",none,.fields #[.builtin "object.__init_subclass__",.ref 24],#[]⟩,
 tO [.ref 24],
 ⟨.type "builtin_function_or_method",none,.fields #[.builtin "type.__prepare__",.type "type"],#[]⟩,
 dO [ent P "__module__" 214 (.str "glideways.errors" 187),ent P "__qualname__" 216 (.str "NoFrac" 215),ent P "__firstlineno__" 218 (.int 4 217),ent P "__static_attributes__" 219 (.ref 35)] 4,
 tO [],
 fO [],
 ⟨.type "code",none,.fields #[.str "NoFrac" 209,.str "NoFrac" 210,.str "/claim/cut.py" 211,.int 4 0,.int 0 0,.int 0 0,.int 0 0,.int 0 0,.ref 31,.bool false,.int 181 0,.ref 32,.none,.none,.none,.none,.int 212 0,.int 4 0,.str "/claim/cut.py" 213],#[]⟩,
 ⟨.type "frame",none,.plain,#[some (.ref 33),some (.ref 3),some (.ref 30),none,some (.str "glideways.errors" 187),none,some (.ref 0)]⟩,
 tO [],
 dO [ent P "__module__" 214 (.str "glideways.errors" 187),ent P "__firstlineno__" 218 (.int 4 217),ent P "__static_attributes__" 219 (.ref 35),ent P "__doc__" 220 (.none)] 2,
 ⟨.type "type",none,.cls { name:="NoFrac",bases:=[.ref 24],mro:=[.ref 37,.ref 24,.type "ValueError",.type "Exception",.type "BaseException",.type "object"],ns:=36,qualname:="NoFrac",hasDict:=true,slotNames:=[],subclasses:=[],abstract:=false,hasDel:=false },#[some (.ref 28),none,some (.str "NoFrac" 207),some (.str "NoFrac" 215),some (.builtin "ValueError.__new__"),some (.bool true)]⟩,
 ⟨.type "super",none,.fields #[.ref 37,.ref 37,.ref 37],#[]⟩,
 ⟨.type "builtin_function_or_method",none,.fields #[.builtin "object.__init_subclass__",.ref 37],#[]⟩,
 tO [.ref 24],
 ⟨.type "builtin_function_or_method",none,.fields #[.builtin "type.__prepare__",.type "type"],#[]⟩,
 dO [ent P "__module__" 230 (.str "glideways.errors" 187),ent P "__qualname__" 232 (.str "NoPlan" 231),ent P "__firstlineno__" 234 (.int 6 233),ent P "__static_attributes__" 235 (.ref 47)] 4,
 tO [],
 fO [],
 ⟨.type "code",none,.fields #[.str "NoPlan" 225,.str "NoPlan" 226,.str "/claim/cut.py" 227,.int 6 0,.int 0 0,.int 0 0,.int 0 0,.int 0 0,.ref 43,.bool false,.int 181 0,.ref 44,.none,.none,.none,.none,.int 228 0,.int 6 0,.str "/claim/cut.py" 229],#[]⟩,
 ⟨.type "frame",none,.plain,#[some (.ref 45),some (.ref 3),some (.ref 42),none,some (.str "glideways.errors" 187),none,some (.ref 0)]⟩,
 tO [],
 dO [ent P "__module__" 230 (.str "glideways.errors" 187),ent P "__firstlineno__" 234 (.int 6 233),ent P "__static_attributes__" 235 (.ref 47),ent P "__doc__" 236 (.none)] 2,
 ⟨.type "type",none,.cls { name:="NoPlan",bases:=[.ref 24],mro:=[.ref 49,.ref 24,.type "ValueError",.type "Exception",.type "BaseException",.type "object"],ns:=48,qualname:="NoPlan",hasDict:=true,slotNames:=[],subclasses:=[],abstract:=false,hasDel:=false },#[some (.ref 40),none,some (.str "NoPlan" 223),some (.str "NoPlan" 231),some (.builtin "ValueError.__new__"),some (.bool true)]⟩,
 ⟨.type "super",none,.fields #[.ref 49,.ref 49,.ref 49],#[]⟩,
 ⟨.type "builtin_function_or_method",none,.fields #[.builtin "object.__init_subclass__",.ref 49],#[]⟩,
 tO [.int 0 241,.int 1 242],
 tO [],
 fO [],
 tO (sqs 247 ["thing"]),
 tO [],
 f1 (top 6),
 cO "is_whole" 244 10 1 3 53 true 10 248,
 f2 (top 6) (.str "glideways.fracs" 239) 58,
 tO [],
 fO [],
 tO (sqs 254 ["one","other","found","rest","left"]),
 tO [],
 f1 (top 7),
 cO "common_divisor" 251 12 2 3 60 true 12 259,
 f2 (top 7) (.str "glideways.fracs" 239) 65,
 tO [],
 fO [],
 tO (sqs 265 ["thing","up","down"]),
 tO [],
 f1 (top 8),
 cO "is_frac" 262 20 1 3 67 true 20 268,
 f2 (top 8) (.str "glideways.fracs" 239) 72,
 tO [],
 fO [],
 tO (sqs 274 ["thing"]),
 tO [],
 f1 (top 9),
 cO "is_size" 271 28 1 3 74 true 28 275,
 f2 (top 9) (.str "glideways.fracs" 239) 79,
 tO [],
 fO [],
 tO (sqs 281 ["up","down","divisor"]),
 tO [],
 f1 (top 10),
 cO "frac" 278 30 2 3 81 true 30 284,
 f2 (top 10) (.str "glideways.fracs" 239) 86,
 tO [],
 fO [],
 tO (sqs 290 ["one","other"]),
 tO [],
 f1 (top 11),
 cO "plus" 287 37 2 3 88 true 37 292,
 f2 (top 11) (.str "glideways.fracs" 239) 93,
 tO [],
 fO [],
 tO (sqs 298 ["one","other"]),
 tO [],
 f1 (top 12),
 cO "times" 295 39 2 3 95 true 39 300,
 f2 (top 12) (.str "glideways.fracs" 239) 100,
 tO [],
 fO [],
 tO (sqs 306 ["some","together","one"]),
 tO [],
 f1 (top 13),
 cO "all_plus" 303 41 1 3 102 true 41 309,
 f2 (top 13) (.str "glideways.fracs" 239) 107,
 tO [],
 fO [],
 tO (sqs 315 ["one","other"]),
 tO [],
 f1 (top 14),
 cO "is_less" 312 46 2 3 109 true 46 317,
 f2 (top 14) (.str "glideways.fracs" 239) 114,
 tO (sqs 322 ["even","in","out","both","hold","jump"]),
 tO [],
 fO [],
 tO (sqs 332 ["thing"]),
 tO [],
 f1 (top 17),
 cO "is_kind" 329 50 1 3 117 true 50 333,
 f2 (top 17) (.str "glideways.kinds" 320) 122,
 tO [.int 0 338,.int 1 339],
 tO [.int 0 340,.int 1 341],
 tO [.ref 124,.ref 125],
 tO [],
 fO [],
 tO (sqs 346 ["start","goal","begin","long","kind"]),
 tO [],
 f1 (top 20),
 cO "plain_motion" 343 54 5 3 127 true 54 351,
 f2 (top 20) (.str "glideways.motions" 336) 132,
 tO [],
 fO [],
 tO (sqs 363 ["thing"]),
 tO [],
 f1 (top 24),
 cO "is_plan" 360 59 1 3 134 true 59 364,
 f2 (top 24) (.str "glideways.plans" 354) 139,
 tO [],
 fO [],
 tO (sqs 370 ["thing","deep","word"]),
 tO [],
 f1 (top 25),
 cO "is_plan_within" 367 61 2 3 141 true 61 373,
 f2 (top 25) (.str "glideways.plans" 354) 146,
 tO [],
 fO [],
 tO (sqs 379 ["thing"]),
 tO [],
 f1 (top 26),
 cO "is_many" 376 74 1 3 148 true 74 380,
 f2 (top 26) (.str "glideways.plans" 354) 153,
 tO [],
 fO [],
 tO (sqs 386 ["plan"]),
 tO [],
 f1 (top 27),
 cO "need_plan" 383 76 1 3 155 true 76 387,
 f2 (top 27) (.str "glideways.plans" 354) 160,
 tO [],
 fO [],
 tO (sqs 393 ["plan"]),
 tO [],
 f1 (top 28),
 cO "steps_of" 390 79 1 3 162 true 79 394,
 f2 (top 28) (.str "glideways.plans" 354) 167,
 tO [],
 fO [],
 tO (sqs 400 ["step"]),
 tO [],
 f1 (top 29),
 cO "step_size" 397 85 1 3 169 true 85 401,
 f2 (top 29) (.str "glideways.plans" 354) 174,
 tO [],
 fO [],
 f1 (top 30),
 ⟨.type "code",none,.fields #[.str "size_of" 404,.str "size_of" 405,.str "/claim/cut.py" 406,.int 87 0,.int 1 0,.int 0 0,.int 0 0,.int 3 0,.ref 176,.bool true,.int 181 0,.ref 177,.none,.none,.none,.ref 178,.int 407 0,.int 87 0,.str "/claim/cut.py" 408],#[]⟩,
 f2 (top 30) (.str "glideways.plans" 354) 179,
 tO [],
 fO [],
 tO (sqs 413 ["step","here"]),
 tO [],
 f1 (top 31),
 cO "step_goal" 410 89 2 3 181 true 89 415,
 f2 (top 31) (.str "glideways.plans" 354) 186,
 tO [],
 fO [],
 tO (sqs 421 ["plan","worth","begin","motions","here","now","step","goal"]),
 tO [],
 f1 (top 32),
 cO "played" 418 95 3 3 188 true 95 429,
 f2 (top 32) (.str "glideways.plans" 354) 193,
 tO [],
 fO [],
 tO (sqs 435 ["plan","by"]),
 tO [],
 f1 (top 33),
 cO "slower" 432 107 2 3 195 true 107 437,
 f2 (top 33) (.str "glideways.plans" 354) 200,
 tO [],
 fO [],
 tO (sqs 443 ["plan","by"]),
 tO [],
 f1 (top 34),
 cO "with_sizes_times" 440 110 2 3 202 true 110 445,
 f2 (top 34) (.str "glideways.plans" 354) 207,
 tO [],
 fO [],
 tO (sqs 453 ["plan","begin","found","now","step"]),
 tO [],
 f1 (top 36),
 cO "cues" 450 119 2 3 209 true 119 458,
 f2 (top 36) (.str "glideways.cues" 448) 214,
 tO [],
 fO [],
 f1 (top 37),
 ⟨.type "code",none,.fields #[.str "step_at" 461,.str "step_at" 462,.str "/claim/cut.py" 463,.int 127 0,.int 3 0,.int 0 0,.int 0 0,.int 3 0,.ref 216,.bool true,.int 181 0,.ref 217,.none,.none,.none,.ref 218,.int 464 0,.int 127 0,.str "/claim/cut.py" 465],#[]⟩,
 f2 (top 37) (.str "glideways.cues" 448) 219,
 tO [],
 fO [],
 tO (sqs 470 ["step"]),
 tO [],
 f1 (top 38),
 cO "kind_word" 467 132 1 3 221 true 132 471,
 f2 (top 38) (.str "glideways.cues" 448) 226,
 tO [],
 fO [],
 f1 (top 39),
 ⟨.type "code",none,.fields #[.str "kinds_used" 474,.str "kinds_used" 475,.str "/claim/cut.py" 476,.int 134 0,.int 1 0,.int 0 0,.int 0 0,.int 3 0,.ref 228,.bool true,.int 181 0,.ref 229,.none,.none,.none,.ref 230,.int 477 0,.int 134 0,.str "/claim/cut.py" 478],#[]⟩,
 f2 (top 39) (.str "glideways.cues" 448) 231,
 tO [],
 fO [],
 tO (sqs 485 ["_law_script","_law_k"]),
 tO [],
 f1 (top 41),
 cO "_law_cell" 482 139 2 3 233 true 139 487,
 f2 (top 41) (.str "law_glideways_k54_whole_cues" 480) 238,
 tO [],
 fO [],
 tO (sqs 493 ["_law_script","_law_k","_law_many","_law_drawn"]),
 tO [],
 f1 (top 42),
 cO "_law_pick" 490 145 3 3 240 true 145 497,
 f2 (top 42) (.str "law_glideways_k54_whole_cues" 480) 245,
 tO [],
 fO [],
 tO (sqs 503 ["_law_one","_law_other"]),
 tO [],
 f1 (top 43),
 cO "_law_divisor" 500 148 2 3 247 true 148 505,
 f2 (top 43) (.str "law_glideways_k54_whole_cues" 480) 252,
 tO [],
 fO [],
 tO (sqs 511 ["_law_up","_law_down","_law_size_here"]),
 tO [],
 f1 (top 44),
 cO "_law_made" 508 152 2 3 254 true 152 514,
 f2 (top 44) (.str "law_glideways_k54_whole_cues" 480) 259,
 tO [],
 fO [],
 tO (sqs 520 ["_law_script","_law_at","_law_down"]),
 tO [],
 f1 (top 45),
 cO "_law_frac" 517 155 2 3 261 true 155 523,
 f2 (top 45) (.str "law_glideways_k54_whole_cues" 480) 266,
 tO [],
 fO [],
 tO (sqs 529 ["_law_script","_law_at","_law_down"]),
 tO [],
 f1 (top 46),
 cO "_law_size" 526 158 2 3 268 true 158 532,
 f2 (top 46) (.str "law_glideways_k54_whole_cues" 480) 273,
 tO [],
 fO [],
 tO (sqs 538 ["_law_one","_law_other"]),
 tO [],
 f1 (top 47),
 cO "_law_plus" 535 161 2 3 275 true 161 540,
 f2 (top 47) (.str "law_glideways_k54_whole_cues" 480) 280,
 tO [],
 fO [],
 tO (sqs 546 ["_law_one","_law_other"]),
 tO [],
 f1 (top 48),
 cO "_law_minus" 543 163 2 3 282 true 163 548,
 f2 (top 48) (.str "law_glideways_k54_whole_cues" 480) 287,
 tO [],
 fO [],
 tO (sqs 554 ["_law_one","_law_other"]),
 tO [],
 f1 (top 49),
 cO "_law_times" 551 165 2 3 289 true 165 556,
 f2 (top 49) (.str "law_glideways_k54_whole_cues" 480) 294,
 tO [],
 fO [],
 tO (sqs 562 ["_law_one","_law_other"]),
 tO [],
 f1 (top 50),
 cO "_law_over" 559 167 2 3 296 true 167 564,
 f2 (top 50) (.str "law_glideways_k54_whole_cues" 480) 301,
 tO [],
 fO [],
 tO (sqs 570 ["_law_one","_law_other"]),
 tO [],
 f1 (top 51),
 cO "_law_less" 567 169 2 3 303 true 169 572,
 f2 (top 51) (.str "law_glideways_k54_whole_cues" 480) 308,
 tO [],
 fO [],
 tO (sqs 578 ["_law_script","_law_at"]),
 tO [],
 f1 (top 52),
 cO "_law_kind" 575 171 2 3 310 true 171 580,
 f2 (top 52) (.str "law_glideways_k54_whole_cues" 480) 315,
 tO [],
 fO [],
 tO (sqs 586 ["_law_script","_law_at","_law_deep","_law_way","_law_step","_law_word","_law_one"]),
 tO [],
 f1 (top 53),
 cO "_law_plan" 583 173 3 3 317 true 173 593,
 f2 (top 53) (.str "law_glideways_k54_whole_cues" 480) 322,
 tO [],
 fO [],
 tO (sqs 599 ["_law_plan_here","_law_made_here","_law_again"]),
 tO [],
 f1 (top 54),
 cO "_law_steps" 596 185 1 3 324 true 185 602,
 f2 (top 54) (.str "law_glideways_k54_whole_cues" 480) 329,
 tO [],
 fO [],
 f1 (top 55),
 ⟨.type "code",none,.fields #[.str "law" 605,.str "law" 606,.str "/claim/cut.py" 607,.int 194 0,.int 1 0,.int 0 0,.int 0 0,.int 3 0,.ref 331,.bool true,.int 181 0,.ref 332,.none,.none,.none,.ref 333,.int 608 0,.int 194 0,.str "/claim/cut.py" 609],#[]⟩,
 f2 (top 55) (.str "law_glideways_k54_whole_cues" 480) 334]
noncomputable def l0 (P:Params):List Obj:=put 12 (fO (twelve.take 0)) (put 3 (JGc P 9 9 (.str "__main__" 164)) ((ob P).take 15))
noncomputable def l1 (P:Params):List Obj:=put 24 (⟨.type "type",none,.cls { name:="GlideError",bases:=[.type "ValueError"],mro:=[.ref 24,.type "ValueError",.type "Exception",.type "BaseException",.type "object"],ns:=23,qualname:="GlideError",hasDict:=true,slotNames:=[],subclasses:=[.ref 37],abstract:=false,hasDel:=false },#[some (.ref 15),none,some (.str "GlideError" 189),some (.str "GlideError" 197),some (.builtin "ValueError.__new__"),some (.bool true)]⟩) (put 12 (fO (twelve.take 6)) (put 3 (JGc P 11 11 (.str "glideways.errors" 187)) ((ob P).take 40)))
theorem p0:∀(w:World) (os:OsState),segRunT treeTable prog w 11 (some (.ref 6)) 1 409 (sT (l0 w.params) 15 187 os) (piecesOf ((prog.main.body.drop 0).take 3) (envOf prog) (cdOf prog) ⟨0,0,0,0⟩ [topFrame rP])=some (.next,sT (l1 w.params) 40 223 os,cdOf prog,⟨4,0,5,8⟩):=fun w os=>by kernel_rfl
noncomputable def l2 (P:Params):List Obj:=put 12 (fO (twelve.take 27)) (put 3 (JGc P 19 19 (.str "glideways.fracs" 239)) ((ob P).take 95))
theorem p1:∀(w:World) (os:OsState),segRunT treeTable prog w 11 (some (.ref 6)) 1 418 (sT (l1 w.params) 40 223 os) (piecesOf ((prog.main.body.drop 3).take 9) (envOf prog) (cdOf prog) ⟨4,0,5,8⟩ [topFrame rP])=some (.next,sT (l2 w.params) 95 295 os,cdOf prog,⟨37,0,38,73⟩):=fun w os=>by kernel_rfl
noncomputable def l3 (P:Params):List Obj:=put 12 (fO (twelve.take 60)) (put 3 (JGc P 34 34 (.str "glideways.plans" 354)) ((ob P).take 176))
theorem p2:∀(w:World) (os:OsState),segRunT treeTable prog w 11 (some (.ref 6)) 1 409 (sT (l2 w.params) 95 295 os) (piecesOf ((prog.main.body.drop 12).take 18) (envOf prog) (cdOf prog) ⟨37,0,38,73⟩ [topFrame rP])=some (.next,sT (l3 w.params) 176 404 os,cdOf prog,⟨85,0,86,52⟩):=fun w os=>by kernel_rfl
noncomputable def l4 (P:Params):List Obj:=put 12 (fO (twelve.take 99)) (put 3 (JGc P 47 47 (.str "law_glideways_k54_whole_cues" 480)) ((ob P).take 261))
theorem p3:∀(w:World) (os:OsState),segRunT treeTable prog w 11 (some (.ref 6)) 1 408 (sT (l3 w.params) 176 404 os) (piecesOf ((prog.main.body.drop 30).take 15) (envOf prog) (cdOf prog) ⟨85,0,86,52⟩ [topFrame rP])=some (.next,sT (l4 w.params) 261 517 os,cdOf prog,⟨152,0,154,67⟩):=fun w os=>by kernel_rfl
noncomputable def l5 (P:Params):List Obj:=ob P
theorem p4:∀(w:World) (os:OsState),segRunT treeTable prog w 11 (some (.ref 6)) 1 335 (sT (l4 w.params) 261 517 os) (piecesOf ((prog.main.body.drop 45).take 11) (envOf prog) (cdOf prog) ⟨152,0,154,67⟩ [topFrame rP])=some (.next,sT (l5 w.params) 336 611 os,cdOf prog,⟨194,0,221,151⟩):=fun w os=>by kernel_rfl
theorem pre (w:World) (os:OsState):topGo treeTable prog w 11 (some (.ref 6)) 12 ⟨boot_heap w.params,Array.mk [],boot_drawn,boot_toks,os⟩ (topStub prog)=some (sH (l0 w.params) 187 os,⟨denote treeTable (cdOf prog),cdOf prog,⟨0,0,0,0⟩,[topFrame rP]⟩):=by kernel_rfl
theorem blk (w:World) (os:OsState):segRun treeTable prog w 11 (some (.ref 6)) 1 1 (sH (l0 w.params) 187 os) (blockOf (behindTheImports prog) (envOf prog) (cdOf prog) ⟨0,0,0,0⟩ [topFrame rP])=some (.next,(sT (l0 w.params) 15 187 os).abs,cdOf prog,⟨0,0,0,0⟩):=by kernel_rfl
theorem fin (w:World) (os:OsState):topRun treeTable prog w 11 (some (.ref 6)) 2 (sT (l5 w.params) 336 611 os).abs ⟨doneF .next,cdOf prog,⟨194,0,221,151⟩,[topFrame rP]⟩=some (sH (l5 w.params) 611 os):=by kernel_rfl
theorem body:behindTheImports prog=(((prog.main.body.drop 0).take 3)++(((prog.main.body.drop 3).take 9)++(((prog.main.body.drop 12).take 18)++(((prog.main.body.drop 30).take 15)++(((prog.main.body.drop 45).take 11)++[]))))):=by kernel_rfl
theorem rn (w:World) (os:OsState):topRun treeTable prog w 11 (some (.ref 6)) (12+(1+(409+(418+(409+(408+(335+2))))))) ⟨boot_heap w.params,Array.mk [],boot_drawn,boot_toks,os⟩ (topStub prog)=some (sH (l5 w.params) 611 os) :=
 go_top (pre w os) (piece_block (blk w os) (body▸(piece_app (segRun_of (p0 w os)) (piece_app (segRun_of (p1 w os)) (piece_app (segRun_of (p2 w os)) (piece_app (segRun_of (p3 w os)) (piece_app (segRun_of (p4 w os)) (piece_nil (fin w os)))))))))
noncomputable def ktok:Nat:=611
noncomputable def view:Program:={ prog with main:={ prog.main with body:=[top 55] } }
noncomputable def loose:List Str:=(["GlideError","NoFrac","NoPlan","ZERO","is_whole","common_divisor","is_frac","is_size","frac","plus","times","all_plus","is_less","KINDS","is_kind","NO_SPEEDS","plain_motion","DEEPEST","MOST_AGAIN","is_plan","is_plan_within","is_many","need_plan","steps_of","step_size","size_of","step_goal","played","slower","with_sizes_times","cues","step_at","kind_word","kinds_used","_law_cell","_law_pick","_law_divisor","_law_made","_law_frac","_law_size","_law_plus","_law_minus","_law_times","_law_over","_law_less","_law_kind","_law_plan","_law_steps"]:List String).map Str.ofString
noncomputable def K (P:Params):Frag:=(List.range 336).zip (ob P)
noncomputable def hk:Hook:=kHook K (List.range 336) (fun _=>by kernel_rfl)
theorem left:LeftO prog view loose (fun s=>xlAt view [] s&&recOk (RowW.records PySem.Challenge.rw_glideways_k54_whole_cues.row.toRowW) s) hk.obs hk.val 4674 true :=
 LeftO.of_pieces (H₀:=boot_heap) (H₁:=fun P=>⟨(l5 P).toArray,{}⟩) (gs₀:=Array.mk []) (gs₁:=#[]) (d₀:=boot_drawn) (d₁:={}) (k₀:=boot_toks) (k₁:=ktok) (m₀:=11) (ann:=some (.ref 6))
  (boot_open (by kernel_rfl) (by decide) (fun s=>by kernel_rfl)) (fun w=>by kernel_rfl) (fun w os=>rn w os) (by decide +kernel) (fun w=>by kernel_rfl)
noncomputable def G:List (Str×GK):=[(("is_whole":Str),GK.fn 23),(("common_divisor":Str),GK.fn 0),(("is_frac":Str),GK.fn 24),(("is_size":Str),GK.fn 68),(("frac":Str),GK.fn 1),(("plus":Str),GK.fn 3),(("times":Str),GK.fn 5),(("all_plus":Str),GK.fn 179),(("is_less":Str),GK.fn 6),(("is_kind":Str),GK.fn 29),(("plain_motion":Str),GK.fn 80),(("is_plan":Str),GK.fn 140),(("is_plan_within":Str),GK.fn 141),(("is_many":Str),GK.fn 142),(("need_plan":Str),GK.fn 153),(("steps_of":Str),GK.fn 143),(("step_size":Str),GK.fn 144),(("size_of":Str),GK.fn 180),(("step_goal":Str),GK.fn 154),(("played":Str),GK.fn 155),(("slower":Str),GK.fn 160),(("with_sizes_times":Str),GK.fn 161),(("cues":Str),GK.fn 231),(("step_at":Str),GK.fn 232),(("kind_word":Str),GK.fn 233),(("kinds_used":Str),GK.fn 234),(("_law_cell":Str),GK.fn 11),(("_law_pick":Str),GK.fn 12),(("_law_divisor":Str),GK.fn 13),(("_law_made":Str),GK.fn 14),(("_law_frac":Str),GK.fn 15),(("_law_size":Str),GK.fn 16),(("_law_plus":Str),GK.fn 17),(("_law_minus":Str),GK.fn 18),(("_law_times":Str),GK.fn 19),(("_law_less":Str),GK.fn 21),(("_law_kind":Str),GK.fn 35),(("_law_plan":Str),GK.fn 146),(("_law_steps":Str),GK.fn 147),(("law":Str),GK.fn 235),(("ZERO":Str),GK.con 39),(("KINDS":Str),GK.con 41),(("NO_SPEEDS":Str),GK.con 77),(("DEEPEST":Str),GK.con 151),(("MOST_AGAIN":Str),GK.con 152),(("NoFrac":Str),GK.cls 1),(("NoPlan":Str),GK.cls 3),(("len":Str),GK.blt Blt.len),(("abs":Str),GK.blt Blt.abs),(("range":Str),GK.rng),(("isinstance":Str),GK.isi),(("sorted":Str),GK.nam),(("zip":Str),GK.nam),(("set":Str),GK.nam),(("int":Str),GK.ty Ty.int),(("bool":Str),GK.ty Ty.bool),(("tuple":Str),GK.ty Ty.tuple),((".sst":Str),GK.opt),((".zip":Str),GK.opt)]
noncomputable abbrev tab:Nat->Option Fd:=tabA
noncomputable abbrev glo:Nat->R D:=gloA
theorem JIL:∀i c,glo i≠.exc c:=by
 intro i c h
 unfold glo gloA at h
 split at h<;>cases h
noncomputable def rs:List (Nat×List Nat):=[(3,[0,3])]
noncomputable def cl (k:Nat):Addr:=match k with | 1=>37 | 3=>49 | _=>0
theorem t_23:Turned G (top 6) ["thing"] ["thing"] d_23:=tuI
theorem b_23:JAP "is_whole" (top 6) ["thing"]:=bOk fun _ _ _ _ _ _ _=>rfl
theorem f_23 (P:Params):FnIn (K P) "is_whole" (top 6):=fnI 59 58 (.str "glideways.fracs" 239)
theorem t_0:Turned G (top 7) ["one","other","found","rest","left"] ["one","other"] d_0:=tuI
theorem b_0:JAP "common_divisor" (top 7) ["one","other"]:=bOk fun _ _ _ _ _ _ _ _=>rfl
theorem f_0 (P:Params):FnIn (K P) "common_divisor" (top 7):=fnI 66 65 (.str "glideways.fracs" 239)
theorem t_24:Turned G (top 8) ["thing","up","down"] ["thing"] d_24:=tuI
theorem b_24:JAP "is_frac" (top 8) ["thing"]:=bOk fun _ _ _ _ _ _ _=>rfl
theorem f_24 (P:Params):FnIn (K P) "is_frac" (top 8):=fnI 73 72 (.str "glideways.fracs" 239)
theorem t_68:Turned G (top 9) ["thing"] ["thing"] d_68:=tuI
theorem b_68:JAP "is_size" (top 9) ["thing"]:=bOk fun _ _ _ _ _ _ _=>rfl
theorem f_68 (P:Params):FnIn (K P) "is_size" (top 9):=fnI 80 79 (.str "glideways.fracs" 239)
theorem t_1:Turned G (top 10) ["up","down","divisor"] ["up","down"] d_1:=tuI
theorem b_1:JAP "frac" (top 10) ["up","down"]:=bOk fun _ _ _ _ _ _ _ _=>rfl
theorem f_1 (P:Params):FnIn (K P) "frac" (top 10):=fnI 87 86 (.str "glideways.fracs" 239)
theorem t_3:Turned G (top 11) ["one","other"] ["one","other"] d_3:=tuI
theorem b_3:JAP "plus" (top 11) ["one","other"]:=bOk fun _ _ _ _ _ _ _ _=>rfl
theorem f_3 (P:Params):FnIn (K P) "plus" (top 11):=fnI 94 93 (.str "glideways.fracs" 239)
theorem t_5:Turned G (top 12) ["one","other"] ["one","other"] d_5:=tuI
theorem b_5:JAP "times" (top 12) ["one","other"]:=bOk fun _ _ _ _ _ _ _ _=>rfl
theorem f_5 (P:Params):FnIn (K P) "times" (top 12):=fnI 101 100 (.str "glideways.fracs" 239)
theorem t_179:Turned G (top 13) ["some","together","one"] ["some"] JJq:=tuI
theorem JKA:JAP "all_plus" (top 13) ["some"]:=bOk fun _ _ _ _ _ _ _=>rfl
theorem f_179 (P:Params):FnIn (K P) "all_plus" (top 13):=fnI 108 107 (.str "glideways.fracs" 239)
theorem t_6:Turned G (top 14) ["one","other"] ["one","other"] d_6:=tuI
theorem b_6:JAP "is_less" (top 14) ["one","other"]:=bOk fun _ _ _ _ _ _ _ _=>rfl
theorem f_6 (P:Params):FnIn (K P) "is_less" (top 14):=fnI 115 114 (.str "glideways.fracs" 239)
theorem t_29:Turned G (top 17) ["thing"] ["thing"] d_29:=tuI
theorem b_29:JAP "is_kind" (top 17) ["thing"]:=bOk fun _ _ _ _ _ _ _=>rfl
theorem f_29 (P:Params):FnIn (K P) "is_kind" (top 17):=fnI 123 122 (.str "glideways.kinds" 320)
theorem t_80:Turned G (top 20) ["start","goal","begin","long","kind"] ["start","goal","begin","long","kind"] d_80:=tuI
theorem b_80:JAP "plain_motion" (top 20) ["start","goal","begin","long","kind"]:=bOk fun _ _ _ _ _ _ _ _ _ _ _=>rfl
theorem f_80 (P:Params):FnIn (K P) "plain_motion" (top 20):=fnI 133 132 (.str "glideways.motions" 336)
theorem t_140:Turned G (top 24) ["thing"] ["thing"] JJk:=tuI
theorem JKM:JAP "is_plan" (top 24) ["thing"]:=bOk fun _ _ _ _ _ _ _=>rfl
theorem f_140 (P:Params):FnIn (K P) "is_plan" (top 24):=fnI 140 139 (.str "glideways.plans" 354)
theorem t_141:Turned G (top 25) ["thing","deep","word"] ["thing","deep"] JBq:=tuI
theorem JCQ:JAP "is_plan_within" (top 25) ["thing","deep"]:=bOk fun _ _ _ _ _ _ _ _=>rfl
theorem f_141 (P:Params):FnIn (K P) "is_plan_within" (top 25):=fnI 147 146 (.str "glideways.plans" 354)
theorem t_142:Turned G (top 26) ["thing"] ["thing"] JH6:=tuI
theorem JIK:JAP "is_many" (top 26) ["thing"]:=bOk fun _ _ _ _ _ _ _=>rfl
theorem f_142 (P:Params):FnIn (K P) "is_many" (top 26):=fnI 154 153 (.str "glideways.plans" 354)
theorem t_153:Turned G (top 27) ["plan"] ["plan"] JJY:=tuI
theorem JJR:JAP "need_plan" (top 27) ["plan"]:=bOk fun _ _ _ _ _ _ _=>rfl
theorem f_153 (P:Params):FnIn (K P) "need_plan" (top 27):=fnI 161 160 (.str "glideways.plans" 354)
theorem t_143:Turned G (top 28) ["plan"] ["plan"] JDL:=tuI
theorem JFg:JAP "steps_of" (top 28) ["plan"]:=bOk fun _ _ _ _ _ _ _=>rfl
theorem f_143 (P:Params):FnIn (K P) "steps_of" (top 28):=fnI 168 167 (.str "glideways.plans" 354)
theorem t_144:Turned G (top 29) ["step"] ["step"] JIJ:=tuI
theorem JHc:JAP "step_size" (top 29) ["step"]:=bOk fun _ _ _ _ _ _ _=>rfl
theorem f_144 (P:Params):FnIn (K P) "step_size" (top 29):=fnI 175 174 (.str "glideways.plans" 354)
theorem t_180:Turned G (top 30) ["plan"] ["plan"] JJ8:=tuI
theorem JKZ:JAP "size_of" (top 30) ["plan"]:=bOk fun _ _ _ _ _ _ _=>rfl
theorem f_180 (P:Params):FnIn (K P) "size_of" (top 30):=fnI 180 179 (.str "glideways.plans" 354)
theorem t_154:Turned G (top 31) ["step","here"] ["step","here"] JGw:=tuI
theorem JG3:JAP "step_goal" (top 31) ["step","here"]:=bOk fun _ _ _ _ _ _ _ _=>rfl
theorem f_154 (P:Params):FnIn (K P) "step_goal" (top 31):=fnI 187 186 (.str "glideways.plans" 354)
theorem t_155:Turned G (top 32) ["plan","worth","begin","motions","here","now","step","goal"] ["plan","worth","begin"] JKc:=tuI
theorem JEY:JAP "played" (top 32) ["plan","worth","begin"]:=bOk fun _ _ _ _ _ _ _ _ _=>rfl
theorem f_155 (P:Params):FnIn (K P) "played" (top 32):=fnI 194 193 (.str "glideways.plans" 354)
theorem t_160:Turned G (top 33) ["plan","by"] ["plan","by"] JJ9:=tuI
theorem JJO:JAP "slower" (top 33) ["plan","by"]:=bOk fun _ _ _ _ _ _ _ _=>rfl
theorem f_160 (P:Params):FnIn (K P) "slower" (top 33):=fnI 201 200 (.str "glideways.plans" 354)
theorem t_161:Turned G (top 34) ["plan","by"] ["plan","by"] JDH:=tuI
theorem JFJ:JAP "with_sizes_times" (top 34) ["plan","by"]:=bOk fun _ _ _ _ _ _ _ _=>rfl
theorem f_161 (P:Params):FnIn (K P) "with_sizes_times" (top 34):=fnI 208 207 (.str "glideways.plans" 354)
theorem t_231:Turned G (top 36) ["plan","begin","found","now","step"] ["plan","begin"] JJ1:=tuI
theorem JKF:JAP "cues" (top 36) ["plan","begin"]:=bOk fun _ _ _ _ _ _ _ _=>rfl
theorem f_231 (P:Params):FnIn (K P) "cues" (top 36):=fnI 215 214 (.str "glideways.cues" 448)
theorem t_232:Turned G (top 37) ["plan","begin","time","begun"] ["plan","begin","time"] JFY:=tuI
theorem JFd:JAP "step_at" (top 37) ["plan","begin","time"]:=bOk fun _ _ _ _ _ _ _ _ _=>rfl
theorem f_232 (P:Params):FnIn (K P) "step_at" (top 37):=fnI 220 219 (.str "glideways.cues" 448)
theorem t_233:Turned G (top 38) ["step"] ["step"] JHv:=tuI
theorem JIa:JAP "kind_word" (top 38) ["step"]:=bOk fun _ _ _ _ _ _ _=>rfl
theorem f_233 (P:Params):FnIn (K P) "kind_word" (top 38):=fnI 227 226 (.str "glideways.cues" 448)
theorem t_234:Turned G (top 39) ["plan","words"] ["plan"] JJs:=tuI
theorem JJQ:JAP "kinds_used" (top 39) ["plan"]:=bOk fun _ _ _ _ _ _ _=>rfl
theorem f_234 (P:Params):FnIn (K P) "kinds_used" (top 39):=fnI 232 231 (.str "glideways.cues" 448)
theorem t_11:Turned G (top 41) ["_law_script","_law_k"] ["_law_script","_law_k"] d_11:=tuI
theorem b_11:JAP "_law_cell" (top 41) ["_law_script","_law_k"]:=bOk fun _ _ _ _ _ _ _ _=>rfl
theorem f_11 (P:Params):FnIn (K P) "_law_cell" (top 41):=fnI 239 238 (.str "law_glideways_k54_whole_cues" 480)
theorem t_12:Turned G (top 42) ["_law_script","_law_k","_law_many","_law_drawn"] ["_law_script","_law_k","_law_many"] d_12:=tuI
theorem b_12:JAP "_law_pick" (top 42) ["_law_script","_law_k","_law_many"]:=bOk fun _ _ _ _ _ _ _ _ _=>rfl
theorem f_12 (P:Params):FnIn (K P) "_law_pick" (top 42):=fnI 246 245 (.str "law_glideways_k54_whole_cues" 480)
theorem t_13:Turned G (top 43) ["_law_one","_law_other"] ["_law_one","_law_other"] d_13:=tuI
theorem b_13:JAP "_law_divisor" (top 43) ["_law_one","_law_other"]:=bOk fun _ _ _ _ _ _ _ _=>rfl
theorem f_13 (P:Params):FnIn (K P) "_law_divisor" (top 43):=fnI 253 252 (.str "law_glideways_k54_whole_cues" 480)
theorem t_14:Turned G (top 44) ["_law_up","_law_down","_law_size_here"] ["_law_up","_law_down"] d_14:=tuI
theorem b_14:JAP "_law_made" (top 44) ["_law_up","_law_down"]:=bOk fun _ _ _ _ _ _ _ _=>rfl
theorem f_14 (P:Params):FnIn (K P) "_law_made" (top 44):=fnI 260 259 (.str "law_glideways_k54_whole_cues" 480)
theorem t_15:Turned G (top 45) ["_law_script","_law_at","_law_down"] ["_law_script","_law_at"] d_15:=tuI
theorem b_15:JAP "_law_frac" (top 45) ["_law_script","_law_at"]:=bOk fun _ _ _ _ _ _ _ _=>rfl
theorem f_15 (P:Params):FnIn (K P) "_law_frac" (top 45):=fnI 267 266 (.str "law_glideways_k54_whole_cues" 480)
theorem t_16:Turned G (top 46) ["_law_script","_law_at","_law_down"] ["_law_script","_law_at"] d_16:=tuI
theorem b_16:JAP "_law_size" (top 46) ["_law_script","_law_at"]:=bOk fun _ _ _ _ _ _ _ _=>rfl
theorem f_16 (P:Params):FnIn (K P) "_law_size" (top 46):=fnI 274 273 (.str "law_glideways_k54_whole_cues" 480)
theorem t_17:Turned G (top 47) ["_law_one","_law_other"] ["_law_one","_law_other"] d_17:=tuI
theorem b_17:JAP "_law_plus" (top 47) ["_law_one","_law_other"]:=bOk fun _ _ _ _ _ _ _ _=>rfl
theorem f_17 (P:Params):FnIn (K P) "_law_plus" (top 47):=fnI 281 280 (.str "law_glideways_k54_whole_cues" 480)
theorem t_18:Turned G (top 48) ["_law_one","_law_other"] ["_law_one","_law_other"] d_18:=tuI
theorem b_18:JAP "_law_minus" (top 48) ["_law_one","_law_other"]:=bOk fun _ _ _ _ _ _ _ _=>rfl
theorem f_18 (P:Params):FnIn (K P) "_law_minus" (top 48):=fnI 288 287 (.str "law_glideways_k54_whole_cues" 480)
theorem t_19:Turned G (top 49) ["_law_one","_law_other"] ["_law_one","_law_other"] d_19:=tuI
theorem b_19:JAP "_law_times" (top 49) ["_law_one","_law_other"]:=bOk fun _ _ _ _ _ _ _ _=>rfl
theorem f_19 (P:Params):FnIn (K P) "_law_times" (top 49):=fnI 295 294 (.str "law_glideways_k54_whole_cues" 480)
theorem t_21:Turned G (top 51) ["_law_one","_law_other"] ["_law_one","_law_other"] d_21:=tuI
theorem b_21:JAP "_law_less" (top 51) ["_law_one","_law_other"]:=bOk fun _ _ _ _ _ _ _ _=>rfl
theorem f_21 (P:Params):FnIn (K P) "_law_less" (top 51):=fnI 309 308 (.str "law_glideways_k54_whole_cues" 480)
theorem t_35:Turned G (top 52) ["_law_script","_law_at"] ["_law_script","_law_at"] d_35:=tuI
theorem b_35:JAP "_law_kind" (top 52) ["_law_script","_law_at"]:=bOk fun _ _ _ _ _ _ _ _=>rfl
theorem f_35 (P:Params):FnIn (K P) "_law_kind" (top 52):=fnI 316 315 (.str "law_glideways_k54_whole_cues" 480)
theorem t_146:Turned G (top 53) ["_law_script","_law_at","_law_deep","_law_way","_law_step","_law_word","_law_one"] ["_law_script","_law_at","_law_deep"] d_146:=tuI
theorem JC9:JAP "_law_plan" (top 53) ["_law_script","_law_at","_law_deep"]:=bOk fun _ _ _ _ _ _ _ _ _=>rfl
theorem f_146 (P:Params):FnIn (K P) "_law_plan" (top 53):=fnI 323 322 (.str "law_glideways_k54_whole_cues" 480)
theorem t_147:Turned G (top 54) ["_law_plan_here","_law_made_here","_law_again"] ["_law_plan_here"] JDI:=tuI
theorem JFW:JAP "_law_steps" (top 54) ["_law_plan_here"]:=bOk fun _ _ _ _ _ _ _=>rfl
theorem f_147 (P:Params):FnIn (K P) "_law_steps" (top 54):=fnI 330 329 (.str "law_glideways_k54_whole_cues" 480)
theorem JQG:Turned G (top 55) ["_law_script","_law_plan_here","_law_begin","_law_some","_law_due","_law_here","_law_step","_law_told","_law_ends","_law_k","_law_time","_law_on","_law_begins","_law_words","_law_by","_law_slow"] ["_law_script"] JKT:=tuI
theorem JIB:JAP "law" (top 55) ["_law_script"]:=bOk fun _ _ _ _ _ _ _=>rfl
theorem JP1 (P:Params):FnIn (K P) "law" (top 55):=fnI 335 334 (.str "law_glideways_k54_whole_cues" 480)
theorem JOp {w:World} {h:Heap} {mg:Str->Option Value} (X:(K w.params).In h) (Gm:h.Ns mainGlobals mg):∀d,glo 39=.ok d->∃u v,mg "ZERO"=some u/\RelV v u/\∀H,Den ⟨K w.params,cl,w⟩ H d v:=JC2 X Gm (by kernel_rfl) rfl
theorem JNZ {w:World} {h:Heap} {mg:Str->Option Value} (X:(K w.params).In h) (Gm:h.Ns mainGlobals mg):∀d,glo 41=.ok d->∃u v,mg "KINDS"=some u/\RelV v u/\∀H,Den ⟨K w.params,cl,w⟩ H d v:=JC2 X Gm (by kernel_rfl) rfl
theorem JFX {w:World} {h:Heap} {mg:Str->Option Value} (X:(K w.params).In h) (Gm:h.Ns mainGlobals mg):∀d,glo 77=.ok d->∃u v,mg "NO_SPEEDS"=some u/\RelV v u/\∀H,Den ⟨K w.params,cl,w⟩ H d v:=JC2 X Gm (by kernel_rfl) rfl
theorem JHz {w:World} {h:Heap} {mg:Str->Option Value} (X:(K w.params).In h) (Gm:h.Ns mainGlobals mg):∀d,glo 151=.ok d->∃u v,mg "DEEPEST"=some u/\RelV v u/\∀H,Den ⟨K w.params,cl,w⟩ H d v:=JC2 X Gm (by kernel_rfl) rfl
theorem JE5 {w:World} {h:Heap} {mg:Str->Option Value} (X:(K w.params).In h) (Gm:h.Ns mainGlobals mg):∀d,glo 152=.ok d->∃u v,mg "MOST_AGAIN"=some u/\RelV v u/\∀H,Den ⟨K w.params,cl,w⟩ H d v:=JC2 X Gm (by kernel_rfl) rfl
theorem mo (w:World) {h:Heap} {mg:Str->Option Value} (X:(K w.params).In h) (Gm:h.Ns mainGlobals mg):AllP (MoP mg ⟨K w.params,cl,w⟩ G tab glo) G :=
 ⟨⟨_,rfl,(f_23 w.params).at X Gm b_23 t_23⟩,⟨_,rfl,(f_0 w.params).at X Gm b_0 t_0⟩,⟨_,rfl,(f_24 w.params).at X Gm b_24 t_24⟩,⟨_,rfl,(f_68 w.params).at X Gm b_68 t_68⟩,⟨_,rfl,(f_1 w.params).at X Gm b_1 t_1⟩,⟨_,rfl,(f_3 w.params).at X Gm b_3 t_3⟩,⟨_,rfl,(f_5 w.params).at X Gm b_5 t_5⟩,⟨_,rfl,(f_179 w.params).at X Gm JKA t_179⟩,⟨_,rfl,(f_6 w.params).at X Gm b_6 t_6⟩,⟨_,rfl,(f_29 w.params).at X Gm b_29 t_29⟩,⟨_,rfl,(f_80 w.params).at X Gm b_80 t_80⟩,⟨_,rfl,(f_140 w.params).at X Gm JKM t_140⟩,⟨_,rfl,(f_141 w.params).at X Gm JCQ t_141⟩,⟨_,rfl,(f_142 w.params).at X Gm JIK t_142⟩,⟨_,rfl,(f_153 w.params).at X Gm JJR t_153⟩,⟨_,rfl,(f_143 w.params).at X Gm JFg t_143⟩,⟨_,rfl,(f_144 w.params).at X Gm JHc t_144⟩,⟨_,rfl,(f_180 w.params).at X Gm JKZ t_180⟩,⟨_,rfl,(f_154 w.params).at X Gm JG3 t_154⟩,⟨_,rfl,(f_155 w.params).at X Gm JEY t_155⟩,⟨_,rfl,(f_160 w.params).at X Gm JJO t_160⟩,⟨_,rfl,(f_161 w.params).at X Gm JFJ t_161⟩,⟨_,rfl,(f_231 w.params).at X Gm JKF t_231⟩,⟨_,rfl,(f_232 w.params).at X Gm JFd t_232⟩,⟨_,rfl,(f_233 w.params).at X Gm JIa t_233⟩,⟨_,rfl,(f_234 w.params).at X Gm JJQ t_234⟩,⟨_,rfl,(f_11 w.params).at X Gm b_11 t_11⟩,⟨_,rfl,(f_12 w.params).at X Gm b_12 t_12⟩,⟨_,rfl,(f_13 w.params).at X Gm b_13 t_13⟩,⟨_,rfl,(f_14 w.params).at X Gm b_14 t_14⟩,⟨_,rfl,(f_15 w.params).at X Gm b_15 t_15⟩,⟨_,rfl,(f_16 w.params).at X Gm b_16 t_16⟩,⟨_,rfl,(f_17 w.params).at X Gm b_17 t_17⟩,⟨_,rfl,(f_18 w.params).at X Gm b_18 t_18⟩,⟨_,rfl,(f_19 w.params).at X Gm b_19 t_19⟩,⟨_,rfl,(f_21 w.params).at X Gm b_21 t_21⟩,⟨_,rfl,(f_35 w.params).at X Gm b_35 t_35⟩,⟨_,rfl,(f_146 w.params).at X Gm JC9 t_146⟩,⟨_,rfl,(f_147 w.params).at X Gm JFW t_147⟩,⟨_,rfl,(JP1 w.params).at X Gm JIB JQG⟩,JOp X Gm,JNZ X Gm,JFX X Gm,JHz X Gm,JE5 X Gm,⟨⟨by kernel_rfl,by kernel_rfl,by kernel_rfl⟩,mg_of X Gm (by kernel_rfl)⟩,⟨⟨by kernel_rfl,by kernel_rfl,by kernel_rfl⟩,mg_of X Gm (by kernel_rfl)⟩,mg_none_of X Gm (by kernel_rfl),mg_none_of X Gm (by kernel_rfl),mg_none_of X Gm (by kernel_rfl),mg_none_of X Gm (by kernel_rfl),mg_none_of X Gm (by kernel_rfl),mg_none_of X Gm (by kernel_rfl),mg_none_of X Gm (by kernel_rfl),mg_none_of X Gm (by kernel_rfl),mg_none_of X Gm (by kernel_rfl),mg_none_of X Gm (by kernel_rfl),trivial,trivial,trivial⟩
theorem ra (w:World):AllR (RaP ⟨K w.params,cl,w⟩ G) rs :=
 ⟨⟨⟨⟨by kernel_rfl,by kernel_rfl,by kernel_rfl,by kernel_rfl,by kernel_rfl,by kernel_rfl,by kernel_rfl⟩,by kernel_rfl⟩,trivial,trivial,trivial,trivial,trivial,trivial,trivial,trivial,trivial,trivial,trivial,trivial,trivial,trivial,trivial,trivial,trivial,trivial,trivial,trivial,trivial,trivial,trivial,trivial,trivial,trivial,trivial,trivial,trivial,trivial,trivial,trivial,trivial,trivial,trivial,trivial,trivial,trivial,trivial,trivial,trivial,trivial,trivial,trivial,trivial,rel_f (by kernel_rfl),rel_t (by kernel_rfl) (by kernel_rfl),trivial,trivial,trivial,trivial,trivial,trivial,trivial,trivial,trivial,trivial,trivial,trivial,trivial⟩,trivial⟩
theorem walk {d:DefRec} (hd:d.name="law") (hdf:d.params.defaults=[]):WalkO view loose (XL view []) hk.says PySem.Challenge.rw_glideways_k54_whole_cues.row.toRowW d [] (fun f vs=>PySem.call f vs) :=
 L2.walk_of (l:=PySem.Challenge.rw_glideways_k54_whole_cues) (n:=63) (k:=15) (x:="_law_script") (K:=K) (CX:=fun _=>CX0) (sp:=fun w=>JNR (K w.params)) rfl (by decide) hdf ⟨rfl,by decide,by decide⟩ (fun w h Y=>kIn_of Y)
  (by rw [hd];exact fun w mg fa h KX Gm hmg=>JP9 (cl:=cl) (tab:=tab) (glo:=glo) (sub:=JFc rs) KX Gm hmg (JP1 w.params) JQG JIB (by kernel_rfl) rfl (fun base kb nb=>mo_of (mo w kb nb) (ra w) JIL) (fun n=>JMP (JOC (mo w KX Gm) (ra w)) (by kernel_rfl) (by kernel_rfl) (by kernel_rfl) (fun k z=>by cases k with | rev=>exact x_no (by kernel_rfl) z | enm=>exact x_no (by kernel_rfl) z | srt=>exact x_no (by kernel_rfl) z | zip=>exact x_zip | sst=>exact x_sst)) (fun _ _ _ _ _ _ _ _=>.of_eq rfl) (fun ns hl=>JJa (n:=0) ns))
  (fun _ _ a ns hl _ hS=>⟨a,ns,rfl,hl,hS,fun _=>rfl⟩) fun _ _ _ _ _ z=>z
end V54
open PySem PySem.W PyProof.Rows
set_option maxRecDepth 100000 in
set_option maxHeartbeats 0 in
theorem PySem.Challenge.cw_glideways_k54_whole_cues_holds : PySem.Challenge.rw_glideways_k54_whole_cues.Holds := by
 w_on
 refine holds_law V54.said fun said=>?_
 refine holds_open (q:=V54.view) (loose:=V54.loose) (XP:=XL V54.view []) (Yf:=V54.hk.obs) (Ya:=V54.hk.val) (YP:=V54.hk.says) V54.left V54.hk.of V54.hk.keeps (fun s e=>xl_of s (Bool.and_eq_true_iff.mp e).1) XL.keeps (by rfl) (by rfl) (by rfl) (fun s e=>recFacts_of (Bool.and_eq_true_iff.mp e).2) (by rfl) (by first | assumption | decide +kernel) (by decide +kernel) ⟨rfl,rfl,rfl,rfl,rfl,by decide +kernel⟩ ?hw (V54.walk rfl rfl)
 case hw=>w_witness2
end
