import PyProof.Rows.All
import Wide.All
import OpenK.AllK
import Wide.FinOn
import Lean
import PyProof.EqAt
import PyProof.EqKinds
import PyProof.TupleCall
import KE.KDictList
import KE.KDictOf
import KE.KEqDict
import KE.KIsAll
import KE.KRevIter
import KE.KSortTup
import KE.KTryMore
import OpenK.KRaise
import PyProof.CollectWalk
import PyProof.CompFree
import PyProof.ConsumeWalk
import PyProof.DictWalks
import PyProof.Draws
import PyProof.EnumFor
import PyProof.EnumMake
import PyProof.ExcAttrAll.ValueError
import PyProof.FactsAll.list_3
import PyProof.FactsAll.tuple_2
import PyProof.Fits
import PyProof.Lay0
import PyProof.P3Statements
import PyProof.Rows.SetFrom
import PyProof.WalksEnum
import PyProof.ZipIter
import PySem.Eval
import PySem.Challenge.RW_glideways_k61_whole_staggered
def q_a:=@Option.bind_eq_some_iff
def q_b:=@PySem.wpAny_bind
def q_c:=@PySem.Heap.get?_push_of_some
def q_d:=@Option.map_eq_some_iff
def q_e:=@PySem.wpAny_pure
def q_f:=@List.size_toArray
def q_g:=@List.length_map
def q_h:=@PySem.Heap.lt_size
def q_i:=@Bool.and_eq_true
def q_j:=@Option.some.injEq
def q_k:=@PySem.Heap.get?_push_size
def q_l:=@Nat.ne_of_lt
def q_m:=@Nat.lt_of_lt_of_le
def q_n:=@List.mem_cons
def q_o:=@decide_eq_false
def q_p:=@List.getElem?_eq_some_iff
def q_q:=@List.getElem?_eq_getElem
def q_r:=@List.mem_append_right
def q_s:=@List.mem_cons_of_mem
def q_t:=@Nat.le_refl
def q_u:=@List.length_append
def q_v:=@Bool.false_eq_true
def q_x:=@List.filter_cons_of_neg
def q_y:=@List.filter_cons_of_pos
def q_z:=@List.getElem?_set_self
def q_A:=@List.getElem?_set_ne
def q_B:=@List.length_eq_zero_iff
def q_C:=@List.getElem?_append_left
def q_D:=@decide_eq_true_eq
def q_E:=@Nat.lt_succ_of_lt
def q_F:=@Array.length_toList
set_option Elab.async false
set_option compiler.extract_closed false
set_option bootstrap.genMatcherCode false
set_option maxRecDepth 100000 in set_option maxHeartbeats 0 in theorem V61.said:PySem.Challenge.rw_glideways_k61_whole_staggered.wellSaid=true:=by kernel_rfl
set_option maxRecDepth 100000
set_option Elab.async false
set_option linter.all false
namespace L2
open PySem PySem.Spec PyProof.Rows
noncomputable abbrev Key:=Sum Int Str
noncomputable def JKg:Key->Value->Bool
 | .inl k,v=>Value.isInt k v
 | .inr x,v=>Value.isStrOf x v
noncomputable def keyH (w:World):Key->Int
 | .inl k=>hashInt k
 | .inr x=>hashStr w x
theorem JAh:∀ {k:Key} {v:Value},JKg k v=true->(∃i t,k=Sum.inl i/\v=Value.int i t)\/(∃x t,k=Sum.inr x/\v=Value.str x t)
 | .inl i,v,h=>by
  obtain ⟨t,e⟩:=Value.isInt_shape (k:=i) (v:=v) h
  exact .inl ⟨i,t,rfl,e⟩
 | .inr x,v,h=>by
  obtain ⟨t,e⟩:=Value.isStrOf_shape (x:=x) (v:=v) h
  exact .inr ⟨x,t,rfl,e⟩
theorem JIX (x:Str) (t:Tok):JKg (.inr x) (.str x t)=true:=by simp [JKg,Value.isStrOf]
theorem JOb (a b:Int):decide ((Sum.inl a:Key)=Sum.inl b)=(a==b):=by
 by_cases e:a=b
 ·subst e;simp
 ·have h:¬(Sum.inl a:Key)=Sum.inl b:=fun q=>e (Sum.inl.inj q)
  rw [q_o h]
  exact (beq_eq_false_iff_ne.mpr e).symm
theorem JPh (a b:Str):decide ((Sum.inr a:Key)=Sum.inr b)=decide (a=b):=by
 by_cases e:a=b
 ·subst e;simp
 ·have h:¬(Sum.inr a:Key)=Sum.inr b:=fun q=>e (Sum.inr.inj q)
  rw [q_o h,q_o e]
theorem JPt (a:Int) (b:Str):decide ((Sum.inl a:Key)=Sum.inr b)=false:=q_o (fun q=>nomatch q)
theorem JQC (a:Str) (b:Int):decide ((Sum.inr a:Key)=Sum.inl b)=false:=q_o (fun q=>nomatch q)
noncomputable def JAc (prog:Program) (w:World):PySem.KeyKind prog w Key where
 is:=JKg
 hash:=keyH w
 inj:=fun v a b ha hb=>by
  rcases JAh ha with ⟨i,t,rfl,rfl⟩ | ⟨x,t,rfl,rfl⟩
  ·rcases JAh hb with ⟨j,u,rfl,e⟩ | ⟨y,u,rfl,e⟩
   ·injection e with e1 _;rw [e1]
   ·exact nomatch e
  ·rcases JAh hb with ⟨j,u,rfl,e⟩ | ⟨y,u,rfl,e⟩
   ·exact nomatch e
   ·injection e with e1 _;rw [e1]
 byValue:=fun k v h=>by
  rcases JAh h with ⟨i,t,rfl,rfl⟩ | ⟨x,t,rfl,rfl⟩<;>rfl
 pyHash:=fun hv h=>by
  rcases JAh hv with ⟨i,t,rfl,rfl⟩ | ⟨x,t,rfl,rfl⟩
  ·exact wpAny_pyHash_int h
  ·exact wpAny_pyHash_str h
 eqBool:=fun hu hv h=>by
  rcases JAh hu with ⟨i,t,rfl,rfl⟩ | ⟨x,t,rfl,rfl⟩
  ·rcases JAh hv with ⟨j,u,rfl,rfl⟩ | ⟨y,u,rfl,rfl⟩
   ·rw [JOb] at h;exact wpAny_eqBool_int h
   ·rw [JPt] at h;exact SeqAt.EqAt.int_str i t y u _ _ _ _ h
  ·rcases JAh hv with ⟨j,u,rfl,rfl⟩ | ⟨y,u,rfl,rfl⟩
   ·rw [JQC] at h;exact SeqAt.EqAt.str_int x t j u _ _ _ _ h
   ·rw [JPh] at h;exact wpAny_eqBool_str h
 «strs»:=fun k x t v h=>by
  rcases JAh h with ⟨i,u,rfl,e⟩ | ⟨y,u,rfl,e⟩
  ·exact nomatch e
  ·injection e with e1 _
   subst e1
   cases v<;>rfl
theorem JBH (prog:Program) (w:World) (x:Str) (t:Tok):(JAc prog w).is (.inr x) (.str x t)=true:=JIX x t
end L2
namespace L2
open PySem PySem.Spec PyProof.Rows
inductive V where
 | non | bl (b:Bool) | int (i:Int) | str (x:Str) | byt (b:Array UInt8) | flt (b:UInt64) | ref (a:Addr) | ty (n:String)
 deriving DecidableEq
noncomputable def RelV:V->Value->Prop
 | .non,u=>u=Value.none
 | .bl b,u=>u=Value.bool b
 | .int i,u=>∃t,u=Value.int i t
 | .str x,u=>∃t,u=Value.str x t
 | .byt b,u=>∃t,u=Value.bytes b t
 | .flt b,u=>∃t,u=Value.float b t
 | .ref a,u=>u=Value.ref a
 | .ty n,u=>u=Value.type n
noncomputable abbrev Vals:List V->List Value->Prop:=Paired RelV
theorem Vals.length {xs:List V} {us:List Value} (r:Vals xs us):xs.length=us.length:=Paired.length r
theorem Vals.get:∀ {xs:List V} {us:List Value} {i:Nat} {x:V},Vals xs us->xs[i]? = some x->∃u,us[i]? = some u/\RelV x u
 | _,_,_,_,.nil,e=>by simp at e
 | _,_,0,_,.cons r _,e=>by simp at e;subst e;exact ⟨_,rfl,r⟩
 | _,_,i+1,x,.cons _ t,e=>by
  obtain ⟨u,h1,h2⟩:=Vals.get (i:=i) (x:=x) t (by simpa using e)
  exact ⟨u,by simpa using h1,h2⟩
theorem Vals.set {x:V} {u:Value} (r:RelV x u):∀ {xs:List V} {us:List Value} (i:Nat),Vals xs us->Vals (xs.set i x) (us.set i u)
 | _,_,_,.nil=>.nil
 | _,_,0,.cons _ t=>.cons r t
 | _,_,i+1,.cons q t=>.cons q (Vals.set r i t)
theorem Vals.append:∀ {xs ys:List V} {us ws:List Value},Vals xs us->Vals ys ws->Vals (xs++ys) (us++ws)
 | _,_,_,_,.nil,s=>s
 | _,_,_,_,.cons r t,s=>.cons r (Vals.append t s)
theorem Vals.take:∀ {xs:List V} {us:List Value} (n:Nat),Vals xs us->Vals (xs.take n) (us.take n)
 | _,_,0,_=>.nil
 | _,_,_+1,.nil=>.nil
 | _,_,n+1,.cons r t=>.cons r (Vals.take n t)
theorem Vals.drop:∀ {xs:List V} {us:List Value} (n:Nat),Vals xs us->Vals (xs.drop n) (us.drop n)
 | _,_,0,r=>r
 | _,_,_+1,.nil=>.nil
 | _,_,n+1,.cons _ t=>Vals.drop n t
noncomputable def RelO:Option V->Option Value->Prop
 | some v,some u=>RelV v u
 | none,none=>True
 | _,_=>False
noncomputable def KV {κ:Type}:List (κ×V)->List (κ×Value)->Prop:=Paired fun (p:κ×V) (q:κ×Value)=>p.1=q.1/\RelV p.2 q.2
noncomputable def kV:Key->V
 | .inl i=>.int i
 | .inr x=>.str x
inductive HO where
 | lst (xs:List V)
 | tup (xs:List V)
 | dK (kvs:List (Key×V)) | dT (kvs:List (List Key×V))
 | set (S:Int->Bool) (n:Nat)
 | ins (C dx:Addr) (fs:List (Str×V))
 | own (x:Addr)
 | xd (fs:List (Str×V))
 | met (f x:Addr)
 | rng (lo hi:Int)
 | frz (o:Obj) (u:HO)
 | tbl (ps:Array Value)
 | ext (φ:Heap->Prop)
noncomputable abbrev Hp:=Addr->Option HO
noncomputable def upd (H:Hp) (a:Addr) (o:HO):Hp:=fun b=>if b=a then some o else H b
theorem JAG {H:Hp} {a:Addr} {o:HO}:upd H a o a=some o:=by unfold upd;rw [if_pos rfl]
theorem JAM {H:Hp} {a b:Addr} {o:HO} (h:b≠a):upd H a o b=H b:=by unfold upd;rw [if_neg h]
theorem JAW {H:Hp} {a b:Addr} {o:HO} (h:H a=some o) (h':H b=none):a≠b:=by
 intro e;subst e;rw [h] at h';cases h'
section
variable (P:Program) (w:World)
noncomputable def ObjOk (H:Hp) (h:Heap) (a:Addr):HO->Prop
 | .lst xs=>xs.length<=sizeLine/\∃(its:List Value) (n:Nat),Vals xs its/\h.get? a=some { cls:=.type "list",data:=.seq its.toArray n }
 | .tup xs=>xs.length<=sizeLine/\∃its:List Value,Vals xs its/\IsTup h a its.toArray
 | .dK kvs=>kvs.length<=sizeLine/\(a==sysModules)=false/\∃vs,KV kvs vs/\h.DictOf (JAc P w) a vs
 | .dT kvs=>kvs.length<=sizeLine/\(a==sysModules)=false/\∃xs:List (List Key×Addr×Value),
  Paired (fun (p:List Key×V) (q:List Key×Addr×Value)=>p.1=q.1/\H q.2.1=some (.tup (p.1.map kV))/\RelV p.2 q.2.2) kvs xs /\
  ∃o es ep,h.get? a=some o/\o.ExactDict/\o.data=.dict es ep/\es.toList=xs.map (entryOfKey (tupleKind (JAc P w)))/\(xs.map (·.1)).Nodup
 | .set S n=>h.SetOf (intKind P w) a S n
 | .ins C dx fs=>H dx=some (.own a)/\fs.length<=1000/\dx≠a/\h.get? a=some (PySem.W.instObj C dx) /\
  ∃mA,h.Ns1 dx mA/\(∀f,RelO (fs.lookup f) (mA f))/\PySem.Within mA (fs.map (·.1))
 | .own _=>∃o,h.get? a=some o
 | .xd fs=>∃mA,h.Ns1 a mA/\∀f,RelO (fs.lookup f) (mA f)
 | .rng lo hi=>∃t u v,h.get? a=some { cls:=.type "range",data:=.fields #[.int lo t,.int hi u,.int 1 v] }
 | .frz o u=>h.get? a=some o/\ObjOk H h a u
 | .tbl ps=>h.get? a=some { cls:=.none,data:=.fields ps }
 | .met f x=>h.get? a=some (PySem.W.methodObj (.ref f) (.ref x))
 | .ext φ=>φ h/\(∃o,h.get? a=some o)/\∀h1 h2:Heap,φ h1->(∀o,h1.get? a=some o->h2.get? a=some o)->φ h2
noncomputable def HOk (H:Hp) (h:Heap):Prop:=∀a o,H a=some o->ObjOk P w H h a o
end
section
variable {P:Program} {w:World} {H H':Hp} {h h':Heap} {a:Addr} {o:HO}
theorem ObjOk.lt (x:ObjOk P w H h a o):a<h.objs.size:=by
 cases o with
 | lst xs=>obtain ⟨_,_,_,_,e⟩:=x;exact q_h e
 | tup xs=>obtain ⟨_,_,_,p⟩:=x;exact p.lt
 | dK kvs=>obtain ⟨_,_,_,_,o,_,_,e,_⟩:=x;exact q_h e
 | dT kvs=>obtain ⟨_,_,_,_,o,_,_,e,_⟩:=x;exact q_h e
 | set S n=>obtain ⟨o,_,_,_,e,_⟩:=x;exact q_h e
 | ins C dx fs=>obtain ⟨_,_,_,e,_⟩:=x;exact q_h e
 | own y=>obtain ⟨_,e⟩:=x;exact q_h e
 | xd fs=>obtain ⟨_,⟨_,_,_,e,_⟩,_⟩:=x;exact q_h e
 | rng lo hi=>obtain ⟨_,_,_,e⟩:=x;exact q_h e
 | frz ob u=>obtain ⟨e,_⟩:=x;exact q_h e
 | tbl ps=>exact q_h (show h.get? a=some _ from x)
 | met f y=>exact q_h (show h.get? a=some _ from x)
 | ext φ=>obtain ⟨_,⟨_,e⟩,_⟩:=x;exact q_h e
theorem Paired.mapP {α β:Type} {F G:α->β->Prop}:∀ {l₁:List α} {l₂:List β},Paired F l₁ l₂->(∀a b,F a b->G a b)->Paired G l₁ l₂
 | _,_,.nil,_=>.nil
 | _,_,.cons r t,f=>.cons (f _ _ r) (Paired.mapP t f)
theorem ObjOk.stay (x:ObjOk P w H h a o) (k:∀b u,(b=a\/H b=some (.own a))->h.get? b=some u->h'.get? b=some u)
  (ho:∀b,H b=some (.own a)->H' b=some (.own a)) (ht:∀b xs,H b=some (.tup xs)->H' b=some (.tup xs)):ObjOk P w H' h' a o:=by
 induction o with
 | lst xs=>obtain ⟨z,its,n,r,e⟩:=x;exact ⟨z,its,n,r,k _ _ (.inl rfl) e⟩
 | tup xs=>obtain ⟨z,its,r,ob,e,c⟩:=x;exact ⟨z,its,r,ob,k _ _ (.inl rfl) e,c⟩
 | dK kvs=>obtain ⟨z,y,vs,r,ob,es,ep,e,c⟩:=x;exact ⟨z,y,vs,r,ob,es,ep,k _ _ (.inl rfl) e,c⟩
 | dT kvs =>
  obtain ⟨z,y,xs,r,ob,es,ep,e,c⟩:=x
  exact ⟨z,y,xs,Paired.mapP r fun p q z=>⟨z.1,ht _ _ z.2.1,z.2.2⟩,ob,es,ep,k _ _ (.inl rfl) e,c⟩
 | set S n=>obtain ⟨ob,es,ep,t,e,c⟩:=x;exact ⟨ob,es,ep,t,k _ _ (.inl rfl) e,c⟩
 | ins C dx fs =>
  obtain ⟨d,z,ne,e,mA,⟨od,es,ep,e2,c⟩,r⟩:=x
  exact ⟨ho _ d,z,ne,k _ _ (.inl rfl) e,mA,⟨od,es,ep,k _ _ (.inr d) e2,c⟩,r⟩
 | own y=>obtain ⟨ob,e⟩:=x;exact ⟨ob,k _ _ (.inl rfl) e⟩
 | xd fs=>obtain ⟨mA,⟨od,es,ep,e,c⟩,r⟩:=x;exact ⟨mA,⟨od,es,ep,k _ _ (.inl rfl) e,c⟩,r⟩
 | rng lo hi=>obtain ⟨t,u,v,e⟩:=x;exact ⟨t,u,v,k _ _ (.inl rfl) e⟩
 | frz ob u ih=>obtain ⟨e,q⟩:=x;exact ⟨k _ _ (.inl rfl) e,ih q⟩
 | tbl ps =>
  have e:h.get? a=some { cls:=.none,data:=.fields ps }:=x
  show h'.get? a=some { cls:=.none,data:=.fields ps }
  exact k a _ (.inl rfl) e
 | met f y =>
  have e:h.get? a=some (PySem.W.methodObj (.ref f) (.ref y)):=x
  show h'.get? a=some (PySem.W.methodObj (.ref f) (.ref y))
  exact k a _ (.inl rfl) e
 | ext φ=>obtain ⟨p,⟨o,e⟩,st⟩:=x;exact ⟨st _ _ p fun o q=>k _ _ (.inl rfl) q,⟨o,k _ _ (.inl rfl) e⟩,st⟩
theorem HOk.lt (x:HOk P w H h) (e:H a=some o):a<h.objs.size:=(x a o e).lt
theorem HOk.fresh (x:HOk P w H h) (e:h.objs.size<=a):H a=none:=by
 cases q:H a with
 | none=>rfl
 | some u=>exact absurd (q_m (x.lt q) e) (Nat.lt_irrefl _)
theorem HOk.kept (x:HOk P w H h) (k:∀b u,h.get? b=some u->h'.get? b=some u):HOk P w H h':=fun a o e =>
 (x a o e).stay (fun b u _ q=>k b u q) (fun _ q=>q) fun _ _ q=>q
theorem HOk.laid (x:HOk P w H h) (k:∀b u,h.get? b=some u->h'.get? b=some u) (hp:h.objs.size<=a) (new:ObjOk P w (upd H a o) h' a o):HOk P w (upd H a o) h':=fun b u e=>by
 have hn:=x.fresh hp
 by_cases hb:b=a
 ·subst hb;rw [JAG] at e;cases e;exact new
 ·rw [JAM hb] at e
  exact (x b u e).stay (fun c v _ q=>k c v q) (fun c q=>by rw [JAM (JAW q hn)];exact q) fun c xs q=>by rw [JAM (JAW q hn)];exact q
end
noncomputable def Rd (H:Hp) (a:Addr) (u:HO):Prop:=H a=some u\/∃o,H a=some (.frz o u)
theorem Rd.of {H:Hp} {a:Addr} {u:HO} (h:H a=some u):Rd H a u:=.inl h
theorem Rd.ok {P:Program} {w:World} {H:Hp} {h:Heap} {a:Addr} {u:HO} (r:Rd H a u) (x:HOk P w H h):ObjOk P w H h a u:=by
 rcases r with r | ⟨o,r⟩
 ·exact x a u r
 ·obtain ⟨_,q⟩:=x a _ r
  exact q
noncomputable def Mut:Option HO->Prop
 | some (.lst _)=>True
 | some (.dK _)=>True
 | some (.dT _)=>True
 | some (.set _ _)=>True
 | some (.ins _ _ _)=>True
 | some (.ext _)=>True
 | _=>False
section
variable {P:Program} {w:World} {H:Hp} {h h':Heap} {x e:Addr} {o':HO}
theorem HOk.write (ok:HOk P w H h) (mu:Mut (H x)) (he:e=x\/H e=some (.own x)) (k:∀b u,b≠e->h.get? b=some u->h'.get? b=some u) (heo:∃u,h'.get? e=some u)
  (new:ObjOk P w (upd H x o') h' x o'):HOk P w (upd H x o') h':=fun b u q=>by
 have nown:∀c y,H c=some (.own y)->c≠x:=fun c y r z=>by subst z;rw [r] at mu;exact mu
 have ntup:∀c xs,H c=some (.tup xs)->c≠x:=fun c xs r z=>by subst z;rw [r] at mu;exact mu
 by_cases hb:b=x
 ·subst hb;rw [JAG] at q;cases q;exact new
 ·rw [JAM hb] at q
  by_cases hbe:b=e
  · have q':H b=some (.own x):=by
     rcases he with z | z
     ·exact absurd (hbe.trans z) hb
     ·rw [hbe];exact z
    rw [q] at q';cases q'
    obtain ⟨v,hv⟩:=heo
    exact ⟨v,by rw [hbe];exact hv⟩
  · refine (ok b u q).stay (fun c v hc r=>k c v ?_ r) (fun c r=>by rw [JAM (nown c b r)];exact r) fun c xs r=>by rw [JAM (ntup c xs r)];exact r
    rcases hc with rfl | hc
    ·exact hbe
    ·rintro rfl
     rcases he with z | z
     ·exact nown c b hc z
     ·rw [hc] at z;cases z;exact hb rfl
end
structure Un (fs ex:List Addr) (H H':Hp) (h h':Heap):Prop where
 keep:∀b o,h.get? b=some o->H b=none->b ∉ fs->b ∉ ex->h'.get? b=some o
 slot:∀b o,h.get? b=some o->H b=none->b∈fs->b ∉ ex->∃sl,h'.get? b=some { o with slots:=sl }
 free:∀b o,h.get? b=some o->H b=none->b ∉ ex->H' b=none
 there:∀b o,h.get? b=some o->b ∉ ex->∃o',h'.get? b=some o'
 tups:∀b xs,H b=some (.tup xs)->H' b=some (.tup xs)
 frzs:∀b o u,H b=some (.frz o u)->H' b=some (.frz o u)
 tbls:∀b ps,H b=some (.tbl ps)->∃more,H' b=some (.tbl (ps++more))
section
variable {fs fs' ex ex':List Addr} {H H1 H2:Hp} {h h1 h2 h':Heap} {a x e:Addr} {o:HO}
theorem Un.any (u:Un fs ex H H1 h h1) {b:Addr} {ob:Obj} (q:h.get? b=some ob) (n:H b=none) (hx:b ∉ ex):∃sl,h1.get? b=some { ob with slots:=sl }:=by
 by_cases hb:b∈fs
 ·exact u.slot b ob q n hb hx
 ·exact ⟨ob.slots,u.keep b ob q n hb hx⟩
theorem Un.trans (a:Un fs ex H H1 h h1) (b:Un fs ex H1 H2 h1 h2):Un fs ex H H2 h h2 where
 keep:=fun c ob q n hc hx=>b.keep c ob (a.keep c ob q n hc hx) (a.free c ob q n hx) hc hx
 slot:=fun c ob q n hc hx=>by
  obtain ⟨sl,e1⟩:=a.slot c ob q n hc hx
  obtain ⟨sl',e2⟩:=b.slot c _ e1 (a.free c ob q n hx) hc hx
  exact ⟨sl',e2⟩
 free:=fun c ob q n hx=>by
  obtain ⟨o',e1⟩:=a.there c ob q hx
  exact b.free c o' e1 (a.free c ob q n hx) hx
 there:=fun c ob q hx=>by
  obtain ⟨o',e1⟩:=a.there c ob q hx
  exact b.there c o' e1 hx
 tups:=fun c xs q=>b.tups c xs (a.tups c xs q)
 frzs:=fun c ob xs q=>b.frzs c ob xs (a.frzs c ob xs q)
 tbls:=fun c ps q=>by
  obtain ⟨m1,e1⟩:=a.tbls c ps q
  obtain ⟨m2,e2⟩:=b.tbls c _ e1
  exact ⟨m1++m2,by rw [e2,Array.append_assoc]⟩
theorem Un.kept (k:∀b u,h.get? b=some u->h'.get? b=some u):Un fs ex H H h h' :=
 ⟨fun b ob q _ _ _=>k b ob q,fun b ob q _ _ _=>⟨ob.slots,k b ob q⟩,fun _ _ _ n _=>n,fun b ob q _=>⟨ob,k b ob q⟩,fun _ _ q=>q,fun _ _ _ q=>q,fun _ ps q=>⟨#[],by rw [q];simp⟩⟩
theorem Un.refl:Un fs ex H H h h:=Un.kept fun _ _ q=>q
theorem Un.laid (k:∀b u,h.get? b=some u->h'.get? b=some u) (hp:h.objs.size<=a) (hn:H a=none):Un fs ex H (upd H a o) h h' where
 keep:=fun b u q _ _ _=>k b u q
 slot:=fun b u q _ _ _=>⟨u.slots,k b u q⟩
 free:=fun b u q n _=>by rw [JAM (q_l (q_m (q_h q) hp))];exact n
 there:=fun b u q _=>⟨u,k b u q⟩
 tups:=fun b xs q=>by rw [JAM (JAW q hn)];exact q
 frzs:=fun b u xs q=>by rw [JAM (JAW q hn)];exact q
 tbls:=fun b ps q=>⟨#[],by rw [JAM (JAW q hn),q];simp⟩
theorem Un.write (mu:Mut (H x)) (he:e=x\/H e=some (.own x)) (k:∀b u,b≠e->h.get? b=some u->h'.get? b=some u) (heo:∃u,h'.get? e=some u):Un fs ex H (upd H x o) h h':=by
 have hx:∀b,H b=none->b≠x:=fun b n z=>by subst z;rw [n] at mu;exact mu
 have hb:∀b,H b=none->b≠e:=fun b n z=>by
  subst z
  rcases he with r | r
  ·exact hx b n r
  ·rw [n] at r;cases r
 have hm:∀b u,H b=some u->¬Mut (some u)->b≠x:=fun b u q nm z=>by subst z;rw [q] at mu;exact nm mu
 refine ⟨fun b u q n _ _=>k b u (hb b n) q,fun b u q n _ _=>⟨u.slots,k b u (hb b n) q⟩,fun b u q n _=>by rw [JAM (hx b n)];exact n,fun b u q _=>?_,
  fun b xs q=>by rw [JAM (hm b _ q fun z=>z)];exact q,fun b u xs q=>by rw [JAM (hm b _ q fun z=>z)];exact q,fun b ps q=>⟨#[],by rw [JAM (hm b _ q fun z=>z),q];simp⟩⟩
 by_cases hbe:b=e
 ·subst hbe;exact heo
 ·exact ⟨u,k b u hbe q⟩
theorem Un.mono (u:Un fs ex H H1 h h1) (hs:∀b∈fs,b∈fs') (hx:∀b∈ex,b∈ex'):Un fs' ex' H H1 h h1 :=
 ⟨fun b ob q n hb he=>u.keep b ob q n (fun z=>hb (hs b z)) fun z=>he (hx b z),fun _ _ q n _ he=>u.any q n fun z=>he (hx _ z),fun b ob q n he=>u.free b ob q n fun z=>he (hx b z),fun b ob q he=>u.there b ob q fun z=>he (hx b z),u.tups,u.frzs,u.tbls⟩
end
noncomputable def trk (h:Heap) (H:Hp):List Addr:=(List.range h.objs.size).filter fun a=>(H a).isSome
noncomputable def hidT (h:Heap) (H:Hp):Heap:=PySem.W.hideAll h (trk h H)
theorem JHX (h:Heap) (H:Hp):(hidT h H).objs.size=h.objs.size:=PySem.W.hideAll_size _ _
theorem JJ0 {h:Heap} {H:Hp} {b:Addr} {o:Obj} (e:h.get? b=some o) (n:H b=none):(hidT h H).get? b=some o :=
 PySem.W.hideAll_get _ e fun hm=>by
  have q:(H b).isSome=true:=(List.mem_filter.mp hm).2
  rw [n] at q;simp at q
theorem JOD {h:Heap} {H:Hp} {b:Addr} {o:Obj} (e:(hidT h H).get? b=some o):h.get? b=some o/\H b=none:=by
 have e':h.get? b=some o:=PySem.W.of_hideAll (trk h H) e
 refine ⟨e',?_⟩
 cases q:H b with
 | none=>rfl
 | some x =>
  have hm:b∈trk h H:=List.mem_filter.mpr ⟨List.mem_range.mpr (q_h e'),by simp [q]⟩
  have z:(hidT h H).get? b=none:=PySem.W.hideAll_none (trk h H) hm
  rw [z] at e;cases e
noncomputable def JNh (g h:Heap) (L:Addr):List (Addr×Obj):=(List.range h.objs.size).filterMap fun a=>if a=L\/(g.get? a).isSome=true then none else (h.get? a).map fun o=>(a,o)
noncomputable def rest (g h:Heap) (L d:Addr):List (Addr×Obj):=(JNh g h L).filter fun p=>decide (p.1≠d)
end L2
namespace L2
open PySem PySem.Spec PyProof.Rows
structure Mod (K:PySem.W.Frag) (mg:Str->Option Value) (base:Heap):Prop where
 kin:K.In base
 glob:base.Ns mainGlobals mg
 blt:∃mb,base.Ns builtinsNs mb/\∀x:Str,x≠"__name__"->mb x=bootBuiltins x
 nolimit:base.NoLimit
structure Cx where
 prog:Program
 w:World
 K:PySem.W.Frag
 mg:Str->Option Value
 base:Heap
 A:Around
 N:List Str
 s₀:Shared
 H₀:Hp
 env:Env
 outer:List Env
 stack:List Env
 ex:List Addr
 fn:Str->Bool
 calm:Bool
 pn:List (Addr×Obj)
 xe:Value->Shared->Prop
noncomputable def frs (l:List Env):List Addr:=l.filterMap (·.frame)
noncomputable abbrev Cx.fs (X:Cx):List Addr:=frs X.outer
noncomputable def Vis (sc:Scope) (x:Str):Prop:=sc.names.lookup x=some .local\/sc.names.lookup x=some .cell\/sc.names.lookup x=some .free
noncomputable def Loc (sc:Scope) (x:Str):Prop:=sc.names.lookup x=some .local\/sc.names.lookup x=some .cell
noncomputable def Look (env:Env) (h:Heap) (m:Str->Option Value) (x:Str) (u:Value):Prop :=
 (env.kindOf x=some .local/\m x=some u)\/((env.kindOf x=some .cell\/env.kindOf x=some .free)/\∃c,env.cells.lookup x=some c/\h.IsCell c (some u))
structure Cx.Ok (X:Cx):Prop where
 mod:Mod X.K X.mg X.base
 kind:X.env.scope.kind=.function
 glob:X.env.globals=mainGlobals
 blt:X.env.builtins=builtinsNs
 above:X.s₀.heap.objs.size<=X.env.locals
 inj:∀x y c,X.env.cells.lookup x=some c->X.env.cells.lookup y=some c->x=y
 has:∀x,(X.env.kindOf x=some .cell\/X.env.kindOf x=some .free)->∃c,X.env.cells.lookup x=some c
 cab:∀x c,X.fn x=true->X.env.cells.lookup x=some c->X.s₀.heap.objs.size<=c
 hd:X.calm=true->X.A.handled=none
 frames:X.A.frames=some X.stack
 stk:X.stack=X.outer\/(X.stack=X.env::X.outer/\X.env.frame=some X.env.locals)
 exf:∀b∈X.ex,b≠X.env.locals/\∀x c,X.env.cells.lookup x=some c->c≠b
 bs:∀b o,X.base.get? b=some o->X.s₀.heap.get? b=some o/\X.H₀ b=none
 bsz:X.base.objs.size<=X.s₀.heap.objs.size
 noex:∀b o,X.base.get? b=some o->b ∉ X.ex
 exfs:∀b∈X.ex,b ∉ X.fs
 funs:X.s₀.heap.FunFrames X.base X.outer
 frf:∀b∈X.fs,X.H₀ b=none
structure Inv (X:Cx) (pins:List (Addr×Obj)) (σ:List (Option V)) (H:Hp) (s:Shared):Prop where
 ok:X.Ok
 os:s.os=X.s₀.os
 bare:AllBare s.gens
 base:Un X.fs X.ex X.H₀ H X.s₀.heap s.heap
 loc:∃m,s.heap.Ns X.env.locals m/\∀(i:Nat) (x:Str) (v:V),X.N[i]? = some x->σ[i]? = some (some v)->Vis X.env.scope x->∃u,RelV v u/\Look X.env s.heap m x u
 cell:∀x c,X.env.cells.lookup x=some c->∃v,s.heap.IsCell c v
 free:H X.env.locals=none
 freeC:∀x c,X.env.cells.lookup x=some c->H c=none
 pin:∀p∈X.pn++pins,s.heap.get? p.1=some p.2/\H p.1=none/\p.1≠X.env.locals/\p.1 ∉ X.fs/\∀v,p.2.data≠.cell v
 hok:HOk X.prog X.w H s.heap
 len:σ.length=X.N.length
section
variable {X:Cx} {pins:List (Addr×Obj)} {σ:List (Option V)} {H H':Hp} {s:Shared} {h':Heap}
theorem Cx.Ok.nofr (ok:X.Ok) {b:Addr} {o:Obj} (e:X.base.get? b=some o):b ∉ X.fs:=fun hb=>by
 have:=(ok.funs.mem hb).1
 rw [e] at this;cases this
theorem Inv.bs (I:Inv X pins σ H s):∀b o,X.base.get? b=some o->s.heap.get? b=some o/\H b=none:=fun b o e =>
 ⟨I.base.keep b o (I.ok.bs b o e).1 (I.ok.bs b o e).2 (I.ok.nofr e) (I.ok.noex b o e),I.base.free b o (I.ok.bs b o e).1 (I.ok.bs b o e).2 (I.ok.noex b o e)⟩
theorem Inv.bk (I:Inv X pins σ H s):∀b o,X.base.get? b=some o->s.heap.get? b=some o:=fun b o e=>(I.bs b o e).1
theorem Inv.mod (I:Inv X pins σ H s):Mod X.K X.mg X.base:=I.ok.mod
theorem Inv.kIn (I:Inv X pins σ H s):X.K.In s.heap:=I.ok.mod.kin.keeps I.bk
theorem Inv.lt (I:Inv X pins σ H s):X.env.locals<s.heap.objs.size:=let ⟨_,hn,_⟩:=I.loc;hn.lt
theorem Inv.sz (I:Inv X pins σ H s):X.s₀.heap.objs.size<=s.heap.objs.size:=Nat.le_trans I.ok.above (Nat.le_of_lt I.lt)
theorem Inv.nofs (I:Inv X pins σ H s) {a:Addr} (h:s.heap.objs.size<=a):a ∉ X.fs:=fun hb=>by
 obtain ⟨_,o,ho,_⟩:=I.ok.funs.mem hb
 exact absurd (q_m (q_h ho) (Nat.le_trans I.sz h)) (Nat.lt_irrefl _)
theorem Inv.cne (I:Inv X pins σ H s):∀x c,X.env.cells.lookup x=some c->c≠X.env.locals:=fun x c e z=>by
 obtain ⟨v,o,ho,hd⟩:=I.cell x c e
 obtain ⟨m,⟨o',es,ep,ho',hd',_⟩,_⟩:=I.loc
 rw [z,ho'] at ho;cases ho;rw [hd'] at hd;cases hd
theorem Inv.funs (I:Inv X pins σ H s):s.heap.FunFrames X.base X.outer:=by
 have all:∀(l:List Env),(∀b∈frs l,b∈X.fs)->X.s₀.heap.FunFrames X.base l->s.heap.FunFrames X.base l:=by
  intro l
  induction l with
  | nil=>intro _ _;trivial
  | cons env r ih =>
   intro hs hl
   obtain ⟨hk,⟨L,o,hf,hn,ho,hd⟩,hr⟩:=hl
   have hL:L∈X.fs:=hs L (by unfold frs;rw [List.filterMap_cons,hf];exact List.mem_cons_self)
   obtain ⟨sl,e⟩:=I.base.slot L o ho (I.ok.frf L hL) hL fun z=>I.ok.exfs L z hL
   exact ⟨hk,⟨L,_,hf,hn,e,hd⟩,ih (fun b hb=>hs b (by unfold frs;rw [List.filterMap_cons,hf];exact q_s _ hb)) hr⟩
 exact all X.outer (fun _ hb=>hb) I.ok.funs
theorem Inv.stack (I:Inv X pins σ H s):s.heap.FunFrames X.base X.stack:=by
 rcases I.ok.stk with e | ⟨e,hf⟩
 ·rw [e];exact I.funs
 ·rw [e]
  obtain ⟨m,hn,_⟩:=I.loc
  refine .cons (by rw [I.ok.kind];decide) hf hn ?_ I.funs
  exact Heap.get?_none_of_le (Nat.le_trans I.ok.bsz I.ok.above)
theorem Inv.stkSub (I:Inv X pins σ H s):∀b∈frs X.stack,b∈X.env.locals::X.fs:=fun b hb=>by
 rcases I.ok.stk with e | ⟨e,hf⟩
 ·rw [e] at hb;exact q_s _ hb
 ·rw [e] at hb
  unfold frs at hb
  rw [List.filterMap_cons,hf] at hb
  exact hb
theorem Inv.stkFree (I:Inv X pins σ H s):∀b∈frs X.stack,H b=none:=fun b hb=>by
 rcases q_n.mp (I.stkSub b hb) with e | hb
 ·rw [e];exact I.free
 ·obtain ⟨_,o,ho,_⟩:=I.ok.funs.mem hb
  exact I.base.free b o ho (I.ok.frf b hb) fun z=>I.ok.exfs b z hb
theorem Inv.step {g':Array GenState} {t':Nat} {d':Drawn} {ch:List Addr} (I:Inv X pins σ H s)
  (hch:∀b∈ch,(b∈X.ex\/X.s₀.heap.objs.size<=b)/\b≠X.env.locals/\(∀x c,X.env.cells.lookup x=some c->c≠b)/\∀p∈X.pn++pins,p.1≠b)
  (keep:∀b o,b≠X.env.locals->b ∉ X.fs->b ∉ ch->s.heap.get? b=some o->H b=none->h'.get? b=some o)
  (slot:∀b o,b≠X.env.locals->b∈X.fs->b ∉ ch->s.heap.get? b=some o->H b=none->∃sl,h'.get? b=some { o with slots:=sl }) (free:∀b o,b ∉ ch->s.heap.get? b=some o->H b=none->H' b=none)
  (there:∀b o,b ∉ ch->s.heap.get? b=some o->∃o',h'.get? b=some o')
  (tups:∀b xs,H b=some (.tup xs)->H' b=some (.tup xs)) (frzs:∀b o u,H b=some (.frz o u)->H' b=some (.frz o u)) (tbls:∀b ps,H b=some (.tbl ps)->∃more,H' b=some (.tbl (ps++more)))
  (ns:∀m,s.heap.Ns X.env.locals m->h'.Ns X.env.locals m) (hok:HOk X.prog X.w H' h') (hg:AllBare g') :
  Inv X pins σ H' { s with heap:=h',gens:=g',drawn:=d',toks:=t' }:=by
 have neL:∀b o,X.s₀.heap.get? b=some o->b≠X.env.locals:=fun b o e=>q_l (q_m (q_h e) I.ok.above)
 have neC:∀b o,X.s₀.heap.get? b=some o->b ∉ X.ex->b ∉ ch:=fun b o e hx hb=>by
  rcases (hch b hb).1 with z | z
  · exact hx z
  · exact absurd (q_m (q_h e) z) (Nat.lt_irrefl _)
 have cellK:∀x c,X.env.cells.lookup x=some c->∀v,s.heap.IsCell c v->h'.IsCell c v:=fun x c e v ⟨o,ho,hd⟩=>by
  have nch:c ∉ ch:=fun z=>(hch c z).2.2.1 x c e rfl
  by_cases hc:c∈X.fs
  · obtain ⟨sl,q⟩:=slot c o (I.cne x c e) hc nch ho (I.freeC x c e)
    exact ⟨_,q,hd⟩
  · exact ⟨o,keep c o (I.cne x c e) hc nch ho (I.freeC x c e),hd⟩
 refine ⟨I.ok,I.os,hg,⟨fun b o e n hb hx=>?_,fun b o e n hb hx=>?_,fun b o e n hx=>?_,fun b o e hx=>?_,fun b xs e=>tups b xs (I.base.tups b xs e),fun b o xs e=>frzs b o xs (I.base.frzs b o xs e),fun b ps e=>?_⟩,?_,fun x c e=>?_,?_,fun x c e=>?_,fun p hp=>?_,hok,I.len⟩
 ·exact keep b o (neL b o e) hb (neC b o e hx) (I.base.keep b o e n hb hx) (I.base.free b o e n hx)
 ·obtain ⟨sl,e1⟩:=I.base.slot b o e n hb hx
  obtain ⟨sl',e2⟩:=slot b _ (neL b o e) hb (neC b o e hx) e1 (I.base.free b o e n hx)
  exact ⟨sl',e2⟩
 ·obtain ⟨o',e1⟩:=I.base.there b o e hx
  exact free b o' (neC b o e hx) e1 (I.base.free b o e n hx)
 ·obtain ⟨o',e1⟩:=I.base.there b o e hx
  exact there b o' (neC b o e hx) e1
 ·obtain ⟨m1,e1⟩:=I.base.tbls b ps e
  obtain ⟨m2,e2⟩:=tbls b _ e1
  exact ⟨m1++m2,by rw [e2,Array.append_assoc]⟩
 ·obtain ⟨m,hn,hl⟩:=I.loc
  refine ⟨m,ns m hn,fun i x v e1 e2 e3=>?_⟩
  obtain ⟨u,r,l⟩:=hl i x v e1 e2 e3
  refine ⟨u,r,?_⟩
  rcases l with l | ⟨k,c,e,z⟩
  · exact .inl l
  · exact .inr ⟨k,c,e,cellK x c e _ z⟩
 ·obtain ⟨v,z⟩:=I.cell x c e
  exact ⟨v,cellK x c e v z⟩
 ·obtain ⟨m,⟨o,_,_,ho,_⟩,_⟩:=I.loc
  exact free _ o (fun z=>(hch _ z).2.1 rfl) ho I.free
 ·obtain ⟨v,o,ho,hd⟩:=I.cell x c e
  exact free c o (fun z=>(hch c z).2.2.1 x c e rfl) ho (I.freeC x c e)
 ·obtain ⟨e,n,ne,nf,d⟩:=I.pin p hp
  have nch:p.1 ∉ ch:=fun z=>(hch p.1 z).2.2.2 p hp rfl
  exact ⟨keep p.1 p.2 ne nf nch e n,free p.1 p.2 nch e n,ne,nf,d⟩
theorem Inv.un {t':Nat} (I:Inv X pins σ H s) (u:Un X.fs [] H H' s.heap h') (hok:HOk X.prog X.w H' h'):Inv X pins σ H' { s with heap:=h',toks:=t' }:=by
 obtain ⟨m,⟨o,es,ep,ho,r⟩,_⟩:=id I.loc
 obtain ⟨sl,hL⟩:=u.any ho I.free (by simp)
 exact I.step (g':=s.gens) (d':=s.drawn) (ch:=[]) (fun _ z=>nomatch z) (fun b o _ hb _ e n=>u.keep b o e n hb (by simp)) (fun b o _ hb _ e n=>u.slot b o e n hb (by simp)) (fun b o _ e n=>u.free b o e n (by simp)) (fun b o _ e=>u.there b o e (by simp)) u.tups u.frzs u.tbls (fun m' hm=>by
  obtain ⟨o',es',ep',ho',r'⟩:=hm
  rw [ho] at ho';cases ho'
  exact ⟨_,es',ep',hL,r'⟩) hok I.bare
theorem Inv.call {g':Array GenState} {t':Nat} {d':Drawn} {ch:List Addr} (I:Inv X pins σ H s) (u:Un (frs X.stack) ch H H' s.heap h') (hok:HOk X.prog X.w H' h') (hg:AllBare g')
  (hch:∀b∈ch,(b∈X.ex\/X.s₀.heap.objs.size<=b)/\b≠X.env.locals/\(∀x c,X.env.cells.lookup x=some c->c≠b)/\∀p∈X.pn++pins,p.1≠b) :
  Inv X pins σ H' { s with heap:=h',gens:=g',drawn:=d',toks:=t' }:=by
 obtain ⟨m,⟨o,es,ep,ho,r⟩,_⟩:=id I.loc
 obtain ⟨sl,hL⟩:=u.any ho I.free fun z=>(hch _ z).2.1 rfl
 exact I.step (ch:=ch) hch (fun b o hL hb hc e n=>u.keep b o e n (fun z=>(q_n.mp (I.stkSub b z)).elim hL hb) hc) (fun b o _ _ hc e n=>u.any e n hc) (fun b o hc e n=>u.free b o e n hc) (fun b o hc e=>u.there b o e hc) u.tups u.frzs u.tbls (fun m' hm=>by
  obtain ⟨o',es',ep',ho',r'⟩:=hm
  rw [ho] at ho';cases ho'
  exact ⟨_,es',ep',hL,r'⟩) hok hg
theorem Inv.turned {t':Nat} {it:Addr} (I:Inv X pins σ H s) (k:∀b o,b≠it->s.heap.get? b=some o->h'.get? b=some o) (hn:H it=none) (hL:it≠X.env.locals)
  (h1:it∈X.ex\/X.s₀.heap.objs.size<=it) (h2:∀x c,X.env.cells.lookup x=some c->c≠it) (h3:∀p∈X.pn++pins,p.1≠it):Inv X pins σ H { s with heap:=h',toks:=t' }:=by
 have nit:∀b u,H b=some u->b≠it:=fun b u e z=>by rw [z,hn] at e;cases e
 refine I.step (g':=s.gens) (d':=s.drawn) (ch:=[it]) (fun b hb=>?_) (fun b o _ _ hc e _=>k b o (fun z=>hc (by simp [z])) e) (fun b o _ _ hc e _=>⟨o.slots,k b o (fun z=>hc (by simp [z])) e⟩) (fun _ _ _ _ n=>n)
  (fun b o hc e=>⟨o,k b o (fun z=>hc (by simp [z])) e⟩) (fun _ _ e=>e) (fun _ _ _ e=>e) (fun b ps e=>⟨#[],by rw [e];simp⟩) (fun m hm=>?_) (fun b u e=>?_) I.bare
 ·have e:b=it:=by simpa using hb
  subst e
  exact ⟨h1,hL,h2,h3⟩
 ·obtain ⟨o,es,ep,ho,r⟩:=hm
  exact ⟨o,es,ep,k _ o (Ne.symm hL) ho,r⟩
 ·refine (I.hok b u e).stay (fun c v hc q=>k c v ?_ q) (fun _ q=>q) fun _ _ q=>q
  rcases hc with z | z
  · rw [z];exact nit b u e
  · exact nit c _ z
theorem Inv.tok (I:Inv X pins σ H s) (t:Nat):Inv X pins σ H { s with toks:=t }:=I.un (h':=s.heap) (t':=t) Un.refl I.hok
theorem Inv.kept {t':Nat} (I:Inv X pins σ H s) (k:∀b u,s.heap.get? b=some u->h'.get? b=some u):Inv X pins σ H { s with heap:=h',toks:=t' }:=I.un (Un.kept k) (I.hok.kept k)
theorem Inv.laid {a:Addr} {o:HO} {t':Nat} (I:Inv X pins σ H s) (k:∀b u,s.heap.get? b=some u->h'.get? b=some u) (hp:s.heap.objs.size<=a) (new:ObjOk X.prog X.w (upd H a o) h' a o) :
 Inv X pins σ (upd H a o) { s with heap:=h',toks:=t' }:=I.un (Un.laid k hp (I.hok.fresh hp)) (I.hok.laid k hp new)
theorem Inv.write {x e:Addr} {o:HO} {t':Nat} (I:Inv X pins σ H s) (mu:Mut (H x)) (he:e=x\/H e=some (.own x)) (k:∀b u,b≠e->s.heap.get? b=some u->h'.get? b=some u) (heo:∃u,h'.get? e=some u)
 (new:ObjOk X.prog X.w (upd H x o) h' x o):Inv X pins σ (upd H x o) { s with heap:=h',toks:=t' }:=I.un (Un.write mu he k heo) (I.hok.write mu he k heo new)
theorem Inv.weak {σ':List (Option V)} (I:Inv X pins σ H s) (hl:σ'.length=σ.length) (w:∀(i:Nat) v,σ'[i]? = some (some v)->σ[i]? = some (some v)):Inv X pins σ' H s :=
 ⟨I.ok,I.os,I.bare,I.base,let ⟨m,hn,hl'⟩:=I.loc;⟨m,hn,fun i x v e1 e2 e3=>hl' i x v e1 (w i v e2) e3⟩,I.cell,I.free,I.freeC,I.pin,I.hok,hl.trans I.len⟩
theorem Inv.pins_of {pins':List (Addr×Obj)} (I:Inv X pins σ H s) (h:∀p∈pins',s.heap.get? p.1=some p.2/\H p.1=none/\p.1≠X.env.locals/\p.1 ∉ X.fs/\∀v,p.2.data≠.cell v):Inv X pins' σ H s :=
 ⟨I.ok,I.os,I.bare,I.base,I.loc,I.cell,I.free,I.freeC,fun p hp=>(List.mem_append.mp hp).elim (fun z=>I.pin p (List.mem_append_left _ z)) (h p),I.hok,I.len⟩
theorem JGa {N:List Str} (hN:N.Nodup) {i j:Nat} {x:Str} (a:N[i]? = some x) (b:N[j]? = some x):i=j:=by
 obtain ⟨h1,e1⟩:=q_p.mp a
 obtain ⟨h2,e2⟩:=q_p.mp b
 exact (List.getElem_inj hN).mp (e1.trans e2.symm)
theorem JEY {M:Model} {A:Around} {E:Value->Shared->Prop} {i:Nat} {x:Str} {v:V} {u:Value} {Q:Unit->Shared->Prop} (I:Inv X pins σ H s) (hN:X.N.Nodup) (hi:X.N[i]? = some x) (hx:Loc X.env.scope x) (r:RelV v u)
  (h:∀s',Inv X pins (σ.set i (some v)) H s'->(∃a,Heap.SameBut a s.heap s'.heap/\(a=X.env.locals\/X.env.cells.lookup x=some a))->Q () s') (hf:X.fn x=true\/X.env.scope.names.lookup x=some .local:=by first | exact .inl rfl | exact .inr rfl | assumption):wpAny M A (storeName X.env x u) Q E s:=by
 obtain ⟨m,hn,hl⟩:=id I.loc
 have hcls:(X.env.scope.kind==.class || (X.env.scope.kind==.module&&X.env.locals != X.env.globals))=false:=by rw [I.ok.kind];rfl
 have hiσ:i<σ.length:=by rw [I.len];exact (q_p.mp hi).1
 have cne:=I.cne
 have tracked:∀ {a:Addr} {h':Heap},(∃o,s.heap.get? a=some o/\H a=none)->Heap.SameBut a s.heap h'->HOk X.prog X.w H h':=fun {a h'} ha hs b ob e=>by
  obtain ⟨_,_,hfree⟩:=ha
  refine (I.hok b ob e).stay (fun c w' hc q=>(hs.2 c ?_).trans q) (fun _ q=>q) fun _ _ q=>q
  rintro rfl
  rcases hc with rfl | hc
  · rw [hfree] at e;cases e
  · rw [hfree] at hc;cases hc
 rcases hx with hk | hk
 ·refine wpAny_storeName_local hk hn (fun h' hn' hs=>?_) hcls
  obtain ⟨oL,_,_,hoL,_⟩:=id hn
  refine h _ ⟨I.ok,I.os,I.bare,⟨fun b o e n hb hx=>?_,fun b o e n hb hx=>?_,I.base.free,fun b o e hx=>?_,I.base.tups,I.base.frzs,I.base.tbls⟩,⟨_,hn',fun j y v' e1 e2 e3=>?_⟩,fun y c e=>?_,I.free,I.freeC,fun p hp=>?_,tracked ⟨oL,hoL,I.free⟩ hs,by simpa using I.len⟩ ⟨_,hs,.inl rfl⟩
  · exact (hs.2 b (q_l (q_m (q_h e) I.ok.above))).trans (I.base.keep b o e n hb hx)
  · obtain ⟨sl,e1⟩:=I.base.slot b o e n hb hx
    exact ⟨sl,(hs.2 b (q_l (q_m (q_h e) I.ok.above))).trans e1⟩
  · obtain ⟨o',e1⟩:=I.base.there b o e hx
    exact ⟨o',(hs.2 b (q_l (q_m (q_h e) I.ok.above))).trans e1⟩
  · by_cases hj:j=i
    ·subst hj
     rw [hi] at e1;cases e1
     rw [q_z hiσ] at e2
     cases e2
     exact ⟨u,r,.inl ⟨hk,by simp⟩⟩
    ·rw [q_A (Ne.symm hj)] at e2
     obtain ⟨u',r',q⟩:=hl j y v' e1 e2 e3
     refine ⟨u',r',?_⟩
     rcases q with ⟨k,e⟩ | ⟨k,c,e,z⟩
     ·refine .inl ⟨k,?_⟩
      have:y≠x:=fun e=>hj (JGa hN e1 (e▸hi))
      simp [this,e]
     ·exact .inr ⟨k,c,e,z.sameBut hs (cne y c e)⟩
  · obtain ⟨w',z⟩:=I.cell y c e
    exact ⟨w',z.sameBut hs (cne y c e)⟩
  · obtain ⟨e,n,ne,nf,d⟩:=I.pin p hp
    exact ⟨(hs.2 p.1 ne).trans e,n,ne,nf,d⟩
 ·have hfn:X.fn x=true:=by
    rcases hf with z | z
    ·exact z
    ·rw [z] at hk;cases hk
  obtain ⟨c,hc⟩:=I.ok.has x (.inl hk)
  obtain ⟨w',z⟩:=I.cell x c hc
  refine wpAny_storeName_cell I.ok.kind hk hc z (fun h' hc' hs=>?_)
  obtain ⟨oc,hoc,hocd⟩:=id z
  refine h { s with heap:=h' } ⟨I.ok,I.os,I.bare,⟨fun b o e n hb hx=>?_,fun b o e n hb hx=>?_,I.base.free,fun b o e hx=>?_,I.base.tups,I.base.frzs,I.base.tbls⟩,⟨m,hn.sameBut hs (Ne.symm (cne x c hc)),fun j y v' e1 e2 e3=>?_⟩,fun y c' e=>?_,I.free,I.freeC,fun p hp=>?_,tracked ⟨oc,hoc,I.freeC x c hc⟩ hs,by simpa using I.len⟩ ⟨c,hs,.inr hc⟩
  · exact (hs.2 b (q_l (q_m (q_h e) (I.ok.cab x c hfn hc)))).trans (I.base.keep b o e n hb hx)
  · obtain ⟨sl,e1⟩:=I.base.slot b o e n hb hx
    exact ⟨sl,(hs.2 b (q_l (q_m (q_h e) (I.ok.cab x c hfn hc)))).trans e1⟩
  · obtain ⟨o',e1⟩:=I.base.there b o e hx
    exact ⟨o',(hs.2 b (q_l (q_m (q_h e) (I.ok.cab x c hfn hc)))).trans e1⟩
  · by_cases hj:j=i
    ·subst hj
     rw [hi] at e1;cases e1
     rw [q_z hiσ] at e2
     cases e2
     exact ⟨u,r,.inr ⟨.inl hk,c,hc,hc'⟩⟩
    ·rw [q_A (Ne.symm hj)] at e2
     obtain ⟨u',r',q⟩:=hl j y v' e1 e2 e3
     refine ⟨u',r',?_⟩
     rcases q with q | ⟨k,c',e,z'⟩
     ·exact .inl q
     ·refine .inr ⟨k,c',e,z'.sameBut hs ?_⟩
      rintro rfl
      exact hj (JGa hN e1 (I.ok.inj _ _ _ e hc▸hi))
  · by_cases hcc:c'=c
    ·subst hcc;exact ⟨_,hc'⟩
    ·obtain ⟨w2,z2⟩:=I.cell y c' e
     exact ⟨w2,z2.sameBut hs hcc⟩
  · obtain ⟨e,n,ne,nf,d⟩:=I.pin p hp
    refine ⟨(hs.2 p.1 ?_).trans e,n,ne,nf,d⟩
    intro q
    rw [q,hoc] at e
    have q':oc=p.2:=Option.some.inj e
    exact d w' (by rw [<-q'];exact hocd)
theorem JCp {M:Model} {A:Around} {E:Value->Shared->Prop} {i:Nat} {x:Str} {v:V} {u:Value} {Q:Unit->Shared->Prop} (I:Inv X pins σ H s) (hN:X.N.Nodup) (hi:X.N[i]? = some x) (hx:Loc X.env.scope x) (r:RelV v u)
  (h:∀s',Inv X pins (σ.set i (some v)) H s'->Q () s') (hf:X.fn x=true\/X.env.scope.names.lookup x=some .local:=by first | exact .inl rfl | exact .inr rfl | assumption):wpAny M A (storeName X.env x u) Q E s :=
 JEY I hN hi hx r (fun s' I' _=>h s' I') hf
theorem Inv.call' {s':Shared} {ch:List Addr} (I:Inv X pins σ H s) (ho:s'.os=s.os) (u:Un (frs X.stack) ch H H' s.heap s'.heap) (hok:HOk X.prog X.w H' s'.heap) (hg:AllBare s'.gens)
  (hch:∀b∈ch,(b∈X.ex\/X.s₀.heap.objs.size<=b)/\b≠X.env.locals/\(∀x c,X.env.cells.lookup x=some c->c≠b)/\∀p∈X.pn++pins,p.1≠b):Inv X pins σ H' s':=by
 obtain ⟨h',g',d',t',o'⟩:=s'
 have e:o'=s.os:=ho
 subst e
 exact I.call (g':=g') (t':=t') (d':=d') u hok hg hch
end
noncomputable abbrev XK:=Value->Option Addr->Hp->Prop
noncomputable abbrev St:=List (Option V)
noncomputable abbrev VK:=V->Hp->Prop
noncomputable abbrev TE:=St->Hp->VK->Prop
noncomputable abbrev TT:=St->Hp->(Bool->Hp->Prop)->Prop
noncomputable abbrev TA:=St->Hp->(List V->Hp->Prop)->Prop
structure Ends where
 nx:St->Hp->Prop
 rt:VK
 bk:St->Hp->Prop:=fun _ _=>False
 ct:St->Hp->Prop:=fun _ _=>False
noncomputable abbrev TS:=Ends->St->Hp->Prop
noncomputable def EP (X:Cx) (pins:List (Addr×Obj)) (σ:St) (Q:VK) (u:Value) (s':Shared):Prop:=∃v H',Inv X pins σ H' s'/\RelV v u/\Q v H'
noncomputable def TP (X:Cx) (pins:List (Addr×Obj)) (σ:St) (Q:Bool->Hp->Prop) (b:Bool) (s':Shared):Prop:=∃H',Inv X pins σ H' s'/\Q b H'
noncomputable def AP (X:Cx) (pins:List (Addr×Obj)) (σ:St) (Q:List V->Hp->Prop) (us:List Value) (s':Shared):Prop:=∃vs H',Inv X pins σ H' s'/\Vals vs us/\Q vs H'
noncomputable def SP (X:Cx) (pins:List (Addr×Obj)) (D:Ends) (f:Flow) (s':Shared):Prop :=
 match f with
 | .next=>∃σ' H',Inv X pins σ' H' s'/\D.nx σ' H'
 | .brk=>∃σ' H',Inv X pins σ' H' s'/\D.bk σ' H'
 | .cont=>∃σ' H',Inv X pins σ' H' s'/\D.ct σ' H'
 | .ret u=>∃v σ' H',Inv X pins σ' H' s'/\RelV v u/\D.rt v H'
noncomputable def PE (X:Cx) (e:Expr) (t:TE):Prop :=
 ∀(pins:List (Addr×Obj)) (s:Shared) (σ:St) (H:Hp) (Q:VK),Inv X pins σ H s->t σ H Q->wpAny (model X.prog X.w) X.A (eval e X.env) (EP X pins σ Q) X.xe s
noncomputable def PT (X:Cx) (e:Expr) (t:TT):Prop :=
 ∀(pins:List (Addr×Obj)) (s:Shared) (σ:St) (H:Hp) (Q:Bool->Hp->Prop),Inv X pins σ H s->t σ H Q->wpAny (model X.prog X.w) X.A (isTrue e X.env (eval e X.env)) (TP X pins σ Q) X.xe s
noncomputable def PW (X:Cx) (e:Expr) (t:TT):Prop :=
 ∀(whole:Sem Value) (pins:List (Addr×Obj)) (s:Shared) (σ:St) (H:Hp) (Q:Bool->Hp->Prop),Inv X pins σ H s->t σ H Q->wpAny (model X.prog X.w) X.A (isTrue e X.env whole) (TP X pins σ Q) X.xe s
theorem PW.pt {X:Cx} {e:Expr} {t:TT} (h:PW X e t):PT X e t:=h _
noncomputable def PA (X:Cx) (es:List Expr) (t:TA):Prop :=
 ∀(pos:Pos) (pins:List (Addr×Obj)) (s:Shared) (σ:St) (H:Hp) (Q:List V->Hp->Prop),Inv X pins σ H s->t σ H Q->wpAny (model X.prog X.w) X.A (spliced (backTo pos (starEach es X.env))) (AP X pins σ Q) X.xe s
noncomputable def PS (X:Cx) (st:Stmt) (t:TS):Prop :=
 ∀(pins:List (Addr×Obj)) (s:Shared) (σ:St) (H:Hp) (D:Ends),Inv X pins σ H s->t D σ H->wpAny (model X.prog X.w) X.A (exec st X.env) (SP X pins D) X.xe s
noncomputable def PSs (X:Cx) (st:List Stmt) (t:TS):Prop :=
 ∀(pins:List (Addr×Obj)) (s:Shared) (σ:St) (H:Hp) (D:Ends),Inv X pins σ H s->t D σ H->wpAny (model X.prog X.w) X.A (execs st X.env) (SP X pins D) X.xe s
theorem thn {α:Type} {t:Sem α} {Q Q':α->Shared->Prop} {M:Model} {A:Around} {E:Value->Shared->Prop} {s:Shared} (h:wpAny M A t Q E s) (hQ:∀a s,Q a s->Q' a s):wpAny M A t Q' E s:=wpAny_mono h hQ fun _ _ x=>x
end L2
namespace L2
open PySem PySem.Spec PyProof.Rows
section
variable {X:Cx}
theorem bin {a b:Expr} {ta tb:TE} (ha:PE X a ta) (hb:PE X b tb) {pins:List (Addr×Obj)} {s:Shared} {σ:St} {H:Hp} {R:V->V->Hp->Prop} (I:Inv X pins σ H s) (h:ta σ H fun x H1=>tb σ H1 fun y H2=>R x y H2)
  {α:Type} {Q:α->Shared->Prop} {f:Value->Value->Sem α}
  (hf:∀v u s2 x y H2,Inv X pins σ H2 s2->RelV x v->RelV y u->R x y H2->wpAny (model X.prog X.w) X.A (f v u) Q X.xe s2) :
  wpAny (model X.prog X.w) X.A (eval a X.env) (fun v s₁=>wpAny (model X.prog X.w) X.A (eval b X.env) (fun u s₂=>wpAny (model X.prog X.w) X.A (f v u) Q X.xe s₂) X.xe s₁) X.xe s:=by
 refine thn (ha pins s σ H _ I h) fun v s1 ⟨x,H1,I1,r1,q1⟩=>?_
 refine thn (hb pins s1 σ H1 _ I1 q1) fun u s2 ⟨y,H2,I2,r2,q2⟩=>?_
 exact hf v u s2 x y H2 I2 r1 r2 q2
noncomputable def tVar (i:Nat):TE:=fun σ H Q=>∃v,σ[i]? = some (some v)/\Q v H
noncomputable def tC (v:V):TE:=fun _ H Q=>Q v H
theorem JHp {i:Nat} {x:Str} {pos:Pos} (hN:X.N[i]? = some x) (hv:Vis X.env.scope x) (hd:(x==("__debug__":Str))=false:=by decide) (hcd:(x==("__classdict__":Str))=false:=by decide):PE X (.Name x pos) (tVar i):=by
 intro pins s σ H Q I h
 obtain ⟨v,e,h⟩:=h
 obtain ⟨m,hn,hl⟩:=I.loc
 obtain ⟨u,r,l⟩:=hl i x v hN e hv
 have fin:EP X pins σ Q u s:=⟨v,H,I,r,h⟩
 rcases l with ⟨hk,hm⟩ | ⟨hk,c,hc,hcell⟩
 ·exact wpAny_Name (wpAny_loadName_local I.ok.kind hk hn hm fin) hd
 ·rcases hk with hk | hk
  ·exact wpAny_Name (wpAny_loadName_cell I.ok.kind hk hc hcell fin) hd
  ·exact wpAny_Name (wpAny_loadName_free I.ok.kind hk hc hcell fin hcd) hd
theorem JE2 {i j pos}:PE X (.Constant (.int i) j pos) (tC (.int i)):=fun _ _ _ H _ I h=>wpAny_Constant_int ⟨.int i,H,I.tok _,⟨_,rfl⟩,h⟩
theorem JHy {b j pos}:PE X (.Constant (.bool b) j pos) (tC (.bl b)):=fun _ _ _ H _ I h=>Constant_bool ⟨.bl b,H,I,rfl,h⟩
theorem JPR {j pos}:PE X (.Constant .none j pos) (tC .non):=fun _ _ _ H _ I h=>Constant_none ⟨.non,H,I,rfl,h⟩
theorem JQV {x j pos}:PE X (.Constant (.str x) j pos) (tC (.str x)):=fun _ _ _ H _ I h=>Calls.Constant_str ⟨.str x,H,I.tok _,⟨_,rfl⟩,h⟩
noncomputable def Gl (X:Cx) (x:Str):Prop:=X.env.kindOf x=some .globalImplicit
theorem JFm {E:Value->Shared->Prop} {pins:List (Addr×Obj)} {s:Shared} {σ:St} {H:Hp} {x:Str} {u:Value} {pos:Pos} {Q:Value->Shared->Prop} (I:Inv X pins σ H s) (hg:Gl X x) (hm:X.mg x=some u) (h:Q u s)
  (hd:(x==("__debug__":Str))=false:=by decide):wpAny (model X.prog X.w) X.A (eval (.Name x pos) X.env) Q E s :=
 Calls.Name_function_global I.ok.kind hg (Calls.loadGlobal_global (by rw [I.ok.glob];exact I.mod.glob.keeps I.bk) hm h) hd
theorem JDf {E:Value->Shared->Prop} {pins:List (Addr×Obj)} {s:Shared} {σ:St} {H:Hp} {x:Str} {u:Value} {pos:Pos} {Q:Value->Shared->Prop} (I:Inv X pins σ H s) (hg:Gl X x) (hm:X.mg x=none) (hv:bootBuiltins x=some u) (h:Q u s)
  (hn:x≠"__name__":=by decide) (hd:(x==("__debug__":Str))=false:=by decide):wpAny (model X.prog X.w) X.A (eval (.Name x pos) X.env) Q E s:=by
 obtain ⟨mb,h1,h2⟩:=I.mod.blt
 exact Calls.Name_function_global I.ok.kind hg (Calls.loadGlobal_builtin (by rw [I.ok.glob];exact I.mod.glob.keeps I.bk) hm (by rw [I.ok.blt];exact h1.keeps I.bk) ((h2 x hn).trans hv) h) hd
theorem JH2 {x:Str} {v:V} {u:Value} {pos:Pos} (hg:Gl X x) (hm:X.mg x=some u) (r:RelV v u) (hd:(x==("__debug__":Str))=false:=by decide):PE X (.Name x pos) (tC v) :=
 fun _ _ _ H _ I h=>JFm I hg hm ⟨v,H,I,r,h⟩ hd
theorem JOC {x:Str} {v:V} {u:Value} {pos:Pos} (hg:Gl X x) (hm:X.mg x=none) (hv:bootBuiltins x=some u) (r:RelV v u) (hn:x≠"__name__":=by decide) (hd:(x==("__debug__":Str))=false:=by decide):PE X (.Name x pos) (tC v) :=
 fun _ _ _ H _ I h=>JDf I hg hm hv ⟨v,H,I,r,h⟩ hn hd
variable {a b:Expr} {ta tb:TE} {pos:Pos}
noncomputable def PC (X:Cx) (op:CmpOp) (a b:Expr) (t:TE):Prop :=
 ∀(pins:List (Addr×Obj)) (s:Shared) (σ:St) (H:Hp) (Q:VK),Inv X pins σ H s->t σ H Q ->
  wpAny (model X.prog X.w) X.A (eval a X.env) (fun v s₁=>wpAny (model X.prog X.w) X.A (eval b X.env) (fun u s₂=>wpAny (model X.prog X.w) X.A (compareOp op v u) (EP X pins σ Q) X.xe s₂) X.xe s₁) X.xe s
theorem JGJ (b:Expr) {op:CmpOp} (h:op≠.In) (h2:op≠.NotIn):behindInMarks op b=false:=by
 have e1:(op==CmpOp.In)=false:=by cases op<;>first | rfl | exact absurd rfl h
 have e2:(op==CmpOp.NotIn)=false:=by cases op<;>first | rfl | exact absurd rfl h2
 cases b<;>simp [behindInMarks,e1,e2]
noncomputable def tIsN (ta:TE):TE:=fun σ H Q=>ta σ H fun x H1=>Q (.bl (decide (x=.non))) H1
noncomputable def tNotN (ta:TE):TE:=fun σ H Q=>ta σ H fun x H1=>Q (.bl (!decide (x=.non))) H1
theorem RelV.none_iff {x:V} {v:Value} (r:RelV x v):(v==Value.none)=decide (x=.non):=by
 cases x with
 | non=>cases r;rfl
 | bl _=>cases r;rfl
 | int _=>obtain ⟨t,rfl⟩:=r;rfl
 | str _=>obtain ⟨t,rfl⟩:=r;rfl
 | byt _=>obtain ⟨t,rfl⟩:=r;rfl
 | flt _=>obtain ⟨t,rfl⟩:=r;rfl
 | ref _=>cases r;rfl
 | ty _=>cases r;rfl
theorem JLj {j pos'} (ha:PE X a ta):PC X .Is a (.Constant .none j pos') (tIsN ta):=by
 intro pins s σ H Q I h
 refine thn (ha pins s σ H _ I h) fun v s1 ⟨x,H1,I1,r1,q1⟩=>?_
 exact Constant_none (is_none_gen ⟨.bl _,H1,I1,by rw [r1.none_iff];rfl,q1⟩)
theorem JHI {j pos'} (ha:PE X a ta):PC X .IsNot a (.Constant .none j pos') (tNotN ta):=by
 intro pins s σ H Q I h
 refine thn (ha pins s σ H _ I h) fun v s1 ⟨x,H1,I1,r1,q1⟩=>?_
 exact Constant_none (isnot_none_gen ⟨.bl _,H1,I1,by rw [r1.none_iff];rfl,q1⟩)
noncomputable def tB (t:TE):TT:=fun σ H Q=>t σ H fun x H1=>∃c,x=.bl c/\Q c H1
theorem JLd {op:CmpOp} {t:TE} (h:PC X op a b t) (h1:behindInMarks op b=false:=by first | exact JGJ _ (by decide) (by decide) | rfl):PE X (.Compare a [op] [b] pos) t:=fun pins s σ H Q I hw=>wpAny_Compare1 (h pins s σ H Q I hw) h1
theorem JMW {op:CmpOp} {t:TE} (h:PC X op a b t) (h1:behindInMarks op b=false:=by first | exact JGJ _ (by decide) (by decide) | rfl):PT X (.Compare a [op] [b] pos) (tB t):=by
 intro pins s σ H Q I hw
 refine wpAny_isTrue_Compare1 (thn (h pins s σ H _ I hw) fun v s1 h1=>thn h1 fun u s2 h2=>thn h2 fun c s3 ⟨x,H1,I1,r1,q1⟩=>?_) h1
 obtain ⟨d,rfl,q⟩:=q1
 cases r1
 exact wpAny_truthy_bool ⟨H1,I1,q⟩
variable {tA tB':TT} {rest:List Expr}
noncomputable def tAnd (t u:TT):TT:=fun σ H Q=>t σ H fun c H1=>if c=true then u σ H1 Q else Q false H1
noncomputable def tOr (t u:TT):TT:=fun σ H Q=>t σ H fun c H1=>if c=true then Q true H1 else u σ H1 Q
noncomputable def tNot (t:TT):TT:=fun σ H Q=>t σ H fun c H1=>Q (!c) H1
theorem JNl (ha:PT X a tA):PW X (.BoolOp .And [a] pos) tA:=by
 intro wh pins s σ H Q I h
 refine isTrue_and (thn (ha pins s σ H Q I h) fun c s1 e=>?_)
 cases c with
 | true=>exact isTrue_and_nil e
 | false=>exact e
theorem JQn (ha:PT X a tA):PW X (.BoolOp .Or [a] pos) tA:=by
 intro wh pins s σ H Q I h
 refine isTrue_or (thn (ha pins s σ H Q I h) fun c s1 e=>?_)
 cases c with
 | false=>exact isTrue_or_nil e
 | true=>exact e
theorem JQY (ha:PT X a tA) (hb:PW X (.BoolOp .And (b::rest) pos) tB'):PW X (.BoolOp .And (a::b::rest) pos) (tAnd tA tB'):=by
 intro wh pins s σ H Q I h
 refine isTrue_and (thn (ha pins s σ H _ I h) fun c s1 ⟨H1,I1,q1⟩=>?_)
 cases c with
 | true=>exact hb wh pins s1 σ H1 Q I1 q1
 | false=>exact ⟨H1,I1,q1⟩
theorem pw_or (ha:PT X a tA) (hb:PW X (.BoolOp .Or (b::rest) pos) tB'):PW X (.BoolOp .Or (a::b::rest) pos) (tOr tA tB'):=by
 intro wh pins s σ H Q I h
 refine isTrue_or (thn (ha pins s σ H _ I h) fun c s1 ⟨H1,I1,q1⟩=>?_)
 cases c with
 | true=>exact ⟨H1,I1,q1⟩
 | false=>exact hb wh pins s1 σ H1 Q I1 q1
theorem JOq (ha:PT X a tA):PT X (.UnaryOp .Not a pos) (tNot tA):=by
 intro pins s σ H Q I h
 exact isTrue_not (ha pins s σ H (fun c H1=>Q (!c) H1) I h)
noncomputable def tAndV (ta tb:TE):TE:=fun σ H Q=>ta σ H fun x H1=>∃c,x=.bl c/\if c=true then tb σ H1 Q else Q (.bl false) H1
noncomputable def tOrV (ta tb:TE):TE:=fun σ H Q=>ta σ H fun x H1=>∃c,x=.bl c/\if c=true then Q (.bl true) H1 else tb σ H1 Q
theorem JLS {op} {t:TE} (h:PE X a t):PE X (.BoolOp op [a] pos) t:=fun pins s σ H Q I hw=>BoolOp_one (h pins s σ H Q I hw)
theorem JPJ (ha:PE X a ta) (hb:PE X (.BoolOp .And (b::rest) pos) tb):PE X (.BoolOp .And (a::b::rest) pos) (tAndV ta tb):=by
 intro pins s σ H Q I h
 refine BoolOp_and (thn (ha pins s σ H _ I h) fun v s1 ⟨x,H1,I1,r1,q1⟩=>?_)
 obtain ⟨c,rfl,q1⟩:=q1
 cases r1
 refine wpAny_truthy_bool ?_
 cases c with
 | true=>exact hb pins s1 σ H1 Q I1 q1
 | false=>exact ⟨.bl false,H1,I1,rfl,q1⟩
theorem pe_or (ha:PE X a ta) (hb:PE X (.BoolOp .Or (b::rest) pos) tb):PE X (.BoolOp .Or (a::b::rest) pos) (tOrV ta tb):=by
 intro pins s σ H Q I h
 refine BoolOp_or (thn (ha pins s σ H _ I h) fun v s1 ⟨x,H1,I1,r1,q1⟩=>?_)
 obtain ⟨c,rfl,q1⟩:=q1
 cases r1
 refine wpAny_truthy_bool ?_
 cases c with
 | false=>exact hb pins s1 σ H1 Q I1 q1
 | true=>exact ⟨.bl true,H1,I1,rfl,q1⟩
noncomputable def tIf (t:TT) (ta tb:TE):TE:=fun σ H Q=>t σ H fun c H1=>if c=true then ta σ H1 Q else tb σ H1 Q
theorem JJk {c:Expr} (hc:PT X c tA) (ha:PE X a ta) (hb:PE X b tb):PE X (.IfExp c a b pos) (tIf tA ta tb):=by
 intro pins s σ H Q I h
 refine wpAny_IfExp (thn (hc pins s σ H _ I h) fun d s1 ⟨H1,I1,q1⟩=>?_)
 cases d with
 | true=>exact ha pins s1 σ H1 Q I1 q1
 | false=>exact hb pins s1 σ H1 Q I1 q1
end
end L2
namespace L2
open PySem PySem.Spec PyProof.Rows
noncomputable def SqL (K:PySem.W.Frag) (H:Hp) (a:Addr) (xs:List V):Prop :=
 Rd H a (.lst xs) \/
  ∃(o:Obj) (its:Array Value) (n:Nat),K.lookup a=some o/\o.cls=.type "list"/\o.dict=none/\o.data=.seq its n/\its.size<=sizeLine/\Vals xs its.toList
noncomputable def SqT (K:PySem.W.Frag) (H:Hp) (a:Addr) (xs:List V):Prop :=
 Rd H a (.tup xs) \/
  ∃(o:Obj) (its:Array Value) (n:Nat),K.lookup a=some o/\o.cls=.type "tuple"/\o.data=.seq its n/\its.size<=sizeLine/\Vals xs its.toList
noncomputable def absV:Value->Option V
 | .none=>some .non
 | .bool b=>some (.bl b)
 | .int i _=>some (.int i)
 | .str x _=>some (.str x)
 | .bytes b _=>some (.byt b)
 | .float b _=>some (.flt b)
 | .ref a=>some (.ref a)
 | .type n=>some (.ty n)
 | _=>none
theorem RelV.abs {x:V} {u:Value} (r:RelV x u):absV u=some x:=by
 cases x with
 | non=>cases r;rfl
 | bl _=>cases r;rfl
 | int _=>obtain ⟨t,rfl⟩:=r;rfl
 | str _=>obtain ⟨t,rfl⟩:=r;rfl
 | byt _=>obtain ⟨t,rfl⟩:=r;rfl
 | flt _=>obtain ⟨t,rfl⟩:=r;rfl
 | ref _=>cases r;rfl
 | ty _=>cases r;rfl
theorem RelV.inj {x y:V} {u:Value} (r:RelV x u) (q:RelV y u):x=y:=Option.some.inj (r.abs.symm.trans q.abs)
theorem Vals.inj:∀ {xs ys:List V} {us:List Value},Vals xs us->Vals ys us->xs=ys
 | _,_,_,.nil,.nil=>rfl
 | _,_,_,.cons r t,.cons r' t'=>by rw [r.inj r',Vals.inj t t']
section
variable {X:Cx} {pins:List (Addr×Obj)} {σ:St} {H:Hp} {s:Shared} {a:Addr} {xs ys:List V}
theorem SqL.of {K:PySem.W.Frag} (h:H a=some (.lst xs)):SqL K H a xs:=.inl (.inl h)
theorem SqT.of {K:PySem.W.Frag} (h:H a=some (.tup xs)):SqT K H a xs:=.inl (.inl h)
theorem Inv.list (I:Inv X pins σ H s) (h:SqL X.K H a xs):∃its:List Value,Vals xs its/\PlainL s.heap a its.toArray/\xs.length<=sizeLine:=by
 rcases h with h | ⟨o,its,n,hk,hc,hd,hs,hz,r⟩
 ·obtain ⟨z,its,n,r,e⟩:=h.ok I.hok
  exact ⟨its,r,⟨_,n,e,rfl,rfl,rfl⟩,z⟩
 ·refine ⟨its.toList,r,⟨o,n,I.kIn a o hk,hc,hd,by simpa using hs⟩,?_⟩
  have e:=r.length
  simp only [q_F] at e
  omega
theorem Inv.tuple (I:Inv X pins σ H s) (h:SqT X.K H a xs):∃its:List Value,Vals xs its/\IsTup s.heap a its.toArray/\xs.length<=sizeLine:=by
 rcases h with h | ⟨o,its,n,hk,hc,hs,hz,r⟩
 ·obtain ⟨z,its,r,p⟩:=h.ok I.hok
  exact ⟨its,r,p,z⟩
 ·refine ⟨its.toList,r,⟨o,I.kIn a o hk,hc,n,by simpa using hs⟩,?_⟩
  have e:=r.length
  simp only [q_F] at e
  omega
theorem Inv.list_inj (I:Inv X pins σ H s) (h:SqL X.K H a xs) (h':SqL X.K H a ys):xs=ys:=by
 obtain ⟨its,r,⟨o,n,e,_,_,d⟩,_⟩:=I.list h
 obtain ⟨its',r',⟨o',n',e',_,_,d'⟩,_⟩:=I.list h'
 rw [e] at e';cases e'
 rw [d] at d'
 injection d' with d1 _
 have:its=its':=by simpa using congrArg Array.toList d1
 subst this
 exact r.inj r'
theorem Inv.tuple_inj (I:Inv X pins σ H s) (h:SqT X.K H a xs) (h':SqT X.K H a ys):xs=ys:=by
 obtain ⟨its,r,⟨o,e,_,n,d⟩,_⟩:=I.tuple h
 obtain ⟨its',r',⟨o',e',_,n',d'⟩,_⟩:=I.tuple h'
 rw [e] at e';cases e'
 rw [d] at d'
 injection d' with d1 _
 have:its=its':=by simpa using congrArg Array.toList d1
 subst this
 exact r.inj r'
end
noncomputable abbrev Cx.wish (X:Cx) (E:Value->Shared->Prop):Cx:={ X with xe:=E }
noncomputable abbrev Cx.nox (X:Cx):Cx:=X.wish fun _ _=>False
theorem Cx.Ok.wish {X:Cx} (ok:X.Ok) (E:Value->Shared->Prop):(X.wish E).Ok :=
 ⟨ok.mod,ok.kind,ok.glob,ok.blt,ok.above,ok.inj,ok.has,ok.cab,ok.hd,ok.frames,ok.stk,ok.exf,ok.bs,ok.bsz,ok.noex,ok.exfs,ok.funs,ok.frf⟩
theorem Cx.Ok.unwish {X:Cx} {E:Value->Shared->Prop} (ok:(X.wish E).Ok):X.Ok :=
 ⟨ok.mod,ok.kind,ok.glob,ok.blt,ok.above,ok.inj,ok.has,ok.cab,ok.hd,ok.frames,ok.stk,ok.exf,ok.bs,ok.bsz,ok.noex,ok.exfs,ok.funs,ok.frf⟩
section
variable {X:Cx} {pins:List (Addr×Obj)} {σ:St} {H:Hp} {s:Shared} {E:Value->Shared->Prop}
theorem Inv.wish (I:Inv X pins σ H s) (E:Value->Shared->Prop):Inv (X.wish E) pins σ H s:=⟨I.ok.wish E,I.os,I.bare,I.base,I.loc,I.cell,I.free,I.freeC,I.pin,I.hok,I.len⟩
theorem Inv.unwish (I:Inv (X.wish E) pins σ H s):Inv X pins σ H s:=⟨I.ok.unwish,I.os,I.bare,I.base,I.loc,I.cell,I.free,I.freeC,I.pin,I.hok,I.len⟩
theorem SP.unwish {D:Ends} {f:Flow} {s':Shared} (h:SP (X.wish E) pins D f s'):SP X pins D f s':=by
 cases f with
 | next=>obtain ⟨σ',H',I,q⟩:=h;exact ⟨σ',H',I.unwish,q⟩
 | brk=>obtain ⟨σ',H',I,q⟩:=h;exact ⟨σ',H',I.unwish,q⟩
 | cont=>obtain ⟨σ',H',I,q⟩:=h;exact ⟨σ',H',I.unwish,q⟩
 | ret u=>obtain ⟨v,σ',H',I,r,q⟩:=h;exact ⟨v,σ',H',I.unwish,r,q⟩
theorem PE.nox {e:Expr} {t:TE} (h:PE X.nox e t):PE X e t:=fun pins s σ H Q I hw =>
 wpAny_mono (h pins s σ H Q (I.wish _) hw) (fun _ _ ⟨v,H',I',r,q⟩=>⟨v,H',I'.unwish,r,q⟩) fun _ _ z=>False.elim z
theorem PT.nox {e:Expr} {t:TT} (h:PT X.nox e t):PT X e t:=fun pins s σ H Q I hw =>
 wpAny_mono (h pins s σ H Q (I.wish _) hw) (fun _ _ ⟨H',I',q⟩=>⟨H',I'.unwish,q⟩) fun _ _ z=>False.elim z
theorem PSs.nox {st:List Stmt} {t:TS} (h:PSs X.nox st t):PSs X st t:=fun pins s σ H D I hw =>
 wpAny_mono (h pins s σ H D (I.wish _) hw) (fun _ _ q=>q.unwish) fun _ _ z=>False.elim z
end
section
variable {X:Cx} {st:Stmt} {rest:List Stmt} {t u:TS} {e:Expr} {te:TE} {pos:Pos}
noncomputable def JNI:TS:=fun D σ H=>D.nx σ H
noncomputable def tSeq (t u:TS):TS:=fun D σ H=>t { D with nx:=u D } σ H
theorem JMo:PSs X [] JNI:=fun _ _ σ H _ I h=>wpAny_execs_nil ⟨σ,H,I,h⟩
theorem JJ8 (h1:PS X st t) (h2:PSs X rest u):PSs X (st::rest) (tSeq t u):=by
 intro pins s σ H D I h
 refine wpAny_execs_cons (thn (h1 pins s σ H { D with nx:=u D } I h) fun f s1 q=>?_)
 cases f with
 | next =>
  obtain ⟨σ',H',I',q⟩:=q
  exact h2 pins s1 σ' H' D I' q
 | ret v=>exact q
 | brk=>exact q
 | cont=>exact q
noncomputable def JOz:TS:=fun D σ H=>D.bk σ H
noncomputable def tCont:TS:=fun D σ H=>D.ct σ H
theorem JMw:PS X (.Pass pos) JNI:=fun _ _ σ H _ I h=>wpAny_Pass ⟨σ,H,I,h⟩
theorem JKA:PS X (.Break pos) JOz:=fun _ _ σ H _ I h=>wpAny_Break ⟨σ,H,I,h⟩
theorem JFe:PS X (.Continue pos) tCont:=fun _ _ σ H _ I h=>wpAny_Continue ⟨σ,H,I,h⟩
theorem Inv.quiet {pins:List (Addr×Obj)} {σ:St} {H:Hp} {s:Shared} (I:Inv X pins σ H s):interactive X.env=false:=by simp [interactive,I.ok.kind]
theorem JRI {x j pos pos'}:PS X (.Expr (.Constant (.str x) j pos) pos') JNI:=fun _ s σ H _ I h=>wpAny_Expr (Calls.Constant_str (show SP X _ _ .next { s with toks:=s.toks+1 } from ⟨σ,H,I.tok _,h⟩)) I.quiet
noncomputable def tDrop (te:TE):TS:=fun D σ H=>te σ H fun _ H1=>D.nx σ H1
theorem JI5 (he:PE X e te) (hs:swapsWith e none pos.line X.env=pure false:=by rfl):PS X (.Expr e pos) (tDrop te):=by
 intro pins s σ H D I h
 exact wpAny_Expr_any (thn (he pins s σ H _ I h) fun v s1 ⟨x,H1,I1,r1,q1⟩=>⟨σ,H1,I1,q1⟩) I.quiet hs
noncomputable def tRet (te:TE):TS:=fun D σ H=>te σ H D.rt
theorem JPv (he:PE X e te):PS X (.Return (some e) pos) (tRet te):=by
 intro pins s σ H D I h
 exact wpAny_Return_some (thn (he pins s σ H _ I h) fun v s1 ⟨x,H1,I1,r1,q1⟩=>⟨x,σ,H1,I1,r1,q1⟩)
noncomputable def tRetN:TS:=fun D _ H=>D.rt .non H
theorem JM3:PS X (.Return none pos) tRetN:=fun _ _ σ H _ I h=>wpAny_Return_none ⟨.non,σ,H,I,rfl,h⟩
noncomputable def tIfS (c:TT) (t u:TS):TS:=fun D σ H=>c σ H fun b H1=>if b=true then t D σ H1 else u D σ H1
theorem ps_if {c:Expr} {a b:List Stmt} {tc:TT} (hc:PT X c tc) (ha:PSs X a t) (hb:PSs X b u):PS X (.If c a b pos) (tIfS tc t u):=by
 intro pins s σ H D I h
 refine wpAny_If (thn (hc pins s σ H _ I h) fun d s1 ⟨H1,I1,q1⟩=>?_)
 cases d with
 | true=>exact ha pins s1 σ H1 D I1 q1
 | false=>exact hb pins s1 σ H1 D I1 q1
end
noncomputable abbrev TG:=V->St->Hp->(St->Hp->Prop)->Prop
noncomputable abbrev TGs:=List V->St->Hp->(St->Hp->Prop)->Prop
noncomputable def PG (X:Cx) (target:Expr) (t:TG):Prop :=
 ∀(pins:List (Addr×Obj)) (s:Shared) (σ:St) (H:Hp) (v:V) (u:Value) (Q:St->Hp->Prop),Inv X pins σ H s->RelV v u->t v σ H Q ->
  wpAny (model X.prog X.w) X.A (assign target X.env u) (fun _ s'=>∃σ' H',Inv X pins σ' H' s'/\Q σ' H') X.xe s
noncomputable def PGs (X:Cx) (ts:List Expr) (t:TGs):Prop :=
 ∀(pins:List (Addr×Obj)) (s:Shared) (σ:St) (H:Hp) (vs:List V) (us:List Value) (Q:St->Hp->Prop),Inv X pins σ H s->Vals vs us->t vs σ H Q ->
  wpAny (model X.prog X.w) X.A (assignInOrder ((assignEach ts X.env).map (·.2)) us) (fun _ s'=>∃σ' H',Inv X pins σ' H' s'/\Q σ' H') X.xe s
noncomputable abbrev TSet:=V->V->V->Hp->(Hp->Prop)->Prop
section
variable {X:Cx} {pos:Pos}
noncomputable def JFl (i:Nat):TG:=fun v σ H Q=>Q (σ.set i (some v)) H
theorem JD8 {i:Nat} {x:Str} (hN:X.N.Nodup) (hi:X.N[i]? = some x) (hx:Loc X.env.scope x) (hf:X.fn x=true\/X.env.scope.names.lookup x=some .local:=by first | exact .inl rfl | exact .inr rfl | assumption):PG X (.Name x pos) (JFl i):=by
 intro pins s σ H v u Q I r h
 exact wpAny_assign_Name (JCp I hN hi hx r (fun s' I'=>⟨_,H,I',h⟩) hf)
noncomputable def gNil:TGs:=fun vs σ H Q=>vs=[]/\Q σ H
noncomputable def gCons (t:TG) (u:TGs):TGs:=fun vs σ H Q=>∃v r,vs=v::r/\t v σ H fun σ' H'=>u r σ' H' Q
theorem JHR:PGs X [] gNil:=by
 intro pins s σ H vs us Q I r h
 obtain ⟨e,h⟩:=h
 subst e
 cases r
 exact assignInOrder_nil ⟨σ,H,I,h⟩
theorem JF3 {e:Expr} {es:List Expr} {t:TG} {u:TGs} (h1:PG X e t) (h2:PGs X es u)
  (hs:(assignEach (e::es) X.env).map (·.2)=assign e X.env::(assignEach es X.env).map (·.2):=by rfl):PGs X (e::es) (gCons t u):=by
 intro pins s σ H vs us Q I r h
 obtain ⟨v,vr,e1,h⟩:=h
 subst e1
 cases r with
 | cons r rr =>
  rw [hs]
  refine assignInOrder_cons (thn (h1 pins s σ H _ _ _ I r h) fun _ s1 ⟨σ1,H1,I1,q1⟩=>?_)
  exact h2 pins s1 σ1 H1 _ _ Q I1 rr q1
noncomputable def gTup (K:PySem.W.Frag) (n:Nat) (t:TGs):TG:=fun v σ H Q=>∃a xs,v=.ref a/\SqT K H a xs/\xs.length=n/\t xs σ H Q
theorem JL8 {es:List Expr} {k:Nat} {t:TGs} {n:Nat} (hc:X.calm=true) (h:PGs X es t)
  (hn:(assignEach es X.env).length=n:=by rfl) (hst:(assignEach es X.env).findIdx? (·.1)=none:=by rfl):PG X (.Tuple es k pos) (gTup X.K n t):=by
 intro pins s σ H v u Q I r hw
 obtain ⟨a,xs,e1,hq,hl,hw⟩:=hw
 subst e1
 cases r
 obtain ⟨its,rv,ht,hz⟩:=I.tuple hq
 refine assign_Tuple_tuple (I.ok.hd hc) ht (by simp [hn,<-hl,rv.length]) hst fun h' hx=>?_
 have I1:Inv X pins σ H { s with heap:=h' }:=I.kept (t':=s.toks) fun b o e=>hx b o (q_l (q_h e)) e
 exact h pins _ σ H xs _ Q I1 (by simpa using rv) hw
noncomputable def tAsg (te:TE) (g:TG):TS:=fun D σ H=>te σ H fun x H1=>g x σ H1 D.nx
theorem JRE {tg e:Expr} {te:TE} {g:TG} (he:PE X e te) (hg:PG X tg g) (hs:swapsWithSole [tg] e pos.line X.env=pure false:=by rfl) (hw:swappedStores [tg] e X.env=pure none:=by rfl)
  (h1:(assignEach [tg] X.env).map (·.2)=[assign tg X.env]:=by rfl):PS X (.Assign [tg] e pos) (tAsg te g):=by
 intro pins s σ H D I h
 refine wpAny_Assign_stores (thn (he pins s σ H _ I h) fun v s1 ⟨x,H1,I1,r1,q1⟩=>?_) hs hw
 rw [h1]
 exact thn (hg pins s1 σ H1 x v _ I1 r1 q1) fun _ s2 q=>q
theorem JLc {i:Nat} {x:Str} {e:Expr} {te:TE} {pos':Pos} (hN:X.N.Nodup) (hi:X.N[i]? = some x) (hx:Loc X.env.scope x) (he:PE X e te) (hs:swapsWith e (some (.Name x pos')) pos.line X.env=pure false:=by rfl) (hf:X.fn x=true\/X.env.scope.names.lookup x=some .local:=by first | exact .inl rfl | exact .inr rfl | assumption) :
  PS X (.Assign [.Name x pos'] e pos) (tAsg te (JFl i)):=by
 intro pins s σ H D I h
 refine wpAny_Assign_Name (thn (he pins s σ H _ I h) fun v s1 ⟨y,H1,I1,r1,q1⟩=>?_) hs
 exact JCp I1 hN hi hx r1 (fun s2 I2=>⟨_,H1,I2,q1⟩) hf
noncomputable def tPar (i j:Nat) (ta:TA):TS:=fun D σ H=>ta σ H fun vs H1=>∃v w,vs=[v,w]/\D.nx ((σ.set i (some v)).set j (some w)) H1
theorem JQ3 {i j:Nat} {x y:Str} {a b:Expr} {ta:TA} {px py pt:Pos} {kt k2 pt2} (hc:X.calm=true) (hN:X.N.Nodup) (hi:X.N[i]? = some x) (hj:X.N[j]? = some y) (hij:i≠j)
  (hx:X.env.scope.names.lookup x=some .local) (hy:X.env.scope.names.lookup y=some .local) (ha:PA X [a,b] ta)
  (hw:swappedStores [.Tuple [.Name x px,.Name y py] kt pt] (.Tuple [a,b] k2 pt2) X.env=pure (some [x,y]))
  (hs:swapsWithSole [.Tuple [.Name x px,.Name y py] kt pt] (.Tuple [a,b] k2 pt2) pos.line X.env=pure false:=by rfl) :
  PS X (.Assign [.Tuple [.Name x px,.Name y py] kt pt] (.Tuple [a,b] k2 pt2) pos) (tPar i j ta):=by
 intro pins s σ H D I h
 rw [exec_Assign_arm]
 refine q_b (wpAny_standAt ?_)
 rw [hs]
 refine q_b (q_e ?_)
 rw [if_neg (by decide)]
 refine q_b (Tuple_ (thn (ha _ pins s σ H _ I h) fun us s1 ⟨vs,H1,I1,r1,q1⟩=>?_))
 obtain ⟨v,w,e1,q1⟩:=q1
 subst e1
 obtain ⟨u1,u2,rfl,rv,rw'⟩:∃u1 u2,us=[u1,u2]/\RelV v u1/\RelV w u2:=by
  cases r1 with
  | cons p q =>
    cases q with
    | cons p' q' =>
     cases q'
     exact ⟨_,_,rfl,p,p'⟩
 refine wpAny_newObj_type ?_ (by show 2<=sizeLine;decide)
 have I2:Inv X pins σ H1 { s1 with heap:=s1.heap.push { cls:=.type "tuple",data:=.seq [u1,u2].toArray } }:=I1.kept (t':=s1.toks) fun b o e=>q_c _ e
 rw [hw]
 refine q_b (q_e ?_)
 show wpAny (model X.prog X.w) X.A (do rule "assign.swapped-stores";let items<-unpackItems (.ref s1.heap.objs.size) 2 none;assignInOrder [fun v=>bindName X.env y v,fun v=>bindName X.env x v] items.reverse;pure Flow.next) _ _ _
 refine q_b (wpAny_rule (q_b (unpackItems_tuple (items:=#[u1,u2]) (I.ok.hd hc) (IsTup.new s1.heap _) fun h' hx'=>?_)))
 have I3:=I2.kept (h':=h') (t':=s1.toks) fun b o e=>hx' b o (q_l (q_h e)) e
 show wpAny _ _ (assignInOrder [fun v=>bindName X.env y v,fun v=>bindName X.env x v] [u2,u1] >>= fun _=>pure Flow.next) _ _ _
 refine q_b (assignInOrder_cons (wpAny_bindName (JCp I3 hN hj (.inl hy) rw' (fun s2 I4=>?_) (.inr hy))))
 refine assignInOrder_cons (wpAny_bindName (JCp I4 hN hi (.inl hx) rv (fun s3 I5=>assignInOrder_nil (q_e ?_)) (.inr hx)))
 rw [List.set_comm _ _ (Ne.symm hij)] at I5
 exact ⟨_,H1,I5,q1⟩
end
section
variable {X:Cx} {pos:Pos}
noncomputable def JQo (c:TT) (tb:TS):TS:=fun D σ H=>∃W:Nat->St->Hp->Prop,(∃m,W m σ H)/\∀m σ H,W m σ H ->
 c σ H fun b H1=>if b=true then ∃N:St->Hp->Prop,(∀σ' H',N σ' H'->∃m',m'<m/\W m' σ' H')/\tb { D with nx:=N,ct:=N,bk:=D.nx } σ H1 else D.nx σ H1
theorem JJb {c:Expr} {body:List Stmt} {tc:TT} {tb:TS} (hp:PassesOwn (model X.prog X.w) X.A X.env X.xe) (hc:PT X c tc) (hb:PSs X body tb):PS X (.While c body [] pos) (JQo tc tb):=by
 intro pins s σ H D I h
 obtain ⟨W,⟨m0,w0⟩,turn⟩:=h
 refine wpAny_While (codeAny_whileLoop (fun n s'=>∃σ' H',Inv X pins σ' H' s'/\W n σ' H') ?_ m0 ⟨σ,H,I,w0⟩)
 rintro n s1 ⟨σ1,H1,I1,w1⟩
 refine wpAny_passesOwn hp (thn (hc pins s1 σ1 H1 _ I1 (turn n σ1 H1 w1)) fun b s2 ⟨H2,I2,q2⟩=>?_)
 cases b with
 | true =>
  obtain ⟨N,hN,q2⟩:=q2
  rw [if_pos rfl]
  refine wpAny_passesOwn hp (thn (hb pins s2 σ1 H2 _ I2 q2) fun f s3 q3=>?_)
  cases f with
  | next =>
   obtain ⟨σ3,H3,I3,n3⟩:=q3
   obtain ⟨m',hm,w3⟩:=hN σ3 H3 n3
   exact ⟨m',hm,σ3,H3,I3,w3⟩
  | cont =>
   obtain ⟨σ3,H3,I3,n3⟩:=q3
   obtain ⟨m',hm,w3⟩:=hN σ3 H3 n3
   exact ⟨m',hm,σ3,H3,I3,w3⟩
  | brk=>exact q3
  | ret v=>exact q3
 | false =>
  rw [if_neg Bool.false_ne_true]
  exact wpAny_execs_nil ⟨σ1,H2,I2,q2⟩
end
structure It where
 go:Nat->Hp->Prop
 yld:Nat->Hp->V->Hp->Prop
 stop:Nat->Hp->Prop
noncomputable def FpOk (X:Cx) (pins:List (Addr×Obj)) (H:Hp) (b:Addr):Prop :=
 H b=none/\b≠X.env.locals/\b ∉ X.fs/\(b∈X.ex\/X.s₀.heap.objs.size<=b)/\(∀x c,X.env.cells.lookup x=some c->c≠b)/\∀p∈X.pn++pins,p.1≠b
theorem Inv.fpOk {X:Cx} {pins:List (Addr×Obj)} {σ:St} {H H':Hp} {s:Shared} {b:Addr} (I:Inv X pins σ H s) (hb:s.heap.objs.size<=b) (hn:H' b=none):FpOk X pins H' b:=by
 refine ⟨hn,Nat.ne_of_gt (q_m I.lt hb),I.nofs hb,.inr (Nat.le_trans I.sz hb),fun x c e z=>?_,fun p hp z=>?_⟩
 ·obtain ⟨v,q⟩:=I.cell x c e
  exact absurd (q_m q.lt (by rw [z];exact hb)) (Nat.lt_irrefl _)
 ·exact absurd (q_m (q_h (I.pin p hp).1) (by rw [z];exact hb)) (Nat.lt_irrefl _)
structure Turn (P:Program) (w:World) (K:PySem.W.Frag) (tg:Expr) (J:It) (fp:List Addr) (it:Addr) (tn:Nat->Heap->Prop):Prop where
 mem:it∈fp
 obj:∀i h,tn i h->∀b∈fp,∃o,h.get? b=some o/\∀v,o.data≠.cell v
 keep:∀i h h',tn i h->(∀b∈fp,∀o,h.get? b=some o->h'.get? b=some o)->tn i h'
 item:∀(X:Cx),X.prog=P->X.w=w->X.K=K->X.calm=true->∀(i:Nat) (pins:List (Addr×Obj)) (s:Shared) (σ:St) (H:Hp) (E:Value->Shared->Prop),Inv X pins σ H s->(∀b∈fp,FpOk X pins H b)->tn i s.heap->J.go i H ->
  wpAny (model P w) X.A (pyNext (.ref it)) (fun r s1=>∃u,r=some u /\
   wpAny (model P w) X.A (letOwnedTupleGo tg (.ref it) u) (fun _ s2=>∃x H',Inv X pins σ H' s2/\RelV x u/\J.yld i H x H'/\tn (i+1) s2.heap/\∀b∈fp,H' b=none) E s1) E s
 done:∀(X:Cx),X.prog=P->X.w=w->X.K=K->X.calm=true->∀(i:Nat) (pins:List (Addr×Obj)) (s:Shared) (σ:St) (H:Hp) (E:Value->Shared->Prop),Inv X pins σ H s->(∀b∈fp,FpOk X pins H b)->tn i s.heap->J.stop i H ->
  wpAny (model P w) X.A (pyNext (.ref it)) (fun r s1=>r=none/\Inv X pins σ H s1) E s
 self:∀(A:Around) (i:Nat) (s:Shared) (Q:Value->Shared->Prop) (E:Value->Shared->Prop),tn i s.heap->Q (.ref it) s->wpAny (model P w) A (pyIter (.ref it)) Q E s
noncomputable abbrev TI:=St->Hp->(It->Hp->Prop)->Prop
noncomputable def PIE (X:Cx) (pins:List (Addr×Obj)) (σ:St) (tg:Expr) (R:It->Hp->Prop) (itv:Value) (s2:Shared):Prop :=
 ∃(it:Addr) (fp:List Addr) (tn:Nat->Heap->Prop) (J:It) (H':Hp),itv=.ref it/\Inv X pins σ H' s2/\Turn X.prog X.w X.K tg J fp it tn/\tn 0 s2.heap/\(∀b∈fp,FpOk X pins H' b)/\R J H'
noncomputable def PI (X:Cx) (tg iter:Expr) (wi:TI):Prop :=
 ∀(pins:List (Addr×Obj)) (s:Shared) (σ:St) (H:Hp) (R:It->Hp->Prop),Inv X pins σ H s->wi σ H R ->
  wpAny (model X.prog X.w) X.A (eval iter X.env) (fun v s1=>wpAny (model X.prog X.w) X.A (pyIter v) (PIE X pins σ tg R) X.xe s1) X.xe s
theorem JII {M:Model} {A:Around} {E:Value->Shared->Prop} {s:Shared} {tg:Expr} {it:Addr} {u:Value} {o:Obj} {n:String} {vs:Array Value} {Q:Unit->Shared->Prop} (ho:s.heap.get? it=some o) (hc:o.cls=.type n) (hd:o.data=.fields vs)
  (hn:["enumerate","zip","dict_itemiterator","dict_reverseitemiterator","odict_iterator","itertools.zip_longest","itertools.pairwise"].contains n=false) (hQ:Q () s):wpAny M A (letOwnedTupleGo tg (.ref it) u) Q E s:=by
 unfold letOwnedTupleGo
 cases tg<;>first
  | exact q_e hQ
  | (cases u<;>first
      | exact q_e hQ
      |(refine q_b (wpAny_load ho ?_)
        rw [hc,hd]
        show wpAny M A (if (["enumerate","zip","dict_itemiterator","dict_reverseitemiterator","odict_iterator","itertools.zip_longest","itertools.pairwise"].contains n&&vs[0]? == some (rawInt _))=true then _ else _) Q E s
        rw [if_neg (by intro h;rw [hn,Bool.false_and] at h;cases h)]
        exact q_e hQ))
noncomputable def Itl (K:PySem.W.Frag) (a:Addr):It :=
 ⟨fun i H=>∃xs x,SqL K H a xs/\xs[i]? = some x,fun i H x H'=>H'=H/\∀xs,SqL K H a xs->xs[i]? = some x,fun i H=>∃xs,SqL K H a xs/\xs.length<=i⟩
noncomputable def Itt (K:PySem.W.Frag) (a:Addr):It :=
 ⟨fun i H=>∃xs x,SqT K H a xs/\xs[i]? = some x,fun i H x H'=>H'=H/\∀xs,SqT K H a xs->xs[i]? = some x,fun i H=>∃xs,SqT K H a xs/\xs.length<=i⟩
noncomputable def Itr (lo:Int) (n:Nat):It:=⟨fun i _=>i<n,fun i H x H'=>H'=H/\x=.int (lo+i),fun i _=>n<=i⟩
theorem JHv {P:Program} {w:World} {K:PySem.W.Frag} {tg:Expr} (a it:Addr):Turn P w K tg (Itl K a) [it] it (fun i h=>h.IsListIter it a i) where
 mem:=by simp
 obj:=fun i h st b hb=>by
  have e:b=it:=by simpa using hb
  subst e
  obtain ⟨o,e,c,d⟩:=st
  exact ⟨o,e,fun v z=>by rw [d] at z;cases z⟩
 keep:=fun i h h' st k=>st.at fun o e=>k it (by simp) o e
 item:=by
  intro X hP hw hK hc i pins s σ H E I hf st hg
  subst hP hw hK
  obtain ⟨xs,x,hq,hx⟩:=hg
  obtain ⟨its,rv,p,hz⟩:=I.list hq
  obtain ⟨u,hu,ru⟩:=rv.get hx
  obtain ⟨f0,f1,f2,f3,f4,f5⟩:=hf it (by simp)
  refine wpAny_pyNext_list_item st p.isList (x:=u) (by simpa using hu) fun h' st' sb=>?_
  have I1:Inv X pins σ H { s with heap:=h' }:=I.turned (t':=s.toks) (fun b o hb e=>(sb.2 b hb).trans e) f0 f1 f3 f4 f5
  obtain ⟨o,e,c,d⟩:=id st'
  exact ⟨u,rfl,JII (s:={ s with heap:=h' }) e c d (by decide) ⟨x,H,I1,ru,⟨rfl,fun ys hy=>by rw [I.list_inj hy hq];exact hx⟩,st',fun b hb=>(hf b hb).1⟩⟩
 done:=by
  intro X hP hw hK hc i pins s σ H E I hf st hg
  subst hP hw hK
  obtain ⟨xs,hq,hx⟩:=hg
  obtain ⟨its,rv,p,hz⟩:=I.list hq
  obtain ⟨f0,f1,f2,f3,f4,f5⟩:=hf it (by simp)
  have hl:=rv.length
  exact wpAny_pyNext_list_end (I.ok.hd hc) st p.isList (by simp;omega) fun h' eb=>⟨rfl,I.turned (t':=s.toks) (fun b o hb e=>eb b o hb e) f0 f1 f3 f4 f5⟩
 self:=fun _ _ _ _ _ st h=>wpAny_pyIter_listiter st h
theorem JG9 {P:Program} {w:World} {K:PySem.W.Frag} {tg:Expr} (a it:Addr):Turn P w K tg (Itt K a) [it] it (fun i h=>h.IsTupleIter it a i) where
 mem:=by simp
 obj:=fun i h st b hb=>by
  have e:b=it:=by simpa using hb
  subst e
  obtain ⟨o,e,c,d⟩:=st
  exact ⟨o,e,fun v z=>by rw [d] at z;cases z⟩
 keep:=fun i h h' st k=>st.at fun o e=>k it (by simp) o e
 item:=by
  intro X hP hw hK hc i pins s σ H E I hf st hg
  subst hP hw hK
  obtain ⟨xs,x,hq,hx⟩:=hg
  obtain ⟨its,rv,p,hz⟩:=I.tuple hq
  obtain ⟨u,hu,ru⟩:=rv.get hx
  obtain ⟨f0,f1,f2,f3,f4,f5⟩:=hf it (by simp)
  refine wpAny_pyNext_tuple_item st (show s.heap.IsTuple a its.toArray from p) (x:=u) (by simpa using hu) fun h' st' sb=>?_
  have I1:Inv X pins σ H { s with heap:=h' }:=I.turned (t':=s.toks) (fun b o hb e=>(sb.2 b hb).trans e) f0 f1 f3 f4 f5
  obtain ⟨o,e,c,d⟩:=id st'
  exact ⟨u,rfl,JII (s:={ s with heap:=h' }) e c d (by decide) ⟨x,H,I1,ru,⟨rfl,fun ys hy=>by rw [I.tuple_inj hy hq];exact hx⟩,st',fun b hb=>(hf b hb).1⟩⟩
 done:=by
  intro X hP hw hK hc i pins s σ H E I hf st hg
  subst hP hw hK
  obtain ⟨xs,hq,hx⟩:=hg
  obtain ⟨its,rv,p,hz⟩:=I.tuple hq
  obtain ⟨f0,f1,f2,f3,f4,f5⟩:=hf it (by simp)
  have hl:=rv.length
  exact wpAny_pyNext_tuple_end (I.ok.hd hc) st (show s.heap.IsTuple a its.toArray from p) (by simp;omega) fun h' eb=>⟨rfl,I.turned (t':=s.toks) (fun b o hb e=>eb b o hb e) f0 f1 f3 f4 f5⟩
 self:=fun _ _ _ _ _ st h=>wpAny_pyIter_tupleiter st h
theorem JGn {P:Program} {w:World} {K:PySem.W.Frag} {tg:Expr} (it:Addr) (lo:Int) (n:Nat):Turn P w K tg (Itr lo n) [it] it (fun i h=>IsRangeIter h it (lo+(i:Nat)*1) ((n:Int) - (i:Nat)) 1) where
 mem:=by simp
 obj:=fun i h st b hb=>by
  have e:b=it:=by simpa using hb
  subst e
  exact ⟨_,st,fun v z=>by
   have z':Data.fields _=Data.cell v:=z
   cases z'⟩
 keep:=fun i h h' st k=>k it (by simp) _ st
 item:=by
  intro X hP hw hK hc i pins s σ H E I hf st hg
  subst hP hw hK
  obtain ⟨f0,f1,f2,f3,f4,f5⟩:=hf it (by simp)
  have W:=Walks.range (prog:=X.prog) (w:=X.w) (I.ok.hd hc) it lo 1 n
  refine W.item i s _ _ hg st fun v h' tk hv st' kk=>?_
  obtain ⟨t,rfl⟩:=hv
  have I1:Inv X pins σ H { s with heap:=h',toks:=tk }:=I.turned (fun b o hb e=>kk b o (by simpa using hb) e) f0 f1 f3 f4 f5
  refine ⟨_,rfl,JII (s:={ s with heap:=h',toks:=tk }) (n:="range_iterator") st' rfl rfl (by decide) ⟨.int (lo+i),H,I1,⟨t,?_⟩,⟨rfl,rfl⟩,st',fun b hb=>(hf b hb).1⟩⟩
  rw [Int.mul_one]
 done:=by
  intro X hP hw hK hc i pins s σ H E I hf st hg
  subst hP hw hK
  obtain ⟨f0,f1,f2,f3,f4,f5⟩:=hf it (by simp)
  exact wpAny_pyNext_range_end (I.ok.hd hc) st (by have:n<=i:=hg;omega) fun h' eb=>⟨rfl,I.turned (t':=s.toks) (fun b o hb e=>eb b o hb e) f0 f1 f3 f4 f5⟩
 self:=fun _ _ _ _ _ st h=>wpAny_pyIter_rangeiter st h
end L2
namespace L2
open PySem PySem.Spec PyProof.Rows
section
variable {X:Cx} {tg:Expr}
noncomputable def iList (K:PySem.W.Frag) (tl:TE):TI:=fun σ H R=>tl σ H fun x H1=>∃a,x=.ref a/\(∃xs,SqL K H1 a xs)/\R (Itl K a) H1
noncomputable def iTup (K:PySem.W.Frag) (tl:TE):TI:=fun σ H R=>tl σ H fun x H1=>∃a,x=.ref a/\(∃xs,SqT K H1 a xs)/\R (Itt K a) H1
theorem JEG {l:Expr} {tl:TE} (hl:PE X l tl):PI X tg l (iList X.K tl):=by
 intro pins s σ H R I h
 refine thn (hl pins s σ H _ I h) fun v s1 ⟨x,H1,I1,r1,q1⟩=>?_
 obtain ⟨a,e,⟨xs,hq⟩,q⟩:=q1
 subst e
 cases r1
 obtain ⟨its,rv,p,hz⟩:=I1.list hq
 refine wpAny_pyIter_list p.isList ?_
 refine ⟨s1.heap.objs.size,[s1.heap.objs.size],_,_,H1,rfl,I1.kept (t':=s1.toks) fun b o e=>q_c _ e,JHv a _,⟨_,q_k _ rfl,rfl,rfl⟩,fun b hb=>?_,q⟩
 have e:b=s1.heap.objs.size:=by simpa using hb
 subst e
 exact I1.fpOk (q_t _) (I1.hok.fresh (q_t _))
theorem JLC {l:Expr} {tl:TE} (hl:PE X l tl):PI X tg l (iTup X.K tl):=by
 intro pins s σ H R I h
 refine thn (hl pins s σ H _ I h) fun v s1 ⟨x,H1,I1,r1,q1⟩=>?_
 obtain ⟨a,e,⟨xs,hq⟩,q⟩:=q1
 subst e
 cases r1
 obtain ⟨its,rv,p,hz⟩:=I1.tuple hq
 refine wpAny_pyIter_tuple (show s1.heap.IsTuple a its.toArray from p) ?_
 refine ⟨s1.heap.objs.size,[s1.heap.objs.size],_,_,H1,rfl,I1.kept (t':=s1.toks) fun b o e=>q_c _ e,JG9 a _,⟨_,q_k _ rfl,rfl,rfl⟩,fun b hb=>?_,q⟩
 have e:b=s1.heap.objs.size:=by simpa using hb
 subst e
 exact I1.fpOk (q_t _) (I1.hok.fresh (q_t _))
theorem JF7 {pins:List (Addr×Obj)} {σ:St} {H:Hp} {s:Shared} {R:It->Hp->Prop} {E:Value->Shared->Prop} {lo hi:Int} {t u v:Tok} {tk:Nat} (I:Inv X pins σ H s) (h1:-(2 ^ 62)<=lo) (h2:lo<2 ^ 62) (h3:-(2 ^ 62)<=hi) (h4:hi<2 ^ 62)
  (q:R (Itr lo (hi - lo).toNat) H):wpAny (model X.prog X.w) X.A (pyIter (.ref s.heap.objs.size)) (PIE X pins σ tg R) E { s with heap:=s.heap.push { cls:=.type "range",data:=.fields #[.int lo t,.int hi u,.int 1 v] },toks:=tk }:=by
 refine wpAny_pyIter_range (IsRange.new ..) (small_one h1 h2 h3 h4) ?_
 have I1:Inv X pins σ H { s with heap:=s.heap.push { cls:=.type "range",data:=.fields #[.int lo t,.int hi u,.int 1 v] },toks:=tk }:=I.kept fun b o e=>q_c _ e
 refine ⟨(s.heap.push { cls:=.type "range",data:=.fields #[.int lo t,.int hi u,.int 1 v] }).objs.size,[(s.heap.push { cls:=.type "range",data:=.fields #[.int lo t,.int hi u,.int 1 v] }).objs.size],_,_,H,rfl,
  I1.kept (t':=tk) fun b o e=>q_c _ e,JGn _ lo (hi - lo).toNat,?_,fun b hb=>?_,q⟩
 ·have e1:lo+((0:Nat):Int)*1=lo:=by simp
  have e2:(((hi - lo).toNat:Nat):Int) - ((0:Nat):Int)=Builtin.Range.rangeSize lo hi 1:=by rw [rangeSize_one];split<;>omega
  show IsRangeIter _ _ (lo+((0:Nat):Int)*1) ((((hi - lo).toNat:Nat):Int) - ((0:Nat):Int)) 1
  rw [e1,e2]
  exact q_k _ rfl
 ·have e:b=(s.heap.push { cls:=.type "range",data:=.fields #[.int lo t,.int hi u,.int 1 v] }).objs.size:=by simpa using hb
  subst e
  exact I1.fpOk (q_t _) (I1.hok.fresh (q_t _))
noncomputable def iRng1 (ta:TA):TI:=fun σ H R=>ta σ H fun vs H1=>∃j:Int,vs=[.int j]/\-(2 ^ 62)<=j/\j<2 ^ 62/\R (Itr 0 j.toNat) H1
noncomputable def iRng2 (ta:TA):TI:=fun σ H R=>ta σ H fun vs H1=>∃i j:Int,vs=[.int i,.int j]/\(-(2 ^ 62)<=i/\i<2 ^ 62/\-(2 ^ 62)<=j/\j<2 ^ 62)/\R (Itr i (j - i).toNat) H1
theorem JIv {a:Expr} {ta:TA} {p pos:Pos} (hg:Gl X "range") (hm:X.mg "range"=none) (ha:PA X [a] ta) (hs:starEach [a] X.env=[(false,eval a X.env)]:=by rfl):PI X tg (.Call (.Name "range" p) [a] [] pos) (iRng1 ta):=by
 intro pins s σ H R I h
 refine Call_ (JDf I hg hm boot_range (PyProof.Rows.callWith_type1 (thn (ha pos pins s σ H _ I h) fun us s1 ⟨vs,H1,I1,r1,q1⟩=>?_) hs rfl))
 obtain ⟨j,e,q1,q2,q⟩:=q1
 subst e
 cases r1 with
 | cons r rr =>
  cases rr
  obtain ⟨t,rfl⟩:=r
  exact call_range_1 (JF7 I1 (by omega) (by omega) q1 q2 (by simpa using q))
theorem JIV {a b:Expr} {ta:TA} {p pos:Pos} (hg:Gl X "range") (hm:X.mg "range"=none) (ha:PA X [a,b] ta) (hs:starEach [a,b] X.env=[(false,eval a X.env),(false,eval b X.env)]:=by rfl) (hs2:starEach [b] X.env=[(false,eval b X.env)]:=by rfl) :
  PI X tg (.Call (.Name "range" p) [a,b] [] pos) (iRng2 ta):=by
 intro pins s σ H R I h
 refine Call_ (JDf I hg hm boot_range (PyProof.Rows.callWith_type1 (thn (ha pos pins s σ H _ I h) fun us s1 ⟨vs,H1,I1,r1,q1⟩=>?_) (by rw [hs,hs2]) (by rw [hs2];rfl)))
 obtain ⟨i,j,e,⟨q1,q2,q3,q4⟩,q⟩:=q1
 subst e
 cases r1 with
 | cons r rr =>
  cases rr with
  | cons r' rr =>
   cases rr
   obtain ⟨t,rfl⟩:=r
   obtain ⟨t',rfl⟩:=r'
   exact call_range_2 (JF7 I1 q1 q2 q3 q4 q)
noncomputable def tFor (wi:TI) (g:TG) (tb:TS):TS:=fun D σ H=>wi σ H fun J H1=>∃W:Nat->Nat->St->Hp->Prop,(∃m,W 0 m σ H1)/\∀i m σ H,W i m σ H ->
 (J.stop i H/\D.nx σ H)\/(J.go i H/\∃N:St->Hp->Prop,(∀σ' H',N σ' H'->∃m',m'<m/\W (i+1) m' σ' H')/\∀x H',J.yld i H x H'->g x σ H' fun σ2 H2=>tb { D with nx:=N,ct:=N,bk:=D.nx } σ2 H2)
noncomputable def JE5 (fp:List Addr) (h:Heap):List (Addr×Obj):=fp.filterMap fun b=>(h.get? b).map fun o=>(b,o)
theorem JBp {fp:List Addr} {h:Heap} {b:Addr} {o:Obj} (hb:b∈fp) (e:h.get? b=some o):(b,o)∈JE5 fp h:=List.mem_filterMap.mpr ⟨b,hb,by rw [e];rfl⟩
theorem JH8 {fp:List Addr} {h:Heap} {p:Addr×Obj} (hp:p∈JE5 fp h):p.1∈fp/\h.get? p.1=some p.2:=by
 obtain ⟨b,hb,e⟩:=List.mem_filterMap.mp hp
 cases q:h.get? b with
 | none=>rw [q] at e;cases e
 | some o =>
  rw [q] at e
  have e':(b,o)=p:=Option.some.inj e
  subst e'
  exact ⟨hb,q⟩
theorem Inv.pinned {pins:List (Addr×Obj)} {σ:St} {H:Hp} {s:Shared} {fp:List Addr} (I:Inv X pins σ H s) (hf:∀b∈fp,FpOk X pins H b) (ho:∀b∈fp,∃o,s.heap.get? b=some o/\∀v,o.data≠.cell v):Inv X (pins++JE5 fp s.heap) σ H s :=
 I.pins_of fun p hp=>(List.mem_append.mp hp).elim (fun z=>I.pin p (q_r _ z)) fun z=>by
  obtain ⟨hb,e⟩:=JH8 z
  obtain ⟨f0,f1,f2,_⟩:=hf p.1 hb
  obtain ⟨o,e',d⟩:=ho p.1 hb
  rw [e] at e';cases e'
  exact ⟨e,f0,f1,f2,d⟩
theorem Inv.unpinned {pins pl:List (Addr×Obj)} {σ:St} {H:Hp} {s:Shared} (I:Inv X (pins++pl) σ H s):Inv X pins σ H s:=I.pins_of fun p hp=>I.pin p (q_r _ (List.mem_append_left _ hp))
theorem JLB {iter:Expr} {body:List Stmt} {wi:TI} {g:TG} {tb:TS} {pos:Pos} (hp:PassesOwn (model X.prog X.w) X.A X.env X.xe) (hc:X.calm=true) (hi:PI X tg iter wi) (hg:PG X tg g) (hb:PSs X body tb)
  (hs:∀x,foldedSetIterable iter X.env x=pure x:=by intro _;rfl):PS X (.For tg iter body [] pos) (tFor wi g tb):=by
 intro pins s σ H D I h
 refine wpAny_For (thn (hi pins s σ H _ I h) fun v s1 h1=>thn h1 fun itv s2 h2=>?_) hs
 obtain ⟨it,fp,tn,J,H2,e,I2,T,st2,f2,W,⟨m0,w0⟩,turn⟩:=h2
 subst e
 have stat:∀ {H':Hp},(∀b∈fp,H' b=none)->∀b∈fp,FpOk X pins H' b:=fun hn b hb=>⟨hn b hb,(f2 b hb).2⟩
 refine codeAny_forLoop_any (fun n s'=>∃i σ' H',Inv X pins σ' H' s'/\tn i s'.heap/\(∀b∈fp,H' b=none)/\W i n σ' H') ?_ m0 ⟨0,σ,H2,I2,st2,fun b hb=>(f2 b hb).1,w0⟩
 rintro n s3 ⟨i,σ3,H3,I3,st3,fr3,w3⟩
 rcases turn i n σ3 H3 w3 with ⟨stop,qn⟩ | ⟨go,N,hN,step⟩
 ·refine wpAny_passesOwn hp (thn (T.done X rfl rfl rfl hc i pins s3 σ3 H3 X.xe I3 (stat fr3) st3 stop) fun r s4 ⟨hr,I4⟩=>?_)
  subst hr
  exact wpAny_execs_nil ⟨σ3,H3,I4,qn⟩
 ·refine wpAny_passesOwn hp (thn (T.item X rfl rfl rfl hc i pins s3 σ3 H3 X.xe I3 (stat fr3) st3 go) fun r s4 ⟨u,hr,h4⟩=>?_)
  subst hr
  refine wpAny_passesOwn hp (thn h4 fun _ s5 ⟨x,H5,I5,r5,y5,st5,fr5⟩=>?_)
  have I5':=I5.pinned (stat fr5) (T.obj _ _ st5)
  refine wpAny_passesOwn hp (thn (hg _ s5 σ3 H5 x u _ I5' r5 (step x H5 y5)) fun _ s6 ⟨σ6,H6,I6,q6⟩=>?_)
  refine wpAny_passesOwn hp (thn (hb _ s6 σ6 H6 _ I6 q6) fun f s7 q7=>?_)
  have again:∀ {σ7:St} {H7:Hp},Inv X (pins++JE5 fp s5.heap) σ7 H7 s7->N σ7 H7->∃m,m<n/\∃i σ' H',Inv X pins σ' H' s7/\tn i s7.heap/\(∀b∈fp,H' b=none)/\W i m σ' H':=fun {σ7 H7} I7 n7=>by
    obtain ⟨m',hm,w7⟩:=hN σ7 H7 n7
    refine ⟨m',hm,i+1,σ7,H7,I7.unpinned,T.keep _ _ _ st5 fun b hb o e=>(I7.pin (b,o) (q_r _ (q_r _ (JBp hb e)))).1,fun b hb=>?_,w7⟩
    obtain ⟨o,e,d⟩:=T.obj _ _ st5 b hb
    exact (I7.pin (b,o) (q_r _ (q_r _ (JBp hb e)))).2.1
  cases f with
  | next=>obtain ⟨σ7,H7,I7,n7⟩:=q7;exact again I7 n7
  | cont=>obtain ⟨σ7,H7,I7,n7⟩:=q7;exact again I7 n7
  | brk=>obtain ⟨σ7,H7,I7,q7⟩:=q7;exact ⟨σ7,H7,I7.unpinned,q7⟩
  | ret v=>obtain ⟨x7,σ7,H7,I7,r7,q7⟩:=q7;exact ⟨x7,σ7,H7,I7.unpinned,r7,q7⟩
end
end L2
namespace L2
open PySem PySem.Spec PyProof.Rows
noncomputable abbrev R2:=V->V->Hp->VK->Prop
noncomputable def OpR (X:Cx) (f:Value->Value->Sem Value) (r:R2):Prop :=
 ∀(pins:List (Addr×Obj)) (s:Shared) (σ:St) (H:Hp) (x y:V) (v u:Value) (Q:VK),Inv X pins σ H s->RelV x v->RelV y u->r x y H Q ->
  wpAny (model X.prog X.w) X.A (f v u) (EP X pins σ Q) X.xe s
noncomputable def UnR (X:Cx) (f:Value->Sem Value) (r:V->Hp->VK->Prop):Prop :=
 ∀(pins:List (Addr×Obj)) (s:Shared) (σ:St) (H:Hp) (x:V) (v:Value) (Q:VK),Inv X pins σ H s->RelV x v->r x H Q ->
  wpAny (model X.prog X.w) X.A (f v) (EP X pins σ Q) X.xe s
noncomputable def CallR (X:Cx) (f:Value) (r:List V->Hp->VK->Prop):Prop :=
 ∀(pins:List (Addr×Obj)) (s:Shared) (σ:St) (H:Hp) (xs:List V) (us:List Value) (Q:VK),Inv X pins σ H s->Vals xs us->r xs H Q ->
  wpAny (model X.prog X.w) X.A (call f us) (EP X pins σ Q) X.xe s
noncomputable def TruR (X:Cx) (r:V->Hp->(Bool->Hp->Prop)->Prop):Prop :=
 ∀(pins:List (Addr×Obj)) (s:Shared) (σ:St) (H:Hp) (x:V) (v:Value) (Q:Bool->Hp->Prop),Inv X pins σ H s->RelV x v->r x H Q ->
  wpAny (model X.prog X.w) X.A (truthy v) (TP X pins σ Q) X.xe s
noncomputable def tOp (r:R2) (ta tb:TE):TE:=fun σ H Q=>ta σ H fun x H1=>tb σ H1 fun y H2=>r x y H2 Q
noncomputable def tUn (r:V->Hp->VK->Prop) (ta:TE):TE:=fun σ H Q=>ta σ H fun x H1=>r x H1 Q
noncomputable def rI (C:Int->Int->Prop) (g:Int->Int->V):R2:=fun x y H Q=>∃i j,x=.int i/\y=.int j/\C i j/\Q (g i j) H
noncomputable def rI0 (g:Int->Int->V):R2:=fun x y H Q=>∃i j,x=.int i/\y=.int j/\Q (g i j) H
noncomputable def rU (g:Int->V):V->Hp->VK->Prop:=fun x H Q=>∃i,x=.int i/\Q (g i) H
section
variable {X:Cx} {a b c:Expr} {ta tb tc:TE} {pos:Pos}
theorem binT (ha:PE X a ta) (hb:PE X b tb) {pins:List (Addr×Obj)} {s:Shared} {σ:St} {H:Hp} {R:V->V->Hp->Prop} (I:Inv X pins σ H s)
  (h:ta σ H fun x H1=>tb σ H1 fun y H2=>R x y H2) {Q:Value->Shared->Prop} {f:Value->Value->Sem Value}
  (hf:∀v u s2 x y H2,Inv X pins σ H2 s2->RelV x v->RelV y u->R x y H2->wpAny (model X.prog X.w) X.A (f v u) Q X.xe s2) :
  wpAny (model X.prog X.w) X.A (eval a X.env) (fun v s₁=>wpAny (model X.prog X.w) X.A (eval b X.env) (fun u s₂=>wpAny (model X.prog X.w) X.A (f v u) Q X.xe s₂) X.xe s₁) X.xe s:=by
 refine thn (ha pins s σ H _ I h) fun v s1 ⟨x,H1,I1,r1,q1⟩=>?_
 refine thn (hb pins s1 σ H1 _ I1 q1) fun u s2 ⟨y,H2,I2,r2,q2⟩=>?_
 exact hf v u s2 x y H2 I2 r1 r2 q2
theorem JOX {op:Operator} {r:R2} (ho:OpR X (binaryOp op) r) (ha:PE X a ta) (hb:PE X b tb):PE X (.BinOp a op b pos) (tOp r ta tb):=by
 intro pins s σ H Q I h
 exact wpAny_BinOp (binT ha hb I h fun v u s2 x y H2 I2 rx ry q=>ho pins s2 σ H2 x y v u Q I2 rx ry q)
theorem JPS {op:UnaryOp} {r:V->Hp->VK->Prop} (ho:UnR X (unaryOp op) r) (ha:PE X a ta):PE X (.UnaryOp op a pos) (tUn r ta):=by
 intro pins s σ H Q I h
 exact UnaryOp_ (thn (ha pins s σ H _ I h) fun v s1 ⟨x,H1,I1,r1,q1⟩=>ho pins s1 σ H1 x v Q I1 r1 q1)
theorem opI {f:Value->Value->Sem Value} {C:Int->Int->Prop} {g:Int->Int->Int}
  (rule:∀(i j:Int) (t u:Tok) (s:Shared) (Q:Value->Shared->Prop) (E:Value->Shared->Prop),C i j->Q (.int (g i j) s.toks) { s with toks:=s.toks+1 }->wpAny (model X.prog X.w) X.A (f (.int i t) (.int j u)) Q E s) :
  OpR X f (rI C fun i j=>.int (g i j)):=by
 intro pins s σ H x y v u Q I rx ry h
 obtain ⟨i,j,rfl,rfl,hc,q⟩:=h
 obtain ⟨t,rfl⟩:=rx
 obtain ⟨t',rfl⟩:=ry
 exact rule i j t t' s _ _ hc ⟨.int (g i j),H,I.tok _,⟨_,rfl⟩,q⟩
theorem opI0 {f:Value->Value->Sem Value} {g:Int->Int->Int}
  (rule:∀(i j:Int) (t u:Tok) (s:Shared) (Q:Value->Shared->Prop) (E:Value->Shared->Prop),Q (.int (g i j) s.toks) { s with toks:=s.toks+1 }->wpAny (model X.prog X.w) X.A (f (.int i t) (.int j u)) Q E s) :
  OpR X f (rI0 fun i j=>.int (g i j)):=by
 intro pins s σ H x y v u Q I rx ry h
 obtain ⟨i,j,rfl,rfl,q⟩:=h
 obtain ⟨t,rfl⟩:=rx
 obtain ⟨t',rfl⟩:=ry
 exact rule i j t t' s _ _ ⟨.int (g i j),H,I.tok _,⟨_,rfl⟩,q⟩
theorem opB0 {f:Value->Value->Sem Value} {g:Int->Int->Bool}
  (rule:∀(i j:Int) (t u:Tok) (s:Shared) (Q:Value->Shared->Prop) (E:Value->Shared->Prop),Q (.bool (g i j)) s->wpAny (model X.prog X.w) X.A (f (.int i t) (.int j u)) Q E s) :
  OpR X f (rI0 fun i j=>.bl (g i j)):=by
 intro pins s σ H x y v u Q I rx ry h
 obtain ⟨i,j,rfl,rfl,q⟩:=h
 obtain ⟨t,rfl⟩:=rx
 obtain ⟨t',rfl⟩:=ry
 exact rule i j t t' s _ _ ⟨.bl (g i j),H,I,rfl,q⟩
noncomputable def CPow (i j:Int):Prop:=0<=j/\j<=1000000/\i.natAbs<2 ^ 64
noncomputable def CMul (i j:Int):Prop:=(-(2 ^ 64)<i/\i<2 ^ 64)\/(-(2 ^ 64)<j/\j<2 ^ 64)
theorem CMul.ok {i j:Int} (h:CMul i j):IntMulOk i j:=by
 rcases h with ⟨h1,h2⟩ | ⟨h1,h2⟩
 ·exact .of_left (intBits_le_64 h1 h2)
 ·exact .of_right (intBits_le_64 h1 h2)
theorem JQR:OpR X (binaryOp .Add) (rI0 fun i j=>.int (i+j)):=opI0 fun _ _ _ _ _ _ _ q=>add_int q
theorem JRT:OpR X (binaryOp .Sub) (rI0 fun i j=>.int (i - j)):=opI0 fun _ _ _ _ _ _ _ q=>sub_int q
theorem JNd:OpR X (binaryOp .Mod) (rI (fun _ j=>j≠0) fun i j=>.int (i.fmod j)):=opI fun _ _ _ _ _ _ _ hc q=>mod_int' hc q
theorem JQk:OpR X (binaryOp .Pow) (rI CPow fun i j=>.int (i ^ j.toNat)):=opI fun _ _ _ _ _ _ _ hc q=>pow_int_small hc.1 hc.2.1 hc.2.2 q
theorem unI {f:Value->Sem Value} {g:Int->Int}
  (rule:∀(i:Int) (t:Tok) (s:Shared) (Q:Value->Shared->Prop) (E:Value->Shared->Prop),Q (.int (g i) s.toks) { s with toks:=s.toks+1 }->wpAny (model X.prog X.w) X.A (f (.int i t)) Q E s) :
  UnR X f (rU fun i=>.int (g i)):=by
 intro pins s σ H x v Q I rx h
 obtain ⟨i,rfl,q⟩:=h
 obtain ⟨t,rfl⟩:=rx
 exact rule i t s _ _ ⟨.int (g i),H,I.tok _,⟨_,rfl⟩,q⟩
theorem JMU:UnR X (unaryOp .USub) (rU fun i=>.int (-i)):=unI fun _ _ _ _ _ q=>neg_int q
end
section
variable {X:Cx} {a b c:Expr} {ta tb tc:TE} {pos:Pos}
theorem op_lt:OpR X (compareOp .Lt) (rI0 fun i j=>.bl (decide (i<j))):=opB0 fun _ _ _ _ _ _ _ q=>lt_int q
theorem op_le:OpR X (compareOp .LtE) (rI0 fun i j=>.bl (decide (i<=j))):=opB0 fun _ _ _ _ _ _ _ q=>le_int q
theorem op_gt:OpR X (compareOp .Gt) (rI0 fun i j=>.bl (decide (j<i))):=opB0 fun _ _ _ _ _ _ _ q=>gt_int q
theorem op_ge:OpR X (compareOp .GtE) (rI0 fun i j=>.bl (decide (j<=i))):=opB0 fun _ _ _ _ _ _ _ q=>ge_int q
theorem OpR.or {f:Value->Value->Sem Value} {r r':R2} (h:OpR X f r) (h':OpR X f r'):OpR X f (fun x y H Q=>r x y H Q\/r' x y H Q):=by
 intro pins s σ H x y v u Q I rx ry q
 rcases q with q | q
 ·exact h pins s σ H x y v u Q I rx ry q
 ·exact h' pins s σ H x y v u Q I rx ry q
theorem JEH {op:CmpOp} {r:R2} (ho:OpR X (compareOp op) r) (ha:PE X a ta) (hb:PE X b tb) (hm:behindInMarks op b=false):PE X (.Compare a [op] [b] pos) (tOp r ta tb):=by
 intro pins s σ H Q I h
 exact wpAny_Compare1 (binT ha hb I h fun v u s2 x y H2 I2 rx ry q=>ho pins s2 σ H2 x y v u Q I2 rx ry q) hm
noncomputable def JPf (t:TE):TT:=fun σ H Q=>t σ H fun x H'=>∃k,x=.bl k/\Q k H'
theorem JD2 {op:CmpOp} {r:R2} (ho:OpR X (compareOp op) r) (ha:PE X a ta) (hb:PE X b tb) (hm:behindInMarks op b=false):PT X (.Compare a [op] [b] pos) (JPf (tOp r ta tb)):=by
 intro pins s σ H Q I h
 refine wpAny_isTrue_Compare1 (thn (ha pins s σ H _ I h) fun v s1 ⟨x,H1,I1,r1,q1⟩=>thn (hb pins s1 σ H1 _ I1 q1) fun u s2 ⟨y,H2,I2,r2,q2⟩ =>
  thn (ho pins s2 σ H2 x y v u _ I2 r1 r2 q2) fun c s3 ⟨z,H3,I3,r3,k,e,q3⟩=>?_) hm
 subst e
 cases r3
 exact wpAny_truthy_bool ⟨H3,I3,q3⟩
noncomputable def TruV (K:PySem.W.Frag) (x:V) (H:Hp) (k:Bool):Prop :=
 match x with
 | .non=>k=false
 | .bl b=>k=b
 | .int i=>k=(i != 0)
 | .str y=>y.length<=sizeLine/\k=((y.length:Int) != 0)
 | .byt y=>y.size<=sizeLine/\k=((y.size:Int) != 0)
 | .ref p=>(∃xs,SqL K H p xs/\k=!xs.isEmpty)\/(∃xs,SqT K H p xs/\k=!xs.isEmpty)\/∃kvs,H p=some (.dK kvs)/\k=!kvs.isEmpty
 | _=>False
theorem JGz {κ:Type} {kvs:List (κ×V)} {vs:List (κ×Value)} (r:KV kvs vs):(!vs.isEmpty)=!kvs.isEmpty:=by
 cases r<;>rfl
theorem JDl {xs:List V} {its:List Value} (r:Vals xs its):(!its.toArray.isEmpty)=!xs.isEmpty:=by
 cases r<;>simp
theorem JE8:(sizeLine:Nat)<2 ^ 63:=by rw [sizeLine_eq];decide
theorem JMY:TruR X (fun x H Q=>∃k,TruV X.K x H k/\Q k H):=by
 intro pins s σ H x v Q I rx h
 obtain ⟨k,e,q⟩:=h
 have hl:=JE8
 have hs:sizeLine=16777216:=sizeLine_eq
 cases x with
 | non =>
  cases rx
  have e':k=false:=e
  subst e'
  exact truthy_none ⟨H,I,q⟩
 | bl b =>
  cases rx
  have e':k=b:=e
  subst e'
  exact wpAny_truthy_bool ⟨H,I,q⟩
 | int i =>
  obtain ⟨t,rfl⟩:=rx
  have e':k=(i != 0):=e
  subst e'
  exact PySem.P.truthy_int ⟨H,I,q⟩
 | str y =>
  obtain ⟨t,rfl⟩:=rx
  obtain ⟨hy,e'⟩:y.length<=sizeLine/\k=((y.length:Int) != 0):=e
  subst e'
  exact PySem.P.truthy_str (by omega) ⟨H,I.tok _,q⟩
 | byt y =>
  obtain ⟨t,rfl⟩:=rx
  obtain ⟨hy,e'⟩:y.size<=sizeLine/\k=((y.size:Int) != 0):=e
  subst e'
  exact PySem.W.truthy_bytes (by omega) ⟨H,I.tok _,q⟩
 | ref p =>
  cases rx
  have e':(∃xs,SqL X.K H p xs/\k=!xs.isEmpty)\/(∃xs,SqT X.K H p xs/\k=!xs.isEmpty)\/∃kvs,H p=some (.dK kvs)/\k=!kvs.isEmpty:=e
  rcases e' with ⟨xs,hx,e'⟩ | ⟨xs,hx,e'⟩ | ⟨kvs,hx,e'⟩
  ·subst e'
   obtain ⟨its,r,pl,hz⟩:=I.list hx
   have hlen:=r.length
   exact wpAny_truthy_list pl.isList (by simp only [q_f];omega) ⟨H,I.tok _,by rw [JDl r];exact q⟩
  ·subst e'
   obtain ⟨its,r,pl,hz⟩:=I.tuple hx
   have hlen:=r.length
   exact truthy_tuple pl (by simp only [q_f];omega) ⟨H,I.tok _,by rw [JDl r];exact q⟩
  ·subst e'
   obtain ⟨hz,hS,vs,r,m⟩:kvs.length<=sizeLine/\(p==sysModules)=false/\∃vs,KV kvs vs/\s.heap.DictOf (JAc X.prog X.w) p vs:=I.hok p _ hx
   have hlen:kvs.length=vs.length:=Paired.length r
   exact wpAny_truthy_dict hS m (by omega) ⟨H,I.tok _,by rw [JGz r];exact q⟩
 | _=>exact (show False from e).elim
theorem JKi (ha:PE X a ta) (he:∀whole,isTrue a X.env whole=(do let v<-whole;standAt a.pos;holding [v] (truthy v))) :
  PT X a (fun σ H Q=>ta σ H fun x H'=>∃k,TruV X.K x H' k/\Q k H'):=by
 intro pins s σ H Q I h
 exact isTrue_plain (thn (ha pins s σ H _ I h) fun v s1 ⟨x,H1,I1,r1,q1⟩=>JMY pins s1 σ H1 x v Q I1 r1 q1) (he _)
theorem vals1 {x:V} {us:List Value} (r:Vals [x] us):∃u,us=[u]/\RelV x u:=by
 cases r with
 | cons r1 r2=>cases r2;exact ⟨_,rfl,r1⟩
theorem JKk:CallR X (.builtin "abs") (fun xs H Q=>∃i,xs=[.int i]/\Q (.int (if i<0 then -i else i)) H):=by
 intro pins s σ H xs us Q I r h
 obtain ⟨i,rfl,q⟩:=h
 obtain ⟨u,rfl,t,rfl⟩:=vals1 r
 exact call_abs_int fun u tk=>⟨.int (if i<0 then -i else i),H,I.tok _,⟨_,rfl⟩,q⟩
noncomputable def LenV (K:PySem.W.Frag) (x:V) (H:Hp) (n:Nat):Prop :=
 match x with
 | .str y=>y.length<=sizeLine/\n=y.length
 | .byt y=>y.size<=sizeLine/\n=y.size
 | .ref p=>(∃xs,SqL K H p xs/\n=xs.length)\/∃xs,SqT K H p xs/\n=xs.length
 | _=>False
theorem JKQ:CallR X (.builtin "len") (fun xs H Q=>∃x n,xs=[x]/\LenV X.K x H n/\Q (.int n) H):=by
 intro pins s σ H xs us Q I r h
 obtain ⟨x,n,rfl,e,q⟩:=h
 obtain ⟨u,rfl,rx⟩:=vals1 r
 have hl:=JE8
 have hs:sizeLine=16777216:=sizeLine_eq
 cases x with
 | str y =>
  obtain ⟨t,rfl⟩:=rx
  obtain ⟨hy,e'⟩:y.length<=sizeLine/\n=y.length:=e
  subst e'
  exact len_str (by omega) ⟨.int _,H,I.tok _,⟨_,rfl⟩,q⟩
 | byt y =>
  obtain ⟨t,rfl⟩:=rx
  obtain ⟨hy,e'⟩:y.size<=sizeLine/\n=y.size:=e
  subst e'
  exact PySem.W.len_bytes (by omega) ⟨.int _,H,I.tok _,⟨_,rfl⟩,q⟩
 | ref p =>
  cases rx
  have e':(∃xs,SqL X.K H p xs/\n=xs.length)\/∃xs,SqT X.K H p xs/\n=xs.length:=e
  rcases e' with ⟨xs,hx,e'⟩ | ⟨xs,hx,e'⟩
  ·subst e'
   obtain ⟨its,r',pl,hz⟩:=I.list hx
   have hlen:=r'.length
   exact Calls.call_len_list pl.isList (by simp only [q_f];omega) ⟨.int xs.length,H,I.tok _,⟨_,by simp only [q_f];rw [hlen]⟩,q⟩
  ·subst e'
   obtain ⟨its,r',pl,hz⟩:=I.tuple hx
   have hlen:=r'.length
   exact len_tuple pl (by simp only [q_f];omega) ⟨.int xs.length,H,I.tok _,⟨_,by simp only [q_f];rw [hlen]⟩,q⟩
 | _=>exact (show False from e).elim
end
end L2
namespace L2
open PySem PySem.Spec PyProof.Rows
structure ObjM (h:Heap) (x dx C:Addr) (mA:Str->Option Value):Prop where
 obj:h.get? x=some (PySem.W.instObj C dx)
 ns:h.Ns1 dx mA
 ne:dx≠x
section
variable {prog:Program} {w:World} {A:Around} {E:Value->Shared->Prop} {s:Shared} {K:PySem.W.Frag} {x dx C f:Addr} {mA:Str->Option Value} {name:Str} {v:Value}
end
section
variable {P:Program} {w:World} {H H':Hp} {h h':Heap} {a C dx:Addr} {fs fs':List (Str×V)}
end
structure Cls (K:PySem.W.Frag) (C:Addr):Prop where
 pg:PySem.W.plainGet K C Str.empty=true
 hd:PySem.W.hasDictIn K C=true
 po:PySem.W.plainOver K C=true
 sa:PySem.W.findIn K (.ref C) "__setattr__"=some (some (.builtin "object.__setattr__"))
theorem Cls.get {K:PySem.W.Frag} {C:Addr} (c:Cls K C) (f:Str):PySem.W.plainGet K C f=true:=c.pg
section
variable {X:Cx} {pins:List (Addr×Obj)} {σ:St} {H:Hp} {s:Shared} {a C dx:Addr} {fs:List (Str×V)} {f:Str} {v:V} {A:Around} {E:Value->Shared->Prop}
theorem Inv.made (I:Inv X pins σ H s):Inv X pins σ (upd (upd H s.heap.objs.size (.own (s.heap.objs.size+1))) (s.heap.objs.size+1) (.ins C s.heap.objs.size []))
  { s with heap:=(s.heap.push PySem.W.emptyDict).push (PySem.W.instObj C s.heap.objs.size) }:=by
 have e1:(s.heap.push PySem.W.emptyDict).get? s.heap.objs.size=some PySem.W.emptyDict:=q_k s.heap rfl
 have e2:((s.heap.push PySem.W.emptyDict).push (PySem.W.instObj C s.heap.objs.size)).get? (s.heap.objs.size+1)=some (PySem.W.instObj C s.heap.objs.size):=by
  have:=q_k (s.heap.push PySem.W.emptyDict) (o:=PySem.W.instObj C s.heap.objs.size) rfl
  rwa [Heap.size_push] at this
 have e3:(s.heap.push PySem.W.emptyDict).Ns s.heap.objs.size (fun _=>none):=⟨PySem.W.emptyDict,#[],_,e1,rfl,(fun e he=>absurd he (by simp)),fun _=>rfl⟩
 have I1:=I.laid (a:=s.heap.objs.size) (o:=.own (s.heap.objs.size+1)) (h':=s.heap.push PySem.W.emptyDict) (t':=s.toks) (fun b u q=>q_c _ q) (q_t _) ⟨_,e1⟩
 refine I1.laid (a:=s.heap.objs.size+1) (o:=.ins C s.heap.objs.size []) (t':=s.toks) (fun b u q=>q_c _ q) (Nat.le_of_eq (Heap.size_push _ _)) ?_
 have ne:s.heap.objs.size≠s.heap.objs.size+1:=q_l (Nat.lt_succ_self _)
 refine ⟨by rw [JAM ne,JAG],Nat.zero_le _,ne,e2,fun _=>none,(Heap.Ns1.of_empty e3).at fun o q=>q_c _ q,fun _=>True.intro,fun y hy=>absurd rfl hy⟩
end
section
variable {X:Cx} {o e value:Expr} {f:Str} {pos pos' tpos:Pos} {ta tv:TE}
end
section
variable {X:Cx} {pins:List (Addr×Obj)} {σ:St} {H:Hp} {s:Shared} {A:Around} {E:Value->Shared->Prop} {Q:Value->Shared->Prop} {c:Value} {b:Bool}
end
end L2
namespace L2
open PySem PySem.Spec PyProof.Rows
structure Room (k:Nat) (A:Around):Prop where
 hd:A.handled=none
 dp:A.depth+3*k+5<recursionLimit
 un:A.units+16*k+200<cLine
theorem Room.mono {j k:Nat} {A:Around} (r:Room k A) (h:j<=k):Room j A:=⟨r.hd,by have:=r.dp;omega,by have:=r.un;omega⟩
theorem Room.deeper {k:Nat} {A:Around} (r:Room (k+1) A) (env:Env):Room k (A.deeper env) :=
 ⟨r.hd,by have:=r.dp;show A.depth+1+3*k+5<_;omega,by have:=r.un;show A.units+3+16*k+200<_;omega⟩
theorem Room.depth {k:Nat} {A:Around} (r:Room k A):A.depth<recursionLimit:=by have:=r.dp;omega
noncomputable def tNil:TA:=fun _ H Q=>Q [] H
noncomputable def tCons (ta:TE) (tr:TA):TA:=fun σ H Q=>ta σ H fun x H1=>tr σ H1 fun xs H2=>Q (x::xs) H2
section
variable {X:Cx} {e:Expr} {es:List Expr} {te:TE} {t:TA} {pos:Pos}
theorem JCZ:PA X [] tNil:=fun _ _ _ _ H Q I h=>Calls.spliced_nil ⟨[],H,I,.nil,h⟩
theorem JBS (ha:PE X e te) (hr:PA X es t) (hs:starEach (e::es) X.env=(false,eval e X.env)::starEach es X.env:=by rfl):PA X (e::es) (tCons te t):=by
 intro pos pins s σ H Q I h
 rw [hs]
 show wpAny _ _ (spliced ((false,eval e X.env)::backTo pos (starEach es X.env))) _ _ s
 refine Calls.spliced_cons (thn (ha pins s σ H _ I h) fun u s1 ⟨x,H1,I1,r1,q1⟩=>?_)
 exact thn (hr pos pins s1 σ H1 _ I1 q1) fun us s2 ⟨xs,H2,I2,r2,q2⟩=>⟨x::xs,H2,I2,.cons r1 r2,q2⟩
noncomputable def tTup (t:TA):TE:=fun σ H Q=>t σ H fun xs H1=>xs.length<=sizeLine/\∀p,H1 p=none->Q (.ref p) (upd H1 p (.tup xs))
noncomputable def tLst (t:TA):TE:=fun σ H Q=>t σ H fun xs H1=>xs.length<=sizeLine/\∀p,H1 p=none->Q (.ref p) (upd H1 p (.lst xs))
theorem JRX {x1} (h:PA X es t):PE X (.Tuple es x1 pos) (tTup t):=by
 intro pins s σ H Q I hq
 refine wpAny_Tuple_spliced (thn (h pos pins s σ H _ I hq) fun us s1 ⟨xs,H1,I1,r,z,q⟩=>⟨by rw [<-r.length];exact z,?_⟩)
 have hf:H1 s1.heap.objs.size=none:=I1.hok.fresh (q_t _)
 refine ⟨.ref s1.heap.objs.size,upd H1 s1.heap.objs.size (.tup xs),I1.laid (t':=s1.toks) (fun b u e=>q_c _ e) (q_t _) ?_,rfl,q _ hf⟩
 exact ⟨z,us,r,⟨_,q_k _ rfl,rfl,_,rfl⟩⟩
theorem JMO (h:PA X es t):PE X (.List es pos) (tLst t):=by
 intro pins s σ H Q I hq
 refine wpAny_List_spliced (thn (h pos pins s σ H _ I hq) fun us s1 ⟨xs,H1,I1,r,z,q⟩=>⟨by rw [<-r.length];exact z,?_⟩)
 have hf:H1 s1.heap.objs.size=none:=I1.hok.fresh (q_t _)
 refine ⟨.ref s1.heap.objs.size,upd H1 s1.heap.objs.size (.lst xs),I1.laid (t':=s1.toks) (fun b u e=>q_c _ e) (q_t _) ?_,rfl,q _ hf⟩
 exact ⟨z,us,0,r,q_k _ rfl⟩
end
noncomputable abbrev Sp:=List V->Hp->VK->XK->Prop
noncomputable abbrev CXT:=List Env->Hp->Shared->XK->Value->Shared->Prop
structure Env0 (P:Program) (w:World) (K:PySem.W.Frag) (mg:Str->Option Value) (base:Heap) (A:Around) (outer:List Env) (s:Shared) (H:Hp):Prop where
 frames:A.frames=some outer
 mod:Mod K mg base
 bs:∀b o,base.get? b=some o->s.heap.get? b=some o/\H b=none
 bsz:base.objs.size<=s.heap.objs.size
 funs:s.heap.FunFrames base outer
 frf:∀b∈frs outer,H b=none
 hok:HOk P w H s.heap
 bare:AllBare s.gens
noncomputable def CE (outer:List Env) (P:Program) (w:World) (H:Hp) (s:Shared) (Q:VK) (u:Value) (s':Shared):Prop :=
 ∃v H',s'.os=s.os/\AllBare s'.gens/\Un (frs outer) [] H H' s.heap s'.heap/\HOk P w H' s'.heap/\RelV v u/\Q v H'
noncomputable def CR (CX:CXT) (outer:List Env) (P:Program) (w:World) (H:Hp) (s:Shared) (Q:VK) (E:XK) (r:Result) (s':Shared):Prop :=
 match r with
 | .ok (.ret u)=>CE outer P w H s Q u s'
 | .ok _=>False
 | .error e=>CX outer H s E e s'
structure FnOk (P:Program) (w:World) (K:PySem.W.Frag) (mg:Str->Option Value) (base:Heap) (CX:CXT) (k:Nat) (f:Addr) (fd:FuncData) (ps:List Str) (sp:Sp):Prop where
 len:∀vs H Q E,sp vs H Q E->vs.length=ps.length
 run:∀(A:Around) (outer:List Env) (s:Shared) (H:Hp) (args:Args) (us:List Value) (vs:List V) (Q:VK) (E:XK),Room k A->Env0 P w K mg base A outer s H->BindsTo s fd args (ps.zip us)->Vals vs us->sp vs H Q E ->
  codeAny (model P w) A (.call (.ref f) args) (CR CX outer P w H s Q E) s
theorem FnOk.mono {P:Program} {w:World} {K:PySem.W.Frag} {mg:Str->Option Value} {base:Heap} {CX:CXT} {j k:Nat} {f:Addr} {fd:FuncData} {ps:List Str} {sp:Sp} (F:FnOk P w K mg base CX j f fd ps sp) (h:j<=k) :
 FnOk P w K mg base CX k f fd ps sp:=⟨F.len,fun A outer s H args us vs Q E hr=>F.run A outer s H args us vs Q E (hr.mono h)⟩
theorem FnOk.imp {P:Program} {w:World} {K:PySem.W.Frag} {mg:Str->Option Value} {base:Heap} {CX:CXT} {k:Nat} {f:Addr} {fd:FuncData} {ps:List Str} {sp sp':Sp} (F:FnOk P w K mg base CX k f fd ps sp)
  (h:∀vs H Q E,sp' vs H Q E->sp vs H Q E):FnOk P w K mg base CX k f fd ps sp' :=
 ⟨fun vs H Q E q=>F.len vs H Q E (h _ _ _ _ q),fun A outer s H args us vs Q E hr he hb hv hs=>F.run A outer s H args us vs Q E hr he hb hv (h _ _ _ _ hs)⟩
section
variable {X:Cx} {pins:List (Addr×Obj)} {σ:St} {H:Hp} {s s':Shared}
theorem Inv.env0 (I:Inv X pins σ H s):Env0 X.prog X.w X.K X.mg X.base X.A X.stack s H :=
 ⟨I.ok.frames,I.ok.mod,I.bs,Nat.le_trans I.ok.bsz I.sz,I.stack,I.stkFree,I.hok,I.bare⟩
theorem Inv.after {Q:VK} {u:Value} (I:Inv X pins σ H s) (h:CE X.stack X.prog X.w H s Q u s'):EP X pins σ Q u s':=by
 obtain ⟨v,H',os,bare,un,hok,r,q⟩:=h
 obtain ⟨hh,g,d,t,os'⟩:=s'
 obtain rfl:os'=s.os:=os
 exact ⟨v,H',I.call (h':=hh) (g':=g) (d':=d) (t':=t) (ch:=[]) un hok bare (fun b z=>absurd z (by simp)),r,q⟩
end
noncomputable def tCall (sp:Sp) (dvs:List V) (E:XK) (t:TA):TE:=fun σ H Q=>t σ H fun vs H1=>sp (vs++dvs) H1 Q E
noncomputable def Binds (K:PySem.W.Frag) (fd:FuncData) (ps:List Str) (ds:List Value):Prop :=
 ∀(s:Shared) (us:List Value),K.In s.heap->(us++ds).length=ps.length->BindsTo s fd ⟨us,[]⟩ (ps.zip (us++ds))
theorem Binds.all {K:PySem.W.Frag} {fd:FuncData} {ps:List Str} (h:∀us:List Value,us.length=ps.length->bindArgs fd ⟨us,[]⟩=pure (ps.zip us)):Binds K fd ps []:=fun s us _ hl=>by
 rw [List.append_nil] at hl ⊢
 exact .of_eq (h us hl)
noncomputable def JEo (CX:CXT) (X:Cx) (E:XK):Prop:=∀(pins:List (Addr×Obj)) (σ:St) (H:Hp) (s:Shared) (e:Value) (s':Shared),Inv X pins σ H s->CX X.stack H s E e s'->X.xe e s'
section
variable {X:Cx} {CX:CXT} {k:Nat} {f C:Addr} {fd:FuncData} {ps:List Str} {sp:Sp} {dvs:List V} {ds:List Value} {E:XK} {x m:Str} {p pos apos:Pos} {e o:Expr} {es:List Expr} {ta:TE} {t:TA}
theorem JQj {pins:List (Addr×Obj)} {σ:St} {H:Hp} {s:Shared} {Q:VK} {us:List Value} {vs:List V} (F:FnOk X.prog X.w X.K X.mg X.base CX k f fd ps sp) (hr:Room k X.A) (hb:Binds X.K fd ps ds) (hd:Vals dvs ds) (hx:JEo CX X E)
  (I:Inv X pins σ H s) (r:Vals vs us) (h:sp (vs++dvs) H Q E):wpAny (model X.prog X.w) X.A (call (.ref f) us) (EP X pins σ Q) X.xe s:=by
 have r2:Vals (vs++dvs) (us++ds):=r.append hd
 have hl:(us++ds).length=ps.length:=by rw [<-r2.length];exact F.len _ _ _ _ h
 refine wpAny_call (codeAny_mono (F.run X.A X.stack s H ⟨us,[]⟩ (us++ds) (vs++dvs) Q E hr I.env0 (hb s us I.kIn hl) r2 h) fun r s' hq=>?_)
 cases r with
 | error e=>exact hx pins σ H s e s' I hq
 | ok fl =>
  cases fl with
  | ret u=>exact I.after hq
  | next=>exact False.elim hq
  | brk=>exact False.elim hq
  | cont=>exact False.elim hq
theorem JMk (F:FnOk X.prog X.w X.K X.mg X.base CX k f fd ps sp) (hr:Room k X.A) (hg:Gl X x) (hm:X.mg x=some (.ref f)) (hk:PySem.W.keepIn X.K (.ref f)=true) (hb:Binds X.K fd ps ds) (hd:Vals dvs ds) (hx:JEo CX X E)
  (ha:PA X (e::es) t) (hdb:(x==("__debug__":Str))=false:=by decide) (he:starEach (e::es) X.env=(false,eval e X.env)::starEach es X.env:=by rfl) (hpl:(backTo pos (starEach es X.env)).any (·.1)=false:=by rfl) :
  PE X (.Call (.Name x p) (e::es) [] pos) (tCall sp dvs E t):=by
 intro pins s σ H Q I h
 refine wpAny_Call_Name_kw (JFm I hg hm ?_ hdb)
 refine PySem.W.callWith_K (h₀:=X.base) I.ok.mod.kin hk (thn (ha pos pins s σ H _ I h) fun us s1 ⟨vs,H1,I1,r,q⟩=>⟨I1.kIn,?_⟩) he hpl
 exact JQj F hr hb hd hx I1 r q
end
section
variable {X:Cx} {CX:CXT} {k:Nat} {f C:Addr} {fd:FuncData} {ps ks:List Str} {sp:Sp} {E:XK} {x m:Str} {p pos apos kpos:Pos} {e o:Expr} {es:List Expr} {kws:List Keyword} {te ta:TE} {t tk:TA} {nm:Option Str}
variable {g:List Value->List Value->List Value} {gV:List V->List V->List V}
end
structure FnScope (N P:List Str) (sc:Scope):Prop where
 kind:sc.kind=.function
 co:sc.isCoroutine=false
 gen:sc.isGenerator=false
 nd:N.Nodup
 pre:N.take P.length=P
 par:∀x∈P,sc.names.lookup x=some .local\/sc.names.lookup x=some .cell
 nofree:∀y∈sc.names,y.2≠.free
theorem JEk {kindOf:Str->Option NameKind} {x:Str}:∀ {binds:List (Str×Value)} {m:Str->Option Value},(∀v,(x,v) ∉ binds)->bindL kindOf binds m x=m x
 | [],_,_=>rfl
 |(n,v)::r,m,h=>by
  unfold bindL
  rw [JEk fun w hw=>h w (q_s _ hw)]
  split
  · have:x≠n:=by rintro rfl;exact h v List.mem_cons_self
    simp [this]
  · rfl
theorem JEZ {kindOf:Str->Option NameKind} {x:Str}:∀ {binds:List (Str×Value)} {m:Str->Option Value},(∀v,(x,v) ∉ binds)->bindC kindOf binds m x=m x
 | [],_,_=>rfl
 |(n,v)::r,m,h=>by
  unfold bindC
  rw [JEZ fun w hw=>h w (q_s _ hw)]
  split
  · rfl
  · have:x≠n:=by rintro rfl;exact h v List.mem_cons_self
    simp [this]
theorem JE7 {kindOf:Str->Option NameKind} {x:Str} {v:Value}:∀ {P:List Str} {vs:List Value} {i:Nat} {m:Str->Option Value},P.Nodup->P[i]? = some x->vs[i]? = some v->kindOf x=some .local ->
  bindL kindOf (P.zip vs) m x=some v
 | [],_,_,_,_,h,_,_=>by simp at h
 | _::_,[],_,_,_,_,h,_=>by simp at h
 | p::P,w::vs,0,m,nd,h1,h2,hk=>by
  simp at h1 h2;subst h1;subst h2
  show bindL kindOf ((p,w)::P.zip vs) m p=_
  unfold bindL
  rw [JEk fun v hv=>(List.nodup_cons.mp nd).1 (List.of_mem_zip hv).1,if_pos hk]
  simp
 | p::P,w::vs,i+1,m,nd,h1,h2,hk=>by
  show bindL kindOf ((p,w)::P.zip vs) m x=_
  unfold bindL
  exact JE7 (i:=i) (List.nodup_cons.mp nd).2 (by simpa using h1) (by simpa using h2) hk
theorem JFB {kindOf:Str->Option NameKind} {x:Str} {v:Value}:∀ {P:List Str} {vs:List Value} {i:Nat} {m:Str->Option Value},P.Nodup->P[i]? = some x->vs[i]? = some v->kindOf x≠some .local ->
  bindC kindOf (P.zip vs) m x=some v
 | [],_,_,_,_,h,_,_=>by simp at h
 | _::_,[],_,_,_,_,h,_=>by simp at h
 | p::P,w::vs,0,m,nd,h1,h2,hk=>by
  simp at h1 h2;subst h1;subst h2
  show bindC kindOf ((p,w)::P.zip vs) m p=_
  unfold bindC
  rw [JEZ fun v hv=>(List.nodup_cons.mp nd).1 (List.of_mem_zip hv).1,if_neg hk]
  simp
 | p::P,w::vs,i+1,m,nd,h1,h2,hk=>by
  show bindC kindOf ((p,w)::P.zip vs) m x=_
  unfold bindC
  exact JFB (i:=i) (List.nodup_cons.mp nd).2 (by simpa using h1) (by simpa using h2) hk
noncomputable def start (N:List Str) (vs:List V):St:=vs.map some++List.replicate (N.length - vs.length) none
noncomputable def cxOf (CX:CXT) (P:Program) (w:World) (K:PySem.W.Frag) (mg:Str->Option Value) (base:Heap) (N:List Str) (qual:Str) (scope:Scope) (f:Addr) (cd:Value) (A:Around) (outer:List Env) (s:Shared) (H:Hp) (E:XK):Cx where
 prog:=P
 w:=w
 K:=K
 mg:=mg
 base:=base
 A:=A.deeper (envOfC qual scope s.heap.objs.size f cd)
 N:=N
 s₀:=s
 H₀:=H
 env:=envOfC qual scope s.heap.objs.size f cd
 outer:=outer
 stack:=envOfC qual scope s.heap.objs.size f cd::outer
 ex:=[]
 calm:=true
 fn:=fun _=>true
 pn:=[]
 xe:=fun e s'=>wpAny (model P w) (A.deeper (envOfC qual scope s.heap.objs.size f cd)) (leaving (envOfC qual scope s.heap.objs.size f cd) e) (fun _ s''=>CX outer H s E e s'') (fun e' s''=>CX outer H s E e' s'') s'
theorem JGC {sc:Scope} {n:Nat} {x:Str} (h:sc.names.lookup x=some .cell):∃c,(cellsFrom n sc.names []).lookup x=some c:=by
 have q:=PySem.W.cellsFrom_some sc.names n [] (.inl h)
 exact Option.isSome_iff_exists.mp q
theorem JIO {CX:CXT} {P:Program} {w:World} {K:PySem.W.Frag} {mg:Str->Option Value} {base:Heap} {N ps:List Str} {qual:Str} {scope:Scope} {f:Addr} {cd:Value} {A:Around} {outer:List Env} {s s1:Shared} {H:Hp} {E:XK} {us:List Value} {vs:List V}
  (S:FnScope N ps scope) (hd:A.handled=none) (e0:Env0 P w K mg base A outer s H) (hl:vs.length=ps.length) (r:Vals vs us)
  (x:InCallC s s.heap.objs.size (bindL (envOfC qual scope s.heap.objs.size f cd).kindOf (ps.zip us) fun _=>none) (cellsFrom (s.heap.objs.size+1) scope.names []) (bindC (envOfC qual scope s.heap.objs.size f cd).kindOf (ps.zip us) fun _=>none) s1) :
  Inv (cxOf CX P w K mg base N qual scope f cd A outer s H E) [] (start N vs) H s1:=by
 have hpl:ps.length<=N.length:=by have:=congrArg List.length S.pre;rw [List.length_take] at this;omega
 obtain ⟨h1,tk,rfl,hk⟩:=x.done
 have noA:∀b:Addr,b ∉ (cxOf CX P w K mg base N qual scope f cd A outer s H E).ex:=fun b z=>absurd (show b∈([]:List Addr) from z) (by simp)
 refine ⟨⟨e0.mod,S.kind,rfl,rfl,q_t _,fun y z c h1 h2=>?_,fun y hy=>?_,fun y c _ h=>?_,fun _=>hd,Around.frames_deeper e0.frames,.inr ⟨rfl,rfl⟩,fun b z=>absurd z (noA b),e0.bs,e0.bsz,fun b _ _=>noA b,fun b z=>absurd z (noA b),e0.funs,e0.frf⟩,
  rfl,e0.bare,Un.kept hk,⟨_,x.toInCall.ns,fun i y v h1 h2 h3=>?_⟩,fun y c h=>⟨_,x.cell y c h⟩,e0.hok.fresh (q_t _),fun y c h=>?_,fun p hp=>absurd (show p∈([]:List (Addr×Obj)) from hp) (by simp),e0.hok.kept hk,?_⟩
 ·exact name_of_addr x.apart (PySem.mem_of_lookup h1) (PySem.mem_of_lookup h2)
 ·have hy:scope.names.lookup y=some .cell\/scope.names.lookup y=some .free:=hy
  rcases hy with hy | hy
  · exact JGC hy
  · exact absurd rfl (S.nofree _ (PySem.mem_of_lookup hy))
 ·exact Nat.le_of_lt (x.above y c (PySem.mem_of_lookup h))
 ·have hi:i<vs.length:=by
    unfold start at h2
    by_cases hi:i<vs.length
    ·exact hi
    ·rw [List.getElem?_append_right (by simpa using hi)] at h2
     rw [List.getElem?_replicate] at h2
     split at h2<;>cases h2
  have ha:vs[i]? = some v:=by
    unfold start at h2
    rw [q_C (by simpa using hi),List.getElem?_map] at h2
    cases e:vs[i]? with
    | none=>rw [e] at h2;cases h2
    | some a=>rw [e] at h2;cases h2;rfl
  obtain ⟨u,hu,rv⟩:=r.get ha
  have hp:ps[i]? = some y:=by
    rw [<-S.pre,List.getElem?_take_of_lt (by omega)];exact h1
  have ndP:ps.Nodup:=by rw [<-S.pre];exact S.nd.sublist (List.take_sublist _ _)
  refine ⟨u,rv,?_⟩
  rcases S.par y (List.mem_of_getElem? hp) with k | k
  · exact .inl ⟨k,JE7 ndP hp hu k⟩
  · obtain ⟨c,e⟩:=JGC (n:=s.heap.objs.size+1) k
    refine .inr ⟨.inl k,c,e,?_⟩
    have q:=x.cell y c e
    rw [JFB ndP hp hu (by show scope.names.lookup y≠_;rw [k];decide)] at q
    exact q
 ·exact e0.hok.fresh (Nat.le_of_lt (x.above y c (PySem.mem_of_lookup h)))
 ·unfold start
  show _=N.length
  rw [q_u,q_g,List.length_replicate]
  omega
theorem JQ2 {CX:CXT} {P:Program} {w:World} {K:PySem.W.Frag} {mg:Str->Option Value} {base:Heap} {k:Nat} {f:Addr} {name qual:Str} {params:Arguments} {body:List Stmt} {scope:Scope} {dV kV doc pm cdv ct oc:Value} {an od:Option Addr}
  {osl:Array (Option Value)} {N ps:List Str} {sp:Sp} (lk:K.lookup f=some ⟨oc,od,.func (PySem.W.fnOf name qual params body scope dV kV doc pm an cdv ct),osl⟩) (hcd:PySem.W.codeIn K cdv qual=true) (S:FnScope N ps scope)
  (len:∀vs H Q E,sp vs H Q E->vs.length=ps.length)
  (hbody:∀(A:Around) (outer:List Env) (s:Shared) (H:Hp) (vs:List V) (Q:VK) (E:XK),Room k (A.deeper (envOfC qual scope s.heap.objs.size f cdv))->sp vs H Q E ->
    ∃t,PSs (cxOf CX P w K mg base N qual scope f cdv A outer s H E) body t/\t { nx:=fun _ H'=>Q .non H',rt:=Q } (start N vs) H) :
  FnOk P w K mg base CX (k+1) f (PySem.W.fnOf name qual params body scope dV kV doc pm an cdv ct) ps sp:=by
 refine ⟨len,fun A outer s H args us vs Q E hr e0 hb r hsp=>?_⟩
 have hl:=len _ _ _ _ hsp
 have KX:K.In s.heap:=e0.mod.kin.keeps fun b o e=>(e0.bs b o e).1
 have lim:s.heap.NoLimit:=e0.mod.nolimit.keeps fun b o e=>(e0.bs b o e).1
 have hkind:∀y∈ps.zip us,scope.names.lookup y.1=some .local\/(scope.names.lookup y.1=some .cell/\((cellsFrom (s.heap.objs.size+1) scope.names []).lookup y.1).isSome=true):=fun ⟨n,v⟩ hy=>by
  rcases S.par n (List.of_mem_zip hy).1 with q | q
  · exact .inl q
  · exact .inr ⟨q,PySem.W.cellsFrom_some _ _ _ (.inl q)⟩
 refine codeAny_call_function hr.depth (KX _ _ lk) rfl S.co S.gen rfl (PySem.W.codeRec_of KX hcd) (hb _ _ _ _ ?_)
 refine wpAny_newFunctionEnv_cells S.kind hkind fun env he s1 x=>?_
 subst he
 refine ⟨lim.keeps x.toInCall.keep,codeAny_func ?_⟩
 obtain ⟨t,ht,hq⟩:=hbody A outer s H vs Q E (hr.deeper _) hsp
 have I:Inv (cxOf CX P w K mg base N qual scope f cdv A outer s H E) [] (start N vs) H s1:=JIO S hr.hd e0 hl r x
 refine wpAny_mono (ht [] s1 (start N vs) H _ I hq) (fun fl s' hs=>?_) fun e s' hs=>hs
 have fin:∀ {σ':St} {H':Hp} {v:V} {u:Value},Inv (cxOf CX P w K mg base N qual scope f cdv A outer s H E) [] σ' H' s'->RelV v u->Q v H'->CE outer P w H s Q u s' :=
  fun {σ' H' v u} J rv q=>⟨v,H',J.os,J.bare,J.base,J.hok,rv,q⟩
 cases fl with
 | ret u =>
  obtain ⟨v,σ',H',J,rv,q⟩:=hs
  exact fin J rv q
 | next =>
  obtain ⟨σ',H',J,q⟩:=hs
  exact fin (v:=V.non) (u:=Value.none) J rfl q
 | brk =>
  obtain ⟨_,_,_,q⟩:=hs
  exact False.elim q
 | cont =>
  obtain ⟨_,_,_,q⟩:=hs
  exact False.elim q
end L2
namespace L2
open PySem PySem.Spec PyProof.Rows
section
variable {X:Cx} {x:Str} {p pos:Pos} {e:Expr} {es:List Expr} {t:TA} {id T:String} {r:List V->Hp->VK->Prop}
noncomputable def tCB (r:List V->Hp->VK->Prop) (t:TA):TE:=fun σ H Q=>t σ H fun vs H1=>r vs H1 Q
theorem JDz (hc:CallR X (.builtin id) r) (hg:Gl X x) (hm:X.mg x=none) (hv:bootBuiltins x=some (.builtin id)) (ha:PA X (e::es) t) (hn:x≠"__name__":=by decide) (hdb:(x==("__debug__":Str))=false:=by decide)
  (he:starEach (e::es) X.env=(false,eval e X.env)::starEach es X.env:=by rfl) (hpl:(backTo pos (starEach es X.env)).any (·.1)=false:=by rfl):PE X (.Call (.Name x p) (e::es) [] pos) (tCB r t):=by
 intro pins s σ H Q I h
 refine wpAny_Call_Name_kw (JDf I hg hm hv ?_ hn hdb)
 exact PyProof.Rows.callWith_builtin1 (thn (ha pos pins s σ H _ I h) fun us s1 ⟨vs,H1,I1,r1,q1⟩=>hc pins s1 σ H1 vs us Q I1 r1 q1) he hpl
theorem JB9 (hc:CallR X (.type T) r) (hg:Gl X x) (hm:X.mg x=none) (hv:bootBuiltins x=some (.type T)) (ha:PA X (e::es) t) (hn:x≠"__name__":=by decide) (hdb:(x==("__debug__":Str))=false:=by decide)
  (he:starEach (e::es) X.env=(false,eval e X.env)::starEach es X.env:=by rfl) (hpl:(backTo pos (starEach es X.env)).any (·.1)=false:=by rfl):PE X (.Call (.Name x p) (e::es) [] pos) (tCB r t):=by
 intro pins s σ H Q I h
 refine wpAny_Call_Name_kw (JDf I hg hm hv ?_ hn hdb)
 exact PyProof.Rows.callWith_type1 (thn (ha pos pins s σ H _ I h) fun us s1 ⟨vs,H1,I1,r1,q1⟩=>hc pins s1 σ H1 vs us Q I1 r1 q1) he hpl
end
end L2
namespace HT
open PySem PyProof.Rows
section
open PySem.SeqAt
open PySem.AutoSeq1 (wpAny_loadPart')
open PySem.MeetsSeq PySem.MeetsSeq2 PySem.MeetsSeq3
end
section
variable {prog:Program} {w:World} {A:Around} {E:Value->Shared->Prop} {s:Shared}
theorem cat_tup {t b:Addr} {vs ws:List Value} {Q:Value->Shared->Prop} (ht:IsTup s.heap t vs.toArray) (hb:IsTup s.heap b ws.toArray) (hv:vs≠[])
  (h1:ws=[]->Q (.ref t) s) (h2:ws≠[]->Q (.ref s.heap.objs.size) { s with heap:=s.heap.push { cls:=.type "tuple",data:=.seq (vs++ws).toArray } })
  (hsz:vs.length+ws.length<=sizeLine):wpAny (model prog w) A (binaryOp .Add (.ref t) (.ref b)) Q E s:=by
 obtain ⟨⟨cls,dd,data,sl⟩,ho,hc,n,hd⟩:=id ht
 obtain ⟨⟨cls2,dd2,data2,sl2⟩,ho2,hc2,n2,hd2⟩:=id hb
 simp only at hc hd hc2 hd2
 subst hc hd hc2 hd2
 have e:vs.toArray++ws.toArray=(vs++ws).toArray:=by simp
 by_cases hw:ws=[]
 ·exact concat_meets ⟨_,ho,rfl⟩ ⟨_,ho2,rfl⟩ noFill_tuple_add seq_tuple_add PySem.F.slot_tuple_add PySem.F.entry_tuple_add (PySem.F.args_tuple_add_2 _ _)
    (tuple_addW1 t b vs.toArray ws.toArray n n2 dd dd2 sl sl2 (by simpa using hv) (by simp [hw])) ⟨ho,ho2,h1 hw⟩
 ·refine concat_meets ⟨_,ho,rfl⟩ ⟨_,ho2,rfl⟩ noFill_tuple_add seq_tuple_add PySem.F.slot_tuple_add PySem.F.entry_tuple_add (PySem.F.args_tuple_add_2 _ _)
    (tuple_addW2 t b vs.toArray ws.toArray n n2 dd dd2 sl sl2 (by simpa using hv) (by simpa using hw) (by rw [q_f,q_f];exact hsz)) ⟨ho,ho2,?_⟩
  rw [e]
  exact h2 hw
noncomputable def sIx (n d:Nat):Option Int->Nat
 | none=>d
 | some v=>if v<0 then (v+(n:Int)).toNat else min v.toNat n
theorem JOj (n d:Nat) (hd:d<=n) (o:Option Int):sIx n d o<=n:=by
 cases o with
 | none=>exact hd
 | some v =>
  show (if v<0 then (v+(n:Int)).toNat else min v.toNat n)<=n
  by_cases hv:v<0
  ·rw [if_pos hv];omega
  ·rw [if_neg hv];exact Nat.min_le_right _ _
theorem JIx (v:Int) (n d:Nat):(if v<0 then max (v+(n:Int)) 0 else min v (n:Int))=((sIx n d (some v):Nat):Int):=by
 show (if v<0 then max (v+(n:Int)) 0 else min v (n:Int))=(((if v<0 then (v+(n:Int)).toNat else min v.toNat n):Nat):Int)
 by_cases hv:v<0
 ·simp only [if_pos hv];omega
 ·simp only [if_neg hv];omega
theorem JG7 (lo hi:Option Int) (n:Nat):Builtin.Slice.sliceAdjust lo hi 1 (n:Int)=(((sIx n 0 lo:Nat):Int),((sIx n n hi:Nat):Int)):=by
 have h1:¬((1:Int)<0):=by omega
 unfold Builtin.Slice.sliceAdjust
 simp only [h1,if_false]
 refine Prod.ext ?_ ?_
 ·cases lo with
  | none=>rfl
  | some v=>exact JIx v n 0
 ·cases hi with
  | none=>rfl
  | some v=>exact JIx v n n
theorem JGk (i j:Nat):Builtin.Slice.slicePlaces (i:Int) (j:Int) 1=j - i:=by
 unfold Builtin.Slice.slicePlaces
 have h1:(1:Int) > 0:=by omega
 simp only [h1,if_true,Int.ediv_one]
 split<;>omega
theorem JDn {v:Value} {o:Option Int} {Q:Option Int->Shared->Prop} (p:IsPart v o) (h:Q o s):wpAny (model prog w) A (Builtin.Slice.slicePartIndex v) Q E s:=by
 cases p with
 | none=>exact slicePart_none h
 | int i t=>exact slicePart_int h
theorem sliceApplied_gen {sl:Addr} {vl vu:Value} {lo hi:Option Int} {n:Nat} {Q:Int×Int×Nat->Shared->Prop} (hs:s.heap.IsSliceOf sl vl vu .none) (pl:IsPart vl lo) (pu:IsPart vu hi)
  (h:Q (((sIx n 0 lo:Nat):Int),1,sIx n n hi - sIx n 0 lo) s):wpAny (model prog w) A (Builtin.Slice.sliceApplied (.ref sl) (pure (n:Int))) Q E s:=by
 obtain ⟨os,hos,hcs,hds⟩:=id hs
 unfold Builtin.Slice.sliceApplied Builtin.Slice.sliceFields
 refine q_b (q_b (wpAny_field hos hds (x:=vl) rfl (q_b (wpAny_field hos hds (x:=vu) rfl (q_b (wpAny_field hos hds (x:=.none) rfl (q_e ?_)))))))
 refine q_b (slicePart_none ?_)
 show wpAny _ _ (if ((1:Int)==0)=true then _ else _) _ _ s
 rw [if_neg (by decide)]
 refine q_b (JDn pl (q_b (JDn pu (q_b (q_e ?_)))))
 show wpAny _ _ (match Builtin.Slice.sliceAdjust lo hi 1 (n:Int) with | (lo,hi)=>pure (lo,(1:Int),Builtin.Slice.slicePlaces lo hi 1)) _ _ s
 rw [JG7 lo hi n]
 show wpAny _ _ (pure (((sIx n 0 lo:Nat):Int),(1:Int),Builtin.Slice.slicePlaces ((sIx n 0 lo:Nat):Int) ((sIx n n hi:Nat):Int) 1)) _ _ s
 rw [JGk]
 exact q_e h
theorem JJ2 (xs:Array Value) (i k:Nat):((List.range k).filterMap fun (m:Nat)=>xs[((i:Int)+(m:Int)*1).toNat]?).toArray=((xs.toList.drop i).take k).toArray:=by
 have e:(fun (m:Nat)=>xs[((i:Int)+(m:Int)*1).toNat]?)=fun m=>xs[i+m]?:=by
  funext m
  have:((i:Int)+(m:Int)*1).toNat=i+m:=by omega
  rw [this]
 rw [e]
 have:=pick_run xs i k
 rw [List.filterMap_map] at this
 have e2:((fun x=>xs[x]?) ∘ fun x=>i+x)=fun m=>xs[i+m]?:=rfl
 rw [e2] at this
 rw [this]
theorem getItem_tuple_cut {t sl:Addr} {items:Array Value} {vl vu:Value} {lo hi:Option Int} {Q:Value->Shared->Prop} (ht:IsTup s.heap t items) (hs:s.heap.IsSliceOf sl vl vu .none) (pl:IsPart vl lo) (pu:IsPart vu hi)
  (hw:¬(sIx items.size 0 lo=0/\sIx items.size items.size hi=items.size))
  (h:Q (.ref s.heap.objs.size) { s with heap:=s.heap.push { cls:=.type "tuple",data:=.seq ((items.toList.drop (sIx items.size 0 lo)).take (sIx items.size items.size hi - sIx items.size 0 lo)).toArray } })
  (hsz:items.size<=sizeLine):wpAny (model prog w) A (getItem (.ref t) (.ref sl)) Q E s:=by
 have htake:sizeOk (.seq ((items.toList.drop (sIx items.size 0 lo)).take (sIx items.size items.size hi - sIx items.size 0 lo)).toArray):=by
  show ((items.toList.drop (sIx items.size 0 lo)).take (sIx items.size items.size hi - sIx items.size 0 lo)).toArray.size<=sizeLine
  rw [q_f,List.length_take,List.length_drop,q_F]
  omega
 have hj:sIx items.size items.size hi<=items.size:=JOj _ _ (q_t _) hi
 obtain ⟨os,hos,hcs,hds⟩:=id hs
 have hTs:s.TypeIs (.ref sl) "slice":=⟨os,hos,hcs⟩
 unfold getItem
 try with_reducible refine wpAny_holding ?_
 first | refine q_b (q_e ?_) | skip
 refine q_b (wpAny_sequenceKey ht.typeIs (by decide) ?_)
 refine q_b (wpAny_callSpecial?_slot (name:=Str.ofString "__getitem__") ht.typeIs PyProof.Rows.slot_tuple_getitem
  (wpAny_call_entry PyProof.Rows.slot_tuple_getitem ht.typeIs entry_tuple_getitem ?_ (args_tuple_getitem _ _)))
 show wpAny _ _ (Builtin.Tuple.tupleItemsOf (.ref t) >>= _) _ _ s
 refine q_b (tupleItemsOf_ ht ?_)
 refine q_b (wpAny_typeOf hTs ?_)
 rw [if_pos (by decide)]
 refine q_b (sliceApplied_gen hs pl pu ?_)
 have hno:¬((((sIx items.size 0 lo:Nat):Int)==0&&(1:Int)==1&&(sIx items.size items.size hi - sIx items.size 0 lo)==items.size)=true):=by
  intro q
  rw [q_i,q_i] at q
  have q1:((sIx items.size 0 lo:Nat):Int)=0:=eq_of_beq q.1.1
  have q2:sIx items.size items.size hi - sIx items.size 0 lo=items.size:=eq_of_beq q.2
  exact hw ⟨by omega,by omega⟩
 show wpAny _ _ (if (((sIx items.size 0 lo:Nat):Int)==0&&(1:Int)==1&&(sIx items.size items.size hi - sIx items.size 0 lo)==items.size)=true then _ else _) _ _ s
 rw [if_neg hno,JJ2]
 first
  | exact q_b (m:=Builtin.Tuple.tupleExact _) (wpAny_newObj_type (q_e ⟨_,rfl,q_e h⟩) htake)
  | exact q_b (m:=Builtin.Tuple.tupleExact _) (wpAny_newObj_type (q_b (q_e (q_e ⟨_,rfl,q_e h⟩))) htake)
  | exact q_b (q_b (m:=Builtin.Tuple.tupleExact _) (wpAny_newObj_type (q_e (q_e ⟨_,rfl,q_e h⟩)) htake))
  | exact q_b (q_b (m:=Builtin.Tuple.tupleExact _) (wpAny_newObj_type (q_e ⟨_,rfl,q_e h⟩) htake))
end
end HT
namespace L2
open PySem PySem.Spec PyProof.Rows
noncomputable abbrev TO:=St->Hp->(Option Int->Hp->Prop)->Prop
noncomputable def PO (X:Cx) (e:Option Expr) (t:TO):Prop :=
 ∀(pins:List (Addr×Obj)) (s:Shared) (σ:St) (H:Hp) (Q:Option Int->Hp->Prop),Inv X pins σ H s->t σ H Q ->
  wpAny (model X.prog X.w) X.A (evalPart e X.env) (fun u s'=>∃o H',Inv X pins σ H' s'/\IsPart u o/\Q o H') X.xe s
noncomputable def JM7:TO:=fun _ H Q=>Q none H
noncomputable def tPart (t:TE):TO:=fun σ H Q=>t σ H fun x H1=>∃i,x=.int i/\Q (some i) H1
section
variable {X:Cx} {e:Expr} {te:TE} {lo hi:Option Expr} {tl th:TO} {pos p2:Pos}
theorem JJJ:PO X none JM7:=by
 intro pins s σ H Q I h
 rw [evalPart_none]
 exact q_e ⟨none,H,I,.none,h⟩
theorem JFn (h:PE X e te):PO X (some e) (tPart te):=by
 intro pins s σ H Q I hw
 rw [evalPart_some]
 refine thn (h pins s σ H _ I hw) fun u s1 ⟨x,H1,I1,r1,q1⟩=>?_
 obtain ⟨i,rfl,q⟩:=q1
 obtain ⟨t,rfl⟩:=r1
 exact ⟨some i,H1,I1,.int i t,q⟩
noncomputable def SlR (X:Cx) (r:V->Option Int->Option Int->Hp->VK->Prop):Prop :=
 ∀(pins:List (Addr×Obj)) (s:Shared) (σ:St) (H:Hp) (x:V) (v vl vu:Value) (lo hi:Option Int) (sl:Addr) (Q:VK),Inv X pins σ H s->RelV x v->s.heap.IsSliceOf sl vl vu .none->IsPart vl lo->IsPart vu hi->r x lo hi H Q ->
  ∃T id,typeLookup (.type T) "__getitem__"=pure (some (.builtin id))/\s.TypeIs v T/\wpAny (model X.prog X.w) X.A (getItem v (.ref sl)) (EP X pins σ Q) X.xe s
theorem SlR.or {r r':V->Option Int->Option Int->Hp->VK->Prop} (h:SlR X r) (h':SlR X r'):SlR X (fun x lo hi H Q=>r x lo hi H Q\/r' x lo hi H Q):=by
 intro pins s σ H x v vl vu lo hi sl Q I rx hs pl pu q
 rcases q with q | q
 ·exact h pins s σ H x v vl vu lo hi sl Q I rx hs pl pu q
 ·exact h' pins s σ H x v vl vu lo hi sl Q I rx hs pl pu q
noncomputable def tSl (r:V->Option Int->Option Int->Hp->VK->Prop) (te:TE) (tl th:TO):TE:=fun σ H Q=>te σ H fun x H1=>tl σ H1 fun l H2=>th σ H2 fun u H3=>r x l u H3 Q
theorem JGg {r:V->Option Int->Option Int->Hp->VK->Prop} (hr:SlR X r) (he:PE X e te) (hl:PO X lo tl) (hu:PO X hi th):PE X (.Subscript e (.Slice lo hi none p2) pos) (tSl r te tl th):=by
 intro pins s σ H Q I h
 refine Subscript_ (thn (he pins s σ H _ I h) fun v s1 ⟨x,H1,I1,r1,q1⟩=>?_)
 refine wpAny_Slice (thn (hl pins s1 σ H1 _ I1 q1) fun vl s2 ⟨l,H2,I2,pl,q2⟩=>thn (hu pins s2 σ H2 _ I2 q2) fun vu s3 ⟨u,H3,I3,pu,q3⟩=>?_)
 rw [evalPart_none]
 refine q_e ?_
 have I4:Inv X pins σ H3 { s3 with heap:=s3.heap.push { cls:=.type "slice",data:=.fields #[vl,vu,.none] } }:=I3.kept (t':=s3.toks) fun b ob q=>q_c _ q
 obtain ⟨T,id,hT,ht,hg⟩:=hr pins { s3 with heap:=s3.heap.push { cls:=.type "slice",data:=.fields #[vl,vu,.none] } } σ H3 x v vl vu l u s3.heap.objs.size Q I4 r1 (Heap.IsSliceOf.new ..) pl pu q3
 show wpAny (model X.prog X.w) X.A (subscriptTail e (.Slice lo hi none p2) v (.ref s3.heap.objs.size)) (EP X pins σ Q) X.xe { s3 with heap:=s3.heap.push { cls:=.type "slice",data:=.fields #[vl,vu,.none] } }
 exact tail_any (ops:=[.ref s3.heap.objs.size,v]) ht hT hg (by with_unfolding_all rfl)
noncomputable def cutV (xs:List V) (lo hi:Option Int):List V:=(xs.drop (HT.sIx xs.length 0 lo)).take (HT.sIx xs.length xs.length hi - HT.sIx xs.length 0 lo)
theorem JDA (xs:List V) (lo hi:Option Int):(cutV xs lo hi).length<=xs.length:=by
 unfold cutV
 rw [List.length_take,List.length_drop]
 omega
noncomputable def rSlT (K:PySem.W.Frag):V->Option Int->Option Int->Hp->VK->Prop:=fun x lo hi H Q=>∃a xs,x=.ref a/\SqT K H a xs /\
 ¬(HT.sIx xs.length 0 lo=0/\HT.sIx xs.length xs.length hi=xs.length)/\∀p,H p=none->Q (.ref p) (upd H p (.tup (cutV xs lo hi)))
theorem JLm:SlR X (rSlT X.K):=by
 intro pins s σ H x v vl vu lo hi sl Q I rx hs pl pu h
 obtain ⟨a,xs,rfl,hx,hw,q⟩:=h
 cases rx
 obtain ⟨its,r,ht,hz⟩:=I.tuple hx
 have hlen:its.toArray.size=xs.length:=by rw [q_f];exact r.length.symm
 refine ⟨"tuple",_,PyProof.Rows.slot_tuple_getitem.lookup,ht.typeIs,?_⟩
 refine HT.getItem_tuple_cut ht hs pl pu (by rw [hlen];exact hw) ?_ (by rw [hlen];exact hz)
 rw [hlen]
 refine ⟨.ref s.heap.objs.size,_,I.laid (t':=s.toks) (o:=.tup (cutV xs lo hi)) (fun b ob q=>q_c _ q) (q_t _) ?_,rfl,q _ (I.hok.fresh (q_t _))⟩
 exact ⟨Nat.le_trans (JDA xs lo hi) hz,_,(r.drop (HT.sIx xs.length 0 lo)).take (HT.sIx xs.length xs.length hi - HT.sIx xs.length 0 lo),IsTup.new _ _⟩
noncomputable def rCatT (K:PySem.W.Frag):R2:=fun x y H Q=>∃a b xs ys,x=.ref a/\y=.ref b/\SqT K H a xs/\SqT K H b ys/\xs≠[]/\xs.length+ys.length<=sizeLine /\
 (ys=[]->Q (.ref a) H)/\(ys≠[]->∀p,H p=none->Q (.ref p) (upd H p (.tup (xs++ys))))
theorem Vals.nil_iff {xs:List V} {us:List Value} (r:Vals xs us):us=[]↔xs=[]:=by
 cases r with
 | nil=>simp
 | cons _ _=>simp
theorem JN4:OpR X (binaryOp .Add) (rCatT X.K):=by
 intro pins s σ H x y v u Q I rx ry h
 obtain ⟨a,b,xs,ys,rfl,rfl,ha,hb,hx,hz,q1,q2⟩:=h
 cases rx
 cases ry
 obtain ⟨its,r1,p1,_⟩:=I.tuple ha
 obtain ⟨its2,r2,p2,_⟩:=I.tuple hb
 refine HT.cat_tup p1 p2 (fun z=>hx (r1.nil_iff.mp z)) (fun z=>⟨.ref a,H,I,rfl,q1 (r2.nil_iff.mp z)⟩) (fun z=>?_) (by rw [<-r1.length,<-r2.length];exact hz)
 refine ⟨.ref s.heap.objs.size,_,I.laid (t':=s.toks) (o:=.tup (xs++ys)) (fun b ob q=>q_c _ q) (q_t _) ?_,rfl,q2 (fun w=>z (r2.nil_iff.mpr w)) _ (I.hok.fresh (q_t _))⟩
 exact ⟨by rw [q_u];exact hz,_,r1.append r2,IsTup.new _ _⟩
end
end L2
namespace L2
open PySem PySem.Spec PyProof.Rows
noncomputable def ixN (n:Nat) (i:Int):Option Nat:=if 0<=i then (if i<n then some i.toNat else none) else if -(n:Int)<=i then some (i+n).toNat else none
noncomputable def atI {α:Type} (xs:List α) (i:Int):Option α:=(ixN xs.length i).bind fun j=>xs[j]?
theorem JMi {n:Nat} {i:Int} {j:Nat} (h:ixN n i=some j):seqIndex? i n=some j/\j<n/\-(n:Int)<=i/\i<n:=by
 unfold ixN at h
 by_cases h0:0<=i
 ·rw [if_pos h0] at h
  by_cases h1:i<n
  ·rw [if_pos h1] at h
   have e:i.toNat=j:=Option.some.inj h
   exact ⟨by rw [seqIndex_of h0 h1,e],by omega,by omega,h1⟩
  ·rw [if_neg h1] at h;cases h
 ·rw [if_neg h0] at h
  by_cases h1:-(n:Int)<=i
  ·rw [if_pos h1] at h
   have e:(i+n).toNat=j:=Option.some.inj h
   exact ⟨by rw [seqIndex_neg (by omega) h1,e],by omega,h1,by omega⟩
  ·rw [if_neg h1] at h;cases h
theorem JFQ {α:Type} {xs:List α} {i:Int} {v:α} (h:atI xs i=some v):∃j,seqIndex? i xs.length=some j/\xs[j]? = some v/\j<xs.length/\-(xs.length:Int)<=i/\i<xs.length:=by
 unfold atI at h
 cases e:ixN xs.length i with
 | none=>rw [e] at h;cases h
 | some j =>
  rw [e] at h
  obtain ⟨h1,h2,h3,h4⟩:=JMi e
  exact ⟨j,h1,h,h2,h3,h4⟩
noncomputable def JIB (b:Expr):Prop:=∀o i,subscripted b false o i=operate [o,i] (getItem o i)
noncomputable def IxR (X:Cx) (r:R2):Prop :=
 ∀(value slice:Expr) (pins:List (Addr×Obj)) (s:Shared) (σ:St) (H:Hp) (x y:V) (v u:Value) (Q:VK),Inv X pins σ H s->RelV x v->RelV y u->r x y H Q ->
  subscripted slice false v u=operate [v,u] (getItem v u)->wpAny (model X.prog X.w) X.A (subscriptTail value slice v u) (EP X pins σ Q) X.xe s
noncomputable def MtR (X:Cx) (id:String) (r:V->List V->Hp->VK->Prop):Prop :=
 ∀(pins:List (Addr×Obj)) (s:Shared) (σ:St) (H:Hp) (x:V) (xs:List V) (v:Value) (us:List Value) (Q:VK),Inv X pins σ H s->RelV x v->Vals xs us->r x xs H Q ->
  wpAny (model X.prog X.w) X.A (call (.builtin id) (v::us)) (EP X pins σ Q) X.xe s
section
variable {X:Cx} {a b:Expr} {ta tb:TE} {pos:Pos}
theorem IxR.or {r r':R2} (h:IxR X r) (h':IxR X r'):IxR X (fun x y H Q=>r x y H Q\/r' x y H Q):=by
 intro value slice pins s σ H x y v u Q I rx ry q hs
 rcases q with q | q
 ·exact h value slice pins s σ H x y v u Q I rx ry q hs
 ·exact h' value slice pins s σ H x y v u Q I rx ry q hs
theorem MtR.or {id:String} {r r':V->List V->Hp->VK->Prop} (h:MtR X id r) (h':MtR X id r'):MtR X id (fun x xs H Q=>r x xs H Q\/r' x xs H Q):=by
 intro pins s σ H x xs v us Q I rx rs q
 rcases q with q | q
 ·exact h pins s σ H x xs v us Q I rx rs q
 ·exact h' pins s σ H x xs v us Q I rx rs q
theorem pe_ix {r:R2} (hr:IxR X r) (ha:PE X a ta) (hb:PE X b tb) (hs:JIB b):PE X (.Subscript a b pos) (tOp r ta tb):=by
 intro pins s σ H Q I h
 exact Subscript_ (binT ha hb I h fun v u s2 x y H2 I2 rx ry q=>hr a b pins s2 σ H2 x y v u Q I2 rx ry q (hs _ _))
noncomputable def rIxL (K:PySem.W.Frag):R2:=fun x y H Q=>∃p xs i v,x=.ref p/\y=.int i/\SqL K H p xs/\atI xs i=some v/\Q v H
noncomputable def rIxT (K:PySem.W.Frag):R2:=fun x y H Q=>∃p xs i v,x=.ref p/\y=.int i/\SqT K H p xs/\atI xs i=some v/\Q v H
noncomputable def rIxS:R2:=fun x y H Q=>∃z i c,x=.str z/\y=.int i/\z.length<=sizeLine/\atI z.cps.toList i=some c/\Q (.str ⟨#[c]⟩) H
theorem ix_list:IxR X (rIxL X.K):=by
 intro value slice pins s σ H x y v u Q I rx ry h hs
 obtain ⟨p,xs,i,z,rfl,rfl,hq,he,q⟩:=h
 cases rx
 obtain ⟨t,rfl⟩:=ry
 obtain ⟨its,r,pl,hz⟩:=I.list hq
 obtain ⟨j,h1,h2,h3,h4,h5⟩:=JFQ he
 obtain ⟨w,ew,rw'⟩:=r.get h2
 have hl:=r.length
 have hn:=JE8
 have fin:EP X pins σ Q w s:=⟨z,H,I,rw',q⟩
 by_cases h0:0<=i
 ·have hj:i.toNat=j:=by
   rw [seqIndex_of h0 h5] at h1
   exact Option.some.inj h1
  exact item_listR pl.isList h0 (by omega) (by rw [hj];simpa using ew) fin hs
 ·have hj:(i+(its.toArray.size:Int)).toNat=j:=by
   rw [seqIndex_neg (by omega) h4] at h1
   rw [q_f,<-hl]
   exact Option.some.inj h1
  exact subscriptTail_builtinR (x:=w) pl.isList.typeIs slot_list_getitem.lookup
   (wpAny_getItem_list_neg (Q:=fun r s'=>r=w/\EP X pins σ Q r s') pl.isList (by omega) (by rw [q_f]<;>omega) (by omega) (by rw [hj];simpa using ew) ⟨rfl,fin⟩) hs
theorem ix_tup:IxR X (rIxT X.K):=by
 intro value slice pins s σ H x y v u Q I rx ry h hs
 obtain ⟨p,xs,i,z,rfl,rfl,hq,he,q⟩:=h
 cases rx
 obtain ⟨t,rfl⟩:=ry
 obtain ⟨its,r,pl,hz⟩:=I.tuple hq
 obtain ⟨j,h1,h2,h3,h4,h5⟩:=JFQ he
 obtain ⟨w,ew,rw'⟩:=r.get h2
 have hl:=r.length
 have hn:=JE8
 have fin:EP X pins σ Q w s:=⟨z,H,I,rw',q⟩
 exact subscriptTail_builtinR (x:=w) pl.typeIs slot_tuple_getitem.lookup
  (getItem_tuple (j:=j) (Q:=fun r s'=>r=w/\EP X pins σ Q r s') pl (by omega) (by omega) (by rw [q_f,<-hl];exact h1) (by simpa using ew) ⟨rfl,fin⟩) hs
theorem JQK:IxR X rIxS:=by
 intro value slice pins s σ H x y v u Q I rx ry h hs
 obtain ⟨z,i,c,rfl,rfl,hz,he,q⟩:=h
 obtain ⟨t,rfl⟩:=rx
 obtain ⟨t',rfl⟩:=ry
 obtain ⟨j,h1,h2,h3,h4,h5⟩:=JFQ he
 have hl:z.cps.toList.length=z.length:=by simp [Str.length]
 rw [hl] at h1 h4 h5
 have hn:=JE8
 exact tail_any (typeIs_str s z t) slot_str_getitem.lookup (getItem_str (c:=c) (by
  have e1:decide (i < -(2 ^ 63:Int))=false:=q_o (by omega)
  have e2:decide (i ≥ 2 ^ 63)=false:=q_o (by omega)
  rw [e1,e2,Bool.or_false]) (by rw [h1];simpa using h2) ⟨.str ⟨#[c]⟩,H,I.tok _,⟨_,rfl⟩,q⟩) hs
noncomputable def rIx (K:PySem.W.Frag):R2:=fun x y H Q=>rIxL K x y H Q\/rIxT K x y H Q\/rIxS x y H Q
theorem ix_seq:IxR X (rIx X.K):=ix_list.or (ix_tup.or JQK)
theorem Inv.lst {pins:List (Addr×Obj)} {σ:St} {H:Hp} {s:Shared} {p:Addr} {xs:List V} (I:Inv X pins σ H s) (h:H p=some (.lst xs)) :
  ∃(its:List Value) (n:Nat),Vals xs its/\s.heap.get? p=some { cls:=.type "list",data:=.seq its.toArray n }/\xs.length<=sizeLine:=by
 obtain ⟨z,its,n,r,e⟩:=I.hok p _ h
 exact ⟨its,n,r,e,z⟩
theorem JEM (lo hi:Option Int) (n:Nat):(sliceBounds lo hi none n).1=((HT.sIx n 0 lo:Nat):Int)/\(sliceBounds lo hi none n).2.1=((HT.sIx n n hi:Nat):Int)/\(sliceBounds lo hi none n).2.2=1:=by
 refine ⟨?_,?_,rfl⟩
 ·cases lo with
  | none=>simp [sliceBounds,HT.sIx]
  | some i =>
   simp only [sliceBounds,HT.sIx,Option.getD_none,show (1:Int) > 0 by decide,if_true]
   by_cases h:i<0
   ·simp only [h,if_true]<;>omega
   ·simp only [h,if_false]<;>omega
 ·cases hi with
  | none=>simp [sliceBounds,HT.sIx]
  | some i =>
   simp only [sliceBounds,HT.sIx,Option.getD_none,show (1:Int) > 0 by decide,if_true]
   by_cases h:i<0
   ·simp only [h,if_true]<;>omega
   ·simp only [h,if_false]<;>omega
theorem JDt (its:List Value) (lo hi:Option Int):slicePick its.toArray lo hi none=((its.drop (HT.sIx its.length 0 lo)).take (HT.sIx its.length its.length hi - HT.sIx its.length 0 lo)).toArray:=by
 obtain ⟨h1,h2,h3⟩:=JEM lo hi its.toArray.size
 unfold slicePick
 rw [h1,h2,h3]
 simp only [sliceRange_one,pick_run,q_f]<;>rfl
noncomputable def rSlL (K:PySem.W.Frag):V->Option Int->Option Int->Hp->VK->Prop:=fun x lo hi H Q=>∃a xs,x=.ref a/\SqL K H a xs/\∀p,H p=none->Q (.ref p) (upd H p (.lst (cutV xs lo hi)))
theorem JJP:SlR X (rSlL X.K):=by
 intro pins s σ H x v vl vu lo hi sl Q I rx hs pl pu h
 obtain ⟨a,xs,rfl,hx,q⟩:=h
 cases rx
 obtain ⟨its,r,ht,hz⟩:=I.list hx
 have hlen:=r.length
 refine ⟨"list",_,slot_list_getitem.lookup,ht.isList.typeIs,?_⟩
 refine wpAny_getItem_list_slice ht.isList hs pl pu .none (by simp) ?_ (by rw [q_f]<;>omega)
 rw [JDt,<-hlen]
 refine ⟨.ref s.heap.objs.size,_,I.laid (t':=s.toks) (o:=.lst (cutV xs lo hi)) (fun b ob q=>q_c _ q) (q_t _) ?_,rfl,q _ (I.hok.fresh (q_t _))⟩
 exact ⟨Nat.le_trans (JDA xs lo hi) hz,_,0,(r.drop (HT.sIx xs.length 0 lo)).take (HT.sIx xs.length xs.length hi - HT.sIx xs.length 0 lo),q_k _ rfl⟩
theorem CallR.or {f:Value} {r r':List V->Hp->VK->Prop} (h:CallR X f r) (h':CallR X f r'):CallR X f (fun xs H Q=>r xs H Q\/r' xs H Q):=by
 intro pins s σ H xs us Q I rs q
 rcases q with q | q
 ·exact h pins s σ H xs us Q I rs q
 ·exact h' pins s σ H xs us Q I rs q
theorem call_list_of:CallR X (.type "list") (fun xs H Q=>∃p ys,xs=[.ref p]/\(SqL X.K H p ys\/SqT X.K H p ys)/\∀l,H l=none->Q (.ref l) (upd H l (.lst ys))):=by
 intro pins s σ H xs us Q I r h
 obtain ⟨p,ys,rfl,hq,q⟩:=h
 obtain ⟨u,rfl,rx⟩:=vals1 r
 cases rx
 have fin:∀(its:List Value),Vals ys its->ys.length<=sizeLine->∀(h':Heap) (c':Nat),(∀b o',s.heap.get? b=some o'->h'.get? b=some o') ->
   h'.get? s.heap.objs.size=some { cls:=.type "list",dict:=none,data:=.seq its.toArray c',slots:=#[] }->EP X pins σ Q (.ref s.heap.objs.size) { s with heap:=h' }:=fun its r' hz h' c' kp e =>
  ⟨.ref s.heap.objs.size,_,I.laid (t':=s.toks) kp (q_t _) (show ObjOk X.prog X.w _ h' _ (.lst ys) from ⟨hz,its,c',r',e⟩),rfl,q _ (I.hok.fresh (q_t _))⟩
 rcases hq with hq | hq
 ·obtain ⟨its,r',pl,hz⟩:=I.list hq
  have hlen:=r'.length
  obtain ⟨o,ho,hc,n,hd⟩:=pl.isList
  exact call_list_seq p (.inl rfl) ho hc hd (fun h' c' kp e=>fin its r' hz h' c' kp e) (by simp only [q_f]<;>omega)
 ·obtain ⟨its,r',pl,hz⟩:=I.tuple hq
  have hlen:=r'.length
  obtain ⟨o,ho,hc,n,hd⟩:=pl
  exact call_list_seq p (.inr rfl) ho hc hd (fun h' c' kp e=>fin its r' hz h' c' kp e) (by simp only [q_f]<;>omega)
theorem JD5:CallR X (.type "tuple") (fun xs H Q=>∃p ys,xs=[.ref p]/\((SqL X.K H p ys/\∀l,H l=none->Q (.ref l) (upd H l (.tup ys)))\/(SqT X.K H p ys/\Q (.ref p) H))):=by
 intro pins s σ H xs us Q I r h
 obtain ⟨p,ys,rfl,h⟩:=h
 obtain ⟨u,rfl,rx⟩:=vals1 r
 cases rx
 rcases h with ⟨hq,q⟩ | ⟨hq,q⟩
 ·obtain ⟨its,r',pl,hz⟩:=I.list hq
  have hlen:=r'.length
  refine call_tuple_list pl.isList (fun h' kp=>?_) (by simp only [q_f]<;>omega)
  have I1:Inv X pins σ H { s with heap:=h' }:=I.kept (t':=s.toks) kp
  have I2:Inv X pins σ (upd H h'.objs.size (.tup ys)) { s with heap:=h'.push { cls:=.type "tuple",data:=.seq its.toArray } } :=
   I1.laid (t':=s.toks) (fun b o e=>q_c _ e) (q_t _) (show ObjOk X.prog X.w _ _ _ (.tup ys) from ⟨hz,its,r',IsTup.new _ _⟩)
  exact ⟨.ref h'.objs.size,_,I2,rfl,q _ (I1.hok.fresh (q_t _))⟩
 ·obtain ⟨its,r',pl,hz⟩:=I.tuple hq
  exact call_tuple_same pl ⟨.ref p,H,I,rfl,q⟩
noncomputable def tyV (K:PySem.W.Frag) (T:String) (x:V) (H:Hp):Prop:=match x with
 | .str _=>T="str"
 | .int _=>T="int"
 | .ref p=>(T="list"/\∃xs,SqL K H p xs)\/(T="tuple"/\∃o,K.lookup p=some o/\o.cls=.type "tuple"/\o.dict=none) \/
  (T="dict"/\((∃kvs,H p=some (.dK kvs))\/∃kvs,H p=some (.dT kvs)))\/(T="set"/\∃S n,H p=some (.set S n))
 | _=>False
theorem JOc {pins:List (Addr×Obj)} {σ:St} {H:Hp} {s:Shared} {T:String} {x:V} {v:Value} (I:Inv X pins σ H s) (r:RelV x v) (ty:tyV X.K T x H) :
  s.TypeIs v T/\∀a,v=.ref a->∃ob,s.heap.get? a=some ob/\ob.dict=none:=by
 cases x with
 | str z =>
  obtain ⟨t,rfl⟩:=r
  cases (show T="str" from ty)
  exact ⟨typeIs_str s z t,fun _ e=>nomatch e⟩
 | int i =>
  obtain ⟨t,rfl⟩:=r
  cases (show T="int" from ty)
  exact ⟨typeIs_int s i t,fun _ e=>nomatch e⟩
 | ref p =>
  cases r
  rcases ty with ⟨rfl,xs,hq⟩ | ⟨rfl,o,hk,hc,hd⟩ | ⟨rfl,hk⟩ | ⟨rfl,S,n,hk⟩
  ·obtain ⟨its,_,pl,_⟩:=I.list hq
   refine ⟨pl.isList.typeIs,fun a e=>?_⟩
   cases e
   obtain ⟨o,n,e,c,hd,_⟩:=pl
   exact ⟨o,e,hd⟩
  ·refine ⟨⟨o,I.kIn p o hk,hc⟩,fun a e=>?_⟩
   cases e
   exact ⟨o,I.kIn _ o hk,hd⟩
  ·have z:∃o,s.heap.get? p=some o/\o.ExactDict:=by
    rcases hk with ⟨kvs,hk⟩ | ⟨kvs,hk⟩
    ·obtain ⟨_,_,_,_,o,_,_,e,ex,_⟩:=I.hok p _ hk
     exact ⟨o,e,ex⟩
    ·obtain ⟨_,_,_,_,o,_,_,e,ex,_⟩:=I.hok p _ hk
     exact ⟨o,e,ex⟩
   obtain ⟨o,e,ex⟩:=z
   refine ⟨⟨o,e,ex.1⟩,fun a e2=>?_⟩
   cases e2
   exact ⟨o,e,ex.2.1⟩
  ·obtain ⟨o,_,_,_,e,ex,_⟩:=I.hok p _ hk
   refine ⟨⟨o,e,ex.1⟩,fun a e2=>?_⟩
   cases e2
   exact ⟨o,e,ex.2.1⟩
 | _=>exact False.elim ty
noncomputable def tBM (K:PySem.W.Frag) (T:String) (r:V->List V->Hp->VK->Prop) (to:TE) (t:TA):TE:=fun σ H Q=>to σ H fun x H1=>tyV K T x H1/\t σ H1 fun xs H2=>r x xs H2 Q
variable {o e:Expr} {es:List Expr} {to:TE} {t:TA} {name:Str} {apos cpos:Pos} {T id:String} {r:V->List V->Hp->VK->Prop}
theorem pe_bm (pa:PlainAttrs T) (slot:Slot T name id) (hty:typeOf (.builtin id)=pure (.type "method_descriptor")) (hm:MtR X id r) (ho:PE X o to) (ha:PA X (e::es) t)
  (hbase:attributeBase o name X.env (eval o X.env)=eval o X.env:=by rfl)
  (hfew:((backTo cpos (starEach (e::es) X.env)).all (fun x=>!x.1)&&(backToKw cpos (keywordEach [] X.env)).all (fun x=>x.1.isSome)
    && decide ((e::es).length+([]:List Keyword).length+(if ([]:List Keyword).isEmpty then 0 else 1)<30))=true:=by rfl)
  (hline:(apos.endLine==cpos.line)=true:=by rfl) (hs:starEach (e::es) X.env=(false,eval e X.env)::starEach es X.env:=by rfl) (hplain:(backTo cpos (starEach es X.env)).any (·.1)=false:=by rfl) :
  PE X (.Call (.Attribute o name apos) (e::es) [] cpos) (tBM X.K T r to t):=by
 intro pins s σ H Q I h
 refine wpAny_Call_method_late hbase hfew hline rfl (thn (ho pins s σ H _ I h) fun v s1 ⟨x,H1,I1,r1,ty,q1⟩=>?_)
 obtain ⟨h1,h2⟩:=JOc I1 r1 ty
 refine ⟨T,id,pa,slot,hty,h1,h2,?_⟩
 have hA:=ha cpos pins s1 σ H1 _ I1 q1
 rw [hs] at hA ⊢
 refine Calls.callWith_builtin (by show (false || (backTo cpos (starEach es X.env)).any (·.1))=false;rw [hplain]<;>rfl) (Calls.evalArgs_plain ?_)
 exact thn hA fun us s2 ⟨vs,H2,I2,r2,q2⟩=>hm pins s2 σ H2 x vs v us Q I2 r1 r2 q2
end
end L2
namespace L2
open PySem PySem.Spec PyProof.Rows
noncomputable def MtM (X:Cx) (id:String) (r:V->List V->Hp->VK->Prop):Prop :=
 ∀(pins:List (Addr×Obj)) (s:Shared) (σ:St) (H:Hp) (x:V) (xs:List V) (v:Value) (us:List Value) (Q:VK),Inv X pins σ H s->RelV x v->Vals xs us->r x xs H Q ->
  wpAny (model X.prog X.w) X.A (call (.builtin id) (v::us)) (EP X pins σ Q) X.xe s
theorem Vals.one:∀ {x:V} {us:List Value},Vals [x] us->∃u,us=[u]/\RelV x u
 | _,_,.cons r .nil=>⟨_,rfl,r⟩
theorem Vals.two:∀ {x y:V} {us:List Value},Vals [x,y] us->∃u v,us=[u,v]/\RelV x u/\RelV y v
 | _,_,_,.cons r (.cons q .nil)=>⟨_,_,rfl,r,q⟩
theorem Vals.rep {xs:List V} {us:List Value} (h:Vals xs us):∀k:Nat,Vals (List.replicate k xs).flatten (List.replicate k us).flatten
 | 0=>.nil
 | k+1=>by
  rw [List.replicate_succ,List.replicate_succ,List.flatten_cons,List.flatten_cons]
  exact Vals.append h (Vals.rep h k)
section
variable {X:Cx} {pins:List (Addr×Obj)} {σ:St} {H:Hp} {s:Shared} {l b:Addr} {xs ys zs:List V}
theorem Inv.lset {its its':List Value} {n:Nat} {f:Array Value->Array Value} {t':Nat} (I:Inv X pins σ H s) (hH:H l=some (.lst xs))
  (e:s.heap.get? l=some { cls:=.type "list",data:=.seq its.toArray n }) (hf:f its.toArray=its'.toArray) (hv:Vals ys its') (hz:ys.length<=sizeLine) :
  Inv X pins σ (upd H l (.lst ys)) { s with heap:=s.heap.update l (Obj.mapSeq f),toks:=t' }:=by
 have q:=PySem.IsL.update e f
 rw [hf] at q
 refine I.write (x:=l) (e:=l) (by rw [hH];exact trivial) (.inl rfl) (fun b' u hb hu=>(Heap.get?_update_other s.heap (Obj.mapSeq f) (Ne.symm hb)).trans hu) ⟨_,q⟩ ?_
 exact ⟨hz,its',_,hv,q⟩
theorem Inv.lnew {its:List Value} {t':Nat} (I:Inv X pins σ H s) (hv:Vals ys its) (hz:ys.length<=sizeLine) :
  Inv X pins σ (upd H s.heap.objs.size (.lst ys)) { s with heap:=s.heap.push { cls:=.type "list",data:=.seq its.toArray },toks:=t' } :=
 I.laid (fun _ _ q=>q_c _ q) (q_t _) ⟨hz,its,0,hv,q_k _ rfl⟩
theorem Inv.fresh (I:Inv X pins σ H s):H s.heap.objs.size=none:=I.hok.fresh (q_t _)
theorem Inv.lstM (I:Inv X pins σ H s) (hH:H l=some (.lst xs)):xs.length<=sizeLine/\∃(its:List Value) (n:Nat),Vals xs its/\xs.length=its.length/\s.heap.get? l=some { cls:=.type "list",data:=.seq its.toArray n }:=by
 obtain ⟨z,its,n,r,e⟩:=I.hok l _ hH
 exact ⟨z,its,n,r,r.length,e⟩
theorem JKN {n:Nat} (h:n<=sizeLine):Builtin.List.listTooLong n=false:=by
 unfold Builtin.List.listTooLong
 exact q_o (by omega)
end
section
variable {X:Cx}
noncomputable def JNQ:V->List V->Hp->VK->Prop:=fun x vs H Q=>∃l xs y,x=.ref l/\vs=[y]/\H l=some (.lst xs)/\xs.length<sizeLine/\Q .non (upd H l (.lst (xs++[y])))
theorem JHa:MtM X "list.append" JNQ:=by
 intro pins s σ H x vs v us Q I rx rv h
 obtain ⟨l,xs,y,rfl,rfl,hH,hz,q⟩:=h
 cases rx
 obtain ⟨u,rfl,ru⟩:=rv.one
 obtain ⟨z,its,n,r,hl,e⟩:=I.lstM hH
 refine call_meets F.slot_list_append ⟨_,e,rfl⟩ F.entry_list_append (F.args_list_append_2 _ _) (PySem.list_append l its.toArray n u (by rw [q_f];omega)) ⟨e,?_⟩
 refine ⟨.non,_,I.lset (its':=its++[u]) hH e (by simp) (r.append (.cons ru .nil)) ?_,rfl,q⟩
 rw [q_u,List.length_singleton]
 omega
theorem len_rep {α:Type} (xs:List α) (k:Nat):(List.replicate k xs).flatten.length=k*xs.length:=by
 induction k with
 | zero=>simp
 | succ k ih=>rw [List.replicate_succ,List.flatten_cons,q_u,ih,Nat.succ_mul,Nat.add_comm]
end
section
variable {prog:Program} {w:World} {A:Around} {E:Value->Shared->Prop} {s:Shared}
set_option maxRecDepth 100000 in
end
section
variable {X:Cx}
end
end L2
namespace Att
open PySem PySem.W PySem.Calls PyProof.Rows
theorem JCz {P:Params} {h:Heap}:∀(ns:List Int) (vs:List Value),WellAll P h vs (ns.map WData.int)->IntsAre vs ns:=by
 intro ns
 induction ns with
 | nil =>
  intro vs w
  rw [List.map_nil] at w
  cases w
  exact .nil
 | cons n ns ih =>
  intro vs w
  rw [List.map_cons] at w
  cases w with
  | cons a b =>
   cases a
   exact .cons _ _ (ih _ b)
theorem JHl {l:OpenLaw} {n:Nat} (hn:l.most=some n) {P:Params} {h:Heap} {args:List WData} {vals:List Value}
  (hpre:l.row.toRowW.claim.pre args=true) (hwl:WellAll P h vals args) :
  ∃a vs ns,vals=[Value.ref a]/\args=[WData.list (ns.map WData.int)]/\h.get? a=some { cls:=.type "list",data:=.seq vs.toArray }/\IntsAre vs ns/\ns.length<=n:=by
 have hsh:WShape.hasAll [] args [.list .int]=true:=(pre_splitW hpre).1
 have hc:l.pre.holds [] { args:=args }=true:=(pre_splitW hpre).2
 obtain ⟨d,r,rfl,h1,h2⟩:=hasAllW_cons hsh
 obtain rfl:=hasAllW_nil h2
 obtain ⟨xs,rfl,h3⟩:=hasW_list h1
 obtain ⟨ns,rfl⟩:=items_int h3
 have hlen:ns.length<=n:=by
  unfold OpenLaw.pre at hc
  have h4:(WTm.not (.lt (.lit (.int (n:Int))) (.len (.arg 0)))).holds [] { args:=[.list (ns.map .int)] }=true:=by
    have h4:=(holds_andW hc).1
    rw [hn] at h4
    exact h4
  have h5:=condW_of h4 (w_not (w_lt w_lit (w_len_list (w_arg rfl))))
  rw [q_g] at h5
  refine Nat.le_of_not_lt fun q=>?_
  have q':(n:Int)<((ns.length:Nat):Int):=by omega
  first
    |(rw [decide_eq_true q'] at h5;exact absurd h5 (by decide))
    |(simp at h5;omega)
 cases hwl with
 | cons w1 w2 =>
  cases w2
  cases w1 with
  | list ho hall=>exact ⟨_,_,ns,rfl,rfl,ho,JCz ns _ hall,hlen⟩
theorem JJC (l:OpenLaw) (args:List WData):l.row.toRowW.claim.post args (.bool true) args=true :=
 postW_of (r:=l.row.toRowW) (X:=(true==true))
  (show WShape.has [] (.bool true) .bool=true by first | rfl | decide | simp [WShape.has,WShape.arms,WShape.armsAll])
  (show (WTm.eq .res (.lit (.bool true))).value [] { args:=args,res:=some (.bool true),after:=args }=some (.bool (true==true)) from w_eq_bool (w_res rfl) w_lit) rfl
theorem attach_call {l:OpenLaw} {n:Nat} {q:Program} {loose:List Str} {XP:(Str->Option Value)->Heap->Prop} {YP:World->Heap->Prop} {d:DefRec}
  (hn:l.most=some n) (hdf:d.params.defaults=[])
  (call:∀(w:World) (s₀ s₁:Shared) (mg mb:Str->Option Value) (fa:Addr) (o:Obj) (pm cd doc:Value) (a:Addr) (vs:List Value) (ns:List Int),
    Ground q loose [] XP w s₀ mg mb s₁.heap->YP w s₁.heap ->
    s₁.heap.get? fa=some o->o.data=.func (docDef d.name d.params d.body d.scope pm cd doc)->s₁.heap.CodeRec cd d.name->mg d.name=some (.ref fa) ->
    s₁.heap.get? a=some { cls:=.type "list",data:=.seq vs.toArray }->IntsAre vs ns->ns.length<=n->s₁.gens=#[] ->
    codeAny (model l.prog w) callerA (.call (.ref fa) ⟨[.ref a],[]⟩) (fun r s'=>r=.ok (.ret (.bool true))/\OldK s₁.heap s'.heap/\s'.os=s₁.os/\AllBare s'.gens) s₁) :
  WalkO q loose XP YP l.row.toRowW d [] (fun f vs=>PySem.call f vs):=by
 intro w s₀ s₁ mg mb G Y fa o pm cd doc dV kV ho hd hcd hD hmg hg args vals as hpre hlay hrd hwl hlo
 obtain rfl:dV=.none:=Dflts.none hD hdf
 obtain rfl:kV=.none:=Dflts.noKw hD
 obtain ⟨a,vs,ns,rfl,rfl,hobj,hints,hlen⟩:=JHl hn hpre hwl
 refine enter_call (codeAny_mono (call w s₀ s₁ mg mb fa o pm cd doc a vs ns G Y ho (fd_plain hd) hcd hmg hobj hints hlen hg) fun r s' hq=>?_)
 obtain ⟨rfl,h2,h3,h4⟩:=hq
 exact ⟨.inl ⟨.bool true,.bool true,[],rfl,fun _=>rfl,.bool true,JJC l _,fun _=>⟨List.Pairwise.nil,fun _ hm=>(nomatch hm)⟩⟩,h2,h3,h4⟩
section
variable {prog:Program} {w:World} {A:Around} {E:Value->Shared->Prop} {s:Shared} {K:Frag}
noncomputable def ledger (h:Heap) (L d:Addr):List (Addr×Obj):=(List.range h.objs.size).filterMap fun a=>if a=L\/a=d then none else (h.get? a).map fun o=>(a,o)
end
end Att
namespace L2
open PySem PySem.Spec PyProof.Rows
theorem JEa:∀ {vs:List Value} {ns:List Int},IntsAre vs ns->Vals (ns.map V.int) vs
 | _,_,.nil=>.nil
 | _,_,.cons n t h=>.cons ⟨t,rfl⟩ (JEa h)
noncomputable def Only (H:Hp):Prop:=∀b,H b=none\/∃o xs,H b=some (.frz o (.lst xs))
theorem JJv {P:Program} {w:World} {K:PySem.W.Frag} {mg mb:Str->Option Value} {CX:CXT} {k:Nat} {fa a:Addr} {fd:FuncData} {x:Str} {sp:Sp} {s₁:Shared} {vs:List Value} {ns:List Int}
  (KX:K.In s₁.heap) (hns:s₁.heap.Ns mainGlobals mg) (hb:s₁.heap.Ns builtinsNs mb) (hbb:∀x:Str,x≠"__name__"->mb x=bootBuiltins x) (hlim:s₁.heap.NoLimit) (hg:s₁.gens=#[])
  (ha:s₁.heap.get? a=some { cls:=.type "list",data:=.seq vs.toArray }) (hi:IntsAre vs ns) (hl:ns.length<=sizeLine) (hr:Room k callerA)
  (F:∀base:Heap,K.In base->base.Ns mainGlobals mg->FnOk P w K mg base CX k fa fd [x] sp) (hbind:∀(s:Shared) (u:Value),BindsTo s fd ⟨[u],[]⟩ [(x,u)])
  (hsp:∀H:Hp,Only H->SqL K H a (ns.map V.int)->sp [.ref a] H (fun v _=>v=.bl true) fun _ _ _=>False)
  (hCX:∀H e s',CX [] H s₁ (fun _ _ _=>False) e s'->False) :
  codeAny (model P w) callerA (.call (.ref fa) ⟨[.ref a],[]⟩) (fun r s'=>r=.ok (.ret (.bool true))/\OldK s₁.heap s'.heap/\s'.os=s₁.os/\AllBare s'.gens) s₁:=by
 have rv:=JEa hi
 have lenV:=hi.length
 have core:∀H:Hp,Only H->SqL K H a (ns.map V.int)->HOk P w H s₁.heap->(∀b,H b≠none->b=a)->(H a≠none->K.lookup a=none) ->
    codeAny (model P w) callerA (.call (.ref fa) ⟨[.ref a],[]⟩) (fun r s'=>r=.ok (.ret (.bool true))/\OldK s₁.heap s'.heap/\s'.os=s₁.os/\AllBare s'.gens) s₁:=by
  intro H hO hS hok hA hK
  have base_of:∀ {b:Addr} {o:Obj},s₁.heap.get? b=some o->H b=none->(hidT s₁.heap H).get? b=some o:=fun e n=>JJ0 e n
  have noA:∀ {b:Addr} {o:Obj} {es:Array DictEntry} {ep:Nat},s₁.heap.get? b=some o->o.data=.dict es ep->H b=none:=fun {b o es ep} e d=>by
    cases q:H b with
    | none=>rfl
    | some u =>
     have e':b=a:=hA b (by rw [q];simp)
     subst e'
     rw [ha] at e;cases e
     have d':Data.seq vs.toArray _=Data.dict es ep:=d
     cases d'
  have nsK:∀ {b:Addr} {m:Str->Option Value},s₁.heap.Ns b m->(hidT s₁.heap H).Ns b m:=fun {b m} ⟨o,es,ep,e,d,r⟩=>⟨o,es,ep,base_of e (noA e d),d,r⟩
  have hKb:K.In (hidT s₁.heap H):=fun b o e=>base_of (KX b o e) (by
    cases q:H b with
    | none=>rfl
    | some u =>
     have e':b=a:=hA b (by rw [q];simp)
     subst e'
     rw [hK (by rw [q];simp)] at e;cases e)
  have hM:Mod K mg (hidT s₁.heap H):=⟨hKb,nsK hns,⟨mb,nsK hb,hbb⟩,let ⟨mc,h1,h2⟩:=hlim;⟨mc,nsK h1,h2⟩⟩
  have e0:Env0 P w K mg (hidT s₁.heap H) callerA [] s₁ H:=⟨rfl,hM,fun b o e=>JOD e,Nat.le_of_eq (JHX _ _),trivial,fun b hb=>absurd (show b∈([]:List Addr) from hb) (by simp),hok,.of_eq hg⟩
  refine codeAny_mono ((F _ hKb (nsK hns)).run callerA [] s₁ H ⟨[.ref a],[]⟩ [.ref a] [.ref a] _ _ hr e0 (hbind s₁ (.ref a)) (.cons rfl .nil) (hsp H hO hS)) fun r s' h=>?_
  cases r with
  | error e=>exact (hCX H e s' h).elim
  | ok fl =>
    cases fl with
    | next=>exact False.elim h
    | brk=>exact False.elim h
    | cont=>exact False.elim h
    | ret u =>
     obtain ⟨v,H',os,bare,un,hok',r',q⟩:=h
     have q':v=.bl true:=q
     subst q'
     obtain rfl:u=Value.bool true:=r'
     refine ⟨rfl,OldK.of_keep fun b o e=>?_,os,bare⟩
     cases q:H b with
     | none=>exact un.keep b o e q (by intro z;exact absurd (show b∈([]:List Addr) from z) (by simp)) (by simp)
     | some u =>
      rcases hO b with z | ⟨ob,xs,z⟩
      ·rw [q] at z;cases z
      ·have z2:=un.frzs b ob _ z
       obtain ⟨e1,_⟩:=hok b _ z
       obtain ⟨e2,_⟩:=hok' b _ z2
       rw [e] at e1;cases e1
       exact e2
 cases hk:K.lookup a with
 | some o =>
  have e:=KX a o hk
  rw [ha] at e
  cases e
  refine core (fun _=>none) (fun _=>.inl rfl) (.inr ⟨_,vs.toArray,_,hk,rfl,rfl,rfl,by rw [q_f,lenV];exact hl,by simpa using rv⟩) (fun b u z=>by have z':(none:Option HO)=some u:=z;cases z') (fun b z=>absurd rfl z) fun z=>absurd rfl z
 | none =>
  refine core (fun b=>if b=a then some (.frz { cls:=.type "list",data:=.seq vs.toArray } (.lst (ns.map V.int))) else none) (fun b=>?_) (.inl (.inr ⟨{ cls:=.type "list",data:=.seq vs.toArray },if_pos rfl⟩)) (fun b u z=>?_) (fun b z=>?_) fun _=>hk
  · by_cases hb:b=a
    ·exact .inr ⟨_,_,if_pos hb⟩
    ·exact .inl (if_neg hb)
  · by_cases hb:b=a
    ·have z':=(if_pos hb).symm.trans z
     cases z'
     subst hb
     exact ⟨ha,by rw [q_g];exact hl,vs,_,rv,ha⟩
    ·have z':=(if_neg hb).symm.trans z
     cases z'
  · by_cases hb:b=a
    ·exact hb
    ·exact absurd (if_neg hb) z
end L2
namespace L2
open PySem PySem.Spec PyProof.Rows
noncomputable abbrev KOf {K:PySem.W.Frag} {h:Heap} (_:K.In h):PySem.W.Frag:=K
theorem walk_of {l:PySem.W.OpenLaw} {n k:Nat} {q:Program} {loose:List Str} {XP:(Str->Option Value)->Heap->Prop} {YP:World->Heap->Prop} {d:DefRec} {K:Params->PySem.W.Frag} {CX:World->CXT} {sp:World->Sp} {x:Str}
  (hn:l.most=some n) (hn2:n<=sizeLine) (hdf:d.params.defaults=[]) (hr:Room k callerA)
  (hY:∀(w:World) (h:Heap),YP w h->(K w.params).In h)
  (F:∀(w:World) (mg:Str->Option Value) (fa:Addr) (h:Heap),(K w.params).In h->h.Ns mainGlobals mg->mg d.name=some (.ref fa) ->
    ∃fd:FuncData,(∀(s:Shared) (u:Value),BindsTo s fd ⟨[u],[]⟩ [(x,u)]) /\
     ∀base:Heap,(K w.params).In base->base.Ns mainGlobals mg->FnOk l.prog w (K w.params) mg base (CX w) k fa fd [x] (sp w))
  (hsp:∀(w:World) (H:Hp) (a:Addr) (ns:List Int),ns.length<=n->Only H->SqL (K w.params) H a (ns.map V.int)->sp w [.ref a] H (fun v _=>v=.bl true) fun _ _ _=>False)
  (hCX:∀(w:World) (H:Hp) (s:Shared) (e:Value) (s':Shared),CX w [] H s (fun _ _ _=>False) e s'->False) :
  PySem.W.WalkO q loose XP YP l.row.toRowW d [] (fun f vs=>PySem.call f vs):=by
 refine Att.attach_call hn hdf fun w s₀ s₁ mg mb fa o pm cd doc a vs ns G Y ho hd hcd hmg hobj hints hlen hg=>?_
 have KX:=hY w _ Y
 obtain ⟨fd,hb,hF⟩:=F w mg fa _ KX G.T.g hmg
 exact JJv KX G.T.g G.T.b G.T.builtins G.T.nolimit hg hobj hints (Nat.le_trans hlen hn2) hr hF hb (fun H hO hS=>hsp w H a ns hlen hO hS) fun H e s'=>hCX w H s₁ e s'
end L2
namespace L2
open PySem PySem.Spec PyProof.Rows
noncomputable def JBI (s:Stmt):Arguments:=match s with
 | .FunctionDef _ a _ _ _ _ _ _ _ _=>a
 | _=>{ posonlyargs:=[],args:=[],vararg:=none,kwonlyargs:=[],kw_defaults:=[],kwarg:=none,defaults:=[] }
noncomputable def JA1 (s:Stmt):List Stmt:=match s with
 | .FunctionDef _ _ b _ _ _ _ _ _ _=>b
 | _=>[]
noncomputable def JAV (s:Stmt):Scope:=match s with
 | .FunctionDef _ _ _ _ _ _ sc _ _ _=>sc
 | _=>{ kind:=.function,names:=[],isGenerator:=false,isCoroutine:=false }
noncomputable abbrev CX0:CXT:=fun _ _ _ _ _ _=>False
structure Fun (K:PySem.W.Frag) (x qual:Str) (st:Stmt) (f:Addr) (fd:FuncData):Prop where
 ex:∃(oc:Value) (od:Option Addr) (kV doc pm:Value) (an:Option Addr) (cdv ct:Value) (osl:Array (Option Value)),
  fd=PySem.W.fnOf x qual (JBI st) (JA1 st) (JAV st) .none kV doc pm an cdv ct/\K.lookup f=some ⟨oc,od,.func fd,osl⟩/\PySem.W.codeIn K cdv qual=true
 kp:PySem.W.keepIn K (.ref f)=true
section
variable {P:Program} {w:World} {K:PySem.W.Frag} {mg:Str->Option Value} {base:Heap}
theorem Fun.ok {x qual:Str} {st:Stmt} {f:Addr} {fd:FuncData} {N ps:List Str} {k:Nat} {sp:Sp} (F:Fun K x qual st f fd) (S:FnScope N ps (JAV st)) (len:∀vs H Q E,sp vs H Q E->vs.length=ps.length)
  (hbody:∀(cdv:Value) (A:Around) (outer:List Env) (s:Shared) (H:Hp) (vs:List V) (Q:VK) (E:XK),Room k (A.deeper (envOfC qual (JAV st) s.heap.objs.size f cdv))->sp vs H Q E ->
    ∃t,PSs (cxOf CX0 P w K mg base N qual (JAV st) f cdv A outer s H E).nox (JA1 st) t/\t { nx:=fun _ H'=>Q .non H',rt:=Q } (start N vs) H):FnOk P w K mg base CX0 (k+1) f fd ps sp:=by
 obtain ⟨oc,od,kV,doc,pm,an,cdv,ct,osl,rfl,lk,hcd⟩:=F.ex
 refine JQ2 lk hcd S len fun A outer s H vs Q E hr hsp=>?_
 obtain ⟨t,h,q⟩:=hbody cdv A outer s H vs Q E hr hsp
 exact ⟨t,h.nox,q⟩
theorem Fun.binds {x qual:Str} {st:Stmt} {f:Addr} {fd:FuncData} {ps:List Str} (F:Fun K x qual st f fd)
  (h:∀(kV doc pm:Value) (an:Option Addr) (cdv ct:Value) (us:List Value),us.length=ps.length->bindArgs (PySem.W.fnOf x qual (JBI st) (JA1 st) (JAV st) .none kV doc pm an cdv ct) ⟨us,[]⟩=pure (ps.zip us)):Binds K fd ps []:=by
 obtain ⟨oc,od,kV,doc,pm,an,cdv,ct,osl,rfl,lk,hcd⟩:=F.ex
 exact .all (h kV doc pm an cdv ct)
theorem JLN {x qual:Str} {st:Stmt} {f:Addr} {oc:Value} {od an:Option Addr} {osl:Array (Option Value)} {kV doc pm cdv ct:Value} (l:K.lookup f=some ⟨oc,od,.func (PySem.W.fnOf x qual (JBI st) (JA1 st) (JAV st) .none kV doc pm an cdv ct),osl⟩)
 (c:PySem.W.codeIn K cdv qual=true) (k:PySem.W.keepIn K (.ref f)=true):Fun K x qual st f (PySem.W.fnOf x qual (JBI st) (JA1 st) (JAV st) .none kV doc pm an cdv ct):=⟨⟨oc,od,kV,doc,pm,an,cdv,ct,osl,rfl,l,c⟩,k⟩
end
section
variable {X:Cx}
end
theorem iteF {A B:Prop} (h:B):if false=true then A else B:=by
 rw [if_neg Bool.false_ne_true]
 exact h
theorem iteT {A B:Prop} (h:A):if true=true then A else B:=by
 rw [if_pos rfl]
 exact h
noncomputable def Same (H H':Hp):Prop:=∀b o,H b=some o->H' b=some o
theorem Same.refl (H:Hp):Same H H:=fun _ _ h=>h
theorem Same.trans {H H1 H2:Hp} (a:Same H H1) (b:Same H1 H2):Same H H2:=fun c o h=>b c o (a c o h)
theorem Same.free {H H':Hp} (e:Same H H') {l:Addr} (h:H' l=Option.none):H l=Option.none:=by
 cases q:H l with
 | none=>rfl
 | some o =>
  rw [e l o q] at h
  cases h
theorem Same.seq {K:PySem.W.Frag} {H H':Hp} {a:Addr} {xs:List V} (e:Same H H') (h:SqL K H a xs):SqL K H' a xs:=by
 rcases h with (h | ⟨o,h⟩) | h
 ·exact .inl (.inl (e _ _ h))
 ·exact .inl (.inr ⟨o,e _ _ h⟩)
 ·exact .inr h
end L2
set_option autoImplicit false
section
set_option backward.eqns.nonrecursive false
namespace VI
open PySem
abbrev D:=PyData
noncomputable def excD (c:Nat):D:=.dict [(.none,.int (c:Int))]
inductive R (α:Type) where
 | ok (a:α)
 | exc (c:Nat)
 | bad
@[reducible] def R.bind {α β:Type} (r:R α) (f:α->R β):R β :=
 match r with
 | .ok a=>f a
 | .exc c=>.exc c
 | .bad=>.bad
inductive Ty where
 | int | bool | str | list | tuple | dict | valueError | own (c:Nat)
 deriving DecidableEq
inductive Blt where
 | len | abs | min | all
 deriving DecidableEq
inductive O1 where
 | slice (lo hi:Option Int)
 | toTup | toLst | rev
 deriving DecidableEq
inductive XO where
 | rev | enm | srt | zip | sst
 | dvs | dit | dls | dcp | dnw | din | dni | deq | dne | dtk | sts
 deriving DecidableEq
inductive E where
 | var (i:Nat)
 | cint (i:Int) | cbl (b:Bool) | cnon | cstr (x:Str)
 | glo (i:Nat)
 | bin (op:Operator) (a b:E)
 | neg (a:E)
 | not (a:E)
 | and (a b:E)
 | or (a b:E)
 | cmp (op:CmpOp) (a b:E)
 | isN (a:E) (neg:Bool)
 | isB (a:E) (b:Bool)
 | ife (c a b:E)
 | nil
 | cons (a r:E)
 | tup (es:E)
 | lst (es:E)
 | idx (a i:E)
 | call (f:Nat) (es:E)
 | blt (b:Blt) (es:E)
 | rng (es:E)
 | isi (a:E) (t:Ty)
 | mcount (o a:E)
 | mindex (o a:E)
 | mget (o a b:E)
 | cmpr (k:Nat) (elt iter cond:E)
 | dct (ks:List Str) (es:E)
 | rep (k:Nat) (es:E)
 | fn1 (o:O1) (a:E)
 | isnB (a:E) (b:Bool)
 | xop (k:XO) (es:E)
inductive Sl where
 | no
 | val (d:D)
 | own (d:D)
noncomputable def Sl.get:Sl->R D
 | .no=>.bad
 | .val d=>.ok d
 | .own (.dict _)=>.bad
 | .own d=>.ok d
noncomputable def Sl.frz:Sl->Sl
 | .own (.dict _)=>.no
 | .own d=>.val d
 | s=>s
noncomputable def Sl.isOwn:Sl->Bool
 | .own _=>true
 | _=>false
abbrev Env:=List Sl
noncomputable def look (δ:Env) (i:Nat):R D:=match δ[i]? with
 | some s=>s.get
 | none=>.bad
structure Cn where
 fn:Nat->List D->R D
 glo:Nat->R D
 sub:Nat->Nat->Bool
noncomputable def truth:D->R Bool
 | .none=>.ok false
 | .bool b=>.ok b
 | .int i=>.ok (i != 0)
 | .str x=>if x.length<=16777216 then .ok ((x.length:Int) != 0) else .bad
 | .list xs=>.ok (!xs.isEmpty)
 | .tuple xs=>.ok (!xs.isEmpty)
 | .dict _=>.bad
open Classical in
noncomputable def binD (op:Operator) (x y:D):R D :=
 match op,x,y with
 | .Add,.int i,.int j=>.ok (.int (i+j))
 | .Sub,.int i,.int j=>.ok (.int (i - j))
 | .Mult,.int i,.int j=>if IntMulOk i j then .ok (.int (i*j)) else .bad
 | .FloorDiv,.int i,.int j=>if j≠0/\Builtin.divisionGoesByPylong i j=false then .ok (.int (i.fdiv j)) else .bad
 | .Mod,.int i,.int j=>if j≠0 then .ok (.int (i.fmod j)) else .bad
 | .Add,.tuple xs,.tuple ys=>if xs.length+ys.length<=16777216 then .ok (.tuple (xs++ys)) else .bad
 | .Add,.list xs,.list ys=>if xs.length+ys.length<=16777216 then .ok (.list (xs++ys)) else .bad
 | .Mult,.tuple xs,.int k=>if 2<=k/\k<=1000/\xs.length<=1000/\xs≠[] then .ok (.tuple (List.replicate k.toNat xs).flatten) else .bad
 | .Mult,.list xs,.int k=>if -(2 ^ 62)<=k/\k<2 ^ 62/\xs.length*k.toNat<=16777216 then .ok (.list (List.replicate k.toNat xs).flatten) else .bad
 | _,_,_=>.bad
noncomputable def shaped (d:D):Bool:=d.canLay0&&decide (d.depth<=64)
noncomputable def JC3 (xs:List D) (x:D):Bool:=PyData.canLayAll0 xs&&x.canLay0&&decide (x.depth<=60)
noncomputable def cmpD (op:CmpOp) (x y:D):R D :=
 match op with
 | .Eq=>if (shaped x&&shaped y)=true then .ok (.bool (PyData.eqv x y)) else .bad
 | .NotEq=>if (shaped x&&shaped y)=true then .ok (.bool (!PyData.eqv x y)) else .bad
 | .Lt=>match x,y with | .int i,.int j=>.ok (.bool (decide (i<j))) | _,_=>.bad
 | .LtE=>match x,y with | .int i,.int j=>.ok (.bool (decide (i<=j))) | _,_=>.bad
 | .Gt=>match x,y with | .int i,.int j=>.ok (.bool (decide (j<i))) | _,_=>.bad
 | .GtE=>match x,y with | .int i,.int j=>.ok (.bool (decide (j<=i))) | _,_=>.bad
 | .In=>match y with
  | .list xs=>if JC3 xs x=true then .ok (.bool (xs.any fun z=>PyData.eqv z x)) else .bad
  | .tuple xs=>if JC3 xs x=true then .ok (.bool (xs.any fun z=>PyData.eqv z x)) else .bad
  | _=>.bad
 | .NotIn=>match y with
  | .list xs=>if JC3 xs x=true then .ok (.bool (!xs.any fun z=>PyData.eqv z x)) else .bad
  | .tuple xs=>if JC3 xs x=true then .ok (.bool (!xs.any fun z=>PyData.eqv z x)) else .bad
  | _=>.bad
 | _=>.bad
noncomputable def isNone:D->Bool
 | .none=>true
 | _=>false
noncomputable def isBool (b:Bool):D->R Bool
 | .bool c=>.ok (c==b)
 | _=>.bad
noncomputable def ixN (n:Nat) (i:Int):Option Nat:=if 0<=i then (if i<n then some i.toNat else none) else if -(n:Int)<=i then some (i+n).toNat else none
noncomputable def atI {α:Type} (xs:List α) (i:Int):Option α:=(ixN xs.length i).bind fun j=>xs[j]?
noncomputable def optR {α:Type}:Option α->R α
 | some a=>.ok a
 | none=>.bad
noncomputable def getK:List (D×D)->Str->R D
 | [],_=>.bad
 |(.str k,v)::r,x=>if k=x then .ok v else getK r x
 | _::_,_=>.bad
noncomputable def idxD (x i:D):R D :=
 match x,i with
 | .list xs,.int i=>optR (atI xs i)
 | .tuple xs,.int i=>optR (atI xs i)
 | .dict kvs,.str y=>getK kvs y
 | .str x,.int i=>if x.cps.size<=1000 then optR ((atI x.cps.toList i).map fun c=>.str ⟨#[c]⟩) else .bad
 | _,_=>.bad
noncomputable def isiD (sub:Nat->Nat->Bool) (x:D) (t:Ty):R D :=
 match x with
 | .none=>.ok (.bool false)
 | .bool _=>.ok (.bool (t==.int || t==.bool))
 | .int _=>.ok (.bool (t==.int))
 | .str _=>.ok (.bool (t==.str))
 | .list _=>.ok (.bool (t==.list))
 | .tuple _=>.ok (.bool (t==.tuple))
 | .dict [(.none,.int c)]=>if sub c.toNat c.toNat=true then (match t with
  | .own e=>.ok (.bool (sub c.toNat e))
  | .valueError=>.ok (.bool true)
  | _=>.bad) else .bad
 | .dict _=>.bad
noncomputable def lexI:List Int->List Int->Bool
 | [],[]=>false
 | [],_::_=>true
 | _::_,[]=>false
 | a::r,b::t=>if a=b then lexI r t else decide (a<b)
noncomputable def intsOf:List D->Option (List Int)
 | []=>some []
 | .int a::r=>(intsOf r).map (a::·)
 | _=>none
noncomputable def keysOf:List D->Option (List (List Int))
 | []=>some []
 | .tuple a::r=>(intsOf a).bind fun k=>(keysOf r).map (k::·)
 | _=>none
noncomputable def minK:List Int->List (List Int)->List Int
 | k,[]=>k
 | k,b::r=>minK (if lexI b k=true then b else k) r
noncomputable def minD (ds:List D):R D:=match keysOf ds with
 | some (k::ks)=>.ok (.tuple ((minK k ks).map fun i=>.int i))
 | _=>.bad
noncomputable def allD:List D->R D
 | []=>.ok (.bool true)
 | .bool b::r=>(match allD r with
  | .ok (.bool c)=>.ok (.bool (b&&c))
  | _=>.bad)
 | _=>.bad
noncomputable def bltD (b:Blt) (xs:List D):R D :=
 match b,xs with
 | .len,[.list ys]=>.ok (.int ys.length)
 | .len,[.tuple ys]=>.ok (.int ys.length)
 | .abs,[.int i]=>.ok (.int (if i<0 then -i else i))
 | .min,[.list ys]=>minD ys
 | .all,[.list ys]=>allD ys
 | _,_=>.bad
noncomputable def JGY (lo hi:Int):List D:=(List.range (hi - lo).toNat).map fun (k:Nat)=>.int (lo+k)
noncomputable def small (i:Int):Bool:=decide (-(2 ^ 62)<=i)&&decide (i<2 ^ 62)
noncomputable def rngD (xs:List D):R (List D) :=
 match xs with
 | [.int j]=>if small j=true then .ok (JGY 0 j) else .bad
 | [.int i,.int j]=>if (small i&&small j)=true then .ok (JGY i j) else .bad
 | _=>.bad
noncomputable def JAa:D->R (List D)
 | .list xs=>.ok xs
 | .tuple xs=>.ok xs
 | _=>.bad
noncomputable def JHO (x y:D):R D :=
 match x with
 | .list xs=>if JC3 xs y=true then .ok (.int (xs.countP fun z=>PyData.eqv z y:Nat)) else .bad
 | _=>.bad
noncomputable def JI0 (x y:D):R D :=
 match x with
 | .list xs=>if JC3 xs y=true then
  (match xs.findIdx? fun z=>PyData.eqv z y with
   | some j=>.ok (.int j)
   | none=>.bad) else .bad
 | _=>.bad
noncomputable def getD:List (D×D)->Str->D->R D
 | [],_,z=>.ok z
 |(.str k,v)::r,x,z=>if k=x then .ok v else getD r x z
 | _,_,_=>.bad
noncomputable def JNe (x k z:D):R D :=
 match x,k with
 | .dict kvs,.str y=>getD kvs y z
 | _,_=>.bad
def sI (n d:Nat):Option Int->Nat
 | none=>d
 | some v=>if v<0 then (v+(n:Int)).toNat else min v.toNat n
def cutD {α:Type} (xs:List α) (lo hi:Option Int):List α:=(xs.drop (sI xs.length 0 lo)).take (sI xs.length xs.length hi - sI xs.length 0 lo)
noncomputable def op1D (o:O1) (d:D):R D:=match o,d with
 | .slice lo hi,.tuple xs=>.ok (.tuple (cutD xs lo hi))
 | .slice lo hi,.list xs=>.ok (.list (cutD xs lo hi))
 | .toTup,.tuple xs=>.ok (.tuple xs)
 | .toTup,.list xs=>.ok (.tuple xs)
 | .toLst,.tuple xs=>.ok (.list xs)
 | .toLst,.list xs=>.ok (.list xs)
 | .rev,.list xs=>.ok (.list xs.reverse)
 | _,_=>.bad
noncomputable def enmL:Nat->List D->List D
 | _,[]=>[]
 | i,d::r=>.tuple [.int (i:Nat),d]::enmL (i+1) r
noncomputable def kGo {α:Type} (lt:Nat->Nat->Bool):PySem.W.KasT α->α
 | .ret a=>a
 | .ask i j k=>kGo lt (k (lt i j))
inductive At where
 | i (n:Int) | s (x:Str) | t (k:List Int)
 deriving DecidableEq
noncomputable def At.kd:At->Nat
 | .i _=>0
 | .s _=>1
 | .t _=>2
noncomputable def ltAt:At->At->Bool
 | .i a,.i b=>decide (a<b)
 | .s x,.s y=>decide (x.cps.toList<y.cps.toList)
 | .t a,.t b=>lexI a b
 | _,_=>false
noncomputable def lexA:List At->List At->Bool
 | [],[]=>false
 | [],_::_=>true
 | _::_,[]=>false
 | a::r,b::t=>if a=b then lexA r t else ltAt a b
noncomputable def atOf:D->Option At
 | .int n=>some (.i n)
 | .str x=>some (.s x)
 | .tuple ds=>(intsOf ds).map .t
 | _=>none
noncomputable def JOe:List D->Option (List At)
 | []=>some []
 | d::r=>(atOf d).bind fun a=>(JOe r).map (a::·)
noncomputable def JQf:List D->Option (List (List At))
 | []=>some []
 | .tuple ds::r=>(JOe ds).bind fun k=>(JQf r).map (k::·)
 | _=>none
noncomputable def sortA (ks:List (List At)):List Nat:=(kGo (fun i j=>lexA (ks.getD i []) (ks.getD j [])) (PySem.W.kas_sort ks.length)).toList
noncomputable def sigOk:List (List At)->Bool
 | []=>false
 | k::ks=>!k.isEmpty&&ks.all fun q=>q.map At.kd==k.map At.kd
noncomputable def strsOf:List D->Option (List Str)
 | []=>some []
 | .str x::r=>(strsOf r).map (x::·)
 | _=>none
noncomputable def ltS (x y:Str):Bool:=decide (x.cps.toList<y.cps.toList)
noncomputable def JBw (zs:List Str):List Str:=if zs.length<2 then zs else (kGo (fun i j=>ltS (zs.getD i "") (zs.getD j "")) (PySem.W.kas_sort zs.length)).toList.map fun i=>zs.getD i ""
noncomputable def dedS:List Str->List Str
 | []=>[]
 | x::r=>if x∈dedS r then dedS r else x::dedS r
noncomputable def srtS (ys:List D):R D:=match strsOf ys with
 | some xs=>if xs.length<=7 then .ok (.list ((JBw xs).map .str)) else .bad
 | none=>.bad
noncomputable def sstS (ys:List D):R D:=match strsOf ys with
 | some xs=>if xs.length<=1000/\(dedS xs).length<=7 then .ok (.list ((JBw (dedS xs)).map .str)) else .bad
 | none=>.bad
noncomputable def srtA (ys:List D):R D:=match JQf ys with
 | some ks=>if 2<=ks.length/\ks.length<=5/\sigOk ks=true then .ok (.list ((sortA ks).map fun i=>ys.getD i .none)) else .bad
 | none=>srtS ys
noncomputable def srtD (ys:List D):R D:=if ys.length<2 then .ok (.list ys) else srtA ys
noncomputable def JAt:List (D×D)->Option (List D)
 | []=>some []
 |(.str x,_)::r=>(JAt r).map (.str x::·)
 | _=>none
noncomputable def hasK:List (D×D)->Str->Bool
 | [],_=>false
 |(.str z,_)::r,k=>decide (z=k) || hasK r k
 | _::r,k=>hasK r k
noncomputable def repD:List (D×D)->Str->D->List (D×D)
 | [],_,_=>[]
 |(.str z,v)::r,k,x=>(.str z,if z=k then x else v)::repD r k x
 | p::r,k,x=>p::repD r k x
noncomputable def putD (kvs:List (D×D)) (k:Str) (x:D):List (D×D):=if hasK kvs k=true then repD kvs k x else kvs++[(.str k,x)]
noncomputable def JCh (x y:D):R Bool:=match y,x with
 | .dict kvs,.str k=>(match JAt kvs with
  | some _=>.ok (hasK kvs k)
  | none=>.bad)
 | _,_=>.bad
noncomputable def JDX:D->Bool
 | .dict _=>true
 | _=>false
noncomputable def JCa (kb:List (D×D)):List (D×D)->R Bool
 | []=>.ok true
 |(.str k,v)::r=>(match getK kb k with
  | .ok y=>if (shaped v&&shaped y)=true then (match JCa kb r with
    | .ok b=>.ok (PyData.eqv v y&&b)
    | _=>.bad) else .bad
  | _=>.ok false)
 | _=>.bad
noncomputable def eqD2 (ka kb:List (D×D)):R Bool:=match JAt ka,JAt kb with
 | some _,some _=>if ka.length=kb.length then JCa kb ka else .ok false
 | _,_=>.bad
noncomputable def JBO:D->D->Option (R Bool)
 | .dict ka,.dict kb=>some (eqD2 ka kb)
 | _,_=>none
noncomputable def keyL (f:List D->R D):D->R D
 | .dict kvs=>(match JAt kvs with
  | some ks=>if ks.length<=1000000 then f ks else .bad
  | none=>.bad)
 | _=>.bad
noncomputable def dD (k:XO) (xs:List D):R D:=match k,xs with
 | .dvs,[.dict kvs]=>(match JAt kvs with
  | some _=>.ok (.list (kvs.map Prod.snd))
  | none=>.bad)
 | .dit,[x]=>(match x with
  | .list ys=>.ok (.list ys)
  | .tuple ys=>.ok (.list ys)
  | x=>keyL (fun ks=>.ok (.list ks)) x)
 | .dls,[x]=>(match x with
  | .list ys=>.ok (.list ys)
  | .tuple ys=>.ok (.list ys)
  | x=>keyL (fun ks=>.ok (.list ks)) x)
 | .dcp,[x]=>keyL (fun _=>.ok x) x
 | .dnw,[]=>.ok (.dict [])
 | .sts,[.list ys]=>srtS ys
 | .dtk,[x,.int n]=>op1D (.slice none (some n)) x
 | .din,[x,y]=>if JDX y=true then (JCh x y).bind fun b=>.ok (.bool b) else cmpD .In x y
 | .dni,[x,y]=>if JDX y=true then (JCh x y).bind fun b=>.ok (.bool (!b)) else cmpD .NotIn x y
 | .deq,[x,y]=>(match JBO x y with
  | some r=>r.bind fun b=>.ok (.bool b)
  | none=>cmpD .Eq x y)
 | .dne,[x,y]=>(match JBO x y with
  | some r=>r.bind fun b=>.ok (.bool (!b))
  | none=>cmpD .NotEq x y)
 | _,_=>.bad
noncomputable def XO.isT:XO->Bool
 | .din=>true
 | .dni=>true
 | .deq=>true
 | .dne=>true
 | _=>false
noncomputable def xD (k:XO) (xs:List D):R D:=match k,xs with
 | .rev,[.list ys]=>.ok (.list ys.reverse)
 | .enm,[.list ys]=>.ok (.list (enmL 0 ys))
 | .enm,[.tuple ys]=>.ok (.list (enmL 0 ys))
 | .srt,[.list ys]=>srtD ys
 | .sst,[.list ys]=>sstS ys
 | .zip,[.list xs,.list ys]=>.ok (.list (List.zipWith (fun a b=>PyData.tuple [a,b]) xs ys))
 | k,xs=>dD k xs
noncomputable def JPD:D->Bool
 | .list _=>true
 | _=>false
noncomputable def JQm:D->Bool
 | .dict []=>true
 | .dict ((.str _,_)::_)=>true
 | _=>false
noncomputable def push (k:Nat) (x:D) (δ:Env):R Env :=
 match k with
 | 0=>.ok (.val x::δ)
 | n+1=>match x with
  | .tuple xs=>if xs.length=n+1 then .ok (xs.map Sl.val++δ) else .bad
  | _=>.bad
noncomputable def JAs (f:D->R (Option D)):List D->R (List D)
 | []=>.ok []
 | x::xs=>match f x with
  | .ok (some y)=>(match JAs f xs with
   | .ok ys=>.ok (y::ys)
   | _=>.bad)
  | .ok none=>JAs f xs
  | _=>.bad
mutual
noncomputable def ev (C:Cn):E->Env->R D
 | .var i,δ=>look δ i
 | .cint i,_=>.ok (.int i)
 | .cbl b,_=>.ok (.bool b)
 | .cnon,_=>.ok .none
 | .cstr x,_=>.ok (.str x)
 | .glo i,_=>C.glo i
 | .bin op a b,δ=>(ev C a δ).bind fun x=>(ev C b δ).bind fun y=>binD op x y
 | .neg a,δ=>(ev C a δ).bind fun x=>match x with | .int i=>.ok (.int (-i)) | _=>.bad
 | .not a,δ=>((ev C a δ).bind truth).bind fun b=>.ok (.bool (!b))
 | .and a b,δ=>(ev C a δ).bind fun x=>match x with | .bool true=>ev C b δ | .bool false=>.ok (.bool false) | _=>.bad
 | .or a b,δ=>(ev C a δ).bind fun x=>match x with | .bool true=>.ok (.bool true) | .bool false=>ev C b δ | _=>.bad
 | .cmp op a b,δ=>(ev C a δ).bind fun x=>(ev C b δ).bind fun y=>cmpD op x y
 | .isN a n,δ=>(ev C a δ).bind fun x=>.ok (.bool (if n=true then !isNone x else isNone x))
 | .isB a b,δ=>(ev C a δ).bind fun x=>(isBool b x).bind fun k=>.ok (.bool k)
 | .ife c a b,δ=>(evT C c δ).bind fun k=>if k=true then ev C a δ else ev C b δ
 | .nil,_=>.bad
 | .cons _ _,_=>.bad
 | .tup es,δ=>(evA C es δ).bind fun xs=>.ok (.tuple xs)
 | .lst es,δ=>(evA C es δ).bind fun xs=>.ok (.list xs)
 | .idx a i,δ=>(ev C a δ).bind fun x=>(ev C i δ).bind fun y=>idxD x y
 | .call f es,δ=>(evA C es δ).bind fun xs=>C.fn f xs
 | .blt b es,δ=>(evA C es δ).bind fun xs=>bltD b xs
 | .rng _,_=>.bad
 | .isi a t,δ=>(ev C a δ).bind fun x=>isiD C.sub x t
 | .mcount o a,δ=>(ev C o δ).bind fun x=>if JPD x=true then (ev C a δ).bind fun y=>JHO x y else .bad
 | .mindex o a,δ=>(ev C o δ).bind fun x=>if JPD x=true then (ev C a δ).bind fun y=>JI0 x y else .bad
 | .mget o a b,δ=>(ev C o δ).bind fun x=>if JQm x=true then (ev C a δ).bind fun y=>(ev C b δ).bind fun z=>JNe x y z else .bad
 | .cmpr k elt iter cond,δ=>(evI C iter δ).bind fun xs=>if xs.length<=16777216 then (JAs (fun x=>(push k x δ).bind fun δ1=>(evT C cond δ1).bind fun t =>
  if t=true then (ev C elt δ1).bind fun y=>.ok (some y) else .ok none) xs).bind fun ys=>.ok (.list ys) else .bad
 | .dct ks es,δ=>(evA C es δ).bind fun xs=>.ok (.dict ((ks.map PyData.str).zip xs))
 | .rep k es,δ=>(evA C es δ).bind fun xs=>.ok (.list (List.replicate k xs).flatten)
 | .fn1 o a,δ=>(ev C a δ).bind fun x=>op1D o x
 | .isnB a b,δ=>(ev C a δ).bind fun x=>(isBool b x).bind fun k=>.ok (.bool (!k))
 | .xop k es,δ=>(evA C es δ).bind (xD k)
noncomputable def evT (C:Cn):E->Env->R Bool
 | .not a,δ=>(evT C a δ).bind fun b=>.ok (!b)
 | .and a b,δ=>(evT C a δ).bind fun x=>if x=true then evT C b δ else .ok false
 | .or a b,δ=>(evT C a δ).bind fun x=>if x=true then .ok true else evT C b δ
 | .var i,δ=>(look δ i).bind truth
 | .cbl b,_=>.ok b
 | .cmp op a b,δ=>((ev C a δ).bind fun x=>(ev C b δ).bind fun y=>cmpD op x y).bind truth
 | .isN a n,δ=>(ev C a δ).bind fun x=>.ok (if n=true then !isNone x else isNone x)
 | .isB a b,δ=>(ev C a δ).bind fun x=>isBool b x
 | .idx a i,δ=>((ev C a δ).bind fun x=>(ev C i δ).bind fun y=>idxD x y).bind truth
 | .call f es,δ=>((evA C es δ).bind fun xs=>C.fn f xs).bind truth
 | .blt b es,δ=>((evA C es δ).bind fun xs=>bltD b xs).bind truth
 | .isi a t,δ=>((ev C a δ).bind fun x=>isiD C.sub x t).bind truth
 | .isnB a b,δ=>(ev C a δ).bind fun x=>(isBool b x).bind fun k=>.ok (!k)
 | .xop k es,δ=>if k.isT=true then ((evA C es δ).bind (xD k)).bind truth else .bad
 | _,_=>.bad
noncomputable def evA (C:Cn):E->Env->R (List D)
 | .nil,_=>.ok []
 | .cons a r,δ=>(ev C a δ).bind fun x=>(evA C r δ).bind fun xs=>.ok (x::xs)
 | _,_=>.bad
noncomputable def evI (C:Cn):E->Env->R (List D)
 | .rng es,δ=>(evA C es δ).bind rngD
 | .var i,δ=>(look δ i).bind JAa
 | .glo i,_=>(C.glo i).bind JAa
 | .idx a i,δ=>((ev C a δ).bind fun x=>(ev C i δ).bind fun y=>idxD x y).bind JAa
 | .call f es,δ=>((evA C es δ).bind fun xs=>C.fn f xs).bind JAa
 | .tup es,δ=>evA C es δ
 | .lst es,δ=>evA C es δ
 | .fn1 o a,δ=>((ev C a δ).bind fun x=>op1D o x).bind JAa
 | .bin op a b,δ=>((ev C a δ).bind fun x=>(ev C b δ).bind fun y=>binD op x y).bind JAa
 | .xop k es,δ=>((evA C es δ).bind (xD k)).bind JAa
 | _,_=>.bad
end
noncomputable def E.uses:E->Nat->Bool
 | .var i,j=>i==j
 | .bin _ a b,j=>a.uses j || b.uses j
 | .neg a,j=>a.uses j
 | .not a,j=>a.uses j
 | .and a b,j=>a.uses j || b.uses j
 | .or a b,j=>a.uses j || b.uses j
 | .cmp _ a b,j=>a.uses j || b.uses j
 | .isN a _,j=>a.uses j
 | .isB a _,j=>a.uses j
 | .ife c a b,j=>c.uses j || a.uses j || b.uses j
 | .cons a r,j=>a.uses j || r.uses j
 | .tup es,j=>es.uses j
 | .lst es,j=>es.uses j
 | .idx a i,j=>a.uses j || i.uses j
 | .call _ es,j=>es.uses j
 | .blt _ es,j=>es.uses j
 | .rng es,j=>es.uses j
 | .isi a _,j=>a.uses j
 | .mcount o a,j=>o.uses j || a.uses j
 | .mindex o a,j=>o.uses j || a.uses j
 | .mget o a b,j=>o.uses j || a.uses j || b.uses j
 | .dct _ es,j=>es.uses j
 | .rep _ es,j=>es.uses j
 | .fn1 _ a,j=>a.uses j
 | .isnB a _,j=>a.uses j
 | .xop _ es,j=>es.uses j
 | .cmpr k elt iter cond,j=>iter.uses j || elt.uses (j+(if k=0 then 1 else k)) || cond.uses (j+(if k=0 then 1 else k))
 | .cint _,_=>false
 | .cbl _,_=>false
 | .cnon,_=>false
 | .cstr _,_=>false
 | .glo _,_=>false
 | .nil,_=>false
noncomputable def E.fresh:E->Bool
 | .lst _=>true
 | .cmpr ..=>true
 | .xop .dcp _=>true
 | .xop .dnw _=>true
 | _=>false
mutual
noncomputable def JAL:D->Bool
 | .none=>true
 | .bool _=>true
 | .int _=>true
 | .str _=>true
 | .list _=>false
 | .tuple xs=>JA3 xs
 | .dict [(.none,.int _)]=>true
 | .dict _=>false
noncomputable def JA3:List D->Bool
 | []=>true
 | x::xs=>JAL x&&JA3 xs
end
noncomputable def JAp (e:E):Nat->Env->Env
 | _,[]=>[]
 | i,s::r=>(if e.uses i=true then s.frz else s)::JAp e (i+1) r
noncomputable def JAP (e:E):Nat->Env->Bool
 | _,[]=>false
 | i,s::r=>(e.uses i&&s.isOwn) || JAP e (i+1) r
noncomputable def after (e:E) (d:D) (δ:Env):Env:=if (JAP e 0 δ&&!JAL d)=true then JAp e 0 δ else δ
inductive Fl where
 | nx (δ:Env)
 | rt (d:D)
 | bk (δ:Env)
 | ct (δ:Env)
 | ex (c:Nat)
 | bad
inductive S where
 | nil | cons (s r:S)
 | pass | brk | cnt
 | asg (i:Nat) (e:E)
 | unp (is:List Nat) (e:E)
 | ret (e:E) | retN
 | ife (c:E) (a b:S)
 | app (i:Nat) (e:E)
 | ext (i:Nat) (e:E)
 | ins (i:Nat) (es:E)
 | put (i:Nat) (k v:E)
 | frz (i:Nat)
 | drop (e:E)
 | for1 (i:Nat) (e:E) (b:S)
 | forT (is:List Nat) (e:E) (b:S)
 | whl (c:E) (b:S)
 | rais (c:Nat)
 | tryx (b:S) (c:Nat) (i:Nat) (h:S)
@[reducible] def stepR {α:Type} (r:R α) (f:α->Fl):Fl :=
 match r with
 | .ok a=>f a
 | .exc c=>.ex c
 | .bad=>.bad
noncomputable def JBl:List Nat->List D->Env->Env
 | i::is,d::ds,δ=>JBl is ds (δ.set i (.val d))
 | _,_,δ=>δ
noncomputable def JAz (n:Nat):D->R (List D)
 | .tuple xs=>if xs.length=n then .ok xs else .bad
 | .list xs=>if xs.length=n then .ok xs else .bad
 | _=>.bad
noncomputable def forL (put:D->Env->Option Env) (body:Env->Fl):List D->Env->Fl
 | [],δ=>.nx δ
 | d::ds,δ=>match put d δ with
  | none=>.bad
  | some δ1=>match body δ1 with
   | .nx δ'=>forL put body ds δ'
   | .ct δ'=>forL put body ds δ'
   | .bk δ'=>.nx δ'
   | r=>r
noncomputable def put1 (i:Nat) (d:D) (δ:Env):Option Env:=some (δ.set i (.val d))
noncomputable def putT (is:List Nat) (d:D) (δ:Env):Option Env:=match d with
 | .tuple xs=>if xs.length=is.length then some (JBl is xs δ) else none
 | _=>none
noncomputable def JAo (c:Env->R Bool) (body:Env->Fl):Nat->Env->Fl
 | 0,_=>.bad
 | n+1,δ=>match c δ with
  | .ok true=>(match body δ with
   | .nx δ'=>JAo c body n δ'
   | .ct δ'=>JAo c body n δ'
   | .bk δ'=>.nx δ'
   | r=>r)
  | .ok false=>.nx δ
  | .exc k=>.ex k
  | .bad=>.bad
open Classical in
noncomputable def JBc (c:Env->R Bool) (body:Env->Fl) (δ:Env):Fl :=
 if h:∃n,JAo c body n δ≠.bad then JAo c body h.choose δ else .bad
noncomputable def JBh (i:Nat) (ds:List D) (e:E) (x:D) (δ:Env):Fl :=
 if ds.length<16777216 then (if (JAP e 0 δ&&!JAL x)=true then .bad else .nx (δ.set i (.own (.list (ds++[x]))))) else .bad
noncomputable def JFi (i:Nat) (ds:List D) (e:E) (x:D) (δ:Env):Fl :=
 match x with
 | .list zs=>if ds.length+zs.length<=16777216 then (if JAP e 0 δ=true then .bad else .nx (δ.set i (.own (.list (ds++zs))))) else .bad
 | _=>.bad
noncomputable def JN2 (i:Nat) (ds:List D) (es:E) (xs:List D) (δ:Env):Fl :=
 match xs with
 | [.int k,y]=>if 0<=k/\k<=ds.length/\ds.length<16777216 then (if (JAP es 0 δ&&!JAL y)=true then .bad else .nx (δ.set i (.own (.list (ds.take k.toNat++y::ds.drop k.toNat))))) else .bad
 | _=>.bad
noncomputable def JFj (i:Nat) (kvs:List (D×D)) (kd:D) (e:E) (x:D) (δ:Env):Fl :=
 match kd with
 | .str k=>if kvs.length<1000000 then (if (JAP e 0 δ&&!JAL x)=true then .bad else .nx (δ.set i (.own (.dict (putD kvs k x))))) else .bad
 | _=>.bad
noncomputable def JAg:Nat->Env->Env
 | _,[]=>[]
 | 0,.own d::r=>.val d::r
 | 0,.val d::r=>.val d::r
 | 0,.no::r=>.no::r
 | i+1,s::r=>s::JAg i r
noncomputable def exec (C:Cn):S->Env->Fl
 | .nil,δ=>.nx δ
 | .cons s r,δ=>match exec C s δ with
  | .nx δ'=>exec C r δ'
  | f=>f
 | .pass,δ=>.nx δ
 | .brk,δ=>.bk δ
 | .cnt,δ=>.ct δ
 | .asg i e,δ=>stepR (ev C e δ) fun x=>if e.fresh=true then .nx ((after e x δ).set i (.own x)) else .nx ((after e x δ).set i (.val x))
 | .unp is e,δ=>stepR (ev C e δ) fun d=>stepR (JAz is.length d) fun xs=>.nx (JBl is xs (after e d δ))
 | .ret e,δ=>stepR (ev C e δ) fun x=>.rt x
 | .retN,_=>.rt .none
 | .ife c a b,δ=>stepR (evT C c δ) fun k=>if k=true then exec C a δ else exec C b δ
 | .app i e,δ=>match δ[i]? with
  | some (.own (.list ds))=>stepR (ev C e δ) fun x=>JBh i ds e x δ
  | _=>.bad
 | .ext i e,δ=>match δ[i]? with
  | some (.own (.list ds))=>stepR (ev C e δ) fun x=>JFi i ds e x δ
  | _=>.bad
 | .ins i es,δ=>match δ[i]? with
  | some (.own (.list ds))=>stepR (evA C es δ) fun xs=>JN2 i ds es xs δ
  | _=>.bad
 | .put i k e,δ=>match δ[i]? with
  | some (.own (.dict kvs))=>stepR (ev C e δ) fun x=>(match ev C k δ with
   | .ok y=>JFj i kvs y e x δ
   | _=>.bad)
  | _=>.bad
 | .frz i,δ=>.nx (JAg i δ)
 | .drop e,δ=>stepR (ev C e δ) fun x=>.nx (after e x δ)
 | .for1 i e b,δ=>stepR (evI C e δ) fun xs=>forL (put1 i) (exec C b) xs (JAp e 0 δ)
 | .forT is e b,δ=>stepR (evI C e δ) fun xs=>forL (putT is) (exec C b) xs (JAp e 0 δ)
 | .whl c b,δ=>JBc (evT C c) (exec C b) δ
 | .rais c,_=>.ex c
 | .tryx b c i h,δ=>match exec C b δ with
  | .ex k=>if C.sub k c=true then (match exec C h ((δ.map fun _=>Sl.no).set i (.val (excD k))) with
    | .nx δ2=>.nx (δ2.set i .no)
    | .rt d=>.rt d
    | _=>.bad) else .bad
  | f=>f
structure Fd where
 par:Nat
 slots:Nat
 body:S
noncomputable def JFO (x:Bool) (C:Cn) (f:Fd) (xs:List D):R D :=
 if xs.length=f.par then
  (match exec C f.body (xs.map Sl.val++List.replicate (f.slots - f.par) Sl.no) with
   | .nx _=>.ok .none
   | .rt d=>.ok d
   | .ex c=>if x=true then .exc c else .bad
   | _=>.bad)
 else .bad
noncomputable def run (x:Bool) (tab:Nat->Option Fd) (glo:Nat->R D) (sub:Nat->Nat->Bool):Nat->Nat->List D->R D
 | 0,_,_=>.bad
 | n+1,f,xs=>match tab f with
  | none=>.bad
  | some fd=>JFO x ⟨run x tab glo sub n,glo,sub⟩ fd xs
end VI
end
section
set_option backward.eqns.nonrecursive false
namespace VI
open PySem
inductive GK where
 | fn (i:Nat) | con (i:Nat) | blt (b:Blt) | ty (t:Ty) | rng | isi | cls (c:Nat) | opt | nam
 deriving DecidableEq
noncomputable def JM1:Blt->Str
 | .len=>"len"
 | .abs=>"abs"
 | .min=>"min"
 | .all=>"all"
noncomputable def JA9:Ty->Option Str
 | .int=>some "int"
 | .bool=>some "bool"
 | .str=>some "str"
 | .list=>some "list"
 | .tuple=>some "tuple"
 | .dict=>some "dict"
 | .valueError=>some "ValueError"
 | .own _=>none
noncomputable def idxOf (x:Str):List Str->Option Nat
 | []=>none
 | y::r=>if (x==y)=true then some 0 else (idxOf x r).map (· + 1)
noncomputable def vis:Option NameKind->Bool
 | some .local=>true
 | some .cell=>true
 | some .free=>true
 | _=>false
noncomputable def JAR (x:Str):Bool:=x=="__debug__" || x=="__classdict__" || x=="__name__"
noncomputable def glob (G:List (Str×GK)) (names:List (Str×NameKind)) (x:Str):Option GK :=
 if JAR x=true then none else if names.lookup x=some .globalImplicit then G.lookup x else none
noncomputable def JAJ (f:Expr->Option E):List Expr->Option E
 | []=>some .nil
 | e::r=>(f e).bind fun a=>(JAJ f r).bind fun b=>some (.cons a b)
noncomputable def JA0 (mk:E->E->E) (f:Expr->Option E):List Expr->Option E
 | []=>none
 | [e]=>f e
 | e::r=>(f e).bind fun a=>(JA0 mk f r).bind fun b=>some (mk a b)
noncomputable def okBin:Operator->Bool
 | .Add | .Sub | .Mult | .FloorDiv | .Mod=>true
 | _=>false
noncomputable def isSlice:Expr->Bool
 | .Slice ..=>true
 | _=>false
noncomputable def JBe:Expr->Bool
 | .Call _ [] [] _=>true
 | _=>false
noncomputable def JAr (outer:List (Str×NameKind)) (names:List (Str×NameKind)):List (Str×NameKind) :=
 names.map fun (n,k)=>if (k==.free&&true&&outer.lookup n==some .cell)=true then (n,.cell) else (n,k)
noncomputable def dots (i:Nat):Str:=⟨Array.replicate (i+2) 46⟩
noncomputable def mask (xs:List Str):Nat->List Str->List Str
 | _,[]=>[]
 | i,y::r=>(if xs.contains y=true then dots i else y)::mask xs (i+1) r
noncomputable def namesOf:List Expr->Option (List Str)
 | []=>some []
 | .Name x _::r=>(namesOf r).map (x::·)
 | _=>none
noncomputable def JBy:Expr->Option (Nat×List Str)
 | .Name x _=>some (0,[x])
 | .Tuple ts _ _=>(namesOf ts).bind fun xs=>if xs=[] then none else some (xs.length,xs)
 | _=>none
noncomputable def itK (k:Nat) (q:Option (XO×List Expr)) (f:List Expr->Option E) (d:Option E):Option E :=
 if k=0 then d else match q with
  | some q=>(f q.2).map (E.xop q.1)
  | none=>d
noncomputable def JBx (outer names:List (Str×NameKind)) (xs N:List Str):Bool :=
 names.all (fun (n,k)=>k != .cell&&(k != .local || names.lookup n==some .local)&&(k != .free || (outer.lookup n==some .cell || outer.lookup n==some .free)))&&xs.all (fun x=>names.lookup x==some .local)
  && N.all (fun y=>xs.contains y || names.lookup y != some .local)&&(List.range N.length).all (fun i=>!vis ((JAr outer names).lookup (dots i)))&&decide (xs++mask xs 0 N).Nodup
noncomputable def strKeys:List (Option Expr)->Option (List Str)
 | []=>some []
 | some (.Constant (.str k) _ _)::r=>(strKeys r).map (k::·)
 | _=>none
noncomputable def JOL (a:Expr) (op:Operator) (b:Expr):Option (List Expr×Nat):=match a,op,b with
 | .List es _,.Mult,.Constant (.int k) _ _=>if 0<=k/\k<=1000/\es.length<=1000 then some (es,k.toNat) else none
 | _,_,_=>none
noncomputable def JCM:Option Expr->Option (Option Int)
 | none=>some none
 | some (.Constant (.int k) _ _)=>some (some k)
 | some (.UnaryOp .USub (.Constant (.int k) _ _) _)=>some (some (-k))
 | _=>none
noncomputable def sliceOf:Expr->Option (Option Int×Option Int)
 | .Slice lo hi none _=>(JCM lo).bind fun l=>(JCM hi).bind fun h=>some (l,h)
 | _=>none
noncomputable def JOR:Expr->Bool
 | .Slice none none (some (.UnaryOp .USub (.Constant (.int 1) _ _) _)) _=>true
 | _=>false
noncomputable def JNg (a:Expr) (op:Operator) (b:Expr):Option (Int×Int):=match a,op,b with
 | .Constant (.int x) _ _,.Pow,.Constant (.int y) _ _=>if 0<=x/\x<=100/\0<=y/\y<=20 then some (x,y) else none
 | _,_,_=>none
noncomputable def o1Of:Ty->Option O1
 | .tuple=>some .toTup
 | .list=>some .toLst
 | _=>none
noncomputable def XO.flag:XO->Str
 | .rev=>".rev"
 | .enm=>".enm"
 | .srt=>".srt"
 | .zip=>".zip"
 | .sst=>".sst"
 | _=>".-"
noncomputable def JET (G:List (Str×GK)) (names:List (Str×NameKind)) (f:Str) (a:Expr):Option (XO×List Expr) :=
 if f="sorted"/\glob G names f=some .nam then (match a with
  | .Call (.Name r _) [b] [] _=>if r="set"/\glob G names r=some .nam then some (.sst,[b]) else some (.srt,[a])
  | _=>some (.srt,[a]))
 else none
noncomputable def JC1 (G:List (Str×GK)) (names:List (Str×NameKind)) (it:Bool) (f:Str) (a:Expr):Option (XO×List Expr) :=
 if it=true then (if f="reversed"/\glob G names f=some .nam then some (.rev,[a]) else JET G names f a)
 else if f="list"/\glob G names f=some (.ty .list) then (match a with
  | .Call (.Name r _) [b] [] _=>if r="reversed"/\glob G names r=some .nam then some (.rev,[b]) else none
  | _=>none)
 else JET G names f a
noncomputable def xRaw (G:List (Str×GK)) (names:List (Str×NameKind)) (it:Bool):Expr->Option (XO×List Expr)
 | .Call (.Name f _) [a] [] _=>JC1 G names it f a
 | _=>none
noncomputable def dCmp (op:CmpOp):Option XO:=match op with
 | .In=>some .din
 | .NotIn=>some .dni
 | .Eq=>some .deq
 | .NotEq=>some .dne
 | _=>none
noncomputable def JIZ (G:List (Str×GK)) (names:List (Str×NameKind)) (f:Str) (a:Expr):Option (XO×List Expr) :=
 if f="dict"/\glob G names f=some (.ty .dict) then some (.dcp,[a]) else if f="list"/\glob G names f=some (.ty .list) then some (.dls,[a]) else if f="sorted"/\glob G names f=some .nam then some (.sts,[a]) else none
noncomputable def dVal (o:Expr) (m:Str) (ap cp:Pos):Option (XO×List Expr):=if m="values"/\JBe o=false/\(ap.endLine==cp.line)=true then some (.dvs,[o]) else none
noncomputable def dRaw (G:List (Str×GK)) (names:List (Str×NameKind)) (it:Bool) (e:Expr):Option (XO×List Expr):=match it,e with
 | true,.Name x p=>if JAR x=false/\vis (names.lookup x)=true then some (.dit,[.Name x p]) else none
 | true,.Call (.Attribute o m ap) [] [] cp=>dVal o m ap cp
 | false,.Dict [] [] _=>some (.dnw,[])
 | false,.Subscript a (.Slice none (some b) none _) _=>if (JCM (some b)).isNone=true then some (.dtk,[a,b]) else none
 | false,.Compare a [op] [b] _=>if behindInMarks op b=true then none else (dCmp op).map fun k=>(k,[a,b])
 | false,.Call (.Name f _) [a] [] _=>JIZ G names f a
 | _,_=>none
noncomputable def dOn (G:List (Str×GK)) (names:List (Str×NameKind)):Bool:=decide (G.lookup (".dict":Str)=some GK.opt)&&names.any fun p=>decide (G.lookup p.1=some GK.opt)
noncomputable def dOf (G:List (Str×GK)) (names:List (Str×NameKind)) (it:Bool) (e:Expr):Option (XO×List Expr):=(dRaw G names it e).bind fun q=>if dOn G names=true then some q else none
noncomputable def xOf (G:List (Str×GK)) (names:List (Str×NameKind)) (it:Bool) (e:Expr):Option (XO×List Expr):=match dOf G names it e with
 | some q=>some q
 | none=>(xRaw G names it e).bind fun q=>if G.lookup q.1.flag=some GK.opt then some q else none
noncomputable def xTgt (G:List (Str×GK)) (names:List (Str×NameKind)):Expr->Option (XO×List Expr)
 | .Call (.Name f _) [a] [] _=>if f="enumerate"/\glob G names f=some .nam then some (.enm,[a]) else none
 | .Call (.Name f _) [a,b] [] _=>if f="zip"/\glob G names f=some .nam then some (.zip,[a,b]) else none
 | _=>none
noncomputable def xT (G:List (Str×GK)) (names:List (Str×NameKind)) (e:Expr):Option (XO×List Expr) :=
 (xTgt G names e).bind fun q=>if G.lookup q.1.flag=some GK.opt then some q else none
noncomputable def JAO (G:List (Str×GK)) (f:Bool->List (Str×NameKind)->List Str->Expr->Option E) (it:Bool) (names:List (Str×NameKind)) (N:List Str) (e:Expr):Option E:=match e with
 | .Name x _=>if JAR x=true then none else if vis (names.lookup x)=true then (idxOf x N).map E.var
   else (match glob G names x with
   | some (.con i)=>some (.glo i)
   | _=>none)
 | .Constant c _ _=>(match it,c with
  | false,.none=>some .cnon
  | false,.bool b=>some (.cbl b)
  | false,.int i=>some (.cint i)
  | false,.str x=>some (.cstr x)
  | _,_=>none)
 | .Tuple es _ _=>if es.length<=1000 then (JAJ (f false names N) es).map E.tup else none
 | .List es _=>if es.length<=1000 then (JAJ (f false names N) es).map E.lst else none
 | .Subscript a i _=>if isSlice i=true then (if JOR i=true then (if G.lookup (".rvs":Str)=some GK.opt then (f false names N a).map (E.fn1 .rev) else none) else (sliceOf i).bind fun q=>(f false names N a).map (E.fn1 (.slice q.1 q.2))) else (f false names N a).bind fun x=>(f false names N i).bind fun y=>some (.idx x y)
 | .Call (.Name g _) args [] _=>(match glob G names g with
   | some (.fn i)=>(match args with
       | _::_=>(JAJ (f false names N) args).map (E.call i)
       | []=>none)
   | some .rng=>if it=true/\g="range" then (match args with
       | [_]=>(JAJ (f false names N) args).map E.rng
       | [_,_]=>(JAJ (f false names N) args).map E.rng
       | _=>none) else none
   | some (.blt b)=>if it=false/\g=JM1 b then (match args with
       | _::_=>(JAJ (f false names N) args).map (E.blt b)
       | []=>none) else none
   | some .isi=>if it=false/\g="isinstance" then (match args with
       | [a,.Name t _]=>(match glob G names t with
        | some (.ty y)=>if JA9 y=some t then (f false names N a).map fun x=>.isi x y else none
        | some (.cls c)=>(f false names N a).map fun x=>.isi x (.own c)
        | _=>none)
       | _=>none) else none
   | some (.ty y)=>if it=false/\JA9 y=some g then (o1Of y).bind fun o=>(match args with
       | [a]=>(f false names N a).map (E.fn1 o)
       | _=>none) else none
   | _=>none)
 | .Dict ks vs _=>(match strKeys ks with
  | some xs=>if it=false/\G.lookup (".dct":Str)=some GK.opt/\1<=xs.length/\xs.length<=15/\xs.length=vs.length/\decide xs.Nodup=true then (JAJ (f false names N) vs).map (E.dct xs) else none
  | none=>none)
 | .BinOp a op b _=>match (if it=false/\G.lookup (".rep":Str)=some GK.opt then JOL a op b else none) with
  | some (es,k)=>(JAJ (f false names N) es).map (E.rep k)
  | none=>match JNg a op b with
   | some (x,y)=>if it=false then some (.cint (x ^ y.toNat)) else none
   | none=>if okBin op=true then (f false names N a).bind fun x=>(f false names N b).bind fun y=>some (.bin op x y) else none
 | .UnaryOp op a _=>(match it,op with
  | false,.USub=>(f false names N a).map .neg
  | false,.Not=>(f false names N a).map .not
  | _,_=>none)
 | .BoolOp op es _=>(match it,op with
  | false,.And=>JA0 .and (f false names N) es
  | false,.Or=>JA0 .or (f false names N) es
  | _,_=>none)
 | .Compare a [op] [b] _=>if it=true then none else (match op with
  | .Is=>(match b with
   | .Constant .none _ _=>(f false names N a).map fun x=>.isN x false
   | .Constant (.bool k) _ _=>(f false names N a).map fun x=>.isB x k
   | _=>none)
  | .IsNot=>(match b with
   | .Constant .none _ _=>(f false names N a).map fun x=>.isN x true
   | .Constant (.bool k) _ _=>(f false names N a).map fun x=>.isnB x k
   | _=>none)
  | _=>if behindInMarks op b=true then none else (f false names N a).bind fun x=>(f false names N b).bind fun y=>some (.cmp op x y))
 | .IfExp c a b _=>if it=true then none else (f false names N c).bind fun z=>(f false names N a).bind fun x=>(f false names N b).bind fun y=>some (.ife z x y)
 | .Call (.Attribute o m ap) [a] [] cp=>if (it=false/\JBe o=false/\(ap.endLine==cp.line)=true)/\G.lookup (".met":Str)=some GK.opt then
   (if m="count" then (f false names N o).bind fun x=>(f false names N a).bind fun y=>some (.mcount x y)
    else if m="index" then (f false names N o).bind fun x=>(f false names N a).bind fun y=>some (.mindex x y) else none) else none
 | .Call (.Attribute o m ap) [a,b] [] cp=>if (it=false/\JBe o=false/\(ap.endLine==cp.line)=true/\m="get")/\G.lookup (".met":Str)=some GK.opt then
   (f false names N o).bind fun x=>(f false names N a).bind fun y=>(f false names N b).bind fun z=>some (.mget x y z) else none
 | .ListComp elt [⟨tg,iter,ifs,as⟩] sc _=>if it=true\/as≠0\/sc.kind≠.function then none else (match JBy tg with
  | none=>none
  | some (k,xs)=>if JBx names sc.names xs N=true then
     (itK k (xT G names iter) (JAJ (f false names N)) (f true names N iter)).bind fun i =>
     (f false (JAr names sc.names) (xs++mask xs 0 N) elt).bind fun x =>
     (match ifs with
      | []=>some (.cmpr k x i (.cbl true))
      | [c]=>(f false (JAr names sc.names) (xs++mask xs 0 N) c).bind fun y=>some (.cmpr k x i y)
      | _=>none)
   else none)
 | _=>none
noncomputable def JAe (G:List (Str×GK)) (f:Bool->List (Str×NameKind)->List Str->Expr->Option E) (it:Bool) (names:List (Str×NameKind)) (N:List Str) (e:Expr):Option E:=match xOf G names it e with
 | some q=>(JAJ (f false names N) q.2).map (E.xop q.1)
 | none=>JAO G f it names N e
noncomputable def JAN (G:List (Str×GK)):Nat->Bool->List (Str×NameKind)->List Str->Expr->Option E
 | 0,_,_,_,_=>none
 | n+1,it,names,N,e=>JAe G (JAN G n) it names N e
theorem JAE {G:List (Str×GK)} {n:Nat} {it:Bool} {names:List (Str×NameKind)} {N:List Str} {e:Expr} (h:xOf G names it e=none):JAN G (n+1) it names N e=JAO G (JAN G n) it names N e:=by
 unfold JAN JAe;rw [h]
theorem JGb {G:List (Str×GK)} {n:Nat} {it:Bool} {names:List (Str×NameKind)} {N:List Str} {e:Expr} {q:XO×List Expr} (h:xOf G names it e=some q):JAN G (n+1) it names N e=(JAJ (JAN G n false names N) q.2).map (E.xop q.1):=by
 unfold JAN JAe;rw [h]
theorem JAC {α:Type} {x:α} {P:Prop} (h:(none:Option α)=some x):P:=by cases h
noncomputable def JEC:Option NameKind->Bool
 | some .local=>true
 | some .cell=>true
 | _=>false
noncomputable def slot (names:List (Str×NameKind)) (N:List Str) (x:Str):Option Nat:=if JEC (names.lookup x)=true then idxOf x N else none
noncomputable def slots (names:List (Str×NameKind)) (N:List Str):List Expr->Option (List Nat)
 | []=>some []
 | .Name x _::r=>(slot names N x).bind fun i=>(slots names N r).bind fun is=>some (i::is)
 | _=>none
noncomputable def JAk (f:Stmt->Option S):List Stmt->Option S
 | []=>some .nil
 | s::r=>(f s).bind fun a=>(JAk f r).bind fun b=>some (.cons a b)
noncomputable def JCr:Expr->Bool
 | .ListComp ..=>true
 | _=>false
noncomputable def isTup:Expr->Bool
 | .Tuple ..=>true
 | _=>false
noncomputable def JDr:Expr->Bool
 | .List ..=>true
 | _=>false
noncomputable def JPM (names:List (Str×NameKind)) (t1 t2 e:Expr):Bool:=match t1,t2,e with
 | .Name x px,.Name y py,.Tuple [a,b] _ _=>names.lookup x==some .local&&names.lookup y==some .local&&px.line==py.line&&x != y&&!([a,b].all (foldedForSure 8))&&!([a,b].all (constantsAlone 8))
 | _,_,_=>false
noncomputable def JER (names:List (Str×NameKind)) (ts:List Expr) (e:Expr):Bool:=match ts with
 | [a,b]=>JPM names a b e
 | _=>false
noncomputable def JM6:Expr->Option (List Expr)
 | .Tuple es _ _=>some es
 | _=>none
noncomputable def JQ1:Expr->Bool
 | .List [] _=>true
 | _=>false
noncomputable def three (names:List (Str×NameKind)) (t1 t2 t3:Expr) (es:List Expr):Bool:=match t1,t2,t3 with
 | .Name x px,.Name y py,.Name z pz=>es.length==3&&names.lookup x==some .local&&names.lookup y==some .local&&names.lookup z==some .local&&px.line==py.line&&px.line==pz.line&&x != y&&x != z&&y != z&&!(es.all (foldedForSure 8))&&!(es.all (constantsAlone 8))
 | _,_,_=>false
noncomputable def JQB (names:List (Str×NameKind)):Expr->Bool
 | .Name x _=>names.lookup x==some .cell
 | _=>false
noncomputable def dispN (names:List (Str×NameKind)) (ts es:List Expr):Bool:=match ts with
 | [a,b,c]=>three names a b c es
 | _::_::_::_::_=>ts.length==es.length&&decide (es.length<=1000)
 | _=>false
noncomputable def JLq (names:List (Str×NameKind)) (ts es:List Expr):Bool:=(ts.any (JQB names)&&decide (es.length<=1000)) || dispN names ts es
noncomputable def JNE (f:Expr->Option E):List Expr->List Nat->Option (E×Option Nat)
 | [],_=>some (.nil,none)
 | _::_,[]=>none
 | e::r,i::is=>if JQ1 e=true then (JAJ f r).bind fun b=>some (.cons .cnon b,some i) else (f e).bind fun a=>(JNE f r is).bind fun q=>some (.cons a q.1,q.2)
noncomputable def unpO (is:List Nat) (x:E):Option Nat->S
 | none=>.unp is (.tup x)
 | some i=>.cons (.unp is (.tup x)) (.asg i (.lst .nil))
noncomputable def JF1 (e c:Option Expr):Option Str:=match e,c with
 | some (.Call (.Name x _) [.Constant (.str _) _ _] [] _),none=>some x
 | _,_=>none
noncomputable def handOf:List ExceptHandler->Option (Str×Str×Str)
 | [.ExceptHandler (some (.Name cn _)) (some en) [.Assign [.Name kn _] (.Name en2 _) _] _]=>if en2=en then some (cn,en,kn) else none
 | _=>none
noncomputable def JHm:Expr->Option (Str×Str×Expr)
 | .Call (.Attribute (.Name x _) m ap) [a] [] cp=>if (ap.endLine==cp.line)=true then some (x,m,a) else none
 | _=>none
noncomputable def JN6:Expr->Option (Str×Expr×Expr)
 | .Call (.Attribute (.Name x _) m ap) [a,b] [] cp=>if (ap.endLine==cp.line)=true/\m="insert" then some (x,a,b) else none
 | _=>none
noncomputable def docOf:Expr->Bool
 | .Constant (.str _) _ _=>true
 | _=>false
noncomputable def JHG:List Expr->Option (Sum Str (List Expr))
 | [.Name x _]=>some (.inl x)
 | [.Tuple ts _ _]=>some (.inr ts)
 | _=>none
noncomputable def JN9:List Expr->Option (Str×Expr)
 | [.Subscript (.Name x _) k _]=>if isSlice k=true then none else some (x,k)
 | _=>none
noncomputable def preF (G:List (Str×GK)):List Str->Nat->E->S->S
 | [],_,_,s=>s
 | x::r,i,y,s=>if (G.lookup x=some GK.opt\/G.lookup x=some GK.nam)/\y.uses i=true then .cons (.frz i) (preF G r (i+1) y s) else preF G r (i+1) y s
noncomputable def pre (G:List (Str×GK)) (names:List (Str×NameKind)) (N:List Str) (y:E) (s:S):S:=if dOn G names=true then preF G N 0 y s else s
noncomputable def JPO:XO->Bool
 | .dcp=>true
 | .dnw=>true
 | _=>false
noncomputable def dFr (G:List (Str×GK)) (names:List (Str×NameKind)) (e:Expr):Option (XO×List Expr):=(dOf G names false e).bind fun q=>if JPO q.1=true then some q else none
noncomputable def JB7 (G:List (Str×GK)) (fE:Bool->List (Str×NameKind)->List Str->Expr->Option E) (fS:Bool->List (Str×NameKind)->List Str->Stmt->Option S) (zz:Bool) (names:List (Str×NameKind)) (N:List Str) (st:Stmt):Option S:=match st with
 | .Pass _=>some .pass
 | .Break _=>some .brk
 | .Continue _=>some .cnt
 | .Return none _=>some .retN
 | .Return (some e) _=>(fE false names N e).map fun y=>pre G names N y (.ret y)
 | .Assign ts e _=>(match JHG ts with
  | some (.inl x)=>(slot names N x).bind fun i=>(match dFr G names e with
   | some q=>(JAJ (fE false names N) q.2).map fun y=>.asg i (.xop q.1 y)
   | none=>(fE false names N e).bind fun y=>if y.fresh=true/\JDr e=false/\JCr e=false then none else some (pre G names N y (.asg i y)))
  | some (.inr ts)=>(slots names N ts).bind fun is=>if decide is.Nodup=true/\(isTup e=false\/JER names ts e=true) then (fE false names N e).map (S.unp is)
    else (JM6 e).bind fun es=>if (decide is.Nodup=true/\JLq names ts es=true)/\G.lookup (".dsp":Str)=some GK.opt then (JNE (fE false names N) es is).map (fun q=>unpO is q.1 q.2) else none
  | none=>(JN9 ts).bind fun q=>if dOn G names=true/\JAR q.1=false/\JCr e=false then (slot names N q.1).bind fun i=>(fE false names N e).bind fun y=>(fE false names N q.2).bind fun z=>some (.put i z y) else none)
 | .If c a b _=>(fE false names N c).bind fun z=>(JAk (fS zz names N) a).bind fun x=>(JAk (fS zz names N) b).bind fun y=>some (pre G names N z (.ife z x y))
 | .Expr e _=>(match JHm e with
  | some (x,m,a)=>if JAR x=false then
    (if m="append" then (slot names N x).bind fun i=>(fE false names N a).map (S.app i)
     else if (m="extend"/\JCr a=false)/\G.lookup (".ext":Str)=some GK.opt then (slot names N x).bind fun i=>(fE false names N a).map (S.ext i) else none) else none
  | none=>(match JN6 e with
   | some (x,a,b)=>if JAR x=false/\G.lookup (".ins":Str)=some GK.opt then (slot names N x).bind fun i=>(JAJ (fE false names N) [a,b]).map (S.ins i) else none
   | none=>if docOf e=true then some .pass else if JCr e=true then none else (fE false names N e).map S.drop))
 | .For tg iter body [] _=>(match JHG [tg] with
  | some (.inl x)=>(slot names N x).bind fun i=>(fE true names N iter).bind fun e=>(JAk (fS zz names N) body).bind fun b=>some (.for1 i e b)
  | some (.inr ts)=>(slots names N ts).bind fun is=>(match xT G names iter with
   | some q=>(JAJ (fE false names N) q.2).map (E.xop q.1)
   | none=>fE true names N iter).bind fun e=>(JAk (fS zz names N) body).bind fun b=>some (.forT is e b)
  | none=>none)
 | .While c body [] _=>(fE false names N c).bind fun z=>(JAk (fS zz names N) body).bind fun b=>some (.whl z b)
 | .Raise e c _=>(JF1 e c).bind fun x=>(match glob G names x with
   | some (.cls c)=>if zz=true then some (.rais c) else none
   | _=>none)
 | .Try body hs [] [] _=>(handOf hs).bind fun q =>
   if zz=true/\G.lookup (".try":Str)=some GK.opt/\JAR q.2.1=false/\names.lookup q.2.1=some .local then (match glob G names q.1 with
   | some (.cls c)=>(JAk (fS false names N) body).bind fun b=>(idxOf q.2.1 N).bind fun i=>(slot names N q.2.2).bind fun j =>
      if i=j then none else some (.tryx b c i (.cons (.asg j (.var i)) .nil))
   | _=>none) else none
 | _=>none
noncomputable def JCg (G:List (Str×GK)):Nat->Bool->List (Str×NameKind)->List Str->Stmt->Option S
 | 0,_,_,_,_=>none
 | n+1,zz,names,N,st=>JB7 G (JAN G n) (JCg G n) zz names N st
end VI
end
section
namespace VI
open PySem
def JBA (cells:List (Str×Addr)):List (Str×NameKind)->List (Str×Addr)->List (Str×Addr)
 | [],cs=>cs
 |(n,k)::r,cs=>if (k==NameKind.free)=true then JBA cells r ((n,(cells.lookup n).getD 0)::cs) else JBA cells r cs
theorem JCA {env:PySem.Env}:∀(names:List (Str×NameKind)) (cs:List (Str×Addr)),(∀n,(n,NameKind.free)∈names->(env.cells.lookup n).isSome=true) ->
  (forIn names cs (fun (x:Str×NameKind) (r:List (Str×Addr))=>if (x.2==NameKind.free)=true then (do let c<-cellOf env x.1;pure (ForInStep.yield ((x.1,c)::r))) else pure (ForInStep.yield r)):Sem (List (Str×Addr)))=pure (JBA env.cells names cs)
 | [],cs,_=>rfl
 |(n,k)::r,cs,h=>by
  rw [List.forIn_cons]
  have ih:=fun cs=>JCA (env:=env) r cs fun m hm=>h m (q_s _ hm)
  by_cases hk:(k==NameKind.free)=true
  · have e:k=.free:=eq_of_beq hk
    subst e
    have q:=h n List.mem_cons_self
    obtain ⟨c,hc⟩:=Option.isSome_iff_exists.mp q
    simp only [hk,if_true]
    have e2:cellOf env n=pure c:=by unfold cellOf;rw [hc]
    rw [e2,pure_bind,pure_bind]
    show (forIn r ((n,c)::cs) _:Sem _)=_
    rw [ih]
    show pure (JBA env.cells r ((n,c)::cs))=pure (JBA env.cells ((n,NameKind.free)::r) cs)
    rw [show JBA env.cells ((n,NameKind.free)::r) cs=JBA env.cells r ((n,(env.cells.lookup n).getD 0)::cs) from if_pos rfl,hc]
    rfl
  · rw [if_neg hk,pure_bind]
    show (forIn r cs _:Sem _)=_
    rw [ih]
    show _=pure (JBA env.cells ((n,k)::r) cs)
    rw [show JBA env.cells ((n,k)::r) cs=JBA env.cells r cs from if_neg hk]
theorem JD7 {env:PySem.Env} {sc:Scope} (h:∀n,(n,NameKind.free)∈sc.names->(env.cells.lookup n).isSome=true):closureFor sc env=pure (JBA env.cells sc.names []):=by
 have:=JCA (env:=env) sc.names [] h
 unfold closureFor
 first
  | exact this
  |(simp only [] at this ⊢;rw [show (forIn sc.names [] _:Sem (List (Str×Addr)))=_ from this];rfl)
  |(rw [this];rfl)
theorem JBf {cells:List (Str×Addr)} {x:Str}:∀(names:List (Str×NameKind)) (cs:List (Str×Addr)),(JBA cells names cs).lookup x =
  if (x,NameKind.free)∈names then some ((cells.lookup x).getD 0) else cs.lookup x
 | [],cs=>by simp [JBA]
 |(n,k)::r,cs=>by
  unfold JBA
  by_cases hk:(k==NameKind.free)=true
  · have e:k=.free:=eq_of_beq hk
    subst e
    rw [if_pos hk,JBf r]
    by_cases hr:(x,NameKind.free)∈r
    ·rw [if_pos hr,if_pos (q_s _ hr)]
    ·rw [if_neg hr]
     by_cases hx:x=n
     ·subst hx
      rw [if_pos List.mem_cons_self,List.lookup_cons,beq_self_eq_true]
     ·have hb:(x==n)=false:=beq_eq_false_iff_ne.mpr hx
      rw [List.lookup_cons,hb,if_neg]
      intro hm
      rcases q_n.mp hm with e | e
      ·exact hx (Prod.mk.inj e).1
      ·exact hr e
  · rw [if_neg hk,JBf r]
    have:((x,NameKind.free)∈(n,k)::r)↔(x,NameKind.free)∈r:=by
     constructor
     ·intro hm
      rcases q_n.mp hm with e | e
      ·exfalso;apply hk;rw [<-(Prod.mk.inj e).2];rfl
      ·exact e
     ·exact q_s _
    simp only [this]
end VI
end
section
namespace VI
open PySem PySem.Spec PyProof.Rows L2
section
variable {X:Cx}
noncomputable def rCat2 (K:PySem.W.Frag):R2:=fun x y H Q=>∃a b xs ys,x=.ref a/\y=.ref b/\SqT K H a xs/\SqT K H b ys/\xs.length+ys.length<=sizeLine /\
 (xs=[]->Q (.ref b) H)/\(xs≠[]->ys=[]->Q (.ref a) H)/\(xs≠[]->ys≠[]->∀p,H p=none->Q (.ref p) (upd H p (.tup (xs++ys))))
theorem JKe:OpR X (binaryOp .Add) (rCat2 X.K):=by
 intro pins s σ H x y v u Q I rx ry h
 obtain ⟨a,b,xs,ys,e1,e2,ha,hb,hz,q0,q1,q2⟩:=h
 by_cases hx:xs=[]
 ·subst e1 e2
  cases rx
  cases ry
  obtain ⟨its,r1,p1,_⟩:=I.tuple ha
  obtain ⟨its2,r2,p2,_⟩:=I.tuple hb
  obtain ⟨⟨cls,dd,data,sl⟩,ho,hc,n,hd⟩:=id p1
  obtain ⟨⟨cls2,dd2,data2,sl2⟩,ho2,hc2,n2,hd2⟩:=id p2
  simp only at hc hd hc2 hd2
  subst hc hd hc2 hd2
  have hv:its=[]:=r1.nil_iff.mpr hx
  exact concat_meets ⟨_,ho,rfl⟩ ⟨_,ho2,rfl⟩ noFill_tuple_add seq_tuple_add PySem.F.slot_tuple_add PySem.F.entry_tuple_add (PySem.F.args_tuple_add_2 _ _)
   (tuple_addW0 a b its.toArray its2.toArray n n2 dd dd2 sl sl2 (by simp [hv])) ⟨ho,ho2,⟨.ref b,H,I,rfl,q0 hx⟩⟩
 ·exact JN4 pins s σ H x y v u Q I rx ry ⟨a,b,xs,ys,e1,e2,ha,hb,hx,hz,q1 hx,q2 hx⟩
noncomputable def rCatL (K:PySem.W.Frag):R2:=fun x y H Q=>∃a b xs ys,x=.ref a/\y=.ref b/\SqL K H a xs/\SqL K H b ys/\xs.length+ys.length<=sizeLine/\∀p,H p=none->Q (.ref p) (upd H p (.lst (xs++ys)))
theorem JMt:OpR X (binaryOp .Add) (rCatL X.K):=by
 intro pins s σ H x y v u Q I rx ry h
 obtain ⟨a,b,xs,ys,rfl,rfl,ha,hb,hz,q⟩:=h
 cases rx
 cases ry
 obtain ⟨its,r,⟨⟨cls,dd,data,sl⟩,n,ho,hc,hdd,hd⟩,_⟩:=I.list ha
 obtain ⟨its2,r2,⟨⟨cls2,dd2,data2,sl2⟩,n2,ho2,hc2,hdd2,hd2⟩,_⟩:=I.list hb
 simp only at hc hd hc2 hd2
 subst hc hd hc2 hd2
 have e:its.toArray++its2.toArray=(its++its2).toArray:=by simp
 have hl:its.toArray.size+its2.toArray.size<=sizeLine:=by
  rw [q_f,q_f,<-r.length,<-r2.length];exact hz
 refine concat_meets ⟨_,ho,rfl⟩ ⟨_,ho2,rfl⟩ noFill_list_add seq_list_add PySem.F.slot_list_add PySem.F.entry_list_add (PySem.F.args_list_add_2 _ _) (list_addW a b its.toArray its2.toArray n n2 dd dd2 sl sl2 hl) ⟨ho,ho2,?_⟩
 rw [e]
 exact ⟨.ref _,_,I.lnew (t':=s.toks) (r.append r2) (by rw [q_u];omega),rfl,q _ I.fresh⟩
noncomputable def rRepL (K:PySem.W.Frag):R2:=fun x y H Q=>∃a k xs,x=.ref a/\y=.int k/\SqL K H a xs/\-(2 ^ 63)<=k/\k<2 ^ 63/\xs.length*k.toNat<=sizeLine/\∀p,H p=none->Q (.ref p) (upd H p (.lst (List.replicate k.toNat xs).flatten))
theorem JNJ:OpR X (binaryOp .Mult) (rRepL X.K):=by
 intro pins s σ H x y v u Q I rx ry h
 obtain ⟨a,k,xs,rfl,rfl,ha,h1,h2,hz,q⟩:=h
 cases rx
 obtain ⟨t,rfl⟩:=ry
 obtain ⟨its,r,⟨⟨cls,dd,data,sl⟩,n,ho,hc,hdd,hd⟩,_⟩:=I.list ha
 simp only at hc hd
 subst hc hd
 have hlen:its.toArray.size*k.toNat<=sizeLine:=by rw [q_f,<-r.length];exact hz
 have hcap:¬its.toArray.size*k.toNat > (2 ^ 63 - 1) / 8:=by
  have:(sizeLine:Nat)<=(2 ^ 63 - 1) / 8:=by decide
  omega
 have hfit:¬(!Builtin.List.listFitsIndex k)=true:=by
  rw [fitsIndex_both h1 h2]
  exact Bool.false_ne_true
 have hlong:¬Builtin.List.listTooLong (its.toArray.size*k.toNat)=true:=by
  rw [JKN hlen]
  exact Bool.false_ne_true
 refine wpAny_binaryOp_repeat_ref (T:="list") (U:="int") (by decide) ⟨_,ho,rfl⟩ (fun s'=>typeIs_int s' k t) noFill_list_mul PySem.F.fills_int_mul PySem.F.slot_int_rmul repeat_list PySem.F.slot_int_index.lookup
  (call_meets PySem.F.slot_int_rmul (typeIs_int s k t) PySem.F.entry_int_rmul (PySem.F.args_int_rmul_2 _ _) (lm_int_rmul_list_any k t a its.toArray n dd sl)
    ⟨ho,rfl,⟨_,ho,rfl⟩,call_meets PySem.F.slot_list_mul ⟨_,ho,rfl⟩ PySem.F.entry_list_mul (PySem.F.args_list_mul_2 _ _) (lm_list_mul_any a its.toArray n dd sl k t hfit hcap hlong) ⟨ho,?_⟩⟩)
 rw [listMul_foldl_if]
 exact ⟨.ref _,_,I.lnew (t':=s.toks) (r.rep k.toNat) (by rw [len_rep,Nat.mul_comm];exact hz),rfl,q _ I.fresh⟩
theorem JCi:fillsNumberSlot (.type "tuple") "mul"=pure false :=
 PySem.fillsNumberSlot_seq (id:="tuple.__mul__") (r:=some (.builtin "tuple.__rmul__")) PySem.F.slot_tuple_mul.lookup (by decide +kernel) PySem.F.slot_tuple_rmul.lookup (by decide +kernel)
theorem JE3:seqRepeat? (.type "tuple")=pure (some (.builtin "tuple.__mul__")):=by
 unfold seqRepeat?
 rw [PySem.seqSlot_of (T:="tuple") (name:="__mul__") (id:="tuple.__mul__") PySem.F.slot_tuple_mul.lookup (by decide +kernel),PySem.seqSlot_of (T:="tuple") (name:="__rmul__") (id:="tuple.__rmul__") PySem.F.slot_tuple_rmul.lookup (by decide +kernel)]
 rfl
theorem JDV (a:Int) (t:Tok) (l:Addr) (items:Array Value) (n:Nat) (d:Option Addr) (sl:Array (Option Value)) :
  Meets (Builtin.«int.__rmul__» ⟨[.int a t,.ref l],[]⟩) (fun _ R s=>s.heap.get? l=some { cls:=.type "tuple",dict:=d,data:=.seq items n,slots:=sl }/\R (.ok (.ret Value.notImplemented)) s) :=
 .of_wp fun prog w A R s h=>by obtain ⟨hp,g,d,tk,os⟩:=s;obtain ⟨hl,h⟩:=h;wp_walk;exact ⟨_,rfl,h⟩
theorem JDp (l:Addr) (items:Array Value) (n:Nat) (d:Option Addr) (sl:Array (Option Value)) (x:Int) (u:Tok) (h1:2<=x) (h2:x<=1000) (h3:items.size<=1000) (h4:items.isEmpty=false) (h5:(List.foldl (fun x1 x2=>x1++x2) #[] (List.replicate x.toNat items)).size<=sizeLine) :
  Meets (Builtin.«tuple.__mul__» ⟨[.ref l,.int x u],[]⟩) (fun _ R s=>s.heap.get? l=some { cls:=.type "tuple",dict:=d,data:=.seq items n,slots:=sl }/\R (.ok (.ret (Value.ref s.heap.objs.size))) { s with heap:=s.heap.push { cls:=Value.type "tuple",data:=Data.seq (List.foldl (fun x1 x2=>x1++x2) #[] (List.replicate x.toNat items)) },toks:=s.toks }) :=
 .of_wp fun prog w A R s h=>by
  obtain ⟨hp,g,d,tk,os⟩:=s;obtain ⟨hl,h⟩:=h
  have c1:(decide (x < -(2 ^ 63)) || decide (x ≥ 2 ^ 63))=false:=by simp;omega
  have c2:(items.isEmpty || x==1)=false:=by rw [h4];simp;omega
  have c3:(decide (x<=0) || items.isEmpty)=false:=by rw [h4];simp;omega
  have c4:((items.size:Int)*x)<=1000*1000:=Int.mul_le_mul (by omega) h2 (by omega) (by omega)
  have c5:¬((items.size:Int)*x > (2 ^ 63 - 1) / 8):=by omega
  have c6:Builtin.Tuple.tupleTooMany ((items.size:Int)*x)=false:=by
   unfold Builtin.Tuple.tupleTooMany
   rw [sizeLine_eq]
   exact q_o (by omega)
  wp_walk
  rw [if_neg (by rw [c1];decide)]
  wp_walk
  rw [if_neg (by rw [c2];decide)]
  dsimp only
  rw [if_neg (by rw [c3];decide)]
  rw [if_neg c5]
  rw [if_neg (by rw [c6];decide)]
  unfold Builtin.Tuple.tupleExact
  refine q_b (wpAny_newObj_type (q_e ⟨_,rfl,h⟩) h5)
noncomputable def rRepT (K:PySem.W.Frag):R2:=fun x y H Q=>∃a k xs,x=.ref a/\y=.int k/\SqT K H a xs/\2<=k/\k<=1000/\xs.length<=1000/\xs≠[]/\∀p,H p=none->Q (.ref p) (upd H p (.tup (List.replicate k.toNat xs).flatten))
theorem JNr:OpR X (binaryOp .Mult) (rRepT X.K):=by
 intro pins s σ H x y v u Q I rx ry h
 obtain ⟨a,k,xs,rfl,rfl,ha,h1,h2,h3,h4,q⟩:=h
 cases rx
 obtain ⟨t,rfl⟩:=ry
 obtain ⟨its,r,⟨⟨cls,dd,data,sl⟩,ho,hc,n,hd⟩,_⟩:=I.tuple ha
 simp only at hc hd
 subst hc hd
 have hl:=r.length
 have he:its.toArray.isEmpty=false:=by
  cases its with
  | nil=>exact absurd (q_B.mp (by simpa using hl)) h4
  | cons _ _=>rfl
 have ef:List.foldl (fun x1 x2=>x1++x2) #[] (List.replicate k.toNat its.toArray)=(List.replicate k.toNat its).flatten.toArray:=by
  have:=listMul_foldl_if its.toArray k.toNat
  rw [he] at this
  simpa using this
 have hz:(List.replicate k.toNat its).flatten.length<=1000000:=by
  rw [len_rep]
  exact Nat.le_trans (Nat.mul_le_mul (show k.toNat<=1000 by omega) (show its.length<=1000 by omega)) (by decide)
 refine wpAny_binaryOp_repeat_ref (T:="tuple") (U:="int") (by decide) ⟨_,ho,rfl⟩ (fun s'=>typeIs_int s' k t) JCi PySem.F.fills_int_mul PySem.F.slot_int_rmul JE3 PySem.F.slot_int_index.lookup
  (call_meets PySem.F.slot_int_rmul (typeIs_int s k t) PySem.F.entry_int_rmul (PySem.F.args_int_rmul_2 _ _) (JDV k t a its.toArray n dd sl)
    ⟨ho,rfl,⟨_,ho,rfl⟩,call_meets PySem.F.slot_tuple_mul ⟨_,ho,rfl⟩ PySem.F.entry_tuple_mul (PySem.F.args_tuple_mul_2 _ _) (JDp a its.toArray n dd sl k t h1 h2 (by simp only [q_f];omega) he (by rw [ef,sizeLine_eq];simp only [q_f];omega)) ⟨ho,?_⟩⟩)
 rw [ef]
 refine ⟨.ref s.heap.objs.size,upd H s.heap.objs.size (.tup (List.replicate k.toNat xs).flatten),I.laid (t':=s.toks) (fun b u e=>q_c _ e) (q_t _) ?_,rfl,q _ I.fresh⟩
 exact ⟨by rw [(r.rep k.toNat).length,sizeLine_eq];omega,_,r.rep k.toNat,⟨_,q_k _ rfl,rfl,_,rfl⟩⟩
end
section
variable {prog:Program} {w:World} {A:Around} {E:Value->Shared->Prop} {s:Shared}
theorem JB2 {t sl:Addr} {items:Array Value} {vl vu:Value} {lo hi:Option Int} {Q:Value->Shared->Prop} (ht:IsTup s.heap t items) (hs:s.heap.IsSliceOf sl vl vu .none) (pl:IsPart vl lo) (pu:IsPart vu hi)
  (hw:HT.sIx items.size 0 lo=0/\HT.sIx items.size items.size hi=items.size) (h:Q (.ref t) s):wpAny (model prog w) A (getItem (.ref t) (.ref sl)) Q E s:=by
 obtain ⟨os,hos,hcs,hds⟩:=id hs
 have hTs:s.TypeIs (.ref sl) "slice":=⟨os,hos,hcs⟩
 unfold getItem
 try with_reducible refine wpAny_holding ?_
 first | refine q_b (q_e ?_) | skip
 refine q_b (wpAny_sequenceKey ht.typeIs (by decide) ?_)
 refine q_b (wpAny_callSpecial?_slot (name:=Str.ofString "__getitem__") ht.typeIs PyProof.Rows.slot_tuple_getitem
  (wpAny_call_entry PyProof.Rows.slot_tuple_getitem ht.typeIs entry_tuple_getitem ?_ (args_tuple_getitem _ _)))
 show wpAny _ _ (Builtin.Tuple.tupleItemsOf (.ref t) >>= _) _ _ s
 refine q_b (tupleItemsOf_ ht ?_)
 refine q_b (wpAny_typeOf hTs ?_)
 rw [if_pos (by decide)]
 refine q_b (HT.sliceApplied_gen hs pl pu ?_)
 have hyes:(((HT.sIx items.size 0 lo:Nat):Int)==0&&(1:Int)==1&&(HT.sIx items.size items.size hi - HT.sIx items.size 0 lo)==items.size)=true:=by
  rw [hw.1,hw.2];simp
 show wpAny _ _ (if (((HT.sIx items.size 0 lo:Nat):Int)==0&&(1:Int)==1&&(HT.sIx items.size items.size hi - HT.sIx items.size 0 lo)==items.size)=true then _ else _) _ _ s
 rw [if_pos hyes]
 refine q_b ?_
 unfold Builtin.Tuple.tupleIsExact
 refine q_b (wpAny_typeOf ht.typeIs (q_e ?_))
 rw [if_pos (by decide)]
 refine q_b (wpAny_rule ?_)
 exact q_e ⟨_,rfl,q_e h⟩
end
section
variable {X:Cx}
noncomputable def rSlW (K:PySem.W.Frag):V->Option Int->Option Int->Hp->VK->Prop:=fun x lo hi H Q=>∃a xs,x=.ref a/\SqT K H a xs/\(HT.sIx xs.length 0 lo=0/\HT.sIx xs.length xs.length hi=xs.length)/\Q (.ref a) H
theorem JIk:SlR X (rSlW X.K):=by
 intro pins s σ H x v vl vu lo hi sl Q I rx hs pl pu h
 obtain ⟨a,xs,rfl,hx,hw,q⟩:=h
 cases rx
 obtain ⟨its,r,ht,hz⟩:=I.tuple hx
 have hlen:its.toArray.size=xs.length:=by rw [q_f];exact r.length.symm
 refine ⟨"tuple",_,PyProof.Rows.slot_tuple_getitem.lookup,ht.typeIs,?_⟩
 exact JB2 ht hs pl pu (by rw [hlen];exact hw) ⟨.ref a,H,I,rfl,q⟩
end
end VI
end
section
namespace VI
open PySem PySem.Spec PyProof.Rows L2
abbrev St:=L2.St
structure Bs where
 K:PySem.W.Frag
 cl:Nat->Addr
 w:World
noncomputable def ExcAt (a C:Addr) (h:Heap):Prop:=∃o,h.get? a=some o/\o.cls=.ref C
noncomputable def SqDo (K:PySem.W.Frag) (w:World) (H:Hp) (a:Addr) (o:Obj) (xs:List (Key×V)):Prop :=
 H a=some (.frz o (.dK xs))\/∀(P:Program) (h:Heap),K.In h->(a==sysModules)=false/\h.get? a=some o/\∃vs,KV xs vs/\h.DictOf (JAc P w) a vs
noncomputable def SqD (K:PySem.W.Frag) (w:World) (H:Hp) (a:Addr) (xs:List (Key×V)):Prop:=∃o,SqDo K w H a o xs
mutual
noncomputable def Den (B:Bs) (H:Hp):D->V->Prop
 | .none,v=>v=.non
 | .bool b,v=>v=.bl b
 | .int i,v=>v=.int i
 | .str x,v=>v=.str x
 | .tuple ds,v=>∃a xs,v=.ref a/\SqT B.K H a xs/\DenL B H ds xs
 | .list ds,v=>∃a xs,v=.ref a/\SqL B.K H a xs/\DenL B H ds xs
 | .dict kvs,v=>(∃a c,v=.ref a/\kvs=[(.none,.int ((c:Nat):Int))]/\H a=some (.ext (ExcAt a (B.cl c))))\/∃a xs,v=.ref a/\SqD B.K B.w H a xs/\DenK B H kvs xs
noncomputable def DenL (B:Bs) (H:Hp):List D->List V->Prop
 | [],vs=>vs=[]
 | d::ds,vs=>∃v r,vs=v::r/\Den B H d v/\DenL B H ds r
noncomputable def DenK (B:Bs) (H:Hp):List (D×D)->List (Key×V)->Prop
 | [],vs=>vs=[]
 |(k,d)::ds,vs=>∃x v r,vs=(Sum.inr x,v)::r/\k=.str x/\Den B H d v/\DenK B H ds r
end
theorem JJz {K:PySem.W.Frag} {H H':Hp} {a:Addr} {xs:List V} (e:Same H H') (h:SqT K H a xs):SqT K H' a xs:=by
 rcases h with (h | ⟨o,h⟩) | h
 ·exact .inl (.inl (e _ _ h))
 ·exact .inl (.inr ⟨o,e _ _ h⟩)
 ·exact .inr h
theorem JIt {K:PySem.W.Frag} {w:World} {H H':Hp} {a:Addr} {o:Obj} {xs:List (Key×V)} (e:Same H H') (h:SqDo K w H a o xs):SqDo K w H' a o xs:=h.imp (fun h=>e _ _ h) fun h=>h
theorem sameD {K:PySem.W.Frag} {w:World} {H H':Hp} {a:Addr} {xs:List (Key×V)} (e:Same H H') (h:SqD K w H a xs):SqD K w H' a xs:=h.imp fun _ h=>JIt e h
mutual
theorem Den.mono {B:Bs} {H H':Hp} (s:Same H H'):∀(d:D) (v:V),Den B H d v->Den B H' d v
 | .none,_,h=>h
 | .bool _,_,h=>h
 | .int _,_,h=>h
 | .str _,_,h=>h
 | .tuple ds,v,h=>by
  simp only [Den] at h ⊢
  obtain ⟨a,xs,e,q,l⟩:=h
  exact ⟨a,xs,e,JJz s q,DenL.mono s ds xs l⟩
 | .list ds,v,h=>by
  simp only [Den] at h ⊢
  obtain ⟨a,xs,e,q,l⟩:=h
  exact ⟨a,xs,e,s.seq q,DenL.mono s ds xs l⟩
 | .dict kvs,v,h=>by
  simp only [Den] at h ⊢
  rcases h with ⟨a,c,e,k,q⟩ | ⟨a,xs,e,q,l⟩
  ·exact .inl ⟨a,c,e,k,s _ _ q⟩
  ·exact .inr ⟨a,xs,e,sameD s q,DenK.mono s kvs xs l⟩
theorem DenL.mono {B:Bs} {H H':Hp} (s:Same H H'):∀(ds:List D) (vs:List V),DenL B H ds vs->DenL B H' ds vs
 | [],_,h=>h
 | d::ds,vs,h=>by
  simp only [DenL] at h ⊢
  obtain ⟨v,r,e,q,l⟩:=h
  exact ⟨v,r,e,Den.mono s d v q,DenL.mono s ds r l⟩
theorem DenK.mono {B:Bs} {H H':Hp} (s:Same H H'):∀(ds:List (D×D)) (vs:List (Key×V)),DenK B H ds vs->DenK B H' ds vs
 | [],_,h=>h
 |(k,d)::ds,vs,h=>by
  simp only [DenK] at h ⊢
  obtain ⟨x,v,r,e,e',q,l⟩:=h
  exact ⟨x,v,r,e,e',Den.mono s d v q,DenK.mono s ds r l⟩
end
theorem DenL.len {B:Bs} {H:Hp}:∀(ds:List D) (vs:List V),DenL B H ds vs->ds.length=vs.length
 | [],_,h=>by simp only [DenL] at h;subst h;rfl
 | d::ds,vs,h=>by
  simp only [DenL] at h
  obtain ⟨v,r,e,q,l⟩:=h
  subst e
  simp only [List.length_cons,DenL.len ds r l]
theorem DenL.get {B:Bs} {H:Hp}:∀(ds:List D) (vs:List V) (i:Nat) (d:D),DenL B H ds vs->ds[i]? = some d->∃v,vs[i]? = some v/\Den B H d v
 | [],_,_,_,_,e=>by simp at e
 | d::ds,vs,i,x,h,e=>by
  simp only [DenL] at h
  obtain ⟨v,r,e1,q,l⟩:=h
  subst e1
  cases i with
  | zero =>
   simp only [List.getElem?_cons_zero,q_j] at e
   subst e
   exact ⟨v,rfl,q⟩
  | succ i =>
   simp only [List.getElem?_cons_succ] at e
   obtain ⟨u,e2,q2⟩:=DenL.get ds r i x l e
   exact ⟨u,by simpa using e2,q2⟩
theorem DenL.append {B:Bs} {H:Hp}:∀(ds es:List D) (vs us:List V),DenL B H ds vs->DenL B H es us->DenL B H (ds++es) (vs++us)
 | [],es,_,us,h,h2=>by simp only [DenL] at h;subst h;exact h2
 | d::ds,es,vs,us,h,h2=>by
  simp only [DenL,List.cons_append] at h ⊢
  obtain ⟨v,r,e,q,l⟩:=h
  subst e
  exact ⟨v,r++us,rfl,q,DenL.append ds es r us l h2⟩
mutual
theorem Den.reads {B:Bs} {X:Cx} {pins:List (Addr×Obj)} {σ:St} {H:Hp} {s:Shared} (hK:X.K=B.K) (I:Inv X pins σ H s) :
  ∀(d:D) (v:V) (u:Value),d.canLay0=true->Den B H d v->RelV v u->∃as,Reads s.heap u d as
 | .none,v,u,_,h,r=>by simp only [Den] at h;subst h;cases r;exact ⟨_,.none⟩
 | .bool b,v,u,_,h,r=>by simp only [Den] at h;subst h;cases r;exact ⟨_,.bool b⟩
 | .int i,v,u,_,h,r=>by simp only [Den] at h;subst h;obtain ⟨t,rfl⟩:=r;exact ⟨_,.int i t⟩
 | .str x,v,u,_,h,r=>by simp only [Den] at h;subst h;obtain ⟨t,rfl⟩:=r;exact ⟨_,.str x t⟩
 | .tuple ds,v,u,c,h,r=>by
  simp only [Den] at h
  obtain ⟨a,xs,e,q,l⟩:=h
  subst e
  cases r
  obtain ⟨its,rv,⟨o,h1,h2,n,h3⟩,_⟩:=I.tuple (hK▸q)
  obtain ⟨as,ra⟩:=DenL.reads hK I ds xs its (by simpa only [PyData.canLay0] using c) l rv
  exact ⟨as,.tuple h1 h2 h3 (by simpa using ra)⟩
 | .list ds,v,u,c,h,r=>by
  simp only [Den] at h
  obtain ⟨a,xs,e,q,l⟩:=h
  subst e
  cases r
  obtain ⟨its,rv,⟨o,n,h1,h2,_,h3⟩,_⟩:=I.list (hK▸q)
  obtain ⟨as,ra⟩:=DenL.reads hK I ds xs its (by simpa only [PyData.canLay0] using c) l rv
  exact ⟨a::as,.list h1 h2 h3 (by simpa using ra)⟩
 | .dict kvs,v,u,c,h,r=>by simp only [PyData.canLay0] at c;cases c
theorem DenL.reads {B:Bs} {X:Cx} {pins:List (Addr×Obj)} {σ:St} {H:Hp} {s:Shared} (hK:X.K=B.K) (I:Inv X pins σ H s) :
  ∀(ds:List D) (vs:List V) (us:List Value),PyData.canLayAll0 ds=true->DenL B H ds vs->Vals vs us->∃as,ReadsAll s.heap us ds as
 | [],vs,us,_,h,r=>by simp only [DenL] at h;subst h;cases r;exact ⟨_,.nil⟩
 | d::ds,vs,us,c,h,r=>by
  simp only [DenL] at h
  obtain ⟨v,t,e,q,l⟩:=h
  subst e
  simp only [PyData.canLayAll0,q_i] at c
  cases r with
  | cons r1 r2 =>
   obtain ⟨as,h1⟩:=Den.reads hK I d v _ c.1 q r1
   obtain ⟨bs,h2⟩:=DenL.reads hK I ds t _ c.2 l r2
   exact ⟨_,.cons h1 h2⟩
end
noncomputable def KE (B:Bs) (XX:Nat->Hp->Prop) (r:R D) (H:Hp) (Q:VK):Prop:=match r with
 | .ok d=>∀v H',Same H H'->Den B H' d v->Q v H'
 | .exc c=>XX c H
 | .bad=>False
noncomputable def KL (B:Bs) (XX:Nat->Hp->Prop) (r:R (List D)) (H:Hp) (Q:List V->Hp->Prop):Prop:=match r with
 | .ok ds=>∀vs H',Same H H'->DenL B H' ds vs->Q vs H'
 | .exc c=>XX c H
 | .bad=>False
noncomputable def KB (XX:Nat->Hp->Prop) (r:R Bool) (H:Hp) (Q:Bool->Hp->Prop):Prop:=match r with
 | .ok b=>∀H',Same H H'->Q b H'
 | .exc c=>XX c H
 | .bad=>False
noncomputable def Sok (B:Bs) (σ:St) (H:Hp) (δ:Env):Prop:=∀i d,look δ i=.ok d->∃v,σ[i]? = some (some v)/\Den B H d v
theorem Sok.mono {B:Bs} {σ:St} {H H':Hp} {δ:Env} (h:Sok B σ H δ) (s:Same H H'):Sok B σ H' δ:=fun i d e =>
 let ⟨v,e1,q⟩:=h i d e
 ⟨v,e1,Den.mono s d v q⟩
noncomputable def JCX (B:Bs) (n:Nat) (fn:List D->R D):Sp:=fun vs H Q E=>vs.length=n/\∃ds,DenL B H ds vs/\(match fn ds with
 | .ok d=>∀v H',Same H H'->Den B H' d v->Q v H'
 | .exc c=>∀H',Same H H'->E (.ref (B.cl c)) none H'
 | .bad=>False)
noncomputable def EX (B:Bs) (XX:Nat->Hp->Prop):XK:=fun u _ H=>∃c,u=.ref (B.cl c)/\XX c H
structure Gk (X:Cx) (B:Bs) (C:Cn) (CX:CXT) (XX:Nat->Hp->Prop) (G:List (Str×GK)):Prop where
 K:X.K=B.K
 W:X.w=B.w
 anti:∀c H H',Same H H'->XX c H->XX c H'
 units:X.A.units+200<cLine
 calm:X.calm=true
 fn:∀x i,G.lookup x=some (.fn i)->∃f fd ps k,X.mg x=some (.ref f)/\PySem.W.keepIn X.K (.ref f)=true /\
  FnOk X.prog X.w X.K X.mg X.base CX k f fd ps (JCX B ps.length (C.fn i))/\Room k X.A/\Binds X.K fd ps []/\∀ds,C.fn i ds≠.bad->ds.length=ps.length
 pas:JEo CX X (EX B XX)
 con:∀x i d,G.lookup x=some (.con i)->C.glo i=.ok d->∃u v,X.mg x=some u/\RelV v u/\∀H,Den B H d v
 noexg:∀i c,C.glo i≠.exc c
 blt:∀x b,G.lookup x=some (.blt b)->X.mg x=none
 rng:∀x,G.lookup x=some .rng->X.mg x=none
 isi:∀x,G.lookup x=some .isi->X.mg x=none
 ty:∀x t,G.lookup x=some (.ty t)->X.mg x=none
 cls:∀x c,G.lookup x=some (.cls c)->X.mg x=some (.ref (B.cl c))
 nam:∀x,G.lookup x=some .nam->X.mg x=none
section
variable {X:Cx} {B:Bs} {C:Cn} {CX:CXT} {XX:Nat->Hp->Prop} {G:List (Str×GK)}
noncomputable def RE (B:Bs) (C:Cn) (XX:Nat->Hp->Prop) (e:E):TE:=fun σ H Q=>∃δ,Sok B σ H δ/\KE B XX (ev C e δ) H Q
noncomputable def RT (B:Bs) (C:Cn) (XX:Nat->Hp->Prop) (e:E):TT:=fun σ H Q=>∃δ,Sok B σ H δ/\KB XX (evT C e δ) H Q
noncomputable def RA (B:Bs) (C:Cn) (XX:Nat->Hp->Prop) (e:E):TA:=fun σ H Q=>∃δ,Sok B σ H δ/\KL B XX (evA C e δ) H Q
theorem PE.imp {e:Expr} {t t':TE} (h:PE X e t) (i:∀σ H Q,t' σ H Q->t σ H Q):PE X e t':=fun pins s σ H Q I q=>h pins s σ H Q I (i σ H Q q)
theorem PT.imp {e:Expr} {t t':TT} (h:PT X e t) (i:∀σ H Q,t' σ H Q->t σ H Q):PT X e t':=fun pins s σ H Q I q=>h pins s σ H Q I (i σ H Q q)
theorem PA.imp {e:List Expr} {t t':TA} (h:PA X e t) (i:∀σ H Q,t' σ H Q->t σ H Q):PA X e t':=fun pos pins s σ H Q I q=>h pos pins s σ H Q I (i σ H Q q)
theorem RE.of {e:E} {δ:Env} {σ:St} {H:Hp} {Q:VK} {α:Type} {f:D->R α} {W:R α->Hp->Prop} (ok:Sok B σ H δ)
  (hx:∀c H,W (.exc c) H->XX c H) (hb:∀H,W .bad H->False) (h:W ((ev C e δ).bind f) H)
  (go:∀d v H1,Same H H1->Den B H1 d v->W (f d) H->Q v H1):RE B C XX e σ H Q:=by
 refine ⟨δ,ok,?_⟩
 cases q:ev C e δ with
 | ok d =>
  rw [q] at h
  exact fun v H1 s1 d1=>go d v H1 s1 d1 h
 | exc c =>
  rw [q] at h
  exact hx c H h
 | bad =>
  rw [q] at h
  exact (hb H h).elim
theorem RT.of {e:E} {δ:Env} {σ:St} {H:Hp} {Q:Bool->Hp->Prop} {α:Type} {f:Bool->R α} {W:R α->Hp->Prop} (ok:Sok B σ H δ)
  (hx:∀c H,W (.exc c) H->XX c H) (hb:∀H,W .bad H->False) (h:W ((evT C e δ).bind f) H)
  (go:∀b H1,Same H H1->W (f b) H->Q b H1):RT B C XX e σ H Q:=by
 refine ⟨δ,ok,?_⟩
 cases q:evT C e δ with
 | ok d =>
  rw [q] at h
  exact fun H1 s1=>go d H1 s1 h
 | exc c =>
  rw [q] at h
  exact hx c H h
 | bad =>
  rw [q] at h
  exact (hb H h).elim
theorem RA.of {e:E} {δ:Env} {σ:St} {H:Hp} {Q:List V->Hp->Prop} {α:Type} {f:List D->R α} {W:R α->Hp->Prop} (ok:Sok B σ H δ)
  (hx:∀c H,W (.exc c) H->XX c H) (hb:∀H,W .bad H->False) (h:W ((evA C e δ).bind f) H)
  (go:∀ds vs H1,Same H H1->DenL B H1 ds vs->W (f ds) H->Q vs H1):RA B C XX e σ H Q:=by
 refine ⟨δ,ok,?_⟩
 cases q:evA C e δ with
 | ok d =>
  rw [q] at h
  exact fun v H1 s1 d1=>go d v H1 s1 d1 h
 | exc c =>
  rw [q] at h
  exact hx c H h
 | bad =>
  rw [q] at h
  exact (hb H h).elim
theorem KE.mono (g:Gk X B C CX XX G) {r:R D} {H H':Hp} {Q:VK} (s:Same H H') (h:KE B XX r H Q):KE B XX r H' Q:=by
 cases r with
 | ok d=>exact fun v H2 s2 d2=>h v H2 (s.trans s2) d2
 | exc c=>exact g.anti c H H' s h
 | bad=>exact h
theorem KB.mono (g:Gk X B C CX XX G) {r:R Bool} {H H':Hp} {Q:Bool->Hp->Prop} (s:Same H H') (h:KB XX r H Q):KB XX r H' Q:=by
 cases r with
 | ok d=>exact fun H2 s2=>h H2 (s.trans s2)
 | exc c=>exact g.anti c H H' s h
 | bad=>exact h
theorem KL.mono (g:Gk X B C CX XX G) {r:R (List D)} {H H':Hp} {Q:List V->Hp->Prop} (s:Same H H') (h:KL B XX r H Q):KL B XX r H' Q:=by
 cases r with
 | ok d=>exact fun v H2 s2 d2=>h v H2 (s.trans s2) d2
 | exc c=>exact g.anti c H H' s h
 | bad=>exact h
theorem KE.ok {d:D} {v:V} {H:Hp} {Q:VK} (h:KE B XX (.ok d) H Q) (q:Den B H d v):Q v H:=h v H (Same.refl H) q
theorem two (g:Gk X B C CX XX G) {a b:E} {σ:St} {H:Hp} {Q:VK} {f:D->D->R D} {r:R2}
  (hr:∀x y H dx dy,Den B H dx x->Den B H dy y->KE B XX (f dx dy) H Q->r x y H Q) :
  (∃δ,Sok B σ H δ/\KE B XX ((ev C a δ).bind fun x=>(ev C b δ).bind fun y=>f x y) H Q)->tOp r (RE B C XX a) (RE B C XX b) σ H Q:=by
 rintro ⟨δ,ok,h⟩
 refine RE.of (W:=fun r H=>KE B XX r H Q) ok (fun _ _ z=>z) (fun _ z=>z) h fun dx x H1 s1 d1 h1=>?_
 refine RE.of (W:=fun r H=>KE B XX r H Q) (ok.mono s1) (fun _ _ z=>z) (fun _ z=>z) (KE.mono g s1 h1) fun dy y H2 s2 d2 h2=>?_
 exact hr x y H2 dx dy (Den.mono s2 dx x d1) d2 (KE.mono g s2 h2)
theorem DenL.repN {H:Hp} {ds:List D} {vs:List V} (h:DenL B H ds vs):∀k:Nat,DenL B H (List.replicate k ds).flatten (List.replicate k vs).flatten
 | 0=>by simp only [List.replicate_zero,List.flatten_nil,DenL]
 | k+1=>by
  simp only [List.replicate_succ,List.flatten_cons]
  exact DenL.append _ _ _ _ h (DenL.repN h k)
theorem binOk (g:Gk X B C CX XX G) (op:Operator):OpR X (binaryOp op) (fun x y H Q=>∃dx dy,Den B H dx x/\Den B H dy y/\KE B XX (binD op dx dy) H Q):=by
 intro pins s σ H x y v u Q I rx ry ⟨dx,dy,hx,hy,k⟩
 cases dx<;>cases dy<;>first
  |(exfalso;cases op<;>exact k)
  | skip
 case list.list xs ys =>
  cases op<;>first
   | exact False.elim k
   | skip
  simp only [binD] at k
  split at k
  ·rename_i hz
   simp only [Den] at hx hy
   obtain ⟨a,us,e1,q1,l1⟩:=hx
   obtain ⟨c,ws,e2,q2,l2⟩:=hy
   subst e1;subst e2
   have n1:=DenL.len _ _ l1
   have n2:=DenL.len _ _ l2
   refine JMt pins s σ H _ _ v u Q I rx ry ⟨a,c,us,ws,rfl,rfl,g.K▸q1,g.K▸q2,by rw [sizeLine_eq];omega,fun p hp=>?_⟩
   have sm:Same H (upd H p (.lst (us++ws))):=fun b o e=>by rw [JAM (JAW e hp)];exact e
   refine k _ _ sm ?_
   simp only [Den]
   exact ⟨p,_,rfl,SqL.of JAG,DenL.append _ _ _ _ (DenL.mono sm _ _ l1) (DenL.mono sm _ _ l2)⟩
  ·exact k.elim
 case list.int xs j =>
  cases op<;>first
   | exact False.elim k
   | skip
  simp only [binD] at k
  split at k
  ·rename_i hz
   simp only [Den] at hx hy
   obtain ⟨a,us,e1,q1,l1⟩:=hx
   subst e1;subst hy
   have n1:=DenL.len _ _ l1
   refine JNJ pins s σ H _ _ v u Q I rx ry ⟨a,j,us,rfl,rfl,g.K▸q1,by omega,by omega,by rw [sizeLine_eq,<-n1];exact hz.2.2,fun p hp=>?_⟩
   have sm:Same H (upd H p (.lst (List.replicate j.toNat us).flatten)):=fun b o e=>by rw [JAM (JAW e hp)];exact e
   refine k _ _ sm ?_
   simp only [Den]
   exact ⟨p,_,rfl,SqL.of JAG,DenL.repN (DenL.mono sm _ _ l1) _⟩
  ·exact k.elim
 case tuple.int xs j =>
  cases op<;>first
   | exact False.elim k
   | skip
  simp only [binD] at k
  split at k
  ·rename_i hz
   simp only [Den] at hx hy
   obtain ⟨a,us,e1,q1,l1⟩:=hx
   subst e1;subst hy
   have n1:=DenL.len _ _ l1
   refine JNr pins s σ H _ _ v u Q I rx ry ⟨a,j,us,rfl,rfl,g.K▸q1,hz.1,hz.2.1,by omega,fun z=>hz.2.2.2 (by rw [z] at n1;exact q_B.mp n1),fun p hp=>?_⟩
   have sm:Same H (upd H p (.tup (List.replicate j.toNat us).flatten)):=fun b o e=>by rw [JAM (JAW e hp)];exact e
   refine k _ _ sm ?_
   simp only [Den]
   exact ⟨p,_,rfl,SqT.of JAG,DenL.repN (DenL.mono sm _ _ l1) _⟩
  ·exact k.elim
 case tuple.tuple xs ys =>
  cases op<;>first
   | exact False.elim k
   | skip
  simp only [binD] at k
  split at k
  ·rename_i hz
   simp only [Den] at hx hy
   obtain ⟨a,us,e1,q1,l1⟩:=hx
   obtain ⟨c,ws,e2,q2,l2⟩:=hy
   subst e1;subst e2
   have n1:=DenL.len _ _ l1
   have n2:=DenL.len _ _ l2
   refine JKe pins s σ H _ _ v u Q I rx ry ⟨a,c,us,ws,rfl,rfl,g.K▸q1,g.K▸q2,by rw [sizeLine_eq];omega,fun h=>?_,fun h h2=>?_,fun h h2 p hp=>?_⟩
   · have:xs=[]:=by rw [h] at n1;exact List.eq_nil_of_length_eq_zero n1
     subst this
     refine k _ _ (Same.refl H) ?_
     simp only [Den,List.nil_append]
     exact ⟨c,ws,rfl,q2,l2⟩
   · have:ys=[]:=by rw [h2] at n2;exact List.eq_nil_of_length_eq_zero n2
     subst this
     refine k _ _ (Same.refl H) ?_
     simp only [Den,List.append_nil]
     exact ⟨a,us,rfl,q1,l1⟩
   · have sm:Same H (upd H p (.tup (us++ws))):=fun b o e=>by rw [JAM (JAW e hp)];exact e
     refine k _ _ sm ?_
     simp only [Den]
     exact ⟨p,_,rfl,SqT.of JAG,DenL.append _ _ _ _ (DenL.mono sm _ _ l1) (DenL.mono sm _ _ l2)⟩
  ·exact k.elim
 rename_i i j
 simp only [Den] at hx hy
 subst hx;subst hy
 cases op<;>first
  | exact False.elim k
  | skip
 ·exact JQR pins s σ H _ _ v u Q I rx ry ⟨i,j,rfl,rfl,KE.ok k (by simp only [Den])⟩
 ·exact JRT pins s σ H _ _ v u Q I rx ry ⟨i,j,rfl,rfl,KE.ok k (by simp only [Den])⟩
 ·simp only [binD] at k
  split at k
  ·rename_i hm
   obtain ⟨t,rfl⟩:=rx
   obtain ⟨t',rfl⟩:=ry
   exact mul_int ⟨.int _,H,I.tok _,⟨_,rfl⟩,KE.ok k (by simp only [Den])⟩ hm
  ·exact k.elim
 ·simp only [binD] at k
  split at k
  ·rename_i hm
   exact JNd pins s σ H _ _ v u Q I rx ry ⟨i,j,rfl,rfl,hm,KE.ok k (by simp only [Den])⟩
  ·exact k.elim
 ·simp only [binD] at k
  split at k
  ·rename_i hm
   obtain ⟨t,rfl⟩:=rx
   obtain ⟨t',rfl⟩:=ry
   exact floordiv_int hm.1 ⟨.int _,H,I.tok _,⟨_,rfl⟩,KE.ok k (by simp only [Den])⟩ (.inl hm.2)
  ·exact k.elim
theorem JIu (g:Gk X B C CX XX G):X.A.units+64<cLine:=by have:=g.units;omega
theorem JG1 (g:Gk X B C CX XX G) (op:CmpOp):OpR X (compareOp op) (fun x y H Q=>∃dx dy,Den B H dx x/\Den B H dy y/\KE B XX (cmpD op dx dy) H Q):=by
 intro pins s σ H x y v u Q I rx ry ⟨dx,dy,hx,hy,k⟩
 cases op with
 | Eq =>
  simp only [cmpD] at k
  split at k
  ·rename_i hs
   simp only [q_i] at hs
   have c1:dx.canLay0=true:=(Bool.and_eq_true_iff.mp hs.1).1
   have c2:dy.canLay0=true:=(Bool.and_eq_true_iff.mp hs.2).1
   obtain ⟨as,ra⟩:=Den.reads g.K I dx x v c1 hx rx
   obtain ⟨bs,rb⟩:=Den.reads g.K I dy y u c2 hy ry
   exact SeqAt.compareEq_shaped ra rb hs.1 hs.2 (JIu g) ⟨.bl _,H,I,rfl,KE.ok k (by simp only [Den])⟩
  ·exact k.elim
 | NotEq =>
  simp only [cmpD] at k
  split at k
  ·rename_i hs
   simp only [q_i] at hs
   have c1:dx.canLay0=true:=(Bool.and_eq_true_iff.mp hs.1).1
   have c2:dy.canLay0=true:=(Bool.and_eq_true_iff.mp hs.2).1
   obtain ⟨as,ra⟩:=Den.reads g.K I dx x v c1 hx rx
   obtain ⟨bs,rb⟩:=Den.reads g.K I dy y u c2 hy ry
   exact SeqAt.compareNe_shaped ra rb hs.1 hs.2 (JIu g) ⟨.bl _,H,I,rfl,KE.ok k (by simp only [Den])⟩
  ·exact k.elim
 | Lt =>
  cases dx<;>cases dy<;>first | exact False.elim k | skip
  rename_i i j
  simp only [Den] at hx hy
  subst hx;subst hy
  exact op_lt pins s σ H _ _ v u Q I rx ry ⟨i,j,rfl,rfl,KE.ok k (by simp only [Den])⟩
 | LtE =>
  cases dx<;>cases dy<;>first | exact False.elim k | skip
  rename_i i j
  simp only [Den] at hx hy
  subst hx;subst hy
  exact op_le pins s σ H _ _ v u Q I rx ry ⟨i,j,rfl,rfl,KE.ok k (by simp only [Den])⟩
 | Gt =>
  cases dx<;>cases dy<;>first | exact False.elim k | skip
  rename_i i j
  simp only [Den] at hx hy
  subst hx;subst hy
  exact op_gt pins s σ H _ _ v u Q I rx ry ⟨i,j,rfl,rfl,KE.ok k (by simp only [Den])⟩
 | GtE =>
  cases dx<;>cases dy<;>first | exact False.elim k | skip
  rename_i i j
  simp only [Den] at hx hy
  subst hx;subst hy
  exact op_ge pins s σ H _ _ v u Q I rx ry ⟨i,j,rfl,rfl,KE.ok k (by simp only [Den])⟩
 | Is=>exact False.elim k
 | IsNot=>exact False.elim k
 | In =>
  cases dy with
  | list ds =>
   simp only [cmpD] at k
   split at k
   ·rename_i hs
    simp only [JC3,q_i,q_D] at hs
    obtain ⟨as,ra⟩:=Den.reads g.K I dx x v hs.1.2 hx rx
    obtain ⟨bs,rb⟩:=Den.reads g.K I (.list ds) y u (by simpa only [PyData.canLay0] using hs.1.1) hy ry
    have hu:=g.units
    refine SeqAt.in_list_reads rb ra hs.1.1 hs.1.2 ?_ ⟨.bl _,H,I,rfl,KE.ok k (by simp only [Den])⟩
    have:=Nat.min_le_right (PyData.depthAll ds) dx.depth
    omega
   ·exact k.elim
  | tuple ds =>
   simp only [cmpD] at k
   split at k
   ·rename_i hs
    simp only [JC3,q_i,q_D] at hs
    obtain ⟨as,ra⟩:=Den.reads g.K I dx x v hs.1.2 hx rx
    obtain ⟨bs,rb⟩:=Den.reads g.K I (.tuple ds) y u (by simpa only [PyData.canLay0] using hs.1.1) hy ry
    have hu:=g.units
    refine SeqAt.in_tuple_reads rb ra hs.1.1 hs.1.2 ?_ ⟨.bl _,H,I,rfl,KE.ok k (by simp only [Den])⟩
    have:=Nat.min_le_right (PyData.depthAll ds) dx.depth
    omega
   ·exact k.elim
  | _=>exact False.elim k
 | NotIn =>
  cases dy with
  | list ds =>
   simp only [cmpD] at k
   split at k
   ·rename_i hs
    simp only [JC3,q_i,q_D] at hs
    obtain ⟨as,ra⟩:=Den.reads g.K I dx x v hs.1.2 hx rx
    obtain ⟨bs,rb⟩:=Den.reads g.K I (.list ds) y u (by simpa only [PyData.canLay0] using hs.1.1) hy ry
    have hu:=g.units
    refine SeqAt.notIn_list_reads rb ra hs.1.1 hs.1.2 ?_ ⟨.bl _,H,I,rfl,KE.ok k (by simp only [Den])⟩
    have:=Nat.min_le_right (PyData.depthAll ds) dx.depth
    omega
   ·exact k.elim
  | tuple ds =>
   simp only [cmpD] at k
   split at k
   ·rename_i hs
    simp only [JC3,q_i,q_D] at hs
    obtain ⟨as,ra⟩:=Den.reads g.K I dx x v hs.1.2 hx rx
    obtain ⟨bs,rb⟩:=Den.reads g.K I (.tuple ds) y u (by simpa only [PyData.canLay0] using hs.1.1) hy ry
    have hu:=g.units
    refine SeqAt.notIn_tuple_reads rb ra hs.1.1 hs.1.2 ?_ ⟨.bl _,H,I,rfl,KE.ok k (by simp only [Den])⟩
    have:=Nat.min_le_right (PyData.depthAll ds) dx.depth
    omega
   ·exact k.elim
  | _=>exact False.elim k
end
noncomputable def NewT (B:Bs) (H H2 H3:Hp) (d:D) (x:V):Prop:=∃p xs es,H2 p=none/\H3=upd H2 p (.tup xs)/\x=.ref p/\d=.tuple es/\DenL B H es xs
noncomputable def ItOk (B:Bs) (J:It) (H:Hp) (ds:List D):Prop:=∀H2,Same H H2->∀i:Nat,
 (∀d,ds[i]? = some d->J.go i H2/\∀x H3,J.yld i H2 x H3->(H3=H2/\Den B H d x)\/NewT B H H2 H3 d x)/\(ds.length<=i->J.stop i H2)
noncomputable def KI (B:Bs) (XX:Nat->Hp->Prop) (r:R (List D)) (H:Hp) (Q:It->Hp->Prop):Prop:=match r with
 | .ok ds=>∀J H',Same H H'->ItOk B J H' ds->Q J H'
 | .exc c=>XX c H
 | .bad=>False
noncomputable def RI (B:Bs) (C:Cn) (XX:Nat->Hp->Prop) (e:E):TI:=fun σ H Q=>∃δ,Sok B σ H δ/\KI B XX (evI C e δ) H Q
theorem JKf {δ:Env} {i c:Nat}:look δ i≠.exc c:=by
 unfold look
 cases δ[i]? with
 | none=>intro h;cases h
 | some s=>cases s with
  | own d=>cases d<;>(intro h;cases h)
  | _=>intro h;cases h
theorem JC9:∀ {N:List Str} {x:Str} {i:Nat},idxOf x N=some i->N[i]? = some x
 | [],x,i,h=>by simp [idxOf] at h
 | y::r,x,i,h=>by
  unfold idxOf at h
  split at h
  ·rename_i hy
   cases h
   have:x=y:=eq_of_beq hy
   subst this;rfl
  ·cases q:idxOf x r with
   | none=>rw [q] at h;cases h
   | some j =>
    rw [q] at h
    simp only [Option.map_some,q_j] at h
    subst h
    simpa using JC9 q
theorem JAZ {H:Hp} {p:Addr} {o:HO} (h:H p=none):Same H (upd H p o):=fun b u e=>by rw [JAM (JAW e h)];exact e
theorem JAY {G:List (Str×GK)} {n:Nat} {it:Bool} {names:List (Str×NameKind)} {N:List Str} {e:Expr} {x:E} (h:JAN G n it names N e=some x) (es:List Expr) (env:PySem.Env) :
  starEach (e::es) env=(false,eval e env)::starEach es env:=by
 cases n with
 | zero=>simp [JAN,JAe,JAO] at h
 | succ n=>cases e<;>first | rfl | (simp [JAN,JAe,JAO,xOf,dOf,dRaw,Option.bind_none,ite_self,xRaw] at h)
theorem JBo {G:List (Str×GK)} {n:Nat} {it:Bool} {names:List (Str×NameKind)} {N:List Str} {pos:Pos} {env:PySem.Env}:∀ {es:List Expr} {x:E},JAJ (JAN G n it names N) es=some x ->
  (backTo pos (starEach es env)).any (·.1)=false
 | [],_,_=>rfl
 | e::es,x,h=>by
  unfold JAJ at h
  cases h1:JAN G n it names N e with
  | none=>rw [h1] at h;cases h
  | some a =>
    rw [h1] at h
    cases h2:JAJ (JAN G n it names N) es with
    | none=>simp [h2] at h
    | some b =>
     rw [JAY h1 es env]
     show (false || (backTo pos (starEach es env)).any (·.1))=false
     rw [JBo h2];rfl
theorem JOG {b:Expr} (h:isSlice b=false):JIB b:=by
 intro o i
 cases b<;>first | rfl | cases h
theorem JAI {x:Str} (h:JAR x=false):(x==("__debug__":Str))=false/\(x==("__classdict__":Str))=false/\x≠"__name__":=by
 unfold JAR at h
 simp only [Bool.or_eq_false_iff] at h
 exact ⟨h.1.1,h.1.2,fun e=>by have:=h.2;rw [e] at this;simp at this⟩
noncomputable def cnt:E->Nat
 | .cons _ r=>cnt r+1
 | _=>0
theorem JCR {C:Cn}:∀(e:E) (δ:Env) (ds:List D),evA C e δ=.ok ds->ds.length=cnt e
 | .nil,δ,ds,h=>by simp only [evA] at h;cases h;rfl
 | .cons a r,δ,ds,h=>by
  simp only [evA] at h
  cases q:ev C a δ with
  | ok d =>
   cases q2:evA C r δ with
   | ok es =>
    rw [q,q2] at h
    cases h
    simp only [List.length_cons,cnt,JCR r δ es q2]
   | exc c=>rw [q,q2] at h;cases h
   | bad=>rw [q,q2] at h;cases h
  | exc c=>rw [q] at h;cases h
  | bad=>rw [q] at h;cases h
 | .var _,_,_,h | .cint _,_,_,h | .cbl _,_,_,h | .cnon,_,_,h | .cstr _,_,_,h | .glo _,_,_,h | .bin _ _ _,_,_,h | .neg _,_,_,h | .not _,_,_,h | .and _ _,_,_,h | .or _ _,_,_,h | .cmp _ _ _,_,_,h
 | .isN _ _,_,_,h | .isB _ _,_,_,h | .ife _ _ _,_,_,h | .tup _,_,_,h | .lst _,_,_,h | .idx _ _,_,_,h | .call _ _,_,_,h | .blt _ _,_,_,h | .rng _,_,_,h | .isi _ _,_,_,h | .mcount _ _,_,_,h | .mindex _ _,_,_,h | .mget _ _ _,_,_,h | .cmpr _ _ _ _,_,_,h=>by simp only [evA] at h;cases h
theorem JAT {f:Expr->Option E}:∀ {es:List Expr} {x:E},JAJ f es=some x->cnt x=es.length
 | [],x,h=>by unfold JAJ at h;cases h;rfl
 | e::es,x,h=>by
  unfold JAJ at h
  cases h1:f e with
  | none=>rw [h1] at h;cases h
  | some a =>
   cases h2:JAJ f es with
   | none=>simp [h1,h2] at h
   | some b =>
    simp only [h1,h2,Option.bind_some,q_j] at h
    subst h
    simp only [cnt,List.length_cons,JAT h2]
section
variable {X:Cx} {B:Bs} {C:Cn} {CX:CXT} {XX:Nat->Hp->Prop} {G:List (Str×GK)} {a b c:Expr} {x y z:E} {pos:Pos}
theorem s_bad {e:Expr} {x:E} (h:∀δ,ev C x δ=.bad):PE X e (RE B C XX x):=fun _ _ _ _ _ _ ⟨δ,_,k⟩=>by rw [h δ] at k;exact k.elim
theorem JG6 {e:Expr} {x:E} (h:∀δ,evT C x δ=.bad):PT X e (RT B C XX x):=fun _ _ _ _ _ _ ⟨δ,_,k⟩=>by rw [h δ] at k;exact k.elim
theorem s_var {i:Nat} {nm:Str} (hN:X.N[i]? = some nm) (hv:Vis X.env.scope nm) (hb:JAR nm=false):PE X (.Name nm pos) (RE B C XX (.var i)) :=
 PE.imp (JHp hN hv (JAI hb).1 (JAI hb).2.1) fun σ H Q ⟨δ,ok,k⟩=>by
  simp only [ev] at k
  cases q:look δ i with
  | ok d =>
   obtain ⟨v,e,dn⟩:=ok i d q
   rw [q] at k
   exact ⟨v,e,KE.ok k dn⟩
  | exc c=>exact (JKf q).elim
  | bad=>rw [q] at k;exact k.elim
theorem s_int {i:Int} {j:Nat}:PE X (.Constant (.int i) j pos) (RE B C XX (.cint i)):=PE.imp JE2 fun σ H Q ⟨δ,ok,k⟩=>KE.ok k (by simp only [Den])
theorem s_bl {i:Bool} {j:Nat}:PE X (.Constant (.bool i) j pos) (RE B C XX (.cbl i)):=PE.imp JHy fun σ H Q ⟨δ,ok,k⟩=>KE.ok k (by simp only [Den])
theorem s_non {j:Nat}:PE X (.Constant .none j pos) (RE B C XX .cnon):=PE.imp JPR fun σ H Q ⟨δ,ok,k⟩=>KE.ok k (by simp only [Den])
theorem s_str {i:Str} {j:Nat}:PE X (.Constant (.str i) j pos) (RE B C XX (.cstr i)):=PE.imp JQV fun σ H Q ⟨δ,ok,k⟩=>KE.ok k (by simp only [Den])
theorem s_glo (g:Gk X B C CX XX G) {i:Nat} {nm:Str} (hg:Gl X nm) (hl:G.lookup nm=some (.con i)) (hb:JAR nm=false):PE X (.Name nm pos) (RE B C XX (.glo i)):=by
 cases q:C.glo i with
 | ok d =>
  obtain ⟨u,v,hm,r,dn⟩:=g.con nm i d hl q
  exact PE.imp (JH2 hg hm r (JAI hb).1) fun σ H Q ⟨δ,ok,k⟩=>by
   simp only [ev] at k
   rw [q] at k
   exact KE.ok k (dn H)
 | exc c=>exact (g.noexg i c q).elim
 | bad=>exact s_bad fun δ=>by simp only [ev];exact q
theorem JPk (g:Gk X B C CX XX G) {op:Operator} (ha:PE X a (RE B C XX x)) (hb:PE X b (RE B C XX y)):PE X (.BinOp a op b pos) (RE B C XX (.bin op x y)) :=
 PE.imp (JOX (binOk g op) ha hb) fun σ H Q ⟨δ,ok,k⟩=>two g (f:=binD op) (fun x y H dx dy h1 h2 k=>⟨dx,dy,h1,h2,k⟩) ⟨δ,ok,by simpa only [ev] using k⟩
theorem JA4 (g:Gk X B C CX XX G) {op:CmpOp} (ha:PE X a (RE B C XX x)) (hb:PE X b (RE B C XX y)) (hm:behindInMarks op b=false):PE X (.Compare a [op] [b] pos) (RE B C XX (.cmp op x y)) :=
 PE.imp (JEH (JG1 g op) ha hb hm) fun σ H Q ⟨δ,ok,k⟩=>two g (f:=cmpD op) (fun x y H dx dy h1 h2 k=>⟨dx,dy,h1,h2,k⟩) ⟨δ,ok,by simpa only [ev] using k⟩
theorem s_neg (g:Gk X B C CX XX G) (ha:PE X a (RE B C XX x)):PE X (.UnaryOp .USub a pos) (RE B C XX (.neg x)) :=
 PE.imp (JPS JMU ha) fun σ H Q ⟨δ,ok,k⟩=>by
  simp only [ev] at k
  refine RE.of (W:=fun r H=>KE B XX r H Q) ok (fun _ _ z=>z) (fun _ z=>z) k fun d v H1 s1 d1 h1=>?_
  have h2:=KE.mono g s1 h1
  cases d<;>first | exact False.elim h2 | skip
  rename_i i
  simp only [Den] at d1
  exact ⟨i,d1,KE.ok h2 (by simp only [Den])⟩
theorem truV {K:PySem.W.Frag} (hK:K=B.K) {d:D} {v:V} {H:Hp} {k:Bool} (h:Den B H d v) (t:truth d=.ok k):TruV K v H k:=by
 subst hK
 cases d with
 | none=>simp only [Den] at h;subst h;simp only [truth] at t;cases t;rfl
 | bool b=>simp only [Den] at h;subst h;simp only [truth] at t;cases t;rfl
 | int i=>simp only [Den] at h;subst h;simp only [truth] at t;cases t;rfl
 | str s =>
  simp only [Den] at h;subst h
  simp only [truth] at t
  split at t
  ·rename_i hl
   cases t
   exact ⟨by rw [sizeLine_eq];exact hl,rfl⟩
  ·cases t
 | list ds =>
  simp only [Den] at h
  obtain ⟨p,xs,e,q,l⟩:=h
  subst e
  simp only [truth] at t;cases t
  refine .inl ⟨xs,q,?_⟩
  have:=DenL.len ds xs l
  cases ds<;>cases xs<;>simp_all
 | tuple ds =>
  simp only [Den] at h
  obtain ⟨p,xs,e,q,l⟩:=h
  subst e
  simp only [truth] at t;cases t
  refine .inr (.inl ⟨xs,q,?_⟩)
  have:=DenL.len ds xs l
  cases ds<;>cases xs<;>simp_all
 | dict kvs=>simp only [truth] at t;cases t
theorem JEx {d:D} {c:Nat}:truth d≠.exc c:=by
 cases d<;>simp only [truth]<;>(try split)<;>(intro h;cases h)
theorem s_not (g:Gk X B C CX XX G) (ha:PE X a (RE B C XX x)):PE X (.UnaryOp .Not a pos) (RE B C XX (.not x)):=by
 intro pins s σ H Q I ⟨δ,ok,k⟩
 refine UnaryOp_ (thn (ha pins s σ H (fun v H1=>∃t,TruV X.K v H1 t/\Q (.bl (!t)) H1) I ?_) fun v s1 ⟨w,H1,I1,r1,t,tv,q⟩=>?_)
 ·refine ⟨δ,ok,?_⟩
  simp only [ev] at k
  cases q:ev C x δ with
  | ok d =>
   rw [q] at k
   cases q2:truth d with
   | ok t =>
    simp only [R.bind,q2] at k
    exact fun v H1 s1 d1=>⟨t,truV g.K d1 q2,k _ H1 s1 (by simp only [Den])⟩
   | exc c=>exact (JEx q2).elim
   | bad=>simp only [R.bind,q2] at k;exact k.elim
  | exc c=>rw [q] at k;exact k
  | bad=>rw [q] at k;exact k.elim
 ·exact not_of (thn (JMY pins s1 σ H1 w v (fun b H=>b=t/\H=H1) I1 r1 ⟨t,tv,rfl,rfl⟩) fun b s2 ⟨H2,I2,e1,e2⟩=>by subst e1;subst e2;exact ⟨.bl (!b),H2,I2,rfl,q⟩)
theorem s_and (g:Gk X B C CX XX G) {rest:List Expr} (ha:PE X a (RE B C XX x)) (hb:PE X (.BoolOp .And (b::rest) pos) (RE B C XX y)):PE X (.BoolOp .And (a::b::rest) pos) (RE B C XX (.and x y)) :=
 PE.imp (JPJ ha hb) fun σ H Q ⟨δ,ok,k⟩=>by
  simp only [ev] at k
  refine RE.of (W:=fun r H=>KE B XX r H Q) ok (fun _ _ z=>z) (fun _ z=>z) k fun d v H1 s1 d1 h1=>?_
  cases d<;>first | exact False.elim h1 | skip
  rename_i t
  simp only [Den] at d1
  refine ⟨t,d1,?_⟩
  cases t with
  | true=>exact iteT ⟨δ,ok.mono s1,KE.mono g s1 h1⟩
  | false=>exact iteF (KE.ok (KE.mono g s1 h1) (by simp only [Den]))
theorem s_or (g:Gk X B C CX XX G) {rest:List Expr} (ha:PE X a (RE B C XX x)) (hb:PE X (.BoolOp .Or (b::rest) pos) (RE B C XX y)):PE X (.BoolOp .Or (a::b::rest) pos) (RE B C XX (.or x y)) :=
 PE.imp (pe_or ha hb) fun σ H Q ⟨δ,ok,k⟩=>by
  simp only [ev] at k
  refine RE.of (W:=fun r H=>KE B XX r H Q) ok (fun _ _ z=>z) (fun _ z=>z) k fun d v H1 s1 d1 h1=>?_
  cases d<;>first | exact False.elim h1 | skip
  rename_i t
  simp only [Den] at d1
  refine ⟨t,d1,?_⟩
  cases t with
  | true=>exact iteT (KE.ok (KE.mono g s1 h1) (by simp only [Den]))
  | false=>exact iteF ⟨δ,ok.mono s1,KE.mono g s1 h1⟩
theorem JCq {d:D} {v:V} {H:Hp} (h:Den B H d v):decide (v=.non)=isNone d:=by
 cases d with
 | none=>simp only [Den] at h;subst h;rfl
 | bool _=>simp only [Den] at h;subst h;rfl
 | int _=>simp only [Den] at h;subst h;rfl
 | str _=>simp only [Den] at h;subst h;rfl
 | list _=>simp only [Den] at h;obtain ⟨p,xs,e,_⟩:=h;subst e;rfl
 | tuple _=>simp only [Den] at h;obtain ⟨p,xs,e,_⟩:=h;subst e;rfl
 | dict _ =>
  simp only [Den] at h
  rcases h with ⟨p,xs,e,_⟩ | ⟨p,xs,e,_⟩
  ·subst e;rfl
  ·subst e;rfl
theorem s_isN (g:Gk X B C CX XX G) {j:Nat} {pos':Pos} (ha:PE X a (RE B C XX x)):PE X (.Compare a [.Is] [.Constant .none j pos'] pos) (RE B C XX (.isN x false)) :=
 PE.imp (JLd (JLj ha)) fun σ H Q ⟨δ,ok,k⟩=>by
  simp only [ev] at k
  refine RE.of (W:=fun r H=>KE B XX r H Q) ok (fun _ _ z=>z) (fun _ z=>z) k fun d v H1 s1 d1 h1=>?_
  rw [JCq d1]
  exact KE.ok (KE.mono g s1 h1) (by simp [Den])
theorem JNN (g:Gk X B C CX XX G) {j:Nat} {pos':Pos} (ha:PE X a (RE B C XX x)):PE X (.Compare a [.IsNot] [.Constant .none j pos'] pos) (RE B C XX (.isN x true)) :=
 PE.imp (JLd (JHI ha)) fun σ H Q ⟨δ,ok,k⟩=>by
  simp only [ev] at k
  refine RE.of (W:=fun r H=>KE B XX r H Q) ok (fun _ _ z=>z) (fun _ z=>z) k fun d v H1 s1 d1 h1=>?_
  rw [JCq d1]
  exact KE.ok (KE.mono g s1 h1) (by simp [Den])
theorem JLT:OpR X (compareOp .Is) (fun v u H Q=>∃c d,v=.bl c/\u=.bl d/\Q (.bl (c==d)) H):=by
 intro pins s σ H v u w t Q I rx ry ⟨c,d,e1,e2,q⟩
 subst e1;subst e2
 cases rx;cases ry
 exact is_bool ⟨.bl _,H,I,rfl,q⟩
theorem s_isB (g:Gk X B C CX XX G) {j:Nat} {pos':Pos} {k:Bool} (ha:PE X a (RE B C XX x)):PE X (.Compare a [.Is] [.Constant (.bool k) j pos'] pos) (RE B C XX (.isB x k)) :=
 PE.imp (JEH JLT ha JHy rfl) fun σ H Q ⟨δ,ok,kk⟩=>by
  simp only [ev] at kk
  refine RE.of (W:=fun r H=>KE B XX r H Q) ok (fun _ _ z=>z) (fun _ z=>z) kk fun d v H1 s1 d1 h1=>?_
  cases d<;>first | exact False.elim h1 | skip
  rename_i t
  simp only [Den] at d1
  exact ⟨t,k,d1,rfl,KE.ok (KE.mono g s1 h1) (by simp only [Den])⟩
theorem s_ife (g:Gk X B C CX XX G) (hc:PT X c (RT B C XX z)) (ha:PE X a (RE B C XX x)) (hb:PE X b (RE B C XX y)):PE X (.IfExp c a b pos) (RE B C XX (.ife z x y)) :=
 PE.imp (JJk hc ha hb) fun σ H Q ⟨δ,ok,k⟩=>by
  simp only [ev] at k
  refine RT.of (W:=fun r H=>KE B XX r H Q) ok (fun _ _ z=>z) (fun _ z=>z) k fun t H1 s1 h1=>?_
  cases t with
  | true=>exact iteT ⟨δ,ok.mono s1,KE.mono g s1 h1⟩
  | false=>exact iteF ⟨δ,ok.mono s1,KE.mono g s1 h1⟩
theorem a_nil:PA X [] (RA B C XX .nil):=PA.imp JCZ fun σ H Q ⟨δ,ok,k⟩=>k [] H (Same.refl H) (by simp only [DenL])
theorem JQN (g:Gk X B C CX XX G) {es:List Expr} (ha:PE X a (RE B C XX x)) (hr:PA X es (RA B C XX y)) (hs:starEach (a::es) X.env=(false,eval a X.env)::starEach es X.env):PA X (a::es) (RA B C XX (.cons x y)) :=
 PA.imp (JBS ha hr hs) fun σ H Q ⟨δ,ok,k⟩=>by
  simp only [evA] at k
  refine RE.of (W:=fun r H=>KL B XX r H Q) ok (fun _ _ z=>z) (fun _ z=>z) k fun d v H1 s1 d1 h1=>?_
  refine RA.of (W:=fun r H=>KL B XX r H Q) (ok.mono s1) (fun _ _ z=>z) (fun _ z=>z) (KL.mono g s1 h1) fun ds vs H2 s2 d2 h2=>?_
  exact h2 (v::vs) H2 s2 (by simp only [DenL];exact ⟨v,vs,rfl,Den.mono s2 d v d1,d2⟩)
theorem s_tup (g:Gk X B C CX XX G) {es:List Expr} {k2:Nat} (h:PA X es (RA B C XX x)) (hl:cnt x<=1000):PE X (.Tuple es k2 pos) (RE B C XX (.tup x)) :=
 PE.imp (JRX h) fun σ H Q ⟨δ,ok,k⟩=>by
  simp only [ev] at k
  cases q:evA C x δ with
  | ok ds =>
   rw [q] at k
   refine ⟨δ,ok,?_⟩
   rw [q]
   intro vs H1 s1 d1
   have e1:=DenL.len ds vs d1
   have e2:=JCR x δ ds q
   refine ⟨by rw [sizeLine_eq];omega,fun p hp=>k _ _ (s1.trans (JAZ hp)) ?_⟩
   simp only [Den]
   exact ⟨p,vs,rfl,SqT.of JAG,DenL.mono (JAZ hp) ds vs d1⟩
  | exc c=>rw [q] at k;exact ⟨δ,ok,by rw [q];exact k⟩
  | bad=>rw [q] at k;exact k.elim
theorem s_lst (g:Gk X B C CX XX G) {es:List Expr} (h:PA X es (RA B C XX x)) (hl:cnt x<=1000):PE X (.List es pos) (RE B C XX (.lst x)) :=
 PE.imp (JMO h) fun σ H Q ⟨δ,ok,k⟩=>by
  simp only [ev] at k
  cases q:evA C x δ with
  | ok ds =>
   rw [q] at k
   refine ⟨δ,ok,?_⟩
   rw [q]
   intro vs H1 s1 d1
   have e1:=DenL.len ds vs d1
   have e2:=JCR x δ ds q
   refine ⟨by rw [sizeLine_eq];omega,fun p hp=>k _ _ (s1.trans (JAZ hp)) ?_⟩
   simp only [Den]
   exact ⟨p,vs,rfl,SqL.of JAG,DenL.mono (JAZ hp) ds vs d1⟩
  | exc c=>rw [q] at k;exact ⟨δ,ok,by rw [q];exact k⟩
  | bad=>rw [q] at k;exact k.elim
theorem JJI {H:Hp} {ds:List D} {vs:List V} {i:Int} {d:D} (h:DenL B H ds vs) (e:VI.atI ds i=some d):∃v,L2.atI vs i=some v/\Den B H d v:=by
 have hl:=DenL.len ds vs h
 unfold VI.atI at e
 cases q:VI.ixN ds.length i with
 | none=>rw [q] at e;cases e
 | some j =>
  rw [q] at e
  obtain ⟨v,e1,dn⟩:=DenL.get ds vs j d h e
  refine ⟨v,?_,dn⟩
  unfold L2.atI
  have q':L2.ixN vs.length i=some j:=by rw [<-hl];exact q
  rw [q']
  exact e1
theorem SqDo.at {pins:List (Addr×Obj)} {σ:St} {H:Hp} {s:Shared} {a:Addr} {o:Obj} {xs:List (Key×V)} (I:Inv X pins σ H s) (h:SqDo X.K X.w H a o xs):(a==sysModules)=false/\s.heap.get? a=some o/\∃vs,KV xs vs/\s.heap.DictOf (JAc X.prog X.w) a vs:=by
 rcases h with h | h
 ·obtain ⟨e,_,h1,h2⟩:=I.hok a _ h
  exact ⟨h1,e,h2⟩
 ·exact h X.prog s.heap I.kIn
theorem SqD.at {pins:List (Addr×Obj)} {σ:St} {H:Hp} {s:Shared} {a:Addr} {xs:List (Key×V)} (I:Inv X pins σ H s) (h:SqD X.K X.w H a xs):(a==sysModules)=false/\∃vs,KV xs vs/\s.heap.DictOf (JAc X.prog X.w) a vs:=by
 obtain ⟨o,h⟩:=h
 obtain ⟨h1,_,h2⟩:=SqDo.at I h
 exact ⟨h1,h2⟩
theorem JC2 {ks:List (Key×V)} {vs:List (Key×Value)} {x:Str} (h:KV ks vs):(∀v,(ks.find? fun p=>p.1=Sum.inr x).map (·.2)=some v->∃u,valueAt vs (Sum.inr x:Key)=some u/\RelV v u)/\((ks.find? fun p=>p.1=Sum.inr x).map (·.2)=none->valueAt vs (Sum.inr x:Key)=none):=by
 induction h with
 | nil=>exact ⟨fun v e=>(by simp at e),fun _=>rfl⟩
 | @cons p q ps qs hq t ih =>
  obtain ⟨k,v⟩:=p
  obtain ⟨k',u⟩:=q
  obtain ⟨e1,e2⟩:=hq
  simp only at e1 e2
  subst e1
  unfold valueAt at ih ⊢
  simp only [List.find?_cons]
  by_cases hk:k=Sum.inr x
  ·simp only [hk,decide_true,Option.map_some,q_j]
   exact ⟨fun v' e=>⟨u,rfl,e▸e2⟩,fun e=>by cases e⟩
  ·simp only [hk,decide_false]
   exact ih
theorem JNk:IxR X (fun x y H Q=>∃p xs k v,x=.ref p/\y=.str k/\SqD X.K X.w H p xs/\((xs.find? fun p=>p.1=Sum.inr k).map (·.2))=some v/\Q v H):=by
 intro value slice pins s σ H x y v u Q I rx ry h hs
 obtain ⟨p,xs,k,z,rfl,rfl,hq,he,q⟩:=h
 cases rx
 obtain ⟨t,rfl⟩:=ry
 obtain ⟨hsys,vs,kv,dd⟩:=SqD.at I hq
 obtain ⟨u,g1,g2⟩:=(JC2 kv).1 z he
 exact subscriptTail_builtinR (x:=u) dd.typeIs slot_dict_getitem.lookup (wpAny_getItem_of (Q:=fun r s'=>r=u/\EP X pins σ Q r s') (JBH _ _ k t) dd.mapOf g1 ⟨rfl,z,H,I.tok _,g2,q⟩) hs
theorem JDE {H:Hp} {x:Str} {d:D}:∀ {kvs:List (D×D)} {xs:List (Key×V)},DenK B H kvs xs->getK kvs x=.ok d->∃v,(xs.find? fun p=>p.1=Sum.inr x).map (·.2)=some v/\Den B H d v
 | [],xs,h,e=>by cases e
 |(k,b)::r,xs,h,e=>by
  simp only [DenK] at h
  obtain ⟨y,v,r',rfl,rfl,h1,h2⟩:=h
  simp only [getK] at e
  by_cases hk:y=x
  · rw [if_pos hk] at e
    cases e
    exact ⟨v,by simp [List.find?,hk],h1⟩
  · rw [if_neg hk] at e
    obtain ⟨v',e1,e2⟩:=JDE h2 e
    have:¬((Sum.inr y:Key)=Sum.inr x):=fun z=>hk (Sum.inr.inj z)
    exact ⟨v',by simpa [List.find?,this] using e1,e2⟩
theorem JD0 {x:Str} {c:Nat}:∀ {kvs:List (D×D)},getK kvs x≠.exc c
 | []=>by intro h;cases h
 |(k,b)::r=>by
  cases k<;>simp only [getK]<;>first | (intro h;cases h;done) | skip
  split
  · intro h;cases h
  · exact JD0
theorem idxOk (g:Gk X B C CX XX G):IxR X (fun v u H Q=>∃dx dy,Den B H dx v/\Den B H dy u/\KE B XX (idxD dx dy) H Q):=by
 intro value slice pins s σ H v u w t Q I rx ry ⟨dx,dy,hx,hy,k⟩ hs
 refine (ix_seq.or JNk) value slice pins s σ H v u w t Q I rx ry ?_ hs
 cases dx with
 | list ds =>
  cases dy<;>first | exact False.elim k | skip
  rename_i i
  simp only [Den] at hx hy
  obtain ⟨p,xs,e,q,l⟩:=hx
  simp only [idxD] at k
  cases qa:VI.atI ds i with
  | none=>rw [qa] at k;exact k.elim
  | some d =>
   rw [qa] at k
   obtain ⟨z,e2,dn⟩:=JJI l qa
   exact .inl (.inl ⟨p,xs,i,z,e,hy,g.K▸q,e2,KE.ok k dn⟩)
 | tuple ds =>
  cases dy<;>first | exact False.elim k | skip
  rename_i i
  simp only [Den] at hx hy
  obtain ⟨p,xs,e,q,l⟩:=hx
  simp only [idxD] at k
  cases qa:VI.atI ds i with
  | none=>rw [qa] at k;exact k.elim
  | some d =>
   rw [qa] at k
   obtain ⟨z,e2,dn⟩:=JJI l qa
   exact .inl (.inr (.inl ⟨p,xs,i,z,e,hy,g.K▸q,e2,KE.ok k dn⟩))
 | dict kvs =>
  cases dy<;>first | exact False.elim k | skip
  rename_i y
  simp only [Den] at hx hy
  simp only [idxD] at k
  rcases hx with ⟨p,c,e1,e2,_⟩ | ⟨p,xs,e1,e2,e3⟩
  ·subst e2;exact False.elim k
  ·cases qg:getK kvs y with
   | ok d =>
    rw [qg] at k
    obtain ⟨z,f1,f2⟩:=JDE e3 qg
    exact .inr ⟨p,xs,y,z,e1,hy,by rw [g.K,g.W];exact e2,f1,KE.ok k f2⟩
   | exc c=>exact (JD0 qg).elim
   | bad=>rw [qg] at k;exact k.elim
 | str z =>
  cases dy<;>first | exact False.elim k | skip
  rename_i i
  simp only [Den] at hx hy
  simp only [idxD] at k
  split at k
  ·rename_i hz
   cases qa:VI.atI z.cps.toList i with
   | none=>rw [qa] at k;exact k.elim
   | some c =>
    rw [qa] at k
    exact .inl (.inr (.inr ⟨z,i,c,hx,hy,by rw [sizeLine_eq];exact Nat.le_trans hz (by decide),qa,k _ _ (Same.refl H) (by simp only [Den])⟩))
  ·exact k.elim
 | _=>exact False.elim k
theorem s_idx (g:Gk X B C CX XX G) (ha:PE X a (RE B C XX x)) (hb:PE X b (RE B C XX y)) (hs:isSlice b=false):PE X (.Subscript a b pos) (RE B C XX (.idx x y)) :=
 PE.imp (pe_ix (idxOk g) ha hb (JOG hs)) fun σ H Q ⟨δ,ok,k⟩=>two g (f:=idxD) (fun x y H dx dy h1 h2 k=>⟨dx,dy,h1,h2,k⟩) ⟨δ,ok,by simpa only [ev] using k⟩
theorem JNB (g:Gk X B C CX XX G) {n:Nat} {fn:List D->R D} {vs:List V} {ds:List D} {H:Hp} {Q:VK} (hn:fn ds≠.bad->ds.length=n) (dn:DenL B H ds vs) (k:KE B XX (fn ds) H Q):JCX B n fn vs H Q (EX B XX):=by
 have hb:fn ds≠.bad:=fun z=>by rw [z] at k;exact k
 refine ⟨by rw [<-DenL.len ds vs dn];exact hn hb,ds,dn,?_⟩
 cases q:fn ds with
 | ok d=>rw [q] at k;exact k
 | exc c=>rw [q] at k;exact fun H' s'=>⟨c,rfl,g.anti c H H' s' k⟩
 | bad=>exact (hb q).elim
end
section
variable {X:Cx} {B:Bs} {C:Cn} {CX:CXT} {XX:Nat->Hp->Prop} {G:List (Str×GK)} {a b c:Expr} {x y z:E} {pos p:Pos}
theorem s_call (g:Gk X B C CX XX G) {i:Nat} {nm:Str} {e:Expr} {r:List Expr} (hg:Gl X nm) (hl:G.lookup nm=some (.fn i)) (hb:JAR nm=false) (ha:PA X (e::r) (RA B C XX x))
  (he:starEach (e::r) X.env=(false,eval e X.env)::starEach r X.env) (hpl:(backTo pos (starEach (e::r) X.env)).any (·.1)=false):PE X (.Call (.Name nm p) (e::r) [] pos) (RE B C XX (.call i x)):=by
 obtain ⟨f,fd,ps,k,hm,hk,F,hr,hbi,hn⟩:=g.fn nm i hl
 refine PE.imp (JMk F hr hg hm hk hbi .nil g.pas ha (JAI hb).1 he ?_) ?_
 ·rw [he] at hpl
  exact hpl
 ·rintro σ H Q ⟨δ,ok,kk⟩
  simp only [ev] at kk
  refine RA.of (W:=fun r H=>KE B XX r H Q) ok (fun _ _ z=>z) (fun _ z=>z) kk fun ds vs H1 s1 d1 h1=>?_
  show JCX B ps.length (C.fn i) (vs++[]) H1 Q (EX B XX)
  rw [List.append_nil]
  exact JNB g (hn ds) d1 (KE.mono g s1 h1)
theorem JIL (g:Gk X B C CX XX G):CallR X (.builtin "len") (fun vs H Q=>∃ds,DenL B H ds vs/\KE B XX (bltD .len ds) H Q):=by
 intro pins s σ H vs us Q I r ⟨ds,dn,k⟩
 refine JKQ pins s σ H vs us Q I r ?_
 match ds,dn,k with
 | [.list ys],dn,k =>
  simp only [DenL,Den] at dn
  obtain ⟨v,r',e,⟨a,xs,e1,q,l⟩,e2⟩:=dn
  subst e2;subst e;subst e1
  exact ⟨_,xs.length,rfl,.inl ⟨xs,g.K▸q,rfl⟩,by rw [<-DenL.len ys xs l];exact KE.ok k (by simp only [Den])⟩
 | [.tuple ys],dn,k =>
  simp only [DenL,Den] at dn
  obtain ⟨v,r',e,⟨a,xs,e1,q,l⟩,e2⟩:=dn
  subst e2;subst e;subst e1
  exact ⟨_,xs.length,rfl,.inr ⟨xs,g.K▸q,rfl⟩,by rw [<-DenL.len ys xs l];exact KE.ok k (by simp only [Den])⟩
 | [],_,k=>exact False.elim k
 | [.none],_,k=>exact False.elim k
 | [.bool _],_,k=>exact False.elim k
 | [.int _],_,k=>exact False.elim k
 | [.str _],_,k=>exact False.elim k
 | [.dict _],_,k=>exact False.elim k
 | d::_::_,_,k=>cases d<;>exact False.elim k
theorem JIG (g:Gk X B C CX XX G):CallR X (.builtin "abs") (fun vs H Q=>∃ds,DenL B H ds vs/\KE B XX (bltD .abs ds) H Q):=by
 intro pins s σ H vs us Q I r ⟨ds,dn,k⟩
 refine JKk pins s σ H vs us Q I r ?_
 match ds,dn,k with
 | [.int i],dn,k =>
  simp only [DenL,Den] at dn
  obtain ⟨v,r',e,e1,e2⟩:=dn
  subst e2;subst e;subst e1
  exact ⟨i,rfl,KE.ok k (by simp only [Den])⟩
 | [],_,k=>exact False.elim k
 | [.none],_,k=>exact False.elim k
 | [.bool _],_,k=>exact False.elim k
 | [.list _],_,k=>exact False.elim k
 | [.tuple _],_,k=>exact False.elim k
 | [.str _],_,k=>exact False.elim k
 | [.dict _],_,k=>exact False.elim k
 | d::_::_,_,k=>cases d<;>exact False.elim k
theorem JJ9 (g:Gk X B C CX XX G) {bl:Blt} {id:String} {nm:Str} {e:Expr} {r:List Expr} (hc:CallR X (.builtin id) (fun vs H Q=>∃ds,DenL B H ds vs/\KE B XX (bltD bl ds) H Q)) (hv:bootBuiltins nm=some (.builtin id))
  (hg:Gl X nm) (hl:G.lookup nm=some (.blt bl)) (hb:JAR nm=false) (ha:PA X (e::r) (RA B C XX x))
  (he:starEach (e::r) X.env=(false,eval e X.env)::starEach r X.env) (hpl:(backTo pos (starEach (e::r) X.env)).any (·.1)=false):PE X (.Call (.Name nm p) (e::r) [] pos) (RE B C XX (.blt bl x)):=by
 refine PE.imp (JDz hc hg (g.blt nm bl hl) hv ha (JAI hb).2.2 (JAI hb).1 he ?_) ?_
 ·rw [he] at hpl
  exact hpl
 ·rintro σ H Q ⟨δ,ok,kk⟩
  simp only [ev] at kk
  refine RA.of (W:=fun r H=>KE B XX r H Q) ok (fun _ _ z=>z) (fun _ z=>z) kk fun ds vs H1 s1 d1 h1=>?_
  exact ⟨ds,d1,KE.mono g s1 h1⟩
theorem JNR (g:Gk X B C CX XX G) (ha:PE X a (RE B C XX x)) (he:∀whole,isTrue a X.env whole=(do let v<-whole;standAt a.pos;holding [v] (truthy v))) (ht:∀δ,evT C x δ=(ev C x δ).bind truth):PT X a (RT B C XX x) :=
 PT.imp (JKi ha he) fun σ H Q ⟨δ,ok,k⟩=>by
  rw [ht] at k
  refine RE.of (W:=fun r H=>KB XX r H Q) ok (fun _ _ z=>z) (fun _ z=>z) k fun d v H1 s1 d1 h1=>?_
  cases q:truth d with
  | ok t=>rw [q] at h1;exact ⟨t,truV g.K d1 q,h1 H1 s1⟩
  | exc c=>exact (JEx q).elim
  | bad=>rw [q] at h1;exact h1.elim
theorem JLz {t:TE} (op:CmpOp) (h:PT X (.Compare a [op] [b] pos) (JPf t)) (ht:∀σ H Q,RE B C XX x σ H Q->t σ H Q) (hb:∀δ,evT C x δ=(ev C x δ).bind truth) (hbool:∀δ d,ev C x δ=.ok d->∃k,d=.bool k):PT X (.Compare a [op] [b] pos) (RT B C XX x) :=
 PT.imp h fun σ H Q ⟨δ,ok,k⟩=>by
  refine ht σ H _ ⟨δ,ok,?_⟩
  rw [hb] at k
  cases q:ev C x δ with
  | ok d =>
   rw [q] at k
   obtain ⟨t',rfl⟩:=hbool δ d q
   intro v H1 s1 d1
   simp only [Den] at d1
   exact ⟨t',d1,k H1 s1⟩
  | exc c=>rw [q] at k;exact k
  | bad=>rw [q] at k;exact k.elim
theorem JK1 (g:Gk X B C CX XX G) (ha:PT X a (RT B C XX x)):PT X (.UnaryOp .Not a pos) (RT B C XX (.not x)) :=
 PT.imp (JOq ha) fun σ H Q ⟨δ,ok,k⟩=>by
  simp only [evT] at k
  exact RT.of (W:=fun r H=>KB XX r H Q) ok (fun _ _ z=>z) (fun _ z=>z) k fun t H1 s1 h1=>h1 H1 s1
theorem w_and (g:Gk X B C CX XX G) {rest:List Expr} (ha:PT X a (RT B C XX x)) (hb:PW X (.BoolOp .And (b::rest) pos) (RT B C XX y)):PW X (.BoolOp .And (a::b::rest) pos) (RT B C XX (.and x y)) :=
 fun wh pins s σ H Q I ⟨δ,ok,k⟩=>JQY ha hb wh pins s σ H Q I (by
  simp only [evT] at k
  refine RT.of (W:=fun r H=>KB XX r H Q) ok (fun _ _ z=>z) (fun _ z=>z) k fun t H1 s1 h1=>?_
  cases t with
  | true=>exact iteT ⟨δ,ok.mono s1,KB.mono g s1 h1⟩
  | false=>exact iteF (h1 H1 s1))
theorem w_or (g:Gk X B C CX XX G) {rest:List Expr} (ha:PT X a (RT B C XX x)) (hb:PW X (.BoolOp .Or (b::rest) pos) (RT B C XX y)):PW X (.BoolOp .Or (a::b::rest) pos) (RT B C XX (.or x y)) :=
 fun wh pins s σ H Q I ⟨δ,ok,k⟩=>pw_or ha hb wh pins s σ H Q I (by
  simp only [evT] at k
  refine RT.of (W:=fun r H=>KB XX r H Q) ok (fun _ _ z=>z) (fun _ z=>z) k fun t H1 s1 h1=>?_
  cases t with
  | true=>exact iteT (h1 H1 s1)
  | false=>exact iteF ⟨δ,ok.mono s1,KB.mono g s1 h1⟩)
end
theorem JDY {prog:Program} {w:World} {A:Around} {R:Result->Shared->Prop} {s:Shared} {elt target iter:Expr} {ifs:List Expr} {scope:Scope} {pos:Pos} {it acc:Value} {env:PySem.Env} (I:Nat->Shared->Prop)
  (turn:∀n s,I n s->wpAny (model prog w) A (pyNext it) (fun r s₁=>match r with
    | none=>R (.ok .next) s₁
    | some v=>wpAny (model prog w) A (letOwnedTupleGo target it v) (fun _ s₁'=>wpAny (model prog w) A (assign target env v) (fun _ s₂ =>
     wpAny (model prog w) A (forIn ifs true fun c r=>if r=true then do let ok<-isTrue c env (eval c env);pure (ForInStep.yield ok) else pure (ForInStep.yield r)) (fun ok s₃ =>
      if ok=true then wpAny (model prog w) A (eval elt env) (fun x s₄ =>
       wpAny (model prog w) A (call (.builtin "list.append") [acc,x]) (fun _ s₅=>∃m,m<n/\I m s₅) (notedBy (model prog w) A env fun e s'=>R (.error e) s') s₄) (notedBy (model prog w) A env fun e s'=>R (.error e) s') s₃
      else ∃m,m<n/\I m s₃) (notedBy (model prog w) A env fun e s'=>R (.error e) s') s₂) (notedBy (model prog w) A env fun e s'=>R (.error e) s') s₁') (notedBy (model prog w) A env fun e s'=>R (.error e) s') s₁) (notedBy (model prog w) A env fun e s'=>R (.error e) s') s)
  (n:Nat) (h:I n s) :
  codeAny (model prog w) A (.compLoop (.ListComp elt [⟨target,iter,ifs,0⟩] scope pos) 0 it acc env) R s:=by
 refine codeAny_loop rfl I (fun n s hI=>?_) n h
 show wpAny _ A ((compTurn (.ListComp elt [⟨target,iter,ifs,0⟩] scope pos) 0 it acc env).onRaise (fun x=>do noteFrame x env;theTreesLotGoes x)) _ _ s
 refine wpAny_noted ?_
 rw [compTurn_list]
 refine q_b (wpAny_standAt (q_b (wpAny_mono (turn n s hI) (fun r s₁ h₁=>?_) fun _ _ h'=>h')))
 cases r with
 | none=>exact q_e h₁
 | some v =>
  refine q_b (wpAny_mono h₁ (fun _ s₁' h₁'=>?_) fun _ _ h'=>h')
  refine q_b (wpAny_mono h₁' (fun _ s₂ h₂=>q_b (wpAny_mono h₂ (fun ok s₃ h₃=>?_) fun _ _ h'=>h')) fun _ _ h'=>h')
  cases ok with
  | false=>exact q_e ⟨rfl,h₃⟩
  | true =>
    exact q_b (q_b (wpAny_mono h₃ (fun x s₄ h₄=>q_b (wpAny_mono h₄ (fun _ s₅ h₅=>q_e (q_e ⟨rfl,h₅⟩)) fun _ _ h'=>h')) fun _ _ h'=>h'))
noncomputable def JAd (X:Cx) (sc:Scope) (Cc:Addr) (N':List Str) (fp:List Addr) (s:Shared) (H:Hp):Cx where
 prog:=X.prog
 w:=X.w
 K:=X.K
 mg:=X.mg
 base:=X.base
 A:=X.A
 N:=N'
 s₀:=s
 H₀:=H
 env:=compEnvC sc (JBA X.env.cells sc.names []) Cc X.env
 outer:=X.stack
 stack:=X.stack
 ex:=fp
 fn:=fun _=>false
 calm:=true
 pn:=[]
 xe:=fun _ _=>False
theorem JAU {X:Cx} {sc:Scope} {Cc:Addr} (hk:X.env.scope.kind=.function):(compEnvC sc (JBA X.env.cells sc.names []) Cc X.env).scope.names=JAr X.env.scope.names sc.names:=by
 show (sc.names.map fun (x:Str×NameKind)=>match x with | (n,k)=>if (k==NameKind.free&&X.env.scope.kind==ScopeKind.function&&X.env.kindOf n==some NameKind.cell)=true then (n,NameKind.cell) else (n,k))=_
 have:(X.env.scope.kind==ScopeKind.function)=true:=by rw [hk];rfl
 simp only [this]
 rfl
theorem JA6 {outer:List (Str×NameKind)}:∀ {names:List (Str×NameKind)} {x:Str},names.lookup x=some .local->(JAr outer names).lookup x=some .local
 | [],x,h=>by simp at h
 |(n,k)::r,x,h=>by
  unfold JAr
  rw [List.map_cons]
  rw [List.lookup_cons] at h
  cases q:x==n with
  | true =>
    rw [q] at h
    cases h
    show List.lookup x ((if (NameKind.local==NameKind.free&&true&&outer.lookup n==some NameKind.cell)=true then (n,NameKind.cell) else (n,NameKind.local))::_)=_
    rw [if_neg (by simp),List.lookup_cons,q]
  | false =>
    rw [q] at h
    have e:∀kk,List.lookup x ((n,kk)::JAr outer r)=List.lookup x (JAr outer r):=fun kk=>by rw [List.lookup_cons,q]
    show List.lookup x ((if (k==NameKind.free&&true&&outer.lookup n==some NameKind.cell)=true then (n,NameKind.cell) else (n,k))::JAr outer r)=_
    split
    ·rw [e];exact JA6 h
    ·rw [e];exact JA6 h
theorem JBP {outer:List (Str×NameKind)}:∀ {names:List (Str×NameKind)} {x:Str},(∀y∈names,y.2≠.cell)->(JAr outer names).lookup x=some .cell\/(JAr outer names).lookup x=some .free->(x,NameKind.free)∈names
 | [],x,_,h=>by simp [JAr] at h
 |(n,k)::r,x,hc,h=>by
  have hc':∀y∈r,y.2≠.cell:=fun y hy=>hc y (q_s _ hy)
  have hk:k≠.cell:=hc (n,k) List.mem_cons_self
  have e0:JAr outer ((n,k)::r)=(if (k==NameKind.free&&true&&outer.lookup n==some NameKind.cell)=true then (n,NameKind.cell) else (n,k))::JAr outer r:=rfl
  rw [e0] at h
  cases q:x==n with
  | true =>
    have e:x=n:=eq_of_beq q
    subst e
    by_cases hf:k=.free
    ·subst hf;exact List.mem_cons_self
    ·rw [if_neg (by simp [hf]),List.lookup_cons,q] at h
     rcases h with h | h
     ·exact absurd (Option.some.inj h) hk
     ·exact absurd (Option.some.inj h) hf
  | false =>
    have e:∀kk,List.lookup x ((n,kk)::JAr outer r)=List.lookup x (JAr outer r):=fun kk=>by rw [List.lookup_cons,q]
    have h':List.lookup x (JAr outer r)=some .cell\/List.lookup x (JAr outer r)=some .free:=by
     split at h
     ·rw [e] at h;exact h
     ·rw [e] at h;exact h
    exact q_s _ (JBP hc' h')
section
variable {X:Cx} {B:Bs} {C:Cn} {CX:CXT} {G:List (Str×GK)} {pins:List (Addr×Obj)} {σ:St} {H:Hp} {s:Shared} {sc:Scope} {fp:List Addr} {N':List Str} {Cc:Addr}
structure BlkOk (X:Cx) (sc:Scope) (xs:List Str):Prop where
 kind:sc.kind=.function
 nocell:∀y∈sc.names,y.2≠.cell
 loc:∀y∈sc.names,y.2=.local->sc.names.lookup y.1=some .local
 free:∀n,(n,NameKind.free)∈sc.names->X.env.kindOf n=some .cell\/X.env.kindOf n=some .free
 tg:∀x∈xs,sc.names.lookup x=some .local
 out:∀y∈X.N,y ∉ xs->sc.names.lookup y≠some .local
 dots:∀i,i<X.N.length->Vis (compEnvC sc (JBA X.env.cells sc.names []) 0 X.env).scope (dots i)->False
 nd:(xs++mask xs 0 X.N).Nodup
theorem vis_same {Cc C':Addr} {x:Str}:Vis (compEnvC sc (JBA X.env.cells sc.names []) Cc X.env).scope x↔Vis (compEnvC sc (JBA X.env.cells sc.names []) C' X.env).scope x:=Iff.rfl
theorem BlkOk.clos {xs:List Str} (b:BlkOk X sc xs) (ok:X.Ok):closureFor sc X.env=pure (JBA X.env.cells sc.names []) :=
 JD7 fun n hn=>by
  obtain ⟨c,hc⟩:=ok.has n (b.free n hn)
  rw [hc];rfl
theorem JBK {xs:List Str} (b:BlkOk X sc xs) (ok:X.Ok) {x:Str} {c:Addr}:(JBA X.env.cells sc.names []).lookup x=some c↔(x,NameKind.free)∈sc.names/\X.env.cells.lookup x=some c:=by
 rw [JBf]
 by_cases h:(x,NameKind.free)∈sc.names
 ·rw [if_pos h]
  obtain ⟨d,hd⟩:=ok.has x (b.free x h)
  rw [hd]
  simp [h]
 ·rw [if_neg h]
  simp [h]
theorem JOI {xs:List Str} (b:BlkOk X sc xs) (hcalm:X.calm=true) (I:Inv X pins σ H s) (hf:∀b∈fp,FpOk X pins H b) (hlt:∀b∈fp,b<s.heap.objs.size) (hC:s.heap.objs.size<=Cc):(JAd X sc Cc N' fp s H).Ok where
 mod:=I.mod
 kind:=b.kind
 glob:=I.ok.glob
 blt:=I.ok.blt
 above:=hC
 inj:=fun x y c h1 h2=>I.ok.inj x y c ((JBK b I.ok).mp h1).2 ((JBK b I.ok).mp h2).2
 has:=fun x h=>by
  have e:=JAU (X:=X) (sc:=sc) (Cc:=Cc) I.ok.kind
  have h':(JAr X.env.scope.names sc.names).lookup x=some .cell\/(JAr X.env.scope.names sc.names).lookup x=some .free:=by
   rw [<-e];exact h
  have hm:=JBP b.nocell h'
  obtain ⟨c,hc⟩:=I.ok.has x (b.free x hm)
  exact ⟨c,(JBK b I.ok).mpr ⟨hm,hc⟩⟩
 cab:=fun _ _ z=>by cases z
 hd:=fun _=>I.ok.hd hcalm
 frames:=I.ok.frames
 stk:=.inl rfl
 exf:=fun a ha=>⟨q_l (q_m (hlt a ha) hC),fun x c e=>(hf a ha).2.2.2.2.1 x c ((JBK b I.ok).mp e).2⟩
 bs:=I.bs
 bsz:=Nat.le_trans I.ok.bsz I.sz
 noex:=fun a o e ha=>by
  rcases (hf a ha).2.2.2.1 with z | z
  ·exact I.ok.noex a o e z
  ·exact absurd (q_m (q_h e) (Nat.le_trans I.ok.bsz z)) (Nat.lt_irrefl _)
 exfs:=fun a ha hm=>by
  rcases q_n.mp (I.stkSub a hm) with z | z
  ·exact (hf a ha).2.1 z
  ·exact (hf a ha).2.2.1 z
 funs:=I.stack
 frf:=I.stkFree
theorem JGe {xs:List Str}:∀(N:List Str) (i j:Nat) (y:Str),(mask xs i N)[j]? = some y->∃z,N[j]? = some z/\((z ∉ xs/\y=z)\/(z∈xs/\y=dots (i+j)))
 | [],_,_,_,h=>by simp [mask] at h
 | z::r,i,0,y,h=>by
  unfold mask at h
  simp only [List.getElem?_cons_zero,q_j] at h
  refine ⟨z,rfl,?_⟩
  split at h
  ·rename_i hc;exact .inr ⟨by simpa using hc,h.symm⟩
  ·rename_i hc;exact .inl ⟨by simpa using hc,h.symm⟩
 | z::r,i,j+1,y,h=>by
  unfold mask at h
  simp only [List.getElem?_cons_succ] at h
  obtain ⟨w,e,q⟩:=JGe r (i+1) j y h
  refine ⟨w,by simpa using e,?_⟩
  rw [show i+(j+1)=i+1+j by omega]
  exact q
theorem JGX {xs:List Str}:∀(N:List Str) (i:Nat),(mask xs i N).length=N.length
 | [],_=>rfl
 | _::r,i=>by simp only [mask,List.length_cons,JGX r]
theorem JG8 {xs:List Str} (b:BlkOk X sc xs) (hcalm:X.calm=true) (I:Inv X pins σ H s) (hf:∀b∈fp,FpOk X pins H b) (hlt:∀b∈fp,b<s.heap.objs.size) (hC:s.heap.objs.size<=Cc)
  {h':Heap} {t':Nat} {m:Str->Option Value} (k:∀b o,s.heap.get? b=some o->h'.get? b=some o) (hn:h'.Ns Cc m) :
  Inv (JAd X sc Cc (xs++mask xs 0 X.N) fp s H) [] (xs.map (fun _=>none)++σ) H { s with heap:=h',toks:=t' } where
 ok:=JOI b hcalm I hf hlt hC
 os:=rfl
 bare:=I.bare
 base:=Un.kept k
 loc:=by
  refine ⟨m,hn,fun i y v e1 e2 e3=>?_⟩
  by_cases hi:i<xs.length
  ·rw [q_C (by simpa using hi)] at e2
   simp [hi] at e2
  ·have hi':xs.length<=i:=by omega
   rw [List.getElem?_append_right (by simpa using hi')] at e2
   simp only [q_g] at e2
   have e1':(mask xs 0 X.N)[i - xs.length]? = some y:=by
    have:(xs++mask xs 0 X.N)[i]? = some y:=e1
    rwa [List.getElem?_append_right hi'] at this
   obtain ⟨z,ez,q⟩:=JGe X.N 0 _ y e1'
   rcases q with ⟨hz,rfl⟩ | ⟨hz,rfl⟩
   ·have e3':Vis (compEnvC sc (JBA X.env.cells sc.names []) Cc X.env).scope y:=e3
    have hfree:(y,NameKind.free)∈sc.names:=by
     have en:=JAU (X:=X) (sc:=sc) (Cc:=Cc) I.ok.kind
     unfold Vis at e3'
     rw [en] at e3'
     rcases e3' with e | e | e
     ·exfalso
      refine b.out y (List.mem_of_getElem? ez) hz ?_
      have:∀(names:List (Str×NameKind)),(JAr X.env.scope.names names).lookup y=some .local->names.lookup y=some .local:=by
       intro names
       induction names with
       | nil=>intro h;simp [JAr] at h
       | cons p r ih =>
        obtain ⟨n,kk⟩:=p
        intro h
        have e0:JAr X.env.scope.names ((n,kk)::r)=(if (kk==NameKind.free&&true&&X.env.scope.names.lookup n==some NameKind.cell)=true then (n,NameKind.cell) else (n,kk))::JAr X.env.scope.names r:=rfl
        rw [e0] at h
        rw [List.lookup_cons]
        split at h
        ·rw [List.lookup_cons] at h
         cases q:y==n with
         | true=>rw [q] at h;cases h
         | false=>rw [q] at h;exact ih h
        ·rw [List.lookup_cons] at h
         cases q:y==n with
         | true=>rw [q] at h;exact h
         | false=>rw [q] at h;exact ih h
      exact this sc.names e
     ·exact JBP b.nocell (.inl e)
     ·exact JBP b.nocell (.inr e)
    have hvis:Vis X.env.scope y:=by
     rcases b.free y hfree with e | e
     ·exact .inr (.inl e)
     ·exact .inr (.inr e)
    obtain ⟨mm,hmm,hl⟩:=I.loc
    obtain ⟨u,r,l⟩:=hl (i - xs.length) y v ez e2 hvis
    refine ⟨u,r,.inr ⟨?_,?_⟩⟩
    ·have en:=JAU (X:=X) (sc:=sc) (Cc:=Cc) I.ok.kind
     rcases e3' with e | e | e
     ·exfalso
      have e':(JAr X.env.scope.names sc.names).lookup y=some .local:=by rw [<-en];exact e
      have hh:=JBP (outer:=X.env.scope.names) (names:=sc.names) (x:=y) b.nocell
      have:∀(names:List (Str×NameKind)),(JAr X.env.scope.names names).lookup y=some .local->names.lookup y=some .local:=by
       intro names
       induction names with
       | nil=>intro h;simp [JAr] at h
       | cons p r ih =>
        obtain ⟨n,kk⟩:=p
        intro h
        have e0:JAr X.env.scope.names ((n,kk)::r)=(if (kk==NameKind.free&&true&&X.env.scope.names.lookup n==some NameKind.cell)=true then (n,NameKind.cell) else (n,kk))::JAr X.env.scope.names r:=rfl
        rw [e0] at h
        rw [List.lookup_cons]
        split at h
        ·rw [List.lookup_cons] at h
         cases q:y==n with
         | true=>rw [q] at h;cases h
         | false=>rw [q] at h;exact ih h
        ·rw [List.lookup_cons] at h
         cases q:y==n with
         | true=>rw [q] at h;exact h
         | false=>rw [q] at h;exact ih h
      exact b.out y (List.mem_of_getElem? ez) hz (this sc.names e')
     ·exact .inl e
     ·exact .inr e
    ·rcases l with ⟨hk,_⟩ | ⟨_,c,hc,hcell⟩
     ·exfalso
      rcases b.free y hfree with e | e
      ·rw [e] at hk;cases hk
      ·rw [e] at hk;cases hk
     ·refine ⟨c,(JBK b I.ok).mpr ⟨hfree,hc⟩,?_⟩
      obtain ⟨o,ho,hd⟩:=hcell
      exact ⟨o,k _ _ ho,hd⟩
   ·exfalso
    have hlt':i - xs.length<X.N.length:=(q_p.mp ez).1
    have:dots (0+(i - xs.length))=dots (i - xs.length):=by rw [Nat.zero_add]
    exact b.dots (i - xs.length) hlt' (by rw [<-this];exact vis_same.mp e3)
 cell:=fun x c e=>by
  obtain ⟨v,o,ho,hd⟩:=I.cell x c ((JBK b I.ok).mp e).2
  exact ⟨v,o,k _ _ ho,hd⟩
 free:=I.hok.fresh hC
 freeC:=fun x c e=>I.freeC x c ((JBK b I.ok).mp e).2
 pin:=fun p hp=>absurd (show p∈([]:List (Addr×Obj)) from hp) (by simp)
 hok:=I.hok.kept k
 len:=by
  show (xs.map (fun _=>(none:Option V))++σ).length=(xs++mask xs 0 X.N).length
  rw [q_u,q_u,q_g,JGX,I.len]
end
section
variable {X:Cx} {B:Bs} {C:Cn} {CX:CXT} {XX:Nat->Hp->Prop} {G:List (Str×GK)} {pins:List (Addr×Obj)} {σ:St} {H:Hp} {s:Shared} {sc:Scope} {N':List Str} {Cc:Addr}
abbrev noE:Value->Shared->Prop:=fun _ _=>False
noncomputable def JBz (X':Cx) (B:Bs) (σ:St) (n:Nat) (δ:Env) (target elt:Expr) (ifs:List Expr) (F:D->R (Option D)):Prop :=
 ∀(pins:List (Addr×Obj)) (s:Shared) (pre:St) (H:Hp) (d:D) (o:Option D) (v:V) (u:Value),pre.length=n->F d=.ok o->Inv X' pins (pre++σ) H s->RelV v u->Den B H d v->Sok B σ H δ ->
  wpAny (model X'.prog X'.w) X'.A (assign target X'.env u) (fun _ s₂ =>
   wpAny (model X'.prog X'.w) X'.A (forIn ifs true fun c r=>if r=true then do let ok<-isTrue c X'.env (eval c X'.env);pure (ForInStep.yield ok) else pure (ForInStep.yield r)) (fun ok s₃ =>
    if ok=true then ∃y,o=some y/\wpAny (model X'.prog X'.w) X'.A (eval elt X'.env) (fun x s₄=>∃pre' H' w,pre'.length=n/\Inv X' pins (pre'++σ) H' s₄/\Same H H'/\RelV w x/\Den B H' y w) noE s₃
    else o=none/\∃pre' H',pre'.length=n/\Inv X' pins (pre'++σ) H' s₃/\Same H H') noE s₂) noE s
theorem JFC {α:Type} {l:List α} {j:Nat} (h:j<l.length):l.drop j=l[j]::l.drop (j+1):=List.drop_eq_getElem_cons h
theorem JHn {elt iter target:Expr} {ifs:List Expr} {pos pos':Pos} {i:E} {δ:Env} {xs:List Str} {ds zs:List D} {F:D->R (Option D)} {use:Option (Value->Sem Unit)} {Q:Value->Shared->Prop}
  (g:Gk X B C CX XX G) (b:BlkOk X sc xs) (hi:PI X target iter (RI B C XX i)) (hs:∀x,foldedSetIterable iter X.env x=pure x)
  (hrun:∀Cc fp s0 H0,JBz (JAd X sc Cc (xs++mask xs 0 X.N) fp s0 H0) B σ xs.length δ target elt ifs F)
  (I:Inv X pins σ H s) (ok:Sok B σ H δ) (hds:evI C i δ=.ok ds) (hlen:ds.length<=16777216) (hz:JAs F ds=.ok zs)
  (fin:∀(D Cc:Addr) (s':Shared) (m:Str->Option Value) (H3:Hp) (yv:List V),s'.heap.Ns Cc m->Inv X pins σ (upd H3 D (.lst yv)) s'->Same H H3->H3 D=none->DenL B H3 zs yv->(upd H3 D (.lst yv)) Cc=none->Cc≠X.env.locals->X.s₀.heap.objs.size<=Cc ->
    (∀x c,X.env.cells.lookup x=some c->c≠Cc)->(∀p∈X.pn++pins,p.1≠Cc)->compPost (model X.prog X.w) X.A X.xe use Q (.ref D) Cc (.ok .next) s') :
  wpAny (model X.prog X.w) X.A (comprehension (.ListComp elt [⟨target,iter,ifs,0⟩] sc pos) sc X.env pos' (newList []) false (eval iter X.env) use) Q X.xe s:=by
 refine wpAny_comprehension_free rfl hs (b.clos I.ok) b.kind b.loc (wpAny_mono (hi pins s σ H (fun J H1=>Same H H1/\ItOk B J H1 ds) I ⟨δ,ok,?_⟩) (fun xv s₁ h₁=>wpAny_mono h₁ (fun itv s₂ h₂=>?_) (fun _ _ e=>e)) (fun _ _ e=>e))
 ·rw [hds];exact fun J H' s' io=>⟨s',io⟩
 obtain ⟨it,fp,tn,J,H2,e,I2,T,st2,f2,sm2,io⟩:=h₂
 subst e
 have hlt:∀b∈fp,b<s₂.heap.objs.size:=fun b hb=>by
  obtain ⟨o,ho,_⟩:=T.obj 0 _ st2 b hb
  exact q_h ho
 refine wpAny_newObj_type (wpAny_newFunctionEnv b.nocell (by intro y hy;simp at hy) (fun h₁ hns₁ hsb₁=>?_) b.kind)
 dsimp only at hns₁ hsb₁ ⊢
 generalize hH2:s₂.heap.push { cls:=.type "list",dict:=none,data:=.seq ([]:List Value).toArray }=P2 at hns₁ hsb₁ ⊢
 have hC:P2.objs.size=s₂.heap.objs.size+1:=by rw [<-hH2,Heap.size_push]
 have hCle:s₂.heap.objs.size<=P2.objs.size:=by rw [hC];exact Nat.le_succ _
 have hDC:s₂.heap.objs.size≠P2.objs.size:=by rw [hC];exact q_l (Nat.lt_succ_self _)
 have below:∀b,b<s₂.heap.objs.size->b≠P2.objs.size:=fun b hb=>by rw [hC];exact q_l (q_E hb)
 have old:∀b o,s₂.heap.get? b=some o->h₁.get? b=some o:=fun b o e=>hsb₁.extBut b o (below b (q_h e)) (q_c _ (hH2▸q_c _ e))
 have hacc:h₁.get? s₂.heap.objs.size=some { cls:=.type "list",dict:=none,data:=.seq ([]:List Value).toArray }:=hsb₁.extBut _ _ hDC (q_c _ (hH2▸q_k _ rfl))
 have I4:=JG8 (fp:=fp) (t':=s₂.toks+([]:List (Str×Value)).length) b g.calm I2 f2 hlt hCle old hns₁
 have st4:tn 0 h₁:=T.keep _ _ _ st2 fun b _ o e=>old b o e
 have hH2D:H2 s₂.heap.objs.size=none:=I2.hok.fresh (q_t _)
 have fpX:∀ {ps:List (Addr×Obj)} {H':Hp},(∀b∈fp,H' b=none)->(∀p∈ps,p.1=s₂.heap.objs.size)->∀b∈fp,FpOk (JAd X sc P2.objs.size (xs++mask xs 0 X.N) fp s₂ H2) ps H' b:=fun {ps H'} hn hp a ha=>by
  refine ⟨hn a ha,below a (hlt a ha),I4.ok.exfs a ha,.inl ha,fun x c e=>(I4.ok.exf a ha).2 x c e,fun p hpp=>?_⟩
  have hpp':p∈ps:=hpp
  rw [hp p hpp']
  exact Nat.ne_of_gt (hlt a ha)
 have loop:∀s₃:Shared,s₃={ s₂ with heap:=h₁,toks:=s₂.toks+([]:List (Str×Value)).length } ->
    codeAny (model X.prog X.w) X.A (.compLoop (.ListComp elt [⟨target,iter,ifs,0⟩] sc pos) 0 (.ref it) (.ref s₂.heap.objs.size) (JAd X sc P2.objs.size (xs++mask xs 0 X.N) fp s₂ H2).env)
      (compPost (model X.prog X.w) X.A X.xe use Q (.ref s₂.heap.objs.size) P2.objs.size) s₃:=by
  rintro s₃ rfl
  refine JDY (fun n s'=>∃(j:Nat) (pre:St) (H':Hp) (ys:List D) (yv:List V) (its:List Value) (ep:Nat) (rest:List D),n=ds.length - j/\j<=ds.length/\pre.length=xs.length /\
    Inv (JAd X sc P2.objs.size (xs++mask xs 0 X.N) fp s₂ H2) [] (pre++σ) H' s'/\tn j s'.heap/\(∀b∈fp,H' b=none)/\Same H2 H'/\H' s₂.heap.objs.size=none /\
    s'.heap.get? s₂.heap.objs.size=some { cls:=.type "list",data:=.seq its.toArray ep }/\Vals yv its/\DenL B H' ys yv/\ys.length<=j/\JAs F (ds.drop j)=.ok rest/\zs=ys++rest) ?_ ds.length
    ⟨0,xs.map (fun _=>none),H2,[],[],[],0,zs,by simp,Nat.zero_le _,by simp,I4,st4,fun b hb=>(f2 b hb).1,Same.refl _,hH2D,hacc,.nil,by simp only [DenL],q_t _,by simpa using hz,rfl⟩
  rintro n s3 ⟨j,pre,H3,ys,yv,its,ep,rest,hn,hj,hpl,I3,st3,fr3,sm3,hD3,ho3,rv3,dn3,hyl,hr3,hzs⟩
  subst hn
  have I3p:Inv (JAd X sc P2.objs.size (xs++mask xs 0 X.N) fp s₂ H2) [(s₂.heap.objs.size,{ cls:=.type "list",data:=.seq its.toArray ep })] (pre++σ) H3 s3:=I3.pins_of fun p hp=>by
    have e:p=(s₂.heap.objs.size,{ cls:=.type "list",data:=.seq its.toArray ep }):=by simpa using hp
    subst e
    refine ⟨ho3,hD3,hDC,fun hm=>?_,fun v z=>?_⟩
    · obtain ⟨_,o,ho,_⟩:=I4.ok.funs.mem hm
      exact absurd (q_h ho) (Nat.lt_irrefl _)
    · have z':Data.seq its.toArray ep=Data.cell v:=z
      cases z'
  have sameE:∀(e:Value) (s':Shared),noE e s'->notedBy (model X.prog X.w) X.A (JAd X sc P2.objs.size (xs++mask xs 0 X.N) fp s₂ H2).env (fun e s'=>compPost (model X.prog X.w) X.A X.xe use Q (.ref s₂.heap.objs.size) P2.objs.size (.error e) s') e s':=fun _ _ z=>z.elim
  by_cases hlt3:j<ds.length
  ·
    have hd:ds[j]? = some ds[j]:=by simp [hlt3]
    obtain ⟨go,yl⟩:=(io H3 sm3 j).1 ds[j] hd
    refine wpAny_mono (T.item (JAd X sc P2.objs.size (xs++mask xs 0 X.N) fp s₂ H2) rfl rfl rfl rfl j [(s₂.heap.objs.size,{ cls:=.type "list",data:=.seq its.toArray ep })] s3 (pre++σ) H3 noE I3p (fpX fr3 (fun p hp=>by rw [List.mem_singleton.mp hp])) st3 go) (fun r s4 h4=>?_) sameE
    obtain ⟨u,hu,h4⟩:=h4
    subst hu
    show wpAny _ _ (letOwnedTupleGo target (.ref it) u) _ _ s4
    refine wpAny_mono h4 (fun _ s5 h5=>?_) sameE
    obtain ⟨v,H5,I5,r5,y5,st5,fr5⟩:=h5
    obtain ⟨s35,d5⟩:Same H3 H5/\Den B H5 ds[j] v:=by
      rcases yl v H5 y5 with ⟨e5,d5⟩ | ⟨p,ws,es,hp,e5,ex,ed,dl⟩
      · subst e5;exact ⟨Same.refl _,Den.mono sm3 _ _ d5⟩
      · subst e5;subst ex
        have s35:Same H3 (upd H3 p (.tup ws)):=JAZ hp
        refine ⟨s35,?_⟩
        rw [ed]
        simp only [Den]
        exact ⟨p,ws,rfl,SqT.of JAG,DenL.mono (sm3.trans s35) _ _ dl⟩
    replace sm3:=sm3.trans s35
    replace dn3:=DenL.mono s35 ys yv dn3
    have I5p:=I5.pinned (fpX fr5 (fun p hp=>by rw [List.mem_singleton.mp hp])) (T.obj _ _ st5)
    rw [JFC hlt3] at hr3
    unfold JAs at hr3
    have okσ:Sok B σ H5 δ:=(ok.mono sm2).mono sm3
    cases qF:F ds[j] with
    | exc c=>rw [qF] at hr3;cases hr3
    | bad=>rw [qF] at hr3;cases hr3
    | ok o =>
      have hstep:=hrun P2.objs.size fp s₂ H2 _ s5 pre H5 ds[j] o v u hpl qF I5p r5 d5 okσ
      refine wpAny_mono hstep (fun _ s6 h6=>wpAny_mono h6 (fun okb s7 h7=>?_) sameE) sameE
      have back:∀ {σ':St} {H':Hp} {s':Shared},Inv (JAd X sc P2.objs.size (xs++mask xs 0 X.N) fp s₂ H2) ([(s₂.heap.objs.size,{ cls:=.type "list",data:=.seq its.toArray ep })]++JE5 fp s5.heap) σ' H' s' ->
         s'.heap.get? s₂.heap.objs.size=some { cls:=.type "list",data:=.seq its.toArray ep }/\H' s₂.heap.objs.size=none/\tn (j+1) s'.heap/\(∀b∈fp,H' b=none):=fun {σ' H' s'} J'=>by
        have p0:=J'.pin (s₂.heap.objs.size,{ cls:=.type "list",data:=.seq its.toArray ep }) (q_r _ (List.mem_append_left _ (by simp)))
        refine ⟨p0.1,p0.2.1,T.keep _ _ _ st5 fun a ha o e=>(J'.pin (a,o) (q_r _ (q_r _ (JBp ha e)))).1,fun a ha=>?_⟩
        obtain ⟨o,e,_⟩:=T.obj _ _ st5 a ha
        exact (J'.pin (a,o) (q_r _ (q_r _ (JBp ha e)))).2.1
      cases okb with
      | false =>
        obtain ⟨eo,pre',H',hp',I',sm'⟩:=h7
        subst eo
        rw [qF] at hr3
        obtain ⟨b1,b2,b3,b4⟩:=back I'
        rw [if_neg Bool.false_ne_true]
        refine ⟨ds.length - (j+1),by omega,j+1,pre',H',ys,yv,its,ep,rest,rfl,hlt3,hp',I'.pins_of (fun p hp=>absurd hp (by simp)),b3,b4,sm3.trans sm',b2,b1,rv3,DenL.mono sm' ys yv dn3,by omega,hr3,hzs⟩
      | true =>
        rw [if_pos rfl] at h7 ⊢
        obtain ⟨y,eo,h7⟩:=h7
        subst eo
        rw [qF] at hr3
        cases qr:JAs F (ds.drop (j+1)) with
        | exc c=>simp only [qr] at hr3;cases hr3
        | bad=>simp only [qr] at hr3;cases hr3
        | ok rs =>
         simp only [qr] at hr3
         have hr3':y::rs=rest:=by injection hr3
         refine wpAny_mono h7 (fun x s8 h8=>?_) sameE
         obtain ⟨pre',H',w',hp',I',sm',rw8,d8⟩:=h8
         obtain ⟨b1,b2,b3,b4⟩:=back I'
         have hsz:its.length<=j:=by rw [<-rv3.length,<-DenL.len ys yv dn3];exact hyl
         have hlim:its.toArray.size<sizeLine:=by rw [q_f,sizeLine_eq];omega
         refine call_meets PySem.F.slot_list_append ⟨_,b1,rfl⟩ PySem.F.entry_list_append (PySem.F.args_list_append_2 _ _) (PySem.list_append s₂.heap.objs.size its.toArray ep x (by omega)) ⟨b1,?_⟩
         have q8:=PySem.IsL.update b1 (fun a=>a.push x)
         have q8':(s8.heap.update s₂.heap.objs.size (Obj.mapSeq (fun a=>a.push x))).get? s₂.heap.objs.size=some { cls:=.type "list",data:=.seq (its++[x]).toArray (if (its.toArray.push x).size==its.toArray.size then ep else ep+1) }:=by simpa using q8
         have I0:Inv (JAd X sc P2.objs.size (xs++mask xs 0 X.N) fp s₂ H2) [] (pre'++σ) H' s8:=I'.pins_of (fun p hp=>absurd hp (by simp))
         have I9:=I0.turned (h':=s8.heap.update s₂.heap.objs.size (Obj.mapSeq (fun a=>a.push x))) (t':=s8.toks) (it:=s₂.heap.objs.size) (fun b o hb e=>(Heap.get?_update_other _ _ (Ne.symm hb)).trans e) b2 hDC (.inr (q_t _))
          (fun x c e z=>by
            obtain ⟨v',o',ho',_⟩:=I2.cell x c ((JBK b I.ok).mp e).2
            rw [z] at ho'
            exact absurd (q_h ho') (Nat.lt_irrefl _)) (fun p hp=>absurd (show p∈([]:List (Addr×Obj)) from hp) (by simp))
         refine ⟨ds.length - (j+1),by omega,j+1,pre',H',ys++[y],yv++[w'],its++[x],_,rs,rfl,hlt3,hp',I9,T.keep _ _ _ b3 fun a ha o e=>(Heap.get?_update_other _ _ (Nat.ne_of_gt (hlt a ha))).trans e,b4,sm3.trans sm',b2,q8',rv3.append (.cons rw8 .nil),
          DenL.append ys [y] yv [w'] (DenL.mono sm' ys yv dn3) (by simp only [DenL];exact ⟨w',[],rfl,d8,rfl⟩),by rw [q_u,List.length_singleton];omega,qr,by rw [hzs,<-hr3'];simp⟩
  ·
    have ej:j=ds.length:=by omega
    have stop:=(io H3 sm3 j).2 (by omega)
    refine wpAny_mono (T.done (JAd X sc P2.objs.size (xs++mask xs 0 X.N) fp s₂ H2) rfl rfl rfl rfl j [(s₂.heap.objs.size,{ cls:=.type "list",data:=.seq its.toArray ep })] s3 (pre++σ) H3 noE I3p (fpX fr3 (fun p hp=>by rw [List.mem_singleton.mp hp])) st3 stop) (fun r s4 h4=>?_) sameE
    obtain ⟨hr,I5⟩:=h4
    subst hr
    show compPost _ _ _ _ _ _ _ _ s4
    have p0:=I5.pin (s₂.heap.objs.size,{ cls:=.type "list",data:=.seq its.toArray ep }) (q_r _ (by simp))
    have hrest:rest=[]:=by
      rw [ej,List.drop_length] at hr3
      unfold JAs at hr3
      injection hr3 with hr3
      exact hr3.symm
    have u0:Un (frs X.stack) fp H2 H3 s₂.heap s4.heap:=I5.base
    have neD:∀b o,s₂.heap.get? b=some o->b≠s₂.heap.objs.size:=fun b o e=>q_l (q_h e)
    have nD:∀b o,H3 b=some o->b≠s₂.heap.objs.size:=fun b o e z=>by rw [z,hD3] at e;cases e
    have u1:Un (frs X.stack) fp H2 (upd H3 s₂.heap.objs.size (.lst yv)) s₂.heap s4.heap :=
      ⟨u0.keep,u0.slot,fun b o e n hx=>by rw [JAM (neD b o e)];exact u0.free b o e n hx,u0.there,fun b xs' e=>by rw [JAM (nD b _ (u0.tups b xs' e))];exact u0.tups b xs' e,
        fun b o u e=>by rw [JAM (nD b _ (u0.frzs b o u e))];exact u0.frzs b o u e,fun b ps e=>by
         obtain ⟨more,q⟩:=u0.tbls b ps e
         exact ⟨more,by rw [JAM (nD b _ q)];exact q⟩⟩
    have hvl:yv.length<=sizeLine:=by rw [<-DenL.len ys yv dn3,sizeLine_eq];omega
    have hok1:HOk X.prog X.w (upd H3 s₂.heap.objs.size (.lst yv)) s4.heap:=fun a u e=>by
      by_cases ha:a=s₂.heap.objs.size
      · subst ha
        rw [JAG] at e;cases e
        exact ⟨hvl,its,ep,rv3,p0.1⟩
      · rw [JAM ha] at e
        exact (I5.hok a u e).stay (fun c w' _ q=>q) (fun c q=>by rw [JAM (nD c _ q)];exact q) fun c xs' q=>by rw [JAM (nD c _ q)];exact q
    have J:=I2.call' (s':=s4) I5.os u1 hok1 I5.bare fun a ha=>⟨(f2 a ha).2.2.2.1,(f2 a ha).2.1,(f2 a ha).2.2.2.2.1,(f2 a ha).2.2.2.2.2⟩
    obtain ⟨m4,hn4,_⟩:=I5.loc
    refine fin s₂.heap.objs.size P2.objs.size s4 m4 H3 yv hn4 J (sm2.trans sm3) hD3 ?_ ?_ ?_ ?_ ?_ ?_
    · rw [hzs,hrest,List.append_nil]
      exact dn3
    · rw [JAM (Ne.symm hDC)];exact I5.free
    · exact Nat.ne_of_gt (q_m I2.lt hCle)
    · exact Nat.le_trans I2.sz hCle
    · intro x c e z
      obtain ⟨v',o',ho',_⟩:=I2.cell x c e
      rw [z] at ho'
      exact absurd (q_m (q_h ho') hCle) (Nat.lt_irrefl _)
    · intro p hp z
      exact absurd (q_m (q_h (I2.pin p hp).1) (by rw [z];exact hCle)) (Nat.lt_irrefl _)
 exact codeAny_compStart_list (loop _ rfl) (T.self _ _ _ _ _ st4 (loop _ rfl))
end
theorem JE0 {B:Bs} {H:Hp} {a:Addr} {ds:List D} {xs:List V} (q:SqL B.K H a xs) (l:DenL B H ds xs):ItOk B (Itl B.K a) H ds:=by
 intro H2 s2 i
 have q2:=s2.seq q
 refine ⟨fun d e=>?_,fun h=>⟨xs,q2,by rw [<-DenL.len ds xs l];exact h⟩⟩
 obtain ⟨v,e1,dn⟩:=DenL.get ds xs i d l e
 refine ⟨⟨xs,v,q2,e1⟩,fun x H3 y=>?_⟩
 obtain ⟨e3,y⟩:=y
 have:=y xs q2
 rw [e1] at this
 cases this
 exact .inl ⟨e3,dn⟩
theorem JF8 {B:Bs} {H:Hp} {a:Addr} {ds:List D} {xs:List V} (q:SqT B.K H a xs) (l:DenL B H ds xs):ItOk B (Itt B.K a) H ds:=by
 intro H2 s2 i
 have q2:=JJz s2 q
 refine ⟨fun d e=>?_,fun h=>⟨xs,q2,by rw [<-DenL.len ds xs l];exact h⟩⟩
 obtain ⟨v,e1,dn⟩:=DenL.get ds xs i d l e
 refine ⟨⟨xs,v,q2,e1⟩,fun x H3 y=>?_⟩
 obtain ⟨e3,y⟩:=y
 have:=y xs q2
 rw [e1] at this
 cases this
 exact .inl ⟨e3,dn⟩
theorem JGQ {B:Bs} {H:Hp} {lo hi:Int}:ItOk B (Itr lo (hi - lo).toNat) H (JGY lo hi):=by
 intro H2 s2 i
 unfold JGY
 refine ⟨fun d e=>?_,fun h=>show (hi - lo).toNat<=i by simpa using h⟩
 rw [List.getElem?_map] at e
 by_cases hi':i<(hi - lo).toNat
 ·rw [List.getElem?_range hi'] at e
  simp only [Option.map_some,q_j] at e
  refine ⟨hi',fun x H3 y=>?_⟩
  obtain ⟨e3,y⟩:=y
  refine .inl ⟨e3,?_⟩
  rw [<-e,y]
  simp only [Den]
 ·rw [List.getElem?_eq_none_iff.mpr (by simpa using hi')] at e
  cases e
section
variable {X:Cx} {B:Bs} {C:Cn} {CX:CXT} {XX:Nat->Hp->Prop} {G:List (Str×GK)} {a b c tg:Expr} {x y z:E} {pos p:Pos}
theorem JFT (g:Gk X B C CX XX G) (ha:PE X a (RE B C XX x)) (hi:∀δ,evI C x δ=(ev C x δ).bind JAa):PI X tg a (RI B C XX x):=by
 intro pins s σ H R I ⟨δ,ok,k⟩
 rw [hi] at k
 cases q:ev C x δ with
 | ok d =>
  rw [q] at k
  cases d with
  | list ds =>
   refine JEG ha pins s σ H R I ⟨δ,ok,?_⟩
   rw [q]
   intro v H1 s1 d1
   simp only [Den] at d1
   obtain ⟨p,xs,e,hq,l⟩:=d1
   refine ⟨p,e,⟨xs,g.K▸hq⟩,?_⟩
   rw [g.K]
   exact k _ H1 s1 (JE0 hq l)
  | tuple ds =>
   refine JLC ha pins s σ H R I ⟨δ,ok,?_⟩
   rw [q]
   intro v H1 s1 d1
   simp only [Den] at d1
   obtain ⟨p,xs,e,hq,l⟩:=d1
   refine ⟨p,e,⟨xs,g.K▸hq⟩,?_⟩
   rw [g.K]
   exact k _ H1 s1 (JF8 hq l)
  | _=>exact False.elim k
 | exc c =>
  rw [q] at k
  refine JEG ha pins s σ H R I ⟨δ,ok,?_⟩
  rw [q]
  exact k
 | bad=>rw [q] at k;exact k.elim
theorem JDM {i:Int} (h:small i=true):-(2 ^ 62)<=i/\i<2 ^ 62:=by
 unfold small at h
 simp only [q_i,q_D] at h
 exact h
theorem JPA (g:Gk X B C CX XX G) (hg:Gl X "range") (hm:X.mg "range"=none) (ha:PA X [a] (RA B C XX x)) (hc:cnt x=1) (hs:starEach [a] X.env=[(false,eval a X.env)]):PI X tg (.Call (.Name "range" p) [a] [] pos) (RI B C XX (.rng x)):=by
 intro pins s σ H R I ⟨δ,ok,k⟩
 refine JIv hg hm ha hs pins s σ H R I ?_
 simp only [evI] at k
 refine ⟨δ,ok,?_⟩
 cases q:evA C x δ with
 | ok ds =>
  rw [q] at k
  intro vs H1 s1 d1
  have hl:=JCR x δ ds q
  rw [hc] at hl
  match ds,hl,k,d1 with
  | [.none],_,k,_=>exact False.elim k
  | [.bool _],_,k,_=>exact False.elim k
  | [.str _],_,k,_=>exact False.elim k
  | [.list _],_,k,_=>exact False.elim k
  | [.tuple _],_,k,_=>exact False.elim k
  | [.dict _],_,k,_=>exact False.elim k
  | [.int j],_,k,d1 =>
   simp only [VI.R.bind,rngD] at k
   split at k
   ·rename_i hsm
    simp only [DenL,Den] at d1
    obtain ⟨v,r,e,e1,e2⟩:=d1
    subst e2;subst e;subst e1
    obtain ⟨b1,b2⟩:=JDM hsm
    refine ⟨j,rfl,b1,b2,?_⟩
    have:=k (Itr 0 (j - 0).toNat) H1 s1 JGQ
    simpa using this
   ·exact k.elim
 | exc c=>rw [q] at k;exact k
 | bad=>rw [q] at k;exact k.elim
theorem JPE (g:Gk X B C CX XX G) (hg:Gl X "range") (hm:X.mg "range"=none) (ha:PA X [a,b] (RA B C XX x)) (hc:cnt x=2) (hs:starEach [a,b] X.env=[(false,eval a X.env),(false,eval b X.env)]) (hs2:starEach [b] X.env=[(false,eval b X.env)]) :
  PI X tg (.Call (.Name "range" p) [a,b] [] pos) (RI B C XX (.rng x)):=by
 intro pins s σ H R I ⟨δ,ok,k⟩
 refine JIV hg hm ha hs hs2 pins s σ H R I ?_
 simp only [evI] at k
 refine ⟨δ,ok,?_⟩
 cases q:evA C x δ with
 | ok ds =>
  rw [q] at k
  intro vs H1 s1 d1
  have hl:=JCR x δ ds q
  rw [hc] at hl
  match ds,hl,k,d1 with
  | [.none,_],_,k,_=>exact False.elim k
  | [.bool _,_],_,k,_=>exact False.elim k
  | [.str _,_],_,k,_=>exact False.elim k
  | [.list _,_],_,k,_=>exact False.elim k
  | [.tuple _,_],_,k,_=>exact False.elim k
  | [.dict _,_],_,k,_=>exact False.elim k
  | [.int _,.none],_,k,_=>exact False.elim k
  | [.int _,.bool _],_,k,_=>exact False.elim k
  | [.int _,.str _],_,k,_=>exact False.elim k
  | [.int _,.list _],_,k,_=>exact False.elim k
  | [.int _,.tuple _],_,k,_=>exact False.elim k
  | [.int _,.dict _],_,k,_=>exact False.elim k
  | [.int i,.int j],_,k,d1 =>
   simp only [VI.R.bind,rngD] at k
   split at k
   ·rename_i hsm
    simp only [q_i] at hsm
    simp only [DenL,Den] at d1
    obtain ⟨v,r,e,e1,v',r',e',e1',e2⟩:=d1
    subst e2;subst e';subst e;subst e1;subst e1'
    obtain ⟨b1,b2⟩:=JDM hsm.1
    obtain ⟨b3,b4⟩:=JDM hsm.2
    exact ⟨i,j,rfl,⟨b1,b2,b3,b4⟩,k _ H1 s1 JGQ⟩
   ·exact k.elim
 | exc c=>rw [q] at k;exact k
 | bad=>rw [q] at k;exact k.elim
end
noncomputable def Ownb:HO->Prop
 | .lst _=>True
 | .dK _=>True
 | _=>False
noncomputable def OwnO (B:Bs) (H:Hp):D->HO->Prop
 | .list ds,.lst xs=>DenL B H ds xs
 | .dict kvs,.dK xs=>DenK B H kvs xs
 | _,_=>False
theorem OwnO.nil {B:Bs} {H:Hp}:OwnO B H (.list []) (.lst []):=by show DenL B H [] [];simp only [DenL]
theorem OwnO.mono {B:Bs} {H H':Hp} (s:Same H H') (d:D) (o:HO) (h:OwnO B H d o):OwnO B H' d o:=by
 cases d<;>cases o<;>first | exact False.elim h | exact DenL.mono s _ _ h | exact DenK.mono s _ _ h
theorem OwnO.b {B:Bs} {H:Hp} {d:D} {o:HO} (h:OwnO B H d o):Ownb o:=by
 cases d<;>cases o<;>first | exact False.elim h | exact trivial
theorem OwnO.den {B:Bs} {H:Hp} {d:List D} {o:HO} {a:Addr} (h:OwnO B H (.list d) o) (e:H a=some o):Den B H (.list d) (.ref a):=by
 cases o<;>first
  | exact False.elim h
  |(simp only [Den];exact ⟨a,_,rfl,SqL.of e,h⟩)
theorem OwnO.nl {B:Bs} {H:Hp} {d:D} {o:HO} (h:OwnO B H d o):JAL d=false:=by
 cases d with
 | list ds=>simp only [JAL]
 | dict kvs =>
  cases o with
  | dK xs =>
   cases kvs with
   | nil=>simp only [JAL]
   | cons p r =>
    obtain ⟨k,w⟩:=p
    have h:DenK B H ((k,w)::r) xs:=h
    simp only [DenK] at h
    obtain ⟨x,v',r',_,ek,_⟩:=h
    subst ek
    simp [JAL]
  | _=>exact False.elim h
 | _=>cases o<;>exact False.elim h
theorem JBm {G:List (Str×GK)} {n:Nat} {it:Bool} {names:List (Str×NameKind)} {N:List Str} {e:Expr} {x:E} (h:JAN G n it names N e=some x) (env:PySem.Env) (v:Value):foldedSetIterable e env v=pure v:=by
 cases n with
 | zero=>simp [JAN,JAe,JAO] at h
 | succ n=>cases e<;>first | rfl | (simp [JAN,JAe,JAO,xOf,dOf,dRaw,Option.bind_none,ite_self,xRaw] at h)
theorem Gk.nox {X X':Cx} {B:Bs} {C:Cn} {CX:CXT} {XX:Nat->Hp->Prop} {G:List (Str×GK)} (g:Gk X B C CX XX G) (h1:X'.K=X.K) (h2:X'.A=X.A) (h3:X'.mg=X.mg) (h4:X'.prog=X.prog) (h5:X'.w=X.w) (h6:X'.base=X.base) (h7:X'.calm=true)
  (hp:JEo CX X' (EX B fun _ _=>False)):Gk X' B C CX (fun _ _=>False) G where
 K:=h1.trans g.K
 W:=h5.trans g.W
 anti:=fun _ _ _ _ z=>z
 units:=by rw [h2];exact g.units
 calm:=h7
 fn:=by rw [h1,h2,h3,h4,h5,h6];exact g.fn
 pas:=hp
 con:=by rw [h3];exact g.con
 noexg:=g.noexg
 blt:=by rw [h3];exact g.blt
 rng:=by rw [h3];exact g.rng
 isi:=by rw [h3];exact g.isi
 ty:=by rw [h3];exact g.ty
 cls:=by rw [h3];exact g.cls
 nam:=by rw [h3];exact g.nam
theorem JCG {f:D->R (Option D)} {c:Nat}:∀ {ds:List D},JAs f ds≠.exc c
 | []=>fun h=>by unfold JAs at h;cases h
 | x::xs=>fun h=>by
  unfold JAs at h
  cases q:f x with
  | ok o =>
   rw [q] at h
   cases o with
   | none=>exact JCG h
   | some y =>
    cases q2:JAs f xs with
    | ok ys=>simp only [q2] at h;cases h
    | exc c=>simp only [q2] at h;cases h
    | bad=>simp only [q2] at h;cases h
  | exc c=>rw [q] at h;cases h
  | bad=>rw [q] at h;cases h
section
variable {X:Cx} {B:Bs} {C:Cn} {CX:CXT} {XX:Nat->Hp->Prop} {G:List (Str×GK)} {a b c tg:Expr} {x y z:E} {pos p:Pos}
noncomputable def itemF (C:Cn) (k:Nat) (x y:E) (δ:Env) (d:D):R (Option D):=(push k d δ).bind fun δ1=>(evT C y δ1).bind fun t=>if t=true then (ev C x δ1).bind fun z=>.ok (some z) else .ok none
theorem JGZ {σ:St} {H:Hp} {δ:Env} {d:D} {v:V} (ok:Sok B σ H δ) (dn:Den B H d v):Sok B (some v::σ) H (.val d::δ):=by
 intro i d' e
 cases i with
 | zero =>
  have:d=d':=by
   have e':(R.ok d:R D)=.ok d':=e
   injection e'
  subst this
  exact ⟨v,rfl,dn⟩
 | succ i=>exact ok i d' e
theorem JCE {X':Cx} {nm:Str} {px:Pos} {elt:Expr} {ifs:List Expr} {σ:St} {δ:Env} (hN0:X'.N.Nodup) (hN:X'.N[0]? = some nm) (hloc:X'.env.scope.names.lookup nm=some .local)
  (he:PE X' elt (RE B C (fun _ _=>False) x)) (hc:∀c,ifs=[c]->PT X' c (RT B C (fun _ _=>False) y)) (hifs:ifs=[]/\y=.cbl true\/∃c,ifs=[c]) (hxe:X'.xe=noE) :
  JBz X' B σ 1 δ (.Name nm px) elt ifs (itemF C 0 x y δ):=by
 intro pins s pre H d o v u hpre hF I r dn ok
 obtain ⟨p0,rfl⟩:∃p0,pre=[p0]:=by
  match pre,hpre with
  | [p0],_=>exact ⟨p0,rfl⟩
 have hF':(evT C y (.val d::δ)).bind (fun t=>if t=true then (ev C x (.val d::δ)).bind fun z=>.ok (some z) else .ok none)=.ok o:=hF
 have ok1:=JGZ ok dn
 have hst:=JD8 (X:=X') (pos:=px) hN0 hN (.inl hloc) (.inr hloc) pins s ([p0]++σ) H v u (fun σ' H'=>σ'=some v::σ/\H'=H) I r ⟨rfl,rfl⟩
 rw [hxe] at hst
 refine thn hst fun _ s2 ⟨σ2,H2,I2,e1,e2⟩=>?_
 subst e1;subst e2
 have elt_go:∀(s3:Shared) (H3:Hp) (t:Bool),Inv X' pins (some v::σ) H3 s3->Same H2 H3->evT C y (.val d::δ)=.ok t ->
    (if t=true then ∃z,o=some z/\wpAny (model X'.prog X'.w) X'.A (eval elt X'.env) (fun x s₄=>∃pre' H' w,pre'.length=1/\Inv X' pins (pre'++σ) H' s₄/\Same H2 H'/\RelV w x/\Den B H' z w) noE s3
      else o=none/\∃pre' H',pre'.length=1/\Inv X' pins (pre'++σ) H' s3/\Same H2 H'):=by
  intro s3 H3 t I3 s23 qt
  rw [qt] at hF'
  cases t with
  | true =>
    rw [if_pos rfl]
    simp only [R.bind,if_true] at hF'
    cases qx:ev C x (.val d::δ) with
    | ok z =>
      simp only [qx] at hF'
      have eo:o=some z:=by injection hF' with h;exact h.symm
      refine ⟨z,eo,?_⟩
      have hh:=he pins s3 (some v::σ) H3 (fun w H'=>Same H3 H'/\Den B H' z w) I3 ⟨_,ok1.mono s23,by rw [qx];exact fun w H' s' d'=>⟨s',d'⟩⟩
      rw [hxe] at hh
      exact thn hh fun x' s4 ⟨w,H',I4,rw4,s34,d4⟩=>⟨[some v],H',w,rfl,I4,s23.trans s34,rw4,d4⟩
    | exc c=>simp only [qx] at hF';cases hF'
    | bad=>simp only [qx] at hF';cases hF'
  | false =>
    rw [if_neg Bool.false_ne_true]
    simp only [R.bind,q_v,if_false] at hF'
    have eo:o=none:=by injection hF' with h;exact h.symm
    exact ⟨eo,[some v],H3,rfl,I3,s23⟩
 rcases hifs with ⟨e1,e2⟩ | ⟨c',e1⟩
 ·subst e1;subst e2
  exact wpAny_tests_nil (elt_go s2 H2 true I2 (Same.refl _) (by simp only [evT]))
 ·subst e1
  refine wpAny_tests_one ?_
  cases qt:evT C y (.val d::δ) with
  | ok t =>
    have hh:=hc c' rfl pins s2 (some v::σ) H2 (fun t' H'=>t'=t/\Same H2 H') I2 ⟨_,ok1,by rw [qt];exact fun H' s'=>⟨rfl,s'⟩⟩
    rw [hxe] at hh
    refine thn hh fun t' s3 ⟨H3,I3,e3,s23⟩=>?_
    subst e3
    exact elt_go s3 H3 t' I3 s23 qt
  | exc c=>rw [qt] at hF';cases hF'
  | bad=>rw [qt] at hF';cases hF'
theorem JCW {e:Expr} {r:List Expr} {xs:List Str} (h:namesOf (e::r)=some xs):∃nm p ys,e=.Name nm p/\namesOf r=some ys/\xs=nm::ys:=by
 unfold namesOf at h
 split at h
 ·rename_i q;cases q
 ·rename_i q
  cases q
  obtain ⟨ys,h1,h2⟩:=q_d.mp h
  exact ⟨_,_,ys,rfl,h1,h2.symm⟩
 ·cases h
theorem JCV {env:PySem.Env}:∀ {ts:List Expr} {xs:List Str},namesOf ts=some xs->(assignEach ts env).findIdx? (·.1)=none/\(assignEach ts env).length=xs.length
 | [],xs,h=>by unfold namesOf at h;cases h;exact ⟨rfl,rfl⟩
 | e::r,xs,h=>by
  obtain ⟨nm,p,ys,rfl,h1,rfl⟩:=JCW h
  obtain ⟨q1,q2⟩:=JCV (env:=env) h1
  refine ⟨?_,by show (assignEach r env).length+1=_;rw [q2];rfl⟩
  show List.findIdx? (·.1) ((false,assign (.Name nm p) env)::assignEach r env)=none
  rw [List.findIdx?_cons]
  simp [q1]
noncomputable def JDu:Nat->List V->St->St
 | _,[],σ=>σ
 | j,v::r,σ=>JDu (j+1) r (σ.set j (some v))
theorem JDQ:∀(vs:List V) (a pre σ:St),pre.length=vs.length->JDu a.length vs (a++(pre++σ))=a++(vs.map some++σ)
 | [],a,pre,σ,h=>by
  have:pre=[]:=q_B.mp h
  subst this;rfl
 | v::r,a,[],σ,h=>by cases h
 | v::r,a,p::pre,σ,h=>by
  simp only [JDu]
  have e:(a++(p::pre++σ)).set a.length (some v)=(a++[some v])++(pre++σ):=by
   rw [List.set_append_right _ _ (q_t _),Nat.sub_self]
   simp
  rw [e,show a.length+1=(a++[some v]).length by simp,JDQ r (a++[some v]) pre σ (by simpa using h)]
  simp
theorem JGG {X':Cx} (hN0:X'.N.Nodup):∀ {ts:List Expr} {xs:List Str} {j:Nat},namesOf ts=some xs->(∀(i:Nat) (nm:Str),xs[i]? = some nm->X'.N[j+i]? = some nm)->(∀nm∈xs,X'.env.scope.names.lookup nm=some .local)->PGs X' ts (fun vs σ H Q=>vs.length=xs.length/\Q (JDu j vs σ) H)
 | [],xs,j,h,_,_=>by
  unfold namesOf at h;cases h
  intro pins s σ H vs us Q I r ⟨e,q⟩
  have ev:vs=[]:=q_B.mp e
  subst ev
  exact JHR pins s σ H [] us Q I r ⟨rfl,q⟩
 | e::r,xs,j,h,hN,hl=>by
  obtain ⟨nm,p,ys,rfl,h1,rfl⟩:=JCW h
  have hx:X'.env.scope.names.lookup nm=some .local:=hl nm (by simp)
  have ih:=JGG hN0 (j:=j+1) h1 (fun i z e=>by have:=hN (i+1) z (by simpa using e);rw [show j+1+i=j+(i+1) by omega];exact this) (fun z hz=>hl z (by simp [hz]))
  intro pins s σ H vs us Q I rv ⟨e,q⟩
  refine JF3 (JD8 hN0 (hN 0 nm rfl) (.inl hx) (.inr hx)) ih rfl pins s σ H vs us Q I rv ?_
  match vs,e,q with
  | v::vr,e,q=>exact ⟨v,vr,rfl,by simpa using e,q⟩
theorem JDi {σ:St} {H:Hp} {δ:Env}:∀ {ds:List D} {vs:List V},Sok B σ H δ->DenL B H ds vs->Sok B (vs.map some++σ) H (ds.map Sl.val++δ)
 | [],vs,ok,dn=>by simp only [DenL] at dn;subst dn;exact ok
 | d::ds,vs,ok,dn=>by
  simp only [DenL] at dn
  obtain ⟨v,r,rfl,d1,d2⟩:=dn
  exact JGZ (JDi ok d2) d1
theorem item_tup {X':Cx} {ts:List Expr} {kt:Nat} {pt:Pos} {xs:List Str} {elt:Expr} {ifs:List Expr} {σ:St} {δ:Env} (hcalm:X'.calm=true) (hK:X'.K=B.K) (hx:namesOf ts=some xs) (hne:xs≠[]) (hN0:X'.N.Nodup) (hN:∀(i:Nat) (nm:Str),xs[i]? = some nm->X'.N[i]? = some nm) (hloc:∀nm∈xs,X'.env.scope.names.lookup nm=some .local)
  (he:PE X' elt (RE B C (fun _ _=>False) x)) (hc:∀c,ifs=[c]->PT X' c (RT B C (fun _ _=>False) y)) (hifs:ifs=[]/\y=.cbl true\/∃c,ifs=[c]) (hxe:X'.xe=noE) :
  JBz X' B σ xs.length δ (.Tuple ts kt pt) elt ifs (itemF C xs.length x y δ):=by
 intro pins s pre H d o v u hpre hF I r dn ok
 obtain ⟨ds,ed,hdl,hF'⟩:∃ds,d=.tuple ds/\ds.length=xs.length/\(evT C y (ds.map Sl.val++δ)).bind (fun t=>if t=true then (ev C x (ds.map Sl.val++δ)).bind fun z=>.ok (some z) else .ok none)=.ok o:=by
  obtain ⟨n,hn⟩:∃n,xs.length=n+1:=⟨xs.length - 1,by have:=List.length_pos_iff.mpr hne;omega⟩
  rw [hn] at hF ⊢
  unfold itemF push at hF
  cases d<;>first | (cases hF;done) | skip
  rename_i ds
  simp only at hF
  split at hF
  · rename_i h;exact ⟨ds,rfl,h,hF⟩
  · cases hF
 subst ed
 simp only [Den] at dn
 obtain ⟨a,vs,rfl,sq,dl⟩:=dn
 have hvl:=DenL.len ds vs dl
 have ok1:=JDi ok dl
 obtain ⟨st1,st2⟩:=JCV (env:=X'.env) hx
 have hst:=JL8 (X:=X') (pos:=pt) (k:=kt) hcalm (JGG (j:=0) hN0 hx (fun i nm e=>by rw [Nat.zero_add];exact hN i nm e) hloc) st2 st1 pins s (pre++σ) H (.ref a) u (fun σ' H'=>σ'=vs.map some++σ/\H'=H) I r
  ⟨a,vs,rfl,by rw [hK];exact sq,by omega,by omega,by have:=JDQ vs [] pre σ (by omega);simpa using this,rfl⟩
 rw [hxe] at hst
 refine thn hst fun _ s2 ⟨σ2,H2,I2,e1,e2⟩=>?_
 subst e1;subst e2
 have hlen:(vs.map some:St).length=xs.length:=by simp;omega
 generalize (vs.map some:St)=P at *
 generalize ds.map Sl.val++δ=δ1 at *
 have elt_go:∀(s3:Shared) (H3:Hp) (t:Bool),Inv X' pins (P++σ) H3 s3->Same H2 H3->evT C y δ1=.ok t ->
    (if t=true then ∃z,o=some z/\wpAny (model X'.prog X'.w) X'.A (eval elt X'.env) (fun x s₄=>∃pre' H' w,pre'.length=xs.length/\Inv X' pins (pre'++σ) H' s₄/\Same H2 H'/\RelV w x/\Den B H' z w) noE s3
      else o=none/\∃pre' H',pre'.length=xs.length/\Inv X' pins (pre'++σ) H' s3/\Same H2 H'):=by
  intro s3 H3 t I3 s23 qt
  rw [qt] at hF'
  cases t with
  | true =>
    rw [if_pos rfl]
    simp only [R.bind,if_true] at hF'
    cases qx:ev C x δ1 with
    | ok z =>
      simp only [qx] at hF'
      have eo:o=some z:=by injection hF' with h;exact h.symm
      refine ⟨z,eo,?_⟩
      have hh:=he pins s3 (P++σ) H3 (fun w H'=>Same H3 H'/\Den B H' z w) I3 ⟨_,ok1.mono s23,by rw [qx];exact fun w H' s' d'=>⟨s',d'⟩⟩
      rw [hxe] at hh
      exact thn hh fun x' s4 ⟨w,H',I4,rw4,s34,d4⟩=>⟨P,H',w,hlen,I4,s23.trans s34,rw4,d4⟩
    | exc c=>simp only [qx] at hF';cases hF'
    | bad=>simp only [qx] at hF';cases hF'
  | false =>
    rw [if_neg Bool.false_ne_true]
    simp only [R.bind,q_v,if_false] at hF'
    have eo:o=none:=by injection hF' with h;exact h.symm
    exact ⟨eo,P,H3,hlen,I3,s23⟩
 rcases hifs with ⟨e1,e2⟩ | ⟨c',e1⟩
 ·subst e1;subst e2
  exact wpAny_tests_nil (elt_go s2 H2 true I2 (Same.refl _) (by simp only [evT]))
 ·subst e1
  refine wpAny_tests_one ?_
  cases qt:evT C y δ1 with
  | ok t =>
    have hh:=hc c' rfl pins s2 (P++σ) H2 (fun t' H'=>t'=t/\Same H2 H') I2 ⟨_,ok1,by rw [qt];exact fun H' s'=>⟨rfl,s'⟩⟩
    rw [hxe] at hh
    refine thn hh fun t' s3 ⟨H3,I3,e3,s23⟩=>?_
    subst e3
    exact elt_go s3 H3 t' I3 s23 qt
  | exc c=>rw [qt] at hF';cases hF'
  | bad=>rw [qt] at hF';cases hF'
noncomputable def REF (B:Bs) (C:Cn) (XX:Nat->Hp->Prop) (x:E):TE:=fun σ H Q=>∃δ,Sok B σ H δ/\(match ev C x δ with
 | .ok d=>∀D ds xs H1,d=ds->Same H H1->H1 D=none->OwnO B H1 ds xs->Q (.ref D) (upd H1 D xs)
 | .exc c=>XX c H
 | .bad=>False)
theorem REF.of {e:Expr} (h:PE X e (REF B C XX x)) (hl:∀δ d,ev C x δ=.ok d->∃ds,d=.list ds):PE X e (RE B C XX x) :=
 PE.imp h fun σ H Q ⟨δ,ok,k⟩=>by
  refine ⟨δ,ok,?_⟩
  cases q:ev C x δ with
  | ok d =>
   rw [q] at k
   intro D ds xs H1 e s1 hD dn
   refine k _ _ (s1.trans (JAZ hD)) ?_
   subst e
   obtain ⟨ys,rfl⟩:=hl δ _ q
   exact (OwnO.mono (JAZ hD) _ xs dn).den JAG
  | exc c=>rw [q] at k;exact k
  | bad=>rw [q] at k;exact k
theorem JQx (g:Gk X B C CX XX G) {es:List Expr} (h:PA X es (RA B C XX x)) (hl:cnt x<=1000):PE X (.List es pos) (REF B C XX (.lst x)) :=
 PE.imp (JMO h) fun σ H Q ⟨δ,ok,k⟩=>by
  simp only [ev] at k
  refine ⟨δ,ok,?_⟩
  cases q:evA C x δ with
  | ok ds =>
   rw [q] at k
   intro vs H1 s1 d1
   have e1:=DenL.len ds vs d1
   have e2:=JCR x δ ds q
   exact ⟨by rw [sizeLine_eq];omega,fun p hp=>k p _ (.lst vs) H1 rfl s1 hp d1⟩
  | exc c=>rw [q] at k;exact k
  | bad=>rw [q] at k;exact k.elim
theorem JF6 (g:Gk X B C CX XX G) {elt iter target:Expr} {ifs:List Expr} {sc:Scope} {xs:List Str} {k:Nat} (b:BlkOk X sc xs) (hi:PI X target iter (RI B C XX z)) (hs:∀v,foldedSetIterable iter X.env v=pure v)
  (hrun:∀Cc fp s0 H0 σ δ,JBz (JAd X sc Cc (xs++mask xs 0 X.N) fp s0 H0) B σ xs.length δ target elt ifs (itemF C k x y δ))
  {pins:List (Addr×Obj)} {s:Shared} {σ:St} {H:Hp} {Q:VK} {pos':Pos} {use:Option (Value->Sem Unit)} {Q':Value->Shared->Prop} (I:Inv X pins σ H s) (h:REF B C XX (.cmpr k x z y) σ H Q)
  (fin:∀(D Cc:Addr) (s':Shared) (m:Str->Option Value) (H':Hp),s'.heap.Ns Cc m->Inv X pins σ H' s'->Q (.ref D) H'->H' Cc=none->Cc≠X.env.locals->X.s₀.heap.objs.size<=Cc ->
    (∀x c,X.env.cells.lookup x=some c->c≠Cc)->(∀p∈X.pn++pins,p.1≠Cc)->compPost (model X.prog X.w) X.A X.xe use Q' (.ref D) Cc (.ok .next) s') :
  wpAny (model X.prog X.w) X.A (comprehension (.ListComp elt [⟨target,iter,ifs,0⟩] sc pos) sc X.env pos' (newList []) false (eval iter X.env) use) Q' X.xe s:=by
 obtain ⟨δ,ok,kk⟩:=h
 simp only [ev] at kk
 cases q:evI C z δ with
 | ok ds =>
  simp only [q,R.bind] at kk
  split at kk
  · rename_i d hd
    split at hd
    · rename_i hlen
      cases qz:JAs (itemF C k x y δ) ds with
      | ok zs =>
       have qz':=qz
       unfold itemF at qz'
       simp only [R.bind] at qz'
       rw [qz'] at hd
       have hd':PyData.list zs=d:=by injection hd
       refine JHn g b hi hs (fun Cc fp s0 H0=>hrun Cc fp s0 H0 σ δ) I ok q hlen qz ?_
       intro D Cc s' m H3 yv hn J sm hD dn h1 h2 h3 h4 h5
       exact fin D Cc s' m _ hn J (kk D _ (.lst yv) H3 hd'.symm sm hD dn) h1 h2 h3 h4 h5
      | exc c=>exact (JCG qz).elim
      | bad=>unfold itemF at qz;simp only [R.bind] at qz;rw [qz] at hd;cases hd
    · cases hd
  · rename_i c hd
    exfalso
    split at hd
    · cases qz:JAs (itemF C k x y δ) ds with
      | ok zs=>unfold itemF at qz;simp only [R.bind] at qz;rw [qz] at hd;cases hd
      | exc c=>exact (JCG qz).elim
      | bad=>unfold itemF at qz;simp only [R.bind] at qz;rw [qz] at hd;cases hd
    · cases hd
  · exact kk.elim
 | exc c =>
  simp only [q,R.bind] at kk
  refine wpAny_comprehension_free rfl hs (b.clos I.ok) b.kind b.loc (wpAny_mono (hi pins s σ H (fun _ _=>False) I ⟨δ,ok,by rw [q];exact kk⟩) (fun xv s₁ h₁=>wpAny_mono h₁ (fun itv s₂ h₂=>?_) (fun _ _ e=>e)) (fun _ _ e=>e))
  obtain ⟨_,_,_,_,_,_,_,_,_,_,f⟩:=h₂
  exact f.elim
 | bad=>simp only [q,R.bind] at kk
theorem JDG (g:Gk X B C CX XX G) {elt iter target:Expr} {ifs:List Expr} {sc:Scope} {xs:List Str} {k:Nat} (b:BlkOk X sc xs) (hi:PI X target iter (RI B C XX z)) (hs:∀v,foldedSetIterable iter X.env v=pure v)
  (hrun:∀Cc fp s0 H0 σ δ,JBz (JAd X sc Cc (xs++mask xs 0 X.N) fp s0 H0) B σ xs.length δ target elt ifs (itemF C k x y δ)) :
  PE X (.ListComp elt [⟨target,iter,ifs,0⟩] sc pos) (REF B C XX (.cmpr k x z y)):=by
 intro pins s σ H Q I h
 rw [eval_ListComp]
 refine JF6 (use:=none) g b hi hs hrun I h ?_
 intro D Cc s' m H' hn J hq h1 h2 h3 h4 h5
 refine ⟨m,hn,fun h' hsb=>?_⟩
 have J':=J.turned (h':=h') (t':=s'.toks) (it:=Cc) (fun b o hb e=>(hsb.2 b hb).trans e) h1 h2 (.inr h3) h4 h5
 exact ⟨.ref D,H',J',rfl,hq⟩
theorem JJm (g:Gk X B C CX XX G) {elt iter target:Expr} {ifs:List Expr} {sc:Scope} {xs:List Str} {k i:Nat} {nm:Str} {px spos:Pos} (b:BlkOk X sc xs) (hi:PI X target iter (RI B C XX z)) (hs:∀v,foldedSetIterable iter X.env v=pure v)
  (hrun:∀Cc fp s0 H0 σ δ,JBz (JAd X sc Cc (xs++mask xs 0 X.N) fp s0 H0) B σ xs.length δ target elt ifs (itemF C k x y δ))
  (hsw:swapsWith (.ListComp elt [⟨target,iter,ifs,0⟩] sc pos) (some (.Name nm px)) spos.line X.env=pure true) (hnd:X.N.Nodup) (hN:X.N[i]? = some nm) (hloc:X.env.scope.names.lookup nm=some .local) :
  PS X (.Assign [.Name nm px] (.ListComp elt [⟨target,iter,ifs,0⟩] sc pos) spos) (tAsg (REF B C XX (.cmpr k x z y)) (JFl i)):=by
 intro pins s σ H D I h
 rw [exec_Assign_Name_used _ _ _ _ hsw]
 refine q_b (wpAny_standAt (q_b ?_))
 show wpAny _ _ (do let _<-comprehension (.ListComp elt [⟨target,iter,ifs,0⟩] sc pos) sc X.env _ (newList []) false (eval iter X.env) (some (assign (.Name nm px) X.env))) _ _ s
 refine q_b (wpAny_mono (JF6 (use:=some (assign (.Name nm px) X.env)) (Q':=fun _ s'=>SP X pins D .next s') g b hi hs hrun I h ?_) (fun _ s' hq=>q_e (q_e hq)) fun _ _ e=>e)
 intro Da Cc s' m H' hn J hq h1 h2 h3 h4 h5
 show wpAny _ _ (assign (.Name nm px) X.env (.ref Da)) _ _ s'
 refine wpAny_assign_Name (JEY J hnd hN (.inl hloc) (v:=.ref Da) rfl (fun s2 J2 hch=>?_) (.inr hloc))
 obtain ⟨a,sb,ha⟩:=hch
 have hne:Cc≠a:=by
  rcases ha with z | z
  · rw [z];exact h2
  · exact fun e=>h4 nm a z e.symm
 refine ⟨m,hn.sameBut sb hne,fun h' hsb=>?_⟩
 exact ⟨_,H',J2.turned (h':=h') (t':=s2.toks) (it:=Cc) (fun b o hb e=>(hsb.2 b hb).trans e) h1 h2 (.inr h3) h4 h5,hq⟩
end
theorem JLf {X:Cx} {sc:Scope} {xs:List Str} {names:List (Str×NameKind)} {N:List Str} (hk:X.env.scope.kind=.function) (hn:X.env.scope.names=names) (hN:X.N=N) (hs:sc.kind=.function) (h:JBx names sc.names xs N=true):BlkOk X sc xs:=by
 subst hn;subst hN
 unfold JBx at h
 simp only [q_i,List.all_eq_true] at h
 obtain ⟨⟨⟨⟨h1,h2⟩,h3⟩,h4⟩,h5⟩:=h
 refine ⟨hs,fun y hy=>?_,fun y hy hl=>?_,fun n hm=>?_,fun x hx=>?_,fun y hy hx=>?_,fun i hi hv=>?_,of_decide_eq_true h5⟩
 ·have:=(h1 y hy).1.1
  intro e;rw [e] at this;simp at this
 ·have:=(h1 y hy).1.2
  rw [hl] at this
  simpa using this
 ·have:=(h1 (n,.free) hm).2
  simpa [PySem.Env.kindOf] using this
 ·simpa using h2 x hx
 ·have:=h3 y hy
  simp only [Bool.or_eq_true,bne_iff_ne,ne_eq] at this
  rcases this with e | e
  ·exact absurd (by simpa using e) hx
  ·exact e
 ·have:=h4 i (List.mem_range.mpr hi)
  unfold Vis at hv
  rw [JAU hk] at hv
  rcases hv with e | e | e<;>(rw [e] at this;simp [vis] at this)
section
variable {X:Cx} {B:Bs} {C:Cn} {CX:CXT} {XX:Nat->Hp->Prop} {G:List (Str×GK)} {pos p:Pos} {names:List (Str×NameKind)} {N:List Str} {n:Nat}
theorem allA (g:Gk X B C CX XX G) (ih:∀e x,JAN G n false names N e=some x->PE X e (RE B C XX x)):∀ {es:List Expr} {x:E},JAJ (JAN G n false names N) es=some x->PA X es (RA B C XX x)
 | [],x,h=>by unfold JAJ at h;cases h;exact a_nil
 | e::es,x,h=>by
  unfold JAJ at h
  obtain ⟨a,h1,h⟩:=q_a.mp h
  obtain ⟨b,h2,h⟩:=q_a.mp h
  cases h
  exact JQN g (ih e a h1) (allA g ih h2) (JAY h1 es X.env)
theorem JMa (g:Gk X B C CX XX G) (ih:∀e x,JAN G n false names N e=some x->PE X e (RE B C XX x)/\PT X e (RT B C XX x)):∀ {es:List Expr} {x:E},JA0 .and (JAN G n false names N) es=some x ->
  PE X (.BoolOp .And es pos) (RE B C XX x)/\PW X (.BoolOp .And es pos) (RT B C XX x)
 | [],x,h=>by unfold JA0 at h;cases h
 | [e],x,h=>by
  unfold JA0 at h
  exact ⟨JLS (ih e x h).1,JNl (ih e x h).2⟩
 | e::e'::es,x,h=>by
  unfold JA0 at h
  obtain ⟨a,h1,h⟩:=q_a.mp h
  obtain ⟨b,h2,h⟩:=q_a.mp h
  cases h
  obtain ⟨q1,q2⟩:=JMa g ih h2
  exact ⟨s_and g (ih e a h1).1 q1,w_and g (ih e a h1).2 q2⟩
theorem JOs (g:Gk X B C CX XX G) (ih:∀e x,JAN G n false names N e=some x->PE X e (RE B C XX x)/\PT X e (RT B C XX x)):∀ {es:List Expr} {x:E},JA0 .or (JAN G n false names N) es=some x ->
  PE X (.BoolOp .Or es pos) (RE B C XX x)/\PW X (.BoolOp .Or es pos) (RT B C XX x)
 | [],x,h=>by unfold JA0 at h;cases h
 | [e],x,h=>by
  unfold JA0 at h
  exact ⟨JLS (ih e x h).1,JQn (ih e x h).2⟩
 | e::e'::es,x,h=>by
  unfold JA0 at h
  obtain ⟨a,h1,h⟩:=q_a.mp h
  obtain ⟨b,h2,h⟩:=q_a.mp h
  cases h
  obtain ⟨q1,q2⟩:=JOs g ih h2
  exact ⟨s_or g (ih e a h1).1 q1,w_or g (ih e a h1).2 q2⟩
theorem JAy {x:Str} {k:GK} (h:glob G names x=some k):JAR x=false/\names.lookup x=some .globalImplicit/\G.lookup x=some k:=by
 unfold glob at h
 split at h
 ·cases h
 ·rename_i hb
  split at h
  ·rename_i hg
   exact ⟨by simpa using hb,hg,h⟩
  ·cases h
theorem JEy {x:Str} (hn:X.env.scope.names=names) (h:vis (names.lookup x)=true):Vis X.env.scope x:=by
 unfold Vis
 rw [hn]
 cases q:names.lookup x with
 | none=>rw [q] at h;cases h
 | some k=>cases k<;>simp_all [vis]
theorem JBR {x:Str} (hn:X.env.scope.names=names) (h:names.lookup x=some .globalImplicit):Gl X x:=by
 show X.env.scope.names.lookup x=_
 rw [hn];exact h
theorem JCF {op:CmpOp} {d d' r:D} (h:cmpD op d d'=.ok r):∃k,r=.bool k:=by
 cases op<;>simp only [cmpD] at h<;>(repeat' split at h)<;>first | (cases h;exact ⟨_,rfl⟩) | cases h
theorem JFZ {op:CmpOp} {x y:E} {δ:Env} {d:D} (h:ev C (.cmp op x y) δ=.ok d):∃k,d=.bool k:=by
 simp only [ev] at h
 cases q:ev C x δ with
 | ok dx =>
  cases q2:ev C y δ with
  | ok dy=>rw [q,q2] at h;exact JCF h
  | exc c=>rw [q,q2] at h;cases h
  | bad=>rw [q,q2] at h;cases h
 | exc c=>rw [q] at h;cases h
 | bad=>rw [q] at h;cases h
end
end VI
end
section
namespace VI
open PySem PySem.Spec PyProof.Rows L2
section
variable {X:Cx} {B:Bs} {C:Cn} {CX:CXT} {XX:Nat->Hp->Prop} {G:List (Str×GK)} {a b c:Expr} {x y z:E} {pos p:Pos}
theorem JQ6 (n d:Nat) (o:Option Int):sI n d o=HT.sIx n d o:=by cases o<;>rfl
theorem JGc {e:Option Expr} {o:Option Int} (h:JCM e=some o):∃t,PO X e t/\∀σ H Q,Q o H->t σ H Q:=by
 unfold JCM at h
 split at h
 ·cases h;exact ⟨_,JJJ,fun σ H Q q=>q⟩
 ·cases h;exact ⟨_,JFn JE2,fun σ H Q q=>⟨_,rfl,q⟩⟩
 ·cases h;exact ⟨_,JFn (JPS JMU JE2),fun σ H Q q=>⟨_,rfl,_,rfl,q⟩⟩
 ·cases h
theorem DenL.drop {H:Hp}:∀(n:Nat) (ds:List D) (vs:List V),DenL B H ds vs->DenL B H (ds.drop n) (vs.drop n)
 | 0,ds,vs,h=>h
 | n+1,[],vs,h=>by simp only [DenL] at h;subst h;simp only [List.drop_nil,DenL]
 | n+1,d::ds,vs,h=>by
  simp only [DenL] at h
  obtain ⟨v,r,e,q,l⟩:=h
  subst e
  exact DenL.drop n ds r l
theorem DenL.take {H:Hp}:∀(n:Nat) (ds:List D) (vs:List V),DenL B H ds vs->DenL B H (ds.take n) (vs.take n)
 | 0,ds,vs,h=>by simp only [List.take_zero,DenL]
 | n+1,[],vs,h=>by simp only [DenL] at h;subst h;simp only [List.take_nil,DenL]
 | n+1,d::ds,vs,h=>by
  simp only [DenL] at h
  obtain ⟨v,r,e,q,l⟩:=h
  subst e
  simp only [List.take_succ_cons,DenL]
  exact ⟨v,_,rfl,q,DenL.take n ds r l⟩
theorem DenL.cut {H:Hp} {ds:List D} {vs:List V} (h:DenL B H ds vs) (lo hi:Option Int):DenL B H (cutD ds lo hi) (cutV vs lo hi):=by
 unfold cutD cutV
 have e:=DenL.len _ _ h
 simp only [JQ6,e]
 exact DenL.take _ _ _ (DenL.drop _ _ _ h)
theorem JE1 {xs:List D} {lo hi:Option Int} (h:HT.sIx xs.length 0 lo=0/\HT.sIx xs.length xs.length hi=xs.length):cutD xs lo hi=xs:=by
 unfold cutD
 simp only [JQ6,h.1,h.2]
 simp
theorem JBU {H:Hp} {q:Addr} {o:HO} (h:H q=none):Same H (upd H q o):=fun b u e=>by rw [JAM (JAW e h)];exact e
theorem JNa (g:Gk X B C CX XX G) {i:Expr} {lo hi:Option Int} (hs:sliceOf i=some (lo,hi)) (ha:PE X a (RE B C XX x)):PE X (.Subscript a i pos) (RE B C XX (.fn1 (.slice lo hi) x)):=by
 unfold sliceOf at hs
 split at hs
 ·rename_i l h p2
  obtain ⟨l',h1,hs⟩:=q_a.mp hs
  obtain ⟨h',h2,hs⟩:=q_a.mp hs
  cases hs
  obtain ⟨tl,pl,ql⟩:=JGc (X:=X) h1
  obtain ⟨th,ph,qh⟩:=JGc (X:=X) h2
  refine PE.imp (JGg (SlR.or (SlR.or JLm JIk) JJP) ha pl ph) fun σ H Q ⟨δ,ok,k⟩=>?_
  simp only [ev] at k
  refine RE.of (W:=fun r H=>KE B XX r H Q) ok (fun _ _ z=>z) (fun _ z=>z) k fun d v H1 s1 d1 h1=>?_
  refine ql _ _ _ (qh _ _ _ ?_)
  have h1:=KE.mono g s1 h1
  cases d<;>first | exact False.elim h1 | skip
  ·rename_i ds
   simp only [Den] at d1
   obtain ⟨q,vs,e,sq,l⟩:=d1
   refine .inr ⟨q,vs,e,g.K▸sq,fun p' hp=>?_⟩
   have sm:Same H1 (upd H1 p' (.lst (cutV vs lo hi))):=JBU hp
   refine h1 _ _ sm ?_
   simp only [Den]
   exact ⟨p',_,rfl,SqL.of JAG,DenL.mono sm _ _ (DenL.cut l lo hi)⟩
  ·rename_i ds
   simp only [Den] at d1
   obtain ⟨q,vs,e,sq,l⟩:=d1
   have el:=DenL.len _ _ l
   by_cases hw:HT.sIx vs.length 0 lo=0/\HT.sIx vs.length vs.length hi=vs.length
   ·refine .inl (.inr ⟨q,vs,e,g.K▸sq,hw,?_⟩)
    refine h1 _ _ (Same.refl H1) ?_
    rw [JE1 (by rw [el];exact hw)]
    subst e
    simp only [Den]
    exact ⟨q,vs,rfl,sq,l⟩
   ·refine .inl (.inl ⟨q,vs,e,g.K▸sq,hw,fun p' hp=>?_⟩)
    have sm:Same H1 (upd H1 p' (.tup (cutV vs lo hi))):=JBU hp
    refine h1 _ _ sm ?_
    simp only [Den]
    exact ⟨p',_,rfl,SqT.of JAG,DenL.mono sm _ _ (DenL.cut l lo hi)⟩
 ·cases hs
theorem JPw (g:Gk X B C CX XX G) {f:Str} {ty:Ty} {o:O1} (ho:o1Of ty=some o) (hf:JA9 ty=some f) (hg:Gl X f) (hl:G.lookup f=some (.ty ty)) (hb:JAR f=false) (ha:PE X a (RE B C XX x))
  (he:starEach [a] X.env=[(false,eval a X.env)]):PE X (.Call (.Name f p) [a] [] pos) (RE B C XX (.fn1 o x)):=by
 have key:∀ {T:String} {r:List V->Hp->VK->Prop},CallR X (.type T) r->bootBuiltins f=some (.type T) ->
    (∀d v H Q,Den B H d v->KE B XX (op1D o d) H Q->r [v] H Q)->PE X (.Call (.Name f p) [a] [] pos) (RE B C XX (.fn1 o x)):=fun {T r} hc hv hr=>by
  refine PE.imp (JB9 (es:=[]) hc hg (g.ty f ty hl) hv (JBS ha JCZ he) (JAI hb).2.2 (JAI hb).1 he rfl) fun σ H Q ⟨δ,ok,k⟩=>?_
  simp only [ev] at k
  refine RE.of (W:=fun r H=>KE B XX r H Q) ok (fun _ _ z=>z) (fun _ z=>z) k fun d v H1 s1 d1 h1=>?_
  exact hr d v H1 Q d1 (KE.mono g s1 h1)
 cases ty<;>simp only [o1Of,q_j,reduceCtorEq] at ho
 ·subst ho
  simp only [JA9,q_j] at hf
  subst hf
  refine key call_list_of (by decide +kernel) fun d v H Q dn k=>?_
  cases d<;>first | exact False.elim k | skip
  · simp only [Den] at dn
    obtain ⟨q,vs,e,sq,l⟩:=dn
    subst e
    refine ⟨q,vs,rfl,.inl (g.K▸sq),fun p' hp=>?_⟩
    have sm:Same H (upd H p' (.lst vs)):=JBU hp
    refine k _ _ sm ?_
    simp only [Den]
    exact ⟨p',_,rfl,SqL.of JAG,DenL.mono sm _ _ l⟩
  · simp only [Den] at dn
    obtain ⟨q,vs,e,sq,l⟩:=dn
    subst e
    refine ⟨q,vs,rfl,.inr (g.K▸sq),fun p' hp=>?_⟩
    have sm:Same H (upd H p' (.lst vs)):=JBU hp
    refine k _ _ sm ?_
    simp only [Den]
    exact ⟨p',_,rfl,SqL.of JAG,DenL.mono sm _ _ l⟩
 ·subst ho
  simp only [JA9,q_j] at hf
  subst hf
  refine key JD5 (by decide +kernel) fun d v H Q dn k=>?_
  cases d<;>first | exact False.elim k | skip
  · simp only [Den] at dn
    obtain ⟨q,vs,e,sq,l⟩:=dn
    subst e
    refine ⟨q,vs,rfl,.inl ⟨g.K▸sq,fun p' hp=>?_⟩⟩
    have sm:Same H (upd H p' (.tup vs)):=JBU hp
    refine k _ _ sm ?_
    simp only [Den]
    exact ⟨p',_,rfl,SqT.of JAG,DenL.mono sm _ _ l⟩
  · have dn':=dn
    simp only [Den] at dn
    obtain ⟨q,vs,e,sq,l⟩:=dn
    subst e
    exact ⟨q,vs,rfl,.inr ⟨g.K▸sq,KE.ok k dn'⟩⟩
theorem s_pow {i j:Nat} {u v:Int} {p1 p2:Pos} (h0:0<=u) (h1:u<=100) (h2:0<=v) (h3:v<=20):PE X (.BinOp (.Constant (.int u) i p1) .Pow (.Constant (.int v) j p2) pos) (RE B C XX (.cint (u ^ v.toNat))) :=
 PE.imp (JOX JQk JE2 JE2) fun σ H Q ⟨δ,ok,k⟩=>by
  simp only [ev] at k
  exact ⟨u,v,rfl,rfl,⟨h2,by omega,by omega⟩,KE.ok k (by simp only [Den])⟩
theorem JHw:OpR X (compareOp .IsNot) (fun v u H Q=>∃c d,v=.bl c/\u=.bl d/\Q (.bl (!(c==d))) H):=by
 intro pins s σ H v u w t Q I rx ry ⟨c,d,e1,e2,q⟩
 subst e1;subst e2
 cases rx;cases ry
 exact isnot_bool ⟨.bl _,H,I,rfl,q⟩
theorem JPZ (g:Gk X B C CX XX G) {j:Nat} {pos':Pos} {k:Bool} (ha:PE X a (RE B C XX x)):PE X (.Compare a [.IsNot] [.Constant (.bool k) j pos'] pos) (RE B C XX (.isnB x k)) :=
 PE.imp (JEH JHw ha JHy rfl) fun σ H Q ⟨δ,ok,kk⟩=>by
  simp only [ev] at kk
  refine RE.of (W:=fun r H=>KE B XX r H Q) ok (fun _ _ z=>z) (fun _ z=>z) kk fun d v H1 s1 d1 h1=>?_
  cases d<;>first | exact False.elim h1 | skip
  rename_i t
  simp only [Den] at d1
  exact ⟨t,k,d1,rfl,KE.ok (KE.mono g s1 h1) (by simp only [Den])⟩
theorem JGN (g:Gk X B C CX XX G) {j:Nat} {pos':Pos} {k:Bool} (ha:PE X a (RE B C XX x)):PT X (.Compare a [.IsNot] [.Constant (.bool k) j pos'] pos) (RT B C XX (.isnB x k)) :=
 PT.imp (JD2 JHw ha JHy rfl) fun σ H Q ⟨δ,ok,kk⟩=>by
  simp only [evT] at kk
  refine RE.of (W:=fun r H=>KB XX r H Q) ok (fun _ _ z=>z) (fun _ z=>z) kk fun d v H1 s1 d1 h1=>?_
  cases d<;>first | exact False.elim h1 | skip
  rename_i t
  simp only [Den] at d1
  exact ⟨t,k,d1,rfl,!(t==k),rfl,h1 H1 s1⟩
end
end VI
end
section
namespace VI
open PySem PySem.Spec PyProof.Rows L2
section
variable {X:Cx} {B:Bs} {C:Cn} {CX:CXT} {XX:Nat->Hp->Prop} {G:List (Str×GK)} {a b c tg:Expr} {x y z:E} {pos p:Pos}
theorem JJw (g:Gk X B C CX XX G) {j:Nat} {pos':Pos} (ha:PE X a (RE B C XX x)):PT X (.Compare a [.Is] [.Constant .none j pos'] pos) (RT B C XX (.isN x false)) :=
 PT.imp (JMW (JLj ha)) fun σ H Q ⟨δ,ok,k⟩=>by
  simp only [evT] at k
  refine RE.of (W:=fun r H=>KB XX r H Q) ok (fun _ _ z=>z) (fun _ z=>z) k fun d v H1 s1 d1 h1=>?_
  exact ⟨isNone d,by rw [JCq d1],by simpa using h1 H1 s1⟩
theorem JNY (g:Gk X B C CX XX G) {j:Nat} {pos':Pos} (ha:PE X a (RE B C XX x)):PT X (.Compare a [.IsNot] [.Constant .none j pos'] pos) (RT B C XX (.isN x true)) :=
 PT.imp (JMW (JHI ha)) fun σ H Q ⟨δ,ok,k⟩=>by
  simp only [evT] at k
  refine RE.of (W:=fun r H=>KB XX r H Q) ok (fun _ _ z=>z) (fun _ z=>z) k fun d v H1 s1 d1 h1=>?_
  exact ⟨!isNone d,by rw [JCq d1],by simpa using h1 H1 s1⟩
theorem JJ4 (g:Gk X B C CX XX G) {j:Nat} {pos':Pos} {k:Bool} (ha:PE X a (RE B C XX x)):PT X (.Compare a [.Is] [.Constant (.bool k) j pos'] pos) (RT B C XX (.isB x k)) :=
 PT.imp (JD2 JLT ha JHy rfl) fun σ H Q ⟨δ,ok,kk⟩=>by
  simp only [evT] at kk
  refine RE.of (W:=fun r H=>KB XX r H Q) ok (fun _ _ z=>z) (fun _ z=>z) kk fun d v H1 s1 d1 h1=>?_
  cases d<;>first | exact False.elim h1 | skip
  rename_i t
  simp only [Den] at d1
  exact ⟨t,k,d1,rfl,t==k,rfl,h1 H1 s1⟩
end
theorem JCH {C:Cn} {k:Nat} {x y z:E} (δ:Env) (d:D) (h:ev C (.cmpr k x z y) δ=.ok d):∃ds,d=.list ds:=by
 simp only [ev] at h
 cases q:evI C z δ with
 | ok xs =>
  simp only [q,R.bind] at h
  split at h
  ·cases qz:JAs (itemF C k x y δ) xs with
   | ok zs=>unfold itemF at qz;simp only [R.bind] at qz;rw [qz] at h;cases h;exact ⟨zs,rfl⟩
   | exc c=>exact (JCG qz).elim
   | bad=>unfold itemF at qz;simp only [R.bind] at qz;rw [qz] at h;cases h
  ·cases h
 | exc c=>simp only [q,R.bind] at h;cases h
 | bad=>simp only [q,R.bind] at h;cases h
theorem JGt {a b:Expr} {op:Operator} {es:List Expr} {k:Nat} (h:JOL a op b=some (es,k)):∃p kk j p2,a=.List es p/\op=.Mult/\b=.Constant (.int kk) j p2/\k=kk.toNat/\0<=kk/\kk<=1000/\es.length<=1000:=by
 unfold JOL at h
 split at h
 ·split at h
  ·rename_i hc
   cases h
   exact ⟨_,_,_,_,rfl,rfl,rfl,rfl,hc.1,hc.2.1,hc.2.2⟩
  ·cases h
 ·cases h
theorem JGo {a b:Expr} {op:Operator} {u v:Int} (h:JNg a op b=some (u,v)):∃i p j p2,a=.Constant (.int u) i p/\op=.Pow/\b=.Constant (.int v) j p2/\0<=u/\u<=100/\0<=v/\v<=20:=by
 unfold JNg at h
 split at h
 ·split at h
  ·rename_i hc
   cases h
   exact ⟨_,_,_,_,rfl,rfl,rfl,hc.1,hc.2.1,hc.2.2.1,hc.2.2.2⟩
  ·cases h
 ·cases h
abbrev Ow:=Nat->Option Addr
open Classical in
noncomputable def hidP (H:Hp) (P:Addr->Prop):Hp:=fun b=>if P b then none else H b
noncomputable def ownP (O:Ow) (b:Addr):Prop:=∃i,O i=some b
noncomputable abbrev hid (H:Hp) (O:Ow):Hp:=hidP H (ownP O)
noncomputable def JAK (B:Bs) (H₀ H:Hp) (O:Ow) (σ:St) (i:Nat):Option Sl->Prop
 | some (.own d)=>∃a ds xs,O i=some a/\d=ds/\σ[i]? = some (some (.ref a))/\H a=some xs/\H₀ a=none/\OwnO B (hid H O) ds xs
 | some (.val d)=>O i=none/\∃v,σ[i]? = some (some v)/\Den B (hid H O) d v
 | _=>O i=none
structure SO (B:Bs) (H₀:Hp) (σ:St) (H:Hp) (δ:Env) (O:Ow):Prop where
 len:σ.length=δ.length
 same:Same H₀ H
 inj:∀i j a,O i=some a->O j=some a->i=j
 slot:∀i,JAK B H₀ H O σ i δ[i]?
noncomputable def JDv (X:Cx) (B:Bs) (XX:Nat->Hp->Prop) (Hb:Hp) (D:Ends):Fl->Prop
 | .nx δ=>∀σ H O,SO B Hb σ H δ O->D.nx σ H
 | .rt d=>∀v H,Same Hb H->Den B H d v->D.rt v H
 | .bk δ=>∀σ H O,SO B Hb σ H δ O->D.bk σ H
 | .ct δ=>∀σ H O,SO B Hb σ H δ O->D.ct σ H
 | .ex c=>XX c Hb
 | .bad=>False
noncomputable def RSt (X:Cx) (B:Bs) (C:Cn) (XX:Nat->Hp->Prop) (t:S):TS:=fun D σ H=>∃δ O Hb,Same X.H₀ Hb/\SO B Hb σ H δ O/\JDv X B XX Hb D (exec C t δ)
section
variable {B:Bs} {C:Cn} {CX:CXT} {G:List (Str×GK)}
structure XOk (B:Bs) (C:Cn) (CX:CXT) (G:List (Str×GK)) (k:XO):Prop where
 val:∀(X:Cx) (XX:Nat->Hp->Prop),Gk X B C CX XX G->∀(e:Expr) (args:List Expr) (y:E),xRaw G X.env.scope.names false e=some (k,args)->PA X args (RA B C XX y)->(∀a∈args,∀es env,starEach (a::es) env=(false,eval a env)::starEach es env)->cnt y=args.length->PE X e (RE B C XX (.xop k y))
 itr:∀(X:Cx) (XX:Nat->Hp->Prop),Gk X B C CX XX G->∀(tg e:Expr) (args:List Expr) (y:E),xRaw G X.env.scope.names true e=some (k,args)->PA X args (RA B C XX y)->(∀a∈args,∀es env,starEach (a::es) env=(false,eval a env)::starEach es env)->cnt y=args.length->PI X tg e (RI B C XX (.xop k y))
 tgt:∀(X:Cx) (XX:Nat->Hp->Prop),Gk X B C CX XX G->∀(ts:List Expr) (kt:Nat) (pt:Pos) (e:Expr) (args:List Expr) (y:E),xTgt G X.env.scope.names e=some (k,args)->PA X args (RA B C XX y)->(∀a∈args,∀es env,starEach (a::es) env=(false,eval a env)::starEach es env)->cnt y=args.length->PI X (.Tuple ts kt pt) e (RI B C XX (.xop k y))
noncomputable def PEs (X:Cx) (B:Bs) (C:Cn) (XX:Nat->Hp->Prop):List Expr->E->Prop
 | [],.nil=>True
 | a::r,.cons x y=>PE X a (RE B C XX x)/\PEs X B C XX r y
 | _,_=>False
structure DOk (B:Bs) (C:Cn) (CX:CXT) (G:List (Str×GK)):Prop where
 val:∀(X:Cx) (XX:Nat->Hp->Prop),Gk X B C CX XX G->∀(e:Expr) (k:XO) (args:List Expr) (y:E),dRaw G X.env.scope.names false e=some (k,args)->PEs X B C XX args y->(∀a∈args,∀es env,starEach (a::es) env=(false,eval a env)::starEach es env)->PE X e (RE B C XX (.xop k y))/\PT X e (RT B C XX (.xop k y))
 itr:∀(X:Cx) (XX:Nat->Hp->Prop),Gk X B C CX XX G->∀(tg e:Expr) (k:XO) (args:List Expr) (y:E),dRaw G X.env.scope.names true e=some (k,args)->PEs X B C XX args y->(∀a∈args,∀es env,starEach (a::es) env=(false,eval a env)::starEach es env)->PI X tg e (RI B C XX (.xop k y))
 own:∀(X:Cx) (XX:Nat->Hp->Prop),Gk X B C CX XX G->∀(e:Expr) (k:XO) (args:List Expr) (y:E),dRaw G X.env.scope.names false e=some (k,args)->JPO k=true->PEs X B C XX args y->(∀a∈args,∀es env,starEach (a::es) env=(false,eval a env)::starEach es env)->PE X e (REF B C XX (.xop k y))
 frz:∀(X:Cx) (XX:Nat->Hp->Prop),Gk X B C CX XX G->∀(st:Stmt) (t:S) (i:Nat),PS X st (RSt X B C XX t)->PS X st (RSt X B C XX (.cons (.frz i) t))
 put:∀(X:Cx) (XX:Nat->Hp->Prop),Gk X B C CX XX G->∀(nm:Str) (i:Nat) (p1 p2 pos:Pos) (ke v:Expr) (z y:E),X.N[i]? = some nm->Vis X.env.scope nm->JAR nm=false->isSlice ke=false->PE X v (RE B C XX y)->PE X ke (RE B C XX z) ->
  (∀t l,swapsWith v t l X.env=pure false)->PS X (.Assign [.Subscript (.Name nm p1) ke p2] v pos) (RSt X B C XX (.put i z y))
structure RO (B:Bs) (C:Cn) (CX:CXT) (G:List (Str×GK)):Prop where
 count:G.lookup (".met":Str)=some GK.opt->∀(X:Cx) (XX:Nat->Hp->Prop),Gk X B C CX XX G->∀(o a:Expr) (x y:E) (ap cp:Pos),JBe o=false->(ap.endLine==cp.line)=true->PE X o (RE B C XX x)->PE X a (RE B C XX y)->starEach [a] X.env=[(false,eval a X.env)] ->
  PE X (.Call (.Attribute o "count" ap) [a] [] cp) (RE B C XX (.mcount x y))
 index:G.lookup (".met":Str)=some GK.opt->∀(X:Cx) (XX:Nat->Hp->Prop),Gk X B C CX XX G->∀(o a:Expr) (x y:E) (ap cp:Pos),JBe o=false->(ap.endLine==cp.line)=true->PE X o (RE B C XX x)->PE X a (RE B C XX y)->starEach [a] X.env=[(false,eval a X.env)] ->
  PE X (.Call (.Attribute o "index" ap) [a] [] cp) (RE B C XX (.mindex x y))
 get:G.lookup (".met":Str)=some GK.opt->∀(X:Cx) (XX:Nat->Hp->Prop),Gk X B C CX XX G->∀(o a b:Expr) (x y z:E) (ap cp:Pos),JBe o=false->(ap.endLine==cp.line)=true->PE X o (RE B C XX x)->PE X a (RE B C XX y)->PE X b (RE B C XX z) ->
  starEach [a,b] X.env=[(false,eval a X.env),(false,eval b X.env)]->starEach [b] X.env=[(false,eval b X.env)]->PE X (.Call (.Attribute o "get" ap) [a,b] [] cp) (RE B C XX (.mget x y z))
 all:G.lookup ("all":Str)=some (.blt .all)->∀(X:Cx) (XX:Nat->Hp->Prop),Gk X B C CX XX G->CallR X (.builtin "all") (fun vs H Q=>∃ds,DenL B H ds vs/\KE B XX (bltD .all ds) H Q)
 rvs:G.lookup (".rvs":Str)=some GK.opt->∀(X:Cx) (XX:Nat->Hp->Prop),Gk X B C CX XX G->∀(a i:Expr) (x:E) (pos:Pos),JOR i=true->PE X a (RE B C XX x)->PE X (.Subscript a i pos) (RE B C XX (.fn1 .rev x))
structure Rare (B:Bs) (C:Cn) (CX:CXT) (G:List (Str×GK)):Prop where
 nox:∀outer H s e s',¬CX outer H s (EX B fun _ _=>False) e s'
 isi:∀(X:Cx) (XX:Nat->Hp->Prop),Gk X B C CX XX G->∀(a:Expr) (x:E) (t:Str) (ty:Ty) (p pt pos:Pos),Gl X "isinstance"->Gl X t->G.lookup ("isinstance":Str)=some GK.isi->(G.lookup t=some (.ty ty)/\JA9 ty=some t\/∃c,ty=.own c/\G.lookup t=some (.cls c))->JAR t=false ->
  PE X a (RE B C XX x)->starEach [a,.Name t pt] X.env=(false,eval a X.env)::starEach [.Name t pt] X.env->PE X (.Call (.Name "isinstance" p) [a,.Name t pt] [] pos) (RE B C XX (.isi x ty))
 min:G.lookup ("min":Str)=some (.blt .min)->∀(X:Cx) (XX:Nat->Hp->Prop),Gk X B C CX XX G->CallR X (.builtin "min") (fun vs H Q=>∃ds,DenL B H ds vs/\KE B XX (bltD .min ds) H Q)
 dct:G.lookup (".dct":Str)=some GK.opt->∀(X:Cx) (XX:Nat->Hp->Prop),Gk X B C CX XX G->∀(n:Nat) (names:List (Str×NameKind)) (N:List Str) (ks:List (Option Expr)) (vs:List Expr) (xs:List Str) (x:E) (pos:Pos),(∀e x,JAN G n false names N e=some x->PE X e (RE B C XX x)) ->
  strKeys ks=some xs->1<=xs.length->xs.length<=15->xs.length=vs.length->xs.Nodup->JAJ (JAN G n false names N) vs=some x->PE X (.Dict ks vs pos) (RE B C XX (.dct xs x))
 rep:G.lookup (".rep":Str)=some GK.opt->∀(X:Cx) (XX:Nat->Hp->Prop),Gk X B C CX XX G->∀(es:List Expr) (x:E) (k:Int) (j:Nat) (p p2 pos:Pos),PA X es (RA B C XX x)->cnt x<=1000->0<=k->k<=1000->PE X (.BinOp (.List es p) .Mult (.Constant (.int k) j p2) pos) (RE B C XX (.rep k.toNat x))
 xop:∀k:XO,G.lookup k.flag=some GK.opt->XOk B C CX G k
 dop:G.lookup (".dict":Str)=some GK.opt->DOk B C CX G
 ro:RO B C CX G
theorem JD9 {names:List (Str×NameKind)} {e:Expr} {q:XO×List Expr} (h:xT G names e=some q):xTgt G names e=some q/\G.lookup q.1.flag=some GK.opt:=by
 unfold xT at h
 obtain ⟨r,h1,h2⟩:=q_a.mp h
 split at h2
 ·cases h2
  exact ⟨h1,by assumption⟩
 ·cases h2
theorem JFg {names:List (Str×NameKind)} {e:Expr} {q:XO×List Expr} (h:xT G names e=some q) (env:PySem.Env) (v:Value):foldedSetIterable e env v=pure v:=by
 obtain ⟨h1,_⟩:=JD9 h
 unfold xTgt at h1
 split at h1
 ·rfl
 ·rfl
 ·cases h1
theorem JHj {names:List (Str×NameKind)} (h:dOn G names=true):G.lookup (".dict":Str)=some GK.opt:=of_decide_eq_true (Bool.and_eq_true_iff.mp h).1
theorem JGE {names:List (Str×NameKind)} {it:Bool} {e:Expr} {q:XO×List Expr} (h:dOf G names it e=some q):dRaw G names it e=some q/\G.lookup (".dict":Str)=some GK.opt:=by
 obtain ⟨r,h1,h2⟩:=q_a.mp h
 split at h2
 ·cases h2
  exact ⟨h1,JHj (by assumption)⟩
 ·cases h2
theorem JGh {names:List (Str×NameKind)} {it:Bool} {e:Expr} {q:XO×List Expr} (h:xOf G names it e=some q):(dRaw G names it e=some q/\G.lookup (".dict":Str)=some GK.opt)\/xRaw G names it e=some q/\G.lookup q.1.flag=some GK.opt:=by
 unfold xOf at h
 cases hd:dOf G names it e with
 | some r =>
  rw [hd] at h
  cases h
  exact .inl (JGE hd)
 | none =>
  rw [hd] at h
  obtain ⟨r,h1,h2⟩:=q_a.mp h
  split at h2
  ·rename_i hf
   cases h2
   exact .inr ⟨h1,hf⟩
  ·cases h2
theorem JKH {names:List (Str×NameKind)} {it:Bool} {e:Expr} {q:XO×List Expr} (h:xRaw G names it e=some q):q.1.isT=false:=by
 have srt:∀ {f:Str} {a:Expr} {q:XO×List Expr},JET G names f a=some q->q.1.isT=false:=fun {f a q} h=>by
  unfold JET at h
  split at h
  ·split at h
   ·split at h<;>(cases h;rfl)
   ·cases h;rfl
  ·cases h
 cases e<;>try exact JAC h
 rename_i f as ks p
 cases f<;>try exact JAC h
 rcases as with _ | ⟨a,_ | ⟨_,_⟩⟩<;>try exact JAC h
 rcases ks with _ | ⟨_,_⟩<;>try exact JAC h
 rename_i f p2
 have h:JC1 G names it f a=some q:=h
 unfold JC1 at h
 split at h
 ·split at h
  ·cases h;rfl
  ·exact srt h
 ·split at h
  ·split at h
   ·split at h
    ·cases h;rfl
    ·cases h
   ·cases h
  ·exact srt h
theorem JCx {n:Nat} {names:List (Str×NameKind)} {N:List Str}:∀ {es:List Expr} {x:E},JAJ (JAN G n false names N) es=some x->∀a∈es,∀r env,starEach (a::r) env=(false,eval a env)::starEach r env
 | e::es,x,h,a,ha,r,env=>by
  unfold JAJ at h
  obtain ⟨y,h1,h⟩:=q_a.mp h
  obtain ⟨z,h2,h⟩:=q_a.mp h
  rcases q_n.mp ha with z | ha
  ·subst z;exact JAY h1 r env
  ·exact JCx h2 a ha r env
theorem pes {X:Cx} {XX:Nat->Hp->Prop} {n:Nat} {names:List (Str×NameKind)} {N:List Str} (ih:∀e x,JAN G n false names N e=some x->PE X e (RE B C XX x)):∀ {es:List Expr} {x:E},JAJ (JAN G n false names N) es=some x->PEs X B C XX es x
 | [],x,h=>by unfold JAJ at h;cases h;exact trivial
 | e::r,x,h=>by
  unfold JAJ at h
  obtain ⟨y,h1,h⟩:=q_a.mp h
  obtain ⟨z,h2,h⟩:=q_a.mp h
  cases h
  exact ⟨ih e y h1,pes ih h2⟩
theorem sound (ra:Rare B C CX G):∀(n:Nat) (X:Cx) (XX:Nat->Hp->Prop) (names:List (Str×NameKind)) (N:List Str),Gk X B C CX XX G->X.env.scope.kind=.function->X.env.scope.names=names->X.N=N->N.Nodup ->
  (∀e x,JAN G n false names N e=some x->PE X e (RE B C XX x)/\PT X e (RT B C XX x))/\(∀tg e x,JAN G n true names N e=some x->PI X tg e (RI B C XX x))
 | 0,X,XX,names,N,g,hk,hn,hN,hnd=>⟨fun e x h=>by simp [JAN,JAe,JAO] at h,fun tg e x h=>by simp [JAN,JAe,JAO] at h⟩
 | n+1,X,XX,names,N,g,hk,hn,hN,hnd=>by
  obtain ⟨ih,ihI⟩:=sound ra n X XX names N g hk hn hN hnd
  have ihE:∀e x,JAN G n false names N e=some x->PE X e (RE B C XX x):=fun e x h=>(ih e x h).1
  have truthOf:∀ {e:Expr} {x:E},PE X e (RE B C XX x)->(∀whole,isTrue e X.env whole=(do let v<-whole;standAt e.pos;holding [v] (truthy v)))->(∀δ,evT C x δ=(ev C x δ).bind truth)->PE X e (RE B C XX x)/\PT X e (RT B C XX x) :=
    fun h1 h2 h3=>⟨h1,JNR g h1 h2 h3⟩
  have valOnly:∀ {e:Expr} {x:E},PE X e (RE B C XX x)->(∀δ,evT C x δ=.bad)->PE X e (RE B C XX x)/\PT X e (RT B C XX x):=fun h1 h2=>⟨h1,JG6 h2⟩
  have nameE:∀(b:Bool) (x:Str) (p:Pos) (y:E),xOf G names b (.Name x p)=none->JAN G (n+1) b names N (.Name x p)=some y->PE X (.Name x p) (RE B C XX y)/\((∀δ,evT C y δ=(ev C y δ).bind truth)\/∀δ,evT C y δ=.bad)/\∀δ,evI C y δ=(ev C y δ).bind JAa:=by
    intro b x p y hxx h
    rw [JAE hxx] at h;dsimp only [JAO] at h
    split at h
    ·cases h
    ·rename_i hb
     have hb':JAR x=false:=by simpa using hb
     split at h
     · rename_i hv
       obtain ⟨i,hi,e⟩:=q_d.mp h
       subst e
       exact ⟨s_var (by rw [hN];exact JC9 hi) (JEy hn hv) hb',(.inl fun δ=>by simp only [evT,ev]),fun δ=>by simp only [evI,ev]⟩
     · split at h
       ·rename_i i hg
        cases h
        obtain ⟨_,h2,h3⟩:=JAy hg
        exact ⟨s_glo g (JBR hn h2) h3 hb',(.inr fun δ=>by simp only [evT]),fun δ=>by simp only [evI,ev]⟩
       ·cases h
  have callE:∀(b:Bool) (f:Str) (p pos:Pos) (args:List Expr) (y:E),xOf G names b (.Call (.Name f p) args [] pos)=none->JAN G (n+1) b names N (.Call (.Name f p) args [] pos)=some y->(∃i x,y=.call i x/\PE X (.Call (.Name f p) args [] pos) (RE B C XX y)) \/
     (b=false/\((∃i x,y=.blt i x)\/(∃a t,y=.isi a t)\/∃o a,y=.fn1 o a)/\PE X (.Call (.Name f p) args [] pos) (RE B C XX y))\/(b=true/\∃x,y=.rng x/\∀tg,PI X tg (.Call (.Name f p) args [] pos) (RI B C XX y)):=by
    intro b f p pos args y hxx h
    rw [JAE hxx] at h;dsimp only [JAO] at h
    split at h
    ·rename_i i hg
     obtain ⟨h1,h2,h3⟩:=JAy hg
     split at h
     · rename_i e r
       obtain ⟨x,hx,e'⟩:=q_d.mp h
       subst e'
       obtain ⟨a,ha,hx'⟩:=q_a.mp (by unfold JAJ at hx;exact hx)
       exact .inl ⟨i,x,rfl,s_call g (JBR hn h2) h3 h1 (allA g ihE hx) (JAY ha r X.env) (JBo hx)⟩
     · cases h
    ·rename_i hg
     obtain ⟨h1,h2,h3⟩:=JAy hg
     split at h
     · rename_i hb
       obtain ⟨hb1,hb2⟩:=hb
       subst hb2
       split at h
       ·rename_i a
        obtain ⟨x,hx,e'⟩:=q_d.mp h
        subst e'
        obtain ⟨a',ha,_⟩:=q_a.mp (by unfold JAJ at hx;exact hx)
        exact .inr (.inr ⟨hb1,x,rfl,fun tg=>JPA g (JBR hn h2) (g.rng _ h3) (allA g ihE hx) (JAT hx) (JAY ha [] X.env)⟩)
       ·rename_i a a2
        obtain ⟨x,hx,e'⟩:=q_d.mp h
        subst e'
        obtain ⟨a',ha,hr⟩:=q_a.mp (by unfold JAJ at hx;exact hx)
        obtain ⟨r',hr',_⟩:=q_a.mp hr
        obtain ⟨a2',ha2,_⟩:=q_a.mp (by unfold JAJ at hr';exact hr')
        exact .inr (.inr ⟨hb1,x,rfl,fun tg=>JPE g (JBR hn h2) (g.rng _ h3) (allA g ihE hx) (JAT hx) (by rw [JAY ha [a2] X.env,JAY ha2 [] X.env];rfl) (JAY ha2 [] X.env)⟩)
       ·cases h
     · cases h
    ·rename_i bl hg
     obtain ⟨h1,h2,h3⟩:=JAy hg
     split at h
     · rename_i hb
       obtain ⟨hb1,hb2⟩:=hb
       split at h
       ·rename_i e r
        obtain ⟨x,hx,e'⟩:=q_d.mp h
        subst e'
        obtain ⟨a,ha,hx'⟩:=q_a.mp (by unfold JAJ at hx;exact hx)
        refine .inr (.inl ⟨hb1,.inl ⟨bl,x,rfl⟩,?_⟩)
        subst hb2
        cases bl with
        | len=>exact JJ9 g (JIL g) PySem.boot_len (JBR hn h2) h3 h1 (allA g ihE hx) (JAY ha r X.env) (JBo hx)
        | abs=>exact JJ9 (id:="abs") g (JIG g) (by decide +kernel) (JBR hn h2) h3 h1 (allA g ihE hx) (JAY ha r X.env) (JBo hx)
        | all=>exact JJ9 (id:="all") g (ra.ro.all h3 X XX g) (by decide +kernel) (JBR hn h2) h3 h1 (allA g ihE hx) (JAY ha r X.env) (JBo hx)
        | min=>exact JJ9 (id:="min") g (ra.min h3 X XX g) (by decide +kernel) (JBR hn h2) h3 h1 (allA g ihE hx) (JAY ha r X.env) (JBo hx)
       ·cases h
     · cases h
    ·rename_i hg
     obtain ⟨h1,h2,h3⟩:=JAy hg
     split at h
     · rename_i hb
       obtain ⟨hb1,hb2⟩:=hb
       subst hb2
       split at h
       ·rename_i a t pt
        split at h
        ·rename_i ty hgt
         obtain ⟨t1,t2,t3⟩:=JAy hgt
         split at h
         · rename_i ht
           obtain ⟨x,hx,e'⟩:=q_d.mp h
           subst e'
           exact .inr (.inl ⟨hb1,.inr (.inl ⟨x,ty,rfl⟩),ra.isi X XX g a x t ty p pt pos (JBR hn h2) (JBR hn t2) h3 (.inl ⟨t3,ht⟩) t1 (ihE a x hx) (JAY hx _ X.env)⟩)
         · cases h
        ·rename_i c hgt
         obtain ⟨t1,t2,t3⟩:=JAy hgt
         obtain ⟨x,hx,e'⟩:=q_d.mp h
         subst e'
         exact .inr (.inl ⟨hb1,.inr (.inl ⟨x,.own c,rfl⟩),ra.isi X XX g a x t (.own c) p pt pos (JBR hn h2) (JBR hn t2) h3 (.inr ⟨c,rfl,t3⟩) t1 (ihE a x hx) (JAY hx _ X.env)⟩)
        ·cases h
       ·cases h
     · cases h
    ·rename_i ty hg
     obtain ⟨h1,h2,h3⟩:=JAy hg
     split at h
     · rename_i hb
       obtain ⟨hb1,hb2⟩:=hb
       obtain ⟨o,ho,h⟩:=q_a.mp h
       match args,h with
       | [a],h =>
        obtain ⟨x,hx,e'⟩:=q_d.mp h
        subst e'
        exact .inr (.inl ⟨hb1,.inr (.inr ⟨o,x,rfl⟩),JPw g ho hb2 (JBR hn h2) h3 h1 (ihE a x hx) (JAY hx [] X.env)⟩)
       | [],h=>cases h
       | _::_::_,h=>cases h
     · cases h
    ·cases h
  have tupE:∀(b:Bool) (es:List Expr) (k:Nat) (p:Pos) (y:E),xOf G names b (.Tuple es k p)=none->JAN G (n+1) b names N (.Tuple es k p)=some y->∃x,y=.tup x/\PE X (.Tuple es k p) (RE B C XX y):=by
    intro b es k p y hxx h
    rw [JAE hxx] at h;dsimp only [JAO] at h
    split at h
    ·rename_i hl
     obtain ⟨x,hx,e'⟩:=q_d.mp h
     subst e'
     exact ⟨x,rfl,s_tup g (allA g ihE hx) (by rw [JAT hx];exact hl)⟩
    ·cases h
  have lstE:∀(b:Bool) (es:List Expr) (p:Pos) (y:E),xOf G names b (.List es p)=none->JAN G (n+1) b names N (.List es p)=some y->∃x,y=.lst x/\PE X (.List es p) (RE B C XX y):=by
    intro b es p y hxx h
    rw [JAE hxx] at h;dsimp only [JAO] at h
    split at h
    ·rename_i hl
     obtain ⟨x,hx,e'⟩:=q_d.mp h
     subst e'
     exact ⟨x,rfl,s_lst g (allA g ihE hx) (by rw [JAT hx];exact hl)⟩
    ·cases h
  have subE:∀(b:Bool) (a i:Expr) (p:Pos) (y:E),xOf G names b (.Subscript a i p)=none->JAN G (n+1) b names N (.Subscript a i p)=some y->((∃x z,y=.idx x z)\/∃o x,y=.fn1 o x)/\PE X (.Subscript a i p) (RE B C XX y):=by
    intro b a i p y hxx h
    rw [JAE hxx] at h;dsimp only [JAO] at h
    split at h
    ·split at h
     · rename_i hr
       split at h
       case isFalse=>cases h
       rename_i hfl
       obtain ⟨x,hx,e'⟩:=q_d.mp h
       subst e'
       exact ⟨.inr ⟨_,x,rfl⟩,ra.ro.rvs hfl X XX g a i x p hr (ihE a x hx)⟩
     · obtain ⟨q,hq,h⟩:=q_a.mp h
       obtain ⟨x,hx,e'⟩:=q_d.mp h
       subst e'
       exact ⟨.inr ⟨_,x,rfl⟩,JNa g hq (ihE a x hx)⟩
    ·rename_i hs
     obtain ⟨x,hx,h⟩:=q_a.mp h
     obtain ⟨z,hz,h⟩:=q_a.mp h
     cases h
     exact ⟨.inl ⟨x,z,rfl⟩,s_idx g (ihE a x hx) (ihE i z hz) (by simpa using hs)⟩
  constructor
  · intro e x h
    cases hxx:xOf G names false e with
    | some q =>
     rw [JGb hxx] at h
     obtain ⟨y,hy,e'⟩:=q_d.mp h
     subst e'
     rcases JGh hxx with ⟨q1,q2⟩ | ⟨q1,q2⟩
     · exact (ra.dop q2).val X XX g e q.1 q.2 y (by rw [hn];exact q1) (pes ihE hy) (JCx hy)
     · exact valOnly ((ra.xop q.1 q2).val X XX g e q.2 y (by rw [hn];exact q1) (allA g ihE hy) (JCx hy) (JAT hy)) fun δ=>by simp only [evT,JKH q1,q_v,if_false]
    | none =>
    cases e with
    | Name nm p =>
     obtain ⟨h1,h2,_⟩:=nameE false nm p x hxx h
     rcases h2 with h2 | h2
     · exact truthOf h1 (fun _=>rfl) h2
     · exact valOnly h1 h2
    | Constant c j p =>
     rw [JAE hxx] at h;dsimp only [JAO] at h
     cases c<;>simp only [q_j,reduceCtorEq] at h<;>subst h
     · exact valOnly s_non fun δ=>by simp only [evT]
     · exact truthOf s_bl (fun _=>rfl) fun δ=>by simp only [evT,ev,R.bind,truth]
     · exact valOnly s_int fun δ=>by simp only [evT]
     · exact valOnly s_str fun δ=>by simp only [evT]
    | Tuple es k p =>
     obtain ⟨y,rfl,h1⟩:=tupE false es k p x hxx h
     exact valOnly h1 fun δ=>by simp only [evT]
    | List es p =>
     obtain ⟨y,rfl,h1⟩:=lstE false es p x hxx h
     exact valOnly h1 fun δ=>by simp only [evT]
    | Subscript a i p =>
     obtain ⟨⟨y,z,rfl⟩ | ⟨o,y,rfl⟩,h1⟩:=subE false a i p x hxx h
     · exact truthOf h1 (fun _=>rfl) fun δ=>by simp only [evT,ev]
     · exact valOnly h1 fun δ=>by simp only [evT]
    | Dict ks vs p =>
     rw [JAE hxx] at h;dsimp only [JAO] at h
     split at h
     · rename_i xs hks
       split at h
       ·rename_i hc
        obtain ⟨y,hy,e'⟩:=q_d.mp h
        subst e'
        exact valOnly (ra.dct hc.2.1 X XX g n names N ks vs xs y p ihE hks hc.2.2.1 hc.2.2.2.1 hc.2.2.2.2.1 (of_decide_eq_true hc.2.2.2.2.2) hy) fun δ=>by simp only [evT]
       ·cases h
     · cases h
    | BinOp a op b p =>
     rw [JAE hxx] at h;dsimp only [JAO] at h
     split at h
     · rename_i es k hr
       split at hr
       case isFalse=>cases hr
       rename_i hz
       obtain ⟨p1,kk,j,p2,rfl,rfl,rfl,rfl,hr1,hr2,hr3⟩:=JGt hr
       obtain ⟨y,hy,e'⟩:=q_d.mp h
       subst e'
       exact valOnly (ra.rep hz.2 X XX g es y kk j p1 p2 p (allA g ihE hy) (by rw [JAT hy];exact hr3) hr1 hr2) fun δ=>by simp only [evT]
     · split at h
       ·rename_i u v hp
        obtain ⟨i1,q1,i2,q2,rfl,rfl,rfl,hp1,hp2,hp3,hp4⟩:=JGo hp
        split at h
        case isFalse=>cases h
        cases h
        exact valOnly (s_pow hp1 hp2 hp3 hp4) fun δ=>by simp only [evT]
       ·split at h
        ·rename_i ho
         obtain ⟨y,hy,h⟩:=q_a.mp h
         obtain ⟨z,hz,h⟩:=q_a.mp h
         cases h
         exact valOnly (JPk g (ihE a y hy) (ihE b z hz)) fun δ=>by simp only [evT]
        ·cases h
    | UnaryOp op a p =>
     rw [JAE hxx] at h;dsimp only [JAO] at h
     cases op<;>simp only [q_d,reduceCtorEq] at h
     · obtain ⟨y,hy,e'⟩:=h
       subst e'
       exact ⟨s_not g (ihE a y hy),JK1 g (ih a y hy).2⟩
     · obtain ⟨y,hy,e'⟩:=h
       subst e'
       exact valOnly (s_neg g (ihE a y hy)) fun δ=>by simp only [evT]
    | BoolOp op es p =>
     rw [JAE hxx] at h;dsimp only [JAO] at h
     cases op
     · obtain ⟨q1,q2⟩:=JMa g ih h
       exact ⟨q1,q2.pt⟩
     · obtain ⟨q1,q2⟩:=JOs g ih h
       exact ⟨q1,q2.pt⟩
    | Compare a ops bs p =>
     match ops,bs,h with
     | [op],[b],h =>
       rw [JAE hxx] at h;dsimp only [JAO] at h;rw [if_neg Bool.false_ne_true] at h
       have cmpd:∀(y z:E),PE X a (RE B C XX y)->PE X b (RE B C XX z)->behindInMarks op b=false->PE X (.Compare a [op] [b] p) (RE B C XX (.cmp op y z))/\PT X (.Compare a [op] [b] p) (RT B C XX (.cmp op y z)):=fun y z h1 h2 hm =>
        ⟨JA4 g h1 h2 hm,JLz op (JD2 (JG1 g op) h1 h2 hm) (fun σ H Q ⟨δ,ok,k⟩=>two g (f:=cmpD op) (fun x y H dx dy h1 h2 k=>⟨dx,dy,h1,h2,k⟩) ⟨δ,ok,by simpa only [ev] using k⟩) (fun δ=>by simp only [evT,ev]) fun δ d h=>JFZ h⟩
       cases op<;>simp only at h<;>first
        |(split at h
          · cases h
          · rename_i hm
            obtain ⟨y,hy,h⟩:=q_a.mp h
            obtain ⟨z,hz,h⟩:=q_a.mp h
            cases h
            exact cmpd y z (ihE a y hy) (ihE b z hz) (by simpa using hm))
        | skip
       ·split at h
        ·obtain ⟨y,hy,e'⟩:=q_d.mp h
         subst e'
         exact ⟨s_isN g (ihE a y hy),JJw g (ihE a y hy)⟩
        ·obtain ⟨y,hy,e'⟩:=q_d.mp h
         subst e'
         exact ⟨s_isB g (ihE a y hy),JJ4 g (ihE a y hy)⟩
        ·cases h
       ·split at h
        ·obtain ⟨y,hy,e'⟩:=q_d.mp h
         subst e'
         exact ⟨JNN g (ihE a y hy),JNY g (ihE a y hy)⟩
        ·obtain ⟨y,hy,e'⟩:=q_d.mp h
         subst e'
         exact ⟨JPZ g (ihE a y hy),JGN g (ihE a y hy)⟩
        ·cases h
     | [],_,h=>exact JAC ((JAE hxx).symm.trans h)
     | _::_::_,_,h=>exact JAC ((JAE hxx).symm.trans h)
     | [_],[],h=>exact JAC ((JAE hxx).symm.trans h)
     | [_],_::_::_,h=>exact JAC ((JAE hxx).symm.trans h)
    | IfExp c a b p =>
     rw [JAE hxx] at h;dsimp only [JAO] at h;rw [if_neg Bool.false_ne_true] at h
     obtain ⟨z,hz,h⟩:=q_a.mp h
     obtain ⟨y,hy,h⟩:=q_a.mp h
     obtain ⟨w,hw,h⟩:=q_a.mp h
     cases h
     exact valOnly (s_ife g (ih c z hz).2 (ihE a y hy) (ihE b w hw)) fun δ=>by simp only [evT]
    | Call f args kws p =>
     cases f with
     | Name nm p2 =>
       cases kws with
       | nil =>
        rcases callE false nm p2 p args x hxx h with ⟨i,y,rfl,h1⟩ | ⟨_,hs,h1⟩ | ⟨hb,_⟩
        ·exact truthOf h1 (fun _=>rfl) fun δ=>by simp only [evT,ev]
        ·rcases hs with ⟨i,y,rfl⟩ | ⟨y,t,rfl⟩ | ⟨o,y,rfl⟩
         · exact truthOf h1 (fun _=>rfl) fun δ=>by simp only [evT,ev]
         · exact truthOf h1 (fun _=>rfl) fun δ=>by simp only [evT,ev]
         · exact valOnly h1 fun δ=>by simp only [evT]
        ·cases hb
       | cons k ks=>exact JAC ((JAE hxx).symm.trans h)
     | Attribute o m ap =>
       cases kws with
       | cons k ks=>match args,h with
        | [],h=>exact JAC ((JAE hxx).symm.trans h)
        | [_],h=>exact JAC ((JAE hxx).symm.trans h)
        | [_,_],h=>exact JAC ((JAE hxx).symm.trans h)
        | _::_::_::_,h=>exact JAC ((JAE hxx).symm.trans h)
       | nil=>match args,h with
        | [],h=>exact JAC ((JAE hxx).symm.trans h)
        | _::_::_::_,h=>exact JAC ((JAE hxx).symm.trans h)
        | [a],hh =>
         clear h
         rw [JAE hxx] at hh;dsimp only [JAO] at hh
         split at hh
         · rename_i hc
           split at hh
           · rename_i hm
             subst hm
             obtain ⟨y,hy,hh⟩:=q_a.mp hh
             obtain ⟨z,hz,hh⟩:=q_a.mp hh
             cases hh
             exact valOnly (ra.ro.count hc.2 X XX g o a y z ap p hc.1.2.1 hc.1.2.2 (ihE o y hy) (ihE a z hz) (JAY hz [] X.env)) fun δ=>by simp only [evT]
           · split at hh
             ·rename_i hm
              subst hm
              obtain ⟨y,hy,hh⟩:=q_a.mp hh
              obtain ⟨z,hz,hh⟩:=q_a.mp hh
              cases hh
              exact valOnly (ra.ro.index hc.2 X XX g o a y z ap p hc.1.2.1 hc.1.2.2 (ihE o y hy) (ihE a z hz) (JAY hz [] X.env)) fun δ=>by simp only [evT]
             ·cases hh
         · cases hh
        | [a,b],hh =>
         clear h
         rw [JAE hxx] at hh;dsimp only [JAO] at hh
         split at hh
         · rename_i hc
           obtain ⟨⟨_,h1,h2,h3⟩,hfl⟩:=hc
           subst h3
           obtain ⟨y,hy,hh⟩:=q_a.mp hh
           obtain ⟨z,hz,hh⟩:=q_a.mp hh
           obtain ⟨w,hw,hh⟩:=q_a.mp hh
           cases hh
           exact valOnly (ra.ro.get hfl X XX g o a b y z w ap p h1 h2 (ihE o y hy) (ihE a z hz) (ihE b w hw) (by rw [JAY hz [b] X.env,JAY hw [] X.env];rfl) (JAY hw [] X.env)) fun δ=>by simp only [evT]
         · cases hh
     | _=>exact JAC ((JAE hxx).symm.trans h)
    | ListComp elt gens sc p =>
     match gens,h with
     | [],h=>exact JAC ((JAE hxx).symm.trans h)
     | ⟨_,_,_,_⟩::_::_,h=>exact JAC ((JAE hxx).symm.trans h)
     | [⟨tg,iter,ifs,as⟩],h =>
       rw [JAE hxx] at h;dsimp only [JAO] at h
       split at h
       ·cases h
       ·rename_i hc
        have hc1:as=0:=Decidable.byContradiction fun z=>hc (.inr (.inl z))
        have hc2:sc.kind=.function:=Decidable.byContradiction fun z=>hc (.inr (.inr z))
        subst hc1
        split at h
        ·cases h
        ·rename_i k xs htg
         split at h
         · rename_i hs
           obtain ⟨i,hi,h⟩:=q_a.mp h
           obtain ⟨y,hy,h⟩:=q_a.mp h
           have bk:=JLf hk hn hN hc2 hs
           refine valOnly ?_ fun δ=>?_
           · cases tg with
             | Name nm px =>
              simp only [JBy,q_j,Prod.mk.injEq] at htg
              obtain ⟨e1,e2⟩:=htg
              subst e1;subst e2
              unfold itK at hi;rw [if_pos rfl] at hi
              have inner:=fun (Cc:Addr) (fp:List Addr) (s0:Shared) (H0:Hp)=>sound ra n (JAd X sc Cc ([nm]++mask [nm] 0 X.N) fp s0 H0) (fun _ _=>False) (JAr names sc.names) ([nm]++mask [nm] 0 N)
               (Gk.nox g rfl rfl rfl rfl rfl rfl rfl fun _ _ _ _ _ _ _ z=>(ra.nox _ _ _ _ _ z).elim) hc2 (by rw [<-hn];exact JAU hk) (by rw [<-hN];rfl) (by rw [<-hN];exact bk.nd)
              have hloc:∀Cc fp s0 H0,(JAd X sc Cc ([nm]++mask [nm] 0 X.N) fp s0 H0).env.scope.names.lookup nm=some .local:=fun Cc fp s0 H0=>by
               show (compEnvC sc (JBA X.env.cells sc.names []) Cc X.env).scope.names.lookup nm=_
               rw [JAU hk]
               exact JA6 (bk.tg nm (by simp))
              match ifs,h with
              | [],h =>
               cases h
               exact REF.of (JDG g bk (ihI _ iter i hi) (JBm hi X.env) fun Cc fp s0 H0 σ δ=>JCE (by exact bk.nd) rfl (hloc Cc fp s0 H0) ((inner Cc fp s0 H0).1 elt y hy).1 (fun c hc=>by cases hc) (.inl ⟨rfl,rfl⟩) rfl) JCH
              | [c],h =>
               obtain ⟨w,hw,h⟩:=q_a.mp h
               cases h
               exact REF.of (JDG g bk (ihI _ iter i hi) (JBm hi X.env) fun Cc fp s0 H0 σ δ=>JCE (by exact bk.nd) rfl (hloc Cc fp s0 H0) ((inner Cc fp s0 H0).1 elt y hy).1 (fun c' hc=>by cases hc;exact ((inner Cc fp s0 H0).1 c w hw).2) (.inr ⟨c,rfl⟩) rfl) JCH
              | _::_::_,h=>cases h
             | Tuple ts kt pt =>
              simp only [JBy] at htg
              obtain ⟨xs',hx,htg⟩:=q_a.mp htg
              split at htg
              ·cases htg
              ·rename_i hne
               simp only [q_j,Prod.mk.injEq] at htg
               obtain ⟨e1,e2⟩:=htg
               subst e2;subst e1
               have hk0:xs'.length≠0:=fun z=>hne (q_B.mp z)
               unfold itK at hi;rw [if_neg hk0] at hi
               have inner:=fun (Cc:Addr) (fp:List Addr) (s0:Shared) (H0:Hp)=>sound ra n (JAd X sc Cc (xs'++mask xs' 0 X.N) fp s0 H0) (fun _ _=>False) (JAr names sc.names) (xs'++mask xs' 0 N)
                 (Gk.nox g rfl rfl rfl rfl rfl rfl rfl fun _ _ _ _ _ _ _ z=>(ra.nox _ _ _ _ _ z).elim) hc2 (by rw [<-hn];exact JAU hk) (by rw [<-hN];rfl) (by rw [<-hN];exact bk.nd)
               have hloc:∀Cc fp s0 H0,∀nm∈xs',(JAd X sc Cc (xs'++mask xs' 0 X.N) fp s0 H0).env.scope.names.lookup nm=some .local:=fun Cc fp s0 H0 nm hnm=>by
                 show (compEnvC sc (JBA X.env.cells sc.names []) Cc X.env).scope.names.lookup nm=_
                 rw [JAU hk]
                 exact JA6 (bk.tg nm hnm)
               have hat:∀Cc fp s0 H0 (i:Nat) (nm:Str),xs'[i]? = some nm->(JAd X sc Cc (xs'++mask xs' 0 X.N) fp s0 H0).N[i]? = some nm:=fun Cc fp s0 H0 i nm e=>by
                 show (xs'++mask xs' 0 X.N)[i]? = some nm
                 rw [q_C (q_p.mp e).1];exact e
               obtain ⟨hpi,hfo⟩:PI X (.Tuple ts kt pt) iter (RI B C XX i)/\∀v,foldedSetIterable iter X.env v=pure v:=by
                 cases hq:xT G names iter with
                 | none=>rw [hq] at hi;exact ⟨ihI _ iter i hi,JBm hi X.env⟩
                 | some q =>
                   rw [hq] at hi
                   obtain ⟨y',hy',rfl⟩:=q_d.mp hi
                   obtain ⟨q1,q2⟩:=JD9 hq
                   exact ⟨(ra.xop q.1 q2).tgt X XX g ts kt pt iter q.2 y' (by rw [hn];exact q1) (allA g ihE hy') (JCx hy') (JAT hy'),JFg hq X.env⟩
               match ifs,h with
               | [],h =>
                 cases h
                 exact REF.of (JDG g bk hpi hfo fun Cc fp s0 H0 σ δ=>item_tup rfl g.K hx hne (by exact bk.nd) (hat Cc fp s0 H0) (hloc Cc fp s0 H0) ((inner Cc fp s0 H0).1 elt y hy).1 (fun c hc=>by cases hc) (.inl ⟨rfl,rfl⟩) rfl) JCH
               | [c],h =>
                 obtain ⟨w,hw,h⟩:=q_a.mp h
                 cases h
                 exact REF.of (JDG g bk hpi hfo fun Cc fp s0 H0 σ δ=>item_tup rfl g.K hx hne (by exact bk.nd) (hat Cc fp s0 H0) (hloc Cc fp s0 H0) ((inner Cc fp s0 H0).1 elt y hy).1 (fun c' hc=>by cases hc;exact ((inner Cc fp s0 H0).1 c w hw).2) (.inr ⟨c,rfl⟩) rfl) JCH
               | _::_::_,h=>cases h
             | _=>simp [JBy] at htg
           · match ifs,h with
             | [],h=>cases h;simp only [evT]
             | [c],h =>
              obtain ⟨w,hw,h⟩:=q_a.mp h
              cases h
              simp only [evT]
             | _::_::_,h=>cases h
         · cases h
    | _=>exact JAC ((JAE hxx).symm.trans h)
  · intro tg e x h
    cases hxx:xOf G names true e with
    | some q =>
     rw [JGb hxx] at h
     obtain ⟨y,hy,e'⟩:=q_d.mp h
     subst e'
     rcases JGh hxx with ⟨q1,q2⟩ | ⟨q1,q2⟩
     · exact (ra.dop q2).itr X XX g tg e q.1 q.2 y (by rw [hn];exact q1) (pes ihE hy) (JCx hy)
     · exact (ra.xop q.1 q2).itr X XX g tg e q.2 y (by rw [hn];exact q1) (allA g ihE hy) (JCx hy) (JAT hy)
    | none =>
    cases e with
    | Name nm p =>
     obtain ⟨h1,_,h3⟩:=nameE true nm p x hxx h
     exact JFT g h1 h3
    | Tuple es k p =>
     obtain ⟨y,rfl,h1⟩:=tupE true es k p x hxx h
     refine JFT g h1 fun δ=>?_
     simp only [evI,ev]
     cases evA C y δ<;>rfl
    | List es p =>
     obtain ⟨y,rfl,h1⟩:=lstE true es p x hxx h
     refine JFT g h1 fun δ=>?_
     simp only [evI,ev]
     cases evA C y δ<;>rfl
    | Subscript a i p =>
     obtain ⟨⟨y,z,rfl⟩ | ⟨o,y,rfl⟩,h1⟩:=subE true a i p x hxx h
     · exact JFT g h1 fun δ=>by simp only [evI,ev]
     · exact JFT g h1 fun δ=>by simp only [evI,ev]
    | Call f args kws p =>
     cases f with
     | Name nm p2 =>
       cases kws with
       | nil =>
        rcases callE true nm p2 p args x hxx h with ⟨i,y,rfl,h1⟩ | ⟨hb,_⟩ | ⟨_,y,rfl,h1⟩
        ·exact JFT g h1 fun δ=>by simp only [evI,ev]
        ·cases hb
        ·exact h1 tg
       | cons k ks=>exact JAC ((JAE hxx).symm.trans h)
     | Attribute o m ap =>
       cases kws with
       | cons k ks=>match args,h with
        | [],h=>exact JAC ((JAE hxx).symm.trans h)
        | [_],h=>exact JAC ((JAE hxx).symm.trans h)
        | [_,_],h=>exact JAC ((JAE hxx).symm.trans h)
        | _::_::_::_,h=>exact JAC ((JAE hxx).symm.trans h)
       | nil=>match args,h with
        | [],h=>exact JAC ((JAE hxx).symm.trans h)
        | [_],h=>exact JAC ((JAE hxx).symm.trans h)
        | [_,_],h=>exact JAC ((JAE hxx).symm.trans h)
        | _::_::_::_,h=>exact JAC ((JAE hxx).symm.trans h)
     | _=>exact JAC ((JAE hxx).symm.trans h)
    | Compare a ops bs p=>match ops,bs,h with
     | [_],[_],h=>exact JAC ((JAE hxx).symm.trans h)
     | [],_,h=>exact JAC ((JAE hxx).symm.trans h)
     | _::_::_,_,h=>exact JAC ((JAE hxx).symm.trans h)
     | [_],[],h=>exact JAC ((JAE hxx).symm.trans h)
     | [_],_::_::_,h=>exact JAC ((JAE hxx).symm.trans h)
    | ListComp elt gens sc p=>match gens,h with
     | [],h=>exact JAC ((JAE hxx).symm.trans h)
     | ⟨_,_,_,_⟩::_::_,h=>exact JAC ((JAE hxx).symm.trans h)
     | [⟨tg,iter,ifs,as⟩],h=>exact JAC ((JAE hxx).symm.trans h)
    | BinOp a op b p =>
     rw [JAE hxx] at h;dsimp only [JAO] at h
     split at h
     · rename_i hr
       simp at hr
     · split at h
       ·simp at h
       ·split at h
        ·obtain ⟨y,hy,h⟩:=q_a.mp h
         obtain ⟨z,hz,h⟩:=q_a.mp h
         cases h
         exact JFT g (JPk g (ihE a y hy) (ihE b z hz)) fun δ=>by simp only [evI,ev]
        ·cases h
    | Dict ks vs p =>
     rw [JAE hxx] at h;dsimp only [JAO] at h
     split at h
     · simp at h
     · cases h
    | _=>exact JAC ((JAE hxx).symm.trans h)
theorem JI1 (ra:Rare B C CX G) {n:Nat} {X:Cx} {XX:Nat->Hp->Prop} {names:List (Str×NameKind)} {N:List Str} (g:Gk X B C CX XX G) (hk:X.env.scope.kind=.function) (hn:X.env.scope.names=names) (hN:X.N=N) (hnd:N.Nodup)
  {elt:Expr} {gens:List Comprehension} {sc:Scope} {p:Pos} {x:E} (h:JAN G n false names N (.ListComp elt gens sc p)=some x) :
  ∃target iter ifs xs k y z w,gens=[⟨target,iter,ifs,0⟩]/\x=.cmpr k y z w/\BlkOk X sc xs/\PI X target iter (RI B C XX z)/\(∀v,foldedSetIterable iter X.env v=pure v) /\
   ∀Cc fp s0 H0 σ δ,JBz (JAd X sc Cc (xs++mask xs 0 X.N) fp s0 H0) B σ xs.length δ target elt ifs (itemF C k y w δ):=by
 cases n with
 | zero=>simp [JAN,JAe,JAO,xOf,dOf,dRaw,Option.bind_none,ite_self,xRaw] at h
 | succ n =>
  match gens,h with
  | [],h=>simp [JAN,JAe,JAO,xOf,dOf,dRaw,Option.bind_none,ite_self,xRaw] at h
  | ⟨_,_,_,_⟩::_::_,h=>simp [JAN,JAe,JAO,xOf,dOf,dRaw,Option.bind_none,ite_self,xRaw] at h
  | [⟨tg,iter,ifs,as⟩],h =>
   simp only [JAN,JAe,JAO,xOf,dOf,dRaw,Option.bind_none,ite_self,xRaw,Option.bind_none] at h
   split at h
   ·cases h
   ·rename_i hc
    have hc1:as=0:=Decidable.byContradiction fun z=>hc (.inr (.inl z))
    have hc2:sc.kind=.function:=Decidable.byContradiction fun z=>hc (.inr (.inr z))
    subst hc1
    split at h
    ·cases h
    ·rename_i k xs htg
     split at h
     ·rename_i hs
      obtain ⟨i,hi,h⟩:=q_a.mp h
      obtain ⟨y,hy,h⟩:=q_a.mp h
      have bk:=JLf hk hn hN hc2 hs
      have ihI:=(sound ra n X XX names N g hk hn hN hnd).2
      cases tg with
      | Name nm px =>
       simp only [JBy,q_j,Prod.mk.injEq] at htg
       obtain ⟨e1,e2⟩:=htg
       subst e1;subst e2
       unfold itK at hi;rw [if_pos rfl] at hi
       have inner:=fun (Cc:Addr) (fp:List Addr) (s0:Shared) (H0:Hp)=>sound ra n (JAd X sc Cc ([nm]++mask [nm] 0 X.N) fp s0 H0) (fun _ _=>False) (JAr names sc.names) ([nm]++mask [nm] 0 N)
        (Gk.nox g rfl rfl rfl rfl rfl rfl rfl fun _ _ _ _ _ _ _ z=>(ra.nox _ _ _ _ _ z).elim) hc2 (by rw [<-hn];exact JAU hk) (by rw [<-hN];rfl) (by rw [<-hN];exact bk.nd)
       have hloc:∀Cc fp s0 H0,(JAd X sc Cc ([nm]++mask [nm] 0 X.N) fp s0 H0).env.scope.names.lookup nm=some .local:=fun Cc fp s0 H0=>by
        show (compEnvC sc (JBA X.env.cells sc.names []) Cc X.env).scope.names.lookup nm=_
        rw [JAU hk]
        exact JA6 (bk.tg nm (by simp))
       match ifs,h with
       | [],h =>
        cases h
        exact ⟨_,iter,[],[nm],0,y,i,_,rfl,rfl,bk,ihI _ iter i hi,JBm hi X.env,fun Cc fp s0 H0 σ δ=>JCE (by exact bk.nd) rfl (hloc Cc fp s0 H0) ((inner Cc fp s0 H0).1 elt y hy).1 (fun c hc=>by cases hc) (.inl ⟨rfl,rfl⟩) rfl⟩
       | [c],h =>
        obtain ⟨w,hw,h⟩:=q_a.mp h
        cases h
        exact ⟨_,iter,[c],[nm],0,y,i,w,rfl,rfl,bk,ihI _ iter i hi,JBm hi X.env,fun Cc fp s0 H0 σ δ=>JCE (by exact bk.nd) rfl (hloc Cc fp s0 H0) ((inner Cc fp s0 H0).1 elt y hy).1 (fun c' hc=>by cases hc;exact ((inner Cc fp s0 H0).1 c w hw).2) (.inr ⟨c,rfl⟩) rfl⟩
       | _::_::_,h=>cases h
      | Tuple ts kt pt =>
       simp only [JBy] at htg
       obtain ⟨xs',hx,htg⟩:=q_a.mp htg
       split at htg
       ·cases htg
       ·rename_i hne
        simp only [q_j,Prod.mk.injEq] at htg
        obtain ⟨e1,e2⟩:=htg
        subst e2;subst e1
        have hk0:xs'.length≠0:=fun z=>hne (q_B.mp z)
        unfold itK at hi;rw [if_neg hk0] at hi
        have inner:=fun (Cc:Addr) (fp:List Addr) (s0:Shared) (H0:Hp)=>sound ra n (JAd X sc Cc (xs'++mask xs' 0 X.N) fp s0 H0) (fun _ _=>False) (JAr names sc.names) (xs'++mask xs' 0 N)
          (Gk.nox g rfl rfl rfl rfl rfl rfl rfl fun _ _ _ _ _ _ _ z=>(ra.nox _ _ _ _ _ z).elim) hc2 (by rw [<-hn];exact JAU hk) (by rw [<-hN];rfl) (by rw [<-hN];exact bk.nd)
        have hloc:∀Cc fp s0 H0,∀nm∈xs',(JAd X sc Cc (xs'++mask xs' 0 X.N) fp s0 H0).env.scope.names.lookup nm=some .local:=fun Cc fp s0 H0 nm hnm=>by
          show (compEnvC sc (JBA X.env.cells sc.names []) Cc X.env).scope.names.lookup nm=_
          rw [JAU hk]
          exact JA6 (bk.tg nm hnm)
        have hat:∀Cc fp s0 H0 (i:Nat) (nm:Str),xs'[i]? = some nm->(JAd X sc Cc (xs'++mask xs' 0 X.N) fp s0 H0).N[i]? = some nm:=fun Cc fp s0 H0 i nm e=>by
          show (xs'++mask xs' 0 X.N)[i]? = some nm
          rw [q_C (q_p.mp e).1];exact e
        obtain ⟨hpi,hfo⟩:PI X (.Tuple ts kt pt) iter (RI B C XX i)/\∀v,foldedSetIterable iter X.env v=pure v:=by
          cases hq:xT G names iter with
          | none=>rw [hq] at hi;exact ⟨ihI _ iter i hi,JBm hi X.env⟩
          | some q =>
            rw [hq] at hi
            obtain ⟨y',hy',rfl⟩:=q_d.mp hi
            obtain ⟨q1,q2⟩:=JD9 hq
            exact ⟨(ra.xop q.1 q2).tgt X XX g ts kt pt iter q.2 y' (by rw [hn];exact q1) (allA g (fun e x h=>((sound ra n X XX names N g hk hn hN hnd).1 e x h).1) hy') (JCx hy') (JAT hy'),JFg hq X.env⟩
        match ifs,h with
        | [],h =>
          cases h
          exact ⟨_,iter,[],xs',_,y,i,_,rfl,rfl,bk,hpi,hfo,fun Cc fp s0 H0 σ δ=>item_tup rfl g.K hx hne (by exact bk.nd) (hat Cc fp s0 H0) (hloc Cc fp s0 H0) ((inner Cc fp s0 H0).1 elt y hy).1 (fun c hc=>by cases hc) (.inl ⟨rfl,rfl⟩) rfl⟩
        | [c],h =>
          obtain ⟨w,hw,h⟩:=q_a.mp h
          cases h
          exact ⟨_,iter,[c],xs',_,y,i,w,rfl,rfl,bk,hpi,hfo,fun Cc fp s0 H0 σ δ=>item_tup rfl g.K hx hne (by exact bk.nd) (hat Cc fp s0 H0) (hloc Cc fp s0 H0) ((inner Cc fp s0 H0).1 elt y hy).1 (fun c' hc=>by cases hc;exact ((inner Cc fp s0 H0).1 c w hw).2) (.inr ⟨c,rfl⟩) rfl⟩
        | _::_::_,h=>cases h
      | _=>simp [JBy] at htg
     ·cases h
theorem JEf (ra:Rare B C CX G) {n:Nat} {X:Cx} {XX:Nat->Hp->Prop} {names:List (Str×NameKind)} {N:List Str} (g:Gk X B C CX XX G) (hk:X.env.scope.kind=.function) (hn:X.env.scope.names=names) (hN:X.N=N) (hnd:N.Nodup)
  {es:List Expr} {p:Pos} {x:E} (h:JAN G n false names N (.List es p)=some x):PE X (.List es p) (REF B C XX x):=by
 cases n with
 | zero=>simp [JAN,JAe,JAO,xOf,dOf,dRaw,Option.bind_none,ite_self,xRaw] at h
 | succ n =>
  simp only [JAN,JAe,JAO,xOf,dOf,dRaw,Option.bind_none,ite_self,xRaw,Option.bind_none] at h
  split at h
  ·rename_i hl
   obtain ⟨y,hx,e'⟩:=q_d.mp h
   subst e'
   exact JQx g (allA g (fun e x h=>((sound ra n X XX names N g hk hn hN hnd).1 e x h).1) hx) (by rw [JAT hx];exact hl)
  ·cases h
end
noncomputable def Agr (x:E) (δ δ':Env):Prop:=∀i,x.uses i=true->δ[i]? = δ'[i]?
theorem JK3 {δ δ':Env} {i:Nat} (h:δ[i]? = δ'[i]?):look δ i=look δ' i:=by unfold look;rw [h]
theorem JKC {k:Nat} {d:D} {δ δ' δ1:Env} (h:push k d δ=.ok δ1):∃δ1',push k d δ'=.ok δ1'/\∀x:E,(∀i,x.uses (i+(if k=0 then 1 else k))=true->δ[i]? = δ'[i]?)->Agr x δ1 δ1':=by
 cases k with
 | zero =>
  have e:(.val d::δ)=δ1:=by injection h
  subst e
  refine ⟨_,rfl,fun x hx i hi=>?_⟩
  cases i with
  | zero=>rfl
  | succ i=>simpa using hx i hi
 | succ k =>
  unfold push at h ⊢
  cases d<;>first | cases h | skip
  rename_i ds
  simp only at h ⊢
  split at h
  ·rename_i hl
   have e:ds.map Sl.val++δ=δ1:=by injection h
   subst e
   rw [if_pos hl]
   refine ⟨_,rfl,fun x hx i hi=>?_⟩
   by_cases hi2:i<ds.length
   ·rw [q_C (by simpa using hi2),q_C (by simpa using hi2)]
   ·rw [List.getElem?_append_right (by simpa using hi2),List.getElem?_append_right (by simpa using hi2)]
    simp only [q_g]
    refine hx _ ?_
    rw [if_neg (Nat.succ_ne_zero k),<-hl,Nat.sub_add_cancel (by omega)]
    exact hi
  ·cases h
theorem JKj {k:Nat} {d:D} {δ δ':Env} (h:push k d δ=.bad):push k d δ'=.bad:=by
 cases k with
 | zero=>cases h
 | succ k =>
  unfold push at h ⊢
  cases d<;>first | rfl | skip
  simp only at h ⊢
  split at h
  ·cases h
  ·rename_i hl;rw [if_neg hl]
theorem JKl {k c:Nat} {d:D} {δ:Env}:push k d δ≠.exc c:=by
 cases k with
 | zero=>intro h;cases h
 | succ k =>
  unfold push
  cases d<;>simp only<;>(try split)<;>(intro h;cases h)
theorem ub_l {a b:Bool} (h:a=true):(a || b)=true:=by rw [h];rfl
theorem ub_r {a b:Bool} (h:b=true):(a || b)=true:=by rw [h];exact Bool.or_true a
theorem JAm {a b c:Bool} (h:a=true):(a || b || c)=true:=ub_l (ub_l h)
theorem JAf {a b c:Bool} (h:b=true):(a || b || c)=true:=ub_l (ub_r h)
theorem agree (C:Cn) (x:E):∀(δ δ':Env),Agr x δ δ'->ev C x δ=ev C x δ'/\evT C x δ=evT C x δ'/\evA C x δ=evA C x δ'/\evI C x δ=evI C x δ':=by
 induction x with
 | var i=>intro δ δ' h;simp only [ev,evT,evA,evI,JK3 (h i (show (i==i)=true from beq_self_eq_true i)),and_self]
 | cint _ | cbl _ | cnon | cstr _ | glo _ | nil=>intro δ δ' h;simp only [ev,evT,evA,evI,and_self]
 | bin op a b iha ihb =>
  intro δ δ' h
  have ha:=iha δ δ' fun i hi=>h i (by first | exact hi | exact ub_l hi | exact ub_r hi | exact JAm hi | exact JAf hi)
  have hb:=ihb δ δ' fun i hi=>h i (by first | exact hi | exact ub_l hi | exact ub_r hi | exact JAm hi | exact JAf hi)
  simp only [ev,evT,evA,evI,ha.1,hb.1,and_self]
 | neg a iha =>
  intro δ δ' h
  have ha:=iha δ δ' fun i hi=>h i (by first | exact hi | exact ub_l hi | exact ub_r hi | exact JAm hi | exact JAf hi)
  simp only [ev,evT,evA,evI,ha.1,and_self]
 | not a iha =>
  intro δ δ' h
  have ha:=iha δ δ' fun i hi=>h i (by first | exact hi | exact ub_l hi | exact ub_r hi | exact JAm hi | exact JAf hi)
  simp only [ev,evT,evA,evI,ha.1,ha.2.1,and_self]
 | and a b iha ihb =>
  intro δ δ' h
  have ha:=iha δ δ' fun i hi=>h i (by first | exact hi | exact ub_l hi | exact ub_r hi | exact JAm hi | exact JAf hi)
  have hb:=ihb δ δ' fun i hi=>h i (by first | exact hi | exact ub_l hi | exact ub_r hi | exact JAm hi | exact JAf hi)
  simp only [ev,evT,evA,evI,ha.1,hb.1,ha.2.1,hb.2.1,and_self]
 | or a b iha ihb =>
  intro δ δ' h
  have ha:=iha δ δ' fun i hi=>h i (by first | exact hi | exact ub_l hi | exact ub_r hi | exact JAm hi | exact JAf hi)
  have hb:=ihb δ δ' fun i hi=>h i (by first | exact hi | exact ub_l hi | exact ub_r hi | exact JAm hi | exact JAf hi)
  simp only [ev,evT,evA,evI,ha.1,hb.1,ha.2.1,hb.2.1,and_self]
 | cmp op a b iha ihb =>
  intro δ δ' h
  have ha:=iha δ δ' fun i hi=>h i (by first | exact hi | exact ub_l hi | exact ub_r hi | exact JAm hi | exact JAf hi)
  have hb:=ihb δ δ' fun i hi=>h i (by first | exact hi | exact ub_l hi | exact ub_r hi | exact JAm hi | exact JAf hi)
  simp only [ev,evT,evA,evI,ha.1,hb.1,and_self]
 | isN a n iha =>
  intro δ δ' h
  have ha:=iha δ δ' fun i hi=>h i (by first | exact hi | exact ub_l hi | exact ub_r hi | exact JAm hi | exact JAf hi)
  simp only [ev,evT,evA,evI,ha.1,and_self]
 | isB a n iha =>
  intro δ δ' h
  have ha:=iha δ δ' fun i hi=>h i (by first | exact hi | exact ub_l hi | exact ub_r hi | exact JAm hi | exact JAf hi)
  simp only [ev,evT,evA,evI,ha.1,and_self]
 | ife c a b ihc iha ihb =>
  intro δ δ' h
  have hc:=ihc δ δ' fun i hi=>h i (by first | exact hi | exact ub_l hi | exact ub_r hi | exact JAm hi | exact JAf hi)
  have ha:=iha δ δ' fun i hi=>h i (by first | exact hi | exact ub_l hi | exact ub_r hi | exact JAm hi | exact JAf hi)
  have hb:=ihb δ δ' fun i hi=>h i (by first | exact hi | exact ub_l hi | exact ub_r hi | exact JAm hi | exact JAf hi)
  simp only [ev,evT,evA,evI,ha.1,hb.1,hc.2.1,and_self]
 | cons a r iha ihr =>
  intro δ δ' h
  have ha:=iha δ δ' fun i hi=>h i (by first | exact hi | exact ub_l hi | exact ub_r hi | exact JAm hi | exact JAf hi)
  have hr:=ihr δ δ' fun i hi=>h i (by first | exact hi | exact ub_l hi | exact ub_r hi | exact JAm hi | exact JAf hi)
  simp only [ev,evT,evA,evI,ha.1,hr.2.2.1,and_self]
 | tup es ih =>
  intro δ δ' h
  have ha:=ih δ δ' fun i hi=>h i (by first | exact hi | exact ub_l hi | exact ub_r hi | exact JAm hi | exact JAf hi)
  simp only [ev,evT,evA,evI,ha.2.2.1,and_self]
 | lst es ih =>
  intro δ δ' h
  have ha:=ih δ δ' fun i hi=>h i (by first | exact hi | exact ub_l hi | exact ub_r hi | exact JAm hi | exact JAf hi)
  simp only [ev,evT,evA,evI,ha.2.2.1,and_self]
 | fn1 o a iha =>
  intro δ δ' h
  have ha:=iha δ δ' fun i hi=>h i (by first | exact hi | exact ub_l hi | exact ub_r hi | exact JAm hi | exact JAf hi)
  simp only [ev,evT,evA,evI,ha.1,and_self]
 | xop k es ih =>
  intro δ δ' h
  have ha:=ih δ δ' fun i hi=>h i (by first | exact hi | exact ub_l hi | exact ub_r hi | exact JAm hi | exact JAf hi)
  simp only [ev,evT,evA,evI,ha.2.2.1,and_self]
 | isnB a n iha =>
  intro δ δ' h
  have ha:=iha δ δ' fun i hi=>h i (by first | exact hi | exact ub_l hi | exact ub_r hi | exact JAm hi | exact JAf hi)
  simp only [ev,evT,evA,evI,ha.1,and_self]
 | dct ks es ih =>
  intro δ δ' h
  have ha:=ih δ δ' fun i hi=>h i (by first | exact hi | exact ub_l hi | exact ub_r hi | exact JAm hi | exact JAf hi)
  simp only [ev,evT,evA,evI,ha.2.2.1,and_self]
 | rep k es ih =>
  intro δ δ' h
  have ha:=ih δ δ' fun i hi=>h i (by first | exact hi | exact ub_l hi | exact ub_r hi | exact JAm hi | exact JAf hi)
  simp only [ev,evT,evA,evI,ha.2.2.1,and_self]
 | idx a b iha ihb =>
  intro δ δ' h
  have ha:=iha δ δ' fun i hi=>h i (by first | exact hi | exact ub_l hi | exact ub_r hi | exact JAm hi | exact JAf hi)
  have hb:=ihb δ δ' fun i hi=>h i (by first | exact hi | exact ub_l hi | exact ub_r hi | exact JAm hi | exact JAf hi)
  simp only [ev,evT,evA,evI,ha.1,hb.1,and_self]
 | call f es ih =>
  intro δ δ' h
  have ha:=ih δ δ' fun i hi=>h i (by first | exact hi | exact ub_l hi | exact ub_r hi | exact JAm hi | exact JAf hi)
  simp only [ev,evT,evA,evI,ha.2.2.1,and_self]
 | blt b es ih =>
  intro δ δ' h
  have ha:=ih δ δ' fun i hi=>h i (by first | exact hi | exact ub_l hi | exact ub_r hi | exact JAm hi | exact JAf hi)
  simp only [ev,evT,evA,evI,ha.2.2.1,and_self]
 | rng es ih =>
  intro δ δ' h
  have ha:=ih δ δ' fun i hi=>h i (by first | exact hi | exact ub_l hi | exact ub_r hi | exact JAm hi | exact JAf hi)
  simp only [ev,evT,evA,evI,ha.2.2.1,and_self]
 | isi a t iha =>
  intro δ δ' h
  have ha:=iha δ δ' fun i hi=>h i (by first | exact hi | exact ub_l hi | exact ub_r hi | exact JAm hi | exact JAf hi)
  simp only [ev,evT,evA,evI,ha.1,and_self]
 | mcount a b iha ihb =>
  intro δ δ' h
  have ha:=iha δ δ' fun i hi=>h i (by first | exact hi | exact ub_l hi | exact ub_r hi | exact JAm hi | exact JAf hi)
  have hb:=ihb δ δ' fun i hi=>h i (by first | exact hi | exact ub_l hi | exact ub_r hi | exact JAm hi | exact JAf hi)
  simp only [ev,evT,evA,evI,ha.1,hb.1,and_self]
 | mindex a b iha ihb =>
  intro δ δ' h
  have ha:=iha δ δ' fun i hi=>h i (by first | exact hi | exact ub_l hi | exact ub_r hi | exact JAm hi | exact JAf hi)
  have hb:=ihb δ δ' fun i hi=>h i (by first | exact hi | exact ub_l hi | exact ub_r hi | exact JAm hi | exact JAf hi)
  simp only [ev,evT,evA,evI,ha.1,hb.1,and_self]
 | mget a b c iha ihb ihc =>
  intro δ δ' h
  have ha:=iha δ δ' fun i hi=>h i (by first | exact hi | exact ub_l hi | exact ub_r hi | exact JAm hi | exact JAf hi)
  have hb:=ihb δ δ' fun i hi=>h i (by first | exact hi | exact ub_l hi | exact ub_r hi | exact JAm hi | exact JAf hi)
  have hc:=ihc δ δ' fun i hi=>h i (by first | exact hi | exact ub_l hi | exact ub_r hi | exact JAm hi | exact JAf hi)
  simp only [ev,evT,evA,evI,ha.1,hb.1,hc.1,and_self]
 | cmpr k elt iter cond ihe ihi ihc =>
  intro δ δ' h
  have hi:=ihi δ δ' fun i hi=>h i (by first | exact hi | exact ub_l hi | exact ub_r hi | exact JAm hi | exact JAf hi)
  refine ⟨?_,by simp only [evT],by simp only [evA],by simp only [evI]⟩
  simp only [ev,hi.2.2.2]
  congr 1
  funext xs
  congr 2
  congr 1
  funext d
  cases q:push k d δ with
  | ok δ1 =>
   obtain ⟨δ1',q',ag⟩:=JKC (δ':=δ') q
   rw [q']
   have h1:=ihc δ1 δ1' (ag cond fun i hi=>h i (by exact ub_r hi))
   have h2:=ihe δ1 δ1' (ag elt fun i hi=>h i (by exact JAf hi))
   simp only [R.bind,h1.2.1,h2.1]
  | exc c=>exact (JKl q).elim
  | bad=>rw [JKj (δ':=δ') q]
theorem JBD {H:Hp} {P:Addr->Prop} {b:Addr} (h:P b):hidP H P b=none:=by unfold hidP;rw [if_pos h]
theorem JAH {H:Hp} {P:Addr->Prop} {b:Addr} (h:¬P b):hidP H P b=H b:=by unfold hidP;rw [if_neg h]
theorem JAu {H:Hp} {P:Addr->Prop} {b:Addr} {o:HO} (h:hidP H P b=some o):¬P b/\H b=some o:=by
 by_cases hp:P b
 ·rw [JBD hp] at h;cases h
 ·rw [JAH hp] at h;exact ⟨hp,h⟩
open Classical in
noncomputable def mixP (H H1:Hp) (P:Addr->Prop):Hp:=fun b=>if P b then H b else H1 b
theorem JCB {H H1:Hp} {P:Addr->Prop} {b:Addr} (h:P b):mixP H H1 P b=H b:=by unfold mixP;rw [if_pos h]
theorem JAQ {H H1:Hp} {P:Addr->Prop} {b:Addr} (h:¬P b):mixP H H1 P b=H1 b:=by unfold mixP;rw [if_neg h]
section
variable {X:Cx} {pins ps:List (Addr×Obj)} {σ:St} {H H1:Hp} {s s1:Shared} {P:Addr->Prop}
theorem JIC (I:Inv X pins σ H s) {a:Addr} {xs:HO} (h:H a=some xs) (h0:X.H₀ a=none):a≠X.env.locals/\a ∉ X.fs:=by
 refine ⟨fun z=>(by rw [z,I.free] at h;cases h),fun z=>?_⟩
 obtain ⟨_,o,ho,_⟩:=I.ok.funs.mem z
 have:=I.base.free a o ho (I.ok.frf a z) fun q=>I.ok.exfs a q z
 rw [h] at this;cases this
theorem JBs (I:Inv X pins σ H s) (hP:∀a,P a->∃xs,H a=some xs/\X.H₀ a=none/\Ownb xs) (hps:∀p∈ps,P p.1/\s.heap.get? p.1=some p.2):Inv X (pins++ps) σ (hidP H P) s where
 ok:=I.ok
 os:=I.os
 bare:=I.bare
 base:=by
  have nP:∀b u,H b=some u->¬Ownb u->¬P b:=fun b u e hu hp=>by
   obtain ⟨xs,h1,_,h3⟩:=hP b hp
   rw [e] at h1;cases h1;exact hu h3
  refine ⟨I.base.keep,I.base.slot,fun b o e n hx=>?_,I.base.there,fun b xs e=>?_,fun b o u e=>?_,fun b t e=>?_⟩
  ·have:=I.base.free b o e n hx
   by_cases hp:P b
   ·exact JBD hp
   ·rw [JAH hp];exact this
  ·have q:=I.base.tups b xs e
   rw [JAH (nP b _ q fun z=>z)];exact q
  ·have q:=I.base.frzs b o u e
   rw [JAH (nP b _ q fun z=>z)];exact q
  ·obtain ⟨m,q⟩:=I.base.tbls b t e
   exact ⟨m,by rw [JAH (nP b _ q fun z=>z)];exact q⟩
 loc:=I.loc
 cell:=I.cell
 free:=by
  by_cases hp:P X.env.locals
  ·exact JBD hp
  ·rw [JAH hp];exact I.free
 freeC:=fun x c e=>by
  by_cases hp:P c
  ·exact JBD hp
  ·rw [JAH hp];exact I.freeC x c e
 pin:=fun p hp=>by
  have old:∀p∈X.pn++pins,s.heap.get? p.1=some p.2/\hidP H P p.1=none/\p.1≠X.env.locals/\p.1 ∉ X.fs/\∀v,p.2.data≠.cell v:=fun p hp=>by
   obtain ⟨h1,h2,h3⟩:=I.pin p hp
   refine ⟨h1,?_,h3⟩
   by_cases hq:P p.1
   ·exact JBD hq
   ·rw [JAH hq];exact h2
  rcases List.mem_append.mp hp with z | z
  ·exact old p (List.mem_append_left _ z)
  ·rcases List.mem_append.mp z with z | z
   ·exact old p (q_r _ z)
   ·obtain ⟨hq,ho⟩:=hps p z
    obtain ⟨xs,h1,h0,h9⟩:=hP _ hq
    obtain ⟨n1,n2⟩:=JIC I h1 h0
    refine ⟨ho,JBD hq,n1,n2,fun v e=>?_⟩
    cases xs with
    | lst xs =>
     obtain ⟨_,its,n,_,e2⟩:=I.hok _ _ h1
     rw [ho] at e2
     have e3:p.2={ cls:=.type "list",data:=.seq its.toArray n }:=Option.some.inj e2
     rw [e3] at e
     have e4:Data.seq its.toArray n=Data.cell v:=e
     cases e4
    | dK kvs =>
     obtain ⟨_,_,vs,_,o2,es,ep,e2,_,e3,_⟩:=I.hok _ _ h1
     rw [ho] at e2
     cases e2
     rw [e] at e3
     cases e3
    | _=>exact h9.elim
 hok:=fun b u e=>by
  obtain ⟨hb,e⟩:=JAu e
  refine (I.hok b u e).stay (fun c w _ q=>q) (fun c q=>?_) fun c xs q=>?_
  ·rw [JAH fun hc=>by obtain ⟨xs,h1,_,h9⟩:=hP c hc;rw [q] at h1;cases h1;exact h9];exact q
  ·rw [JAH fun hc=>by obtain ⟨ys,h1,_,h9⟩:=hP c hc;rw [q] at h1;cases h1;exact h9];exact q
 len:=I.len
theorem JBF {σ':St} (I:Inv X pins σ H s) (J:Inv X (pins++ps) σ' H1 s1) (hP:∀a,P a->∃xs,H a=some xs/\X.H₀ a=none/\Ownb xs) (hps:∀a,P a->∃o,(a,o)∈ps/\s.heap.get? a=some o) :
  Inv X pins σ' (mixP H H1 P) s1/\∀a,P a->H1 a=none:=by
 have hpin:∀a,P a->∃o,s1.heap.get? a=some o/\H1 a=none/\s.heap.get? a=some o:=fun a ha=>by
  obtain ⟨o,hm,ho⟩:=hps a ha
  obtain ⟨h1,h2,_⟩:=J.pin (a,o) (q_r _ (q_r _ hm))
  exact ⟨o,h1,h2,ho⟩
 have nP:∀b u,H1 b=some u->¬P b:=fun b u e hp=>by obtain ⟨_,_,h,_⟩:=hpin b hp;rw [e] at h;cases h
 have nS:∀b o,X.s₀.heap.get? b=some o->X.H₀ b=none->b ∉ X.ex->¬P b:=fun b o e n hx hp=>by
  obtain ⟨xs,h1,_⟩:=hP b hp
  have:=I.base.free b o e n hx
  rw [h1] at this;cases this
 refine ⟨⟨J.ok,J.os,J.bare,⟨J.base.keep,J.base.slot,fun b o e n hx=>?_,J.base.there,fun b xs e=>?_,fun b o u e=>?_,fun b t e=>?_⟩,J.loc,J.cell,?_,fun x c e=>?_,fun p hp=>?_,fun b u e=>?_,J.len⟩,fun a ha=>?_⟩
 ·rw [JAQ (nS b o e n hx)];exact J.base.free b o e n hx
 ·have q:=J.base.tups b xs e
  rw [JAQ (nP b _ q)];exact q
 ·have q:=J.base.frzs b o u e
  rw [JAQ (nP b _ q)];exact q
 ·obtain ⟨m,q⟩:=J.base.tbls b t e
  exact ⟨m,by rw [JAQ (nP b _ q)];exact q⟩
 ·rw [JAQ fun hp=>by obtain ⟨xs,h1,_⟩:=hP _ hp;rw [I.free] at h1;cases h1];exact J.free
 ·rw [JAQ fun hp=>by obtain ⟨xs,h1,_⟩:=hP _ hp;rw [I.freeC x c e] at h1;cases h1];exact J.freeC x c e
 ·have hp':p∈X.pn++(pins++ps):=by
   rcases List.mem_append.mp hp with z | z
   ·exact List.mem_append_left _ z
   ·exact q_r _ (List.mem_append_left _ z)
  obtain ⟨h1,h2,h3⟩:=J.pin p hp'
  refine ⟨h1,?_,h3⟩
  rw [JAQ fun hq=>by
   obtain ⟨xs,g1,_⟩:=hP _ hq
   have:=(I.pin p hp).2.1
   rw [g1] at this;cases this]
  exact h2
 ·by_cases hb:P b
  ·rw [JCB hb] at e
   obtain ⟨xs,h1,_,h9⟩:=hP b hb
   rw [h1] at e;cases e
   obtain ⟨o,g1,_,g3⟩:=hpin b hb
   cases u with
   | lst xs =>
    obtain ⟨z,its,n,r,e2⟩:=I.hok b _ h1
    rw [g3] at e2;cases e2
    exact ⟨z,its,n,r,g1⟩
   | dK kvs =>
    obtain ⟨z,z2,vs,r,o2,es,ep,e2,z3⟩:=I.hok b _ h1
    rw [g3] at e2;cases e2
    exact ⟨z,z2,vs,r,o,es,ep,g1,z3⟩
   | _=>exact h9.elim
  ·rw [JAQ hb] at e
   refine (J.hok b u e).stay (fun c w _ q=>q) (fun c q=>?_) fun c xs q=>?_
   ·rw [JAQ (nP c _ q)];exact q
   ·rw [JAQ (nP c _ q)];exact q
 ·obtain ⟨_,_,h,_⟩:=hpin a ha;exact h
end
noncomputable def JAn (x:E):Nat->Env->Env
 | _,[]=>[]
 | i,s::r=>(if x.uses i=true then s else if s.isOwn=true then .no else s)::JAn x (i+1) r
theorem JCN (x:E):∀(δ:Env) (k i:Nat),(JAn x k δ)[i]? = (δ[i]?).map fun s=>if x.uses (k+i)=true then s else if s.isOwn=true then .no else s
 | [],_,_=>by simp [JAn]
 | s::r,k,0=>by simp [JAn]
 | s::r,k,i+1=>by
  have:=JCN x r (k+1) i
  rw [show k+1+i=k+(i+1) by omega] at this
  simpa [JAn] using this
theorem JEr (x:E):∀(δ:Env) (k i:Nat),(JAp x k δ)[i]? = (δ[i]?).map fun s=>if x.uses (k+i)=true then s.frz else s
 | [],_,_=>by simp [JAp]
 | s::r,k,0=>by simp [JAp]
 | s::r,k,i+1=>by
  have:=JEr x r (k+1) i
  rw [show k+1+i=k+(i+1) by omega] at this
  simpa [JAp] using this
theorem JEU (x:E):∀(δ:Env) (k:Nat),(JAp x k δ).length=δ.length
 | [],_=>rfl
 | s::r,k=>by simp only [JAp,List.length_cons,JEU x r]
theorem JBT (x:E):∀(δ:Env) (k i:Nat) (s:Sl),JAP x k δ=false->δ[i]? = some s->x.uses (k+i)=true->s.isOwn=false
 | [],_,_,_,_,e,_=>by simp at e
 | s::r,k,0,t,h,e,hu=>by
  unfold JAP at h
  simp only [Bool.or_eq_false_iff,Bool.and_eq_false_iff] at h
  simp only [List.getElem?_cons_zero,q_j] at e
  subst e
  rcases h.1 with z | z
  ·rw [Nat.add_zero] at hu;rw [hu] at z;cases z
  ·exact z
 | s::r,k,i+1,t,h,e,hu=>by
  unfold JAP at h
  simp only [Bool.or_eq_false_iff] at h
  exact JBT x r (k+1) i t h.2 (by simpa using e) (by rw [show k+1+i=k+(i+1) by omega];exact hu)
mutual
theorem JDh {B:Bs} {H1 H2:Hp} (hk:∀b o,H1 b=some o->¬Ownb o->H2 b=some o):∀(d:D) (v:V),JAL d=true->Den B H1 d v->Den B H2 d v
 | .none,_,_,h=>h
 | .bool _,_,_,h=>h
 | .int _,_,_,h=>h
 | .str _,_,_,h=>h
 | .list _,_,n,_=>by simp only [JAL] at n;cases n
 | .tuple ds,v,n,h=>by
  simp only [Den] at h ⊢
  obtain ⟨a,xs,e,q,l⟩:=h
  refine ⟨a,xs,e,?_,JB4 hk ds xs (by simpa only [JAL] using n) l⟩
  rcases q with (q | ⟨o,q⟩) | q
  ·exact .inl (.inl (hk _ _ q fun z=>z))
  ·exact .inl (.inr ⟨o,hk _ _ q fun z=>z⟩)
  ·exact .inr q
 | .dict kvs,v,n,h=>by
  simp only [Den] at h ⊢
  rcases h with ⟨a,c,e,k,q⟩ | ⟨a,xs,e,q,l⟩
  ·exact .inl ⟨a,c,e,k,hk _ _ q fun z=>z⟩
  ·exfalso
   match kvs,n,l with
   | [],n,_=>simp [JAL] at n
   |(k,w)::r,n,l =>
    simp only [DenK] at l
    obtain ⟨x,v',r',_,ek,_⟩:=l
    subst ek
    simp [JAL] at n
theorem JB4 {B:Bs} {H1 H2:Hp} (hk:∀b o,H1 b=some o->¬Ownb o->H2 b=some o):∀(ds:List D) (vs:List V),JA3 ds=true->DenL B H1 ds vs->DenL B H2 ds vs
 | [],_,_,h=>h
 | d::ds,vs,n,h=>by
  simp only [DenL] at h ⊢
  simp only [JA3,q_i] at n
  obtain ⟨v,r,e,q,l⟩:=h
  exact ⟨v,r,e,JDh hk d v n.1 q,JB4 hk ds r n.2 l⟩
end
section
variable {X:Cx} {B:Bs} {C:Cn} {CX:CXT} {XX:Nat->Hp->Prop} {G:List (Str×GK)} {pins:List (Addr×Obj)} {σ:St} {H:Hp} {s:Shared} {δ:Env} {O:Ow} {x:E} {Hb:Hp}
noncomputable def unP (x:E) (O:Ow) (b:Addr):Prop:=∃i,O i=some b/\x.uses i=false
theorem SO.own (so:SO B Hb σ H δ O) {i:Nat} {a:Addr} (h:O i=some a):∃ds xs,δ[i]? = some (.own ds)/\σ[i]? = some (some (.ref a))/\H a=some xs/\Hb a=none/\OwnO B (hid H O) ds xs:=by
 have q:=so.slot i
 cases e:δ[i]? with
 | none=>rw [e] at q;simp only [JAK] at q;rw [h] at q;cases q
 | some t =>
  rw [e] at q
  cases t with
  | no=>simp only [JAK] at q;rw [h] at q;cases q
  | val d=>simp only [JAK] at q;rw [h] at q;cases q.1
  | own d =>
   simp only [JAK] at q
   obtain ⟨a',ds,xs,e1,e2,e3,e4,e5,e6⟩:=q
   rw [h] at e1;cases e1
   subst e2
   exact ⟨_,xs,rfl,e3,e4,e5,e6⟩
noncomputable def JCe (x:E) (O:Ow) (n:Nat) (h:Heap):List (Addr×Obj) :=
 (List.range n).filterMap fun i=>match O i with
   | some a=>if x.uses i=true then none else (h.get? a).map fun o=>(a,o)
   | none=>none
theorem JBB (hb:Same X.H₀ Hb) (so:SO B Hb σ H δ O):∀a,unP x O a->∃xs,H a=some xs/\X.H₀ a=none/\Ownb xs:=fun a ⟨i,h,_⟩=>by
 obtain ⟨ds,xs,_,_,e4,e5,e6⟩:=so.own h
 exact ⟨xs,e4,hb.free e5,e6.b⟩
theorem JBG {n:Nat} {h:Heap}:∀p∈JCe x O n h,unP x O p.1/\h.get? p.1=some p.2:=fun p hp=>by
 obtain ⟨i,_,e⟩:=List.mem_filterMap.mp hp
 cases q:O i with
 | none=>rw [q] at e;cases e
 | some a =>
  rw [q] at e
  simp only at e
  split at e
  ·cases e
  ·rename_i hu
   obtain ⟨o,ho,e2⟩:=q_d.mp e
   subst e2
   exact ⟨⟨i,q,by simpa using hu⟩,ho⟩
theorem JA5 (I:Inv X pins σ H s) (so:SO B Hb σ H δ O):∀a,unP x O a->∃o,(a,o)∈JCe x O δ.length s.heap/\s.heap.get? a=some o:=fun a ⟨i,h,hu⟩=>by
 obtain ⟨ds,xs,e1,_,e4,_,e9⟩:=so.own h
 obtain ⟨oo,ho⟩:∃oo,s.heap.get? a=some oo:=by
  have h9:=e9.b
  cases xs with
  | lst xs=>obtain ⟨_,its,n,_,ho⟩:=I.hok a _ e4;exact ⟨_,ho⟩
  | dK kvs=>obtain ⟨_,_,vs,_,o2,es,ep,e2,_⟩:=I.hok _ _ e4;exact ⟨_,e2⟩
  | _=>exact h9.elim
 refine ⟨_,List.mem_filterMap.mpr ⟨i,List.mem_range.mpr (q_p.mp e1).1,?_⟩,ho⟩
 rw [h]
 simp only [hu,q_v,if_false,ho,Option.map_some]
theorem JAq (so:SO B Hb σ H δ O):Same Hb (hid H O):=fun b o e=>by
 rw [hid,JAH fun ⟨i,h⟩=>by obtain ⟨_,_,_,_,_,e5,_⟩:=so.own h;rw [e] at e5;cases e5]
 exact so.same b o e
theorem same_un:Same (hid H O) (hidP H (unP x O)):=fun b o e=>by
 obtain ⟨h1,h2⟩:=JAu e
 rw [JAH fun ⟨i,h,_⟩=>h1 ⟨i,h⟩]
 exact h2
theorem JAv (so:SO B Hb σ H δ O):Sok B σ (hidP H (unP x O)) (JAn x 0 δ):=fun i d e=>by
 unfold look at e
 rw [JCN,Nat.zero_add] at e
 have q:=so.slot i
 cases e1:δ[i]? with
 | none=>rw [e1] at e;cases e
 | some t =>
  rw [e1] at e q
  simp only [Option.map_some] at e
  cases t with
  | no =>
   simp only [Sl.isOwn,q_v,if_false,ite_self,Sl.get] at e
   cases e
  | val d' =>
   simp only [Sl.isOwn,q_v,if_false,ite_self,Sl.get] at e
   cases e
   simp only [JAK] at q
   obtain ⟨_,v,e2,dn⟩:=q
   exact ⟨v,e2,Den.mono same_un d v dn⟩
  | own d' =>
   by_cases hu:x.uses i=true
   ·rw [if_pos hu] at e
    simp only [JAK] at q
    obtain ⟨a,ds,xs,q1,q2,q3,q4,q5,q6⟩:=q
    subst q2
    obtain ⟨ys,rfl,rfl⟩:∃ys,d'=.list ys/\d=.list ys:=by
     cases d' with
     | list ys=>simp only [Sl.get] at e;cases e;exact ⟨ys,rfl,rfl⟩
     | dict kvs=>simp only [Sl.get] at e;cases e
     | _=>cases xs<;>exact False.elim q6
    refine ⟨_,q3,(OwnO.mono same_un _ xs q6).den ?_⟩
    rw [JAH fun ⟨j,hj,hu2⟩=>by
     have:=so.inj i j a q1 hj
     subst this
     rw [hu] at hu2;cases hu2]
    exact q4
   ·rw [if_neg hu] at e
    simp only [Sl.isOwn,if_true,Sl.get] at e
    cases e
theorem JBr:Agr x δ (JAn x 0 δ):=fun i hi=>by
 rw [JCN,Nat.zero_add]
 cases δ[i]? with
 | none=>rfl
 | some t=>simp [hi]
theorem JDT (so:SO B Hb σ H δ O) {H1:Hp} (sm:Same (hidP H (unP x O)) H1) (hz:∀a,unP x O a->H1 a=none):SO B Hb σ (mixP H H1 (unP x O)) δ O:=by
 have s1:Same (hid H O) (hid (mixP H H1 (unP x O)) O):=fun b o e=>by
  obtain ⟨h1,h2⟩:=JAu e
  rw [hid,JAH h1,JAQ fun ⟨i,h,_⟩=>h1 ⟨i,h⟩]
  exact sm b o (by rw [JAH fun ⟨i,h,_⟩=>h1 ⟨i,h⟩];exact h2)
 refine ⟨so.len,fun b o e=>?_,so.inj,fun i=>?_⟩
 ·have e1:=JAq so b o e
  obtain ⟨_,h2⟩:=JAu (s1 b o e1)
  exact h2
 ·have q:=so.slot i
  cases e1:δ[i]? with
  | none=>rw [e1] at q;exact q
  | some t =>
   rw [e1] at q
   cases t with
   | no=>exact q
   | val d =>
    simp only [JAK] at q ⊢
    obtain ⟨h0,v,e2,dn⟩:=q
    exact ⟨h0,v,e2,Den.mono s1 d v dn⟩
   | own d =>
    simp only [JAK] at q ⊢
    obtain ⟨a,ds,xs,q1,q2,q3,q4,q5,q6⟩:=q
    refine ⟨a,ds,xs,q1,q2,q3,?_,q5,OwnO.mono s1 ds xs q6⟩
    by_cases hp:unP x O a
    ·rw [JCB hp];exact q4
    ·rw [JAQ hp]
     exact sm a _ (by rw [JAH hp];exact q4)
noncomputable def frzO (x:E) (O:Ow):Ow:=fun i=>if x.uses i=true then none else O i
theorem ownP_frz {b:Addr}:ownP (frzO x O) b↔unP x O b:=by
 constructor
 ·rintro ⟨i,h⟩
  unfold frzO at h
  split at h
  ·cases h
  ·rename_i hu;exact ⟨i,h,by simpa using hu⟩
 ·rintro ⟨i,h,hu⟩
  exact ⟨i,by unfold frzO;rw [if_neg (by rw [hu];exact Bool.false_ne_true)];exact h⟩
theorem JA8 {H1:Hp} (hz:∀a,unP x O a->H1 a=none):Same H1 (hid (mixP H H1 (unP x O)) (frzO x O)):=fun b o e=>by
 have hb:¬unP x O b:=fun h=>by rw [hz b h] at e;cases e
 rw [hid,JAH (fun h=>hb (ownP_frz.mp h)),JAQ hb]
 exact e
theorem JFt (so:SO B Hb σ H δ O) {H1:Hp} (sm:Same (hidP H (unP x O)) H1) (hz:∀a,unP x O a->H1 a=none):SO B Hb σ (mixP H H1 (unP x O)) (JAp x 0 δ) (frzO x O):=by
 have s1:Same (hid H O) (hid (mixP H H1 (unP x O)) (frzO x O)):=(same_un.trans sm).trans (JA8 hz)
 have k:=JDT so sm hz
 refine ⟨by rw [JEU];exact so.len,k.same,fun i j a h1 h2=>?_,fun i=>?_⟩
 ·unfold frzO at h1 h2
  split at h1
  ·cases h1
  ·split at h2
   ·cases h2
   ·exact so.inj i j a h1 h2
 ·rw [JEr,Nat.zero_add]
  have q:=so.slot i
  cases e1:δ[i]? with
  | none=>rw [e1] at q;simp only [JAK,Option.map_none] at q ⊢;unfold frzO;split<;>first | rfl | exact q
  | some t =>
   rw [e1] at q
   simp only [Option.map_some]
   cases t with
   | no =>
    simp only [Sl.frz,ite_self,JAK] at q ⊢
    unfold frzO;split<;>first | rfl | exact q
   | val d =>
    simp only [Sl.frz,ite_self,JAK] at q ⊢
    obtain ⟨h0,v,e2,dn⟩:=q
    exact ⟨by unfold frzO;split<;>first | rfl | exact h0,v,e2,Den.mono s1 d v dn⟩
   | own d =>
    by_cases hu:x.uses i=true
    ·rw [if_pos hu]
     have ho:frzO x O i=none:=by unfold frzO;rw [if_pos hu]
     simp only [JAK] at q
     obtain ⟨a,ds,xs,q1,q2,q3,q4,q5,q6⟩:=q
     subst q2
     cases d with
     | dict kvs=>simp only [Sl.frz,JAK];exact ho
     | none=>cases xs<;>exact False.elim q6
     | bool _=>cases xs<;>exact False.elim q6
     | int _=>cases xs<;>exact False.elim q6
     | str _=>cases xs<;>exact False.elim q6
     | tuple _=>cases xs<;>exact False.elim q6
     | list ys =>
     simp only [Sl.frz,JAK]
     refine ⟨ho,_,q3,(OwnO.mono s1 _ xs q6).den ?_⟩
     have hp:¬unP x O a:=fun ⟨j,hj,hu2⟩=>by
      have:=so.inj i j a q1 hj
      subst this
      rw [hu] at hu2;cases hu2
     exact JA8 hz a _ (sm a _ (by rw [JAH hp];exact q4))
    ·rw [if_neg hu]
     simp only [JAK] at q ⊢
     obtain ⟨a,ds,xs,q1,q2,q3,q4,q5,q6⟩:=q
     have hp:unP x O a:=⟨i,q1,by simpa using hu⟩
     refine ⟨a,ds,xs,by unfold frzO;rw [if_neg hu];exact q1,q2,q3,by rw [JCB hp];exact q4,q5,OwnO.mono s1 ds xs q6⟩
theorem JJg (so:SO B Hb σ H δ O) {H1:Hp} {d:D} {v:V} (sm:Same (hidP H (unP x O)) H1) (hz:∀a,unP x O a->H1 a=none) (dn:Den B H1 d v) :
  ∃O',SO B Hb σ (mixP H H1 (unP x O)) (after x d δ) O'/\Den B (hid (mixP H H1 (unP x O)) O') d v:=by
 unfold after
 split
 ·exact ⟨_,JFt so sm hz,Den.mono (JA8 hz) d v dn⟩
 ·rename_i hb
  refine ⟨O,JDT so sm hz,?_⟩
  cases hu:JAP x 0 δ with
  | false =>
   refine Den.mono (fun b o e=>?_) d v dn
   have hb':¬unP x O b:=fun h=>by rw [hz b h] at e;cases e
   have hb2:¬ownP O b:=fun ⟨i,h⟩=>by
    obtain ⟨ds,xs,e1,_⟩:=so.own h
    refine hb' ⟨i,h,?_⟩
    cases q:x.uses i with
    | false=>rfl
    | true =>
     have:=JBT x δ 0 i _ hu e1 (by rw [Nat.zero_add];exact q)
     cases this
   rw [hid,JAH hb2,JAQ hb']
   exact e
  | true =>
   have hl:JAL d=true:=by
    rw [hu] at hb
    cases q:JAL d with
    | true=>rfl
    | false=>rw [q] at hb;exact absurd rfl hb
   refine JDh (fun b o e ho=>?_) d v hl dn
   have hb':¬unP x O b:=fun h=>by rw [hz b h] at e;cases e
   have hb2:¬ownP O b:=fun ⟨i,h⟩=>by
    obtain ⟨ds,xs,_,_,e4,_,e9⟩:=so.own h
    have:=sm b _ (by rw [JAH hb'];exact e4)
    rw [e] at this
    cases this
    exact ho e9.b
   rw [hid,JAH hb2,JAQ hb']
   exact e
noncomputable def RS (X:Cx) (B:Bs) (C:Cn) (XX:Nat->Hp->Prop) (x:E):TE:=fun σ H Q=>∃δ O Hb,Same X.H₀ Hb/\SO B Hb σ H δ O/\(match ev C x δ with
 | .ok d=>∀v H' O',SO B Hb σ H' (after x d δ) O'->Den B (hid H' O') d v->Q v H'
 | .exc c=>XX c Hb
 | .bad=>False)
noncomputable def RTS (X:Cx) (B:Bs) (C:Cn) (XX:Nat->Hp->Prop) (x:E):TT:=fun σ H Q=>∃δ O Hb,Same X.H₀ Hb/\SO B Hb σ H δ O/\(match evT C x δ with
 | .ok b=>∀H',SO B Hb σ H' δ O->Q b H'
 | .exc c=>XX c Hb
 | .bad=>False)
noncomputable def RIS (X:Cx) (B:Bs) (C:Cn) (XX:Nat->Hp->Prop) (x:E):TI:=fun σ H Q=>∃δ O Hb,Same X.H₀ Hb/\SO B Hb σ H δ O/\(match evI C x δ with
 | .ok ds=>∀J H' O',SO B Hb σ H' (JAp x 0 δ) O'->ItOk B J (hid H' O') ds->Q J H'
 | .exc c=>XX c Hb
 | .bad=>False)
theorem JEP (g:Gk X B C CX XX G) {e:Expr} (he:PE X e (RE B C XX x)):PE X e (RS X B C XX x):=by
 intro pins s σ H Q I ⟨δ,O,Hb,hb,so,k⟩
 have J0:=JBs (ps:=JCe x O δ.length s.heap) I (JBB (x:=x) hb so) JBG
 have hev:=(agree C x δ (JAn x 0 δ) JBr).1
 cases q:ev C x δ with
 | ok d =>
  rw [q] at k
  refine thn (he _ s σ _ (fun v H1=>Same (hidP H (unP x O)) H1/\Den B H1 d v) J0 ⟨JAn x 0 δ,JAv so,by rw [<-hev,q];exact fun v H1 s1 d1=>⟨s1,d1⟩⟩) fun u s1 ⟨v,H1,J,r,sm,dn⟩=>?_
  obtain ⟨I',hz⟩:=JBF I J (JBB hb so) (JA5 I so)
  obtain ⟨O',so',dn'⟩:=JJg so sm hz dn
  exact ⟨v,_,I',r,k v _ O' so' dn'⟩
 | exc c =>
  rw [q] at k
  exact thn (he _ s σ _ (fun v H1=>False) J0 ⟨JAn x 0 δ,JAv so,by rw [<-hev,q];exact g.anti c _ _ ((JAq so).trans same_un) k⟩) fun u s1 ⟨v,H1,J,r,f⟩=>f.elim
 | bad=>rw [q] at k;exact k.elim
theorem JL2 (g:Gk X B C CX XX G) {e:Expr} (he:PT X e (RT B C XX x)):PT X e (RTS X B C XX x):=by
 intro pins s σ H Q I ⟨δ,O,Hb,hb,so,k⟩
 have J0:=JBs (ps:=JCe x O δ.length s.heap) I (JBB (x:=x) hb so) JBG
 have hev:=(agree C x δ (JAn x 0 δ) JBr).2.1
 cases q:evT C x δ with
 | ok d =>
  rw [q] at k
  refine thn (he _ s σ _ (fun b H1=>b=d/\Same (hidP H (unP x O)) H1) J0 ⟨JAn x 0 δ,JAv so,by rw [<-hev,q];exact fun H1 s1=>⟨rfl,s1⟩⟩) fun u s1 ⟨H1,J,e,sm⟩=>?_
  subst e
  obtain ⟨I',hz⟩:=JBF I J (JBB hb so) (JA5 I so)
  exact ⟨_,I',k _ (JDT so sm hz)⟩
 | exc c =>
  rw [q] at k
  exact thn (he _ s σ _ (fun v H1=>False) J0 ⟨JAn x 0 δ,JAv so,by rw [<-hev,q];exact g.anti c _ _ ((JAq so).trans same_un) k⟩) fun u s1 ⟨H1,J,f⟩=>f.elim
 | bad=>rw [q] at k;exact k.elim
theorem JL4 (g:Gk X B C CX XX G) {tg e:Expr} (he:PI X tg e (RI B C XX x)):PI X tg e (RIS X B C XX x):=by
 intro pins s σ H Q I ⟨δ,O,Hb,hb,so,k⟩
 have J0:=JBs (ps:=JCe x O δ.length s.heap) I (JBB (x:=x) hb so) JBG
 have hev:=(agree C x δ (JAn x 0 δ) JBr).2.2.2
 cases q:evI C x δ with
 | ok ds =>
  rw [q] at k
  refine thn (he _ s σ _ (fun Jt H1=>Same (hidP H (unP x O)) H1/\ItOk B Jt H1 ds) J0 ⟨JAn x 0 δ,JAv so,by rw [<-hev,q];exact fun Jt H1 s1 d1=>⟨s1,d1⟩⟩) fun u s1 h1=>thn h1 fun itv s2 h2=>?_
  obtain ⟨it,fp,tn,Jt,H1,e,J,T,st,f,sm,io⟩:=h2
  obtain ⟨I',hz⟩:=JBF I J (JBB hb so) (JA5 I so)
  refine ⟨it,fp,tn,Jt,_,e,I',T,st,fun b hb=>?_,k Jt _ _ (JFt so sm hz) fun H2 s2 i=>⟨fun d e=>⟨((io H2 ((JA8 hz).trans s2) i).1 d e).1,fun v H3 y=>(((io H2 ((JA8 hz).trans s2) i).1 d e).2 v H3 y).imp (fun q=>⟨q.1,Den.mono (JA8 hz) d v q.2⟩) fun ⟨p,xs,es,z1,z2,z3,z4,z5⟩=>⟨p,xs,es,z1,z2,z3,z4,DenL.mono (JA8 hz) _ _ z5⟩⟩,(io H2 ((JA8 hz).trans s2) i).2⟩⟩
  obtain ⟨f1,f2,f3,f4,f5,f6⟩:=f b hb
  refine ⟨?_,f2,f3,f4,f5,fun p hp=>f6 p ?_⟩
  ·rw [JAQ fun hp=>by
    obtain ⟨o,hm,_⟩:=JA5 I so b hp
    exact f6 (b,o) (q_r _ (q_r _ hm)) rfl]
   exact f1
  ·rcases List.mem_append.mp hp with z | z
   ·exact List.mem_append_left _ z
   ·exact q_r _ (List.mem_append_left _ z)
 | exc c =>
  rw [q] at k
  refine thn (he _ s σ _ (fun _ _=>False) J0 ⟨JAn x 0 δ,JAv so,by rw [<-hev,q];exact g.anti c _ _ ((JAq so).trans same_un) k⟩) fun u s1 h1=>thn h1 fun itv s2 h2=>?_
  obtain ⟨_,_,_,_,_,_,_,_,_,_,f⟩:=h2
  exact f.elim
 | bad=>rw [q] at k;exact k.elim
end
theorem same_hidP {H:Hp} {P:Addr->Prop}:Same (hidP H P) H:=fun b o e=>(JAu e).2
section
variable {X:Cx} {B:Bs} {C:Cn} {CX:CXT} {XX:Nat->Hp->Prop} {G:List (Str×GK)} {pins:List (Addr×Obj)} {σ:St} {H:Hp} {s:Shared} {δ:Env} {O:Ow} {x:E} {Hb Hb':Hp}
theorem SO.weak (so:SO B Hb' σ H δ O) (h:Same Hb Hb'):SO B Hb σ H δ O:=by
 refine ⟨so.len,h.trans so.same,so.inj,fun i=>?_⟩
 have q:=so.slot i
 cases e:δ[i]? with
 | none=>rw [e] at q;exact q
 | some t =>
  rw [e] at q
  cases t with
  | no=>exact q
  | val d=>exact q
  | own d =>
   simp only [JAK] at q ⊢
   obtain ⟨a,ds,xs,q1,q2,q3,q4,q5,q6⟩:=q
   exact ⟨a,ds,xs,q1,q2,q3,q4,h.free q5,q6⟩
theorem SO.base (so:SO B Hb σ H δ O):SO B (hid H O) σ H δ O:=by
 refine ⟨so.len,same_hidP,so.inj,fun i=>?_⟩
 have q:=so.slot i
 cases e:δ[i]? with
 | none=>rw [e] at q;exact q
 | some t =>
  rw [e] at q
  cases t with
  | no=>exact q
  | val d=>exact q
  | own d =>
   simp only [JAK] at q ⊢
   obtain ⟨a,ds,xs,q1,q2,q3,q4,q5,q6⟩:=q
   exact ⟨a,ds,xs,q1,q2,q3,q4,JBD ⟨i,q1⟩,q6⟩
noncomputable def setO (O:Ow) (i:Nat) (a:Option Addr):Ow:=fun j=>if j=i then a else O j
theorem JAX {O:Ow} {i:Nat} {a:Option Addr}:setO O i a i=a:=if_pos rfl
theorem JAS {O:Ow} {i j:Nat} {a:Option Addr} (h:j≠i):setO O i a j=O j:=if_neg h
theorem JA7 {i:Nat}:Same (hid H O) (hid H (setO O i none)):=fun b o e=>by
 obtain ⟨h1,h2⟩:=JAu e
 rw [hid,JAH fun ⟨j,hj⟩=>h1 ⟨j,by
  by_cases hji:j=i
  ·subst hji;rw [JAX] at hj;cases hj
  ·rw [JAS hji] at hj;exact hj⟩]
 exact h2
theorem JH3 (so:SO B Hb σ H δ O) {i:Nat} {d:D} {v:V} (dn:Den B (hid H O) d v):SO B Hb (σ.set i (some v)) H (δ.set i (.val d)) (setO O i none):=by
 refine ⟨by simpa using so.len,so.same,fun j k a h1 h2=>?_,fun j=>?_⟩
 ·by_cases hj:j=i
  ·subst hj;rw [JAX] at h1;cases h1
  ·by_cases hk:k=i
   ·subst hk;rw [JAX] at h2;cases h2
   ·rw [JAS hj] at h1;rw [JAS hk] at h2
    exact so.inj j k a h1 h2
 ·by_cases hj:j=i
  ·subst hj
   by_cases hl:j<δ.length
   ·rw [q_z hl]
    simp only [JAK]
    exact ⟨JAX,v,q_z (by rw [so.len];exact hl),Den.mono JA7 d v dn⟩
   ·rw [List.getElem?_eq_none_iff.mpr (by simpa using hl)]
    exact JAX
  ·rw [q_A (Ne.symm hj)]
   have q:=so.slot j
   cases e:δ[j]? with
   | none=>rw [e] at q;simp only [JAK] at q ⊢;rw [JAS hj];exact q
   | some t =>
    rw [e] at q
    cases t with
    | no=>simp only [JAK] at q ⊢;rw [JAS hj];exact q
    | val d' =>
     simp only [JAK] at q ⊢
     rw [JAS hj,q_A (Ne.symm hj)]
     obtain ⟨h0,w,e2,dn'⟩:=q
     exact ⟨h0,w,e2,Den.mono JA7 d' w dn'⟩
    | own d' =>
     simp only [JAK] at q ⊢
     rw [JAS hj,q_A (Ne.symm hj)]
     obtain ⟨a,ds,xs,q1,q2,q3,q4,q5,q6⟩:=q
     exact ⟨a,ds,xs,q1,q2,q3,q4,q5,OwnO.mono JA7 ds xs q6⟩
theorem JK5 (so:SO B Hb σ H δ O) {Da:Addr} {o:HO} (hD:H Da=none):SO B Hb σ (upd H Da o) δ O:=by
 have own:∀j a,O j=some a->∃xs,H a=some xs:=fun j a h=>by
  have q:=so.slot j
  cases e:δ[j]? with
  | none=>rw [e] at q;simp only [JAK] at q;rw [h] at q;cases q
  | some t =>
   rw [e] at q
   cases t with
   | no=>simp only [JAK] at q;rw [h] at q;cases q
   | val d=>simp only [JAK] at q;rw [h] at q;cases q.1
   | own d =>
    simp only [JAK] at q
    obtain ⟨a',ds',xs',e1,e2,e3,e4,_⟩:=q
    rw [h] at e1;cases e1
    exact ⟨xs',e4⟩
 have s1:Same (hid H O) (hid (upd H Da o) O):=fun b u e=>by
  obtain ⟨h1,h2⟩:=JAu e
  have hb:b≠Da:=fun z=>by rw [z,hD] at h2;cases h2
  rw [hid,JAH h1,JAM hb]
  exact h2
 refine ⟨so.len,so.same.trans (JAZ hD),so.inj,fun j=>?_⟩
 have q:=so.slot j
 cases e:δ[j]? with
 | none=>rw [e] at q;exact q
 | some t =>
  rw [e] at q
  cases t with
  | no=>exact q
  | val d' =>
   simp only [JAK] at q ⊢
   obtain ⟨h0,w,e2,dn'⟩:=q
   exact ⟨h0,w,e2,Den.mono s1 d' w dn'⟩
  | own d' =>
   simp only [JAK] at q ⊢
   obtain ⟨a,ds',xs',q1,q2,q3,q4,q5,q6⟩:=q
   exact ⟨a,ds',xs',q1,q2,q3,by rw [JAM fun z=>by rw [z,hD] at q4;cases q4];exact q4,q5,OwnO.mono s1 ds' xs' q6⟩
theorem JGm (so:SO B Hb σ H δ O) {i:Nat} (hil:i<δ.length) {Da:Addr} {ds:D} {xs:HO} (hD:H Da=none) (dn:OwnO B (hid H O) ds xs):SO B Hb (σ.set i (some (.ref Da))) (upd H Da xs) (δ.set i (.own ds)) (setO O i (some Da)):=by
 have nO:∀j a,O j=some a->a≠Da:=fun j a h z=>by
  subst z
  have q:=so.slot j
  cases e:δ[j]? with
  | none=>rw [e] at q;simp only [JAK] at q;rw [h] at q;cases q
  | some t =>
   rw [e] at q
   cases t with
   | no=>simp only [JAK] at q;rw [h] at q;cases q
   | val d=>simp only [JAK] at q;rw [h] at q;cases q.1
   | own d =>
    simp only [JAK] at q
    obtain ⟨a',ds',xs',e1,e2,e3,e4,_⟩:=q
    rw [h] at e1;cases e1
    rw [hD] at e4;cases e4
 have s1:Same (hid H O) (hid (upd H Da xs) (setO O i (some Da))):=fun b o e=>by
  obtain ⟨h1,h2⟩:=JAu e
  have hb:b≠Da:=fun z=>by rw [z,hD] at h2;cases h2
  rw [hid,JAH fun ⟨j,hj⟩=>by
   by_cases hji:j=i
   ·subst hji;rw [JAX] at hj;exact hb (Option.some.inj hj).symm
   ·rw [JAS hji] at hj;exact h1 ⟨j,hj⟩,JAM hb]
  exact h2
 refine ⟨by simpa using so.len,so.same.trans (JAZ hD),fun j k a h1 h2=>?_,fun j=>?_⟩
 ·by_cases hj:j=i
  ·subst hj
   rw [JAX] at h1
   by_cases hk:k=j
   ·exact hk.symm
   ·rw [JAS hk] at h2
    exact absurd (Option.some.inj h1).symm (nO k a h2)
  ·by_cases hk:k=i
   ·subst hk;rw [JAX] at h2;rw [JAS hj] at h1
    exact absurd (Option.some.inj h2).symm (nO j a h1)
   ·rw [JAS hj] at h1;rw [JAS hk] at h2
    exact so.inj j k a h1 h2
 ·by_cases hj:j=i
  ·subst hj
   by_cases hl:j<δ.length
   ·rw [q_z hl]
    simp only [JAK]
    exact ⟨Da,ds,xs,JAX,rfl,q_z (by rw [so.len];exact hl),JAG,so.same.free hD,OwnO.mono s1 ds xs dn⟩
   ·exact absurd hil hl
  ·rw [q_A (Ne.symm hj)]
   have q:=so.slot j
   cases e:δ[j]? with
   | none=>rw [e] at q;simp only [JAK] at q ⊢;rw [JAS hj];exact q
   | some t =>
    rw [e] at q
    cases t with
    | no=>simp only [JAK] at q ⊢;rw [JAS hj];exact q
    | val d' =>
     simp only [JAK] at q ⊢
     rw [JAS hj,q_A (Ne.symm hj)]
     obtain ⟨h0,w,e2,dn'⟩:=q
     exact ⟨h0,w,e2,Den.mono s1 d' w dn'⟩
    | own d' =>
     simp only [JAK] at q ⊢
     rw [JAS hj,q_A (Ne.symm hj)]
     obtain ⟨a,ds',xs',q1,q2,q3,q4,q5,q6⟩:=q
     exact ⟨a,ds',xs',q1,q2,q3,by rw [JAM (nO j a q1)];exact q4,q5,OwnO.mono s1 ds' xs' q6⟩
theorem JHs (so:SO B Hb σ H δ O) {i:Nat} {Da:Addr} {ds:D} {xs:HO} (hD:H Da=none) (dn:OwnO B (hid H O) ds xs):∃O',SO B Hb (σ.set i (some (.ref Da))) (upd H Da xs) (δ.set i (.own ds)) O':=by
 by_cases hi:i<δ.length
 ·exact ⟨_,JGm so hi hD dn⟩
 ·rw [List.set_eq_of_length_le (l:=σ) (by rw [so.len];omega),List.set_eq_of_length_le (l:=δ) (by omega)]
  exact ⟨O,JK5 so hD⟩
theorem JMF (so:SO B Hb σ H δ O) {i:Nat} {a:Addr} {ds:D} {xs:HO} (ha:O i=some a) (dn:OwnO B (hid H O) ds xs):SO B Hb σ (upd H a xs) (δ.set i (.own ds)) O:=by
 have eh:hid (upd H a xs) O=hid H O:=by
  funext b
  by_cases hb:ownP O b
  ·rw [hid,hid,JBD hb,JBD hb]
  ·rw [hid,hid,JAH hb,JAH hb,JAM fun z=>hb ⟨i,by rw [z];exact ha⟩]
 have own:=fun (j:Nat) (b:Addr) (h:O j=some b)=>so.inj i j
 have hq:=so.slot i
 obtain ⟨ds0,xs0,e1,e2,e3,e4⟩:∃ds0 xs0,δ[i]? = some (.own ds0)/\σ[i]? = some (some (.ref a))/\H a=some xs0/\Hb a=none:=by
  cases e:δ[i]? with
  | none=>rw [e] at hq;simp only [JAK] at hq;rw [ha] at hq;cases hq
  | some t =>
   rw [e] at hq
   cases t with
   | no=>simp only [JAK] at hq;rw [ha] at hq;cases hq
   | val d=>simp only [JAK] at hq;rw [ha] at hq;cases hq.1
   | own d =>
    simp only [JAK] at hq
    obtain ⟨a',ds',xs',f1,f2,f3,f4,f5,_⟩:=hq
    rw [ha] at f1;cases f1
    subst f2
    exact ⟨_,xs',rfl,f3,f4,f5⟩
 refine ⟨by simpa using so.len,fun b o e=>?_,so.inj,fun j=>?_⟩
 ·rw [JAM fun z=>by rw [z,e4] at e;cases e]
  exact so.same b o e
 ·by_cases hj:j=i
  ·subst hj
   rw [q_z (q_p.mp e1).1]
   simp only [JAK]
   exact ⟨a,ds,xs,ha,rfl,e2,JAG,e4,by rw [eh];exact dn⟩
  ·rw [q_A (Ne.symm hj)]
   have q:=so.slot j
   cases e:δ[j]? with
   | none=>rw [e] at q;exact q
   | some t =>
    rw [e] at q
    cases t with
    | no=>exact q
    | val d' =>
     simp only [JAK] at q ⊢
     rw [eh];exact q
    | own d' =>
     simp only [JAK] at q ⊢
     obtain ⟨a',ds',xs',q1,q2,q3,q4,q5,q6⟩:=q
     refine ⟨a',ds',xs',q1,q2,q3,?_,q5,by rw [eh];exact q6⟩
     rw [JAM fun z=>hj (so.inj j i a (by rw [<-z];exact q1) ha)]
     exact q4
noncomputable def RSF (X:Cx) (B:Bs) (C:Cn) (XX:Nat->Hp->Prop) (x:E):TE:=fun σ H Q=>∃δ O Hb,Same X.H₀ Hb/\SO B Hb σ H δ O/\(match ev C x δ with
 | .ok d=>∀Da ds xs H1 O',d=ds->SO B Hb σ H1 (after x d δ) O'->H1 Da=none->OwnO B (hid H1 O') ds xs->Q (.ref Da) (upd H1 Da xs)
 | .exc c=>XX c Hb
 | .bad=>False)
theorem JIS {H1:Hp} {P:Addr->Prop} {Da:Addr} {o:HO} (h:¬P Da):mixP H (upd H1 Da o) P=upd (mixP H H1 P) Da o:=by
 funext b
 by_cases hb:b=Da
 ·subst hb;rw [JAQ h,JAG,JAG]
 ·rw [JAM hb]
  by_cases hp:P b
  ·rw [JCB hp,JCB hp]
  ·rw [JAQ hp,JAQ hp,JAM hb]
theorem JEe (so:SO B Hb σ H δ O) {H1:Hp} {ds:D} {xs:HO} (sm:Same (hidP H (unP x O)) H1) (hz:∀a,unP x O a->H1 a=none) (dn:OwnO B H1 ds xs) :
  ∃O',SO B Hb σ (mixP H H1 (unP x O)) (after x ds δ) O'/\OwnO B (hid (mixP H H1 (unP x O)) O') ds xs:=by
 unfold after
 split
 ·exact ⟨_,JFt so sm hz,OwnO.mono (JA8 hz) ds xs dn⟩
 ·rename_i hb
  have hu:JAP x 0 δ=false:=by
   cases q:JAP x 0 δ with
   | false=>rfl
   | true=>rw [q] at hb;exact absurd (by rw [dn.nl];rfl) hb
  refine ⟨O,JDT so sm hz,OwnO.mono (fun b o e=>?_) ds xs dn⟩
  have hb':¬unP x O b:=fun h=>by rw [hz b h] at e;cases e
  have hb2:¬ownP O b:=fun ⟨i,h⟩=>by
   obtain ⟨ds,xs,e1,_⟩:=so.own h
   refine hb' ⟨i,h,?_⟩
   cases q:x.uses i with
   | false=>rfl
   | true =>
    have:=JBT x δ 0 i _ hu e1 (by rw [Nat.zero_add];exact q)
    cases this
  rw [hid,JAH hb2,JAQ hb']
  exact e
theorem JOo (g:Gk X B C CX XX G) {e:Expr} (he:PE X e (REF B C XX x)):PE X e (RSF X B C XX x):=by
 intro pins s σ H Q I ⟨δ,O,Hb,hb,so,k⟩
 have J0:=JBs (ps:=JCe x O δ.length s.heap) I (JBB (x:=x) hb so) JBG
 have hev:=(agree C x δ (JAn x 0 δ) JBr).1
 cases q:ev C x δ with
 | ok d =>
  rw [q] at k
  refine thn (he _ s σ _ (fun v H1=>∃Da ds xs H2,v=.ref Da/\H1=upd H2 Da xs/\d=ds/\Same (hidP H (unP x O)) H2/\H2 Da=none/\OwnO B H2 ds xs) J0
   ⟨JAn x 0 δ,JAv so,by rw [<-hev,q];exact fun Da ds xs H1 e s1 hD dn=>⟨Da,ds,xs,H1,rfl,rfl,e,s1,hD,dn⟩⟩) fun u s1 ⟨v,H1,J,r,Da,ds,xs,H2,e1,e2,e3,sm,hD,dn⟩=>?_
  subst e1;subst e2;subst e3
  obtain ⟨I',hz⟩:=JBF I J (JBB hb so) (JA5 I so)
  have nD:¬unP x O Da:=fun h=>by have:=hz Da h;rw [JAG] at this;cases this
  have hz2:∀a,unP x O a->H2 a=none:=fun a h=>by
   have:=hz a h
   rwa [JAM fun z=>nD (by rw [<-z];exact h)] at this
  rw [JIS nD] at I'
  obtain ⟨O',so',dn'⟩:=JEe so sm hz2 dn
  exact ⟨_,_,I',r,k Da _ xs _ O' rfl so' (by rw [JAQ nD];exact hD) dn'⟩
 | exc c =>
  rw [q] at k
  exact thn (he _ s σ _ (fun v H1=>False) J0 ⟨JAn x 0 δ,JAv so,by rw [<-hev,q];exact g.anti c _ _ ((JAq so).trans same_un) k⟩) fun u s1 ⟨v,H1,J,r,f⟩=>f.elim
 | bad=>rw [q] at k;exact k.elim
theorem JOk (g:Gk X B C CX XX G) {st:Stmt} {i:Nat} (he:PS X st (tAsg (REF B C XX x) (JFl i))):PS X st (tAsg (RSF X B C XX x) (JFl i)):=by
 intro pins s σ H D I h
 obtain ⟨δ,O,Hb,hb,so,k⟩:=h
 have J0:=JBs (ps:=JCe x O δ.length s.heap) I (JBB (x:=x) hb so) JBG
 have hev:=(agree C x δ (JAn x 0 δ) JBr).1
 cases q:ev C x δ with
 | ok d =>
  rw [q] at k
  refine thn (he _ s σ _ { nx:=fun σ' H1=>∃Da ds xs H2,σ'=σ.set i (some (.ref Da))/\H1=upd H2 Da xs/\d=ds/\Same (hidP H (unP x O)) H2/\H2 Da=none/\OwnO B H2 ds xs,rt:=fun _ _=>False } J0
   ⟨JAn x 0 δ,JAv so,by rw [<-hev,q];exact fun Da ds xs H1 e s1 hD dn=>⟨Da,ds,xs,H1,rfl,rfl,e,s1,hD,dn⟩⟩) fun f s1 hf=>?_
  cases f with
  | next =>
   obtain ⟨σ',H1,J,Da,ds,xs,H2,e1,e2,e3,sm,hD,dn⟩:=hf
   subst e1;subst e2;subst e3
   obtain ⟨I',hz⟩:=JBF I J (JBB hb so) (JA5 I so)
   have nD:¬unP x O Da:=fun h=>by have:=hz Da h;rw [JAG] at this;cases this
   have hz2:∀a,unP x O a->H2 a=none:=fun a h=>by
    have:=hz a h
    rwa [JAM fun z=>nD (by rw [<-z];exact h)] at this
   rw [JIS nD] at I'
   obtain ⟨O',so',dn'⟩:=JEe so sm hz2 dn
   exact ⟨_,_,I',k Da _ xs _ O' rfl so' (by rw [JAQ nD];exact hD) dn'⟩
  | ret v=>obtain ⟨_,_,_,_,_,f⟩:=hf;exact f.elim
  | brk=>obtain ⟨_,_,_,f⟩:=hf;exact False.elim f
  | cont=>obtain ⟨_,_,_,f⟩:=hf;exact False.elim f
 | exc c =>
  rw [q] at k
  refine thn (he _ s σ _ { nx:=fun _ _=>False,rt:=fun _ _=>False } J0 ⟨JAn x 0 δ,JAv so,by rw [<-hev,q];exact g.anti c _ _ ((JAq so).trans same_un) k⟩) fun f s1 hf=>?_
  cases f with
  | next=>obtain ⟨_,_,_,f⟩:=hf;exact f.elim
  | ret v=>obtain ⟨_,_,_,_,_,f⟩:=hf;exact f.elim
  | brk=>obtain ⟨_,_,_,f⟩:=hf;exact False.elim f
  | cont=>obtain ⟨_,_,_,f⟩:=hf;exact False.elim f
 | bad=>rw [q] at k;exact k.elim
end
section
variable {X:Cx} {B:Bs} {C:Cn} {CX:CXT} {XX:Nat->Hp->Prop} {G:List (Str×GK)} {x:E} {pos:Pos}
theorem PS.imp {st:Stmt} {t t':TS} (h:PS X st t) (i:∀D σ H,t' D σ H->t D σ H):PS X st t':=fun pins s σ H D I q=>h pins s σ H D I (i D σ H q)
theorem PSs.imp {st:List Stmt} {t t':TS} (h:PSs X st t) (i:∀D σ H,t' D σ H->t D σ H):PSs X st t':=fun pins s σ H D I q=>h pins s σ H D I (i D σ H q)
theorem JQ5:PSs X [] (RSt X B C XX .nil):=PSs.imp JMo fun D σ H ⟨δ,O,Hb,hb,so,k⟩=>k σ H O so
theorem JNW {st:Stmt} {r:List Stmt} {a b:S} (h1:PS X st (RSt X B C XX a)) (h2:PSs X r (RSt X B C XX b)):PSs X (st::r) (RSt X B C XX (.cons a b)) :=
 PSs.imp (JJ8 h1 h2) fun D σ H ⟨δ,O,Hb,hb,so,k⟩=>by
  refine ⟨δ,O,Hb,hb,so,?_⟩
  simp only [exec] at k
  cases q:exec C a δ with
  | nx δ'=>rw [q] at k;exact fun σ' H' O' so'=>⟨δ',O',Hb,hb,so',k⟩
  | rt d=>rw [q] at k;exact k
  | bk d=>rw [q] at k;exact k
  | ct d=>rw [q] at k;exact k
  | ex c=>rw [q] at k;exact k
  | bad=>rw [q] at k;exact k
theorem JNT:PS X (.Pass pos) (RSt X B C XX .pass):=PS.imp JMw fun D σ H ⟨δ,O,Hb,hb,so,k⟩=>k σ H O so
theorem JRD:PS X (.Break pos) (RSt X B C XX .brk):=PS.imp JKA fun D σ H ⟨δ,O,Hb,hb,so,k⟩=>k σ H O so
theorem JO4:PS X (.Continue pos) (RSt X B C XX .cnt):=PS.imp JFe fun D σ H ⟨δ,O,Hb,hb,so,k⟩=>k σ H O so
theorem JQ7 {y:Str} {j:Nat} {pos':Pos}:PS X (.Expr (.Constant (.str y) j pos) pos') (RSt X B C XX .pass):=PS.imp JRI fun D σ H ⟨δ,O,Hb,hb,so,k⟩=>k σ H O so
theorem JND:PS X (.Return none pos) (RSt X B C XX .retN):=PS.imp JM3 fun D σ H ⟨δ,O,Hb,hb,so,k⟩=>k .non H so.same (by simp only [Den])
theorem JOT (g:Gk X B C CX XX G) {e:Expr} (he:PE X e (RE B C XX x)):PS X (.Return (some e) pos) (RSt X B C XX (.ret x)) :=
 PS.imp (JPv (JEP g he)) fun D σ H ⟨δ,O,Hb,hb,so,k⟩=>by
  refine ⟨δ,O,Hb,hb,so,?_⟩
  simp only [exec] at k
  cases q:ev C x δ with
  | ok d=>rw [q] at k;exact fun v H' O' so' dn=>k v H' so'.same (Den.mono same_hidP d v dn)
  | exc c=>rw [q] at k;exact k
  | bad=>rw [q] at k;exact k
theorem JQG (g:Gk X B C CX XX G) {c:Expr} {a b:List Stmt} {s1 s2:S} (hc:PT X c (RT B C XX x)) (ha:PSs X a (RSt X B C XX s1)) (hb:PSs X b (RSt X B C XX s2)):PS X (.If c a b pos) (RSt X B C XX (.ife x s1 s2)) :=
 PS.imp (ps_if (JL2 g hc) ha hb) fun D σ H ⟨δ,O,Hb,hb,so,k⟩=>by
  refine ⟨δ,O,Hb,hb,so,?_⟩
  simp only [exec] at k
  cases q:evT C x δ with
  | ok t =>
   rw [q] at k
   intro H' so'
   cases t with
   | true=>exact iteT ⟨δ,O,Hb,hb,so',k⟩
   | false=>exact iteF ⟨δ,O,Hb,hb,so',k⟩
  | exc c=>rw [q] at k;exact k
  | bad=>rw [q] at k;exact k
theorem JOH (g:Gk X B C CX XX G) {e:Expr} (he:PE X e (RE B C XX x)) (hs:swapsWith e none pos.line X.env=pure false):PS X (.Expr e pos) (RSt X B C XX (.drop x)) :=
 PS.imp (JI5 (JEP g he) hs) fun D σ H ⟨δ,O,Hb,hb,so,k⟩=>by
  refine ⟨δ,O,Hb,hb,so,?_⟩
  simp only [exec] at k
  cases q:ev C x δ with
  | ok d=>rw [q] at k;exact fun v H' O' so' dn=>k σ H' O' so'
  | exc c=>rw [q] at k;exact k
  | bad=>rw [q] at k;exact k
theorem JQO (g:Gk X B C CX XX G) {e:Expr} {i:Nat} {nm:Str} {pos':Pos} (he:PE X e (RE B C XX x)) (hf:x.fresh=false) (hnd:X.N.Nodup) (hN:X.N[i]? = some nm) (hx:Loc X.env.scope nm) (hs:swapsWith e (some (.Name nm pos')) pos.line X.env=pure false)
  (hfn:X.fn nm=true\/X.env.scope.names.lookup nm=some .local):PS X (.Assign [.Name nm pos'] e pos) (RSt X B C XX (.asg i x)) :=
 PS.imp (JLc hnd hN hx (JEP g he) hs hfn) fun D σ H ⟨δ,O,Hb,hb,so,k⟩=>by
  refine ⟨δ,O,Hb,hb,so,?_⟩
  simp only [exec,hf,q_v,if_false] at k
  cases q:ev C x δ with
  | ok d=>rw [q] at k;exact fun v H' O' so' dn=>k _ H' _ (JH3 so' dn)
  | exc c=>rw [q] at k;exact k
  | bad=>rw [q] at k;exact k
theorem JEK {i:Nat} (hf:x.fresh=true) {D:Ends} {σ:St} {H:Hp} (h:RSt X B C XX (.asg i x) D σ H):tAsg (RSF X B C XX x) (JFl i) D σ H:=by
 obtain ⟨δ,O,Hb,hb,so,k⟩:=h
 refine ⟨δ,O,Hb,hb,so,?_⟩
 simp only [exec,hf,if_true] at k
 cases q:ev C x δ with
 | ok d =>
  rw [q] at k
  intro Da ds xs H1 O' e so' hD dn
  subst e
  obtain ⟨O2,so2⟩:=JHs (i:=i) so' hD dn
  exact k _ _ O2 so2
 | exc c=>rw [q] at k;exact k
 | bad=>rw [q] at k;exact k
theorem JFK (g:Gk X B C CX XX G) {e:Expr} {i:Nat} {nm:Str} {pos':Pos} (he:PE X e (REF B C XX x)) (hf:x.fresh=true) (hnd:X.N.Nodup) (hN:X.N[i]? = some nm) (hx:Loc X.env.scope nm) (hs:swapsWith e (some (.Name nm pos')) pos.line X.env=pure false)
  (hfn:X.fn nm=true\/X.env.scope.names.lookup nm=some .local):PS X (.Assign [.Name nm pos'] e pos) (RSt X B C XX (.asg i x)) :=
 PS.imp (JLc hnd hN hx (JOo g he) hs hfn) fun D σ H h=>JEK hf h
theorem JNj (g:Gk X B C CX XX G) {st:Stmt} {i:Nat} (h:PS X st (tAsg (REF B C XX x) (JFl i))) (hf:x.fresh=true):PS X st (RSt X B C XX (.asg i x)) :=
 PS.imp (JOk g h) fun D σ H h=>JEK hf h
theorem JPn (g:Gk X B C CX XX G) (hp:PassesOwn (model X.prog X.w) X.A X.env X.xe) {c:Expr} {body:List Stmt} {b:S} (hc:PT X c (RT B C XX x)) (hb:PSs X body (RSt X B C XX b)):PS X (.While c body [] pos) (RSt X B C XX (.whl x b)) :=
 PS.imp (JJb hp (JL2 g hc) hb) fun D σ H ⟨δ,O,Hb,hb0,so,k⟩=>by
  simp only [exec] at k
  unfold JBc at k
  split at k
  ·rename_i hex
   refine ⟨fun m σ H=>∃δ O,SO B Hb σ H δ O/\JDv X B XX Hb D (JAo (evT C x) (exec C b) m δ),⟨hex.choose,δ,O,so,k⟩,?_⟩
   rintro m σ H ⟨δ,O,so,k⟩
   cases m with
   | zero=>exact False.elim k
   | succ m =>
    refine ⟨δ,O,Hb,hb0,so,?_⟩
    simp only [JAo] at k
    cases q:evT C x δ with
    | ok t =>
     rw [q] at k
     intro H' so'
     cases t with
     | true =>
      refine iteT ⟨fun σ' H'=>∃δ O,SO B Hb σ' H' δ O/\JDv X B XX Hb D (JAo (evT C x) (exec C b) m δ),fun σ' H' h=>⟨m,Nat.lt_succ_self m,h⟩,δ,O,Hb,hb0,so',?_⟩
      simp only at k
      cases q2:exec C b δ with
      | nx δ'=>rw [q2] at k;exact fun σ2 H2 O2 so2=>⟨δ',O2,so2,k⟩
      | ct δ'=>rw [q2] at k;exact fun σ2 H2 O2 so2=>⟨δ',O2,so2,k⟩
      | bk δ'=>rw [q2] at k;exact k
      | rt d=>rw [q2] at k;exact k
      | ex c=>rw [q2] at k;exact k
      | bad=>rw [q2] at k;exact k
     | false=>exact iteF (k σ H' O so')
    | exc c=>rw [q] at k;exact k
    | bad=>rw [q] at k;exact k
  ·exact False.elim k
theorem JLb (g:Gk X B C CX XX G) {put:D->Env->Option Env} {gt:TG} {tb:TS} {b:S} {De:Ends} {σ:St} {H1:Hp} {J:It} {ds:List D} {δ:Env} {O:Ow} {Hb:Hp} (hb:Same X.H₀ Hb) (so:SO B Hb σ H1 δ O) (io:ItOk B J (hid H1 O) ds)
  (hput:∀(d:D) (v:V) (σ:St) (H:Hp) (δ δ':Env) (O:Ow) (Hb':Hp) (Q:St->Hp->Prop),SO B Hb' σ H δ O->Den B (hid H O) d v->put d δ=some δ'->(∀σ' O',SO B Hb' σ' H δ' O'->Q σ' H)->gt v σ H Q)
  (htb:∀De σ H,RSt X B C XX b De σ H->tb De σ H) (k:JDv X B XX Hb De (forL put (exec C b) ds δ)) :
  ∃W:Nat->Nat->St->Hp->Prop,(∃m,W 0 m σ H1)/\∀i m σ H,W i m σ H->(J.stop i H/\De.nx σ H)\/(J.go i H/\∃N:St->Hp->Prop,(∀σ' H',N σ' H'->∃m',m'<m/\W (i+1) m' σ' H')/\∀x H',J.yld i H x H'->gt x σ H' fun σ2 H2=>tb { De with nx:=N,ct:=N,bk:=De.nx } σ2 H2):=by
 have hb1:Same Hb (hid H1 O):=JAq so
 refine ⟨fun i m σ H=>m=ds.length - i/\i<=ds.length/\∃δ O',SO B (hid H1 O) σ H δ O'/\JDv X B XX Hb De (forL put (exec C b) (ds.drop i) δ),⟨ds.length,by simp,Nat.zero_le _,δ,O,so.base,by simpa using k⟩,?_⟩
 rintro i m σ H ⟨rfl,hi,δ2,O2,so2,k2⟩
 by_cases hlt:i<ds.length
 ·right
  have hd:ds[i]? = some ds[i]:=by simp [hlt]
  obtain ⟨go,yl⟩:=(io H so2.same i).1 ds[i] hd
  refine ⟨go,fun σ' H'=>∃δ O',SO B (hid H1 O) σ' H' δ O'/\JDv X B XX Hb De (forL put (exec C b) (ds.drop (i+1)) δ),fun σ' H' ⟨δ3,O3,so3,k3⟩=>⟨ds.length - (i+1),by omega,rfl,hlt,δ3,O3,so3,k3⟩,fun v H' y=>?_⟩
  obtain ⟨so3',dn2⟩:SO B (hid H1 O) σ H' δ2 O2/\Den B (hid H' O2) ds[i] v:=by
    rcases yl v H' y with ⟨e,dn⟩ | ⟨p,xs,es,hp,e,ex,ed,dl⟩
    ·subst e;exact ⟨so2,Den.mono (JAq so2) _ v dn⟩
    ·subst e;subst ex
     have s3:=JK5 so2 (o:=.tup xs) hp
     refine ⟨s3,?_⟩
     rw [ed]
     simp only [Den]
     refine ⟨p,xs,rfl,SqT.of ?_,DenL.mono (JAq s3) _ _ dl⟩
     rw [hid,JAH fun ⟨j,hj⟩=>by obtain ⟨_,_,_,_,e5,_⟩:=so2.own hj;rw [hp] at e5;cases e5]
     exact JAG
  rw [JFC hlt] at k2
  unfold forL at k2
  cases qp:put ds[i] δ2 with
  | none=>rw [qp] at k2;exact False.elim k2
  | some δ3 =>
    rw [qp] at k2
    refine hput ds[i] v σ H' δ2 δ3 O2 _ _ so3' dn2 qp fun σ3 O3 so3=>?_
    refine htb _ _ _ ⟨δ3,O3,_,hb.trans hb1,so3,?_⟩
    simp only at k2
    cases q2:exec C b δ3 with
    | nx δ'=>rw [q2] at k2;exact fun σ4 H4 O4 so4=>⟨δ',O4,so4,k2⟩
    | ct δ'=>rw [q2] at k2;exact fun σ4 H4 O4 so4=>⟨δ',O4,so4,k2⟩
    | bk δ'=>rw [q2] at k2;exact fun σ4 H4 O4 so4=>k2 σ4 H4 O4 (so4.weak hb1)
    | rt d=>rw [q2] at k2;exact fun v4 H4 s4 d4=>k2 v4 H4 (hb1.trans s4) d4
    | ex c=>rw [q2] at k2;exact g.anti c Hb _ hb1 k2
    | bad=>rw [q2] at k2;exact k2
 ·left
  have ei:i=ds.length:=by omega
  refine ⟨(io H so2.same i).2 (by omega),?_⟩
  rw [ei,List.drop_length] at k2
  exact k2 σ H O2 (so2.weak hb1)
theorem JMu (g:Gk X B C CX XX G) (hp:PassesOwn (model X.prog X.w) X.A X.env X.xe) {iter:Expr} {body:List Stmt} {b:S} {i:Nat} {nm:Str} {pos':Pos} (hi:PI X (.Name nm pos') iter (RI B C XX x)) (hb:PSs X body (RSt X B C XX b)) (hnd:X.N.Nodup) (hN:X.N[i]? = some nm) (hx:Loc X.env.scope nm)
  (hfn:X.fn nm=true\/X.env.scope.names.lookup nm=some .local) (hs:∀v,foldedSetIterable iter X.env v=pure v):PS X (.For (.Name nm pos') iter body [] pos) (RSt X B C XX (.for1 i x b)) :=
 PS.imp (JLB hp g.calm (JL4 g hi) (JD8 hnd hN hx hfn) hb hs) fun De σ H ⟨δ,O,Hb,hb0,so,k⟩=>by
  refine ⟨δ,O,Hb,hb0,so,?_⟩
  simp only [exec] at k
  cases q:evI C x δ with
  | ok ds =>
    rw [q] at k
    intro J H' O' so' io
    refine JLb g hb0 so' io (put:=put1 i) (fun d v σ H δ δ' O Hb' Q so dn e h=>?_) (fun _ _ _ h=>h) k
    have e':δ.set i (.val d)=δ':=Option.some.inj e
    subst e'
    exact h _ _ (JH3 so dn)
  | exc c=>rw [q] at k;exact k
  | bad=>rw [q] at k;exact k
end
section
variable {prog:Program} {w:World} {A:Around} {E:Value->Shared->Prop}
theorem JEi {it t:Addr} {items:Array Value} (hne:t≠it):∀(n i:Nat) (s:Shared) (Q:List Value->Shared->Prop),s.heap.IsListIter it t i->s.heap.IsList t items->i+n<=items.size ->
  (∀h':Heap,h'.IsListIter it t (i+n)->Heap.SameBut it s.heap h'->Q ((items.toList.drop i).take n) { s with heap:=h' })->wpAny (model prog w) A (draw (.ref it) n) Q E s
 | 0,i,s,Q,hit,_,_,hQ=>by
  show wpAny _ _ (pure []) Q E s
  exact q_e (by simpa using hQ s.heap hit (Heap.SameBut.refl ..))
 | n+1,i,s,Q,hit,ht,hle,hQ=>by
  have hlt:i<items.size:=by omega
  show wpAny _ _ (pyNext (.ref it) >>= _) Q E s
  refine q_b (wpAny_pyNext_list_item hit ht (x:=items[i]) (by simp [hlt]) fun h₁ hit₁ hs₁=>?_)
  refine q_b (wpAny_holding (JEi hne n (i+1) _ _ hit₁ (ht.extBut hs₁.extBut hne) (by omega) fun h₂ hit₂ hs₂=>q_e ?_))
  have hd:items.toList.drop i=items[i]::items.toList.drop (i+1):=by simp [List.drop_eq_getElem_cons,hlt]
  have:=hQ h₂ (by rw [show i+(n+1)=i+1+n by omega];exact hit₂) (hs₁.trans hs₂)
  rw [hd,List.take_succ_cons] at this
  exact this
theorem JCU {s:Shared} {env:PySem.Env} {elts:List Expr} {x1:Nat} {pos:Pos} {t:Addr} {items:Array Value} {Q:Unit->Shared->Prop} (hh:A.handled=none) (ht:s.heap.IsList t items)
  (hn:(assignEach elts env).length=items.size) (hstar:(assignEach elts env).findIdx? (·.1)=none)
  (h:∀h',Heap.ExtBut s.heap.objs.size s.heap h'->wpAny (model prog w) A (assignInOrder ((assignEach elts env).map (·.2)) items.toList) Q E { s with heap:=h' }) :
  wpAny (model prog w) A (assign (.Tuple elts x1 pos) env (.ref t)) Q E s:=by
 have hlt:t≠s.heap.objs.size:=by obtain ⟨o,ho,_⟩:=ht;exact q_l (q_h ho)
 rw [assign_Tuple]
 refine q_b (wpAny_standAt ?_)
 unfold unpack
 rw [hn,hstar]
 refine q_b (wpAny_holding ?_)
 unfold unpackItems
 refine q_b ?_
 unfold notIterableAtAll
 refine q_b (wpAny_specialOf ht.typeIs slot_list_iter.lookup ?_)
 refine q_e ?_
 simp only [q_v,if_false]
 refine q_b (wpAny_holding (wpAny_pyIter_list ht ?_))
 refine q_b (wpAny_holding (JEi hlt items.size 0 _ _ ⟨_,q_k _ rfl,rfl,rfl⟩ (ht.extBut (fun b o _ e=>q_c _ e) (q_l (q_E (by obtain ⟨o,ho,_⟩:=ht;exact q_h ho)))) (by omega) fun h₁ hit₁ hs₁=>?_))
 have hall:List.take items.size (List.drop 0 items.toList)=items.toList:=by
  rw [List.drop_zero];exact List.take_of_length_le (by simp)
 rw [hall]
 rw [if_neg (by simp)]
 have ht1:h₁.IsList t items:=by
  refine Heap.IsList.extBut ?_ hs₁.extBut hlt
  exact ht.extBut (fun b o _ e=>q_c _ e) hlt
 refine q_b (wpAny_holding (wpAny_pyNext_list_end hh hit₁ ht1 (by simp) fun h₂ he₂=>?_))
 simp only [Option.isSome_none,q_v,if_false]
 refine q_e (h h₂ fun b o hb e=>he₂ b o hb (hs₁.extBut b o hb (q_c _ e)))
end
noncomputable def setV:List Nat->List V->St->St
 | i::is,v::vs,σ=>setV is vs (σ.set i (some v))
 | _,_,σ=>σ
section
variable {X:Cx} {B:Bs} {C:Cn} {CX:CXT} {XX:Nat->Hp->Prop} {G:List (Str×GK)} {x:E} {pos:Pos} {names:List (Str×NameKind)} {N:List Str}
theorem JEm {nm:Str} (hn:X.env.scope.names=names) (h:JEC (names.lookup nm)=true):L2.Loc X.env.scope nm:=by
 unfold L2.Loc
 rw [hn]
 cases q:names.lookup nm with
 | none=>rw [q] at h;cases h
 | some k=>cases k<;>simp_all [JEC]
theorem slot_of {nm:Str} {i:Nat} (hn:X.env.scope.names=names) (hN:X.N=N) (h:slot names N nm=some i):X.N[i]? = some nm/\L2.Loc X.env.scope nm:=by
 unfold slot at h
 split at h
 ·rename_i hb
  exact ⟨by rw [hN];exact JC9 h,JEm hn hb⟩
 ·cases h
theorem JDb {e:Expr} {r:List Expr} {is:List Nat} (h:slots names N (e::r)=some is):∃nm p i js,e=.Name nm p/\slot names N nm=some i/\slots names N r=some js/\is=i::js:=by
 unfold slots at h
 split at h
 ·rename_i q;cases q
 ·rename_i q
  cases q
  obtain ⟨i,h1,h⟩:=q_a.mp h
  obtain ⟨js,h2,h⟩:=q_a.mp h
  cases h
  exact ⟨_,_,i,js,rfl,h1,h2,rfl⟩
 ·cases h
theorem JCQ {env:PySem.Env}:∀ {ts:List Expr} {is:List Nat},slots names N ts=some is->(assignEach ts env).findIdx? (·.1)=none/\(assignEach ts env).length=is.length
 | [],is,h=>by unfold slots at h;cases h;exact ⟨rfl,rfl⟩
 | e::r,is,h=>by
  obtain ⟨nm,p,i,js,rfl,h1,h2,rfl⟩:=JDb h
  obtain ⟨q1,q2⟩:=JCQ (env:=env) h2
  refine ⟨?_,by show (assignEach r env).length+1=_;rw [q2];rfl⟩
  show List.findIdx? (·.1) ((false,assign (.Name nm p) env)::assignEach r env)=none
  rw [List.findIdx?_cons]
  simp [q1]
theorem JCu (hn:X.env.scope.names=names) (hN:X.N=N) (hnd:N.Nodup) (hfn:∀nm,X.fn nm=true\/X.env.scope.names.lookup nm≠some .cell):∀ {ts:List Expr} {is:List Nat},slots names N ts=some is->PGs X ts (fun vs σ H Q=>vs.length=is.length/\Q (setV is vs σ) H)
 | [],is,h=>by
  unfold slots at h;cases h
  intro pins s σ H vs us Q I r ⟨e,q⟩
  refine JHR pins s σ H vs us Q I r ⟨q_B.mp e,?_⟩
  cases vs<;>exact q
 | e::r,is,h=>by
  obtain ⟨nm,p,i,js,rfl,h1,h2,rfl⟩:=JDb h
  obtain ⟨q1,q2⟩:=slot_of hn hN h1
  have hf:X.fn nm=true\/X.env.scope.names.lookup nm=some .local:=by
   rcases hfn nm with z | z
   ·exact .inl z
   ·rcases q2 with k | k
    ·exact .inr k
    ·exact absurd k z
  intro pins s σ H vs us Q I rv ⟨e,q⟩
  refine JF3 (JD8 (by rw [hN];exact hnd) q1 q2 hf) (JCu hn hN hnd hfn h2) rfl pins s σ H vs us Q I rv ?_
  match vs,e,q with
  | v::vr,e,q=>exact ⟨v,vr,rfl,by simpa using e,q⟩
theorem JLL (g:Gk X B C CX XX G) {es:List Expr} {k n:Nat} {t:TGs} (h:PGs X es t) (hn:(assignEach es X.env).length=n) (hst:(assignEach es X.env).findIdx? (·.1)=none) :
  PG X (.Tuple es k pos) (fun v σ H Q=>∃a xs,v=.ref a/\(SqT X.K H a xs\/SqL X.K H a xs)/\xs.length=n/\t xs σ H Q):=by
 intro pins s σ H v u Q I r ⟨a,xs,e1,hq,hl,hw⟩
 rcases hq with hq | hq
 ·exact JL8 g.calm h hn hst pins s σ H v u Q I r ⟨a,xs,e1,hq,hl,hw⟩
 ·subst e1
  cases r
  obtain ⟨its,rv,⟨o,m,ho,hc,hd,hs⟩,hz⟩:=I.list hq
  refine JCU (I.ok.hd g.calm) (items:=its.toArray) ⟨o,ho,hc,m,hs⟩ (by simp [hn,<-hl,rv.length]) hst fun h' hx=>?_
  have I1:Inv X pins σ H { s with heap:=h' }:=I.kept (t':=s.toks) fun b o e=>hx b o (q_l (q_h e)) e
  exact h pins _ σ H xs _ Q I1 (by simpa using rv) hw
theorem JB6:∀(is:List Nat) (ds:List D) (vs:List V) {Hb:Hp} {σ:St} {H:Hp} {δ:Env} {O:Ow},SO B Hb σ H δ O->DenL B (hid H O) ds vs->∃O',SO B Hb (setV is vs σ) H (JBl is ds δ) O'
 | [],ds,vs,_,_,_,_,O,so,dn=>by cases ds<;>cases vs<;>exact ⟨O,so⟩
 | i::is,[],vs,_,_,_,_,O,so,dn=>by
  simp only [DenL] at dn;subst dn
  exact ⟨O,so⟩
 | i::is,d::ds,vs,_,_,_,_,O,so,dn=>by
  simp only [DenL] at dn
  obtain ⟨v,r,e,q,l⟩:=dn
  subst e
  exact JB6 is ds r (JH3 (i:=i) so q) (DenL.mono JA7 ds r l)
theorem JFp {n c:Nat} {d:D}:JAz n d≠.exc c:=by
 cases d<;>simp only [JAz]<;>(try split)<;>(intro h;cases h)
theorem JOY (g:Gk X B C CX XX G) {e:Expr} {ts:List Expr} {is:List Nat} {k:Nat} {pt:Pos} (he:PE X e (RE B C XX x)) (hn:X.env.scope.names=names) (hN:X.N=N) (hnd:N.Nodup) (hfn:∀nm,X.fn nm=true\/X.env.scope.names.lookup nm≠some .cell)
  (h:slots names N ts=some is) (hs:swapsWithSole [.Tuple ts k pt] e pos.line X.env=pure false) (hw:swappedStores [.Tuple ts k pt] e X.env=pure none):PS X (.Assign [.Tuple ts k pt] e pos) (RSt X B C XX (.unp is x)):=by
 obtain ⟨q1,q2⟩:=JCQ (env:=X.env) h
 refine PS.imp (JRE (JEP g he) (JLL g (JCu hn hN hnd hfn h) q2 q1) hs hw rfl) fun De σ H ⟨δ,O,Hb,hb,so,kk⟩=>?_
 refine ⟨δ,O,Hb,hb,so,?_⟩
 simp only [exec] at kk
 cases q:ev C x δ with
 | ok d =>
  rw [q] at kk
  intro v H' O' so' dn
  have kk:JDv X B XX Hb De (stepR (JAz is.length d) fun xs=>Fl.nx (JBl is xs (after x d δ))):=kk
  cases qu:JAz is.length d with
  | ok ds =>
    rw [qu] at kk
    have hl:ds.length=is.length/\∃a xs,v=.ref a/\(SqT X.K H' a xs\/SqL X.K H' a xs)/\DenL B (hid H' O') ds xs:=by
     cases d with
     | tuple ys =>
      simp only [JAz] at qu
      split at qu
      ·rename_i hy
       cases qu
       simp only [Den] at dn
       obtain ⟨a,xs,e1,e2,e3⟩:=dn
       exact ⟨hy,a,xs,e1,.inl (JJz same_hidP (g.K▸e2)),e3⟩
      ·cases qu
     | list ys =>
      simp only [JAz] at qu
      split at qu
      ·rename_i hy
       cases qu
       simp only [Den] at dn
       obtain ⟨a,xs,e1,e2,e3⟩:=dn
       exact ⟨hy,a,xs,e1,.inr (same_hidP.seq (g.K▸e2)),e3⟩
      ·cases qu
     | _=>simp only [JAz] at qu;cases qu
    obtain ⟨hl1,a,xs,e1,e2,e3⟩:=hl
    have hlx:=DenL.len ds xs e3
    obtain ⟨O2,so2⟩:=JB6 is ds xs so' e3
    exact ⟨a,xs,e1,e2,by omega,by omega,kk _ _ O2 so2⟩
  | exc c=>exact (JFp qu).elim
  | bad=>rw [qu] at kk;exact kk.elim
 | exc c=>rw [q] at kk;exact kk
 | bad=>rw [q] at kk;exact kk
theorem JIN (g:Gk X B C CX XX G) (hp:PassesOwn (model X.prog X.w) X.A X.env X.xe) {iter:Expr} {body:List Stmt} {b:S} {ts:List Expr} {is:List Nat} {k:Nat} {pt:Pos} (hi:PI X (.Tuple ts k pt) iter (RI B C XX x)) (hb:PSs X body (RSt X B C XX b)) (hn:X.env.scope.names=names) (hN:X.N=N) (hnd:N.Nodup) (hfn:∀nm,X.fn nm=true\/X.env.scope.names.lookup nm≠some .cell)
  (h:slots names N ts=some is) (hs:∀v,foldedSetIterable iter X.env v=pure v):PS X (.For (.Tuple ts k pt) iter body [] pos) (RSt X B C XX (.forT is x b)):=by
 obtain ⟨q1,q2⟩:=JCQ (env:=X.env) h
 refine PS.imp (JLB hp g.calm (JL4 g hi) (JLL g (JCu hn hN hnd hfn h) q2 q1) hb hs) fun De σ H ⟨δ,O,Hb,hb0,so,kk⟩=>?_
 refine ⟨δ,O,Hb,hb0,so,?_⟩
 simp only [exec] at kk
 cases q:evI C x δ with
 | ok ds =>
  rw [q] at kk
  intro J H' O' so' io
  refine JLb g hb0 so' io (put:=putT is) (gt:=fun v σ H Q=>∃a xs,v=.ref a/\(SqT X.K H a xs\/SqL X.K H a xs)/\xs.length=is.length/\(xs.length=is.length/\Q (setV is xs σ) H)) (fun d v σ H δ δ' O Hb' Q so dn e h=>?_) (fun _ _ _ h=>h) kk
  cases d with
  | tuple ys =>
    simp only [putT] at e
    split at e
    ·rename_i hy
     cases e
     simp only [Den] at dn
     obtain ⟨a,xs,e1,e2,e3⟩:=dn
     have hlx:=DenL.len ys xs e3
     obtain ⟨O2,so2⟩:=JB6 is ys xs so e3
     exact ⟨a,xs,e1,.inl (JJz same_hidP (g.K▸e2)),by omega,by omega,h _ O2 so2⟩
    ·cases e
  | _=>simp only [putT] at e;cases e
 | exc c=>rw [q] at kk;exact kk
 | bad=>rw [q] at kk;exact kk
noncomputable def RAS (X:Cx) (B:Bs) (C:Cn) (XX:Nat->Hp->Prop) (x:E):TA:=fun σ H Q=>∃δ O Hb,Same X.H₀ Hb/\SO B Hb σ H δ O/\(match evA C x δ with
 | .ok ds=>∀vs H' O',SO B Hb σ H' (after (.tup x) (.tuple ds) δ) O'->DenL B (hid H' O') ds vs->Q vs H'
 | .exc c=>XX c Hb
 | .bad=>False)
theorem JHH {Hb:Hp} {σ:St} {H:Hp} {δ:Env} {O:Ow} (so:SO B Hb σ H δ O) {H1:Hp} {ds:List D} {vs:List V} (sm:Same (hidP H (unP x O)) H1) (hz:∀a,unP x O a->H1 a=none) (dn:DenL B H1 ds vs) :
  ∃O',SO B Hb σ (mixP H H1 (unP x O)) (after x (.tuple ds) δ) O'/\DenL B (hid (mixP H H1 (unP x O)) O') ds vs:=by
 unfold after
 split
 ·exact ⟨_,JFt so sm hz,DenL.mono (JA8 hz) ds vs dn⟩
 ·rename_i hb
  refine ⟨O,JDT so sm hz,?_⟩
  cases hu:JAP x 0 δ with
  | false =>
   refine DenL.mono (fun b o e=>?_) ds vs dn
   have hb':¬unP x O b:=fun h=>by rw [hz b h] at e;cases e
   have hb2:¬ownP O b:=fun ⟨i,h⟩=>by
    obtain ⟨ds,xs,e1,_⟩:=so.own h
    refine hb' ⟨i,h,?_⟩
    cases q:x.uses i with
    | false=>rfl
    | true =>
     have:=JBT x δ 0 i _ hu e1 (by rw [Nat.zero_add];exact q)
     cases this
   rw [hid,JAH hb2,JAQ hb']
   exact e
  | true =>
   have hl:JA3 ds=true:=by
    rw [hu] at hb
    cases q:JA3 ds with
    | true=>rfl
    | false=>exact absurd (by simp [JAL,q]) hb
   refine JB4 (fun b o e ho=>?_) ds vs hl dn
   have hb':¬unP x O b:=fun h=>by rw [hz b h] at e;cases e
   have hb2:¬ownP O b:=fun ⟨i,h⟩=>by
    obtain ⟨ds,xs,_,_,e4,_,e9⟩:=so.own h
    have:=sm b _ (by rw [JAH hb'];exact e4)
    rw [e] at this
    cases this
    exact ho e9.b
   rw [hid,JAH hb2,JAQ hb']
   exact e
theorem JJ7 {es:E} {j:Nat}:(E.tup es).uses j=es.uses j:=rfl
theorem JC6:∀(δ:Env) (k:Nat),JAP (.tup x) k δ=JAP x k δ
 | [],_=>rfl
 | s::r,k=>by simp only [JAP,JJ7,JC6 r]
theorem JES:∀(δ:Env) (k:Nat),JAp (.tup x) k δ=JAp x k δ
 | [],_=>rfl
 | s::r,k=>by simp only [JAp,JES r];rfl
theorem JRB (g:Gk X B C CX XX G) {es:List Expr} (he:PA X es (RA B C XX x)):PA X es (RAS X B C XX x):=by
 intro pos pins s σ H Q I ⟨δ,O,Hb,hb,so,k⟩
 have J0:=JBs (ps:=JCe x O δ.length s.heap) I (JBB (x:=x) hb so) JBG
 have hev:=(agree C x δ (JAn x 0 δ) JBr).2.2.1
 cases q:evA C x δ with
 | ok ds =>
  rw [q] at k
  refine thn (he pos _ s σ _ (fun vs H1=>Same (hidP H (unP x O)) H1/\DenL B H1 ds vs) J0 ⟨JAn x 0 δ,JAv so,by rw [<-hev,q];exact fun v H1 s1 d1=>⟨s1,d1⟩⟩) fun u s1 ⟨vs,H1,J,r,sm,dn⟩=>?_
  obtain ⟨I',hz⟩:=JBF I J (JBB hb so) (JA5 I so)
  obtain ⟨O',so',dn'⟩:=JHH so sm hz dn
  refine ⟨vs,_,I',r,k vs _ O' ?_ dn'⟩
  have:after (.tup x) (.tuple ds) δ=after x (.tuple ds) δ:=by unfold after;rw [JC6,JES]
  rw [this];exact so'
 | exc c =>
  rw [q] at k
  exact thn (he pos _ s σ _ (fun v H1=>False) J0 ⟨JAn x 0 δ,JAv so,by rw [<-hev,q];exact g.anti c _ _ ((JAq so).trans same_un) k⟩) fun u s1 ⟨v,H1,J,r,f⟩=>f.elim
 | bad=>rw [q] at k;exact k.elim
theorem JRM (g:Gk X B C CX XX G) {a b:Expr} {i j:Nat} {nx ny:Str} {px py pt pt2:Pos} {kt k2:Nat} (ha:PA X [a,b] (RA B C XX x)) (hnd:X.N.Nodup) (hi:X.N[i]? = some nx) (hj:X.N[j]? = some ny) (hij:i≠j)
  (hx:X.env.scope.names.lookup nx=some .local) (hy:X.env.scope.names.lookup ny=some .local)
  (hw:swappedStores [.Tuple [.Name nx px,.Name ny py] kt pt] (.Tuple [a,b] k2 pt2) X.env=pure (some [nx,ny])):PS X (.Assign [.Tuple [.Name nx px,.Name ny py] kt pt] (.Tuple [a,b] k2 pt2) pos) (RSt X B C XX (.unp [i,j] (.tup x))) :=
 PS.imp (JQ3 g.calm hnd hi hj hij hx hy (JRB g ha) hw) fun De σ H ⟨δ,O,Hb,hb,so,kk⟩=>by
  refine ⟨δ,O,Hb,hb,so,?_⟩
  simp only [exec,ev] at kk
  cases q:evA C x δ with
  | ok ds =>
    rw [q] at kk
    intro vs H' O' so' dn
    simp only [R.bind,JAz,List.length_cons,List.length_nil] at kk
    match ds,vs,dn,kk,so' with
    | [d1,d2],vs,dn,kk,so' =>
     obtain ⟨O2,so2⟩:=JB6 [i,j] [d1,d2] vs so' dn
     simp only [DenL] at dn
     obtain ⟨v1,r,e,q1,v2,r2,e2,q2,e3⟩:=dn
     subst e3;subst e2;subst e
     exact ⟨v1,v2,rfl,kk _ _ O2 so2⟩
    | [],_,_,kk,_=>exact False.elim kk
    | [_],_,_,kk,_=>exact False.elim kk
    | _::_::_::_,_,_,kk,_=>simp at kk;exact False.elim kk
  | exc c=>rw [q] at kk;exact kk
  | bad=>rw [q] at kk;exact kk
end
section
variable {X:Cx} {B:Bs} {C:Cn} {CX:CXT} {XX:Nat->Hp->Prop} {G:List (Str×GK)} {x:E} {pos:Pos}
theorem SO.slotOwn {Hb:Hp} {σ:St} {H:Hp} {δ:Env} {O:Ow} (so:SO B Hb σ H δ O) {i:Nat} {ds:List D} (h:δ[i]? = some (.own (.list ds))):∃a xs,O i=some a/\σ[i]? = some (some (.ref a))/\H a=some (.lst xs)/\DenL B (hid H O) ds xs:=by
 have q:=so.slot i
 rw [h] at q
 simp only [JAK] at q
 obtain ⟨a,ds',xs,q1,q2,q3,q4,q5,q6⟩:=q
 cases q2
 cases xs with
 | lst xs=>exact ⟨a,xs,q1,q3,q4,q6⟩
 | _=>exact False.elim q6
theorem JOw (g:Gk X B C CX XX G) {a:Expr} {i:Nat} {nm:Str} {p1 ap cp:Pos} (hN:X.N[i]? = some nm) (hv:Vis X.env.scope nm) (hbn:JAR nm=false) (he:PE X a (RE B C XX x)) (hs:starEach [a] X.env=[(false,eval a X.env)]) (hl:(ap.endLine==cp.line)=true) :
  PS X (.Expr (.Call (.Attribute (.Name nm p1) "append" ap) [a] [] cp) pos) (RSt X B C XX (.app i x)):=by
 refine PS.imp (JI5 (pe_bm PySem.F.plainAttrs_list PySem.F.slot_list_append PySem.F.type_list_append JHa (JHp hN hv (JAI hbn).1 (JAI hbn).2.1) (JBS (JEP g he) JCZ hs) rfl (by rw [hs];rfl) hl hs rfl) rfl) fun De σ H ⟨δ,O,Hb,hb,so,kk⟩=>?_
 simp only [exec] at kk
 split at kk
 ·rename_i ds hd
  obtain ⟨l,xs,q1,q2,q3,q4⟩:=so.slotOwn hd
  refine ⟨_,q2,.inl ⟨rfl,xs,SqL.of q3⟩,δ,O,Hb,hb,so,?_⟩
  cases q:ev C x δ with
  | ok d =>
   rw [q] at kk
   intro v H' O' so' dn
   have kk:JDv X B XX Hb De (JBh i ds x d δ):=kk
   unfold JBh at kk
   split at kk
   ·rename_i hlen
    split at kk
    ·exact False.elim kk
    ·rename_i hu
     have ea:after x d δ=δ:=by unfold after;rw [if_neg hu]
     rw [ea] at so'
     obtain ⟨l',xs',r1,r2,r3,r4⟩:=so'.slotOwn hd
     rw [q2] at r2
     cases r2
     refine ⟨l,xs',v,rfl,rfl,r3,by rw [<-DenL.len ds xs' r4,sizeLine_eq];exact hlen,?_⟩
     exact kk _ _ O' (JMF so' r1 (DenL.append ds [d] xs' [v] r4 (by simp only [DenL];exact ⟨v,[],rfl,dn,rfl⟩)))
   ·exact False.elim kk
  | exc c=>rw [q] at kk;exact kk
  | bad=>rw [q] at kk;exact kk
 ·exact False.elim kk
end
theorem JD6 {G:List (Str×GK)} {n:Nat} {it:Bool} {names:List (Str×NameKind)} {N:List Str} {e:Expr} {x:E} (h:JAN G n it names N e=some x) (hc:JCr e=false) (t:Option Expr) (l:Nat) (env:PySem.Env):swapsWith e t l env=pure false:=by
 cases n with
 | zero=>simp [JAN,JAe,JAO] at h
 | succ n=>cases e<;>first | rfl | (simp [JAN,JAe,JAO,xOf,dOf,dRaw,Option.bind_none,ite_self,xRaw] at h;done) | cases hc
theorem JJG {G:List (Str×GK)} {n:Nat} {it:Bool} {names:List (Str×NameKind)} {N:List Str} {e:Expr} {x:E} (h:JAN G n it names N e=some x) (ts:List Expr) (k:Nat) (p:Pos) (l:Nat) (env:PySem.Env):swapsWithSole [.Tuple ts k p] e l env=pure false:=by
 cases n with
 | zero=>simp [JAN,JAe,JAO] at h
 | succ n=>cases e<;>first | rfl | (simp [JAN,JAe,JAO,xOf,dOf,dRaw,Option.bind_none,ite_self,xRaw] at h)
theorem JEw {e:Expr} (hc:isTup e=false) (ts:List Expr) (k:Nat) (p:Pos) (env:PySem.Env):swappedStores [.Tuple ts k p] e env=pure none:=by
 cases e<;>first | rfl | cases hc
theorem JDP {P:Prop} (h:false=true):P:=by cases h
theorem JFd {names:List (Str×NameKind)} {ts:List Expr} {e:Expr} (h:JER names ts e=true):∃nx px ny py a b k2 pt2,ts=[.Name nx px,.Name ny py]/\e=.Tuple [a,b] k2 pt2:=by
 rcases ts with _ | ⟨t1,_ | ⟨t2,_ | ⟨_,_⟩⟩⟩<;>try exact JDP h
 cases t1<;>try exact JDP h
 cases t2<;>try exact JDP h
 cases e<;>try exact JDP h
 rename_i es k p
 rcases es with _ | ⟨a,_ | ⟨b,_ | ⟨_,_⟩⟩⟩<;>try exact JDP h
 exact ⟨_,_,_,_,_,_,_,_,rfl,rfl⟩
theorem JEd {names:List (Str×NameKind)} {env:PySem.Env} {a b:Expr} {nx ny:Str} {px py pt pt2:Pos} {kt k2:Nat} (hk:env.scope.kind=.function) (hn:env.scope.names=names) (hs:∀es:List Expr,es=[a,b]->(es.any fun | .Starred ..=>true | _=>false)=false)
  (h:JER names [.Name nx px,.Name ny py] (.Tuple [a,b] k2 pt2)=true) :
  swappedStores [.Tuple [.Name nx px,.Name ny py] kt pt] (.Tuple [a,b] k2 pt2) env=pure (some [nx,ny])/\nx≠ny/\env.scope.names.lookup nx=some .local/\env.scope.names.lookup ny=some .local:=by
 simp only [JER,JPM,q_i,beq_iff_eq,Bool.not_eq_true',bne_iff_ne,ne_eq] at h
 obtain ⟨⟨⟨⟨⟨h1,h2⟩,h3⟩,h4⟩,h5⟩,h6⟩:=h
 have hb:env.blockKind=.function:=by unfold PySem.Env.blockKind;rw [hk];rfl
 have e1:env.kindOf nx=some .local:=by show env.scope.names.lookup nx=_;rw [hn];exact h1
 have e2:env.kindOf ny=some .local:=by show env.scope.names.lookup ny=_;rw [hn];exact h2
 refine ⟨?_,h4,e1,e2⟩
 have hst:=hs [a,b] rfl
 unfold swappedStores
 simp only [List.length_cons,List.length_nil,hb,List.head?_cons,Option.map_some,Option.getD_some,List.filterMap_cons,List.filterMap_nil,e1,e2]
 have l1:((Expr.Name nx px).pos).line=px.line:=rfl
 simp only [l1,h3,beq_self_eq_true,Bool.and_self,Bool.true_or,Bool.or_true,Bool.true_and,if_true,bne_self_eq_false,Bool.or_false,Bool.not_true,Bool.false_or,q_v,if_false,h5,h6,hst]
 have l2:([nx,ny]:List Str).eraseDups.length=2:=by
  have hne:(ny==nx)=false:=beq_eq_false_iff_ne.mpr (Ne.symm h4)
  simp [List.eraseDups_cons,List.filter_cons,hne,bne]
 have hst':∀q:Expr->Bool,([a,b].any q)=false->q a=false/\q b=false:=fun q h=>by simpa using h
 have hab:=hst' _ hst
 simp [l2]
 intro hz
 exfalso
 rcases hz with z | z
 ·have:=hab.1
  cases a<;>first | (cases z;done) | (cases this;done)
 ·have:=hab.2
  cases b<;>first | (cases z;done) | (cases this;done)
theorem JFu {e:Expr} (h:JDr e=true):∃es p,e=.List es p:=by
 cases e<;>first | exact ⟨_,_,rfl⟩ | cases h
theorem JKp {e:Expr} (h:JCr e=true):∃a b c p,e=.ListComp a b c p:=by
 cases e<;>first | exact ⟨_,_,_,_,rfl⟩ | cases h
section
variable {B:Bs} {C:Cn} {CX:CXT} {G:List (Str×GK)}
noncomputable def JLw (X:Cx) (B:Bs) (G:List (Str×GK)) (XX:Nat->Hp->Prop):Prop:=∀(nm:Str) (c:Nat) (m:Str) (j:Nat) (p1 p2 p3 pos:Pos),Gl X nm->JAR nm=false->G.lookup nm=some (.cls c) ->
 ∀(pins:List (Addr×Obj)) (s:Shared) (σ:St) (H:Hp) (D:Ends),Inv X pins σ H s->XX c H->wpAny (model X.prog X.w) X.A (PySem.exec (.Raise (some (.Call (.Name nm p1) [.Constant (.str m) j p2] [] p3)) none pos) X.env) (SP X pins D) X.xe s
noncomputable def atX (X:Cx) (A:Around) (pn:List (Addr×Obj)) (xe:Value->Shared->Prop) (calm:Bool):Cx:={ X with A:=A,pn:=pn,xe:=xe,calm:=calm }
noncomputable def Tries (X:Cx) (B:Bs) (C:Cn) (CX:CXT) (G:List (Str×GK)) (XX:Nat->Hp->Prop):Prop:=∀(body:List Stmt) (b:S) (cn en kn:Str) (c i j:Nat) (np p1 p2 p3 hpos pos:Pos),
 (∀(pn:List (Addr×Obj)) (xe:Value->Shared->Prop) (XX':Nat->Hp->Prop),PassesOwn (model X.prog X.w) X.A X.env xe->Gk (atX X X.A pn xe true) B C CX XX' G->PSs (atX X X.A pn xe true) body (RSt (atX X X.A pn xe true) B C XX' b)) ->
 Gl X cn->JAR cn=false->JAR en=false->G.lookup cn=some (.cls c)->X.N.Nodup->X.N[i]? = some en->X.env.scope.names.lookup en=some .local->X.N[j]? = some kn->Loc X.env.scope kn->i≠j ->
 PS X (.Try body [.ExceptHandler (some (.Name cn np)) (some en) [.Assign [.Name kn p1] (.Name en p2) p3] hpos] [] [] pos) (RSt X B C XX (.tryx b c i (.cons (.asg j (.var i)) .nil)))
theorem JDq {e c:Option Expr} {x:Str} (h:JF1 e c=some x):∃p1 m j p2 p3,e=some (.Call (.Name x p1) [.Constant (.str m) j p2] [] p3)/\c=none:=by
 rcases e with _ | e
 ·exact JAC h
 cases e<;>try exact JAC h
 rename_i f as ks p3
 cases f<;>try exact JAC h
 rename_i x' p1
 rcases as with _ | ⟨a,as⟩
 ·exact JAC h
 cases a<;>try exact JAC h
 rename_i k j p2
 cases k<;>try exact JAC h
 rcases as with _ | ⟨_,_⟩<;>try exact JAC h
 rcases ks with _ | ⟨_,_⟩<;>try exact JAC h
 rcases c with _ | c<;>try exact JAC h
 cases h;exact ⟨_,_,_,_,_,rfl,rfl⟩
theorem JFJ {hs:List ExceptHandler} {q:Str×Str×Str} (h:handOf hs=some q):∃np p1 p2 p3 hp,hs=[.ExceptHandler (some (.Name q.1 np)) (some q.2.1) [.Assign [.Name q.2.2 p1] (.Name q.2.1 p2) p3] hp]:=by
 rcases hs with _ | ⟨⟨ty,en,b,hp⟩,hs⟩
 ·exact JAC h
 rcases ty with _ | ty
 ·exact JAC h
 cases ty<;>try exact JAC h
 rename_i cn np
 rcases en with _ | en
 ·exact JAC h
 rcases b with _ | ⟨st,b⟩
 ·exact JAC h
 cases st<;>try exact JAC h
 rename_i ts v p3
 rcases ts with _ | ⟨t1,ts⟩
 ·exact JAC h
 cases t1<;>try exact JAC h
 rcases ts with _ | ⟨_,_⟩<;>try exact JAC h
 cases v<;>try exact JAC h
 rcases b with _ | ⟨_,_⟩<;>try exact JAC h
 rcases hs with _ | ⟨_,_⟩<;>try exact JAC h
 dsimp only [handOf] at h
 split at h
 ·rename_i e
  cases h
  subst e
  exact ⟨_,_,_,_,_,rfl⟩
 ·cases h
theorem JFY {e:Expr} {x m:Str} {a:Expr} (h:JHm e=some (x,m,a)):∃p1 ap cp,e=.Call (.Attribute (.Name x p1) m ap) [a] [] cp/\(ap.endLine==cp.line)=true:=by
 cases e<;>try exact JAC h
 rename_i f as ks cp
 cases f<;>try exact JAC h
 rename_i o m ap
 cases o<;>try exact JAC h
 rcases as with _ | ⟨a,_ | ⟨_,_⟩⟩<;>try exact JAC h
 rcases ks with _ | ⟨_,_⟩<;>try exact JAC h
 dsimp only [JHm] at h
 split at h
 ·rename_i e
  cases h
  exact ⟨_,_,_,rfl,e⟩
 ·cases h
theorem JGv {e:Expr} {x:Str} {a b:Expr} (h:JN6 e=some (x,a,b)):∃p1 ap cp,e=.Call (.Attribute (.Name x p1) "insert" ap) [a,b] [] cp/\(ap.endLine==cp.line)=true:=by
 cases e<;>try exact JAC h
 rename_i f as ks cp
 cases f<;>try exact JAC h
 rename_i o m ap
 cases o<;>try exact JAC h
 rcases as with _ | ⟨a,_ | ⟨b,_ | ⟨_,_⟩⟩⟩<;>try exact JAC h
 rcases ks with _ | ⟨_,_⟩<;>try exact JAC h
 dsimp only [JN6] at h
 split at h
 ·rename_i e
  cases h
  obtain ⟨e1,e2⟩:=e
  subst e2
  exact ⟨_,_,_,rfl,e1⟩
 ·cases h
theorem JHC {e:Expr} (h:docOf e=true):∃y j p,e=.Constant (.str y) j p:=by
 unfold docOf at h
 split at h
 ·exact ⟨_,_,_,rfl⟩
 ·cases h
theorem JEn {ts:List Expr} {x:Str} (h:JHG ts=some (.inl x)):∃p,ts=[.Name x p]:=by
 unfold JHG at h
 split at h
 ·cases h;exact ⟨_,rfl⟩
 ·cases h
 ·cases h
theorem JEW {ts us:List Expr} (h:JHG ts=some (.inr us)):∃k p,ts=[.Tuple us k p]:=by
 unfold JHG at h
 split at h
 ·cases h
 ·cases h;exact ⟨_,_,rfl⟩
 ·cases h
theorem JGw {e:Expr} {es:List Expr} (h:JM6 e=some es):∃k p,e=.Tuple es k p:=by
 unfold JM6 at h
 split at h
 ·cases h;exact ⟨_,_,rfl⟩
 ·cases h
theorem JCJ {X:Cx} {XX:Nat->Hp->Prop} {f:Stmt->Option S} (ih:∀st t,f st=some t->PS X st (RSt X B C XX t)):∀ {sts:List Stmt} {t:S},JAk f sts=some t->PSs X sts (RSt X B C XX t)
 | [],t,h=>by unfold JAk at h;cases h;exact JQ5
 | st::r,t,h=>by
  unfold JAk at h
  obtain ⟨a,h1,h⟩:=q_a.mp h
  obtain ⟨b,h2,h⟩:=q_a.mp h
  cases h
  exact JNW (ih st a h1) (JCJ ih h2)
theorem JFS {X:Cx} {XX:Nat->Hp->Prop} (ra:Rare B C CX G) (g:Gk X B C CX XX G) (hf:G.lookup (".dict":Str)=some GK.opt) {st:Stmt} {t:S} (h:PS X st (RSt X B C XX t)):∀(N:List Str) (i:Nat) (y:E),PS X st (RSt X B C XX (preF G N i y t))
 | [],_,_=>h
 | x::r,i,y=>by
  unfold preF
  split
  ·exact (ra.dop hf).frz X XX g st _ i (JFS ra g hf h r (i+1) y)
  ·exact JFS ra g hf h r (i+1) y
theorem JIy {X:Cx} {XX:Nat->Hp->Prop} (ra:Rare B C CX G) (g:Gk X B C CX XX G) {st:Stmt} {t:S} {names:List (Str×NameKind)} {N:List Str} {y:E} (h:PS X st (RSt X B C XX t)):PS X st (RSt X B C XX (pre G names N y t)):=by
 unfold pre
 split
 ·exact JFS ra g (JHj (by assumption)) h N 0 y
 ·exact h
theorem JHt {names:List (Str×NameKind)} {e:Expr} {q:XO×List Expr} (h:dRaw G names false e=some q) (t:Option Expr) (l:Nat) (env:PySem.Env):swapsWith e t l env=pure false:=by
 cases e<;>first | rfl | exact JAC h
theorem JG2 {ts:List Expr} {q:Str×Expr} (h:JN9 ts=some q):∃p1 p2,ts=[.Subscript (.Name q.1 p1) q.2 p2]/\isSlice q.2=false:=by
 rcases ts with _ | ⟨t,ts⟩
 ·exact JAC h
 cases t<;>try exact JAC h
 rename_i o k p2
 cases o<;>try exact JAC h
 rcases ts with _ | ⟨_,_⟩<;>try exact JAC h
 dsimp only [JN9] at h
 split at h
 ·cases h
 ·rename_i hs
  cases h
  exact ⟨_,_,rfl,by simpa using hs⟩
structure RareS (B:Bs) (C:Cn) (CX:CXT) (G:List (Str×GK)):Prop where
 dsp:G.lookup (".dsp":Str)=some GK.opt->∀(X:Cx) (XX:Nat->Hp->Prop) (n:Nat) (names:List (Str×NameKind)) (N:List Str),Gk X B C CX XX G->(∀e x,JAN G n false names N e=some x->PE X e (RE B C XX x))->X.env.scope.kind=.function->X.env.scope.names=names->X.N=N->N.Nodup->(∀nm,X.fn nm=true\/X.env.scope.names.lookup nm≠some .cell) ->
  ∀(ts es:List Expr) (is:List Nat) (k k2:Nat) (pt pt2 pos:Pos) (q:E×Option Nat),slots names N ts=some is->is.Nodup->JLq names ts es=true->JNE (JAN G n false names N) es is=some q->PS X (.Assign [.Tuple ts k pt] (.Tuple es k2 pt2) pos) (RSt X B C XX (unpO is q.1 q.2))
 ext:G.lookup (".ext":Str)=some GK.opt->∀(X:Cx) (XX:Nat->Hp->Prop),Gk X B C CX XX G->∀(x:E) (a:Expr) (i:Nat) (nm:Str) (p1 ap cp pos:Pos),X.N[i]? = some nm->Vis X.env.scope nm->JAR nm=false->(PE X a (REF B C XX x)\/PE X a (RE B C XX x))->starEach [a] X.env=[(false,eval a X.env)]->(ap.endLine==cp.line)=true ->
  PS X (.Expr (.Call (.Attribute (.Name nm p1) "extend" ap) [a] [] cp) pos) (RSt X B C XX (.ext i x))
 ins:G.lookup (".ins":Str)=some GK.opt->∀(X:Cx) (XX:Nat->Hp->Prop),Gk X B C CX XX G->∀(x:E) (a b:Expr) (i:Nat) (nm:Str) (p1 ap cp pos:Pos),X.N[i]? = some nm->Vis X.env.scope nm->JAR nm=false->PA X [a,b] (RA B C XX x)->starEach [a,b] X.env=[(false,eval a X.env),(false,eval b X.env)]->starEach [b] X.env=[(false,eval b X.env)]->(ap.endLine==cp.line)=true ->
  PS X (.Expr (.Call (.Attribute (.Name nm p1) "insert" ap) [a,b] [] cp) pos) (RSt X B C XX (.ins i x))
theorem JIF (ra:Rare B C CX G) (rr:RareS B C CX G):∀(n:Nat) (X:Cx) (XX:Nat->Hp->Prop) (names:List (Str×NameKind)) (N:List Str) (zz:Bool),Gk X B C CX XX G->X.env.scope.kind=.function->X.env.scope.names=names->X.N=N->N.Nodup ->
  PassesOwn (model X.prog X.w) X.A X.env X.xe->(∀nm,X.fn nm=true)->(zz=true->JLw X B G XX)->(zz=true->G.lookup (".try":Str)=some GK.opt->Tries X B C CX G XX)->∀(st:Stmt) (t:S),JCg G n zz names N st=some t->PS X st (RSt X B C XX t)
 | 0,X,XX,names,N,zz,g,hk,hn,hN,hnd,hpo,hfn,hr,ht,st,t,h=>JAC h
 | n+1,X,XX,names,N,zz,g,hk,hn,hN,hnd,hpo,hfn,hr,ht,st,t,h=>by
  have ih:=JIF ra rr n X XX names N zz g hk hn hN hnd hpo hfn hr ht
  obtain ⟨ihE,ihI⟩:=sound ra n X XX names N g hk hn hN hnd
  cases st with
  | Pass p=>cases h;exact JNT
  | Break p=>cases h;exact JRD
  | Continue p=>cases h;exact JO4
  | Return e p =>
   cases e with
   | none=>cases h;exact JND
   | some e =>
    dsimp only [JCg,JB7] at h
    obtain ⟨x,hx,e'⟩:=q_d.mp h
    subst e'
    exact JIy ra g (JOT g (ihE e x hx).1)
  | If c a b p =>
   dsimp only [JCg,JB7] at h
   obtain ⟨z,hz,h⟩:=q_a.mp h
   obtain ⟨x,hx,h⟩:=q_a.mp h
   obtain ⟨y,hy,h⟩:=q_a.mp h
   cases h
   exact JIy ra g (JQG g (ihE c z hz).2 (JCJ ih hx) (JCJ ih hy))
  | While c body orelse p =>
   cases orelse with
   | cons a b=>exact JAC h
   | nil =>
    dsimp only [JCg,JB7] at h
    obtain ⟨z,hz,h⟩:=q_a.mp h
    obtain ⟨x,hx,h⟩:=q_a.mp h
    cases h
    exact JPn g hpo (ihE c z hz).2 (JCJ ih hx)
  | For tg iter body orelse p =>
   cases orelse with
   | cons a b=>exact JAC h
   | nil =>
    dsimp only [JCg,JB7] at h
    split at h
    ·rename_i nm ht
     obtain ⟨p2,e2⟩:=JEn ht
     cases e2
     obtain ⟨i,hi,h⟩:=q_a.mp h
     obtain ⟨x,hx,h⟩:=q_a.mp h
     obtain ⟨b,hb,h⟩:=q_a.mp h
     cases h
     obtain ⟨q1,q2⟩:=slot_of hn hN hi
     exact JMu g hpo (ihI _ iter x hx) (JCJ ih hb) (by rw [hN];exact hnd) q1 q2 (.inl (hfn nm)) (JBm hx X.env)
    ·rename_i ts ht
     obtain ⟨k,p2,e2⟩:=JEW ht
     cases e2
     obtain ⟨is,hi,h⟩:=q_a.mp h
     obtain ⟨x,hx,h⟩:=q_a.mp h
     obtain ⟨b,hb,h⟩:=q_a.mp h
     cases h
     cases hxx:xT G names iter with
     | none =>
      rw [hxx] at hx
      exact JIN g hpo (ihI _ iter x hx) (JCJ ih hb) hn hN hnd (fun nm=>.inl (hfn nm)) hi (JBm hx X.env)
     | some q =>
      rw [hxx] at hx
      obtain ⟨y,hy,rfl⟩:=q_d.mp hx
      obtain ⟨q1,q2⟩:=JD9 hxx
      exact JIN g hpo ((ra.xop q.1 q2).tgt X XX g ts k p2 iter q.2 y (by rw [hn];exact q1) (allA g (fun a x h=>(ihE a x h).1) hy) (JCx hy) (JAT hy)) (JCJ ih hb) hn hN hnd (fun nm=>.inl (hfn nm)) hi (JFg hxx X.env)
    ·cases h
  | Raise exc cause p =>
   dsimp only [JCg,JB7] at h
   obtain ⟨nm,hr0,h9⟩:=q_a.mp h
   clear h
   obtain ⟨p1,m,j,p2,p3,rfl,rfl⟩:=JDq hr0
   have h:=h9
   clear h9
   split at h
   ·rename_i c hg
    split at h
    case isFalse=>cases h
    rename_i hz
    cases h
    obtain ⟨g1,g2,g3⟩:=JAy hg
    intro pins s σ H D I ⟨δ,O,Hb,hb,so,k⟩
    simp only [exec] at k
    exact hr hz nm c m j p1 p2 p3 p (JBR hn g2) g1 g3 pins s σ H D I (g.anti c Hb H so.same k)
   ·cases h
  | Assign ts e p =>
   have hfn':∀nm,X.fn nm=true\/X.env.scope.names.lookup nm=some .local:=fun nm=>.inl (hfn nm)
   dsimp only [JCg,JB7] at h
   split at h
   ·rename_i nm ht
    obtain ⟨p1,rfl⟩:=JEn ht
    obtain ⟨i,hi,h⟩:=q_a.mp h
    cases hd:dFr G names e with
    | some q =>
     rw [hd] at h
     obtain ⟨y,hy,rfl⟩:=q_d.mp h
     obtain ⟨r,hd1,hd2⟩:=q_a.mp hd
     split at hd2
     case isFalse=>cases hd2
     rename_i hk2
     cases hd2
     obtain ⟨hd1,hfl⟩:=JGE hd1
     obtain ⟨q1,q2⟩:=slot_of hn hN hi
     exact JFK g ((ra.dop hfl).own X XX g e _ _ y (by rw [hn];exact hd1) hk2 (pes (fun a x h=>(ihE a x h).1) hy) (JCx hy)) (by cases hk3:q.1<;>rw [hk3] at hk2<;>first | rfl | cases hk2) (by rw [hN];exact hnd) q1 q2 (JHt hd1 _ _ _) (hfn' nm)
    | none =>
    rw [hd] at h
    obtain ⟨y,hy,h⟩:=q_a.mp h
    split at h
    ·cases h
    ·rename_i hc
     cases h
     refine JIy ra g ?_
     obtain ⟨q1,q2⟩:=slot_of hn hN hi
     have hnd':X.N.Nodup:=by rw [hN];exact hnd
     by_cases h1:JDr e=true
     ·obtain ⟨es,p2,rfl⟩:=JFu h1
      have hf:y.fresh=true:=by
       cases n with
       | zero=>simp [JAN,JAe,JAO] at hy
       | succ n =>
        simp only [JAN,JAe,JAO,xOf,dOf,dRaw,Option.bind_none,ite_self,xRaw,Option.bind_none] at hy
        split at hy
        ·obtain ⟨z,_,e'⟩:=q_d.mp hy
         subst e';rfl
        ·cases hy
      exact JFK g (JEf ra g hk hn hN hnd hy) hf hnd' q1 q2 rfl (hfn' nm)
     ·by_cases h2:JCr e=true
      ·obtain ⟨elt,gens,sc,p2,rfl⟩:=JKp h2
       obtain ⟨target,iter,ifs,xs,k,y1,z1,w1,e1,e2,bk,hi2,hs2,hrun⟩:=JI1 ra g hk hn hN hnd hy
       subst e1;subst e2
       cases hb:(X.env.blockKind==.function&&X.env.kindOf nm==some .local&&p1.line==(Expr.ListComp elt [⟨target,iter,ifs,0⟩] sc p2).pos.line&&!(sc.names.any fun (n,k)=>n==nm&&(k==.local || k==.cell))) with
       | true =>
        have hsw:swapsWith (.ListComp elt [⟨target,iter,ifs,0⟩] sc p2) (some (.Name nm p1)) p.line X.env=pure true:=by rw [<-hb];rfl
        have hloc:X.env.scope.names.lookup nm=some .local:=by
         simp only [q_i,beq_iff_eq] at hb
         exact hb.1.1.2
        exact JNj g (JJm g bk hi2 hs2 hrun hsw hnd' q1 hloc) rfl
       | false =>
        have hsw:swapsWith (.ListComp elt [⟨target,iter,ifs,0⟩] sc p2) (some (.Name nm p1)) p.line X.env=pure false:=by rw [<-hb];rfl
        exact JFK g (JDG g bk hi2 hs2 hrun) rfl hnd' q1 q2 hsw (hfn' nm)
      ·have hf:y.fresh=false:=by
        cases hz:y.fresh with
        | false=>rfl
        | true=>exact absurd ⟨hz,by simpa using h1,by simpa using h2⟩ hc
       exact JQO g (ihE e y hy).1 hf hnd' q1 q2 (JD6 hy (by simpa using h2) _ _ _) (hfn' nm)
   ·rename_i ts ht
    obtain ⟨k,pt,rfl⟩:=JEW ht
    obtain ⟨is,hi,h⟩:=q_a.mp h
    split at h
    ·rename_i hc
     obtain ⟨y,hy,e'⟩:=q_d.mp h
     subst e'
     by_cases ht:isTup e=true
     ·have hp:JER names ts e=true:=by
       rcases hc.2 with z | z
       ·rw [ht] at z;cases z
       ·exact z
      obtain ⟨nx,px,ny,py,a,b,k2,pt2,e7,e8⟩:=JFd hp
      subst e7;subst e8
      ·skip
       obtain ⟨w1,w2,w3,w4⟩:=JEd (env:=X.env) (kt:=k) (pt:=pt) hk hn (fun es e=>by
        subst e
        cases n with
        | zero=>simp [JAN,JAe,JAO] at hy
        | succ n =>
         simp only [JAN,JAe,JAO,xOf,dOf,dRaw,Option.bind_none,ite_self,xRaw,Option.bind_none] at hy
         split at hy
         ·obtain ⟨z,hz,_⟩:=q_d.mp hy
          unfold JAJ at hz
          obtain ⟨z1,hz1,hz⟩:=q_a.mp hz
          obtain ⟨z2,hz2,hz⟩:=q_a.mp hz
          unfold JAJ at hz2
          obtain ⟨z3,hz3,hz2⟩:=q_a.mp hz2
          have t1:∀ {e:Expr} {x:E},JAN G n false names N e=some x->(match e with | .Starred ..=>true | _=>false)=false:=by
           intro e x h
           cases e<;>first | rfl | (cases n<;>simp [JAN,JAe,JAO,xOf,dOf,dRaw,Option.bind_none,ite_self,xRaw] at h)
          simp only [List.any_cons,List.any_nil,t1 hz1,t1 hz3,Bool.or_self,Bool.or_false]
         ·cases hy) hp
       simp only [slots] at hi
       obtain ⟨i,hi1,hi⟩:=q_a.mp hi
       obtain ⟨js,hi2,hi⟩:=q_a.mp hi
       obtain ⟨j,hi3,hi2⟩:=q_a.mp hi2
       simp only [Option.bind_some,q_j] at hi2
       subst hi2
       cases hi
       have hy':=hy
       cases n with
       | zero=>simp [JAN,JAe,JAO] at hy
       | succ n =>
        simp only [JAN,JAe,JAO,xOf,dOf,dRaw,Option.bind_none,ite_self,xRaw,Option.bind_none] at hy
        split at hy
        ·obtain ⟨z,hz,e'⟩:=q_d.mp hy
         subst e'
         have hij:i≠j:=by
          have:=of_decide_eq_true hc.1
          simp at this
          exact this
         exact JRM g (allA g (fun e x h=>((sound ra n X XX names N g hk hn hN hnd).1 e x h).1) hz) (by rw [hN];exact hnd) (slot_of hn hN hi1).1 (slot_of hn hN hi3).1 hij w3 w4 w1
        ·cases hy
     ·exact JOY g (ihE e y hy).1 hn hN hnd (fun nm=>.inl (hfn nm)) hi (JJG hy _ _ _ _ _) (JEw (by simpa using ht) _ _ _ _)
    ·obtain ⟨es,he,h9⟩:=q_a.mp h
     clear h
     obtain ⟨k2,pt2,rfl⟩:=JGw he
     split at h9
     case isFalse=>cases h9
     rename_i hc
     obtain ⟨q,hq,rfl⟩:=q_d.mp h9
     exact rr.dsp hc.2 X XX n names N g (fun e x h=>((sound ra n X XX names N g hk hn hN hnd).1 e x h).1) hk hn hN hnd (fun nm=>.inl (hfn nm)) ts es is k k2 pt pt2 p q hi (of_decide_eq_true hc.1.1) hc.1.2 hq
   ·obtain ⟨q,hq,h9⟩:=q_a.mp h
    clear h
    split at h9
    case isFalse=>cases h9
    rename_i hc
    obtain ⟨p1,p2,hts,hsl⟩:=JG2 hq
    subst hts
    obtain ⟨i,hi,h9⟩:=q_a.mp h9
    obtain ⟨y,hy,h9⟩:=q_a.mp h9
    obtain ⟨z,hz,h9⟩:=q_a.mp h9
    cases h9
    obtain ⟨q1,q2⟩:=slot_of hn hN hi
    exact (ra.dop (JHj hc.1)).put X XX g q.1 i p1 p2 p q.2 e z y q1 (by
     rcases q2 with k | k
     ·exact .inl k
     ·exact .inr (.inl k)) hc.2.1 hsl (ihE e y hy).1 (ihE q.2 z hz).1 fun t l=>JD6 hy hc.2.2 t l X.env
  | Expr e p =>
   dsimp only [JCg,JB7] at h
   split at h
   ·rename_i nm m a hm
    obtain ⟨p1,ap,cp,rfl,hc1⟩:=JFY hm
    split at h
    ·rename_i hc2
     have JEy:∀ {i},slot names N nm=some i->Vis X.env.scope nm:=fun hi=>by
      rcases (slot_of hn hN hi).2 with k | k
      ·exact .inl k
      ·exact .inr (.inl k)
     split at h
     ·rename_i hm
      subst hm
      obtain ⟨i,hi,h⟩:=q_a.mp h
      obtain ⟨y,hy,e'⟩:=q_d.mp h
      subst e'
      exact JOw g (slot_of hn hN hi).1 (JEy hi) hc2 (ihE a y hy).1 (JAY hy [] _) hc1
     ·split at h
      ·rename_i hm
       obtain ⟨⟨hm,hl⟩,hfl⟩:=hm
       subst hm
       obtain ⟨i,hi,h⟩:=q_a.mp h
       obtain ⟨y,hy,e'⟩:=q_d.mp h
       subst e'
       by_cases hl2:JDr a=true
       ·obtain ⟨es,p2,rfl⟩:=JFu hl2
        exact rr.ext hfl X XX g y _ i nm p1 ap cp p (slot_of hn hN hi).1 (JEy hi) hc2 (.inl (JEf ra g hk hn hN hnd hy)) (JAY hy [] _) hc1
       ·exact rr.ext hfl X XX g y a i nm p1 ap cp p (slot_of hn hN hi).1 (JEy hi) hc2 (.inr (ihE a y hy).1) (JAY hy [] _) hc1
      ·cases h
    ·cases h
   ·split at h
    ·rename_i nm a b hm
     obtain ⟨p1,ap,cp,rfl,hc1⟩:=JGv hm
     split at h
     ·rename_i hc2
      obtain ⟨i,hi,h⟩:=q_a.mp h
      obtain ⟨y,hy,e'⟩:=q_d.mp h
      subst e'
      have vs:Vis X.env.scope nm:=by
       rcases (slot_of hn hN hi).2 with k | k
       ·exact .inl k
       ·exact .inr (.inl k)
      have s1:=JCx hy a (by simp) [b] X.env
      have s2:=JCx hy b (by simp) [] X.env
      have s3:starEach ([]:List Expr) X.env=[]:=rfl
      rw [s3] at s2
      rw [s2] at s1
      exact rr.ins hc2.2 X XX g y a b i nm p1 ap cp p (slot_of hn hN hi).1 vs hc2.1 (allA g (fun e x h=>((sound ra n X XX names N g hk hn hN hnd).1 e x h).1) hy) s1 s2 hc1
     ·cases h
    ·split at h
     ·rename_i hd
      obtain ⟨y,j,p2,rfl⟩:=JHC hd
      cases h
      exact JQ7
     ·split at h
      ·cases h
      ·rename_i hc
       obtain ⟨y,hy,e'⟩:=q_d.mp h
       subst e'
       exact JOH g (ihE e y hy).1 (JD6 hy (by simpa using hc) _ _ _)
  | Try body hs orelse fin p =>
   cases orelse with
   | cons a b=>exact JAC h
   | nil =>
    cases fin with
    | cons a b=>exact JAC h
    | nil =>
     dsimp only [JCg,JB7] at h
     obtain ⟨⟨cn,en,kn⟩,hq,h9⟩:=q_a.mp h
     clear h
     obtain ⟨np,p1,p2,p3,hp,rfl⟩:=JFJ hq
     have h:=h9
     clear h9 hq
     simp only at h ⊢
     split at h
     case isFalse=>cases h
     rename_i hc
     obtain ⟨hz,ho,hb,hl⟩:=hc
     split at h
     case h_2=>cases h
     rename_i c hg
     obtain ⟨b,hbb,h⟩:=q_a.mp h
     obtain ⟨i,hi,h⟩:=q_a.mp h
     obtain ⟨j,hj,h⟩:=q_a.mp h
     split at h
     case isTrue=>cases h
     rename_i hij
     cases h
     obtain ⟨g1,g2,g3⟩:=JAy hg
     have hie:slot names N en=some i:=by unfold slot;rw [hl];exact hi
     refine ht hz ho _ _ _ _ _ _ _ _ _ _ _ _ _ _ (fun pn xe XX' po gk=>?_) (JBR hn g2) g1 hb g3 (by rw [hN];exact hnd) (slot_of hn hN hie).1 (by rw [hn];exact hl) (slot_of hn hN hj).1 (slot_of hn hN hj).2 hij
     exact JCJ (JIF ra rr n (atX X X.A pn xe true) XX' names N false gk hk hn hN hnd po hfn (fun z=>by cases z) (fun z=>by cases z)) hbb
  | _=>exact JAC h
end
structure Turned (G:List (Str×GK)) (st:Stmt) (N ps:List Str) (fd:Fd):Prop where
 comp:JAk (JCg G 60 true (JAV st).names N) (JA1 st)=some fd.body
 sc:FnScope N ps (JAV st)
 par:fd.par=ps.length
 slots:fd.slots=N.length
structure DefAt (K:PySem.W.Frag) (mg:Str->Option Value) (G:List (Str×GK)) (x:Str) (fd:Fd):Prop where
 ex:∃f fo st N ps,mg x=some (.ref f)/\Fun K x x st f fo/\Binds K fo ps []/\Turned G st N ps fd
theorem JGs {N:List Str} {ds:List D} {vs:List V} {B:Bs} {H:Hp} {m:Nat} (h:DenL B H ds vs) (hl:N.length=m) (hv:vs.length<=m):SO B H (start N vs) H (ds.map Sl.val++List.replicate (m - ds.length) Sl.no) (fun _=>none):=by
 have hlen:=DenL.len ds vs h
 refine ⟨?_,Same.refl H,(fun i j a e=>by cases e),fun i=>?_⟩
 ·simp only [L2.start,q_u,q_g,List.length_replicate];omega
 ·have hh:hid H (fun _=>none)=H:=by
   funext b
   unfold hid hidP
   rw [if_neg]
   rintro ⟨i,e⟩
   cases e
  by_cases hi:i<ds.length
  ·rw [q_C (by simpa using hi),List.getElem?_map]
   obtain ⟨d,hd⟩:∃d,ds[i]? = some d:=⟨_,q_q hi⟩
   obtain ⟨v,hv,dn⟩:=DenL.get ds vs i d h hd
   rw [hd]
   refine ⟨rfl,v,?_,by rw [hh];exact dn⟩
   unfold L2.start
   rw [q_C (by rw [q_g];omega),List.getElem?_map,hv]
   rfl
  ·rw [List.getElem?_append_right (by simpa using hi),List.getElem?_replicate]
   split
   ·rfl
   ·rfl
section
variable {B:Bs} {G:List (Str×GK)} {tab:Nat->Option Fd} {glo:Nat->R D} {sub:Nat->Nat->Bool}
theorem JNu {x:Bool} {n i:Nat} {ds:List D} (h:run x tab glo sub n i ds≠.bad):∃fd,tab i=some fd/\ds.length=fd.par:=by
 cases n with
 | zero=>exact absurd rfl h
 | succ n =>
  unfold run at h
  cases e:tab i with
  | none=>rw [e] at h;exact absurd rfl h
  | some fd =>
   have h:JFO x ⟨run x tab glo sub n,glo,sub⟩ fd ds≠.bad:=by rw [e] at h;exact h
   refine ⟨fd,rfl,?_⟩
   unfold JFO at h
   by_cases hl:ds.length=fd.par
   ·exact hl
   ·rw [if_neg hl] at h
    exact absurd rfl h
noncomputable def JNZ (K:PySem.W.Frag):Sp:=fun vs H Q E=>∃(a:Addr) (ns:List Int),vs=[.ref a]/\ns.length<=63/\SqL K H a (ns.map V.int)/\∀H',Q (.bl true) H'
theorem JGA {H:Hp}:∀ns:List Int,DenL B H (ns.map fun i=>PyData.int i) (ns.map V.int)
 | []=>by simp only [List.map_nil,DenL]
 | n::ns=>by
  simp only [List.map_cons,DenL]
  exact ⟨_,_,rfl,by simp only [Den],JGA ns⟩
end
structure FnIn (K:PySem.W.Frag) (x:Str) (st:Stmt):Prop where
 ex:∃(f:Addr) (oc:Value) (od an:Option Addr) (sl:Array (Option Value)) (kV dc pm cd ct:Value),PySem.W.nsIn K mainGlobals x=some (some (.ref f)) /\
  K.lookup f=some ⟨oc,od,.func (PySem.W.fnOf x x (JBI st) (JA1 st) (JAV st) .none kV dc pm an cd ct),sl⟩/\PySem.W.codeIn K cd x=true/\PySem.W.keepIn K (.ref f)=true
theorem fn_in {K:PySem.W.Frag} {x:Str} {st:Stmt} {f:Addr} {oc:Value} {od an:Option Addr} {sl:Array (Option Value)} {kV dc pm cd ct:Value} (a:PySem.W.nsIn K mainGlobals x=some (some (.ref f)))
  (l:K.lookup f=some ⟨oc,od,.func (PySem.W.fnOf x x (JBI st) (JA1 st) (JAV st) .none kV dc pm an cd ct),sl⟩) (c:PySem.W.codeIn K cd x=true) (k:PySem.W.keepIn K (.ref f)=true):FnIn K x st :=
 ⟨f,oc,od,an,sl,kV,dc,pm,cd,ct,a,l,c,k⟩
noncomputable def JAF (x:Str) (st:Stmt) (ps:List Str):Prop:=∀(kV doc pm:Value) (an:Option Addr) (cdv ct:Value) (us:List Value),us.length=ps.length->bindArgs (PySem.W.fnOf x x (JBI st) (JA1 st) (JAV st) .none kV doc pm an cdv ct) ⟨us,[]⟩=pure (ps.zip us)
theorem FnIn.at {K:PySem.W.Frag} {h:Heap} {mg:Str->Option Value} {G:List (Str×GK)} {x:Str} {st:Stmt} {N ps:List Str} {fd:Fd} (F:FnIn K x st) (X:K.In h) (Gm:h.Ns mainGlobals mg) (b:JAF x st ps) (T:Turned G st N ps fd):DefAt K mg G x fd:=by
 obtain ⟨f,oc,od,an,sl,kV,dc,pm,cd,ct,a,l,c,k⟩:=F.ex
 have Fn:=JLN (st:=st) l c k
 exact ⟨f,_,st,N,ps,PySem.W.mg_of X Gm a,Fn,Fn.binds b,T⟩
noncomputable def AllP (P:Str->GK->Prop):List (Str×GK)->Prop
 | []=>True
 |(x,k)::r=>P x k/\AllP P r
theorem AllP.get {P:Str->GK->Prop}:∀ {G:List (Str×GK)} {x:Str} {k:GK},AllP P G->G.lookup x=some k->P x k
 | [],x,k,_,h=>by cases h
 |(y,j)::r,x,k,⟨h1,h2⟩,h=>by
  rw [List.lookup_cons] at h
  by_cases e:(x==y)=true
  · rw [e] at h
    have e':x=y:=by simpa using e
    cases h
    subst e'
    exact h1
  · have e':(x==y)=false:=by simpa using e
    rw [e'] at h
    exact AllP.get h2 h
theorem JHM {o:Expr} (h:JBe o=false) (nm:Str) (env:PySem.Env) (m:Sem Value):attributeBase o nm env m=m:=by
 cases o with
 | Call f as ks p =>
  cases as with
  | nil =>
   cases ks with
   | nil=>cases h
   | cons k ks=>cases f<;>rfl
  | cons a as=>cases f<;>rfl
 | _=>rfl
section
variable {X:Cx} {B:Bs} {C:Cn} {CX:CXT} {XX:Nat->Hp->Prop} {G:List (Str×GK)}
end
noncomputable def TrAt (h:Heap) (e T:Addr) (cls:Value):Prop:=∃oe vs a0 oT ts,h.get? e=some oe/\(oe.cls=cls/\vs[0]? = some a0)/\oe.data=.fields vs/\vs[1]? = some (.ref T)/\T≠e/\h.get? T=some oT/\oT.data=.fields ts/\ts[3]? = some .none
noncomputable def CXV (P:Program) (w:World) (B:Bs):CXT:=fun outer H s E e s'=>∃(ea T:Addr) (c:Nat) (H':Hp),e=.ref ea/\s'.os=s.os/\AllBare s'.gens/\Un (frs outer) [] H H' s.heap s'.heap/\HOk P w H' s'.heap /\
 TrAt s'.heap ea T (.ref (B.cl c))/\(s.heap.get? ea=none/\H' ea=none)/\(s.heap.get? T=none/\H' T=none)/\E (.ref (B.cl c)) none H'
theorem JGD {P:Program} {w:World} {H:Hp} {h:Heap} {a:Addr} {o:HO} (x:HOk P w H h) (q:H a=some o):∃u,h.get? a=some u:=by
 have:=x a o q
 cases o with
 | lst xs=>obtain ⟨_,_,_,_,e⟩:=this;exact ⟨_,e⟩
 | tup xs=>obtain ⟨_,_,_,_,e,_⟩:=this;exact ⟨_,e⟩
 | dK kvs=>obtain ⟨_,_,_,_,_,_,_,e,_⟩:=this;exact ⟨_,e⟩
 | dT kvs=>obtain ⟨_,_,_,_,_,_,_,e,_⟩:=this;exact ⟨_,e⟩
 | set S n=>obtain ⟨_,_,_,_,e,_⟩:=this;exact ⟨_,e⟩
 | ins C dx fs=>obtain ⟨_,_,_,e,_⟩:=this;exact ⟨_,e⟩
 | own y=>exact this
 | xd fs=>obtain ⟨_,⟨_,_,_,e,_⟩,_⟩:=this;exact ⟨_,e⟩
 | rng lo hi=>obtain ⟨_,_,_,e⟩:=this;exact ⟨_,e⟩
 | frz ob u=>exact ⟨_,this.1⟩
 | tbl ps=>exact ⟨_,this⟩
 | met f y=>exact ⟨_,this⟩
 | ext φ=>exact this.2.1
theorem JJ3 {P:Program} {w:World} {H:Hp} {h:Heap} {a:Addr} (x:HOk P w H h) (q:h.get? a=none):H a=none:=by
 cases z:H a with
 | none=>rfl
 | some o =>
  obtain ⟨u,e⟩:=JGD x z
  rw [q] at e;cases e
section
variable {X:Cx} {pins:List (Addr×Obj)} {σ:St} {H':Hp} {s1:Shared} {h2:Heap}
theorem JDk (I:Inv X pins σ H' s1) (up:s1.heap.UpToSlots h2) {b:Addr} (hb:b∈frs X.stack):∃o,h2.get? b=some o/\∀vs,o.data≠.fields vs:=by
 obtain ⟨_,o,ho,hd⟩:=I.stack.mem hb
 obtain ⟨sl,hs⟩:=up b o ho hd
 exact ⟨_,hs,hd⟩
theorem JMX (I:Inv X pins σ H' s1) (hex:X.ex=[]) {as:List Addr} (has:∀b∈as,b∈frs X.stack\/(X.s₀.heap.get? b=none/\H' b=none)) {ea:Addr} {cls a0:Value} {l:List PySem.Env}
  (fl:Heap.FlyingW (PySem.W.hideAll s1.heap as) l ea cls a0 h2) (up:s1.heap.UpToSlots h2) :
  Un X.fs [] X.H₀ H' X.s₀.heap h2/\HOk X.prog X.w H' h2/\∃T,TrAt h2 ea T cls/\X.s₀.heap.get? T=none/\H' T=none:=by
 obtain ⟨st,fe,ff,oe,vs,T,oT,ts,q1,q2,q3,q4,q5,q6,q7,q8,q9⟩:=fl
 have U:=I.base
 rw [hex] at U
 have sub:∀b∈X.fs,b∈frs X.stack:=fun b hb=>by
  rcases I.ok.stk with e | ⟨e,hf⟩
  · rw [e];exact hb
  · rw [e]
    unfold frs
    rw [List.filterMap_cons,hf]
    exact q_s _ hb
 have loc:∀b o,X.s₀.heap.get? b=some o->b ∉ X.fs->b ∉ frs X.stack:=fun b o e n z=>by
  rcases q_n.mp (I.stkSub b z) with q | q
  · rw [q] at e
    exact absurd (q_h e) (Nat.not_lt.mpr I.ok.above)
  · exact n q
 have out:∀b o,X.s₀.heap.get? b=some o->b ∉ frs X.stack->b ∉ as:=fun b o e n z=>by
  rcases has b z with q | ⟨q,_⟩
  · exact n q
  · rw [q] at e;cases e
 have keep:∀b o,s1.heap.get? b=some o->b ∉ as->h2.get? b=some o:=fun b o e n=>st b o (PySem.W.hideAll_get _ e n)
 have trk:∀b o,H' b=some o->b ∉ as:=fun b o e z=>by
  rcases has b z with q | ⟨_,q⟩
  · rw [I.stkFree b q] at e;cases e
  · rw [q] at e;cases e
 refine ⟨⟨fun b o e n hf hx=>keep b o (U.keep b o e n hf hx) (out b o e (loc b o e hf)),fun b o e n hf hx=>?_,U.free,fun b o e hx=>?_,U.tups,U.frzs,U.tbls⟩,fun a o e=>?_,T,⟨oe,vs,a0,oT,ts,q1,q2,q3,q4,q6,q7,q8,q9⟩,?_,?_⟩
 ·obtain ⟨sl,e1⟩:=U.slot b o e n hf hx
  obtain ⟨_,o',ho',hd'⟩:=I.stack.mem (sub b hf)
  rw [e1] at ho'
  cases ho'
  obtain ⟨sl',e2⟩:=up b _ e1 hd'
  exact ⟨sl',e2⟩
 ·obtain ⟨o',e1⟩:=U.there b o e hx
  by_cases hb:b∈frs X.stack
  · obtain ⟨o2,e2,_⟩:=JDk I up hb
    exact ⟨o2,e2⟩
  · exact ⟨o',keep b o' e1 (out b o e hb)⟩
 ·refine (I.hok a o e).stay (fun b u hb eb=>keep b u eb ?_) (fun _ q=>q) fun _ _ q=>q
  rcases hb with rfl | hb
  · exact trk _ _ e
  · exact trk _ _ hb
 ·cases q:X.s₀.heap.get? T with
  | none=>rfl
  | some o =>
    exfalso
    obtain ⟨o',e1⟩:=U.there T o q (by simp)
    by_cases hb:T∈frs X.stack
    ·obtain ⟨o2,e2,hd⟩:=JDk I up hb
     rw [q7] at e2;cases e2
     exact hd _ q8
    ·have:=PySem.W.hideAll_get as e1 (out T o q hb)
     rw [q5] at this;cases this
 ·cases q:H' T with
  | none=>rfl
  | some o =>
    exfalso
    have hl:=(I.hok T o q).lt
    have hn:=trk T o q
    obtain ⟨u,e⟩:=JGD I.hok q
    have:=PySem.W.hideAll_get as e hn
    rw [q5] at this;cases this
end
section
variable {P:Program} {w:World} {B:Bs} {mg:Str->Option Value} {base:Heap} {N:List Str} {qual:Str} {scope:Scope} {f:Addr} {cd:Value} {A:Around} {outer:List PySem.Env} {s:Shared} {H:Hp} {E:XK}
abbrev XXd (B:Bs) (E:XK):Nat->Hp->Prop:=fun c H1=>∀H',Same H1 H'->E (.ref (B.cl c)) none H'
theorem JMl:JEo (CXV P w B) (cxOf (CXV P w B) P w B.K mg base N qual scope f cd A outer s H E) (EX B (XXd B E)):=by
 intro pins σ H1 s1 e s' I ⟨ea,T,c,H',e1,os,bare,un,hok,tr,⟨f1,f2⟩,⟨f3,f4⟩,⟨c',ec,hE⟩⟩
 subst e1
 have I':=I.call' (ch:=[]) os un hok bare (fun b hb=>by simp at hb)
 obtain ⟨oe,vs,a0,oT,ts,q1,q2,q3,q4,q6,q7,q8,q9⟩:=id tr
 have fr0:∀b,s1.heap.get? b=none->s.heap.get? b=none:=fun b q=>by
  cases z:s.heap.get? b with
  | none=>rfl
  | some o =>
   obtain ⟨o',e2⟩:=I.base.there b o z (by simp [cxOf])
   rw [q] at e2;cases e2
 have has:∀b∈(ea::T::frs (cxOf (CXV P w B) P w B.K mg base N qual scope f cd A outer s H E).stack),b∈frs (cxOf (CXV P w B) P w B.K mg base N qual scope f cd A outer s H E).stack\/(s.heap.get? b=none/\H' b=none):=fun b hb=>by
  rcases q_n.mp hb with rfl | hb
  ·exact .inr ⟨fr0 _ f1,f2⟩
  ·rcases q_n.mp hb with rfl | hb
   ·exact .inr ⟨fr0 _ f3,f4⟩
   ·exact .inl hb
 refine PySem.wpAny_leaves_onW (base:=PySem.W.hideAll s'.heap (ea::T::frs (cxOf (CXV P w B) P w B.K mg base N qual scope f cd A outer s H E).stack)) (outer:=outer) (cls:=.ref (B.cl c)) (a0:=a0) I'.ok.frames rfl
  ⟨fun b o q=>PySem.W.of_hideAll _ q,PySem.W.hideAll_none _ (by simp),PySem.W.funFrames_hide I'.stack (fun env he a hf=>q_s _ (q_s _ (List.mem_filterMap.mpr ⟨env,he,hf⟩))),oe,vs,T,oT,ts,q1,q2,q3,q4,PySem.W.hideAll_none _ (by simp),q6,q7,q8,q9⟩ fun h2 fl up=>?_
 obtain ⟨u2,hok2,T2,tr2,t1,t2⟩:=JMX I' rfl has fl up
 refine ⟨ea,T2,c,H',rfl,?_,bare,u2,hok2,tr2,⟨fr0 _ f1,f2⟩,⟨t1,t2⟩,?_⟩
 ·exact os.trans I.os
 ·rw [ec];exact hE H' (Same.refl H')
theorem JOK:∀(outer:List PySem.Env) (H:Hp) (s:Shared) (e:Value) (s':Shared),¬CXV P w B outer H s (EX B fun _ _=>False) e s':=by
 rintro outer H s e s' ⟨ea,T,c,H',_,_,_,_,_,_,_,_,c',_,z⟩
 exact z
end
abbrev bmV:List Value:=[.type "ValueError",.type "Exception",.type "BaseException",.type "object"]
theorem JN8 {K:PySem.W.Frag} {h:Heap} {C:Addr} {bmB:List Value} {newId:String} (X:K.In h) (q:PySem.W.excIn K C bmB newId=true) :
  ∃(bm:List Value) (N:Addr) (nm qn:Str) (bs:List Value) (hdct:Bool) (sn:List Str) (sub:List Value) (ab:Bool) (col:Option Bool) (dd:Option Addr) (k0 k1 k2 k3 k5:Option Value) (mN:Str->Option Value),
   h.get? C=some (excClassObj nm qn C N bs bm hdct sn sub ab col dd k0 k1 k2 k3 k5 newId)/\h.Ns N mN/\mN "__init__"=none/\OwnTail h bmB bm:=by
 unfold PySem.W.excIn at q
 split at q
 case h_2=>cases q
 rename_i od cdat slots hlook
 split at q
 case h_2=>cases q
 rename_i C2 tl a0 a1 a2 a3 idn a5 hmro hsl
 simp only [q_i,beq_iff_eq,Bool.not_eq_true'] at q
 obtain ⟨⟨⟨⟨⟨e1,e2⟩,e3⟩,e4⟩,e5⟩,e6⟩:=q
 subst e1;subst e2
 cases cdat with
 | mk nm bs mro ns qn hd sn sub ab col del =>
  simp only at hmro e3 e5 e6
  subst hmro;subst e3
  cases slots with
  | mk l =>
   simp only at hsl
   subst hsl
   exact ⟨tl,ns,nm,qn,bs,hd,sn,sub,ab,col,od,a0,a1,a2,a3,a5,_,X _ _ hlook,.of_isNs (PySem.W.isNs_of_in X e5),PySem.W.nsMap_none_of_in X e5 e6,PySem.W.tail_of_in X e4⟩
section
variable {P:Program} {w:World} {B:Bs} {mg:Str->Option Value} {base:Heap} {N:List Str} {qual:Str} {scope:Scope} {f:Addr} {cd:Value} {A:Around} {outer:List PySem.Env} {s:Shared} {H:Hp} {E:XK} {G:List (Str×GK)}
structure Cl (mg:Str->Option Value) (B:Bs) (G:List (Str×GK)):Prop where
 mgc:∀x c,G.lookup x=some (.cls c)->mg x=some (.ref (B.cl c))
 exc:∀x c,G.lookup x=some (.cls c)->∃Bn inN bmN newId,ExcBaseFacts Bn newId inN bmN/\bmV.contains (.type Bn)=true/\PySem.W.excIn B.K (B.cl c) bmV newId=true
theorem JGp (cl:Cl mg B G) (hA:A.handled=none):JLw (cxOf (CXV P w B) P w B.K mg base N qual scope f cd A outer s H E) B G (XXd B E):=by
 intro nm c m j p1 p2 p3 pos hg hb hl pins s1 σ H1 D I hx
 obtain ⟨Bn,inN,bmN,newId,Fn,hBn,q⟩:=cl.exc nm c hl
 obtain ⟨bm,N',nm',qn,bs,hdct,sn,sub,ab,col,dd,k0,k1,k2,k3,k5,mN,hC,hN,hni,TL⟩:=JN8 I.kIn q
 refine wpAny_Raise_call_subU (C:=B.cl c) (nm:=nm') (q:=qn) (N:=N') (bs:=bs) (bm:=bm) (hdct:=hdct) (sn:=sn) (sub:=sub) (ab:=ab) (col:=col) (dd:=dd) (k0:=k0) (k1:=k1) (k2:=k2) (k3:=k3) (k5:=k5)
  Fn hBn PySem.F.excBase_ValueError (mN:=mN) (TL.hasType PySem.F.excBase_ValueError.hasBase) hA rfl hni (JFm I hg (cl.mgc nm c hl) ⟨rfl,?_⟩ (JAI hb).1)
 refine Calls.evalArgs_plain (Calls.spliced_cons (Calls.Constant_str (k:=j) (pos:=p2) (Calls.spliced_nil ⟨rfl,(show (1:Nat)<=sizeLine by decide),hC,hN,TL,fun h' e hx'=>?_⟩)))
 have none0:s.heap.get? e=none:=by
  cases z:s.heap.get? e with
  | none=>rfl
  | some o =>
    obtain ⟨o',e2⟩:=I.base.there e o z (by simp [cxOf])
    have:=hx'.new
    rw [e2] at this;cases this
 refine PySem.wpAny_leaves_madeW (base:=PySem.W.hideAll s1.heap (frs (cxOf (CXV P w B) P w B.K mg base N qual scope f cd A outer s H E).stack)) (outer:=outer) I.ok.frames rfl (fun b o q=>PySem.W.of_hideAll _ q)
  (PySem.W.funFrames_hide I.stack (fun env he a hf=>List.mem_filterMap.mpr ⟨env,he,hf⟩)) hx' fun h2 t x1 x2 x3 x4=>?_
 obtain ⟨u2,hok2,T2,tr2,t1,t2⟩:=JMX I rfl (fun b hb=>.inl hb) x1 ((Heap.UpToSlots.of_keeps hx'.keeps).trans x4)
 exact ⟨e,T2,c,H1,rfl,I.os,I.bare,u2,hok2,tr2,⟨none0,JJ3 I.hok hx'.new⟩,⟨t1,t2⟩,hx H1 (Same.refl H1)⟩
end
section
variable {X:Cx} {pins pins' pn:List (Addr×Obj)} {σ:St} {H:Hp} {s:Shared} {A:Around} {xe:Value->Shared->Prop} {calm:Bool} {h2:Heap}
end
section
variable {X:Cx} {B:Bs} {C:Cn} {XX:Nat->Hp->Prop} {G:List (Str×GK)}
noncomputable def TryOk (B:Bs) (C:Cn) (G:List (Str×GK)):Prop:=∀(X:Cx) (XX:Nat->Hp->Prop),Gk X B C (CXV X.prog X.w B) XX G->X.stack=X.env::X.outer->X.env.frame=some X.env.locals->X.ex=[]->X.N.Nodup->(∀nm,X.fn nm=true)->X.A.handled=none ->
 ∀(body:List Stmt) (b:S) (cn en kn:Str) (c i j:Nat) (np p1 p2 p3 hpos pos:Pos),(∀(pn:List (Addr×Obj)) (xe:Value->Shared->Prop) (XX':Nat->Hp->Prop),PassesOwn (model X.prog X.w) X.A X.env xe->Gk (atX X X.A pn xe true) B C (CXV X.prog X.w B) XX' G->PSs (atX X X.A pn xe true) body (RSt (atX X X.A pn xe true) B C XX' b)) ->
 Gl X cn->X.mg cn=some (.ref (B.cl c))->JAR cn=false->JAR en=false->(∀k,C.sub k c=true->PySem.W.exmOne B.K (.ref (B.cl k)) (.ref (B.cl c))=some true)->X.N[i]? = some en->X.env.scope.names.lookup en=some .local->X.N[j]? = some kn->Loc X.env.scope kn->i≠j ->
 PS X (.Try body [.ExceptHandler (some (.Name cn np)) (some en) [.Assign [.Name kn p1] (.Name en p2) p3] hpos] [] [] pos) (RSt X B C XX (.tryx b c i (.cons (.asg j (.var i)) .nil)))
end
section
variable {B:Bs} {G:List (Str×GK)} {tab:Nat->Option Fd} {glo:Nat->R D} {sub:Nat->Nat->Bool}
structure Mo (mg:Str->Option Value) (B:Bs) (G:List (Str×GK)) (tab:Nat->Option Fd) (glo:Nat->R D) (sub:Nat->Nat->Bool):Prop where
 fn:∀x i,G.lookup x=some (.fn i)->∃fd,tab i=some fd/\DefAt B.K mg G x fd
 con:∀x i d,G.lookup x=some (.con i)->glo i=.ok d->∃u v,mg x=some u/\RelV v u/\∀H,Den B H d v
 noexg:∀i c,glo i≠.exc c
 blt:∀x b,G.lookup x=some (.blt b)->mg x=none
 rng:∀x,G.lookup x=some .rng->mg x=none
 isi:∀x,G.lookup x=some .isi->mg x=none
 ty:∀x t,G.lookup x=some (.ty t)->mg x=none
 nam:∀x,G.lookup x=some .nam->mg x=none
 cl:Cl mg B G
 exm:∀x c,G.lookup x=some (.cls c)->∀k,sub k c=true->PySem.W.exmOne B.K (.ref (B.cl k)) (.ref (B.cl c))=some true
structure Ra3 (B:Bs) (C:Cn) (G:List (Str×GK)) (P:Program) (w:World):Prop where
 ra:Rare B C (CXV P w B) G
 rr:RareS B C (CXV P w B) G
 tr:G.lookup (".try":Str)=some GK.opt->TryOk B C G
theorem JPq {P:Program} {w:World} (hw:w=B.w) {mg:Str->Option Value} {base:Heap} (M:Mo mg B G tab glo sub) (ra:∀n,Ra3 B ⟨run true tab glo sub n,glo,sub⟩ G P w) {n i:Nat} {x:Str} {f:Addr} {fo:FuncData} {st:Stmt} {N ps:List Str} {fd:Fd}
  (ih:∀(y:Str) (j:Nat),G.lookup y=some (.fn j)->∃f fd ps,mg y=some (.ref f)/\PySem.W.keepIn B.K (.ref f)=true/\FnOk P w B.K mg base (CXV P w B) n f fd ps (JCX B ps.length (run true tab glo sub n j))/\Binds B.K fd ps []/\∀ds,run true tab glo sub n j ds≠.bad->ds.length=ps.length)
  (F:Fun B.K x x st f fo) (T:Turned G st N ps fd) (ht:tab i=some fd):FnOk P w B.K mg base (CXV P w B) (n+1) f fo ps (JCX B ps.length (run true tab glo sub (n+1) i)):=by
 obtain ⟨oc,od,kV,doc,pm,an,cdv,ct,osl,rfl,lk,hcd⟩:=F.ex
 refine JQ2 lk hcd T.sc (fun vs H Q E q=>q.1) fun A outer s H vs Q E hr q=>?_
 obtain ⟨hl,ds,dn,q⟩:=q
 have hA:A.handled=none:=hr.hd
 have g:Gk (cxOf (CXV P w B) P w B.K mg base N x (JAV st) f cdv A outer s H E) B ⟨run true tab glo sub n,glo,sub⟩ (CXV P w B) (XXd B E) G:={
  K:=rfl
  W:=hw
  anti:=fun c H1 H2 sm z H' s'=>z H' (sm.trans s')
  units:=by have:=hr.un;show (A.deeper _).units+200<_;omega
  calm:=rfl
  fn:=fun y j hy=>by
    obtain ⟨f',fd',ps',w1,w2,w3,w4,w5⟩:=ih y j hy
    exact ⟨f',fd',ps',n,w1,w2,w3,hr,w4,w5⟩
  pas:=JMl
  con:=M.con
  noexg:=M.noexg
  blt:=M.blt
  rng:=M.rng
  isi:=M.isi
  ty:=M.ty
  cls:=M.cl.mgc
  nam:=M.nam }
 have hs:=JIF (ra n).ra (ra n).rr 60 _ _ _ _ true g T.sc.kind rfl rfl T.sc.nd PassesOwn.leaving (fun _=>rfl) (fun _=>JGp M.cl hA)
  (fun _ hfl body b cn en kn c i j np p1 p2 p3 hpos pos hbody hgl hbn hben hlk hnd hi hle hj hlj hij =>
    (ra n).tr hfl _ _ g rfl rfl rfl hnd (fun _=>rfl) hA body b cn en kn c i j np p1 p2 p3 hpos pos hbody hgl (M.cl.mgc cn c hlk) hbn hben (fun k hk=>M.exm cn c hlk k hk) hi hle hj hlj hij)
 refine ⟨_,JCJ hs T.comp,?_⟩
 have hlen:=DenL.len ds vs dn
 have hN:N.length=fd.slots:=T.slots.symm
 have hpl:ps.length<=N.length:=by have:=congrArg List.length T.sc.pre;rw [List.length_take] at this;omega
 refine ⟨_,_,H,Same.refl H,JGs dn rfl (by omega),?_⟩
 unfold run at q
 rw [ht] at q
 simp only [JFO] at q
 rw [if_pos (by rw [T.par];omega)] at q
 rw [show fd.slots - fd.par=N.length - ds.length by rw [T.slots,T.par];omega] at q
 split at q
 ·rename_i r d hd
  split at hd
  · rename_i δ he
    cases hd
    rw [he]
    exact fun σ' H' O' so'=>q .non H' so'.same (by simp only [Den])
  · rename_i d' he
    cases hd
    rw [he]
    exact fun v H' sm dn'=>q v H' sm dn'
  · simp at hd
  · cases hd
 ·rename_i r c hd
  split at hd
  · cases hd
  · cases hd
  · rename_i c' he
    simp only [if_true,R.exc.injEq] at hd
    subst hd
    rw [he]
    exact q
  · cases hd
 ·exact q.elim
theorem fns {P:Program} {w:World} (hw:w=B.w) {mg:Str->Option Value} {base:Heap} (M:Mo mg B G tab glo sub) (ra:∀n,Ra3 B ⟨run true tab glo sub n,glo,sub⟩ G P w):∀(n:Nat) (x:Str) (i:Nat),G.lookup x=some (.fn i) ->
  ∃f fd ps,mg x=some (.ref f)/\PySem.W.keepIn B.K (.ref f)=true/\FnOk P w B.K mg base (CXV P w B) n f fd ps (JCX B ps.length (run true tab glo sub n i))/\Binds B.K fd ps []/\∀ds,run true tab glo sub n i ds≠.bad->ds.length=ps.length
 | 0,x,i,h=>by
  obtain ⟨fd,ht,⟨f,fo,st,N,ps,e1,F,bi,T⟩⟩:=M.fn x i h
  refine ⟨f,fo,ps,e1,F.kp,⟨fun vs H Q E q=>q.1,fun A outer s H args us vs Q E hr he hb hv ⟨_,ds,_,q⟩=>?_⟩,bi,fun ds q=>absurd rfl q⟩
  exact False.elim q
 | n+1,x,i,h=>by
  obtain ⟨fd,ht,⟨f,fo,st,N,ps,e1,F,bi,T⟩⟩:=M.fn x i h
  refine ⟨f,fo,ps,e1,F.kp,JPq hw M ra (fns hw M ra n) F T ht,bi,fun ds q=>?_⟩
  obtain ⟨fd',h1,h2⟩:=JNu q
  rw [ht] at h1
  cases h1
  rw [h2,T.par]
theorem JRa {P:Program} {w:World} (hw:w=B.w) {mg:Str->Option Value} {base:Heap} (M:Mo mg B G tab glo sub) (ra:∀n,Ra3 B ⟨run true tab glo sub n,glo,sub⟩ G P w) {x:Str} {i:Nat} {f:Addr} {fo:FuncData} {st:Stmt} {N ps:List Str} {fd:Fd}
  (F:Fun B.K x x st f fo) (T:Turned G st N ps fd) (ht:tab i=some fd):∀n,FnOk P w B.K mg base (CXV P w B) n f fo ps (JCX B ps.length (run true tab glo sub n i))
 | 0=>⟨fun vs H Q E q=>q.1,fun A outer s H args us vs Q E hr he hb hv ⟨_,ds,_,q⟩=>False.elim q⟩
 | n+1=>JPq hw M ra (fns hw M ra n) F T ht
theorem JQe {P:Program} {w:World} {mg:Str->Option Value} {base:Heap} {f:Addr} {fd:FuncData} {ps:List Str} {n:Nat} {r:List D->R D} (F:FnOk P w B.K mg base (CXV P w B) n f fd ps (JCX B ps.length r)) (hp:ps.length=1)
  (h:∀ns:List Int,ns.length<=63->r [.list (ns.map fun i=>PyData.int i)]=.ok (.bool true)):FnOk P w B.K mg base CX0 n f fd ps (JNZ B.K):=by
 refine ⟨fun vs H Q E ⟨a,ns,e,_⟩=>by subst e;rw [hp];rfl,fun A outer s H args us vs Q E hr he hb hv ⟨a,ns,e,hl,hS,k⟩=>?_⟩
 subst e
 refine codeAny_mono (F.run A outer s H args us [.ref a] Q (fun _ _ _=>False) hr he hb hv ⟨by rw [hp];rfl,[.list (ns.map fun i=>PyData.int i)],?_,?_⟩) fun r s' z=>?_
 ·simp only [DenL]
  exact ⟨_,_,rfl,by simp only [Den];exact ⟨a,_,rfl,hS,JGA ns⟩,rfl⟩
 ·rw [h ns hl]
  intro v H' sm dn
  simp only [Den] at dn
  subst dn
  exact k H'
 ·cases r with
  | ok v=>cases v<;>exact z
  | error e =>
    obtain ⟨ea,T,c,H',_,_,_,_,_,_,_,_,z⟩:=z
    exact z
theorem JQS {P:Program} {w:World} {K:PySem.W.Frag} {h:Heap} {mg:Str->Option Value} {cl:Nat->Addr} {fa:Addr} {st:Stmt} {N:List Str} {x:Str} {fd:Fd} {i n:Nat}
  (X:K.In h) (Gm:h.Ns mainGlobals mg) (hfa:mg "law"=some (.ref fa)) (F:FnIn K "law" st) (T:Turned G st N [x] fd) (hb:JAF "law" st [x]) (hl:G.lookup ("law":Str)=some (.fn i)) (ht:tab i=some fd)
  (M:∀base:Heap,K.In base->base.Ns mainGlobals mg->Mo mg ⟨K,cl,w⟩ G tab glo sub) (ra:∀n,Ra3 ⟨K,cl,w⟩ ⟨run true tab glo sub n,glo,sub⟩ G P w)
  (hbind:∀(kV doc pm:Value) (an:Option Addr) (cdv ct:Value) (s:Shared) (u:Value),BindsTo s (PySem.W.fnOf "law" "law" (JBI st) (JA1 st) (JAV st) .none kV doc pm an cdv ct) ⟨[u],[]⟩ [(x,u)])
  (ok:∀ns:List Int,ns.length<=63->run true tab glo sub n i [.list (ns.map fun i=>PyData.int i)]=.ok (.bool true)) :
  ∃fo:FuncData,(∀(s:Shared) (u:Value),BindsTo s fo ⟨[u],[]⟩ [(x,u)])/\∀base:Heap,K.In base->base.Ns mainGlobals mg->FnOk P w K mg base CX0 n fa fo [x] (JNZ K):=by
 obtain ⟨f,oc,od,an,sl,kV,dc,pm,cd,ct,a,l,c,k⟩:=F.ex
 have e:=hfa.symm.trans (PySem.W.mg_of X Gm a)
 cases e
 refine ⟨PySem.W.fnOf "law" "law" (JBI st) (JA1 st) (JAV st) .none kV dc pm an cd ct,fun s u=>hbind kV dc pm an cd ct s u,fun base kb nb=>?_⟩
 have:=JRa (P:=P) (w:=w) (base:=base) (B:=⟨K,cl,w⟩) rfl (M base kb nb) ra (JLN (st:=st) l c k) T ht n
 exact JQe this rfl ok
end
end VI
end
section
namespace VI
open PySem PySem.Spec PyProof.Rows L2 Builtin Builtin.ObjectAttr Builtin.Getset_descriptor
structure ExcK (K:PySem.W.Frag) (C:Addr):Prop where
 ga:PySem.W.findIn K (.ref C) "__getattribute__"=some (some (.builtin "BaseException.__getattribute__"))
 gh:PySem.W.findIn K (.ref C) "__getattr__"=some none
 cl:PySem.W.findIn K (.ref C) "__class__"=some (some (.builtin "object.__class__"))
 ob:PySem.W.mroIn K C (.type "object")=some true
 bx:PySem.W.mroIn K C (.type "BaseException")=some true
 gt:PySem.W.specialIn K (.builtin "object.__class__") "__get__"=some (some (.builtin "getset_descriptor.__get__"))
 st:PySem.W.takesIn K (.builtin "object.__class__")=some true
section
variable {K:PySem.W.Frag} {a C:Addr} {prog:Program} {w:World} {A:Around} {s:Shared}
theorem JCl {M:Model} {h:Heap} (p:ExcAt a C h):PySem.W.Looks M h (typeOf (.ref a)) (.ref C):=by
 obtain ⟨o,h1,h2⟩:=p
 rw [<-h2]
 exact (PySem.W.Looks.ld h1).andThen .now
theorem JIz {M:Model} {h:Heap} {nm:Str} {d g:Value} (X:K.In h) (h1:PySem.W.findIn K (.ref C) nm=some (some d)) (h2:PySem.W.specialIn K d "__get__"=some (some g)) (h3:PySem.W.takesIn K d=some true) :
   PySem.W.Looks M h (find (.ref a) (.ref C) nm) (.bind g d) :=
 (PySem.W.looks_findIn X h1).andThen ((show PySem.W.Looks M h (getOf (some d)) (some g) from PySem.W.looks_specialIn X h2).andThen
   ((show PySem.W.Looks M h (dataDescriptor? (some d) (some g)) (some (g,d)) from (PySem.W.looks_takesIn X h3).andThen .now).andThen (PySem.W.Looks.tag .now)))
theorem JNP {R:Result->Shared->Prop} {tp:Value} (X:K.In s.heap) (p:ExcAt a C s.heap) (hm:PySem.W.mroIn K C (.type "object")=some true) (h:R (.ok (.ret (.ref C))) s) :
  codeAny (model prog w) A (.call (.builtin "getset_descriptor.__get__") ⟨[.builtin "object.__class__",.ref a,tp],[]⟩) R s:=by
 obtain ⟨hp,gs,dn,tk,os⟩:=s
 have q0:=JCl (M:=model prog w) p
 have q1:=PySem.W.looks_mroIn (M:=model prog w) X hm
 refine codeAny_call_builtin PySem.W.KF.slot_gs.plain PySem.W.KF.entry_gs (PySem.W.KF.slot_gs.check _ _ _ _ _ _ _ _ PySem.W.KF.type_class (PySem.W.KF.args_gs _ _ _) ?_)
 unfold Builtin.«getset_descriptor.__get__» descrGet;rw [PySem.W.dga_obj];refine q_b (q_e ?_)
 unfold descrGetter descrCheckInstance descrNameAndClass isInstance;simp only [PySem.W.KF.owner_class];repeat lk
 refine ⟨Code.quiet_builtin _ (by decide +kernel),codeAny_builtin PySem.W.KF.entry_class ?_⟩
 unfold Builtin.«object.__class__» shownTypeOf;repeat lk
 exact h
theorem JK0 {nameV:Value} {E:Value->Shared->Prop} {Q:Unit->Shared->Prop} (F:ExcK K C) (X:K.In s.heap) (p:ExcAt a C s.heap) (h:Q () s):wpAny (model prog w) A (checkBuiltinCall "BaseException.__getattribute__" ⟨[.ref a,nameV],[]⟩) Q E s:=by
 obtain ⟨hp,gs,dn,tk,os⟩:=s
 have q:PySem.W.Looks (model prog w) hp (isInstance (.ref a) (.type "BaseException")) true:=(JCl p).andThen (PySem.W.looks_mroIn X F.bx)
 have k1:builtinKind "BaseException.__getattribute__"=some .slot:=by decide +kernel
 have k2:splitId "BaseException.__getattribute__"=some ("BaseException","__getattribute__"):=by decide +kernel
 have ha:=PySem.F.args_bexc_ga (.ref a) nameV
 simp only [checkBuiltinCall,k1,k2]
 refine q_b (q.at ?_)
 repeat (first | exact h | wp_step)
theorem JIJ {E:Value->Shared->Prop} {Q:Option Value->Shared->Prop} (F:ExcK K C) (X:K.In s.heap) (p:ExcAt a C s.heap) (h:Q (some (.ref C)) { s with toks:=s.toks+1 }) :
  wpAny (model prog w) A (getAttr? (.ref a) "__class__") Q E s:=by
 obtain ⟨hp,gs,dn,tk,os⟩:=s
 have q0:=JCl (M:=model prog w) p
 have q1:=PySem.W.looks_findIn (M:=model prog w) X F.ga
 have q2:=PySem.W.looks_findIn (M:=model prog w) X F.gh
 have q3:=JIz (M:=model prog w) (a:=a) X F.cl F.gt F.st
 have B:=PySem.F.attr_ValueError.ga
 unfold getAttr? getAttrBy? getAttrBy
 refine q_b (wpAny_mkText (q_b (wpAny_attempt (wpAny_holding (q_b (q0.at (q_b (q1.at ?_))))))))
 show wpAny _ _ (getAttrByItsOwn _ _ _ _ _ _) _ _ _
 refine q_b (q2.at (q_b (wpAny_attempt (wpAny_holding ?_))))
 show wpAny _ _ (boundAndCalled _ _ _) _ _ _
 unfold boundAndCalled
 rw [B.bind]
 refine q_b (q_e (wpAny_call (codeAny_call_builtin B.plain PySem.F.entry_bexc_ga (JK0 F X p ?_))))
 refine q_b (q_e (q_b (q_e (q_b (q0.at (q_b (q3.at ?_)))))))
 show wpAny _ _ (holding [Value.builtin "object.__class__"] (call (.builtin "getset_descriptor.__get__") [Value.builtin "object.__class__",.ref a,.ref C]) >>= ret) _ _ _
 refine q_b (wpAny_holding (wpAny_call (JNP X p F.ob (q_e ?_))))
 show wpAny _ _ (handedOut (.ref C)) _ _ _
 exact PySem.W.handed_on rfl (q_e h)
theorem JF0 (F:ExcK K C):PySem.W.KitX K (.ref a) (.ref C) (ExcAt a C) where
 ty:=fun M h _ p=>JCl p
 it:=fun M h X _=>by
  obtain ⟨cd,e1,_⟩:=q_a.mp F.ob
  unfold PySem.W.clsIn at e1
  split at e1
  ·rename_i ho
   intro A' Q' E' s' k q
   unfold isType loadHead
   exact q_b (wpAny_loadPart (k _ _ (X _ _ ho)) (q_e q))
  ·cases e1
 ne:=fun h tp dd its n sl X ht=>by
  obtain ⟨cd,e1,_⟩:=q_a.mp F.ob
  refine Bool.eq_false_iff.mpr fun q=>?_
  have e:C=tp:=Value.ref.inj (beq_iff_eq.mp q)
  subst e
  unfold PySem.W.clsIn at e1
  split at e1
  ·rename_i ho
   have z:=(X _ _ ho).symm.trans ht
   cases z
  ·cases e1
 ca:=fun X p k=>JIJ F X p k
end
noncomputable def nmOf:Ty->String
 | .int=>"int"
 | .bool=>"bool"
 | .str=>"str"
 | .list=>"list"
 | .tuple=>"tuple"
 | .dict=>"dict"
 | .valueError=>"ValueError"
 | .own _=>""
theorem JMm {ty:Ty} {t:Str} (h:JA9 ty=some t):bootBuiltins t=some (.type (nmOf ty)):=by
 cases ty<;>simp only [JA9,q_j,reduceCtorEq] at h<;>subst h<;>boot_by_name
section
variable {K:PySem.W.Frag}
theorem JQM {ty:Ty} (h:(JA9 ty).isSome=true):PySem.W.kitOne K (.type "NoneType") (.type (nmOf ty))=some false:=by
 cases ty<;>first | (cases h;done) | kernel_rfl
theorem JNf {ty:Ty} (h:(JA9 ty).isSome=true):PySem.W.kitOne K (.type "bool") (.type (nmOf ty))=some (ty==.int || ty==.bool):=by
 cases ty<;>first | (cases h;done) | kernel_rfl
theorem JQE {ty:Ty} (h:(JA9 ty).isSome=true):PySem.W.kitOne K (.type "int") (.type (nmOf ty))=some (ty==.int):=by
 cases ty<;>first | (cases h;done) | kernel_rfl
theorem JPu {ty:Ty} (h:(JA9 ty).isSome=true):PySem.W.kitOne K (.type "str") (.type (nmOf ty))=some (ty==.str):=by
 cases ty<;>first | (cases h;done) | kernel_rfl
theorem JN1 {ty:Ty} (h:(JA9 ty).isSome=true):PySem.W.kitOne K (.type "list") (.type (nmOf ty))=some (ty==.list):=by
 cases ty<;>first | (cases h;done) | kernel_rfl
theorem JJa {ty:Ty} (h:(JA9 ty).isSome=true):PySem.W.kitOne K (.type "tuple") (.type (nmOf ty))=some (ty==.tuple):=by
 cases ty<;>first | (cases h;done) | kernel_rfl
theorem ko_of {C:Addr} {T:String} (h:PySem.W.kitOne K (.type "NoneType") (.ref C)=some false) (hs:PySem.W.subIn K (.type T) (.ref C)=some false):PySem.W.kitOne K (.type T) (.ref C)=some false:=by
 have n1:∀T:String,((Value.type T)==Value.ref C)=false:=fun T=>rfl
 unfold PySem.W.kitOne PySem.W.kitCls at h ⊢
 rw [n1] at h ⊢
 simp only [q_v,if_false] at h ⊢
 split at h
 ·rename_i z
  rw [if_pos z];exact hs
 ·cases h
theorem JMp {C:Addr}:PySem.W.subIn K (.type "bool") (.ref C)=some false:=by kernel_rfl
theorem JOu {C:Addr}:PySem.W.subIn K (.type "int") (.ref C)=some false:=by kernel_rfl
theorem JQI {C:Addr}:PySem.W.subIn K (.type "str") (.ref C)=some false:=by kernel_rfl
theorem JN7 {C:Addr}:PySem.W.subIn K (.type "list") (.ref C)=some false:=by kernel_rfl
theorem JKy {C:Addr}:PySem.W.subIn K (.type "tuple") (.ref C)=some false:=by kernel_rfl
end
structure Isi (B:Bs) (G:List (Str×GK)) (sub:Nat->Nat->Bool):Prop where
 own:∀x c,G.lookup x=some (.cls c)->PySem.W.kitOne B.K (.type "NoneType") (.ref (B.cl c))=some false
 exc:∀k,sub k k=true->ExcK B.K (B.cl k)/\PySem.W.kitOne B.K (.ref (B.cl k)) (.type "ValueError")=some true
 rel:∀k,sub k k=true->∀x c,G.lookup x=some (.cls c)->PySem.W.kitOne B.K (.ref (B.cl k)) (.ref (B.cl c))=some (sub k c)
section
variable {X:Cx} {B:Bs} {C:Cn} {CX:CXT} {XX:Nat->Hp->Prop} {G:List (Str×GK)}
noncomputable def TyV (B:Bs) (G:List (Str×GK)) (ty:Ty) (v:V):Prop:=((JA9 ty).isSome=true/\v=.ty (nmOf ty))\/∃x c,ty=.own c/\G.lookup x=some (.cls c)/\v=.ref (B.cl c)
theorem JJ1 (I0:Isi B G C.sub) (g:Gk X B C CX XX G) (ty:Ty):CallR X (.builtin "isinstance") (fun vs H Q=>∃d v1 v2,vs=[v1,v2]/\Den B H d v1/\TyV B G ty v2/\KE B XX (isiD C.sub d ty) H Q):=by
 intro pins s σ H vs us Q I r ⟨d,v1,v2,e,dn,tv,k⟩
 subst e
 obtain ⟨u1,us',rfl,r1,rs⟩:∃u1 us',us=u1::us'/\RelV v1 u1/\Vals [v2] us':=by cases r;exact ⟨_,_,rfl,‹_›,‹_›⟩
 obtain ⟨u2,rfl,r2⟩:=rs.one
 have KI:B.K.In s.heap:=g.K▸I.kIn
 have fin:∀ {x t:Value} {Hh:Heap->Prop} {b:Bool},PySem.W.KitX B.K x t Hh->Hh s.heap->isiD C.sub d ty=.ok (.bool b)->x=u1->x≠.builtin "__main__.__loader__#opaque"->PySem.W.kitOne B.K t u2=some b->wpAny (model X.prog X.w) X.A (call (.builtin "isinstance") [u1,u2]) (EP X pins σ Q) X.xe s:=by
  intro x t Hh b Z p e hx hne e2
  subst hx
  rw [e] at k
  exact PySem.W.kia_one Z KI p e2 hne fun tk=>⟨.bl b,H,I.tok tk,rfl,KE.ok k (by simp only [Den])⟩
 have u2e:∀(T:String) (f:Ty->Bool),((JA9 ty).isSome=true->PySem.W.kitOne B.K (.type T) (.type (nmOf ty))=some (f ty))->(∀c,f (.own c)=false)->(∀c,PySem.W.subIn B.K (.type T) (.ref c)=some false)->PySem.W.kitOne B.K (.type T) u2=some (f ty):=by
  intro T f h1 h2 h3
  rcases tv with ⟨t1,rfl⟩ | ⟨x,c,rfl,hl,rfl⟩
  ·cases r2
   exact h1 t1
  ·cases r2
   rw [h2]
   exact ko_of (I0.own x c hl) (h3 _)
 cases d with
 | none =>
  simp only [Den] at dn
  subst dn;cases r1
  refine fin PySem.W.kitx_none trivial rfl rfl (by intro q;cases q) (u2e "NoneType" (fun _=>false) (fun h=>JQM h) (fun _=>rfl) fun c=>?_)
  kernel_rfl
 | bool b =>
  simp only [Den] at dn
  subst dn;cases r1
  exact fin PySem.W.kitx_bool trivial rfl rfl (by intro q;cases q) (u2e "bool" (fun ty=>ty==.int || ty==.bool) (fun h=>JNf h) (fun _=>rfl) fun c=>JMp)
 | int b =>
  simp only [Den] at dn
  subst dn;obtain ⟨t,rfl⟩:=r1
  exact fin PySem.W.kitx_int trivial rfl rfl (by intro q;cases q) (u2e "int" (fun ty=>ty==.int) (fun h=>JQE h) (fun _=>rfl) fun c=>JOu)
 | str b =>
  simp only [Den] at dn
  subst dn;obtain ⟨t,rfl⟩:=r1
  exact fin PySem.W.kitx_str trivial rfl rfl (by intro q;cases q) (u2e "str" (fun ty=>ty==.str) (fun h=>JPu h) (fun _=>rfl) fun c=>JQI)
 | list b =>
  simp only [Den] at dn
  obtain ⟨l,xs,rfl,q,_⟩:=dn
  cases r1
  obtain ⟨its,_,⟨o,n,e1,e2,_⟩,_⟩:=I.list (g.K▸q)
  exact fin PySem.W.kitx_list ⟨o,e1,e2⟩ rfl rfl (by intro q;cases q) (u2e "list" (fun ty=>ty==.list) (fun h=>JN1 h) (fun _=>rfl) fun c=>JN7)
 | tuple b =>
  simp only [Den] at dn
  obtain ⟨l,xs,rfl,q,_⟩:=dn
  cases r1
  obtain ⟨its,_,⟨o,e1,e2,_⟩,_⟩:=I.tuple (g.K▸q)
  exact fin PySem.W.kitx_tuple ⟨o,e1,e2⟩ rfl rfl (by intro q;cases q) (u2e "tuple" (fun ty=>ty==.tuple) (fun h=>JJa h) (fun _=>rfl) fun c=>JKy)
 | dict kvs =>
  simp only [Den] at dn
  rcases dn with ⟨l,c,rfl,rfl,q⟩ | ⟨l,xs,rfl,q,dk⟩
  ·cases r1
   simp only [isiD,Int.toNat_natCast] at k fin
   by_cases hk:C.sub c c=true
   ·rw [if_pos hk] at k fin
    have p:ExcAt l (B.cl c) s.heap:=by
     have:=I.hok l _ q
     exact this.1
    rcases tv with ⟨t1,rfl⟩ | ⟨x,e,rfl,hl,rfl⟩
    ·cases r2
     cases ty with
     | valueError=>exact fin (JF0 (I0.exc c hk).1) p rfl rfl (by intro q;cases q) (I0.exc c hk).2
     | own e=>cases t1
     | _=>exact False.elim k
    ·cases r2
     exact fin (JF0 (I0.exc c hk).1) p rfl rfl (by intro q;cases q) (I0.rel c hk x e hl)
   ·rw [if_neg hk] at k
    exact False.elim k
  ·cases kvs with
   | nil=>exact False.elim k
   | cons p r =>
    obtain ⟨p1,p2⟩:=p
    simp only [DenK] at dk
    obtain ⟨_,_,_,_,rfl,_⟩:=dk
    exact False.elim k
theorem r_isi (I0:Isi B G C.sub) (g:Gk X B C CX XX G) (a:Expr) (x:E) (t:Str) (ty:Ty) (p pt pos:Pos) (h1:Gl X "isinstance") (h2:Gl X t) (h3:G.lookup ("isinstance":Str)=some GK.isi)
  (h4:G.lookup t=some (.ty ty)/\JA9 ty=some t\/∃c,ty=.own c/\G.lookup t=some (.cls c)) (h5:JAR t=false) (ha:PE X a (RE B C XX x)) (hs:starEach [a,.Name t pt] X.env=(false,eval a X.env)::starEach [.Name t pt] X.env) :
  PE X (.Call (.Name "isinstance" p) [a,.Name t pt] [] pos) (RE B C XX (.isi x ty)):=by
 have hst:starEach [.Name t pt] X.env=[(false,eval (.Name t pt) X.env)]:=rfl
 obtain ⟨v2,tv,hn⟩:∃v2,TyV B G ty v2/\PE X (.Name t pt) (tC v2):=by
  rcases h4 with ⟨e1,e2⟩ | ⟨c,rfl,e1⟩
  · exact ⟨_,.inl ⟨by rw [e2];rfl,rfl⟩,JOC h2 (g.ty t ty e1) (JMm e2) rfl (JAI h5).2.2 (JAI h5).1⟩
  · exact ⟨_,.inr ⟨t,c,rfl,e1,rfl⟩,JH2 h2 (g.cls t c e1) rfl (JAI h5).1⟩
 refine PE.imp (JDz (JJ1 I0 g ty) h1 (g.isi _ h3) (by boot_by_name) (JBS ha (JBS hn JCZ hst) hs) (by decide) (by decide) hs (by rw [hst];rfl)) ?_
 rintro σ H Q ⟨δ,ok,kk⟩
 simp only [ev] at kk
 refine RE.of (W:=fun r H=>KE B XX r H Q) ok (fun _ _ z=>z) (fun _ z=>z) kk fun d v H1 s1 d1 h1=>?_
 exact ⟨d,v,v2,rfl,d1,tv,KE.mono g s1 h1⟩
end
end VI
end
section
namespace VI
open PySem PySem.Spec PyProof.Rows L2
theorem JOA {B:Bs} {C:Cn} {G:List (Str×GK)} {P:Program} {w:World} (I0:Isi B G C.sub)
  (mn:G.lookup ("min":Str)=some (.blt .min)->∀(X:Cx) (XX:Nat->Hp->Prop),Gk X B C (CXV P w B) XX G->CallR X (.builtin "min") (fun vs H Q=>∃ds,DenL B H ds vs/\KE B XX (bltD .min ds) H Q))
  (dc:G.lookup (".dct":Str)=some GK.opt->∀(X:Cx) (XX:Nat->Hp->Prop),Gk X B C (CXV P w B) XX G->∀(n:Nat) (names:List (Str×NameKind)) (N:List Str) (ks:List (Option Expr)) (vs:List Expr) (xs:List Str) (x:E) (pos:Pos),(∀e x,JAN G n false names N e=some x->PE X e (RE B C XX x)) ->
    strKeys ks=some xs->1<=xs.length->xs.length<=15->xs.length=vs.length->xs.Nodup->JAJ (JAN G n false names N) vs=some x->PE X (.Dict ks vs pos) (RE B C XX (.dct xs x)))
  (xo:∀k:XO,G.lookup k.flag=some GK.opt->XOk B C (CXV P w B) G k)
  (rp:G.lookup (".rep":Str)=some GK.opt->∀(X:Cx) (XX:Nat->Hp->Prop),Gk X B C (CXV P w B) XX G->∀(es:List Expr) (x:E) (k:Int) (j:Nat) (p p2 pos:Pos),PA X es (RA B C XX x)->cnt x<=1000->0<=k->k<=1000->PE X (.BinOp (.List es p) .Mult (.Constant (.int k) j p2) pos) (RE B C XX (.rep k.toNat x))) (dp:G.lookup (".dict":Str)=some GK.opt->DOk B C (CXV P w B) G) (ro:RO B C (CXV P w B) G):Rare B C (CXV P w B) G where
 nox:=fun outer H s e s'=>JOK outer H s e s'
 isi:=fun X XX g a x t ty p pt pos h1 h2 h3 h4 h5 h6 h7=>r_isi I0 g a x t ty p pt pos h1 h2 h3 h4 h5 h6 h7
 min:=mn
 dct:=dc
 rep:=rp
 xop:=xo
 dop:=dp
 ro:=ro
theorem nofl {P:Prop} {l:Option GK} {x:GK} (h:l=none) (z:l=some x):P:=by rw [h] at z;cases z
section
variable {B:Bs} {C:Cn} {CX:CXT} {G:List (Str×GK)}
end
theorem x_no {B:Bs} {C:Cn} {CX:CXT} {G:List (Str×GK)} {k:XO} (h:G.lookup k.flag=none) (z:G.lookup k.flag=some GK.opt):XOk B C CX G k:=by rw [h] at z;cases z
theorem JNG {B:Bs} {C:Cn} {G:List (Str×GK)} {P:Program} {w:World} (I0:Isi B G C.sub) (h1:G.lookup ("min":Str)=none) (h2:G.lookup (".dct":Str)=none) (h3:G.lookup (".rep":Str)=none) (dp:G.lookup (".dict":Str)=some GK.opt->DOk B C (CXV P w B) G) (xo:∀k:XO,G.lookup k.flag=some GK.opt->XOk B C (CXV P w B) G k) (ro:RO B C (CXV P w B) G):Rare B C (CXV P w B) G :=
 JOA I0 (fun z=>by rw [h1] at z;cases z) (fun z=>by rw [h2] at z;cases z) xo (fun z=>by rw [h3] at z;cases z) dp ro
noncomputable def allN:Nat->(List Value->Prop)->Prop
 | 0,P=>P []
 | n+1,P=>∀a,allN n fun r=>P (a::r)
theorem JHd:∀ {n:Nat} {P:List Value->Prop},allN n P->∀us:List Value,us.length=n->P us
 | 0,P,h,us,e=>by rw [q_B.mp e];exact h
 | n+1,P,h,us,e=>by
  cases us with
  | nil=>cases e
  | cons a r=>exact JHd (h a) r (by simpa using e)
theorem bOk {x:Str} {st:Stmt} {ps:List Str} (h:allN ps.length fun us=>∀(kV doc pm:Value) (an:Option Addr) (cdv ct:Value),bindArgs (PySem.W.fnOf x x (JBI st) (JA1 st) (JAV st) .none kV doc pm an cdv ct) ⟨us,[]⟩=pure (ps.zip us)):JAF x st ps :=
 fun kV doc pm an cdv ct us hl=>JHd h us hl kV doc pm an cdv ct
theorem fnI {K:PySem.W.Frag} {x:Str} {st:Stmt} (f c:Addr) (pm:Value) (a:PySem.W.nsIn K mainGlobals x=some (some (.ref f)):=by kernel_rfl)
 (l:K.lookup f=some ⟨.type "function",none,.func (PySem.W.fnOf x x (JBI st) (JA1 st) (JAV st) .none .none .none pm none (.ref c) .none),#[]⟩:=by kernel_rfl) (cc:PySem.W.codeIn K (.ref c) x=true:=by kernel_rfl) (k:PySem.W.keepIn K (.ref f)=true:=by kernel_rfl):FnIn K x st:=fn_in a l cc k
theorem tuI {G:List (Str×GK)} {st:Stmt} {N ps:List Str} {fd:Fd} (c:JAk (JCg G 60 true (JAV st).names N) (JA1 st)=some fd.body:=by kernel_rfl)
 (s:FnScope N ps (JAV st):=by exact ⟨rfl,rfl,rfl,by decide +kernel,rfl,by decide +kernel,by decide +kernel⟩) (p:fd.par=ps.length:=by rfl) (l:fd.slots=N.length:=by rfl):Turned G st N ps fd:=⟨c,s,p,l⟩
noncomputable def JFU (rs:List (Nat×List Nat)) (k c:Nat):Bool:=match rs.lookup k with
 | some l=>l.contains c
 | none=>false
noncomputable def AllR (P:Nat->List Nat->Prop):List (Nat×List Nat)->Prop
 | []=>True
 |(k,l)::r=>P k l/\AllR P r
theorem AllR.get {P:Nat->List Nat->Prop}:∀ {rs:List (Nat×List Nat)} {k:Nat} {l:List Nat},AllR P rs->rs.lookup k=some l->P k l
 | [],k,l,_,h=>by cases h
 |(j,m)::r,k,l,⟨h1,h2⟩,h=>by
  rw [List.lookup_cons] at h
  by_cases e:(k==j)=true
  · rw [e] at h
    have e':k=j:=by simpa using e
    cases h
    subst e'
    exact h1
  · have e':(k==j)=false:=by simpa using e
    rw [e'] at h
    exact AllR.get h2 h
structure ClIn (K:PySem.W.Frag) (x:Str) (C:Addr):Prop where
 ns:PySem.W.nsIn K mainGlobals x=some (some (.ref C))
 ex:PySem.W.excIn K C bmV "ValueError.__new__"=true
 ty:PySem.W.kitOne K (.type "NoneType") (.ref C)=some false
structure RaIn (K:PySem.W.Frag) (C:Addr):Prop where
 k:ExcK K C
 v:PySem.W.kitOne K (.ref C) (.type "ValueError")=some true
noncomputable def JKs (K:PySem.W.Frag) (C D:Addr) (b:Bool):Prop:=PySem.W.kitOne K (.ref C) (.ref D)=some b/\(b=true->PySem.W.exmOne K (.ref C) (.ref D)=some true)
theorem rel_t {K:PySem.W.Frag} {C D:Addr} (h:PySem.W.kitOne K (.ref C) (.ref D)=some true) (h2:PySem.W.exmOne K (.ref C) (.ref D)=some true):JKs K C D true:=⟨h,fun _=>h2⟩
theorem JNt {K:PySem.W.Frag} {C D:Addr} (h:PySem.W.kitOne K (.ref C) (.ref D)=some false):JKs K C D false:=⟨h,fun z=>by cases z⟩
section
variable {B:Bs} {G:List (Str×GK)} {tab:Nat->Option Fd} {glo:Nat->R D} {rs:List (Nat×List Nat)} {mg:Str->Option Value}
noncomputable def MoP (mg:Str->Option Value) (B:Bs) (G:List (Str×GK)) (tab:Nat->Option Fd) (glo:Nat->R D) (x:Str):GK->Prop
 | .fn i=>∃fd,tab i=some fd/\DefAt B.K mg G x fd
 | .con i=>∀d,glo i=.ok d->∃u v,mg x=some u/\RelV v u/\∀H,Den B H d v
 | .blt _=>mg x=none
 | .rng=>mg x=none
 | .isi=>mg x=none
 | .ty _=>mg x=none
 | .nam=>mg x=none
 | .cls c=>ClIn B.K x (B.cl c)/\mg x=some (.ref (B.cl c))
 | .opt=>True
noncomputable def RaP (B:Bs) (G:List (Str×GK)) (k:Nat) (l:List Nat):Prop:=RaIn B.K (B.cl k)/\AllP (fun _ gk=>match gk with
 | .cls c=>JKs B.K (B.cl k) (B.cl c) (l.contains c)
 | _=>True) G
theorem JCP {k c:Nat} (h:JFU rs k c=true):∃l,rs.lookup k=some l/\l.contains c=true:=by
 unfold JFU at h
 split at h
 ·rename_i l e
  exact ⟨l,e,h⟩
 ·cases h
theorem JLk (hr:AllR (RaP B G) rs) {x:Str} {k c:Nat} {l:List Nat} (hx:G.lookup x=some (.cls c)) (hk:rs.lookup k=some l):JKs B.K (B.cl k) (B.cl c) (l.contains c):=(hr.get hk).2.get hx
theorem JPi (h:AllP (MoP mg B G tab glo) G) (hr:AllR (RaP B G) rs):Isi B G (JFU rs) where
 own:=fun x c e=>(h.get e).1.ty
 exc:=fun k hk=>by
  obtain ⟨l,e,_⟩:=JCP hk
  exact ⟨(hr.get e).1.k,(hr.get e).1.v⟩
 rel:=fun k hk x c e=>by
  obtain ⟨l,el,_⟩:=JCP hk
  have:JFU rs k c=l.contains c:=by unfold JFU;rw [el]
  rw [this]
  exact (JLk hr e el).1
theorem mo_of (h:AllP (MoP mg B G tab glo) G) (hr:AllR (RaP B G) rs) (hg:∀i c,glo i≠.exc c):Mo mg B G tab glo (JFU rs) where
 fn:=fun x i e=>h.get e
 con:=fun x i d e q=>h.get e d q
 noexg:=hg
 blt:=fun x b e=>h.get e
 rng:=fun x e=>h.get e
 isi:=fun x e=>h.get e
 ty:=fun x t e=>h.get e
 nam:=fun x e=>h.get e
 cl:=⟨fun x c e=>(h.get e).2,fun x c e=>⟨_,_,_,_,PySem.F.excBase_ValueError,by decide,(h.get e).1.ex⟩⟩
 exm:=fun x c e k hk=>by
  obtain ⟨l,el,hc⟩:=JCP hk
  exact (JLk hr e el).2 hc
end
noncomputable def conV:Value->Option D
 | .none=>some .none
 | .bool b=>some (.bool b)
 | .int i _=>some (.int i)
 | .str x _=>some (.str x)
 | _=>none
theorem JKP {B:Bs} {u:Value} {d:D} (h:conV u=some d):∃v,RelV v u/\∀H,Den B H d v:=by
 cases u<;>simp only [conV,q_j,reduceCtorEq] at h<;>subst h
 ·exact ⟨.non,rfl,fun H=>by simp only [Den]⟩
 ·exact ⟨.bl _,rfl,fun H=>by simp only [Den]⟩
 ·exact ⟨.int _,⟨_,rfl⟩,fun H=>by simp only [Den]⟩
 ·exact ⟨.str _,⟨_,rfl⟩,fun H=>by simp only [Den]⟩
inductive EntOk (B:Bs) (w:World):List DictEntry->List (D×D)->Prop
 | nil:EntOk B w [] []
 | cons {en:DictEntry} {x:Str} {t:Tok} {d:D} {es:List DictEntry} {kvs:List (D×D)}:en.key=.str x t->en.hash=hashStr w x->(∃v,RelV v en.val/\∀H,Den B H d v)->EntOk B w es kvs->EntOk B w (en::es) ((.str x,d)::kvs)
theorem EntOk.den {B:Bs} {w:World} {es:List DictEntry} {kvs:List (D×D)} (h:EntOk B w es kvs):∃ks:List (Key×V),(∀H,DenK B H kvs ks)/\∀P:Program,∃rs:List (Key×Value),KV ks rs/\Pairs (JAc P w) es rs/\(∀e∈es,∃k,(JAc P w).is k e.key=true/\e.hash=(JAc P w).hash k)/\rs.map (·.1)=kvs.filterMap (fun p=>match p.1 with | .str x=>some (Sum.inr x:Key) | _=>none):=by
 induction h with
 | nil=>exact ⟨[],fun H=>by simp only [DenK],fun P=>⟨[],.nil,.nil,fun e he=>(by simp at he),rfl⟩⟩
 | @cons en x t d es kvs h1 h2 h3 _ ih =>
  obtain ⟨ks,b,ih⟩:=ih
  obtain ⟨v,r,q⟩:=h3
  refine ⟨(Sum.inr x,v)::ks,fun H=>?_,fun P=>?_⟩
  ·simp only [DenK]
   exact ⟨x,v,ks,rfl,rfl,q H,b H⟩
  ·obtain ⟨rs,a,c,e,f⟩:=ih P
   have hk:(JAc P w).is (Sum.inr x) en.key=true:=by rw [h1];exact JBH P w x t
   refine ⟨(Sum.inr x,en.val)::rs,.cons ⟨rfl,r⟩ a,.cons hk rfl c,fun e' he=>?_,by simp only [List.map_cons,f];rfl⟩
   rcases q_n.mp he with rfl | he
   ·exact ⟨Sum.inr x,hk,h2⟩
   ·exact e e' he
end VI
namespace VI
open PySem PySem.Spec PyProof.Rows L2
mutual
noncomputable def conK (K:PySem.W.Frag):Nat->Value->Option D
 | 0,_=>none
 | n+1,u=>match u with
  | .ref a=>(match K.lookup a with
   | some ⟨.type "tuple",_,.seq its 0,_⟩=>if its.size<=1000 then (JG3 K n its.toList).map PyData.tuple else none
   | _=>none)
  | u=>conV u
noncomputable def JG3 (K:PySem.W.Frag):Nat->List Value->Option (List D)
 | 0,_=>none
 | _,[]=>some []
 | n+1,u::us=>(conK K n u).bind fun d=>(JG3 K n us).map (d::·)
end
mutual
theorem JGf {B:Bs}:∀ {n:Nat} {u:Value} {d:D},conK B.K n u=some d->∃v,RelV v u/\∀H,Den B H d v
 | 0,u,d,h=>by simp [conK] at h
 | n+1,u,d,h=>by
  unfold conK at h
  split at h
  ·rename_i a
   split at h
   ·rename_i od its sl l
    split at h
    ·rename_i hz
     obtain ⟨ds,h1,e⟩:=q_d.mp h
     subst e
     obtain ⟨vs,r,q⟩:=JE4 h1
     refine ⟨.ref a,rfl,fun H=>?_⟩
     simp only [Den]
     exact ⟨a,vs,rfl,.inr ⟨_,its,_,l,rfl,rfl,by rw [sizeLine_eq];omega,r⟩,q H⟩
    ·cases h
   ·cases h
  ·exact JKP h
theorem JE4 {B:Bs}:∀ {n:Nat} {us:List Value} {ds:List D},JG3 B.K n us=some ds->∃vs,Vals vs us/\∀H,DenL B H ds vs
 | 0,us,ds,h=>by simp [JG3] at h
 | n+1,[],ds,h=>by
  simp only [JG3,q_j] at h
  subst h
  exact ⟨[],.nil,fun H=>by simp only [DenL]⟩
 | n+1,u::us,ds,h=>by
  unfold JG3 at h
  obtain ⟨d,h1,h⟩:=q_a.mp h
  obtain ⟨r,h2,e⟩:=q_d.mp h
  subst e
  obtain ⟨v,r1,q1⟩:=JGf h1
  obtain ⟨vs,r2,q2⟩:=JE4 h2
  exact ⟨v::vs,.cons r1 r2,fun H=>by simp only [DenL];exact ⟨v,vs,rfl,q1 H,q2 H⟩⟩
end
theorem JAx {K:PySem.W.Frag} {cl:Nat->Addr} {w:World} {h:Heap} {mg:Str->Option Value} {x:Str} {d0:D} (X:K.In h) (Gm:h.Ns mainGlobals mg)
  (e:((PySem.W.nsIn K mainGlobals x).bind fun o=>o.bind fun u=>conK K 64 u)=some d0) {glo:Nat->R D} {i:Nat} (hg:glo i=.ok d0) :
  ∀d,glo i=.ok d->∃u v,mg x=some u/\RelV v u/\∀H,Den ⟨K,cl,w⟩ H d v:=by
 intro d hd
 rw [hg] at hd
 cases hd
 obtain ⟨o,h1,h2⟩:=q_a.mp e
 obtain ⟨u,h3,h4⟩:=q_a.mp h2
 subst h3
 obtain ⟨v,r,q⟩:=JGf (B:=⟨K,cl,w⟩) h4
 exact ⟨u,v,PySem.W.mg_of X Gm h1,r,q⟩
end VI
end
section
namespace Fr
theorem JBX {a g:Int} (h:g ∣ a):a.fdiv g=a / g:=Int.fdiv_eq_ediv_of_dvd h
theorem JCk (up down:Int) (h:down≠0):up.fdiv (if down<0 then -((up.gcd down:Nat):Int) else ((up.gcd down:Nat):Int))=(Rat.divInt up down).num:=by
 have hg:((up.gcd down:Nat):Int) ∣ up:=Int.gcd_dvd_left ..
 rw [Rat.num_divInt,Int.gcd_comm down up]
 by_cases hd:down<0
 ·rw [if_pos hd,JBX (Int.neg_dvd.mpr hg),Int.sign_eq_neg_one_of_neg hd,Int.neg_one_mul,Int.ediv_neg,Int.neg_ediv_of_dvd hg]
 ·rw [if_neg hd,JBX hg,Int.sign_eq_one_of_pos (by omega),Int.one_mul]
theorem JDs (up down:Int) (h:down≠0):down.fdiv (if down<0 then -((up.gcd down:Nat):Int) else ((up.gcd down:Nat):Int))=((Rat.divInt up down).den:Int):=by
 have hg:((up.gcd down:Nat):Int) ∣ down:=Int.gcd_dvd_right ..
 rw [Rat.den_divInt,if_neg h,Int.gcd_comm down up]
 by_cases hd:down<0
 ·rw [if_pos hd,JBX (Int.neg_dvd.mpr hg),Int.ediv_neg,Int.natCast_ediv,<-Int.neg_ediv_of_dvd hg]
  congr 1
  omega
 ·rw [if_neg hd,JBX hg,Int.natCast_ediv]
  congr 1
  omega
theorem den_pos (q:Rat):(0:Int)<(q.den:Int):=by have:=q.den_pos;omega
theorem JAb (q:Rat):(q.den:Int)≠0:=by have:=den_pos q;omega
theorem JI6 (a b:Rat):Rat.divInt (a.num*b.den+b.num*a.den) ((a.den:Int)*b.den)=a+b:=by
 conv=>rhs;rw [<-Rat.num_divInt_den a,<-Rat.num_divInt_den b]
 rw [Rat.divInt_add_divInt _ _ (JAb a) (JAb b)]
theorem JH7 (a b:Rat):Rat.divInt (a.num*b.den - b.num*a.den) ((a.den:Int)*b.den)=a - b:=by
 conv=>rhs;rw [<-Rat.num_divInt_den a,<-Rat.num_divInt_den b]
 rw [Rat.divInt_sub_divInt _ _ (JAb a) (JAb b)]
theorem JHU (a b:Rat):Rat.divInt (a.num*b.num) ((a.den:Int)*b.den)=a*b:=by
 conv=>rhs;rw [<-Rat.num_divInt_den a,<-Rat.num_divInt_den b]
 rw [Rat.divInt_mul_divInt]
theorem JMQ (a b:Rat):Rat.divInt (a.num*b.den) ((a.den:Int)*b.num)=a / b:=by
 rw [Rat.div_def,Rat.inv_def]
 conv=>rhs;rw [<-Rat.num_divInt_den a]
 rw [Rat.divInt_mul_divInt]
theorem JNV (q:Rat):q.num.gcd (q.den:Int)=1:=by
 have:=q.reduced
 unfold Nat.Coprime at this
 unfold Int.gcd
 simpa using this
theorem JFy (a b:Int):b.gcd (a.fmod b)=a.gcd b:=by
 have h:=Int.mul_fdiv_add_fmod a b
 have e:a.fmod b=a - b*a.fdiv b:=by omega
 rw [e,Int.gcd_comm a b]
 apply Nat.dvd_antisymm
 ·apply Int.dvd_gcd
  ·exact Int.gcd_dvd_left ..
  ·have h1:((b.gcd (a - b*a.fdiv b):Nat):Int) ∣ b:=Int.gcd_dvd_left ..
   have h2:((b.gcd (a - b*a.fdiv b):Nat):Int) ∣ a - b*a.fdiv b:=Int.gcd_dvd_right ..
   have h3:=Int.dvd_add h2 (Int.dvd_mul_of_dvd_left (c:=a.fdiv b) h1)
   have e2:a - b*a.fdiv b+b*a.fdiv b=a:=by omega
   rwa [e2] at h3
 ·apply Int.dvd_gcd
  ·exact Int.gcd_dvd_left ..
  ·exact Int.dvd_sub (Int.gcd_dvd_right ..) (Int.dvd_mul_of_dvd_left (Int.gcd_dvd_left ..))
theorem JH9 (a b:Int) (h:b≠0):(a.fmod b).natAbs<b.natAbs:=by
 by_cases hb:0<b
 ·have h1:=Int.fmod_nonneg_of_pos a hb
  have h2:=Int.fmod_lt_of_pos a hb
  omega
 ·have hb':b<0:=by omega
  have h1:=Int.mul_fdiv_add_fmod a b
  rw [Int.fmod_eq_emod]
  have h2:=Int.emod_nonneg a h
  have h3:=Int.emod_lt a h
  split
  ·rename_i q
   rcases q with q | q
   ·omega
   ·have:=Int.emod_eq_zero_of_dvd q
    omega
  ·rename_i q
   have h4:a % b≠0:=fun z=>q (.inr (Int.dvd_of_emod_eq_zero z))
   omega
end Fr
end
section
namespace VI.VP
open PySem
theorem JAB {x:Bool} {tab:Nat->Option Fd} {glo:Nat->R D} {sub:Nat->Nat->Bool} {n f:Nat} {xs:List D} {fd:Fd} (h:tab f=some fd):run x tab glo sub (n+1) f xs=JFO x ⟨run x tab glo sub n,glo,sub⟩ fd xs:=by
 rw [run,h]
@[simp] theorem look_zero (s:Sl) (δ:Env):look (s::δ) 0=s.get:=rfl
@[simp] theorem look_succ (s:Sl) (δ:Env) (i:Nat):look (s::δ) (i+1)=look δ i:=rfl
@[simp] theorem get_val (d:D):(Sl.val d).get=.ok d:=rfl
@[simp] theorem get_own (d:List D):(Sl.own (.list d)).get=.ok (.list d):=rfl
@[simp] theorem bind_ok {α β:Type} (a:α) (f:α->R β):(R.ok a).bind f=f a:=rfl
@[simp] theorem bind_exc {α β:Type} (c:Nat) (f:α->R β):(R.exc c).bind f=.exc c:=rfl
@[simp] theorem stepR_ok {α:Type} (a:α) (f:α->Fl):stepR (.ok a) f=f a:=rfl
@[simp] theorem stepR_exc {α:Type} (c:Nat) (f:α->Fl):stepR (.exc c) f=.ex c:=rfl
theorem JDF (e:E) (i:Nat) (d:D) (r:Env):JAP e i (.val d::r)=JAP e (i+1) r:=by simp [JAP,Sl.isOwn]
theorem JDm (e:E) (i:Nat) (r:Env):JAP e i (.no::r)=JAP e (i+1) r:=by simp [JAP,Sl.isOwn]
theorem JA2 (e:E) (i:Nat) (d:D) (r:Env):JAP e i (.own d::r)=(e.uses i || JAP e (i+1) r):=by simp [JAP,Sl.isOwn]
theorem JDS (e:E) (i:Nat):JAP e i []=false:=rfl
theorem JAi (e:E) (i:Nat) (d:D) (r:Env):JAp e i (.val d::r)=.val d::JAp e (i+1) r:=by simp [JAp,Sl.frz]
theorem JAw (e:E) (i:Nat) (r:Env):JAp e i (.no::r)=.no::JAp e (i+1) r:=by simp [JAp,Sl.frz]
theorem JDO (e:E) (i:Nat) (d:List D) (r:Env):JAp e i (.own (.list d)::r)=(if e.uses i=true then .val (.list d) else .own (.list d))::JAp e (i+1) r:=by
 simp only [JAp,Sl.frz]
theorem JAj (e:E) (i:Nat):JAp e i []=[]:=rfl
theorem JF2 (e:E) (d:D) (δ:Env):after e d δ=if (JAP e 0 δ&&!JAL d)=true then JAp e 0 δ else δ:=rfl
noncomputable def JHu (x:Bool):Fl->R D
 | .nx _=>.ok .none
 | .rt d=>.ok d
 | .ex c=>if x=true then .exc c else .bad
 | _=>.bad
theorem JAA {x:Bool} {C:Cn} {f:Fd} {xs:List D} (h:xs.length=f.par):JFO x C f xs=JHu x (exec C f.body (xs.map Sl.val++List.replicate (f.slots - f.par) Sl.no)):=by
 unfold JFO
 rw [if_pos h]
 cases exec C f.body (xs.map Sl.val++List.replicate (f.slots - f.par) Sl.no)<;>rfl
section
variable {c:Env->R Bool} {b:Env->Fl}
theorem JB1:∀(n:Nat) (δ:Env),JAo c b n δ≠.bad->JAo c b (n+1) δ=JAo c b n δ
 | 0,δ,h=>absurd rfl h
 | n+1,δ,h=>by
  unfold JAo at h ⊢
  cases hc:c δ with
  | ok k =>
   cases k with
   | true =>
    rw [hc] at h
    simp only at h ⊢
    cases hb:b δ with
    | nx δ'=>rw [hb] at h;exact JB1 n δ' h
    | ct δ'=>rw [hb] at h;exact JB1 n δ' h
    | bk δ'=>rfl
    | rt d=>rfl
    | ex k=>rfl
    | bad=>rfl
   | false=>rfl
  | exc k=>rfl
  | bad=>rfl
theorem JEL {n m:Nat} {δ:Env} (h:JAo c b n δ≠.bad) (hm:n<=m):JAo c b m δ=JAo c b n δ:=by
 induction hm with
 | refl=>rfl
 | step _ ih=>rw [JB1 _ _ (by rw [ih];exact h),ih]
theorem JCs {n:Nat} {δ:Env} (h:JAo c b n δ≠.bad):JBc c b δ=JAo c b n δ:=by
 unfold JBc
 have hx:∃n,JAo c b n δ≠.bad:=⟨n,h⟩
 rw [dif_pos hx]
 have h2:=hx.choose_spec
 rcases Nat.le_total n hx.choose with l | l
 ·exact JEL h l
 ·exact (JEL h2 l).symm
theorem JCy {δ:Env} (hc:c δ=.ok false):JBc c b δ=.nx δ:=by
 have:JAo c b 1 δ=.nx δ:=by unfold JAo;rw [hc]
 rw [JCs (n:=1) (by rw [this];intro h;cases h),this]
theorem JDJ {δ δ':Env} (hc:c δ=.ok true) (hb:b δ=.nx δ'):JBc c b δ=JBc c b δ':=by
 have hs:∀n,JAo c b (n+1) δ=JAo c b n δ':=fun n=>by
  conv=>lhs;unfold JAo
  rw [hc];simp only;rw [hb]
 by_cases h:∃n,JAo c b n δ'≠.bad
 ·obtain ⟨n,h⟩:=h
  rw [JCs h,JCs (n:=n+1) (by rw [hs];exact h),hs]
 ·have h1:JBc c b δ'=.bad:=by unfold JBc;rw [dif_neg h]
  have h2:¬ ∃n,JAo c b n δ≠.bad:=by
   rintro ⟨n,q⟩
   cases n with
   | zero=>exact q rfl
   | succ n=>exact h ⟨n,by rw [<-hs];exact q⟩
  rw [h1]
  unfold JBc
  rw [dif_neg h2]
end
theorem JBt {i:Int} {k:Nat} (h:i.natAbs<2 ^ k):Builtin.Int.intBits i<=k:=by
 unfold Builtin.Int.intBits
 split
 ·omega
 ·rename_i hz
  have hn:i.natAbs≠0:=by simpa using hz
  have:=(Nat.log2_lt hn).mpr h
  omega
theorem JHJ {i j:Int} (h:j.natAbs<2 ^ 9000):Builtin.divisionGoesByPylong i j=false:=by
 unfold Builtin.divisionGoesByPylong
 simp only [Bool.and_eq_false_iff,decide_eq_false_iff_not]
 left
 split
 ·omega
 ·rename_i hz
  have hn:j.natAbs≠0:=by simpa using hz
  have:=(Nat.log2_lt hn).mpr h
  omega
end VI.VP
end
section
namespace VI.VP
open PySem Fr
noncomputable def L (i:Int):Prop:=i.natAbs<2 ^ 4000
theorem L.of {i:Int} {k:Nat} (h:i.natAbs<2 ^ k) (hk:k<=4000):L i:=q_m h (Nat.pow_le_pow_right (by omega) hk)
theorem JPP {i j:Int} (hi:L i) (hj:L j):IntMulOk i j:=by
 have h1:=JBt hi
 have h2:=JBt hj
 unfold IntMulOk
 intro h
 simp only [q_i,q_D] at h
 have h3:=h.2
 unfold Builtin.Int.intTooBig at h3
 have:(bitsLine:Int) ≥ 8000:=by decide
 simp only [q_D] at h3
 omega
theorem pyl {i j:Int} (hj:L j):Builtin.divisionGoesByPylong i j=false:=JHJ (q_m hj (Nat.pow_le_pow_right (by omega) (by omega)))
theorem JBM {i j:Int} (hi:L i) (hj:L j):binD .Mult (.int i) (.int j)=.ok (.int (i*j)):=by
 simp only [binD,if_pos (JPP hi hj)]
theorem JF4 {i j:Int} (hj:j.natAbs<2 ^ 64):binD .Mult (.int i) (.int j)=.ok (.int (i*j)):=by
 simp only [binD,if_pos (IntMulOk.of_right (a:=i) (JBt hj))]
theorem JDg {i j:Int} (hj:i.natAbs<2 ^ 64):binD .Mult (.int i) (.int j)=.ok (.int (i*j)):=by
 simp only [binD,if_pos (IntMulOk.of_left (b:=j) (JBt hj))]
theorem JOv {i j:Int}:binD .Add (.int i) (.int j)=.ok (.int (i+j)):=rfl
theorem JRC {i j:Int}:binD .Sub (.int i) (.int j)=.ok (.int (i - j)):=rfl
theorem JId {i j:Int} (h:j≠0) (hj:L j):binD .FloorDiv (.int i) (.int j)=.ok (.int (i.fdiv j)):=by
 simp only [binD,if_pos (And.intro h (pyl (i:=i) hj))]
theorem JFP {i j:Int} (h:j≠0):binD .Mod (.int i) (.int j)=.ok (.int (i.fmod j)):=by
 simp only [binD,if_pos h]
noncomputable def F (q:Rat):D:=.tuple [.int q.num,.int q.den]
theorem JJ5 (p q:Rat):PyData.eqv (F p) (F q)=decide (p=q):=by
 simp only [F,PyData.eqv,PyData.eqvAll,Bool.and_true]
 by_cases h:p=q
 ·subst h;simp
 ·rw [q_o h]
  simp only [Bool.and_eq_false_iff,beq_eq_false_iff_ne,ne_eq]
  by_cases hn:p.num=q.num
  ·right
   intro hd
   exact h (Rat.ext hn (by omega))
  ·left;exact hn
theorem JFr (q:Rat):shaped (F q)=true:=by
 simp only [shaped,F,PyData.canLay0,PyData.canLayAll0,PyData.depth,PyData.depthAll,Bool.and_true,Bool.true_and]
 decide
theorem JMh (q:Rat):idxD (F q) (.int 0)=.ok (.int q.num):=rfl
theorem JLJ (q:Rat):idxD (F q) (.int 1)=.ok (.int q.den):=rfl
theorem F_ne (p q:Rat):cmpD .NotEq (F p) (F q)=.ok (.bool (!decide (p=q))):=by
 simp only [cmpD,JFr,Bool.and_self,if_true,JJ5]
theorem F_eq (p q:Rat):cmpD .Eq (F p) (F q)=.ok (.bool (decide (p=q))):=by
 simp only [cmpD,JFr,Bool.and_self,if_true,JJ5]
theorem i_ne (i j:Int):cmpD .NotEq (.int i) (.int j)=.ok (.bool (!decide (i=j))):=by
 have:PyData.eqv (.int i) (.int j)=decide (i=j):=by simp only [PyData.eqv];rfl
 simp only [cmpD,shaped,PyData.canLay0,PyData.depth,this]
 rfl
theorem i_eq (i j:Int):cmpD .Eq (.int i) (.int j)=.ok (.bool (decide (i=j))):=by
 have:PyData.eqv (.int i) (.int j)=decide (i=j):=by simp only [PyData.eqv];rfl
 simp only [cmpD,shaped,PyData.canLay0,PyData.depth,this]
 rfl
theorem i_lt (i j:Int):cmpD .Lt (.int i) (.int j)=.ok (.bool (decide (i<j))):=rfl
theorem i_gt (i j:Int):cmpD .Gt (.int i) (.int j)=.ok (.bool (decide (j<i))):=rfl
theorem i_le (i j:Int):cmpD .LtE (.int i) (.int j)=.ok (.bool (decide (i<=j))):=rfl
theorem i_ge (i j:Int):cmpD .GtE (.int i) (.int j)=.ok (.bool (decide (j<=i))):=rfl
theorem JJT (u d:Int) (h:d≠0):(Rat.divInt u d).num.natAbs<=u.natAbs:=by
 rw [<-JCk u d h]
 have hg:((u.gcd d:Nat):Int) ∣ u:=Int.gcd_dvd_left ..
 have key:∀g:Int,g ∣ u->(u.fdiv g).natAbs<=u.natAbs:=fun g hg=>by
  rw [JBX hg]
  obtain ⟨k,rfl⟩:=hg
  by_cases hz:g=0
  ·subst hz;simp
  ·rw [Int.mul_ediv_cancel_left _ hz,Int.natAbs_mul]
   have:0<g.natAbs:=by omega
   exact Nat.le_mul_of_pos_left _ this
 split
 ·exact key _ (Int.neg_dvd.mpr hg)
 ·exact key _ hg
theorem JGK (u d:Int) (h:d≠0):(Rat.divInt u d).den<=d.natAbs:=by
 rw [Rat.den_divInt,if_neg h]
 exact Nat.div_le_self _ _
noncomputable def Sz (k:Nat) (q:Rat):Prop:=q.num.natAbs<2 ^ k/\q.den<2 ^ k
theorem Sz.mono {i k:Nat} {q:Rat} (h:Sz i q) (hk:i<=k):Sz k q:=⟨q_m h.1 (Nat.pow_le_pow_right (by omega) hk),q_m h.2 (Nat.pow_le_pow_right (by omega) hk)⟩
theorem Sz.of {u d:Int} {k:Nat} (h:d≠0) (hu:u.natAbs<2 ^ k) (hd:d.natAbs<2 ^ k):Sz k (Rat.divInt u d):=⟨Nat.lt_of_le_of_lt (JJT u d h) hu,Nat.lt_of_le_of_lt (JGK u d h) hd⟩
theorem Sz.n {k:Nat} {q:Rat} (h:Sz k q):q.num.natAbs<2 ^ k:=h.1
theorem Sz.d {k:Nat} {q:Rat} (h:Sz k q):(q.den:Int).natAbs<2 ^ k:=by simpa using h.2
theorem JAl {a b:Int} {i j:Nat} (h1:a.natAbs<2 ^ i) (h2:b.natAbs<2 ^ j):(a*b).natAbs<2 ^ (i+j):=by
 rw [Int.natAbs_mul,Nat.pow_add]
 exact Nat.mul_lt_mul'' h1 h2
theorem JRN {a b:Int} {i:Nat} (h1:a.natAbs<2 ^ i) (h2:b.natAbs<2 ^ i):(a+b).natAbs<2 ^ (i+1):=by
 have:=Int.natAbs_add_le a b
 rw [Nat.pow_succ]
 omega
theorem JRQ {a b:Int} {i:Nat} (h1:a.natAbs<2 ^ i) (h2:b.natAbs<2 ^ i):(a - b).natAbs<2 ^ (i+1):=by
 have:=Int.natAbs_sub_le a b
 rw [Nat.pow_succ]
 omega
theorem JEz {a:Int} {i k:Nat} (h:a.natAbs<2 ^ i) (hk:i<=k):a.natAbs<2 ^ k:=q_m h (Nat.pow_le_pow_right (by omega) hk)
section
variable {i j k:Nat} {p q:Rat}
theorem Sz.add (hp:Sz i p) (hq:Sz j q) (hk:i+j+1<=k):Sz k (p+q):=by
 rw [<-JI6]
 have h1:=JAl hp.n hq.d
 have h2:=JAl hq.n hp.d
 rw [Nat.add_comm j i] at h2
 refine Sz.of (Int.mul_ne_zero (JAb p) (JAb q)) (JEz (JRN h1 h2) hk) (JEz (JAl hp.d hq.d) (by omega))
theorem Sz.sub (hp:Sz i p) (hq:Sz j q) (hk:i+j+1<=k):Sz k (p - q):=by
 rw [<-JH7]
 have h1:=JAl hp.n hq.d
 have h2:=JAl hq.n hp.d
 rw [Nat.add_comm j i] at h2
 refine Sz.of (Int.mul_ne_zero (JAb p) (JAb q)) (JEz (JRQ h1 h2) hk) (JEz (JAl hp.d hq.d) (by omega))
theorem Sz.mul (hp:Sz i p) (hq:Sz j q) (hk:i+j<=k):Sz k (p*q):=by
 rw [<-JHU]
 exact Sz.of (Int.mul_ne_zero (JAb p) (JAb q)) (JEz (JAl hp.n hq.n) hk) (JEz (JAl hp.d hq.d) hk)
theorem Sz.div (hp:Sz i p) (hq:Sz j q) (h0:q≠0) (hk:i+j<=k):Sz k (p / q):=by
 rw [<-JMQ]
 have:q.num≠0:=fun z=>h0 (Rat.num_eq_zero.mp z)
 exact Sz.of (Int.mul_ne_zero (JAb p) this) (JEz (JAl hp.n hq.d) hk) (JEz (JAl hp.d hq.n) hk)
end
abbrev Q (q:Rat):Prop:=Sz 1500 q
theorem Sz.Ln {k:Nat} {q:Rat} (h:Sz k q) (hk:k<=4000):L q.num:=L.of h.n hk
theorem Sz.Ld {k:Nat} {q:Rat} (h:Sz k q) (hk:k<=4000):L (q.den:Int):=L.of h.d hk
end VI.VP
end
section
namespace VI.VP
open PySem
section
variable {C:Cn} {δ:Env} {a b c e es o i r:E} {x y z d:D} {xs:List D}
noncomputable def bin1 (op:Operator):R D->R D->R D
 | .ok x,.ok y=>binD op x y
 | .ok _,r=>r
 | r,_=>r
noncomputable def neg1:R D->R D
 | .ok (.int i)=>.ok (.int (-i))
 | .exc c=>.exc c
 | _=>.bad
noncomputable def not1:R Bool->R D
 | .ok b=>.ok (.bool (!b))
 | .exc c=>.exc c
 | .bad=>.bad
noncomputable def tr1:R D->R Bool
 | .ok d=>truth d
 | .exc c=>.exc c
 | .bad=>.bad
noncomputable def and1 (C:Cn) (b:E) (δ:Env):R D->R D
 | .ok (.bool true)=>ev C b δ
 | .ok (.bool false)=>.ok (.bool false)
 | .exc c=>.exc c
 | _=>.bad
noncomputable def or1 (C:Cn) (b:E) (δ:Env):R D->R D
 | .ok (.bool true)=>.ok (.bool true)
 | .ok (.bool false)=>ev C b δ
 | .exc c=>.exc c
 | _=>.bad
noncomputable def cmp1 (op:CmpOp):R D->R D->R D
 | .ok x,.ok y=>cmpD op x y
 | .ok _,r=>r
 | r,_=>r
noncomputable def isN1 (n:Bool):R D->R D
 | .ok x=>.ok (.bool (if n=true then !isNone x else isNone x))
 | r=>r
noncomputable def isB1 (b:Bool):R D->R D
 | .ok (.bool c)=>.ok (.bool (c==b))
 | .exc c=>.exc c
 | _=>.bad
noncomputable def ife1 (C:Cn) (a b:E) (δ:Env):R Bool->R D
 | .ok true=>ev C a δ
 | .ok false=>ev C b δ
 | .exc c=>.exc c
 | .bad=>.bad
noncomputable def tup1:R (List D)->R D
 | .ok xs=>.ok (.tuple xs)
 | .exc c=>.exc c
 | .bad=>.bad
noncomputable def lst1:R (List D)->R D
 | .ok xs=>.ok (.list xs)
 | .exc c=>.exc c
 | .bad=>.bad
noncomputable def idx1:R D->R D->R D
 | .ok x,.ok y=>idxD x y
 | .ok _,r=>r
 | r,_=>r
noncomputable def JHP (C:Cn) (f:Nat):R (List D)->R D
 | .ok xs=>C.fn f xs
 | .exc c=>.exc c
 | .bad=>.bad
noncomputable def blt1 (b:Blt):R (List D)->R D
 | .ok xs=>bltD b xs
 | .exc c=>.exc c
 | .bad=>.bad
noncomputable def isi1 (C:Cn) (t:Ty):R D->R D
 | .ok x=>isiD C.sub x t
 | r=>r
noncomputable def JMC:R D->R D->R D
 | .ok (.list xs),.ok y=>JHO (.list xs) y
 | .ok (.list _),r=>r
 | .exc c,_=>.exc c
 | _,_=>.bad
noncomputable def JLE:R D->R D->R D
 | .ok (.list xs),.ok y=>JI0 (.list xs) y
 | .ok (.list _),r=>r
 | .exc c,_=>.exc c
 | _,_=>.bad
noncomputable def get1:R D->R D->R D->R D
 | .ok x,r1,r2=>if JQm x=true then (r1.bind fun y=>r2.bind fun z=>JNe x y z) else .bad
 | .exc c,_,_=>.exc c
 | _,_,_=>.bad
noncomputable def JJj:R D->R (List D)->R (List D)
 | .ok x,.ok xs=>.ok (x::xs)
 | .ok _,r=>r
 | .exc c,_=>.exc c
 | .bad,_=>.bad
noncomputable def JFM (C:Cn) (k:Nat) (elt cond:E) (δ:Env) (x:D):R (Option D):=(push k x δ).bind fun δ1=>(evT C cond δ1).bind fun t=>if t=true then (ev C elt δ1).bind fun y=>.ok (some y) else .ok none
noncomputable def JCv (C:Cn) (k:Nat) (elt cond:E) (δ:Env):R (List D)->R D
 | .ok xs=>if xs.length<=16777216 then (JAs (JFM C k elt cond δ) xs).bind fun ys=>.ok (.list ys) else .bad
 | .exc c=>.exc c
 | .bad=>.bad
noncomputable def its1:R D->R (List D)
 | .ok d=>JAa d
 | .exc c=>.exc c
 | .bad=>.bad
noncomputable def rng1:R (List D)->R (List D)
 | .ok d=>rngD d
 | r=>r
theorem JCK (r:R D):r.bind truth=tr1 r:=by cases r<;>rfl
theorem JCD (r:R D):r.bind JAa=its1 r:=by cases r<;>rfl
theorem v_var {j:Nat}:ev C (.var j) δ=look δ j:=by simp only [ev]
theorem JPy {j:Int}:ev C (.cint j) δ=.ok (.int j):=by simp only [ev]
theorem v_bl {j:Bool}:ev C (.cbl j) δ=.ok (.bool j):=by simp only [ev]
theorem JRK:ev C .cnon δ=.ok .none:=by simp only [ev]
theorem JQw {j:Str}:ev C (.cstr j) δ=.ok (.str j):=by simp only [ev]
theorem JQW {j:Nat}:ev C (.glo j) δ=C.glo j:=by simp only [ev]
theorem JQy {op:Operator}:ev C (.bin op a b) δ=bin1 op (ev C a δ) (ev C b δ):=by
 simp only [ev]
 cases ev C a δ<;>cases ev C b δ<;>rfl
theorem JNm:ev C (.neg a) δ=neg1 (ev C a δ):=by
 simp only [ev]
 cases h:ev C a δ with
 | ok d=>cases d<;>rfl
 | exc c=>rfl
 | bad=>rfl
theorem v_not:ev C (.not a) δ=not1 (tr1 (ev C a δ)):=by
 simp only [ev]
 cases h:ev C a δ with
 | ok d=>simp only [R.bind,tr1];cases truth d<;>rfl
 | exc c=>rfl
 | bad=>rfl
theorem v_and:ev C (.and a b) δ=and1 C b δ (ev C a δ):=by
 simp only [ev]
 cases h:ev C a δ with
 | ok d =>
  cases d with
  | bool k=>cases k<;>rfl
  | _=>rfl
 | exc c=>rfl
 | bad=>rfl
theorem v_or:ev C (.or a b) δ=or1 C b δ (ev C a δ):=by
 simp only [ev]
 cases h:ev C a δ with
 | ok d =>
  cases d with
  | bool k=>cases k<;>rfl
  | _=>rfl
 | exc c=>rfl
 | bad=>rfl
theorem JOx {op:CmpOp}:ev C (.cmp op a b) δ=cmp1 op (ev C a δ) (ev C b δ):=by
 simp only [ev]
 cases ev C a δ<;>cases ev C b δ<;>rfl
theorem JRO {k:Bool}:ev C (.isN a k) δ=isN1 k (ev C a δ):=by
 simp only [ev]
 cases ev C a δ<;>rfl
theorem JOf {k:Bool}:ev C (.isB a k) δ=isB1 k (ev C a δ):=by
 simp only [ev]
 cases h:ev C a δ with
 | ok d=>cases d<;>rfl
 | exc c=>rfl
 | bad=>rfl
theorem JQ9:ev C (.ife c a b) δ=ife1 C a b δ (evT C c δ):=by
 simp only [ev]
 cases h:evT C c δ with
 | ok k=>cases k<;>rfl
 | exc c=>rfl
 | bad=>rfl
theorem JPI:ev C (.tup es) δ=tup1 (evA C es δ):=by simp only [ev];cases evA C es δ<;>rfl
theorem JQb:ev C (.lst es) δ=lst1 (evA C es δ):=by simp only [ev];cases evA C es δ<;>rfl
theorem JOr:ev C (.idx a i) δ=idx1 (ev C a δ) (ev C i δ):=by
 simp only [ev]
 cases ev C a δ<;>cases ev C i δ<;>rfl
theorem JL7 {f:Nat}:ev C (.call f es) δ=JHP C f (evA C es δ):=by simp only [ev];cases evA C es δ<;>rfl
theorem JPo {f:Blt}:ev C (.blt f es) δ=blt1 f (evA C es δ):=by simp only [ev];cases evA C es δ<;>rfl
theorem JOi {t:Ty}:ev C (.isi a t) δ=isi1 C t (ev C a δ):=by simp only [ev];cases ev C a δ<;>rfl
theorem v_count:ev C (.mcount o a) δ=JMC (ev C o δ) (ev C a δ):=by
 simp only [ev]
 cases ev C o δ with
 | ok d=>cases d<;>cases ev C a δ<;>rfl
 | exc c=>rfl
 | bad=>rfl
theorem JJB:ev C (.mindex o a) δ=JLE (ev C o δ) (ev C a δ):=by
 simp only [ev]
 cases ev C o δ with
 | ok d=>cases d<;>cases ev C a δ<;>rfl
 | exc c=>rfl
 | bad=>rfl
theorem v_get:ev C (.mget o a b) δ=get1 (ev C o δ) (ev C a δ) (ev C b δ):=by
 simp only [ev]
 cases ev C o δ with
 | ok d=>rfl
 | exc c=>rfl
 | bad=>rfl
theorem JK6 {k:Nat}:ev C (.cmpr k e i c) δ=JCv C k e c δ (evI C i δ):=by
 simp only [ev]
 cases evI C i δ<;>rfl
noncomputable def dct1 (ks:List Str):R (List D)->R D
 | .ok xs=>.ok (.dict ((ks.map PyData.str).zip xs))
 | .exc c=>.exc c
 | .bad=>.bad
noncomputable def rep1 (k:Nat):R (List D)->R D
 | .ok xs=>.ok (.list (List.replicate k xs).flatten)
 | .exc c=>.exc c
 | .bad=>.bad
theorem JPH {ks:List Str}:ev C (.dct ks es) δ=dct1 ks (evA C es δ):=by simp only [ev];cases evA C es δ<;>rfl
theorem JRJ {k:Nat}:ev C (.rep k es) δ=rep1 k (evA C es δ):=by simp only [ev];cases evA C es δ<;>rfl
noncomputable def fn11 (o:O1):R D->R D
 | .ok x=>op1D o x
 | r=>r
noncomputable def JNS (b:Bool):R D->R D
 | .ok (.bool c)=>.ok (.bool (!(c==b)))
 | .exc c=>.exc c
 | _=>.bad
theorem JPN {o1:O1}:ev C (.fn1 o1 a) δ=fn11 o1 (ev C a δ):=by simp only [ev];cases ev C a δ<;>rfl
theorem JMb {k:Bool}:ev C (.isnB a k) δ=JNS k (ev C a δ):=by
 simp only [ev]
 cases h:ev C a δ with
 | ok d=>cases d<;>rfl
 | exc c=>rfl
 | bad=>rfl
theorem JGN {k:Bool}:evT C (.isnB a k) δ=tr1 (JNS k (ev C a δ)):=by
 simp only [evT]
 cases h:ev C a δ with
 | ok d=>cases d<;>rfl
 | exc c=>rfl
 | bad=>rfl
noncomputable def xop1 (k:XO):R (List D)->R D
 | .ok xs=>xD k xs
 | .exc c=>.exc c
 | .bad=>.bad
theorem JPj {k:XO}:ev C (.xop k es) δ=xop1 k (evA C es δ):=by simp only [ev];cases evA C es δ<;>rfl
theorem JRH {k:XO}:evI C (.xop k es) δ=its1 (xop1 k (evA C es δ)):=by simp only [evI,JCD];cases evA C es δ<;>rfl
theorem JPC {o1:O1}:evI C (.fn1 o1 a) δ=its1 (fn11 o1 (ev C a δ)):=by simp only [evI,JCD];cases ev C a δ<;>rfl
theorem JOZ {op:Operator}:evI C (.bin op a b) δ=its1 (bin1 op (ev C a δ) (ev C b δ)):=by
 simp only [evI,JCD]
 cases ev C a δ<;>cases ev C b δ<;>rfl
theorem JLx:evA C .nil δ=.ok []:=by simp only [evA]
theorem JIM:evA C (.cons a r) δ=JJj (ev C a δ) (evA C r δ):=by
 simp only [evA]
 cases ev C a δ<;>cases evA C r δ<;>rfl
theorem JK1:evT C (.not a) δ=tr1 (not1 (evT C a δ)):=by
 simp only [evT]
 cases evT C a δ<;>rfl
noncomputable def andT (C:Cn) (b:E) (δ:Env):R Bool->R Bool
 | .ok true=>evT C b δ
 | r=>r
noncomputable def orT (C:Cn) (b:E) (δ:Env):R Bool->R Bool
 | .ok false=>evT C b δ
 | r=>r
theorem JRY:evT C (.and a b) δ=andT C b δ (evT C a δ):=by
 simp only [evT]
 cases h:evT C a δ with
 | ok k=>cases k<;>rfl
 | exc c=>rfl
 | bad=>rfl
theorem t_or:evT C (.or a b) δ=orT C b δ (evT C a δ):=by
 simp only [evT]
 cases h:evT C a δ with
 | ok k=>cases k<;>rfl
 | exc c=>rfl
 | bad=>rfl
theorem JOm {j:Nat}:evT C (.var j) δ=tr1 (look δ j):=by simp only [evT];cases look δ j<;>rfl
theorem t_bl {j:Bool}:evT C (.cbl j) δ=.ok j:=by simp only [evT]
theorem JPc {op:CmpOp}:evT C (.cmp op a b) δ=tr1 (cmp1 op (ev C a δ) (ev C b δ)):=by
 simp only [evT,JCK]
 cases ev C a δ<;>cases ev C b δ<;>rfl
theorem JJw {k:Bool}:evT C (.isN a k) δ=tr1 (isN1 k (ev C a δ)):=by simp only [evT];cases ev C a δ<;>rfl
theorem JJ4 {k:Bool}:evT C (.isB a k) δ=tr1 (isB1 k (ev C a δ)):=by
 simp only [evT]
 cases h:ev C a δ with
 | ok d=>cases d<;>rfl
 | exc c=>rfl
 | bad=>rfl
theorem JRG:evT C (.idx a i) δ=tr1 (idx1 (ev C a δ) (ev C i δ)):=by
 simp only [evT,JCK]
 cases ev C a δ<;>cases ev C i δ<;>rfl
theorem JLy {f:Nat}:evT C (.call f es) δ=tr1 (JHP C f (evA C es δ)):=by simp only [evT,JCK];cases evA C es δ<;>rfl
theorem JRP {f:Blt}:evT C (.blt f es) δ=tr1 (blt1 f (evA C es δ)):=by simp only [evT,JCK];cases evA C es δ<;>rfl
theorem JQh {t:Ty}:evT C (.isi a t) δ=tr1 (isi1 C t (ev C a δ)):=by simp only [evT,JCK];cases ev C a δ<;>rfl
theorem JP0:evI C (.rng es) δ=rng1 (evA C es δ):=by simp only [evI];cases evA C es δ<;>rfl
theorem JO0 {j:Nat}:evI C (.var j) δ=its1 (look δ j):=by simp only [evI];cases look δ j<;>rfl
theorem JOa {j:Nat}:evI C (.glo j) δ=its1 (C.glo j):=by simp only [evI];cases C.glo j<;>rfl
theorem l_idx:evI C (.idx a i) δ=its1 (idx1 (ev C a δ) (ev C i δ)):=by
 simp only [evI,JCD]
 cases ev C a δ<;>cases ev C i δ<;>rfl
theorem JMM {f:Nat}:evI C (.call f es) δ=its1 (JHP C f (evA C es δ)):=by simp only [evI,JCD];cases evA C es δ<;>rfl
theorem JRZ:evI C (.tup es) δ=evA C es δ:=by simp only [evI]
theorem JPF:evI C (.lst es) δ=evA C es δ:=by simp only [evI]
noncomputable def seq1 (C:Cn) (r:S):Fl->Fl
 | .nx δ=>exec C r δ
 | f=>f
noncomputable def asg1 (i:Nat) (e:E) (δ:Env):R D->Fl
 | .ok x=>if e.fresh=true then .nx ((after e x δ).set i (.own x)) else .nx ((after e x δ).set i (.val x))
 | .exc c=>.ex c
 | .bad=>.bad
noncomputable def unp2 (is:List Nat) (δ:Env):R (List D)->Fl
 | .ok xs=>.nx (JBl is xs δ)
 | .exc c=>.ex c
 | .bad=>.bad
noncomputable def unp1 (is:List Nat) (e:E) (δ:Env):R D->Fl
 | .ok d=>unp2 is (after e d δ) (JAz is.length d)
 | .exc c=>.ex c
 | .bad=>.bad
noncomputable def ret1:R D->Fl
 | .ok d=>.rt d
 | .exc c=>.ex c
 | .bad=>.bad
noncomputable def ifs1 (C:Cn) (a b:S) (δ:Env):R Bool->Fl
 | .ok true=>exec C a δ
 | .ok false=>exec C b δ
 | .exc c=>.ex c
 | .bad=>.bad
noncomputable def app1 (i:Nat) (e:E) (δ:Env) (r:R D):Option Sl->Fl
 | some (.own (.list ds))=>(match r with
  | .ok x=>JBh i ds e x δ
  | .exc c=>.ex c
  | .bad=>.bad)
 | _=>.bad
noncomputable def ext1 (i:Nat) (e:E) (δ:Env) (r:R D):Option Sl->Fl
 | some (.own (.list ds))=>(match r with
  | .ok x=>JFi i ds e x δ
  | .exc c=>.ex c
  | .bad=>.bad)
 | _=>.bad
noncomputable def JOB (e:E) (δ:Env):R D->Fl
 | .ok x=>.nx (after e x δ)
 | .exc c=>.ex c
 | .bad=>.bad
noncomputable def for2 (C:Cn) (i:Nat) (b:S):List D->Env->Fl:=forL (put1 i) (exec C b)
noncomputable def for1 (C:Cn) (i:Nat) (e:E) (b:S) (δ:Env):R (List D)->Fl
 | .ok xs=>for2 C i b xs (JAp e 0 δ)
 | .exc c=>.ex c
 | .bad=>.bad
noncomputable def whl1 (C:Cn) (c:E) (b:S) (δ:Env):Fl:=JBc (evT C c) (exec C b) δ
noncomputable def try1 (C:Cn) (c i:Nat) (h:S) (δ:Env):Fl->Fl
 | .ex k=>if C.sub k c=true then (match exec C h ((δ.map fun _=>Sl.no).set i (.val (excD k))) with
  | .nx δ2=>.nx (δ2.set i .no)
  | .rt d=>.rt d
  | _=>.bad) else .bad
 | f=>f
variable {s t h:S} {j k:Nat}
theorem JOQ:exec C .nil δ=.nx δ:=by simp only [exec]
theorem JGF:exec C (.cons s t) δ=seq1 C t (exec C s δ):=by simp only [exec];cases exec C s δ<;>rfl
theorem JMK:exec C .pass δ=.nx δ:=by simp only [exec]
theorem JQv:exec C .brk δ=.bk δ:=by simp only [exec]
theorem JOt:exec C .cnt δ=.ct δ:=by simp only [exec]
theorem JQd:exec C (.asg j e) δ=asg1 j e δ (ev C e δ):=by simp only [exec];cases ev C e δ<;>rfl
theorem JQU {is:List Nat}:exec C (.unp is e) δ=unp1 is e δ (ev C e δ):=by
 simp only [exec]
 cases ev C e δ with
 | ok d=>simp only [stepR,unp1];cases JAz is.length d<;>rfl
 | exc c=>rfl
 | bad=>rfl
theorem JOg:exec C (.ret e) δ=ret1 (ev C e δ):=by simp only [exec];cases ev C e δ<;>rfl
theorem JLZ:exec C .retN δ=.rt .none:=by simp only [exec]
theorem JPe:exec C (.ife c s t) δ=ifs1 C s t δ (evT C c δ):=by
 simp only [exec]
 cases h:evT C c δ with
 | ok k=>cases k<;>rfl
 | exc c=>rfl
 | bad=>rfl
theorem JPb:exec C (.app j e) δ=app1 j e δ (ev C e δ) δ[j]?:=by
 simp only [exec]
 cases h:δ[j]? with
 | none=>rfl
 | some u =>
  cases u with
  | own d =>
   cases d with
   | list ds=>simp only [app1];cases ev C e δ<;>rfl
   | _=>rfl
  | _=>rfl
theorem JPs:exec C (.ext j e) δ=ext1 j e δ (ev C e δ) δ[j]?:=by
 simp only [exec]
 cases h:δ[j]? with
 | none=>rfl
 | some u =>
  cases u with
  | own d =>
   cases d with
   | list ds=>simp only [ext1];cases ev C e δ<;>rfl
   | _=>rfl
  | _=>rfl
theorem JLA:exec C (.drop e) δ=JOB e δ (ev C e δ):=by simp only [exec];cases ev C e δ<;>rfl
theorem JLh:exec C (.for1 j e s) δ=for1 C j e s δ (evI C e δ):=by simp only [exec];cases evI C e δ<;>rfl
theorem JP9:exec C (.whl c s) δ=whl1 C c s δ:=by simp only [exec];rfl
theorem JML:exec C (.rais k) δ=.ex k:=by simp only [exec]
theorem JMc:exec C (.tryx s k j h) δ=try1 C k j h δ (exec C s δ):=by simp only [exec];cases exec C s δ<;>rfl
noncomputable def forN (C:Cn) (i:Nat) (b:S) (ds:List D):Fl->Fl
 | .nx δ'=>for2 C i b ds δ'
 | .ct δ'=>for2 C i b ds δ'
 | .bk δ'=>.nx δ'
 | r=>r
theorem for_nil:for2 C j s [] δ=.nx δ:=rfl
theorem JCo:for2 C j s (d::xs) δ=forN C j s xs (exec C s (δ.set j (.val d))):=by
 unfold for2 forL
 simp only [put1]
 cases exec C s (δ.set j (.val d))<;>rfl
noncomputable def pushc:R (Option D)->R (List D)->R (List D)
 | .ok (some y),.ok ys=>.ok (y::ys)
 | .ok none,r=>r
 | _,_=>.bad
noncomputable def mkl:R (List D)->R D
 | .ok ys=>.ok (.list ys)
 | .exc c=>.exc c
 | .bad=>.bad
theorem JBd {k:Nat} (hl:xs.length<=16777216):JCv C k e c δ (.ok xs)=mkl (JAs (JFM C k e c δ) xs):=by
 simp only [JCv,if_pos hl]
 cases JAs (JFM C k e c δ) xs<;>rfl
theorem JRA {f:D->R (Option D)}:JAs f []=.ok []:=rfl
theorem JOO {f:D->R (Option D)} (hf:∀c,f d≠.exc c):JAs f (d::xs)=pushc (f d) (JAs f xs):=by
 conv=>lhs;unfold JAs
 cases h:f d with
 | ok o =>
  cases o with
  | none=>rfl
  | some y =>
   simp only
   cases JAs f xs<;>rfl
 | exc c=>exact absurd h (hf c)
 | bad=>cases JAs f xs<;>rfl
theorem JJN {f:D->R (Option D)} {g:D->D}:∀ {xs:List D},(∀x∈xs,f x=.ok (some (g x)))->JAs f xs=.ok (xs.map g)
 | [],_=>rfl
 | x::xs,h=>by
  unfold JAs
  rw [h x (by simp),JJN fun y hy=>h y (by simp [hy])]
  rfl
theorem JEg {f:D->R (Option D)} {p:D->Bool} {g:D->D}:∀ {xs:List D},(∀x∈xs,f x=.ok (if p x=true then some (g x) else none))->JAs f xs=.ok ((xs.filter p).map g)
 | [],_=>rfl
 | x::xs,h=>by
  unfold JAs
  rw [h x (by simp)]
  have ih:=JEg (xs:=xs) fun y hy=>h y (by simp [hy])
  cases hp:p x
  ·simp only [q_v,if_false]
   rw [ih,q_x (by simp [hp])]
  ·simp only [if_true]
   rw [ih,q_y hp]
   rfl
noncomputable def opt1 (b:Bool):R D->R (Option D)
 | .ok y=>.ok (some y)
 | .exc c=>.exc c
 | .bad=>.bad
noncomputable def JGu (C:Cn) (e:E) (δ:Env):R Bool->R (Option D)
 | .ok true=>opt1 true (ev C e δ)
 | .ok false=>.ok none
 | .exc c=>.exc c
 | .bad=>.bad
theorem JBk:JFM C 0 e c δ x=JGu C e (.val x::δ) (evT C c (.val x::δ)):=by
 unfold JFM
 simp only [push,R.bind]
 cases h:evT C c (.val x::δ) with
 | ok k =>
  cases k
  ·rfl
  ·simp only [if_true,JGu]
   cases ev C e (.val x::δ)<;>rfl
 | exc c=>rfl
 | bad=>rfl
theorem item_eqT {n:Nat} {ys:List D} (h:ys.length=n+1):JFM C (n+1) e c δ (.tuple ys)=JGu C e (ys.map Sl.val++δ) (evT C c (ys.map Sl.val++δ)):=by
 have hp:push (n+1) (.tuple ys) δ=.ok (ys.map Sl.val++δ):=by unfold push;simp only [h,if_true]
 unfold JFM
 rw [hp]
 generalize ys.map Sl.val++δ=δ1
 simp only [R.bind]
 cases h:evT C c δ1 with
 | ok k =>
  cases k
  ·rfl
  ·simp only [if_true,JGu]
   cases ev C e δ1<;>rfl
 | exc c=>rfl
 | bad=>rfl
end
theorem JLM {i:Nat} {e:E} {δ:Env} {d:D}:asg1 i e δ (.ok d)=.nx ((after e d δ).set i (if e.fresh=true then .own d else .val d)):=by
 simp only [asg1]
 split<;>rfl
theorem JEc (s:Sl) (δ:Env):(s::δ)[0]? = some s:=rfl
theorem JEh (s:Sl) (δ:Env) (i:Nat):(s::δ)[i+1]? = δ[i]?:=rfl
theorem JI4 (b:Bool):tr1 (.ok (.bool b))=.ok b:=rfl
theorem if_tt {α:Sort _} (a b:α):(if true=true then a else b)=a:=rfl
theorem if_ff {α:Sort _} (a b:α):(if false=true then a else b)=b:=rfl
theorem JO9 {op:Operator} {x y:D}:bin1 op (.ok x) (.ok y)=binD op x y:=rfl
theorem JOM {i:Int}:neg1 (.ok (.int i))=.ok (.int (-i)):=rfl
theorem JOh {b:Bool}:not1 (.ok b)=.ok (.bool (!b)):=rfl
theorem JL3 {C:Cn} {b:E} {δ:Env}:and1 C b δ (.ok (.bool true))=ev C b δ:=rfl
theorem JMe {C:Cn} {b:E} {δ:Env}:and1 C b δ (.ok (.bool false))=.ok (.bool false):=rfl
theorem JO1 {C:Cn} {b:E} {δ:Env}:or1 C b δ (.ok (.bool true))=.ok (.bool true):=rfl
theorem JOV {C:Cn} {b:E} {δ:Env}:or1 C b δ (.ok (.bool false))=ev C b δ:=rfl
theorem JOU {op:CmpOp} {x y:D}:cmp1 op (.ok x) (.ok y)=cmpD op x y:=rfl
theorem JO7 {n:Bool} {x:D}:isN1 n (.ok x)=.ok (.bool (if n=true then !isNone x else isNone x)):=rfl
theorem JPG {b c:Bool}:isB1 b (.ok (.bool c))=.ok (.bool (c==b)):=rfl
theorem JL9 {C:Cn} {a b:E} {δ:Env}:ife1 C a b δ (.ok true)=ev C a δ:=rfl
theorem JLY {C:Cn} {a b:E} {δ:Env}:ife1 C a b δ (.ok false)=ev C b δ:=rfl
theorem JQT {xs:List D}:tup1 (.ok xs)=.ok (.tuple xs):=rfl
theorem JRS {ks:List Str} {xs:List D}:dct1 ks (.ok xs)=.ok (.dict ((ks.map PyData.str).zip xs)):=rfl
theorem JOP {k:Nat} {xs:List D}:rep1 k (.ok xs)=.ok (.list (List.replicate k xs).flatten):=rfl
theorem JPV {o:O1} {x:D}:fn11 o (.ok x)=op1D o x:=rfl
theorem JPT {k:XO} {xs:List D}:xop1 k (.ok xs)=xD k xs:=rfl
theorem k_rev {xs:List D}:xD .rev [.list xs]=.ok (.list xs.reverse):=rfl
theorem JGU {k:XO} {es:E} {j:Nat}:(E.xop k es).uses j=es.uses j:=rfl
theorem JLe {b c:Bool}:JNS b (.ok (.bool c))=.ok (.bool (!(c==b))):=rfl
theorem JQg {lo hi:Option Int} {xs:List D}:op1D (.slice lo hi) (.tuple xs)=.ok (.tuple (cutD xs lo hi)):=rfl
theorem JQJ {lo hi:Option Int} {xs:List D}:op1D (.slice lo hi) (.list xs)=.ok (.list (cutD xs lo hi)):=rfl
theorem k_tt {xs:List D}:op1D .toTup (.tuple xs)=.ok (.tuple xs):=rfl
theorem k_tl {xs:List D}:op1D .toTup (.list xs)=.ok (.tuple xs):=rfl
theorem k_lt {xs:List D}:op1D .toLst (.tuple xs)=.ok (.list xs):=rfl
theorem k_ll {xs:List D}:op1D .toLst (.list xs)=.ok (.list xs):=rfl
theorem JJR {e:E} {δ:Env} {c:Nat}:JOB e δ (.exc c)=.ex c:=rfl
theorem JQP {xs:List D}:lst1 (.ok xs)=.ok (.list xs):=rfl
theorem JQp {x y:D}:idx1 (.ok x) (.ok y)=idxD x y:=rfl
theorem JLr {C:Cn} {f:Nat} {xs:List D}:JHP C f (.ok xs)=C.fn f xs:=rfl
theorem JOS {b:Blt} {xs:List D}:blt1 b (.ok xs)=bltD b xs:=rfl
theorem JQc {C:Cn} {t:Ty} {x:D}:isi1 C t (.ok x)=isiD C.sub x t:=rfl
theorem JIw {x:List D} {y:D}:JMC (.ok (.list x)) (.ok y)=JHO (.list x) y:=rfl
theorem JHS {x:List D} {y:D}:JLE (.ok (.list x)) (.ok y)=JI0 (.list x) y:=rfl
theorem JO6 {k:Str} {v:D} {x:List (D×D)} {y z:D}:get1 (.ok (.dict ((.str k,v)::x))) (.ok y) (.ok z)=JNe (.dict ((.str k,v)::x)) y z:=rfl
theorem JL0 {x:D} {xs:List D}:JJj (.ok x) (.ok xs)=.ok (x::xs):=rfl
theorem JHe {C:Cn} {b:E} {δ:Env}:andT C b δ (.ok true)=evT C b δ:=rfl
theorem JID {C:Cn} {b:E} {δ:Env}:andT C b δ (.ok false)=.ok false:=rfl
theorem JLa {C:Cn} {b:E} {δ:Env}:orT C b δ (.ok true)=.ok true:=rfl
theorem JLs {C:Cn} {b:E} {δ:Env}:orT C b δ (.ok false)=evT C b δ:=rfl
theorem JQu {d:D}:its1 (.ok d)=JAa d:=rfl
theorem JQL {d:List D}:rng1 (.ok d)=rngD d:=rfl
theorem JRb {C:Cn} {r:S} {δ:Env}:seq1 C r (.nx δ)=exec C r δ:=rfl
theorem JK9 {C:Cn} {r:S} {d:D}:seq1 C r (.rt d)=.rt d:=rfl
theorem JLI {C:Cn} {r:S} {c:Nat}:seq1 C r (.ex c)=.ex c:=rfl
theorem JL5 {C:Cn} {r:S} {δ:Env}:seq1 C r (.bk δ)=.bk δ:=rfl
theorem JK4 {C:Cn} {r:S} {δ:Env}:seq1 C r (.ct δ)=.ct δ:=rfl
theorem JLO {i:Nat} {e:E} {δ:Env} {c:Nat}:asg1 i e δ (.exc c)=.ex c:=rfl
theorem JP7 {is:List Nat} {e:E} {δ:Env} {d:D}:unp1 is e δ (.ok d)=unp2 is (after e d δ) (JAz is.length d):=rfl
theorem JLu {is:List Nat} {δ:Env} {xs:List D}:unp2 is δ (.ok xs)=.nx (JBl is xs δ):=rfl
theorem JO2 {d:D}:ret1 (.ok d)=.rt d:=rfl
theorem JLF {c:Nat}:ret1 (.exc c)=.ex c:=rfl
theorem JMd {C:Cn} {a b:S} {δ:Env}:ifs1 C a b δ (.ok true)=exec C a δ:=rfl
theorem JMS {C:Cn} {a b:S} {δ:Env}:ifs1 C a b δ (.ok false)=exec C b δ:=rfl
theorem JMg {C:Cn} {a b:S} {δ:Env} {c:Nat}:ifs1 C a b δ (.exc c)=.ex c:=rfl
theorem JPp {i:Nat} {e:E} {δ:Env} {x:D} {ds:List D}:app1 i e δ (.ok x) (some (.own (.list ds)))=JBh i ds e x δ:=rfl
theorem JRU {i:Nat} {e:E} {δ:Env} {x:D} {ds:List D}:ext1 i e δ (.ok x) (some (.own (.list ds)))=JFi i ds e x δ:=rfl
theorem JLR {e:E} {δ:Env} {x:D}:JOB e δ (.ok x)=.nx (after e x δ):=rfl
theorem JQs {C:Cn} {i:Nat} {e:E} {b:S} {δ:Env} {xs:List D}:for1 C i e b δ (.ok xs)=for2 C i b xs (JAp e 0 δ):=rfl
theorem JLD {C:Cn} {i:Nat} {b:S} {ds:List D} {δ:Env}:forN C i b ds (.nx δ)=for2 C i b ds δ:=rfl
theorem JLQ {C:Cn} {i:Nat} {b:S} {ds:List D} {δ:Env}:forN C i b ds (.ct δ)=for2 C i b ds δ:=rfl
theorem JMI {C:Cn} {i:Nat} {b:S} {ds:List D} {δ:Env}:forN C i b ds (.bk δ)=.nx δ:=rfl
theorem JLP {C:Cn} {i:Nat} {b:S} {ds:List D} {d:D}:forN C i b ds (.rt d)=.rt d:=rfl
theorem JLH {C:Cn} {i:Nat} {b:S} {ds:List D} {c:Nat}:forN C i b ds (.ex c)=.ex c:=rfl
theorem JME {x:Bool} {δ:Env}:JHu x (.nx δ)=.ok .none:=rfl
theorem JLU {x:Bool} {d:D}:JHu x (.rt d)=.ok d:=rfl
theorem JL1 {c:Nat}:JHu true (.ex c)=.exc c:=rfl
theorem JK8 {C:Cn} {c i:Nat} {h:S} {δ δ':Env}:try1 C c i h δ (.nx δ')=.nx δ':=rfl
theorem JLg {C:Cn} {c i:Nat} {h:S} {δ:Env} {d:D}:try1 C c i h δ (.rt d)=.rt d:=rfl
theorem JLW {C:Cn} {e:E} {δ:Env}:JGu C e δ (.ok true)=opt1 true (ev C e δ):=rfl
theorem JHL {C:Cn} {e:E} {δ:Env}:JGu C e δ (.ok false)=.ok none:=rfl
theorem JPB {b:Bool} {y:D}:opt1 b (.ok y)=.ok (some y):=rfl
theorem JIU {C:Cn} {f c:Nat}:JHP C f (.exc c)=.exc c:=rfl
theorem JIb {c:Nat} {r:R (List D)}:JJj (.exc c) r=.exc c:=rfl
theorem JGj {x:D} {c:Nat}:JJj (.ok x) (.exc c)=.exc c:=rfl
theorem JQl {xs:List D}:bltD .len [.list xs]=.ok (.int xs.length):=rfl
theorem JMN {xs:List D}:bltD .len [.tuple xs]=.ok (.int xs.length):=rfl
theorem JRL {i:Int}:bltD .abs [.int i]=.ok (.int (if i<0 then -i else i)):=rfl
theorem JQr {xs:List D}:bltD .min [.list xs]=minD xs:=rfl
theorem JE9 {i j:Nat}:(E.var i).uses j=(i==j):=rfl
theorem JEO {j:Nat}:E.nil.uses j=false:=rfl
theorem JDK {a r:E} {j:Nat}:(E.cons a r).uses j=(a.uses j || r.uses j):=rfl
theorem us_lst {a:E} {j:Nat}:(E.lst a).uses j=a.uses j:=rfl
theorem us_tup {a:E} {j:Nat}:(E.tup a).uses j=a.uses j:=rfl
theorem us_isi {a:E} {t:Ty} {j:Nat}:(E.isi a t).uses j=a.uses j:=rfl
theorem JFX {a:E} {f:Nat} {j:Nat}:(E.call f a).uses j=a.uses j:=rfl
theorem JMR {a:E} {f:Blt} {j:Nat}:(E.blt f a).uses j=a.uses j:=rfl
theorem us_idx {a b:E} {j:Nat}:(E.idx a b).uses j=(a.uses j || b.uses j):=rfl
theorem us_bin {a b:E} {o:Operator} {j:Nat}:(E.bin o a b).uses j=(a.uses j || b.uses j):=rfl
theorem JH1 {k:Nat} {a b c:E} {j:Nat}:(E.cmpr k a b c).uses j=(b.uses j || a.uses (j+(if k=0 then 1 else k)) || c.uses (j+(if k=0 then 1 else k))):=rfl
theorem us_fn1 {o:O1} {a:E} {j:Nat}:(E.fn1 o a).uses j=a.uses j:=rfl
theorem us_isnB {a:E} {b:Bool} {j:Nat}:(E.isnB a b).uses j=a.uses j:=rfl
theorem JMA {i:Int} {j:Nat}:(E.cint i).uses j=false:=rfl
theorem us_bl {i:Bool} {j:Nat}:(E.cbl i).uses j=false:=rfl
theorem us_str {i:Str} {j:Nat}:(E.cstr i).uses j=false:=rfl
end VI.VP
end
local macro_rules | `(tactic| dsimp! [$ts,*])=>`(tactic| simp only [VI.VP.v_var,VI.VP.JPy,VI.VP.v_bl,VI.VP.JRK,VI.VP.JQw,VI.VP.JQW,VI.VP.JQy,VI.VP.JNm,VI.VP.v_not,VI.VP.v_and,VI.VP.v_or,VI.VP.JOx,VI.VP.JRO,VI.VP.JOf,VI.VP.JQ9,VI.VP.JPI,VI.VP.JQb,VI.VP.JOr,VI.VP.JL7,VI.VP.JPo,VI.VP.JOi,
 VI.VP.v_count,VI.VP.JJB,VI.VP.v_get,VI.VP.JK6,VI.VP.JPH,VI.VP.JRJ,VI.VP.JPN,VI.VP.JPj,VI.VP.JRH,VI.VP.JPT,VI.VP.JMb,VI.VP.JGN,VI.VP.JPC,VI.VP.JOZ,VI.VP.JPV,VI.VP.JLe,VI.VP.JQg,VI.VP.JQJ,VI.VP.k_tt,VI.VP.k_tl,VI.VP.k_lt,VI.VP.k_ll,VI.VP.JLx,VI.VP.JIM,VI.VP.JK1,VI.VP.JRY,VI.VP.t_or,VI.VP.JOm,VI.VP.t_bl,VI.VP.JPc,VI.VP.JJw,VI.VP.JJ4,VI.VP.JRG,VI.VP.JLy,VI.VP.JRP,VI.VP.JQh,VI.VP.JP0,VI.VP.JO0,VI.VP.JOa,VI.VP.l_idx,VI.VP.JMM,VI.VP.JRZ,VI.VP.JPF,
 VI.VP.JOQ,VI.VP.JGF,VI.VP.JMK,VI.VP.JQv,VI.VP.JOt,VI.VP.JQd,VI.VP.JQU,VI.VP.JOg,VI.VP.JLZ,VI.VP.JPe,VI.VP.JPb,VI.VP.JPs,VI.VP.JLA,VI.VP.JLh,VI.VP.JP9,VI.VP.JML,VI.VP.JMc,
 VI.VP.JI4,VI.VP.JLM,VI.VP.JO9,VI.VP.JOM,VI.VP.JOh,VI.VP.JL3,VI.VP.JMe,VI.VP.JO1,VI.VP.JOV,VI.VP.JOU,VI.VP.JO7,VI.VP.JPG,VI.VP.JL9,VI.VP.JLY,VI.VP.JQT,VI.VP.JQP,VI.VP.JQp,VI.VP.JLr,VI.VP.JOS,VI.VP.JQc,VI.VP.JIw,VI.VP.JHS,VI.VP.JO6,VI.VP.JL0,VI.VP.JHe,VI.VP.JID,VI.VP.JLa,VI.VP.JLs,VI.VP.JQu,VI.VP.JQL,VI.VP.JRb,VI.VP.JK9,VI.VP.JLI,VI.VP.JL5,VI.VP.JK4,VI.VP.JLO,VI.VP.JP7,VI.VP.JLu,VI.VP.JO2,VI.VP.JLF,VI.VP.JMd,VI.VP.JMS,VI.VP.JMg,VI.VP.JPp,VI.VP.JRU,VI.VP.JLR,VI.VP.JQs,VI.VP.JLD,VI.VP.JLQ,VI.VP.JMI,VI.VP.JLP,VI.VP.JLH,VI.VP.JME,VI.VP.JLU,VI.VP.JL1,VI.VP.JK8,VI.VP.JLg,VI.VP.JLW,VI.VP.JHL,VI.VP.JPB,VI.VP.JIU,VI.VP.JIb,VI.VP.JGj,VI.VP.JQl,VI.VP.JMN,VI.VP.JRL,VI.VP.JQr,VI.VP.JRS,VI.VP.JOP,VI.VP.JJR,
 VI.VP.look_zero,VI.VP.look_succ,VI.VP.get_val,VI.VP.get_own,VI.VP.JEc,VI.VP.JEh,List.map_cons,List.map_nil,List.cons_append,List.nil_append,
 List.replicate_succ,List.replicate_zero,Nat.reduceSub,List.set_cons_zero,List.set_cons_succ,VI.E.fresh,VI.VP.JF2,VI.VP.JDF,VI.VP.JDm,VI.VP.JDS,Bool.false_and,q_v,eq_self,if_true,if_false,VI.VP.i_ne,VI.VP.i_eq,VI.VP.i_lt,VI.VP.i_gt,VI.VP.i_le,VI.VP.i_ge,
 VI.VP.F_ne,VI.VP.F_eq,VI.VP.JMh,VI.VP.JLJ,VI.VP.JOv,VI.VP.JRC,$ts,*])
section
namespace VI.VP
noncomputable def b_0:S:=(.cons (.asg 2 (.blt .abs (.cons (.var 0) .nil))) (.cons (.asg 3 (.blt .abs (.cons (.var 1) .nil))) (.cons (.whl (.cmp .NotEq (.var 3) (.cint 0)) (.cons (.asg 4 (.bin .Mod (.var 2) (.var 3))) (.cons (.asg 2 (.var 3)) (.cons (.asg 3 (.var 4)) .nil)))) (.cons (.ret (.var 2)) .nil))))
noncomputable def d_0:Fd:=⟨2,5,b_0⟩
noncomputable def b_1:S:=(.cons (.ife (.cmp .Eq (.var 1) (.cint 0)) (.cons (.rais 1) .nil) .nil) (.cons (.asg 2 (.call 0 (.cons (.var 0) (.cons (.var 1) .nil)))) (.cons (.ife (.cmp .Lt (.var 1) (.cint 0)) (.cons (.asg 2 (.neg (.var 2))) .nil) .nil) (.cons (.ret (.tup (.cons (.bin .FloorDiv (.var 0) (.var 2)) (.cons (.bin .FloorDiv (.var 1) (.var 2)) .nil)))) .nil))))
noncomputable def d_1:Fd:=⟨2,3,b_1⟩
noncomputable def b_2:S:=(.cons (.ret (.tup (.cons (.var 0) (.cons (.cint 1) .nil)))) .nil)
noncomputable def d_2:Fd:=⟨1,1,b_2⟩
noncomputable def b_3:S:=(.cons (.ret (.call 1 (.cons (.bin .Add (.bin .Mult (.idx (.var 0) (.cint 0)) (.idx (.var 1) (.cint 1))) (.bin .Mult (.idx (.var 1) (.cint 0)) (.idx (.var 0) (.cint 1)))) (.cons (.bin .Mult (.idx (.var 0) (.cint 1)) (.idx (.var 1) (.cint 1))) .nil)))) .nil)
noncomputable def d_3:Fd:=⟨2,2,b_3⟩
noncomputable def b_4:S:=(.cons (.ret (.call 1 (.cons (.bin .Sub (.bin .Mult (.idx (.var 0) (.cint 0)) (.idx (.var 1) (.cint 1))) (.bin .Mult (.idx (.var 1) (.cint 0)) (.idx (.var 0) (.cint 1)))) (.cons (.bin .Mult (.idx (.var 0) (.cint 1)) (.idx (.var 1) (.cint 1))) .nil)))) .nil)
noncomputable def d_4:Fd:=⟨2,2,b_4⟩
noncomputable def b_5:S:=(.cons (.ret (.call 1 (.cons (.bin .Mult (.idx (.var 0) (.cint 0)) (.idx (.var 1) (.cint 0))) (.cons (.bin .Mult (.idx (.var 0) (.cint 1)) (.idx (.var 1) (.cint 1))) .nil)))) .nil)
noncomputable def d_5:Fd:=⟨2,2,b_5⟩
noncomputable def b_6:S:=(.cons (.ret (.cmp .Lt (.bin .Mult (.idx (.var 0) (.cint 0)) (.idx (.var 1) (.cint 1))) (.bin .Mult (.idx (.var 1) (.cint 0)) (.idx (.var 0) (.cint 1))))) .nil)
noncomputable def d_6:Fd:=⟨2,2,b_6⟩
noncomputable def b_7:S:=(.cons (.asg 1 (.idx (.var 0) (.cint 0))) (.cons (.for1 2 (.var 0) (.cons (.ife (.call 6 (.cons (.var 2) (.cons (.var 1) .nil))) (.cons (.asg 1 (.var 2)) .nil) .nil) .nil)) (.cons (.ret (.var 1)) .nil)))
noncomputable def d_7:Fd:=⟨1,3,b_7⟩
noncomputable def b_8:S:=(.cons (.asg 1 (.idx (.var 0) (.cint 0))) (.cons (.for1 2 (.var 0) (.cons (.ife (.call 6 (.cons (.var 1) (.cons (.var 2) .nil))) (.cons (.asg 1 (.var 2)) .nil) .nil) .nil)) (.cons (.ret (.var 1)) .nil)))
noncomputable def d_8:Fd:=⟨1,3,b_8⟩
noncomputable def b_9:S:=(.cons (.ret (.bin .FloorDiv (.bin .Add (.bin .Mult (.cint 2) (.idx (.var 0) (.cint 0))) (.idx (.var 0) (.cint 1))) (.bin .Mult (.cint 2) (.idx (.var 0) (.cint 1))))) .nil)
noncomputable def d_9:Fd:=⟨1,1,b_9⟩
noncomputable def b_10:S:=(.cons (.ret (.call 3 (.cons (.var 0) (.cons (.call 5 (.cons (.var 2) (.cons (.call 4 (.cons (.var 1) (.cons (.var 0) .nil))) .nil))) .nil)))) .nil)
noncomputable def d_10:Fd:=⟨3,3,b_10⟩
noncomputable def b_11:S:=(.cons (.ife (.cmp .Lt (.var 1) (.blt .len (.cons (.var 0) .nil))) (.cons (.ret (.idx (.var 0) (.var 1))) .nil) .nil) (.cons (.ife (.cmp .Eq (.var 0) (.lst .nil)) (.cons (.ret (.cint 0)) .nil) .nil) (.cons (.ret (.bin .Add (.bin .Mult (.idx (.var 0) (.bin .Mod (.var 1) (.blt .len (.cons (.var 0) .nil)))) (.cint 31)) (.var 1))) .nil)))
noncomputable def d_11:Fd:=⟨2,2,b_11⟩
noncomputable def b_12:S:=(.cons (.asg 3 (.bin .Mod (.bin .Mult (.bin .Add (.call 11 (.cons (.var 0) (.cons (.var 1) .nil))) (.bin .Mult (.cint 6151) (.bin .Add (.var 1) (.cint 1)))) (.cint 40692)) (.cint 2147483399))) (.cons (.ret (.bin .Mod (.bin .Mod (.bin .Add (.bin .Mult (.var 3) (.var 3)) (.bin .FloorDiv (.var 3) (.cint 31))) (.cint 2147483629)) (.var 2))) .nil))
noncomputable def d_12:Fd:=⟨3,4,b_12⟩
noncomputable def b_13:S:=(.cons (.whl (.cmp .NotEq (.var 1) (.cint 0)) (.cons (.unp [0,1] (.tup (.cons (.var 1) (.cons (.bin .Mod (.var 0) (.var 1)) .nil)))) .nil)) (.cons (.ret (.blt .abs (.cons (.var 0) .nil))) .nil))
noncomputable def d_13:Fd:=⟨2,2,b_13⟩
noncomputable def b_14:S:=(.cons (.asg 2 (.bin .Mult (.call 13 (.cons (.var 0) (.cons (.var 1) .nil))) (.ife (.cmp .Gt (.var 1) (.cint 0)) (.cint 1) (.neg (.cint 1))))) (.cons (.ret (.tup (.cons (.bin .FloorDiv (.var 0) (.var 2)) (.cons (.bin .FloorDiv (.var 1) (.var 2)) .nil)))) .nil))
noncomputable def d_14:Fd:=⟨2,3,b_14⟩
noncomputable def b_15:S:=(.cons (.asg 2 (.bin .Add (.cint 1) (.call 12 (.cons (.var 0) (.cons (.var 1) (.cons (.cint 4) .nil)))))) (.cons (.ret (.call 14 (.cons (.bin .Sub (.call 12 (.cons (.var 0) (.cons (.bin .Add (.var 1) (.cint 1)) (.cons (.bin .Add (.bin .Mult (.cint 12) (.var 2)) (.cint 1)) .nil)))) (.bin .Mult (.cint 6) (.var 2))) (.cons (.var 2) .nil)))) .nil))
noncomputable def d_15:Fd:=⟨2,3,b_15⟩
noncomputable def b_16:S:=(.cons (.asg 2 (.bin .Add (.cint 1) (.call 12 (.cons (.var 0) (.cons (.var 1) (.cons (.cint 3) .nil)))))) (.cons (.ret (.call 14 (.cons (.bin .Add (.cint 1) (.call 12 (.cons (.var 0) (.cons (.bin .Add (.var 1) (.cint 1)) (.cons (.bin .Mult (.cint 6) (.var 2)) .nil))))) (.cons (.var 2) .nil)))) .nil))
noncomputable def d_16:Fd:=⟨2,3,b_16⟩
noncomputable def b_17:S:=(.cons (.ret (.call 14 (.cons (.bin .Add (.bin .Mult (.idx (.var 0) (.cint 0)) (.idx (.var 1) (.cint 1))) (.bin .Mult (.idx (.var 1) (.cint 0)) (.idx (.var 0) (.cint 1)))) (.cons (.bin .Mult (.idx (.var 0) (.cint 1)) (.idx (.var 1) (.cint 1))) .nil)))) .nil)
noncomputable def d_17:Fd:=⟨2,2,b_17⟩
noncomputable def b_18:S:=(.cons (.ret (.call 14 (.cons (.bin .Sub (.bin .Mult (.idx (.var 0) (.cint 0)) (.idx (.var 1) (.cint 1))) (.bin .Mult (.idx (.var 1) (.cint 0)) (.idx (.var 0) (.cint 1)))) (.cons (.bin .Mult (.idx (.var 0) (.cint 1)) (.idx (.var 1) (.cint 1))) .nil)))) .nil)
noncomputable def d_18:Fd:=⟨2,2,b_18⟩
noncomputable def b_19:S:=(.cons (.ret (.call 14 (.cons (.bin .Mult (.idx (.var 0) (.cint 0)) (.idx (.var 1) (.cint 0))) (.cons (.bin .Mult (.idx (.var 0) (.cint 1)) (.idx (.var 1) (.cint 1))) .nil)))) .nil)
noncomputable def d_19:Fd:=⟨2,2,b_19⟩
noncomputable def b_20:S:=(.cons (.ret (.call 14 (.cons (.bin .Mult (.idx (.var 0) (.cint 0)) (.idx (.var 1) (.cint 1))) (.cons (.bin .Mult (.idx (.var 0) (.cint 1)) (.idx (.var 1) (.cint 0))) .nil)))) .nil)
noncomputable def d_20:Fd:=⟨2,2,b_20⟩
noncomputable def b_21:S:=(.cons (.ret (.cmp .Lt (.bin .Mult (.idx (.var 0) (.cint 0)) (.idx (.var 1) (.cint 1))) (.bin .Mult (.idx (.var 1) (.cint 0)) (.idx (.var 0) (.cint 1))))) .nil)
noncomputable def d_21:Fd:=⟨2,2,b_21⟩
end VI.VP
end
section
namespace VI.VP
open PySem Fr
structure TabF (tab:Nat->Option Fd):Prop where
 h0:tab 0=some d_0
 h1:tab 1=some d_1
 h2:tab 2=some d_2
 h3:tab 3=some d_3
 h4:tab 4=some d_4
 h5:tab 5=some d_5
 h6:tab 6=some d_6
section
variable {x:Bool} {tab:Nat->Option Fd} {glo:Nat->R D} {sub:Nat->Nat->Bool} {n:Nat}
theorem JKn {C:Cn} (one other:D):∀(m:Nat) (a b:Int) (z:Sl),z.isOwn=false->0<=a->0<=b->b.natAbs=m->∃z',whl1 C (.cmp .NotEq (.var 3) (.cint 0)) (.cons (.asg 4 (.bin .Mod (.var 2) (.var 3))) (.cons (.asg 2 (.var 3)) (.cons (.asg 3 (.var 4)) .nil)))
  [.val one,.val other,.val (.int a),.val (.int b),z]=.nx [.val one,.val other,.val (.int (a.gcd b)),.val (.int 0),z']:=by
 intro m
 induction m using Nat.strongRecOn with
 | ind m ih =>
  intro a b z hz ha hb hm
  by_cases h0:b=0
  ·subst h0
   refine ⟨z,?_⟩
   have e:((a.gcd 0:Nat):Int)=a:=by simp;omega
   rw [e]
   exact JCy (by dsimp! [];simp)
  ·have hf:=JH9 a b h0
   obtain ⟨z',h⟩:=ih (a.fmod b).natAbs (by omega) b (a.fmod b) (.val (.int (a.fmod b))) rfl hb (Int.fmod_nonneg_of_pos a (by omega)) rfl
   refine ⟨z',?_⟩
   rw [JFy] at h
   rw [<-h]
   refine JDJ (by dsimp! [];simp [h0]) ?_
   cases z with
   | own d=>cases hz
   | no=>dsimp! [JFP h0]
   | val d=>dsimp! [JFP h0]
theorem JMj (a b:Int):((if a<0 then -a else a).gcd (if b<0 then -b else b))=a.gcd b:=by
 split<;>split<;>simp
theorem JKv (T:TabF tab) (a b:Int):run x tab glo sub (n+1) 0 [.int a,.int b]=.ok (.int (a.gcd b)):=by
 rw [JAB T.h0,JAA rfl]
 obtain ⟨z',h⟩:=JKn (C:=⟨run x tab glo sub n,glo,sub⟩) (.int a) (.int b) _ (if a<0 then -a else a) (if b<0 then -b else b) .no rfl (by split<;>omega) (by split<;>omega) rfl
 rw [JMj] at h
 dsimp! [d_0,b_0,h]
theorem JEI (T:TabF tab) (a b:Int) (hb:b≠0) (lb:L b):run x tab glo sub (n+2) 1 [.int a,.int b]=.ok (F (Rat.divInt a b)):=by
 rw [JAB T.h1,JAA rfl]
 have hg:a.gcd b≠0:=by
  intro z
  exact hb (Int.gcd_eq_zero_iff.mp z).2
 have lg:(a.gcd b)<=b.natAbs:=Int.gcd_le_natAbs_right _ hb
 unfold L at lb
 have q1:=JCk a b hb
 have q2:=JDs a b hb
 by_cases h:b<0
 ·rw [if_pos h] at q1 q2
  dsimp! [d_1,b_1,JKv T,hb,h,decide_true,decide_false,JId (j:=-((a.gcd b:Nat):Int)) (by omega) (by unfold L;omega),q1,q2,F]
 ·rw [if_neg h] at q1 q2
  dsimp! [d_1,b_1,JKv T,hb,h,decide_true,decide_false,JId (j:=((a.gcd b:Nat):Int)) (by omega) (by unfold L;omega),q1,q2,F]
theorem JNM (T:TabF tab) {p q:Rat} (hp:Q p) (hq:Q q):run x tab glo sub (n+3) 3 [F p,F q]=.ok (F (p+q)):=by
 rw [JAB T.h3,JAA rfl]
 dsimp! [d_3,b_3,JBM (hp.Ln (by omega)) (hq.Ld (by omega)),JBM (hq.Ln (by omega)) (hp.Ld (by omega)),JBM (hp.Ld (by omega)) (hq.Ld (by omega)),
  JEI T _ _ (Int.mul_ne_zero (JAb p) (JAb q)) (L.of (JAl hp.d hq.d) (by omega)),JI6]
theorem JD1 (T:TabF tab) {p q:Rat} (hp:Q p) (hq:Q q):run x tab glo sub (n+3) 4 [F p,F q]=.ok (F (p - q)):=by
 rw [JAB T.h4,JAA rfl]
 dsimp! [d_4,b_4,JBM (hp.Ln (by omega)) (hq.Ld (by omega)),JBM (hq.Ln (by omega)) (hp.Ld (by omega)),JBM (hp.Ld (by omega)) (hq.Ld (by omega)),
  JEI T _ _ (Int.mul_ne_zero (JAb p) (JAb q)) (L.of (JAl hp.d hq.d) (by omega)),JH7]
theorem JCm (T:TabF tab) {p q:Rat} (hp:Q p) (hq:Q q):run x tab glo sub (n+3) 5 [F p,F q]=.ok (F (p*q)):=by
 rw [JAB T.h5,JAA rfl]
 dsimp! [d_5,b_5,JBM (hp.Ln (by omega)) (hq.Ln (by omega)),JBM (hp.Ld (by omega)) (hq.Ld (by omega)),
  JEI T _ _ (Int.mul_ne_zero (JAb p) (JAb q)) (L.of (JAl hp.d hq.d) (by omega)),JHU]
theorem lt_iff (p q:Rat):p.num*q.den<q.num*p.den↔p<q:=(Rat.lt_iff p q).symm
theorem JDH (T:TabF tab) {p q:Rat} (hp:Q p) (hq:Q q):run x tab glo sub (n+1) 6 [F p,F q]=.ok (.bool (decide (p<q))):=by
 rw [JAB T.h6,JAA rfl]
 dsimp! [d_6,b_6,JBM (hp.Ln (by omega)) (hq.Ld (by omega)),JBM (hq.Ln (by omega)) (hp.Ld (by omega)),lt_iff]
theorem JDx (T:TabF tab) (i:Int):run x tab glo sub (n+1) 2 [.int i]=.ok (.tuple [.int i,.int 1]):=by
 rw [JAB T.h2,JAA rfl]
 dsimp! [d_2,b_2]
structure TabL (tab:Nat->Option Fd):Prop where
 h11:tab 11=some d_11
 h12:tab 12=some d_12
 h13:tab 13=some d_13
 h14:tab 14=some d_14
 h15:tab 15=some d_15
 h16:tab 16=some d_16
 h17:tab 17=some d_17
 h18:tab 18=some d_18
 h19:tab 19=some d_19
 h20:tab 20=some d_20
 h21:tab 21=some d_21
theorem JKt {C:Cn}:∀(m:Nat) (a b:Int),b.natAbs=m->∃g:Int,g.natAbs=a.gcd b/\whl1 C (.cmp .NotEq (.var 1) (.cint 0)) (.cons (.unp [0,1] (.tup (.cons (.var 1) (.cons (.bin .Mod (.var 0) (.var 1)) .nil)))) .nil) [.val (.int a),.val (.int b)]=.nx [.val (.int g),.val (.int 0)]:=by
 intro m
 induction m using Nat.strongRecOn with
 | ind m ih =>
  intro a b hm
  by_cases h0:b=0
  ·subst h0
   exact ⟨a,by simp,JCy (by dsimp! [];simp)⟩
  ·have hf:=JH9 a b h0
   obtain ⟨g,h1,h2⟩:=ih (a.fmod b).natAbs (by omega) b (a.fmod b) rfl
   refine ⟨g,by rw [h1,JFy],?_⟩
   rw [<-h2]
   refine JDJ (by dsimp! [];simp [h0]) ?_
   dsimp! [JFP h0,JAz,JBl,List.length_cons,List.length_nil]
theorem JDe (T:TabL tab) (a b:Int):run x tab glo sub (n+1) 13 [.int a,.int b]=.ok (.int (a.gcd b)):=by
 rw [JAB T.h13,JAA rfl]
 obtain ⟨g,h1,h2⟩:=JKt (C:=⟨run x tab glo sub n,glo,sub⟩) _ a b rfl
 dsimp! [d_13,b_13,h2]
 congr 2
 split<;>omega
theorem JDL (T:TabL tab) (a b:Int) (hb:b≠0) (lb:L b):run x tab glo sub (n+2) 14 [.int a,.int b]=.ok (F (Rat.divInt a b)):=by
 rw [JAB T.h14,JAA rfl]
 have hg:a.gcd b≠0:=by
  intro z
  exact hb (Int.gcd_eq_zero_iff.mp z).2
 have lg:(a.gcd b)<=b.natAbs:=Int.gcd_le_natAbs_right _ hb
 unfold L at lb
 have q1:=JCk a b hb
 have q2:=JDs a b hb
 by_cases h:b<0
 ·rw [if_pos h] at q1 q2
  have h':¬0<b:=by omega
  dsimp! [d_14,b_14,JDe T,h',decide_true,decide_false,JF4 (i:=((a.gcd b:Nat):Int)) (j:=-1) (by decide),Int.mul_neg_one,JId (j:=-((a.gcd b:Nat):Int)) (by omega) (by unfold L;omega),q1,q2,F]
 ·rw [if_neg h] at q1 q2
  have h':0<b:=by omega
  dsimp! [d_14,b_14,JDe T,h',decide_true,decide_false,JF4 (i:=((a.gcd b:Nat):Int)) (j:=1) (by decide),Int.mul_one,JId (j:=((a.gcd b:Nat):Int)) (by omega) (by unfold L;omega),q1,q2,F]
theorem JJX (T:TabL tab) {p q:Rat} (hp:Q p) (hq:Q q):run x tab glo sub (n+3) 17 [F p,F q]=.ok (F (p+q)):=by
 rw [JAB T.h17,JAA rfl]
 dsimp! [d_17,b_17,JBM (hp.Ln (by omega)) (hq.Ld (by omega)),JBM (hq.Ln (by omega)) (hp.Ld (by omega)),JBM (hp.Ld (by omega)) (hq.Ld (by omega)),
  JDL T _ _ (Int.mul_ne_zero (JAb p) (JAb q)) (L.of (JAl hp.d hq.d) (by omega)),JI6]
theorem JHQ (T:TabL tab) {p q:Rat} (hp:Q p) (hq:Q q):run x tab glo sub (n+3) 18 [F p,F q]=.ok (F (p - q)):=by
 rw [JAB T.h18,JAA rfl]
 dsimp! [d_18,b_18,JBM (hp.Ln (by omega)) (hq.Ld (by omega)),JBM (hq.Ln (by omega)) (hp.Ld (by omega)),JBM (hp.Ld (by omega)) (hq.Ld (by omega)),
  JDL T _ _ (Int.mul_ne_zero (JAb p) (JAb q)) (L.of (JAl hp.d hq.d) (by omega)),JH7]
theorem JHx (T:TabL tab) {p q:Rat} (hp:Q p) (hq:Q q):run x tab glo sub (n+3) 19 [F p,F q]=.ok (F (p*q)):=by
 rw [JAB T.h19,JAA rfl]
 dsimp! [d_19,b_19,JBM (hp.Ln (by omega)) (hq.Ln (by omega)),JBM (hp.Ld (by omega)) (hq.Ld (by omega)),
  JDL T _ _ (Int.mul_ne_zero (JAb p) (JAb q)) (L.of (JAl hp.d hq.d) (by omega)),JHU]
abbrev sc (ns:List Int):D:=.list (ns.map fun i=>.int i)
theorem JEb (ns:List Int):shaped (sc ns)=true:=by
 have h1:∀ns:List Int,PyData.canLayAll0 (ns.map fun i=>PyData.int i)=true:=fun ns=>by
  induction ns with
  | nil=>rfl
  | cons a r ih=>simp only [List.map_cons,PyData.canLayAll0,PyData.canLay0,ih,Bool.and_self]
 have h2:∀ns:List Int,PyData.depthAll (ns.map fun i=>PyData.int i)=0:=fun ns=>by
  induction ns with
  | nil=>rfl
  | cons a r ih=>simp only [List.map_cons,PyData.depthAll,PyData.depth,ih];rfl
 simp only [shaped,PyData.canLay0,h1,PyData.depth,h2]
 decide
theorem JEp (ns:List Int):cmpD .Eq (sc ns) (.list [])=.ok (.bool ns.isEmpty):=by
 have:shaped (.list [])=true:=JEb []
 simp only [cmpD,JEb,this,Bool.and_self,if_true]
 cases ns<;>simp [PyData.eqv,PyData.eqvAll]
theorem JL6 (ns:List Int) (k:Int) (h0:0<=k) (h1:k<ns.length):∃i,idxD (sc ns) (.int k)=.ok (.int i):=by
 refine ⟨ns[k.toNat]'(by omega),?_⟩
 simp only [sc,idxD,atI,ixN,q_g,if_pos h0,if_pos h1,Option.bind_some]
 rw [List.getElem?_map,q_q (by omega)]
 rfl
theorem JNA (T:TabL tab) (ns:List Int) (k:Int) (hk:0<=k):∃i,run x tab glo sub (n+1) 11 [sc ns,.int k]=.ok (.int i):=by
 rw [JAB T.h11,JAA rfl]
 by_cases h:k<ns.length
 ·obtain ⟨i,hi⟩:=JL6 ns k hk h
  refine ⟨i,?_⟩
  dsimp! [d_11,b_11,q_g,h,decide_true,hi]
 ·have hd:decide (k<(ns.length:Int))=false:=q_o h
  by_cases hn:ns=[]
  ·refine ⟨0,?_⟩
   have e:cmpD .Eq (sc ns) (.list [])=.ok (.bool true):=by rw [JEp,hn];rfl
   dsimp! [d_11,b_11,q_g,hd,e]
  ·have hl:0<(ns.length:Int):=by
    have:=List.length_pos_iff.mpr hn
    omega
   obtain ⟨i,hi⟩:=JL6 ns (k.fmod ns.length) (Int.fmod_nonneg_of_pos k hl) (Int.fmod_lt_of_pos k hl)
   refine ⟨i*31+k,?_⟩
   have e:cmpD .Eq (sc ns) (.list [])=.ok (.bool false):=by rw [JEp];cases ns<;>simp at hn ⊢
   dsimp! [d_11,b_11,q_g,hd,e,JFP (i:=k) (j:=(ns.length:Int)) (by omega),hi,JF4 (i:=i) (j:=31) (by decide)]
theorem JCS (T:TabL tab) (ns:List Int) (k m:Int) (hk:0<=k) (hk2:k<2000000) (hm:0<m):∃i,0<=i/\i<m/\run x tab glo sub (n+2) 12 [sc ns,.int k,.int m]=.ok (.int i):=by
 rw [JAB T.h12,JAA rfl]
 obtain ⟨c,hc⟩:=JNA (x:=x) (glo:=glo) (sub:=sub) (n:=n) T ns k hk
 obtain ⟨d,hd⟩:∃d,d=((c+6151*(k+1))*40692).fmod 2147483399:=⟨_,rfl⟩
 have hd0:0<=d:=by rw [hd];exact Int.fmod_nonneg_of_pos _ (by decide)
 have hd1:d<2147483399:=by rw [hd];exact Int.fmod_lt_of_pos _ (by decide)
 have hm1:binD .Mod (.int ((c+6151*(k+1))*40692)) (.int 2147483399)=.ok (.int d):=by rw [JFP (by decide),hd]
 refine ⟨((d*d+d.fdiv 31).fmod 2147483629).fmod m,Int.fmod_nonneg_of_pos _ hm,Int.fmod_lt_of_pos _ hm,?_⟩
 dsimp! [d_12,b_12,hc,JDg (i:=6151) (j:=k+1) (by decide),JF4 (i:=c+6151*(k+1)) (j:=40692) (by decide),hm1,JDg (i:=d) (j:=d) (by omega),JId (i:=d) (j:=31) (by decide) (L.of (k:=10) (by decide) (by omega)),
  JFP (j:=2147483629) (by decide),JFP (j:=m) (show m≠0 by omega)]
structure Small (q:Rat):Prop where
 n:q.num.natAbs<=24
 d:q.den<=4
 w:q.num.natAbs<=6*q.den
theorem Small.sz {q:Rat} (h:Small q):Sz 5 q:=⟨by have:=h.n;omega,by have:=h.d;omega⟩
theorem Small.Q {q:Rat} (h:Small q):Q q:=h.sz.mono (by omega)
theorem JCd (a b:Int) (hb:0<b):∃g:Int,0<g/\a=(Rat.divInt a b).num*g/\b=((Rat.divInt a b).den:Int)*g:=by
 have hg:a.gcd b≠0:=by
  intro z
  have:=(Int.gcd_eq_zero_iff.mp z).2
  omega
 have q1:=JCk a b (by omega)
 have q2:=JDs a b (by omega)
 rw [if_neg (by omega)] at q1 q2
 refine ⟨((a.gcd b:Nat):Int),by omega,?_,?_⟩
 ·rw [<-q1,JBX (Int.gcd_dvd_left ..),Int.ediv_mul_cancel (Int.gcd_dvd_left ..)]
 ·rw [<-q2,JBX (Int.gcd_dvd_right ..),Int.ediv_mul_cancel (Int.gcd_dvd_right ..)]
theorem JEt (a b m:Int) (hb:0<b) (h1:-(m*b)<=a) (h2:a<=m*b):-(m*(Rat.divInt a b).den)<=(Rat.divInt a b).num/\(Rat.divInt a b).num<=m*(Rat.divInt a b).den:=by
 obtain ⟨g,hg,e1,e2⟩:=JCd a b hb
 generalize (Rat.divInt a b).num=u at *
 generalize ((Rat.divInt a b).den:Int)=d at *
 subst e1;subst e2
 rw [<-Int.mul_assoc] at h1 h2
 constructor
 ·rw [<-Int.neg_mul] at h1
  exact Int.le_of_mul_le_mul_right h1 hg
 ·exact Int.le_of_mul_le_mul_right h2 hg
theorem JKE (T:TabL tab) (ns:List Int) (k:Int) (hk:0<=k) (hk2:k<1000000):∃q,Small q/\run x tab glo sub (n+3) 15 [sc ns,.int k]=.ok (F q):=by
 rw [JAB T.h15,JAA rfl]
 obtain ⟨i,i0,i1,hi⟩:=JCS (x:=x) (glo:=glo) (sub:=sub) (n:=n) T ns k 4 hk (by omega) (by decide)
 obtain ⟨j,j0,j1,hj⟩:=JCS (x:=x) (glo:=glo) (sub:=sub) (n:=n) T ns (k+1) (12*(1+i)+1) (by omega) (by omega) (by omega)
 refine ⟨Rat.divInt (j - 6*(1+i)) (1+i),?_,?_⟩
 ·have h1:=JEt (j - 6*(1+i)) (1+i) 6 (by omega) (by omega) (by omega)
  have h2:=JJT (j - 6*(1+i)) (1+i) (by omega)
  have h3:=JGK (j - 6*(1+i)) (1+i) (by omega)
  exact ⟨by omega,by omega,by omega⟩
 ·dsimp! [d_15,b_15,hi,JDg (i:=12) (j:=1+i) (by decide),JDg (i:=6) (j:=1+i) (by decide),hj,JDL T (j - 6*(1+i)) (1+i) (by omega) (L.of (k:=10) (by omega) (by omega))]
theorem JIe (T:TabL tab) (ns:List Int) (k:Int) (hk:0<=k) (hk2:k<1000000):∃q,Small q/\0<q/\q.den<=3/\run x tab glo sub (n+3) 16 [sc ns,.int k]=.ok (F q):=by
 rw [JAB T.h16,JAA rfl]
 obtain ⟨i,i0,i1,hi⟩:=JCS (x:=x) (glo:=glo) (sub:=sub) (n:=n) T ns k 3 hk (by omega) (by decide)
 obtain ⟨j,j0,j1,hj⟩:=JCS (x:=x) (glo:=glo) (sub:=sub) (n:=n) T ns (k+1) (6*(1+i)) (by omega) (by omega) (by omega)
 refine ⟨Rat.divInt (1+j) (1+i),?_,?_,by have h3:=JGK (1+j) (1+i) (by omega);omega,?_⟩
 ·have h1:=JEt (1+j) (1+i) 6 (by omega) (by omega) (by omega)
  have h2:=JJT (1+j) (1+i) (by omega)
  have h3:=JGK (1+j) (1+i) (by omega)
  exact ⟨by omega,by omega,by omega⟩
 ·rw [Rat.lt_iff]
  obtain ⟨g,hg,e1,e2⟩:=JCd (1+j) (1+i) (by omega)
  have h:0<(Rat.divInt (1+j) (1+i)).num*g:=by omega
  have h2:=Int.pos_of_mul_pos_left h hg
  simpa using h2
 ·dsimp! [d_16,b_16,hi,JDg (i:=6) (j:=1+i) (by decide),hj,JDL T (1+j) (1+i) (by omega) (L.of (k:=10) (by omega) (by omega))]
theorem JJq (T:TabL tab) (ns:List Int) (k:Int) (hk:0<=k) (hk2:k<1000000):∃q,Small q/\0<q/\run x tab glo sub (n+3) 16 [sc ns,.int k]=.ok (F q):=by
 obtain ⟨q,h1,h2,_,h⟩:=JIe (x:=x) (glo:=glo) (sub:=sub) (n:=n) T ns k hk hk2
 exact ⟨q,h1,h2,h⟩
end
end VI.VP
end
section
namespace VI
open PySem PySem.Spec PyProof.Rows L2
section
variable {prog:Program} {w:World} {A:Around} {E:Value->Shared->Prop} {s:Shared}
end
section
variable {X:Cx} {pins:List (Addr×Obj)} {σ:St} {H:Hp} {s:Shared} {h':Heap}
end
section
variable {X:Cx} {B:Bs} {C:Cn} {CX:CXT} {XX:Nat->Hp->Prop} {G:List (Str×GK)}
theorem JFA {names:List (Str×NameKind)} {f:Str} {a:Expr} {k:XO} {args:List Expr} (h:JET G names f a=some (k,args)):k=.srt/\args=[a]/\f="sorted"/\glob G names f=some .nam \/
  k=.sst/\f="sorted"/\glob G names f=some .nam/\∃b r p pos,args=[b]/\a=.Call (.Name r p) [b] [] pos/\r="set"/\glob G names r=some .nam:=by
 unfold JET at h
 split at h
 ·rename_i hf
  split at h
  ·rename_i r p b pos
   split at h
   ·rename_i hr
    cases h
    exact .inr ⟨rfl,hf.1,hf.2,b,r,p,pos,rfl,rfl,hr.1,hr.2⟩
   ·cases h;exact .inl ⟨rfl,rfl,hf.1,hf.2⟩
  ·cases h;exact .inl ⟨rfl,rfl,hf.1,hf.2⟩
 ·cases h
theorem JKX {names:List (Str×NameKind)} {f:Str} {a:Expr} {k:XO} {args:List Expr} (h:JET G names f a=some (k,args)) (h1:k≠.srt) (h2:k≠.sst):False:=by
 rcases JFA h with ⟨z,_⟩ | ⟨z,_⟩
 ·exact h1 z
 ·exact h2 z
theorem JIl {names:List (Str×NameKind)} {f:Str} {a:Expr} {k:XO} {args:List Expr} (h:JC1 G names false f a=some (k,args)):k=.rev\/k=.srt/\args=[a]/\f="sorted"/\glob G names f=some .nam \/
  k=.sst/\f="sorted"/\glob G names f=some .nam/\∃b r p pos,args=[b]/\a=.Call (.Name r p) [b] [] pos/\r="set"/\glob G names r=some .nam:=by
 unfold JC1 at h
 rw [if_neg (by decide)] at h
 split at h
 ·split at h
  ·split at h
   ·cases h;exact .inl rfl
   ·cases h
  ·cases h
 ·exact .inr (JFA h)
theorem JKY {names:List (Str×NameKind)} {f:Str} {a:Expr} {k:XO} {args:List Expr} (h:JC1 G names true f a=some (k,args)):(k=.rev/\args=[a]/\f="reversed"/\glob G names f=some .nam)\/JET G names f a=some (k,args):=by
 unfold JC1 at h
 rw [if_pos rfl] at h
 split at h
 ·rename_i hf
  cases h
  exact .inl ⟨rfl,rfl,hf.1,hf.2⟩
 ·exact .inr h
end
end VI
end
section
namespace VI
open PySem PySem.Spec PyProof.Rows L2
open AutoSeq1 (wpAny_loadPart')
section
variable {prog:Program} {w:World} {A:Around} {E:Value->Shared->Prop} {s:Shared}
end
section
variable {prog:Program} {w:World} {A:Around} {E:Value->Shared->Prop} {s:Shared}
end
end VI
end
section
namespace VI
open PySem PySem.Spec PyProof.Rows L2
section
variable {X:Cx} {pins:List (Addr×Obj)} {σ:St} {H:Hp} {s:Shared} {h':Heap}
theorem JEs {t':Nat} {fp:List Addr} {a:Addr} {o:HO} (I:Inv X pins σ H s) (k:∀b u,b ∉ fp->s.heap.get? b=some u->h'.get? b=some u) (f:∀b∈fp,FpOk X pins H b) (hp:s.heap.objs.size<=a) (new:ObjOk X.prog X.w (upd H a o) h' a o) :
  Inv X pins σ (upd H a o) { s with heap:=h',toks:=t' }:=by
 have ha:=I.hok.fresh hp
 have nit:∀b u,H b=some u->b ∉ fp:=fun b u e z=>by rw [(f b z).1] at e;cases e
 have na:∀b u,s.heap.get? b=some u->b≠a:=fun b u e=>q_l (q_m (q_h e) hp)
 have kp:∀b u,H b=some u->upd H a o b=some u:=fun b u e=>by rw [JAM (JAW e ha)];exact e
 refine I.step (g':=s.gens) (d':=s.drawn) (ch:=fp) (fun b hb=>?_) (fun b u _ _ hc e _=>k b u hc e) (fun b u _ _ hc e _=>⟨u.slots,k b u hc e⟩)
  (fun b u _ e n=>by rw [JAM (na b u e)];exact n) (fun b u hc e=>⟨u,k b u hc e⟩) (fun b xs e=>kp b _ e) (fun b u v e=>kp b _ e) (fun b ps e=>⟨#[],by rw [kp b _ e];simp⟩) (fun m hm=>?_) (fun b u e=>?_) I.bare
 ·obtain ⟨_,hL,hfs,h1,h2,h3⟩:=f b hb
  exact ⟨h1,hL,h2,h3⟩
 ·obtain ⟨ob,es,ep,ho,r⟩:=hm
  exact ⟨ob,es,ep,k _ ob (fun z=>(f _ z).2.1 rfl) ho,r⟩
 ·by_cases hb:b=a
  · subst hb;rw [JAG] at e;cases e;exact new
  · rw [JAM hb] at e
    refine (I.hok b u e).stay (fun c v hc q=>k c v ?_ q) (fun c q=>kp c _ q) fun c xs q=>kp c _ q
    rcases hc with z | z
    ·rw [z];exact nit b u e
    ·exact nit c _ z
end
section
variable {X:Cx} {B:Bs} {C:Cn} {CX:CXT} {XX:Nat->Hp->Prop} {G:List (Str×GK)}
end
end VI
end
section
namespace VI
open PySem PySem.Spec PyProof.Rows L2
open PySem.W (KasT kas_sort kas_ask KatTups KatLex KasFin UpdF)
noncomputable def kIn {α:Type} (n:Nat):KasT α->Bool
 | .ret _=>true
 | .ask i j k=>decide (i<n)&&decide (j<n)&&kIn n (k true)&&kIn n (k false)
theorem JLt {α:Type} {n:Nat} {cmp:Nat->Nat->(Bool->Shared->Prop)->Shared->Prop} {lt:Nat->Nat->Bool} {Q:α->Shared->Prop} {s:Shared} (h:∀i j C,i<n->j<n->C (lt i j) s->cmp i j C s) :
  ∀t:KasT α,kIn n t=true->Q (kGo lt t) s->t.kasWp cmp Q s
 | .ret a,_,q=>q
 | .ask i j k,hk,q=>by
  simp only [kIn,q_i,q_D] at hk
  refine h i j _ hk.1.1.1 hk.1.1.2 ?_
  refine JLt h (k (lt i j)) ?_ q
  cases lt i j
  ·exact hk.2
  ·exact hk.1.2
theorem JJD {P:Program} {w:World} {H:Hp} {h:Heap} {a:Addr} {o:HO} (x:ObjOk P w H h a o):∃u,h.get? a=some u:=by
 cases o with
 | lst xs=>obtain ⟨_,_,_,_,e⟩:=x;exact ⟨_,e⟩
 | tup xs=>obtain ⟨_,_,_,o,e,_⟩:=x;exact ⟨_,e⟩
 | dK kvs=>obtain ⟨_,_,_,_,o,_,_,e,_⟩:=x;exact ⟨_,e⟩
 | dT kvs=>obtain ⟨_,_,_,_,o,_,_,e,_⟩:=x;exact ⟨_,e⟩
 | set S n=>obtain ⟨o,_,_,_,e,_⟩:=x;exact ⟨_,e⟩
 | ins C dx fs=>obtain ⟨_,_,_,e,_⟩:=x;exact ⟨_,e⟩
 | own y=>obtain ⟨_,e⟩:=x;exact ⟨_,e⟩
 | xd fs=>obtain ⟨_,⟨_,_,_,e,_⟩,_⟩:=x;exact ⟨_,e⟩
 | rng lo hi=>obtain ⟨_,_,_,e⟩:=x;exact ⟨_,e⟩
 | frz ob u=>obtain ⟨e,_⟩:=x;exact ⟨_,e⟩
 | tbl ps=>exact ⟨_,x⟩
 | met f y=>exact ⟨_,x⟩
 | ext φ=>obtain ⟨_,⟨_,e⟩,_⟩:=x;exact ⟨_,e⟩
noncomputable def below (h:Heap) (L:Nat):Heap:={ h with objs:=h.objs.extract 0 L }
theorem below_get {h:Heap} {L b:Nat} {o:Obj}:(below h L).get? b=some o↔b<L/\h.get? b=some o:=by
 unfold below Heap.get?
 simp only
 constructor
 ·intro e
  by_cases hb:b<L
  ·refine ⟨hb,?_⟩
   rw [Array.getElem?_extract] at e
   simp only [Nat.sub_zero,Nat.zero_add] at e
   by_cases hs:b<min L h.objs.size
   ·rw [if_pos hs] at e;exact e
   ·rw [if_neg hs] at e;cases e
  ·rw [Array.getElem?_extract] at e
   rw [if_neg (by omega)] at e
   cases e
 ·rintro ⟨hb,e⟩
  rw [Array.getElem?_extract]
  simp only [Nat.sub_zero,Nat.zero_add]
  have hs:b<h.objs.size:=q_h (h:=h) (o:=o) (by unfold Heap.get?;exact e)
  rw [if_pos (by omega)]
  exact e
noncomputable def JFq (h:Heap) (L:Nat):List (Addr×Obj):=(List.range h.objs.size).filterMap fun b=>if b<=L then none else (h.get? b).map fun o=>(b,o)
theorem above_mem {h:Heap} {L:Nat} {p:Addr×Obj}:p∈JFq h L↔L<p.1/\h.get? p.1=some p.2:=by
 unfold JFq
 rw [List.mem_filterMap]
 constructor
 ·rintro ⟨b,_,e⟩
  split at e
  ·cases e
  ·rename_i hb
   obtain ⟨o,ho,e⟩:=q_d.mp e
   subst e
   exact ⟨by omega,ho⟩
 ·rintro ⟨h1,h2⟩
  refine ⟨p.1,List.mem_range.mpr (q_h h2),?_⟩
  rw [if_neg (by omega),h2]
  rfl
theorem JKh {h:Heap} {L:Addr} {m:Str->Option Value} (hn:h.Ns L m):Fr (below h L) L h m :=
 ⟨hn,fun b o e=>(below_get.mp e).2,by
  show (h.objs.extract 0 L).size<=L
  simp
  omega⟩
theorem JCO {h:Heap} {L:Addr}:News (below h L) L h (JFq h L):=fun p hp=>by
 obtain ⟨h1,h2⟩:=above_mem.mp hp
 refine ⟨h2,Nat.ne_of_gt h1,?_⟩
 cases e:(below h L).get? p.1 with
 | none=>rfl
 | some o=>exact absurd (below_get.mp e).1 (by omega)
theorem JKm {h h':Heap} {L:Addr} {m:Str->Option Value} {r:List (Addr×Obj)} (F:Fr (below h L) L h' m) (N:News (below h L) L h' r) (hr:∀p∈JFq h L,p∈r):∀b o,b≠L->h.get? b=some o->h'.get? b=some o:=fun b o hb e=>by
 by_cases hl:b<L
 ·exact F.keep b o (below_get.mpr ⟨hl,e⟩)
 ·exact (N (b,o) (hr _ (above_mem.mpr ⟨Nat.lt_of_le_of_ne (Nat.le_of_not_lt hl) (Ne.symm hb),e⟩))).1
theorem JQi {h:Heap} {L:Addr} {m m':Str->Option Value} (h1:h.Ns L m) (h2:h.Ns L m'):m=m':=by
 obtain ⟨o,es,ep,e1,e2,_,e3⟩:=h1
 obtain ⟨o',es',ep',f1,f2,_,f3⟩:=h2
 rw [e1] at f1;cases f1
 rw [e2] at f2;cases f2
 funext x
 rw [<-e3,<-f3]
theorem JKb {X:Cx} {pins:List (Addr×Obj)} {σ:St} {H:Hp} {s:Shared} {h':Heap} {D:Addr} {o:HO} {m:Str->Option Value} (I:Inv X pins σ H s) (hn:s.heap.Ns X.env.locals m) (hn':h'.Ns X.env.locals m) (kp:∀b u,b≠X.env.locals->s.heap.get? b=some u->h'.get? b=some u) (hD:s.heap.get? D=none) (new:ObjOk X.prog X.w (upd H D o) h' D o) :
  H D=none/\Inv X pins σ (upd H D o) { s with heap:=h' }:=by
 have h0:H D=none:=by
  cases e:H D with
  | none=>rfl
  | some u=>obtain ⟨v,hv⟩:=JJD (I.hok D u e);rw [hD] at hv;cases hv
 refine ⟨h0,?_⟩
 have na:∀b u,s.heap.get? b=some u->b≠D:=fun b u e z=>by rw [z,hD] at e;cases e
 have ku:∀b u,H b=some u->upd H D o b=some u:=fun b u e=>by rw [JAM (JAW e h0)];exact e
 have there:∀b u,s.heap.get? b=some u->∃v,h'.get? b=some v:=fun b u e=>by
  by_cases hb:b=X.env.locals
  · subst hb;obtain ⟨ob,_,_,ho,_⟩:=hn';exact ⟨ob,ho⟩
  · exact ⟨u,kp b u hb e⟩
 refine I.step (g':=s.gens) (d':=s.drawn) (t':=s.toks) (ch:=[]) (fun _ z=>nomatch z) (fun b u hL _ _ e _=>kp b u hL e) (fun b u hL _ _ e _=>⟨u.slots,kp b u hL e⟩)
  (fun b u _ e n=>by rw [JAM (na b u e)];exact n) (fun b u _ e=>there b u e) (fun b xs e=>ku b _ e) (fun b u v e=>ku b _ e) (fun b ps e=>⟨#[],by rw [ku b _ e];simp⟩) (fun m' hm=>?_) (fun b u e=>?_) I.bare
 ·rw [JQi hm hn];exact hn'
 ·by_cases hb:b=D
  · subst hb;rw [JAG] at e;cases e;exact new
  · rw [JAM hb] at e
    refine (I.hok b u e).stay (fun c v hc q=>kp c v ?_ q) (fun c q=>ku c _ q) fun c xs q=>ku c _ q
    rcases hc with z | z
    ·rw [z];exact fun z2=>by rw [z2,I.free] at e;cases e
    ·exact fun z2=>by rw [z2,I.free] at z;cases z
noncomputable def TI (h:Heap):List (List Int)->List Value->Prop
 | [],[]=>True
 | k::ks,v::vs=>(∃a o xs n,v=.ref a/\h.get? a=some o/\o.cls=.type "tuple"/\o.data=.seq (List.toArray xs) n/\Vals (k.map V.int) xs)/\TI h ks vs
 | _,_=>False
theorem TI.get {h:Heap}:∀ {ks:List (List Int)} {vs:List Value} {i:Nat},TI h ks vs->i<ks.length->∃a o xs n,vs.getD i Value.none=.ref a/\h.get? a=some o/\o.cls=.type "tuple"/\o.data=.seq (List.toArray xs) n/\Vals ((ks.getD i []).map V.int) xs
 | [],_,_,_,hi=>by simp at hi
 | _::_,[],_,t,_=>t.elim
 | k::ks,v::vs,0,t,_=>by
  obtain ⟨⟨a,o,xs,n,e1,e2,e3,e4,e5⟩,_⟩:=t
  exact ⟨a,o,xs,n,by simpa using e1,e2,e3,e4,by simpa using e5⟩
 | k::ks,v::vs,i+1,t,hi=>by
  obtain ⟨a,o,xs,n,e1,r⟩:=TI.get (i:=i) t.2 (by simpa using hi)
  exact ⟨a,o,xs,n,by simpa using e1,by simpa using r⟩
theorem TI.len {h:Heap}:∀ {ks:List (List Int)} {vs:List Value},TI h ks vs->vs.length=ks.length
 | [],[],_=>rfl
 | [],_::_,t=>t.elim
 | _::_,[],t=>t.elim
 | _::_,_::_,t=>by simp [TI.len t.2]
theorem TI.mono {h h':Heap} {L:Addr} {m:Str->Option Value} (hn:h.Ns L m) (kp:∀b o,b≠L->h.get? b=some o->h'.get? b=some o):∀ {ks:List (List Int)} {vs:List Value},TI h ks vs->TI h' ks vs
 | [],[],_=>trivial
 | [],_::_,t=>t.elim
 | _::_,[],t=>t.elim
 | k::ks,v::vs,⟨⟨a,o,xs,n,e1,e2,e3,e4,e5⟩,r⟩=>by
  refine ⟨⟨a,o,xs,n,e1,kp a o (fun z=>?_) e2,e3,e4,e5⟩,TI.mono hn kp r⟩
  subst z
  obtain ⟨o',es,ep,f1,f2,_⟩:=hn
  rw [e2] at f1;cases f1
  rw [e4] at f2;cases f2
section
variable {prog:Program} {w:World} {A:Around} {s:Shared}
end
noncomputable def AtV (h:Heap):At->Value->Prop
 | .i n,v=>∃t,v=.int n t
 | .s x,v=>∃t,v=.str x t
 | .t k,v=>∃a o xs n,v=.ref a/\h.get? a=some o/\o.cls=.type "tuple"/\o.data=.seq (List.toArray xs) n/\Vals (k.map V.int) xs
noncomputable def AtsV (h:Heap):List At->List Value->Prop
 | [],[]=>True
 | a::r,v::vs=>AtV h a v/\AtsV h r vs
 | _,_=>False
theorem AtsV.len {h:Heap}:∀ {a:List At} {vs:List Value},AtsV h a vs->vs.length=a.length
 | [],[],_=>rfl
 | [],_::_,t=>t.elim
 | _::_,[],t=>t.elim
 | _::_,_::_,t=>by simp [AtsV.len t.2]
noncomputable def TA' (h:Heap):List (List At)->List Value->Prop
 | [],[]=>True
 | k::ks,v::vs=>(∃a o xs n,v=.ref a/\h.get? a=some o/\o.cls=.type "tuple"/\o.data=.seq (List.toArray xs) n/\AtsV h k xs)/\TA' h ks vs
 | _,_=>False
theorem TA'.get {h:Heap}:∀ {ks:List (List At)} {vs:List Value} {i:Nat},TA' h ks vs->i<ks.length->∃a o xs n,vs.getD i Value.none=.ref a/\h.get? a=some o/\o.cls=.type "tuple"/\o.data=.seq (List.toArray xs) n/\AtsV h (ks.getD i []) xs
 | [],_,_,_,hi=>by simp at hi
 | _::_,[],_,t,_=>t.elim
 | k::ks,v::vs,0,t,_=>by
  obtain ⟨⟨a,o,xs,n,e1,e2,e3,e4,e5⟩,_⟩:=t
  exact ⟨a,o,xs,n,by simpa using e1,e2,e3,e4,by simpa using e5⟩
 | k::ks,v::vs,i+1,t,hi=>by
  obtain ⟨a,o,xs,n,e1,r⟩:=TA'.get (i:=i) t.2 (by simpa using hi)
  exact ⟨a,o,xs,n,by simpa using e1,by simpa using r⟩
theorem TA'.len {h:Heap}:∀ {ks:List (List At)} {vs:List Value},TA' h ks vs->vs.length=ks.length
 | [],[],_=>rfl
 | [],_::_,t=>t.elim
 | _::_,[],t=>t.elim
 | _::_,_::_,t=>by simp [TA'.len t.2]
theorem AtV.mono {h h':Heap} {L:Addr} {m:Str->Option Value} (hn:h.Ns L m) (kp:∀b o,b≠L->h.get? b=some o->h'.get? b=some o):∀ {a:At} {v:Value},AtV h a v->AtV h' a v
 | .i _,_,t=>t
 | .s _,_,t=>t
 | .t k,v,⟨a,o,xs,n,e1,e2,e3,e4,e5⟩=>by
  refine ⟨a,o,xs,n,e1,kp a o (fun z=>?_) e2,e3,e4,e5⟩
  subst z
  obtain ⟨o',es,ep,f1,f2,_⟩:=hn
  rw [e2] at f1;cases f1
  rw [e4] at f2;cases f2
theorem AtsV.mono {h h':Heap} {L:Addr} {m:Str->Option Value} (hn:h.Ns L m) (kp:∀b o,b≠L->h.get? b=some o->h'.get? b=some o):∀ {a:List At} {vs:List Value},AtsV h a vs->AtsV h' a vs
 | [],[],_=>trivial
 | [],_::_,t=>t.elim
 | _::_,[],t=>t.elim
 | _::_,_::_,t=>⟨t.1.mono hn kp,AtsV.mono hn kp t.2⟩
theorem TA'.mono {h h':Heap} {L:Addr} {m:Str->Option Value} (hn:h.Ns L m) (kp:∀b o,b≠L->h.get? b=some o->h'.get? b=some o):∀ {ks:List (List At)} {vs:List Value},TA' h ks vs->TA' h' ks vs
 | [],[],_=>trivial
 | [],_::_,t=>t.elim
 | _::_,[],t=>t.elim
 | k::ks,v::vs,⟨⟨a,o,xs,n,e1,e2,e3,e4,e5⟩,r⟩=>by
  refine ⟨⟨a,o,xs,n,e1,kp a o (fun z=>?_) e2,e3,e4,e5.mono hn kp⟩,TA'.mono hn kp r⟩
  subst z
  obtain ⟨o',es,ep,f1,f2,_⟩:=hn
  rw [e2] at f1;cases f1
  rw [e4] at f2;cases f2
section
variable {prog:Program} {w:World} {A:Around} {s:Shared}
end
section
variable {X:Cx} {B:Bs} {C:Cn} {CX:CXT} {XX:Nat->Hp->Prop} {G:List (Str×GK)}
noncomputable def IT (K:PySem.W.Frag) (H:Hp):List (List Int)->List V->Prop
 | [],[]=>True
 | k::ks,y::ys=>(∃a,y=.ref a/\SqT K H a (k.map V.int))/\IT K H ks ys
 | _,_=>False
theorem IT.len {K:PySem.W.Frag} {H:Hp}:∀ {ks:List (List Int)} {ys:List V},IT K H ks ys->ys.length=ks.length
 | [],[],_=>rfl
 | [],_::_,t=>t.elim
 | _::_,[],t=>t.elim
 | _::_,_::_,t=>by simp [IT.len t.2]
theorem JEQ {ys:List V} {us:List Value} (r:Vals ys us):∀l:List Nat,(∀i∈l,i<ys.length)->Vals (l.map fun i=>ys.getD i .non) (l.map fun i=>us.getD i Value.none)
 | [],_=>.nil
 | i::l,h=>by
  have hi:=h i (by simp)
  obtain ⟨u,hu,ru⟩:=r.get (q_q hi)
  refine .cons ?_ (JEQ r l fun j hj=>h j (by simp [hj]))
  have e1:ys.getD i .non=ys[i]:=by simp [hi]
  have e2:us.getD i Value.none=u:=by simp [hu]
  show RelV (ys.getD i .non) (us.getD i Value.none)
  rw [e1,e2];exact ru
noncomputable def kOut (n:Nat):KasT (Array Nat)->Bool
 | .ret a=>a.toList.all fun i=>decide (i<n)
 | .ask _ _ k=>kOut n (k true)&&kOut n (k false)
theorem JIp {n:Nat} {lt:Nat->Nat->Bool}:∀t:KasT (Array Nat),kOut n t=true->∀i∈(kGo lt t).toList,i<n
 | .ret a,h,i,hi=>by
  simp only [kOut,List.all_eq_true,q_D] at h
  exact h i hi
 | .ask i j k,h,x,hx=>by
  simp only [kOut,q_i] at h
  simp only [kGo] at hx
  refine JIp (k (lt i j)) ?_ x hx
  cases lt i j
  ·exact h.2
  ·exact h.1
noncomputable def kLen (n:Nat):KasT (Array Nat)->Bool
 | .ret a=>decide (a.size<=n)
 | .ask _ _ k=>kLen n (k true)&&kLen n (k false)
theorem JJO {n:Nat} {lt:Nat->Nat->Bool}:∀t:KasT (Array Nat),kLen n t=true->(kGo lt t).size<=n
 | .ret a,h=>by simpa [kLen,kGo] using h
 | .ask i j k,h=>by
  simp only [kLen,q_i] at h
  simp only [kGo]
  refine JJO (k (lt i j)) ?_
  cases lt i j
  ·exact h.2
  ·exact h.1
noncomputable def IAt (K:PySem.W.Frag) (H:Hp):At->V->Prop
 | .i n,v=>v=.int n
 | .s x,v=>v=.str x
 | .t k,v=>∃a,v=.ref a/\SqT K H a (k.map V.int)
noncomputable def IAs (K:PySem.W.Frag) (H:Hp):List At->List V->Prop
 | [],[]=>True
 | a::r,v::vs=>IAt K H a v/\IAs K H r vs
 | _,_=>False
noncomputable def IA (K:PySem.W.Frag) (H:Hp):List (List At)->List V->Prop
 | [],[]=>True
 | k::ks,y::ys=>(∃a zs,y=.ref a/\SqT K H a zs/\IAs K H k zs)/\IA K H ks ys
 | _,_=>False
theorem IAt.at {pins:List (Addr×Obj)} {σ:St} {H:Hp} {s:Shared} (I:Inv X pins σ H s) {a:At} {v:V} {u:Value} (h:IAt X.K H a v) (r:RelV v u):AtV s.heap a u:=by
 cases a with
 | i n=>have h:v=.int n:=h;subst h;exact r
 | s x=>have h:v=.str x:=h;subst h;exact r
 | t k =>
  obtain ⟨a,rfl,q⟩:=h
  cases r
  obtain ⟨its,rv,⟨o,ho,hc,n,hd⟩,_⟩:=I.tuple q
  exact ⟨a,o,its,n,rfl,ho,hc,hd,rv⟩
theorem IAs.ats {pins:List (Addr×Obj)} {σ:St} {H:Hp} {s:Shared} (I:Inv X pins σ H s):∀ {a:List At} {vs:List V} {us:List Value},IAs X.K H a vs->Vals vs us->AtsV s.heap a us
 | [],[],_,_,r=>by cases r;trivial
 | [],_::_,_,t,_=>t.elim
 | _::_,[],_,t,_=>t.elim
 | _::_,_::_,_,t,r=>by
  cases r with
  | cons p q=>exact ⟨t.1.at I p,IAs.ats I t.2 q⟩
theorem IA.ta {pins:List (Addr×Obj)} {σ:St} {H:Hp} {s:Shared} (I:Inv X pins σ H s):∀ {ks:List (List At)} {ys:List V} {us:List Value},IA X.K H ks ys->Vals ys us->TA' s.heap ks us
 | [],[],_,_,r=>by cases r;trivial
 | [],_::_,_,t,_=>t.elim
 | _::_,[],_,t,_=>t.elim
 | k::ks,y::ys,us,⟨⟨a,zs,e,q,t0⟩,t⟩,r=>by
  cases r with
  | cons p r =>
   subst e
   cases p
   obtain ⟨its,rv,⟨o,ho,hc,n,hd⟩,_⟩:=I.tuple q
   exact ⟨⟨a,o,its,n,rfl,ho,hc,hd,t0.ats I rv⟩,IA.ta I t r⟩
theorem IA.len {K:PySem.W.Frag} {H:Hp}:∀ {ks:List (List At)} {ys:List V},IA K H ks ys->ys.length=ks.length
 | [],[],_=>rfl
 | [],_::_,t=>t.elim
 | _::_,[],t=>t.elim
 | _::_,_::_,t=>by simp [IA.len t.2]
section
variable {prog:Program} {w:World} {A:Around} {E:Value->Shared->Prop} {s:Shared}
end
end
end VI
end
section
namespace VI
open PySem PySem.Spec PyProof.Rows L2
theorem JM9 {X:Cx} {pins:List (Addr×Obj)} {σ:St} {H:Hp} {s:Shared} {h':Heap} {fp:List Addr} (I:Inv X pins σ H s) (k:∀b u,b ∉ fp->s.heap.get? b=some u->h'.get? b=some u) (f:∀b∈fp,FpOk X pins H b):Inv X pins σ H { s with heap:=h' }:=by
 have nit:∀b u,H b=some u->b ∉ fp:=fun b u e z=>by rw [(f b z).1] at e;cases e
 refine I.step (g':=s.gens) (d':=s.drawn) (t':=s.toks) (ch:=fp) (fun b hb=>?_) (fun b u _ _ hc e _=>k b u hc e) (fun b u _ _ hc e _=>⟨u.slots,k b u hc e⟩)
  (fun b u _ e n=>n) (fun b u hc e=>⟨u,k b u hc e⟩) (fun b xs e=>e) (fun b u v e=>e) (fun b ps e=>⟨#[],by rw [e];simp⟩) (fun m hm=>?_) (fun b u e=>?_) I.bare
 ·obtain ⟨_,hL,hfs,h1,h2,h3⟩:=f b hb
  exact ⟨h1,hL,h2,h3⟩
 ·obtain ⟨ob,es,ep,ho,r⟩:=hm
  exact ⟨ob,es,ep,k _ ob (fun z=>(f _ z).2.1 rfl) ho,r⟩
 ·refine (I.hok b u e).stay (fun c v hc q=>k c v ?_ q) (fun c q=>q) fun c xs q=>q
  rcases hc with z | z
  · rw [z];exact nit b u e
  · exact nit c _ z
noncomputable def Itz (K:PySem.W.Frag) (a b:Addr):It :=
 ⟨fun i H=>∃xs ys x y,SqL K H a xs/\SqL K H b ys/\xs[i]? = some x/\ys[i]? = some y,
  fun i H x H'=>∃p v u,H p=none/\H'=upd H p (.tup [v,u])/\x=.ref p/\(∀xs,SqL K H a xs->xs[i]? = some v)/\∀ys,SqL K H b ys->ys[i]? = some u,
  fun i H=>∃xs ys,SqL K H a xs/\SqL K H b ys/\(xs.length<=i\/ys.length<=i)⟩
theorem JJr {P:Program} {w:World} {K:PySem.W.Frag} {ts:List Expr} {kt:Nat} {pt:Pos} (z TI TO i1 i2 l1 l2:Addr) (D:ZipApart z TI TO i1 i2 l1 l2) :
  Turn P w K (.Tuple ts kt pt) (Itz K l1 l2) [z,TI,TO,i1,i2] z (fun i h=>IsZip h z TI TO .none/\IsPair h TI (.ref i1) (.ref i2)/\(∃a b,IsPair h TO a b)/\h.IsListIter i1 l1 i/\h.IsListIter i2 l2 i) where
 mem:=by simp
 obj:=fun i h st b hb=>by
  obtain ⟨hz,hTI,⟨a,c,hTO⟩,⟨o1,e1,_,d1⟩,⟨o2,e2,_,d2⟩⟩:=st
  simp only [q_n,List.not_mem_nil,or_false] at hb
  rcases hb with rfl | rfl | rfl | rfl | rfl
  ·exact ⟨_,hz,fun v z=>by cases z⟩
  ·exact ⟨_,hTI,fun v z=>by cases z⟩
  ·exact ⟨_,hTO,fun v z=>by cases z⟩
  ·exact ⟨o1,e1,fun v z=>by rw [d1] at z;cases z⟩
  ·exact ⟨o2,e2,fun v z=>by rw [d2] at z;cases z⟩
 keep:=fun i h h' st k=>by
  obtain ⟨hz,hTI,⟨a,c,hTO⟩,h1,h2⟩:=st
  exact ⟨k z (by simp) _ hz,k TI (by simp) _ hTI,⟨a,c,k TO (by simp) _ hTO⟩,h1.at fun o e=>k i1 (by simp) o e,h2.at fun o e=>k i2 (by simp) o e⟩
 item:=by
  intro X hP hw hK hc i pins s σ H E I hf st hg
  subst hP hw hK
  obtain ⟨xs,ys,x,y,q1,q2,hx,hy⟩:=hg
  obtain ⟨its,rv,p,hz0⟩:=I.list q1
  obtain ⟨its2,rv2,p2,hz2⟩:=I.list q2
  obtain ⟨u,hu,ru⟩:=rv.get hx
  obtain ⟨u2,hu2,ru2⟩:=rv2.get hy
  obtain ⟨hz,hTI,⟨a,c,hTO⟩,h1,h2⟩:=st
  have lt:∀b∈[z,TI,TO,i1,i2],b<s.heap.objs.size:=fun b hb=>by
   simp only [q_n,List.not_mem_nil,or_false] at hb
   obtain ⟨o1,e1,_⟩:=id h1
   obtain ⟨o2,e2,_⟩:=id h2
   rcases hb with rfl | rfl | rfl | rfl | rfl
   ·exact q_h hz
   ·exact q_h hTI
   ·exact q_h hTO
   ·exact q_h e1
   ·exact q_h e2
  refine wpAny_pyNext_zip_item D hz hTI hTO h1 h2 p.isList p2.isList (x:=u) (y:=u2) (by simpa using hu) (by simpa using hu2) fun h' g1 g2 g3 g4 g5 g6 g7=>?_
  refine ⟨_,rfl,wpAny_letOwnedTupleGo_zip g1 fun h2' j1 j2=>?_⟩
  have ltz:=lt z (by simp)
  have ht:h2'.get? s.heap.objs.size=some _:=(j2.2 _ (Nat.ne_of_gt ltz)).trans g5
  refine ⟨.ref s.heap.objs.size,upd H s.heap.objs.size (.tup [x,y]),JEs (s:=s) (h':=h2') (t':=s.toks) I (fun b o hb zz=>?_) hf (q_t _) ?_,rfl,⟨_,x,y,I.hok.fresh (q_t _),rfl,rfl,fun zs hzs=>by rw [I.list_inj hzs q1];exact hx,fun zs hzs=>by rw [I.list_inj hzs q2];exact hy⟩,⟨j1,?_,⟨u,u2,?_⟩,?_,?_⟩,fun b hb=>?_⟩
  ·simp only [q_n,List.not_mem_nil,or_false,not_or] at hb
   exact (j2.2 b hb.1).trans (g7 b o hb.1 hb.2.2.1 hb.2.2.2.1 hb.2.2.2.2 zz)
  ·exact ⟨by simp only [List.length_cons,List.length_nil];rw [sizeLine_eq];decide,[u,u2],.cons ru (.cons ru2 .nil),_,ht,rfl,_,rfl⟩
  ·exact (j2.2 _ D.TIz).trans (g7 TI _ D.TIz D.TITO D.TIi1 D.TIi2 hTI)
  ·exact (j2.2 _ D.TOz).trans g2
  ·exact g3.at fun o e=>(j2.2 _ D.i1z).trans e
  ·exact g4.at fun o e=>(j2.2 _ D.i2z).trans e
  ·rw [JAM (q_l (lt b hb))]
   exact (hf b hb).1
 done:=by
  intro X hP hw hK hc i pins s σ H E I hf st hg
  subst hP hw hK
  obtain ⟨xs,ys,q1,q2,hx⟩:=hg
  obtain ⟨its,rv,p,hz0⟩:=I.list q1
  obtain ⟨its2,rv2,p2,hz2⟩:=I.list q2
  obtain ⟨hz,hTI,⟨a,c,hTO⟩,h1,h2⟩:=st
  have e1:=rv.length
  have e2:=rv2.length
  refine wpAny_pyNext_zip_end (I.ok.hd hc) D hz hTI hTO h1 h2 p.isList p2.isList (by
   rcases hx with hx | hx
   ·exact .inl (by simp;omega)
   ·exact .inr (by simp;omega)) fun h' g=>⟨rfl,JM9 I (fun b u hb e=>?_) hf⟩
  simp only [q_n,List.not_mem_nil,or_false,not_or] at hb
  exact g b u hb.1 hb.2.2.1 hb.2.2.2.1 hb.2.2.2.2 e
 self:=fun _ _ _ _ _ st h=>wpAny_pyIter_zip st.1 h
section
variable {X:Cx} {B:Bs} {C:Cn} {CX:CXT} {XX:Nat->Hp->Prop} {G:List (Str×GK)}
theorem JKB {H:Hp} {a b:Addr} {ds es:List D} {xs ys:List V} (q:SqL B.K H a xs) (l:DenL B H ds xs) (q':SqL B.K H b ys) (l':DenL B H es ys):ItOk B (Itz B.K a b) H (List.zipWith (fun a b=>PyData.tuple [a,b]) ds es):=by
 intro H2 s2 i
 have q2:=s2.seq q
 have q2':=s2.seq q'
 refine ⟨fun d e=>?_,fun h=>⟨xs,ys,q2,q2',?_⟩⟩
 ·rw [List.getElem?_zipWith] at e
  cases e1:ds[i]? with
  | none=>rw [e1] at e;cases e
  | some d1 =>
   cases e2:es[i]? with
   | none=>rw [e1,e2] at e;cases e
   | some d2 =>
    rw [e1,e2] at e
    simp only [q_j] at e
    obtain ⟨v,f1,dn⟩:=DenL.get ds xs i d1 l e1
    obtain ⟨u,f2,dn2⟩:=DenL.get es ys i d2 l' e2
    refine ⟨⟨xs,ys,v,u,q2,q2',f1,f2⟩,fun x H3 y=>.inr ?_⟩
    obtain ⟨p,v',u',hp,e3,ex,y1,y2⟩:=y
    have w1:=y1 xs q2
    have w2:=y2 ys q2'
    rw [f1] at w1;cases w1
    rw [f2] at w2;cases w2
    refine ⟨p,[v,u],_,hp,e3,ex,e.symm,?_⟩
    simp only [DenL]
    exact ⟨_,_,rfl,dn,_,_,rfl,dn2,rfl⟩
 ·rw [List.length_zipWith] at h
  rw [<-DenL.len ds xs l,<-DenL.len es ys l']
  omega
theorem x_zip:XOk B C CX G .zip where
 val:=by
  intro X XX g e args y h ha hs hc
  unfold xRaw at h
  split at h
  ·rcases JIl h with z | ⟨z,_⟩ | ⟨z,_⟩<;>cases z
  ·cases h
 itr:=by
  intro X XX g tg e args y h ha hs hc
  unfold xRaw at h
  split at h
  ·rcases JKY h with ⟨z,_⟩ | z
   ·cases z
   ·exact (JKX z (by decide) (by decide)).elim
  ·cases h
 tgt:=by
  intro X XX g ts kt pt e args y h ha hs hc
  unfold xTgt at h
  split at h
  ·split at h<;>cases h
  ·rename_i f p a b pos
   split at h
   ·rename_i hf
    obtain ⟨rfl,h2⟩:=hf
    cases h
    obtain ⟨_,h3,h4⟩:=JAy h2
    intro pins s σ H R I ⟨δ,ok,k⟩
    simp only [evI] at k
    refine wpAny_Call_Name_kw (JDf I h3 (g.nam _ h4) (show bootBuiltins (Str.ofString "zip")=some (.type "zip") by decide +kernel) ?_ (by decide) (by decide))
    have s1:=hs a (by simp) [b] X.env
    have s2:=hs b (by simp) [] X.env
    refine PyProof.Rows.callWith_type1 (thn (ha pos pins s σ H (fun vs H1=>∃q1 q2 us1 us2,vs=[.ref q1,.ref q2]/\SqL X.K H1 q1 us1/\SqL X.K H1 q2 us2/\R (Itz X.K q1 q2) H1) I ?_) fun us s1 ⟨vs,H1,I1,r1,q1,q2,us1,us2,e1,sq1,sq2,hR⟩=>?_) s1 (by rw [s2];rfl)
    ·refine RA.of (W:=fun r H=>KI B XX r H R) ok (fun _ _ z=>z) (fun _ z=>z) (by
      cases q:evA C y δ with
      | ok ds=>rw [q] at k;exact k
      | exc c=>rw [q] at k;exact k
      | bad=>rw [q] at k;exact k) (f:=fun ds=>(xD .zip ds).bind JAa) fun ds vs H1 s1 d1 k1=>?_
     have key:∀xs ys,ds=[.list xs,.list ys]->∃q1 q2 us1 us2,vs=[.ref q1,.ref q2]/\SqL X.K H1 q1 us1/\SqL X.K H1 q2 us2/\R (Itz X.K q1 q2) H1:=by
      intro xs ys e
      subst e
      simp only [DenL,Den] at d1
      obtain ⟨v,r,e,⟨qa,us,e1,sq,l⟩,v2,r2,e3,⟨qb,us2,e4,sq2,l2⟩,e5⟩:=d1
      subst e5;subst e4;subst e3;subst e1;subst e
      refine ⟨qa,qb,us,us2,rfl,g.K▸sq,g.K▸sq2,?_⟩
      rw [g.K]
      exact k1 _ _ s1 (JKB sq l sq2 l2)
     match ds,k1,key with
     | [.list xs,.list ys],_,key=>exact key xs ys rfl
     | [],k1,_=>exact False.elim k1
     | [d],k1,_=>cases d<;>exact False.elim k1
     | d1::d2::d3::r,k1,_=>cases d1<;>cases d2<;>exact False.elim k1
     | [.none,_],k1,_=>exact False.elim k1
     | [.bool _,_],k1,_=>exact False.elim k1
     | [.int _,_],k1,_=>exact False.elim k1
     | [.str _,_],k1,_=>exact False.elim k1
     | [.tuple _,_],k1,_=>exact False.elim k1
     | [.dict _,_],k1,_=>exact False.elim k1
     | [.list _,.none],k1,_=>exact False.elim k1
     | [.list _,.bool _],k1,_=>exact False.elim k1
     | [.list _,.int _],k1,_=>exact False.elim k1
     | [.list _,.str _],k1,_=>exact False.elim k1
     | [.list _,.tuple _],k1,_=>exact False.elim k1
     | [.list _,.dict _],k1,_=>exact False.elim k1
    ·subst e1
     cases r1 with
     | cons ra rb =>
      cases rb with
      | cons rb rn =>
       cases rn
       cases ra
       cases rb
       obtain ⟨its,rv,pl,_⟩:=I1.list sq1
       obtain ⟨its2,rv2,pl2,_⟩:=I1.list sq2
       have b1:@LT.lt Nat instLTNat q1 s1.heap.objs.size:=by obtain ⟨o,ho,_⟩:=pl.isList;exact q_h ho
       have b2:@LT.lt Nat instLTNat q2 s1.heap.objs.size:=by obtain ⟨o,ho,_⟩:=pl2.isList;exact q_h ho
       refine call_zip_2 pl.isList pl2.isList fun h' g1 g2 g3 g4 g5 g6 g7=>?_
       have I2:Inv X pins σ H1 { s1 with heap:=h' }:=I1.kept (t':=s1.toks) g7
       have fpo:∀n,FpOk X pins H1 (s1.heap.objs.size+n):=fun n=>I1.fpOk (Nat.le_add_right _ _) (I1.hok.fresh (Nat.le_add_right _ _))
       refine wpAny_pyIter_zip g1 ⟨_,[s1.heap.objs.size+4,s1.heap.objs.size+2,s1.heap.objs.size+3,s1.heap.objs.size,s1.heap.objs.size+1],_,_,H1,rfl,I2,JJr _ _ _ _ _ q1 q2 ?_,⟨g1,g2,⟨_,_,g3⟩,g4,g5⟩,fun b hb=>?_,hR⟩
       ·constructor<;>first | (intro z;have z:@Eq Nat _ _:=z;omega)
       ·simp only [q_n,List.not_mem_nil,or_false] at hb
        rcases hb with rfl | rfl | rfl | rfl | rfl
        ·exact fpo 4
        ·exact fpo 2
        ·exact fpo 3
        ·exact fpo 0
        ·exact fpo 1
   ·cases h
  ·cases h
end
end VI
end
section
namespace VI
open PySem PySem.W
namespace So
noncomputable def inn {α:Type} (n:Nat):KasT α->Bool
 | .ret _=>true
 | .ask i j k=>decide (i<n)&&decide (j<n)&&inn n (k true)&&inn n (k false)
noncomputable def wel (n:Nat):KasT (Array Nat)->Bool
 | .ret a=>decide (a.size<=n)&&a.toList.all (fun i=>decide (i<n))
 | .ask i j k=>decide (i<n)&&decide (j<n)&&wel n (k true)&&wel n (k false)
theorem wel2:wel 2 (kas_sort 2)=true:=by decide +kernel
theorem wel3:wel 3 (kas_sort 3)=true:=by decide +kernel
theorem wel4:wel 4 (kas_sort 4)=true:=by decide +kernel
theorem wel5:wel 5 (kas_sort 5)=true:=by decide +kernel
theorem wel6:wel 6 (kas_sort 6)=true:=by decide +kernel
theorem wel7:wel 7 (kas_sort 7)=true:=by decide +kernel
theorem wel_all {n:Nat} (h2:2<=n) (h7:n<=7):wel n (kas_sort n)=true:=by
 obtain rfl | rfl | rfl | rfl | rfl | rfl:n=2\/n=3\/n=4\/n=5\/n=6\/n=7:=by omega
 ·exact wel2
 ·exact wel3
 ·exact wel4
 ·exact wel5
 ·exact wel6
 ·exact wel7
noncomputable def rk (zs:List Str) (a:Str):Nat:=zs.countP fun y=>ltS y a
end So
end VI
end
section
namespace VI
open PySem PySem.Spec PyProof.Rows L2
namespace Ft
end Ft
section
variable {prog:Program} {w:World} {A:Around} {E:Value->Shared->Prop} {s:Shared}
end
end VI
end
section
namespace VI
open PySem PySem.Spec PyProof.Rows L2
def IsSI (h:Heap) (I:Addr) (first:Value) (i:Int) (a:Addr) (n ep:Nat):Prop:=∃o,h.get? I=some o/\o.cls=.type "set_iterator"/\o.data=.fields #[first,rawInt i,.ref a,rawInt n,rawInt ep]
theorem IsSI.at {h h':Heap} {I a:Addr} {first:Value} {i:Int} {n ep:Nat} (x:IsSI h I first i a n ep) (e:∀o,h.get? I=some o->h'.get? I=some o):IsSI h' I first i a n ep:=let ⟨o,ho,r⟩:=x;⟨o,e _ ho,r⟩
structure SetAt (h:Heap) (a:Addr) (so:Obj) (es:Array (Int×Value)) (ep:Nat) (t:SetTable):Prop where
 get:h.get? a=some so
 cls:so.cls=.type "set"
 data:so.data=.set es ep t
 fits:t.fits es.size=true
theorem SetAt.at {h h':Heap} {a:Addr} {so:Obj} {es:Array (Int×Value)} {ep:Nat} {t:SetTable} (x:SetAt h a so es ep t) (e:∀o,h.get? a=some o->h'.get? a=some o):SetAt h' a so es ep t:=⟨e _ x.get,x.cls,x.data,x.fits⟩
section
variable {prog:Program} {w:World} {A:Around} {E:Value->Shared->Prop} {s:Shared} {I a:Addr} {so:Obj} {es:Array (Int×Value)} {ep:Nat} {t:SetTable} {i:Nat}
def byT (w:World):Bool:=w.params.followText "set-order"
end
end VI
end
section
namespace VI
open PySem PySem.Spec PyProof.Rows L2
section
variable {prog:Program} {w:World} {A:Around} {E:Value->Shared->Prop} {s:Shared} {I a:Addr} {so:Obj} {es:Array (Int×Value)} {ep:Nat} {t:SetTable} {i:Nat}
abbrev hL (s:Shared):Heap:=s.heap.push { cls:=.type "list",data:=.seq ([]:List Value).toArray }
end
end VI
end
section
namespace VI
open PySem PySem.Spec PyProof.Rows L2
def keyOf:Int×Value->Str
 |(_,.str s _)=>s
 | _=>""
structure TSet (prog:Program) (w:World) (h:Heap) (a:Addr) (so:Obj) (es:Array (Int×Value)) (ep:Nat) (t:SetTable) (l:List Str):Prop where
 at':SetAt h a so es ep t
 ex:so.ExactSet
 el:ElemsOf (strKind prog w) es.toList
 nd:(es.toList.map keyOf).Nodup
 mem:∀k,k∈es.toList.map keyOf↔k∈l
 sz:es.size<=l.length
 led:byT w=false->t.led=true/\(es.size=0\/t.plain=false)
def TS (prog:Program) (w:World) (h:Heap) (a:Addr) (l:List Str):Prop:=∃so es ep t,TSet prog w h a so es ep t l
theorem TS.at {prog:Program} {w:World} {h h':Heap} {a:Addr} {l:List Str} (x:TS prog w h a l) (e:∀o,h.get? a=some o->h'.get? a=some o):TS prog w h' a l :=
 let ⟨so,es,ep,t,y⟩:=x;⟨so,es,ep,t,y.at'.at e,y.ex,y.el,y.nd,y.mem,y.sz,y.led⟩
section
variable {prog:Program} {w:World} {A:Around} {E:Value->Shared->Prop} {s:Shared} {a:Addr} {so:Obj} {es:Array (Int×Value)} {ep:Nat} {t:SetTable} {l:List Str} {k:Str} {tk:Tok}
set_option maxHeartbeats 3200000 in
end
end VI
end
section
namespace VI
open PySem PySem.Spec PySem.W PyProof.Rows L2
theorem JFI {n:Nat}:∀t:KasT (Array Nat),So.wel n t=true->kIn n t=true
 | .ret a,_=>rfl
 | .ask i j k,h=>by
  simp only [So.wel,q_i] at h
  simp only [kIn,q_i]
  exact ⟨⟨h.1.1,JFI _ h.1.2⟩,JFI _ h.2⟩
theorem JED {n:Nat}:∀t:KasT (Array Nat),So.wel n t=true->kOut n t=true
 | .ret a,h=>by
  simp only [So.wel,q_i] at h
  exact h.2
 | .ask i j k,h=>by
  simp only [So.wel,q_i] at h
  simp only [kOut,q_i]
  exact ⟨JED _ h.1.2,JED _ h.2⟩
theorem JDo {n:Nat}:∀t:KasT (Array Nat),So.wel n t=true->kLen n t=true
 | .ret a,h=>by
  simp only [So.wel,q_i] at h
  exact h.1
 | .ask i j k,h=>by
  simp only [So.wel,q_i] at h
  simp only [kLen,q_i]
  exact ⟨JDo _ h.1.2,JDo _ h.2⟩
theorem JIa {zs:List Str} {vs:List Value} (h:Vals (zs.map V.str) vs) {i:Nat} (hi:i<zs.length):∃t,vs.getD i Value.none=.str (zs.getD i "") t:=by
 obtain ⟨u,hu,ru⟩:=h.get (i:=i) (x:=V.str zs[i]) (by simp [hi])
 obtain ⟨t,rfl⟩:∃t,u=.str zs[i] t:=ru
 exact ⟨t,by simp [List.getD_eq_getElem?_getD,hu,hi]⟩
theorem JRW {zs:List Str} {vs:List Value} (h:Vals (zs.map V.str) vs):∀v∈vs,∃x t,v=.str x t:=fun v hv=>by
 obtain ⟨i,hi,rfl⟩:=List.mem_iff_getElem.mp hv
 have hl:=h.length
 rw [q_g] at hl
 obtain ⟨t,e⟩:=JIa h (i:=i) (by omega)
 exact ⟨_,t,by simpa [List.getD_eq_getElem?_getD,hi] using e⟩
theorem JMz {zs:List Str} {vs:List Value} (h:Vals (zs.map V.str) vs) (l:List Nat) (hl:∀i∈l,i<zs.length):Vals ((l.map fun i=>zs.getD i "").map V.str) (l.map fun i=>vs.getD i Value.none):=by
 have:=JEQ h l fun i hi=>by rw [q_g];exact hl i hi
 have e:(l.map fun i=>(zs.map V.str).getD i .non)=(l.map fun i=>zs.getD i "").map V.str:=by
  rw [List.map_map]
  refine List.map_congr_left fun i hi=>?_
  have:=hl i hi
  simp [List.getD_eq_getElem?_getD,this]
 rwa [e] at this
section
variable {prog:Program} {w:World} {A:Around} {E:Value->Shared->Prop} {s s2:Shared} {L D:Addr} {m:Str->Option Value} {vs:List Value} {zs:List Str} {n:Nat}
theorem JHD {P:PySem.Fin->Shared->Prop} (hoL:s2.heap.get? D=some (seqObj "list" vs.toArray n)) (h2:vs.length<2)
  (h:∀h' c,(∀b o,b≠D->s2.heap.get? b=some o->h'.get? b=some o)->h'.get? D=some (seqObj "list" vs.toArray c)->P (.done (.ret .none)) { s2 with heap:=h' }) :
  wpAny (model prog w) A (Builtin.«list.sort» ⟨[.ref D],[]⟩) P E s2:=by
 obtain ⟨e1,ho1⟩:∃e1,(s2.heap.update D (Obj.mapSeq fun _=>(#[]:Array Value))).get? D=some (seqObj "list" #[] e1):=⟨_,get?_update_seq hoL fun _=>#[]⟩
 rw [list_sort_plain]
 refine q_b (listItems_at hoL rfl ?_)
 refine q_b (listUpdate_at hoL rfl ?_ (by rw [q_f,sizeLine_eq];omega) (Nat.zero_le _))
 refine q_b (seqEpoch_at ho1 rfl ?_)
 refine q_b (wpAny_newTuple ?_ (by show vs.length<=_;rw [sizeLine_eq];omega))
 refine q_b (wpAny_newList ?_ (Nat.zero_le _))
 refine wpAny_holding ?_
 dsimp only
 have hn2:vs.toArray.size<2:=by rw [q_f];omega
 rw [if_pos hn2,if_pos hn2]
 refine q_b (q_e ?_)
 refine q_b ?_
 refine (show wpAny (model prog w) A (pure ((),SortSt.mk' general' (vs.toArray.zip vs.toArray) #[] 7 none)) _ _ _ from q_e ?_)
 dsimp only
 have ho3:(((s2.heap.update D (Obj.mapSeq fun _=>(#[]:Array Value))).push { cls:=Value.type "tuple",data:=Data.seq vs.toArray }).push { cls:=Value.type "list",data:=Data.seq #[] }).get? D=some (seqObj "list" #[] e1):=q_c _ (q_c _ ho1)
 have hout:Array.map (fun x:Keyed=>x.snd) (arrOf (SortSt.mk' general' (vs.toArray.zip vs.toArray) #[] 7 none))=vs.toArray:=by
  show Array.map (fun x:Keyed=>x.snd) (vs.toArray.zip vs.toArray)=vs.toArray
  apply Array.ext'
  simp [List.map_snd_zip]
 refine q_b (seqEpoch_at ho3 rfl ?_)
 refine q_b (listUpdate_at ho3 rfl ?_ (Nat.zero_le _) (by rw [hout,q_f,sizeLine_eq];omega))
 have hfl:failedOf (SortSt.mk' general' (vs.toArray.zip vs.toArray) #[] 7 none)=none:=rfl
 simp only [bne_self_eq_false,q_v,if_false]
 refine q_e ?_
 rw [hout]
 obtain ⟨c2,hc2⟩:∃c2,((((s2.heap.update D (Obj.mapSeq fun _=>(#[]:Array Value))).push { cls:=Value.type "tuple",data:=Data.seq vs.toArray }).push { cls:=Value.type "list",data:=Data.seq #[] }).update D (Obj.mapSeq fun _=>vs.toArray)).get? D=some (seqObj "list" vs.toArray c2):=⟨_,get?_update_seq ho3 fun _=>vs.toArray⟩
 refine h _ c2 (fun b o hne q=>?_) hc2
 rw [Heap.get?_update_ne _ _ _ _ hne]
 refine q_c _ (q_c _ ?_)
 rw [Heap.get?_update_ne _ _ _ _ hne]
 exact q
theorem JIR {P:PySem.Fin->Shared->Prop} (hn:s.heap.Ns L m) (keep:∀b o,s.heap.get? b=some o->s2.heap.get? b=some o) (hDn:s.heap.get? D=none) (ho:s2.heap.get? D=some (seqObj "list" vs.toArray n)) (tv:Vals (zs.map V.str) vs) (h5:zs.length<=7)
  (h:∀h' c out,(∀b o,b≠L->s.heap.get? b=some o->h'.get? b=some o)->h'.Ns L m->h'.get? D=some (seqObj "list" (List.toArray out) c)->Vals ((JBw zs).map V.str) out->P (.done (.ret .none)) { s2 with heap:=h' }) :
  wpAny (model prog w) A (Builtin.«list.sort» ⟨[.ref D],[]⟩) P E s2:=by
 have hl:=tv.length
 rw [q_g] at hl
 have ne:∀b o,s.heap.get? b=some o->b≠D:=fun b o q z=>by rw [z,hDn] at q;cases q
 have hLD:D≠L:=by
  obtain ⟨o,_,_,q,_⟩:=hn
  exact Ne.symm (ne L o q)
 by_cases h2:zs.length<2
 ·have e:JBw zs=zs:=by unfold JBw;rw [if_pos h2]
  rw [e] at h
  refine JHD ho (by omega) fun h' c hk hd=>?_
  have kp:∀b o,s.heap.get? b=some o->h'.get? b=some o:=fun b o q=>hk b o (ne b o q) (keep b o q)
  exact h h' c vs (fun b o _ q=>kp b o q) (hn.at' fun o q=>kp L o q) hd tv
 ·have F:=(JKh hn).kept keep
  have N:=(JCO (h:=s.heap) (L:=L)).grown keep
  refine kas_list_sort (T:=.type "str") F N ho hLD ?_ (fun p hp=>?_) (by omega) (by omega) (fun e1 h' F' N' v hv=>?_) (by decide) (by decide) fun e1 h' F' N'=>?_
  · cases e:(below s.heap L).get? D with
    | none=>rfl
    | some o=>rw [(below_get.mp e).2] at hDn;cases hDn
  · exact ne _ _ (JCO (h:=s.heap) (L:=L) p hp).1
  · obtain ⟨x,t,rfl⟩:=JRW tv v hv
    exact Looks.of_pure rfl
  · rw [<-hl]
    refine JLt (n:=zs.length) (lt:=fun i j=>ltS (zs.getD i "") (zs.getD j "")) (fun i j C hi hj c=>?_) _ (JFI _ (So.wel_all (by omega) h5)) ?_
    ·unfold kas_ask
     obtain ⟨t1,e1⟩:=JIa tv hi
     obtain ⟨t2,e2⟩:=JIa tv hj
     rw [e1,e2]
     exact kas_lt_str c
    ·refine KasFin.intro F' N' (UpdF.head fun p hp=>ne _ _ (JCO (h:=s.heap) (L:=L) p hp).1) fun h2' c F2 N2=>?_
     have kp2:∀b o,b≠L->s.heap.get? b=some o->h2'.get? b=some o:=JKm F2 N2 fun p hp=>q_s _ hp
     refine h h2' c _ kp2 F2.ns (N2 _ (.head _)).1 ?_
     have e:JBw zs=(kGo (fun i j=>ltS (zs.getD i "") (zs.getD j "")) (kas_sort zs.length)).toList.map fun i=>zs.getD i "":=by unfold JBw;rw [if_neg h2]
     rw [e]
     exact JMz tv _ fun i hi=>JIp _ (JED _ (So.wel_all (by omega) h5)) i hi
end
end VI
end
section
namespace VI
open PySem PySem.Spec PyProof.Rows L2
open PySem.W (KasT kas_sort kas_ask KatTups KatLex KasFin UpdF)
theorem JH0 {zs:List Str} (h5:zs.length<=7):(JBw zs).length<=7:=by
 unfold JBw
 split
 ·exact h5
 ·rw [q_g,q_F]
  have:=JJO (lt:=fun i j=>ltS (zs.getD i "") (zs.getD j "")) _ (JDo _ (So.wel_all (n:=zs.length) (by omega) h5))
  omega
section
variable {X:Cx} {B:Bs} {C:Cn} {CX:CXT} {XX:Nat->Hp->Prop} {G:List (Str×GK)}
theorem JEA:CallR X (.builtin "sorted") (fun xs H Q=>∃l zs,xs=[.ref l]/\SqL X.K H l (zs.map V.str)/\zs.length<=7/\∀p,H p=none->Q (.ref p) (upd H p (.lst ((JBw zs).map V.str)))):=by
 intro pins s σ H xs us Q I r ⟨l,zs,e,hq,h5,q⟩
 subst e
 cases r with
 | cons ra rb =>
  cases rb
  cases ra
  obtain ⟨vs,rv,pl,hz⟩:=I.list hq
  have hl:=rv.length
  rw [q_g] at hl
  obtain ⟨m,hn,_⟩:=I.loc
  refine PySem.Calls.call_function_entry kind_sorted plain_sorted entry_sorted (args_sorted1 _) ?_
  unfold Builtin.«sorted»
  refine q_b (m:=checkCount "sorted" 1 1 _) (q_e ?_)
  refine q_b (collect_list pl.isList ?_ (by rw [sizeLine_eq];omega))
  refine q_b (wpAny_newList ?_ (by rw [sizeLine_eq];omega))
  have hsz:((s.heap.push (seqObj "list" #[] 0)).update s.heap.objs.size (Obj.mapSeq (·++vs.toArray))).objs.size=s.heap.objs.size+1:=by
   rw [Heap.size_update,size_push']
  have hoL:(((s.heap.push (seqObj "list" #[] 0)).update s.heap.objs.size (Obj.mapSeq (·++vs.toArray))).push (seqObj "list" vs.toArray 0)).get? (s.heap.objs.size+1)=some (seqObj "list" vs.toArray 0):=by
   rw [<-hsz];exact q_k _ rfl
  have keep:∀b o,s.heap.get? b=some o->(((s.heap.push (seqObj "list" #[] 0)).update s.heap.objs.size (Obj.mapSeq (·++vs.toArray))).push (seqObj "list" vs.toArray 0)).get? b=some o:=fun b o q=>by
   have hlt:b<s.heap.objs.size:=q_h q
   rw [Heap.get?_push_ne _ _ _ (by rw [hsz];exact q_l (q_E hlt)),Heap.get?_update_ne _ _ _ _ (q_l hlt),Heap.get?_push_ne _ _ _ (q_l hlt)]
   exact q
  have hDn:s.heap.get? (s.heap.objs.size+1)=none:=Heap.get?_none_of_le (Nat.le_succ _)
  show wpAny _ _ _ _ _ { s with heap:=((s.heap.push (seqObj "list" #[] 0)).update s.heap.objs.size (Obj.mapSeq (·++vs.toArray))).push (seqObj "list" vs.toArray 0) }
  rw [hsz]
  refine q_b (wpAny_holding (wpAny_call_entry slot_list_sort ⟨_,hoL,rfl⟩ entry_list_sort (JIR (s:=s) hn keep hDn hoL rv h5 fun h' c out kp hn' hd tv=>?_) (args_list_sort _)))
  refine ⟨_,rfl,q_e ⟨_,rfl,?_⟩⟩
  have ok:ObjOk X.prog X.w (upd H (s.heap.objs.size+1) (.lst ((JBw zs).map V.str))) h' (s.heap.objs.size+1) (.lst ((JBw zs).map V.str)):=by
   refine ⟨?_,out,c,tv,hd⟩
   have:=JH0 h5
   rw [q_g,sizeLine_eq];omega
  obtain ⟨h0,I2⟩:=JKb (D:=s.heap.objs.size+1) I hn hn' kp hDn ok
  exact ⟨.ref (s.heap.objs.size+1),_,I2,rfl,q _ h0⟩
end
end VI
end
section
namespace VI
open PySem PySem.Spec PyProof.Rows L2
section
variable {X:Cx} {B:Bs} {C:Cn} {CX:CXT} {XX:Nat->Hp->Prop} {G:List (Str×GK)}
theorem JGR {H:Hp}:∀ {ds:List D} {us:List V} {zs:List Str},strsOf ds=some zs->DenL B H ds us->us=zs.map V.str
 | [],us,zs,h,l=>by
  simp only [strsOf,q_j] at h
  simp only [DenL] at l
  subst h;subst l;rfl
 | d::ds,us,zs,h,l=>by
  simp only [DenL] at l
  obtain ⟨v,r,e,dv,l⟩:=l
  subst e
  cases d with
  | str x =>
   simp only [strsOf,q_d] at h
   obtain ⟨zs',h1,rfl⟩:=h
   simp only [Den] at dv
   subst dv
   rw [JGR h1 l]
   rfl
  | _=>simp [strsOf] at h
theorem JEl {H:Hp}:∀(zs:List Str) (H':Hp),DenL B H' (zs.map PyData.str) (zs.map V.str)
 | [],_=>by simp only [List.map_nil,DenL]
 | z::zs,H'=>by
  simp only [List.map_cons,DenL]
  exact ⟨_,_,rfl,by simp only [Den],JEl (H:=H) zs H'⟩
end
end VI
end
section
namespace VI
open PySem PySem.Spec PyProof.Rows L2
noncomputable def keyD:Key->D
 | .inl n=>.int n
 | .inr x=>.str x
theorem JGP {B:Bs} {H:Hp} (k:Key):Den B H (keyD k) (kV k):=by cases k<;>simp only [keyD,kV,Den]
theorem JFG {B:Bs} {H:Hp}:∀ {kvs:List (D×D)} {xs:List (Key×V)} {ks:List D},DenK B H kvs xs->JAt kvs=some ks->ks=xs.map fun p=>keyD p.1
 | [],xs,ks,h,e=>by simp only [DenK] at h;subst h;cases e;rfl
 |(k,d)::r,xs,ks,h,e=>by
  simp only [DenK] at h
  obtain ⟨y,v,r',rfl,rfl,h1,h2⟩:=h
  simp only [JAt] at e
  obtain ⟨ks',e1,rfl⟩:=q_d.mp e
  rw [List.map_cons,<-JFG h2 e1]
  rfl
theorem JDB {B:Bs} {H:Hp}:∀ {kvs:List (D×D)} {xs:List (Key×V)},DenK B H kvs xs->DenL B H (kvs.map Prod.snd) (xs.map Prod.snd)
 | [],xs,h=>by simp only [DenK] at h;subst h;simp [DenL]
 |(k,d)::r,xs,h=>by
  simp only [DenK] at h
  obtain ⟨y,v,r',rfl,rfl,h1,h2⟩:=h
  simp only [List.map_cons,DenL]
  exact ⟨v,_,rfl,h1,JDB h2⟩
theorem JDj {B:Bs} {H:Hp} {kvs:List (D×D)} {ks:List D} {v:V} (h:Den B H (.dict kvs) v) (hk:JAt kvs=some ks):∃a o xs,v=.ref a/\SqDo B.K B.w H a o xs/\DenK B H kvs xs:=by
 simp only [Den] at h
 rcases h with ⟨a,c,e,rfl,_⟩ | ⟨a,xs,e,⟨o,q⟩,l⟩
 ·cases hk
 ·exact ⟨a,o,xs,e,q,l⟩
theorem JLK {P:Program} {w:World} {k:Key} {u:Value} (h:(JAc P w).is k u=true):RelV (kV k) u:=by
 cases k with
 | inl n=>obtain ⟨t,rfl⟩:=Value.isInt_shape h;exact ⟨t,rfl⟩
 | inr x=>obtain ⟨t,rfl⟩:=Value.isStrOf_shape h;exact ⟨t,rfl⟩
theorem JLi {X:Cx} {pins:List (Addr×Obj)} {σ:St} {H:Hp} {s:Shared} (I:Inv X pins σ H s):sysModules<s.heap.objs.size :=
 Nat.lt_trans (by decide) (show mainGlobals<s.heap.objs.size from (I.mod.glob.keeps I.bk).lt)
theorem JIY {xs:List (Key×V)} {vs:List (Key×Value)} (h:KV xs vs):∀ {i:Nat} {k:Key} {v:V},xs[i]? = some (k,v)->∃u,vs[i]? = some (k,u)/\RelV v u:=by
 unfold KV at h
 induction h with
 | nil=>intro i k v e;simp at e
 | @cons p q ps qs hq t ih =>
  intro i k v e
  cases i with
  | zero =>
   simp only [List.getElem?_cons_zero,q_j] at e
   subst e
   have hk:k=q.1:=hq.1
   exact ⟨q.2,by simp only [List.getElem?_cons_zero];rw [hk],hq.2⟩
  | succ i=>exact ih (by simpa using e)
theorem JBZ {xs:List (Key×V)} {vs:List (Key×Value)} (h:KV xs vs):xs.length=vs.length:=Paired.length h
theorem JC8 {X:Cx} {pins:List (Addr×Obj)} {σ:St} {H:Hp} {s:Shared} {a:Addr} {o:Obj} {xs:List (Key×V)} {es:Array DictEntry} {ep:Nat} (I:Inv X pins σ H s) (q:SqDo X.K X.w H a o xs) (ho:o.data=.dict es ep) :
  (a==sysModules)=false/\∃vs,KV xs vs/\s.heap.DictAt (JAc X.prog X.w) a vs ep:=by
 obtain ⟨h1,h2,vs,kv,o',es',ep',g1,g2,g3,g4⟩:=SqDo.at I q
 rw [h2] at g1
 cases g1
 rw [ho] at g3
 cases g3
 exact ⟨h1,vs,kv,o,es,h2,g2,ho,g4⟩
theorem JIW {X:Cx} {pins:List (Addr×Obj)} {σ:St} {H:Hp} {s:Shared} {a:Addr} {o:Obj} {xs:List (Key×V)} (I:Inv X pins σ H s) (q:SqDo X.K X.w H a o xs):∃es ep,o.data=.dict es ep:=by
 obtain ⟨h1,h2,vs,kv,o',es',ep',g1,g2,g3,g4⟩:=SqDo.at I q
 rw [h2] at g1
 cases g1
 exact ⟨es',ep',g3⟩
noncomputable def Itd (K:PySem.W.Frag) (w:World) (a:Addr) (o:Obj) (xs:List (Key×V)):It :=
 ⟨fun i H=>SqDo K w H a o xs/\i<xs.length,fun i H x H'=>H'=H/\∃k v,xs[i]? = some (k,v)/\x=kV k,fun i H=>SqDo K w H a o xs/\xs.length<=i⟩
theorem JI8 {P:Program} {w:World} {K:PySem.W.Frag} {tg:Expr} (a it:Addr) (o:Obj) (xs:List (Key×V)) {es:Array DictEntry} {ep:Nat} (ho:o.data=.dict es ep):Turn P w K tg (Itd K w a o xs) [it] it (fun i h=>h.IsKeyIter it a i xs.length ep) where
 mem:=by simp
 obj:=fun i h st b hb=>by
  have e:b=it:=by simpa using hb
  subst e
  obtain ⟨o,e,c,d⟩:=st
  exact ⟨o,e,fun v z=>by rw [d] at z;cases z⟩
 keep:=fun i h h' st k=>by
  obtain ⟨o,e,c,d⟩:=st
  exact ⟨o,k it (by simp) o e,c,d⟩
 item:=by
  intro X hP hw hK hc i pins s σ H E I hf st hg
  subst hP hw hK
  obtain ⟨hq,hi⟩:=hg
  obtain ⟨hsys,vs,kv,dat⟩:=JC8 I hq ho
  obtain ⟨⟨k,v⟩,hx⟩:∃p,xs[i]? = some p:=⟨xs[i],by simp [hi]⟩
  obtain ⟨u,hu,ru⟩:=JIY kv hx
  have hl:=JBZ kv
  obtain ⟨f0,f1,f2,f3,f4,f5⟩:=hf it (by simp)
  rw [hl] at st
  refine wpAny_pyNext_dict_item st dat hu fun key h' hkey st' sb=>?_
  have I1:Inv X pins σ H { s with heap:=h' }:=I.turned (t':=s.toks) (fun b o hb e=>(sb.2 b hb).trans e) f0 f1 f3 f4 f5
  obtain ⟨o2,e,c,d⟩:=id st'
  exact ⟨key,rfl,JII (s:={ s with heap:=h' }) e c d (by decide) ⟨kV k,H,I1,JLK hkey,⟨rfl,k,v,hx,rfl⟩,by rw [hl];exact st',fun b hb=>(hf b hb).1⟩⟩
 done:=by
  intro X hP hw hK hc i pins s σ H E I hf st hg
  subst hP hw hK
  obtain ⟨hq,hi⟩:=hg
  obtain ⟨hsys,vs,kv,dat⟩:=JC8 I hq ho
  obtain ⟨f0,f1,f2,f3,f4,f5⟩:=hf it (by simp)
  have hl:=JBZ kv
  rw [hl] at st hi
  exact wpAny_pyNext_dict_end (I.ok.hd hc) st dat (by simp;omega) fun h' eb=>⟨rfl,I.turned (t':=s.toks) (fun b o hb e=>eb b o hb e) f0 f1 f3 f4 f5⟩
 self:=fun _ _ _ _ _ st h=>wpAny_pyIter_keyiter st h
noncomputable def IteD (K:PySem.W.Frag) (w:World) (a:Addr) (o:Obj) (xs:List (Key×V)):It :=
 ⟨fun i H=>SqDo K w H a o xs/\i<xs.length,fun i H x H'=>H'=H/\∃k,xs[i]? = some (k,x),fun i H=>SqDo K w H a o xs/\xs.length<=i⟩
theorem JHq {P:Program} {w:World} {K:PySem.W.Frag} {tg:Expr} (a it:Addr) (o:Obj) (xs:List (Key×V)) {es:Array DictEntry} {ep:Nat} (ho:o.data=.dict es ep):Turn P w K tg (IteD K w a o xs) [it] it (fun i h=>h.IsValIter it a i xs.length ep) where
 mem:=by simp
 obj:=fun i h st b hb=>by
  have e:b=it:=by simpa using hb
  subst e
  obtain ⟨o,e,c,d⟩:=st
  exact ⟨o,e,fun v z=>by rw [d] at z;cases z⟩
 keep:=fun i h h' st k=>by
  obtain ⟨o,e,c,d⟩:=st
  exact ⟨o,k it (by simp) o e,c,d⟩
 item:=by
  intro X hP hw hK hc i pins s σ H E I hf st hg
  subst hP hw hK
  obtain ⟨hq,hi⟩:=hg
  obtain ⟨hsys,vs,kv,dat⟩:=JC8 I hq ho
  obtain ⟨⟨k,v⟩,hx⟩:∃p,xs[i]? = some p:=⟨xs[i],by simp [hi]⟩
  obtain ⟨u,hu,ru⟩:=JIY kv hx
  have hl:=JBZ kv
  obtain ⟨f0,f1,f2,f3,f4,f5⟩:=hf it (by simp)
  rw [hl] at st
  refine wpAny_pyNext_values_item st dat hu fun h' st' sb=>?_
  have I1:Inv X pins σ H { s with heap:=h' }:=I.turned (t':=s.toks) (fun b o hb e=>(sb.2 b hb).trans e) f0 f1 f3 f4 f5
  obtain ⟨o2,e,c,d⟩:=id st'
  exact ⟨u,rfl,JII (s:={ s with heap:=h' }) e c d (by decide) ⟨v,H,I1,ru,⟨rfl,k,hx⟩,by rw [hl];exact st',fun b hb=>(hf b hb).1⟩⟩
 done:=by
  intro X hP hw hK hc i pins s σ H E I hf st hg
  subst hP hw hK
  obtain ⟨hq,hi⟩:=hg
  obtain ⟨hsys,vs,kv,dat⟩:=JC8 I hq ho
  obtain ⟨f0,f1,f2,f3,f4,f5⟩:=hf it (by simp)
  have hl:=JBZ kv
  rw [hl] at st hi
  exact wpAny_pyNext_values_end (I.ok.hd hc) st dat (by simp;omega) fun h' eb=>⟨rfl,I.turned (t':=s.toks) (fun b o hb e=>eb b o hb e) f0 f1 f3 f4 f5⟩
 self:=fun _ _ _ _ _ st h=>wpAny_pyIter_valiter st h
theorem JHb {B:Bs} {H:Hp} {a:Addr} {o:Obj} {kvs:List (D×D)} {xs:List (Key×V)} {ks:List D} (q:SqDo B.K B.w H a o xs) (l:DenK B H kvs xs) (hk:JAt kvs=some ks):ItOk B (Itd B.K B.w a o xs) H ks:=by
 intro H2 s2 i
 have q2:=JIt s2 q
 have e:=JFG l hk
 subst e
 refine ⟨fun d e=>?_,fun h=>⟨q2,by simpa using h⟩⟩
 rw [List.getElem?_map] at e
 obtain ⟨p,e1,rfl⟩:=q_d.mp e
 refine ⟨⟨q2,(q_p.mp e1).1⟩,fun x H3 y=>?_⟩
 obtain ⟨e3,k,v,e4,rfl⟩:=y
 rw [e1] at e4
 cases e4
 exact .inl ⟨e3,JGP k⟩
theorem JHk {B:Bs} {H:Hp} {a:Addr} {o:Obj} {kvs:List (D×D)} {xs:List (Key×V)} (q:SqDo B.K B.w H a o xs) (l:DenK B H kvs xs):ItOk B (IteD B.K B.w a o xs) H (kvs.map Prod.snd):=by
 intro H2 s2 i
 have q2:=JIt s2 q
 have l2:=JDB l
 have ll:=DenL.len _ _ l2
 refine ⟨fun d e=>?_,fun h=>⟨q2,by simp only [q_g] at ll h;omega⟩⟩
 obtain ⟨v,e1,dn⟩:=DenL.get _ _ i d l2 e
 rw [List.getElem?_map] at e1
 obtain ⟨p,e2,rfl⟩:=q_d.mp e1
 refine ⟨⟨q2,(q_p.mp e2).1⟩,fun x H3 y=>?_⟩
 obtain ⟨e3,k,e4⟩:=y
 rw [e2] at e4
 cases e4
 exact .inl ⟨e3,dn⟩
end VI
end
section
namespace VI
open PySem PySem.Spec PyProof.Rows L2
theorem JF5:∀ {xs:List V} {us:List Value},xs.length=us.length->(∀(i:Nat) (v:V) (u:Value),xs[i]? = some v->us[i]? = some u->RelV v u)->Vals xs us
 | [],[],_,_=>.nil
 | [],_::_,h,_=>by cases h
 | _::_,[],h,_=>by cases h
 | x::xs,u::us,h,k=>.cons (k 0 x u rfl rfl) (JF5 (by simpa using h) fun i v w e1 e2=>k (i+1) v w (by simpa using e1) (by simpa using e2))
section
variable {X:Cx} {B:Bs} {C:Cn} {CX:CXT} {XX:Nat->Hp->Prop} {G:List (Str×GK)} {pos:Pos}
theorem JGI {pins:List (Addr×Obj)} {σ:St} {H:Hp} {s:Shared} {h':Heap} {t':Nat} {xs:List (Key×V)} {vs:List (Key×Value)} (I:Inv X pins σ H s) (kp:∀b o,s.heap.get? b=some o->h'.get? b=some o) (hl:xs.length<=sizeLine) (kv:KV xs vs)
  (dd:h'.DictOf (JAc X.prog X.w) s.heap.objs.size vs):∃o,Inv X pins σ (upd H s.heap.objs.size (.frz o (.dK xs))) { s with heap:=h',toks:=t' }:=by
 obtain ⟨o,es,ep,g1,g2⟩:=id dd
 exact ⟨o,I.laid (a:=s.heap.objs.size) (o:=.frz o (.dK xs)) (t':=t') kp (q_t _) ⟨g1,hl,beq_eq_false_iff_ne.mpr (Ne.symm (q_l (JLi I))),vs,kv,dd⟩⟩
theorem JH5 {pins:List (Addr×Obj)} {σ:St} {H:Hp} {s:Shared} {h':Heap} {t':Nat} {xs:List (Key×V)} {vs:List (Key×Value)} (I:Inv X pins σ H s) (kp:∀b o,s.heap.get? b=some o->h'.get? b=some o) (hl:xs.length<=sizeLine) (kv:KV xs vs)
  (dd:h'.DictOf (JAc X.prog X.w) s.heap.objs.size vs):Inv X pins σ (upd H s.heap.objs.size (.dK xs)) { s with heap:=h',toks:=t' } :=
 I.laid (a:=s.heap.objs.size) (o:=.dK xs) (t':=t') kp (q_t _) ⟨hl,beq_eq_false_iff_ne.mpr (Ne.symm (q_l (JLi I))),vs,kv,dd⟩
theorem s_dnw:PE X (.Dict [] [] pos) (RE B C XX (.xop .dnw .nil)):=by
 intro pins s σ H Q I ⟨δ,ok,k⟩
 simp only [ev,evA] at k
 have k:KE B XX (.ok (.dict [])) H Q:=k
 refine wpAny_Dict_empty ?_
 obtain ⟨o,J⟩:=JGI (h':=s.heap.push { cls:=.type "dict",data:=.dict #[] }) (t':=s.toks) (xs:=[]) I (fun _ _ q=>q_c _ q) (Nat.zero_le _) .nil (Heap.DictOf.new s.heap)
 have hn:H s.heap.objs.size=none:=I.hok.fresh (q_t _)
 refine ⟨.ref s.heap.objs.size,_,J,rfl,k _ _ (JAZ hn) ?_⟩
 simp only [Den]
 exact .inr ⟨_,[],rfl,⟨o,.inl JAG⟩,by simp only [DenK]⟩
theorem JP5:PE X (.Dict [] [] pos) (REF B C XX (.xop .dnw .nil)):=by
 intro pins s σ H Q I ⟨δ,ok,k⟩
 simp only [ev,evA] at k
 have k:∀D ds xs H1,PyData.dict []=ds->Same H H1->H1 D=none->OwnO B H1 ds xs->Q (.ref D) (upd H1 D xs):=k
 refine wpAny_Dict_empty ?_
 have J:=JH5 (h':=s.heap.push { cls:=.type "dict",data:=.dict #[] }) (t':=s.toks) (xs:=[]) I (fun _ _ q=>q_c _ q) (Nat.zero_le _) .nil (Heap.DictOf.new s.heap)
 exact ⟨.ref s.heap.objs.size,_,J,rfl,k _ _ (.dK []) H rfl (Same.refl H) (I.hok.fresh (q_t _)) (by show DenK B H [] [];simp only [DenK])⟩
theorem JHF:CallR X (.type "dict") (fun xs H Q=>∃a o ys,xs=[.ref a]/\SqDo X.K X.w H a o ys/\ys.length<=sizeLine/\∀p o',H p=none->Q (.ref p) (upd H p (.frz o' (.dK ys)))):=by
 intro pins s σ H xs us Q I r h
 obtain ⟨a,o,ys,rfl,hq,hz,q⟩:=h
 obtain ⟨u,rfl,rx⟩:=vals1 r
 cases rx
 obtain ⟨hsys,_,vs,kv,dd⟩:=SqDo.at I hq
 refine kt_call_dict hsys dd (by rw [<-JBZ kv];exact hz) fun h' dd' hs=>?_
 obtain ⟨o',J⟩:=JGI (t':=s.toks) I (fun b q hq=>(hs.2 b (q_l (q_h hq))).trans (q_c _ hq)) hz kv dd'
 exact ⟨.ref s.heap.objs.size,_,J,rfl,q _ _ (I.hok.fresh (q_t _))⟩
theorem JGq:CallR X (.type "dict") (fun xs H Q=>∃a o ys,xs=[.ref a]/\SqDo X.K X.w H a o ys/\ys.length<=sizeLine/\∀p,H p=none->Q (.ref p) (upd H p (.dK ys))):=by
 intro pins s σ H xs us Q I r h
 obtain ⟨a,o,ys,rfl,hq,hz,q⟩:=h
 obtain ⟨u,rfl,rx⟩:=vals1 r
 cases rx
 obtain ⟨hsys,_,vs,kv,dd⟩:=SqDo.at I hq
 refine kt_call_dict hsys dd (by rw [<-JBZ kv];exact hz) fun h' dd' hs=>?_
 have J:=JH5 (t':=s.toks) I (fun b q hq=>(hs.2 b (q_l (q_h hq))).trans (q_c _ hq)) hz kv dd'
 exact ⟨.ref s.heap.objs.size,_,J,rfl,q _ (I.hok.fresh (q_t _))⟩
theorem JGx (hc:X.calm=true):CallR X (.type "list") (fun xs H Q=>∃a o ys,xs=[.ref a]/\SqDo X.K X.w H a o ys/\ys.length<=sizeLine/\∀p,H p=none->Q (.ref p) (upd H p (.lst (ys.map fun q=>kV q.1)))):=by
 intro pins s σ H xs us Q I r h
 obtain ⟨a,o,ys,rfl,hq,hz,q⟩:=h
 obtain ⟨u,rfl,rx⟩:=vals1 r
 cases rx
 obtain ⟨es,ep,ho⟩:=JIW I hq
 obtain ⟨hsys,vs,kv,dat⟩:=JC8 I hq ho
 have hl:=JBZ kv
 refine PySem.W.kdl_call (PySem.W.kdl_dict (knd:=JAc X.prog X.w) hsys) (I.ok.hd hc) dat (by rw [<-hl];exact hz) fun h' tk acc c' kp hS hacc=>?_
 obtain ⟨hn,hP⟩:=hacc
 have hv:Vals (ys.map fun q=>kV q.1) acc.toList:=by
  refine JF5 (by simp only [q_g,q_F,hn,hl]) fun i v u e1 e2=>?_
  rw [List.getElem?_map] at e1
  obtain ⟨p,e3,rfl⟩:=q_d.mp e1
  obtain ⟨k,x,f1,f2⟩:=hP i u (by simpa using e2)
  obtain ⟨u',g1,_⟩:=JIY kv (k:=p.1) (v:=p.2) e3
  rw [g1] at f1
  cases f1
  exact JLK f2
 exact ⟨.ref s.heap.objs.size,_,I.laid (t':=tk) kp (q_t _) (show ObjOk X.prog X.w _ h' _ (.lst _) from ⟨by rw [q_g];exact hz,acc.toList,c',hv,by simpa using hS⟩),rfl,q _ (I.hok.fresh (q_t _))⟩
theorem JFf {f:List D->R D} {d:D} {v:V} {H:Hp} {Q:VK} (g:Gk X B C CX XX G) (dn:Den B H d v) (k:KE B XX (keyL f d) H Q):∃kvs ks a o xs,d=.dict kvs/\JAt kvs=some ks/\v=.ref a/\SqDo X.K X.w H a o xs/\DenK B H kvs xs/\xs.length<=sizeLine/\ks=xs.map (fun p=>keyD p.1)/\KE B XX (f ks) H Q:=by
 cases d with
 | dict kvs =>
  simp only [keyL] at k
  split at k
  ·rename_i ks hk
   split at k
   ·rename_i hl
    obtain ⟨a,o,xs,e,q,l⟩:=JDj dn hk
    have ek:=JFG l hk
    rw [<-g.K,<-g.W] at q
    exact ⟨kvs,ks,a,o,xs,rfl,hk,e,q,l,by rw [ek,q_g] at hl;rw [sizeLine_eq];omega,ek,k⟩
   ·exact False.elim k
  ·exact False.elim k
 | _=>exact False.elim k
theorem JGT {H:Hp}:∀(xs:List (Key×V)),DenL B H (xs.map fun p=>keyD p.1) (xs.map fun q=>kV q.1)
 | []=>by simp [DenL]
 | p::r=>by simp only [List.map_cons,DenL];exact ⟨_,_,rfl,JGP p.1,JGT r⟩
end
section
variable {X:Cx} {B:Bs} {C:Cn} {CX:CXT} {XX:Nat->Hp->Prop} {G:List (Str×GK)} {pos p:Pos} {a b:Expr} {x y:E}
theorem JIK (g:Gk X B C CX XX G) {k:XO} {δ:Env} {σ:St} {H:Hp} {Q:VK} (ok:Sok B σ H δ) (h:KE B XX (ev C (.xop k (.cons x .nil)) δ) H Q) {r:V->Hp->Prop} (hr:∀d v H1,Same H H1->Den B H1 d v->KE B XX (xD k [d]) H1 Q->r v H1):RE B C XX x σ H r:=by
 simp only [ev,evA] at h
 refine RE.of (W:=fun r H=>KE B XX r H Q) (f:=fun d=>xD k [d]) ok (fun _ _ z=>z) (fun _ z=>z) (by
  cases q:ev C x δ with
  | ok d=>rw [q] at h;exact h
  | exc c=>rw [q] at h;exact h
  | bad=>rw [q] at h;exact h) fun d v H1 s1 d1 h1=>hr d v H1 s1 d1 (KE.mono g s1 h1)
theorem s_dcp (g:Gk X B C CX XX G) (hg:Gl X "dict") (hl:G.lookup ("dict":Str)=some (.ty .dict)) (ha:PE X a (RE B C XX x)) (he:starEach [a] X.env=[(false,eval a X.env)]):PE X (.Call (.Name "dict" p) [a] [] pos) (RE B C XX (.xop .dcp (.cons x .nil))):=by
 refine PE.imp (JB9 (es:=[]) JHF hg (g.ty _ _ hl) (by decide +kernel) (JBS ha JCZ he) (by decide) (by decide) he rfl) fun σ H Q ⟨δ,ok,k⟩=>?_
 refine JIK g ok k fun d v H1 s1 d1 k1=>?_
 have k1:KE B XX (keyL (fun _=>.ok d) d) H1 Q:=k1
 obtain ⟨kvs,ks,a',o,xs,rfl,hk,rfl,q,l,hz,_,k2⟩:=JFf g d1 k1
 refine ⟨a',o,xs,rfl,q,hz,fun p o' hp=>k2 _ _ (JAZ hp) ?_⟩
 simp only [Den]
 exact .inr ⟨p,xs,rfl,⟨o',.inl JAG⟩,DenK.mono (JAZ hp) _ _ l⟩
theorem JO3 (g:Gk X B C CX XX G) (hg:Gl X "dict") (hl:G.lookup ("dict":Str)=some (.ty .dict)) (ha:PE X a (RE B C XX x)) (he:starEach [a] X.env=[(false,eval a X.env)]):PE X (.Call (.Name "dict" p) [a] [] pos) (REF B C XX (.xop .dcp (.cons x .nil))):=by
 refine PE.imp (JB9 (es:=[]) JGq hg (g.ty _ _ hl) (by decide +kernel) (JBS ha JCZ he) (by decide) (by decide) he rfl) fun σ H Q ⟨δ,ok,k⟩=>?_
 simp only [ev,evA] at k
 refine ⟨δ,ok,?_⟩
 cases q:ev C x δ with
 | ok d =>
  rw [q] at k
  intro v H1 s1 d1
  simp only [VI.R.bind] at k
  have e:xD .dcp [d]=keyL (fun _=>.ok d) d:=rfl
  rw [e] at k
  cases hr:keyL (fun _=>.ok d) d with
  | ok d' =>
   have k1:KE B XX (keyL (fun _=>.ok d) d) H1 (fun v' _=>True):=by rw [hr];exact fun _ _ _ _=>trivial
   obtain ⟨kvs,ks,a',o,xs,rfl,hk,rfl,q,l,hz,_,k2⟩:=JFf g d1 k1
   have ed:d'=.dict kvs:=by
    simp only [keyL,hk] at hr
    split at hr
    ·cases hr;rfl
    ·cases hr
   subst ed
   rw [hr] at k
   refine ⟨a',o,xs,rfl,q,hz,fun p hp=>?_⟩
   exact k p _ (.dK xs) H1 rfl s1 hp l
  | exc c =>
   exfalso
   cases d with
   | dict kvs =>
    simp only [keyL] at hr
    split at hr
    ·split at hr<;>cases hr
    ·cases hr
   | _=>cases hr
  | bad=>rw [hr] at k;exact k.elim
 | exc c=>rw [q] at k;exact k
 | bad=>rw [q] at k;exact k
theorem s_dls (g:Gk X B C CX XX G) (hg:Gl X "list") (hl:G.lookup ("list":Str)=some (.ty .list)) (ha:PE X a (RE B C XX x)) (he:starEach [a] X.env=[(false,eval a X.env)]):PE X (.Call (.Name "list" p) [a] [] pos) (RE B C XX (.xop .dls (.cons x .nil))):=by
 refine PE.imp (JB9 (es:=[]) (call_list_of.or (JGx g.calm)) hg (g.ty _ _ hl) (by decide +kernel) (JBS ha JCZ he) (by decide) (by decide) he rfl) fun σ H Q ⟨δ,ok,k⟩=>?_
 refine JIK g ok k fun d v H1 s1 d1 k1=>?_
 cases d with
 | list ys =>
  have k1:KE B XX (.ok (.list ys)) H1 Q:=k1
  simp only [Den] at d1
  obtain ⟨q,vs,e,sq,l⟩:=d1
  subst e
  refine .inl ⟨q,vs,rfl,.inl (g.K▸sq),fun p' hp=>k1 _ _ (JAZ hp) ?_⟩
  simp only [Den]
  exact ⟨p',_,rfl,SqL.of JAG,DenL.mono (JAZ hp) _ _ l⟩
 | tuple ys =>
  have k1:KE B XX (.ok (.list ys)) H1 Q:=k1
  simp only [Den] at d1
  obtain ⟨q,vs,e,sq,l⟩:=d1
  subst e
  refine .inl ⟨q,vs,rfl,.inr (g.K▸sq),fun p' hp=>k1 _ _ (JAZ hp) ?_⟩
  simp only [Den]
  exact ⟨p',_,rfl,SqL.of JAG,DenL.mono (JAZ hp) _ _ l⟩
 | dict kvs =>
  have k1:KE B XX (keyL (fun ks=>.ok (.list ks)) (.dict kvs)) H1 Q:=k1
  obtain ⟨kvs',ks,a',o,xs,e0,hk,rfl,q,l,hz,ek,k2⟩:=JFf g d1 k1
  refine .inr ⟨a',o,xs,rfl,q,hz,fun p' hp=>k2 _ _ (JAZ hp) ?_⟩
  simp only [Den]
  exact ⟨p',_,rfl,SqL.of JAG,by rw [ek];exact JGT xs⟩
 | _=>exact False.elim k1
theorem i_dit (g:Gk X B C CX XX G) {tg:Expr} (ha:PE X a (RE B C XX x)):PI X tg a (RI B C XX (.xop .dit (.cons x .nil))):=by
 intro pins s σ H R I ⟨δ,ok,k⟩
 simp only [evI,evA] at k
 cases q:ev C x δ with
 | ok d =>
  rw [q] at k
  simp only [VI.R.bind] at k
  cases d with
  | list ds =>
   have k:KI B XX (.ok ds) H R:=k
   refine JEG ha pins s σ H R I ⟨δ,ok,?_⟩
   rw [q]
   intro v H1 s1 d1
   simp only [Den] at d1
   obtain ⟨p,xs,e,hq,l⟩:=d1
   refine ⟨p,e,⟨xs,g.K▸hq⟩,?_⟩
   rw [g.K]
   exact k _ H1 s1 (JE0 hq l)
  | tuple ds =>
   have k:KI B XX (.ok ds) H R:=k
   refine JLC ha pins s σ H R I ⟨δ,ok,?_⟩
   rw [q]
   intro v H1 s1 d1
   simp only [Den] at d1
   obtain ⟨p,xs,e,hq,l⟩:=d1
   refine ⟨p,e,⟨xs,g.K▸hq⟩,?_⟩
   rw [g.K]
   exact k _ H1 s1 (JF8 hq l)
  | dict kvs =>
   have e0:xD .dit [.dict kvs]=keyL (fun ks=>.ok (.list ks)) (.dict kvs):=rfl
   rw [e0] at k
   refine thn (ha pins s σ H (fun v H1=>Same H H1/\Den B H1 (.dict kvs) v) I ⟨δ,ok,by rw [q];exact fun v H1 s1 d1=>⟨s1,d1⟩⟩) fun u s1 ⟨v,H1,I1,r1,sm,d1⟩=>?_
   cases hk:JAt kvs with
   | none=>simp only [keyL,hk] at k;exact k.elim
   | some ks =>
    simp only [keyL,hk] at k
    by_cases hlk:ks.length<=1000000
    ·rw [if_pos hlk] at k
     have k:KI B XX (.ok ks) H R:=k
     obtain ⟨a',o,xs,rfl,hq,l⟩:=JDj d1 hk
     cases r1
     have hq':SqDo X.K X.w H1 a' o xs:=by rw [g.K,g.W];exact hq
     obtain ⟨es,ep,ho⟩:=JIW I1 hq'
     obtain ⟨hsys,vs,kv,dat⟩:=JC8 I1 hq' ho
     refine wpAny_pyIter_dict hsys dat ?_
     refine ⟨s1.heap.objs.size,[s1.heap.objs.size],_,_,H1,rfl,I1.kept (t':=s1.toks) fun b o e=>q_c _ e,JI8 (P:=X.prog) a' _ o xs ho,⟨_,q_k _ rfl,rfl,by rw [JBZ kv];rfl⟩,fun b hb=>?_,?_⟩
     ·have e:b=s1.heap.objs.size:=by simpa using hb
      subst e
      exact I1.fpOk (q_t _) (I1.hok.fresh (q_t _))
     ·rw [g.K,g.W]
      exact k _ H1 sm (JHb hq l hk)
    ·rw [if_neg hlk] at k;exact k.elim
  | _=>exact False.elim k
 | exc c =>
  rw [q] at k
  refine JEG ha pins s σ H R I ⟨δ,ok,?_⟩
  rw [q]
  exact k
 | bad=>rw [q] at k;exact k.elim
theorem i_dvs (g:Gk X B C CX XX G) {tg o:Expr} {ap cp:Pos} (ho:JBe o=false) (hl:(ap.endLine==cp.line)=true) (ha:PE X o (RE B C XX x)):PI X tg (.Call (.Attribute o "values" ap) [] [] cp) (RI B C XX (.xop .dvs (.cons x .nil))):=by
 intro pins s σ H R I ⟨δ,ok,k⟩
 simp only [evI,evA] at k
 refine wpAny_Call_method0_late (JHM ho _ _ _) hl (thn (ha pins s σ H (fun v H1=>∃d,ev C x δ=.ok d/\Same H H1/\Den B H1 d v) I ⟨δ,ok,by
  cases q:ev C x δ with
  | ok d=>exact fun v H1 s1 d1=>⟨d,rfl,s1,d1⟩
  | exc c=>rw [q] at k;exact k
  | bad=>rw [q] at k;exact k⟩) fun v s1 ⟨vx,H1,I1,r1,d,q,sm,d1⟩=>?_)
 rw [q] at k
 simp only [VI.R.bind] at k
 cases d with
 | dict kvs =>
  cases hk:JAt kvs with
  | none =>
   have e0:xD .dvs [.dict kvs]=.bad:=by show (match JAt kvs with | some _=>VI.R.ok (PyData.list (kvs.map Prod.snd)) | none=>VI.R.bad)=_;rw [hk]
   rw [e0] at k;exact k.elim
  | some ks =>
   have e0:xD .dvs [.dict kvs]=.ok (.list (kvs.map Prod.snd)):=by show (match JAt kvs with | some _=>VI.R.ok (PyData.list (kvs.map Prod.snd)) | none=>VI.R.bad)=_;rw [hk]
   rw [e0] at k
   have k:KI B XX (.ok (kvs.map Prod.snd)) H R:=k
   obtain ⟨a',o',xs,rfl,hq,l⟩:=JDj d1 hk
   cases r1
   have hq':SqDo X.K X.w H1 a' o' xs:=by rw [g.K,g.W];exact hq
   obtain ⟨hsys,hget,vs,kv,dd⟩:=SqDo.at I1 hq'
   obtain ⟨ob,es,ep,ho',hex,_⟩:=id dd
   refine ⟨"dict",_,PySem.F.plainAttrs_dict,PySem.F.slot_dict_values,PySem.F.type_dict_values,dd.typeIs,fun q e=>?_,?_⟩
   ·cases e
    exact ⟨ob,ho',hex.2.1⟩
   ·refine Calls.callWith_builtin rfl (PySem.evalArgs_none ?_)
    refine call_meetsIn PySem.F.slot_dict_values dd.typeIs PySem.F.entry_dict_values (PySem.F.args_dict_values_1 _) (meets_dict_values (JAc X.prog X.w) a' hsys) ⟨⟨_,dd⟩,?_⟩
    have J1:Inv X pins σ H1 { s1 with heap:=s1.heap.push { cls:=.type "dict_values",data:=.fields #[.ref a'] } }:=I1.kept (t':=s1.toks) fun b o e=>q_c _ e
    obtain ⟨es2,ep2,hoe⟩:=JIW J1 hq'
    obtain ⟨_,vs2,kv2,dat⟩:=JC8 J1 hq' hoe
    refine wpAny_pyIter_values ⟨_,q_k _ rfl,rfl,rfl⟩ dat ?_
    refine ⟨_,[_],_,_,H1,rfl,J1.kept (t':=s1.toks) fun b o e=>q_c _ e,JHq (P:=X.prog) a' _ o' xs hoe,⟨_,q_k _ rfl,rfl,by rw [JBZ kv2];rfl⟩,fun b hb=>?_,?_⟩
    ·have e:=List.mem_singleton.mp hb
     subst e
     exact J1.fpOk (q_t _) (J1.hok.fresh (q_t _))
    ·rw [g.K,g.W]
     exact k _ H1 sm (JHk hq l)
 | _=>exact False.elim k
end
theorem JFD {B:Bs} {H:Hp} {k:Str}:∀ {kvs:List (D×D)} {xs:List (Key×V)},DenK B H kvs xs->hasK kvs k=(xs.find? fun p=>p.1=Sum.inr k).isSome
 | [],xs,h=>by simp only [DenK] at h;subst h;rfl
 |(z,d)::r,xs,h=>by
  simp only [DenK] at h
  obtain ⟨y,v,r',rfl,rfl,h1,h2⟩:=h
  simp only [hasK,JFD h2,List.find?_cons]
  by_cases e:y=k
  · subst e;simp
  · have:¬((Sum.inr y:Key)=Sum.inr k):=fun z=>e (Sum.inr.inj z)
    simp [e,this]
theorem JNO {xs:List (Key×V)} {vs:List (Key×Value)} {k:Str} (h:KV xs vs):(valueAt vs (Sum.inr k:Key)).isSome=(xs.find? fun p=>p.1=Sum.inr k).isSome:=by
 cases q:(xs.find? fun p=>p.1=Sum.inr k) with
 | none=>rw [(JC2 h).2 (by rw [q];rfl)];rfl
 | some p =>
  obtain ⟨u,e,_⟩:=(JC2 h).1 p.2 (by rw [q];rfl)
  rw [e];rfl
section
variable {X:Cx} {B:Bs} {C:Cn} {CX:CXT} {XX:Nat->Hp->Prop} {G:List (Str×GK)} {pos p:Pos} {a b:Expr} {x y:E}
theorem JK2 {d:D} (h:JDX d=true):∃kvs,d=.dict kvs:=by
 cases d with
 | dict kvs=>exact ⟨kvs,rfl⟩
 | _=>cases h
theorem JMB (g:Gk X B C CX XX G) {pins:List (Addr×Obj)} {s:Shared} {σ:St} {H:Hp} {dx dy:D} {x y:V} {v u:Value} {f:Bool->R D} {Q:VK} (I:Inv X pins σ H s) (rx:RelV x v) (ry:RelV y u) (hd:JDX dy=true) (hx:Den B H dx x) (hy:Den B H dy y)
  (k:KE B XX ((JCh dx dy).bind f) H Q):∃a vs kx t,u=.ref a/\v=.str kx t/\(a==sysModules)=false/\s.heap.DictOf (JAc X.prog X.w) a vs/\KE B XX (f (valueAt vs (Sum.inr kx:Key)).isSome) H Q:=by
 obtain ⟨kvs,rfl⟩:=JK2 hd
 cases dx with
 | str kx =>
  simp only [JCh] at k
  cases hk:JAt kvs with
  | none=>rw [hk] at k;exact k.elim
  | some ks =>
    rw [hk] at k
    obtain ⟨a',o,xs,rfl,hq,l⟩:=JDj hy hk
    cases ry
    simp only [Den] at hx
    subst hx
    obtain ⟨t,rfl⟩:=rx
    rw [<-g.K,<-g.W] at hq
    obtain ⟨hsys,_,vs,kv,dd⟩:=SqDo.at I hq
    refine ⟨a',vs,kx,t,rfl,rfl,hsys,dd,?_⟩
    rw [JNO kv,<-JFD l]
    exact k
 | _=>exact False.elim k
theorem JJM (g:Gk X B C CX XX G) {pins:List (Addr×Obj)} {s:Shared} {σ:St} {H:Hp} {A:Around} (I:Inv X pins σ H s) (hu:A.in1.units+64<cLine) {kb:List (D×D)} {xb:List (Key×V)} {vb:List (Key×Value)} (lb:DenK B H kb xb) (kvb:KV xb vb) :
  ∀ {ka:List (D×D)} {xa:List (Key×V)} {va:List (Key×Value)} {r:Bool},DenK B H ka xa->KV xa va->JCa kb ka=.ok r->PySem.W.KeqHits A.in1 s vb va r
 | [],xa,va,r,h,kv,e=>by
  simp only [DenK] at h
  subst h
  cases kv
  cases e
  exact .nil
 |(z,d)::ra,xa,va,r,h,kv,e=>by
  simp only [DenK] at h
  obtain ⟨y,v,r',rfl,rfl,h1,h2⟩:=h
  cases kv with
  | @cons _ q _ qs hq t =>
    obtain ⟨k',u⟩:=q
    obtain ⟨e1,e2⟩:=hq
    simp only at e1 e2
    subst e1
    simp only [JCa] at e
    cases hg:getK kb y with
    | ok d2 =>
     rw [hg] at e
     simp only at e
     split at e
     ·rename_i hs
      cases hr:JCa kb ra with
      | ok b =>
       rw [hr] at e
       cases e
       obtain ⟨v2,f1,f2⟩:=JDE lb hg
       obtain ⟨u2,f3,f4⟩:=(JC2 kvb).1 v2 f1
       simp only [q_i] at hs
       have c1:d.canLay0=true:=(Bool.and_eq_true_iff.mp hs.1).1
       have c2:d2.canLay0=true:=(Bool.and_eq_true_iff.mp hs.2).1
       obtain ⟨as,ra'⟩:=Den.reads g.K I d v u c1 h1 e2
       obtain ⟨bs,rb'⟩:=Den.reads g.K I d2 v2 u2 c2 f2 f4
       exact .hit f3 (PySem.W.keq_at ra' rb' hs.1 hs.2 hu) (JJM g I hu lb kvb h2 t hr)
      | exc c=>rw [hr] at e;cases e
      | bad=>rw [hr] at e;cases e
     ·cases e
    | exc c=>exact (JD0 hg).elim
    | bad =>
     rw [hg] at e
     cases e
     refine .miss ?_
     have hb:∀ {kb:List (D×D)} {xb:List (Key×V)},DenK B H kb xb->getK kb y=.bad->(xb.find? fun p=>p.1=Sum.inr y).map (·.2)=none:=by
      intro kb
      induction kb with
      | nil=>intro xb h _;simp only [DenK] at h;subst h;rfl
      | cons p r ih =>
       intro xb h hb
       obtain ⟨z,d⟩:=p
       simp only [DenK] at h
       obtain ⟨y2,v2,r2,rfl,rfl,g1,g2⟩:=h
       simp only [getK] at hb
       split at hb
       ·cases hb
       ·rename_i hne
        have:¬((Sum.inr y2:Key)=Sum.inr y):=fun z=>hne (Sum.inr.inj z)
        simpa [List.find?,this] using ih g2 hb
     exact (JC2 kvb).2 (hb lb hg)
theorem JLG (g:Gk X B C CX XX G) {pins:List (Addr×Obj)} {s:Shared} {σ:St} {H:Hp} {dx dy:D} {x y:V} {v u:Value} {r:R Bool} {f:Bool->R D} {Q:VK} (I:Inv X pins σ H s) (rx:RelV x v) (ry:RelV y u) (hd:JBO dx dy=some r) (hx:Den B H dx x) (hy:Den B H dy y)
  (k:KE B XX (r.bind f) H Q):∃a b va vb t,v=.ref a/\u=.ref b/\(a==sysModules)=false/\(b==sysModules)=false/\s.heap.DictOf (JAc X.prog X.w) a va/\s.heap.DictOf (JAc X.prog X.w) b vb/\(va.length=vb.length->PySem.W.KeqHits X.A.in1 s vb va t)/\KE B XX (f (va.length==vb.length&&t)) H Q:=by
 cases dx with
 | dict ka =>
  cases dy with
  | dict kb =>
    cases hd
    unfold eqD2 at k
    cases h1:JAt ka with
    | none=>rw [h1] at k;exact k.elim
    | some k1 =>
     cases h2:JAt kb with
     | none=>rw [h1,h2] at k;exact k.elim
     | some k2 =>
      rw [h1,h2] at k
      obtain ⟨a',o,xs,rfl,hq,l⟩:=JDj hx h1
      obtain ⟨b',o',ys,rfl,hq',l'⟩:=JDj hy h2
      cases rx;cases ry
      rw [<-g.K,<-g.W] at hq hq'
      obtain ⟨s1,_,va,kva,da⟩:=SqDo.at I hq
      obtain ⟨s2,_,vb,kvb,db⟩:=SqDo.at I hq'
      have la:ka.length=va.length:=by rw [<-JBZ kva,<-q_g (f:=Prod.snd) (as:=ka),DenL.len _ _ (JDB l),q_g]
      have lb:kb.length=vb.length:=by rw [<-JBZ kvb,<-q_g (f:=Prod.snd) (as:=kb),DenL.len _ _ (JDB l'),q_g]
      have hu:X.A.in1.units+64<cLine:=by
       have h1:=g.units
       have h2:X.A.in1.units<=X.A.units+1:=by first | exact q_t _ | (show X.A.units+1<=_;omega) | (simp [Around.in1])
       omega
      by_cases hl:ka.length=kb.length
      ·simp only [if_pos hl] at k
       cases hr:JCa kb ka with
       | ok t =>
        rw [hr] at k
        refine ⟨a',b',va,vb,t,rfl,rfl,s1,s2,da,db,fun _=>JJM g I hu l' kvb l kva hr,?_⟩
        have:(va.length==vb.length)=true:=by rw [beq_iff_eq];omega
        rw [this,Bool.true_and]
        exact k
       | exc c =>
        exfalso
        have:∀ {ka:List (D×D)},JCa kb ka≠.exc c:=by
         intro ka
         induction ka with
         | nil=>intro h;cases h
         | cons p r ih =>
          intro h
          obtain ⟨z,d⟩:=p
          cases z<;>simp only [JCa] at h<;>first | (cases h;done) | skip
          split at h
          ·split at h
           ·split at h<;>cases h
           ·cases h
          ·cases h
        exact this hr
       | bad=>rw [hr] at k;exact k.elim
      ·simp only [if_neg hl] at k
       refine ⟨a',b',va,vb,false,rfl,rfl,s1,s2,da,db,fun e=>absurd (by omega) hl,?_⟩
       rw [Bool.and_false]
       exact k
  | _=>cases hd
 | _=>cases dy<;>cases hd
theorem JQz (g:Gk X B C CX XX G) {op:CmpOp} {k:XO} (h:dCmp op=some k):OpR X (compareOp op) (fun x y H Q=>∃dx dy,Den B H dx x/\Den B H dy y/\KE B XX (xD k [dx,dy]) H Q):=by
 intro pins s σ H x y v u Q I rx ry ⟨dx,dy,hx,hy,kk⟩
 cases op<;>simp only [dCmp,q_j,reduceCtorEq] at h<;>subst h
 ·cases hd:JBO dx dy with
  | some r =>
   have kk:KE B XX (match JBO dx dy with | some r=>r.bind fun b=>VI.R.ok (PyData.bool b) | none=>cmpD .Eq dx dy) H Q:=kk
   rw [hd] at kk
   obtain ⟨a',b',va,vb,t,rfl,rfl,s1,s2,da,db,hh,k2⟩:=JLG g I rx ry hd hx hy kk
   exact PySem.W.keq_eq s1 s2 da db (by have:=g.units;omega) hh ⟨.bl _,H,I,rfl,KE.ok k2 (by simp only [Den])⟩
  | none =>
   have kk:KE B XX (match JBO dx dy with | some r=>r.bind fun b=>VI.R.ok (PyData.bool b) | none=>cmpD .Eq dx dy) H Q:=kk
   rw [hd] at kk
   exact JG1 g .Eq pins s σ H x y v u Q I rx ry ⟨dx,dy,hx,hy,kk⟩
 ·cases hd:JBO dx dy with
  | some r =>
   have kk:KE B XX (match JBO dx dy with | some r=>r.bind fun b=>VI.R.ok (PyData.bool (!b)) | none=>cmpD .NotEq dx dy) H Q:=kk
   rw [hd] at kk
   obtain ⟨a',b',va,vb,t,rfl,rfl,s1,s2,da,db,hh,k2⟩:=JLG g I rx ry hd hx hy kk
   exact PySem.W.keq_ne s1 s2 da db (by have:=g.units;omega) hh ⟨.bl _,H,I,rfl,KE.ok k2 (by simp only [Den])⟩
  | none =>
   have kk:KE B XX (match JBO dx dy with | some r=>r.bind fun b=>VI.R.ok (PyData.bool (!b)) | none=>cmpD .NotEq dx dy) H Q:=kk
   rw [hd] at kk
   exact JG1 g .NotEq pins s σ H x y v u Q I rx ry ⟨dx,dy,hx,hy,kk⟩
 ·have kk:KE B XX (if JDX dy=true then (JCh dx dy).bind fun b=>VI.R.ok (PyData.bool b) else cmpD .In dx dy) H Q:=kk
  cases hd:JDX dy with
  | true =>
   rw [hd,if_pos rfl] at kk
   obtain ⟨a',vs,kx,t,rfl,rfl,s1,dd,k2⟩:=JMB g I rx ry hd hx hy kk
   exact wpAny_in_of (JBH _ _ kx t) s1 dd.mapOf ⟨.bl _,H,I.tok _,rfl,KE.ok k2 (by simp only [Den])⟩
  | false =>
   rw [hd,if_neg Bool.false_ne_true] at kk
   exact JG1 g .In pins s σ H x y v u Q I rx ry ⟨dx,dy,hx,hy,kk⟩
 ·have kk:KE B XX (if JDX dy=true then (JCh dx dy).bind fun b=>VI.R.ok (PyData.bool (!b)) else cmpD .NotIn dx dy) H Q:=kk
  cases hd:JDX dy with
  | true =>
   rw [hd,if_pos rfl] at kk
   obtain ⟨a',vs,kx,t,rfl,rfl,s1,dd,k2⟩:=JMB g I rx ry hd hx hy kk
   exact wpAny_notIn_of (JBH _ _ kx t) s1 dd.mapOf ⟨.bl _,H,I.tok _,rfl,KE.ok k2 (by simp only [Den])⟩
  | false =>
   rw [hd,if_neg Bool.false_ne_true] at kk
   exact JG1 g .NotIn pins s σ H x y v u Q I rx ry ⟨dx,dy,hx,hy,kk⟩
end
theorem JDN {d:D}:∀ {δ:Env} {i:Nat},δ[i]? = some (.own d)->JAg i δ=δ.set i (.val d)
 | [],_,h=>by simp at h
 | s::r,0,h=>by
  simp only [List.getElem?_cons_zero,q_j] at h
  subst h
  simp only [JAg,List.set_cons_zero]
 | s::r,i+1,h=>by simp only [JAg,List.set_cons_succ,JDN (δ:=r) (i:=i) (by simpa using h)]
theorem JDC:∀ {δ:Env} {i:Nat},(∀d,δ[i]?≠some (.own d))->JAg i δ=δ
 | [],_,_=>by simp only [JAg]
 | s::r,0,h=>by
  cases s with
  | own d=>exact absurd (by simp) (h d)
  | no=>simp only [JAg]
  | val d=>simp only [JAg]
 | s::r,i+1,h=>by simp only [JAg];rw [JDC (δ:=r) (i:=i) fun d e=>h d (by simpa using e)]
section
variable {X:Cx} {B:Bs} {C:Cn} {CX:CXT} {XX:Nat->Hp->Prop} {G:List (Str×GK)} {pins:List (Addr×Obj)} {σ:St} {H H':Hp} {s:Shared} {δ:Env} {O:Ow} {Hb:Hp}
theorem JGi (so:SO B Hb σ H δ O) {i:Nat} {a:Addr} {d d0:D} (hd0:δ[i]? = some (.own d0)) (ha:O i=some a) (hs:σ[i]? = some (some (.ref a))) (hb:Hb a=none) (hH:∀b,b≠a->H' b=H b) (dn:Den B (hid H' (setO O i none)) d (.ref a)):SO B Hb σ H' (δ.set i (.val d)) (setO O i none):=by
 have s1:Same (hid H O) (hid H' (setO O i none)):=fun b o e=>by
  obtain ⟨h1,h2⟩:=JAu e
  have hba:b≠a:=fun z=>h1 ⟨i,by rw [z];exact ha⟩
  rw [hid,JAH fun ⟨j,hj⟩=>h1 ⟨j,by
   by_cases hji:j=i
   ·subst hji;rw [JAX] at hj;cases hj
   ·rw [JAS hji] at hj;exact hj⟩,hH b hba]
  exact h2
 refine ⟨by simpa using so.len,fun b o e=>?_,fun j k c h1 h2=>?_,fun j=>?_⟩
 ·have hba:b≠a:=fun z=>by rw [z,hb] at e;cases e
  rw [hH b hba]
  exact so.same b o e
 ·by_cases hj:j=i
  ·subst hj;rw [JAX] at h1;cases h1
  ·by_cases hk:k=i
   ·subst hk;rw [JAX] at h2;cases h2
   ·rw [JAS hj] at h1;rw [JAS hk] at h2
    exact so.inj j k c h1 h2
 ·by_cases hj:j=i
  ·subst hj
   rw [q_z (q_p.mp hd0).1]
   simp only [JAK]
   exact ⟨JAX,_,hs,dn⟩
  ·rw [q_A (Ne.symm hj)]
   have q:=so.slot j
   cases e:δ[j]? with
   | none=>rw [e] at q;simp only [JAK] at q ⊢;rw [JAS hj];exact q
   | some t =>
    rw [e] at q
    cases t with
    | no=>simp only [JAK] at q ⊢;rw [JAS hj];exact q
    | val d' =>
     simp only [JAK] at q ⊢
     rw [JAS hj]
     obtain ⟨h0,w,e2,dn'⟩:=q
     exact ⟨h0,w,e2,Den.mono s1 d' w dn'⟩
    | own d' =>
     simp only [JAK] at q ⊢
     rw [JAS hj]
     obtain ⟨c,ds,xs,q1,q2,q3,q4,q5,q6⟩:=q
     exact ⟨c,ds,xs,q1,q2,q3,by rw [hH c fun z=>hj (so.inj j i a (by rw [<-z];exact q1) ha)];exact q4,q5,OwnO.mono s1 ds xs q6⟩
theorem JIr (so:SO B Hb σ H δ O) {i:Nat} {a:Addr} (ha:O i=some a):¬ownP (setO O i none) a:=fun ⟨j,hj⟩=>by
 by_cases hji:j=i
 ·subst hji;rw [JAX] at hj;cases hj
 ·rw [JAS hji] at hj;exact hji (so.inj j i a hj ha)
theorem d_frz (g:Gk X B C CX XX G) (st:Stmt) (t:S) (i:Nat) (h:PS X st (RSt X B C XX t)):PS X st (RSt X B C XX (.cons (.frz i) t)):=by
 intro pins s σ H D I ⟨δ,O,Hb,hb,so,k⟩
 have k:JDv X B XX Hb D (exec C t (JAg i δ)):=by simpa only [exec] using k
 by_cases hown:∃d,δ[i]? = some (.own d)
 ·obtain ⟨d,hd⟩:=hown
  rw [JDN hd] at k
  have q:=so.slot i
  rw [hd] at q
  simp only [JAK] at q
  obtain ⟨a,ds,xo,q1,q2,q3,q4,q5,q6⟩:=q
  subst q2
  have s1:∀ {H'':Hp},(∀b,b≠a->H'' b=H b)->Same (hid H O) (hid H'' (setO O i none)):=fun hH b o e=>by
   obtain ⟨h1,h2⟩:=JAu e
   have hba:b≠a:=fun z=>h1 ⟨i,by rw [z];exact q1⟩
   rw [hid,JAH fun ⟨j,hj⟩=>h1 ⟨j,by
    by_cases hji:j=i
    ·subst hji;rw [JAX] at hj;cases hj
    ·rw [JAS hji] at hj;exact hj⟩,hH b hba]
   exact h2
  cases d with
  | list ys =>
   cases xo with
   | lst xs =>
    refine h pins s σ H D I ⟨_,_,Hb,hb,JGi so (d:=.list ys) hd q1 q3 q5 (fun _ _=>rfl) ?_,k⟩
    have dl:DenL B (hid H (setO O i none)) ys xs:=DenL.mono (s1 fun _ _=>rfl) _ _ q6
    simp only [Den]
    exact ⟨a,xs,rfl,SqL.of (by rw [hid,JAH (JIr so q1)];exact q4),dl⟩
   | _=>exact False.elim q6
  | dict kvs =>
   cases xo with
   | dK xs =>
    obtain ⟨z,hsys,vs,kv,dd⟩:=I.hok a _ q4
    obtain ⟨o,es,ep,g1,g2⟩:=id dd
    have J:Inv X pins σ (upd H a (.frz o (.dK xs))) s:=I.write (x:=a) (e:=a) (h':=s.heap) (t':=s.toks) (by rw [q4];exact True.intro) (.inl rfl) (fun b q hb z=>z) ⟨o,g1⟩ ⟨g1,z,hsys,vs,kv,dd⟩
    have hH:∀b,b≠a->upd H a (.frz o (.dK xs)) b=H b:=fun b hb=>JAM hb
    refine h pins s σ _ D J ⟨_,_,Hb,hb,JGi so (d:=.dict kvs) hd q1 q3 q5 hH ?_,k⟩
    have dl:DenK B (hid (upd H a (.frz o (.dK xs))) (setO O i none)) kvs xs:=DenK.mono (s1 hH) _ _ q6
    simp only [Den]
    exact .inr ⟨a,xs,rfl,⟨o,.inl (by rw [hid,JAH (JIr so q1)];exact JAG)⟩,dl⟩
   | _=>exact False.elim q6
  | _=>cases xo<;>exact False.elim q6
 ·rw [JDC fun d e=>hown ⟨d,e⟩] at k
  exact h pins s σ H D I ⟨δ,O,Hb,hb,so,k⟩
noncomputable def putK (kvs:List (Key×V)) (k:Key) (v:V):List (Key×V):=if (kvs.any fun kv=>decide (kv.1=k))=true then kvs.map (fun kv=>if kv.1=k then (kv.1,v) else kv) else kvs++[(k,v)]
theorem JQH {kvs:List (Key×V)} {vs:List (Key×Value)} (r:KV kvs vs) (k:Key):(kvs.any fun kv=>decide (kv.1=k))=vs.any fun kv=>decide (kv.1=k):=by
 unfold KV at r
 induction r with
 | nil=>rfl
 | cons h t ih=>rw [List.any_cons,List.any_cons,ih,h.1]
theorem JMn {kvs:List (Key×V)} {vs:List (Key×Value)} (r:KV kvs vs) (k:Key) {y:V} {u:Value} (ry:RelV y u):KV (kvs.map fun kv=>if kv.1=k then (kv.1,y) else kv) (vs.map fun kv=>if kv.1=k then (kv.1,u) else kv):=by
 unfold KV at r ⊢
 induction r with
 | nil=>exact .nil
 | @cons p q ps qs h t ih =>
  rw [List.map_cons,List.map_cons]
  refine .cons ?_ ih
  obtain ⟨h1,h2⟩:=h
  by_cases e:p.1=k
  ·rw [if_pos e,if_pos (h1.symm.trans e)];exact ⟨h1,ry⟩
  ·rw [if_neg e,if_neg (fun z=>e (h1.trans z))];exact ⟨h1,h2⟩
theorem JO8 {kvs:List (Key×V)} {vs:List (Key×Value)} (r:KV kvs vs) (k:Key) {y:V} {u:Value} (ry:RelV y u):KV (putK kvs k y) (stored vs k u):=by
 unfold putK stored
 rw [JQH r k]
 by_cases e:(vs.any fun kv=>decide (kv.1=k))=true
 ·rw [if_pos e,if_pos e];exact JMn r k ry
 ·rw [if_neg e,if_neg e];exact Paired.snoc r ⟨rfl,ry⟩
theorem JKq (kvs:List (Key×V)) (k:Key) (v:V):(putK kvs k v).length<=kvs.length+1:=by
 unfold putK
 split
 ·rw [q_g];omega
 ·rw [q_u,List.length_cons,List.length_nil];omega
theorem JDy {H:Hp} {k:Str} {x:D} {v:V} (dx:Den B H x v):∀ {kvs:List (D×D)} {xs:List (Key×V)},DenK B H kvs xs->DenK B H (repD kvs k x) (xs.map fun kv=>if kv.1=Sum.inr k then (kv.1,v) else kv)
 | [],xs,h=>by simp only [DenK] at h;subst h;simp [repD,DenK]
 |(z,d)::r,xs,h=>by
  simp only [DenK] at h
  obtain ⟨y,w,r',rfl,rfl,h1,h2⟩:=h
  simp only [repD,DenK,List.map_cons]
  by_cases e:y=k
  · subst e
    rw [if_pos rfl,if_pos rfl]
    exact ⟨y,v,_,rfl,rfl,dx,JDy dx h2⟩
  · have:¬((Sum.inr y:Key)=Sum.inr k):=fun z=>e (Sum.inr.inj z)
    rw [if_neg e,if_neg this]
    exact ⟨y,w,_,rfl,rfl,h1,JDy dx h2⟩
theorem JEj {H:Hp} {k:Str} {x:D} {v:V} (dx:Den B H x v):∀ {kvs:List (D×D)} {xs:List (Key×V)},DenK B H kvs xs->DenK B H (kvs++[(.str k,x)]) (xs++[(Sum.inr k,v)])
 | [],xs,h=>by simp only [DenK] at h;subst h;simp only [List.nil_append,DenK];exact ⟨k,v,[],rfl,rfl,dx,rfl⟩
 |(z,d)::r,xs,h=>by
  simp only [DenK] at h
  obtain ⟨y,w,r',rfl,rfl,h1,h2⟩:=h
  simp only [List.cons_append,DenK]
  exact ⟨y,w,_,rfl,rfl,h1,JEj dx h2⟩
theorem JKD {H:Hp} {k:Str} {x:D} {v:V} {kvs:List (D×D)} {xs:List (Key×V)} (dx:Den B H x v) (h:DenK B H kvs xs):DenK B H (putD kvs k x) (putK xs (Sum.inr k) v):=by
 have e:hasK kvs k=xs.any fun kv=>decide (kv.1=Sum.inr k):=by
  rw [JFD h]
  clear h
  induction xs with
  | nil=>rfl
  | cons p r ih =>
   rw [List.find?_cons,List.any_cons]
   by_cases z:p.1=Sum.inr k
   ·simp [z]
   ·simp [z,ih]
 unfold putD putK
 rw [e]
 split
 ·exact JDy dx h
 ·exact JEj dx h
theorem JFw (so:SO B Hb σ H δ O) {i:Nat} {kvs:List (D×D)} (h:δ[i]? = some (.own (.dict kvs))):∃a xs,O i=some a/\σ[i]? = some (some (.ref a))/\H a=some (.dK xs)/\DenK B (hid H O) kvs xs:=by
 have q:=so.slot i
 rw [h] at q
 simp only [JAK] at q
 obtain ⟨a,ds',xs,q1,q2,q3,q4,q5,q6⟩:=q
 cases q2
 cases xs with
 | dK xs=>exact ⟨a,xs,q1,q3,q4,q6⟩
 | _=>exact False.elim q6
theorem d_put (g:Gk X B C CX XX G) {nm:Str} {i:Nat} {p1 p2 pos:Pos} {ke v:Expr} {z y:E} (hN:X.N[i]? = some nm) (hv:Vis X.env.scope nm) (hbn:JAR nm=false) (hsl:isSlice ke=false) (hy:PE X v (RE B C XX y)) (hz:PE X ke (RE B C XX z))
  (hs:∀t l,swapsWith v t l X.env=pure false):PS X (.Assign [.Subscript (.Name nm p1) ke p2] v pos) (RSt X B C XX (.put i z y)):=by
 intro pins s σ H D I ⟨δ,O,Hb,hb,so,k⟩
 simp only [exec] at k
 split at k
 case h_2=>exact k.elim
 rename_i kvs hd
 cases qy:ev C y δ with
 | bad=>rw [qy] at k;exact k.elim
 | exc c =>
  rw [qy] at k
  refine wpAny_Assign_Subscript (thn (JEP g hy pins s σ H (fun _ _=>False) I ⟨δ,O,Hb,hb,so,by rw [qy];exact k⟩) fun r s1 ⟨v1,H1,I1,rv,f⟩=>f.elim) (hs _ _)
 | ok x =>
  rw [qy] at k
  simp only [stepR] at k
  refine wpAny_Assign_Subscript (thn (JEP g hy pins s σ H (fun v1 H1=>∃O',SO B Hb σ H1 (after y x δ) O'/\Den B (hid H1 O') x v1) I ⟨δ,O,Hb,hb,so,by rw [qy];exact fun v1 H1 O' so' dn=>⟨O',so',dn⟩⟩) fun r s1 ⟨v1,H1,I1,rv,O',so1,dn1⟩=>?_) (hs _ _)
  cases qz:ev C z δ with
  | bad=>rw [qz] at k;exact k.elim
  | exc c=>rw [qz] at k;exact k.elim
  | ok kd =>
    rw [qz] at k
    simp only at k
    unfold JFj at k
    split at k
    case h_2=>exact k.elim
    rename_i kx
    split at k
    case isFalse=>exact k.elim
    rename_i hlen
    split at k
    ·exact k.elim
    rename_i hno
    have ea:after y x δ=δ:=by unfold after;rw [if_neg hno]
    rw [ea] at so1
    have so1b:=so1.base
    have hbb:Same X.H₀ (hid H1 O'):=hb.trans (JAq so1)
    obtain ⟨a,xs1,o1,o2,o3,o4⟩:=JFw so1 hd
    refine thn (JHp hN hv (JAI hbn).1 (JAI hbn).2.1 pins s1 σ H1 (fun u H2=>u=.ref a/\H2=H1) I1 ⟨_,o2,rfl,rfl⟩) fun u s2 ⟨u',H2,I2,ru,e1,e2⟩=>?_
    subst e1;subst e2
    cases ru
    refine thn (JEP g hz pins s2 σ H2 (fun kv H3=>∃O3,SO B (hid H2 O') σ H3 (after z (.str kx) δ) O3/\Den B (hid H3 O3) (.str kx) kv) I2 ⟨δ,O',_,hbb,so1b,by rw [qz];exact fun kv H3 O3 so' dn=>⟨O3,so',dn⟩⟩) fun iv s3 ⟨kv,H3,I3,rk,O3,so3,dk⟩=>?_
    have ez:after z (.str kx) δ=δ:=by unfold after;have:JAL (.str kx)=true:=rfl;rw [this];simp
    rw [ez] at so3
    simp only [Den] at dk
    subst dk
    obtain ⟨t,rfl⟩:=rk
    obtain ⟨a3,xs3,r1,r2,r3,r4⟩:=JFw so3 hd
    rw [o2] at r2
    cases r2
    obtain ⟨zl,hsys,vs,kvv,dd⟩:=I3.hok a _ r3
    have hz':vs.length<=sizeLine:=by rw [<-JBZ kvv];exact zl
    have lk:xs3.length=kvs.length:=by rw [<-q_g (f:=Prod.snd) (as:=kvs),DenL.len _ _ (JDB r4),q_g]
    have hl':(putK xs3 (Sum.inr kx) v1).length<=sizeLine:=by have:=JKq xs3 (Sum.inr kx) v1;rw [sizeLine_eq];omega
    refine wpAny_setItem_pairs (hsz:=hz') (JBH _ _ kx t) dd fun h' dd' hsb=>?_
    have he:∃q,h'.get? a=some q:=let ⟨q,_,_,hq,_⟩:=dd';⟨q,hq⟩
    have dn3:Den B (hid H3 O3) x v1:=Den.mono (JAq so3) x v1 dn1
    refine ⟨σ,_,I3.write (x:=a) (e:=a) (o:=.dK (putK xs3 (Sum.inr kx) v1)) (by rw [r3];exact True.intro) (.inl rfl) (fun b q hb z=>(hsb.2 b hb).trans z) he ⟨hl',hsys,_,JO8 kvv _ rv,dd'⟩,?_⟩
    exact k σ _ O3 ((JMF so3 r1 (ds:=.dict (putD kvs kx x)) (xs:=.dK (putK xs3 (Sum.inr kx) v1)) (JKD dn3 r4)).weak (JAq so1))
end
section
variable {B:Bs} {C:Cn} {CX:CXT} {G:List (Str×GK)}
theorem JIH {op:CmpOp} {k:XO} (h:dCmp op=some k) {d d' r:D} (e:xD k [d,d']=.ok r):∃b,r=.bool b:=by
 cases op<;>simp only [dCmp,q_j,reduceCtorEq] at h<;>subst h
 ·have e:(match JBO d d' with | some r=>r.bind fun b=>VI.R.ok (PyData.bool b) | none=>cmpD .Eq d d')=.ok r:=e
  cases hd:JBO d d' with
  | some q=>rw [hd] at e;cases q<;>cases e;exact ⟨_,rfl⟩
  | none=>rw [hd] at e;exact JCF e
 ·have e:(match JBO d d' with | some r=>r.bind fun b=>VI.R.ok (PyData.bool (!b)) | none=>cmpD .NotEq d d')=.ok r:=e
  cases hd:JBO d d' with
  | some q=>rw [hd] at e;cases q<;>cases e;exact ⟨_,rfl⟩
  | none=>rw [hd] at e;exact JCF e
 ·have e:(if JDX d'=true then (JCh d d').bind fun b=>VI.R.ok (PyData.bool b) else cmpD .In d d')=.ok r:=e
  split at e
  ·cases hi:JCh d d'<;>rw [hi] at e<;>cases e;exact ⟨_,rfl⟩
  ·exact JCF e
 ·have e:(if JDX d'=true then (JCh d d').bind fun b=>VI.R.ok (PyData.bool (!b)) else cmpD .NotIn d d')=.ok r:=e
  split at e
  ·cases hi:JCh d d'<;>rw [hi] at e<;>cases e;exact ⟨_,rfl⟩
  ·exact JCF e
theorem JKa {op:CmpOp} {k:XO} (h:dCmp op=some k):k.isT=true:=by
 cases op<;>simp only [dCmp,q_j,reduceCtorEq] at h<;>subst h<;>rfl
theorem JPz {X:Cx} {XX:Nat->Hp->Prop} {a b:Expr} {x y:E} {pos:Pos} (g:Gk X B C CX XX G) {op:CmpOp} {k:XO} (h:dCmp op=some k) (ha:PE X a (RE B C XX x)) (hb:PE X b (RE B C XX y)) (hm:behindInMarks op b=false) :
  PE X (.Compare a [op] [b] pos) (RE B C XX (.xop k (.cons x (.cons y .nil))))/\PT X (.Compare a [op] [b] pos) (RT B C XX (.xop k (.cons x (.cons y .nil)))):=by
 have ee:∀δ,ev C (.xop k (.cons x (.cons y .nil))) δ=(ev C x δ).bind fun d=>(ev C y δ).bind fun d'=>xD k [d,d']:=fun δ=>by
  simp only [ev,evA]
  cases ev C x δ<;>cases ev C y δ<;>rfl
 have toR:∀σ H Q,RE B C XX (.xop k (.cons x (.cons y .nil))) σ H Q->tOp (fun x y H Q=>∃dx dy,Den B H dx x/\Den B H dy y/\KE B XX (xD k [dx,dy]) H Q) (RE B C XX x) (RE B C XX y) σ H Q:=fun σ H Q ⟨δ,ok,kk⟩ =>
  two g (f:=fun d d'=>xD k [d,d']) (fun x y H dx dy h1 h2 k=>⟨dx,dy,h1,h2,k⟩) ⟨δ,ok,by rw [<-ee δ];exact kk⟩
 refine ⟨PE.imp (JEH (JQz g h) ha hb hm) toR,JLz op (JD2 (JQz g h) ha hb hm) toR (fun δ=>by simp only [evT,JKa h,if_true,ev]) fun δ d e=>?_⟩
 rw [ee] at e
 cases q:ev C x δ with
 | ok dx =>
  cases q2:ev C y δ with
  | ok dy=>rw [q,q2] at e;exact JIH h e
  | exc c=>rw [q,q2] at e;cases e
  | bad=>rw [q,q2] at e;cases e
 | exc c=>rw [q] at e;cases e
 | bad=>rw [q] at e;cases e
theorem s_dtk {X:Cx} {XX:Nat->Hp->Prop} {a b:Expr} {x y:E} {pos p:Pos} (g:Gk X B C CX XX G) (ha:PE X a (RE B C XX x)) (hb:PE X b (RE B C XX y)):PE X (.Subscript a (.Slice none (some b) none p) pos) (RE B C XX (.xop .dtk (.cons x (.cons y .nil)))):=by
 have ee:∀δ,ev C (.xop .dtk (.cons x (.cons y .nil))) δ=(ev C x δ).bind fun d=>(ev C y δ).bind fun d'=>xD .dtk [d,d']:=fun δ=>by
  simp only [ev,evA]
  cases ev C x δ<;>cases ev C y δ<;>rfl
 refine PE.imp (JGg (SlR.or (SlR.or JLm JIk) JJP) ha JJJ (JFn hb)) fun σ H Q ⟨δ,ok,kk⟩=>?_
 refine two g (r:=fun v w H Q=>∃i,w=.int i/\((rSlT X.K v none (some i) H Q\/rSlW X.K v none (some i) H Q)\/rSlL X.K v none (some i) H Q)) (f:=fun d d'=>xD .dtk [d,d']) (fun v w H1 d dy d1 d2 h1=>?_) ⟨δ,ok,by rw [<-ee δ];exact kk⟩
 cases dy with
 | int n =>
  simp only [Den] at d2
  subst d2
  refine ⟨n,rfl,?_⟩
  have h1:KE B XX (op1D (.slice none (some n)) d) H1 Q:=h1
  cases d<;>first | exact False.elim h1 | skip
  ·rename_i ds
   simp only [Den] at d1
   obtain ⟨q,vs,e,sq,l⟩:=d1
   refine .inr ⟨q,vs,e,g.K▸sq,fun p' hp=>?_⟩
   have sm:Same H1 (upd H1 p' (.lst (cutV vs none (some n)))):=JBU hp
   refine h1 _ _ sm ?_
   simp only [Den]
   exact ⟨p',_,rfl,SqL.of JAG,DenL.mono sm _ _ (DenL.cut l none (some n))⟩
  ·rename_i ds
   simp only [Den] at d1
   obtain ⟨q,vs,e,sq,l⟩:=d1
   have el:=DenL.len _ _ l
   by_cases hw:HT.sIx vs.length 0 none=0/\HT.sIx vs.length vs.length (some n)=vs.length
   ·refine .inl (.inr ⟨q,vs,e,g.K▸sq,hw,?_⟩)
    refine h1 _ _ (Same.refl H1) ?_
    rw [JE1 (by rw [el];exact hw)]
    subst e
    simp only [Den]
    exact ⟨q,vs,rfl,sq,l⟩
   ·refine .inl (.inl ⟨q,vs,e,g.K▸sq,hw,fun p' hp=>?_⟩)
    have sm:Same H1 (upd H1 p' (.tup (cutV vs none (some n)))):=JBU hp
    refine h1 _ _ sm ?_
    simp only [Den]
    exact ⟨p',_,rfl,SqT.of JAG,DenL.mono sm _ _ (DenL.cut l none (some n))⟩
 | _=>exact False.elim h1
theorem s_sts {X:Cx} {XX:Nat->Hp->Prop} {a:Expr} {x:E} {pos p:Pos} (g:Gk X B C CX XX G) (hg:Gl X "sorted") (hl:G.lookup ("sorted":Str)=some .nam) (ha:PE X a (RE B C XX x)) (he:starEach [a] X.env=[(false,eval a X.env)]):PE X (.Call (.Name "sorted" p) [a] [] pos) (RE B C XX (.xop .sts (.cons x .nil))):=by
 refine PE.imp (JDz (es:=[]) JEA hg (g.nam _ hl) (by decide +kernel) (JBS ha JCZ he) (by decide) (by decide) he rfl) fun σ H Q ⟨δ,ok,k⟩=>?_
 refine JIK g ok k fun d v H1 s1 d1 k1=>?_
 cases d with
 | list ys =>
  have k1:KE B XX (srtS ys) H1 Q:=k1
  simp only [Den] at d1
  obtain ⟨q,us,e,sq,l⟩:=d1
  subst e
  unfold srtS at k1
  cases hst:strsOf ys with
  | none=>rw [hst] at k1;exact False.elim k1
  | some zs =>
   rw [hst] at k1
   simp only at k1
   split at k1
   ·rename_i h5
    have eu:=JGR hst l
    subst eu
    refine ⟨q,zs,rfl,g.K▸sq,h5,fun p' hp=>k1 _ _ (JAZ hp) ?_⟩
    simp only [Den]
    exact ⟨p',_,rfl,SqL.of JAG,JEl (H:=H1) _ _⟩
   ·exact False.elim k1
 | _=>exact False.elim k1
theorem pes1 {X:Cx} {XX:Nat->Hp->Prop} {a:Expr} {y:E} (h:PEs X B C XX [a] y):∃x,y=.cons x .nil/\PE X a (RE B C XX x):=by
 cases y<;>try exact False.elim h
 rename_i x r
 obtain ⟨h1,h2⟩:=h
 cases r<;>try exact False.elim h2
 exact ⟨x,rfl,h1⟩
theorem pes0 {X:Cx} {XX:Nat->Hp->Prop} {y:E} (h:PEs X B C XX [] y):y=.nil:=by cases y<;>first | rfl | exact False.elim h
theorem pes2 {X:Cx} {XX:Nat->Hp->Prop} {a b:Expr} {y:E} (h:PEs X B C XX [a,b] y):∃x z,y=.cons x (.cons z .nil)/\PE X a (RE B C XX x)/\PE X b (RE B C XX z):=by
 cases y<;>try exact False.elim h
 rename_i x r
 obtain ⟨h1,h2⟩:=h
 obtain ⟨z,rfl,h3⟩:=pes1 h2
 exact ⟨x,z,rfl,h1,h3⟩
theorem JF9 {names:List (Str×NameKind)} {e:Expr} {k:XO} {args:List Expr} (h:dRaw G names false e=some (k,args)) :
  (∃p,e=.Dict [] [] p/\k=.dnw/\args=[])\/(∃a op b p,e=.Compare a [op] [b] p/\behindInMarks op b=false/\dCmp op=some k/\args=[a,b])\/(∃p a q,e=.Call (.Name "dict" p) [a] [] q/\glob G names "dict"=some (.ty .dict)/\k=.dcp/\args=[a])\/(∃p a q,e=.Call (.Name "list" p) [a] [] q/\glob G names "list"=some (.ty .list)/\k=.dls/\args=[a])\/(∃a b p q,e=.Subscript a (.Slice none (some b) none p) q/\k=.dtk/\args=[a,b])\/(∃p a q,e=.Call (.Name "sorted" p) [a] [] q/\glob G names "sorted"=some .nam/\k=.sts/\args=[a]):=by
 cases e with
 | Subscript a i p =>
  cases i<;>try exact JAC h
  rename_i lo hi st p2
  cases lo<;>try exact JAC h
  cases hi<;>try exact JAC h
  cases st<;>try exact JAC h
  rename_i b
  have h:(if (JCM (some b)).isNone=true then some (XO.dtk,[a,b]) else none)=some (k,args):=h
  split at h
  · cases h
    exact .inr (.inr (.inr (.inr (.inl ⟨_,_,_,_,rfl,rfl,rfl⟩))))
  · cases h
 | Dict ks vs p =>
  rcases ks with _ | ⟨_,_⟩<;>try exact JAC h
  rcases vs with _ | ⟨_,_⟩<;>try exact JAC h
  cases h
  exact .inl ⟨p,rfl,rfl,rfl⟩
 | Compare a ops bs p =>
  rcases ops with _ | ⟨op,_ | ⟨_,_⟩⟩<;>try exact JAC h
  rcases bs with _ | ⟨b,_ | ⟨_,_⟩⟩<;>try exact JAC h
  have h:(if behindInMarks op b=true then none else (dCmp op).map fun k=>(k,[a,b]))=some (k,args):=h
  split at h
  · cases h
  · rename_i hm
    obtain ⟨k',h1,h2⟩:=q_d.mp h
    cases h2
    exact .inr (.inl ⟨a,op,b,p,rfl,by simpa using hm,h1,rfl⟩)
 | Call f as ks p =>
  cases f with
  | Name f p2 =>
    rcases as with _ | ⟨a,_ | ⟨_,_⟩⟩<;>try exact JAC h
    rcases ks with _ | ⟨_,_⟩<;>try exact JAC h
    have h9:JIZ G names f a=some (k,args):=h
    clear h
    unfold JIZ at h9
    split at h9
    ·rename_i hc
     cases h9
     obtain ⟨rfl,hc2⟩:=hc
     exact .inr (.inr (.inl ⟨_,_,_,rfl,hc2,rfl,rfl⟩))
    ·split at h9
     ·rename_i hc
      cases h9
      obtain ⟨rfl,hc2⟩:=hc
      exact .inr (.inr (.inr (.inl ⟨_,_,_,rfl,hc2,rfl,rfl⟩)))
     ·split at h9
      ·rename_i hc
       cases h9
       obtain ⟨rfl,hc2⟩:=hc
       exact .inr (.inr (.inr (.inr (.inr ⟨_,_,_,rfl,hc2,rfl,rfl⟩))))
      ·cases h9
  | _=>exact JAC h
 | _=>exact JAC h
theorem d_all:DOk B C CX G where
 val:=by
  intro X XX g e k args y h hp hs
  rcases JF9 h with ⟨p,rfl,rfl,rfl⟩ | ⟨a,op,b,p,rfl,hm,hk,rfl⟩ | ⟨p,a,q,rfl,hg,rfl,rfl⟩ | ⟨p,a,q,rfl,hg,rfl,rfl⟩ | ⟨a,b,p,q,rfl,rfl,rfl⟩ | ⟨p,a,q,rfl,hg,rfl,rfl⟩
  ·have:=pes0 hp
   subst this
   exact ⟨s_dnw,JG6 fun δ=>by simp only [evT,XO.isT,q_v,if_false]⟩
  ·obtain ⟨x,z,rfl,h1,h2⟩:=pes2 hp
   exact JPz g hk h1 h2 hm
  ·obtain ⟨x,rfl,h1⟩:=pes1 hp
   obtain ⟨_,g2,g3⟩:=JAy hg
   exact ⟨s_dcp g (JBR rfl g2) g3 h1 (hs a (by simp) [] X.env),JG6 fun δ=>by simp only [evT,XO.isT,q_v,if_false]⟩
  ·obtain ⟨x,rfl,h1⟩:=pes1 hp
   obtain ⟨_,g2,g3⟩:=JAy hg
   exact ⟨s_dls g (JBR rfl g2) g3 h1 (hs a (by simp) [] X.env),JG6 fun δ=>by simp only [evT,XO.isT,q_v,if_false]⟩
  ·obtain ⟨x,z,rfl,h1,h2⟩:=pes2 hp
   exact ⟨s_dtk g h1 h2,JG6 fun δ=>by simp only [evT,XO.isT,q_v,if_false]⟩
  ·obtain ⟨x,rfl,h1⟩:=pes1 hp
   obtain ⟨_,g2,g3⟩:=JAy hg
   exact ⟨s_sts g (JBR rfl g2) g3 h1 (hs a (by simp) [] X.env),JG6 fun δ=>by simp only [evT,XO.isT,q_v,if_false]⟩
 itr:=by
  intro X XX g tg e k args y h hp hs
  cases e with
  | Name nm p =>
   have h:(if JAR nm=false/\vis (X.env.scope.names.lookup nm)=true then some (XO.dit,[Expr.Name nm p]) else none)=some (k,args):=h
   split at h
   ·cases h
    obtain ⟨x,rfl,h1⟩:=pes1 hp
    exact i_dit g h1
   ·cases h
  | Call f as ks p =>
   cases f with
   | Attribute o m ap =>
    rcases as with _ | ⟨_,_⟩<;>try exact JAC h
    rcases ks with _ | ⟨_,_⟩<;>try exact JAC h
    have h9:dVal o m ap p=some (k,args):=h
    clear h
    unfold dVal at h9
    split at h9
    ·rename_i hc
     cases h9
     obtain ⟨rfl,h2,h3⟩:=hc
     obtain ⟨x,rfl,h1⟩:=pes1 hp
     exact i_dvs g h2 h3 h1
    ·cases h9
   | _=>exact JAC h
  | _=>exact JAC h
 own:=by
  intro X XX g e k args y h hf hp hs
  rcases JF9 h with ⟨p,rfl,rfl,rfl⟩ | ⟨a,op,b,p,rfl,hm,hk,rfl⟩ | ⟨p,a,q,rfl,hg,rfl,rfl⟩ | ⟨p,a,q,rfl,hg,rfl,rfl⟩ | ⟨a,b,p,q,rfl,rfl,rfl⟩ | ⟨p,a,q,rfl,hg,rfl,rfl⟩
  ·have:=pes0 hp
   subst this
   exact JP5
  ·exfalso
   cases op<;>simp only [dCmp,q_j,reduceCtorEq] at hk<;>subst hk<;>cases hf
  ·obtain ⟨x,rfl,h1⟩:=pes1 hp
   obtain ⟨_,g2,g3⟩:=JAy hg
   exact JO3 g (JBR rfl g2) g3 h1 (hs a (by simp) [] X.env)
  ·cases hf
  ·cases hf
  ·cases hf
 frz:=fun X XX g st t i h=>d_frz g st t i h
 put:=fun X XX g nm i p1 p2 pos ke v z y h1 h2 h3 h4 h5 h6 h7=>d_put g h1 h2 h3 h4 h5 h6 h7
end
end VI
end
section
namespace VI.VP
open PySem Fr
structure TabM (tab:Nat->Option Fd):Prop where
 h7:tab 7=some d_7
 h8:tab 8=some d_8
 h9:tab 9=some d_9
 h10:tab 10=some d_10
section
variable {x:Bool} {tab:Nat->Option Fd} {glo:Nat->R D} {sub:Nat->Nat->Bool} {n:Nat}
theorem JCL (T:TabF tab) (some':D):∀(qs:List Rat) (m:Rat) (z:Sl),z.isOwn=false->Q m->(∀q∈qs,Q q)->∃m' z',(m'=m\/m'∈qs)/\m'<=m/\(∀q∈qs,m'<=q)/\Q m' /\
  for2 ⟨run x tab glo sub (n+1),glo,sub⟩ 2 (.cons (.ife (.call 6 (.cons (.var 2) (.cons (.var 1) .nil))) (.cons (.asg 1 (.var 2)) .nil) .nil) .nil) (qs.map F) [.val some',.val (F m),z]=.nx [.val some',.val (F m'),z']
 | [],m,z,hz,hm,hq=>⟨m,z,.inl rfl,Rat.le_refl,by simp,hm,rfl⟩
 | q::qs,m,z,hz,hm,hq=>by
  have hq0:Q q:=hq q (by simp)
  rw [List.map_cons,JCo]
  by_cases h:q<m
  ·obtain ⟨m',z',h1,h2,h3,h4,h5⟩:=JCL T some' qs q (.val (F q)) rfl hq0 (fun q hq'=>hq q (by simp [hq']))
   refine ⟨m',z',?_,?_,?_,h4,?_⟩
   ·rcases h1 with h1 | h1
    ·exact .inr (by simp [h1])
    ·exact .inr (by simp [h1])
   ·grind
   ·intro r hr
    rcases q_n.mp hr with e | e
    ·subst e;exact h2
    ·exact h3 r e
   ·dsimp! [JDH T hq0 hm,h,decide_true]
    exact h5
  ·obtain ⟨m',z',h1,h2,h3,h4,h5⟩:=JCL T some' qs m (.val (F q)) rfl hm (fun q hq'=>hq q (by simp [hq']))
   refine ⟨m',z',?_,h2,?_,h4,?_⟩
   ·rcases h1 with h1 | h1
    ·exact .inl h1
    ·exact .inr (by simp [h1])
   ·intro r hr
    rcases q_n.mp hr with e | e
    ·subst e;grind
    ·exact h3 r e
   ·dsimp! [JDH T hq0 hm,h,decide_false]
    exact h5
theorem JC5 (T:TabF tab) (some':D):∀(qs:List Rat) (m:Rat) (z:Sl),z.isOwn=false->Q m->(∀q∈qs,Q q)->∃m' z',(m'=m\/m'∈qs)/\m<=m'/\(∀q∈qs,q<=m')/\Q m' /\
  for2 ⟨run x tab glo sub (n+1),glo,sub⟩ 2 (.cons (.ife (.call 6 (.cons (.var 1) (.cons (.var 2) .nil))) (.cons (.asg 1 (.var 2)) .nil) .nil) .nil) (qs.map F) [.val some',.val (F m),z]=.nx [.val some',.val (F m'),z']
 | [],m,z,hz,hm,hq=>⟨m,z,.inl rfl,Rat.le_refl,by simp,hm,rfl⟩
 | q::qs,m,z,hz,hm,hq=>by
  have hq0:Q q:=hq q (by simp)
  rw [List.map_cons,JCo]
  by_cases h:m<q
  ·obtain ⟨m',z',h1,h2,h3,h4,h5⟩:=JC5 T some' qs q (.val (F q)) rfl hq0 (fun q hq'=>hq q (by simp [hq']))
   refine ⟨m',z',?_,?_,?_,h4,?_⟩
   ·rcases h1 with h1 | h1
    ·exact .inr (by simp [h1])
    ·exact .inr (by simp [h1])
   ·grind
   ·intro r hr
    rcases q_n.mp hr with e | e
    ·subst e;exact h2
    ·exact h3 r e
   ·dsimp! [JDH T hm hq0,h,decide_true]
    exact h5
  ·obtain ⟨m',z',h1,h2,h3,h4,h5⟩:=JC5 T some' qs m (.val (F q)) rfl hm (fun q hq'=>hq q (by simp [hq']))
   refine ⟨m',z',?_,h2,?_,h4,?_⟩
   ·rcases h1 with h1 | h1
    ·exact .inl h1
    ·exact .inr (by simp [h1])
   ·intro r hr
    rcases q_n.mp hr with e | e
    ·subst e;grind
    ·exact h3 r e
   ·dsimp! [JDH T hm hq0,h,decide_false]
    exact h5
theorem JJA (a:D) (r:List D):idxD (.list (a::r)) (.int 0)=.ok a:=by
 simp [idxD,atI,ixN,optR]
theorem JKZ (T:TabF tab) (M:TabM tab) (p:Rat) (qs:List Rat) (hq:∀q∈p::qs,Q q):∃m,m∈p::qs/\(∀q∈p::qs,m<=q)/\Q m/\run x tab glo sub (n+2) 7 [.list ((p::qs).map F)]=.ok (F m):=by
 rw [JAB M.h7,JAA rfl]
 obtain ⟨m,z,h1,h2,h3,h4,h5⟩:=JCL (x:=x) (glo:=glo) (sub:=sub) (n:=n) T (.list ((p::qs).map F)) (p::qs) p .no rfl (hq p (by simp)) hq
 refine ⟨m,?_,h3,h4,?_⟩
 ·rcases h1 with h1 | h1
  ·simp [h1]
  ·exact h1
 ·simp only [List.map_cons] at h5 ⊢
  dsimp! [d_7,b_7,JJA,JAa,JAi,JAw,JAj,h5]
theorem JIc (T:TabF tab) (M:TabM tab) (p:Rat) (qs:List Rat) (hq:∀q∈p::qs,Q q):∃m,m∈p::qs/\(∀q∈p::qs,q<=m)/\Q m/\run x tab glo sub (n+2) 8 [.list ((p::qs).map F)]=.ok (F m):=by
 rw [JAB M.h8,JAA rfl]
 obtain ⟨m,z,h1,h2,h3,h4,h5⟩:=JC5 (x:=x) (glo:=glo) (sub:=sub) (n:=n) T (.list ((p::qs).map F)) (p::qs) p .no rfl (hq p (by simp)) hq
 refine ⟨m,?_,h3,h4,?_⟩
 ·rcases h1 with h1 | h1
  ·simp [h1]
  ·exact h1
 ·simp only [List.map_cons] at h5 ⊢
  dsimp! [d_8,b_8,JJA,JAa,JAi,JAw,JAj,h5]
end
end VI.VP
end
section
namespace VI.VP
open PySem Fr
theorem r3:rngD [.int 3]=.ok [.int 0,.int 1,.int 2]:=rfl
theorem JPK (p:Rat):(F p).canLay0=true:=by
 simp only [F,PyData.canLayAll0,PyData.canLay0,Bool.and_self]
theorem JFR (p:Rat):(F p).depth=1:=by
 simp only [F,PyData.depth,PyData.depthAll];rfl
section
variable {x:Bool} {tab:Nat->Option Fd} {glo:Nat->R D} {sub:Nat->Nat->Bool} {n:Nat}
end
end VI.VP
end
section
namespace VI.VP
noncomputable def b_23:S:=(.cons (.ret (.and (.isi (.var 0) .int) (.not (.isi (.var 0) .bool)))) .nil)
noncomputable def d_23:Fd:=⟨1,1,b_23⟩
noncomputable def b_24:S:=(.cons (.ife (.or (.not (.isi (.var 0) .tuple)) (.cmp .NotEq (.blt .len (.cons (.var 0) .nil)) (.cint 2))) (.cons (.ret (.cbl false)) .nil) .nil) (.cons (.asg 1 (.idx (.var 0) (.cint 0))) (.cons (.asg 2 (.idx (.var 0) (.cint 1))) (.cons (.ife (.or (.not (.call 23 (.cons (.var 1) .nil))) (.not (.call 23 (.cons (.var 2) .nil)))) (.cons (.ret (.cbl false)) .nil) .nil) (.cons (.ret (.and (.cmp .Gt (.var 2) (.cint 0)) (.cmp .Eq (.call 0 (.cons (.var 1) (.cons (.var 2) .nil))) (.cint 1)))) .nil)))))
noncomputable def d_24:Fd:=⟨1,3,b_24⟩
noncomputable def b_25:S:=(.cons (.ret (.call 1 (.cons (.bin .Mult (.idx (.var 0) (.cint 0)) (.idx (.var 1) (.cint 1))) (.cons (.bin .Mult (.idx (.var 0) (.cint 1)) (.idx (.var 1) (.cint 0))) .nil)))) .nil)
noncomputable def d_25:Fd:=⟨2,2,b_25⟩
noncomputable def b_26:S:=(.cons (.asg 1 (.lst (.cons (.isi (.var 0) (.own 1)) (.cons (.isi (.var 0) (.own 2)) (.cons (.isi (.var 0) (.own 6)) (.cons (.isi (.var 0) (.own 3)) .nil)))))) (.cons (.ext 1 (.lst (.cons (.isi (.var 0) (.own 7)) (.cons (.isi (.var 0) (.own 5)) (.cons (.isi (.var 0) (.own 4)) .nil))))) (.cons (.ife (.or (.cmp .NotEq (.mcount (.var 1) (.cbl true)) (.cint 1)) (.not (.isi (.var 0) .valueError))) (.cons (.ret (.cstr "wrong")) .nil) .nil) (.cons (.ret (.idx (.lst (.cons (.cstr "no frac") (.cons (.cstr "no kind") (.cons (.cstr "no name") (.cons (.cstr "no plan") (.cons (.cstr "no text") (.cons (.cstr "no time") (.cons (.cstr "no track") .nil)))))))) (.mindex (.var 1) (.cbl true)))) .nil))))
noncomputable def d_26:Fd:=⟨1,2,b_26⟩
noncomputable def b_27:S:=(.cons (.asg 3 .cnon) (.cons (.asg 4 .cnon) (.cons (.tryx (.cons (.asg 4 (.ife (.cmp .Eq (.var 0) (.cint 0)) (.call 1 (.cons (.var 1) (.cons (.var 2) .nil))) (.call 25 (.cons (.var 1) (.cons (.var 2) .nil))))) .nil) 0 5 (.cons (.asg 3 (.var 5)) .nil)) (.cons (.ife (.isN (.var 3) false) (.cons (.ret (.var 4)) .nil) .nil) (.cons (.ret (.call 26 (.cons (.var 3) .nil))) .nil)))))
noncomputable def d_27:Fd:=⟨3,6,b_27⟩
end VI.VP
end
section
namespace VI.VP
open PySem Fr
section
variable {x:Bool} {tab:Nat->Option Fd} {glo:Nat->R D} {sub:Nat->Nat->Bool} {n:Nat}
structure TabI (tab:Nat->Option Fd):Prop where
 h23:tab 23=some d_23
 h24:tab 24=some d_24
 h25:tab 25=some d_25
noncomputable def isW:D->Bool
 | .int _=>true
 | _=>false
theorem JBQ (T:TabI tab) (d:D) {b1 b2:Bool} (h1:isiD sub d .int=.ok (.bool b1)) (h2:isiD sub d .bool=.ok (.bool b2)):run x tab glo sub (n+1) 23 [d]=.ok (.bool (b1&&!b2)):=by
 rw [JAB T.h23,JAA rfl]
 cases b1
 ·dsimp! [d_23,b_23,h1,h2]
 ·dsimp! [d_23,b_23,h1,h2,Bool.true_and]
theorem JIf (T:TabI tab) (d:D) (h:∀k,d≠.dict k):run x tab glo sub (n+1) 23 [d]=.ok (.bool (isW d)):=by
 cases d with
 | dict k=>exact absurd rfl (h k)
 | none=>exact JBQ (b1:=false) (b2:=false) T _ rfl rfl
 | bool k=>exact JBQ (b1:=true) (b2:=true) T _ rfl rfl
 | int k=>exact JBQ (b1:=true) (b2:=false) T _ rfl rfl
 | str k=>exact JBQ (b1:=false) (b2:=false) T _ rfl rfl
 | list k=>exact JBQ (b1:=false) (b2:=false) T _ rfl rfl
 | tuple k=>exact JBQ (b1:=false) (b2:=false) T _ rfl rfl
theorem JJn (T:TabF tab) (I:TabI tab) (a b:Int):run x tab glo sub (n+2) 24 [.tuple [.int a,.int b]]=.ok (.bool (decide (0<b)&&decide (a.gcd b=1))):=by
 have w:=fun (d:D) (h:∀k,d≠.dict k)=>JIf (x:=x) (glo:=glo) (sub:=sub) (n:=n) I d h
 have e0:idxD (.tuple [.int a,.int b]) (.int 0)=.ok (.int a):=rfl
 have e1:idxD (.tuple [.int a,.int b]) (.int 1)=.ok (.int b):=rfl
 have e2:isiD sub (.tuple [.int a,.int b]) .tuple=.ok (.bool true):=rfl
 have e3:(2:Int)=(((0+1+1:Nat)):Int):=rfl
 have e4:((((a.gcd b:Nat):Int))=1)=(a.gcd b=1):=by apply propext;omega
 rw [JAB I.h24,JAA rfl]
 by_cases hb:0<b
 ·dsimp! [d_24,b_24,e0,e1,e2,e3,w (.int a) (fun k h=>by cases h),w (.int b) (fun k h=>by cases h),isW,List.length_cons,List.length_nil,Nat.reduceAdd,Bool.not_true,hb,decide_true,JKv T,Bool.true_and,e4]
 ·dsimp! [d_24,b_24,e0,e1,e2,e3,w (.int a) (fun k h=>by cases h),w (.int b) (fun k h=>by cases h),isW,List.length_cons,List.length_nil,Nat.reduceAdd,Bool.not_true,hb,decide_true,decide_false,JKv T,Bool.true_and,e4]
theorem isf_F (T:TabF tab) (I:TabI tab) (p:Rat):run x tab glo sub (n+2) 24 [F p]=.ok (.bool true):=by
 rw [F,JJn T I,JNV]
 have:=den_pos p
 rw [decide_eq_true this]
 rfl
end
end VI.VP
end
section
namespace VI.VP
noncomputable def b_29:S:=(.cons (.ret (.cmp .In (.var 0) (.glo 41))) .nil)
noncomputable def d_29:Fd:=⟨1,1,b_29⟩
noncomputable def b_30:S:=(.cons (.ife (.not (.call 29 (.cons (.var 0) .nil))) (.cons (.rais 2) .nil) .nil) .nil)
noncomputable def d_30:Fd:=⟨1,1,b_30⟩
noncomputable def b_31:S:=(.cons (.ret (.call 8 (.cons (.lst (.cons (.glo 39) (.cons (.call 7 (.cons (.lst (.cons (.glo 40) (.cons (.var 0) .nil))) .nil)) .nil))) .nil))) .nil)
noncomputable def d_31:Fd:=⟨1,1,b_31⟩
noncomputable def b_32:S:=(.cons (.drop (.call 30 (.cons (.var 0) .nil))) (.cons (.asg 2 (.call 31 (.cons (.var 1) .nil))) (.cons (.ife (.cmp .Eq (.var 0) (.cstr "even")) (.cons (.ret (.var 2)) .nil) .nil) (.cons (.ife (.cmp .Eq (.var 0) (.cstr "in")) (.cons (.ret (.call 5 (.cons (.var 2) (.cons (.var 2) .nil)))) .nil) .nil) (.cons (.ife (.cmp .Eq (.var 0) (.cstr "out")) (.cons (.ret (.call 4 (.cons (.call 5 (.cons (.call 2 (.cons (.cint 2) .nil)) (.cons (.var 2) .nil))) (.cons (.call 5 (.cons (.var 2) (.cons (.var 2) .nil))) .nil)))) .nil) .nil) (.cons (.ife (.cmp .Eq (.var 0) (.cstr "both")) (.cons (.ret (.call 5 (.cons (.call 5 (.cons (.var 2) (.cons (.var 2) .nil))) (.cons (.call 4 (.cons (.call 2 (.cons (.cint 3) .nil)) (.cons (.call 5 (.cons (.call 2 (.cons (.cint 2) .nil)) (.cons (.var 2) .nil))) .nil))) .nil)))) .nil) .nil) (.cons (.ife (.cmp .Eq (.var 0) (.cstr "hold")) (.cons (.ret (.ife (.cmp .Eq (.var 2) (.glo 40)) (.glo 40) (.glo 39))) .nil) .nil) (.cons (.ret (.ife (.cmp .Eq (.var 2) (.glo 39)) (.glo 39) (.glo 40))) .nil))))))))
noncomputable def d_32:Fd:=⟨2,3,b_32⟩
noncomputable def b_33:S:=(.cons (.drop (.call 30 (.cons (.var 0) .nil))) (.cons (.ret (.mget (.glo 42) (.var 0) (.var 0))) .nil))
noncomputable def d_33:Fd:=⟨1,1,b_33⟩
noncomputable def b_34:S:=(.cons (.drop (.call 30 (.cons (.var 0) .nil))) (.cons (.ife (.cmp .Lt (.var 1) (.cint 1)) (.cons (.ret (.lst .nil)) .nil) .nil) (.cons (.ret (.cmpr 0 (.call 32 (.cons (.var 1) (.cons (.call 1 (.cons (.var 0) (.cons (.var 2) .nil))) .nil))) (.rng (.cons (.bin .Add (.var 1) (.cint 1)) .nil)) (.cbl true))) .nil)))
noncomputable def d_34:Fd:=⟨2,2,b_34⟩
noncomputable def b_35:S:=(.cons (.ret (.idx (.lst (.cons (.cstr "even") (.cons (.cstr "in") (.cons (.cstr "out") (.cons (.cstr "both") (.cons (.cstr "hold") (.cons (.cstr "jump") .nil))))))) (.call 12 (.cons (.var 0) (.cons (.var 1) (.cons (.cint 6) .nil)))))) .nil)
noncomputable def d_35:Fd:=⟨2,2,b_35⟩
noncomputable def b_36:S:=(.cons (.ife (.cmp .LtE (.idx (.var 1) (.cint 0)) (.cint 0)) (.cons (.ret (.tup (.cons (.cint 0) (.cons (.cint 1) .nil)))) .nil) .nil) (.cons (.ife (.cmp .GtE (.idx (.var 1) (.cint 0)) (.idx (.var 1) (.cint 1))) (.cons (.ret (.tup (.cons (.cint 1) (.cons (.cint 1) .nil)))) .nil) .nil) (.cons (.ife (.cmp .In (.var 0) (.tup (.cons (.cstr "hold") (.cons (.cstr "jump") .nil)))) (.cons (.ret (.ife (.cmp .Eq (.var 0) (.cstr "hold")) (.tup (.cons (.cint 0) (.cons (.cint 1) .nil))) (.tup (.cons (.cint 1) (.cons (.cint 1) .nil))))) .nil) .nil) (.cons (.unp [2,3] (.var 1)) (.cons (.ife (.cmp .Eq (.var 0) (.cstr "even")) (.cons (.ret (.var 1)) .nil) .nil) (.cons (.ife (.cmp .Eq (.var 0) (.cstr "in")) (.cons (.ret (.call 14 (.cons (.bin .Mult (.var 2) (.var 2)) (.cons (.bin .Mult (.var 3) (.var 3)) .nil)))) .nil) .nil) (.cons (.ife (.cmp .Eq (.var 0) (.cstr "out")) (.cons (.ret (.call 14 (.cons (.bin .Sub (.bin .Mult (.bin .Mult (.cint 2) (.var 2)) (.var 3)) (.bin .Mult (.var 2) (.var 2))) (.cons (.bin .Mult (.var 3) (.var 3)) .nil)))) .nil) .nil) (.cons (.ret (.call 14 (.cons (.bin .Sub (.bin .Mult (.bin .Mult (.bin .Mult (.cint 3) (.var 2)) (.var 2)) (.var 3)) (.bin .Mult (.bin .Mult (.bin .Mult (.cint 2) (.var 2)) (.var 2)) (.var 2))) (.cons (.bin .Mult (.bin .Mult (.var 3) (.var 3)) (.var 3)) .nil)))) .nil))))))))
noncomputable def d_36:Fd:=⟨2,4,b_36⟩
noncomputable def b_37:S:=(.cons (.asg 2 .cnon) (.cons (.asg 3 .cnon) (.cons (.tryx (.cons (.asg 3 (.ife (.cmp .Eq (.var 0) (.cint 0)) (.call 32 (.cons (.var 1) (.cons (.tup (.cons (.cint 1) (.cons (.cint 2) .nil))) .nil))) (.call 33 (.cons (.var 1) .nil)))) .nil) 0 4 (.cons (.asg 2 (.var 4)) .nil)) (.cons (.ife (.isN (.var 2) false) (.cons (.ret (.var 3)) .nil) .nil) (.cons (.ret (.call 26 (.cons (.var 2) .nil))) .nil)))))
noncomputable def d_37:Fd:=⟨2,5,b_37⟩
end VI.VP
end
section
namespace VI.VP
open PySem Fr
inductive Kd where
 | even | inn | out | both | hold | jump
 deriving DecidableEq
noncomputable def Kd.str:Kd->Str
 | .even=>"even"
 | .inn=>"in"
 | .out=>"out"
 | .both=>"both"
 | .hold=>"hold"
 | .jump=>"jump"
noncomputable def Kd.turn:Kd->Kd
 | .inn=>.out
 | .out=>.inn
 | .hold=>.jump
 | .jump=>.hold
 | k=>k
noncomputable def JBJ (r:Rat):Rat:=if r<=0 then 0 else if 1<=r then 1 else r
noncomputable def ez (k:Kd) (p:Rat):Rat:=match k with
 | .even=>p
 | .inn=>p*p
 | .out=>2*p - p*p
 | .both=>p*p*(3 - 2*p)
 | .hold=>if p=1 then 1 else 0
 | .jump=>if p=0 then 0 else 1
noncomputable def kinds:D:=.tuple [.str "even",.str "in",.str "out",.str "both",.str "hold",.str "jump"]
noncomputable def turned:D:=.dict [(.str "in",.str "out"),(.str "out",.str "in"),(.str "hold",.str "jump"),(.str "jump",.str "hold")]
structure GloK (glo:Nat->R D):Prop where
 zero:glo 39=.ok (F 0)
 one:glo 40=.ok (F 1)
 kinds:glo 41=.ok VP.kinds
 turned:glo 42=.ok VP.turned
structure TabK (tab:Nat->Option Fd):Prop where
 h29:tab 29=some d_29
 h30:tab 30=some d_30
 h31:tab 31=some d_31
 h32:tab 32=some d_32
 h33:tab 33=some d_33
section
variable {x:Bool} {tab:Nat->Option Fd} {glo:Nat->R D} {sub:Nat->Nat->Bool} {n:Nat}
theorem JMH (g:GloK glo) (T:TabK tab) (d:D) {b:Bool} (h:cmpD .In d VP.kinds=.ok (.bool b)):run x tab glo sub (n+1) 29 [d]=.ok (.bool b):=by
 rw [JAB T.h29,JAA rfl]
 dsimp! [d_29,b_29,g.kinds,h]
theorem JGL (k:Kd):cmpD .In (.str k.str) VP.kinds=.ok (.bool true):=by
 have h:JC3 [.str "even",.str "in",.str "out",.str "both",.str "hold",.str "jump"] (.str k.str)=true:=by cases k<;>decide +kernel
 have h2:([.str "even",.str "in",.str "out",.str "both",.str "hold",.str "jump"]:List D).any (fun z=>PyData.eqv z (.str k.str))=true:=by cases k<;>decide +kernel
 simp only [cmpD,VP.kinds,h,if_true,h2]
theorem JNv (g:GloK glo) (T:TabK tab) (k:Kd):run x tab glo sub (n+2) 30 [.str k.str]=.ok .none:=by
 rw [JAB T.h30,JAA rfl]
 dsimp! [d_30,b_30,JMH g T _ (JGL k),Bool.not_true]
theorem JGW {k:Nat} {r:Rat} (hk:1<=k) (h:Sz k r):Sz k (JBJ r):=by
 unfold JBJ
 have h0:Sz 1 (0:Rat):=⟨by decide,by decide⟩
 have h1:Sz 1 (1:Rat):=⟨by decide,by decide⟩
 split
 ·exact h0.mono hk
 ·split
  ·exact h1.mono hk
  ·exact h
theorem JHr (g:GloK glo) (F0:TabF tab) (M:TabM tab) (T:TabK tab) {r:Rat} (hr:Q r):run x tab glo sub (n+3) 31 [F r]=.ok (F (JBJ r)):=by
 have h0:Q (0:Rat):=⟨by decide +kernel,by decide +kernel⟩
 have h1:Q (1:Rat):=⟨by decide +kernel,by decide +kernel⟩
 obtain ⟨a,a1,a2,a3,a4⟩:=JKZ (x:=x) (glo:=glo) (sub:=sub) (n:=n) F0 M 1 [r] (by simp [h1,hr])
 obtain ⟨b,b1,b2,b3,b4⟩:=JIc (x:=x) (glo:=glo) (sub:=sub) (n:=n) F0 M 0 [a] (by simp [h0,a3])
 simp only [List.map_cons,List.map_nil] at a4 b4
 have e:b=JBJ r:=by
  have q1:=a2 1 (by simp)
  have q2:=a2 r (by simp)
  have q3:=b2 0 (by simp)
  have q4:=b2 a (by simp)
  simp only [q_n,List.not_mem_nil,or_false] at a1 b1
  unfold JBJ
  grind
 subst e
 rw [JAB T.h31,JAA rfl]
 dsimp! [d_31,b_31,g.zero,g.one,a4,b4]
theorem JHo {a b:Str} (ha:shaped (.str a)=true) (hb:shaped (.str b)=true):cmpD .Eq (.str a) (.str b)=.ok (.bool (a==b)):=by
 simp only [cmpD,ha,hb,Bool.and_self,if_true,PyData.eqv]
theorem JDI (k:Kd):shaped (.str k.str)=true:=by cases k<;>decide +kernel
theorem kd_eq (k j:Kd):cmpD .Eq (.str k.str) (.str j.str)=.ok (.bool (decide (k=j))):=by
 rw [JHo (JDI k) (JDI j)]
 have:(k.str==j.str)=decide (k=j):=by cases k<;>cases j<;>decide +kernel
 rw [this]
theorem W2:PyData.tuple [.int 2,.int 1]=F 2:=rfl
theorem JKV (g:GloK glo) (F0:TabF tab) (M:TabM tab) (T:TabK tab) (k:Kd) {r:Rat} (hr:Sz 200 r):run x tab glo sub (n+4) 32 [.str k.str,F r]=.ok (F (ez k (JBJ r))):=by
 have hp:Sz 200 (JBJ r):=JGW (by omega) hr
 obtain ⟨p,e⟩:∃p,p=JBJ r:=⟨_,rfl⟩
 have kp:run x tab glo sub (n+3) 31 [F r]=.ok (F p):=by rw [e];exact JHr g F0 M T (hr.mono (by omega))
 rw [<-e] at hp ⊢
 have z2:Sz 2 (2:Rat):=⟨by decide,by decide⟩
 have z3:Sz 2 (3:Rat):=⟨by decide,by decide⟩
 have z1:Sz 2 (1:Rat):=⟨by decide,by decide⟩
 have z0:Sz 2 (0:Rat):=⟨by decide,by decide⟩
 have pp:Sz 400 (p*p):=hp.mul hp (by omega)
 have p2:Sz 202 (2*p):=z2.mul hp (by omega)
 have q3:Sz 205 (3 - 2*p):=z3.sub p2 (by omega)
 obtain ⟨ks,hk⟩:∃ks,ks=k.str:=⟨_,rfl⟩
 have nk:run x tab glo sub (n+3) 30 [.str ks]=.ok .none:=by rw [hk];exact JNv g T k
 have c:∀j:Kd,cmpD .Eq (.str ks) (.str j.str)=.ok (.bool (decide (k=j))):=by rw [hk];exact kd_eq k
 rw [<-hk]
 clear hk
 have c1:=c .even
 have c2:=c .inn
 have c3:=c .out
 have c4:=c .both
 have c5:=c .hold
 simp only [Kd.str] at c1 c2 c3 c4 c5
 rw [JAB T.h32,JAA rfl]
 have w2:run x tab glo sub (n+3) 2 [.int 2]=.ok (F 2):=JDx F0 2
 have w3:run x tab glo sub (n+3) 2 [.int 3]=.ok (F 3):=JDx F0 3
 have m1:run x tab glo sub (n+3) 5 [F p,F p]=.ok (F (p*p)):=JCm F0 (hp.mono (by omega)) (hp.mono (by omega))
 have m2:run x tab glo sub (n+3) 5 [F 2,F p]=.ok (F (2*p)):=JCm F0 (z2.mono (by omega)) (hp.mono (by omega))
 have m3:run x tab glo sub (n+3) 4 [F (2*p),F (p*p)]=.ok (F (2*p - p*p)):=JD1 F0 (p2.mono (by omega)) (pp.mono (by omega))
 have m4:run x tab glo sub (n+3) 4 [F 3,F (2*p)]=.ok (F (3 - 2*p)):=JD1 F0 (z3.mono (by omega)) (p2.mono (by omega))
 have m5:run x tab glo sub (n+3) 5 [F (p*p),F (3 - 2*p)]=.ok (F (p*p*(3 - 2*p))):=JCm F0 (pp.mono (by omega)) (q3.mono (by omega))
 cases k
 case hold =>
  by_cases h:p=1<;>dsimp! [d_32,b_32,nk,JAL,kp,c1,c2,c3,c4,c5,reduceCtorEq,decide_true,decide_false,ez,h,g.zero,g.one]
 case jump =>
  by_cases h:p=0<;>dsimp! [d_32,b_32,nk,JAL,kp,c1,c2,c3,c4,c5,reduceCtorEq,decide_true,decide_false,ez,h,g.zero,g.one]
 all_goals dsimp! [d_32,b_32,nk,JAL,kp,c1,c2,c3,c4,c5,w2,w3,m1,m2,m3,m4,m5,reduceCtorEq,decide_true,decide_false,ez,g.zero,g.one]
end
theorem ez1 (k:Kd):ez k 1=1:=by cases k<;>decide +kernel
section
variable {x:Bool} {tab:Nat->Option Fd} {glo:Nat->R D} {sub:Nat->Nat->Bool} {n:Nat}
theorem JNK (i:Int) (h0:0<=i) (h1:i<6):∃k:Kd,idxD (.list [.str "even",.str "in",.str "out",.str "both",.str "hold",.str "jump"]) (.int i)=.ok (.str k.str):=by
 have:i=0\/i=1\/i=2\/i=3\/i=4\/i=5:=by omega
 rcases this with rfl | rfl | rfl | rfl | rfl | rfl
 ·exact ⟨.even,rfl⟩
 ·exact ⟨.inn,rfl⟩
 ·exact ⟨.out,rfl⟩
 ·exact ⟨.both,rfl⟩
 ·exact ⟨.hold,rfl⟩
 ·exact ⟨.jump,rfl⟩
theorem JJo (Lw:TabL tab) (h35:tab 35=some d_35) (ns:List Int) (j:Int) (hj:0<=j) (hj2:j<1000000):∃k:Kd,run x tab glo sub (n+3) 35 [sc ns,.int j]=.ok (.str k.str):=by
 rw [JAB h35,JAA rfl]
 obtain ⟨i,i0,i1,hi⟩:=JCS (x:=x) (glo:=glo) (sub:=sub) (n:=n) Lw ns j 6 hj (by omega) (by decide)
 obtain ⟨k,hk⟩:=JNK i i0 i1
 refine ⟨k,?_⟩
 dsimp! [d_35,b_35,hi,hk]
end
noncomputable def e8 (k:Kd) (s:Int):Rat:=ez k (JBJ (Rat.divInt s 8))
section
variable {x:Bool} {tab:Nat->Option Fd} {glo:Nat->R D} {sub:Nat->Nat->Bool} {n:Nat}
noncomputable def parts (k:Kd) (m:Int):List Rat:=(List.range (m+1).toNat).map fun j:Nat=>ez k (JBJ (Rat.divInt (j:Int) m))
end
end VI.VP
end
section
namespace VI.VP
noncomputable def b_43:S:=(.cons (.drop (.call 30 (.cons (.var 0) .nil))) (.cons (.ife (.or (.call 6 (.cons (.var 1) (.cons (.glo 39) .nil))) (.call 6 (.cons (.glo 40) (.cons (.var 1) .nil)))) (.cons (.ret (.glo 39)) .nil) .nil) (.cons (.ife (.cmp .Eq (.var 0) (.cstr "even")) (.cons (.ret (.glo 40)) .nil) .nil) (.cons (.ife (.cmp .Eq (.var 0) (.cstr "in")) (.cons (.ret (.call 5 (.cons (.call 2 (.cons (.cint 2) .nil)) (.cons (.var 1) .nil)))) .nil) .nil) (.cons (.ife (.cmp .Eq (.var 0) (.cstr "out")) (.cons (.ret (.call 4 (.cons (.call 2 (.cons (.cint 2) .nil)) (.cons (.call 5 (.cons (.call 2 (.cons (.cint 2) .nil)) (.cons (.var 1) .nil))) .nil)))) .nil) .nil) (.cons (.ife (.cmp .Eq (.var 0) (.cstr "both")) (.cons (.ret (.call 5 (.cons (.call 2 (.cons (.cint 6) .nil)) (.cons (.call 4 (.cons (.var 1) (.cons (.call 5 (.cons (.var 1) (.cons (.var 1) .nil))) .nil))) .nil)))) .nil) .nil) (.cons (.ret (.glo 39)) .nil)))))))
noncomputable def d_43:Fd:=⟨2,2,b_43⟩
noncomputable def b_44:S:=(.cons (.asg 1 .cnon) (.cons (.tryx (.cons (.drop (.call 43 (.cons (.var 0) (.cons (.tup (.cons (.cint 1) (.cons (.cint 2) .nil))) .nil)))) .nil) 0 2 (.cons (.asg 1 (.var 2)) .nil)) (.cons (.ret (.isi (.var 1) (.own 2))) .nil)))
noncomputable def d_44:Fd:=⟨1,3,b_44⟩
end VI.VP
end
section
namespace VI.VP
open PySem Fr
noncomputable def slm (k:Kd) (r:Rat):Rat:=match k with
 | .even=>1
 | .inn=>2*r
 | .out=>2 - 2*r
 | .both=>6*(r - r*r)
 | .hold=>0
 | .jump=>0
noncomputable def sl (k:Kd) (r:Rat):Rat:=if r<0\/1<r then 0 else slm k r
section
variable {x:Bool} {tab:Nat->Option Fd} {glo:Nat->R D} {sub:Nat->Nat->Bool} {n:Nat}
end
end VI.VP
end
section
namespace VI.VP
open PySem Fr
class Z (k:outParam Nat) (q:Rat):Prop where
 h:Sz k q
theorem Z.le {k:Nat} {q:Rat} (z:Z k q) {n:Nat} (h:k<=n):Sz n q:=z.h.mono h
section
variable {i j:Nat} {p q:Rat}
instance [a:Z i p] [b:Z j q]:Z (i+j+1) (p+q):=⟨a.h.add b.h (q_t _)⟩
instance [a:Z i p] [b:Z j q]:Z (i+j+1) (p - q):=⟨a.h.sub b.h (q_t _)⟩
instance [a:Z i p] [b:Z j q]:Z (i+j) (p*q):=⟨a.h.mul b.h (q_t _)⟩
instance [a:Z i p] [b:Z j q]:Z (i+j+1) (p / q):=⟨by
 by_cases h:q=0
 ·subst h
  rw [show p / (0:Rat)=0 by rw [Rat.div_def];simp]
  exact ⟨Nat.pow_pos (by omega),q_m (by decide:(0:Rat).den<2 ^ 1) (Nat.pow_le_pow_right (by omega) (by omega))⟩
 ·exact a.h.div b.h h (by omega)⟩
instance:Z 3 (0:Rat):=⟨⟨by decide,by decide⟩⟩
instance:Z 3 (1:Rat):=⟨⟨by decide,by decide⟩⟩
instance:Z 3 (2:Rat):=⟨⟨by decide,by decide⟩⟩
instance:Z 3 (3:Rat):=⟨⟨by decide,by decide⟩⟩
instance:Z 3 (4:Rat):=⟨⟨by decide,by decide⟩⟩
instance [a:Z i q]:Z (i+1) (JBJ q):=⟨JGW (by omega) (a.h.mono (by omega))⟩
theorem Small.Z {q:Rat} (h:Small q):Z 5 q:=⟨h.sz⟩
theorem sz01 {n:Nat} (h:1<=n):Sz n (0:Rat)/\Sz n (1:Rat):=⟨Sz.mono (i:=1) ⟨by decide,by decide⟩ h,Sz.mono (i:=1) ⟨by decide,by decide⟩ h⟩
instance [a:Z i p] {k:Kd}:Z (4*i+10) (ez k p):=⟨by
 have z2:Z 3 (2:Rat):=inferInstance
 have h1:Z (i+i) (p*p):=inferInstance
 have h2:Z ((3+i)+(i+i)+1) (2*p - p*p):=inferInstance
 have h3:Z ((i+i)+(3+(3+i)+1)) (p*p*(3 - 2*p)):=inferInstance
 cases k
 ·exact a.le (by omega)
 ·exact h1.le (by omega)
 ·exact h2.le (by omega)
 ·exact h3.le (by omega)
 ·show Sz _ (if p=1 then 1 else 0);split<;>first | exact (sz01 (by omega)).1 | exact (sz01 (by omega)).2
 ·show Sz _ (if p=0 then 0 else 1);split<;>first | exact (sz01 (by omega)).1 | exact (sz01 (by omega)).2⟩
end
theorem nd (q:Rat):q*((q.den:Int):Rat)=(q.num:Rat):=by
 have z:((q.den:Int):Rat)≠0:=by exact_mod_cast JAb q
 conv=>lhs;lhs;rw [<-Rat.num_divInt_den q,Rat.divInt_eq_div,Rat.div_def]
 rw [Rat.mul_assoc,Rat.inv_mul_cancel _ z,Rat.mul_one]
theorem JRF {K:Rat} {N D:Int} (h:K*(D:Rat)=(N:Rat)) (hD:D≠0):K=Rat.divInt N D:=by
 rw [Rat.divInt_eq_div,Rat.div_def,<-h,Rat.mul_assoc,Rat.mul_inv_cancel _ (by exact_mod_cast hD),Rat.mul_one]
theorem pw_le {x i j:Nat} (h:x<2 ^ i) (e:i<=j):x<2 ^ j:=q_m h (Nat.pow_le_pow_right (by omega) e)
theorem pw1 (i:Nat):2 ^ (i+1)=2*2 ^ i/\2 ^ (i+2)=4*2 ^ i/\2 ^ (i+3)=8*2 ^ i/\2 ^ (i+4)=16*2 ^ i:=by
 refine ⟨?_,?_,?_,?_⟩<;>(rw [Nat.pow_add];omega)
section
variable {a c i i4 i5 i6:Nat} {s g l u v q:Rat}
theorem JPW {b c:Nat} {e:Rat} (hs:Sz a s) (hg:Sz b g) (he:Sz c e):Sz (a+b+c+2) (s+e*(g - s)):=by
 have d1:=JAb s
 have d2:=JAb g
 have d3:=JAb e
 rw [JRF (K:=s+e*(g - s)) (N:=s.num*g.den*e.den+(e.num*g.num*s.den - e.num*s.num*g.den)) (D:=s.den*g.den*e.den) ?_ (Int.mul_ne_zero (Int.mul_ne_zero d1 d2) d3)]
 ·have P1:=JAl (JAl hs.n hg.d) he.d
  have P2:=JAl (JAl he.n hg.n) hs.d
  have P3:=JAl (JAl he.n hs.n) hg.d
  rw [show c+b+a=a+b+c by omega] at P2
  rw [show c+a+b=a+b+c by omega] at P3
  have E:=(pw1 (a+b+c)).2.1
  exact Sz.of (Int.mul_ne_zero (Int.mul_ne_zero d1 d2) d3) (by omega) (pw_le (JAl (JAl hs.d hg.d) he.d) (by omega))
 ·have e1:=nd s
  have e2:=nd g
  have e3:=nd e
  simp only [Rat.intCast_add,Rat.intCast_mul,Rat.intCast_sub]
  rw [<-e1,<-e2,<-e3]
  grind
end
instance (priority:=high) {i j k:Nat} {s g e:Rat} [a:Z i s] [b:Z j g] [c:Z k e]:Z (i+j+k+2) (s+e*(g - s)):=⟨JPW a.h b.h c.h⟩
section
variable {j:Nat} {p:Rat} [a:Z j p]
instance (priority:=high):Z (3*j+8) (p*p*p - 2*(p*p)+p):=⟨by
 rw [show p*p*p - 2*(p*p)+p=p*((1 - p)*(1 - p)) by grind]
 exact (inferInstance:Z _ (p*((1 - p)*(1 - p)))).le (by omega)⟩
instance (priority:=high):Z (3*j+4) (p*p*p - p*p):=⟨by
 rw [show p*p*p - p*p=p*p*(p - 1) by grind]
 exact (inferInstance:Z _ (p*p*(p - 1))).le (by omega)⟩
end
end VI.VP
end
section
namespace VI.VP
noncomputable def b_46:S:=(.cons (.ret (.call 25 (.cons (.call 4 (.cons (.var 1) (.cons (.idx (.var 0) (.glo 57)) .nil))) (.cons (.idx (.var 0) (.glo 58)) .nil)))) .nil)
noncomputable def d_46:Fd:=⟨2,2,b_46⟩
noncomputable def b_48:S:=(.cons (.asg 2 (.call 46 (.cons (.var 0) (.cons (.var 1) .nil)))) (.cons (.ife (.cmp .Eq (.idx (.var 0) (.glo 59)) (.glo 61)) (.cons (.ret (.call 49 (.cons (.var 0) (.cons (.call 31 (.cons (.var 2) .nil)) .nil)))) .nil) .nil) (.cons (.ret (.call 10 (.cons (.idx (.var 0) (.glo 55)) (.cons (.idx (.var 0) (.glo 56)) (.cons (.call 32 (.cons (.idx (.var 0) (.glo 59)) (.cons (.var 2) .nil))) .nil))))) .nil)))
noncomputable def d_48:Fd:=⟨2,3,b_48⟩
noncomputable def b_49:S:=(.cons (.asg 2 (.call 5 (.cons (.var 1) (.cons (.var 1) .nil)))) (.cons (.asg 3 (.call 5 (.cons (.var 2) (.cons (.var 1) .nil)))) (.cons (.asg 4 (.call 5 (.cons (.idx (.idx (.var 0) (.glo 60)) (.cint 0)) (.cons (.call 3 (.cons (.call 4 (.cons (.var 3) (.cons (.call 5 (.cons (.call 2 (.cons (.cint 2) .nil)) (.cons (.var 2) .nil))) .nil))) (.cons (.var 1) .nil))) .nil)))) (.cons (.asg 5 (.call 5 (.cons (.idx (.idx (.var 0) (.glo 60)) (.cint 1)) (.cons (.call 4 (.cons (.var 3) (.cons (.var 2) .nil))) .nil)))) (.cons (.asg 6 (.call 5 (.cons (.idx (.var 0) (.glo 58)) (.cons (.call 3 (.cons (.var 4) (.cons (.var 5) .nil))) .nil)))) (.cons (.ret (.call 3 (.cons (.call 10 (.cons (.idx (.var 0) (.glo 55)) (.cons (.idx (.var 0) (.glo 56)) (.cons (.call 32 (.cons (.cstr "both") (.cons (.var 1) .nil))) .nil)))) (.cons (.var 6) .nil)))) .nil))))))
noncomputable def d_49:Fd:=⟨2,7,b_49⟩
noncomputable def b_68:S:=(.cons (.ret (.and (.call 24 (.cons (.var 0) .nil)) (.cmp .Gt (.idx (.var 0) (.cint 0)) (.cint 0)))) .nil)
noncomputable def d_68:Fd:=⟨1,1,b_68⟩
noncomputable def b_72:S:=(.cons (.ret (.call 3 (.cons (.idx (.var 0) (.glo 57)) (.cons (.idx (.var 0) (.glo 58)) .nil)))) .nil)
noncomputable def d_72:Fd:=⟨1,1,b_72⟩
noncomputable def b_73:S:=(.cons (.ret (.tup (.cons (.idx (.var 0) (.glo 55)) (.cons (.idx (.var 0) (.glo 56)) (.cons (.var 1) (.cons (.idx (.var 0) (.glo 58)) (.cons (.idx (.var 0) (.glo 59)) (.cons (.idx (.var 0) (.glo 60)) .nil)))))))) .nil)
noncomputable def d_73:Fd:=⟨2,2,b_73⟩
noncomputable def b_74:S:=(.cons (.ret (.call 73 (.cons (.var 0) (.cons (.call 3 (.cons (.idx (.var 0) (.glo 57)) (.cons (.var 1) .nil))) .nil)))) .nil)
noncomputable def d_74:Fd:=⟨2,2,b_74⟩
noncomputable def b_80:S:=(.cons (.ret (.tup (.cons (.var 0) (.cons (.var 1) (.cons (.var 2) (.cons (.var 3) (.cons (.var 4) (.cons (.glo 77) .nil)))))))) .nil)
noncomputable def d_80:Fd:=⟨5,5,b_80⟩
noncomputable def b_83:S:=(.cons (.ife (.cmp .Eq (.blt .len (.cons (.idx (.var 0) (.glo 94)) .nil)) (.cint 0)) (.cons (.ret .cnon) .nil) .nil) (.cons (.ret (.call 72 (.cons (.idx (.idx (.var 0) (.glo 94)) (.neg (.cint 1))) .nil))) .nil))
noncomputable def d_83:Fd:=⟨1,1,b_83⟩
noncomputable def b_84:S:=(.cons (.ife (.cmp .Eq (.blt .len (.cons (.idx (.var 0) (.glo 94)) .nil)) (.cint 0)) (.cons (.ret (.idx (.var 0) (.glo 93))) .nil) .nil) (.cons (.ret (.idx (.idx (.idx (.var 0) (.glo 94)) (.neg (.cint 1))) (.glo 56))) .nil))
noncomputable def d_84:Fd:=⟨1,1,b_84⟩
noncomputable def b_96:S:=(.cons (.ret (.cmpr 0 (.var 0) (.idx (.var 0) (.glo 94)) (.not (.call 6 (.cons (.var 2) (.cons (.idx (.var 0) (.glo 57)) .nil)))))) .nil)
noncomputable def d_96:Fd:=⟨2,2,b_96⟩
noncomputable def b_97:S:=(.cons (.asg 2 (.call 96 (.cons (.var 0) (.cons (.var 1) .nil)))) (.cons (.ife (.cmp .Eq (.blt .len (.cons (.var 2) .nil)) (.cint 0)) (.cons (.ret (.idx (.var 0) (.glo 93))) .nil) .nil) (.cons (.ret (.call 48 (.cons (.idx (.var 2) (.neg (.cint 1))) (.cons (.var 1) .nil)))) .nil)))
noncomputable def d_97:Fd:=⟨2,3,b_97⟩
noncomputable def JKK:S:=(.cons (.ret (.tup (.cons (.idx (.var 0) (.glo 93)) (.cons (.fn1 .toTup (.cmpr 0 (.call 74 (.cons (.var 0) (.cons (.var 2) .nil))) (.idx (.var 0) (.glo 94)) (.cbl true))) .nil)))) .nil)
noncomputable def JJu:Fd:=⟨2,2,JKK⟩
noncomputable def JIA:S:=(.cons (.asg 1 (.glo 39)) (.cons (.for1 2 (.var 0) (.cons (.asg 1 (.call 3 (.cons (.var 1) (.cons (.var 2) .nil)))) .nil)) (.cons (.ret (.var 1)) .nil)))
noncomputable def JHE:Fd:=⟨1,3,JIA⟩
noncomputable def JKo:S:=(.cons (.ret (.call 141 (.cons (.var 0) (.cons (.glo 151) .nil)))) .nil)
noncomputable def JJZ:Fd:=⟨1,1,JKo⟩
noncomputable def JB5:S:=(.cons (.ife (.or (.cmp .Eq (.var 1) (.cint 0)) (.or (.not (.isi (.var 0) .tuple)) (.cmp .Eq (.blt .len (.cons (.var 0) .nil)) (.cint 0)))) (.cons (.ret (.cbl false)) .nil) .nil) (.cons (.asg 2 (.idx (.var 0) (.cint 0))) (.cons (.ife (.or (.cmp .Eq (.var 2) (.cstr "go")) (.cmp .Eq (.var 2) (.cstr "by"))) (.cons (.ret (.and (.cmp .Eq (.blt .len (.cons (.var 0) .nil)) (.cint 4)) (.and (.call 24 (.cons (.idx (.var 0) (.cint 1)) .nil)) (.and (.call 68 (.cons (.idx (.var 0) (.cint 2)) .nil)) (.call 29 (.cons (.idx (.var 0) (.cint 3)) .nil)))))) .nil) .nil) (.cons (.ife (.cmp .Eq (.var 2) (.cstr "wait")) (.cons (.ret (.and (.cmp .Eq (.blt .len (.cons (.var 0) .nil)) (.cint 2)) (.call 68 (.cons (.idx (.var 0) (.cint 1)) .nil)))) .nil) .nil) (.cons (.ife (.cmp .Eq (.var 2) (.cstr "then")) (.cons (.ret (.and (.cmp .Eq (.blt .len (.cons (.var 0) .nil)) (.cint 3)) (.and (.call 141 (.cons (.idx (.var 0) (.cint 1)) (.cons (.bin .Sub (.var 1) (.cint 1)) .nil))) (.call 141 (.cons (.idx (.var 0) (.cint 2)) (.cons (.bin .Sub (.var 1) (.cint 1)) .nil)))))) .nil) .nil) (.cons (.ife (.cmp .Eq (.var 2) (.cstr "again")) (.cons (.ret (.and (.cmp .Eq (.blt .len (.cons (.var 0) .nil)) (.cint 3)) (.and (.call 142 (.cons (.idx (.var 0) (.cint 1)) .nil)) (.call 141 (.cons (.idx (.var 0) (.cint 2)) (.cons (.bin .Sub (.var 1) (.cint 1)) .nil)))))) .nil) .nil) (.cons (.ret (.cbl false)) .nil)))))))
noncomputable def JBg:Fd:=⟨2,3,JB5⟩
noncomputable def JIi:S:=(.cons (.ret (.and (.call 23 (.cons (.var 0) .nil)) (.and (.cmp .GtE (.var 0) (.cint 0)) (.cmp .LtE (.var 0) (.glo 152))))) .nil)
noncomputable def JIQ:Fd:=⟨1,1,JIi⟩
noncomputable def JFF:S:=(.cons (.ife (.cmp .Eq (.idx (.var 0) (.cint 0)) (.cstr "then")) (.cons (.ret (.bin .Add (.call 143 (.cons (.idx (.var 0) (.cint 1)) .nil)) (.call 143 (.cons (.idx (.var 0) (.cint 2)) .nil)))) .nil) .nil) (.cons (.ife (.cmp .Eq (.idx (.var 0) (.cint 0)) (.cstr "again")) (.cons (.ret (.bin .Mult (.call 143 (.cons (.idx (.var 0) (.cint 2)) .nil)) (.idx (.var 0) (.cint 1)))) .nil) .nil) (.cons (.ret (.lst (.cons (.var 0) .nil))) .nil)))
noncomputable def JDZ:Fd:=⟨1,1,JFF⟩
noncomputable def JIo:S:=(.cons (.ret (.ife (.cmp .Eq (.idx (.var 0) (.cint 0)) (.cstr "wait")) (.idx (.var 0) (.cint 1)) (.idx (.var 0) (.cint 2)))) .nil)
noncomputable def JHN:Fd:=⟨1,1,JIo⟩
noncomputable def JKx:S:=(.cons (.ret (.call 179 (.cons (.cmpr 0 (.call 144 (.cons (.var 0) .nil)) (.call 143 (.cons (.var 0) .nil)) (.cbl true)) .nil))) .nil)
noncomputable def JKu:Fd:=⟨1,1,JKx⟩
noncomputable def JC7:S:=(.cons (.asg 3 (.call 12 (.cons (.var 0) (.cons (.var 1) (.cons (.cint 8) .nil))))) (.cons (.ife (.or (.cmp .Eq (.var 2) (.cint 1)) (.cmp .Lt (.var 3) (.cint 3))) (.cons (.asg 4 (.call 12 (.cons (.var 0) (.cons (.bin .Add (.var 1) (.cint 1)) (.cons (.cint 5) .nil))))) (.cons (.ife (.cmp .Eq (.var 4) (.cint 0)) (.cons (.ret (.tup (.cons (.cstr "wait") (.cons (.call 16 (.cons (.var 0) (.cons (.bin .Add (.var 1) (.cint 2)) .nil))) .nil)))) .nil) .nil) (.cons (.asg 5 (.ife (.cmp .Lt (.var 4) (.cint 3)) (.cstr "go") (.cstr "by"))) (.cons (.ret (.tup (.cons (.var 5) (.cons (.call 15 (.cons (.var 0) (.cons (.bin .Add (.var 1) (.cint 4)) .nil))) (.cons (.call 16 (.cons (.var 0) (.cons (.bin .Add (.var 1) (.cint 6)) .nil))) (.cons (.call 35 (.cons (.var 0) (.cons (.bin .Add (.var 1) (.cint 8)) .nil))) .nil)))))) .nil)))) .nil) (.cons (.ife (.cmp .Lt (.var 3) (.cint 6)) (.cons (.asg 6 (.call 146 (.cons (.var 0) (.cons (.bin .Add (.bin .Mult (.cint 3) (.var 1)) (.cint 11)) (.cons (.bin .Sub (.var 2) (.cint 1)) .nil))))) (.cons (.ret (.tup (.cons (.cstr "then") (.cons (.var 6) (.cons (.call 146 (.cons (.var 0) (.cons (.bin .Add (.bin .Mult (.cint 3) (.var 1)) (.cint 37)) (.cons (.bin .Sub (.var 2) (.cint 1)) .nil)))) .nil))))) .nil)) .nil) (.cons (.ret (.tup (.cons (.cstr "again") (.cons (.call 12 (.cons (.var 0) (.cons (.bin .Add (.var 1) (.cint 9)) (.cons (.cint 4) .nil)))) (.cons (.call 146 (.cons (.var 0) (.cons (.bin .Add (.bin .Mult (.cint 3) (.var 1)) (.cint 23)) (.cons (.bin .Sub (.var 2) (.cint 1)) .nil)))) .nil))))) .nil))))
noncomputable def d_146:Fd:=⟨3,7,JC7⟩
noncomputable def b_147:S:=(.cons (.ife (.cmp .Eq (.idx (.var 0) (.cint 0)) (.cstr "then")) (.cons (.ret (.bin .Add (.call 147 (.cons (.idx (.var 0) (.cint 1)) .nil)) (.call 147 (.cons (.idx (.var 0) (.cint 2)) .nil)))) .nil) .nil) (.cons (.ife (.cmp .Eq (.idx (.var 0) (.cint 0)) (.cstr "again")) (.cons (.asg 1 (.lst .nil)) (.cons (.for1 2 (.rng (.cons (.idx (.var 0) (.cint 1)) .nil)) (.cons (.ext 1 (.call 147 (.cons (.idx (.var 0) (.cint 2)) .nil))) .nil)) (.cons (.ret (.var 1)) .nil))) .nil) (.cons (.ret (.lst (.cons (.var 0) .nil))) .nil)))
noncomputable def d_147:Fd:=⟨1,3,b_147⟩
noncomputable def JJY:S:=(.cons (.ife (.not (.call 140 (.cons (.var 0) .nil))) (.cons (.rais 3) .nil) .nil) .nil)
noncomputable def JJW:Fd:=⟨1,1,JJY⟩
noncomputable def JHB:S:=(.cons (.ife (.cmp .Eq (.idx (.var 0) (.cint 0)) (.cstr "wait")) (.cons (.ret (.var 1)) .nil) .nil) (.cons (.ife (.cmp .Eq (.idx (.var 0) (.cint 0)) (.cstr "by")) (.cons (.ret (.call 3 (.cons (.var 1) (.cons (.idx (.var 0) (.cint 1)) .nil)))) .nil) .nil) (.cons (.ret (.idx (.var 0) (.cint 1))) .nil)))
noncomputable def JHA:Fd:=⟨2,2,JHB⟩
noncomputable def JEN:S:=(.cons (.drop (.call 153 (.cons (.var 0) .nil))) (.cons (.asg 3 (.lst .nil)) (.cons (.asg 4 (.var 1)) (.cons (.asg 5 (.var 2)) (.cons (.for1 6 (.call 143 (.cons (.var 0) .nil)) (.cons (.asg 7 (.call 154 (.cons (.var 6) (.cons (.var 4) .nil)))) (.cons (.ife (.cmp .NotEq (.idx (.var 6) (.cint 0)) (.cstr "wait")) (.cons (.app 3 (.call 80 (.cons (.var 4) (.cons (.var 7) (.cons (.var 5) (.cons (.idx (.var 6) (.cint 2)) (.cons (.idx (.var 6) (.cint 3)) .nil))))))) .nil) .nil) (.cons (.asg 4 (.var 7)) (.cons (.asg 5 (.call 3 (.cons (.var 5) (.cons (.call 144 (.cons (.var 6) .nil)) .nil)))) .nil))))) (.cons (.ret (.tup (.cons (.var 1) (.cons (.fn1 .toTup (.var 3)) .nil)))) .nil))))))
noncomputable def JKW:Fd:=⟨3,8,JEN⟩
noncomputable def JJi:S:=(.cons (.ret (.call 84 (.cons (.call 155 (.cons (.var 0) (.cons (.var 1) (.cons (.glo 39) .nil)))) .nil))) .nil)
noncomputable def JJp:Fd:=⟨2,2,JJi⟩
noncomputable def JFh:S:=(.cons (.asg 2 (.xop .dnw .nil)) (.cons (.for1 3 (.xop .dit (.cons (.var 0) .nil)) (.cons (.put 2 (.var 3) (.call 97 (.cons (.idx (.var 0) (.var 3)) (.cons (.var 1) .nil)))) .nil)) (.cons (.cons (.frz 2) (.ret (.var 2))) .nil)))
noncomputable def JJh:Fd:=⟨2,4,JFh⟩
noncomputable def JHT:S:=(.cons (.cons (.frz 0) (.asg 1 (.cmpr 0 (.call 83 (.cons (.var 0) .nil)) (.xop .dvs (.cons (.var 0) .nil)) (.cbl true)))) (.cons (.asg 2 (.cmpr 0 (.var 0) (.xop .dit (.cons (.var 1) .nil)) (.isN (.var 0) true))) (.cons (.ret (.ife (.xop .deq (.cons (.blt .len (.cons (.var 2) .nil)) (.cons (.cint 0) .nil))) .cnon (.call 8 (.cons (.var 2) .nil)))) .nil)))
noncomputable def JGl:Fd:=⟨1,3,JHT⟩
noncomputable def JKG:S:=(.cons (.cons (.frz 0) (.ret (.call 179 (.cons (.cmpr 0 (.call 97 (.cons (.var 0) (.cons (.var 2) .nil))) (.xop .dvs (.cons (.var 0) .nil)) (.cbl true)) .nil)))) .nil)
noncomputable def JJf:Fd:=⟨2,2,JKG⟩
noncomputable def JJy:S:=(.cons (.asg 3 (.xop .dcp (.cons (.var 0) .nil))) (.cons (.put 3 (.var 1) (.var 2)) (.cons (.cons (.frz 3) (.ret (.var 3))) .nil)))
noncomputable def JJx:Fd:=⟨3,4,JJy⟩
noncomputable def JKr:S:=(.cons (.cons (.frz 0) (.ife (.xop .dni (.cons (.var 1) (.cons (.var 0) .nil))) (.cons (.rais 6) .nil) .nil)) .nil)
noncomputable def JKO:Fd:=⟨2,2,JKr⟩
noncomputable def JKS:S:=(.cons (.drop (.call 240 (.cons (.var 0) (.cons (.var 1) .nil)))) (.cons (.cons (.frz 0) (.ret (.call 239 (.cons (.var 0) (.cons (.var 1) (.cons (.call 105 (.cons (.idx (.var 0) (.var 1)) (.cons (.var 2) .nil))) .nil)))))) .nil))
noncomputable def JKI:Fd:=⟨3,3,JKS⟩
noncomputable def JFW:S:=(.cons (.drop (.call 153 (.cons (.var 1) .nil))) (.cons (.asg 5 (.xop .dnw .nil)) (.cons (.asg 6 (.var 3)) (.cons (.for1 7 (.xop .dit (.cons (.var 0) .nil)) (.cons (.put 5 (.var 7) (.call 155 (.cons (.var 1) (.cons (.var 2) (.cons (.var 6) .nil))))) (.cons (.asg 6 (.call 3 (.cons (.var 6) (.cons (.var 4) .nil)))) .nil))) (.cons (.cons (.frz 5) (.ret (.var 5))) .nil)))))
noncomputable def JJe:Fd:=⟨5,8,JFW⟩
noncomputable def JGy:S:=(.cons (.asg 1 (.call 146 (.cons (.var 0) (.cons (.cint 0) (.cons (.cint 3) .nil))))) (.cons (.asg 2 (.call 15 (.cons (.var 0) (.cons (.cint 10000) .nil)))) (.cons (.asg 3 (.call 15 (.cons (.var 0) (.cons (.bin .Add (.cint 10000) (.cint 2)) .nil)))) (.cons (.asg 4 (.call 16 (.cons (.var 0) (.cons (.bin .Add (.cint 10000) (.cint 4)) .nil)))) (.cons (.asg 5 (.xop .dtk (.cons (.lst (.cons (.cstr "x") (.cons (.cstr "y") (.cons (.cstr "z") (.cons (.cstr "w") .nil))))) (.cons (.call 12 (.cons (.var 0) (.cons (.bin .Add (.cint 10000) (.cint 6)) (.cons (.cint 5) .nil)))) .nil)))) (.cons (.asg 6 (.call 242 (.cons (.var 5) (.cons (.var 1) (.cons (.var 2) (.cons (.var 3) (.cons (.var 4) .nil))))))) (.cons (.cons (.frz 6) (.ife (.xop .dne (.cons (.xop .sts (.cons (.xop .dls (.cons (.var 6) .nil)) .nil)) (.cons (.xop .sts (.cons (.var 5) .nil)) .nil))) (.cons (.ret (.cbl false)) .nil) .nil)) (.cons (.for1 7 (.rng (.cons (.cint 4) .nil)) (.cons (.asg 8 (.call 17 (.cons (.var 3) (.cons (.call 16 (.cons (.var 0) (.cons (.bin .Add (.bin .Add (.cint 10000) (.cint 10)) (.bin .Mult (.cint 2) (.var 7))) .nil))) .nil)))) (.cons (.cons (.frz 6) (.asg 9 (.call 236 (.cons (.var 6) (.cons (.var 8) .nil))))) (.cons (.cons (.frz 6) (.asg 10 (.call 236 (.cons (.var 6) (.cons (.call 18 (.cons (.var 8) (.cons (.var 4) .nil))) .nil))))) (.cons (.forT [11,12] (.xop .zip (.cons (.var 5) (.cons (.fn1 (.slice (some 1) none) (.var 5)) .nil))) (.cons (.ife (.xop .dne (.cons (.idx (.var 9) (.var 12)) (.cons (.idx (.var 10) (.var 11)) .nil))) (.cons (.ret (.cbl false)) .nil) .nil) .nil)) .nil))))) (.cons (.forT [11,12] (.xop .zip (.cons (.var 5) (.cons (.fn1 (.slice (some 1) none) (.var 5)) .nil))) (.cons (.cons (.frz 6) (.ife (.xop .dne (.cons (.idx (.call 241 (.cons (.var 6) (.cons (.var 11) (.cons (.var 4) .nil)))) (.var 11)) (.cons (.idx (.var 6) (.var 12)) .nil))) (.cons (.ret (.cbl false)) .nil) .nil)) .nil)) (.cons (.ife (.xop .deq (.cons (.var 5) (.cons (.lst .nil) .nil))) (.cons (.cons (.frz 6) (.ret (.and (.xop .deq (.cons (.var 6) (.cons (.xop .dnw .nil) .nil))) (.isN (.call 237 (.cons (.var 6) .nil)) false)))) .nil) .nil) (.cons (.cons (.frz 6) (.ife (.or (.xop .dne (.cons (.idx (.var 6) (.idx (.var 5) (.cint 0))) (.cons (.call 155 (.cons (.var 1) (.cons (.var 2) (.cons (.var 3) .nil)))) .nil))) (.xop .dne (.cons (.call 237 (.cons (.var 6) .nil)) (.cons (.call 83 (.cons (.idx (.var 6) (.idx (.var 5) (.neg (.cint 1)))) .nil)) .nil)))) (.cons (.ret (.cbl false)) .nil) .nil)) (.cons (.asg 13 (.call 17 (.cons (.call 17 (.cons (.var 3) (.cons (.call 180 (.cons (.var 1) .nil)) .nil))) (.cons (.call 19 (.cons (.tup (.cons (.cint 4) (.cons (.cint 1) .nil))) (.cons (.var 4) .nil))) .nil)))) (.cons (.cons (.frz 6) (.ret (.xop .deq (.cons (.call 238 (.cons (.var 6) (.cons (.var 13) .nil))) (.cons (.call 19 (.cons (.tup (.cons (.blt .len (.cons (.var 5) .nil)) (.cons (.cint 1) .nil))) (.cons (.call 156 (.cons (.var 1) (.cons (.var 2) .nil))) .nil))) .nil))))) .nil)))))))))))))
noncomputable def JIg:Fd:=⟨1,14,JGy⟩
noncomputable def tabA (i:Nat):Option Fd:=match i with
 | 0=>some d_0
 | 1=>some d_1
 | 2=>some d_2
 | 3=>some d_3
 | 4=>some d_4
 | 5=>some d_5
 | 6=>some d_6
 | 7=>some d_7
 | 8=>some d_8
 | 9=>some d_9
 | 10=>some d_10
 | 11=>some d_11
 | 12=>some d_12
 | 13=>some d_13
 | 14=>some d_14
 | 15=>some d_15
 | 16=>some d_16
 | 17=>some d_17
 | 18=>some d_18
 | 19=>some d_19
 | 20=>some d_20
 | 21=>some d_21
 | 23=>some d_23
 | 24=>some d_24
 | 25=>some d_25
 | 26=>some d_26
 | 27=>some d_27
 | 29=>some d_29
 | 30=>some d_30
 | 31=>some d_31
 | 32=>some d_32
 | 33=>some d_33
 | 34=>some d_34
 | 35=>some d_35
 | 36=>some d_36
 | 37=>some d_37
 | 43=>some d_43
 | 44=>some d_44
 | 46=>some d_46
 | 48=>some d_48
 | 49=>some d_49
 | 68=>some d_68
 | 72=>some d_72
 | 73=>some d_73
 | 74=>some d_74
 | 80=>some d_80
 | 83=>some d_83
 | 84=>some d_84
 | 96=>some d_96
 | 97=>some d_97
 | 105=>some JJu
 | 140=>some JJZ
 | 141=>some JBg
 | 142=>some JIQ
 | 143=>some JDZ
 | 144=>some JHN
 | 146=>some d_146
 | 147=>some d_147
 | 153=>some JJW
 | 154=>some JHA
 | 155=>some JKW
 | 156=>some JJp
 | 179=>some JHE
 | 180=>some JKu
 | 236=>some JJh
 | 237=>some JGl
 | 238=>some JJf
 | 239=>some JJx
 | 240=>some JKO
 | 241=>some JKI
 | 242=>some JJe
 | 243=>some JIg
 | _=>none
noncomputable def gloA (i:Nat):R D:=match i with
 | 39=>.ok (F 0)
 | 40=>.ok (F 1)
 | 41=>.ok (VI.VP.kinds)
 | 42=>.ok (VI.VP.turned)
 | 55=>.ok (.int 0)
 | 56=>.ok (.int 1)
 | 57=>.ok (.int 2)
 | 58=>.ok (.int 3)
 | 59=>.ok (.int 4)
 | 60=>.ok (.int 5)
 | 61=>.ok (.str "kept")
 | 77=>.ok (.tuple [F 0,F 0])
 | 93=>.ok (.int 0)
 | 94=>.ok (.int 1)
 | 128=>.ok (.int 0)
 | 129=>.ok (.int 1)
 | 151=>.ok (.int 5)
 | 152=>.ok (.int 4)
 | 192=>.ok (.dict [(.str "even",.tuple [.int 1,.int 2]),(.str "both",.tuple [.int 1,.int 2]),(.str "kept",.tuple [.int 1,.int 2]),(.str "in",.tuple [.int 1,.int 3]),(.str "out",.tuple [.int 2,.int 3]),(.str "hold",.tuple [.int 0,.int 1]),(.str "jump",.tuple [.int 1,.int 1])])
 | 226=>.ok (.int 1)
 | _=>.bad
end VI.VP
end
section
namespace VI.VP
open PySem Fr
theorem tF:TabF tabA:=⟨rfl,rfl,rfl,rfl,rfl,rfl,rfl⟩
theorem tL:TabL tabA:=⟨rfl,rfl,rfl,rfl,rfl,rfl,rfl,rfl,rfl,rfl,rfl⟩
theorem tM:TabM tabA:=⟨rfl,rfl,rfl,rfl⟩
theorem tK:TabK tabA:=⟨rfl,rfl,rfl,rfl,rfl⟩
theorem gK:GloK gloA:=⟨rfl,rfl,rfl,rfl⟩
theorem G39:gloA 39=.ok (F 0):=rfl
theorem G40:gloA 40=.ok (F 1):=rfl
theorem G55:gloA 55=.ok (.int 0):=rfl
theorem G56:gloA 56=.ok (.int 1):=rfl
theorem G57:gloA 57=.ok (.int 2):=rfl
theorem G58:gloA 58=.ok (.int 3):=rfl
theorem G59:gloA 59=.ok (.int 4):=rfl
theorem G60:gloA 60=.ok (.int 5):=rfl
theorem G61:gloA 61=.ok (.str "kept"):=rfl
section
variable {x:Bool} {sub:Nat->Nat->Bool} {m i j:Nat} {p q:Rat}
theorem JAD {k:Nat} (h:k<=m):∃n,m=n+k:=⟨m - k,by omega⟩
theorem JLX [a:Z i p] [b:Z j q] (hi:i<=1500) (hj:j<=1500) (hm:3<=m):run x tabA gloA sub m 3 [F p,F q]=.ok (F (p+q)):=by
 obtain ⟨n,rfl⟩:=JAD hm
 exact JNM tF (a.le hi) (b.le hj)
theorem JH6 [a:Z i p] [b:Z j q] (hi:i<=1500) (hj:j<=1500) (hm:3<=m):run x tabA gloA sub m 4 [F p,F q]=.ok (F (p - q)):=by
 obtain ⟨n,rfl⟩:=JAD hm
 exact JD1 tF (a.le hi) (b.le hj)
theorem JHh [a:Z i p] [b:Z j q] (hi:i<=1500) (hj:j<=1500) (hm:3<=m):run x tabA gloA sub m 5 [F p,F q]=.ok (F (p*q)):=by
 obtain ⟨n,rfl⟩:=JAD hm
 exact JCm tF (a.le hi) (b.le hj)
theorem JP6 [a:Z i p] [b:Z j q] (hi:i<=1500) (hj:j<=1500) (hm:1<=m):run x tabA gloA sub m 6 [F p,F q]=.ok (.bool (decide (p<q))):=by
 obtain ⟨n,rfl⟩:=JAD hm
 exact JDH tF (a.le hi) (b.le hj)
theorem JO5 [a:Z i p] [b:Z j q] (h0:q≠0) (hi:i<=1500) (hj:j<=1500) (hm:3<=m):run x tabA gloA sub m 25 [F p,F q]=.ok (F (p / q)):=by
 obtain ⟨n,rfl⟩:=JAD hm
 have hp:=a.le hi
 have hq:=b.le hj
 have hz:q.num≠0:=fun z=>h0 (Rat.num_eq_zero.mp z)
 rw [JAB (n:=n+2) (show tabA 25=some d_25 from rfl),JAA rfl]
 dsimp! [d_25,b_25,JBM (hp.Ln (by omega)) (hq.Ld (by omega)),JBM (hp.Ld (by omega)) (hq.Ln (by omega)),JEI (n:=n) tF _ _ (Int.mul_ne_zero (JAb p) hz) (L.of (JAl hp.d hq.n) (by omega)),JMQ]
theorem JNU (k:Int) (hm:1<=m):run x tabA gloA sub m 2 [.int k]=.ok (.tuple [.int k,.int 1]):=by
 obtain ⟨n,rfl⟩:=JAD hm
 exact JDx tF k
theorem JI7 {r:Rat} {k:Nat} [a:Z i p] [b:Z j q] [c:Z k r] (hi:i<=1500) (hj:j<=1500) (hk:i+j+k<=1498) (hm:4<=m):run x tabA gloA sub m 10 [F p,F q,F r]=.ok (F (p+r*(q - p))):=by
 obtain ⟨n,rfl⟩:=JAD hm
 have z1:Z (j+i+1) (q - p):=inferInstance
 have z2:Z (k+(j+i+1)) (r*(q - p)):=inferInstance
 rw [JAB (n:=n+3) (show tabA 10=some d_10 from rfl),JAA rfl]
 dsimp! [d_10,b_10,JH6 (x:=x) (sub:=sub) (m:=n+3) (p:=q) (q:=p) (by omega) (by omega) (by omega),JHh (x:=x) (sub:=sub) (m:=n+3) (p:=r) (q:=q - p) (by omega) (by omega) (by omega),JLX (x:=x) (sub:=sub) (m:=n+3) (p:=p) (q:=r*(q - p)) (by omega) (by omega) (by omega)]
theorem JP8 [a:Z i p] (hi:i<=1500) (hm:3<=m):run x tabA gloA sub m 31 [F p]=.ok (F (JBJ p)):=by
 obtain ⟨n,rfl⟩:=JAD hm
 exact JHr gK tF tM tK (a.le hi)
theorem JJL {k:Kd} [a:Z i p] (hi:i<=200) (hm:4<=m):run x tabA gloA sub m 32 [.str k.str,F p]=.ok (F (ez k (JBJ p))):=by
 obtain ⟨n,rfl⟩:=JAD hm
 exact JKV gK tF tM tK k (a.le hi)
theorem JP4 [a:Z i p] [b:Z j q] (hi:i<=1500) (hj:j<=1500) (hm:3<=m):run x tabA gloA sub m 17 [F p,F q]=.ok (F (p+q)):=by
 obtain ⟨n,rfl⟩:=JAD hm
 exact JJX tL (a.le hi) (b.le hj)
theorem JOE [a:Z i p] [b:Z j q] (hi:i<=1500) (hj:j<=1500) (hm:3<=m):run x tabA gloA sub m 18 [F p,F q]=.ok (F (p - q)):=by
 obtain ⟨n,rfl⟩:=JAD hm
 exact JHQ tL (a.le hi) (b.le hj)
theorem JNp [a:Z i p] [b:Z j q] (hi:i<=1500) (hj:j<=1500) (hm:3<=m):run x tabA gloA sub m 19 [F p,F q]=.ok (F (p*q)):=by
 obtain ⟨n,rfl⟩:=JAD hm
 exact JHx tL (a.le hi) (b.le hj)
theorem JGM (ns:List Int) (k c:Int) (hm:2<=m) (hk:0<=k) (hk2:k<2000000) (hc:0<c):∃i,0<=i/\i<c/\run x tabA gloA sub m 12 [sc ns,.int k,.int c]=.ok (.int i):=by
 obtain ⟨n,rfl⟩:=JAD hm
 exact JCS tL ns k c hk hk2 hc
theorem JHc (ns:List Int) (k:Int) (hm:3<=m) (hk:0<=k) (hk2:k<1000000):∃q,Small q/\run x tabA gloA sub m 15 [sc ns,.int k]=.ok (F q):=by
 obtain ⟨n,rfl⟩:=JAD hm
 exact JKE tL ns k hk hk2
theorem JGS (ns:List Int) (k:Int) (hm:3<=m) (hk:0<=k) (hk2:k<1000000):∃q,Small q/\0<q/\run x tabA gloA sub m 16 [sc ns,.int k]=.ok (F q):=by
 obtain ⟨n,rfl⟩:=JAD hm
 exact JJq tL ns k hk hk2
theorem JQD (ns:List Int) (k:Int) (hm:3<=m) (hk:0<=k) (hk2:k<1000000):∃d:Kd,run x tabA gloA sub m 35 [sc ns,.int k]=.ok (.str d.str):=by
 obtain ⟨n,rfl⟩:=JAD hm
 exact JJo tL rfl ns k hk hk2
end
end VI.VP
end
local macro_rules | `(tactic| dsimp?! [$ts,*])=>`(tactic| simp (disch:=first | omega | assumption) only [VI.VP.v_var,VI.VP.JPy,VI.VP.v_bl,VI.VP.JRK,VI.VP.JQw,VI.VP.JQW,VI.VP.JQy,VI.VP.JNm,VI.VP.v_not,VI.VP.v_and,VI.VP.v_or,VI.VP.JOx,VI.VP.JRO,VI.VP.JOf,VI.VP.JQ9,VI.VP.JPI,VI.VP.JQb,VI.VP.JOr,VI.VP.JL7,VI.VP.JPo,VI.VP.JOi,
 VI.VP.v_count,VI.VP.JJB,VI.VP.v_get,VI.VP.JK6,VI.VP.JPH,VI.VP.JRJ,VI.VP.JPN,VI.VP.JPj,VI.VP.JRH,VI.VP.JPT,VI.VP.JMb,VI.VP.JGN,VI.VP.JPC,VI.VP.JOZ,VI.VP.JPV,VI.VP.JLe,VI.VP.JQg,VI.VP.JQJ,VI.VP.k_tt,VI.VP.k_tl,VI.VP.k_lt,VI.VP.k_ll,VI.VP.JLx,VI.VP.JIM,VI.VP.JK1,VI.VP.JRY,VI.VP.t_or,VI.VP.JOm,VI.VP.t_bl,VI.VP.JPc,VI.VP.JJw,VI.VP.JJ4,VI.VP.JRG,VI.VP.JLy,VI.VP.JRP,VI.VP.JQh,VI.VP.JP0,VI.VP.JO0,VI.VP.JOa,VI.VP.l_idx,VI.VP.JMM,VI.VP.JRZ,VI.VP.JPF,
 VI.VP.JOQ,VI.VP.JGF,VI.VP.JMK,VI.VP.JQv,VI.VP.JOt,VI.VP.JQd,VI.VP.JQU,VI.VP.JOg,VI.VP.JLZ,VI.VP.JPe,VI.VP.JPb,VI.VP.JPs,VI.VP.JLA,VI.VP.JLh,VI.VP.JP9,VI.VP.JML,VI.VP.JMc,
 VI.VP.JI4,VI.VP.JLM,VI.VP.JO9,VI.VP.JOM,VI.VP.JOh,VI.VP.JL3,VI.VP.JMe,VI.VP.JO1,VI.VP.JOV,VI.VP.JOU,VI.VP.JO7,VI.VP.JPG,VI.VP.JL9,VI.VP.JLY,VI.VP.JQT,VI.VP.JQP,VI.VP.JQp,VI.VP.JLr,VI.VP.JOS,VI.VP.JQc,VI.VP.JIw,VI.VP.JHS,VI.VP.JO6,VI.VP.JL0,VI.VP.JHe,VI.VP.JID,VI.VP.JLa,VI.VP.JLs,VI.VP.JQu,VI.VP.JQL,VI.VP.JRb,VI.VP.JK9,VI.VP.JLI,VI.VP.JL5,VI.VP.JK4,VI.VP.JLO,VI.VP.JP7,VI.VP.JLu,VI.VP.JO2,VI.VP.JLF,VI.VP.JMd,VI.VP.JMS,VI.VP.JMg,VI.VP.JPp,VI.VP.JRU,VI.VP.JLR,VI.VP.JQs,VI.VP.JLD,VI.VP.JLQ,VI.VP.JMI,VI.VP.JLP,VI.VP.JLH,VI.VP.JME,VI.VP.JLU,VI.VP.JL1,VI.VP.JK8,VI.VP.JLg,VI.VP.JLW,VI.VP.JHL,VI.VP.JPB,VI.VP.JIU,VI.VP.JIb,VI.VP.JGj,VI.VP.JQl,VI.VP.JMN,VI.VP.JRL,VI.VP.JQr,VI.VP.JRS,VI.VP.JOP,VI.VP.JJR,
 VI.VP.look_zero,VI.VP.look_succ,VI.VP.get_val,VI.VP.get_own,VI.VP.JEc,VI.VP.JEh,List.map_cons,List.map_nil,List.cons_append,List.nil_append,
 List.replicate_succ,List.replicate_zero,Nat.reduceSub,List.set_cons_zero,List.set_cons_succ,VI.E.fresh,VI.VP.JF2,VI.VP.JDF,VI.VP.JDm,VI.VP.JDS,Bool.false_and,q_v,eq_self,if_true,if_false,VI.VP.i_ne,VI.VP.i_eq,VI.VP.i_lt,VI.VP.i_gt,VI.VP.i_le,VI.VP.i_ge,
 VI.VP.F_ne,VI.VP.F_eq,VI.VP.JMh,VI.VP.JLJ,VI.VP.JOv,VI.VP.JRC,
 VI.VP.G39,VI.VP.G40,VI.VP.G55,VI.VP.G56,VI.VP.G57,VI.VP.G58,VI.VP.G59,VI.VP.G60,VI.VP.G61,VI.VP.JLX,VI.VP.JH6,VI.VP.JHh,VI.VP.JP6,VI.VP.JO5,VI.VP.JNU,VI.VP.JI7,VI.VP.JP8,VI.VP.JJL,VI.VP.JP4,VI.VP.JOE,VI.VP.JNp,$ts,*])
section
namespace VI.VP
open PySem Fr
noncomputable def kst:Option Kd->Str
 | some k=>k.str
 | none=>"kept"
noncomputable def mo (s g b l:Rat) (k:Option Kd) (u v:Rat):D:=.tuple [F s,F g,F b,F l,.str (kst k),.tuple [F u,F v]]
noncomputable def kw (s g l u v p:Rat):Rat:=s+ez .both (JBJ p)*(g - s)+l*(u*(p*p*p - 2*(p*p)+p)+v*(p*p*p - p*p))
noncomputable def wo (s g b l:Rat) (k:Option Kd) (u v t:Rat):Rat:=match k with
 | some k=>s+ez k (JBJ ((t - b) / l))*(g - s)
 | none=>kw s g l u v (JBJ ((t - b) / l))
noncomputable def ks (s g l u v p:Rat):Rat:=(g - s) / l*sl .both p+(u*(3*(p*p) - 4*p+1)+v*(3*(p*p) - 2*p))
noncomputable def sd (s g b l:Rat) (k:Option Kd) (u v t:Rat):Rat:=match k with
 | some k=>(g - s) / l*sl k ((t - b) / l)
 | none=>if (t - b) / l<0\/1<(t - b) / l then 0 else ks s g l u v ((t - b) / l)
theorem JDd (k:Option Kd):shaped (.str (kst k))=true:=by
 cases k with
 | none=>decide +kernel
 | some k=>exact JDI k
theorem JKw (k:Option Kd):(kst k=="kept")=k.isNone:=by
 cases k with
 | none=>decide +kernel
 | some k=>cases k<;>decide +kernel
theorem JMD (k:Option Kd):cmpD .Eq (.str (kst k)) (.str "kept")=.ok (.bool k.isNone):=by
 rw [JHo (JDd k) (by decide +kernel),JKw]
theorem JM4 (k:Kd):cmpD .Eq (.str k.str) (.str "kept")=.ok (.bool false):=JMD (some k)
section
variable {s g b l u v:Rat} {k:Option Kd}
theorem mo0:idxD (mo s g b l k u v) (.int 0)=.ok (F s):=rfl
theorem mo1:idxD (mo s g b l k u v) (.int 1)=.ok (F g):=rfl
theorem mo2:idxD (mo s g b l k u v) (.int 2)=.ok (F b):=rfl
theorem mo3:idxD (mo s g b l k u v) (.int 3)=.ok (F l):=rfl
theorem mo4:idxD (mo s g b l k u v) (.int 4)=.ok (.str (kst k)):=rfl
theorem mo5:idxD (mo s g b l k u v) (.int 5)=.ok (.tuple [F u,F v]):=rfl
theorem tp0 {a c:D}:idxD (.tuple [a,c]) (.int 0)=.ok a:=rfl
theorem tp1 {a c:D}:idxD (.tuple [a,c]) (.int 1)=.ok c:=rfl
end
section
variable {x:Bool} {sub:Nat->Nat->Bool} {m i1 i2 i3 i4 i5 i6 j:Nat} {s g b l u v t p:Rat}
theorem JMV {k:Option Kd} [Z i3 b] [Z i4 l] [Z j t] (hl:l≠0) (h3:i3<=400) (h4:i4<=400) (hj:j<=400) (hm:4<=m):run x tabA gloA sub m 46 [mo s g b l k u v,F t]=.ok (F ((t - b) / l)):=by
 obtain ⟨n,rfl⟩:=JAD hm
 rw [JAB (n:=n+3) (show tabA 46=some d_46 from rfl),JAA rfl]
 dsimp?! [d_46,b_46,mo2,mo3]
theorem m_kw [Z i1 s] [Z i2 g] [Z i4 l] [Z i5 u] [Z i6 v] [Z j p] {k:Option Kd} (h1:i1+i2+4*j<=1470) (h2:i4+i5+i6+6*j<=1480) (hj:j<=190) (hm:5<=m):run x tabA gloA sub m 49 [mo s g b l k u v,F p]=.ok (F (kw s g l u v p)):=by
 obtain ⟨n,rfl⟩:=JAD hm
 rw [JAB (n:=n+4) (show tabA 49=some d_49 from rfl),JAA rfl]
 have eb:run x tabA gloA sub (n+4) 32 [.str "both",F p]=.ok (F (ez .both (JBJ p))):=JJL (k:=.both) (by omega) (by omega)
 dsimp?! [d_49,b_49,mo0,mo1,mo2,mo3,mo4,mo5,tp0,tp1,W2,eb,kw]
theorem JKU [Z i1 s] [Z i2 g] [Z i3 b] [Z i4 l] [Z i5 u] [Z i6 v] [Z j t] {k:Option Kd} (hl:l≠0) (h1:i1+i2+4*(j+i3+i4)<=1430) (h2:i4+i5+i6+6*(j+i3+i4)<=1450) (h3:j+i3+i4<=180) (hm:6<=m) :
  run x tabA gloA sub m 48 [mo s g b l k u v,F t]=.ok (F (wo s g b l k u v t)):=by
 obtain ⟨n,rfl⟩:=JAD hm
 rw [JAB (n:=n+5) (show tabA 48=some d_48 from rfl),JAA rfl]
 cases k with
 | none=>dsimp?! [d_48,b_48,JMV,mo0,mo1,mo4,JMD,Option.isNone_none,m_kw,wo]
 | some k=>dsimp?! [d_48,b_48,JMV,mo0,mo1,mo4,JM4,kst,wo]
end
end VI.VP
end
section
namespace VI.VP
open PySem Fr
section
variable {s g b l u v t:Rat} {k:Option Kd} {i1 i2 i3 i4 i5 i6 j:Nat}
end
section
variable {x:Bool} {sub:Nat->Nat->Bool} {m i1 i2 i3 i4 i5 i6 j:Nat} {s g b l u v t p:Rat}
theorem kw1 {s g l u v:Rat}:kw s g l u v 1=g:=by
 have:ez .both (JBJ 1)=1:=by decide +kernel
 unfold kw;rw [this];grind
end
theorem JIn {C:Cn} {i:Nat} {b:S} {Inv:Env->Prop}:∀ {ds:List D},(∀d∈ds,∀δ,Inv δ->∃δ',(exec C b (δ.set i (.val d))=.nx δ'\/exec C b (δ.set i (.val d))=.ct δ')/\Inv δ')->∀ {δ},Inv δ->∃δ',for2 C i b ds δ=.nx δ'/\Inv δ'
 | [],_,δ,h=>⟨δ,rfl,h⟩
 | d::ds,hb,δ,h=>by
  obtain ⟨δ1,e,h1⟩:=hb d (by simp) δ h
  obtain ⟨δ2,e2,h2⟩:=JIn (ds:=ds) (fun d hd=>hb d (by simp [hd])) h1
  refine ⟨δ2,?_,h2⟩
  rw [JCo]
  rcases e with e | e<;>(rw [e];exact e2)
noncomputable def Vs (z:Sl):Prop:=z.isOwn=false
theorem Vs.own {z:Sl} (h:Vs z) (e:E) (i:Nat) (r:Env):JAP e i (z::r)=JAP e (i+1) r:=by
 unfold Vs at h
 cases z<;>first | (cases h;done) | simp [JAP,Sl.isOwn]
end VI.VP
end
section
namespace VI.VP
open PySem Fr
theorem tI:TabI tabA:=⟨rfl,rfl,rfl⟩
theorem G77:gloA 77=.ok (.tuple [F 0,F 0]):=rfl
theorem JJF (s g b l:Rat) (k:Option Kd) (u v:Rat):shaped (mo s g b l k u v)=true:=by
 have hk:=JDd k
 unfold shaped at hk ⊢
 rw [q_i] at hk ⊢
 refine ⟨?_,decide_eq_true ?_⟩
 ·simp only [mo,PyData.canLay0,PyData.canLayAll0,JPK,Bool.and_self,Bool.true_and,Bool.and_true]
  simpa [PyData.canLay0] using hk.1
 ·simp only [mo,PyData.depth,PyData.depthAll,JFR]
  decide
theorem JNz {p:Rat}:(0<p.num)=(0<p):=by
 apply propext
 rw [Rat.lt_iff]
 simp
theorem JB3 {sub:Nat->Nat->Bool} (ds:List D):isiD sub (.tuple ds) .tuple=.ok (.bool true):=rfl
section
variable {x:Bool} {sub:Nat->Nat->Bool} {m i1 i2 i3 i4 i5 i6 j:Nat} {s g b l u v t p:Rat}
theorem JMq (hm:2<=m):run x tabA gloA sub m 24 [F p]=.ok (.bool true):=by
 obtain ⟨n,rfl⟩:=JAD hm
 exact isf_F tF tI p
theorem JN3 (hm:3<=m):run x tabA gloA sub m 68 [F p]=.ok (.bool (decide (0<p))):=by
 obtain ⟨n,rfl⟩:=JAD hm
 rw [JAB (n:=n+2) (show tabA 68=some d_68 from rfl),JAA rfl]
 dsimp?! [d_68,b_68,JMq,JNz]
theorem JOp {k:Kd} (hm:1<=m):run x tabA gloA sub m 29 [.str k.str]=.ok (.bool true):=by
 obtain ⟨n,rfl⟩:=JAD hm
 exact JMH gK tK _ (JGL k)
theorem q_end [Z i3 b] [Z i4 l] {k:Option Kd} (h3:i3<=400) (h4:i4<=400) (hm:4<=m):run x tabA gloA sub m 72 [mo s g b l k u v]=.ok (F (b+l)):=by
 obtain ⟨n,rfl⟩:=JAD hm
 rw [JAB (n:=n+3) (show tabA 72=some d_72 from rfl),JAA rfl]
 dsimp?! [d_72,b_72,mo2,mo3]
theorem JNC {k:Option Kd} {d:D} (hm:1<=m):run x tabA gloA sub m 73 [mo s g b l k u v,F t]=.ok (mo s g t l k u v):=by
 obtain ⟨n,rfl⟩:=JAD hm
 rw [JAB (n:=n) (show tabA 73=some d_73 from rfl),JAA rfl]
 dsimp?! [d_73,b_73,mo0,mo1,mo3,mo4,mo5]
 rfl
theorem JM8 [Z i3 b] [Z j t] {k:Option Kd} (h3:i3<=400) (hj:j<=400) (hm:4<=m):run x tabA gloA sub m 74 [mo s g b l k u v,F t]=.ok (mo s g (b+t) l k u v):=by
 obtain ⟨n,rfl⟩:=JAD hm
 have e:run x tabA gloA sub (n+3) 73 [mo s g b l k u v,F (b+t)]=.ok (mo s g (b+t) l k u v):=JNC (d:=.none) (by omega)
 rw [JAB (n:=n+3) (show tabA 74=some d_74 from rfl),JAA rfl]
 dsimp?! [d_74,b_74,mo2,e]
noncomputable def optF:Option Rat->D
 | some q=>F q
 | none=>.none
end
end VI.VP
end
section
namespace VI.VP
open PySem Fr
theorem d_neg {a c:Rat} (h:a<0) (hc:0<c):a / c<0:=by
 rw [Rat.div_def]
 have:=Rat.mul_pos (show 0 < -a by grind) (Rat.inv_pos.mpr hc)
 grind
theorem d_gt {a c:Rat} (h:c<a) (hc:0<c):1<a / c:=by
 have h1:=d_neg (show c - a<0 by grind) hc
 have:(c - a) / c=1 - a / c:=by grind
 grind
noncomputable def sdp (s g l:Rat) (k:Option Kd) (u v p:Rat):Rat:=match k with
 | some k=>(g - s) / l*sl k p
 | none=>if p<0\/1<p then 0 else ks s g l u v p
noncomputable def wop (s g l:Rat) (k:Option Kd) (u v p:Rat):Rat:=match k with
 | some k=>s+ez k (JBJ p)*(g - s)
 | none=>kw s g l u v (JBJ p)
theorem wo_p {s g b l u v t p:Rat} {k:Option Kd} (h:(t - b) / l=p):wo s g b l k u v t=wop s g l k u v p:=by subst h;cases k<;>rfl
theorem JFs {p:Rat} (h:1<=p):JBJ p=1:=by unfold JBJ;grind
theorem JRR {s g l u v p:Rat} (k:Option Kd) (h:1<=p):wop s g l k u v p=g:=by
 cases k with
 | none=>simp only [wop,JFs h,kw1]
 | some k=>simp only [wop,JFs h,ez1];grind
end VI.VP
end
section
namespace VI.VP
open PySem Fr
structure Mv where
 s:Rat
 g:Rat
 b:Rat
 l:Rat
 k:Option Kd
 u:Rat
 v:Rat
noncomputable def Mv.d (m:Mv):D:=mo m.s m.g m.b m.l m.k m.u m.v
structure Mv.Ok (m:Mv):Prop where
 l0:0<m.l
 uv:m.k≠none->m.u=0/\m.v=0
 b:Sz 200 m.b
 l:Sz 20 m.l
 sg:∃i j,Sz i m.s/\Sz j m.g/\i+j<=1180
 us:∃i j,Sz i m.u/\Sz j m.v/\i+j<=900
theorem Mv.Ok.of {m:Mv} (l0:0<m.l) (uv:m.k≠none->m.u=0/\m.v=0) (s:Sz 20 m.s) (g:Sz 20 m.g) (b:Sz 200 m.b) (l:Sz 20 m.l) (u:Sz 20 m.u) (v:Sz 20 m.v):m.Ok :=
 ⟨l0,uv,b,l,⟨20,20,s,g,by omega⟩,⟨20,20,u,v,by omega⟩⟩
noncomputable def Mv.e (m:Mv):Rat:=m.b+m.l
noncomputable def tr (w:Rat) (ms:List Mv):D:=.tuple [F w,.tuple (ms.map Mv.d)]
theorem G93:gloA 93=.ok (.int 0):=rfl
theorem G94:gloA 94=.ok (.int 1):=rfl
theorem JD4 {ms:List Mv} {m:Mv}:idxD (.tuple ((ms++[m]).map Mv.d)) (.int (-1))=.ok m.d:=by
 simp only [idxD,atI,ixN,q_g,q_u,List.length_cons,List.length_nil]
 rw [if_neg (by omega),if_pos (by omega)]
 simp only [Option.bind_some]
 rw [show (-1+(((ms.length+(0+1):Nat)):Int)).toNat=ms.length by omega]
 simp [optR]
theorem JJH {ms:List Mv} {m:Mv}:idxD (.list ((ms++[m]).map Mv.d)) (.int (-1))=.ok m.d:=JD4
section
variable {x:Bool} {sub:Nat->Nat->Bool} {m n:Nat} {w:Rat} {w':D} {ms:List Mv}
theorem Mv.q_end {a:Mv} (h:a.Ok) (hm:4<=m):run x tabA gloA sub m 72 [a.d]=.ok (F a.e):=by
 have:Z 200 a.b:=⟨h.b⟩
 have:Z 20 a.l:=⟨h.l⟩
 exact VP.q_end (by omega) (by omega) hm
theorem tri0:idxD (tr w ms) (.int 0)=.ok (F w):=rfl
theorem tri1:idxD (tr w ms) (.int 1)=.ok (.tuple (ms.map Mv.d)):=rfl
theorem JBq {ms:List Mv} (h:ms≠[]):∃r m,ms=r++[m]:=⟨ms.dropLast,ms.getLast h,(List.dropLast_concat_getLast h).symm⟩
theorem JEJ {ms:List Mv} {a:Mv}:(((ms++[a]).map Mv.d).length:Int)=ms.length+1:=by simp
theorem JPm (hm:5<=m):run x tabA gloA sub m 83 [tr w []]=.ok .none:=by
 obtain ⟨n,rfl⟩:=JAD hm
 rw [JAB (n:=n+4) (show tabA 83=some d_83 from rfl),JAA rfl]
 dsimp?! [d_83,b_83,G94,tri1,List.length_nil,decide_true,Int.ofNat_zero,Int.natCast_zero]
theorem JPl {a:Mv} (h:a.Ok) (hm:5<=m):run x tabA gloA sub m 83 [tr w (ms++[a])]=.ok (F a.e):=by
 obtain ⟨n,rfl⟩:=JAD hm
 rw [JAB (n:=n+4) (show tabA 83=some d_83 from rfl),JAA rfl]
 have e:run x tabA gloA sub (n+4) 72 [a.d]=.ok (F a.e):=Mv.q_end h (by omega)
 have t1:idxD (tr w (ms++[a])) (.int 1)=.ok (.tuple ((ms++[a]).map Mv.d)):=rfl
 have t2:=JD4 (ms:=ms) (m:=a)
 have t3:=JEJ (ms:=ms) (a:=a)
 have t4:¬((ms.length:Int)+1=0):=by omega
 generalize (ms++[a]).map Mv.d=ds at *
 dsimp?! [d_83,b_83,G94,t1,t2,t3,t4,decide_false,e]
theorem JN5 (hm:5<=m):run x tabA gloA sub m 84 [tr w []]=.ok (F w):=by
 obtain ⟨n,rfl⟩:=JAD hm
 rw [JAB (n:=n+4) (show tabA 84=some d_84 from rfl),JAA rfl]
 dsimp?! [d_84,b_84,G93,G94,tri0,tri1,List.length_nil,decide_true,Int.ofNat_zero,Int.natCast_zero]
theorem JOJ {a:Mv} (hm:5<=m):run x tabA gloA sub m 84 [tr w (ms++[a])]=.ok (F a.g):=by
 obtain ⟨n,rfl⟩:=JAD hm
 rw [JAB (n:=n+4) (show tabA 84=some d_84 from rfl),JAA rfl]
 have t1:idxD (tr w (ms++[a])) (.int 1)=.ok (.tuple ((ms++[a]).map Mv.d)):=rfl
 have t2:=JD4 (ms:=ms) (m:=a)
 have t3:=JEJ (ms:=ms) (a:=a)
 have t4:¬((ms.length:Int)+1=0):=by omega
 have t5:idxD a.d (.int 1)=.ok (F a.g):=rfl
 generalize (ms++[a]).map Mv.d=ds at *
 dsimp?! [d_84,b_84,G94,t1,t2,t3,t4,t5,decide_false]
noncomputable def endT:List Mv->Option Rat
 | []=>none
 | [a]=>some a.e
 | _::r=>endT r
noncomputable def JGr (w:Rat):List Mv->Rat
 | []=>w
 | a::r=>JGr a.g r
theorem JEF {a:Mv}:∀ {ms:List Mv},endT (ms++[a])=some a.e
 | []=>rfl
 | [_]=>rfl
 | _::c::r=>by simp only [List.cons_append,endT];exact JEF (ms:=c::r)
theorem JEq {a:Mv}:∀ {ms:List Mv} {w:Rat},JGr w (ms++[a])=a.g
 | [],w=>rfl
 | c::r,w=>by simp only [List.cons_append,JGr];exact JEq
theorem JMZ (hok:∀a∈ms,a.Ok) (hm:5<=m):run x tabA gloA sub m 83 [tr w ms]=.ok (optF (endT ms)):=by
 by_cases h:ms=[]
 ·subst h;exact JPm hm
 ·obtain ⟨r,a,rfl⟩:=JBq h
  rw [JEF]
  exact JPl (hok a (by simp)) hm
theorem JM5 (hm:5<=m):run x tabA gloA sub m 84 [tr w ms]=.ok (F (JGr w ms)):=by
 by_cases h:ms=[]
 ·subst h;exact JN5 hm
 ·obtain ⟨r,a,rfl⟩:=JBq h
  rw [JEq]
  exact JOJ hm
theorem JNs {a b c d e:D} (hm:1<=m):run x tabA gloA sub m 80 [a,b,c,d,e]=.ok (.tuple [a,b,c,d,e,.tuple [F 0,F 0]]):=by
 obtain ⟨n,rfl⟩:=JAD hm
 rw [JAB (n:=n) (show tabA 80=some d_80 from rfl),JAA rfl]
 dsimp?! [d_80,b_80,G77]
theorem JNb (hok:∀a∈ms,a.Ok) {e:Rat} (h:endT ms=some e):Sz 221 e:=by
 by_cases h0:ms=[]
 ·subst h0;cases h
 ·obtain ⟨r,a,rfl⟩:=JBq h0
  rw [JEF] at h
  cases h
  have o:=hok a (by simp)
  have:Z 200 a.b:=⟨o.b⟩
  have:Z 20 a.l:=⟨o.l⟩
  exact (inferInstance:Z (200+20+1) (a.b+a.l)).h
theorem noF {p:Rat}:JAL (F p)=true:=rfl
section
variable {g b l:Rat} {k:Kd} {i:Nat}
end
end
end VI.VP
end
section
namespace VI.VP
open PySem Fr
theorem JBn {C:Cn} {i:Nat} {b:S} {Inv:List D->Env->Prop} (hb:∀d ds δ,Inv (d::ds) δ->∃δ',(exec C b (δ.set i (.val d))=.nx δ'\/exec C b (δ.set i (.val d))=.ct δ')/\Inv ds δ'):∀ {ds:List D} {δ},Inv ds δ->∃δ',for2 C i b ds δ=.nx δ'/\Inv [] δ'
 | [],δ,h=>⟨δ,rfl,h⟩
 | d::ds,δ,h=>by
  obtain ⟨δ1,e,h1⟩:=hb d ds δ h
  obtain ⟨δ2,e2,h2⟩:=JBn hb h1
  refine ⟨δ2,?_,h2⟩
  rw [JCo]
  rcases e with e | e<;>(rw [e];exact e2)
theorem Mv.can (m:Mv):m.d.canLay0=true:=by
 have:=JJF m.s m.g m.b m.l m.k m.u m.v
 unfold shaped at this
 rw [q_i] at this
 exact this.1
theorem Mv.depth (m:Mv):m.d.depth<=4:=by
 simp only [Mv.d,mo,PyData.depth,PyData.depthAll,JFR]
 decide
theorem JMG:∀ms:List Mv,PyData.canLayAll0 (ms.map Mv.d)=true
 | []=>rfl
 | m::r=>by simp only [List.map_cons,PyData.canLayAll0,Mv.can,JMG r,Bool.and_self]
theorem JGV:∀ms:List Mv,PyData.depthAll (ms.map Mv.d)<=4
 | []=>by simp [PyData.depthAll]
 | m::r=>by
  simp only [List.map_cons,PyData.depthAll]
  have:=m.depth
  have:=JGV r
  omega
theorem JIj (w:Rat) (ms:List Mv):shaped (tr w ms)=true:=by
 have:=JGV ms
 unfold shaped tr
 rw [q_i]
 refine ⟨by simp only [PyData.canLay0,PyData.canLayAll0,JPK,JMG,Bool.and_self],decide_eq_true ?_⟩
 simp only [PyData.depth,PyData.depthAll,JFR]
 omega
theorem Mv.refl (m:Mv):PyData.eqv m.d m.d=true:=by
 simp only [Mv.d,mo,PyData.eqv,PyData.eqvAll,JJ5,decide_true,Bool.and_true,beq_self_eq_true]
theorem JIh:∀ms:List Mv,PyData.eqvAll (ms.map Mv.d) (ms.map Mv.d)=true
 | []=>by simp only [List.map_nil,PyData.eqvAll]
 | m::r=>by simp only [List.map_cons,PyData.eqvAll,Mv.refl,JIh r,Bool.and_self]
theorem tr_ne (w:Rat) (ms:List Mv):cmpD .NotEq (tr w ms) (tr w ms)=.ok (.bool false):=by
 have h:PyData.eqv (tr w ms) (tr w ms)=true:=by simp only [tr,PyData.eqv,PyData.eqvAll,JJ5,JIh,decide_true,Bool.and_self]
 simp only [cmpD,JIj,Bool.and_self,if_true,h,Bool.not_true]
def Tw (B:Nat) (q:Rat):Prop:=∃z:Int,z.natAbs<=B/\q=Rat.divInt z 12
theorem Tw.add {A B:Nat} {p q:Rat} (h:Tw A p) (h':Tw B q):Tw (A+B) (p+q):=by
 obtain ⟨z,hz,rfl⟩:=h
 obtain ⟨y,hy,rfl⟩:=h'
 refine ⟨z+y,by omega,?_⟩
 simp only [Rat.divInt_eq_div]
 have:((z+y:Int):Rat)=z+y:=Rat.intCast_add z y
 rw [this]
 grind
theorem Tw.mono {A B:Nat} {p:Rat} (h:Tw A p) (e:A<=B):Tw B p:=by
 obtain ⟨z,hz,rfl⟩:=h
 exact ⟨z,by omega,rfl⟩
theorem Tw.sz {B:Nat} {p:Rat} (h:Tw B p) (e:B<1024):Sz 10 p:=by
 obtain ⟨z,hz,rfl⟩:=h
 exact Sz.of (by decide) (by omega) (by decide)
theorem Small.tw {q:Rat} (h:Small q):Tw 72 q:=by
 have hd:=h.d
 have hp:=q.den_pos
 have hw:=h.w
 have e:=(Rat.num_divInt_den q).symm
 have:q.den=1\/q.den=2\/q.den=3\/q.den=4:=by omega
 rcases this with k | k | k | k
 ·refine ⟨q.num*12,by omega,?_⟩
  rw [k] at e
  rw [e,Rat.divInt_eq_divInt_iff (by decide) (by decide)]
  rw [<-e]
  simp
 ·refine ⟨q.num*6,by omega,?_⟩
  rw [k] at e
  conv=>lhs;rw [e]
  rw [Rat.divInt_eq_divInt_iff (by decide) (by decide)]
  simp
  omega
 ·refine ⟨q.num*4,by omega,?_⟩
  rw [k] at e
  conv=>lhs;rw [e]
  rw [Rat.divInt_eq_divInt_iff (by decide) (by decide)]
  simp
  omega
 ·refine ⟨q.num*3,by omega,?_⟩
  rw [k] at e
  conv=>lhs;rw [e]
  rw [Rat.divInt_eq_divInt_iff (by decide) (by decide)]
  simp
  omega
section
variable {x:Bool} {sub:Nat->Nat->Bool} {m n:Nat} {w t:Rat} {ms:List Mv} {ns:List Int}
end
end VI.VP
end
section
namespace VI.VP
open PySem Fr
noncomputable def Mv.w (m:Mv) (t:Rat):Rat:=wo m.s m.g m.b m.l m.k m.u m.v t
noncomputable def Mv.sp (m:Mv) (t:Rat):Rat:=sd m.s m.g m.b m.l m.k m.u m.v t
noncomputable def bg (t:Rat) (ms:List Mv):List Mv:=ms.filter fun m=>!decide (t<m.b)
noncomputable def wOf (w:Rat) (ms:List Mv) (t:Rat):Rat:=match (bg t ms).getLast? with
 | none=>w
 | some m=>m.w t
structure Ti (i j:Nat) (ms:List Mv):Prop where
 ok:∀a∈ms,a.Ok
 b:∀a∈ms,Sz i a.b
 l:∀a∈ms,Sz j a.l
theorem JCj {α:Type} {f:D->R (Option D)} {c g:α->D} {p:α->Bool}:∀ {xs:List α},(∀a∈xs,f (c a)=.ok (if p a=true then some (g a) else none))->JAs f (xs.map c)=.ok ((xs.filter p).map g)
 | [],_=>rfl
 | a::xs,h=>by
  simp only [List.map_cons]
  unfold JAs
  rw [h a (by simp)]
  have ih:=JCj (xs:=xs) fun y hy=>h y (by simp [hy])
  cases hp:p a
  ·simp only [q_v,if_false]
   rw [ih,q_x (by simp [hp])]
  ·simp only [if_true]
   rw [ih,q_y hp]
   rfl
theorem JHK {ms:List Mv} {a:Mv}:bltD .len [.list ((ms++[a]).map Mv.d)]=.ok (.int (ms.length+1)):=by
 show R.ok _=_
 rw [JEJ]
theorem JG5 (ms:List Mv):ms=[]\/∃r m,ms=r++[m]:=by
 by_cases h:ms=[]
 ·exact .inl h
 ·exact .inr (JBq h)
theorem JFc {r:List Mv} {m:Mv}:(r++[m]).getLast? = some m:=by simp
section
variable {x:Bool} {sub:Nat->Nat->Bool} {m n i3 i4 j:Nat} {w t:Rat} {ms:List Mv}
theorem Mv.q_w {a:Mv} (h:a.Ok) (hb:Sz i3 a.b) (hl:Sz i4 a.l) [Z j t] (h3:i3<=30) (h4:i4<=20) (hj:j+i3+i4<=56) (hm:6<=m):run x tabA gloA sub m 48 [a.d,F t]=.ok (F (a.w t)):=by
 obtain ⟨i1,i2,hs,hg,h12⟩:=h.sg
 obtain ⟨i5,i6,hu,hv,h56⟩:=h.us
 have:=(⟨hs⟩:Z i1 a.s)
 have:=(⟨hg⟩:Z i2 a.g)
 have:=(⟨hb⟩:Z i3 a.b)
 have:=(⟨hl⟩:Z i4 a.l)
 have:=(⟨hu⟩:Z i5 a.u)
 have:=(⟨hv⟩:Z i6 a.v)
 have h0:=h.l0
 exact JKU (by grind) (by omega) (by omega) (by omega) hm
theorem q_bg (hok:∀a∈ms,a.Ok) [Z j t] (hj:j<=1500) (hl:ms.length<=1000) (hm:2<=m):run x tabA gloA sub m 96 [tr w ms,F t]=.ok (.list ((bg t ms).map Mv.d)):=by
 obtain ⟨n,rfl⟩:=JAD hm
 rw [JAB (n:=n+1) (show tabA 96=some d_96 from rfl),JAA rfl]
 obtain ⟨C,hC⟩:∃C:Cn,C=⟨run x tabA gloA sub (n+1),gloA,sub⟩:=⟨_,rfl⟩
 have fn:C.fn=run x tabA gloA sub (n+1):=by rw [hC]
 have fg:C.glo=gloA:=by rw [hC]
 rw [<-hC]
 have t1:idxD (tr w ms) (.int 1)=.ok (.tuple (ms.map Mv.d)):=rfl
 have it:JAa (.tuple (ms.map Mv.d))=.ok (ms.map Mv.d):=rfl
 have cp:JCv C 0 (.var 0) (.not (.call 6 (.cons (.var 2) (.cons (.idx (.var 0) (.glo 57)) .nil)))) [.val (tr w ms),.val (F t)] (.ok (ms.map Mv.d))=.ok (.list ((bg t ms).map Mv.d)):=by
  rw [JBd (by rw [q_g];omega),JCj (p:=fun m=>!decide (t<m.b)) (g:=Mv.d) (fun a ha=>?_)]
  ·rfl
  ·have zb:Z 200 a.b:=⟨(hok a ha).b⟩
   have m2:idxD a.d (.int 2)=.ok (F a.b):=rfl
   rw [JBk]
   by_cases o:t<a.b
   ·dsimp?! [fn,fg,m2,o,decide_true,Bool.not_true]
   ·dsimp?! [fn,fg,m2,o,decide_false,Bool.not_false]
 generalize (bg t ms).map Mv.d=bs at *
 generalize ms.map Mv.d=ds at *
 dsimp?! [d_96,b_96,fn,fg,G94,t1,it,cp]
theorem JN0:bltD .len [.list (([]:List Mv).map Mv.d)]=.ok (.int 0):=rfl
theorem JNx (T:Ti i3 i4 ms) [Z j t] (h3:i3<=30) (h4:i4<=20) (hj:j+i3+i4<=56) (hl:ms.length<=1000) (hm:7<=m):run x tabA gloA sub m 97 [tr w ms,F t]=.ok (F (wOf w ms t)):=by
 obtain ⟨n,rfl⟩:=JAD hm
 rw [JAB (n:=n+6) (show tabA 97=some d_97 from rfl),JAA rfl]
 have e1:run x tabA gloA sub (n+6) 96 [tr w ms,F t]=.ok (.list ((bg t ms).map Mv.d)):=q_bg T.ok (by omega) hl (by omega)
 have t0:idxD (tr w ms) (.int 0)=.ok (F w):=rfl
 unfold wOf
 rcases JG5 (bg t ms) with h | ⟨r,a,h⟩
 ·rw [h] at e1 ⊢
  have nl:=JN0
  simp only [List.map_nil,List.getLast?_nil] at e1 nl ⊢
  generalize tr w ms=T at *
  dsimp?! [d_97,b_97,e1,nl,decide_true,G93,t0]
 ·have ha:a∈ms:=(List.mem_filter.mp (show a∈bg t ms by rw [h];simp)).1
  have e2:run x tabA gloA sub (n+6) 48 [a.d,F t]=.ok (F (a.w t)):=Mv.q_w (T.ok a ha) (T.b a ha) (T.l a ha) h3 h4 hj (by omega)
  rw [h] at e1 ⊢
  rw [JFc]
  have il:=JJH (ms:=r) (m:=a)
  have ll:=JHK (ms:=r) (a:=a)
  have t4:¬((r.length:Int)+1=0):=by omega
  generalize (r++[a]).map Mv.d=ds at *
  generalize tr w ms=T at *
  dsimp?! [d_97,b_97,e1,il,ll,t4,decide_false,e2]
end
end VI.VP
end
section
namespace VI.VP
open PySem Fr
section
variable {x:Bool} {sub:Nat->Nat->Bool} {m n i3 i4 j:Nat} {w t:Rat} {ms:List Mv}
noncomputable def Mv.mv (y:Rat) (a:Mv):Mv:={ a with b:=a.b+y }
noncomputable def Mv.sl (y:Rat) (a:Mv):Mv:={ a with b:=a.b*y,l:=a.l*y,u:=a.u / y,v:=a.v / y }
theorem JJ6 {y:Rat} (hok:∀a∈ms,a.Ok) [Z j y] (hj:j<=400) (hl:ms.length<=400) (hm:5<=m):run x tabA gloA sub m 105 [tr w ms,F y]=.ok (tr w (ms.map (Mv.mv y))):=by
 obtain ⟨n,rfl⟩:=JAD hm
 rw [JAB (n:=n+4) (show tabA 105=some JJu from rfl),JAA rfl]
 obtain ⟨C,hC⟩:∃C:Cn,C=⟨run x tabA gloA sub (n+4),gloA,sub⟩:=⟨_,rfl⟩
 have fn:C.fn=run x tabA gloA sub (n+4):=by rw [hC]
 have fg:C.glo=gloA:=by rw [hC]
 rw [<-hC]
 have t0:idxD (tr w ms) (.int 0)=.ok (F w):=rfl
 have t1:idxD (tr w ms) (.int 1)=.ok (.tuple (ms.map Mv.d)):=rfl
 have it:JAa (.tuple (ms.map Mv.d))=.ok (ms.map Mv.d):=rfl
 have cp:JCv C 0 (.call 74 (.cons (.var 0) (.cons (.var 2) .nil))) (.cbl true) [.val (tr w ms),.val (F y)] (.ok (ms.map Mv.d))=.ok (.list ((ms.map (Mv.mv y)).map Mv.d)):=by
  rw [JBd (by rw [q_g];omega),JCj (p:=fun _=>true) (g:=fun a=>(a.mv y).d) (fun a ha=>?_)]
  ·rw [List.map_map,List.filter_eq_self.mpr (fun _ _=>rfl)]
   rfl
  ·have zb:Z 200 a.b:=⟨(hok a ha).b⟩
   have e:run x tabA gloA sub (n+4) 74 [a.d,F y]=.ok (a.mv y).d:=JM8 (by omega) hj (by omega)
   rw [JBk]
   dsimp?! [fn,fg,e]
 have tt:op1D .toTup (.list ((ms.map (Mv.mv y)).map Mv.d))=.ok (.tuple ((ms.map (Mv.mv y)).map Mv.d)):=rfl
 have ee:tr w (ms.map (Mv.mv y))=.tuple [F w,.tuple ((ms.map (Mv.mv y)).map Mv.d)]:=rfl
 rw [ee]
 generalize (ms.map (Mv.mv y)).map Mv.d=es at *
 generalize ms.map Mv.d=ds at *
 generalize tr w ms=T at *
 dsimp?! [JJu,JKK,fn,fg,G93,G94,t0,t1,it,cp,tt]
end
end VI.VP
end
section
namespace VI.VP
open PySem Fr
section
variable {y t:Rat} {a:Mv} {ms:List Mv} {w:Rat}
theorem JNy:(t+y - (a.b+y)) / a.l=(t - a.b) / a.l:=by
 rw [show t+y - (a.b+y)=t - a.b by grind]
theorem mv_w:(a.mv y).w (t+y)=a.w t:=by
 unfold Mv.w Mv.mv wo
 simp only
 rw [JNy]
theorem lt_mv {p q:Rat}:(p+y<q+y)=(p<q):=by apply propext;constructor<;>intro h<;>grind
theorem bg_mv:bg (t+y) (ms.map (Mv.mv y))=(bg t ms).map (Mv.mv y):=by
 unfold bg
 rw [List.filter_map]
 congr 1
 refine List.filter_congr fun a _=>?_
 simp only [Function.comp,Mv.mv,lt_mv]
theorem JJc {f:Mv->Mv} {ms:List Mv}:(ms.map f).getLast? = ms.getLast?.map f:=by simp
theorem JPx:wOf w (ms.map (Mv.mv y)) (t+y)=wOf w ms t:=by
 unfold wOf
 rw [bg_mv,JJc]
 cases (bg t ms).getLast? with
 | none=>rfl
 | some a=>exact mv_w
end
end VI.VP
end
section
namespace VI.VP
open PySem Fr
inductive Pl where
 | wait (q:Rat)
 | step (o:Bool) (g q:Rat) (k:Kd)
 | thn (a b:Pl)
 | agn (c:Nat) (a:Pl)
noncomputable def gw (o:Bool):Str:=if o=true then "go" else "by"
theorem gwF:gw false="by":=rfl
theorem gwT:gw true="go":=rfl
noncomputable def Pl.d:Pl->D
 | .wait q=>.tuple [.str "wait",F q]
 | .step o g q k=>.tuple [.str (gw o),F g,F q,.str k.str]
 | .thn a b=>.tuple [.str "then",a.d,b.d]
 | .agn c a=>.tuple [.str "again",.int c,a.d]
noncomputable def Pl.dep:Pl->Nat
 | .wait _=>1
 | .step ..=>1
 | .thn a b=>max a.dep b.dep+1
 | .agn _ a=>a.dep+1
noncomputable def Pl.Ok:Pl->Prop
 | .wait q=>0<q
 | .step _ _ q _=>0<q
 | .thn a b=>a.Ok/\b.Ok
 | .agn c a=>c<=4/\a.Ok
noncomputable def Pl.steps:Pl->List Pl
 | .thn a b=>a.steps++b.steps
 | .agn c a=>(List.replicate c a.steps).flatten
 | p=>[p]
theorem JA4 {a b:Str} {k:Bool} (ha:shaped (.str a)=true) (hb:shaped (.str b)=true) (h:(a==b)=k):cmpD .Eq (.str a) (.str b)=.ok (.bool k):=by
 simp only [cmpD,ha,hb,Bool.and_self,if_true,PyData.eqv,h]
theorem h_go:shaped (.str "go")=true:=by decide +kernel
theorem h_by:shaped (.str "by")=true:=by decide +kernel
theorem JBu:shaped (.str "wait")=true:=by decide +kernel
theorem JBv:shaped (.str "then")=true:=by decide +kernel
theorem JBN:shaped (.str "again")=true:=by decide +kernel
theorem JMy:cmpD .Eq (.str "go") (.str "go")=.ok (.bool true):=JA4 h_go h_go (by decide +kernel)
theorem JIE:cmpD .Eq (.str "go") (.str "by")=.ok (.bool false):=JA4 h_go h_by (by decide +kernel)
theorem JB8:cmpD .Eq (.str "go") (.str "wait")=.ok (.bool false):=JA4 h_go JBu (by decide +kernel)
theorem JEX:cmpD .Eq (.str "go") (.str "then")=.ok (.bool false):=JA4 h_go JBv (by decide +kernel)
theorem JDc:cmpD .Eq (.str "go") (.str "again")=.ok (.bool false):=JA4 h_go JBN (by decide +kernel)
theorem JNn:cmpD .Eq (.str "by") (.str "go")=.ok (.bool false):=JA4 h_by h_go (by decide +kernel)
theorem JI9:cmpD .Eq (.str "by") (.str "by")=.ok (.bool true):=JA4 h_by h_by (by decide +kernel)
theorem JCI:cmpD .Eq (.str "by") (.str "wait")=.ok (.bool false):=JA4 h_by JBu (by decide +kernel)
theorem JEu:cmpD .Eq (.str "by") (.str "then")=.ok (.bool false):=JA4 h_by JBv (by decide +kernel)
theorem JDa:cmpD .Eq (.str "by") (.str "again")=.ok (.bool false):=JA4 h_by JBN (by decide +kernel)
theorem JJU:cmpD .Eq (.str "wait") (.str "go")=.ok (.bool false):=JA4 JBu h_go (by decide +kernel)
theorem JHi:cmpD .Eq (.str "wait") (.str "by")=.ok (.bool false):=JA4 JBu h_by (by decide +kernel)
theorem JBW:cmpD .Eq (.str "wait") (.str "wait")=.ok (.bool true):=JA4 JBu JBu (by decide +kernel)
theorem JDD:cmpD .Eq (.str "wait") (.str "then")=.ok (.bool false):=JA4 JBu JBv (by decide +kernel)
theorem JCb:cmpD .Eq (.str "wait") (.str "again")=.ok (.bool false):=JA4 JBu JBN (by decide +kernel)
theorem JCt:cmpD .Eq (.str "then") (.str "go")=.ok (.bool false):=JA4 JBv h_go (by decide +kernel)
theorem JC4:cmpD .Eq (.str "then") (.str "by")=.ok (.bool false):=JA4 JBv h_by (by decide +kernel)
theorem JB0:cmpD .Eq (.str "then") (.str "wait")=.ok (.bool false):=JA4 JBv JBu (by decide +kernel)
theorem JBY:cmpD .Eq (.str "then") (.str "then")=.ok (.bool true):=JA4 JBv JBv (by decide +kernel)
theorem JBi:cmpD .Eq (.str "then") (.str "again")=.ok (.bool false):=JA4 JBv JBN (by decide +kernel)
theorem JG4:cmpD .Eq (.str "again") (.str "go")=.ok (.bool false):=JA4 JBN h_go (by decide +kernel)
theorem JG0:cmpD .Eq (.str "again") (.str "by")=.ok (.bool false):=JA4 JBN h_by (by decide +kernel)
theorem JEv:cmpD .Eq (.str "again") (.str "wait")=.ok (.bool false):=JA4 JBN JBu (by decide +kernel)
theorem JCY:cmpD .Eq (.str "again") (.str "then")=.ok (.bool false):=JA4 JBN JBv (by decide +kernel)
theorem JCC:cmpD .Eq (.str "again") (.str "again")=.ok (.bool true):=JA4 JBN JBN (by decide +kernel)
theorem G151:gloA 151=.ok (.int 5):=rfl
theorem G152:gloA 152=.ok (.int 4):=rfl
theorem t20 {a b:D}:idxD (.tuple [a,b]) (.int 0)=.ok a:=rfl
theorem t21 {a b:D}:idxD (.tuple [a,b]) (.int 1)=.ok b:=rfl
theorem t30 {a b c:D}:idxD (.tuple [a,b,c]) (.int 0)=.ok a:=rfl
theorem t31 {a b c:D}:idxD (.tuple [a,b,c]) (.int 1)=.ok b:=rfl
theorem t32 {a b c:D}:idxD (.tuple [a,b,c]) (.int 2)=.ok c:=rfl
theorem t40 {a b c e:D}:idxD (.tuple [a,b,c,e]) (.int 0)=.ok a:=rfl
theorem t41 {a b c e:D}:idxD (.tuple [a,b,c,e]) (.int 1)=.ok b:=rfl
theorem t42 {a b c e:D}:idxD (.tuple [a,b,c,e]) (.int 2)=.ok c:=rfl
theorem t43 {a b c e:D}:idxD (.tuple [a,b,c,e]) (.int 3)=.ok e:=rfl
theorem len2' {a b:D}:(([a,b].length:Nat):Int)=2:=rfl
theorem JJt {a b c:D}:(([a,b,c].length:Nat):Int)=3:=rfl
theorem JPd {a b c e:D}:(([a,b,c,e].length:Nat):Int)=4:=rfl
theorem n2 {a b:D}:bltD .len [.tuple [a,b]]=.ok (.int 2):=rfl
theorem n3 {a b c:D}:bltD .len [.tuple [a,b,c]]=.ok (.int 3):=rfl
theorem n4 {a b c e:D}:bltD .len [.tuple [a,b,c,e]]=.ok (.int 4):=rfl
theorem JNo {sub:Nat->Nat->Bool} {i:Int}:isiD sub (.int i) .int=.ok (.bool true):=rfl
theorem JKd {sub:Nat->Nat->Bool} {i:Int}:isiD sub (.int i) .bool=.ok (.bool false):=rfl
theorem Pl.dep_pos:∀p:Pl,1<=p.dep:=by
 intro p
 cases p<;>simp only [Pl.dep]<;>omega
section
variable {x:Bool} {sub:Nat->Nat->Bool} {m:Nat}
theorem JP3 {i:Int} (hm:1<=m):run x tabA gloA sub m 23 [.int i]=.ok (.bool true):=by
 obtain ⟨n,rfl⟩:=JAD hm
 rw [JAB (n:=n) (show tabA 23=some d_23 from rfl),JAA rfl]
 dsimp?! [d_23,b_23,JNo,JKd,Bool.not_false]
theorem JPU {i:Int} (hm:2<=m):run x tabA gloA sub m 142 [.int i]=.ok (.bool (decide (0<=i/\i<=4))):=by
 obtain ⟨n,rfl⟩:=JAD hm
 rw [JAB (n:=n+1) (show tabA 142=some JIQ from rfl),JAA rfl]
 by_cases h:0<=i
 ·have e:decide (0<=i/\i<=4)=decide (i<=4):=by simp [h]
  rw [e]
  dsimp?! [JIQ,JIi,JP3,G152,h,decide_true]
 ·have e:decide (0<=i/\i<=4)=false:=by simp [h]
  rw [e]
  dsimp?! [JIQ,JIi,JP3,G152,h,decide_false]
theorem JMs:∀(p:Pl) {m:Nat} (deep:Int),p.Ok->0<=deep->p.dep+4<=m->run x tabA gloA sub m 141 [p.d,.int deep]=.ok (.bool (decide ((p.dep:Int)<=deep))):=by
 intro p
 induction p with
 | wait q =>
  intro m deep ok h0 hm
  obtain ⟨n,rfl⟩:=JAD (k:=5) hm
  rw [JAB (n:=n+4) (show tabA 141=some JBg from rfl),JAA rfl]
  have oq:0<q:=ok
  by_cases hd:deep=0
  ·subst hd
   dsimp?! [JBg,JB5,Pl.d,Pl.dep,decide_true]
   rfl
  ·have r:decide (((Pl.wait q).dep:Int)<=deep)=true:=decide_eq_true (by simp only [Pl.dep];omega)
   rw [r]
   dsimp?! [JBg,JB5,Pl.d,hd,decide_false,decide_true,JB3,Bool.not_true,n2,len2',Int.reduceEq,t20,t21,JJU,JHi,JBW,JDD,JCb,JN3,oq]
 | step o g q k =>
  intro m deep ok h0 hm
  obtain ⟨n,rfl⟩:=JAD (k:=5) hm
  rw [JAB (n:=n+4) (show tabA 141=some JBg from rfl),JAA rfl]
  have oq:0<q:=ok
  by_cases hd:deep=0
  ·subst hd
   dsimp?! [JBg,JB5,Pl.d,Pl.dep,decide_true]
   rfl
  ·have r:decide (((Pl.step o g q k).dep:Int)<=deep)=true:=decide_eq_true (by simp only [Pl.dep];omega)
   rw [r]
   cases o
   ·dsimp?! [JBg,JB5,Pl.d,gwF,gwT,hd,decide_false,decide_true,JB3,Bool.not_true,n4,JPd,Int.reduceEq,t40,t41,t42,t43,JNn,JI9,JCI,JEu,JDa,JMq,JN3,JOp,oq]
   ·dsimp?! [JBg,JB5,Pl.d,gwF,gwT,hd,decide_false,decide_true,JB3,Bool.not_true,n4,JPd,Int.reduceEq,t40,t41,t42,t43,JMy,JIE,JB8,JEX,JDc,JMq,JN3,JOp,oq]
 | thn a b iha ihb =>
  intro m deep ok h0 hm
  obtain ⟨n,rfl⟩:=JAD (k:=5) (m:=m) (by have:=(Pl.thn a b).dep_pos;omega)
  rw [JAB (n:=n+4) (show tabA 141=some JBg from rfl),JAA rfl]
  simp only [Pl.dep] at hm
  by_cases hd:deep=0
  ·subst hd
   have r:decide (((Pl.thn a b).dep:Int)<=0)=false:=q_o (by have:=(Pl.thn a b).dep_pos;omega)
   rw [r]
   dsimp?! [JBg,JB5,Pl.d,decide_true]
  ·have ha:=iha (m:=n+4) (deep - 1) ok.1 (by omega) (by omega)
   have hb:=ihb (m:=n+4) (deep - 1) ok.2 (by omega) (by omega)
   generalize hda:a.d=da at *
   generalize hdb:b.d=db at *
   by_cases h1:(a.dep:Int)<=deep - 1
   ·by_cases h2:(b.dep:Int)<=deep - 1
    ·have r:decide (((Pl.thn a b).dep:Int)<=deep)=true:=decide_eq_true (by simp only [Pl.dep];omega)
     rw [r]
     dsimp?! [JBg,JB5,Pl.d,hda,hdb,hd,decide_false,decide_true,JB3,Bool.not_true,n3,JJt,Int.reduceEq,t30,t31,t32,JCt,JC4,JB0,JBY,JBi,ha,hb,h1,h2]
    ·have r:decide (((Pl.thn a b).dep:Int)<=deep)=false:=q_o (by simp only [Pl.dep];omega)
     rw [r]
     dsimp?! [JBg,JB5,Pl.d,hda,hdb,hd,decide_false,decide_true,JB3,Bool.not_true,n3,JJt,Int.reduceEq,t30,t31,t32,JCt,JC4,JB0,JBY,JBi,ha,hb,h1,h2]
   ·have r:decide (((Pl.thn a b).dep:Int)<=deep)=false:=q_o (by simp only [Pl.dep];omega)
    rw [r]
    dsimp?! [JBg,JB5,Pl.d,hda,hdb,hd,decide_false,decide_true,JB3,Bool.not_true,n3,JJt,Int.reduceEq,t30,t31,t32,JCt,JC4,JB0,JBY,JBi,ha,h1]
 | agn c a iha =>
  intro m deep ok h0 hm
  obtain ⟨n,rfl⟩:=JAD (k:=5) (m:=m) (by have:=(Pl.agn c a).dep_pos;omega)
  rw [JAB (n:=n+4) (show tabA 141=some JBg from rfl),JAA rfl]
  simp only [Pl.dep] at hm
  by_cases hd:deep=0
  ·subst hd
   have r:decide (((Pl.agn c a).dep:Int)<=0)=false:=q_o (by have:=(Pl.agn c a).dep_pos;omega)
   rw [r]
   dsimp?! [JBg,JB5,Pl.d,decide_true]
  ·have ha:=iha (m:=n+4) (deep - 1) ok.2 (by omega) (by omega)
   have hc:decide ((0:Int)<=c/\(c:Int)<=4)=true:=decide_eq_true (by have:=ok.1;omega)
   generalize hda:a.d=da at *
   have r:decide (((Pl.agn c a).dep:Int)<=deep)=decide ((a.dep:Int)<=deep - 1):=by
    simp only [Pl.dep]
    apply decide_eq_decide.mpr
    omega
   rw [r]
   dsimp?! [JBg,JB5,Pl.d,hda,hd,decide_false,decide_true,JB3,Bool.not_true,n3,JJt,Int.reduceEq,t30,t31,t32,JG4,JG0,JEv,JCY,JCC,JPU,ha,hc]
theorem JMf (p:Pl) (ok:p.Ok) (hm:p.dep+5<=m):run x tabA gloA sub m 140 [p.d]=.ok (.bool (decide (p.dep<=5))):=by
 obtain ⟨n,rfl⟩:=JAD (k:=1) (m:=m) (by omega)
 rw [JAB (n:=n) (show tabA 140=some JJZ from rfl),JAA rfl]
 have h:=JMs (x:=x) (sub:=sub) p (m:=n) 5 ok (by omega) (by omega)
 have r:decide ((p.dep:Int)<=5)=decide (p.dep<=5):=decide_eq_decide.mpr (by omega)
 rw [r] at h
 generalize p.d=d at *
 dsimp?! [JJZ,JKo,G151,h]
end
end VI.VP
end
section
namespace VI.VP
open PySem Fr
theorem JDw:∀p:Pl,p.Ok->p.steps.length<=4 ^ p.dep:=by
 intro p
 induction p with
 | wait q=>intro _;simp [Pl.steps,Pl.dep]
 | step o g q k=>intro _;simp [Pl.steps,Pl.dep]
 | thn a b ha hb =>
  intro ok
  simp only [Pl.steps,Pl.dep,q_u]
  have h1:=ha ok.1
  have h2:=hb ok.2
  have h3:4 ^ a.dep<=4 ^ max a.dep b.dep:=Nat.pow_le_pow_right (by decide) (by omega)
  have h4:4 ^ b.dep<=4 ^ max a.dep b.dep:=Nat.pow_le_pow_right (by decide) (by omega)
  rw [Nat.pow_succ]
  omega
 | agn c a ha =>
  intro ok
  simp only [Pl.steps,Pl.dep,List.length_flatten,List.map_replicate,List.sum_replicate_nat]
  have h1:=ha ok.2
  rw [Nat.pow_succ,Nat.mul_comm]
  exact Nat.mul_le_mul h1 ok.1
theorem JEE {p:Pl} (ok:p.Ok) (hd:p.dep<=8):p.steps.length<=65536:=Nat.le_trans (JDw p ok) (Nat.le_trans (Nat.pow_le_pow_right (by decide) hd) (by decide))
noncomputable def Pl.one:Pl->Bool
 | .wait _=>true
 | .step ..=>true
 | _=>false
noncomputable def Pl.q:Pl->Rat
 | .wait q=>q
 | .step _ _ q _=>q
 | _=>0
theorem addL {xs ys:List D} (h:xs.length+ys.length<=16777216):binD .Add (.list xs) (.list ys)=.ok (.list (xs++ys)):=by
 simp only [binD,h,if_true]
theorem mulL {xs:List D} {c:Nat} (hc:c<=1000) (h:xs.length*c<=16777216):binD .Mult (.list xs) (.int c)=.ok (.list (List.replicate c xs).flatten):=by
 simp only [binD,Int.toNat_natCast]
 rw [if_pos ⟨by omega,by omega,h⟩]
theorem JNq {c:Nat} {xs:List Pl}:(List.replicate c (xs.map Pl.d)).flatten=((List.replicate c xs).flatten).map Pl.d:=by
 simp [List.map_flatten,List.map_replicate]
section
variable {x:Bool} {sub:Nat->Nat->Bool} {m:Nat}
theorem JI3:∀(p:Pl) {m:Nat},p.Ok->p.dep<=8->p.dep<=m->run x tabA gloA sub m 143 [p.d]=.ok (.list (p.steps.map Pl.d)):=by
 intro p
 induction p with
 | wait q =>
  intro m ok hd hm
  obtain ⟨n,rfl⟩:=JAD (k:=1) hm
  rw [JAB (n:=n) (show tabA 143=some JDZ from rfl),JAA rfl]
  dsimp?! [JDZ,JFF,Pl.d,Pl.steps,t20,JDD,JCb]
 | step o g q k =>
  intro m ok hd hm
  obtain ⟨n,rfl⟩:=JAD (k:=1) hm
  rw [JAB (n:=n) (show tabA 143=some JDZ from rfl),JAA rfl]
  cases o<;>dsimp?! [JDZ,JFF,Pl.d,Pl.steps,gwF,gwT,t40,JEX,JDc,JEu,JDa]
 | thn a b iha ihb =>
  intro m ok hd hm
  have s1:=JEE (p:=a) ok.1 (by simp only [Pl.dep] at hd;omega)
  have s2:=JEE (p:=b) ok.2 (by simp only [Pl.dep] at hd;omega)
  simp only [Pl.dep] at hd hm
  obtain ⟨n,rfl⟩:=JAD (k:=1) (m:=m) (by omega)
  rw [JAB (n:=n) (show tabA 143=some JDZ from rfl),JAA rfl]
  have ha:=iha (m:=n) ok.1 (by omega) (by omega)
  have hb:=ihb (m:=n) ok.2 (by omega) (by omega)
  have hs:binD .Add (.list (a.steps.map Pl.d)) (.list (b.steps.map Pl.d))=.ok (.list ((Pl.thn a b).steps.map Pl.d)):=by
   rw [addL (by simp only [q_g];omega)]
   simp only [Pl.steps,List.map_append]
  generalize (Pl.thn a b).steps.map Pl.d=rs at *
  generalize hda:a.d=da at *
  generalize hdb:b.d=db at *
  generalize a.steps.map Pl.d=xs at *
  generalize b.steps.map Pl.d=ys at *
  dsimp?! [JDZ,JFF,Pl.d,hda,hdb,t30,t31,t32,JBY,ha,hb,hs]
 | agn c a iha =>
  intro m ok hd hm
  have s1:=JEE (p:=a) ok.2 (by simp only [Pl.dep] at hd;omega)
  simp only [Pl.dep] at hd hm
  obtain ⟨n,rfl⟩:=JAD (k:=1) (m:=m) (by omega)
  rw [JAB (n:=n) (show tabA 143=some JDZ from rfl),JAA rfl]
  have ha:=iha (m:=n) ok.2 (by omega) (by omega)
  have hc:=ok.1
  have hs:binD .Mult (.list (a.steps.map Pl.d)) (.int c)=.ok (.list ((Pl.agn c a).steps.map Pl.d)):=by
   rw [mulL (by omega) (by simp only [q_g];have:=Nat.mul_le_mul s1 hc;omega),JNq]
   rfl
  generalize (Pl.agn c a).steps.map Pl.d=rs at *
  generalize hda:a.d=da at *
  generalize a.steps.map Pl.d=xs at *
  dsimp?! [JDZ,JFF,Pl.d,hda,t30,t31,t32,JCY,JCC,ha,hs]
end
end VI.VP
end
section
namespace VI.VP
open PySem Fr
noncomputable def tot:List Rat->Rat->Rat
 | [],s=>s
 | q::r,s=>tot r (s+q)
theorem Tw.sz20 {B:Nat} {p:Rat} (h:Tw B p) (e:B<2 ^ 20):Sz 20 p:=by
 obtain ⟨z,hz,rfl⟩:=h
 exact Sz.of (by decide) (by omega) (by decide)
theorem JBE {α:Type} {f:D->R (Option D)} {c g:α->D}:∀ {xs:List α},(∀a∈xs,f (c a)=.ok (some (g a)))->JAs f (xs.map c)=.ok (xs.map g)
 | [],_=>rfl
 | a::xs,h=>by
  simp only [List.map_cons]
  unfold JAs
  rw [h a (by simp)]
  simp only
  rw [JBE fun y hy=>h y (by simp [hy])]
noncomputable def Pl.Sm:Pl->Prop
 | .wait q=>Small q
 | .step _ g q _=>Small g/\Small q
 | .thn a b=>a.Sm/\b.Sm
 | .agn _ a=>a.Sm
theorem JDR:∀p:Pl,∀s∈p.steps,s.one=true:=by
 intro p
 induction p with
 | wait q=>intro s h;simp only [Pl.steps,List.mem_singleton] at h;subst h;rfl
 | step o g q k=>intro s h;simp only [Pl.steps,List.mem_singleton] at h;subst h;rfl
 | thn a b ha hb =>
  intro s h
  simp only [Pl.steps,List.mem_append] at h
  rcases h with h | h
  ·exact ha s h
  ·exact hb s h
 | agn c a ha =>
  intro s h
  simp only [Pl.steps,List.mem_flatten,List.mem_replicate] at h
  obtain ⟨l,⟨_,rfl⟩,h⟩:=h
  exact ha s h
theorem JDU {P:Pl->Prop} (h:∀a b,P (.thn a b)->P a/\P b) (h2:∀c a,P (.agn c a)->P a):∀p:Pl,P p->∀s∈p.steps,P s:=by
 intro p
 induction p with
 | wait q=>intro hp s h;simp only [Pl.steps,List.mem_singleton] at h;subst h;exact hp
 | step o g q k=>intro hp s h;simp only [Pl.steps,List.mem_singleton] at h;subst h;exact hp
 | thn a b ha hb =>
  intro hp s hs
  simp only [Pl.steps,List.mem_append] at hs
  rcases hs with hs | hs
  ·exact ha (h a b hp).1 s hs
  ·exact hb (h a b hp).2 s hs
 | agn c a ha =>
  intro hp s hs
  simp only [Pl.steps,List.mem_flatten,List.mem_replicate] at hs
  obtain ⟨l,⟨_,rfl⟩,hs⟩:=hs
  exact ha (h2 c a hp) s hs
theorem Pl.Sm.q {s:Pl} (h:s.Sm) (o:s.one=true):Small s.q:=by
 cases s with
 | wait q=>exact h
 | step o g q k=>exact h.2
 | thn a b=>cases o
 | agn c a=>cases o
theorem JFL {p:Pl} (h:p.Sm):∀s∈p.steps,Small s.q:=fun s hs=>Pl.Sm.q (JDU (P:=Pl.Sm) (fun _ _ h=>h) (fun _ _ h=>h) p h s hs) (JDR p s hs)
section
variable {x:Bool} {sub:Nat->Nat->Bool} {m:Nat}
theorem JIm {p:Pl} (h:p.one=true) (hm:1<=m):run x tabA gloA sub m 144 [p.d]=.ok (F p.q):=by
 obtain ⟨n,rfl⟩:=JAD hm
 rw [JAB (n:=n) (show tabA 144=some JHN from rfl),JAA rfl]
 cases p with
 | wait q=>dsimp?! [JHN,JIo,Pl.d,Pl.q,t20,t21,JBW]
 | step o g q k=>cases o<;>dsimp?! [JHN,JIo,Pl.d,Pl.q,gwF,gwT,t40,t42,JB8,JCI]
 | thn a b=>cases h
 | agn c a=>cases h
noncomputable def JCT:S:=.cons (.asg 1 (.call 3 (.cons (.var 1) (.cons (.var 2) .nil)))) .nil
theorem q_all (qs:List Rat) (hq:∀q∈qs,Tw 72 q) (hl:qs.length<=10000) (hm:4<=m):run x tabA gloA sub m 179 [.list (qs.map F)]=.ok (F (tot qs 0)):=by
 obtain ⟨n,rfl⟩:=JAD hm
 rw [JAB (n:=n+3) (show tabA 179=some JHE from rfl),JAA rfl]
 obtain ⟨C,hC⟩:∃C:Cn,C=⟨run x tabA gloA sub (n+3),gloA,sub⟩:=⟨_,rfl⟩
 have fn:C.fn=run x tabA gloA sub (n+3):=by rw [hC]
 have fg:C.glo=gloA:=by rw [hC]
 rw [<-hC]
 have it:JAa (.list (qs.map F))=.ok (qs.map F):=rfl
 generalize hds:qs.map F=ds at *
 obtain ⟨δ',lp,r,s,y2,er,_,_,es,v2,eδ⟩:=JBn (C:=C) (i:=2) (b:=JCT)
  (Inv:=fun es δ=>∃(r:List Rat) (s:Rat) (y2:Sl),es=r.map F/\(∀q∈r,Tw 72 q)/\Tw (72*(10000 - r.length)) s/\(r.length<=10000/\tot r s=tot qs 0)/\Vs y2/\δ=[.val (.list ds),.val (F s),y2])
  (fun d es δ ⟨r,s,y2,er,hr,hs,ht,v2,e⟩=>by
    subst e
    cases r with
    | nil=>cases er
    | cons q r =>
     simp only [List.map_cons,List.cons.injEq] at er
     obtain ⟨rfl,rfl⟩:=er
     simp only [List.length_cons] at hs ht
     have tq:=hr q (by simp)
     have z1:Z 20 s:=⟨hs.sz20 (by omega)⟩
     have z2:Z 20 q:=⟨tq.sz20 (by omega)⟩
     refine ⟨[.val (.list ds),.val (F (s+q)),.val (F q)],.inl ?_,r,s+q,.val (F q),rfl,fun a h=>hr a (by simp [h]),(hs.add tq).mono (by omega),⟨by omega,ht.2⟩,rfl,rfl⟩
     dsimp?! [JCT,fn,fg])
  (ds:=ds) (δ:=[.val (.list ds),.val (F 0),.no])
  ⟨qs,0,.no,hds.symm,hq,⟨0,by omega,by rw [Rat.zero_divInt]⟩,⟨hl,rfl⟩,rfl,rfl⟩
 subst eδ
 cases r with
 | cons q r=>cases er
 | nil =>
  have es:s=tot qs 0:=es.2
  subst es
  simp only [JCT] at lp
  generalize tot qs 0=T at *
  dsimp?! [JHE,JIA,fn,fg,it,lp,JAi,JAw,JAj]
theorem JRV {p:Pl} (ok:p.Ok) (sm:p.Sm) (hd:p.dep<=5) (hm:p.dep+4<=m):run x tabA gloA sub m 180 [p.d]=.ok (F (tot (p.steps.map Pl.q) 0)):=by
 have h1:=p.dep_pos
 obtain ⟨n,rfl⟩:=JAD (k:=5) (m:=m) (by omega)
 rw [JAB (n:=n+4) (show tabA 180=some JKu from rfl),JAA rfl]
 have hl:p.steps.length<=1024:=Nat.le_trans (JDw p ok) (Nat.le_trans (Nat.pow_le_pow_right (by decide) hd) (by decide))
 have e1:=JI3 (x:=x) (sub:=sub) p (m:=n+4) ok (by omega) (by omega)
 have e2:=q_all (x:=x) (sub:=sub) (m:=n+4) (p.steps.map Pl.q) (fun q h=>by
  obtain ⟨s,hs,rfl⟩:=List.mem_map.mp h
  exact (JFL sm s hs).tw) (by simp only [q_g];omega) (by omega)
 obtain ⟨C,hC⟩:∃C:Cn,C=⟨run x tabA gloA sub (n+4),gloA,sub⟩:=⟨_,rfl⟩
 have fn:C.fn=run x tabA gloA sub (n+4):=by rw [hC]
 have fg:C.glo=gloA:=by rw [hC]
 rw [<-hC]
 have it:JAa (.list (p.steps.map Pl.d))=.ok (p.steps.map Pl.d):=rfl
 have cp:JCv C 0 (.call 144 (.cons (.var 0) .nil)) (.cbl true) [.val p.d] (.ok (p.steps.map Pl.d))=.ok (.list ((p.steps.map Pl.q).map F)):=by
  rw [JBd (by rw [q_g];omega),JBE (c:=Pl.d) (g:=fun s=>F s.q) (fun a ha=>?_),List.map_map]
  ·rfl
  ·rw [JBk]
   have h3:=JIm (x:=x) (sub:=sub) (m:=n+4) (JDR p a ha) (by omega)
   generalize a.d=ad at *
   dsimp?! [fn,fg,h3]
 generalize (p.steps.map Pl.q).map F=qs at *
 generalize p.steps.map Pl.d=ds at *
 generalize tot _ _=T at *
 generalize p.d=pd at *
 dsimp?! [JKu,JKx,fn,fg,e1,it,cp,e2]
end
end VI.VP
end
section
namespace VI.VP
open PySem Fr
noncomputable def pB:Nat->Int
 | 0=>900000
 | 1=>900000
 | 2=>299000
 | 3=>99000
 | _=>32000
theorem JNc {d:Nat} {a:Int} (hd:d<=3) (h1:1<=d) (h:a<=pB (d+1)):3*a+37<=pB d:=by
 have:d=1\/d=2\/d=3:=by omega
 rcases this with rfl | rfl | rfl<;>simp only [pB] at h ⊢<;>omega
theorem pB_le (d:Nat):pB d<=900000:=by
 unfold pB
 split<;>omega
section
variable {x:Bool} {sub:Nat->Nat->Bool} {m:Nat}
theorem JGH (ns:List Int):∀(d:Nat) {m:Nat} (at':Int),1<=d->d<=4->0<=at'->at'<=pB d->d+3<=m->∃p:Pl,p.Ok/\p.Sm/\p.dep<=d/\run x tabA gloA sub m 146 [sc ns,.int at',.int d]=.ok p.d
 | 0,_,_,h,_,_,_,_=>absurd h (by omega)
 | d+1,m,at',_,hd,h0,h1,hm=>by
  obtain ⟨n,rfl⟩:=JAD (k:=1) (m:=m) (by omega)
  rw [JAB (n:=n) (show tabA 146=some d_146 from rfl),JAA rfl]
  have hb:=pB_le (d+1)
  obtain ⟨w,w0,w1,hw⟩:=JGM (x:=x) (sub:=sub) (m:=n) ns at' 8 (by omega) (by omega) (by omega) (by omega)
  have e1:((d+1:Nat):Int) - 1=d:=by omega
  by_cases hs:d=0\/w<3
  ·obtain ⟨s,s0,s1,hs1⟩:=JGM (x:=x) (sub:=sub) (m:=n) ns (at'+1) 5 (by omega) (by omega) (by omega) (by omega)
   obtain ⟨q2,sq2,q20,h2⟩:=JGS (x:=x) (sub:=sub) (m:=n) ns (at'+2) (by omega) (by omega) (by omega)
   obtain ⟨g,sg,hg⟩:=JHc (x:=x) (sub:=sub) (m:=n) ns (at'+4) (by omega) (by omega) (by omega)
   obtain ⟨q,sq,q0,hq⟩:=JGS (x:=x) (sub:=sub) (m:=n) ns (at'+6) (by omega) (by omega) (by omega)
   obtain ⟨k,hk⟩:=JQD (x:=x) (sub:=sub) (m:=n) ns (at'+8) (by omega) (by omega) (by omega)
   have go:∀b:Bool,decide (((d+1:Nat):Int)=1)=b->(b=false->decide (w<3)=true)->∃p:Pl,p.Ok/\p.Sm/\p.dep<=d+1/\JHu x (exec ⟨run x tabA gloA sub n,gloA,sub⟩ d_146.body ([sc ns,.int at',.int ((d+1:Nat):Int)].map Sl.val++List.replicate (d_146.slots - d_146.par) Sl.no))=.ok p.d:=by
    intro b hb1 hb2
    by_cases z:s=0
    ·refine ⟨.wait q2,q20,sq2,by simp only [Pl.dep];omega,?_⟩
     cases b
     ·dsimp?! [d_146,JC7,hw,hb1,hb2 rfl,hs1,z,decide_true,h2,Pl.d]
     ·dsimp?! [d_146,JC7,hw,hb1,hs1,z,decide_true,h2,Pl.d]
    ·by_cases z3:s<3
     ·refine ⟨.step true g q k,q0,⟨sg,sq⟩,by simp only [Pl.dep];omega,?_⟩
      cases b
      ·dsimp?! [d_146,JC7,hw,hb1,hb2 rfl,hs1,z,z3,decide_true,decide_false,hg,hq,hk,Pl.d,gwT]
      ·dsimp?! [d_146,JC7,hw,hb1,hs1,z,z3,decide_true,decide_false,hg,hq,hk,Pl.d,gwT]
     ·refine ⟨.step false g q k,q0,⟨sg,sq⟩,by simp only [Pl.dep];omega,?_⟩
      cases b
      ·dsimp?! [d_146,JC7,hw,hb1,hb2 rfl,hs1,z,z3,decide_true,decide_false,hg,hq,hk,Pl.d,gwF]
      ·dsimp?! [d_146,JC7,hw,hb1,hs1,z,z3,decide_true,decide_false,hg,hq,hk,Pl.d,gwF]
   by_cases hd0:d=0
   ·exact go true (decide_eq_true (by omega)) (fun h=>by cases h)
   ·exact go false (q_o (by omega)) (fun _=>decide_eq_true (by omega))
  ·have hd1:decide (((d+1:Nat):Int)=1)=false:=q_o (by omega)
   have hw3:decide (w<3)=false:=q_o (by omega)
   have bm:binD .Mult (.int 3) (.int at')=.ok (.int (3*at')):=JDg (i:=3) (j:=at') (by decide)
   have hst:=JNc (d:=d) (a:=at') (by omega) (by omega) h1
   by_cases h6:w<6
   ·obtain ⟨a,oa,sa,da,ha⟩:=JGH ns d (m:=n) (3*at'+11) (by omega) (by omega) (by omega) (by omega) (by omega)
    obtain ⟨b,ob,sb,db,hb⟩:=JGH ns d (m:=n) (3*at'+37) (by omega) (by omega) (by omega) (by omega) (by omega)
    refine ⟨.thn a b,⟨oa,ob⟩,⟨sa,sb⟩,by simp only [Pl.dep];omega,?_⟩
    simp only [Pl.d]
    generalize a.d=ad at *
    generalize b.d=bd at *
    dsimp?! [d_146,JC7,hw,hd1,hw3,h6,decide_true,bm,e1,ha,hb]
   ·obtain ⟨c,c0,c1,hc⟩:=JGM (x:=x) (sub:=sub) (m:=n) ns (at'+9) 4 (by omega) (by omega) (by omega) (by omega)
    obtain ⟨a,oa,sa,da,ha⟩:=JGH ns d (m:=n) (3*at'+23) (by omega) (by omega) (by omega) (by omega) (by omega)
    have ec:((c.toNat:Nat):Int)=c:=by omega
    refine ⟨.agn c.toNat a,⟨by omega,oa⟩,sa,by simp only [Pl.dep];omega,?_⟩
    simp only [Pl.d,ec]
    generalize a.d=ad at *
    dsimp?! [d_146,JC7,hw,hd1,hw3,h6,decide_false,bm,e1,ha,hc]
end
end VI.VP
end
section
namespace VI.VP
open PySem Fr
section
variable {x:Bool} {sub:Nat->Nat->Bool} {m:Nat}
end
end VI.VP
end
section
namespace VI.VP
open PySem Fr
noncomputable def Pl.goal:Pl->Rat->Rat
 | .step o g _ _,h=>if o=true then g else h+g
 | _,h=>h
noncomputable def Pl.mv:Pl->Rat->Rat->List Mv
 | .step o g q k,h,t=>[⟨h,(Pl.step o g q k).goal h,t,q,some k,0,0⟩]
 | _,_,_=>[]
noncomputable def mvs:List Pl->Rat->Rat->List Mv
 | [],_,_=>[]
 | s::r,h,t=>s.mv h t++mvs r (s.goal h) (t+s.q)
noncomputable def endH:List Pl->Rat->Rat
 | [],h=>h
 | s::r,h=>endH r (s.goal h)
theorem JH4:∀(qs:List Rat) (s y:Rat),tot qs (s+y)=tot qs s+y
 | [],_,_=>rfl
 | q::r,s,y=>by
  simp only [tot]
  rw [show s+y+q=(s+q)+y by grind,JH4 r]
theorem JHf:∀(as bs:List Rat) (s:Rat),tot (as++bs) s=tot bs (tot as s)
 | [],_,_=>rfl
 | a::r,bs,s=>by simp only [List.cons_append,tot];exact JHf r bs _
theorem mv_mv (s:Pl) (h t y:Rat):(s.mv h t).map (Mv.mv y)=s.mv h (t+y):=by cases s<;>rfl
theorem JEV:∀(ss:List Pl) (h t y:Rat),(mvs ss h t).map (Mv.mv y)=mvs ss h (t+y)
 | [],_,_,_=>rfl
 | s::r,h,t,y=>by
  simp only [mvs,List.map_append,mv_mv,JEV r]
  rw [show t+s.q+y=t+y+s.q by grind]
theorem JBj:∀(ss:List Pl) (h t:Rat),JGr h (mvs ss h t)=endH ss h
 | [],_,_=>rfl
 | .wait q::r,h,t=>by simp only [mvs,Pl.mv,List.nil_append,endH];exact JBj r _ _
 | .step o g q k::r,h,t=>by simp only [mvs,Pl.mv,List.cons_append,List.nil_append,endH,JGr];exact JBj r _ _
 | .thn a b::r,h,t=>by simp only [mvs,Pl.mv,List.nil_append,endH];exact JBj r _ _
 | .agn c a::r,h,t=>by simp only [mvs,Pl.mv,List.nil_append,endH];exact JBj r _ _
theorem JJK:∀(ss:List Pl) (h t:Rat),(mvs ss h t).length<=ss.length
 | [],_,_=>q_t _
 | s::r,h,t=>by
  have:=JJK r (s.goal h) (t+s.q)
  have:(s.mv h t).length<=1:=by cases s<;>simp [Pl.mv]
  simp only [mvs,q_u,List.length_cons]
  omega
noncomputable def Sts (ss:List Pl):Prop:=∀a∈ss,a.one=true/\a.Sm/\a.Ok
theorem Sts.of {p:Pl} (ok:p.Ok) (sm:p.Sm):Sts p.steps:=fun s hs=>⟨JDR p s hs,JDU (P:=Pl.Sm) (fun _ _ h=>h) (fun _ _ h=>h) p sm s hs,JDU (P:=Pl.Ok) (fun _ _ h=>h) (fun _ _ h=>h.2) p ok s hs⟩
theorem Sts.tl {a:Pl} {r:List Pl} (h:Sts (a::r)):Sts r:=fun b hb=>h b (by simp [hb])
theorem JCw {s:Pl} {A:Nat} {h:Rat} (o1:s.one=true) (sm:s.Sm) (hA:Tw A h):Tw (A+72) (s.goal h):=by
 cases s with
 | wait q=>exact hA.mono (by omega)
 | step o g q k =>
  simp only [Pl.goal]
  split
  ·exact sm.1.tw.mono (by omega)
  ·exact hA.add sm.1.tw
 | thn a b=>cases o1
 | agn c a=>cases o1
theorem q_pos {s:Pl} (o1:s.one=true) (ok:s.Ok):0<s.q:=by
 cases s with
 | wait q=>exact ok
 | step o g q k=>exact ok
 | thn a b=>cases o1
 | agn c a=>cases o1
theorem JMT:∀ {ss:List Pl} {A:Nat} {h t:Rat},Sts ss->Tw A h->Tw A t->A+72*ss.length<2 ^ 20->∀a∈mvs ss h t,a.Ok
 | [],_,_,_,_,_,_,_=>fun a ha=>by cases ha
 | s::r,A,h,t,hs,hh,ht,hl=>fun a ha=>by
  obtain ⟨o1,sm,ok⟩:=hs s (by simp)
  simp only [List.length_cons] at hl
  simp only [mvs,List.mem_append] at ha
  rcases ha with ha | ha
  ·cases s with
   | step o g q k =>
    simp only [Pl.mv,List.mem_singleton] at ha
    subst ha
    have z:Sz 5 q:=sm.2.sz
    have z0:Sz 20 (0:Rat):=⟨by decide,by decide⟩
    exact .of ok (fun _=>⟨rfl,rfl⟩) (hh.sz20 (by omega)) ((JCw (s:=.step o g q k) rfl sm hh).sz20 (by omega)) ((ht.sz20 (by omega)).mono (by omega)) (z.mono (by omega)) z0 z0
   | wait q=>cases ha
   | thn a b=>cases ha
   | agn c a=>cases ha
  ·exact JMT hs.tl (JCw o1 sm hh) (ht.add (Pl.Sm.q sm o1).tw) (by omega) a ha
theorem appOk {i:Nat} {ds:List D} {e:E} {x:D} {δ:Env} (h:ds.length<16777216) (hn:JAL x=true):JBh i ds e x δ=.nx (δ.set i (.own (.list (ds++[x])))):=by
 simp only [JBh,h,if_true,hn,Bool.not_true,Bool.and_false,q_v,if_false]
section
variable {x:Bool} {sub:Nat->Nat->Bool} {m:Nat}
theorem s_ne {a b:Str} {k:Bool} (h:cmpD .Eq (.str a) (.str b)=.ok (.bool k)):cmpD .NotEq (.str a) (.str b)=.ok (.bool (!k)):=by
 simp only [cmpD] at h ⊢
 split at h
 ·rename_i z
  simp only [R.ok.injEq,PyData.bool.injEq] at h
  rw [if_pos z,h]
 ·cases h
theorem JQA {s:Pl} {h:Rat} {i:Nat} (o1:s.one=true) (sm:s.Sm) [Z i h] (hi:i<=400) (hm:4<=m):run x tabA gloA sub m 154 [s.d,F h]=.ok (F (s.goal h)):=by
 obtain ⟨n,rfl⟩:=JAD hm
 rw [JAB (n:=n+3) (show tabA 154=some JHA from rfl),JAA rfl]
 cases s with
 | wait q=>dsimp?! [JHA,JHB,Pl.d,Pl.goal,t20,JBW]
 | step o g q k =>
  have zg:Z 5 g:=sm.1.Z
  cases o
  ·dsimp?! [JHA,JHB,Pl.d,Pl.goal,gwF,t40,t41,JCI,JI9]
  ·dsimp?! [JHA,JHB,Pl.d,Pl.goal,gwT,t40,t41,JB8,JIE]
 | thn a b=>cases o1
 | agn c a=>cases o1
theorem JGO {d:D} {n:Nat} (h:run x tabA gloA sub n 140 [d]=.ok (.bool true)):run x tabA gloA sub (n+1) 153 [d]=.ok .none:=by
 rw [JAB (n:=n) (show tabA 153=some JJW from rfl),JAA rfl]
 dsimp?! [JJW,JJY,h,Bool.not_true]
noncomputable def JKc:S:=match JEN with
 | .cons _ (.cons _ (.cons _ (.cons _ (.cons (.for1 _ _ b) _))))=>b
 | _=>.nil
theorem JD3 {p:Pl} {w t:Rat} (ok:p.Ok) (sm:p.Sm) (hd:p.dep<=5) (hl:p.steps.length<=900) (hw:Tw 20000 w) (ht:Tw 20000 t) (hm:12<=m):run x tabA gloA sub m 155 [p.d,F w,F t]=.ok (tr w (mvs p.steps w t)):=by
 obtain ⟨n,rfl⟩:=JAD hm
 rw [JAB (n:=n+11) (show tabA 155=some JKW from rfl),JAA rfl]
 have hn:run x tabA gloA sub (n+11) 153 [p.d]=.ok .none:=JGO (n:=n+10) (by rw [JMf p ok (by omega),decide_eq_true hd])
 have hs:=JI3 (x:=x) (sub:=sub) p (m:=n+11) ok (by omega) (by omega)
 obtain ⟨C,hC⟩:∃C:Cn,C=⟨run x tabA gloA sub (n+11),gloA,sub⟩:=⟨_,rfl⟩
 have fn:C.fn=run x tabA gloA sub (n+11):=by rw [hC]
 have fg:C.glo=gloA:=by rw [hC]
 rw [<-hC]
 have it:JAa (.list (p.steps.map Pl.d))=.ok (p.steps.map Pl.d):=rfl
 obtain ⟨δ',lp,r,acc,h',t',y6,y7,er,_,_,_,_,ea,v6,v7,eδ⟩:=JBn (C:=C) (i:=6) (b:=JKc)
  (Inv:=fun es δ=>∃(r:List Pl) (acc:List Mv) (h u:Rat) (y6 y7:Sl),es=r.map Pl.d/\Sts r/\Tw (20000+72*(900 - r.length)) h/\Tw (20000+72*(900 - r.length)) u/\(r.length<=900/\acc.length+r.length<=900)/\acc++mvs r h u=mvs p.steps w t/\Vs y6/\Vs y7/\δ=[.val p.d,.val (F w),.val (F t),.own (.list (acc.map Mv.d)),.val (F h),.val (F u),y6,y7])
  (fun d es δ ⟨r,acc,h,u,y6,y7,er,sr,hh,hu,hl,ha,v6,v7,e⟩=>by
    subst e
    cases r with
    | nil=>cases er
    | cons a r =>
     simp only [List.map_cons,List.cons.injEq] at er
     obtain ⟨rfl,rfl⟩:=er
     simp only [List.length_cons] at hh hu hl
     obtain ⟨o1,sa,oa⟩:=sr a (by simp)
     have tq:=(Pl.Sm.q sa o1).tw
     have z1:Z 20 h:=⟨hh.sz20 (by omega)⟩
     have z2:Z 20 u:=⟨hu.sz20 (by omega)⟩
     have z3:Z 20 a.q:=⟨tq.sz20 (by omega)⟩
     have hg:=JQA (x:=x) (sub:=sub) (m:=n+11) (h:=h) o1 sa (by omega) (by omega)
     have hz:=JIm (x:=x) (sub:=sub) (m:=n+11) o1 (by omega)
     have tg:=JCw o1 sa hh
     have ln:(acc++a.mv h u).length+r.length<=900:=by
      have:(a.mv h u).length<=1:=by cases a<;>simp [Pl.mv]
      rw [q_u];omega
     refine ⟨[.val p.d,.val (F w),.val (F t),.own (.list ((acc++a.mv h u).map Mv.d)),.val (F (a.goal h)),.val (F (u+a.q)),.val a.d,.val (F (a.goal h))],.inl ?_,r,acc++a.mv h u,a.goal h,u+a.q,.val a.d,.val (F (a.goal h)),rfl,sr.tl,tg.mono (by omega),(hu.add tq).mono (by omega),⟨by omega,ln⟩,by rw [<-ha,mvs,List.append_assoc],rfl,rfl,rfl⟩
     generalize p.d=pd at *
     have wn:JAL a.d=true:=by
      cases a with
      | wait q=>rfl
      | step o g q k=>rfl
      | thn a b=>cases o1
      | agn c a=>cases o1
     cases a with
     | wait q =>
      have nw:=s_ne JBW
      simp only [Pl.mv,List.append_nil,Pl.goal] at hg ⊢
      simp only [Pl.q] at z3 hz ⊢
      simp only [Pl.d] at hg hz wn ⊢
      generalize acc.map Mv.d=ds at *
      dsimp?! [JKc,JEN,fn,fg,hg,hz,t20,nw,JAL,noF,Bool.not_true,Bool.and_false,v6.own,v7.own,JA2]
     | step o g q k =>
      have nw:cmpD .NotEq (.str (gw o)) (.str "wait")=.ok (.bool true):=by
       cases o
       ·exact s_ne JCI
       ·exact s_ne JB8
      have em:(acc++(Pl.step o g q k).mv h u).map Mv.d=acc.map Mv.d++[.tuple [F h,F ((Pl.step o g q k).goal h),F u,F q,.str k.str,.tuple [F 0,F 0]]]:=by
       simp only [Pl.mv,List.map_append,List.map_cons,List.map_nil]
       rfl
      have ap:∀δ:Env,∀e:E,JBh 3 (acc.map Mv.d) e (.tuple [F h,F ((Pl.step o g q k).goal h),F u,F q,.str k.str,.tuple [F 0,F 0]]) δ=.nx (δ.set 3 (.own (.list (acc.map Mv.d++[.tuple [F h,F ((Pl.step o g q k).goal h),F u,F q,.str k.str,.tuple [F 0,F 0]]])))):=fun δ e=>appOk (by rw [q_g];omega) rfl
      rw [em]
      generalize (Pl.step o g q k).goal h=gg at *
      simp only [Pl.q] at z3 hz ⊢
      simp only [Pl.d] at hg hz wn ⊢
      generalize acc.map Mv.d=ds at *
      dsimp?! [JKc,JEN,fn,fg,hg,hz,t40,t42,t43,nw,JNs,ap,JAL,noF,Bool.not_true,Bool.and_false,v6.own,v7.own,JA2]
     | thn a b=>cases o1
     | agn c a=>cases o1)
  (ds:=p.steps.map Pl.d) (δ:=[.val p.d,.val (F w),.val (F t),.own (.list []),.val (F w),.val (F t),.no,.no])
  ⟨p.steps,[],w,t,.no,.no,rfl,Sts.of ok sm,hw.mono (by omega),ht.mono (by omega),⟨hl,by simpa using hl⟩,by simp,rfl,rfl,rfl⟩
 subst eδ
 cases r with
 | cons q r=>cases er
 | nil =>
  simp only [mvs,List.append_nil] at ea
  subst ea
  simp only [JKc,JEN] at lp
  have tt:op1D .toTup (.list ((mvs p.steps w t).map Mv.d))=.ok (.tuple ((mvs p.steps w t).map Mv.d)):=rfl
  have ee:tr w (mvs p.steps w t)=.tuple [F w,.tuple ((mvs p.steps w t).map Mv.d)]:=rfl
  rw [ee]
  generalize (mvs p.steps w t).map Mv.d=ds at *
  generalize p.steps.map Pl.d=ps at *
  generalize p.d=pd at *
  dsimp?! [JKW,JEN,fn,fg,hn,hs,it,lp,tt,JAi,JAw,JDO,JAj,JA2,JE9,JEO,JDK,JFX,Nat.reduceAdd,Nat.reduceBEq,Bool.or_false,Bool.or_self,JAL,noF,Bool.not_true,Bool.and_false,v6.own,v7.own]
end
end VI.VP
end
section
namespace VI.VP
open PySem Fr
section
variable {x:Bool} {sub:Nat->Nat->Bool} {m:Nat}
theorem JQt (qs:List Rat) (hq:∀q∈qs,Sz 400 q) (ht:∀a b,qs=a++b->Sz 400 (tot a 0)) (hm:4<=m):run x tabA gloA sub m 179 [.list (qs.map F)]=.ok (F (tot qs 0)):=by
 obtain ⟨n,rfl⟩:=JAD hm
 rw [JAB (n:=n+3) (show tabA 179=some JHE from rfl),JAA rfl]
 obtain ⟨C,hC⟩:∃C:Cn,C=⟨run x tabA gloA sub (n+3),gloA,sub⟩:=⟨_,rfl⟩
 have fn:C.fn=run x tabA gloA sub (n+3):=by rw [hC]
 have fg:C.glo=gloA:=by rw [hC]
 rw [<-hC]
 have it:JAa (.list (qs.map F))=.ok (qs.map F):=rfl
 generalize hds:qs.map F=ds at *
 obtain ⟨δ',lp,a,r,y2,er,ea,v2,eδ⟩:=JBn (C:=C) (i:=2) (b:=JCT)
  (Inv:=fun es δ=>∃(a r:List Rat) (y2:Sl),es=r.map F/\qs=a++r/\Vs y2/\δ=[.val (.list ds),.val (F (tot a 0)),y2])
  (fun d es δ ⟨a,r,y2,er,ea,v2,e⟩=>by
    subst e
    cases r with
    | nil=>cases er
    | cons q r =>
     simp only [List.map_cons,List.cons.injEq] at er
     obtain ⟨rfl,rfl⟩:=er
     have z1:Z 400 (tot a 0):=⟨ht _ _ ea⟩
     have z2:Z 400 q:=⟨hq q (by rw [ea];simp)⟩
     have et:tot (a++[q]) 0=tot a 0+q:=by rw [JHf];rfl
     refine ⟨[.val (.list ds),.val (F (tot (a++[q]) 0)),.val (F q)],.inl ?_,a++[q],r,.val (F q),rfl,by rw [ea];simp,rfl,rfl⟩
     rw [et]
     generalize tot a 0=s at *
     dsimp?! [JCT,fn,fg])
  (ds:=ds) (δ:=[.val (.list ds),.val (F 0),.no])
  ⟨[],qs,.no,hds.symm,rfl,rfl,rfl⟩
 subst eδ
 cases r with
 | cons q r=>cases er
 | nil =>
  have ea:qs=a:=by simpa using ea
  subst ea
  simp only [JCT] at lp
  generalize tot qs 0=T at *
  dsimp?! [JHE,JIA,fn,fg,it,lp,JAi,JAw,JAj]
end
end VI.VP
end
section
namespace VI.VP
open PySem Fr
noncomputable def w1:D:=.tuple [.str "wait",F 1]
theorem n1 {a:D}:bltD .len [.tuple [a]]=.ok (.int 1):=rfl
section
variable {x:Bool} {sub:Nat->Nat->Bool} {m:Nat}
end
end VI.VP
end
section
namespace VI.VP
open PySem Fr
theorem JLn:∀ {qs:List Rat} {A:Nat} {s:Rat},(∀q∈qs,Tw 72 q)->Tw A s->Tw (A+72*qs.length) (tot qs s)
 | [],_,_,_,h=>h.mono (by simp)
 | q::r,A,s,hq,h=>(JLn (fun a ha=>hq a (by simp [ha])) (h.add (hq q (by simp)))).mono (by simp only [List.length_cons];omega)
theorem JIs:∀ {ss:List Pl} {A:Nat} {h:Rat},Sts ss->Tw A h->Tw (A+72*ss.length) (endH ss h)
 | [],_,_,_,h=>h.mono (by simp)
 | s::r,A,h,hs,hh=>by
  obtain ⟨o,sm,ok⟩:=hs s (by simp)
  exact (JIs hs.tl (JCw o sm hh)).mono (by simp only [List.length_cons];omega)
theorem Pl.no:∀p:Pl,JAL p.d=true:=by
 intro p
 induction p with
 | wait q=>rfl
 | step o g q k=>rfl
 | thn a b ha hb=>simp only [Pl.d,JAL,JA3,ha,hb,Bool.and_self]
 | agn c a ha=>simp only [Pl.d,JAL,JA3,ha,Bool.and_self]
theorem JQ4:∀ms:List Mv,JA3 (ms.map Mv.d)=true
 | []=>rfl
 | a::r=>by
  have:JAL a.d=true:=rfl
  simp only [List.map_cons,JA3,this,JQ4 r,Bool.and_self]
theorem JMJ (w:Rat) (ms:List Mv):JAL (tr w ms)=true:=by
 have:JAL (F w)=true:=rfl
 simp only [tr,JAL,JA3,this,JQ4,Bool.and_self]
section
variable {x:Bool} {sub:Nat->Nat->Bool} {m n:Nat}
theorem JQ8 {p:Pl} {w:Rat} (ok:p.Ok) (sm:p.Sm) (hd:p.dep<=5) (hl:p.steps.length<=900) (hw:Tw 20000 w) (hm:13<=m):run x tabA gloA sub m 156 [p.d,F w]=.ok (F (endH p.steps w)):=by
 obtain ⟨n,rfl⟩:=JAD hm
 rw [JAB (n:=n+12) (show tabA 156=some JJp from rfl),JAA rfl]
 have h1:=JD3 (x:=x) (sub:=sub) (m:=n+12) (t:=0) ok sm hd hl hw ⟨0,by omega,by rw [Rat.zero_divInt]⟩ (by omega)
 have h2:=JM5 (x:=x) (sub:=sub) (m:=n+12) (w:=w) (ms:=mvs p.steps w 0) (by omega)
 rw [JBj] at h2
 generalize tr w (mvs p.steps w 0)=T at *
 generalize p.d=pd at *
 dsimp?! [JJp,JJi,h1,h2]
end
end VI.VP
end
section
namespace VI.VP
open PySem Fr
noncomputable def bk:Pl->Rat->Pl
 | .step _ _ q k,h=>.step true h q k.turn
 | p,_=>p
theorem JFb (qs:List Rat) (s:Rat):tot qs s=tot qs 0+s:=by
 have:=JH4 qs 0 s
 rwa [show (0:Rat)+s=s by grind] at this
theorem JHW:∀ {qs:List Rat},(∀q∈qs,0<q)->0<=tot qs 0
 | [],_=>Rat.le_refl
 | q::r,h=>by
  have h1:=JHW (qs:=r) fun a ha=>h a (by simp [ha])
  have h2:=h q (by simp)
  simp only [tot]
  rw [JFb]
  grind
theorem JLp (t:Rat) (as bs:List Mv):bg t (as++bs)=bg t as++bg t bs:=by simp only [bg,List.filter_append]
theorem JKL {w t:Rat} {ms:List Mv} {a:Mv} (h:a.b<=t):wOf w (ms++[a]) t=a.w t:=by
 have e:bg t [a]=[a]:=by
  have:¬t<a.b:=by grind
  simp [bg,this]
 unfold wOf
 rw [JLp,e]
 simp
theorem JNw {w t:Rat} {a:Mv} (h:a.b<=t):wOf w [a] t=a.w t:=JKL (ms:=[]) h
theorem JKT {w w' t:Rat} {ms ns:List Mv} (h:wOf w ms t=w'):wOf w (ms++ns) t=wOf w' ns t:=by
 unfold wOf at h ⊢
 rw [JLp,List.getLast?_append]
 cases bg t ns with
 | nil=>simpa using h
 | cons a r =>
  obtain ⟨z,hz⟩:∃z,(a::r).getLast? = some z:=⟨_,List.getLast?_eq_some_getLast (by simp)⟩
  rw [hz]
  rfl
theorem JHV {l:Rat} (h:0<l):l / l=1:=by rw [Rat.div_def];exact Rat.mul_inv_cancel _ (by grind)
theorem JPL {l a:Rat} (h:0<l) (h2:l<=a):1<=a / l:=by
 by_cases e:l=a
 ·rw [<-e,JHV h];exact Rat.le_refl
 ·have:=d_gt (a:=a) (c:=l) (by grind) h
  grind
theorem JNL {s:Pl} {w t τ:Rat} (o:s.one=true) (ok:s.Ok) (h:t+s.q<=τ):wOf w (s.mv w t) τ=s.goal w:=by
 cases s with
 | wait q=>rfl
 | step o g q k =>
  have hq:0<q:=ok
  have h:t+q<=τ:=h
  simp only [Pl.mv]
  rw [JNw (a:=⟨w,(Pl.step _ g q k).goal w,t,q,some k,0,0⟩) (by show t<=τ;grind)]
  show wo w _ t q (some k) 0 0 τ=_
  rw [wo_p rfl,JRR _ (JPL hq (by grind))]
 | thn a b=>cases o
 | agn c a=>cases o
theorem JIP {s:Pl} {r:List Pl} {w t τ:Rat} (o:s.one=true) (ok:s.Ok) (h:t+s.q<=τ):wOf w (mvs (s::r) w t) τ=wOf (s.goal w) (mvs r (s.goal w) (t+s.q)) τ:=by
 simp only [mvs]
 exact JKT (JNL o ok h)
theorem JJQ:∀ {r:List Pl} {w t τ:Rat},Sts r->tot (r.map Pl.q) t<=τ->wOf w (mvs r w t) τ=endH r w
 | [],_,_,_,_,_=>rfl
 | s::r,w,t,τ,hr,h=>by
  obtain ⟨o,sm,ok⟩:=hr s (by simp)
  simp only [List.map_cons,tot] at h
  have h2:0<=tot (r.map Pl.q) 0:=JHW fun q hq=>by
   obtain ⟨a,ha,rfl⟩:=List.mem_map.mp hq
   exact q_pos (hr a (by simp [ha])).1 (hr a (by simp [ha])).2.2
  have h3:=h
  rw [JFb] at h3
  rw [JIP o ok (by grind)]
  exact JJQ hr.tl h
end VI.VP
end
section
namespace VI.VP
open PySem Fr
section
variable {x:Bool} {sub:Nat->Nat->Bool} {m:Nat}
end
end VI.VP
end
section
namespace VI.VP
open PySem Fr
noncomputable def Bk:Pl->Prop
 | .wait q=>Small q/\0<q
 | .step o g q _=>o=true/\Small q/\0<q/\Tw 5000 g
 | _=>False
theorem Bk.one {a:Pl} (h:Bk a):a.one=true:=by cases a<;>first | rfl | cases h
theorem Bk.ok {a:Pl} (h:Bk a):a.Ok:=by cases a<;>first | exact h.2 | exact h.2.2.1 | cases h
theorem Bk.q {a:Pl} (h:Bk a):Small a.q:=by cases a<;>first | exact h.1 | exact h.2.1 | cases h
theorem Tw.sz13 {B:Nat} {p:Rat} (h:Tw B p) (e:B<2 ^ 13):Sz 13 p:=by
 obtain ⟨z,hz,rfl⟩:=h
 exact Sz.of (by decide) (by omega) (by decide)
theorem JFN:∀ {ss:List Pl} {A:Nat} {h t:Rat},Sts ss->Tw A h->Tw A t->A+72*ss.length<2 ^ 13->∀a∈mvs ss h t,Sz 13 a.b/\Sz 5 a.l
 | [],_,_,_,_,_,_,_=>fun a ha=>by cases ha
 | s::r,A,h,t,hs,hh,ht,hl=>fun a ha=>by
  obtain ⟨o1,sm,ok⟩:=hs s (by simp)
  simp only [List.length_cons] at hl
  simp only [mvs,List.mem_append] at ha
  rcases ha with ha | ha
  ·cases s with
   | step o g q k =>
    simp only [Pl.mv,List.mem_singleton] at ha
    subst ha
    exact ⟨ht.sz13 (by omega),sm.2.sz⟩
   | wait q=>cases ha
   | thn a b=>cases ha
   | agn c a=>cases ha
  ·exact JFN hs.tl (JCw o1 sm hh) (ht.add (Pl.Sm.q sm o1).tw) (by omega) a ha
section
variable {x:Bool} {sub:Nat->Nat->Bool} {m n:Nat}
end
end VI.VP
end
section
namespace VI.VP
open PySem Fr PySem.W
noncomputable def en:List Pl->Rat->List Rat
 | [],_=>[]
 | s::r,t=>(t+s.q)::en r (t+s.q)
noncomputable def Pl.isW:Pl->Bool
 | .wait _=>true
 | _=>false
noncomputable def cntS (ws:List Str) (z:Str):Nat:=(ws.map PyData.str).countP fun y=>PyData.eqv y (.str z)
noncomputable def knd (ws:List Str):List D:=(JBw (dedS ws)).map fun z=>PyData.tuple [.str z,.int (cntS ws z:Nat)]
theorem JLl:∀ {xs:List D},(∀d∈xs,d.canLay0=true/\d.depth<=4/\PyData.eqv d d=true)->PyData.canLayAll0 xs=true/\PyData.depthAll xs<=4/\PyData.eqvAll xs xs=true
 | [],_=>⟨rfl,by simp [PyData.depthAll],by simp only [PyData.eqvAll]⟩
 | d::r,h=>by
  obtain ⟨h1,h2,h3⟩:=h d (by simp)
  obtain ⟨i1,i2,i3⟩:=JLl (xs:=r) fun a ha=>h a (by simp [ha])
  refine ⟨by simp only [PyData.canLayAll0,h1,i1,Bool.and_self],?_,by simp only [PyData.eqvAll,h3,i3,Bool.and_self]⟩
  simp only [PyData.depthAll]
  omega
theorem JPg {xs:List D} (h:∀d∈xs,d.canLay0=true/\d.depth<=4/\PyData.eqv d d=true):shaped (.list xs)=true/\PyData.eqvAll xs xs=true:=by
 obtain ⟨i1,i2,i3⟩:=JLl h
 refine ⟨?_,i3⟩
 unfold shaped
 rw [q_i]
 refine ⟨by simp only [PyData.canLay0,i1],decide_eq_true ?_⟩
 simp only [PyData.depth]
 omega
theorem gl_ne {xs:List D} (h:∀d∈xs,d.canLay0=true/\d.depth<=4/\PyData.eqv d d=true):cmpD .NotEq (.list xs) (.list xs)=.ok (.bool false):=by
 obtain ⟨h1,h2⟩:=JPg h
 simp only [cmpD,h1,Bool.and_self,if_true,PyData.eqv,h2,Bool.not_true]
end VI.VP
end
section
namespace VI.VP
open PySem Fr
section
variable {C:Cn} {δ:Env}
theorem JCf {j:Nat}:exec C (.frz j) δ=.nx (JAg j δ):=by simp only [exec]
theorem JBa {d:D} {r:Env}:JAg 0 (.own d::r)=.val d::r:=by simp only [JAg]
theorem JBb {d:D} {r:Env}:JAg 0 (.val d::r)=.val d::r:=by simp only [JAg]
theorem JBC {s:Sl} {i:Nat} {r:Env}:JAg (i+1) (s::r)=s::JAg i r:=by simp only [JAg]
theorem JOF {j:Nat} {k e:E} {x:D} {y:Str} {kvs:List (D×D)} (hs:δ[j]? = some (.own (.dict kvs))) (hx:ev C e δ=.ok x) (hk:ev C k δ=.ok (.str y)) (hl:kvs.length<1000000) (ho:(JAP e 0 δ&&!JAL x)=false) :
  exec C (.put j k e) δ=.nx (δ.set j (.own (.dict (putD kvs y x)))):=by
 simp only [exec,hs,hx,hk,stepR,JFj,if_pos hl,ho]
 rfl
theorem JM2 {k:XO} {es:E} (h:k.isT=true):evT C (.xop k es) δ=tr1 (xop1 k (evA C es δ)):=by
 simp only [evT,h,if_true]
 cases evA C es δ with
 | ok a=>exact JCK _
 | exc c=>rfl
 | bad=>rfl
end
theorem JNH {ys:List D}:xD .dit [.list ys]=.ok (.list ys):=rfl
theorem JPa {kvs:List (D×D)} {ks:List D} (h:JAt kvs=some ks) (hl:ks.length<=1000000):xD .dit [.dict kvs]=.ok (.list ks):=by
 show keyL (fun ks=>.ok (.list ks)) (.dict kvs)=_
 simp only [keyL,h,if_pos hl]
theorem JOd {kvs:List (D×D)} {ks:List D} (h:JAt kvs=some ks) (hl:ks.length<=1000000):xD .dls [.dict kvs]=.ok (.list ks):=by
 show keyL (fun ks=>.ok (.list ks)) (.dict kvs)=_
 simp only [keyL,h,if_pos hl]
theorem k_dcp {kvs:List (D×D)} {ks:List D} (h:JAt kvs=some ks) (hl:ks.length<=1000000):xD .dcp [.dict kvs]=.ok (.dict kvs):=by
 show keyL (fun _=>.ok (.dict kvs)) (.dict kvs)=_
 simp only [keyL,h,if_pos hl]
theorem JKR:xD .dnw []=.ok (.dict []):=rfl
theorem JM0 {kvs:List (D×D)} {ks:List D} (h:JAt kvs=some ks):xD .dvs [.dict kvs]=.ok (.list (kvs.map Prod.snd)):=by
 show (match JAt kvs with | some _=>VI.R.ok (PyData.list (kvs.map Prod.snd)) | none=>.bad)=_
 rw [h]
theorem k_dni {kvs:List (D×D)} {ks:List D} {k:Str} (h:JAt kvs=some ks):xD .dni [.str k,.dict kvs]=.ok (.bool (!hasK kvs k)):=by
 show (JCh (.str k) (.dict kvs)).bind (fun b=>VI.R.ok (PyData.bool (!b)))=_
 simp only [JCh,h,R.bind]
theorem JKM {x y:D} (h:JBO x y=none):xD .dne [x,y]=cmpD .NotEq x y:=by
 show (match JBO x y with | some r=>r.bind fun b=>VI.R.ok (PyData.bool (!b)) | none=>cmpD .NotEq x y)=_
 rw [h]
theorem JQa {x y:D} (h:JBO x y=none):xD .deq [x,y]=cmpD .Eq x y:=by
 show (match JBO x y with | some r=>r.bind fun b=>VI.R.ok (PyData.bool b) | none=>cmpD .Eq x y)=_
 rw [h]
theorem JMv {a b:Rat}:JBO (F a) (F b)=none:=rfl
theorem JPX {w:Rat} {ms:List Mv} {d:D}:JBO (tr w ms) d=none:=rfl
theorem JGd {xs:List D} {d:D}:JBO (.list xs) d=none:=rfl
noncomputable def shP (f:Rat->D) (g:Rat):List Str->Rat->List (D×D)
 | [],_=>[]
 | x::r,b=>(.str x,f b)::shP f g r (b+g)
noncomputable def bgs (g:Rat):Nat->Rat->List Rat
 | 0,_=>[]
 | n+1,b=>b::bgs g n (b+g)
section
variable {f:Rat->D} {g:Rat}
theorem JBL:∀ {xs:List Str} {b:Rat},JAt (shP f g xs b)=some (xs.map PyData.str)
 | [],_=>rfl
 | x::r,b=>by simp only [shP,JAt,JBL (xs:=r),Option.map_some,List.map_cons]
theorem JEB:∀ {xs:List Str} {b:Rat},(shP f g xs b).length=xs.length
 | [],_=>rfl
 | x::r,b=>by simp only [shP,List.length_cons,JEB (xs:=r)]
theorem JHZ {y:Str}:∀ {xs:List Str} {b:Rat},shP f g (xs++[y]) b=shP f g xs b++[(.str y,f (b+xs.length*g))]
 | [],b=>by simp only [shP,List.nil_append,List.length_nil];rw [show b+((0:Nat):Rat)*g=b by rw [show ((0:Nat):Rat)=0 from rfl];grind]
 | x::r,b=>by
  simp only [shP,List.cons_append,JHZ (xs:=r),List.length_cons]
  rw [show b+g+(r.length:Rat)*g=b+((r.length+1:Nat):Rat)*g by push_cast;grind]
theorem JFV {k:Str}:∀ {xs:List Str} {b:Rat},hasK (shP f g xs b) k=decide (k∈xs)
 | [],_=>by simp [shP,hasK]
 | x::r,b=>by
  simp only [shP,hasK,JFV (xs:=r),q_n]
  by_cases h:x=k
  ·subst h;simp
  ·simp [h,Ne.symm h]
theorem JCc:∀ {xs:List Str} {b:Rat} {i:Nat} {x:Str},xs.Nodup->xs[i]? = some x->getK (shP f g xs b) x=.ok (f (b+i*g))
 | [],b,i,x,_,h=>by simp at h
 | y::r,b,0,x,_,h=>by
  simp only [List.getElem?_cons_zero,q_j] at h
  subst h
  simp only [shP,getK,if_true]
  rw [show b+((0:Nat):Rat)*g=b by rw [show ((0:Nat):Rat)=0 from rfl];grind]
 | y::r,b,i+1,x,nd,h=>by
  simp only [List.getElem?_cons_succ] at h
  obtain ⟨n1,n2⟩:=List.nodup_cons.mp nd
  have hne:y≠x:=fun e=>n1 (e▸List.mem_of_getElem? h)
  simp only [shP,getK,if_neg hne,JCc (xs:=r) n2 h]
  rw [show b+g+(i:Rat)*g=b+((i+1:Nat):Rat)*g by push_cast;grind]
theorem JCn:∀ {xs:List Str} {b:Rat},(shP f g xs b).map Prod.snd=(bgs g xs.length b).map f
 | [],_=>rfl
 | x::r,b=>by simp only [shP,List.map_cons,List.length_cons,bgs,JCn (xs:=r)]
theorem JBV:∀ {n:Nat} {b:Rat},(bgs g n b).length=n
 | 0,_=>rfl
 | n+1,b=>by simp only [bgs,List.length_cons,JBV (n:=n)]
theorem JC0:∀ {n:Nat} {b q:Rat},q∈bgs g n b->∃i:Nat,i<n/\q=b+i*g
 | 0,_,_,h=>by cases h
 | n+1,b,q,h=>by
  simp only [bgs,q_n] at h
  rcases h with rfl | h
  ·exact ⟨0,by omega,by rw [show ((0:Nat):Rat)=0 from rfl];grind⟩
  ·obtain ⟨i,hi,rfl⟩:=JC0 h
   exact ⟨i+1,by omega,by push_cast;grind⟩
theorem putP {xs:List Str} {b:Rat} {y:Str} (h:y ∉ xs):putD (shP f g xs b) y (f (b+xs.length*g))=shP f g (xs++[y]) b:=by
 rw [JHZ]
 unfold putD
 rw [JFV,q_o h]
 simp
end
noncomputable def JFE:S:=match JFW with
 | .cons _ (.cons _ (.cons _ (.cons (.for1 _ _ b) _)))=>b
 | _=>.nil
noncomputable def JFk:S:=match JFh with
 | .cons _ (.cons (.for1 _ _ b) _)=>b
 | _=>.nil
theorem JJS {e:E} {i:Nat} {kvs:List (D×D)} {r:Env}:JAp e i (.own (.dict kvs)::r)=(if e.uses i=true then Sl.no else .own (.dict kvs))::JAp e (i+1) r:=rfl
theorem JLo {es:E}:(E.xop .dnw es).fresh=true:=rfl
theorem JQZ {es:E}:(E.xop .dcp es).fresh=true:=rfl
theorem JMP {es:E}:(E.xop .dtk es).fresh=false:=rfl
section
variable {x:Bool} {sub:Nat->Nat->Bool} {m n:Nat}
theorem JOy {p:Pl} {w b g:Rat} {xs:List Str} (ok:p.Ok) (sm:p.Sm) (hd:p.dep<=5) (hl:p.steps.length<=900) (hw:Tw 20000 w) (hb:Tw 72 b) (hg:Tw 72 g) (nd:xs.Nodup) (hx:xs.length<=100) (hm:13<=m) :
  run x tabA gloA sub m 242 [.list (xs.map PyData.str),p.d,F w,F b,F g]=.ok (.dict (shP (fun t=>tr w (mvs p.steps w t)) g xs b)):=by
 obtain ⟨n,rfl⟩:=JAD hm
 rw [JAB (n:=n+12) (show tabA 242=some JJe from rfl),JAA rfl]
 have hn:run x tabA gloA sub (n+12) 153 [p.d]=.ok .none:=JGO (n:=n+11) (by rw [JMf p ok (by omega),decide_eq_true hd])
 obtain ⟨C,hC⟩:∃C:Cn,C=⟨run x tabA gloA sub (n+12),gloA,sub⟩:=⟨_,rfl⟩
 have fn:C.fn=run x tabA gloA sub (n+12):=by rw [hC]
 have fg:C.glo=gloA:=by rw [hC]
 rw [<-hC]
 have it:JAa (.list (xs.map PyData.str))=.ok (xs.map PyData.str):=rfl
 have tw:∀i:Nat,i<=100->Tw (72+72*i) (b+i*g):=fun i=>by
  induction i with
  | zero=>intro _;rw [show b+((0:Nat):Rat)*g=b by rw [show ((0:Nat):Rat)=0 from rfl];grind];exact hb
  | succ i ih =>
    intro h
    rw [show b+((i+1:Nat):Rat)*g=b+(i:Rat)*g+g by push_cast;grind]
    exact ((ih (by omega)).add hg).mono (by omega)
 obtain ⟨δ',lp,dn,r,y7,er,exs,v7,eδ⟩:=JBn (C:=C) (i:=7) (b:=JFE)
  (Inv:=fun es δ=>∃(dn r:List Str) (y7:Sl),es=r.map PyData.str/\xs=dn++r/\Vs y7/\δ=[.val (.list (xs.map PyData.str)),.val p.d,.val (F w),.val (F b),.val (F g),.own (.dict (shP (fun t=>tr w (mvs p.steps w t)) g dn b)),.val (F (b+dn.length*g)),y7])
  (fun d es δ ⟨dn,r,y7,er,exs,v7,e⟩=>by
    subst e
    cases r with
    | nil=>cases er
    | cons a r =>
     simp only [List.map_cons,List.cons.injEq] at er
     obtain ⟨rfl,rfl⟩:=er
     have ld:dn.length<=99:=by rw [exs,q_u,List.length_cons] at hx;omega
     have na:a ∉ dn:=fun h=>by
      rw [exs] at nd
      exact (List.nodup_append.mp nd).2.2 a h a (by simp) rfl
     have t1:=tw dn.length (by omega)
     have z1:Z 20 (b+dn.length*g):=⟨t1.sz20 (by omega)⟩
     have z2:Z 20 g:=⟨hg.sz20 (by omega)⟩
     have pl:=JD3 (x:=x) (sub:=sub) (m:=n+12) (w:=w) (t:=b+dn.length*g) ok sm hd hl hw (t1.mono (by omega)) (by omega)
     have pp:=putP (f:=fun t=>tr w (mvs p.steps w t)) (g:=g) (b:=b) na
     have e1:b+((dn++[a]).length:Rat)*g=b+dn.length*g+g:=by rw [q_u,List.length_cons,List.length_nil];push_cast;grind
     refine ⟨[.val (.list (xs.map PyData.str)),.val p.d,.val (F w),.val (F b),.val (F g),.own (.dict (shP (fun t=>tr w (mvs p.steps w t)) g (dn++[a]) b)),.val (F (b+(dn++[a]).length*g)),.val (.str a)],.inl ?_,dn++[a],r,.val (.str a),rfl,by simp [exs],rfl,rfl⟩
     rw [e1,<-pp]
     have nT:JAL (tr w (mvs p.steps w (b+dn.length*g)))=true:=JMJ _ _
     generalize tr w (mvs p.steps w (b+dn.length*g))=T at *
     have kl:(shP (fun t=>tr w (mvs p.steps w t)) g dn b).length<1000000:=by rw [JEB];omega
     generalize shP (fun t=>tr w (mvs p.steps w t)) g dn b=kvs at *
     generalize b+(dn.length:Rat)*g=now at *
     generalize p.d=pd at *
     simp only [JFE,JFW,JGF]
     rw [JOF (kvs:=kvs) (x:=T) (y:=a) rfl (by dsimp?! [fn,fg,pl]) (by dsimp?! []) kl (by rw [nT];simp)]
     dsimp?! [fn,fg,noF,JAL,Bool.not_true,Bool.and_false])
  (ds:=xs.map PyData.str) (δ:=[.val (.list (xs.map PyData.str)),.val p.d,.val (F w),.val (F b),.val (F g),.own (.dict []),.val (F b),.no])
  ⟨[],xs,.no,rfl,rfl,rfl,by simp only [shP,List.length_nil];rw [show b+((0:Nat):Rat)*g=b by rw [show ((0:Nat):Rat)=0 from rfl];grind]⟩
 subst eδ
 cases r with
 | cons q r=>cases er
 | nil =>
  simp only [List.append_nil] at exs
  subst exs
  generalize shP (fun t=>tr w (mvs p.steps w t)) g xs b=kvs at *
  generalize b+(xs.length:Rat)*g=now at *
  have pn:=p.no
  generalize p.d=pd at *
  simp only [JFE,JFW] at lp
  generalize xs.map PyData.str=ks at *
  dsimp?! [JJe,JFW,fn,fg,hn,it,lp,JNH,JKR,JLo,JCf,JBa,JBb,JBC,JAi,JAw,JAj,JJS,JAL,noF,Bool.not_true,Bool.and_false,JGU,JDK,JE9,JEO,Nat.reduceAdd,Nat.reduceBEq,Bool.or_false,Bool.or_self]
end
end VI.VP
end
section
namespace VI.VP
open PySem Fr
section
variable {C:Cn} {δ:Env} {es:E}
theorem JKz:evT C (.xop .deq es) δ=tr1 (xop1 .deq (evA C es δ)):=JM2 rfl
theorem JJl:evT C (.xop .dne es) δ=tr1 (xop1 .dne (evA C es δ)):=JM2 rfl
theorem t_dni:evT C (.xop .dni es) δ=tr1 (xop1 .dni (evA C es δ)):=JM2 rfl
theorem JGB {a:E} {b:Bool} {j:Nat}:(E.isN a b).uses j=a.uses j:=rfl
end
theorem JFv {x:Str} {v:D}:∀ {kvs:List (D×D)} {ks:List D},JAt kvs=some ks->hasK kvs x=true->getK (repD kvs x v) x=.ok v
 | [],_,_,h=>by cases h
 |(z,d)::r,ks,hk,h=>by
  cases z with
  | str z =>
    simp only [JAt,q_d] at hk
    obtain ⟨k2,h1,_⟩:=hk
    simp only [repD,getK]
    by_cases e:z=x
    ·rw [if_pos e,if_pos e]
    ·rw [if_neg e]
     simp only [hasK,q_o e,Bool.false_or] at h
     exact JFv h1 h
  | _=>cases hk
theorem JJs {x:Str} {v:D} {kvs:List (D×D)} {ks:List D} (hk:JAt kvs=some ks) (h:hasK kvs x=true):getK (putD kvs x v) x=.ok v:=by
 unfold putD
 rw [if_pos h]
 exact JFv hk h
section
variable {x:Bool} {sub:Nat->Nat->Bool} {m n:Nat}
theorem JIT {T V:Rat->D} {g b t:Rat} {xs:List Str} (nd:xs.Nodup) (hx:xs.length<=100) (nV:∀β,JAL (V β)=true) (h:∀i<xs.length,run x tabA gloA sub n 97 [T (b+i*g),F t]=.ok (V (b+i*g))) :
  run x tabA gloA sub (n+1) 236 [.dict (shP T g xs b),F t]=.ok (.dict (shP V g xs b)):=by
 rw [JAB (n:=n) (show tabA 236=some JJh from rfl),JAA rfl]
 obtain ⟨C,hC⟩:∃C:Cn,C=⟨run x tabA gloA sub n,gloA,sub⟩:=⟨_,rfl⟩
 have fn:C.fn=run x tabA gloA sub n:=by rw [hC]
 have fg:C.glo=gloA:=by rw [hC]
 rw [<-hC]
 have it:JAa (.list (xs.map PyData.str))=.ok (xs.map PyData.str):=rfl
 have kk:xD .dit [.dict (shP T g xs b)]=.ok (.list (xs.map PyData.str)):=JPa JBL (by rw [q_g];omega)
 obtain ⟨δ',lp,dn,r,y3,er,exs,v3,eδ⟩:=JBn (C:=C) (i:=3) (b:=JFk)
  (Inv:=fun es δ=>∃(dn r:List Str) (y3:Sl),es=r.map PyData.str/\xs=dn++r/\Vs y3/\δ=[.val (.dict (shP T g xs b)),.val (F t),.own (.dict (shP V g dn b)),y3])
  (fun d es δ ⟨dn,r,y3,er,exs,v3,e⟩=>by
    subst e
    cases r with
    | nil=>cases er
    | cons a r =>
     simp only [List.map_cons,List.cons.injEq] at er
     obtain ⟨rfl,rfl⟩:=er
     have ld:dn.length<xs.length:=by rw [exs,q_u,List.length_cons];omega
     have na:a ∉ dn:=fun h=>by
      rw [exs] at nd
      exact (List.nodup_append.mp nd).2.2 a h a (by simp) rfl
     have ha:=h dn.length ld
     have hg:getK (shP T g xs b) a=.ok (T (b+dn.length*g)):=JCc nd (by rw [exs];simp)
     have pp:=putP (f:=V) (g:=g) (b:=b) na
     refine ⟨[.val (.dict (shP T g xs b)),.val (F t),.own (.dict (shP V g (dn++[a]) b)),.val (.str a)],.inl ?_,dn++[a],r,.val (.str a),rfl,by simp [exs],rfl,rfl⟩
     rw [<-pp]
     have hi:idxD (.dict (shP T g xs b)) (.str a)=.ok (T (b+dn.length*g)):=hg
     have kl:(shP V g dn b).length<1000000:=by rw [JEB];omega
     have nT:=nV (b+dn.length*g)
     generalize V (b+dn.length*g)=v at *
     generalize shP V g dn b=kv at *
     generalize shP T g xs b=kvs at *
     generalize T (b+dn.length*g)=u at *
     simp only [JFk,JFh,JGF]
     rw [JOF (kvs:=kv) (x:=v) (y:=a) rfl (by dsimp?! [fn,fg,hi,ha]) (by dsimp?! []) kl (by rw [nT];simp)]
     dsimp?! [fn,fg])
  (ds:=xs.map PyData.str) (δ:=[.val (.dict (shP T g xs b)),.val (F t),.own (.dict []),.no])
  ⟨[],xs,.no,rfl,rfl,rfl,rfl⟩
 subst eδ
 cases r with
 | cons q r=>cases er
 | nil =>
  simp only [List.append_nil] at exs
  subst exs
  generalize shP V g xs b=kv at *
  generalize shP T g xs b=kvs at *
  simp only [JFk,JFh] at lp
  generalize xs.map PyData.str=ks at *
  dsimp?! [JJh,JFh,fn,fg,it,lp,kk,JKR,JLo,JCf,JBa,JBb,JBC,JAi,JAw,JAj,JJS,JAL,noF,Bool.not_true,Bool.and_false,JGU,JDK,JE9,JEO,Nat.reduceAdd,Nat.reduceBEq,Bool.or_false,Bool.or_self]
theorem JMx {T:Rat->D} {v:Rat->Rat} {g b t s:Rat} {xs:List Str} (hx:xs.length<=100) (h:∀β∈bgs g xs.length b,run x tabA gloA sub n 97 [T β,F t]=.ok (F (v β))) (ha:run x tabA gloA sub n 179 [.list (((bgs g xs.length b).map v).map F)]=.ok (F s)) :
  run x tabA gloA sub (n+1) 238 [.dict (shP T g xs b),F t]=.ok (F s):=by
 rw [JAB (n:=n) (show tabA 238=some JJf from rfl),JAA rfl]
 obtain ⟨C,hC⟩:∃C:Cn,C=⟨run x tabA gloA sub n,gloA,sub⟩:=⟨_,rfl⟩
 have fn:C.fn=run x tabA gloA sub n:=by rw [hC]
 have fg:C.glo=gloA:=by rw [hC]
 rw [<-hC]
 have kv:xD .dvs [.dict (shP T g xs b)]=.ok (.list ((bgs g xs.length b).map T)):=by rw [JM0 JBL,JCn]
 have it:JAa (.list ((bgs g xs.length b).map T))=.ok ((bgs g xs.length b).map T):=rfl
 have cp:∀kvs:D,JCv C 0 (.call 97 (.cons (.var 0) (.cons (.var 2) .nil))) (.cbl true) [.val kvs,.val (F t)] (.ok ((bgs g xs.length b).map T))=.ok (.list (((bgs g xs.length b).map v).map F)):=fun kvs=>by
  rw [JBd (by rw [q_g,JBV];omega),JBE (c:=T) (g:=fun β=>F (v β)) (fun β hβ=>?_),List.map_map]
  ·rfl
  ·rw [JBk]
   have h3:=h β hβ
   dsimp?! [fn,fg,h3]
 generalize shP T g xs b=kvs at *
 generalize (bgs g xs.length b).map T=ts at *
 generalize ((bgs g xs.length b).map v).map F=vs at *
 dsimp?! [JJf,JKG,fn,fg,kv,it,cp,ha,JCf,JBa,JBb,JBC]
theorem JPr {T:Rat->D} {g b:Rat} {xs:List Str} (hx:xs.length<=100) (h:∀β∈bgs g xs.length b,run x tabA gloA sub n 83 [T β]=.ok .none):run x tabA gloA sub (n+1) 237 [.dict (shP T g xs b)]=.ok .none:=by
 rw [JAB (n:=n) (show tabA 237=some JGl from rfl),JAA rfl]
 obtain ⟨C,hC⟩:∃C:Cn,C=⟨run x tabA gloA sub n,gloA,sub⟩:=⟨_,rfl⟩
 have fn:C.fn=run x tabA gloA sub n:=by rw [hC]
 have fg:C.glo=gloA:=by rw [hC]
 rw [<-hC]
 have kv:xD .dvs [.dict (shP T g xs b)]=.ok (.list ((bgs g xs.length b).map T)):=by rw [JM0 JBL,JCn]
 have it:JAa (.list ((bgs g xs.length b).map T))=.ok ((bgs g xs.length b).map T):=rfl
 have cp:∀kvs:D,JCv C 0 (.call 83 (.cons (.var 0) .nil)) (.cbl true) [.val kvs,.no,.no] (.ok ((bgs g xs.length b).map T))=.ok (.list ((bgs g xs.length b).map fun _=>PyData.none)):=fun kvs=>by
  rw [JBd (by rw [q_g,JBV];omega),JBE (c:=T) (g:=fun _=>PyData.none) (fun β hβ=>?_)]
  ·rfl
  ·rw [JBk]
   have h3:=h β hβ
   dsimp?! [fn,fg,h3]
 have it2:JAa (.list ((bgs g xs.length b).map fun _=>PyData.none))=.ok ((bgs g xs.length b).map fun _=>PyData.none):=rfl
 have cp2:∀δ:Env,JCv C 0 (.var 0) (.isN (.var 0) true) δ (.ok ((bgs g xs.length b).map fun _=>PyData.none))=.ok (.list []):=fun δ=>by
  rw [JBd (by rw [q_g,JBV];omega),JCj (p:=fun _=>false) (g:=fun _=>PyData.none) (fun β hβ=>?_)]
  ·rw [List.filter_eq_nil_iff.mpr (fun a _=>by decide)];rfl
  ·rw [JBk]
   dsimp?! [fn,fg,isNone,Bool.not_true]
 have z0:cmpD .Eq (.int 0) (.int 0)=.ok (.bool true):=rfl
 have dq:xD .deq [.int 0,.int 0]=cmpD .Eq (.int 0) (.int 0):=rfl
 have ln:bltD .len [.list []]=.ok (.int 0):=rfl
 generalize shP T g xs b=kvs at *
 generalize (bgs g xs.length b).map T=ts at *
 generalize ((bgs g xs.length b).map fun _=>PyData.none)=vs at *
 dsimp?! [JGl,JHT,fn,fg,kv,it,cp,it2,cp2,JNH,dq,z0,ln,JKz,JCf,JBa,JBb,JBC,JAi,JAw,JAj,JDO,JA2,JH1,JGB,JE9,JEO,JDK,JGU,JFX,JMR,JMA,Nat.reduceAdd,Nat.reduceBEq,Bool.or_false,Bool.or_true,Bool.or_self,Bool.not_false,Bool.and_true,JAL,JA3]
theorem JFz {g:Rat} (hg:0<g):∀ {k:Nat} {b:Rat},(∀q∈bgs g (k+1) b,q<=b+k*g)/\b+k*g∈bgs g (k+1) b
 | 0,b=>by
  have e:b+((0:Nat):Rat)*g=b:=by rw [show ((0:Nat):Rat)=0 from rfl];grind
  rw [e]
  exact ⟨fun q h=>by simp only [bgs,q_n,List.not_mem_nil,or_false] at h;rw [h];exact Rat.le_refl,by simp [bgs]⟩
 | k+1,b=>by
  obtain ⟨h1,h2⟩:=JFz hg (k:=k) (b:=b+g)
  have e:b+((k+1:Nat):Rat)*g=b+g+k*g:=by push_cast;grind
  rw [e]
  refine ⟨fun q h=>?_,?_⟩
  ·have h:q∈b::bgs g (k+1) (b+g):=h
   rcases q_n.mp h with rfl | h
   ·have:=h1 (q+g) (by simp [bgs])
    grind
   ·exact h1 q h
  ·show _∈b::bgs g (k+1) (b+g)
   exact q_s _ h2
theorem q_leS {T:Rat->D} {g b c:Rat} {xs:List Str} {k:Nat} (hg:0<g) (hk:xs.length=k+1) (hx:xs.length<=100) (hs:∀β∈bgs g xs.length b,Q (c+β)) (h:∀β∈bgs g xs.length b,run x tabA gloA sub (n+2) 83 [T β]=.ok (F (c+β))):run x tabA gloA sub (n+3) 237 [.dict (shP T g xs b)]=.ok (F (c+(b+k*g))):=by
 rw [JAB (n:=n+2) (show tabA 237=some JGl from rfl),JAA rfl]
 obtain ⟨q1,q2⟩:=JFz hg (k:=k) (b:=b)
 rw [<-hk] at q1 q2
 have mst:run x tabA gloA sub (n+2) 8 [.list ((bgs g xs.length b).map fun β=>F (c+β))]=.ok (F (c+(b+k*g))):=by
  have e:(bgs g xs.length b).map (fun β=>F (c+β))=((bgs g xs.length b).map (c + ·)).map F:=by rw [List.map_map];rfl
  rw [e]
  obtain ⟨p,r,hp⟩:∃p r,(bgs g xs.length b).map (c + ·)=p::r:=by
   rw [hk];exact ⟨_,_,rfl⟩
  obtain ⟨m,m1,m2,_,m4⟩:=JIc (x:=x) (tab:=tabA) (glo:=gloA) (sub:=sub) (n:=n) ⟨rfl,rfl,rfl,rfl,rfl,rfl,rfl⟩ ⟨rfl,rfl,rfl,rfl⟩ p r (fun q hq=>by
   rw [<-hp] at hq
   obtain ⟨β,hβ,rfl⟩:=List.mem_map.mp hq
   exact hs β hβ)
  rw [hp,m4]
  rw [<-hp] at m1 m2
  obtain ⟨β,hβ,rfl⟩:=List.mem_map.mp m1
  have h1:=m2 (c+(b+k*g)) (List.mem_map.mpr ⟨_,q2,rfl⟩)
  have h2:=q1 β hβ
  congr 2
  grind
 obtain ⟨C,hC⟩:∃C:Cn,C=⟨run x tabA gloA sub (n+2),gloA,sub⟩:=⟨_,rfl⟩
 have fn:C.fn=run x tabA gloA sub (n+2):=by rw [hC]
 have fg:C.glo=gloA:=by rw [hC]
 rw [<-hC]
 have kv:xD .dvs [.dict (shP T g xs b)]=.ok (.list ((bgs g xs.length b).map T)):=by rw [JM0 JBL,JCn]
 have it:JAa (.list ((bgs g xs.length b).map T))=.ok ((bgs g xs.length b).map T):=rfl
 have cp:∀kvs:D,JCv C 0 (.call 83 (.cons (.var 0) .nil)) (.cbl true) [.val kvs,.no,.no] (.ok ((bgs g xs.length b).map T))=.ok (.list ((bgs g xs.length b).map fun β=>F (c+β))):=fun kvs=>by
  rw [JBd (by rw [q_g,JBV];omega),JBE (c:=T) (g:=fun β=>F (c+β)) (fun β hβ=>?_)]
  ·rfl
  ·rw [JBk]
   have h3:=h β hβ
   dsimp?! [fn,fg,h3]
 have it2:JAa (.list ((bgs g xs.length b).map fun β=>F (c+β)))=.ok ((bgs g xs.length b).map fun β=>F (c+β)):=rfl
 have cp2:∀δ:Env,JCv C 0 (.var 0) (.isN (.var 0) true) δ (.ok ((bgs g xs.length b).map fun β=>F (c+β)))=.ok (.list ((bgs g xs.length b).map fun β=>F (c+β))):=fun δ=>by
  rw [JBd (by rw [q_g,JBV];omega),JBE (c:=fun β=>F (c+β)) (g:=fun β=>F (c+β)) (fun β hβ=>?_)]
  ·rfl
  ·rw [JBk]
   have:isNone (F (c+β))=false:=rfl
   dsimp?! [fn,fg,this,Bool.not_false]
 have ln:bltD .len [.list ((bgs g xs.length b).map fun β=>F (c+β))]=.ok (.int (k+1:Nat)):=by
  show VI.R.ok (PyData.int (((bgs g xs.length b).map fun β=>F (c+β)).length:Nat))=_
  rw [q_g,JBV,hk]
 have z0:cmpD .Eq (.int (k+1:Nat)) (.int 0)=.ok (.bool false):=by
  rw [i_eq,q_o (by omega)]
 have dq:xD .deq [.int (k+1:Nat),.int 0]=cmpD .Eq (.int (k+1:Nat)) (.int 0):=rfl
 have nl:JAL (.list ((bgs g xs.length b).map fun β=>F (c+β)))=false:=rfl
 generalize shP T g xs b=kvs at *
 generalize (bgs g xs.length b).map T=ts at *
 generalize ((bgs g xs.length b).map fun β=>F (c+β))=vs at *
 generalize c+(b+k*g)=e at *
 dsimp?! [JGl,JHT,fn,fg,kv,it,cp,it2,cp2,JNH,dq,z0,ln,mst,JKz,JCf,JBa,JBb,JBC,JAi,JAw,JAj,JDO,JA2,JH1,JGB,JE9,JEO,JDK,JGU,JFX,JMR,JMA,Nat.reduceAdd,Nat.reduceBEq,Bool.or_false,Bool.or_true,Bool.or_self,Bool.not_false,Bool.and_true,JAL,JA3]
theorem JQX {kvs:List (D×D)} {ks:List D} {y:Str} {d:D} (hk:JAt kvs=some ks) (hl:kvs.length<1000000) (hl2:ks.length<=1000000) (nd:JAL d=true):run x tabA gloA sub (n+1) 239 [.dict kvs,.str y,d]=.ok (.dict (putD kvs y d)):=by
 rw [JAB (n:=n) (show tabA 239=some JJx from rfl),JAA rfl]
 have cp:=k_dcp hk hl2
 obtain ⟨C,hC⟩:∃C:Cn,C=⟨run x tabA gloA sub n,gloA,sub⟩:=⟨_,rfl⟩
 rw [<-hC]
 have key:exec C (.put 3 (.var 1) (.var 2)) [.val (.dict kvs),.val (.str y),.val d,.own (.dict kvs)]=.nx [.val (.dict kvs),.val (.str y),.val d,.own (.dict (putD kvs y d))]:=by
  rw [JOF (kvs:=kvs) (x:=d) (y:=y) rfl (by dsimp?! []) (by dsimp?! []) hl (by rw [nd];simp)]
  rfl
 dsimp?! [JJx,JJy,cp,JQZ,key,JCf,JBa,JBb,JBC,Bool.not_true,Bool.and_false,JA2,q_v]
theorem JKJ {kvs:List (D×D)} {ks:List D} {y:Str} (hk:JAt kvs=some ks) (h:hasK kvs y=true):run x tabA gloA sub (n+1) 240 [.dict kvs,.str y]=.ok .none:=by
 rw [JAB (n:=n) (show tabA 240=some JKO from rfl),JAA rfl]
 have k:=k_dni (k:=y) hk
 rw [h] at k
 dsimp?! [JKO,JKr,k,t_dni,Bool.not_true,JCf,JBa,JBb,JBC]
theorem JJd {kvs:List (D×D)} {ks:List D} {y:Str} {q:Rat} {d d':D} (hk:JAt kvs=some ks) (hl:kvs.length<1000000) (hl2:ks.length<=1000000) (h:hasK kvs y=true) (hg:getK kvs y=.ok d) (nd:JAL d'=true) (hm:run x tabA gloA sub (n+1) 105 [d,F q]=.ok d') :
  run x tabA gloA sub (n+2) 241 [.dict kvs,.str y,F q]=.ok (.dict (putD kvs y d')):=by
 rw [JAB (n:=n+1) (show tabA 241=some JKI from rfl),JAA rfl]
 have h1:=JKJ (x:=x) (sub:=sub) (n:=n) hk h
 have h2:=JQX (x:=x) (sub:=sub) (n:=n) (y:=y) hk hl hl2 nd
 have hi:idxD (.dict kvs) (.str y)=.ok d:=hg
 dsimp?! [JKI,JKS,h1,h2,hi,hm,JCf,JBa,JBb,JBC,JAL]
end
end VI.VP
end
section
namespace VI.VP
open PySem Fr PySem.W
noncomputable def fT2 (C:Cn) (is:List Nat) (b:S) (xs:List D) (δ:Env):Fl:=forL (putT is) (exec C b) xs δ
noncomputable def fT1 (C:Cn) (is:List Nat) (e:E) (b:S) (δ:Env):R (List D)->Fl
 | .ok xs=>fT2 C is b xs (JAp e 0 δ)
 | .exc c=>.ex c
 | .bad=>.bad
theorem x_fT {C:Cn} {is:List Nat} {e:E} {b:S} {δ:Env}:exec C (.forT is e b) δ=fT1 C is e b δ (evI C e δ):=by simp only [exec];cases evI C e δ<;>rfl
theorem k_fT {C:Cn} {is:List Nat} {e:E} {b:S} {δ:Env} {xs:List D}:fT1 C is e b δ (.ok xs)=fT2 C is b xs (JAp e 0 δ):=rfl
theorem JI2 {C:Cn} {is:List Nat} {b:S} {Inv:List D->Env->Prop} (hb:∀d ds δ,Inv (d::ds) δ->∃ys δ',d=.tuple ys/\ys.length=is.length/\exec C b (JBl is ys δ)=.nx δ'/\Inv ds δ'):∀ {ds:List D} {δ},Inv ds δ->∃δ',fT2 C is b ds δ=.nx δ'/\Inv [] δ'
 | [],δ,h=>⟨δ,rfl,h⟩
 | d::ds,δ,h=>by
  obtain ⟨ys,δ1,rfl,hl,e,h1⟩:=hb d ds δ h
  obtain ⟨δ2,e2,h2⟩:=JI2 hb h1
  refine ⟨δ2,?_,h2⟩
  unfold fT2 forL
  simp only [putT,JAz,if_pos hl]
  first | (rw [e];exact e2) | (simp only [e];exact e2)
noncomputable def pz61:E:=(.xop .zip (.cons (.var 5) (.cons (.fn1 (.slice (some 1) none) (.var 5)) .nil)))
noncomputable def bZ1:S:=(.cons (.ife (.xop .dne (.cons (.idx (.var 9) (.var 12)) (.cons (.idx (.var 10) (.var 11)) .nil))) (.cons (.ret (.cbl false)) .nil) .nil) .nil)
noncomputable def bZ2:S:=(.cons (.cons (.frz 6) (.ife (.xop .dne (.cons (.idx (.call 241 (.cons (.var 6) (.cons (.var 11) (.cons (.var 4) .nil)))) (.var 11)) (.cons (.idx (.var 6) (.var 12)) .nil))) (.cons (.ret (.cbl false)) .nil) .nil)) .nil)
noncomputable def bK61:S:=(.cons (.asg 8 (.call 17 (.cons (.var 3) (.cons (.call 16 (.cons (.var 0) (.cons (.bin .Add (.bin .Add (.cint 10000) (.cint 10)) (.bin .Mult (.cint 2) (.var 7))) .nil))) .nil)))) (.cons (.cons (.frz 6) (.asg 9 (.call 236 (.cons (.var 6) (.cons (.var 8) .nil))))) (.cons (.cons (.frz 6) (.asg 10 (.call 236 (.cons (.var 6) (.cons (.call 18 (.cons (.var 8) (.cons (.var 4) .nil))) .nil))))) (.cons (.forT [11,12] pz61 bZ1) .nil))))
noncomputable def nmsL:List Str:=["x","y","z","w"]
theorem JLV:∀s∈("":Str)::nmsL,PyData.strOk s=true:=by decide +kernel
theorem JPY:nmsL.Nodup:=by decide +kernel
theorem JOl {c:Int} (h0:0<=c) (h1:c<5):∃xs:List Str,xs.Nodup/\xs.length<=4/\(∀s∈xs,s∈nmsL)/\xD .dtk [.list [.str "x",.str "y",.str "z",.str "w"],.int c]=.ok (.list (xs.map PyData.str)):=by
 have hc:c=(0:Nat)\/c=(1:Nat)\/c=(2:Nat)\/c=(3:Nat)\/c=(4:Nat):=by omega
 have key:∀k:Nat,c=(k:Nat)->xD .dtk [.list [.str "x",.str "y",.str "z",.str "w"],.int (k:Nat)]=.ok (.list ((nmsL.take k).map PyData.str))->∃xs:List Str,xs.Nodup/\xs.length<=4/\(∀s∈xs,s∈nmsL)/\xD .dtk [.list [.str "x",.str "y",.str "z",.str "w"],.int c]=.ok (.list (xs.map PyData.str)):=fun k e h=>by
  subst e
  exact ⟨nmsL.take k,List.Sublist.nodup (List.take_sublist k _) JPY,by rw [List.length_take];exact Nat.min_le_right _ _,fun s hs=>List.mem_of_mem_take hs,h⟩
 rcases hc with h | h | h | h | h
 ·exact key 0 h rfl
 ·exact key 1 h rfl
 ·exact key 2 h rfl
 ·exact key 3 h rfl
 ·exact key 4 h rfl
theorem JFx:∀ {xs:List Str},strsOf (xs.map PyData.str)=some xs
 | []=>rfl
 | x::r=>by simp only [List.map_cons,strsOf,JFx (xs:=r),Option.map_some]
theorem JIq {xs:List Str} {s:Str} (h:s∈JBw xs):s∈xs\/s="":=by
 unfold JBw at h
 split at h
 ·exact .inl h
 ·obtain ⟨i,_,rfl⟩:=List.mem_map.mp h
  by_cases hi:i<xs.length
  ·left
   simp only [List.getD,q_q hi,Option.getD_some]
   exact List.getElem_mem hi
  ·right
   have e:xs[i]? = none:=List.getElem?_eq_none (by omega)
   simp only [List.getD,e,Option.getD_none]
theorem JHg {xs:List Str} (hl:xs.length<=4) (hm:∀s∈xs,s∈nmsL):∃zs:List D,xD .sts [.list (xs.map PyData.str)]=.ok (.list zs)/\cmpD .NotEq (.list zs) (.list zs)=.ok (.bool false):=by
 have st:∀s,(s∈xs\/s="")->PyData.strOk s=true:=fun s h=>JLV s (by
  rcases h with h | h
  ·exact q_s _ (hm s h)
  ·rw [h];simp)
 have sh:∀(ys:List Str),(∀s∈ys,s∈xs\/s="")->cmpD .NotEq (.list (ys.map PyData.str)) (.list (ys.map PyData.str))=.ok (.bool false):=fun ys h=>gl_ne fun d hd=>by
  obtain ⟨s,hs,rfl⟩:=List.mem_map.mp hd
  refine ⟨st s (h s hs),by simp [PyData.depth],?_⟩
  simp [PyData.eqv]
 show ∃zs:List D,srtS (xs.map PyData.str)=.ok (.list zs)/\_
 unfold srtS
 rw [JFx]
 simp only
 rw [if_pos (by omega)]
 exact ⟨_,rfl,sh _ fun s hs=>JIq hs⟩
theorem JLv {xs:List Str} {z:Str×Str} (h:z∈xs.zip (xs.drop 1)):∃i,xs[i]? = some z.1/\xs[i+1]? = some z.2:=by
 obtain ⟨i,hi⟩:=List.mem_iff_getElem?.mp h
 rw [List.getElem?_zip_eq_some] at hi
 obtain ⟨h1,h2⟩:=hi
 rw [List.getElem?_drop,Nat.add_comm] at h2
 exact ⟨i,h1,h2⟩
end VI.VP
end
section
namespace VI.VP
open PySem Fr PySem.W
theorem F4':PyData.tuple [.int 4,.int 1]=F 4:=rfl
theorem Fn' (k:Nat):PyData.tuple [.int (k:Nat),.int 1]=F (k:Rat):=by
 unfold F
 simp
theorem JNi {ss:List Pl} {w g β t:Rat}:wOf w (mvs ss w (β+g)) t=wOf w (mvs ss w β) (t - g):=by
 have:=JPx (w:=w) (ms:=mvs ss w β) (t:=t - g) (y:=g)
 rw [JEV] at this
 rw [show t - g+g=t by grind] at this
 exact this
theorem JFo {y:Rat}:∀ {ms:List Mv},endT (ms.map (Mv.mv y))=(endT ms).map (· + y)
 | []=>rfl
 | [a]=>by
  simp only [List.map_cons,List.map_nil,endT,Option.map_some,Mv.mv,Mv.e]
  congr 1
  grind
 | a::c::r=>by
  have:=JFo (y:=y) (ms:=c::r)
  simpa only [List.map_cons,endT] using this
theorem JFH {H:Rat} {v:Rat->Rat} (hv:∀q,v q=H):∀(qs:List Rat) (s:Rat),tot (qs.map v) s=s+qs.length*H
 | [],s=>by simp only [List.map_nil,tot,List.length_nil];rw [show ((0:Nat):Rat)=0 from rfl];grind
 | q::r,s=>by
  simp only [List.map_cons,tot,JFH hv r,hv,List.length_cons]
  push_cast
  grind
theorem JQ0:rngD [.int 4]=.ok ((([0,1,2,3]:List Int)).map PyData.int):=rfl
theorem zipS (xs:List Str):List.zipWith (fun a b=>PyData.tuple [a,b]) (xs.map PyData.str) ((xs.drop 1).map PyData.str)=(xs.zip (xs.drop 1)).map fun z=>PyData.tuple [.str z.1,.str z.2]:=by
 rw [List.zipWith_map,List.zip,List.map_zipWith]
theorem cutS (xs:List Str):cutD (xs.map PyData.str) (some 1) none=(xs.drop 1).map PyData.str:=by
 have e:sI (xs.map PyData.str).length 0 (some 1)=min 1 xs.length:=by simp [sI]
 have e2:sI (xs.map PyData.str).length (xs.map PyData.str).length none=xs.length:=by simp [sI]
 unfold cutD
 rw [e,e2]
 cases xs with
 | nil=>rfl
 | cons a r =>
  have:min 1 (a::r).length=1:=by simp only [List.length_cons];omega
  rw [this]
  simp only [List.map_cons,List.drop_succ_cons,List.drop_zero,List.length_cons]
  rw [show r.length+1 - 1=(r.map PyData.str).length by simp]
  exact List.take_length
theorem Vs.fr61 {z:Sl} (h:Vs z) (e:E) (i:Nat) (r:Env):JAp e i (z::r)=z::JAp e (i+1) r:=by
 cases z with
 | own d=>cases h
 | no=>simp only [JAp,Sl.frz,ite_self]
 | val d=>simp only [JAp,Sl.frz,ite_self]
section
variable {sub:Nat->Nat->Bool} {n:Nat}
theorem z1_ok {C:Cn} {V W:Rat->Rat} {g b:Rat} {xs:List Str} {d0 d1 d2 d3 d4 d5 d6 d7 d8:D} {y11 y12:Sl} (nd:xs.Nodup) (hV:∀β,V (β+g)=W β) (v11:Vs y11) (v12:Vs y12) :
  ∃y11' y12',Vs y11'/\Vs y12'/\fT2 C [11,12] bZ1 ((xs.zip (xs.drop 1)).map fun z=>PyData.tuple [.str z.1,.str z.2]) [.val d0,.val d1,.val d2,.val d3,.val d4,.val d5,.val d6,.val d7,.val d8,.val (.dict (shP (fun β=>F (V β)) g xs b)),.val (.dict (shP (fun β=>F (W β)) g xs b)),y11,y12,.no]
    = .nx [.val d0,.val d1,.val d2,.val d3,.val d4,.val d5,.val d6,.val d7,.val d8,.val (.dict (shP (fun β=>F (V β)) g xs b)),.val (.dict (shP (fun β=>F (W β)) g xs b)),y11',y12',.no]:=by
 obtain ⟨δ',lp,l,z11,z12,el,hl,w11,w12,eδ⟩:=JI2 (C:=C) (is:=[11,12]) (b:=bZ1)
  (Inv:=fun es δ=>∃(l:List (Str×Str)) (z11 z12:Sl),es=l.map (fun z=>PyData.tuple [.str z.1,.str z.2])/\(∀z∈l,z∈xs.zip (xs.drop 1))/\Vs z11/\Vs z12/\δ=[.val d0,.val d1,.val d2,.val d3,.val d4,.val d5,.val d6,.val d7,.val d8,.val (.dict (shP (fun β=>F (V β)) g xs b)),.val (.dict (shP (fun β=>F (W β)) g xs b)),z11,z12,.no])
  (fun d es δ ⟨l,z11,z12,el,hl,w11,w12,e⟩=>by
    subst e
    cases l with
    | nil=>cases el
    | cons z l =>
     simp only [List.map_cons,List.cons.injEq] at el
     obtain ⟨rfl,rfl⟩:=el
     obtain ⟨i,h1,h2⟩:=JLv (hl z (by simp))
     have g1:idxD (.dict (shP (fun β=>F (V β)) g xs b)) (.str z.2)=.ok (F (V (b+(i+1:Nat)*g))):=JCc (f:=fun β=>F (V β)) nd h2
     have g2:idxD (.dict (shP (fun β=>F (W β)) g xs b)) (.str z.1)=.ok (F (W (b+i*g))):=JCc (f:=fun β=>F (W β)) nd h1
     have e1:V (b+(i+1:Nat)*g)=W (b+i*g):=by
      rw [show b+((i+1:Nat):Rat)*g=b+i*g+g by push_cast;grind]
      exact hV _
     have ne:xD .dne [F (V (b+(i+1:Nat)*g)),F (W (b+i*g))]=.ok (.bool false):=by
      rw [JKM JMv,F_ne,e1]
      simp
     refine ⟨_,[.val d0,.val d1,.val d2,.val d3,.val d4,.val d5,.val d6,.val d7,.val d8,.val (.dict (shP (fun β=>F (V β)) g xs b)),.val (.dict (shP (fun β=>F (W β)) g xs b)),.val (.str z.1),.val (.str z.2),.no],rfl,rfl,?_,l,.val (.str z.1),.val (.str z.2),rfl,fun q hq=>hl q (by simp [hq]),rfl,rfl,rfl⟩
     generalize shP (fun β=>F (V β)) g xs b=k1 at *
     generalize shP (fun β=>F (W β)) g xs b=k2 at *
     generalize V (b+(i+1:Nat)*g)=p at *
     generalize W (b+i*g)=q at *
     dsimp?! [bZ1,JBl,g1,g2,ne,JJl])
  (ds:=(xs.zip (xs.drop 1)).map fun z=>PyData.tuple [.str z.1,.str z.2]) (δ:=[.val d0,.val d1,.val d2,.val d3,.val d4,.val d5,.val d6,.val d7,.val d8,.val (.dict (shP (fun β=>F (V β)) g xs b)),.val (.dict (shP (fun β=>F (W β)) g xs b)),y11,y12,.no])
  ⟨_,y11,y12,rfl,fun z hz=>hz,v11,v12,rfl⟩
 subst eδ
 exact ⟨z11,z12,w11,w12,lp⟩
end
end VI.VP
end
section
namespace VI.VP
open PySem Fr PySem.W
section
variable {sub:Nat->Nat->Bool} {n:Nat}
theorem z2_ok {C:Cn} {T:Rat->D} {g b:Rat} {xs:List Str} {d0 d1 d2 d3 d5:D} {y7 y8 y9 y10 y11 y12:Sl} (fn:C.fn=run true tabA gloA sub (n+2)) (nd:xs.Nodup) (hx:xs.length<=4) (nT:∀β,JAL (T β)=true) (eT:∀β,xD .dne [T β,T β]=.ok (.bool false))
  (hm:∀i<xs.length,run true tabA gloA sub (n+1) 105 [T (b+i*g),F g]=.ok (T (b+i*g+g))) (v7:Vs y7) (v8:Vs y8) (v9:Vs y9) (v10:Vs y10) (v11:Vs y11) (v12:Vs y12) :
  ∃y11' y12',Vs y11'/\Vs y12'/\fT2 C [11,12] bZ2 ((xs.zip (xs.drop 1)).map fun z=>PyData.tuple [.str z.1,.str z.2]) [.val d0,.val d1,.val d2,.val d3,.val (F g),.val d5,.val (.dict (shP T g xs b)),y7,y8,y9,y10,y11,y12,.no]
    = .nx [.val d0,.val d1,.val d2,.val d3,.val (F g),.val d5,.val (.dict (shP T g xs b)),y7,y8,y9,y10,y11',y12',.no]:=by
 obtain ⟨δ',lp,l,z11,z12,el,hl,w11,w12,eδ⟩:=JI2 (C:=C) (is:=[11,12]) (b:=bZ2)
  (Inv:=fun es δ=>∃(l:List (Str×Str)) (z11 z12:Sl),es=l.map (fun z=>PyData.tuple [.str z.1,.str z.2])/\(∀z∈l,z∈xs.zip (xs.drop 1))/\Vs z11/\Vs z12/\δ=[.val d0,.val d1,.val d2,.val d3,.val (F g),.val d5,.val (.dict (shP T g xs b)),y7,y8,y9,y10,z11,z12,.no])
  (fun d es δ ⟨l,z11,z12,el,hl,w11,w12,e⟩=>by
    subst e
    cases l with
    | nil=>cases el
    | cons z l =>
     simp only [List.map_cons,List.cons.injEq] at el
     obtain ⟨rfl,rfl⟩:=el
     obtain ⟨i,h1,h2⟩:=JLv (hl z (by simp))
     have li:i<xs.length:=(q_p.mp h1).1
     have g1:getK (shP T g xs b) z.1=.ok (T (b+i*g)):=JCc (f:=T) nd h1
     have g2:idxD (.dict (shP T g xs b)) (.str z.2)=.ok (T (b+i*g+g)):=by
      have:=JCc (f:=T) (g:=g) (b:=b) nd h2
      rw [show b+((i+1:Nat):Rat)*g=b+i*g+g by push_cast;grind] at this
      exact this
     have hk:hasK (shP T g xs b) z.1=true:=by rw [JFV,decide_eq_true (List.mem_of_getElem? h1)]
     have po:=JJd (x:=true) (sub:=sub) (n:=n) (q:=g) (y:=z.1) (JBL (f:=T) (g:=g) (xs:=xs) (b:=b)) (by rw [JEB];omega) (by rw [q_g];omega) hk g1 (nT _) (hm i li)
     have g3:idxD (.dict (putD (shP T g xs b) z.1 (T (b+i*g+g)))) (.str z.1)=.ok (T (b+i*g+g)):=JJs JBL hk
     have ne:=eT (b+i*g+g)
     refine ⟨_,[.val d0,.val d1,.val d2,.val d3,.val (F g),.val d5,.val (.dict (shP T g xs b)),y7,y8,y9,y10,.val (.str z.1),.val (.str z.2),.no],rfl,rfl,?_,l,.val (.str z.1),.val (.str z.2),rfl,fun q hq=>hl q (by simp [hq]),rfl,rfl,rfl⟩
     generalize T (b+i*g+g)=u at *
     generalize putD (shP T g xs b) z.1 u=k2 at *
     generalize shP T g xs b=k1 at *
     dsimp?! [bZ2,JBl,fn,po,g2,g3,ne,JJl,JCf,JBa,JBb,JBC])
  (ds:=(xs.zip (xs.drop 1)).map fun z=>PyData.tuple [.str z.1,.str z.2]) (δ:=[.val d0,.val d1,.val d2,.val d3,.val (F g),.val d5,.val (.dict (shP T g xs b)),y7,y8,y9,y10,y11,y12,.no])
  ⟨_,y11,y12,rfl,fun z hz=>hz,v11,v12,rfl⟩
 subst eδ
 exact ⟨z11,z12,w11,w12,lp⟩
theorem JKF (ns:List Int):run true tabA gloA sub (n+15) 243 [sc ns]=.ok (.bool true):=by
 rw [JAB (n:=n+14) (show tabA 243=some JIg from rfl),JAA rfl]
 obtain ⟨p,ok,sm,hd,hp⟩:=JGH (x:=true) (sub:=sub) ns 3 (m:=n+14) 0 (by omega) (by omega) (by omega) (by decide) (by omega)
 have hp:run true tabA gloA sub (n+14) 146 [sc ns,.int 0,.int 3]=.ok p.d:=hp
 obtain ⟨w,sw,hw⟩:=JHc (x:=true) (sub:=sub) (m:=n+14) ns 10000 (by omega) (by omega) (by omega)
 obtain ⟨b,sb,hb⟩:=JHc (x:=true) (sub:=sub) (m:=n+14) ns (10000+2) (by omega) (by omega) (by omega)
 obtain ⟨g,sg,g0,hg⟩:=JGS (x:=true) (sub:=sub) (m:=n+14) ns (10000+4) (by omega) (by omega) (by omega)
 obtain ⟨c,c0,c1,hc⟩:=JGM (x:=true) (sub:=sub) (m:=n+14) ns (10000+6) 5 (by omega) (by omega) (by omega) (by omega)
 obtain ⟨xs,nd,hx,hmem,hxs⟩:=JOl c0 c1
 have hpl:p.steps.length<=64:=Nat.le_trans (JDw p ok) (Nat.le_trans (Nat.pow_le_pow_right (by decide) hd) (by decide))
 have hd5:p.dep<=5:=by omega
 have tw:=sw.tw
 have tb:=sb.tw
 have tg:=sg.tw
 have zb:Z 5 b:=sb.Z
 have zg:Z 5 g:=sg.Z
 obtain ⟨ss,hss⟩:∃ss,ss=p.steps:=⟨_,rfl⟩
 have S1:Sts ss:=by rw [hss];exact Sts.of ok sm
 have hstag:=JOy (x:=true) (sub:=sub) (m:=n+14) (w:=w) (b:=b) (g:=g) ok sm hd5 (by omega) (tw.mono (by omega)) tb tg nd (by omega) (by omega)
 rw [<-hss] at hstag
 have hpl:ss.length<=64:=by rw [hss];exact hpl
 have twi:∀i:Nat,i<=4->Tw (72+72*i) (b+i*g):=fun i=>by
  induction i with
  | zero=>intro _;rw [show b+((0:Nat):Rat)*g=b by rw [show ((0:Nat):Rat)=0 from rfl];grind];exact tb
  | succ i ih =>
    intro h
    rw [show b+((i+1:Nat):Rat)*g=b+(i:Rat)*g+g by push_cast;grind]
    exact ((ih (by omega)).add tg).mono (by omega)
 have mok:∀i:Nat,i<=4->∀a∈mvs ss w (b+i*g),a.Ok:=fun i hi=>JMT (A:=360) S1 (tw.mono (by omega)) ((twi i hi).mono (by omega)) (by omega)
 have T1:∀i:Nat,i<=4->Ti 13 5 (mvs ss w (b+i*g)):=fun i hi=>⟨mok i hi,fun a ha=>(JFN (A:=360) S1 (tw.mono (by omega)) ((twi i hi).mono (by omega)) (by omega) a ha).1,fun a ha=>(JFN (A:=360) S1 (tw.mono (by omega)) ((twi i hi).mono (by omega)) (by omega) a ha).2⟩
 have ml:∀t,(mvs ss w t).length<=64:=fun t=>Nat.le_trans (JJK ss w t) hpl
 obtain ⟨C,hC⟩:∃C:Cn,C=⟨run true tabA gloA sub (n+14),gloA,sub⟩:=⟨_,rfl⟩
 have fn:C.fn=run true tabA gloA sub (n+14):=by rw [hC]
 have fg:C.glo=gloA:=by rw [hC]
 rw [<-hC]
 obtain ⟨T,hT⟩:∃T:Rat->D,T=fun t=>tr w (mvs ss w t):=⟨_,rfl⟩
 rw [<-hT] at hstag
 have nT:∀β,JAL (T β)=true:=fun β=>by rw [hT];exact JMJ _ _
 have eT:∀β,xD .dne [T β,T β]=.ok (.bool false):=fun β=>by rw [hT];exact (JKM JPX).trans (tr_ne _ _)
 have cz:=cutS xs
 have zs:=zipS xs
 have zx:xD .zip [.list (xs.map PyData.str),.list ((xs.drop 1).map PyData.str)]=.ok (.list ((xs.zip (xs.drop 1)).map fun z=>PyData.tuple [.str z.1,.str z.2])):=by rw [<-zs];rfl
 have itz:JAa (.list ((xs.zip (xs.drop 1)).map fun z=>PyData.tuple [.str z.1,.str z.2]))=.ok ((xs.zip (xs.drop 1)).map fun z=>PyData.tuple [.str z.1,.str z.2]):=rfl
 obtain ⟨δ1,lpK,y7,y8,y9,y10,y11,y12,v7,v8,v9,v10,v11,v12,e1⟩:=JIn (C:=C) (i:=7) (b:=bK61)
  (Inv:=fun δ=>∃(y7 y8 y9 y10 y11 y12:Sl),Vs y7/\Vs y8/\Vs y9/\Vs y10/\Vs y11/\Vs y12/\δ=[.val (sc ns),.val p.d,.val (F w),.val (F b),.val (F g),.val (.list (xs.map PyData.str)),.val (.dict (shP T g xs b)),y7,y8,y9,y10,y11,y12,.no])
  (ds:=(([0,1,2,3]:List Int)).map PyData.int)
  (fun d hd δ ⟨y7,y8,y9,y10,y11,y12,v7,v8,v9,v10,v11,v12,e⟩=>by
    subst e
    obtain ⟨i,hi,rfl⟩:=List.mem_map.mp hd
    have hi:0<=i/\i<=3:=by
     simp only [q_n,List.not_mem_nil,or_false] at hi
     omega
    obtain ⟨q,sq,q0,hq⟩:=JGS (x:=true) (sub:=sub) (m:=n+14) ns (10000+10+2*i) (by omega) (by omega) (by omega)
    have zq:Z 5 q:=sq.Z
    have bm:binD .Mult (.int 2) (.int i)=.ok (.int (2*i)):=JBM (L.of (k:=10) (by omega) (by omega)) (L.of (k:=10) (by omega) (by omega))
    have k1:=JIT (x:=true) (sub:=sub) (n:=n+13) (T:=T) (V:=fun β=>F (wOf w (mvs ss w β) (b+q))) (g:=g) (b:=b) (t:=b+q) nd (by omega) (fun β=>noF) (fun i hi=>by
     rw [hT];exact JNx (T1 i (by omega)) (by omega) (by omega) (by omega) (by have:=ml (b+i*g);omega) (by omega))
    have k2:=JIT (x:=true) (sub:=sub) (n:=n+13) (T:=T) (V:=fun β=>F (wOf w (mvs ss w β) (b+q - g))) (g:=g) (b:=b) (t:=b+q - g) nd (by omega) (fun β=>noF) (fun i hi=>by
     rw [hT];exact JNx (T1 i (by omega)) (by omega) (by omega) (by omega) (by have:=ml (b+i*g);omega) (by omega))
    obtain ⟨u11,u12,w11,w12,lz⟩:=z1_ok (C:=C) (V:=fun β=>wOf w (mvs ss w β) (b+q)) (W:=fun β=>wOf w (mvs ss w β) (b+q - g)) (g:=g) (b:=b) (xs:=xs) (d0:=sc ns) (d1:=p.d) (d2:=F w) (d3:=F b) (d4:=F g) (d5:=.list (xs.map PyData.str)) (d6:=.dict (shP T g xs b)) (d7:=.int i) (d8:=F (b+q)) nd (fun β=>JNi) v11 v12
    refine ⟨_,.inl ?_,.val (.int i),.val (F (b+q)),.val (.dict (shP (fun β=>F (wOf w (mvs ss w β) (b+q))) g xs b)),.val (.dict (shP (fun β=>F (wOf w (mvs ss w β) (b+q - g))) g xs b)),u11,u12,rfl,rfl,rfl,rfl,w11,w12,rfl⟩
    generalize shP (fun β=>F (wOf w (mvs ss w β) (b+q))) g xs b=r1 at *
    generalize shP (fun β=>F (wOf w (mvs ss w β) (b+q - g))) g xs b=r2 at *
    generalize shP T g xs b=sh at *
    generalize (xs.zip (xs.drop 1)).map (fun z=>PyData.tuple [.str z.1,.str z.2])=zd at *
    generalize (xs.drop 1).map PyData.str=x1 at *
    generalize xs.map PyData.str=x0 at *
    generalize p.d=pd at *
    dsimp?! [bK61,pz61,fn,fg,hq,bm,k1,k2,cz,zx,itz,x_fT,k_fT,lz,JCf,JBa,JBb,JBC,JAi,JAw,JAj,v7.own,v8.own,v9.own,v10.own,v11.own,v12.own,v11.fr61,v12.fr61,noF,JAL,Bool.not_true,Bool.and_false])
  ⟨.no,.no,.no,.no,.no,.no,rfl,rfl,rfl,rfl,rfl,rfl,rfl⟩
 subst e1
 have hmv:∀i<xs.length,run true tabA gloA sub (n+13) 105 [T (b+i*g),F g]=.ok (T (b+i*g+g)):=fun i hi=>by
  have:=JJ6 (x:=true) (sub:=sub) (m:=n+13) (w:=w) (y:=g) (mok i (by omega)) (by omega) (by have:=ml (b+i*g);omega) (by omega)
  rw [JEV] at this
  rw [hT];exact this
 obtain ⟨u11,u12,w11,w12,lz2⟩:=z2_ok (sub:=sub) (n:=n+12) (C:=C) (T:=T) (g:=g) (b:=b) (xs:=xs) (d0:=sc ns) (d1:=p.d) (d2:=F w) (d3:=F b) (d5:=.list (xs.map PyData.str)) fn nd hx nT eT hmv v7 v8 v9 v10 v11 v12
 obtain ⟨zl,hsrt,hne⟩:=JHg hx hmem
 have hls:=JOd (JBL (f:=T) (g:=g) (xs:=xs) (b:=b)) (by rw [q_g];omega)
 have hdn:xD .dne [.list zl,.list zl]=.ok (.bool false):=(JKM JGd).trans hne
 have it4:JAa (.list ((([0,1,2,3]:List Int)).map PyData.int))=.ok ((([0,1,2,3]:List Int)).map PyData.int):=rfl
 have pn:=p.no
 have hend:∀i:Nat,i<=4->run true tabA gloA sub (n+13) 83 [T (b+i*g)]=.ok (optF ((endT (mvs ss w b)).map (· + i*g)))/\run true tabA gloA sub (n+14) 83 [T (b+i*g)]=.ok (optF ((endT (mvs ss w b)).map (· + i*g))):=fun i hi=>by
  have e:endT (mvs ss w (b+i*g))=(endT (mvs ss w b)).map (· + i*g):=by rw [<-JEV,JFo]
  rw [hT,<-e]
  exact ⟨JMZ (mok i hi) (by omega),JMZ (mok i hi) (by omega)⟩
 cases hxs2:xs with
 | nil =>
  rw [hxs2] at lpK lz2 hstag hxs hsrt hls cz zx itz
  have e0:xD .deq [.list (([]:List Str).map PyData.str),.list []]=.ok (.bool true):=rfl
  have e1:xD .deq [.dict (shP T g [] b),.dict []]=.ok (.bool true):=rfl
  have e2:=JPr (x:=true) (sub:=sub) (n:=n+13) (T:=T) (g:=g) (b:=b) (xs:=[]) (by simp) (fun β h=>by cases h)
  generalize (([]:List Str).zip (([]:List Str).drop 1)).map (fun z=>PyData.tuple [.str z.1,.str z.2])=zd at *
  generalize (([]:List Str).drop 1).map PyData.str=x1 at *
  generalize ([]:List Str).map PyData.str=x0 at *
  generalize shP T g [] b=sh at *
  generalize p.d=pd at *
  have i0:isNone PyData.none=true:=rfl
  simp only [bK61,pz61,bZ1,List.map_cons,List.map_nil] at lpK
  simp only [bZ2] at lz2
  dsimp?! [JIg,JGy,fn,fg,hp,hw,hb,hg,hc,hxs,hstag,hls,hsrt,hdn,JQ0,lpK,x_fT,k_fT,cz,zx,itz,lz2,JJl,JKz,JKR,JMP,JCf,JBa,JBb,JBC,JAi,JAw,JAj,v7.own,v8.own,v9.own,v10.own,v11.own,v12.own,w11.own,w12.own,v7.fr61,v8.fr61,v9.fr61,v10.fr61,v11.fr61,v12.fr61,w11.fr61,w12.fr61,noF,JAL,pn,Bool.not_true,Bool.and_false,e0,e1,e2,i0]
 | cons x0 r =>
  rw [hxs2] at lpK lz2 hstag hxs hsrt hls cz zx itz hx nd
  have hr:r.length<=3:=by simp only [List.length_cons] at hx;omega
  have so:∀s∈x0::r,PyData.strOk s=true:=fun s hs=>JLV s (q_s _ (hmem s (by rw [hxs2];exact hs)))
  have e0:xD .deq [.list ((x0::r).map PyData.str),.list []]=.ok (.bool false):=by
    rw [JQa JGd]
    obtain ⟨h1,_⟩:=JPg (xs:=(x0::r).map PyData.str) (fun d hd=>by
     obtain ⟨s,hs,rfl⟩:=List.mem_map.mp hd
     exact ⟨so s hs,by simp [PyData.depth],by simp [PyData.eqv]⟩)
    have h2:shaped (.list [])=true:=by decide +kernel
    simp only [cmpD,h1,h2,Bool.and_self,if_true]
    simp only [List.map_cons,PyData.eqv,PyData.eqvAll]
  have i1:idxD (.list ((x0::r).map PyData.str)) (.int 0)=.ok (.str x0):=JJA _ _
  have gT0:idxD (.dict (shP T g (x0::r) b)) (.str x0)=.ok (T b):=by
    have:=JCc (f:=T) (g:=g) (b:=b) nd (i:=0) (x:=x0) rfl
    rw [show b+((0:Nat):Rat)*g=b by rw [show ((0:Nat):Rat)=0 from rfl];grind] at this
    exact this
  have hpl2:=JD3 (x:=true) (sub:=sub) (m:=n+14) (w:=w) (t:=b) ok sm hd5 (by rw [<-hss];omega) (tw.mono (by omega)) (tb.mono (by omega)) (by omega)
  rw [<-hss] at hpl2
  have hpl3:run true tabA gloA sub (n+14) 155 [p.d,F w,F b]=.ok (T b):=by rw [hT];exact hpl2
  obtain ⟨xl,hxl⟩:∃xl,(x0::r)[r.length]? = some xl:=⟨(x0::r)[r.length],q_q (by simp)⟩
  have i2:idxD (.list ((x0::r).map PyData.str)) (.int (-1))=.ok (.str xl):=by
    have e:((x0::r).map PyData.str)[r.length]? = some (.str xl):=by rw [List.getElem?_map,hxl];rfl
    simp only [idxD,atI,ixN,optR,q_g,List.length_cons]
    rw [if_neg (by omega),if_pos (by omega)]
    simp only [Option.bind_some]
    rw [show (-1+((r.length+1:Nat):Int)).toNat=r.length by omega,e]
  have gTl:idxD (.dict (shP T g (x0::r) b)) (.str xl)=.ok (T (b+r.length*g)):=JCc (f:=T) (g:=g) (b:=b) nd hxl
  have dT:=eT b
  obtain ⟨ed,hle,het,hed⟩:∃d,run true tabA gloA sub (n+14) 237 [.dict (shP T g (x0::r) b)]=.ok d/\run true tabA gloA sub (n+14) 83 [T (b+r.length*g)]=.ok d/\xD .dne [d,d]=.ok (.bool false):=by
    cases he:endT (mvs ss w b) with
    | none =>
     rw [he] at hend
     refine ⟨.none,JPr (x:=true) (sub:=sub) (n:=n+13) (by simp;omega) (fun β hβ=>?_),(hend r.length (by omega)).2,rfl⟩
     obtain ⟨i,hi,rfl⟩:=JC0 hβ
     simp only [List.length_cons] at hi
     exact (hend i (by omega)).1
    | some e =>
     rw [he] at hend
     have key:∀i:Nat,e - b+(b+i*g)=e+i*g:=fun i=>by grind
     refine ⟨F (e+r.length*g),?_,(hend r.length (by omega)).2,(JKM JMv).trans (by rw [F_ne];simp)⟩
     have:=q_leS (x:=true) (sub:=sub) (n:=n+11) (T:=T) (g:=g) (b:=b) (c:=e - b) (xs:=x0::r) (k:=r.length) g0 rfl (by simp;omega) (fun β hβ=>by
      obtain ⟨i,hi,rfl⟩:=JC0 hβ
      simp only [List.length_cons] at hi
      rw [key]
      have hz:=JNb (mok i (by omega)) (e:=e+i*g) (by rw [<-JEV,JFo,he];rfl)
      exact hz.mono (by omega)) (fun β hβ=>by
      obtain ⟨i,hi,rfl⟩:=JC0 hβ
      simp only [List.length_cons] at hi
      rw [key]
      exact (hend i (by omega)).1)
     rw [key] at this
     exact this
  obtain ⟨S0,hS0⟩:∃S0,S0=tot (ss.map Pl.q) 0:=⟨_,rfl⟩
  obtain ⟨H,hH⟩:∃H,H=endH ss w:=⟨_,rfl⟩
  have qs:∀q∈ss.map Pl.q,Tw 72 q:=fun q h=>by
    obtain ⟨s,hs,rfl⟩:=List.mem_map.mp h
    exact (Pl.Sm.q (S1 s hs).2.1 (S1 s hs).1).tw
  have tS0:Tw 20000 S0:=by rw [hS0];exact (JLn qs ⟨0,q_t 0,by rw [Rat.zero_divInt]⟩).mono (by rw [q_g];omega)
  have tH:Tw 20000 H:=by rw [hH];exact (JIs S1 tw).mono (by omega)
  have zS:Z 20 S0:=⟨tS0.sz20 (by omega)⟩
  have zH:Z 20 H:=⟨tH.sz20 (by omega)⟩
  have hz:=JRV (x:=true) (sub:=sub) (m:=n+14) ok sm hd5 (by omega)
  rw [<-hss,<-hS0] at hz
  have hew:=JQ8 (x:=true) (sub:=sub) (m:=n+14) (w:=w) ok sm hd5 (by rw [<-hss];omega) (tw.mono (by omega)) (by omega)
  rw [<-hss,<-hH] at hew
  have wl:∀i:Nat,i<=4->wOf w (mvs ss w (b+i*g)) (b+S0+4*g)=H:=fun i hi=>by
    rw [hH]
    refine JJQ S1 ?_
    rw [JFb,<-hS0]
    have hi4:(i:Rat)<=4:=by exact_mod_cast hi
    have:=Rat.mul_le_mul_of_nonneg_right hi4 (Rat.le_of_lt g0)
    grind
  have had:=JMx (x:=true) (sub:=sub) (n:=n+13) (T:=T) (v:=fun _=>H) (g:=g) (b:=b) (t:=b+S0+4*g) (s:=tot ((bgs g (x0::r).length b).map fun _=>H) 0) (xs:=x0::r) (by simp;omega) (fun β hβ=>by
    obtain ⟨i,hi,rfl⟩:=JC0 hβ
    simp only [List.length_cons] at hi
    rw [<-wl i (by omega),hT]
    exact JNx (T1 i (by omega)) (by omega) (by omega) (by omega) (by have:=ml (b+i*g);omega) (by omega)) (JQt _ (fun q hq=>by
     obtain ⟨_,_,rfl⟩:=List.mem_map.mp hq
     exact zH.h.mono (by omega)) (fun a c e=>by
     obtain ⟨a',c',e1,rfl,rfl⟩:=List.map_eq_append_iff.mp e
     rw [JFH (H:=H) (fun _=>rfl)]
     have la:a'.length<=4:=by
      have:=congrArg List.length e1
      rw [JBV,q_u,List.length_cons] at this
      omega
     have za:Z 3 ((a'.length:Nat):Rat):=by
      have:a'.length=0\/a'.length=1\/a'.length=2\/a'.length=3\/a'.length=4:=by omega
      rcases this with h | h | h | h | h<;>rw [h]<;>exact ⟨⟨by decide,by decide⟩⟩
     exact (inferInstance:Z (3+(3+20)+1) ((0:Rat)+(a'.length:Nat)*H)).h.mono (by omega)) (by omega))
  rw [JFH (H:=H) (fun _=>rfl),JBV] at had
  have zl1:Z 3 (((x0::r).length:Nat):Rat):=by
    have:(x0::r).length=1\/(x0::r).length=2\/(x0::r).length=3\/(x0::r).length=4:=by simp only [List.length_cons];omega
    rcases this with h | h | h | h<;>rw [h]<;>exact ⟨⟨by decide,by decide⟩⟩
  have hdq:xD .deq [F (0+((x0::r).length:Nat)*H),F (((x0::r).length:Nat)*H)]=.ok (.bool true):=by
    rw [JQa JMv,F_eq,decide_eq_true (by grind)]
  have hln:bltD .len [.list ((x0::r).map PyData.str)]=.ok (.int ((x0::r).length:Nat)):=by
    show VI.R.ok (PyData.int (((x0::r).map PyData.str).length:Nat))=_
    rw [q_g]
  have fnk:=Fn' (x0::r).length
  have nTb:=nT b
  clear hT eT nT hmv hend wl qs
  generalize ((x0::r).zip ((x0::r).drop 1)).map (fun z=>PyData.tuple [.str z.1,.str z.2])=zd at *
  generalize ((x0::r).drop 1).map PyData.str=x1 at *
  generalize (x0::r).map PyData.str=xd at *
  generalize shP T g (x0::r) b=sh at *
  generalize (x0::r).length=len at *
  generalize T (b+r.length*g)=Tl at *
  generalize T b=Tb at *
  generalize p.d=pd at *
  clear hss
  simp only [bK61,pz61,bZ1,List.map_cons,List.map_nil] at lpK
  simp only [bZ2] at lz2
  dsimp?! [JIg,JGy,fn,fg,hp,hw,hb,hg,hc,hxs,hstag,hls,hsrt,hdn,JQ0,lpK,x_fT,k_fT,cz,zx,itz,lz2,JJl,JKz,JKR,JMP,JCf,JBa,JBb,JBC,JAi,JAw,JAj,v7.own,v8.own,v9.own,v10.own,v11.own,v12.own,w11.own,w12.own,v7.fr61,v8.fr61,v9.fr61,v10.fr61,v11.fr61,v12.fr61,w11.fr61,w12.fr61,noF,JAL,pn,Bool.not_true,Bool.and_false,e0,i1,gT0,hpl3,i2,gTl,dT,hle,het,hed,hz,hew,had,hdq,hln,fnk,F4',JNm,JOM]
end
end VI.VP
end
section
namespace VH
open PySem PySem.W
noncomputable def rP:Pos:=⟨0,0,0,0⟩
noncomputable def dName:Stmt->Str
 | .FunctionDef n _ _ _ _ _ _ _ _ _=>n
 | _=>"?"
noncomputable def dArgs:Stmt->Arguments
 | .FunctionDef _ a _ _ _ _ _ _ _ _=>a
 | _=>⟨[],[],none,[],[],none,[]⟩
noncomputable def JOn:Stmt->List Stmt
 | .FunctionDef _ _ b _ _ _ _ _ _ _=>b
 | _=>[]
noncomputable def JK7:Stmt->Scope
 | .FunctionDef _ _ _ _ _ _ s _ _ _=>s
 | _=>default
noncomputable def tO (xs:List Value):Obj:=⟨.type "tuple",none,.seq xs.toArray 0,#[]⟩
noncomputable def fO (xs:List Value):Obj:=⟨.none,none,.fields xs.toArray,#[]⟩
noncomputable def sqs:Nat->List Str->List Value
 | _,[]=>[]
 | t,x::r=>.str x t::sqs (t+1) r
noncomputable def f1 (st:Stmt):Obj:=⟨.none,none,.func { name:=dName st,qualname:=dName st,params:=dArgs st,body:=.stmts (JOn st),scope:=JK7 st,globals:=0,closure:=[],defaults:=.none,kwdefaults:=.none },#[]⟩
noncomputable def f2 (st:Stmt) (pm:Value) (cd:Addr):Obj:=⟨.type "function",none,.func { name:=dName st,qualname:=dName st,params:=dArgs st,body:=.stmts (JOn st),scope:=JK7 st,globals:=mainNs,closure:=[],defaults:=.none,kwdefaults:=.none,pyModule:=pm,code:=.ref cd },#[]⟩
noncomputable def cO (x:Str) (t l k loc a:Nat) (b:Bool) (u t2:Nat):Obj :=
 ⟨.type "code",none,.fields #[.str x t,.str x (t+1),.str "/claim/cut.py" (t+2),.int l 0,.int k 0,.int 0 0,.int 0 0,.int loc 0,.ref a,.bool b,.int 181 0,.ref (a+1),.none,.ref (a+2),.ref (a+3),.ref (a+4),.int t2 0,.int u 0,.str "/claim/cut.py" (t2+1)],#[]⟩
noncomputable def ent (P:Params) (x:Str) (t:Nat) (v:Value):DictEntry:=⟨PyData.keyHash P x,.str x t,v⟩
noncomputable def dO (es:List DictEntry) (n:Nat):Obj:=⟨.type "dict",none,.dict es.toArray n,#[]⟩
def alt:Bool->List Obj->List Obj
 | _,[]=>[]
 | true,o::r=>o::alt false r
 | false,_::r=>alt true r
def bt:Nat->List Obj->BT
 | 0,_=>.nil
 | _,[]=>.nil
 | n+1,o::r=>.node o (bt n (alt true r)) (bt n (alt false r))
def put:Nat->Obj->List Obj->List Obj
 | _,_,[]=>[]
 | 0,o,_::r=>o::r
 | n+1,o,x::r=>x::put n o r
noncomputable def sT (l:List Obj) (n k:Nat) (os:OsState):SharedT:=⟨bt 12 l,n,{},#[],{},k,os⟩
noncomputable def sH (l:List Obj) (k:Nat) (os:OsState):Shared:=⟨⟨l.toArray,{}⟩,#[],{},k,os⟩
noncomputable def envOf (p:Program):PySem.Env:={ scope:=p.main.scope,locals:=mainNs,globals:=mainNs,cells:=[],code:=.ref 13,frame:=some 14 }
noncomputable def cdOf (p:Program):Code:=.body (behindTheImports p) (envOf p)
end VH
end
section
set_option Elab.async false
set_option maxHeartbeats 0
namespace V61
open PySem PySem.W VH L2 VI VI.VP
noncomputable abbrev prog:Program:=PySem.Challenge.pw_glideways_k61_whole_staggered
noncomputable def top (i:Nat):Stmt:=prog.main.body.getD i (.Pass ⟨0,0,0,0⟩)
noncomputable def mainE (P:Params):List DictEntry:=[ent P "__name__" 165 (.str "law_glideways_k61_whole_staggered" 721),ent P "__doc__" 166 (.none),ent P "__package__" 167 (.none),ent P "__loader__" 168 (.builtin "__main__.__loader__#opaque"),ent P "__spec__" 169 (.none),ent P "__annotations__" 170 (.ref 6),ent P "__builtins__" 171 (.ref 4),ent P "__file__" 173 (.str "/claim/cut.py" 172),ent P "__cached__" 174 (.none),ent P "GlideError" 206 (.ref 24),ent P "NoFrac" 222 (.ref 37),ent P "NoKind" 238 (.ref 49),ent P "NoPlan" 254 (.ref 61),ent P "NoName" 270 (.ref 73),ent P "ZERO" 275 (.ref 76),ent P "ONE" 278 (.ref 77),ent P "is_whole" 285 (.ref 84),ent P "common_divisor" 296 (.ref 91),ent P "is_frac" 305 (.ref 98),ent P "is_size" 312 (.ref 105),ent P "frac" 321 (.ref 112),ent P "whole" 328 (.ref 119),ent P "plus" 336 (.ref 126),ent P "minus" 344 (.ref 133),ent P "times" 352 (.ref 140),ent P "over" 360 (.ref 147),ent P "all_plus" 369 (.ref 154),ent P "is_less" 377 (.ref 161),ent P "least_frac" 386 (.ref 168),ent P "most_frac" 395 (.ref 175),ent P "between" 404 (.ref 182),ent P "KINDS" 413 (.ref 183),ent P "is_kind" 420 (.ref 190),ent P "need_kind" 427 (.ref 197),ent P "kept_within" 434 (.ref 204),ent P "eased" 443 (.ref 211),ent P "START" 447 (.int 0 446),ent P "GOAL" 449 (.int 1 448),ent P "BEGIN" 451 (.int 2 450),ent P "LONG" 453 (.int 3 452),ent P "KIND" 455 (.int 4 454),ent P "SPEEDS" 457 (.int 5 456),ent P "KEPT" 459 (.str "kept" 458),ent P "NO_SPEEDS" 464 (.ref 214),ent P "plain_motion" 475 (.ref 221),ent P "end_of" 482 (.ref 228),ent P "part_at" 490 (.ref 235),ent P "worth_at" 499 (.ref 242),ent P "kept_worth" 512 (.ref 249),ent P "begun_at" 520 (.ref 256),ent P "moved" 528 (.ref 263),ent P "FIRST" 532 (.int 0 531),ent P "MOTIONS" 534 (.int 1 533),ent P "end_time" 541 (.ref 270),ent P "last_worth" 548 (.ref 277),ent P "begun_by" 554 (.ref 282),ent P "worth_of" 563 (.ref 289),ent P "track_moved" 569 (.ref 294),ent P "DEEPEST" 573 (.int 5 572),ent P "MOST_AGAIN" 575 (.int 4 574),ent P "is_plan" 582 (.ref 301),ent P "is_plan_within" 591 (.ref 308),ent P "is_many" 598 (.ref 315),ent P "need_plan" 605 (.ref 322),ent P "steps_of" 612 (.ref 329),ent P "step_size" 619 (.ref 336),ent P "size_of" 625 (.ref 341),ent P "step_goal" 633 (.ref 348),ent P "played" 647 (.ref 355),ent P "end_worth" 655 (.ref 362),ent P "shown" 667 (.ref 369),ent P "last_end" 673 (.ref 374),ent P "added" 679 (.ref 379),ent P "with_track" 689 (.ref 386),ent P "need_name" 697 (.ref 393),ent P "put_off" 706 (.ref 400),ent P "staggered" 720 (.ref 407),ent P "_law_cell" 730 (.ref 414),ent P "_law_pick" 740 (.ref 421),ent P "_law_divisor" 748 (.ref 428),ent P "_law_made" 757 (.ref 435),ent P "_law_frac" 766 (.ref 442),ent P "_law_size" 775 (.ref 449),ent P "_law_plus" 783 (.ref 456),ent P "_law_minus" 791 (.ref 463),ent P "_law_times" 799 (.ref 470),ent P "_law_over" 807 (.ref 477),ent P "_law_less" 815 (.ref 484),ent P "_law_kind" 823 (.ref 491),ent P "_law_eased" 833 (.ref 498),ent P "_law_plan" 846 (.ref 505),ent P "_law_steps" 855 (.ref 512),ent P "law" 875 (.ref 519)]
noncomputable def mainN:Value:=.str "law_glideways_k61_whole_staggered" 721
noncomputable def JDW (P:Params) (m k:Nat) (v:Value):Obj:=dO (ent P "__name__" 165 v::((mainE P).take m).drop 1) k
noncomputable def twelve:List Value:=[.int 2 0,.int 0 0,.ref 20,.int 4 0,.int 0 0,.ref 33,.int 6 0,.int 0 0,.ref 45,.int 8 0,.int 0 0,.ref 57,.int 10 0,.int 0 0,.ref 69,.int 15 0,.int 0 0,.ref 83,.int 17 0,.int 0 0,.ref 90,.int 25 0,.int 0 0,.ref 97,.int 33 0,.int 0 0,.ref 104,.int 35 0,.int 0 0,.ref 111,.int 42 0,.int 0 0,.ref 118,.int 44 0,.int 0 0,.ref 125,.int 46 0,.int 0 0,.ref 132,.int 48 0,.int 0 0,.ref 139,.int 50 0,.int 0 0,.ref 146,.int 52 0,.int 0 0,.ref 153,.int 57 0,.int 0 0,.ref 160,.int 59 0,.int 0 0,.ref 167,.int 65 0,.int 0 0,.ref 174,.int 71 0,.int 0 0,.ref 181,.int 75 0,.int 0 0,.ref 189,.int 77 0,.int 0 0,.ref 196,.int 80 0,.int 0 0,.ref 203,.int 82 0,.int 0 0,.ref 210,.int 105 0,.int 0 0,.ref 220,.int 107 0,.int 0 0,.ref 227,.int 109 0,.int 0 0,.ref 234,.int 111 0,.int 0 0,.ref 241,.int 116 0,.int 0 0,.ref 248,.int 123 0,.int 0 0,.ref 255,.int 125 0,.int 0 0,.ref 262,.int 130 0,.int 0 0,.ref 269,.int 134 0,.int 0 0,.ref 276,.int 138 0,.int 0 0,.ref 281,.int 140 0,.int 0 0,.ref 288,.int 145 0,.int 0 0,.ref 293,.int 150 0,.int 0 0,.ref 300,.int 152 0,.int 0 0,.ref 307,.int 165 0,.int 0 0,.ref 314,.int 167 0,.int 0 0,.ref 321,.int 170 0,.int 0 0,.ref 328,.int 176 0,.int 0 0,.ref 335,.int 178 0,.int 0 0,.ref 340,.int 180 0,.int 0 0,.ref 347,.int 186 0,.int 0 0,.ref 354,.int 198 0,.int 0 0,.ref 361,.int 201 0,.int 0 0,.ref 368,.int 206 0,.int 0 0,.ref 373,.int 210 0,.int 0 0,.ref 378,.int 212 0,.int 0 0,.ref 385,.int 216 0,.int 0 0,.ref 392,.int 219 0,.int 0 0,.ref 399,.int 222 0,.int 0 0,.ref 406,.int 231 0,.int 0 0,.ref 413,.int 237 0,.int 0 0,.ref 420,.int 240 0,.int 0 0,.ref 427,.int 244 0,.int 0 0,.ref 434,.int 247 0,.int 0 0,.ref 441,.int 250 0,.int 0 0,.ref 448,.int 253 0,.int 0 0,.ref 455,.int 255 0,.int 0 0,.ref 462,.int 257 0,.int 0 0,.ref 469,.int 259 0,.int 0 0,.ref 476,.int 261 0,.int 0 0,.ref 483,.int 263 0,.int 0 0,.ref 490,.int 265 0,.int 0 0,.ref 497,.int 280 0,.int 0 0,.ref 504,.int 292 0,.int 0 0,.ref 511,.int 301 0,.int 0 0,.ref 518]
noncomputable def ob (P:Params):List Obj:=[
 boot_o_0 P,
 boot_o_1 P,
 boot_o_2 P,
 JDW P 93 93 mainN,
 boot_o_4 P,
 boot_o_5 P,
 boot_o_6 P,
 boot_o_7 P,
 boot_o_8 P,
 boot_o_9 P,
 boot_o_10 P,
 tO [],
 fO twelve,
 ⟨.type "code",none,.fields #[.str "<module>" 182,.str "<module>" 183,.str "/claim/cut.py" 184,.int 1 0,.int 0 0,.int 0 0,.int 0 0,.int 0 0,.ref 11,.bool false,.int 181 0,.ref 12,.none,.none,.none,.none,.int 185 0,.int 1 0,.str "/claim/cut.py" 186],#[]⟩,
 ⟨.type "frame",none,.plain,#[some (.ref 13),some (.ref 3),some (.ref 3),none,some (.str "__main__" 164),none,some (.ref 0)]⟩,
 tO [.type "ValueError"],
 ⟨.type "builtin_function_or_method",none,.fields #[.builtin "type.__prepare__",.type "type"],#[]⟩,
 dO [ent P "__module__" 196 (.str "glideways.errors" 187),ent P "__qualname__" 198 (.str "GlideError" 197),ent P "__firstlineno__" 200 (.int 2 199),ent P "__static_attributes__" 201 (.ref 22)] 4,
 tO [],
 fO [],
 ⟨.type "code",none,.fields #[.str "GlideError" 191,.str "GlideError" 192,.str "/claim/cut.py" 193,.int 2 0,.int 0 0,.int 0 0,.int 0 0,.int 0 0,.ref 18,.bool false,.int 181 0,.ref 19,.none,.none,.none,.none,.int 194 0,.int 2 0,.str "/claim/cut.py" 195],#[]⟩,
 ⟨.type "frame",none,.plain,#[some (.ref 20),some (.ref 3),some (.ref 17),none,some (.str "glideways.errors" 187),none,some (.ref 0)]⟩,
 tO [],
 dO [ent P "__module__" 196 (.str "glideways.errors" 187),ent P "__firstlineno__" 200 (.int 2 199),ent P "__static_attributes__" 201 (.ref 22),ent P "__weakref__" 203 (.ref 25),ent P "__doc__" 204 (.none)] 3,
 ⟨.type "type",none,.cls { name:="GlideError",bases:=[.type "ValueError"],mro:=[.ref 24,.type "ValueError",.type "Exception",.type "BaseException",.type "object"],ns:=23,qualname:="GlideError",hasDict:=true,slotNames:=[],subclasses:=[.ref 37,.ref 49,.ref 61,.ref 73],abstract:=false,hasDel:=false },#[some (.ref 15),none,some (.str "GlideError" 189),some (.str "GlideError" 197),some (.builtin "ValueError.__new__"),some (.bool true)]⟩,
 ⟨.type "getset_descriptor",none,.fields #[.str "__weakref__" 202,.ref 24,.builtin "ExceptionGroup.__weakref__",.none],#[]⟩,
 ⟨.type "super",none,.fields #[.ref 24,.ref 24,.ref 24],#[]⟩,
 ⟨.type "builtin_function_or_method",none,.fields #[.builtin "object.__init_subclass__",.ref 24],#[]⟩,
 tO [.ref 24],
 ⟨.type "builtin_function_or_method",none,.fields #[.builtin "type.__prepare__",.type "type"],#[]⟩,
 dO [ent P "__module__" 214 (.str "glideways.errors" 187),ent P "__qualname__" 216 (.str "NoFrac" 215),ent P "__firstlineno__" 218 (.int 4 217),ent P "__static_attributes__" 219 (.ref 35)] 4,
 tO [],
 fO [],
 ⟨.type "code",none,.fields #[.str "NoFrac" 209,.str "NoFrac" 210,.str "/claim/cut.py" 211,.int 4 0,.int 0 0,.int 0 0,.int 0 0,.int 0 0,.ref 31,.bool false,.int 181 0,.ref 32,.none,.none,.none,.none,.int 212 0,.int 4 0,.str "/claim/cut.py" 213],#[]⟩,
 ⟨.type "frame",none,.plain,#[some (.ref 33),some (.ref 3),some (.ref 30),none,some (.str "glideways.errors" 187),none,some (.ref 0)]⟩,
 tO [],
 dO [ent P "__module__" 214 (.str "glideways.errors" 187),ent P "__firstlineno__" 218 (.int 4 217),ent P "__static_attributes__" 219 (.ref 35),ent P "__doc__" 220 (.none)] 2,
 ⟨.type "type",none,.cls { name:="NoFrac",bases:=[.ref 24],mro:=[.ref 37,.ref 24,.type "ValueError",.type "Exception",.type "BaseException",.type "object"],ns:=36,qualname:="NoFrac",hasDict:=true,slotNames:=[],subclasses:=[],abstract:=false,hasDel:=false },#[some (.ref 28),none,some (.str "NoFrac" 207),some (.str "NoFrac" 215),some (.builtin "ValueError.__new__"),some (.bool true)]⟩,
 ⟨.type "super",none,.fields #[.ref 37,.ref 37,.ref 37],#[]⟩,
 ⟨.type "builtin_function_or_method",none,.fields #[.builtin "object.__init_subclass__",.ref 37],#[]⟩,
 tO [.ref 24],
 ⟨.type "builtin_function_or_method",none,.fields #[.builtin "type.__prepare__",.type "type"],#[]⟩,
 dO [ent P "__module__" 230 (.str "glideways.errors" 187),ent P "__qualname__" 232 (.str "NoKind" 231),ent P "__firstlineno__" 234 (.int 6 233),ent P "__static_attributes__" 235 (.ref 47)] 4,
 tO [],
 fO [],
 ⟨.type "code",none,.fields #[.str "NoKind" 225,.str "NoKind" 226,.str "/claim/cut.py" 227,.int 6 0,.int 0 0,.int 0 0,.int 0 0,.int 0 0,.ref 43,.bool false,.int 181 0,.ref 44,.none,.none,.none,.none,.int 228 0,.int 6 0,.str "/claim/cut.py" 229],#[]⟩,
 ⟨.type "frame",none,.plain,#[some (.ref 45),some (.ref 3),some (.ref 42),none,some (.str "glideways.errors" 187),none,some (.ref 0)]⟩,
 tO [],
 dO [ent P "__module__" 230 (.str "glideways.errors" 187),ent P "__firstlineno__" 234 (.int 6 233),ent P "__static_attributes__" 235 (.ref 47),ent P "__doc__" 236 (.none)] 2,
 ⟨.type "type",none,.cls { name:="NoKind",bases:=[.ref 24],mro:=[.ref 49,.ref 24,.type "ValueError",.type "Exception",.type "BaseException",.type "object"],ns:=48,qualname:="NoKind",hasDict:=true,slotNames:=[],subclasses:=[],abstract:=false,hasDel:=false },#[some (.ref 40),none,some (.str "NoKind" 223),some (.str "NoKind" 231),some (.builtin "ValueError.__new__"),some (.bool true)]⟩,
 ⟨.type "super",none,.fields #[.ref 49,.ref 49,.ref 49],#[]⟩,
 ⟨.type "builtin_function_or_method",none,.fields #[.builtin "object.__init_subclass__",.ref 49],#[]⟩,
 tO [.ref 24],
 ⟨.type "builtin_function_or_method",none,.fields #[.builtin "type.__prepare__",.type "type"],#[]⟩,
 dO [ent P "__module__" 246 (.str "glideways.errors" 187),ent P "__qualname__" 248 (.str "NoPlan" 247),ent P "__firstlineno__" 250 (.int 8 249),ent P "__static_attributes__" 251 (.ref 59)] 4,
 tO [],
 fO [],
 ⟨.type "code",none,.fields #[.str "NoPlan" 241,.str "NoPlan" 242,.str "/claim/cut.py" 243,.int 8 0,.int 0 0,.int 0 0,.int 0 0,.int 0 0,.ref 55,.bool false,.int 181 0,.ref 56,.none,.none,.none,.none,.int 244 0,.int 8 0,.str "/claim/cut.py" 245],#[]⟩,
 ⟨.type "frame",none,.plain,#[some (.ref 57),some (.ref 3),some (.ref 54),none,some (.str "glideways.errors" 187),none,some (.ref 0)]⟩,
 tO [],
 dO [ent P "__module__" 246 (.str "glideways.errors" 187),ent P "__firstlineno__" 250 (.int 8 249),ent P "__static_attributes__" 251 (.ref 59),ent P "__doc__" 252 (.none)] 2,
 ⟨.type "type",none,.cls { name:="NoPlan",bases:=[.ref 24],mro:=[.ref 61,.ref 24,.type "ValueError",.type "Exception",.type "BaseException",.type "object"],ns:=60,qualname:="NoPlan",hasDict:=true,slotNames:=[],subclasses:=[],abstract:=false,hasDel:=false },#[some (.ref 52),none,some (.str "NoPlan" 239),some (.str "NoPlan" 247),some (.builtin "ValueError.__new__"),some (.bool true)]⟩,
 ⟨.type "super",none,.fields #[.ref 61,.ref 61,.ref 61],#[]⟩,
 ⟨.type "builtin_function_or_method",none,.fields #[.builtin "object.__init_subclass__",.ref 61],#[]⟩,
 tO [.ref 24],
 ⟨.type "builtin_function_or_method",none,.fields #[.builtin "type.__prepare__",.type "type"],#[]⟩,
 dO [ent P "__module__" 262 (.str "glideways.errors" 187),ent P "__qualname__" 264 (.str "NoName" 263),ent P "__firstlineno__" 266 (.int 10 265),ent P "__static_attributes__" 267 (.ref 71)] 4,
 tO [],
 fO [],
 ⟨.type "code",none,.fields #[.str "NoName" 257,.str "NoName" 258,.str "/claim/cut.py" 259,.int 10 0,.int 0 0,.int 0 0,.int 0 0,.int 0 0,.ref 67,.bool false,.int 181 0,.ref 68,.none,.none,.none,.none,.int 260 0,.int 10 0,.str "/claim/cut.py" 261],#[]⟩,
 ⟨.type "frame",none,.plain,#[some (.ref 69),some (.ref 3),some (.ref 66),none,some (.str "glideways.errors" 187),none,some (.ref 0)]⟩,
 tO [],
 dO [ent P "__module__" 262 (.str "glideways.errors" 187),ent P "__firstlineno__" 266 (.int 10 265),ent P "__static_attributes__" 267 (.ref 71),ent P "__doc__" 268 (.none)] 2,
 ⟨.type "type",none,.cls { name:="NoName",bases:=[.ref 24],mro:=[.ref 73,.ref 24,.type "ValueError",.type "Exception",.type "BaseException",.type "object"],ns:=72,qualname:="NoName",hasDict:=true,slotNames:=[],subclasses:=[],abstract:=false,hasDel:=false },#[some (.ref 64),none,some (.str "NoName" 255),some (.str "NoName" 263),some (.builtin "ValueError.__new__"),some (.bool true)]⟩,
 ⟨.type "super",none,.fields #[.ref 73,.ref 73,.ref 73],#[]⟩,
 ⟨.type "builtin_function_or_method",none,.fields #[.builtin "object.__init_subclass__",.ref 73],#[]⟩,
 tO [.int 0 273,.int 1 274],
 tO [.int 1 276,.int 1 277],
 tO [],
 fO [],
 tO (sqs 282 ["thing"]),
 tO [],
 f1 (top 9),
 cO "is_whole" 279 15 1 3 78 true 15 283,
 f2 (top 9) (.str "glideways.fracs" 271) 83,
 tO [],
 fO [],
 tO (sqs 289 ["one","other","found","rest","left"]),
 tO [],
 f1 (top 10),
 cO "common_divisor" 286 17 2 3 85 true 17 294,
 f2 (top 10) (.str "glideways.fracs" 271) 90,
 tO [],
 fO [],
 tO (sqs 300 ["thing","up","down"]),
 tO [],
 f1 (top 11),
 cO "is_frac" 297 25 1 3 92 true 25 303,
 f2 (top 11) (.str "glideways.fracs" 271) 97,
 tO [],
 fO [],
 tO (sqs 309 ["thing"]),
 tO [],
 f1 (top 12),
 cO "is_size" 306 33 1 3 99 true 33 310,
 f2 (top 12) (.str "glideways.fracs" 271) 104,
 tO [],
 fO [],
 tO (sqs 316 ["up","down","divisor"]),
 tO [],
 f1 (top 13),
 cO "frac" 313 35 2 3 106 true 35 319,
 f2 (top 13) (.str "glideways.fracs" 271) 111,
 tO [],
 fO [],
 tO (sqs 325 ["number"]),
 tO [],
 f1 (top 14),
 cO "whole" 322 42 1 3 113 true 42 326,
 f2 (top 14) (.str "glideways.fracs" 271) 118,
 tO [],
 fO [],
 tO (sqs 332 ["one","other"]),
 tO [],
 f1 (top 15),
 cO "plus" 329 44 2 3 120 true 44 334,
 f2 (top 15) (.str "glideways.fracs" 271) 125,
 tO [],
 fO [],
 tO (sqs 340 ["one","other"]),
 tO [],
 f1 (top 16),
 cO "minus" 337 46 2 3 127 true 46 342,
 f2 (top 16) (.str "glideways.fracs" 271) 132,
 tO [],
 fO [],
 tO (sqs 348 ["one","other"]),
 tO [],
 f1 (top 17),
 cO "times" 345 48 2 3 134 true 48 350,
 f2 (top 17) (.str "glideways.fracs" 271) 139,
 tO [],
 fO [],
 tO (sqs 356 ["one","other"]),
 tO [],
 f1 (top 18),
 cO "over" 353 50 2 3 141 true 50 358,
 f2 (top 18) (.str "glideways.fracs" 271) 146,
 tO [],
 fO [],
 tO (sqs 364 ["some","together","one"]),
 tO [],
 f1 (top 19),
 cO "all_plus" 361 52 1 3 148 true 52 367,
 f2 (top 19) (.str "glideways.fracs" 271) 153,
 tO [],
 fO [],
 tO (sqs 373 ["one","other"]),
 tO [],
 f1 (top 20),
 cO "is_less" 370 57 2 3 155 true 57 375,
 f2 (top 20) (.str "glideways.fracs" 271) 160,
 tO [],
 fO [],
 tO (sqs 381 ["some","least","one"]),
 tO [],
 f1 (top 21),
 cO "least_frac" 378 59 1 3 162 true 59 384,
 f2 (top 21) (.str "glideways.fracs" 271) 167,
 tO [],
 fO [],
 tO (sqs 390 ["some","most","one"]),
 tO [],
 f1 (top 22),
 cO "most_frac" 387 65 1 3 169 true 65 393,
 f2 (top 22) (.str "glideways.fracs" 271) 174,
 tO [],
 fO [],
 tO (sqs 399 ["one","other","part"]),
 tO [],
 f1 (top 23),
 cO "between" 396 71 3 3 176 true 71 402,
 f2 (top 23) (.str "glideways.fracs" 271) 181,
 tO (sqs 407 ["even","in","out","both","hold","jump"]),
 tO [],
 fO [],
 tO (sqs 417 ["thing"]),
 tO [],
 f1 (top 26),
 cO "is_kind" 414 75 1 3 184 true 75 418,
 f2 (top 26) (.str "glideways.kinds" 405) 189,
 tO [],
 fO [],
 tO (sqs 424 ["kind"]),
 tO [],
 f1 (top 27),
 cO "need_kind" 421 77 1 3 191 true 77 425,
 f2 (top 27) (.str "glideways.kinds" 405) 196,
 tO [],
 fO [],
 tO (sqs 431 ["part"]),
 tO [],
 f1 (top 28),
 cO "kept_within" 428 80 1 3 198 true 80 432,
 f2 (top 28) (.str "glideways.kinds" 405) 203,
 tO [],
 fO [],
 tO (sqs 438 ["kind","part","p"]),
 tO [],
 f1 (top 29),
 cO "eased" 435 82 2 3 205 true 82 441,
 f2 (top 29) (.str "glideways.kinds" 405) 210,
 tO [.int 0 460,.int 1 461],
 tO [.int 0 462,.int 1 463],
 tO [.ref 212,.ref 213],
 tO [],
 fO [],
 tO (sqs 468 ["start","goal","begin","long","kind"]),
 tO [],
 f1 (top 39),
 cO "plain_motion" 465 105 5 3 215 true 105 473,
 f2 (top 39) (.str "glideways.motions" 444) 220,
 tO [],
 fO [],
 tO (sqs 479 ["motion"]),
 tO [],
 f1 (top 40),
 cO "end_of" 476 107 1 3 222 true 107 480,
 f2 (top 40) (.str "glideways.motions" 444) 227,
 tO [],
 fO [],
 tO (sqs 486 ["motion","time"]),
 tO [],
 f1 (top 41),
 cO "part_at" 483 109 2 3 229 true 109 488,
 f2 (top 41) (.str "glideways.motions" 444) 234,
 tO [],
 fO [],
 tO (sqs 494 ["motion","time","part"]),
 tO [],
 f1 (top 42),
 cO "worth_at" 491 111 2 3 236 true 111 497,
 f2 (top 42) (.str "glideways.motions" 444) 241,
 tO [],
 fO [],
 tO (sqs 503 ["motion","p","square","cube","by_first","by_last","by_speeds"]),
 tO [],
 f1 (top 43),
 cO "kept_worth" 500 116 2 3 243 true 116 510,
 f2 (top 43) (.str "glideways.motions" 444) 248,
 tO [],
 fO [],
 tO (sqs 516 ["motion","begin"]),
 tO [],
 f1 (top 44),
 cO "begun_at" 513 123 2 3 250 true 123 518,
 f2 (top 44) (.str "glideways.motions" 444) 255,
 tO [],
 fO [],
 tO (sqs 524 ["motion","by"]),
 tO [],
 f1 (top 45),
 cO "moved" 521 125 2 3 257 true 125 526,
 f2 (top 45) (.str "glideways.motions" 444) 262,
 tO [],
 fO [],
 tO (sqs 538 ["track"]),
 tO [],
 f1 (top 49),
 cO "end_time" 535 130 1 3 264 true 130 539,
 f2 (top 49) (.str "glideways.tracks" 529) 269,
 tO [],
 fO [],
 tO (sqs 545 ["track"]),
 tO [],
 f1 (top 50),
 cO "last_worth" 542 134 1 3 271 true 134 546,
 f2 (top 50) (.str "glideways.tracks" 529) 276,
 tO [],
 fO [],
 f1 (top 51),
 ⟨.type "code",none,.fields #[.str "begun_by" 549,.str "begun_by" 550,.str "/claim/cut.py" 551,.int 138 0,.int 2 0,.int 0 0,.int 0 0,.int 3 0,.ref 278,.bool true,.int 181 0,.ref 279,.none,.none,.none,.ref 280,.int 552 0,.int 138 0,.str "/claim/cut.py" 553],#[]⟩,
 f2 (top 51) (.str "glideways.tracks" 529) 281,
 tO [],
 fO [],
 tO (sqs 558 ["track","time","begun"]),
 tO [],
 f1 (top 52),
 cO "worth_of" 555 140 2 3 283 true 140 561,
 f2 (top 52) (.str "glideways.tracks" 529) 288,
 tO [],
 fO [],
 f1 (top 53),
 ⟨.type "code",none,.fields #[.str "track_moved" 564,.str "track_moved" 565,.str "/claim/cut.py" 566,.int 145 0,.int 2 0,.int 0 0,.int 0 0,.int 3 0,.ref 290,.bool true,.int 181 0,.ref 291,.none,.none,.none,.ref 292,.int 567 0,.int 145 0,.str "/claim/cut.py" 568],#[]⟩,
 f2 (top 53) (.str "glideways.tracks" 529) 293,
 tO [],
 fO [],
 tO (sqs 579 ["thing"]),
 tO [],
 f1 (top 57),
 cO "is_plan" 576 150 1 3 295 true 150 580,
 f2 (top 57) (.str "glideways.plans" 570) 300,
 tO [],
 fO [],
 tO (sqs 586 ["thing","deep","word"]),
 tO [],
 f1 (top 58),
 cO "is_plan_within" 583 152 2 3 302 true 152 589,
 f2 (top 58) (.str "glideways.plans" 570) 307,
 tO [],
 fO [],
 tO (sqs 595 ["thing"]),
 tO [],
 f1 (top 59),
 cO "is_many" 592 165 1 3 309 true 165 596,
 f2 (top 59) (.str "glideways.plans" 570) 314,
 tO [],
 fO [],
 tO (sqs 602 ["plan"]),
 tO [],
 f1 (top 60),
 cO "need_plan" 599 167 1 3 316 true 167 603,
 f2 (top 60) (.str "glideways.plans" 570) 321,
 tO [],
 fO [],
 tO (sqs 609 ["plan"]),
 tO [],
 f1 (top 61),
 cO "steps_of" 606 170 1 3 323 true 170 610,
 f2 (top 61) (.str "glideways.plans" 570) 328,
 tO [],
 fO [],
 tO (sqs 616 ["step"]),
 tO [],
 f1 (top 62),
 cO "step_size" 613 176 1 3 330 true 176 617,
 f2 (top 62) (.str "glideways.plans" 570) 335,
 tO [],
 fO [],
 f1 (top 63),
 ⟨.type "code",none,.fields #[.str "size_of" 620,.str "size_of" 621,.str "/claim/cut.py" 622,.int 178 0,.int 1 0,.int 0 0,.int 0 0,.int 3 0,.ref 337,.bool true,.int 181 0,.ref 338,.none,.none,.none,.ref 339,.int 623 0,.int 178 0,.str "/claim/cut.py" 624],#[]⟩,
 f2 (top 63) (.str "glideways.plans" 570) 340,
 tO [],
 fO [],
 tO (sqs 629 ["step","here"]),
 tO [],
 f1 (top 64),
 cO "step_goal" 626 180 2 3 342 true 180 631,
 f2 (top 64) (.str "glideways.plans" 570) 347,
 tO [],
 fO [],
 tO (sqs 637 ["plan","worth","begin","motions","here","now","step","goal"]),
 tO [],
 f1 (top 65),
 cO "played" 634 186 3 3 349 true 186 645,
 f2 (top 65) (.str "glideways.plans" 570) 354,
 tO [],
 fO [],
 tO (sqs 651 ["plan","worth"]),
 tO [],
 f1 (top 66),
 cO "end_worth" 648 198 2 3 356 true 198 653,
 f2 (top 66) (.str "glideways.plans" 570) 361,
 tO [],
 fO [],
 tO (sqs 661 ["sheet","time","worths","name"]),
 tO [],
 f1 (top 68),
 cO "shown" 658 201 2 3 363 true 201 665,
 f2 (top 68) (.str "glideways.sheets" 656) 368,
 tO [],
 fO [],
 f1 (top 69),
 ⟨.type "code",none,.fields #[.str "last_end" 668,.str "last_end" 669,.str "/claim/cut.py" 670,.int 206 0,.int 1 0,.int 0 0,.int 0 0,.int 3 0,.ref 370,.bool true,.int 181 0,.ref 371,.none,.none,.none,.ref 372,.int 671 0,.int 206 0,.str "/claim/cut.py" 672],#[]⟩,
 f2 (top 69) (.str "glideways.sheets" 656) 373,
 tO [],
 fO [],
 f1 (top 70),
 ⟨.type "code",none,.fields #[.str "added" 674,.str "added" 675,.str "/claim/cut.py" 676,.int 210 0,.int 2 0,.int 0 0,.int 0 0,.int 3 0,.ref 375,.bool true,.int 181 0,.ref 376,.none,.none,.none,.ref 377,.int 677 0,.int 210 0,.str "/claim/cut.py" 678],#[]⟩,
 f2 (top 70) (.str "glideways.sheets" 656) 378,
 tO [],
 fO [],
 tO (sqs 683 ["sheet","name","track","found"]),
 tO [],
 f1 (top 71),
 cO "with_track" 680 212 3 3 380 true 212 687,
 f2 (top 71) (.str "glideways.sheets" 656) 385,
 tO [],
 fO [],
 tO (sqs 693 ["sheet","name"]),
 tO [],
 f1 (top 72),
 cO "need_name" 690 216 2 3 387 true 216 695,
 f2 (top 72) (.str "glideways.sheets" 656) 392,
 tO [],
 fO [],
 tO (sqs 701 ["sheet","name","by"]),
 tO [],
 f1 (top 73),
 cO "put_off" 698 219 3 3 394 true 219 704,
 f2 (top 73) (.str "glideways.sheets" 656) 399,
 tO [],
 fO [],
 tO (sqs 710 ["names","plan","worth","begin","gap","sheet","now","name"]),
 tO [],
 f1 (top 74),
 cO "staggered" 707 222 5 3 401 true 222 718,
 f2 (top 74) (.str "glideways.sheets" 656) 406,
 tO [],
 fO [],
 tO (sqs 726 ["_law_script","_law_k"]),
 tO [],
 f1 (top 76),
 cO "_law_cell" 723 231 2 3 408 true 231 728,
 f2 (top 76) (.str "law_glideways_k61_whole_staggered" 721) 413,
 tO [],
 fO [],
 tO (sqs 734 ["_law_script","_law_k","_law_many","_law_drawn"]),
 tO [],
 f1 (top 77),
 cO "_law_pick" 731 237 3 3 415 true 237 738,
 f2 (top 77) (.str "law_glideways_k61_whole_staggered" 721) 420,
 tO [],
 fO [],
 tO (sqs 744 ["_law_one","_law_other"]),
 tO [],
 f1 (top 78),
 cO "_law_divisor" 741 240 2 3 422 true 240 746,
 f2 (top 78) (.str "law_glideways_k61_whole_staggered" 721) 427,
 tO [],
 fO [],
 tO (sqs 752 ["_law_up","_law_down","_law_size_here"]),
 tO [],
 f1 (top 79),
 cO "_law_made" 749 244 2 3 429 true 244 755,
 f2 (top 79) (.str "law_glideways_k61_whole_staggered" 721) 434,
 tO [],
 fO [],
 tO (sqs 761 ["_law_script","_law_at","_law_down"]),
 tO [],
 f1 (top 80),
 cO "_law_frac" 758 247 2 3 436 true 247 764,
 f2 (top 80) (.str "law_glideways_k61_whole_staggered" 721) 441,
 tO [],
 fO [],
 tO (sqs 770 ["_law_script","_law_at","_law_down"]),
 tO [],
 f1 (top 81),
 cO "_law_size" 767 250 2 3 443 true 250 773,
 f2 (top 81) (.str "law_glideways_k61_whole_staggered" 721) 448,
 tO [],
 fO [],
 tO (sqs 779 ["_law_one","_law_other"]),
 tO [],
 f1 (top 82),
 cO "_law_plus" 776 253 2 3 450 true 253 781,
 f2 (top 82) (.str "law_glideways_k61_whole_staggered" 721) 455,
 tO [],
 fO [],
 tO (sqs 787 ["_law_one","_law_other"]),
 tO [],
 f1 (top 83),
 cO "_law_minus" 784 255 2 3 457 true 255 789,
 f2 (top 83) (.str "law_glideways_k61_whole_staggered" 721) 462,
 tO [],
 fO [],
 tO (sqs 795 ["_law_one","_law_other"]),
 tO [],
 f1 (top 84),
 cO "_law_times" 792 257 2 3 464 true 257 797,
 f2 (top 84) (.str "law_glideways_k61_whole_staggered" 721) 469,
 tO [],
 fO [],
 tO (sqs 803 ["_law_one","_law_other"]),
 tO [],
 f1 (top 85),
 cO "_law_over" 800 259 2 3 471 true 259 805,
 f2 (top 85) (.str "law_glideways_k61_whole_staggered" 721) 476,
 tO [],
 fO [],
 tO (sqs 811 ["_law_one","_law_other"]),
 tO [],
 f1 (top 86),
 cO "_law_less" 808 261 2 3 478 true 261 813,
 f2 (top 86) (.str "law_glideways_k61_whole_staggered" 721) 483,
 tO [],
 fO [],
 tO (sqs 819 ["_law_script","_law_at"]),
 tO [],
 f1 (top 87),
 cO "_law_kind" 816 263 2 3 485 true 263 821,
 f2 (top 87) (.str "law_glideways_k61_whole_staggered" 721) 490,
 tO [],
 fO [],
 tO (sqs 827 ["_law_kind_here","_law_part","_law_up","_law_down"]),
 tO [],
 f1 (top 88),
 cO "_law_eased" 824 265 2 3 492 true 265 831,
 f2 (top 88) (.str "law_glideways_k61_whole_staggered" 721) 497,
 tO [],
 fO [],
 tO (sqs 837 ["_law_script","_law_at","_law_deep","_law_way","_law_step","_law_word","_law_one"]),
 tO [],
 f1 (top 89),
 cO "_law_plan" 834 280 3 3 499 true 280 844,
 f2 (top 89) (.str "law_glideways_k61_whole_staggered" 721) 504,
 tO [],
 fO [],
 tO (sqs 850 ["_law_plan_here","_law_made_here","_law_again"]),
 tO [],
 f1 (top 90),
 cO "_law_steps" 847 292 1 3 506 true 292 853,
 f2 (top 90) (.str "law_glideways_k61_whole_staggered" 721) 511,
 tO [],
 fO [],
 tO (sqs 859 ["_law_script","_law_plan_here","_law_worth","_law_begin","_law_gap","_law_names","_law_sheet","_law_k","_law_time","_law_rows","_law_before","_law_one","_law_other","_law_late"]),
 tO [],
 f1 (top 91),
 cO "law" 856 301 1 3 513 true 301 873,
 f2 (top 91) (.str "law_glideways_k61_whole_staggered" 721) 518]
noncomputable def l0 (P:Params):List Obj:=put 12 (fO (twelve.take 0)) (put 3 (JDW P 9 9 (.str "__main__" 164)) ((ob P).take 15))
noncomputable def l1 (P:Params):List Obj:=put 24 (⟨.type "type",none,.cls { name:="GlideError",bases:=[.type "ValueError"],mro:=[.ref 24,.type "ValueError",.type "Exception",.type "BaseException",.type "object"],ns:=23,qualname:="GlideError",hasDict:=true,slotNames:=[],subclasses:=[.ref 37],abstract:=false,hasDel:=false },#[some (.ref 15),none,some (.str "GlideError" 189),some (.str "GlideError" 197),some (.builtin "ValueError.__new__"),some (.bool true)]⟩) (put 12 (fO (twelve.take 6)) (put 3 (JDW P 11 11 (.str "glideways.errors" 187)) ((ob P).take 40)))
theorem p0:∀(w:World) (os:OsState),segRunT treeTable prog w 11 (some (.ref 6)) 1 409 (sT (l0 w.params) 15 187 os) (piecesOf ((prog.main.body.drop 0).take 3) (envOf prog) (cdOf prog) ⟨0,0,0,0⟩ [topFrame rP])=some (.next,sT (l1 w.params) 40 223 os,cdOf prog,⟨4,0,5,8⟩):=fun w os=>by kernel_rfl
noncomputable def l2 (P:Params):List Obj:=put 24 (⟨.type "type",none,.cls { name:="GlideError",bases:=[.type "ValueError"],mro:=[.ref 24,.type "ValueError",.type "Exception",.type "BaseException",.type "object"],ns:=23,qualname:="GlideError",hasDict:=true,slotNames:=[],subclasses:=[.ref 37,.ref 49],abstract:=false,hasDel:=false },#[some (.ref 15),none,some (.str "GlideError" 189),some (.str "GlideError" 197),some (.builtin "ValueError.__new__"),some (.bool true)]⟩) (put 12 (fO (twelve.take 9)) (put 3 (JDW P 12 12 (.str "glideways.errors" 187)) ((ob P).take 52)))
theorem p1:∀(w:World) (os:OsState),segRunT treeTable prog w 11 (some (.ref 6)) 1 214 (sT (l1 w.params) 40 223 os) (piecesOf ((prog.main.body.drop 3).take 1) (envOf prog) (cdOf prog) ⟨4,0,5,8⟩ [topFrame rP])=some (.next,sT (l2 w.params) 52 239 os,cdOf prog,⟨6,0,7,8⟩):=fun w os=>by kernel_rfl
noncomputable def l3 (P:Params):List Obj:=put 24 (⟨.type "type",none,.cls { name:="GlideError",bases:=[.type "ValueError"],mro:=[.ref 24,.type "ValueError",.type "Exception",.type "BaseException",.type "object"],ns:=23,qualname:="GlideError",hasDict:=true,slotNames:=[],subclasses:=[.ref 37,.ref 49,.ref 61],abstract:=false,hasDel:=false },#[some (.ref 15),none,some (.str "GlideError" 189),some (.str "GlideError" 197),some (.builtin "ValueError.__new__"),some (.bool true)]⟩) (put 12 (fO (twelve.take 12)) (put 3 (JDW P 13 13 (.str "glideways.errors" 187)) ((ob P).take 64)))
theorem p2:∀(w:World) (os:OsState),segRunT treeTable prog w 11 (some (.ref 6)) 1 214 (sT (l2 w.params) 52 239 os) (piecesOf ((prog.main.body.drop 4).take 1) (envOf prog) (cdOf prog) ⟨6,0,7,8⟩ [topFrame rP])=some (.next,sT (l3 w.params) 64 255 os,cdOf prog,⟨8,0,9,8⟩):=fun w os=>by kernel_rfl
noncomputable def l4 (P:Params):List Obj:=put 12 (fO (twelve.take 30)) (put 3 (JDW P 21 21 (.str "glideways.fracs" 271)) ((ob P).take 113))
theorem p3:∀(w:World) (os:OsState),segRunT treeTable prog w 11 (some (.ref 6)) 1 400 (sT (l3 w.params) 64 255 os) (piecesOf ((prog.main.body.drop 5).take 9) (envOf prog) (cdOf prog) ⟨8,0,9,8⟩ [topFrame rP])=some (.next,sT (l4 w.params) 113 322 os,cdOf prog,⟨35,0,41,43⟩):=fun w os=>by kernel_rfl
noncomputable def l5 (P:Params):List Obj:=put 12 (fO (twelve.take 69)) (put 3 (JDW P 35 35 (.str "glideways.kinds" 405)) ((ob P).take 205))
theorem p4:∀(w:World) (os:OsState),segRunT treeTable prog w 11 (some (.ref 6)) 1 416 (sT (l4 w.params) 113 322 os) (piecesOf ((prog.main.body.drop 14).take 15) (envOf prog) (cdOf prog) ⟨35,0,41,43⟩ [topFrame rP])=some (.next,sT (l5 w.params) 205 435 os,cdOf prog,⟨80,0,81,53⟩):=fun w os=>by kernel_rfl
noncomputable def l6 (P:Params):List Obj:=put 12 (fO (twelve.take 96)) (put 3 (JDW P 54 54 (.str "glideways.tracks" 529)) ((ob P).take 271))
theorem p5:∀(w:World) (os:OsState),segRunT treeTable prog w 11 (some (.ref 6)) 1 396 (sT (l5 w.params) 205 435 os) (piecesOf ((prog.main.body.drop 29).take 21) (envOf prog) (cdOf prog) ⟨80,0,81,53⟩ [topFrame rP])=some (.next,sT (l6 w.params) 271 542 os,cdOf prog,⟨130,0,133,37⟩):=fun w os=>by kernel_rfl
noncomputable def l7 (P:Params):List Obj:=put 12 (fO (twelve.take 135)) (put 3 (JDW P 69 69 (.str "glideways.plans" 570)) ((ob P).take 356))
theorem p6:∀(w:World) (os:OsState),segRunT treeTable prog w 11 (some (.ref 6)) 1 408 (sT (l6 w.params) 271 542 os) (piecesOf ((prog.main.body.drop 50).take 16) (envOf prog) (cdOf prog) ⟨130,0,133,37⟩ [topFrame rP])=some (.next,sT (l7 w.params) 356 648 os,cdOf prog,⟨186,0,197,34⟩):=fun w os=>by kernel_rfl
noncomputable def l8 (P:Params):List Obj:=put 12 (fO (twelve.take 174)) (put 3 (JDW P 82 82 (.str "law_glideways_k61_whole_staggered" 721)) ((ob P).take 443))
theorem p7:∀(w:World) (os:OsState),segRunT treeTable prog w 11 (some (.ref 6)) 1 416 (sT (l7 w.params) 356 648 os) (piecesOf ((prog.main.body.drop 66).take 15) (envOf prog) (cdOf prog) ⟨186,0,197,34⟩ [topFrame rP])=some (.next,sT (l8 w.params) 443 767 os,cdOf prog,⟨247,0,249,104⟩):=fun w os=>by kernel_rfl
noncomputable def l9 (P:Params):List Obj:=ob P
theorem p8:∀(w:World) (os:OsState),segRunT treeTable prog w 11 (some (.ref 6)) 1 352 (sT (l8 w.params) 443 767 os) (piecesOf ((prog.main.body.drop 81).take 11) (envOf prog) (cdOf prog) ⟨247,0,249,104⟩ [topFrame rP])=some (.next,sT (l9 w.params) 520 876 os,cdOf prog,⟨301,0,325,114⟩):=fun w os=>by kernel_rfl
theorem pre (w:World) (os:OsState):topGo treeTable prog w 11 (some (.ref 6)) 12 ⟨boot_heap w.params,Array.mk [],boot_drawn,boot_toks,os⟩ (topStub prog)=some (sH (l0 w.params) 187 os,⟨denote treeTable (cdOf prog),cdOf prog,⟨0,0,0,0⟩,[topFrame rP]⟩):=by kernel_rfl
theorem blk (w:World) (os:OsState):segRun treeTable prog w 11 (some (.ref 6)) 1 1 (sH (l0 w.params) 187 os) (blockOf (behindTheImports prog) (envOf prog) (cdOf prog) ⟨0,0,0,0⟩ [topFrame rP])=some (.next,(sT (l0 w.params) 15 187 os).abs,cdOf prog,⟨0,0,0,0⟩):=by kernel_rfl
theorem fin (w:World) (os:OsState):topRun treeTable prog w 11 (some (.ref 6)) 2 (sT (l9 w.params) 520 876 os).abs ⟨doneF .next,cdOf prog,⟨301,0,325,114⟩,[topFrame rP]⟩=some (sH (l9 w.params) 876 os):=by kernel_rfl
theorem body:behindTheImports prog=(((prog.main.body.drop 0).take 3)++(((prog.main.body.drop 3).take 1)++(((prog.main.body.drop 4).take 1)++(((prog.main.body.drop 5).take 9)++(((prog.main.body.drop 14).take 15)++(((prog.main.body.drop 29).take 21)++(((prog.main.body.drop 50).take 16)++(((prog.main.body.drop 66).take 15)++(((prog.main.body.drop 81).take 11)++[]))))))))):=by kernel_rfl
theorem rn (w:World) (os:OsState):topRun treeTable prog w 11 (some (.ref 6)) (12+(1+(409+(214+(214+(400+(416+(396+(408+(416+(352+2))))))))))) ⟨boot_heap w.params,Array.mk [],boot_drawn,boot_toks,os⟩ (topStub prog)=some (sH (l9 w.params) 876 os) :=
 go_top (pre w os) (piece_block (blk w os) (body▸(piece_app (segRun_of (p0 w os)) (piece_app (segRun_of (p1 w os)) (piece_app (segRun_of (p2 w os)) (piece_app (segRun_of (p3 w os)) (piece_app (segRun_of (p4 w os)) (piece_app (segRun_of (p5 w os)) (piece_app (segRun_of (p6 w os)) (piece_app (segRun_of (p7 w os)) (piece_app (segRun_of (p8 w os)) (piece_nil (fin w os)))))))))))))
noncomputable def ktok:Nat:=876
noncomputable def view:Program:={ prog with main:={ prog.main with body:=[top 91] } }
noncomputable def loose:List Str:=(["GlideError","NoFrac","NoKind","NoPlan","NoName","ZERO","ONE","is_whole","common_divisor","is_frac","is_size","frac","whole","plus","minus","times","over","all_plus","is_less","least_frac","most_frac","between","KINDS","is_kind","need_kind","kept_within","eased","START","GOAL","BEGIN","LONG","KIND","SPEEDS","KEPT","NO_SPEEDS","plain_motion","end_of","part_at","worth_at","kept_worth","begun_at","moved","FIRST","MOTIONS","end_time","last_worth","begun_by","worth_of","track_moved","DEEPEST","MOST_AGAIN","is_plan","is_plan_within","is_many","need_plan","steps_of","step_size","size_of","step_goal","played","end_worth","shown","last_end","added","with_track","need_name","put_off","staggered","_law_cell","_law_pick","_law_divisor","_law_made","_law_frac","_law_size","_law_plus","_law_minus","_law_times","_law_over","_law_less","_law_kind","_law_eased","_law_plan","_law_steps"]:List String).map Str.ofString
noncomputable def K (P:Params):Frag:=(List.range 520).zip (ob P)
noncomputable def hk:Hook:=kHook K (List.range 520) (fun _=>by kernel_rfl)
theorem left:LeftO prog view loose (fun s=>xlAt view [] s&&recOk (RowW.records PySem.Challenge.rw_glideways_k61_whole_staggered.row.toRowW) s) hk.obs hk.val 7158 true :=
 LeftO.of_pieces (H₀:=boot_heap) (H₁:=fun P=>⟨(l9 P).toArray,{}⟩) (gs₀:=Array.mk []) (gs₁:=#[]) (d₀:=boot_drawn) (d₁:={}) (k₀:=boot_toks) (k₁:=ktok) (m₀:=11) (ann:=some (.ref 6))
  (boot_open (by kernel_rfl) (by decide) (fun s=>by kernel_rfl)) (fun w=>by kernel_rfl) (fun w os=>rn w os) (by decide +kernel) (fun w=>by kernel_rfl)
noncomputable def G:List (Str×GK):=[(("is_whole":Str),GK.fn 23),(("common_divisor":Str),GK.fn 0),(("is_frac":Str),GK.fn 24),(("is_size":Str),GK.fn 68),(("frac":Str),GK.fn 1),(("whole":Str),GK.fn 2),(("plus":Str),GK.fn 3),(("minus":Str),GK.fn 4),(("times":Str),GK.fn 5),(("over":Str),GK.fn 25),(("all_plus":Str),GK.fn 179),(("is_less":Str),GK.fn 6),(("least_frac":Str),GK.fn 7),(("most_frac":Str),GK.fn 8),(("between":Str),GK.fn 10),(("is_kind":Str),GK.fn 29),(("need_kind":Str),GK.fn 30),(("kept_within":Str),GK.fn 31),(("eased":Str),GK.fn 32),(("plain_motion":Str),GK.fn 80),(("end_of":Str),GK.fn 72),(("part_at":Str),GK.fn 46),(("worth_at":Str),GK.fn 48),(("kept_worth":Str),GK.fn 49),(("begun_at":Str),GK.fn 73),(("moved":Str),GK.fn 74),(("end_time":Str),GK.fn 83),(("last_worth":Str),GK.fn 84),(("begun_by":Str),GK.fn 96),(("worth_of":Str),GK.fn 97),(("track_moved":Str),GK.fn 105),(("is_plan":Str),GK.fn 140),(("is_plan_within":Str),GK.fn 141),(("is_many":Str),GK.fn 142),(("need_plan":Str),GK.fn 153),(("steps_of":Str),GK.fn 143),(("step_size":Str),GK.fn 144),(("size_of":Str),GK.fn 180),(("step_goal":Str),GK.fn 154),(("played":Str),GK.fn 155),(("end_worth":Str),GK.fn 156),(("shown":Str),GK.fn 236),(("last_end":Str),GK.fn 237),(("added":Str),GK.fn 238),(("with_track":Str),GK.fn 239),(("need_name":Str),GK.fn 240),(("put_off":Str),GK.fn 241),(("staggered":Str),GK.fn 242),(("_law_cell":Str),GK.fn 11),(("_law_pick":Str),GK.fn 12),(("_law_divisor":Str),GK.fn 13),(("_law_made":Str),GK.fn 14),(("_law_frac":Str),GK.fn 15),(("_law_size":Str),GK.fn 16),(("_law_plus":Str),GK.fn 17),(("_law_minus":Str),GK.fn 18),(("_law_times":Str),GK.fn 19),(("_law_kind":Str),GK.fn 35),(("_law_plan":Str),GK.fn 146),(("law":Str),GK.fn 243),(("ZERO":Str),GK.con 39),(("ONE":Str),GK.con 40),(("KINDS":Str),GK.con 41),(("START":Str),GK.con 55),(("GOAL":Str),GK.con 56),(("BEGIN":Str),GK.con 57),(("LONG":Str),GK.con 58),(("KIND":Str),GK.con 59),(("SPEEDS":Str),GK.con 60),(("KEPT":Str),GK.con 61),(("NO_SPEEDS":Str),GK.con 77),(("FIRST":Str),GK.con 93),(("MOTIONS":Str),GK.con 94),(("DEEPEST":Str),GK.con 151),(("MOST_AGAIN":Str),GK.con 152),(("NoFrac":Str),GK.cls 1),(("NoKind":Str),GK.cls 2),(("NoPlan":Str),GK.cls 3),(("NoName":Str),GK.cls 6),(("len":Str),GK.blt Blt.len),(("abs":Str),GK.blt Blt.abs),(("range":Str),GK.rng),(("isinstance":Str),GK.isi),(("sorted":Str),GK.nam),(("zip":Str),GK.nam),(("int":Str),GK.ty Ty.int),(("bool":Str),GK.ty Ty.bool),(("list":Str),GK.ty Ty.list),(("tuple":Str),GK.ty Ty.tuple),(("dict":Str),GK.ty Ty.dict),((".dict":Str),GK.opt),(("_law_sheet":Str),GK.opt),(("sheet":Str),GK.opt),(("found":Str),GK.nam),(("worths":Str),GK.nam),((".zip":Str),GK.opt)]
noncomputable abbrev tab:Nat->Option Fd:=tabA
noncomputable abbrev glo:Nat->R D:=gloA
theorem JHY:∀i c,glo i≠.exc c:=by
 intro i c h
 unfold glo gloA at h
 split at h<;>cases h
noncomputable def rs:List (Nat×List Nat):=[(3,[0,3])]
noncomputable def cl (k:Nat):Addr:=match k with | 1=>37 | 2=>49 | 3=>61 | 6=>73 | _=>0
theorem t_23:Turned G (top 9) ["thing"] ["thing"] d_23:=tuI
theorem b_23:JAF "is_whole" (top 9) ["thing"]:=bOk fun _ _ _ _ _ _ _=>rfl
theorem f_23 (P:Params):FnIn (K P) "is_whole" (top 9):=fnI 84 83 (.str "glideways.fracs" 271)
theorem t_0:Turned G (top 10) ["one","other","found","rest","left"] ["one","other"] d_0:=tuI
theorem b_0:JAF "common_divisor" (top 10) ["one","other"]:=bOk fun _ _ _ _ _ _ _ _=>rfl
theorem f_0 (P:Params):FnIn (K P) "common_divisor" (top 10):=fnI 91 90 (.str "glideways.fracs" 271)
theorem t_24:Turned G (top 11) ["thing","up","down"] ["thing"] d_24:=tuI
theorem b_24:JAF "is_frac" (top 11) ["thing"]:=bOk fun _ _ _ _ _ _ _=>rfl
theorem f_24 (P:Params):FnIn (K P) "is_frac" (top 11):=fnI 98 97 (.str "glideways.fracs" 271)
theorem t_68:Turned G (top 12) ["thing"] ["thing"] d_68:=tuI
theorem b_68:JAF "is_size" (top 12) ["thing"]:=bOk fun _ _ _ _ _ _ _=>rfl
theorem f_68 (P:Params):FnIn (K P) "is_size" (top 12):=fnI 105 104 (.str "glideways.fracs" 271)
theorem t_1:Turned G (top 13) ["up","down","divisor"] ["up","down"] d_1:=tuI
theorem b_1:JAF "frac" (top 13) ["up","down"]:=bOk fun _ _ _ _ _ _ _ _=>rfl
theorem f_1 (P:Params):FnIn (K P) "frac" (top 13):=fnI 112 111 (.str "glideways.fracs" 271)
theorem t_2:Turned G (top 14) ["number"] ["number"] d_2:=tuI
theorem b_2:JAF "whole" (top 14) ["number"]:=bOk fun _ _ _ _ _ _ _=>rfl
theorem f_2 (P:Params):FnIn (K P) "whole" (top 14):=fnI 119 118 (.str "glideways.fracs" 271)
theorem t_3:Turned G (top 15) ["one","other"] ["one","other"] d_3:=tuI
theorem b_3:JAF "plus" (top 15) ["one","other"]:=bOk fun _ _ _ _ _ _ _ _=>rfl
theorem f_3 (P:Params):FnIn (K P) "plus" (top 15):=fnI 126 125 (.str "glideways.fracs" 271)
theorem t_4:Turned G (top 16) ["one","other"] ["one","other"] d_4:=tuI
theorem b_4:JAF "minus" (top 16) ["one","other"]:=bOk fun _ _ _ _ _ _ _ _=>rfl
theorem f_4 (P:Params):FnIn (K P) "minus" (top 16):=fnI 133 132 (.str "glideways.fracs" 271)
theorem t_5:Turned G (top 17) ["one","other"] ["one","other"] d_5:=tuI
theorem b_5:JAF "times" (top 17) ["one","other"]:=bOk fun _ _ _ _ _ _ _ _=>rfl
theorem f_5 (P:Params):FnIn (K P) "times" (top 17):=fnI 140 139 (.str "glideways.fracs" 271)
theorem t_25:Turned G (top 18) ["one","other"] ["one","other"] d_25:=tuI
theorem b_25:JAF "over" (top 18) ["one","other"]:=bOk fun _ _ _ _ _ _ _ _=>rfl
theorem f_25 (P:Params):FnIn (K P) "over" (top 18):=fnI 147 146 (.str "glideways.fracs" 271)
theorem t_179:Turned G (top 19) ["some","together","one"] ["some"] JHE:=tuI
theorem JIA:JAF "all_plus" (top 19) ["some"]:=bOk fun _ _ _ _ _ _ _=>rfl
theorem f_179 (P:Params):FnIn (K P) "all_plus" (top 19):=fnI 154 153 (.str "glideways.fracs" 271)
theorem t_6:Turned G (top 20) ["one","other"] ["one","other"] d_6:=tuI
theorem b_6:JAF "is_less" (top 20) ["one","other"]:=bOk fun _ _ _ _ _ _ _ _=>rfl
theorem f_6 (P:Params):FnIn (K P) "is_less" (top 20):=fnI 161 160 (.str "glideways.fracs" 271)
theorem t_7:Turned G (top 21) ["some","least","one"] ["some"] d_7:=tuI
theorem b_7:JAF "least_frac" (top 21) ["some"]:=bOk fun _ _ _ _ _ _ _=>rfl
theorem f_7 (P:Params):FnIn (K P) "least_frac" (top 21):=fnI 168 167 (.str "glideways.fracs" 271)
theorem t_8:Turned G (top 22) ["some","most","one"] ["some"] d_8:=tuI
theorem b_8:JAF "most_frac" (top 22) ["some"]:=bOk fun _ _ _ _ _ _ _=>rfl
theorem f_8 (P:Params):FnIn (K P) "most_frac" (top 22):=fnI 175 174 (.str "glideways.fracs" 271)
theorem t_10:Turned G (top 23) ["one","other","part"] ["one","other","part"] d_10:=tuI
theorem b_10:JAF "between" (top 23) ["one","other","part"]:=bOk fun _ _ _ _ _ _ _ _ _=>rfl
theorem f_10 (P:Params):FnIn (K P) "between" (top 23):=fnI 182 181 (.str "glideways.fracs" 271)
theorem t_29:Turned G (top 26) ["thing"] ["thing"] d_29:=tuI
theorem b_29:JAF "is_kind" (top 26) ["thing"]:=bOk fun _ _ _ _ _ _ _=>rfl
theorem f_29 (P:Params):FnIn (K P) "is_kind" (top 26):=fnI 190 189 (.str "glideways.kinds" 405)
theorem t_30:Turned G (top 27) ["kind"] ["kind"] d_30:=tuI
theorem b_30:JAF "need_kind" (top 27) ["kind"]:=bOk fun _ _ _ _ _ _ _=>rfl
theorem f_30 (P:Params):FnIn (K P) "need_kind" (top 27):=fnI 197 196 (.str "glideways.kinds" 405)
theorem t_31:Turned G (top 28) ["part"] ["part"] d_31:=tuI
theorem b_31:JAF "kept_within" (top 28) ["part"]:=bOk fun _ _ _ _ _ _ _=>rfl
theorem f_31 (P:Params):FnIn (K P) "kept_within" (top 28):=fnI 204 203 (.str "glideways.kinds" 405)
theorem t_32:Turned G (top 29) ["kind","part","p"] ["kind","part"] d_32:=tuI
theorem b_32:JAF "eased" (top 29) ["kind","part"]:=bOk fun _ _ _ _ _ _ _ _=>rfl
theorem f_32 (P:Params):FnIn (K P) "eased" (top 29):=fnI 211 210 (.str "glideways.kinds" 405)
theorem t_80:Turned G (top 39) ["start","goal","begin","long","kind"] ["start","goal","begin","long","kind"] d_80:=tuI
theorem b_80:JAF "plain_motion" (top 39) ["start","goal","begin","long","kind"]:=bOk fun _ _ _ _ _ _ _ _ _ _ _=>rfl
theorem f_80 (P:Params):FnIn (K P) "plain_motion" (top 39):=fnI 221 220 (.str "glideways.motions" 444)
theorem t_72:Turned G (top 40) ["motion"] ["motion"] d_72:=tuI
theorem b_72:JAF "end_of" (top 40) ["motion"]:=bOk fun _ _ _ _ _ _ _=>rfl
theorem f_72 (P:Params):FnIn (K P) "end_of" (top 40):=fnI 228 227 (.str "glideways.motions" 444)
theorem t_46:Turned G (top 41) ["motion","time"] ["motion","time"] d_46:=tuI
theorem b_46:JAF "part_at" (top 41) ["motion","time"]:=bOk fun _ _ _ _ _ _ _ _=>rfl
theorem f_46 (P:Params):FnIn (K P) "part_at" (top 41):=fnI 235 234 (.str "glideways.motions" 444)
theorem t_48:Turned G (top 42) ["motion","time","part"] ["motion","time"] d_48:=tuI
theorem b_48:JAF "worth_at" (top 42) ["motion","time"]:=bOk fun _ _ _ _ _ _ _ _=>rfl
theorem f_48 (P:Params):FnIn (K P) "worth_at" (top 42):=fnI 242 241 (.str "glideways.motions" 444)
theorem t_49:Turned G (top 43) ["motion","p","square","cube","by_first","by_last","by_speeds"] ["motion","p"] d_49:=tuI
theorem b_49:JAF "kept_worth" (top 43) ["motion","p"]:=bOk fun _ _ _ _ _ _ _ _=>rfl
theorem f_49 (P:Params):FnIn (K P) "kept_worth" (top 43):=fnI 249 248 (.str "glideways.motions" 444)
theorem t_73:Turned G (top 44) ["motion","begin"] ["motion","begin"] d_73:=tuI
theorem b_73:JAF "begun_at" (top 44) ["motion","begin"]:=bOk fun _ _ _ _ _ _ _ _=>rfl
theorem f_73 (P:Params):FnIn (K P) "begun_at" (top 44):=fnI 256 255 (.str "glideways.motions" 444)
theorem t_74:Turned G (top 45) ["motion","by"] ["motion","by"] d_74:=tuI
theorem b_74:JAF "moved" (top 45) ["motion","by"]:=bOk fun _ _ _ _ _ _ _ _=>rfl
theorem f_74 (P:Params):FnIn (K P) "moved" (top 45):=fnI 263 262 (.str "glideways.motions" 444)
theorem t_83:Turned G (top 49) ["track"] ["track"] d_83:=tuI
theorem b_83:JAF "end_time" (top 49) ["track"]:=bOk fun _ _ _ _ _ _ _=>rfl
theorem f_83 (P:Params):FnIn (K P) "end_time" (top 49):=fnI 270 269 (.str "glideways.tracks" 529)
theorem t_84:Turned G (top 50) ["track"] ["track"] d_84:=tuI
theorem b_84:JAF "last_worth" (top 50) ["track"]:=bOk fun _ _ _ _ _ _ _=>rfl
theorem f_84 (P:Params):FnIn (K P) "last_worth" (top 50):=fnI 277 276 (.str "glideways.tracks" 529)
theorem t_96:Turned G (top 51) ["track","time"] ["track","time"] d_96:=tuI
theorem b_96:JAF "begun_by" (top 51) ["track","time"]:=bOk fun _ _ _ _ _ _ _ _=>rfl
theorem f_96 (P:Params):FnIn (K P) "begun_by" (top 51):=fnI 282 281 (.str "glideways.tracks" 529)
theorem t_97:Turned G (top 52) ["track","time","begun"] ["track","time"] d_97:=tuI
theorem b_97:JAF "worth_of" (top 52) ["track","time"]:=bOk fun _ _ _ _ _ _ _ _=>rfl
theorem f_97 (P:Params):FnIn (K P) "worth_of" (top 52):=fnI 289 288 (.str "glideways.tracks" 529)
theorem t_105:Turned G (top 53) ["track","by"] ["track","by"] JJu:=tuI
theorem JKK:JAF "track_moved" (top 53) ["track","by"]:=bOk fun _ _ _ _ _ _ _ _=>rfl
theorem f_105 (P:Params):FnIn (K P) "track_moved" (top 53):=fnI 294 293 (.str "glideways.tracks" 529)
theorem t_140:Turned G (top 57) ["thing"] ["thing"] JJZ:=tuI
theorem JKo:JAF "is_plan" (top 57) ["thing"]:=bOk fun _ _ _ _ _ _ _=>rfl
theorem f_140 (P:Params):FnIn (K P) "is_plan" (top 57):=fnI 301 300 (.str "glideways.plans" 570)
theorem t_141:Turned G (top 58) ["thing","deep","word"] ["thing","deep"] JBg:=tuI
theorem JB5:JAF "is_plan_within" (top 58) ["thing","deep"]:=bOk fun _ _ _ _ _ _ _ _=>rfl
theorem f_141 (P:Params):FnIn (K P) "is_plan_within" (top 58):=fnI 308 307 (.str "glideways.plans" 570)
theorem t_142:Turned G (top 59) ["thing"] ["thing"] JIQ:=tuI
theorem JIi:JAF "is_many" (top 59) ["thing"]:=bOk fun _ _ _ _ _ _ _=>rfl
theorem f_142 (P:Params):FnIn (K P) "is_many" (top 59):=fnI 315 314 (.str "glideways.plans" 570)
theorem t_153:Turned G (top 60) ["plan"] ["plan"] JJW:=tuI
theorem JJY:JAF "need_plan" (top 60) ["plan"]:=bOk fun _ _ _ _ _ _ _=>rfl
theorem f_153 (P:Params):FnIn (K P) "need_plan" (top 60):=fnI 322 321 (.str "glideways.plans" 570)
theorem t_143:Turned G (top 61) ["plan"] ["plan"] JDZ:=tuI
theorem JFF:JAF "steps_of" (top 61) ["plan"]:=bOk fun _ _ _ _ _ _ _=>rfl
theorem f_143 (P:Params):FnIn (K P) "steps_of" (top 61):=fnI 329 328 (.str "glideways.plans" 570)
theorem t_144:Turned G (top 62) ["step"] ["step"] JHN:=tuI
theorem JIo:JAF "step_size" (top 62) ["step"]:=bOk fun _ _ _ _ _ _ _=>rfl
theorem f_144 (P:Params):FnIn (K P) "step_size" (top 62):=fnI 336 335 (.str "glideways.plans" 570)
theorem t_180:Turned G (top 63) ["plan"] ["plan"] JKu:=tuI
theorem JKx:JAF "size_of" (top 63) ["plan"]:=bOk fun _ _ _ _ _ _ _=>rfl
theorem f_180 (P:Params):FnIn (K P) "size_of" (top 63):=fnI 341 340 (.str "glideways.plans" 570)
theorem t_154:Turned G (top 64) ["step","here"] ["step","here"] JHA:=tuI
theorem JHB:JAF "step_goal" (top 64) ["step","here"]:=bOk fun _ _ _ _ _ _ _ _=>rfl
theorem f_154 (P:Params):FnIn (K P) "step_goal" (top 64):=fnI 348 347 (.str "glideways.plans" 570)
theorem t_155:Turned G (top 65) ["plan","worth","begin","motions","here","now","step","goal"] ["plan","worth","begin"] JKW:=tuI
theorem JEN:JAF "played" (top 65) ["plan","worth","begin"]:=bOk fun _ _ _ _ _ _ _ _ _=>rfl
theorem f_155 (P:Params):FnIn (K P) "played" (top 65):=fnI 355 354 (.str "glideways.plans" 570)
theorem t_156:Turned G (top 66) ["plan","worth"] ["plan","worth"] JJp:=tuI
theorem JJi:JAF "end_worth" (top 66) ["plan","worth"]:=bOk fun _ _ _ _ _ _ _ _=>rfl
theorem f_156 (P:Params):FnIn (K P) "end_worth" (top 66):=fnI 362 361 (.str "glideways.plans" 570)
theorem t_236:Turned G (top 68) ["sheet","time","worths","name"] ["sheet","time"] JJh:=tuI
theorem JFh:JAF "shown" (top 68) ["sheet","time"]:=bOk fun _ _ _ _ _ _ _ _=>rfl
theorem f_236 (P:Params):FnIn (K P) "shown" (top 68):=fnI 369 368 (.str "glideways.sheets" 656)
theorem t_237:Turned G (top 69) ["sheet","ends","known"] ["sheet"] JGl:=tuI
theorem JHT:JAF "last_end" (top 69) ["sheet"]:=bOk fun _ _ _ _ _ _ _=>rfl
theorem f_237 (P:Params):FnIn (K P) "last_end" (top 69):=fnI 374 373 (.str "glideways.sheets" 656)
theorem t_238:Turned G (top 70) ["sheet","time"] ["sheet","time"] JJf:=tuI
theorem JKG:JAF "added" (top 70) ["sheet","time"]:=bOk fun _ _ _ _ _ _ _ _=>rfl
theorem f_238 (P:Params):FnIn (K P) "added" (top 70):=fnI 379 378 (.str "glideways.sheets" 656)
theorem t_239:Turned G (top 71) ["sheet","name","track","found"] ["sheet","name","track"] JJx:=tuI
theorem JJy:JAF "with_track" (top 71) ["sheet","name","track"]:=bOk fun _ _ _ _ _ _ _ _ _=>rfl
theorem f_239 (P:Params):FnIn (K P) "with_track" (top 71):=fnI 386 385 (.str "glideways.sheets" 656)
theorem t_240:Turned G (top 72) ["sheet","name"] ["sheet","name"] JKO:=tuI
theorem JKr:JAF "need_name" (top 72) ["sheet","name"]:=bOk fun _ _ _ _ _ _ _ _=>rfl
theorem f_240 (P:Params):FnIn (K P) "need_name" (top 72):=fnI 393 392 (.str "glideways.sheets" 656)
theorem t_241:Turned G (top 73) ["sheet","name","by"] ["sheet","name","by"] JKI:=tuI
theorem JKS:JAF "put_off" (top 73) ["sheet","name","by"]:=bOk fun _ _ _ _ _ _ _ _ _=>rfl
theorem f_241 (P:Params):FnIn (K P) "put_off" (top 73):=fnI 400 399 (.str "glideways.sheets" 656)
theorem t_242:Turned G (top 74) ["names","plan","worth","begin","gap","sheet","now","name"] ["names","plan","worth","begin","gap"] JJe:=tuI
theorem JFW:JAF "staggered" (top 74) ["names","plan","worth","begin","gap"]:=bOk fun _ _ _ _ _ _ _ _ _ _ _=>rfl
theorem f_242 (P:Params):FnIn (K P) "staggered" (top 74):=fnI 407 406 (.str "glideways.sheets" 656)
theorem t_11:Turned G (top 76) ["_law_script","_law_k"] ["_law_script","_law_k"] d_11:=tuI
theorem b_11:JAF "_law_cell" (top 76) ["_law_script","_law_k"]:=bOk fun _ _ _ _ _ _ _ _=>rfl
theorem f_11 (P:Params):FnIn (K P) "_law_cell" (top 76):=fnI 414 413 (.str "law_glideways_k61_whole_staggered" 721)
theorem t_12:Turned G (top 77) ["_law_script","_law_k","_law_many","_law_drawn"] ["_law_script","_law_k","_law_many"] d_12:=tuI
theorem b_12:JAF "_law_pick" (top 77) ["_law_script","_law_k","_law_many"]:=bOk fun _ _ _ _ _ _ _ _ _=>rfl
theorem f_12 (P:Params):FnIn (K P) "_law_pick" (top 77):=fnI 421 420 (.str "law_glideways_k61_whole_staggered" 721)
theorem t_13:Turned G (top 78) ["_law_one","_law_other"] ["_law_one","_law_other"] d_13:=tuI
theorem b_13:JAF "_law_divisor" (top 78) ["_law_one","_law_other"]:=bOk fun _ _ _ _ _ _ _ _=>rfl
theorem f_13 (P:Params):FnIn (K P) "_law_divisor" (top 78):=fnI 428 427 (.str "law_glideways_k61_whole_staggered" 721)
theorem t_14:Turned G (top 79) ["_law_up","_law_down","_law_size_here"] ["_law_up","_law_down"] d_14:=tuI
theorem b_14:JAF "_law_made" (top 79) ["_law_up","_law_down"]:=bOk fun _ _ _ _ _ _ _ _=>rfl
theorem f_14 (P:Params):FnIn (K P) "_law_made" (top 79):=fnI 435 434 (.str "law_glideways_k61_whole_staggered" 721)
theorem t_15:Turned G (top 80) ["_law_script","_law_at","_law_down"] ["_law_script","_law_at"] d_15:=tuI
theorem b_15:JAF "_law_frac" (top 80) ["_law_script","_law_at"]:=bOk fun _ _ _ _ _ _ _ _=>rfl
theorem f_15 (P:Params):FnIn (K P) "_law_frac" (top 80):=fnI 442 441 (.str "law_glideways_k61_whole_staggered" 721)
theorem t_16:Turned G (top 81) ["_law_script","_law_at","_law_down"] ["_law_script","_law_at"] d_16:=tuI
theorem b_16:JAF "_law_size" (top 81) ["_law_script","_law_at"]:=bOk fun _ _ _ _ _ _ _ _=>rfl
theorem f_16 (P:Params):FnIn (K P) "_law_size" (top 81):=fnI 449 448 (.str "law_glideways_k61_whole_staggered" 721)
theorem t_17:Turned G (top 82) ["_law_one","_law_other"] ["_law_one","_law_other"] d_17:=tuI
theorem b_17:JAF "_law_plus" (top 82) ["_law_one","_law_other"]:=bOk fun _ _ _ _ _ _ _ _=>rfl
theorem f_17 (P:Params):FnIn (K P) "_law_plus" (top 82):=fnI 456 455 (.str "law_glideways_k61_whole_staggered" 721)
theorem t_18:Turned G (top 83) ["_law_one","_law_other"] ["_law_one","_law_other"] d_18:=tuI
theorem b_18:JAF "_law_minus" (top 83) ["_law_one","_law_other"]:=bOk fun _ _ _ _ _ _ _ _=>rfl
theorem f_18 (P:Params):FnIn (K P) "_law_minus" (top 83):=fnI 463 462 (.str "law_glideways_k61_whole_staggered" 721)
theorem t_19:Turned G (top 84) ["_law_one","_law_other"] ["_law_one","_law_other"] d_19:=tuI
theorem b_19:JAF "_law_times" (top 84) ["_law_one","_law_other"]:=bOk fun _ _ _ _ _ _ _ _=>rfl
theorem f_19 (P:Params):FnIn (K P) "_law_times" (top 84):=fnI 470 469 (.str "law_glideways_k61_whole_staggered" 721)
theorem t_35:Turned G (top 87) ["_law_script","_law_at"] ["_law_script","_law_at"] d_35:=tuI
theorem b_35:JAF "_law_kind" (top 87) ["_law_script","_law_at"]:=bOk fun _ _ _ _ _ _ _ _=>rfl
theorem f_35 (P:Params):FnIn (K P) "_law_kind" (top 87):=fnI 491 490 (.str "law_glideways_k61_whole_staggered" 721)
theorem t_146:Turned G (top 89) ["_law_script","_law_at","_law_deep","_law_way","_law_step","_law_word","_law_one"] ["_law_script","_law_at","_law_deep"] d_146:=tuI
theorem JC7:JAF "_law_plan" (top 89) ["_law_script","_law_at","_law_deep"]:=bOk fun _ _ _ _ _ _ _ _ _=>rfl
theorem f_146 (P:Params):FnIn (K P) "_law_plan" (top 89):=fnI 505 504 (.str "law_glideways_k61_whole_staggered" 721)
theorem JOW:Turned G (top 91) ["_law_script","_law_plan_here","_law_worth","_law_begin","_law_gap","_law_names","_law_sheet","_law_k","_law_time","_law_rows","_law_before","_law_one","_law_other","_law_late"] ["_law_script"] JIg:=tuI
theorem JGy:JAF "law" (top 91) ["_law_script"]:=bOk fun _ _ _ _ _ _ _=>rfl
theorem JQQ (P:Params):FnIn (K P) "law" (top 91):=fnI 519 518 (.str "law_glideways_k61_whole_staggered" 721)
theorem JP1 {w:World} {h:Heap} {mg:Str->Option Value} (X:(K w.params).In h) (Gm:h.Ns mainGlobals mg):∀d,glo 39=.ok d->∃u v,mg "ZERO"=some u/\RelV v u/\∀H,Den ⟨K w.params,cl,w⟩ H d v:=JAx X Gm (by kernel_rfl) rfl
theorem k_ONE {w:World} {h:Heap} {mg:Str->Option Value} (X:(K w.params).In h) (Gm:h.Ns mainGlobals mg):∀d,glo 40=.ok d->∃u v,mg "ONE"=some u/\RelV v u/\∀H,Den ⟨K w.params,cl,w⟩ H d v:=JAx X Gm (by kernel_rfl) rfl
theorem JMr {w:World} {h:Heap} {mg:Str->Option Value} (X:(K w.params).In h) (Gm:h.Ns mainGlobals mg):∀d,glo 41=.ok d->∃u v,mg "KINDS"=some u/\RelV v u/\∀H,Den ⟨K w.params,cl,w⟩ H d v:=JAx X Gm (by kernel_rfl) rfl
theorem JNF {w:World} {h:Heap} {mg:Str->Option Value} (X:(K w.params).In h) (Gm:h.Ns mainGlobals mg):∀d,glo 55=.ok d->∃u v,mg "START"=some u/\RelV v u/\∀H,Den ⟨K w.params,cl,w⟩ H d v:=JAx X Gm (by kernel_rfl) rfl
theorem JPQ {w:World} {h:Heap} {mg:Str->Option Value} (X:(K w.params).In h) (Gm:h.Ns mainGlobals mg):∀d,glo 56=.ok d->∃u v,mg "GOAL"=some u/\RelV v u/\∀H,Den ⟨K w.params,cl,w⟩ H d v:=JAx X Gm (by kernel_rfl) rfl
theorem JNX {w:World} {h:Heap} {mg:Str->Option Value} (X:(K w.params).In h) (Gm:h.Ns mainGlobals mg):∀d,glo 57=.ok d->∃u v,mg "BEGIN"=some u/\RelV v u/\∀H,Den ⟨K w.params,cl,w⟩ H d v:=JAx X Gm (by kernel_rfl) rfl
theorem JP2 {w:World} {h:Heap} {mg:Str->Option Value} (X:(K w.params).In h) (Gm:h.Ns mainGlobals mg):∀d,glo 58=.ok d->∃u v,mg "LONG"=some u/\RelV v u/\∀H,Den ⟨K w.params,cl,w⟩ H d v:=JAx X Gm (by kernel_rfl) rfl
theorem JQq {w:World} {h:Heap} {mg:Str->Option Value} (X:(K w.params).In h) (Gm:h.Ns mainGlobals mg):∀d,glo 59=.ok d->∃u v,mg "KIND"=some u/\RelV v u/\∀H,Den ⟨K w.params,cl,w⟩ H d v:=JAx X Gm (by kernel_rfl) rfl
theorem JJV {w:World} {h:Heap} {mg:Str->Option Value} (X:(K w.params).In h) (Gm:h.Ns mainGlobals mg):∀d,glo 60=.ok d->∃u v,mg "SPEEDS"=some u/\RelV v u/\∀H,Den ⟨K w.params,cl,w⟩ H d v:=JAx X Gm (by kernel_rfl) rfl
theorem JQF {w:World} {h:Heap} {mg:Str->Option Value} (X:(K w.params).In h) (Gm:h.Ns mainGlobals mg):∀d,glo 61=.ok d->∃u v,mg "KEPT"=some u/\RelV v u/\∀H,Den ⟨K w.params,cl,w⟩ H d v:=JAx X Gm (by kernel_rfl) rfl
theorem JFa {w:World} {h:Heap} {mg:Str->Option Value} (X:(K w.params).In h) (Gm:h.Ns mainGlobals mg):∀d,glo 77=.ok d->∃u v,mg "NO_SPEEDS"=some u/\RelV v u/\∀H,Den ⟨K w.params,cl,w⟩ H d v:=JAx X Gm (by kernel_rfl) rfl
theorem JON {w:World} {h:Heap} {mg:Str->Option Value} (X:(K w.params).In h) (Gm:h.Ns mainGlobals mg):∀d,glo 93=.ok d->∃u v,mg "FIRST"=some u/\RelV v u/\∀H,Den ⟨K w.params,cl,w⟩ H d v:=JAx X Gm (by kernel_rfl) rfl
theorem JJE {w:World} {h:Heap} {mg:Str->Option Value} (X:(K w.params).In h) (Gm:h.Ns mainGlobals mg):∀d,glo 94=.ok d->∃u v,mg "MOTIONS"=some u/\RelV v u/\∀H,Den ⟨K w.params,cl,w⟩ H d v:=JAx X Gm (by kernel_rfl) rfl
theorem JHz {w:World} {h:Heap} {mg:Str->Option Value} (X:(K w.params).In h) (Gm:h.Ns mainGlobals mg):∀d,glo 151=.ok d->∃u v,mg "DEEPEST"=some u/\RelV v u/\∀H,Den ⟨K w.params,cl,w⟩ H d v:=JAx X Gm (by kernel_rfl) rfl
theorem JE6 {w:World} {h:Heap} {mg:Str->Option Value} (X:(K w.params).In h) (Gm:h.Ns mainGlobals mg):∀d,glo 152=.ok d->∃u v,mg "MOST_AGAIN"=some u/\RelV v u/\∀H,Den ⟨K w.params,cl,w⟩ H d v:=JAx X Gm (by kernel_rfl) rfl
theorem mo (w:World) {h:Heap} {mg:Str->Option Value} (X:(K w.params).In h) (Gm:h.Ns mainGlobals mg):AllP (MoP mg ⟨K w.params,cl,w⟩ G tab glo) G :=
 ⟨⟨_,rfl,(f_23 w.params).at X Gm b_23 t_23⟩,⟨_,rfl,(f_0 w.params).at X Gm b_0 t_0⟩,⟨_,rfl,(f_24 w.params).at X Gm b_24 t_24⟩,⟨_,rfl,(f_68 w.params).at X Gm b_68 t_68⟩,⟨_,rfl,(f_1 w.params).at X Gm b_1 t_1⟩,⟨_,rfl,(f_2 w.params).at X Gm b_2 t_2⟩,⟨_,rfl,(f_3 w.params).at X Gm b_3 t_3⟩,⟨_,rfl,(f_4 w.params).at X Gm b_4 t_4⟩,⟨_,rfl,(f_5 w.params).at X Gm b_5 t_5⟩,⟨_,rfl,(f_25 w.params).at X Gm b_25 t_25⟩,⟨_,rfl,(f_179 w.params).at X Gm JIA t_179⟩,⟨_,rfl,(f_6 w.params).at X Gm b_6 t_6⟩,⟨_,rfl,(f_7 w.params).at X Gm b_7 t_7⟩,⟨_,rfl,(f_8 w.params).at X Gm b_8 t_8⟩,⟨_,rfl,(f_10 w.params).at X Gm b_10 t_10⟩,⟨_,rfl,(f_29 w.params).at X Gm b_29 t_29⟩,⟨_,rfl,(f_30 w.params).at X Gm b_30 t_30⟩,⟨_,rfl,(f_31 w.params).at X Gm b_31 t_31⟩,⟨_,rfl,(f_32 w.params).at X Gm b_32 t_32⟩,⟨_,rfl,(f_80 w.params).at X Gm b_80 t_80⟩,⟨_,rfl,(f_72 w.params).at X Gm b_72 t_72⟩,⟨_,rfl,(f_46 w.params).at X Gm b_46 t_46⟩,⟨_,rfl,(f_48 w.params).at X Gm b_48 t_48⟩,⟨_,rfl,(f_49 w.params).at X Gm b_49 t_49⟩,⟨_,rfl,(f_73 w.params).at X Gm b_73 t_73⟩,⟨_,rfl,(f_74 w.params).at X Gm b_74 t_74⟩,⟨_,rfl,(f_83 w.params).at X Gm b_83 t_83⟩,⟨_,rfl,(f_84 w.params).at X Gm b_84 t_84⟩,⟨_,rfl,(f_96 w.params).at X Gm b_96 t_96⟩,⟨_,rfl,(f_97 w.params).at X Gm b_97 t_97⟩,⟨_,rfl,(f_105 w.params).at X Gm JKK t_105⟩,⟨_,rfl,(f_140 w.params).at X Gm JKo t_140⟩,⟨_,rfl,(f_141 w.params).at X Gm JB5 t_141⟩,⟨_,rfl,(f_142 w.params).at X Gm JIi t_142⟩,⟨_,rfl,(f_153 w.params).at X Gm JJY t_153⟩,⟨_,rfl,(f_143 w.params).at X Gm JFF t_143⟩,⟨_,rfl,(f_144 w.params).at X Gm JIo t_144⟩,⟨_,rfl,(f_180 w.params).at X Gm JKx t_180⟩,⟨_,rfl,(f_154 w.params).at X Gm JHB t_154⟩,⟨_,rfl,(f_155 w.params).at X Gm JEN t_155⟩,⟨_,rfl,(f_156 w.params).at X Gm JJi t_156⟩,⟨_,rfl,(f_236 w.params).at X Gm JFh t_236⟩,⟨_,rfl,(f_237 w.params).at X Gm JHT t_237⟩,⟨_,rfl,(f_238 w.params).at X Gm JKG t_238⟩,⟨_,rfl,(f_239 w.params).at X Gm JJy t_239⟩,⟨_,rfl,(f_240 w.params).at X Gm JKr t_240⟩,⟨_,rfl,(f_241 w.params).at X Gm JKS t_241⟩,⟨_,rfl,(f_242 w.params).at X Gm JFW t_242⟩,⟨_,rfl,(f_11 w.params).at X Gm b_11 t_11⟩,⟨_,rfl,(f_12 w.params).at X Gm b_12 t_12⟩,⟨_,rfl,(f_13 w.params).at X Gm b_13 t_13⟩,⟨_,rfl,(f_14 w.params).at X Gm b_14 t_14⟩,⟨_,rfl,(f_15 w.params).at X Gm b_15 t_15⟩,⟨_,rfl,(f_16 w.params).at X Gm b_16 t_16⟩,⟨_,rfl,(f_17 w.params).at X Gm b_17 t_17⟩,⟨_,rfl,(f_18 w.params).at X Gm b_18 t_18⟩,⟨_,rfl,(f_19 w.params).at X Gm b_19 t_19⟩,⟨_,rfl,(f_35 w.params).at X Gm b_35 t_35⟩,⟨_,rfl,(f_146 w.params).at X Gm JC7 t_146⟩,⟨_,rfl,(JQQ w.params).at X Gm JGy JOW⟩,JP1 X Gm,k_ONE X Gm,JMr X Gm,JNF X Gm,JPQ X Gm,JNX X Gm,JP2 X Gm,JQq X Gm,JJV X Gm,JQF X Gm,JFa X Gm,JON X Gm,JJE X Gm,JHz X Gm,JE6 X Gm,⟨⟨by kernel_rfl,by kernel_rfl,by kernel_rfl⟩,mg_of X Gm (by kernel_rfl)⟩,⟨⟨by kernel_rfl,by kernel_rfl,by kernel_rfl⟩,mg_of X Gm (by kernel_rfl)⟩,⟨⟨by kernel_rfl,by kernel_rfl,by kernel_rfl⟩,mg_of X Gm (by kernel_rfl)⟩,⟨⟨by kernel_rfl,by kernel_rfl,by kernel_rfl⟩,mg_of X Gm (by kernel_rfl)⟩,mg_none_of X Gm (by kernel_rfl),mg_none_of X Gm (by kernel_rfl),mg_none_of X Gm (by kernel_rfl),mg_none_of X Gm (by kernel_rfl),mg_none_of X Gm (by kernel_rfl),mg_none_of X Gm (by kernel_rfl),mg_none_of X Gm (by kernel_rfl),mg_none_of X Gm (by kernel_rfl),mg_none_of X Gm (by kernel_rfl),mg_none_of X Gm (by kernel_rfl),mg_none_of X Gm (by kernel_rfl),trivial,trivial,trivial,mg_none_of X Gm (by kernel_rfl),mg_none_of X Gm (by kernel_rfl),trivial,trivial⟩
theorem ra (w:World):AllR (RaP ⟨K w.params,cl,w⟩ G) rs :=
 ⟨⟨⟨⟨by kernel_rfl,by kernel_rfl,by kernel_rfl,by kernel_rfl,by kernel_rfl,by kernel_rfl,by kernel_rfl⟩,by kernel_rfl⟩,trivial,trivial,trivial,trivial,trivial,trivial,trivial,trivial,trivial,trivial,trivial,trivial,trivial,trivial,trivial,trivial,trivial,trivial,trivial,trivial,trivial,trivial,trivial,trivial,trivial,trivial,trivial,trivial,trivial,trivial,trivial,trivial,trivial,trivial,trivial,trivial,trivial,trivial,trivial,trivial,trivial,trivial,trivial,trivial,trivial,trivial,trivial,trivial,trivial,trivial,trivial,trivial,trivial,trivial,trivial,trivial,trivial,trivial,trivial,trivial,trivial,trivial,trivial,trivial,trivial,trivial,trivial,trivial,trivial,trivial,trivial,trivial,trivial,trivial,trivial,JNt (by kernel_rfl),JNt (by kernel_rfl),rel_t (by kernel_rfl) (by kernel_rfl),JNt (by kernel_rfl),trivial,trivial,trivial,trivial,trivial,trivial,trivial,trivial,trivial,trivial,trivial,trivial,trivial,trivial,trivial,trivial,trivial,trivial⟩,trivial⟩
theorem walk {d:DefRec} (hd:d.name="law") (hdf:d.params.defaults=[]):WalkO view loose (XL view []) hk.says PySem.Challenge.rw_glideways_k61_whole_staggered.row.toRowW d [] (fun f vs=>PySem.call f vs) :=
 L2.walk_of (l:=PySem.Challenge.rw_glideways_k61_whole_staggered) (n:=63) (k:=15) (x:="_law_script") (K:=K) (CX:=fun _=>CX0) (sp:=fun w=>JNZ (K w.params)) rfl (by decide) hdf ⟨rfl,by decide,by decide⟩ (fun w h Y=>kIn_of Y)
  (by rw [hd];exact fun w mg fa h KX Gm hmg=>JQS (cl:=cl) (tab:=tab) (glo:=glo) (sub:=JFU rs) KX Gm hmg (JQQ w.params) JOW JGy (by kernel_rfl) rfl (fun base kb nb=>mo_of (mo w kb nb) (ra w) JHY) (fun n=>⟨JNG (JPi (mo w KX Gm) (ra w)) (by kernel_rfl) (by kernel_rfl) (by kernel_rfl) (fun _=>d_all) (fun k z=>by cases k with | rev=>exact x_no (by kernel_rfl) z | enm=>exact x_no (by kernel_rfl) z | srt=>exact x_no (by kernel_rfl) z | zip=>exact x_zip | sst=>exact x_no (by kernel_rfl) z | dvs=>exact x_no (by kernel_rfl) z | dit=>exact x_no (by kernel_rfl) z | dls=>exact x_no (by kernel_rfl) z | dcp=>exact x_no (by kernel_rfl) z | dnw=>exact x_no (by kernel_rfl) z | din=>exact x_no (by kernel_rfl) z | dni=>exact x_no (by kernel_rfl) z | deq=>exact x_no (by kernel_rfl) z | dne=>exact x_no (by kernel_rfl) z | dtk=>exact x_no (by kernel_rfl) z | sts=>exact x_no (by kernel_rfl) z) ⟨nofl (by kernel_rfl),nofl (by kernel_rfl),nofl (by kernel_rfl),nofl (by kernel_rfl),nofl (by kernel_rfl)⟩,⟨nofl (by kernel_rfl),nofl (by kernel_rfl),nofl (by kernel_rfl)⟩,nofl (by kernel_rfl)⟩) (fun _ _ _ _ _ _ _ _=>.of_eq rfl) (fun ns hl=>JKF (n:=0) ns))
  (fun _ _ a ns hl _ hS=>⟨a,ns,rfl,hl,hS,fun _=>rfl⟩) fun _ _ _ _ _ z=>z
end V61
open PySem PySem.W PyProof.Rows
set_option maxRecDepth 100000 in
set_option maxHeartbeats 0 in
theorem PySem.Challenge.cw_glideways_k61_whole_staggered_holds : PySem.Challenge.rw_glideways_k61_whole_staggered.Holds := by
 w_on
 refine holds_law V61.said fun said=>?_
 refine holds_open (q:=V61.view) (loose:=V61.loose) (XP:=XL V61.view []) (Yf:=V61.hk.obs) (Ya:=V61.hk.val) (YP:=V61.hk.says) V61.left V61.hk.of V61.hk.keeps (fun s e=>xl_of s (Bool.and_eq_true_iff.mp e).1) XL.keeps (by rfl) (by rfl) (by rfl) (fun s e=>recFacts_of (Bool.and_eq_true_iff.mp e).2) (by rfl) (by first | assumption | decide +kernel) (by decide +kernel) ⟨rfl,rfl,rfl,rfl,rfl,by decide +kernel⟩ ?hw (V61.walk rfl rfl)
 case hw=>w_witness2
end
