import PyProof.Rows.All
import Wide.All
import OpenK.AllK
import Wide.FinOn
import Lean
import PyProof.EqAt
import PyProof.EqKinds
import PyProof.TupleCall
import KE.KIsAll
import KE.KRevIter
import KE.KSortTup
import KE.KTryMore
import OpenK.KRaise
import PyProof.CollectWalk
import PyProof.CompFree
import PyProof.ConsumeWalk
import PyProof.ExcAttrAll.ValueError
import PyProof.FactsAll.list_3
import PyProof.FactsAll.tuple_2
import PyProof.Fits
import PyProof.Lay0
import PyProof.P3Statements
import PyProof.Rows.SetFrom
import PySem.Eval
import PySem.Challenge.RW_glideways_k71_whole_ways_passed
def q_a:=@Option.bind_eq_some_iff
def q_b:=@PySem.wpAny_bind
def q_c:=@PySem.Heap.get?_push_of_some
def q_d:=@Option.map_eq_some_iff
def q_e:=@PySem.wpAny_pure
def q_f:=@List.size_toArray
def q_g:=@List.length_map
def q_h:=@PySem.Heap.lt_size
def q_i:=@Bool.and_eq_true
def q_j:=@Option.some.injEq
def q_k:=@PySem.Heap.get?_push_size
def q_l:=@Nat.ne_of_lt
def q_m:=@Nat.lt_of_lt_of_le
def q_n:=@List.mem_cons
def q_o:=@decide_eq_false
def q_p:=@List.getElem?_eq_some_iff
def q_q:=@List.getElem?_eq_getElem
def q_r:=@List.mem_append_right
def q_s:=@List.mem_cons_of_mem
def q_t:=@Nat.le_refl
def q_u:=@List.length_append
def q_v:=@Bool.false_eq_true
def q_w:=@List.filter_cons_of_neg
def q_x:=@List.filter_cons_of_pos
def q_y:=@List.getElem?_set_self
def q_z:=@List.getElem?_set_ne
def q_A:=@List.length_eq_zero_iff
def q_B:=@List.getElem?_append_left
def q_C:=@decide_eq_true_eq
def q_D:=@Nat.lt_succ_of_lt
def q_E:=@Array.length_toList
set_option Elab.async false
set_option compiler.extract_closed false
set_option bootstrap.genMatcherCode false
set_option maxRecDepth 100000 in set_option maxHeartbeats 0 in theorem V71.said:PySem.Challenge.rw_glideways_k71_whole_ways_passed.wellSaid=true:=by kernel_rfl
set_option Elab.async false
set_option linter.all false
set_option maxRecDepth 100000
namespace L2
open PySem PySem.Spec PyProof.Rows
noncomputable abbrev Key:=Sum Int Str
noncomputable def JJp:Key->Value->Bool
 | .inl k,v=>Value.isInt k v
 | .inr x,v=>Value.isStrOf x v
noncomputable def keyH (w:World):Key->Int
 | .inl k=>hashInt k
 | .inr x=>hashStr w x
theorem JAY:∀ {k:Key} {v:Value},JJp k v=true->(∃i t,k=Sum.inl i/\v=Value.int i t)\/(∃x t,k=Sum.inr x/\v=Value.str x t)
 | .inl i,v,h=>by
  obtain ⟨t,e⟩:=Value.isInt_shape (k:=i) (v:=v) h
  exact .inl ⟨i,t,rfl,e⟩
 | .inr x,v,h=>by
  obtain ⟨t,e⟩:=Value.isStrOf_shape (x:=x) (v:=v) h
  exact .inr ⟨x,t,rfl,e⟩
theorem JG6 (x:Str) (t:Tok):JJp (.inr x) (.str x t)=true:=by simp [JJp,Value.isStrOf]
theorem JPQ (a b:Int):decide ((Sum.inl a:Key)=Sum.inl b)=(a==b):=by
 by_cases e:a=b
 ·subst e;simp
 ·have h:¬(Sum.inl a:Key)=Sum.inl b:=fun q=>e (Sum.inl.inj q)
  rw [q_o h]
  exact (beq_eq_false_iff_ne.mpr e).symm
theorem JOR (a b:Str):decide ((Sum.inr a:Key)=Sum.inr b)=decide (a=b):=by
 by_cases e:a=b
 ·subst e;simp
 ·have h:¬(Sum.inr a:Key)=Sum.inr b:=fun q=>e (Sum.inr.inj q)
  rw [q_o h,q_o e]
theorem JN6 (a:Int) (b:Str):decide ((Sum.inl a:Key)=Sum.inr b)=false:=q_o (fun q=>nomatch q)
theorem JON (a:Str) (b:Int):decide ((Sum.inr a:Key)=Sum.inl b)=false:=q_o (fun q=>nomatch q)
noncomputable def JBC (prog:Program) (w:World):PySem.KeyKind prog w Key where
 is:=JJp
 hash:=keyH w
 inj:=fun v a b ha hb=>by
  rcases JAY ha with ⟨i,t,rfl,rfl⟩ | ⟨x,t,rfl,rfl⟩
  ·rcases JAY hb with ⟨j,u,rfl,e⟩ | ⟨y,u,rfl,e⟩
   ·injection e with e1 _;rw [e1]
   ·exact nomatch e
  ·rcases JAY hb with ⟨j,u,rfl,e⟩ | ⟨y,u,rfl,e⟩
   ·exact nomatch e
   ·injection e with e1 _;rw [e1]
 byValue:=fun k v h=>by
  rcases JAY h with ⟨i,t,rfl,rfl⟩ | ⟨x,t,rfl,rfl⟩<;>rfl
 pyHash:=fun hv h=>by
  rcases JAY hv with ⟨i,t,rfl,rfl⟩ | ⟨x,t,rfl,rfl⟩
  ·exact wpAny_pyHash_int h
  ·exact wpAny_pyHash_str h
 eqBool:=fun hu hv h=>by
  rcases JAY hu with ⟨i,t,rfl,rfl⟩ | ⟨x,t,rfl,rfl⟩
  ·rcases JAY hv with ⟨j,u,rfl,rfl⟩ | ⟨y,u,rfl,rfl⟩
   ·rw [JPQ] at h;exact wpAny_eqBool_int h
   ·rw [JN6] at h;exact SeqAt.EqAt.int_str i t y u _ _ _ _ h
  ·rcases JAY hv with ⟨j,u,rfl,rfl⟩ | ⟨y,u,rfl,rfl⟩
   ·rw [JON] at h;exact SeqAt.EqAt.str_int x t j u _ _ _ _ h
   ·rw [JOR] at h;exact wpAny_eqBool_str h
 «strs»:=fun k x t v h=>by
  rcases JAY h with ⟨i,u,rfl,e⟩ | ⟨y,u,rfl,e⟩
  ·exact nomatch e
  ·injection e with e1 _
   subst e1
   cases v<;>rfl
theorem JBn (prog:Program) (w:World) (x:Str) (t:Tok):(JBC prog w).is (.inr x) (.str x t)=true:=JG6 x t
end L2
namespace L2
open PySem PySem.Spec PyProof.Rows
inductive V where
 | non | bl (b:Bool) | int (i:Int) | str (x:Str) | byt (b:Array UInt8) | flt (b:UInt64) | ref (a:Addr) | ty (n:String)
 deriving DecidableEq
noncomputable def RelV:V->Value->Prop
 | .non,u=>u=Value.none
 | .bl b,u=>u=Value.bool b
 | .int i,u=>∃t,u=Value.int i t
 | .str x,u=>∃t,u=Value.str x t
 | .byt b,u=>∃t,u=Value.bytes b t
 | .flt b,u=>∃t,u=Value.float b t
 | .ref a,u=>u=Value.ref a
 | .ty n,u=>u=Value.type n
noncomputable abbrev Vals:List V->List Value->Prop:=Paired RelV
theorem Vals.length {xs:List V} {us:List Value} (r:Vals xs us):xs.length=us.length:=Paired.length r
theorem Vals.get:∀ {xs:List V} {us:List Value} {i:Nat} {x:V},Vals xs us->xs[i]? = some x->∃u,us[i]? = some u/\RelV x u
 | _,_,_,_,.nil,e=>by simp at e
 | _,_,0,_,.cons r _,e=>by simp at e;subst e;exact ⟨_,rfl,r⟩
 | _,_,i+1,x,.cons _ t,e=>by
  obtain ⟨u,h1,h2⟩:=Vals.get (i:=i) (x:=x) t (by simpa using e)
  exact ⟨u,by simpa using h1,h2⟩
theorem Vals.set {x:V} {u:Value} (r:RelV x u):∀ {xs:List V} {us:List Value} (i:Nat),Vals xs us->Vals (xs.set i x) (us.set i u)
 | _,_,_,.nil=>.nil
 | _,_,0,.cons _ t=>.cons r t
 | _,_,i+1,.cons q t=>.cons q (Vals.set r i t)
theorem Vals.append:∀ {xs ys:List V} {us ws:List Value},Vals xs us->Vals ys ws->Vals (xs++ys) (us++ws)
 | _,_,_,_,.nil,s=>s
 | _,_,_,_,.cons r t,s=>.cons r (Vals.append t s)
theorem Vals.take:∀ {xs:List V} {us:List Value} (n:Nat),Vals xs us->Vals (xs.take n) (us.take n)
 | _,_,0,_=>.nil
 | _,_,_+1,.nil=>.nil
 | _,_,n+1,.cons r t=>.cons r (Vals.take n t)
theorem Vals.drop:∀ {xs:List V} {us:List Value} (n:Nat),Vals xs us->Vals (xs.drop n) (us.drop n)
 | _,_,0,r=>r
 | _,_,_+1,.nil=>.nil
 | _,_,n+1,.cons _ t=>Vals.drop n t
noncomputable def RelO:Option V->Option Value->Prop
 | some v,some u=>RelV v u
 | none,none=>True
 | _,_=>False
noncomputable def KV {κ:Type}:List (κ×V)->List (κ×Value)->Prop:=Paired fun (p:κ×V) (q:κ×Value)=>p.1=q.1/\RelV p.2 q.2
noncomputable def kV:Key->V
 | .inl i=>.int i
 | .inr x=>.str x
inductive HO where
 | lst (xs:List V)
 | tup (xs:List V)
 | dK (kvs:List (Key×V)) | dT (kvs:List (List Key×V))
 | set (S:Int->Bool) (n:Nat)
 | ins (C dx:Addr) (fs:List (Str×V))
 | own (x:Addr)
 | xd (fs:List (Str×V))
 | met (f x:Addr)
 | rng (lo hi:Int)
 | frz (o:Obj) (u:HO)
 | tbl (ps:Array Value)
 | ext (φ:Heap->Prop)
noncomputable abbrev Hp:=Addr->Option HO
noncomputable def upd (H:Hp) (a:Addr) (o:HO):Hp:=fun b=>if b=a then some o else H b
theorem JAC {H:Hp} {a:Addr} {o:HO}:upd H a o a=some o:=by unfold upd;rw [if_pos rfl]
theorem JAF {H:Hp} {a b:Addr} {o:HO} (h:b≠a):upd H a o b=H b:=by unfold upd;rw [if_neg h]
theorem JAT {H:Hp} {a b:Addr} {o:HO} (h:H a=some o) (h':H b=none):a≠b:=by
 intro e;subst e;rw [h] at h';cases h'
section
variable (P:Program) (w:World)
noncomputable def ObjOk (H:Hp) (h:Heap) (a:Addr):HO->Prop
 | .lst xs=>xs.length<=sizeLine/\∃(its:List Value) (n:Nat),Vals xs its/\h.get? a=some { cls:=.type "list",data:=.seq its.toArray n }
 | .tup xs=>xs.length<=sizeLine/\∃its:List Value,Vals xs its/\IsTup h a its.toArray
 | .dK kvs=>kvs.length<=sizeLine/\(a==sysModules)=false/\∃vs,KV kvs vs/\h.DictOf (JBC P w) a vs
 | .dT kvs=>kvs.length<=sizeLine/\(a==sysModules)=false/\∃xs:List (List Key×Addr×Value),
  Paired (fun (p:List Key×V) (q:List Key×Addr×Value)=>p.1=q.1/\H q.2.1=some (.tup (p.1.map kV))/\RelV p.2 q.2.2) kvs xs /\
  ∃o es ep,h.get? a=some o/\o.ExactDict/\o.data=.dict es ep/\es.toList=xs.map (entryOfKey (tupleKind (JBC P w)))/\(xs.map (·.1)).Nodup
 | .set S n=>h.SetOf (intKind P w) a S n
 | .ins C dx fs=>H dx=some (.own a)/\fs.length<=1000/\dx≠a/\h.get? a=some (PySem.W.instObj C dx) /\
  ∃mA,h.Ns1 dx mA/\(∀f,RelO (fs.lookup f) (mA f))/\PySem.Within mA (fs.map (·.1))
 | .own _=>∃o,h.get? a=some o
 | .xd fs=>∃mA,h.Ns1 a mA/\∀f,RelO (fs.lookup f) (mA f)
 | .rng lo hi=>∃t u v,h.get? a=some { cls:=.type "range",data:=.fields #[.int lo t,.int hi u,.int 1 v] }
 | .frz o u=>h.get? a=some o/\ObjOk H h a u
 | .tbl ps=>h.get? a=some { cls:=.none,data:=.fields ps }
 | .met f x=>h.get? a=some (PySem.W.methodObj (.ref f) (.ref x))
 | .ext φ=>φ h/\(∃o,h.get? a=some o)/\∀h1 h2:Heap,φ h1->(∀o,h1.get? a=some o->h2.get? a=some o)->φ h2
noncomputable def HOk (H:Hp) (h:Heap):Prop:=∀a o,H a=some o->ObjOk P w H h a o
end
section
variable {P:Program} {w:World} {H H':Hp} {h h':Heap} {a:Addr} {o:HO}
theorem ObjOk.lt (x:ObjOk P w H h a o):a<h.objs.size:=by
 cases o with
 | lst xs=>obtain ⟨_,_,_,_,e⟩:=x;exact q_h e
 | tup xs=>obtain ⟨_,_,_,p⟩:=x;exact p.lt
 | dK kvs=>obtain ⟨_,_,_,_,o,_,_,e,_⟩:=x;exact q_h e
 | dT kvs=>obtain ⟨_,_,_,_,o,_,_,e,_⟩:=x;exact q_h e
 | set S n=>obtain ⟨o,_,_,_,e,_⟩:=x;exact q_h e
 | ins C dx fs=>obtain ⟨_,_,_,e,_⟩:=x;exact q_h e
 | own y=>obtain ⟨_,e⟩:=x;exact q_h e
 | xd fs=>obtain ⟨_,⟨_,_,_,e,_⟩,_⟩:=x;exact q_h e
 | rng lo hi=>obtain ⟨_,_,_,e⟩:=x;exact q_h e
 | frz ob u=>obtain ⟨e,_⟩:=x;exact q_h e
 | tbl ps=>exact q_h (show h.get? a=some _ from x)
 | met f y=>exact q_h (show h.get? a=some _ from x)
 | ext φ=>obtain ⟨_,⟨_,e⟩,_⟩:=x;exact q_h e
theorem Paired.mapP {α β:Type} {F G:α->β->Prop}:∀ {l₁:List α} {l₂:List β},Paired F l₁ l₂->(∀a b,F a b->G a b)->Paired G l₁ l₂
 | _,_,.nil,_=>.nil
 | _,_,.cons r t,f=>.cons (f _ _ r) (Paired.mapP t f)
theorem ObjOk.stay (x:ObjOk P w H h a o) (k:∀b u,(b=a\/H b=some (.own a))->h.get? b=some u->h'.get? b=some u)
  (ho:∀b,H b=some (.own a)->H' b=some (.own a)) (ht:∀b xs,H b=some (.tup xs)->H' b=some (.tup xs)):ObjOk P w H' h' a o:=by
 induction o with
 | lst xs=>obtain ⟨z,its,n,r,e⟩:=x;exact ⟨z,its,n,r,k _ _ (.inl rfl) e⟩
 | tup xs=>obtain ⟨z,its,r,ob,e,c⟩:=x;exact ⟨z,its,r,ob,k _ _ (.inl rfl) e,c⟩
 | dK kvs=>obtain ⟨z,y,vs,r,ob,es,ep,e,c⟩:=x;exact ⟨z,y,vs,r,ob,es,ep,k _ _ (.inl rfl) e,c⟩
 | dT kvs =>
  obtain ⟨z,y,xs,r,ob,es,ep,e,c⟩:=x
  exact ⟨z,y,xs,Paired.mapP r fun p q z=>⟨z.1,ht _ _ z.2.1,z.2.2⟩,ob,es,ep,k _ _ (.inl rfl) e,c⟩
 | set S n=>obtain ⟨ob,es,ep,t,e,c⟩:=x;exact ⟨ob,es,ep,t,k _ _ (.inl rfl) e,c⟩
 | ins C dx fs =>
  obtain ⟨d,z,ne,e,mA,⟨od,es,ep,e2,c⟩,r⟩:=x
  exact ⟨ho _ d,z,ne,k _ _ (.inl rfl) e,mA,⟨od,es,ep,k _ _ (.inr d) e2,c⟩,r⟩
 | own y=>obtain ⟨ob,e⟩:=x;exact ⟨ob,k _ _ (.inl rfl) e⟩
 | xd fs=>obtain ⟨mA,⟨od,es,ep,e,c⟩,r⟩:=x;exact ⟨mA,⟨od,es,ep,k _ _ (.inl rfl) e,c⟩,r⟩
 | rng lo hi=>obtain ⟨t,u,v,e⟩:=x;exact ⟨t,u,v,k _ _ (.inl rfl) e⟩
 | frz ob u ih=>obtain ⟨e,q⟩:=x;exact ⟨k _ _ (.inl rfl) e,ih q⟩
 | tbl ps =>
  have e:h.get? a=some { cls:=.none,data:=.fields ps }:=x
  show h'.get? a=some { cls:=.none,data:=.fields ps }
  exact k a _ (.inl rfl) e
 | met f y =>
  have e:h.get? a=some (PySem.W.methodObj (.ref f) (.ref y)):=x
  show h'.get? a=some (PySem.W.methodObj (.ref f) (.ref y))
  exact k a _ (.inl rfl) e
 | ext φ=>obtain ⟨p,⟨o,e⟩,st⟩:=x;exact ⟨st _ _ p fun o q=>k _ _ (.inl rfl) q,⟨o,k _ _ (.inl rfl) e⟩,st⟩
theorem HOk.lt (x:HOk P w H h) (e:H a=some o):a<h.objs.size:=(x a o e).lt
theorem HOk.fresh (x:HOk P w H h) (e:h.objs.size<=a):H a=none:=by
 cases q:H a with
 | none=>rfl
 | some u=>exact absurd (q_m (x.lt q) e) (Nat.lt_irrefl _)
theorem HOk.kept (x:HOk P w H h) (k:∀b u,h.get? b=some u->h'.get? b=some u):HOk P w H h':=fun a o e =>
 (x a o e).stay (fun b u _ q=>k b u q) (fun _ q=>q) fun _ _ q=>q
theorem HOk.laid (x:HOk P w H h) (k:∀b u,h.get? b=some u->h'.get? b=some u) (hp:h.objs.size<=a) (new:ObjOk P w (upd H a o) h' a o):HOk P w (upd H a o) h':=fun b u e=>by
 have hn:=x.fresh hp
 by_cases hb:b=a
 ·subst hb;rw [JAC] at e;cases e;exact new
 ·rw [JAF hb] at e
  exact (x b u e).stay (fun c v _ q=>k c v q) (fun c q=>by rw [JAF (JAT q hn)];exact q) fun c xs q=>by rw [JAF (JAT q hn)];exact q
end
noncomputable def Rd (H:Hp) (a:Addr) (u:HO):Prop:=H a=some u\/∃o,H a=some (.frz o u)
theorem Rd.of {H:Hp} {a:Addr} {u:HO} (h:H a=some u):Rd H a u:=.inl h
theorem Rd.ok {P:Program} {w:World} {H:Hp} {h:Heap} {a:Addr} {u:HO} (r:Rd H a u) (x:HOk P w H h):ObjOk P w H h a u:=by
 rcases r with r | ⟨o,r⟩
 ·exact x a u r
 ·obtain ⟨_,q⟩:=x a _ r
  exact q
noncomputable def Mut:Option HO->Prop
 | some (.lst _)=>True
 | some (.dK _)=>True
 | some (.dT _)=>True
 | some (.set _ _)=>True
 | some (.ins _ _ _)=>True
 | some (.ext _)=>True
 | _=>False
section
variable {P:Program} {w:World} {H:Hp} {h h':Heap} {x e:Addr} {o':HO}
theorem HOk.write (ok:HOk P w H h) (mu:Mut (H x)) (he:e=x\/H e=some (.own x)) (k:∀b u,b≠e->h.get? b=some u->h'.get? b=some u) (heo:∃u,h'.get? e=some u)
  (new:ObjOk P w (upd H x o') h' x o'):HOk P w (upd H x o') h':=fun b u q=>by
 have nown:∀c y,H c=some (.own y)->c≠x:=fun c y r z=>by subst z;rw [r] at mu;exact mu
 have ntup:∀c xs,H c=some (.tup xs)->c≠x:=fun c xs r z=>by subst z;rw [r] at mu;exact mu
 by_cases hb:b=x
 ·subst hb;rw [JAC] at q;cases q;exact new
 ·rw [JAF hb] at q
  by_cases hbe:b=e
  · have q':H b=some (.own x):=by
     rcases he with z | z
     ·exact absurd (hbe.trans z) hb
     ·rw [hbe];exact z
    rw [q] at q';cases q'
    obtain ⟨v,hv⟩:=heo
    exact ⟨v,by rw [hbe];exact hv⟩
  · refine (ok b u q).stay (fun c v hc r=>k c v ?_ r) (fun c r=>by rw [JAF (nown c b r)];exact r) fun c xs r=>by rw [JAF (ntup c xs r)];exact r
    rcases hc with rfl | hc
    ·exact hbe
    ·rintro rfl
     rcases he with z | z
     ·exact nown c b hc z
     ·rw [hc] at z;cases z;exact hb rfl
end
structure Un (fs ex:List Addr) (H H':Hp) (h h':Heap):Prop where
 keep:∀b o,h.get? b=some o->H b=none->b ∉ fs->b ∉ ex->h'.get? b=some o
 slot:∀b o,h.get? b=some o->H b=none->b∈fs->b ∉ ex->∃sl,h'.get? b=some { o with slots:=sl }
 free:∀b o,h.get? b=some o->H b=none->b ∉ ex->H' b=none
 there:∀b o,h.get? b=some o->b ∉ ex->∃o',h'.get? b=some o'
 tups:∀b xs,H b=some (.tup xs)->H' b=some (.tup xs)
 frzs:∀b o u,H b=some (.frz o u)->H' b=some (.frz o u)
 tbls:∀b ps,H b=some (.tbl ps)->∃more,H' b=some (.tbl (ps++more))
section
variable {fs fs' ex ex':List Addr} {H H1 H2:Hp} {h h1 h2 h':Heap} {a x e:Addr} {o:HO}
theorem Un.any (u:Un fs ex H H1 h h1) {b:Addr} {ob:Obj} (q:h.get? b=some ob) (n:H b=none) (hx:b ∉ ex):∃sl,h1.get? b=some { ob with slots:=sl }:=by
 by_cases hb:b∈fs
 ·exact u.slot b ob q n hb hx
 ·exact ⟨ob.slots,u.keep b ob q n hb hx⟩
theorem Un.trans (a:Un fs ex H H1 h h1) (b:Un fs ex H1 H2 h1 h2):Un fs ex H H2 h h2 where
 keep:=fun c ob q n hc hx=>b.keep c ob (a.keep c ob q n hc hx) (a.free c ob q n hx) hc hx
 slot:=fun c ob q n hc hx=>by
  obtain ⟨sl,e1⟩:=a.slot c ob q n hc hx
  obtain ⟨sl',e2⟩:=b.slot c _ e1 (a.free c ob q n hx) hc hx
  exact ⟨sl',e2⟩
 free:=fun c ob q n hx=>by
  obtain ⟨o',e1⟩:=a.there c ob q hx
  exact b.free c o' e1 (a.free c ob q n hx) hx
 there:=fun c ob q hx=>by
  obtain ⟨o',e1⟩:=a.there c ob q hx
  exact b.there c o' e1 hx
 tups:=fun c xs q=>b.tups c xs (a.tups c xs q)
 frzs:=fun c ob xs q=>b.frzs c ob xs (a.frzs c ob xs q)
 tbls:=fun c ps q=>by
  obtain ⟨m1,e1⟩:=a.tbls c ps q
  obtain ⟨m2,e2⟩:=b.tbls c _ e1
  exact ⟨m1++m2,by rw [e2,Array.append_assoc]⟩
theorem Un.kept (k:∀b u,h.get? b=some u->h'.get? b=some u):Un fs ex H H h h' :=
 ⟨fun b ob q _ _ _=>k b ob q,fun b ob q _ _ _=>⟨ob.slots,k b ob q⟩,fun _ _ _ n _=>n,fun b ob q _=>⟨ob,k b ob q⟩,fun _ _ q=>q,fun _ _ _ q=>q,fun _ ps q=>⟨#[],by rw [q];simp⟩⟩
theorem Un.refl:Un fs ex H H h h:=Un.kept fun _ _ q=>q
theorem Un.laid (k:∀b u,h.get? b=some u->h'.get? b=some u) (hp:h.objs.size<=a) (hn:H a=none):Un fs ex H (upd H a o) h h' where
 keep:=fun b u q _ _ _=>k b u q
 slot:=fun b u q _ _ _=>⟨u.slots,k b u q⟩
 free:=fun b u q n _=>by rw [JAF (q_l (q_m (q_h q) hp))];exact n
 there:=fun b u q _=>⟨u,k b u q⟩
 tups:=fun b xs q=>by rw [JAF (JAT q hn)];exact q
 frzs:=fun b u xs q=>by rw [JAF (JAT q hn)];exact q
 tbls:=fun b ps q=>⟨#[],by rw [JAF (JAT q hn),q];simp⟩
theorem Un.write (mu:Mut (H x)) (he:e=x\/H e=some (.own x)) (k:∀b u,b≠e->h.get? b=some u->h'.get? b=some u) (heo:∃u,h'.get? e=some u):Un fs ex H (upd H x o) h h':=by
 have hx:∀b,H b=none->b≠x:=fun b n z=>by subst z;rw [n] at mu;exact mu
 have hb:∀b,H b=none->b≠e:=fun b n z=>by
  subst z
  rcases he with r | r
  ·exact hx b n r
  ·rw [n] at r;cases r
 have hm:∀b u,H b=some u->¬Mut (some u)->b≠x:=fun b u q nm z=>by subst z;rw [q] at mu;exact nm mu
 refine ⟨fun b u q n _ _=>k b u (hb b n) q,fun b u q n _ _=>⟨u.slots,k b u (hb b n) q⟩,fun b u q n _=>by rw [JAF (hx b n)];exact n,fun b u q _=>?_,
  fun b xs q=>by rw [JAF (hm b _ q fun z=>z)];exact q,fun b u xs q=>by rw [JAF (hm b _ q fun z=>z)];exact q,fun b ps q=>⟨#[],by rw [JAF (hm b _ q fun z=>z),q];simp⟩⟩
 by_cases hbe:b=e
 ·subst hbe;exact heo
 ·exact ⟨u,k b u hbe q⟩
theorem Un.mono (u:Un fs ex H H1 h h1) (hs:∀b∈fs,b∈fs') (hx:∀b∈ex,b∈ex'):Un fs' ex' H H1 h h1 :=
 ⟨fun b ob q n hb he=>u.keep b ob q n (fun z=>hb (hs b z)) fun z=>he (hx b z),fun _ _ q n _ he=>u.any q n fun z=>he (hx _ z),fun b ob q n he=>u.free b ob q n fun z=>he (hx b z),fun b ob q he=>u.there b ob q fun z=>he (hx b z),u.tups,u.frzs,u.tbls⟩
end
noncomputable def trk (h:Heap) (H:Hp):List Addr:=(List.range h.objs.size).filter fun a=>(H a).isSome
noncomputable def hidT (h:Heap) (H:Hp):Heap:=PySem.W.hideAll h (trk h H)
theorem JHE (h:Heap) (H:Hp):(hidT h H).objs.size=h.objs.size:=PySem.W.hideAll_size _ _
theorem JJO {h:Heap} {H:Hp} {b:Addr} {o:Obj} (e:h.get? b=some o) (n:H b=none):(hidT h H).get? b=some o :=
 PySem.W.hideAll_get _ e fun hm=>by
  have q:(H b).isSome=true:=(List.mem_filter.mp hm).2
  rw [n] at q;simp at q
theorem JMY {h:Heap} {H:Hp} {b:Addr} {o:Obj} (e:(hidT h H).get? b=some o):h.get? b=some o/\H b=none:=by
 have e':h.get? b=some o:=PySem.W.of_hideAll (trk h H) e
 refine ⟨e',?_⟩
 cases q:H b with
 | none=>rfl
 | some x =>
  have hm:b∈trk h H:=List.mem_filter.mpr ⟨List.mem_range.mpr (q_h e'),by simp [q]⟩
  have z:(hidT h H).get? b=none:=PySem.W.hideAll_none (trk h H) hm
  rw [z] at e;cases e
noncomputable def JMm (g h:Heap) (L:Addr):List (Addr×Obj):=(List.range h.objs.size).filterMap fun a=>if a=L\/(g.get? a).isSome=true then none else (h.get? a).map fun o=>(a,o)
noncomputable def rest (g h:Heap) (L d:Addr):List (Addr×Obj):=(JMm g h L).filter fun p=>decide (p.1≠d)
end L2
namespace L2
open PySem PySem.Spec PyProof.Rows
structure Mod (K:PySem.W.Frag) (mg:Str->Option Value) (base:Heap):Prop where
 kin:K.In base
 glob:base.Ns mainGlobals mg
 blt:∃mb,base.Ns builtinsNs mb/\∀x:Str,x≠"__name__"->mb x=bootBuiltins x
 nolimit:base.NoLimit
structure Cx where
 prog:Program
 w:World
 K:PySem.W.Frag
 mg:Str->Option Value
 base:Heap
 A:Around
 N:List Str
 s₀:Shared
 H₀:Hp
 env:Env
 outer:List Env
 stack:List Env
 ex:List Addr
 fn:Str->Bool
 calm:Bool
 pn:List (Addr×Obj)
 xe:Value->Shared->Prop
noncomputable def frs (l:List Env):List Addr:=l.filterMap (·.frame)
noncomputable abbrev Cx.fs (X:Cx):List Addr:=frs X.outer
noncomputable def Vis (sc:Scope) (x:Str):Prop:=sc.names.lookup x=some .local\/sc.names.lookup x=some .cell\/sc.names.lookup x=some .free
noncomputable def Loc (sc:Scope) (x:Str):Prop:=sc.names.lookup x=some .local\/sc.names.lookup x=some .cell
noncomputable def Look (env:Env) (h:Heap) (m:Str->Option Value) (x:Str) (u:Value):Prop :=
 (env.kindOf x=some .local/\m x=some u)\/((env.kindOf x=some .cell\/env.kindOf x=some .free)/\∃c,env.cells.lookup x=some c/\h.IsCell c (some u))
structure Cx.Ok (X:Cx):Prop where
 mod:Mod X.K X.mg X.base
 kind:X.env.scope.kind=.function
 glob:X.env.globals=mainGlobals
 blt:X.env.builtins=builtinsNs
 above:X.s₀.heap.objs.size<=X.env.locals
 inj:∀x y c,X.env.cells.lookup x=some c->X.env.cells.lookup y=some c->x=y
 has:∀x,(X.env.kindOf x=some .cell\/X.env.kindOf x=some .free)->∃c,X.env.cells.lookup x=some c
 cab:∀x c,X.fn x=true->X.env.cells.lookup x=some c->X.s₀.heap.objs.size<=c
 hd:X.calm=true->X.A.handled=none
 frames:X.A.frames=some X.stack
 stk:X.stack=X.outer\/(X.stack=X.env::X.outer/\X.env.frame=some X.env.locals)
 exf:∀b∈X.ex,b≠X.env.locals/\∀x c,X.env.cells.lookup x=some c->c≠b
 bs:∀b o,X.base.get? b=some o->X.s₀.heap.get? b=some o/\X.H₀ b=none
 bsz:X.base.objs.size<=X.s₀.heap.objs.size
 noex:∀b o,X.base.get? b=some o->b ∉ X.ex
 exfs:∀b∈X.ex,b ∉ X.fs
 funs:X.s₀.heap.FunFrames X.base X.outer
 frf:∀b∈X.fs,X.H₀ b=none
structure Inv (X:Cx) (pins:List (Addr×Obj)) (σ:List (Option V)) (H:Hp) (s:Shared):Prop where
 ok:X.Ok
 os:s.os=X.s₀.os
 bare:AllBare s.gens
 base:Un X.fs X.ex X.H₀ H X.s₀.heap s.heap
 loc:∃m,s.heap.Ns X.env.locals m/\∀(i:Nat) (x:Str) (v:V),X.N[i]? = some x->σ[i]? = some (some v)->Vis X.env.scope x->∃u,RelV v u/\Look X.env s.heap m x u
 cell:∀x c,X.env.cells.lookup x=some c->∃v,s.heap.IsCell c v
 free:H X.env.locals=none
 freeC:∀x c,X.env.cells.lookup x=some c->H c=none
 pin:∀p∈X.pn++pins,s.heap.get? p.1=some p.2/\H p.1=none/\p.1≠X.env.locals/\p.1 ∉ X.fs/\∀v,p.2.data≠.cell v
 hok:HOk X.prog X.w H s.heap
 len:σ.length=X.N.length
section
variable {X:Cx} {pins:List (Addr×Obj)} {σ:List (Option V)} {H H':Hp} {s:Shared} {h':Heap}
theorem Cx.Ok.nofr (ok:X.Ok) {b:Addr} {o:Obj} (e:X.base.get? b=some o):b ∉ X.fs:=fun hb=>by
 have:=(ok.funs.mem hb).1
 rw [e] at this;cases this
theorem Inv.bs (I:Inv X pins σ H s):∀b o,X.base.get? b=some o->s.heap.get? b=some o/\H b=none:=fun b o e =>
 ⟨I.base.keep b o (I.ok.bs b o e).1 (I.ok.bs b o e).2 (I.ok.nofr e) (I.ok.noex b o e),I.base.free b o (I.ok.bs b o e).1 (I.ok.bs b o e).2 (I.ok.noex b o e)⟩
theorem Inv.bk (I:Inv X pins σ H s):∀b o,X.base.get? b=some o->s.heap.get? b=some o:=fun b o e=>(I.bs b o e).1
theorem Inv.mod (I:Inv X pins σ H s):Mod X.K X.mg X.base:=I.ok.mod
theorem Inv.kIn (I:Inv X pins σ H s):X.K.In s.heap:=I.ok.mod.kin.keeps I.bk
theorem Inv.nolimit (I:Inv X pins σ H s):s.heap.NoLimit:=I.ok.mod.nolimit.keeps I.bk
theorem Inv.lt (I:Inv X pins σ H s):X.env.locals<s.heap.objs.size:=let ⟨_,hn,_⟩:=I.loc;hn.lt
theorem Inv.sz (I:Inv X pins σ H s):X.s₀.heap.objs.size<=s.heap.objs.size:=Nat.le_trans I.ok.above (Nat.le_of_lt I.lt)
theorem Inv.nofs (I:Inv X pins σ H s) {a:Addr} (h:s.heap.objs.size<=a):a ∉ X.fs:=fun hb=>by
 obtain ⟨_,o,ho,_⟩:=I.ok.funs.mem hb
 exact absurd (q_m (q_h ho) (Nat.le_trans I.sz h)) (Nat.lt_irrefl _)
theorem Inv.cne (I:Inv X pins σ H s):∀x c,X.env.cells.lookup x=some c->c≠X.env.locals:=fun x c e z=>by
 obtain ⟨v,o,ho,hd⟩:=I.cell x c e
 obtain ⟨m,⟨o',es,ep,ho',hd',_⟩,_⟩:=I.loc
 rw [z,ho'] at ho;cases ho;rw [hd'] at hd;cases hd
theorem Inv.funs (I:Inv X pins σ H s):s.heap.FunFrames X.base X.outer:=by
 have all:∀(l:List Env),(∀b∈frs l,b∈X.fs)->X.s₀.heap.FunFrames X.base l->s.heap.FunFrames X.base l:=by
  intro l
  induction l with
  | nil=>intro _ _;trivial
  | cons env r ih =>
   intro hs hl
   obtain ⟨hk,⟨L,o,hf,hn,ho,hd⟩,hr⟩:=hl
   have hL:L∈X.fs:=hs L (by unfold frs;rw [List.filterMap_cons,hf];exact List.mem_cons_self)
   obtain ⟨sl,e⟩:=I.base.slot L o ho (I.ok.frf L hL) hL fun z=>I.ok.exfs L z hL
   exact ⟨hk,⟨L,_,hf,hn,e,hd⟩,ih (fun b hb=>hs b (by unfold frs;rw [List.filterMap_cons,hf];exact q_s _ hb)) hr⟩
 exact all X.outer (fun _ hb=>hb) I.ok.funs
theorem Inv.stack (I:Inv X pins σ H s):s.heap.FunFrames X.base X.stack:=by
 rcases I.ok.stk with e | ⟨e,hf⟩
 ·rw [e];exact I.funs
 ·rw [e]
  obtain ⟨m,hn,_⟩:=I.loc
  refine .cons (by rw [I.ok.kind];decide) hf hn ?_ I.funs
  exact Heap.get?_none_of_le (Nat.le_trans I.ok.bsz I.ok.above)
theorem Inv.stkSub (I:Inv X pins σ H s):∀b∈frs X.stack,b∈X.env.locals::X.fs:=fun b hb=>by
 rcases I.ok.stk with e | ⟨e,hf⟩
 ·rw [e] at hb;exact q_s _ hb
 ·rw [e] at hb
  unfold frs at hb
  rw [List.filterMap_cons,hf] at hb
  exact hb
theorem Inv.stkFree (I:Inv X pins σ H s):∀b∈frs X.stack,H b=none:=fun b hb=>by
 rcases q_n.mp (I.stkSub b hb) with e | hb
 ·rw [e];exact I.free
 ·obtain ⟨_,o,ho,_⟩:=I.ok.funs.mem hb
  exact I.base.free b o ho (I.ok.frf b hb) fun z=>I.ok.exfs b z hb
theorem Inv.step {g':Array GenState} {t':Nat} {d':Drawn} {ch:List Addr} (I:Inv X pins σ H s)
  (hch:∀b∈ch,(b∈X.ex\/X.s₀.heap.objs.size<=b)/\b≠X.env.locals/\(∀x c,X.env.cells.lookup x=some c->c≠b)/\∀p∈X.pn++pins,p.1≠b)
  (keep:∀b o,b≠X.env.locals->b ∉ X.fs->b ∉ ch->s.heap.get? b=some o->H b=none->h'.get? b=some o)
  (slot:∀b o,b≠X.env.locals->b∈X.fs->b ∉ ch->s.heap.get? b=some o->H b=none->∃sl,h'.get? b=some { o with slots:=sl }) (free:∀b o,b ∉ ch->s.heap.get? b=some o->H b=none->H' b=none)
  (there:∀b o,b ∉ ch->s.heap.get? b=some o->∃o',h'.get? b=some o')
  (tups:∀b xs,H b=some (.tup xs)->H' b=some (.tup xs)) (frzs:∀b o u,H b=some (.frz o u)->H' b=some (.frz o u)) (tbls:∀b ps,H b=some (.tbl ps)->∃more,H' b=some (.tbl (ps++more)))
  (ns:∀m,s.heap.Ns X.env.locals m->h'.Ns X.env.locals m) (hok:HOk X.prog X.w H' h') (hg:AllBare g') :
  Inv X pins σ H' { s with heap:=h',gens:=g',drawn:=d',toks:=t' }:=by
 have neL:∀b o,X.s₀.heap.get? b=some o->b≠X.env.locals:=fun b o e=>q_l (q_m (q_h e) I.ok.above)
 have neC:∀b o,X.s₀.heap.get? b=some o->b ∉ X.ex->b ∉ ch:=fun b o e hx hb=>by
  rcases (hch b hb).1 with z | z
  · exact hx z
  · exact absurd (q_m (q_h e) z) (Nat.lt_irrefl _)
 have cellK:∀x c,X.env.cells.lookup x=some c->∀v,s.heap.IsCell c v->h'.IsCell c v:=fun x c e v ⟨o,ho,hd⟩=>by
  have nch:c ∉ ch:=fun z=>(hch c z).2.2.1 x c e rfl
  by_cases hc:c∈X.fs
  · obtain ⟨sl,q⟩:=slot c o (I.cne x c e) hc nch ho (I.freeC x c e)
    exact ⟨_,q,hd⟩
  · exact ⟨o,keep c o (I.cne x c e) hc nch ho (I.freeC x c e),hd⟩
 refine ⟨I.ok,I.os,hg,⟨fun b o e n hb hx=>?_,fun b o e n hb hx=>?_,fun b o e n hx=>?_,fun b o e hx=>?_,fun b xs e=>tups b xs (I.base.tups b xs e),fun b o xs e=>frzs b o xs (I.base.frzs b o xs e),fun b ps e=>?_⟩,?_,fun x c e=>?_,?_,fun x c e=>?_,fun p hp=>?_,hok,I.len⟩
 ·exact keep b o (neL b o e) hb (neC b o e hx) (I.base.keep b o e n hb hx) (I.base.free b o e n hx)
 ·obtain ⟨sl,e1⟩:=I.base.slot b o e n hb hx
  obtain ⟨sl',e2⟩:=slot b _ (neL b o e) hb (neC b o e hx) e1 (I.base.free b o e n hx)
  exact ⟨sl',e2⟩
 ·obtain ⟨o',e1⟩:=I.base.there b o e hx
  exact free b o' (neC b o e hx) e1 (I.base.free b o e n hx)
 ·obtain ⟨o',e1⟩:=I.base.there b o e hx
  exact there b o' (neC b o e hx) e1
 ·obtain ⟨m1,e1⟩:=I.base.tbls b ps e
  obtain ⟨m2,e2⟩:=tbls b _ e1
  exact ⟨m1++m2,by rw [e2,Array.append_assoc]⟩
 ·obtain ⟨m,hn,hl⟩:=I.loc
  refine ⟨m,ns m hn,fun i x v e1 e2 e3=>?_⟩
  obtain ⟨u,r,l⟩:=hl i x v e1 e2 e3
  refine ⟨u,r,?_⟩
  rcases l with l | ⟨k,c,e,z⟩
  · exact .inl l
  · exact .inr ⟨k,c,e,cellK x c e _ z⟩
 ·obtain ⟨v,z⟩:=I.cell x c e
  exact ⟨v,cellK x c e v z⟩
 ·obtain ⟨m,⟨o,_,_,ho,_⟩,_⟩:=I.loc
  exact free _ o (fun z=>(hch _ z).2.1 rfl) ho I.free
 ·obtain ⟨v,o,ho,hd⟩:=I.cell x c e
  exact free c o (fun z=>(hch c z).2.2.1 x c e rfl) ho (I.freeC x c e)
 ·obtain ⟨e,n,ne,nf,d⟩:=I.pin p hp
  have nch:p.1 ∉ ch:=fun z=>(hch p.1 z).2.2.2 p hp rfl
  exact ⟨keep p.1 p.2 ne nf nch e n,free p.1 p.2 nch e n,ne,nf,d⟩
theorem Inv.un {t':Nat} (I:Inv X pins σ H s) (u:Un X.fs [] H H' s.heap h') (hok:HOk X.prog X.w H' h'):Inv X pins σ H' { s with heap:=h',toks:=t' }:=by
 obtain ⟨m,⟨o,es,ep,ho,r⟩,_⟩:=id I.loc
 obtain ⟨sl,hL⟩:=u.any ho I.free (by simp)
 exact I.step (g':=s.gens) (d':=s.drawn) (ch:=[]) (fun _ z=>nomatch z) (fun b o _ hb _ e n=>u.keep b o e n hb (by simp)) (fun b o _ hb _ e n=>u.slot b o e n hb (by simp)) (fun b o _ e n=>u.free b o e n (by simp)) (fun b o _ e=>u.there b o e (by simp)) u.tups u.frzs u.tbls (fun m' hm=>by
  obtain ⟨o',es',ep',ho',r'⟩:=hm
  rw [ho] at ho';cases ho'
  exact ⟨_,es',ep',hL,r'⟩) hok I.bare
theorem Inv.call {g':Array GenState} {t':Nat} {d':Drawn} {ch:List Addr} (I:Inv X pins σ H s) (u:Un (frs X.stack) ch H H' s.heap h') (hok:HOk X.prog X.w H' h') (hg:AllBare g')
  (hch:∀b∈ch,(b∈X.ex\/X.s₀.heap.objs.size<=b)/\b≠X.env.locals/\(∀x c,X.env.cells.lookup x=some c->c≠b)/\∀p∈X.pn++pins,p.1≠b) :
  Inv X pins σ H' { s with heap:=h',gens:=g',drawn:=d',toks:=t' }:=by
 obtain ⟨m,⟨o,es,ep,ho,r⟩,_⟩:=id I.loc
 obtain ⟨sl,hL⟩:=u.any ho I.free fun z=>(hch _ z).2.1 rfl
 exact I.step (ch:=ch) hch (fun b o hL hb hc e n=>u.keep b o e n (fun z=>(q_n.mp (I.stkSub b z)).elim hL hb) hc) (fun b o _ _ hc e n=>u.any e n hc) (fun b o hc e n=>u.free b o e n hc) (fun b o hc e=>u.there b o e hc) u.tups u.frzs u.tbls (fun m' hm=>by
  obtain ⟨o',es',ep',ho',r'⟩:=hm
  rw [ho] at ho';cases ho'
  exact ⟨_,es',ep',hL,r'⟩) hok hg
theorem Inv.turned {t':Nat} {it:Addr} (I:Inv X pins σ H s) (k:∀b o,b≠it->s.heap.get? b=some o->h'.get? b=some o) (hn:H it=none) (hL:it≠X.env.locals)
  (h1:it∈X.ex\/X.s₀.heap.objs.size<=it) (h2:∀x c,X.env.cells.lookup x=some c->c≠it) (h3:∀p∈X.pn++pins,p.1≠it):Inv X pins σ H { s with heap:=h',toks:=t' }:=by
 have nit:∀b u,H b=some u->b≠it:=fun b u e z=>by rw [z,hn] at e;cases e
 refine I.step (g':=s.gens) (d':=s.drawn) (ch:=[it]) (fun b hb=>?_) (fun b o _ _ hc e _=>k b o (fun z=>hc (by simp [z])) e) (fun b o _ _ hc e _=>⟨o.slots,k b o (fun z=>hc (by simp [z])) e⟩) (fun _ _ _ _ n=>n)
  (fun b o hc e=>⟨o,k b o (fun z=>hc (by simp [z])) e⟩) (fun _ _ e=>e) (fun _ _ _ e=>e) (fun b ps e=>⟨#[],by rw [e];simp⟩) (fun m hm=>?_) (fun b u e=>?_) I.bare
 ·have e:b=it:=by simpa using hb
  subst e
  exact ⟨h1,hL,h2,h3⟩
 ·obtain ⟨o,es,ep,ho,r⟩:=hm
  exact ⟨o,es,ep,k _ o (Ne.symm hL) ho,r⟩
 ·refine (I.hok b u e).stay (fun c v hc q=>k c v ?_ q) (fun _ q=>q) fun _ _ q=>q
  rcases hc with z | z
  · rw [z];exact nit b u e
  · exact nit c _ z
theorem Inv.tok (I:Inv X pins σ H s) (t:Nat):Inv X pins σ H { s with toks:=t }:=I.un (h':=s.heap) (t':=t) Un.refl I.hok
theorem Inv.kept {t':Nat} (I:Inv X pins σ H s) (k:∀b u,s.heap.get? b=some u->h'.get? b=some u):Inv X pins σ H { s with heap:=h',toks:=t' }:=I.un (Un.kept k) (I.hok.kept k)
theorem Inv.laid {a:Addr} {o:HO} {t':Nat} (I:Inv X pins σ H s) (k:∀b u,s.heap.get? b=some u->h'.get? b=some u) (hp:s.heap.objs.size<=a) (new:ObjOk X.prog X.w (upd H a o) h' a o) :
 Inv X pins σ (upd H a o) { s with heap:=h',toks:=t' }:=I.un (Un.laid k hp (I.hok.fresh hp)) (I.hok.laid k hp new)
theorem Inv.write {x e:Addr} {o:HO} {t':Nat} (I:Inv X pins σ H s) (mu:Mut (H x)) (he:e=x\/H e=some (.own x)) (k:∀b u,b≠e->s.heap.get? b=some u->h'.get? b=some u) (heo:∃u,h'.get? e=some u)
 (new:ObjOk X.prog X.w (upd H x o) h' x o):Inv X pins σ (upd H x o) { s with heap:=h',toks:=t' }:=I.un (Un.write mu he k heo) (I.hok.write mu he k heo new)
theorem Inv.weak {σ':List (Option V)} (I:Inv X pins σ H s) (hl:σ'.length=σ.length) (w:∀(i:Nat) v,σ'[i]? = some (some v)->σ[i]? = some (some v)):Inv X pins σ' H s :=
 ⟨I.ok,I.os,I.bare,I.base,let ⟨m,hn,hl'⟩:=I.loc;⟨m,hn,fun i x v e1 e2 e3=>hl' i x v e1 (w i v e2) e3⟩,I.cell,I.free,I.freeC,I.pin,I.hok,hl.trans I.len⟩
theorem Inv.pins_of {pins':List (Addr×Obj)} (I:Inv X pins σ H s) (h:∀p∈pins',s.heap.get? p.1=some p.2/\H p.1=none/\p.1≠X.env.locals/\p.1 ∉ X.fs/\∀v,p.2.data≠.cell v):Inv X pins' σ H s :=
 ⟨I.ok,I.os,I.bare,I.base,I.loc,I.cell,I.free,I.freeC,fun p hp=>(List.mem_append.mp hp).elim (fun z=>I.pin p (List.mem_append_left _ z)) (h p),I.hok,I.len⟩
theorem JDg {N:List Str} (hN:N.Nodup) {i j:Nat} {x:Str} (a:N[i]? = some x) (b:N[j]? = some x):i=j:=by
 obtain ⟨h1,e1⟩:=q_p.mp a
 obtain ⟨h2,e2⟩:=q_p.mp b
 exact (List.getElem_inj hN).mp (e1.trans e2.symm)
theorem JEO {M:Model} {A:Around} {E:Value->Shared->Prop} {i:Nat} {x:Str} {v:V} {u:Value} {Q:Unit->Shared->Prop} (I:Inv X pins σ H s) (hN:X.N.Nodup) (hi:X.N[i]? = some x) (hx:Loc X.env.scope x) (r:RelV v u)
  (h:∀s',Inv X pins (σ.set i (some v)) H s'->(∃a,Heap.SameBut a s.heap s'.heap/\(a=X.env.locals\/X.env.cells.lookup x=some a))->Q () s') (hf:X.fn x=true\/X.env.scope.names.lookup x=some .local:=by first | exact .inl rfl | exact .inr rfl | assumption):wpAny M A (storeName X.env x u) Q E s:=by
 obtain ⟨m,hn,hl⟩:=id I.loc
 have hcls:(X.env.scope.kind==.class || (X.env.scope.kind==.module&&X.env.locals != X.env.globals))=false:=by rw [I.ok.kind];rfl
 have hiσ:i<σ.length:=by rw [I.len];exact (q_p.mp hi).1
 have cne:=I.cne
 have tracked:∀ {a:Addr} {h':Heap},(∃o,s.heap.get? a=some o/\H a=none)->Heap.SameBut a s.heap h'->HOk X.prog X.w H h':=fun {a h'} ha hs b ob e=>by
  obtain ⟨_,_,hfree⟩:=ha
  refine (I.hok b ob e).stay (fun c w' hc q=>(hs.2 c ?_).trans q) (fun _ q=>q) fun _ _ q=>q
  rintro rfl
  rcases hc with rfl | hc
  · rw [hfree] at e;cases e
  · rw [hfree] at hc;cases hc
 rcases hx with hk | hk
 ·refine wpAny_storeName_local hk hn (fun h' hn' hs=>?_) hcls
  obtain ⟨oL,_,_,hoL,_⟩:=id hn
  refine h _ ⟨I.ok,I.os,I.bare,⟨fun b o e n hb hx=>?_,fun b o e n hb hx=>?_,I.base.free,fun b o e hx=>?_,I.base.tups,I.base.frzs,I.base.tbls⟩,⟨_,hn',fun j y v' e1 e2 e3=>?_⟩,fun y c e=>?_,I.free,I.freeC,fun p hp=>?_,tracked ⟨oL,hoL,I.free⟩ hs,by simpa using I.len⟩ ⟨_,hs,.inl rfl⟩
  · exact (hs.2 b (q_l (q_m (q_h e) I.ok.above))).trans (I.base.keep b o e n hb hx)
  · obtain ⟨sl,e1⟩:=I.base.slot b o e n hb hx
    exact ⟨sl,(hs.2 b (q_l (q_m (q_h e) I.ok.above))).trans e1⟩
  · obtain ⟨o',e1⟩:=I.base.there b o e hx
    exact ⟨o',(hs.2 b (q_l (q_m (q_h e) I.ok.above))).trans e1⟩
  · by_cases hj:j=i
    ·subst hj
     rw [hi] at e1;cases e1
     rw [q_y hiσ] at e2
     cases e2
     exact ⟨u,r,.inl ⟨hk,by simp⟩⟩
    ·rw [q_z (Ne.symm hj)] at e2
     obtain ⟨u',r',q⟩:=hl j y v' e1 e2 e3
     refine ⟨u',r',?_⟩
     rcases q with ⟨k,e⟩ | ⟨k,c,e,z⟩
     ·refine .inl ⟨k,?_⟩
      have:y≠x:=fun e=>hj (JDg hN e1 (e▸hi))
      simp [this,e]
     ·exact .inr ⟨k,c,e,z.sameBut hs (cne y c e)⟩
  · obtain ⟨w',z⟩:=I.cell y c e
    exact ⟨w',z.sameBut hs (cne y c e)⟩
  · obtain ⟨e,n,ne,nf,d⟩:=I.pin p hp
    exact ⟨(hs.2 p.1 ne).trans e,n,ne,nf,d⟩
 ·have hfn:X.fn x=true:=by
    rcases hf with z | z
    ·exact z
    ·rw [z] at hk;cases hk
  obtain ⟨c,hc⟩:=I.ok.has x (.inl hk)
  obtain ⟨w',z⟩:=I.cell x c hc
  refine wpAny_storeName_cell I.ok.kind hk hc z (fun h' hc' hs=>?_)
  obtain ⟨oc,hoc,hocd⟩:=id z
  refine h { s with heap:=h' } ⟨I.ok,I.os,I.bare,⟨fun b o e n hb hx=>?_,fun b o e n hb hx=>?_,I.base.free,fun b o e hx=>?_,I.base.tups,I.base.frzs,I.base.tbls⟩,⟨m,hn.sameBut hs (Ne.symm (cne x c hc)),fun j y v' e1 e2 e3=>?_⟩,fun y c' e=>?_,I.free,I.freeC,fun p hp=>?_,tracked ⟨oc,hoc,I.freeC x c hc⟩ hs,by simpa using I.len⟩ ⟨c,hs,.inr hc⟩
  · exact (hs.2 b (q_l (q_m (q_h e) (I.ok.cab x c hfn hc)))).trans (I.base.keep b o e n hb hx)
  · obtain ⟨sl,e1⟩:=I.base.slot b o e n hb hx
    exact ⟨sl,(hs.2 b (q_l (q_m (q_h e) (I.ok.cab x c hfn hc)))).trans e1⟩
  · obtain ⟨o',e1⟩:=I.base.there b o e hx
    exact ⟨o',(hs.2 b (q_l (q_m (q_h e) (I.ok.cab x c hfn hc)))).trans e1⟩
  · by_cases hj:j=i
    ·subst hj
     rw [hi] at e1;cases e1
     rw [q_y hiσ] at e2
     cases e2
     exact ⟨u,r,.inr ⟨.inl hk,c,hc,hc'⟩⟩
    ·rw [q_z (Ne.symm hj)] at e2
     obtain ⟨u',r',q⟩:=hl j y v' e1 e2 e3
     refine ⟨u',r',?_⟩
     rcases q with q | ⟨k,c',e,z'⟩
     ·exact .inl q
     ·refine .inr ⟨k,c',e,z'.sameBut hs ?_⟩
      rintro rfl
      exact hj (JDg hN e1 (I.ok.inj _ _ _ e hc▸hi))
  · by_cases hcc:c'=c
    ·subst hcc;exact ⟨_,hc'⟩
    ·obtain ⟨w2,z2⟩:=I.cell y c' e
     exact ⟨w2,z2.sameBut hs hcc⟩
  · obtain ⟨e,n,ne,nf,d⟩:=I.pin p hp
    refine ⟨(hs.2 p.1 ?_).trans e,n,ne,nf,d⟩
    intro q
    rw [q,hoc] at e
    have q':oc=p.2:=Option.some.inj e
    exact d w' (by rw [<-q'];exact hocd)
theorem JA8 {M:Model} {A:Around} {E:Value->Shared->Prop} {i:Nat} {x:Str} {v:V} {u:Value} {Q:Unit->Shared->Prop} (I:Inv X pins σ H s) (hN:X.N.Nodup) (hi:X.N[i]? = some x) (hx:Loc X.env.scope x) (r:RelV v u)
  (h:∀s',Inv X pins (σ.set i (some v)) H s'->Q () s') (hf:X.fn x=true\/X.env.scope.names.lookup x=some .local:=by first | exact .inl rfl | exact .inr rfl | assumption):wpAny M A (storeName X.env x u) Q E s :=
 JEO I hN hi hx r (fun s' I' _=>h s' I') hf
theorem Inv.call' {s':Shared} {ch:List Addr} (I:Inv X pins σ H s) (ho:s'.os=s.os) (u:Un (frs X.stack) ch H H' s.heap s'.heap) (hok:HOk X.prog X.w H' s'.heap) (hg:AllBare s'.gens)
  (hch:∀b∈ch,(b∈X.ex\/X.s₀.heap.objs.size<=b)/\b≠X.env.locals/\(∀x c,X.env.cells.lookup x=some c->c≠b)/\∀p∈X.pn++pins,p.1≠b):Inv X pins σ H' s':=by
 obtain ⟨h',g',d',t',o'⟩:=s'
 have e:o'=s.os:=ho
 subst e
 exact I.call (g':=g') (t':=t') (d':=d') u hok hg hch
end
noncomputable abbrev XK:=Value->Option Addr->Hp->Prop
noncomputable abbrev St:=List (Option V)
noncomputable abbrev VK:=V->Hp->Prop
noncomputable abbrev TE:=St->Hp->VK->Prop
noncomputable abbrev TT:=St->Hp->(Bool->Hp->Prop)->Prop
noncomputable abbrev TA:=St->Hp->(List V->Hp->Prop)->Prop
structure Ends where
 nx:St->Hp->Prop
 rt:VK
 bk:St->Hp->Prop:=fun _ _=>False
 ct:St->Hp->Prop:=fun _ _=>False
noncomputable abbrev TS:=Ends->St->Hp->Prop
noncomputable def EP (X:Cx) (pins:List (Addr×Obj)) (σ:St) (Q:VK) (u:Value) (s':Shared):Prop:=∃v H',Inv X pins σ H' s'/\RelV v u/\Q v H'
noncomputable def TP (X:Cx) (pins:List (Addr×Obj)) (σ:St) (Q:Bool->Hp->Prop) (b:Bool) (s':Shared):Prop:=∃H',Inv X pins σ H' s'/\Q b H'
noncomputable def AP (X:Cx) (pins:List (Addr×Obj)) (σ:St) (Q:List V->Hp->Prop) (us:List Value) (s':Shared):Prop:=∃vs H',Inv X pins σ H' s'/\Vals vs us/\Q vs H'
noncomputable def SP (X:Cx) (pins:List (Addr×Obj)) (D:Ends) (f:Flow) (s':Shared):Prop :=
 match f with
 | .next=>∃σ' H',Inv X pins σ' H' s'/\D.nx σ' H'
 | .brk=>∃σ' H',Inv X pins σ' H' s'/\D.bk σ' H'
 | .cont=>∃σ' H',Inv X pins σ' H' s'/\D.ct σ' H'
 | .ret u=>∃v σ' H',Inv X pins σ' H' s'/\RelV v u/\D.rt v H'
noncomputable def PE (X:Cx) (e:Expr) (t:TE):Prop :=
 ∀(pins:List (Addr×Obj)) (s:Shared) (σ:St) (H:Hp) (Q:VK),Inv X pins σ H s->t σ H Q->wpAny (model X.prog X.w) X.A (eval e X.env) (EP X pins σ Q) X.xe s
noncomputable def PT (X:Cx) (e:Expr) (t:TT):Prop :=
 ∀(pins:List (Addr×Obj)) (s:Shared) (σ:St) (H:Hp) (Q:Bool->Hp->Prop),Inv X pins σ H s->t σ H Q->wpAny (model X.prog X.w) X.A (isTrue e X.env (eval e X.env)) (TP X pins σ Q) X.xe s
noncomputable def PW (X:Cx) (e:Expr) (t:TT):Prop :=
 ∀(whole:Sem Value) (pins:List (Addr×Obj)) (s:Shared) (σ:St) (H:Hp) (Q:Bool->Hp->Prop),Inv X pins σ H s->t σ H Q->wpAny (model X.prog X.w) X.A (isTrue e X.env whole) (TP X pins σ Q) X.xe s
theorem PW.pt {X:Cx} {e:Expr} {t:TT} (h:PW X e t):PT X e t:=h _
noncomputable def PA (X:Cx) (es:List Expr) (t:TA):Prop :=
 ∀(pos:Pos) (pins:List (Addr×Obj)) (s:Shared) (σ:St) (H:Hp) (Q:List V->Hp->Prop),Inv X pins σ H s->t σ H Q->wpAny (model X.prog X.w) X.A (spliced (backTo pos (starEach es X.env))) (AP X pins σ Q) X.xe s
noncomputable def PS (X:Cx) (st:Stmt) (t:TS):Prop :=
 ∀(pins:List (Addr×Obj)) (s:Shared) (σ:St) (H:Hp) (D:Ends),Inv X pins σ H s->t D σ H->wpAny (model X.prog X.w) X.A (exec st X.env) (SP X pins D) X.xe s
noncomputable def PSs (X:Cx) (st:List Stmt) (t:TS):Prop :=
 ∀(pins:List (Addr×Obj)) (s:Shared) (σ:St) (H:Hp) (D:Ends),Inv X pins σ H s->t D σ H->wpAny (model X.prog X.w) X.A (execs st X.env) (SP X pins D) X.xe s
theorem thn {α:Type} {t:Sem α} {Q Q':α->Shared->Prop} {M:Model} {A:Around} {E:Value->Shared->Prop} {s:Shared} (h:wpAny M A t Q E s) (hQ:∀a s,Q a s->Q' a s):wpAny M A t Q' E s:=wpAny_mono h hQ fun _ _ x=>x
end L2
namespace L2
open PySem PySem.Spec PyProof.Rows
section
variable {X:Cx}
theorem bin {a b:Expr} {ta tb:TE} (ha:PE X a ta) (hb:PE X b tb) {pins:List (Addr×Obj)} {s:Shared} {σ:St} {H:Hp} {R:V->V->Hp->Prop} (I:Inv X pins σ H s) (h:ta σ H fun x H1=>tb σ H1 fun y H2=>R x y H2)
  {α:Type} {Q:α->Shared->Prop} {f:Value->Value->Sem α}
  (hf:∀v u s2 x y H2,Inv X pins σ H2 s2->RelV x v->RelV y u->R x y H2->wpAny (model X.prog X.w) X.A (f v u) Q X.xe s2) :
  wpAny (model X.prog X.w) X.A (eval a X.env) (fun v s₁=>wpAny (model X.prog X.w) X.A (eval b X.env) (fun u s₂=>wpAny (model X.prog X.w) X.A (f v u) Q X.xe s₂) X.xe s₁) X.xe s:=by
 refine thn (ha pins s σ H _ I h) fun v s1 ⟨x,H1,I1,r1,q1⟩=>?_
 refine thn (hb pins s1 σ H1 _ I1 q1) fun u s2 ⟨y,H2,I2,r2,q2⟩=>?_
 exact hf v u s2 x y H2 I2 r1 r2 q2
noncomputable def tVar (i:Nat):TE:=fun σ H Q=>∃v,σ[i]? = some (some v)/\Q v H
noncomputable def tC (v:V):TE:=fun _ H Q=>Q v H
theorem JCg {i:Nat} {x:Str} {pos:Pos} (hN:X.N[i]? = some x) (hv:Vis X.env.scope x) (hd:(x==("__debug__":Str))=false:=by decide) (hcd:(x==("__classdict__":Str))=false:=by decide):PE X (.Name x pos) (tVar i):=by
 intro pins s σ H Q I h
 obtain ⟨v,e,h⟩:=h
 obtain ⟨m,hn,hl⟩:=I.loc
 obtain ⟨u,r,l⟩:=hl i x v hN e hv
 have fin:EP X pins σ Q u s:=⟨v,H,I,r,h⟩
 rcases l with ⟨hk,hm⟩ | ⟨hk,c,hc,hcell⟩
 ·exact wpAny_Name (wpAny_loadName_local I.ok.kind hk hn hm fin) hd
 ·rcases hk with hk | hk
  ·exact wpAny_Name (wpAny_loadName_cell I.ok.kind hk hc hcell fin) hd
  ·exact wpAny_Name (wpAny_loadName_free I.ok.kind hk hc hcell fin hcd) hd
theorem JET {i j pos}:PE X (.Constant (.int i) j pos) (tC (.int i)):=fun _ _ _ H _ I h=>wpAny_Constant_int ⟨.int i,H,I.tok _,⟨_,rfl⟩,h⟩
theorem JHQ {b j pos}:PE X (.Constant (.bool b) j pos) (tC (.bl b)):=fun _ _ _ H _ I h=>Constant_bool ⟨.bl b,H,I,rfl,h⟩
theorem JPy {j pos}:PE X (.Constant .none j pos) (tC .non):=fun _ _ _ H _ I h=>Constant_none ⟨.non,H,I,rfl,h⟩
theorem JQD {x j pos}:PE X (.Constant (.str x) j pos) (tC (.str x)):=fun _ _ _ H _ I h=>Calls.Constant_str ⟨.str x,H,I.tok _,⟨_,rfl⟩,h⟩
noncomputable def Gl (X:Cx) (x:Str):Prop:=X.env.kindOf x=some .globalImplicit
theorem JDs {E:Value->Shared->Prop} {pins:List (Addr×Obj)} {s:Shared} {σ:St} {H:Hp} {x:Str} {u:Value} {pos:Pos} {Q:Value->Shared->Prop} (I:Inv X pins σ H s) (hg:Gl X x) (hm:X.mg x=some u) (h:Q u s)
  (hd:(x==("__debug__":Str))=false:=by decide):wpAny (model X.prog X.w) X.A (eval (.Name x pos) X.env) Q E s :=
 Calls.Name_function_global I.ok.kind hg (Calls.loadGlobal_global (by rw [I.ok.glob];exact I.mod.glob.keeps I.bk) hm h) hd
theorem JEy {E:Value->Shared->Prop} {pins:List (Addr×Obj)} {s:Shared} {σ:St} {H:Hp} {x:Str} {u:Value} {pos:Pos} {Q:Value->Shared->Prop} (I:Inv X pins σ H s) (hg:Gl X x) (hm:X.mg x=none) (hv:bootBuiltins x=some u) (h:Q u s)
  (hn:x≠"__name__":=by decide) (hd:(x==("__debug__":Str))=false:=by decide):wpAny (model X.prog X.w) X.A (eval (.Name x pos) X.env) Q E s:=by
 obtain ⟨mb,h1,h2⟩:=I.mod.blt
 exact Calls.Name_function_global I.ok.kind hg (Calls.loadGlobal_builtin (by rw [I.ok.glob];exact I.mod.glob.keeps I.bk) hm (by rw [I.ok.blt];exact h1.keeps I.bk) ((h2 x hn).trans hv) h) hd
theorem JH6 {x:Str} {v:V} {u:Value} {pos:Pos} (hg:Gl X x) (hm:X.mg x=some u) (r:RelV v u) (hd:(x==("__debug__":Str))=false:=by decide):PE X (.Name x pos) (tC v) :=
 fun _ _ _ H _ I h=>JDs I hg hm ⟨v,H,I,r,h⟩ hd
theorem JNN {x:Str} {v:V} {u:Value} {pos:Pos} (hg:Gl X x) (hm:X.mg x=none) (hv:bootBuiltins x=some u) (r:RelV v u) (hn:x≠"__name__":=by decide) (hd:(x==("__debug__":Str))=false:=by decide):PE X (.Name x pos) (tC v) :=
 fun _ _ _ H _ I h=>JEy I hg hm hv ⟨v,H,I,r,h⟩ hn hd
variable {a b:Expr} {ta tb:TE} {pos:Pos}
noncomputable def PC (X:Cx) (op:CmpOp) (a b:Expr) (t:TE):Prop :=
 ∀(pins:List (Addr×Obj)) (s:Shared) (σ:St) (H:Hp) (Q:VK),Inv X pins σ H s->t σ H Q ->
  wpAny (model X.prog X.w) X.A (eval a X.env) (fun v s₁=>wpAny (model X.prog X.w) X.A (eval b X.env) (fun u s₂=>wpAny (model X.prog X.w) X.A (compareOp op v u) (EP X pins σ Q) X.xe s₂) X.xe s₁) X.xe s
theorem JFo (b:Expr) {op:CmpOp} (h:op≠.In) (h2:op≠.NotIn):behindInMarks op b=false:=by
 have e1:(op==CmpOp.In)=false:=by cases op<;>first | rfl | exact absurd rfl h
 have e2:(op==CmpOp.NotIn)=false:=by cases op<;>first | rfl | exact absurd rfl h2
 cases b<;>simp [behindInMarks,e1,e2]
noncomputable def tIsN (ta:TE):TE:=fun σ H Q=>ta σ H fun x H1=>Q (.bl (decide (x=.non))) H1
noncomputable def tNotN (ta:TE):TE:=fun σ H Q=>ta σ H fun x H1=>Q (.bl (!decide (x=.non))) H1
theorem RelV.none_iff {x:V} {v:Value} (r:RelV x v):(v==Value.none)=decide (x=.non):=by
 cases x with
 | non=>cases r;rfl
 | bl _=>cases r;rfl
 | int _=>obtain ⟨t,rfl⟩:=r;rfl
 | str _=>obtain ⟨t,rfl⟩:=r;rfl
 | byt _=>obtain ⟨t,rfl⟩:=r;rfl
 | flt _=>obtain ⟨t,rfl⟩:=r;rfl
 | ref _=>cases r;rfl
 | ty _=>cases r;rfl
theorem JKa {j pos'} (ha:PE X a ta):PC X .Is a (.Constant .none j pos') (tIsN ta):=by
 intro pins s σ H Q I h
 refine thn (ha pins s σ H _ I h) fun v s1 ⟨x,H1,I1,r1,q1⟩=>?_
 exact Constant_none (is_none_gen ⟨.bl _,H1,I1,by rw [r1.none_iff];rfl,q1⟩)
theorem JIN {j pos'} (ha:PE X a ta):PC X .IsNot a (.Constant .none j pos') (tNotN ta):=by
 intro pins s σ H Q I h
 refine thn (ha pins s σ H _ I h) fun v s1 ⟨x,H1,I1,r1,q1⟩=>?_
 exact Constant_none (isnot_none_gen ⟨.bl _,H1,I1,by rw [r1.none_iff];rfl,q1⟩)
noncomputable def tB (t:TE):TT:=fun σ H Q=>t σ H fun x H1=>∃c,x=.bl c/\Q c H1
theorem JKz {op:CmpOp} {t:TE} (h:PC X op a b t) (h1:behindInMarks op b=false:=by first | exact JFo _ (by decide) (by decide) | rfl):PE X (.Compare a [op] [b] pos) t:=fun pins s σ H Q I hw=>wpAny_Compare1 (h pins s σ H Q I hw) h1
theorem JLL {op:CmpOp} {t:TE} (h:PC X op a b t) (h1:behindInMarks op b=false:=by first | exact JFo _ (by decide) (by decide) | rfl):PT X (.Compare a [op] [b] pos) (tB t):=by
 intro pins s σ H Q I hw
 refine wpAny_isTrue_Compare1 (thn (h pins s σ H _ I hw) fun v s1 h1=>thn h1 fun u s2 h2=>thn h2 fun c s3 ⟨x,H1,I1,r1,q1⟩=>?_) h1
 obtain ⟨d,rfl,q⟩:=q1
 cases r1
 exact wpAny_truthy_bool ⟨H1,I1,q⟩
variable {tA tB':TT} {rest:List Expr}
noncomputable def tAnd (t u:TT):TT:=fun σ H Q=>t σ H fun c H1=>if c=true then u σ H1 Q else Q false H1
noncomputable def tOr (t u:TT):TT:=fun σ H Q=>t σ H fun c H1=>if c=true then Q true H1 else u σ H1 Q
noncomputable def tNot (t:TT):TT:=fun σ H Q=>t σ H fun c H1=>Q (!c) H1
theorem JNi (ha:PT X a tA):PW X (.BoolOp .And [a] pos) tA:=by
 intro wh pins s σ H Q I h
 refine isTrue_and (thn (ha pins s σ H Q I h) fun c s1 e=>?_)
 cases c with
 | true=>exact isTrue_and_nil e
 | false=>exact e
theorem JN9 (ha:PT X a tA):PW X (.BoolOp .Or [a] pos) tA:=by
 intro wh pins s σ H Q I h
 refine isTrue_or (thn (ha pins s σ H Q I h) fun c s1 e=>?_)
 cases c with
 | false=>exact isTrue_or_nil e
 | true=>exact e
theorem JQN (ha:PT X a tA) (hb:PW X (.BoolOp .And (b::rest) pos) tB'):PW X (.BoolOp .And (a::b::rest) pos) (tAnd tA tB'):=by
 intro wh pins s σ H Q I h
 refine isTrue_and (thn (ha pins s σ H _ I h) fun c s1 ⟨H1,I1,q1⟩=>?_)
 cases c with
 | true=>exact hb wh pins s1 σ H1 Q I1 q1
 | false=>exact ⟨H1,I1,q1⟩
theorem pw_or (ha:PT X a tA) (hb:PW X (.BoolOp .Or (b::rest) pos) tB'):PW X (.BoolOp .Or (a::b::rest) pos) (tOr tA tB'):=by
 intro wh pins s σ H Q I h
 refine isTrue_or (thn (ha pins s σ H _ I h) fun c s1 ⟨H1,I1,q1⟩=>?_)
 cases c with
 | true=>exact ⟨H1,I1,q1⟩
 | false=>exact hb wh pins s1 σ H1 Q I1 q1
theorem JOK (ha:PT X a tA):PT X (.UnaryOp .Not a pos) (tNot tA):=by
 intro pins s σ H Q I h
 exact isTrue_not (ha pins s σ H (fun c H1=>Q (!c) H1) I h)
noncomputable def tAndV (ta tb:TE):TE:=fun σ H Q=>ta σ H fun x H1=>∃c,x=.bl c/\if c=true then tb σ H1 Q else Q (.bl false) H1
noncomputable def tOrV (ta tb:TE):TE:=fun σ H Q=>ta σ H fun x H1=>∃c,x=.bl c/\if c=true then Q (.bl true) H1 else tb σ H1 Q
theorem JK2 {op} {t:TE} (h:PE X a t):PE X (.BoolOp op [a] pos) t:=fun pins s σ H Q I hw=>BoolOp_one (h pins s σ H Q I hw)
theorem JOu (ha:PE X a ta) (hb:PE X (.BoolOp .And (b::rest) pos) tb):PE X (.BoolOp .And (a::b::rest) pos) (tAndV ta tb):=by
 intro pins s σ H Q I h
 refine BoolOp_and (thn (ha pins s σ H _ I h) fun v s1 ⟨x,H1,I1,r1,q1⟩=>?_)
 obtain ⟨c,rfl,q1⟩:=q1
 cases r1
 refine wpAny_truthy_bool ?_
 cases c with
 | true=>exact hb pins s1 σ H1 Q I1 q1
 | false=>exact ⟨.bl false,H1,I1,rfl,q1⟩
theorem pe_or (ha:PE X a ta) (hb:PE X (.BoolOp .Or (b::rest) pos) tb):PE X (.BoolOp .Or (a::b::rest) pos) (tOrV ta tb):=by
 intro pins s σ H Q I h
 refine BoolOp_or (thn (ha pins s σ H _ I h) fun v s1 ⟨x,H1,I1,r1,q1⟩=>?_)
 obtain ⟨c,rfl,q1⟩:=q1
 cases r1
 refine wpAny_truthy_bool ?_
 cases c with
 | false=>exact hb pins s1 σ H1 Q I1 q1
 | true=>exact ⟨.bl true,H1,I1,rfl,q1⟩
noncomputable def tIf (t:TT) (ta tb:TE):TE:=fun σ H Q=>t σ H fun c H1=>if c=true then ta σ H1 Q else tb σ H1 Q
theorem JJU {c:Expr} (hc:PT X c tA) (ha:PE X a ta) (hb:PE X b tb):PE X (.IfExp c a b pos) (tIf tA ta tb):=by
 intro pins s σ H Q I h
 refine wpAny_IfExp (thn (hc pins s σ H _ I h) fun d s1 ⟨H1,I1,q1⟩=>?_)
 cases d with
 | true=>exact ha pins s1 σ H1 Q I1 q1
 | false=>exact hb pins s1 σ H1 Q I1 q1
end
end L2
namespace L2
open PySem PySem.Spec PyProof.Rows
noncomputable def SqL (K:PySem.W.Frag) (H:Hp) (a:Addr) (xs:List V):Prop :=
 Rd H a (.lst xs) \/
  ∃(o:Obj) (its:Array Value) (n:Nat),K.lookup a=some o/\o.cls=.type "list"/\o.dict=none/\o.data=.seq its n/\its.size<=sizeLine/\Vals xs its.toList
noncomputable def SqT (K:PySem.W.Frag) (H:Hp) (a:Addr) (xs:List V):Prop :=
 Rd H a (.tup xs) \/
  ∃(o:Obj) (its:Array Value) (n:Nat),K.lookup a=some o/\o.cls=.type "tuple"/\o.data=.seq its n/\its.size<=sizeLine/\Vals xs its.toList
noncomputable def absV:Value->Option V
 | .none=>some .non
 | .bool b=>some (.bl b)
 | .int i _=>some (.int i)
 | .str x _=>some (.str x)
 | .bytes b _=>some (.byt b)
 | .float b _=>some (.flt b)
 | .ref a=>some (.ref a)
 | .type n=>some (.ty n)
 | _=>none
theorem RelV.abs {x:V} {u:Value} (r:RelV x u):absV u=some x:=by
 cases x with
 | non=>cases r;rfl
 | bl _=>cases r;rfl
 | int _=>obtain ⟨t,rfl⟩:=r;rfl
 | str _=>obtain ⟨t,rfl⟩:=r;rfl
 | byt _=>obtain ⟨t,rfl⟩:=r;rfl
 | flt _=>obtain ⟨t,rfl⟩:=r;rfl
 | ref _=>cases r;rfl
 | ty _=>cases r;rfl
theorem RelV.inj {x y:V} {u:Value} (r:RelV x u) (q:RelV y u):x=y:=Option.some.inj (r.abs.symm.trans q.abs)
theorem Vals.inj:∀ {xs ys:List V} {us:List Value},Vals xs us->Vals ys us->xs=ys
 | _,_,_,.nil,.nil=>rfl
 | _,_,_,.cons r t,.cons r' t'=>by rw [r.inj r',Vals.inj t t']
section
variable {X:Cx} {pins:List (Addr×Obj)} {σ:St} {H:Hp} {s:Shared} {a:Addr} {xs ys:List V}
theorem SqL.of {K:PySem.W.Frag} (h:H a=some (.lst xs)):SqL K H a xs:=.inl (.inl h)
theorem SqT.of {K:PySem.W.Frag} (h:H a=some (.tup xs)):SqT K H a xs:=.inl (.inl h)
theorem Inv.list (I:Inv X pins σ H s) (h:SqL X.K H a xs):∃its:List Value,Vals xs its/\PlainL s.heap a its.toArray/\xs.length<=sizeLine:=by
 rcases h with h | ⟨o,its,n,hk,hc,hd,hs,hz,r⟩
 ·obtain ⟨z,its,n,r,e⟩:=h.ok I.hok
  exact ⟨its,r,⟨_,n,e,rfl,rfl,rfl⟩,z⟩
 ·refine ⟨its.toList,r,⟨o,n,I.kIn a o hk,hc,hd,by simpa using hs⟩,?_⟩
  have e:=r.length
  simp only [q_E] at e
  omega
theorem Inv.tuple (I:Inv X pins σ H s) (h:SqT X.K H a xs):∃its:List Value,Vals xs its/\IsTup s.heap a its.toArray/\xs.length<=sizeLine:=by
 rcases h with h | ⟨o,its,n,hk,hc,hs,hz,r⟩
 ·obtain ⟨z,its,r,p⟩:=h.ok I.hok
  exact ⟨its,r,p,z⟩
 ·refine ⟨its.toList,r,⟨o,I.kIn a o hk,hc,n,by simpa using hs⟩,?_⟩
  have e:=r.length
  simp only [q_E] at e
  omega
theorem Inv.list_inj (I:Inv X pins σ H s) (h:SqL X.K H a xs) (h':SqL X.K H a ys):xs=ys:=by
 obtain ⟨its,r,⟨o,n,e,_,_,d⟩,_⟩:=I.list h
 obtain ⟨its',r',⟨o',n',e',_,_,d'⟩,_⟩:=I.list h'
 rw [e] at e';cases e'
 rw [d] at d'
 injection d' with d1 _
 have:its=its':=by simpa using congrArg Array.toList d1
 subst this
 exact r.inj r'
theorem Inv.tuple_inj (I:Inv X pins σ H s) (h:SqT X.K H a xs) (h':SqT X.K H a ys):xs=ys:=by
 obtain ⟨its,r,⟨o,e,_,n,d⟩,_⟩:=I.tuple h
 obtain ⟨its',r',⟨o',e',_,n',d'⟩,_⟩:=I.tuple h'
 rw [e] at e';cases e'
 rw [d] at d'
 injection d' with d1 _
 have:its=its':=by simpa using congrArg Array.toList d1
 subst this
 exact r.inj r'
end
noncomputable abbrev Cx.wish (X:Cx) (E:Value->Shared->Prop):Cx:={ X with xe:=E }
noncomputable abbrev Cx.nox (X:Cx):Cx:=X.wish fun _ _=>False
theorem Cx.Ok.wish {X:Cx} (ok:X.Ok) (E:Value->Shared->Prop):(X.wish E).Ok :=
 ⟨ok.mod,ok.kind,ok.glob,ok.blt,ok.above,ok.inj,ok.has,ok.cab,ok.hd,ok.frames,ok.stk,ok.exf,ok.bs,ok.bsz,ok.noex,ok.exfs,ok.funs,ok.frf⟩
theorem Cx.Ok.unwish {X:Cx} {E:Value->Shared->Prop} (ok:(X.wish E).Ok):X.Ok :=
 ⟨ok.mod,ok.kind,ok.glob,ok.blt,ok.above,ok.inj,ok.has,ok.cab,ok.hd,ok.frames,ok.stk,ok.exf,ok.bs,ok.bsz,ok.noex,ok.exfs,ok.funs,ok.frf⟩
section
variable {X:Cx} {pins:List (Addr×Obj)} {σ:St} {H:Hp} {s:Shared} {E:Value->Shared->Prop}
theorem Inv.wish (I:Inv X pins σ H s) (E:Value->Shared->Prop):Inv (X.wish E) pins σ H s:=⟨I.ok.wish E,I.os,I.bare,I.base,I.loc,I.cell,I.free,I.freeC,I.pin,I.hok,I.len⟩
theorem Inv.unwish (I:Inv (X.wish E) pins σ H s):Inv X pins σ H s:=⟨I.ok.unwish,I.os,I.bare,I.base,I.loc,I.cell,I.free,I.freeC,I.pin,I.hok,I.len⟩
theorem SP.unwish {D:Ends} {f:Flow} {s':Shared} (h:SP (X.wish E) pins D f s'):SP X pins D f s':=by
 cases f with
 | next=>obtain ⟨σ',H',I,q⟩:=h;exact ⟨σ',H',I.unwish,q⟩
 | brk=>obtain ⟨σ',H',I,q⟩:=h;exact ⟨σ',H',I.unwish,q⟩
 | cont=>obtain ⟨σ',H',I,q⟩:=h;exact ⟨σ',H',I.unwish,q⟩
 | ret u=>obtain ⟨v,σ',H',I,r,q⟩:=h;exact ⟨v,σ',H',I.unwish,r,q⟩
theorem PE.nox {e:Expr} {t:TE} (h:PE X.nox e t):PE X e t:=fun pins s σ H Q I hw =>
 wpAny_mono (h pins s σ H Q (I.wish _) hw) (fun _ _ ⟨v,H',I',r,q⟩=>⟨v,H',I'.unwish,r,q⟩) fun _ _ z=>False.elim z
theorem PT.nox {e:Expr} {t:TT} (h:PT X.nox e t):PT X e t:=fun pins s σ H Q I hw =>
 wpAny_mono (h pins s σ H Q (I.wish _) hw) (fun _ _ ⟨H',I',q⟩=>⟨H',I'.unwish,q⟩) fun _ _ z=>False.elim z
theorem PSs.nox {st:List Stmt} {t:TS} (h:PSs X.nox st t):PSs X st t:=fun pins s σ H D I hw =>
 wpAny_mono (h pins s σ H D (I.wish _) hw) (fun _ _ q=>q.unwish) fun _ _ z=>False.elim z
end
section
variable {X:Cx} {st:Stmt} {rest:List Stmt} {t u:TS} {e:Expr} {te:TE} {pos:Pos}
noncomputable def JMU:TS:=fun D σ H=>D.nx σ H
noncomputable def tSeq (t u:TS):TS:=fun D σ H=>t { D with nx:=u D } σ H
theorem JMP:PSs X [] JMU:=fun _ _ σ H _ I h=>wpAny_execs_nil ⟨σ,H,I,h⟩
theorem JJu (h1:PS X st t) (h2:PSs X rest u):PSs X (st::rest) (tSeq t u):=by
 intro pins s σ H D I h
 refine wpAny_execs_cons (thn (h1 pins s σ H { D with nx:=u D } I h) fun f s1 q=>?_)
 cases f with
 | next =>
  obtain ⟨σ',H',I',q⟩:=q
  exact h2 pins s1 σ' H' D I' q
 | ret v=>exact q
 | brk=>exact q
 | cont=>exact q
theorem JNf (h1:PS X st t):PSs X [st] t:=by
 intro pins s σ H D I h
 refine wpAny_execs_cons (thn (h1 pins s σ H D I h) fun f s1 q=>?_)
 cases f with
 | next=>exact wpAny_execs_nil q
 | ret v=>exact q
 | brk=>exact q
 | cont=>exact q
noncomputable def JOe:TS:=fun D σ H=>D.bk σ H
noncomputable def tCont:TS:=fun D σ H=>D.ct σ H
theorem JMT:PS X (.Pass pos) JMU:=fun _ _ σ H _ I h=>wpAny_Pass ⟨σ,H,I,h⟩
theorem JKG:PS X (.Break pos) JOe:=fun _ _ σ H _ I h=>wpAny_Break ⟨σ,H,I,h⟩
theorem JFQ:PS X (.Continue pos) tCont:=fun _ _ σ H _ I h=>wpAny_Continue ⟨σ,H,I,h⟩
theorem Inv.quiet {pins:List (Addr×Obj)} {σ:St} {H:Hp} {s:Shared} (I:Inv X pins σ H s):interactive X.env=false:=by simp [interactive,I.ok.kind]
theorem JQP {x j pos pos'}:PS X (.Expr (.Constant (.str x) j pos) pos') JMU:=fun _ s σ H _ I h=>wpAny_Expr (Calls.Constant_str (show SP X _ _ .next { s with toks:=s.toks+1 } from ⟨σ,H,I.tok _,h⟩)) I.quiet
noncomputable def tDrop (te:TE):TS:=fun D σ H=>te σ H fun _ H1=>D.nx σ H1
theorem JCp (he:PE X e te) (hs:swapsWith e none pos.line X.env=pure false:=by rfl):PS X (.Expr e pos) (tDrop te):=by
 intro pins s σ H D I h
 exact wpAny_Expr_any (thn (he pins s σ H _ I h) fun v s1 ⟨x,H1,I1,r1,q1⟩=>⟨σ,H1,I1,q1⟩) I.quiet hs
noncomputable def tRet (te:TE):TS:=fun D σ H=>te σ H D.rt
theorem JPG (he:PE X e te):PS X (.Return (some e) pos) (tRet te):=by
 intro pins s σ H D I h
 exact wpAny_Return_some (thn (he pins s σ H _ I h) fun v s1 ⟨x,H1,I1,r1,q1⟩=>⟨x,σ,H1,I1,r1,q1⟩)
noncomputable def tRetN:TS:=fun D _ H=>D.rt .non H
theorem JMZ:PS X (.Return none pos) tRetN:=fun _ _ σ H _ I h=>wpAny_Return_none ⟨.non,σ,H,I,rfl,h⟩
noncomputable def tIfS (c:TT) (t u:TS):TS:=fun D σ H=>c σ H fun b H1=>if b=true then t D σ H1 else u D σ H1
theorem ps_if {c:Expr} {a b:List Stmt} {tc:TT} (hc:PT X c tc) (ha:PSs X a t) (hb:PSs X b u):PS X (.If c a b pos) (tIfS tc t u):=by
 intro pins s σ H D I h
 refine wpAny_If (thn (hc pins s σ H _ I h) fun d s1 ⟨H1,I1,q1⟩=>?_)
 cases d with
 | true=>exact ha pins s1 σ H1 D I1 q1
 | false=>exact hb pins s1 σ H1 D I1 q1
end
noncomputable abbrev TG:=V->St->Hp->(St->Hp->Prop)->Prop
noncomputable abbrev TGs:=List V->St->Hp->(St->Hp->Prop)->Prop
noncomputable def PG (X:Cx) (target:Expr) (t:TG):Prop :=
 ∀(pins:List (Addr×Obj)) (s:Shared) (σ:St) (H:Hp) (v:V) (u:Value) (Q:St->Hp->Prop),Inv X pins σ H s->RelV v u->t v σ H Q ->
  wpAny (model X.prog X.w) X.A (assign target X.env u) (fun _ s'=>∃σ' H',Inv X pins σ' H' s'/\Q σ' H') X.xe s
noncomputable def PGs (X:Cx) (ts:List Expr) (t:TGs):Prop :=
 ∀(pins:List (Addr×Obj)) (s:Shared) (σ:St) (H:Hp) (vs:List V) (us:List Value) (Q:St->Hp->Prop),Inv X pins σ H s->Vals vs us->t vs σ H Q ->
  wpAny (model X.prog X.w) X.A (assignInOrder ((assignEach ts X.env).map (·.2)) us) (fun _ s'=>∃σ' H',Inv X pins σ' H' s'/\Q σ' H') X.xe s
noncomputable abbrev TSet:=V->V->V->Hp->(Hp->Prop)->Prop
section
variable {X:Cx} {pos:Pos}
noncomputable def JEs (i:Nat):TG:=fun v σ H Q=>Q (σ.set i (some v)) H
theorem JDb {i:Nat} {x:Str} (hN:X.N.Nodup) (hi:X.N[i]? = some x) (hx:Loc X.env.scope x) (hf:X.fn x=true\/X.env.scope.names.lookup x=some .local:=by first | exact .inl rfl | exact .inr rfl | assumption):PG X (.Name x pos) (JEs i):=by
 intro pins s σ H v u Q I r h
 exact wpAny_assign_Name (JA8 I hN hi hx r (fun s' I'=>⟨_,H,I',h⟩) hf)
noncomputable def gNil:TGs:=fun vs σ H Q=>vs=[]/\Q σ H
noncomputable def gCons (t:TG) (u:TGs):TGs:=fun vs σ H Q=>∃v r,vs=v::r/\t v σ H fun σ' H'=>u r σ' H' Q
theorem JHG:PGs X [] gNil:=by
 intro pins s σ H vs us Q I r h
 obtain ⟨e,h⟩:=h
 subst e
 cases r
 exact assignInOrder_nil ⟨σ,H,I,h⟩
theorem JFy {e:Expr} {es:List Expr} {t:TG} {u:TGs} (h1:PG X e t) (h2:PGs X es u)
  (hs:(assignEach (e::es) X.env).map (·.2)=assign e X.env::(assignEach es X.env).map (·.2):=by rfl):PGs X (e::es) (gCons t u):=by
 intro pins s σ H vs us Q I r h
 obtain ⟨v,vr,e1,h⟩:=h
 subst e1
 cases r with
 | cons r rr =>
  rw [hs]
  refine assignInOrder_cons (thn (h1 pins s σ H _ _ _ I r h) fun _ s1 ⟨σ1,H1,I1,q1⟩=>?_)
  exact h2 pins s1 σ1 H1 _ _ Q I1 rr q1
noncomputable def gTup (K:PySem.W.Frag) (n:Nat) (t:TGs):TG:=fun v σ H Q=>∃a xs,v=.ref a/\SqT K H a xs/\xs.length=n/\t xs σ H Q
theorem JHP {es:List Expr} {k:Nat} {t:TGs} {n:Nat} (hc:X.calm=true) (h:PGs X es t)
  (hn:(assignEach es X.env).length=n:=by rfl) (hst:(assignEach es X.env).findIdx? (·.1)=none:=by rfl):PG X (.Tuple es k pos) (gTup X.K n t):=by
 intro pins s σ H v u Q I r hw
 obtain ⟨a,xs,e1,hq,hl,hw⟩:=hw
 subst e1
 cases r
 obtain ⟨its,rv,ht,hz⟩:=I.tuple hq
 refine assign_Tuple_tuple (I.ok.hd hc) ht (by simp [hn,<-hl,rv.length]) hst fun h' hx=>?_
 have I1:Inv X pins σ H { s with heap:=h' }:=I.kept (t':=s.toks) fun b o e=>hx b o (q_l (q_h e)) e
 exact h pins _ σ H xs _ Q I1 (by simpa using rv) hw
noncomputable def tAsg (te:TE) (g:TG):TS:=fun D σ H=>te σ H fun x H1=>g x σ H1 D.nx
theorem JLO {tg e:Expr} {te:TE} {g:TG} (he:PE X e te) (hg:PG X tg g) (hs:swapsWithSole [tg] e pos.line X.env=pure false:=by rfl) (hw:swappedStores [tg] e X.env=pure none:=by rfl)
  (h1:(assignEach [tg] X.env).map (·.2)=[assign tg X.env]:=by rfl):PS X (.Assign [tg] e pos) (tAsg te g):=by
 intro pins s σ H D I h
 refine wpAny_Assign_stores (thn (he pins s σ H _ I h) fun v s1 ⟨x,H1,I1,r1,q1⟩=>?_) hs hw
 rw [h1]
 exact thn (hg pins s1 σ H1 x v _ I1 r1 q1) fun _ s2 q=>q
theorem JHw {i:Nat} {x:Str} {e:Expr} {te:TE} {pos':Pos} (hN:X.N.Nodup) (hi:X.N[i]? = some x) (hx:Loc X.env.scope x) (he:PE X e te) (hs:swapsWith e (some (.Name x pos')) pos.line X.env=pure false:=by rfl) (hf:X.fn x=true\/X.env.scope.names.lookup x=some .local:=by first | exact .inl rfl | exact .inr rfl | assumption) :
  PS X (.Assign [.Name x pos'] e pos) (tAsg te (JEs i)):=by
 intro pins s σ H D I h
 refine wpAny_Assign_Name (thn (he pins s σ H _ I h) fun v s1 ⟨y,H1,I1,r1,q1⟩=>?_) hs
 exact JA8 I1 hN hi hx r1 (fun s2 I2=>⟨_,H1,I2,q1⟩) hf
noncomputable def tPar (i j:Nat) (ta:TA):TS:=fun D σ H=>ta σ H fun vs H1=>∃v w,vs=[v,w]/\D.nx ((σ.set i (some v)).set j (some w)) H1
theorem JQe {i j:Nat} {x y:Str} {a b:Expr} {ta:TA} {px py pt:Pos} {kt k2 pt2} (hc:X.calm=true) (hN:X.N.Nodup) (hi:X.N[i]? = some x) (hj:X.N[j]? = some y) (hij:i≠j)
  (hx:X.env.scope.names.lookup x=some .local) (hy:X.env.scope.names.lookup y=some .local) (ha:PA X [a,b] ta)
  (hw:swappedStores [.Tuple [.Name x px,.Name y py] kt pt] (.Tuple [a,b] k2 pt2) X.env=pure (some [x,y]))
  (hs:swapsWithSole [.Tuple [.Name x px,.Name y py] kt pt] (.Tuple [a,b] k2 pt2) pos.line X.env=pure false:=by rfl) :
  PS X (.Assign [.Tuple [.Name x px,.Name y py] kt pt] (.Tuple [a,b] k2 pt2) pos) (tPar i j ta):=by
 intro pins s σ H D I h
 rw [exec_Assign_arm]
 refine q_b (wpAny_standAt ?_)
 rw [hs]
 refine q_b (q_e ?_)
 rw [if_neg (by decide)]
 refine q_b (Tuple_ (thn (ha _ pins s σ H _ I h) fun us s1 ⟨vs,H1,I1,r1,q1⟩=>?_))
 obtain ⟨v,w,e1,q1⟩:=q1
 subst e1
 obtain ⟨u1,u2,rfl,rv,rw'⟩:∃u1 u2,us=[u1,u2]/\RelV v u1/\RelV w u2:=by
  cases r1 with
  | cons p q =>
    cases q with
    | cons p' q' =>
     cases q'
     exact ⟨_,_,rfl,p,p'⟩
 refine wpAny_newObj_type ?_ (by show 2<=sizeLine;decide)
 have I2:Inv X pins σ H1 { s1 with heap:=s1.heap.push { cls:=.type "tuple",data:=.seq [u1,u2].toArray } }:=I1.kept (t':=s1.toks) fun b o e=>q_c _ e
 rw [hw]
 refine q_b (q_e ?_)
 show wpAny (model X.prog X.w) X.A (do rule "assign.swapped-stores";let items<-unpackItems (.ref s1.heap.objs.size) 2 none;assignInOrder [fun v=>bindName X.env y v,fun v=>bindName X.env x v] items.reverse;pure Flow.next) _ _ _
 refine q_b (wpAny_rule (q_b (unpackItems_tuple (items:=#[u1,u2]) (I.ok.hd hc) (IsTup.new s1.heap _) fun h' hx'=>?_)))
 have I3:=I2.kept (h':=h') (t':=s1.toks) fun b o e=>hx' b o (q_l (q_h e)) e
 show wpAny _ _ (assignInOrder [fun v=>bindName X.env y v,fun v=>bindName X.env x v] [u2,u1] >>= fun _=>pure Flow.next) _ _ _
 refine q_b (assignInOrder_cons (wpAny_bindName (JA8 I3 hN hj (.inl hy) rw' (fun s2 I4=>?_) (.inr hy))))
 refine assignInOrder_cons (wpAny_bindName (JA8 I4 hN hi (.inl hx) rv (fun s3 I5=>assignInOrder_nil (q_e ?_)) (.inr hx)))
 rw [List.set_comm _ _ (Ne.symm hij)] at I5
 exact ⟨_,H1,I5,q1⟩
end
section
variable {X:Cx} {pos:Pos}
noncomputable def JQH (c:TT) (tb:TS):TS:=fun D σ H=>∃W:Nat->St->Hp->Prop,(∃m,W m σ H)/\∀m σ H,W m σ H ->
 c σ H fun b H1=>if b=true then ∃N:St->Hp->Prop,(∀σ' H',N σ' H'->∃m',m'<m/\W m' σ' H')/\tb { D with nx:=N,ct:=N,bk:=D.nx } σ H1 else D.nx σ H1
theorem JKK {c:Expr} {body:List Stmt} {tc:TT} {tb:TS} (hp:PassesOwn (model X.prog X.w) X.A X.env X.xe) (hc:PT X c tc) (hb:PSs X body tb):PS X (.While c body [] pos) (JQH tc tb):=by
 intro pins s σ H D I h
 obtain ⟨W,⟨m0,w0⟩,turn⟩:=h
 refine wpAny_While (codeAny_whileLoop (fun n s'=>∃σ' H',Inv X pins σ' H' s'/\W n σ' H') ?_ m0 ⟨σ,H,I,w0⟩)
 rintro n s1 ⟨σ1,H1,I1,w1⟩
 refine wpAny_passesOwn hp (thn (hc pins s1 σ1 H1 _ I1 (turn n σ1 H1 w1)) fun b s2 ⟨H2,I2,q2⟩=>?_)
 cases b with
 | true =>
  obtain ⟨N,hN,q2⟩:=q2
  rw [if_pos rfl]
  refine wpAny_passesOwn hp (thn (hb pins s2 σ1 H2 _ I2 q2) fun f s3 q3=>?_)
  cases f with
  | next =>
   obtain ⟨σ3,H3,I3,n3⟩:=q3
   obtain ⟨m',hm,w3⟩:=hN σ3 H3 n3
   exact ⟨m',hm,σ3,H3,I3,w3⟩
  | cont =>
   obtain ⟨σ3,H3,I3,n3⟩:=q3
   obtain ⟨m',hm,w3⟩:=hN σ3 H3 n3
   exact ⟨m',hm,σ3,H3,I3,w3⟩
  | brk=>exact q3
  | ret v=>exact q3
 | false =>
  rw [if_neg Bool.false_ne_true]
  exact wpAny_execs_nil ⟨σ1,H2,I2,q2⟩
end
structure It where
 go:Nat->Hp->Prop
 yld:Nat->Hp->V->Hp->Prop
 stop:Nat->Hp->Prop
noncomputable def FpOk (X:Cx) (pins:List (Addr×Obj)) (H:Hp) (b:Addr):Prop :=
 H b=none/\b≠X.env.locals/\b ∉ X.fs/\(b∈X.ex\/X.s₀.heap.objs.size<=b)/\(∀x c,X.env.cells.lookup x=some c->c≠b)/\∀p∈X.pn++pins,p.1≠b
theorem Inv.fpOk {X:Cx} {pins:List (Addr×Obj)} {σ:St} {H H':Hp} {s:Shared} {b:Addr} (I:Inv X pins σ H s) (hb:s.heap.objs.size<=b) (hn:H' b=none):FpOk X pins H' b:=by
 refine ⟨hn,Nat.ne_of_gt (q_m I.lt hb),I.nofs hb,.inr (Nat.le_trans I.sz hb),fun x c e z=>?_,fun p hp z=>?_⟩
 ·obtain ⟨v,q⟩:=I.cell x c e
  exact absurd (q_m q.lt (by rw [z];exact hb)) (Nat.lt_irrefl _)
 ·exact absurd (q_m (q_h (I.pin p hp).1) (by rw [z];exact hb)) (Nat.lt_irrefl _)
structure Turn (P:Program) (w:World) (K:PySem.W.Frag) (tg:Expr) (J:It) (fp:List Addr) (it:Addr) (tn:Nat->Heap->Prop):Prop where
 mem:it∈fp
 obj:∀i h,tn i h->∀b∈fp,∃o,h.get? b=some o/\∀v,o.data≠.cell v
 keep:∀i h h',tn i h->(∀b∈fp,∀o,h.get? b=some o->h'.get? b=some o)->tn i h'
 item:∀(X:Cx),X.prog=P->X.w=w->X.K=K->X.calm=true->∀(i:Nat) (pins:List (Addr×Obj)) (s:Shared) (σ:St) (H:Hp) (E:Value->Shared->Prop),Inv X pins σ H s->(∀b∈fp,FpOk X pins H b)->tn i s.heap->J.go i H ->
  wpAny (model P w) X.A (pyNext (.ref it)) (fun r s1=>∃u,r=some u /\
   wpAny (model P w) X.A (letOwnedTupleGo tg (.ref it) u) (fun _ s2=>∃x H',Inv X pins σ H' s2/\RelV x u/\J.yld i H x H'/\tn (i+1) s2.heap/\∀b∈fp,H' b=none) E s1) E s
 done:∀(X:Cx),X.prog=P->X.w=w->X.K=K->X.calm=true->∀(i:Nat) (pins:List (Addr×Obj)) (s:Shared) (σ:St) (H:Hp) (E:Value->Shared->Prop),Inv X pins σ H s->(∀b∈fp,FpOk X pins H b)->tn i s.heap->J.stop i H ->
  wpAny (model P w) X.A (pyNext (.ref it)) (fun r s1=>r=none/\Inv X pins σ H s1) E s
 self:∀(A:Around) (i:Nat) (s:Shared) (Q:Value->Shared->Prop) (E:Value->Shared->Prop),tn i s.heap->Q (.ref it) s->wpAny (model P w) A (pyIter (.ref it)) Q E s
noncomputable abbrev TI:=St->Hp->(It->Hp->Prop)->Prop
noncomputable def PIE (X:Cx) (pins:List (Addr×Obj)) (σ:St) (tg:Expr) (R:It->Hp->Prop) (itv:Value) (s2:Shared):Prop :=
 ∃(it:Addr) (fp:List Addr) (tn:Nat->Heap->Prop) (J:It) (H':Hp),itv=.ref it/\Inv X pins σ H' s2/\Turn X.prog X.w X.K tg J fp it tn/\tn 0 s2.heap/\(∀b∈fp,FpOk X pins H' b)/\R J H'
noncomputable def PI (X:Cx) (tg iter:Expr) (wi:TI):Prop :=
 ∀(pins:List (Addr×Obj)) (s:Shared) (σ:St) (H:Hp) (R:It->Hp->Prop),Inv X pins σ H s->wi σ H R ->
  wpAny (model X.prog X.w) X.A (eval iter X.env) (fun v s1=>wpAny (model X.prog X.w) X.A (pyIter v) (PIE X pins σ tg R) X.xe s1) X.xe s
theorem JKL {M:Model} {A:Around} {E:Value->Shared->Prop} {s:Shared} {tg:Expr} {it:Addr} {u:Value} {o:Obj} {n:String} {vs:Array Value} {Q:Unit->Shared->Prop} (ho:s.heap.get? it=some o) (hc:o.cls=.type n) (hd:o.data=.fields vs)
  (hn:["enumerate","zip","dict_itemiterator","dict_reverseitemiterator","odict_iterator","itertools.zip_longest","itertools.pairwise"].contains n=false) (hQ:Q () s):wpAny M A (letOwnedTupleGo tg (.ref it) u) Q E s:=by
 unfold letOwnedTupleGo
 cases tg<;>first
  | exact q_e hQ
  | (cases u<;>first
      | exact q_e hQ
      |(refine q_b (wpAny_load ho ?_)
        rw [hc,hd]
        show wpAny M A (if (["enumerate","zip","dict_itemiterator","dict_reverseitemiterator","odict_iterator","itertools.zip_longest","itertools.pairwise"].contains n&&vs[0]? == some (rawInt _))=true then _ else _) Q E s
        rw [if_neg (by intro h;rw [hn,Bool.false_and] at h;cases h)]
        exact q_e hQ))
noncomputable def Itl (K:PySem.W.Frag) (a:Addr):It :=
 ⟨fun i H=>∃xs x,SqL K H a xs/\xs[i]? = some x,fun i H x H'=>H'=H/\∀xs,SqL K H a xs->xs[i]? = some x,fun i H=>∃xs,SqL K H a xs/\xs.length<=i⟩
noncomputable def Itt (K:PySem.W.Frag) (a:Addr):It :=
 ⟨fun i H=>∃xs x,SqT K H a xs/\xs[i]? = some x,fun i H x H'=>H'=H/\∀xs,SqT K H a xs->xs[i]? = some x,fun i H=>∃xs,SqT K H a xs/\xs.length<=i⟩
noncomputable def Itr (lo:Int) (n:Nat):It:=⟨fun i _=>i<n,fun i H x H'=>H'=H/\x=.int (lo+i),fun i _=>n<=i⟩
theorem JIX {P:Program} {w:World} {K:PySem.W.Frag} {tg:Expr} (a it:Addr):Turn P w K tg (Itl K a) [it] it (fun i h=>h.IsListIter it a i) where
 mem:=by simp
 obj:=fun i h st b hb=>by
  have e:b=it:=by simpa using hb
  subst e
  obtain ⟨o,e,c,d⟩:=st
  exact ⟨o,e,fun v z=>by rw [d] at z;cases z⟩
 keep:=fun i h h' st k=>st.at fun o e=>k it (by simp) o e
 item:=by
  intro X hP hw hK hc i pins s σ H E I hf st hg
  subst hP hw hK
  obtain ⟨xs,x,hq,hx⟩:=hg
  obtain ⟨its,rv,p,hz⟩:=I.list hq
  obtain ⟨u,hu,ru⟩:=rv.get hx
  obtain ⟨f0,f1,f2,f3,f4,f5⟩:=hf it (by simp)
  refine wpAny_pyNext_list_item st p.isList (x:=u) (by simpa using hu) fun h' st' sb=>?_
  have I1:Inv X pins σ H { s with heap:=h' }:=I.turned (t':=s.toks) (fun b o hb e=>(sb.2 b hb).trans e) f0 f1 f3 f4 f5
  obtain ⟨o,e,c,d⟩:=id st'
  exact ⟨u,rfl,JKL (s:={ s with heap:=h' }) e c d (by decide) ⟨x,H,I1,ru,⟨rfl,fun ys hy=>by rw [I.list_inj hy hq];exact hx⟩,st',fun b hb=>(hf b hb).1⟩⟩
 done:=by
  intro X hP hw hK hc i pins s σ H E I hf st hg
  subst hP hw hK
  obtain ⟨xs,hq,hx⟩:=hg
  obtain ⟨its,rv,p,hz⟩:=I.list hq
  obtain ⟨f0,f1,f2,f3,f4,f5⟩:=hf it (by simp)
  have hl:=rv.length
  exact wpAny_pyNext_list_end (I.ok.hd hc) st p.isList (by simp;omega) fun h' eb=>⟨rfl,I.turned (t':=s.toks) (fun b o hb e=>eb b o hb e) f0 f1 f3 f4 f5⟩
 self:=fun _ _ _ _ _ st h=>wpAny_pyIter_listiter st h
theorem JGh {P:Program} {w:World} {K:PySem.W.Frag} {tg:Expr} (a it:Addr):Turn P w K tg (Itt K a) [it] it (fun i h=>h.IsTupleIter it a i) where
 mem:=by simp
 obj:=fun i h st b hb=>by
  have e:b=it:=by simpa using hb
  subst e
  obtain ⟨o,e,c,d⟩:=st
  exact ⟨o,e,fun v z=>by rw [d] at z;cases z⟩
 keep:=fun i h h' st k=>st.at fun o e=>k it (by simp) o e
 item:=by
  intro X hP hw hK hc i pins s σ H E I hf st hg
  subst hP hw hK
  obtain ⟨xs,x,hq,hx⟩:=hg
  obtain ⟨its,rv,p,hz⟩:=I.tuple hq
  obtain ⟨u,hu,ru⟩:=rv.get hx
  obtain ⟨f0,f1,f2,f3,f4,f5⟩:=hf it (by simp)
  refine wpAny_pyNext_tuple_item st (show s.heap.IsTuple a its.toArray from p) (x:=u) (by simpa using hu) fun h' st' sb=>?_
  have I1:Inv X pins σ H { s with heap:=h' }:=I.turned (t':=s.toks) (fun b o hb e=>(sb.2 b hb).trans e) f0 f1 f3 f4 f5
  obtain ⟨o,e,c,d⟩:=id st'
  exact ⟨u,rfl,JKL (s:={ s with heap:=h' }) e c d (by decide) ⟨x,H,I1,ru,⟨rfl,fun ys hy=>by rw [I.tuple_inj hy hq];exact hx⟩,st',fun b hb=>(hf b hb).1⟩⟩
 done:=by
  intro X hP hw hK hc i pins s σ H E I hf st hg
  subst hP hw hK
  obtain ⟨xs,hq,hx⟩:=hg
  obtain ⟨its,rv,p,hz⟩:=I.tuple hq
  obtain ⟨f0,f1,f2,f3,f4,f5⟩:=hf it (by simp)
  have hl:=rv.length
  exact wpAny_pyNext_tuple_end (I.ok.hd hc) st (show s.heap.IsTuple a its.toArray from p) (by simp;omega) fun h' eb=>⟨rfl,I.turned (t':=s.toks) (fun b o hb e=>eb b o hb e) f0 f1 f3 f4 f5⟩
 self:=fun _ _ _ _ _ st h=>wpAny_pyIter_tupleiter st h
theorem JGg {P:Program} {w:World} {K:PySem.W.Frag} {tg:Expr} (it:Addr) (lo:Int) (n:Nat):Turn P w K tg (Itr lo n) [it] it (fun i h=>IsRangeIter h it (lo+(i:Nat)*1) ((n:Int) - (i:Nat)) 1) where
 mem:=by simp
 obj:=fun i h st b hb=>by
  have e:b=it:=by simpa using hb
  subst e
  exact ⟨_,st,fun v z=>by
   have z':Data.fields _=Data.cell v:=z
   cases z'⟩
 keep:=fun i h h' st k=>k it (by simp) _ st
 item:=by
  intro X hP hw hK hc i pins s σ H E I hf st hg
  subst hP hw hK
  obtain ⟨f0,f1,f2,f3,f4,f5⟩:=hf it (by simp)
  have W:=Walks.range (prog:=X.prog) (w:=X.w) (I.ok.hd hc) it lo 1 n
  refine W.item i s _ _ hg st fun v h' tk hv st' kk=>?_
  obtain ⟨t,rfl⟩:=hv
  have I1:Inv X pins σ H { s with heap:=h',toks:=tk }:=I.turned (fun b o hb e=>kk b o (by simpa using hb) e) f0 f1 f3 f4 f5
  refine ⟨_,rfl,JKL (s:={ s with heap:=h',toks:=tk }) (n:="range_iterator") st' rfl rfl (by decide) ⟨.int (lo+i),H,I1,⟨t,?_⟩,⟨rfl,rfl⟩,st',fun b hb=>(hf b hb).1⟩⟩
  rw [Int.mul_one]
 done:=by
  intro X hP hw hK hc i pins s σ H E I hf st hg
  subst hP hw hK
  obtain ⟨f0,f1,f2,f3,f4,f5⟩:=hf it (by simp)
  exact wpAny_pyNext_range_end (I.ok.hd hc) st (by have:n<=i:=hg;omega) fun h' eb=>⟨rfl,I.turned (t':=s.toks) (fun b o hb e=>eb b o hb e) f0 f1 f3 f4 f5⟩
 self:=fun _ _ _ _ _ st h=>wpAny_pyIter_rangeiter st h
end L2
namespace L2
open PySem PySem.Spec PyProof.Rows
section
variable {X:Cx} {tg:Expr}
noncomputable def iList (K:PySem.W.Frag) (tl:TE):TI:=fun σ H R=>tl σ H fun x H1=>∃a,x=.ref a/\(∃xs,SqL K H1 a xs)/\R (Itl K a) H1
noncomputable def iTup (K:PySem.W.Frag) (tl:TE):TI:=fun σ H R=>tl σ H fun x H1=>∃a,x=.ref a/\(∃xs,SqT K H1 a xs)/\R (Itt K a) H1
theorem JIk {l:Expr} {tl:TE} (hl:PE X l tl):PI X tg l (iList X.K tl):=by
 intro pins s σ H R I h
 refine thn (hl pins s σ H _ I h) fun v s1 ⟨x,H1,I1,r1,q1⟩=>?_
 obtain ⟨a,e,⟨xs,hq⟩,q⟩:=q1
 subst e
 cases r1
 obtain ⟨its,rv,p,hz⟩:=I1.list hq
 refine wpAny_pyIter_list p.isList ?_
 refine ⟨s1.heap.objs.size,[s1.heap.objs.size],_,_,H1,rfl,I1.kept (t':=s1.toks) fun b o e=>q_c _ e,JIX a _,⟨_,q_k _ rfl,rfl,rfl⟩,fun b hb=>?_,q⟩
 have e:b=s1.heap.objs.size:=by simpa using hb
 subst e
 exact I1.fpOk (q_t _) (I1.hok.fresh (q_t _))
theorem JOA {l:Expr} {tl:TE} (hl:PE X l tl):PI X tg l (iTup X.K tl):=by
 intro pins s σ H R I h
 refine thn (hl pins s σ H _ I h) fun v s1 ⟨x,H1,I1,r1,q1⟩=>?_
 obtain ⟨a,e,⟨xs,hq⟩,q⟩:=q1
 subst e
 cases r1
 obtain ⟨its,rv,p,hz⟩:=I1.tuple hq
 refine wpAny_pyIter_tuple (show s1.heap.IsTuple a its.toArray from p) ?_
 refine ⟨s1.heap.objs.size,[s1.heap.objs.size],_,_,H1,rfl,I1.kept (t':=s1.toks) fun b o e=>q_c _ e,JGh a _,⟨_,q_k _ rfl,rfl,rfl⟩,fun b hb=>?_,q⟩
 have e:b=s1.heap.objs.size:=by simpa using hb
 subst e
 exact I1.fpOk (q_t _) (I1.hok.fresh (q_t _))
theorem JFq {pins:List (Addr×Obj)} {σ:St} {H:Hp} {s:Shared} {R:It->Hp->Prop} {E:Value->Shared->Prop} {lo hi:Int} {t u v:Tok} {tk:Nat} (I:Inv X pins σ H s) (h1:-(2 ^ 62)<=lo) (h2:lo<2 ^ 62) (h3:-(2 ^ 62)<=hi) (h4:hi<2 ^ 62)
  (q:R (Itr lo (hi - lo).toNat) H):wpAny (model X.prog X.w) X.A (pyIter (.ref s.heap.objs.size)) (PIE X pins σ tg R) E { s with heap:=s.heap.push { cls:=.type "range",data:=.fields #[.int lo t,.int hi u,.int 1 v] },toks:=tk }:=by
 refine wpAny_pyIter_range (IsRange.new ..) (small_one h1 h2 h3 h4) ?_
 have I1:Inv X pins σ H { s with heap:=s.heap.push { cls:=.type "range",data:=.fields #[.int lo t,.int hi u,.int 1 v] },toks:=tk }:=I.kept fun b o e=>q_c _ e
 refine ⟨(s.heap.push { cls:=.type "range",data:=.fields #[.int lo t,.int hi u,.int 1 v] }).objs.size,[(s.heap.push { cls:=.type "range",data:=.fields #[.int lo t,.int hi u,.int 1 v] }).objs.size],_,_,H,rfl,
  I1.kept (t':=tk) fun b o e=>q_c _ e,JGg _ lo (hi - lo).toNat,?_,fun b hb=>?_,q⟩
 ·have e1:lo+((0:Nat):Int)*1=lo:=by simp
  have e2:(((hi - lo).toNat:Nat):Int) - ((0:Nat):Int)=Builtin.Range.rangeSize lo hi 1:=by rw [rangeSize_one];split<;>omega
  show IsRangeIter _ _ (lo+((0:Nat):Int)*1) ((((hi - lo).toNat:Nat):Int) - ((0:Nat):Int)) 1
  rw [e1,e2]
  exact q_k _ rfl
 ·have e:b=(s.heap.push { cls:=.type "range",data:=.fields #[.int lo t,.int hi u,.int 1 v] }).objs.size:=by simpa using hb
  subst e
  exact I1.fpOk (q_t _) (I1.hok.fresh (q_t _))
noncomputable def iRng1 (ta:TA):TI:=fun σ H R=>ta σ H fun vs H1=>∃j:Int,vs=[.int j]/\-(2 ^ 62)<=j/\j<2 ^ 62/\R (Itr 0 j.toNat) H1
noncomputable def iRng2 (ta:TA):TI:=fun σ H R=>ta σ H fun vs H1=>∃i j:Int,vs=[.int i,.int j]/\(-(2 ^ 62)<=i/\i<2 ^ 62/\-(2 ^ 62)<=j/\j<2 ^ 62)/\R (Itr i (j - i).toNat) H1
theorem JIA {a:Expr} {ta:TA} {p pos:Pos} (hg:Gl X "range") (hm:X.mg "range"=none) (ha:PA X [a] ta) (hs:starEach [a] X.env=[(false,eval a X.env)]:=by rfl):PI X tg (.Call (.Name "range" p) [a] [] pos) (iRng1 ta):=by
 intro pins s σ H R I h
 refine Call_ (JEy I hg hm boot_range (PyProof.Rows.callWith_type1 (thn (ha pos pins s σ H _ I h) fun us s1 ⟨vs,H1,I1,r1,q1⟩=>?_) hs rfl))
 obtain ⟨j,e,q1,q2,q⟩:=q1
 subst e
 cases r1 with
 | cons r rr =>
  cases rr
  obtain ⟨t,rfl⟩:=r
  exact call_range_1 (JFq I1 (by omega) (by omega) q1 q2 (by simpa using q))
theorem JHX {a b:Expr} {ta:TA} {p pos:Pos} (hg:Gl X "range") (hm:X.mg "range"=none) (ha:PA X [a,b] ta) (hs:starEach [a,b] X.env=[(false,eval a X.env),(false,eval b X.env)]:=by rfl) (hs2:starEach [b] X.env=[(false,eval b X.env)]:=by rfl) :
  PI X tg (.Call (.Name "range" p) [a,b] [] pos) (iRng2 ta):=by
 intro pins s σ H R I h
 refine Call_ (JEy I hg hm boot_range (PyProof.Rows.callWith_type1 (thn (ha pos pins s σ H _ I h) fun us s1 ⟨vs,H1,I1,r1,q1⟩=>?_) (by rw [hs,hs2]) (by rw [hs2];rfl)))
 obtain ⟨i,j,e,⟨q1,q2,q3,q4⟩,q⟩:=q1
 subst e
 cases r1 with
 | cons r rr =>
  cases rr with
  | cons r' rr =>
   cases rr
   obtain ⟨t,rfl⟩:=r
   obtain ⟨t',rfl⟩:=r'
   exact call_range_2 (JFq I1 q1 q2 q3 q4 q)
noncomputable def tFor (wi:TI) (g:TG) (tb:TS):TS:=fun D σ H=>wi σ H fun J H1=>∃W:Nat->Nat->St->Hp->Prop,(∃m,W 0 m σ H1)/\∀i m σ H,W i m σ H ->
 (J.stop i H/\D.nx σ H)\/(J.go i H/\∃N:St->Hp->Prop,(∀σ' H',N σ' H'->∃m',m'<m/\W (i+1) m' σ' H')/\∀x H',J.yld i H x H'->g x σ H' fun σ2 H2=>tb { D with nx:=N,ct:=N,bk:=D.nx } σ2 H2)
noncomputable def JE7 (fp:List Addr) (h:Heap):List (Addr×Obj):=fp.filterMap fun b=>(h.get? b).map fun o=>(b,o)
theorem JBg {fp:List Addr} {h:Heap} {b:Addr} {o:Obj} (hb:b∈fp) (e:h.get? b=some o):(b,o)∈JE7 fp h:=List.mem_filterMap.mpr ⟨b,hb,by rw [e];rfl⟩
theorem JHI {fp:List Addr} {h:Heap} {p:Addr×Obj} (hp:p∈JE7 fp h):p.1∈fp/\h.get? p.1=some p.2:=by
 obtain ⟨b,hb,e⟩:=List.mem_filterMap.mp hp
 cases q:h.get? b with
 | none=>rw [q] at e;cases e
 | some o =>
  rw [q] at e
  have e':(b,o)=p:=Option.some.inj e
  subst e'
  exact ⟨hb,q⟩
theorem Inv.pinned {pins:List (Addr×Obj)} {σ:St} {H:Hp} {s:Shared} {fp:List Addr} (I:Inv X pins σ H s) (hf:∀b∈fp,FpOk X pins H b) (ho:∀b∈fp,∃o,s.heap.get? b=some o/\∀v,o.data≠.cell v):Inv X (pins++JE7 fp s.heap) σ H s :=
 I.pins_of fun p hp=>(List.mem_append.mp hp).elim (fun z=>I.pin p (q_r _ z)) fun z=>by
  obtain ⟨hb,e⟩:=JHI z
  obtain ⟨f0,f1,f2,_⟩:=hf p.1 hb
  obtain ⟨o,e',d⟩:=ho p.1 hb
  rw [e] at e';cases e'
  exact ⟨e,f0,f1,f2,d⟩
theorem Inv.unpinned {pins pl:List (Addr×Obj)} {σ:St} {H:Hp} {s:Shared} (I:Inv X (pins++pl) σ H s):Inv X pins σ H s:=I.pins_of fun p hp=>I.pin p (q_r _ (List.mem_append_left _ hp))
theorem JKS {iter:Expr} {body:List Stmt} {wi:TI} {g:TG} {tb:TS} {pos:Pos} (hp:PassesOwn (model X.prog X.w) X.A X.env X.xe) (hc:X.calm=true) (hi:PI X tg iter wi) (hg:PG X tg g) (hb:PSs X body tb)
  (hs:∀x,foldedSetIterable iter X.env x=pure x:=by intro _;rfl):PS X (.For tg iter body [] pos) (tFor wi g tb):=by
 intro pins s σ H D I h
 refine wpAny_For (thn (hi pins s σ H _ I h) fun v s1 h1=>thn h1 fun itv s2 h2=>?_) hs
 obtain ⟨it,fp,tn,J,H2,e,I2,T,st2,f2,W,⟨m0,w0⟩,turn⟩:=h2
 subst e
 have stat:∀ {H':Hp},(∀b∈fp,H' b=none)->∀b∈fp,FpOk X pins H' b:=fun hn b hb=>⟨hn b hb,(f2 b hb).2⟩
 refine codeAny_forLoop_any (fun n s'=>∃i σ' H',Inv X pins σ' H' s'/\tn i s'.heap/\(∀b∈fp,H' b=none)/\W i n σ' H') ?_ m0 ⟨0,σ,H2,I2,st2,fun b hb=>(f2 b hb).1,w0⟩
 rintro n s3 ⟨i,σ3,H3,I3,st3,fr3,w3⟩
 rcases turn i n σ3 H3 w3 with ⟨stop,qn⟩ | ⟨go,N,hN,step⟩
 ·refine wpAny_passesOwn hp (thn (T.done X rfl rfl rfl hc i pins s3 σ3 H3 X.xe I3 (stat fr3) st3 stop) fun r s4 ⟨hr,I4⟩=>?_)
  subst hr
  exact wpAny_execs_nil ⟨σ3,H3,I4,qn⟩
 ·refine wpAny_passesOwn hp (thn (T.item X rfl rfl rfl hc i pins s3 σ3 H3 X.xe I3 (stat fr3) st3 go) fun r s4 ⟨u,hr,h4⟩=>?_)
  subst hr
  refine wpAny_passesOwn hp (thn h4 fun _ s5 ⟨x,H5,I5,r5,y5,st5,fr5⟩=>?_)
  have I5':=I5.pinned (stat fr5) (T.obj _ _ st5)
  refine wpAny_passesOwn hp (thn (hg _ s5 σ3 H5 x u _ I5' r5 (step x H5 y5)) fun _ s6 ⟨σ6,H6,I6,q6⟩=>?_)
  refine wpAny_passesOwn hp (thn (hb _ s6 σ6 H6 _ I6 q6) fun f s7 q7=>?_)
  have again:∀ {σ7:St} {H7:Hp},Inv X (pins++JE7 fp s5.heap) σ7 H7 s7->N σ7 H7->∃m,m<n/\∃i σ' H',Inv X pins σ' H' s7/\tn i s7.heap/\(∀b∈fp,H' b=none)/\W i m σ' H':=fun {σ7 H7} I7 n7=>by
    obtain ⟨m',hm,w7⟩:=hN σ7 H7 n7
    refine ⟨m',hm,i+1,σ7,H7,I7.unpinned,T.keep _ _ _ st5 fun b hb o e=>(I7.pin (b,o) (q_r _ (q_r _ (JBg hb e)))).1,fun b hb=>?_,w7⟩
    obtain ⟨o,e,d⟩:=T.obj _ _ st5 b hb
    exact (I7.pin (b,o) (q_r _ (q_r _ (JBg hb e)))).2.1
  cases f with
  | next=>obtain ⟨σ7,H7,I7,n7⟩:=q7;exact again I7 n7
  | cont=>obtain ⟨σ7,H7,I7,n7⟩:=q7;exact again I7 n7
  | brk=>obtain ⟨σ7,H7,I7,q7⟩:=q7;exact ⟨σ7,H7,I7.unpinned,q7⟩
  | ret v=>obtain ⟨x7,σ7,H7,I7,r7,q7⟩:=q7;exact ⟨x7,σ7,H7,I7.unpinned,r7,q7⟩
end
end L2
namespace L2
open PySem PySem.Spec PyProof.Rows
noncomputable abbrev R2:=V->V->Hp->VK->Prop
noncomputable def OpR (X:Cx) (f:Value->Value->Sem Value) (r:R2):Prop :=
 ∀(pins:List (Addr×Obj)) (s:Shared) (σ:St) (H:Hp) (x y:V) (v u:Value) (Q:VK),Inv X pins σ H s->RelV x v->RelV y u->r x y H Q ->
  wpAny (model X.prog X.w) X.A (f v u) (EP X pins σ Q) X.xe s
noncomputable def UnR (X:Cx) (f:Value->Sem Value) (r:V->Hp->VK->Prop):Prop :=
 ∀(pins:List (Addr×Obj)) (s:Shared) (σ:St) (H:Hp) (x:V) (v:Value) (Q:VK),Inv X pins σ H s->RelV x v->r x H Q ->
  wpAny (model X.prog X.w) X.A (f v) (EP X pins σ Q) X.xe s
noncomputable def CallR (X:Cx) (f:Value) (r:List V->Hp->VK->Prop):Prop :=
 ∀(pins:List (Addr×Obj)) (s:Shared) (σ:St) (H:Hp) (xs:List V) (us:List Value) (Q:VK),Inv X pins σ H s->Vals xs us->r xs H Q ->
  wpAny (model X.prog X.w) X.A (call f us) (EP X pins σ Q) X.xe s
noncomputable def TruR (X:Cx) (r:V->Hp->(Bool->Hp->Prop)->Prop):Prop :=
 ∀(pins:List (Addr×Obj)) (s:Shared) (σ:St) (H:Hp) (x:V) (v:Value) (Q:Bool->Hp->Prop),Inv X pins σ H s->RelV x v->r x H Q ->
  wpAny (model X.prog X.w) X.A (truthy v) (TP X pins σ Q) X.xe s
noncomputable def tOp (r:R2) (ta tb:TE):TE:=fun σ H Q=>ta σ H fun x H1=>tb σ H1 fun y H2=>r x y H2 Q
noncomputable def tUn (r:V->Hp->VK->Prop) (ta:TE):TE:=fun σ H Q=>ta σ H fun x H1=>r x H1 Q
noncomputable def rI (C:Int->Int->Prop) (g:Int->Int->V):R2:=fun x y H Q=>∃i j,x=.int i/\y=.int j/\C i j/\Q (g i j) H
noncomputable def rI0 (g:Int->Int->V):R2:=fun x y H Q=>∃i j,x=.int i/\y=.int j/\Q (g i j) H
noncomputable def rU (g:Int->V):V->Hp->VK->Prop:=fun x H Q=>∃i,x=.int i/\Q (g i) H
section
variable {X:Cx} {a b c:Expr} {ta tb tc:TE} {pos:Pos}
theorem binT (ha:PE X a ta) (hb:PE X b tb) {pins:List (Addr×Obj)} {s:Shared} {σ:St} {H:Hp} {R:V->V->Hp->Prop} (I:Inv X pins σ H s)
  (h:ta σ H fun x H1=>tb σ H1 fun y H2=>R x y H2) {Q:Value->Shared->Prop} {f:Value->Value->Sem Value}
  (hf:∀v u s2 x y H2,Inv X pins σ H2 s2->RelV x v->RelV y u->R x y H2->wpAny (model X.prog X.w) X.A (f v u) Q X.xe s2) :
  wpAny (model X.prog X.w) X.A (eval a X.env) (fun v s₁=>wpAny (model X.prog X.w) X.A (eval b X.env) (fun u s₂=>wpAny (model X.prog X.w) X.A (f v u) Q X.xe s₂) X.xe s₁) X.xe s:=by
 refine thn (ha pins s σ H _ I h) fun v s1 ⟨x,H1,I1,r1,q1⟩=>?_
 refine thn (hb pins s1 σ H1 _ I1 q1) fun u s2 ⟨y,H2,I2,r2,q2⟩=>?_
 exact hf v u s2 x y H2 I2 r1 r2 q2
theorem JNr {op:Operator} {r:R2} (ho:OpR X (binaryOp op) r) (ha:PE X a ta) (hb:PE X b tb):PE X (.BinOp a op b pos) (tOp r ta tb):=by
 intro pins s σ H Q I h
 exact wpAny_BinOp (binT ha hb I h fun v u s2 x y H2 I2 rx ry q=>ho pins s2 σ H2 x y v u Q I2 rx ry q)
theorem JPc {op:UnaryOp} {r:V->Hp->VK->Prop} (ho:UnR X (unaryOp op) r) (ha:PE X a ta):PE X (.UnaryOp op a pos) (tUn r ta):=by
 intro pins s σ H Q I h
 exact UnaryOp_ (thn (ha pins s σ H _ I h) fun v s1 ⟨x,H1,I1,r1,q1⟩=>ho pins s1 σ H1 x v Q I1 r1 q1)
theorem opI {f:Value->Value->Sem Value} {C:Int->Int->Prop} {g:Int->Int->Int}
  (rule:∀(i j:Int) (t u:Tok) (s:Shared) (Q:Value->Shared->Prop) (E:Value->Shared->Prop),C i j->Q (.int (g i j) s.toks) { s with toks:=s.toks+1 }->wpAny (model X.prog X.w) X.A (f (.int i t) (.int j u)) Q E s) :
  OpR X f (rI C fun i j=>.int (g i j)):=by
 intro pins s σ H x y v u Q I rx ry h
 obtain ⟨i,j,rfl,rfl,hc,q⟩:=h
 obtain ⟨t,rfl⟩:=rx
 obtain ⟨t',rfl⟩:=ry
 exact rule i j t t' s _ _ hc ⟨.int (g i j),H,I.tok _,⟨_,rfl⟩,q⟩
theorem opI0 {f:Value->Value->Sem Value} {g:Int->Int->Int}
  (rule:∀(i j:Int) (t u:Tok) (s:Shared) (Q:Value->Shared->Prop) (E:Value->Shared->Prop),Q (.int (g i j) s.toks) { s with toks:=s.toks+1 }->wpAny (model X.prog X.w) X.A (f (.int i t) (.int j u)) Q E s) :
  OpR X f (rI0 fun i j=>.int (g i j)):=by
 intro pins s σ H x y v u Q I rx ry h
 obtain ⟨i,j,rfl,rfl,q⟩:=h
 obtain ⟨t,rfl⟩:=rx
 obtain ⟨t',rfl⟩:=ry
 exact rule i j t t' s _ _ ⟨.int (g i j),H,I.tok _,⟨_,rfl⟩,q⟩
theorem opB0 {f:Value->Value->Sem Value} {g:Int->Int->Bool}
  (rule:∀(i j:Int) (t u:Tok) (s:Shared) (Q:Value->Shared->Prop) (E:Value->Shared->Prop),Q (.bool (g i j)) s->wpAny (model X.prog X.w) X.A (f (.int i t) (.int j u)) Q E s) :
  OpR X f (rI0 fun i j=>.bl (g i j)):=by
 intro pins s σ H x y v u Q I rx ry h
 obtain ⟨i,j,rfl,rfl,q⟩:=h
 obtain ⟨t,rfl⟩:=rx
 obtain ⟨t',rfl⟩:=ry
 exact rule i j t t' s _ _ ⟨.bl (g i j),H,I,rfl,q⟩
noncomputable def CPow (i j:Int):Prop:=0<=j/\j<=1000000/\i.natAbs<2 ^ 64
noncomputable def CMul (i j:Int):Prop:=(-(2 ^ 64)<i/\i<2 ^ 64)\/(-(2 ^ 64)<j/\j<2 ^ 64)
theorem CMul.ok {i j:Int} (h:CMul i j):IntMulOk i j:=by
 rcases h with ⟨h1,h2⟩ | ⟨h1,h2⟩
 ·exact .of_left (intBits_le_64 h1 h2)
 ·exact .of_right (intBits_le_64 h1 h2)
theorem JPU:OpR X (binaryOp .Add) (rI0 fun i j=>.int (i+j)):=opI0 fun _ _ _ _ _ _ _ q=>add_int q
theorem JNn:OpR X (binaryOp .Sub) (rI0 fun i j=>.int (i - j)):=opI0 fun _ _ _ _ _ _ _ q=>sub_int q
theorem JMJ:OpR X (binaryOp .Mod) (rI (fun _ j=>j≠0) fun i j=>.int (i.fmod j)):=opI fun _ _ _ _ _ _ _ hc q=>mod_int' hc q
theorem JPL:OpR X (binaryOp .Pow) (rI CPow fun i j=>.int (i ^ j.toNat)):=opI fun _ _ _ _ _ _ _ hc q=>pow_int_small hc.1 hc.2.1 hc.2.2 q
theorem unI {f:Value->Sem Value} {g:Int->Int}
  (rule:∀(i:Int) (t:Tok) (s:Shared) (Q:Value->Shared->Prop) (E:Value->Shared->Prop),Q (.int (g i) s.toks) { s with toks:=s.toks+1 }->wpAny (model X.prog X.w) X.A (f (.int i t)) Q E s) :
  UnR X f (rU fun i=>.int (g i)):=by
 intro pins s σ H x v Q I rx h
 obtain ⟨i,rfl,q⟩:=h
 obtain ⟨t,rfl⟩:=rx
 exact rule i t s _ _ ⟨.int (g i),H,I.tok _,⟨_,rfl⟩,q⟩
theorem JKv:UnR X (unaryOp .USub) (rU fun i=>.int (-i)):=unI fun _ _ _ _ _ q=>neg_int q
end
section
variable {X:Cx} {a b c:Expr} {ta tb tc:TE} {pos:Pos}
theorem op_lt:OpR X (compareOp .Lt) (rI0 fun i j=>.bl (decide (i<j))):=opB0 fun _ _ _ _ _ _ _ q=>lt_int q
theorem op_le:OpR X (compareOp .LtE) (rI0 fun i j=>.bl (decide (i<=j))):=opB0 fun _ _ _ _ _ _ _ q=>le_int q
theorem op_gt:OpR X (compareOp .Gt) (rI0 fun i j=>.bl (decide (j<i))):=opB0 fun _ _ _ _ _ _ _ q=>gt_int q
theorem op_ge:OpR X (compareOp .GtE) (rI0 fun i j=>.bl (decide (j<=i))):=opB0 fun _ _ _ _ _ _ _ q=>ge_int q
theorem OpR.or {f:Value->Value->Sem Value} {r r':R2} (h:OpR X f r) (h':OpR X f r'):OpR X f (fun x y H Q=>r x y H Q\/r' x y H Q):=by
 intro pins s σ H x y v u Q I rx ry q
 rcases q with q | q
 ·exact h pins s σ H x y v u Q I rx ry q
 ·exact h' pins s σ H x y v u Q I rx ry q
theorem nomark (b:Expr) {op:CmpOp} (h:op≠.In:=by decide) (h2:op≠.NotIn:=by decide):behindInMarks op b=false:=by
 have e1:(op==CmpOp.In)=false:=by cases op<;>first | rfl | exact absurd rfl h
 have e2:(op==CmpOp.NotIn)=false:=by cases op<;>first | rfl | exact absurd rfl h2
 cases b<;>simp [behindInMarks,e1,e2]
theorem JFF {op:CmpOp} {r:R2} (ho:OpR X (compareOp op) r) (ha:PE X a ta) (hb:PE X b tb) (hm:behindInMarks op b=false):PE X (.Compare a [op] [b] pos) (tOp r ta tb):=by
 intro pins s σ H Q I h
 exact wpAny_Compare1 (binT ha hb I h fun v u s2 x y H2 I2 rx ry q=>ho pins s2 σ H2 x y v u Q I2 rx ry q) hm
noncomputable def JQL (t:TE):TT:=fun σ H Q=>t σ H fun x H'=>∃k,x=.bl k/\Q k H'
theorem JFN {op:CmpOp} {r:R2} (ho:OpR X (compareOp op) r) (ha:PE X a ta) (hb:PE X b tb) (hm:behindInMarks op b=false):PT X (.Compare a [op] [b] pos) (JQL (tOp r ta tb)):=by
 intro pins s σ H Q I h
 refine wpAny_isTrue_Compare1 (thn (ha pins s σ H _ I h) fun v s1 ⟨x,H1,I1,r1,q1⟩=>thn (hb pins s1 σ H1 _ I1 q1) fun u s2 ⟨y,H2,I2,r2,q2⟩ =>
  thn (ho pins s2 σ H2 x y v u _ I2 r1 r2 q2) fun c s3 ⟨z,H3,I3,r3,k,e,q3⟩=>?_) hm
 subst e
 cases r3
 exact wpAny_truthy_bool ⟨H3,I3,q3⟩
noncomputable def TruV (K:PySem.W.Frag) (x:V) (H:Hp) (k:Bool):Prop :=
 match x with
 | .non=>k=false
 | .bl b=>k=b
 | .int i=>k=(i != 0)
 | .str y=>y.length<=sizeLine/\k=((y.length:Int) != 0)
 | .byt y=>y.size<=sizeLine/\k=((y.size:Int) != 0)
 | .ref p=>(∃xs,SqL K H p xs/\k=!xs.isEmpty)\/(∃xs,SqT K H p xs/\k=!xs.isEmpty)\/∃kvs,H p=some (.dK kvs)/\k=!kvs.isEmpty
 | _=>False
theorem JGz {κ:Type} {kvs:List (κ×V)} {vs:List (κ×Value)} (r:KV kvs vs):(!vs.isEmpty)=!kvs.isEmpty:=by
 cases r<;>rfl
theorem JDP {xs:List V} {its:List Value} (r:Vals xs its):(!its.toArray.isEmpty)=!xs.isEmpty:=by
 cases r<;>simp
theorem JEm:(sizeLine:Nat)<2 ^ 63:=by rw [sizeLine_eq];decide
theorem JK9:TruR X (fun x H Q=>∃k,TruV X.K x H k/\Q k H):=by
 intro pins s σ H x v Q I rx h
 obtain ⟨k,e,q⟩:=h
 have hl:=JEm
 have hs:sizeLine=16777216:=sizeLine_eq
 cases x with
 | non =>
  cases rx
  have e':k=false:=e
  subst e'
  exact truthy_none ⟨H,I,q⟩
 | bl b =>
  cases rx
  have e':k=b:=e
  subst e'
  exact wpAny_truthy_bool ⟨H,I,q⟩
 | int i =>
  obtain ⟨t,rfl⟩:=rx
  have e':k=(i != 0):=e
  subst e'
  exact PySem.P.truthy_int ⟨H,I,q⟩
 | str y =>
  obtain ⟨t,rfl⟩:=rx
  obtain ⟨hy,e'⟩:y.length<=sizeLine/\k=((y.length:Int) != 0):=e
  subst e'
  exact PySem.P.truthy_str (by omega) ⟨H,I.tok _,q⟩
 | byt y =>
  obtain ⟨t,rfl⟩:=rx
  obtain ⟨hy,e'⟩:y.size<=sizeLine/\k=((y.size:Int) != 0):=e
  subst e'
  exact PySem.W.truthy_bytes (by omega) ⟨H,I.tok _,q⟩
 | ref p =>
  cases rx
  have e':(∃xs,SqL X.K H p xs/\k=!xs.isEmpty)\/(∃xs,SqT X.K H p xs/\k=!xs.isEmpty)\/∃kvs,H p=some (.dK kvs)/\k=!kvs.isEmpty:=e
  rcases e' with ⟨xs,hx,e'⟩ | ⟨xs,hx,e'⟩ | ⟨kvs,hx,e'⟩
  ·subst e'
   obtain ⟨its,r,pl,hz⟩:=I.list hx
   have hlen:=r.length
   exact wpAny_truthy_list pl.isList (by simp only [q_f];omega) ⟨H,I.tok _,by rw [JDP r];exact q⟩
  ·subst e'
   obtain ⟨its,r,pl,hz⟩:=I.tuple hx
   have hlen:=r.length
   exact truthy_tuple pl (by simp only [q_f];omega) ⟨H,I.tok _,by rw [JDP r];exact q⟩
  ·subst e'
   obtain ⟨hz,hS,vs,r,m⟩:kvs.length<=sizeLine/\(p==sysModules)=false/\∃vs,KV kvs vs/\s.heap.DictOf (JBC X.prog X.w) p vs:=I.hok p _ hx
   have hlen:kvs.length=vs.length:=Paired.length r
   exact wpAny_truthy_dict hS m (by omega) ⟨H,I.tok _,by rw [JGz r];exact q⟩
 | _=>exact (show False from e).elim
theorem JI9 (ha:PE X a ta) (he:∀whole,isTrue a X.env whole=(do let v<-whole;standAt a.pos;holding [v] (truthy v))) :
  PT X a (fun σ H Q=>ta σ H fun x H'=>∃k,TruV X.K x H' k/\Q k H'):=by
 intro pins s σ H Q I h
 exact isTrue_plain (thn (ha pins s σ H _ I h) fun v s1 ⟨x,H1,I1,r1,q1⟩=>JK9 pins s1 σ H1 x v Q I1 r1 q1) (he _)
theorem vals1 {x:V} {us:List Value} (r:Vals [x] us):∃u,us=[u]/\RelV x u:=by
 cases r with
 | cons r1 r2=>cases r2;exact ⟨_,rfl,r1⟩
theorem JJS:CallR X (.builtin "abs") (fun xs H Q=>∃i,xs=[.int i]/\Q (.int (if i<0 then -i else i)) H):=by
 intro pins s σ H xs us Q I r h
 obtain ⟨i,rfl,q⟩:=h
 obtain ⟨u,rfl,t,rfl⟩:=vals1 r
 exact call_abs_int fun u tk=>⟨.int (if i<0 then -i else i),H,I.tok _,⟨_,rfl⟩,q⟩
noncomputable def LenV (K:PySem.W.Frag) (x:V) (H:Hp) (n:Nat):Prop :=
 match x with
 | .str y=>y.length<=sizeLine/\n=y.length
 | .byt y=>y.size<=sizeLine/\n=y.size
 | .ref p=>(∃xs,SqL K H p xs/\n=xs.length)\/∃xs,SqT K H p xs/\n=xs.length
 | _=>False
theorem JJv:CallR X (.builtin "len") (fun xs H Q=>∃x n,xs=[x]/\LenV X.K x H n/\Q (.int n) H):=by
 intro pins s σ H xs us Q I r h
 obtain ⟨x,n,rfl,e,q⟩:=h
 obtain ⟨u,rfl,rx⟩:=vals1 r
 have hl:=JEm
 have hs:sizeLine=16777216:=sizeLine_eq
 cases x with
 | str y =>
  obtain ⟨t,rfl⟩:=rx
  obtain ⟨hy,e'⟩:y.length<=sizeLine/\n=y.length:=e
  subst e'
  exact len_str (by omega) ⟨.int _,H,I.tok _,⟨_,rfl⟩,q⟩
 | byt y =>
  obtain ⟨t,rfl⟩:=rx
  obtain ⟨hy,e'⟩:y.size<=sizeLine/\n=y.size:=e
  subst e'
  exact PySem.W.len_bytes (by omega) ⟨.int _,H,I.tok _,⟨_,rfl⟩,q⟩
 | ref p =>
  cases rx
  have e':(∃xs,SqL X.K H p xs/\n=xs.length)\/∃xs,SqT X.K H p xs/\n=xs.length:=e
  rcases e' with ⟨xs,hx,e'⟩ | ⟨xs,hx,e'⟩
  ·subst e'
   obtain ⟨its,r',pl,hz⟩:=I.list hx
   have hlen:=r'.length
   exact Calls.call_len_list pl.isList (by simp only [q_f];omega) ⟨.int xs.length,H,I.tok _,⟨_,by simp only [q_f];rw [hlen]⟩,q⟩
  ·subst e'
   obtain ⟨its,r',pl,hz⟩:=I.tuple hx
   have hlen:=r'.length
   exact len_tuple pl (by simp only [q_f];omega) ⟨.int xs.length,H,I.tok _,⟨_,by simp only [q_f];rw [hlen]⟩,q⟩
 | _=>exact (show False from e).elim
end
end L2
namespace L2
open PySem PySem.Spec PyProof.Rows
structure ObjM (h:Heap) (x dx C:Addr) (mA:Str->Option Value):Prop where
 obj:h.get? x=some (PySem.W.instObj C dx)
 ns:h.Ns1 dx mA
 ne:dx≠x
theorem JIj {h:Heap} {dx:Addr} {mA:Str->Option Value} (n:h.Ns1 dx mA):∃od,h.get? dx=some od/\∀name,PySem.W.lookIn name od=some (mA name):=by
 obtain ⟨o,es,ep,ho,hd,hk,_,hm⟩:=n
 refine ⟨o,ho,fun name=>?_⟩
 have e:=hm name
 unfold nsFind findBy at e
 rw [<-Array.find?_toList] at e
 unfold PySem.W.lookIn
 rw [hd]
 dsimp only
 split
 ·rename_i y q
  rw [q] at e
  exact congrArg some e
 ·rename_i q
  rw [q] at e
  have a:es.toList.any (·.refKey)=false:=by
   rw [List.any_eq_false]
   intro y hy
   obtain ⟨z,t,hkey⟩:=hk y (Array.mem_toList_iff.mp hy)
   simp [DictEntry.refKey,hkey]
  have a':¬es.toList.any (·.refKey)=true:=by rw [a];exact Bool.false_ne_true
  rw [if_neg a']
  exact congrArg some e
theorem ObjM.look {h:Heap} {x dx C:Addr} {mA:Str->Option Value} (I:ObjM h x dx C mA):∃od,PySem.W.InstAt h x (PySem.W.instObj C dx) C (some od)/\∀name,PySem.W.lookIn name od=some (mA name) :=
 let ⟨od,ho,hl⟩:=JIj I.ns
 ⟨od,⟨I.obj,rfl,rfl,ho⟩,hl⟩
section
variable {prog:Program} {w:World} {A:Around} {E:Value->Shared->Prop} {s:Shared} {K:PySem.W.Frag} {x dx C f:Addr} {mA:Str->Option Value} {name:Str} {v:Value}
end
section
variable {P:Program} {w:World} {H H':Hp} {h h':Heap} {a C dx:Addr} {fs fs':List (Str×V)}
end
structure Cls (K:PySem.W.Frag) (C:Addr):Prop where
 pg:PySem.W.plainGet K C Str.empty=true
 hd:PySem.W.hasDictIn K C=true
 po:PySem.W.plainOver K C=true
 sa:PySem.W.findIn K (.ref C) "__setattr__"=some (some (.builtin "object.__setattr__"))
theorem Cls.get {K:PySem.W.Frag} {C:Addr} (c:Cls K C) (f:Str):PySem.W.plainGet K C f=true:=c.pg
section
variable {X:Cx} {pins:List (Addr×Obj)} {σ:St} {H:Hp} {s:Shared} {a C dx:Addr} {fs:List (Str×V)} {f:Str} {v:V} {A:Around} {E:Value->Shared->Prop}
theorem Inv.made (I:Inv X pins σ H s):Inv X pins σ (upd (upd H s.heap.objs.size (.own (s.heap.objs.size+1))) (s.heap.objs.size+1) (.ins C s.heap.objs.size []))
  { s with heap:=(s.heap.push PySem.W.emptyDict).push (PySem.W.instObj C s.heap.objs.size) }:=by
 have e1:(s.heap.push PySem.W.emptyDict).get? s.heap.objs.size=some PySem.W.emptyDict:=q_k s.heap rfl
 have e2:((s.heap.push PySem.W.emptyDict).push (PySem.W.instObj C s.heap.objs.size)).get? (s.heap.objs.size+1)=some (PySem.W.instObj C s.heap.objs.size):=by
  have:=q_k (s.heap.push PySem.W.emptyDict) (o:=PySem.W.instObj C s.heap.objs.size) rfl
  rwa [Heap.size_push] at this
 have e3:(s.heap.push PySem.W.emptyDict).Ns s.heap.objs.size (fun _=>none):=⟨PySem.W.emptyDict,#[],_,e1,rfl,(fun e he=>absurd he (by simp)),fun _=>rfl⟩
 have I1:=I.laid (a:=s.heap.objs.size) (o:=.own (s.heap.objs.size+1)) (h':=s.heap.push PySem.W.emptyDict) (t':=s.toks) (fun b u q=>q_c _ q) (q_t _) ⟨_,e1⟩
 refine I1.laid (a:=s.heap.objs.size+1) (o:=.ins C s.heap.objs.size []) (t':=s.toks) (fun b u q=>q_c _ q) (Nat.le_of_eq (Heap.size_push _ _)) ?_
 have ne:s.heap.objs.size≠s.heap.objs.size+1:=q_l (Nat.lt_succ_self _)
 refine ⟨by rw [JAF ne,JAC],Nat.zero_le _,ne,e2,fun _=>none,(Heap.Ns1.of_empty e3).at fun o q=>q_c _ q,fun _=>True.intro,fun y hy=>absurd rfl hy⟩
end
section
variable {X:Cx} {o e value:Expr} {f:Str} {pos pos' tpos:Pos} {ta tv:TE}
end
section
variable {X:Cx} {pins:List (Addr×Obj)} {σ:St} {H:Hp} {s:Shared} {A:Around} {E:Value->Shared->Prop} {Q:Value->Shared->Prop} {c:Value} {b:Bool}
end
end L2
namespace L2
open PySem PySem.Spec PyProof.Rows
structure Room (k:Nat) (A:Around):Prop where
 hd:A.handled=none
 dp:A.depth+3*k+5<recursionLimit
 un:A.units+16*k+200<cLine
theorem Room.mono {j k:Nat} {A:Around} (r:Room k A) (h:j<=k):Room j A:=⟨r.hd,by have:=r.dp;omega,by have:=r.un;omega⟩
theorem Room.deeper {k:Nat} {A:Around} (r:Room (k+1) A) (env:Env):Room k (A.deeper env) :=
 ⟨r.hd,by have:=r.dp;show A.depth+1+3*k+5<_;omega,by have:=r.un;show A.units+3+16*k+200<_;omega⟩
theorem Room.in1 {k:Nat} {A:Around} (r:Room (k+1) A):Room k A.in1 :=
 ⟨r.hd,by have:=r.dp;show A.depth+3*k+5<_;omega,by have:=r.un;show A.units+1+16*k+200<_;omega⟩
theorem JGd {A:Around} {C:Addr} {us:List Value} {kw:List (Str×Value)}:(A.under (.builtin "type.__call__" ⟨.ref C::us,kw⟩)).depth=A.depth+1:=by
 first | rfl | simp [Around.under,Code.weight,Code.isCreation,Code.isGuard,Code.isCaller,Code.frames,Code.isFrame,guardIds]
theorem JGt {A:Around} {C:Addr} {us:List Value} {kw:List (Str×Value)}:(A.under (.builtin "type.__call__" ⟨.ref C::us,kw⟩)).units=A.units+1:=by
 first | rfl | simp [Around.under,Code.cUnits,Code.frames,Code.isFrame]
theorem Room.make {k:Nat} {A:Around} (r:Room (k+1) A) (C:Addr) (us:List Value) (kw:List (Str×Value)):Room k (A.under (.builtin "type.__call__" ⟨.ref C::us,kw⟩)) :=
 ⟨r.hd,by have:=r.dp;rw [JGd];omega,by have:=r.un;rw [JGt];omega⟩
theorem Room.depth {k:Nat} {A:Around} (r:Room k A):A.depth<recursionLimit:=by have:=r.dp;omega
theorem Room.units {k:Nat} {A:Around} (r:Room k A):A.units+64<cLine:=by have:=r.un;omega
noncomputable def tNil:TA:=fun _ H Q=>Q [] H
noncomputable def tCons (ta:TE) (tr:TA):TA:=fun σ H Q=>ta σ H fun x H1=>tr σ H1 fun xs H2=>Q (x::xs) H2
section
variable {X:Cx} {e:Expr} {es:List Expr} {te:TE} {t:TA} {pos:Pos}
theorem JBk:PA X [] tNil:=fun _ _ _ _ H Q I h=>Calls.spliced_nil ⟨[],H,I,.nil,h⟩
theorem JBA (ha:PE X e te) (hr:PA X es t) (hs:starEach (e::es) X.env=(false,eval e X.env)::starEach es X.env:=by rfl):PA X (e::es) (tCons te t):=by
 intro pos pins s σ H Q I h
 rw [hs]
 show wpAny _ _ (spliced ((false,eval e X.env)::backTo pos (starEach es X.env))) _ _ s
 refine Calls.spliced_cons (thn (ha pins s σ H _ I h) fun u s1 ⟨x,H1,I1,r1,q1⟩=>?_)
 exact thn (hr pos pins s1 σ H1 _ I1 q1) fun us s2 ⟨xs,H2,I2,r2,q2⟩=>⟨x::xs,H2,I2,.cons r1 r2,q2⟩
noncomputable def tTup (t:TA):TE:=fun σ H Q=>t σ H fun xs H1=>xs.length<=sizeLine/\∀p,H1 p=none->Q (.ref p) (upd H1 p (.tup xs))
noncomputable def tLst (t:TA):TE:=fun σ H Q=>t σ H fun xs H1=>xs.length<=sizeLine/\∀p,H1 p=none->Q (.ref p) (upd H1 p (.lst xs))
theorem JKZ {x1} (h:PA X es t):PE X (.Tuple es x1 pos) (tTup t):=by
 intro pins s σ H Q I hq
 refine wpAny_Tuple_spliced (thn (h pos pins s σ H _ I hq) fun us s1 ⟨xs,H1,I1,r,z,q⟩=>⟨by rw [<-r.length];exact z,?_⟩)
 have hf:H1 s1.heap.objs.size=none:=I1.hok.fresh (q_t _)
 refine ⟨.ref s1.heap.objs.size,upd H1 s1.heap.objs.size (.tup xs),I1.laid (t':=s1.toks) (fun b u e=>q_c _ e) (q_t _) ?_,rfl,q _ hf⟩
 exact ⟨z,us,r,⟨_,q_k _ rfl,rfl,_,rfl⟩⟩
theorem JHB (h:PA X es t):PE X (.List es pos) (tLst t):=by
 intro pins s σ H Q I hq
 refine wpAny_List_spliced (thn (h pos pins s σ H _ I hq) fun us s1 ⟨xs,H1,I1,r,z,q⟩=>⟨by rw [<-r.length];exact z,?_⟩)
 have hf:H1 s1.heap.objs.size=none:=I1.hok.fresh (q_t _)
 refine ⟨.ref s1.heap.objs.size,upd H1 s1.heap.objs.size (.lst xs),I1.laid (t':=s1.toks) (fun b u e=>q_c _ e) (q_t _) ?_,rfl,q _ hf⟩
 exact ⟨z,us,0,r,q_k _ rfl⟩
end
noncomputable abbrev Sp:=List V->Hp->VK->XK->Prop
noncomputable abbrev CXT:=List Env->Hp->Shared->XK->Value->Shared->Prop
structure Env0 (P:Program) (w:World) (K:PySem.W.Frag) (mg:Str->Option Value) (base:Heap) (A:Around) (outer:List Env) (s:Shared) (H:Hp):Prop where
 frames:A.frames=some outer
 mod:Mod K mg base
 bs:∀b o,base.get? b=some o->s.heap.get? b=some o/\H b=none
 bsz:base.objs.size<=s.heap.objs.size
 funs:s.heap.FunFrames base outer
 frf:∀b∈frs outer,H b=none
 hok:HOk P w H s.heap
 bare:AllBare s.gens
noncomputable def CE (outer:List Env) (P:Program) (w:World) (H:Hp) (s:Shared) (Q:VK) (u:Value) (s':Shared):Prop :=
 ∃v H',s'.os=s.os/\AllBare s'.gens/\Un (frs outer) [] H H' s.heap s'.heap/\HOk P w H' s'.heap/\RelV v u/\Q v H'
noncomputable def CR (CX:CXT) (outer:List Env) (P:Program) (w:World) (H:Hp) (s:Shared) (Q:VK) (E:XK) (r:Result) (s':Shared):Prop :=
 match r with
 | .ok (.ret u)=>CE outer P w H s Q u s'
 | .ok _=>False
 | .error e=>CX outer H s E e s'
structure FnOk (P:Program) (w:World) (K:PySem.W.Frag) (mg:Str->Option Value) (base:Heap) (CX:CXT) (k:Nat) (f:Addr) (fd:FuncData) (ps:List Str) (sp:Sp):Prop where
 len:∀vs H Q E,sp vs H Q E->vs.length=ps.length
 run:∀(A:Around) (outer:List Env) (s:Shared) (H:Hp) (args:Args) (us:List Value) (vs:List V) (Q:VK) (E:XK),Room k A->Env0 P w K mg base A outer s H->BindsTo s fd args (ps.zip us)->Vals vs us->sp vs H Q E ->
  codeAny (model P w) A (.call (.ref f) args) (CR CX outer P w H s Q E) s
theorem FnOk.mono {P:Program} {w:World} {K:PySem.W.Frag} {mg:Str->Option Value} {base:Heap} {CX:CXT} {j k:Nat} {f:Addr} {fd:FuncData} {ps:List Str} {sp:Sp} (F:FnOk P w K mg base CX j f fd ps sp) (h:j<=k) :
 FnOk P w K mg base CX k f fd ps sp:=⟨F.len,fun A outer s H args us vs Q E hr=>F.run A outer s H args us vs Q E (hr.mono h)⟩
theorem FnOk.imp {P:Program} {w:World} {K:PySem.W.Frag} {mg:Str->Option Value} {base:Heap} {CX:CXT} {k:Nat} {f:Addr} {fd:FuncData} {ps:List Str} {sp sp':Sp} (F:FnOk P w K mg base CX k f fd ps sp)
  (h:∀vs H Q E,sp' vs H Q E->sp vs H Q E):FnOk P w K mg base CX k f fd ps sp' :=
 ⟨fun vs H Q E q=>F.len vs H Q E (h _ _ _ _ q),fun A outer s H args us vs Q E hr he hb hv hs=>F.run A outer s H args us vs Q E hr he hb hv (h _ _ _ _ hs)⟩
theorem Env0.make {P:Program} {w:World} {K:PySem.W.Frag} {mg:Str->Option Value} {base:Heap} {A:Around} {outer:List Env} {s:Shared} {H:Hp} (e:Env0 P w K mg base A outer s H) (C:Addr) (us:List Value) (kw:List (Str×Value)) :
 Env0 P w K mg base (A.under (.builtin "type.__call__" ⟨.ref C::us,kw⟩)) outer s H:=⟨by first | exact e.frames | (simpa [Around.under,Code.envs,Code.isFrame,pushEnvs] using e.frames),e.mod,e.bs,e.bsz,e.funs,e.frf,e.hok,e.bare⟩
theorem Env0.in1 {P:Program} {w:World} {K:PySem.W.Frag} {mg:Str->Option Value} {base:Heap} {A:Around} {outer:List Env} {s:Shared} {H:Hp} (e:Env0 P w K mg base A outer s H) :
 Env0 P w K mg base A.in1 outer s H:=⟨e.frames,e.mod,e.bs,e.bsz,e.funs,e.frf,e.hok,e.bare⟩
section
variable {X:Cx} {pins:List (Addr×Obj)} {σ:St} {H:Hp} {s s':Shared}
theorem Inv.env0 (I:Inv X pins σ H s):Env0 X.prog X.w X.K X.mg X.base X.A X.stack s H :=
 ⟨I.ok.frames,I.ok.mod,I.bs,Nat.le_trans I.ok.bsz I.sz,I.stack,I.stkFree,I.hok,I.bare⟩
theorem Inv.after {Q:VK} {u:Value} (I:Inv X pins σ H s) (h:CE X.stack X.prog X.w H s Q u s'):EP X pins σ Q u s':=by
 obtain ⟨v,H',os,bare,un,hok,r,q⟩:=h
 obtain ⟨hh,g,d,t,os'⟩:=s'
 obtain rfl:os'=s.os:=os
 exact ⟨v,H',I.call (h':=hh) (g':=g) (d':=d) (t':=t) (ch:=[]) un hok bare (fun b z=>absurd z (by simp)),r,q⟩
end
noncomputable def tCall (sp:Sp) (dvs:List V) (E:XK) (t:TA):TE:=fun σ H Q=>t σ H fun vs H1=>sp (vs++dvs) H1 Q E
noncomputable def Binds (K:PySem.W.Frag) (fd:FuncData) (ps:List Str) (ds:List Value):Prop :=
 ∀(s:Shared) (us:List Value),K.In s.heap->(us++ds).length=ps.length->BindsTo s fd ⟨us,[]⟩ (ps.zip (us++ds))
theorem Binds.all {K:PySem.W.Frag} {fd:FuncData} {ps:List Str} (h:∀us:List Value,us.length=ps.length->bindArgs fd ⟨us,[]⟩=pure (ps.zip us)):Binds K fd ps []:=fun s us _ hl=>by
 rw [List.append_nil] at hl ⊢
 exact .of_eq (h us hl)
noncomputable def JDL (CX:CXT) (X:Cx) (E:XK):Prop:=∀(pins:List (Addr×Obj)) (σ:St) (H:Hp) (s:Shared) (e:Value) (s':Shared),Inv X pins σ H s->CX X.stack H s E e s'->X.xe e s'
section
variable {X:Cx} {CX:CXT} {k:Nat} {f C:Addr} {fd:FuncData} {ps:List Str} {sp:Sp} {dvs:List V} {ds:List Value} {E:XK} {x m:Str} {p pos apos:Pos} {e o:Expr} {es:List Expr} {ta:TE} {t:TA}
theorem JPJ {pins:List (Addr×Obj)} {σ:St} {H:Hp} {s:Shared} {Q:VK} {us:List Value} {vs:List V} (F:FnOk X.prog X.w X.K X.mg X.base CX k f fd ps sp) (hr:Room k X.A) (hb:Binds X.K fd ps ds) (hd:Vals dvs ds) (hx:JDL CX X E)
  (I:Inv X pins σ H s) (r:Vals vs us) (h:sp (vs++dvs) H Q E):wpAny (model X.prog X.w) X.A (call (.ref f) us) (EP X pins σ Q) X.xe s:=by
 have r2:Vals (vs++dvs) (us++ds):=r.append hd
 have hl:(us++ds).length=ps.length:=by rw [<-r2.length];exact F.len _ _ _ _ h
 refine wpAny_call (codeAny_mono (F.run X.A X.stack s H ⟨us,[]⟩ (us++ds) (vs++dvs) Q E hr I.env0 (hb s us I.kIn hl) r2 h) fun r s' hq=>?_)
 cases r with
 | error e=>exact hx pins σ H s e s' I hq
 | ok fl =>
  cases fl with
  | ret u=>exact I.after hq
  | next=>exact False.elim hq
  | brk=>exact False.elim hq
  | cont=>exact False.elim hq
theorem JNC (F:FnOk X.prog X.w X.K X.mg X.base CX k f fd ps sp) (hr:Room k X.A) (hg:Gl X x) (hm:X.mg x=some (.ref f)) (hk:PySem.W.keepIn X.K (.ref f)=true) (hb:Binds X.K fd ps ds) (hd:Vals dvs ds) (hx:JDL CX X E)
  (ha:PA X (e::es) t) (hdb:(x==("__debug__":Str))=false:=by decide) (he:starEach (e::es) X.env=(false,eval e X.env)::starEach es X.env:=by rfl) (hpl:(backTo pos (starEach es X.env)).any (·.1)=false:=by rfl) :
  PE X (.Call (.Name x p) (e::es) [] pos) (tCall sp dvs E t):=by
 intro pins s σ H Q I h
 refine wpAny_Call_Name_kw (JDs I hg hm ?_ hdb)
 refine PySem.W.callWith_K (h₀:=X.base) I.ok.mod.kin hk (thn (ha pos pins s σ H _ I h) fun us s1 ⟨vs,H1,I1,r,q⟩=>⟨I1.kIn,?_⟩) he hpl
 exact JPJ F hr hb hd hx I1 r q
structure Mk (K:PySem.W.Frag) (C f:Addr):Prop where
 makes:PySem.W.makesIn K C=true
 init:PySem.W.findIn K (.ref C) "__init__"=some (some (.ref f))
 fn:PySem.W.isFn K (.ref f)=true
 kp:PySem.W.keepIn K (.ref C)=true
end
section
variable {X:Cx} {CX:CXT} {k:Nat} {f C:Addr} {fd:FuncData} {ps ks:List Str} {sp:Sp} {E:XK} {x m:Str} {p pos apos kpos:Pos} {e o:Expr} {es:List Expr} {kws:List Keyword} {te ta:TE} {t tk:TA} {nm:Option Str}
variable {g:List Value->List Value->List Value} {gV:List V->List V->List V}
end
structure FnScope (N P:List Str) (sc:Scope):Prop where
 kind:sc.kind=.function
 co:sc.isCoroutine=false
 gen:sc.isGenerator=false
 nd:N.Nodup
 pre:N.take P.length=P
 par:∀x∈P,sc.names.lookup x=some .local\/sc.names.lookup x=some .cell
 nofree:∀y∈sc.names,y.2≠.free
theorem JEv {kindOf:Str->Option NameKind} {x:Str}:∀ {binds:List (Str×Value)} {m:Str->Option Value},(∀v,(x,v) ∉ binds)->bindL kindOf binds m x=m x
 | [],_,_=>rfl
 |(n,v)::r,m,h=>by
  unfold bindL
  rw [JEv fun w hw=>h w (q_s _ hw)]
  split
  · have:x≠n:=by rintro rfl;exact h v List.mem_cons_self
    simp [this]
  · rfl
theorem JEi {kindOf:Str->Option NameKind} {x:Str}:∀ {binds:List (Str×Value)} {m:Str->Option Value},(∀v,(x,v) ∉ binds)->bindC kindOf binds m x=m x
 | [],_,_=>rfl
 |(n,v)::r,m,h=>by
  unfold bindC
  rw [JEi fun w hw=>h w (q_s _ hw)]
  split
  · rfl
  · have:x≠n:=by rintro rfl;exact h v List.mem_cons_self
    simp [this]
theorem JEo {kindOf:Str->Option NameKind} {x:Str} {v:Value}:∀ {P:List Str} {vs:List Value} {i:Nat} {m:Str->Option Value},P.Nodup->P[i]? = some x->vs[i]? = some v->kindOf x=some .local ->
  bindL kindOf (P.zip vs) m x=some v
 | [],_,_,_,_,h,_,_=>by simp at h
 | _::_,[],_,_,_,_,h,_=>by simp at h
 | p::P,w::vs,0,m,nd,h1,h2,hk=>by
  simp at h1 h2;subst h1;subst h2
  show bindL kindOf ((p,w)::P.zip vs) m p=_
  unfold bindL
  rw [JEv fun v hv=>(List.nodup_cons.mp nd).1 (List.of_mem_zip hv).1,if_pos hk]
  simp
 | p::P,w::vs,i+1,m,nd,h1,h2,hk=>by
  show bindL kindOf ((p,w)::P.zip vs) m x=_
  unfold bindL
  exact JEo (i:=i) (List.nodup_cons.mp nd).2 (by simpa using h1) (by simpa using h2) hk
theorem JEK {kindOf:Str->Option NameKind} {x:Str} {v:Value}:∀ {P:List Str} {vs:List Value} {i:Nat} {m:Str->Option Value},P.Nodup->P[i]? = some x->vs[i]? = some v->kindOf x≠some .local ->
  bindC kindOf (P.zip vs) m x=some v
 | [],_,_,_,_,h,_,_=>by simp at h
 | _::_,[],_,_,_,_,h,_=>by simp at h
 | p::P,w::vs,0,m,nd,h1,h2,hk=>by
  simp at h1 h2;subst h1;subst h2
  show bindC kindOf ((p,w)::P.zip vs) m p=_
  unfold bindC
  rw [JEi fun v hv=>(List.nodup_cons.mp nd).1 (List.of_mem_zip hv).1,if_neg hk]
  simp
 | p::P,w::vs,i+1,m,nd,h1,h2,hk=>by
  show bindC kindOf ((p,w)::P.zip vs) m x=_
  unfold bindC
  exact JEK (i:=i) (List.nodup_cons.mp nd).2 (by simpa using h1) (by simpa using h2) hk
noncomputable def start (N:List Str) (vs:List V):St:=vs.map some++List.replicate (N.length - vs.length) none
noncomputable def cxOf (CX:CXT) (P:Program) (w:World) (K:PySem.W.Frag) (mg:Str->Option Value) (base:Heap) (N:List Str) (qual:Str) (scope:Scope) (f:Addr) (cd:Value) (A:Around) (outer:List Env) (s:Shared) (H:Hp) (E:XK):Cx where
 prog:=P
 w:=w
 K:=K
 mg:=mg
 base:=base
 A:=A.deeper (envOfC qual scope s.heap.objs.size f cd)
 N:=N
 s₀:=s
 H₀:=H
 env:=envOfC qual scope s.heap.objs.size f cd
 outer:=outer
 stack:=envOfC qual scope s.heap.objs.size f cd::outer
 ex:=[]
 calm:=true
 fn:=fun _=>true
 pn:=[]
 xe:=fun e s'=>wpAny (model P w) (A.deeper (envOfC qual scope s.heap.objs.size f cd)) (leaving (envOfC qual scope s.heap.objs.size f cd) e) (fun _ s''=>CX outer H s E e s'') (fun e' s''=>CX outer H s E e' s'') s'
theorem JF4 {sc:Scope} {n:Nat} {x:Str} (h:sc.names.lookup x=some .cell):∃c,(cellsFrom n sc.names []).lookup x=some c:=by
 have q:=PySem.W.cellsFrom_some sc.names n [] (.inl h)
 exact Option.isSome_iff_exists.mp q
theorem JHq {CX:CXT} {P:Program} {w:World} {K:PySem.W.Frag} {mg:Str->Option Value} {base:Heap} {N ps:List Str} {qual:Str} {scope:Scope} {f:Addr} {cd:Value} {A:Around} {outer:List Env} {s s1:Shared} {H:Hp} {E:XK} {us:List Value} {vs:List V}
  (S:FnScope N ps scope) (hd:A.handled=none) (e0:Env0 P w K mg base A outer s H) (hl:vs.length=ps.length) (r:Vals vs us)
  (x:InCallC s s.heap.objs.size (bindL (envOfC qual scope s.heap.objs.size f cd).kindOf (ps.zip us) fun _=>none) (cellsFrom (s.heap.objs.size+1) scope.names []) (bindC (envOfC qual scope s.heap.objs.size f cd).kindOf (ps.zip us) fun _=>none) s1) :
  Inv (cxOf CX P w K mg base N qual scope f cd A outer s H E) [] (start N vs) H s1:=by
 have hpl:ps.length<=N.length:=by have:=congrArg List.length S.pre;rw [List.length_take] at this;omega
 obtain ⟨h1,tk,rfl,hk⟩:=x.done
 have noA:∀b:Addr,b ∉ (cxOf CX P w K mg base N qual scope f cd A outer s H E).ex:=fun b z=>absurd (show b∈([]:List Addr) from z) (by simp)
 refine ⟨⟨e0.mod,S.kind,rfl,rfl,q_t _,fun y z c h1 h2=>?_,fun y hy=>?_,fun y c _ h=>?_,fun _=>hd,Around.frames_deeper e0.frames,.inr ⟨rfl,rfl⟩,fun b z=>absurd z (noA b),e0.bs,e0.bsz,fun b _ _=>noA b,fun b z=>absurd z (noA b),e0.funs,e0.frf⟩,
  rfl,e0.bare,Un.kept hk,⟨_,x.toInCall.ns,fun i y v h1 h2 h3=>?_⟩,fun y c h=>⟨_,x.cell y c h⟩,e0.hok.fresh (q_t _),fun y c h=>?_,fun p hp=>absurd (show p∈([]:List (Addr×Obj)) from hp) (by simp),e0.hok.kept hk,?_⟩
 ·exact name_of_addr x.apart (PySem.mem_of_lookup h1) (PySem.mem_of_lookup h2)
 ·have hy:scope.names.lookup y=some .cell\/scope.names.lookup y=some .free:=hy
  rcases hy with hy | hy
  · exact JF4 hy
  · exact absurd rfl (S.nofree _ (PySem.mem_of_lookup hy))
 ·exact Nat.le_of_lt (x.above y c (PySem.mem_of_lookup h))
 ·have hi:i<vs.length:=by
    unfold start at h2
    by_cases hi:i<vs.length
    ·exact hi
    ·rw [List.getElem?_append_right (by simpa using hi)] at h2
     rw [List.getElem?_replicate] at h2
     split at h2<;>cases h2
  have ha:vs[i]? = some v:=by
    unfold start at h2
    rw [q_B (by simpa using hi),List.getElem?_map] at h2
    cases e:vs[i]? with
    | none=>rw [e] at h2;cases h2
    | some a=>rw [e] at h2;cases h2;rfl
  obtain ⟨u,hu,rv⟩:=r.get ha
  have hp:ps[i]? = some y:=by
    rw [<-S.pre,List.getElem?_take_of_lt (by omega)];exact h1
  have ndP:ps.Nodup:=by rw [<-S.pre];exact S.nd.sublist (List.take_sublist _ _)
  refine ⟨u,rv,?_⟩
  rcases S.par y (List.mem_of_getElem? hp) with k | k
  · exact .inl ⟨k,JEo ndP hp hu k⟩
  · obtain ⟨c,e⟩:=JF4 (n:=s.heap.objs.size+1) k
    refine .inr ⟨.inl k,c,e,?_⟩
    have q:=x.cell y c e
    rw [JEK ndP hp hu (by show scope.names.lookup y≠_;rw [k];decide)] at q
    exact q
 ·exact e0.hok.fresh (Nat.le_of_lt (x.above y c (PySem.mem_of_lookup h)))
 ·unfold start
  show _=N.length
  rw [q_u,q_g,List.length_replicate]
  omega
theorem JOq {CX:CXT} {P:Program} {w:World} {K:PySem.W.Frag} {mg:Str->Option Value} {base:Heap} {k:Nat} {f:Addr} {name qual:Str} {params:Arguments} {body:List Stmt} {scope:Scope} {dV kV doc pm cdv ct oc:Value} {an od:Option Addr}
  {osl:Array (Option Value)} {N ps:List Str} {sp:Sp} (lk:K.lookup f=some ⟨oc,od,.func (PySem.W.fnOf name qual params body scope dV kV doc pm an cdv ct),osl⟩) (hcd:PySem.W.codeIn K cdv qual=true) (S:FnScope N ps scope)
  (len:∀vs H Q E,sp vs H Q E->vs.length=ps.length)
  (hbody:∀(A:Around) (outer:List Env) (s:Shared) (H:Hp) (vs:List V) (Q:VK) (E:XK),Room k (A.deeper (envOfC qual scope s.heap.objs.size f cdv))->sp vs H Q E ->
    ∃t,PSs (cxOf CX P w K mg base N qual scope f cdv A outer s H E) body t/\t { nx:=fun _ H'=>Q .non H',rt:=Q } (start N vs) H) :
  FnOk P w K mg base CX (k+1) f (PySem.W.fnOf name qual params body scope dV kV doc pm an cdv ct) ps sp:=by
 refine ⟨len,fun A outer s H args us vs Q E hr e0 hb r hsp=>?_⟩
 have hl:=len _ _ _ _ hsp
 have KX:K.In s.heap:=e0.mod.kin.keeps fun b o e=>(e0.bs b o e).1
 have lim:s.heap.NoLimit:=e0.mod.nolimit.keeps fun b o e=>(e0.bs b o e).1
 have hkind:∀y∈ps.zip us,scope.names.lookup y.1=some .local\/(scope.names.lookup y.1=some .cell/\((cellsFrom (s.heap.objs.size+1) scope.names []).lookup y.1).isSome=true):=fun ⟨n,v⟩ hy=>by
  rcases S.par n (List.of_mem_zip hy).1 with q | q
  · exact .inl q
  · exact .inr ⟨q,PySem.W.cellsFrom_some _ _ _ (.inl q)⟩
 refine codeAny_call_function hr.depth (KX _ _ lk) rfl S.co S.gen rfl (PySem.W.codeRec_of KX hcd) (hb _ _ _ _ ?_)
 refine wpAny_newFunctionEnv_cells S.kind hkind fun env he s1 x=>?_
 subst he
 refine ⟨lim.keeps x.toInCall.keep,codeAny_func ?_⟩
 obtain ⟨t,ht,hq⟩:=hbody A outer s H vs Q E (hr.deeper _) hsp
 have I:Inv (cxOf CX P w K mg base N qual scope f cdv A outer s H E) [] (start N vs) H s1:=JHq S hr.hd e0 hl r x
 refine wpAny_mono (ht [] s1 (start N vs) H _ I hq) (fun fl s' hs=>?_) fun e s' hs=>hs
 have fin:∀ {σ':St} {H':Hp} {v:V} {u:Value},Inv (cxOf CX P w K mg base N qual scope f cdv A outer s H E) [] σ' H' s'->RelV v u->Q v H'->CE outer P w H s Q u s' :=
  fun {σ' H' v u} J rv q=>⟨v,H',J.os,J.bare,J.base,J.hok,rv,q⟩
 cases fl with
 | ret u =>
  obtain ⟨v,σ',H',J,rv,q⟩:=hs
  exact fin J rv q
 | next =>
  obtain ⟨σ',H',J,q⟩:=hs
  exact fin (v:=V.non) (u:=Value.none) J rfl q
 | brk =>
  obtain ⟨_,_,_,q⟩:=hs
  exact False.elim q
 | cont =>
  obtain ⟨_,_,_,q⟩:=hs
  exact False.elim q
end L2
namespace L2
open PySem PySem.Spec PyProof.Rows
section
variable {X:Cx} {x:Str} {p pos:Pos} {e:Expr} {es:List Expr} {t:TA} {id T:String} {r:List V->Hp->VK->Prop}
noncomputable def tCB (r:List V->Hp->VK->Prop) (t:TA):TE:=fun σ H Q=>t σ H fun vs H1=>r vs H1 Q
theorem JCY (hc:CallR X (.builtin id) r) (hg:Gl X x) (hm:X.mg x=none) (hv:bootBuiltins x=some (.builtin id)) (ha:PA X (e::es) t) (hn:x≠"__name__":=by decide) (hdb:(x==("__debug__":Str))=false:=by decide)
  (he:starEach (e::es) X.env=(false,eval e X.env)::starEach es X.env:=by rfl) (hpl:(backTo pos (starEach es X.env)).any (·.1)=false:=by rfl):PE X (.Call (.Name x p) (e::es) [] pos) (tCB r t):=by
 intro pins s σ H Q I h
 refine wpAny_Call_Name_kw (JEy I hg hm hv ?_ hn hdb)
 exact PyProof.Rows.callWith_builtin1 (thn (ha pos pins s σ H _ I h) fun us s1 ⟨vs,H1,I1,r1,q1⟩=>hc pins s1 σ H1 vs us Q I1 r1 q1) he hpl
theorem JB9 (hc:CallR X (.type T) r) (hg:Gl X x) (hm:X.mg x=none) (hv:bootBuiltins x=some (.type T)) (ha:PA X (e::es) t) (hn:x≠"__name__":=by decide) (hdb:(x==("__debug__":Str))=false:=by decide)
  (he:starEach (e::es) X.env=(false,eval e X.env)::starEach es X.env:=by rfl) (hpl:(backTo pos (starEach es X.env)).any (·.1)=false:=by rfl):PE X (.Call (.Name x p) (e::es) [] pos) (tCB r t):=by
 intro pins s σ H Q I h
 refine wpAny_Call_Name_kw (JEy I hg hm hv ?_ hn hdb)
 exact PyProof.Rows.callWith_type1 (thn (ha pos pins s σ H _ I h) fun us s1 ⟨vs,H1,I1,r1,q1⟩=>hc pins s1 σ H1 vs us Q I1 r1 q1) he hpl
end
end L2
namespace HT
open PySem PyProof.Rows
noncomputable def lexLt:List Int->List Int->Bool
 | [],[]=>false
 | [],_::_=>true
 | _::_,[]=>false
 | x::xs,y::ys=>if x=y then lexLt xs ys else decide (x<y)
theorem lexLt_cons (x y:Int) (xs ys:List Int):lexLt (x::xs) (y::ys)=if x=y then lexLt xs ys else decide (x<y):=rfl
theorem JDa:lexLt [] []=false:=rfl
theorem JDF (y:Int) (ys:List Int):lexLt [] (y::ys)=true:=rfl
theorem JDE (x:Int) (xs:List Int):lexLt (x::xs) []=false:=rfl
theorem JJP (A:Around) (s:Shared) (a:Int) (t:Tok) (c:Int) (u:Tok):∃e,SeqAt.EqAt A s (.int a t) (.int c u) e/\(e=true↔a=c) :=
 ⟨(a==c),SeqAt.EqAt.int_int a t c u,by simp⟩
theorem JJx (A:Around) (s:Shared) (a:Int) (t:Tok) (c:Int) (u:Tok) (prog:Program) (w:World) (E:Value->Shared->Prop) (Q:Value->Shared->Prop) (h:Q (.bool (decide (a<c))) s) :
   wpAny (model prog w) A (richCompare .Lt (.int a t) (.int c u)) Q E s :=
 (PyProof.Rows.lt_int h:wpAny (model prog w) A (compareOp .Lt (.int a t) (.int c u)) Q E s)
section
open PySem.SeqAt
open PySem.AutoSeq1 (wpAny_loadPart')
open PySem.MeetsSeq PySem.MeetsSeq2 PySem.MeetsSeq3
theorem JDu (l b:Addr) (items items2:Array Value) (n n2:Nat) (dd dd2:Option Addr) (sl sl2:Array (Option Value)) (ns ms:List Int) (hi:IntsAre items.toList ns) (hj:IntsAre items2.toList ms) :
  Meets (Builtin.«tuple.__lt__» ⟨[.ref l,.ref b],[]⟩)
   (fun _ R s=>s.heap.get? l=some { cls:=.type "tuple",dict:=dd,data:=.seq items n,slots:=sl }/\s.heap.get? b=some { cls:=.type "tuple",dict:=dd2,data:=.seq items2 n2,slots:=sl2 } /\
     R (.ok (.ret (.bool (lexLt ns ms)))) s) :=
 .of_wp fun prog w A R s h=>by
  obtain ⟨hp,g,d,tk,os⟩:=s;obtain ⟨hl,hb,h⟩:=h
  have f2:=AutoSeq1.sub_tuple_tuple
  have z1:items.size=ns.length:=by rw [<-hi.length];simp
  have z2:items2.size=ms.length:=by rw [<-hj.length];simp
  wp_walk using wpAny_loadPart' hl,wpAny_loadPart' hb,wpAny_forIn_list _ (fun rest b s'=>b.1=none/\s'=⟨hp,g,d,tk,os⟩/\∃(vs ws:List Value) (ns' ms':List Int),rest=vs.zip ws /\
   IntsAre vs ns'/\IntsAre ws ms'/\ns'.length+items2.size=ms'.length+items.size/\R (.ok (.ret (.bool (lexLt ns' ms')))) ⟨hp,g,d,tk,os⟩) _
  case turn =>
   rintro ⟨y,x⟩ rest b s' ⟨hb',rfl,vs,ws,ns',ms',hz,hvi,hwi,hlen,hR⟩
   cases hvi with
   | nil=>rw [List.zip_nil_left] at hz;cases hz
   | cons a t hvi' =>
     cases hwi with
     | nil=>rw [List.zip_nil_right] at hz;cases hz
     | cons c u hwi' =>
      rw [List.zip_cons_cons] at hz
      injection hz with hyx hrest
      injection hyx with hy hx
      subst hy hx
      rw [lexLt_cons] at hR
      simp only [List.length_cons] at hlen
      obtain ⟨e,he,hiff⟩:=JJP A.in1 ⟨hp,g,d,tk,os⟩ a t c u
      refine q_b (he prog w _ _ ?_)
      cases e with
      | true =>
       rw [if_pos (hiff.mp rfl)] at hR
       wp_walk
       exact ⟨rfl,rfl,_,_,_,_,hrest,hvi',hwi',by omega,hR⟩
      | false =>
       rw [if_neg (fun q=>absurd (hiff.mpr q) Bool.false_ne_true)] at hR
       have hri:=JJx A.in1 ⟨hp,g,d,tk,os⟩ a t c u prog w
       wp_walk using hri
       exact ⟨_,rfl,by simpa using hR⟩
  case fin =>
   rintro ⟨b1,b2⟩ s' ⟨hb',rfl,vs,ws,ns',ms',hz,hvi,hwi,hlen,hR⟩
   simp only at hb'
   subst hb'
   have hv:lexLt ns' ms'=decide (items.size<items2.size):=by
     cases hvi with
     | nil =>
      cases hwi with
      | nil =>
       simp only [List.length_nil] at hlen
       rw [JDa]
       exact (q_o (by omega)).symm
      | cons c u hw =>
       simp only [List.length_nil,List.length_cons] at hlen
       rw [JDF]
       exact (decide_eq_true (by omega)).symm
     | cons a t hv =>
      cases hwi with
      | nil =>
       simp only [List.length_nil,List.length_cons] at hlen
       rw [JDE]
       exact (q_o (by omega)).symm
      | cons c u hw =>
       rw [List.zip_cons_cons] at hz
       cases hz
   rw [hv] at hR
   wp_walk
   exact ⟨_,rfl,by simpa [Builtin.Tuple.tupleCompareSizes] using hR⟩
  case h =>
   exact ⟨rfl,rfl,items.toList,items2.toList,ns,ms,rfl,hi,hj,by omega,h⟩
end
section
variable {prog:Program} {w:World} {A:Around} {E:Value->Shared->Prop} {s:Shared}
theorem lt_tupInts {l b:Addr} {items items2:Array Value} {ns ms:List Int} {Q:Value->Shared->Prop} (hl:IsTup s.heap l items) (hb:IsTup s.heap b items2) (hi:IntsAre items.toList ns) (hj:IntsAre items2.toList ms)
  (hu:A.units<cLine) (h:Q (.bool (lexLt ns ms)) s):wpAny (model prog w) A (compareOp .Lt (.ref l) (.ref b)) Q E s:=by
 obtain ⟨⟨cls,dd,data,sl⟩,ho,hc,n,hd⟩:=id hl
 obtain ⟨⟨cls2,dd2,data2,sl2⟩,ho2,hc2,n2,hd2⟩:=id hb
 simp only at hc hd hc2 hd2
 subst hc hd hc2 hd2
 exact richCompare_meets_room (op:=.Lt) ⟨_,ho,rfl⟩ ⟨_,ho2,rfl⟩ PySem.F.slot_tuple_lt PySem.F.entry_tuple_lt (PySem.F.args_tuple_lt_2 _ _) (JDu l b items items2 n n2 dd dd2 sl sl2 ns ms hi hj)
  ⟨ho,ho2,show Value.bool (lexLt ns ms)≠Value.notImplemented/\Q (.bool (lexLt ns ms)) s from ⟨(fun x=>nomatch x),h⟩⟩ hu
theorem cat_tup {t b:Addr} {vs ws:List Value} {Q:Value->Shared->Prop} (ht:IsTup s.heap t vs.toArray) (hb:IsTup s.heap b ws.toArray) (hv:vs≠[])
  (h1:ws=[]->Q (.ref t) s) (h2:ws≠[]->Q (.ref s.heap.objs.size) { s with heap:=s.heap.push { cls:=.type "tuple",data:=.seq (vs++ws).toArray } })
  (hsz:vs.length+ws.length<=sizeLine):wpAny (model prog w) A (binaryOp .Add (.ref t) (.ref b)) Q E s:=by
 obtain ⟨⟨cls,dd,data,sl⟩,ho,hc,n,hd⟩:=id ht
 obtain ⟨⟨cls2,dd2,data2,sl2⟩,ho2,hc2,n2,hd2⟩:=id hb
 simp only at hc hd hc2 hd2
 subst hc hd hc2 hd2
 have e:vs.toArray++ws.toArray=(vs++ws).toArray:=by simp
 by_cases hw:ws=[]
 ·exact concat_meets ⟨_,ho,rfl⟩ ⟨_,ho2,rfl⟩ noFill_tuple_add seq_tuple_add PySem.F.slot_tuple_add PySem.F.entry_tuple_add (PySem.F.args_tuple_add_2 _ _)
    (tuple_addW1 t b vs.toArray ws.toArray n n2 dd dd2 sl sl2 (by simpa using hv) (by simp [hw])) ⟨ho,ho2,h1 hw⟩
 ·refine concat_meets ⟨_,ho,rfl⟩ ⟨_,ho2,rfl⟩ noFill_tuple_add seq_tuple_add PySem.F.slot_tuple_add PySem.F.entry_tuple_add (PySem.F.args_tuple_add_2 _ _)
    (tuple_addW2 t b vs.toArray ws.toArray n n2 dd dd2 sl sl2 (by simpa using hv) (by simpa using hw) (by rw [q_f,q_f];exact hsz)) ⟨ho,ho2,?_⟩
  rw [e]
  exact h2 hw
noncomputable def sIx (n d:Nat):Option Int->Nat
 | none=>d
 | some v=>if v<0 then (v+(n:Int)).toNat else min v.toNat n
theorem JQQ (n d:Nat) (hd:d<=n) (o:Option Int):sIx n d o<=n:=by
 cases o with
 | none=>exact hd
 | some v =>
  show (if v<0 then (v+(n:Int)).toNat else min v.toNat n)<=n
  by_cases hv:v<0
  ·rw [if_pos hv];omega
  ·rw [if_neg hv];exact Nat.min_le_right _ _
theorem JHe (v:Int) (n d:Nat):(if v<0 then max (v+(n:Int)) 0 else min v (n:Int))=((sIx n d (some v):Nat):Int):=by
 show (if v<0 then max (v+(n:Int)) 0 else min v (n:Int))=(((if v<0 then (v+(n:Int)).toNat else min v.toNat n):Nat):Int)
 by_cases hv:v<0
 ·simp only [if_pos hv];omega
 ·simp only [if_neg hv];omega
theorem JGw (lo hi:Option Int) (n:Nat):Builtin.Slice.sliceAdjust lo hi 1 (n:Int)=(((sIx n 0 lo:Nat):Int),((sIx n n hi:Nat):Int)):=by
 have h1:¬((1:Int)<0):=by omega
 unfold Builtin.Slice.sliceAdjust
 simp only [h1,if_false]
 refine Prod.ext ?_ ?_
 ·cases lo with
  | none=>rfl
  | some v=>exact JHe v n 0
 ·cases hi with
  | none=>rfl
  | some v=>exact JHe v n n
theorem JGi (i j:Nat):Builtin.Slice.slicePlaces (i:Int) (j:Int) 1=j - i:=by
 unfold Builtin.Slice.slicePlaces
 have h1:(1:Int) > 0:=by omega
 simp only [h1,if_true,Int.ediv_one]
 split<;>omega
theorem JDR {v:Value} {o:Option Int} {Q:Option Int->Shared->Prop} (p:IsPart v o) (h:Q o s):wpAny (model prog w) A (Builtin.Slice.slicePartIndex v) Q E s:=by
 cases p with
 | none=>exact slicePart_none h
 | int i t=>exact slicePart_int h
theorem sliceApplied_gen {sl:Addr} {vl vu:Value} {lo hi:Option Int} {n:Nat} {Q:Int×Int×Nat->Shared->Prop} (hs:s.heap.IsSliceOf sl vl vu .none) (pl:IsPart vl lo) (pu:IsPart vu hi)
  (h:Q (((sIx n 0 lo:Nat):Int),1,sIx n n hi - sIx n 0 lo) s):wpAny (model prog w) A (Builtin.Slice.sliceApplied (.ref sl) (pure (n:Int))) Q E s:=by
 obtain ⟨os,hos,hcs,hds⟩:=id hs
 unfold Builtin.Slice.sliceApplied Builtin.Slice.sliceFields
 refine q_b (q_b (wpAny_field hos hds (x:=vl) rfl (q_b (wpAny_field hos hds (x:=vu) rfl (q_b (wpAny_field hos hds (x:=.none) rfl (q_e ?_)))))))
 refine q_b (slicePart_none ?_)
 show wpAny _ _ (if ((1:Int)==0)=true then _ else _) _ _ s
 rw [if_neg (by decide)]
 refine q_b (JDR pl (q_b (JDR pu (q_b (q_e ?_)))))
 show wpAny _ _ (match Builtin.Slice.sliceAdjust lo hi 1 (n:Int) with | (lo,hi)=>pure (lo,(1:Int),Builtin.Slice.slicePlaces lo hi 1)) _ _ s
 rw [JGw lo hi n]
 show wpAny _ _ (pure (((sIx n 0 lo:Nat):Int),(1:Int),Builtin.Slice.slicePlaces ((sIx n 0 lo:Nat):Int) ((sIx n n hi:Nat):Int) 1)) _ _ s
 rw [JGi]
 exact q_e h
theorem JJz (xs:Array Value) (i k:Nat):((List.range k).filterMap fun (m:Nat)=>xs[((i:Int)+(m:Int)*1).toNat]?).toArray=((xs.toList.drop i).take k).toArray:=by
 have e:(fun (m:Nat)=>xs[((i:Int)+(m:Int)*1).toNat]?)=fun m=>xs[i+m]?:=by
  funext m
  have:((i:Int)+(m:Int)*1).toNat=i+m:=by omega
  rw [this]
 rw [e]
 have:=pick_run xs i k
 rw [List.filterMap_map] at this
 have e2:((fun x=>xs[x]?) ∘ fun x=>i+x)=fun m=>xs[i+m]?:=rfl
 rw [e2] at this
 rw [this]
theorem getItem_tuple_cut {t sl:Addr} {items:Array Value} {vl vu:Value} {lo hi:Option Int} {Q:Value->Shared->Prop} (ht:IsTup s.heap t items) (hs:s.heap.IsSliceOf sl vl vu .none) (pl:IsPart vl lo) (pu:IsPart vu hi)
  (hw:¬(sIx items.size 0 lo=0/\sIx items.size items.size hi=items.size))
  (h:Q (.ref s.heap.objs.size) { s with heap:=s.heap.push { cls:=.type "tuple",data:=.seq ((items.toList.drop (sIx items.size 0 lo)).take (sIx items.size items.size hi - sIx items.size 0 lo)).toArray } })
  (hsz:items.size<=sizeLine):wpAny (model prog w) A (getItem (.ref t) (.ref sl)) Q E s:=by
 have htake:sizeOk (.seq ((items.toList.drop (sIx items.size 0 lo)).take (sIx items.size items.size hi - sIx items.size 0 lo)).toArray):=by
  show ((items.toList.drop (sIx items.size 0 lo)).take (sIx items.size items.size hi - sIx items.size 0 lo)).toArray.size<=sizeLine
  rw [q_f,List.length_take,List.length_drop,q_E]
  omega
 have hj:sIx items.size items.size hi<=items.size:=JQQ _ _ (q_t _) hi
 obtain ⟨os,hos,hcs,hds⟩:=id hs
 have hTs:s.TypeIs (.ref sl) "slice":=⟨os,hos,hcs⟩
 unfold getItem
 try with_reducible refine wpAny_holding ?_
 first | refine q_b (q_e ?_) | skip
 refine q_b (wpAny_sequenceKey ht.typeIs (by decide) ?_)
 refine q_b (wpAny_callSpecial?_slot (name:=Str.ofString "__getitem__") ht.typeIs PyProof.Rows.slot_tuple_getitem
  (wpAny_call_entry PyProof.Rows.slot_tuple_getitem ht.typeIs entry_tuple_getitem ?_ (args_tuple_getitem _ _)))
 show wpAny _ _ (Builtin.Tuple.tupleItemsOf (.ref t) >>= _) _ _ s
 refine q_b (tupleItemsOf_ ht ?_)
 refine q_b (wpAny_typeOf hTs ?_)
 rw [if_pos (by decide)]
 refine q_b (sliceApplied_gen hs pl pu ?_)
 have hno:¬((((sIx items.size 0 lo:Nat):Int)==0&&(1:Int)==1&&(sIx items.size items.size hi - sIx items.size 0 lo)==items.size)=true):=by
  intro q
  rw [q_i,q_i] at q
  have q1:((sIx items.size 0 lo:Nat):Int)=0:=eq_of_beq q.1.1
  have q2:sIx items.size items.size hi - sIx items.size 0 lo=items.size:=eq_of_beq q.2
  exact hw ⟨by omega,by omega⟩
 show wpAny _ _ (if (((sIx items.size 0 lo:Nat):Int)==0&&(1:Int)==1&&(sIx items.size items.size hi - sIx items.size 0 lo)==items.size)=true then _ else _) _ _ s
 rw [if_neg hno,JJz]
 first
  | exact q_b (m:=Builtin.Tuple.tupleExact _) (wpAny_newObj_type (q_e ⟨_,rfl,q_e h⟩) htake)
  | exact q_b (m:=Builtin.Tuple.tupleExact _) (wpAny_newObj_type (q_b (q_e (q_e ⟨_,rfl,q_e h⟩))) htake)
  | exact q_b (q_b (m:=Builtin.Tuple.tupleExact _) (wpAny_newObj_type (q_e (q_e ⟨_,rfl,q_e h⟩)) htake))
  | exact q_b (q_b (m:=Builtin.Tuple.tupleExact _) (wpAny_newObj_type (q_e ⟨_,rfl,q_e h⟩) htake))
end
end HT
namespace L2
open PySem PySem.Spec PyProof.Rows
noncomputable abbrev TO:=St->Hp->(Option Int->Hp->Prop)->Prop
noncomputable def PO (X:Cx) (e:Option Expr) (t:TO):Prop :=
 ∀(pins:List (Addr×Obj)) (s:Shared) (σ:St) (H:Hp) (Q:Option Int->Hp->Prop),Inv X pins σ H s->t σ H Q ->
  wpAny (model X.prog X.w) X.A (evalPart e X.env) (fun u s'=>∃o H',Inv X pins σ H' s'/\IsPart u o/\Q o H') X.xe s
noncomputable def JMy:TO:=fun _ H Q=>Q none H
noncomputable def tPart (t:TE):TO:=fun σ H Q=>t σ H fun x H1=>∃i,x=.int i/\Q (some i) H1
section
variable {X:Cx} {e:Expr} {te:TE} {lo hi:Option Expr} {tl th:TO} {pos p2:Pos}
theorem JL0:PO X none JMy:=by
 intro pins s σ H Q I h
 rw [evalPart_none]
 exact q_e ⟨none,H,I,.none,h⟩
theorem JHD (h:PE X e te):PO X (some e) (tPart te):=by
 intro pins s σ H Q I hw
 rw [evalPart_some]
 refine thn (h pins s σ H _ I hw) fun u s1 ⟨x,H1,I1,r1,q1⟩=>?_
 obtain ⟨i,rfl,q⟩:=q1
 obtain ⟨t,rfl⟩:=r1
 exact ⟨some i,H1,I1,.int i t,q⟩
noncomputable def SlR (X:Cx) (r:V->Option Int->Option Int->Hp->VK->Prop):Prop :=
 ∀(pins:List (Addr×Obj)) (s:Shared) (σ:St) (H:Hp) (x:V) (v vl vu:Value) (lo hi:Option Int) (sl:Addr) (Q:VK),Inv X pins σ H s->RelV x v->s.heap.IsSliceOf sl vl vu .none->IsPart vl lo->IsPart vu hi->r x lo hi H Q ->
  ∃T id,typeLookup (.type T) "__getitem__"=pure (some (.builtin id))/\s.TypeIs v T/\wpAny (model X.prog X.w) X.A (getItem v (.ref sl)) (EP X pins σ Q) X.xe s
theorem SlR.or {r r':V->Option Int->Option Int->Hp->VK->Prop} (h:SlR X r) (h':SlR X r'):SlR X (fun x lo hi H Q=>r x lo hi H Q\/r' x lo hi H Q):=by
 intro pins s σ H x v vl vu lo hi sl Q I rx hs pl pu q
 rcases q with q | q
 ·exact h pins s σ H x v vl vu lo hi sl Q I rx hs pl pu q
 ·exact h' pins s σ H x v vl vu lo hi sl Q I rx hs pl pu q
noncomputable def tSl (r:V->Option Int->Option Int->Hp->VK->Prop) (te:TE) (tl th:TO):TE:=fun σ H Q=>te σ H fun x H1=>tl σ H1 fun l H2=>th σ H2 fun u H3=>r x l u H3 Q
theorem JKC {r:V->Option Int->Option Int->Hp->VK->Prop} (hr:SlR X r) (he:PE X e te) (hl:PO X lo tl) (hu:PO X hi th):PE X (.Subscript e (.Slice lo hi none p2) pos) (tSl r te tl th):=by
 intro pins s σ H Q I h
 refine Subscript_ (thn (he pins s σ H _ I h) fun v s1 ⟨x,H1,I1,r1,q1⟩=>?_)
 refine wpAny_Slice (thn (hl pins s1 σ H1 _ I1 q1) fun vl s2 ⟨l,H2,I2,pl,q2⟩=>thn (hu pins s2 σ H2 _ I2 q2) fun vu s3 ⟨u,H3,I3,pu,q3⟩=>?_)
 rw [evalPart_none]
 refine q_e ?_
 have I4:Inv X pins σ H3 { s3 with heap:=s3.heap.push { cls:=.type "slice",data:=.fields #[vl,vu,.none] } }:=I3.kept (t':=s3.toks) fun b ob q=>q_c _ q
 obtain ⟨T,id,hT,ht,hg⟩:=hr pins { s3 with heap:=s3.heap.push { cls:=.type "slice",data:=.fields #[vl,vu,.none] } } σ H3 x v vl vu l u s3.heap.objs.size Q I4 r1 (Heap.IsSliceOf.new ..) pl pu q3
 show wpAny (model X.prog X.w) X.A (subscriptTail e (.Slice lo hi none p2) v (.ref s3.heap.objs.size)) (EP X pins σ Q) X.xe { s3 with heap:=s3.heap.push { cls:=.type "slice",data:=.fields #[vl,vu,.none] } }
 exact tail_any (ops:=[.ref s3.heap.objs.size,v]) ht hT hg (by with_unfolding_all rfl)
noncomputable def cutV (xs:List V) (lo hi:Option Int):List V:=(xs.drop (HT.sIx xs.length 0 lo)).take (HT.sIx xs.length xs.length hi - HT.sIx xs.length 0 lo)
theorem JCz (xs:List V) (lo hi:Option Int):(cutV xs lo hi).length<=xs.length:=by
 unfold cutV
 rw [List.length_take,List.length_drop]
 omega
noncomputable def rSlT (K:PySem.W.Frag):V->Option Int->Option Int->Hp->VK->Prop:=fun x lo hi H Q=>∃a xs,x=.ref a/\SqT K H a xs /\
 ¬(HT.sIx xs.length 0 lo=0/\HT.sIx xs.length xs.length hi=xs.length)/\∀p,H p=none->Q (.ref p) (upd H p (.tup (cutV xs lo hi)))
theorem JP1:SlR X (rSlT X.K):=by
 intro pins s σ H x v vl vu lo hi sl Q I rx hs pl pu h
 obtain ⟨a,xs,rfl,hx,hw,q⟩:=h
 cases rx
 obtain ⟨its,r,ht,hz⟩:=I.tuple hx
 have hlen:its.toArray.size=xs.length:=by rw [q_f];exact r.length.symm
 refine ⟨"tuple",_,PyProof.Rows.slot_tuple_getitem.lookup,ht.typeIs,?_⟩
 refine HT.getItem_tuple_cut ht hs pl pu (by rw [hlen];exact hw) ?_ (by rw [hlen];exact hz)
 rw [hlen]
 refine ⟨.ref s.heap.objs.size,_,I.laid (t':=s.toks) (o:=.tup (cutV xs lo hi)) (fun b ob q=>q_c _ q) (q_t _) ?_,rfl,q _ (I.hok.fresh (q_t _))⟩
 exact ⟨Nat.le_trans (JCz xs lo hi) hz,_,(r.drop (HT.sIx xs.length 0 lo)).take (HT.sIx xs.length xs.length hi - HT.sIx xs.length 0 lo),IsTup.new _ _⟩
noncomputable def rCatT (K:PySem.W.Frag):R2:=fun x y H Q=>∃a b xs ys,x=.ref a/\y=.ref b/\SqT K H a xs/\SqT K H b ys/\xs≠[]/\xs.length+ys.length<=sizeLine /\
 (ys=[]->Q (.ref a) H)/\(ys≠[]->∀p,H p=none->Q (.ref p) (upd H p (.tup (xs++ys))))
theorem Vals.nil_iff {xs:List V} {us:List Value} (r:Vals xs us):us=[]↔xs=[]:=by
 cases r with
 | nil=>simp
 | cons _ _=>simp
theorem JMc:OpR X (binaryOp .Add) (rCatT X.K):=by
 intro pins s σ H x y v u Q I rx ry h
 obtain ⟨a,b,xs,ys,rfl,rfl,ha,hb,hx,hz,q1,q2⟩:=h
 cases rx
 cases ry
 obtain ⟨its,r1,p1,_⟩:=I.tuple ha
 obtain ⟨its2,r2,p2,_⟩:=I.tuple hb
 refine HT.cat_tup p1 p2 (fun z=>hx (r1.nil_iff.mp z)) (fun z=>⟨.ref a,H,I,rfl,q1 (r2.nil_iff.mp z)⟩) (fun z=>?_) (by rw [<-r1.length,<-r2.length];exact hz)
 refine ⟨.ref s.heap.objs.size,_,I.laid (t':=s.toks) (o:=.tup (xs++ys)) (fun b ob q=>q_c _ q) (q_t _) ?_,rfl,q2 (fun w=>z (r2.nil_iff.mpr w)) _ (I.hok.fresh (q_t _))⟩
 exact ⟨by rw [q_u];exact hz,_,r1.append r2,IsTup.new _ _⟩
end
end L2
namespace L2
open PySem PySem.Spec PyProof.Rows
noncomputable def ixN (n:Nat) (i:Int):Option Nat:=if 0<=i then (if i<n then some i.toNat else none) else if -(n:Int)<=i then some (i+n).toNat else none
noncomputable def atI {α:Type} (xs:List α) (i:Int):Option α:=(ixN xs.length i).bind fun j=>xs[j]?
theorem JM8 {n:Nat} {i:Int} {j:Nat} (h:ixN n i=some j):seqIndex? i n=some j/\j<n/\-(n:Int)<=i/\i<n:=by
 unfold ixN at h
 by_cases h0:0<=i
 ·rw [if_pos h0] at h
  by_cases h1:i<n
  ·rw [if_pos h1] at h
   have e:i.toNat=j:=Option.some.inj h
   exact ⟨by rw [seqIndex_of h0 h1,e],by omega,by omega,h1⟩
  ·rw [if_neg h1] at h;cases h
 ·rw [if_neg h0] at h
  by_cases h1:-(n:Int)<=i
  ·rw [if_pos h1] at h
   have e:(i+n).toNat=j:=Option.some.inj h
   exact ⟨by rw [seqIndex_neg (by omega) h1,e],by omega,h1,by omega⟩
  ·rw [if_neg h1] at h;cases h
theorem JFc {α:Type} {xs:List α} {i:Int} {v:α} (h:atI xs i=some v):∃j,seqIndex? i xs.length=some j/\xs[j]? = some v/\j<xs.length/\-(xs.length:Int)<=i/\i<xs.length:=by
 unfold atI at h
 cases e:ixN xs.length i with
 | none=>rw [e] at h;cases h
 | some j =>
  rw [e] at h
  obtain ⟨h1,h2,h3,h4⟩:=JM8 e
  exact ⟨j,h1,h,h2,h3,h4⟩
noncomputable def JHu (b:Expr):Prop:=∀o i,subscripted b false o i=operate [o,i] (getItem o i)
noncomputable def IxR (X:Cx) (r:R2):Prop :=
 ∀(value slice:Expr) (pins:List (Addr×Obj)) (s:Shared) (σ:St) (H:Hp) (x y:V) (v u:Value) (Q:VK),Inv X pins σ H s->RelV x v->RelV y u->r x y H Q ->
  subscripted slice false v u=operate [v,u] (getItem v u)->wpAny (model X.prog X.w) X.A (subscriptTail value slice v u) (EP X pins σ Q) X.xe s
noncomputable def MtR (X:Cx) (id:String) (r:V->List V->Hp->VK->Prop):Prop :=
 ∀(pins:List (Addr×Obj)) (s:Shared) (σ:St) (H:Hp) (x:V) (xs:List V) (v:Value) (us:List Value) (Q:VK),Inv X pins σ H s->RelV x v->Vals xs us->r x xs H Q ->
  wpAny (model X.prog X.w) X.A (call (.builtin id) (v::us)) (EP X pins σ Q) X.xe s
section
variable {X:Cx} {a b:Expr} {ta tb:TE} {pos:Pos}
theorem IxR.or {r r':R2} (h:IxR X r) (h':IxR X r'):IxR X (fun x y H Q=>r x y H Q\/r' x y H Q):=by
 intro value slice pins s σ H x y v u Q I rx ry q hs
 rcases q with q | q
 ·exact h value slice pins s σ H x y v u Q I rx ry q hs
 ·exact h' value slice pins s σ H x y v u Q I rx ry q hs
theorem MtR.or {id:String} {r r':V->List V->Hp->VK->Prop} (h:MtR X id r) (h':MtR X id r'):MtR X id (fun x xs H Q=>r x xs H Q\/r' x xs H Q):=by
 intro pins s σ H x xs v us Q I rx rs q
 rcases q with q | q
 ·exact h pins s σ H x xs v us Q I rx rs q
 ·exact h' pins s σ H x xs v us Q I rx rs q
theorem pe_ix {r:R2} (hr:IxR X r) (ha:PE X a ta) (hb:PE X b tb) (hs:JHu b):PE X (.Subscript a b pos) (tOp r ta tb):=by
 intro pins s σ H Q I h
 exact Subscript_ (binT ha hb I h fun v u s2 x y H2 I2 rx ry q=>hr a b pins s2 σ H2 x y v u Q I2 rx ry q (hs _ _))
noncomputable def rIxL (K:PySem.W.Frag):R2:=fun x y H Q=>∃p xs i v,x=.ref p/\y=.int i/\SqL K H p xs/\atI xs i=some v/\Q v H
noncomputable def rIxT (K:PySem.W.Frag):R2:=fun x y H Q=>∃p xs i v,x=.ref p/\y=.int i/\SqT K H p xs/\atI xs i=some v/\Q v H
noncomputable def rIxS:R2:=fun x y H Q=>∃z i c,x=.str z/\y=.int i/\z.length<=sizeLine/\atI z.cps.toList i=some c/\Q (.str ⟨#[c]⟩) H
theorem ix_list:IxR X (rIxL X.K):=by
 intro value slice pins s σ H x y v u Q I rx ry h hs
 obtain ⟨p,xs,i,z,rfl,rfl,hq,he,q⟩:=h
 cases rx
 obtain ⟨t,rfl⟩:=ry
 obtain ⟨its,r,pl,hz⟩:=I.list hq
 obtain ⟨j,h1,h2,h3,h4,h5⟩:=JFc he
 obtain ⟨w,ew,rw'⟩:=r.get h2
 have hl:=r.length
 have hn:=JEm
 have fin:EP X pins σ Q w s:=⟨z,H,I,rw',q⟩
 by_cases h0:0<=i
 ·have hj:i.toNat=j:=by
   rw [seqIndex_of h0 h5] at h1
   exact Option.some.inj h1
  exact item_listR pl.isList h0 (by omega) (by rw [hj];simpa using ew) fin hs
 ·have hj:(i+(its.toArray.size:Int)).toNat=j:=by
   rw [seqIndex_neg (by omega) h4] at h1
   rw [q_f,<-hl]
   exact Option.some.inj h1
  exact subscriptTail_builtinR (x:=w) pl.isList.typeIs slot_list_getitem.lookup
   (wpAny_getItem_list_neg (Q:=fun r s'=>r=w/\EP X pins σ Q r s') pl.isList (by omega) (by rw [q_f]<;>omega) (by omega) (by rw [hj];simpa using ew) ⟨rfl,fin⟩) hs
theorem ix_tup:IxR X (rIxT X.K):=by
 intro value slice pins s σ H x y v u Q I rx ry h hs
 obtain ⟨p,xs,i,z,rfl,rfl,hq,he,q⟩:=h
 cases rx
 obtain ⟨t,rfl⟩:=ry
 obtain ⟨its,r,pl,hz⟩:=I.tuple hq
 obtain ⟨j,h1,h2,h3,h4,h5⟩:=JFc he
 obtain ⟨w,ew,rw'⟩:=r.get h2
 have hl:=r.length
 have hn:=JEm
 have fin:EP X pins σ Q w s:=⟨z,H,I,rw',q⟩
 exact subscriptTail_builtinR (x:=w) pl.typeIs slot_tuple_getitem.lookup
  (getItem_tuple (j:=j) (Q:=fun r s'=>r=w/\EP X pins σ Q r s') pl (by omega) (by omega) (by rw [q_f,<-hl];exact h1) (by simpa using ew) ⟨rfl,fin⟩) hs
theorem JOH:IxR X rIxS:=by
 intro value slice pins s σ H x y v u Q I rx ry h hs
 obtain ⟨z,i,c,rfl,rfl,hz,he,q⟩:=h
 obtain ⟨t,rfl⟩:=rx
 obtain ⟨t',rfl⟩:=ry
 obtain ⟨j,h1,h2,h3,h4,h5⟩:=JFc he
 have hl:z.cps.toList.length=z.length:=by simp [Str.length]
 rw [hl] at h1 h4 h5
 have hn:=JEm
 exact tail_any (typeIs_str s z t) slot_str_getitem.lookup (getItem_str (c:=c) (by
  have e1:decide (i < -(2 ^ 63:Int))=false:=q_o (by omega)
  have e2:decide (i ≥ 2 ^ 63)=false:=q_o (by omega)
  rw [e1,e2,Bool.or_false]) (by rw [h1];simpa using h2) ⟨.str ⟨#[c]⟩,H,I.tok _,⟨_,rfl⟩,q⟩) hs
noncomputable def rIx (K:PySem.W.Frag):R2:=fun x y H Q=>rIxL K x y H Q\/rIxT K x y H Q\/rIxS x y H Q
theorem ix_seq:IxR X (rIx X.K):=ix_list.or (ix_tup.or JOH)
theorem Inv.lst {pins:List (Addr×Obj)} {σ:St} {H:Hp} {s:Shared} {p:Addr} {xs:List V} (I:Inv X pins σ H s) (h:H p=some (.lst xs)) :
  ∃(its:List Value) (n:Nat),Vals xs its/\s.heap.get? p=some { cls:=.type "list",data:=.seq its.toArray n }/\xs.length<=sizeLine:=by
 obtain ⟨z,its,n,r,e⟩:=I.hok p _ h
 exact ⟨its,n,r,e,z⟩
theorem JEb (lo hi:Option Int) (n:Nat):(sliceBounds lo hi none n).1=((HT.sIx n 0 lo:Nat):Int)/\(sliceBounds lo hi none n).2.1=((HT.sIx n n hi:Nat):Int)/\(sliceBounds lo hi none n).2.2=1:=by
 refine ⟨?_,?_,rfl⟩
 ·cases lo with
  | none=>simp [sliceBounds,HT.sIx]
  | some i =>
   simp only [sliceBounds,HT.sIx,Option.getD_none,show (1:Int) > 0 by decide,if_true]
   by_cases h:i<0
   ·simp only [h,if_true]<;>omega
   ·simp only [h,if_false]<;>omega
 ·cases hi with
  | none=>simp [sliceBounds,HT.sIx]
  | some i =>
   simp only [sliceBounds,HT.sIx,Option.getD_none,show (1:Int) > 0 by decide,if_true]
   by_cases h:i<0
   ·simp only [h,if_true]<;>omega
   ·simp only [h,if_false]<;>omega
theorem JDp (its:List Value) (lo hi:Option Int):slicePick its.toArray lo hi none=((its.drop (HT.sIx its.length 0 lo)).take (HT.sIx its.length its.length hi - HT.sIx its.length 0 lo)).toArray:=by
 obtain ⟨h1,h2,h3⟩:=JEb lo hi its.toArray.size
 unfold slicePick
 rw [h1,h2,h3]
 simp only [sliceRange_one,pick_run,q_f]<;>rfl
noncomputable def rSlL (K:PySem.W.Frag):V->Option Int->Option Int->Hp->VK->Prop:=fun x lo hi H Q=>∃a xs,x=.ref a/\SqL K H a xs/\∀p,H p=none->Q (.ref p) (upd H p (.lst (cutV xs lo hi)))
theorem JL2:SlR X (rSlL X.K):=by
 intro pins s σ H x v vl vu lo hi sl Q I rx hs pl pu h
 obtain ⟨a,xs,rfl,hx,q⟩:=h
 cases rx
 obtain ⟨its,r,ht,hz⟩:=I.list hx
 have hlen:=r.length
 refine ⟨"list",_,slot_list_getitem.lookup,ht.isList.typeIs,?_⟩
 refine wpAny_getItem_list_slice ht.isList hs pl pu .none (by simp) ?_ (by rw [q_f]<;>omega)
 rw [JDp,<-hlen]
 refine ⟨.ref s.heap.objs.size,_,I.laid (t':=s.toks) (o:=.lst (cutV xs lo hi)) (fun b ob q=>q_c _ q) (q_t _) ?_,rfl,q _ (I.hok.fresh (q_t _))⟩
 exact ⟨Nat.le_trans (JCz xs lo hi) hz,_,0,(r.drop (HT.sIx xs.length 0 lo)).take (HT.sIx xs.length xs.length hi - HT.sIx xs.length 0 lo),q_k _ rfl⟩
theorem CallR.or {f:Value} {r r':List V->Hp->VK->Prop} (h:CallR X f r) (h':CallR X f r'):CallR X f (fun xs H Q=>r xs H Q\/r' xs H Q):=by
 intro pins s σ H xs us Q I rs q
 rcases q with q | q
 ·exact h pins s σ H xs us Q I rs q
 ·exact h' pins s σ H xs us Q I rs q
theorem JEH:CallR X (.type "list") (fun xs H Q=>∃p ys,xs=[.ref p]/\(SqL X.K H p ys\/SqT X.K H p ys)/\∀l,H l=none->Q (.ref l) (upd H l (.lst ys))):=by
 intro pins s σ H xs us Q I r h
 obtain ⟨p,ys,rfl,hq,q⟩:=h
 obtain ⟨u,rfl,rx⟩:=vals1 r
 cases rx
 have fin:∀(its:List Value),Vals ys its->ys.length<=sizeLine->∀(h':Heap) (c':Nat),(∀b o',s.heap.get? b=some o'->h'.get? b=some o') ->
   h'.get? s.heap.objs.size=some { cls:=.type "list",dict:=none,data:=.seq its.toArray c',slots:=#[] }->EP X pins σ Q (.ref s.heap.objs.size) { s with heap:=h' }:=fun its r' hz h' c' kp e =>
  ⟨.ref s.heap.objs.size,_,I.laid (t':=s.toks) kp (q_t _) (show ObjOk X.prog X.w _ h' _ (.lst ys) from ⟨hz,its,c',r',e⟩),rfl,q _ (I.hok.fresh (q_t _))⟩
 rcases hq with hq | hq
 ·obtain ⟨its,r',pl,hz⟩:=I.list hq
  have hlen:=r'.length
  obtain ⟨o,ho,hc,n,hd⟩:=pl.isList
  exact call_list_seq p (.inl rfl) ho hc hd (fun h' c' kp e=>fin its r' hz h' c' kp e) (by simp only [q_f]<;>omega)
 ·obtain ⟨its,r',pl,hz⟩:=I.tuple hq
  have hlen:=r'.length
  obtain ⟨o,ho,hc,n,hd⟩:=pl
  exact call_list_seq p (.inr rfl) ho hc hd (fun h' c' kp e=>fin its r' hz h' c' kp e) (by simp only [q_f]<;>omega)
theorem JDz:CallR X (.type "tuple") (fun xs H Q=>∃p ys,xs=[.ref p]/\((SqL X.K H p ys/\∀l,H l=none->Q (.ref l) (upd H l (.tup ys)))\/(SqT X.K H p ys/\Q (.ref p) H))):=by
 intro pins s σ H xs us Q I r h
 obtain ⟨p,ys,rfl,h⟩:=h
 obtain ⟨u,rfl,rx⟩:=vals1 r
 cases rx
 rcases h with ⟨hq,q⟩ | ⟨hq,q⟩
 ·obtain ⟨its,r',pl,hz⟩:=I.list hq
  have hlen:=r'.length
  refine call_tuple_list pl.isList (fun h' kp=>?_) (by simp only [q_f]<;>omega)
  have I1:Inv X pins σ H { s with heap:=h' }:=I.kept (t':=s.toks) kp
  have I2:Inv X pins σ (upd H h'.objs.size (.tup ys)) { s with heap:=h'.push { cls:=.type "tuple",data:=.seq its.toArray } } :=
   I1.laid (t':=s.toks) (fun b o e=>q_c _ e) (q_t _) (show ObjOk X.prog X.w _ _ _ (.tup ys) from ⟨hz,its,r',IsTup.new _ _⟩)
  exact ⟨.ref h'.objs.size,_,I2,rfl,q _ (I1.hok.fresh (q_t _))⟩
 ·obtain ⟨its,r',pl,hz⟩:=I.tuple hq
  exact call_tuple_same pl ⟨.ref p,H,I,rfl,q⟩
noncomputable def tyV (K:PySem.W.Frag) (T:String) (x:V) (H:Hp):Prop:=match x with
 | .str _=>T="str"
 | .int _=>T="int"
 | .ref p=>(T="list"/\∃xs,SqL K H p xs)\/(T="tuple"/\∃o,K.lookup p=some o/\o.cls=.type "tuple"/\o.dict=none) \/
  (T="dict"/\((∃kvs,H p=some (.dK kvs))\/∃kvs,H p=some (.dT kvs)))\/(T="set"/\∃S n,H p=some (.set S n))
 | _=>False
theorem JO8 {pins:List (Addr×Obj)} {σ:St} {H:Hp} {s:Shared} {T:String} {x:V} {v:Value} (I:Inv X pins σ H s) (r:RelV x v) (ty:tyV X.K T x H) :
  s.TypeIs v T/\∀a,v=.ref a->∃ob,s.heap.get? a=some ob/\ob.dict=none:=by
 cases x with
 | str z =>
  obtain ⟨t,rfl⟩:=r
  cases (show T="str" from ty)
  exact ⟨typeIs_str s z t,fun _ e=>nomatch e⟩
 | int i =>
  obtain ⟨t,rfl⟩:=r
  cases (show T="int" from ty)
  exact ⟨typeIs_int s i t,fun _ e=>nomatch e⟩
 | ref p =>
  cases r
  rcases ty with ⟨rfl,xs,hq⟩ | ⟨rfl,o,hk,hc,hd⟩ | ⟨rfl,hk⟩ | ⟨rfl,S,n,hk⟩
  ·obtain ⟨its,_,pl,_⟩:=I.list hq
   refine ⟨pl.isList.typeIs,fun a e=>?_⟩
   cases e
   obtain ⟨o,n,e,c,hd,_⟩:=pl
   exact ⟨o,e,hd⟩
  ·refine ⟨⟨o,I.kIn p o hk,hc⟩,fun a e=>?_⟩
   cases e
   exact ⟨o,I.kIn _ o hk,hd⟩
  ·have z:∃o,s.heap.get? p=some o/\o.ExactDict:=by
    rcases hk with ⟨kvs,hk⟩ | ⟨kvs,hk⟩
    ·obtain ⟨_,_,_,_,o,_,_,e,ex,_⟩:=I.hok p _ hk
     exact ⟨o,e,ex⟩
    ·obtain ⟨_,_,_,_,o,_,_,e,ex,_⟩:=I.hok p _ hk
     exact ⟨o,e,ex⟩
   obtain ⟨o,e,ex⟩:=z
   refine ⟨⟨o,e,ex.1⟩,fun a e2=>?_⟩
   cases e2
   exact ⟨o,e,ex.2.1⟩
  ·obtain ⟨o,_,_,_,e,ex,_⟩:=I.hok p _ hk
   refine ⟨⟨o,e,ex.1⟩,fun a e2=>?_⟩
   cases e2
   exact ⟨o,e,ex.2.1⟩
 | _=>exact False.elim ty
noncomputable def tBM (K:PySem.W.Frag) (T:String) (r:V->List V->Hp->VK->Prop) (to:TE) (t:TA):TE:=fun σ H Q=>to σ H fun x H1=>tyV K T x H1/\t σ H1 fun xs H2=>r x xs H2 Q
variable {o e:Expr} {es:List Expr} {to:TE} {t:TA} {name:Str} {apos cpos:Pos} {T id:String} {r:V->List V->Hp->VK->Prop}
theorem JIK (pa:PlainAttrs T) (slot:Slot T name id) (hty:typeOf (.builtin id)=pure (.type "method_descriptor")) (hm:MtR X id r) (ho:PE X o to) (ha:PA X (e::es) t)
  (hbase:attributeBase o name X.env (eval o X.env)=eval o X.env:=by rfl)
  (hfew:((backTo cpos (starEach (e::es) X.env)).all (fun x=>!x.1)&&(backToKw cpos (keywordEach [] X.env)).all (fun x=>x.1.isSome)
    && decide ((e::es).length+([]:List Keyword).length+(if ([]:List Keyword).isEmpty then 0 else 1)<30))=true:=by rfl)
  (hline:(apos.endLine==cpos.line)=true:=by rfl) (hs:starEach (e::es) X.env=(false,eval e X.env)::starEach es X.env:=by rfl) (hplain:(backTo cpos (starEach es X.env)).any (·.1)=false:=by rfl) :
  PE X (.Call (.Attribute o name apos) (e::es) [] cpos) (tBM X.K T r to t):=by
 intro pins s σ H Q I h
 refine wpAny_Call_method_late hbase hfew hline rfl (thn (ho pins s σ H _ I h) fun v s1 ⟨x,H1,I1,r1,ty,q1⟩=>?_)
 obtain ⟨h1,h2⟩:=JO8 I1 r1 ty
 refine ⟨T,id,pa,slot,hty,h1,h2,?_⟩
 have hA:=ha cpos pins s1 σ H1 _ I1 q1
 rw [hs] at hA ⊢
 refine Calls.callWith_builtin (by show (false || (backTo cpos (starEach es X.env)).any (·.1))=false;rw [hplain]<;>rfl) (Calls.evalArgs_plain ?_)
 exact thn hA fun us s2 ⟨vs,H2,I2,r2,q2⟩=>hm pins s2 σ H2 x vs v us Q I2 r1 r2 q2
end
end L2
namespace L2
open PySem PySem.Spec PyProof.Rows
noncomputable def MtM (X:Cx) (id:String) (r:V->List V->Hp->VK->Prop):Prop :=
 ∀(pins:List (Addr×Obj)) (s:Shared) (σ:St) (H:Hp) (x:V) (xs:List V) (v:Value) (us:List Value) (Q:VK),Inv X pins σ H s->RelV x v->Vals xs us->r x xs H Q ->
  wpAny (model X.prog X.w) X.A (call (.builtin id) (v::us)) (EP X pins σ Q) X.xe s
theorem Vals.one:∀ {x:V} {us:List Value},Vals [x] us->∃u,us=[u]/\RelV x u
 | _,_,.cons r .nil=>⟨_,rfl,r⟩
theorem Vals.two:∀ {x y:V} {us:List Value},Vals [x,y] us->∃u v,us=[u,v]/\RelV x u/\RelV y v
 | _,_,_,.cons r (.cons q .nil)=>⟨_,_,rfl,r,q⟩
theorem Vals.zero:∀ {us:List Value},Vals [] us->us=[]
 | _,.nil=>rfl
theorem Vals.dropLast {xs:List V} {us:List Value} (h:Vals xs us):Vals xs.dropLast us.dropLast:=by
 induction h with
 | nil=>exact .nil
 | cons r t ih =>
  cases t with
  | nil=>exact .nil
  | cons q t'=>exact .cons r ih
theorem Vals.eraseIdx:∀ {xs:List V} {us:List Value} (i:Nat),Vals xs us->Vals (xs.eraseIdx i) (us.eraseIdx i)
 | _,_,_,.nil=>.nil
 | _,_,0,.cons _ t=>t
 | _,_,i+1,.cons r t=>.cons r (Vals.eraseIdx i t)
theorem Vals.reverse {xs:List V} {us:List Value} (h:Vals xs us):Vals xs.reverse us.reverse:=by
 induction h with
 | nil=>exact .nil
 | cons r t ih=>rw [List.reverse_cons,List.reverse_cons];exact Vals.append ih (.cons r .nil)
theorem Vals.rep {xs:List V} {us:List Value} (h:Vals xs us):∀k:Nat,Vals (List.replicate k xs).flatten (List.replicate k us).flatten
 | 0=>.nil
 | k+1=>by
  rw [List.replicate_succ,List.replicate_succ,List.flatten_cons,List.flatten_cons]
  exact Vals.append h (Vals.rep h k)
section
variable {X:Cx} {pins:List (Addr×Obj)} {σ:St} {H:Hp} {s:Shared} {l b:Addr} {xs ys zs:List V}
theorem Inv.lset {its its':List Value} {n:Nat} {f:Array Value->Array Value} {t':Nat} (I:Inv X pins σ H s) (hH:H l=some (.lst xs))
  (e:s.heap.get? l=some { cls:=.type "list",data:=.seq its.toArray n }) (hf:f its.toArray=its'.toArray) (hv:Vals ys its') (hz:ys.length<=sizeLine) :
  Inv X pins σ (upd H l (.lst ys)) { s with heap:=s.heap.update l (Obj.mapSeq f),toks:=t' }:=by
 have q:=PySem.IsL.update e f
 rw [hf] at q
 refine I.write (x:=l) (e:=l) (by rw [hH];exact trivial) (.inl rfl) (fun b' u hb hu=>(Heap.get?_update_other s.heap (Obj.mapSeq f) (Ne.symm hb)).trans hu) ⟨_,q⟩ ?_
 exact ⟨hz,its',_,hv,q⟩
theorem Inv.lnew {its:List Value} {t':Nat} (I:Inv X pins σ H s) (hv:Vals ys its) (hz:ys.length<=sizeLine) :
  Inv X pins σ (upd H s.heap.objs.size (.lst ys)) { s with heap:=s.heap.push { cls:=.type "list",data:=.seq its.toArray },toks:=t' } :=
 I.laid (fun _ _ q=>q_c _ q) (q_t _) ⟨hz,its,0,hv,q_k _ rfl⟩
theorem Inv.fresh (I:Inv X pins σ H s):H s.heap.objs.size=none:=I.hok.fresh (q_t _)
theorem Inv.lstM (I:Inv X pins σ H s) (hH:H l=some (.lst xs)):xs.length<=sizeLine/\∃(its:List Value) (n:Nat),Vals xs its/\xs.length=its.length/\s.heap.get? l=some { cls:=.type "list",data:=.seq its.toArray n }:=by
 obtain ⟨z,its,n,r,e⟩:=I.hok l _ hH
 exact ⟨z,its,n,r,r.length,e⟩
theorem JDc {n:Nat} (h:n<=sizeLine):Builtin.List.listTooLong n=false:=by
 unfold Builtin.List.listTooLong
 exact q_o (by omega)
end
section
variable {X:Cx}
noncomputable def JM0:V->List V->Hp->VK->Prop:=fun x vs H Q=>∃l xs y,x=.ref l/\vs=[y]/\H l=some (.lst xs)/\xs.length<sizeLine/\Q .non (upd H l (.lst (xs++[y])))
theorem JHV:MtM X "list.append" JM0:=by
 intro pins s σ H x vs v us Q I rx rv h
 obtain ⟨l,xs,y,rfl,rfl,hH,hz,q⟩:=h
 cases rx
 obtain ⟨u,rfl,ru⟩:=rv.one
 obtain ⟨z,its,n,r,hl,e⟩:=I.lstM hH
 refine call_meets F.slot_list_append ⟨_,e,rfl⟩ F.entry_list_append (F.args_list_append_2 _ _) (PySem.list_append l its.toArray n u (by rw [q_f];omega)) ⟨e,?_⟩
 refine ⟨.non,_,I.lset (its':=its++[u]) hH e (by simp) (r.append (.cons ru .nil)) ?_,rfl,q⟩
 rw [q_u,List.length_singleton]
 omega
noncomputable def JNY:V->List V->Hp->VK->Prop:=fun x vs H Q=>∃l b xs zs,x=.ref l/\vs=[.ref b]/\H l=some (.lst xs)/\H b=some (.lst zs)/\xs.length+zs.length<=sizeLine/\Q .non (upd H l (.lst (xs++zs)))
theorem JIp:MtM X "list.extend" JNY:=by
 intro pins s σ H x vs v us Q I rx rv h
 obtain ⟨l,b,xs,zs,rfl,rfl,hH,hB,hz,q⟩:=h
 cases rx
 obtain ⟨u,rfl,ru⟩:=rv.one
 cases ru
 obtain ⟨z,its,n,r,hl,e⟩:=I.lstM hH
 obtain ⟨z2,its2,n2,r2,hl2,e2⟩:=I.lstM hB
 have hsz:its.toArray.size+its2.toArray.size<=sizeLine:=by rw [q_f,q_f];omega
 have hlong:¬(!its.toArray.isEmpty&&Builtin.List.listTooLong (its.toArray.size+its2.toArray.size))=true:=by
  rw [JDc hsz,Bool.and_false]
  exact Bool.false_ne_true
 refine call_meets F.slot_list_extend ⟨_,e,rfl⟩ F.entry_list_extend (F.args_list_extend_2 _ _)
  (AutoSeq1.list_extend_list_list_0 l its.toArray n b its2.toArray n2 hlong (by rw [q_f];omega) (by omega)) ⟨e,e2,?_⟩
 refine ⟨.non,_,I.lset (its':=its++its2) hH e (by simp) (r.append r2) ?_,rfl,q⟩
 rw [q_u]
 omega
theorem len_rep {α:Type} (xs:List α) (k:Nat):(List.replicate k xs).flatten.length=k*xs.length:=by
 induction k with
 | zero=>simp
 | succ k ih=>rw [List.replicate_succ,List.flatten_cons,q_u,ih,Nat.succ_mul,Nat.add_comm]
end
section
variable {prog:Program} {w:World} {A:Around} {E:Value->Shared->Prop} {s:Shared}
set_option maxRecDepth 100000 in
end
section
variable {X:Cx}
end
end L2
namespace Att
open PySem PySem.W PySem.Calls PyProof.Rows
theorem JC9 {P:Params} {h:Heap}:∀(ns:List Int) (vs:List Value),WellAll P h vs (ns.map WData.int)->IntsAre vs ns:=by
 intro ns
 induction ns with
 | nil =>
  intro vs w
  rw [List.map_nil] at w
  cases w
  exact .nil
 | cons n ns ih =>
  intro vs w
  rw [List.map_cons] at w
  cases w with
  | cons a b =>
   cases a
   exact .cons _ _ (ih _ b)
theorem JIB {l:OpenLaw} {n:Nat} (hn:l.most=some n) {P:Params} {h:Heap} {args:List WData} {vals:List Value}
  (hpre:l.row.toRowW.claim.pre args=true) (hwl:WellAll P h vals args) :
  ∃a vs ns,vals=[Value.ref a]/\args=[WData.list (ns.map WData.int)]/\h.get? a=some { cls:=.type "list",data:=.seq vs.toArray }/\IntsAre vs ns/\ns.length<=n:=by
 have hsh:WShape.hasAll [] args [.list .int]=true:=(pre_splitW hpre).1
 have hc:l.pre.holds [] { args:=args }=true:=(pre_splitW hpre).2
 obtain ⟨d,r,rfl,h1,h2⟩:=hasAllW_cons hsh
 obtain rfl:=hasAllW_nil h2
 obtain ⟨xs,rfl,h3⟩:=hasW_list h1
 obtain ⟨ns,rfl⟩:=items_int h3
 have hlen:ns.length<=n:=by
  unfold OpenLaw.pre at hc
  have h4:(WTm.not (.lt (.lit (.int (n:Int))) (.len (.arg 0)))).holds [] { args:=[.list (ns.map .int)] }=true:=by
    have h4:=(holds_andW hc).1
    rw [hn] at h4
    exact h4
  have h5:=condW_of h4 (w_not (w_lt w_lit (w_len_list (w_arg rfl))))
  rw [q_g] at h5
  refine Nat.le_of_not_lt fun q=>?_
  have q':(n:Int)<((ns.length:Nat):Int):=by omega
  first
    |(rw [decide_eq_true q'] at h5;exact absurd h5 (by decide))
    |(simp at h5;omega)
 cases hwl with
 | cons w1 w2 =>
  cases w2
  cases w1 with
  | list ho hall=>exact ⟨_,_,ns,rfl,rfl,ho,JC9 ns _ hall,hlen⟩
theorem JIE (l:OpenLaw) (args:List WData):l.row.toRowW.claim.post args (.bool true) args=true :=
 postW_of (r:=l.row.toRowW) (X:=(true==true))
  (show WShape.has [] (.bool true) .bool=true by first | rfl | decide | simp [WShape.has,WShape.arms,WShape.armsAll])
  (show (WTm.eq .res (.lit (.bool true))).value [] { args:=args,res:=some (.bool true),after:=args }=some (.bool (true==true)) from w_eq_bool (w_res rfl) w_lit) rfl
theorem attach_call {l:OpenLaw} {n:Nat} {q:Program} {loose:List Str} {XP:(Str->Option Value)->Heap->Prop} {YP:World->Heap->Prop} {d:DefRec}
  (hn:l.most=some n) (hdf:d.params.defaults=[])
  (call:∀(w:World) (s₀ s₁:Shared) (mg mb:Str->Option Value) (fa:Addr) (o:Obj) (pm cd doc:Value) (a:Addr) (vs:List Value) (ns:List Int),
    Ground q loose [] XP w s₀ mg mb s₁.heap->YP w s₁.heap ->
    s₁.heap.get? fa=some o->o.data=.func (docDef d.name d.params d.body d.scope pm cd doc)->s₁.heap.CodeRec cd d.name->mg d.name=some (.ref fa) ->
    s₁.heap.get? a=some { cls:=.type "list",data:=.seq vs.toArray }->IntsAre vs ns->ns.length<=n->s₁.gens=#[] ->
    codeAny (model l.prog w) callerA (.call (.ref fa) ⟨[.ref a],[]⟩) (fun r s'=>r=.ok (.ret (.bool true))/\OldK s₁.heap s'.heap/\s'.os=s₁.os/\AllBare s'.gens) s₁) :
  WalkO q loose XP YP l.row.toRowW d [] (fun f vs=>PySem.call f vs):=by
 intro w s₀ s₁ mg mb G Y fa o pm cd doc dV kV ho hd hcd hD hmg hg args vals as hpre hlay hrd hwl hlo
 obtain rfl:dV=.none:=Dflts.none hD hdf
 obtain rfl:kV=.none:=Dflts.noKw hD
 obtain ⟨a,vs,ns,rfl,rfl,hobj,hints,hlen⟩:=JIB hn hpre hwl
 refine enter_call (codeAny_mono (call w s₀ s₁ mg mb fa o pm cd doc a vs ns G Y ho (fd_plain hd) hcd hmg hobj hints hlen hg) fun r s' hq=>?_)
 obtain ⟨rfl,h2,h3,h4⟩:=hq
 exact ⟨.inl ⟨.bool true,.bool true,[],rfl,fun _=>rfl,.bool true,JIE l _,fun _=>⟨List.Pairwise.nil,fun _ hm=>(nomatch hm)⟩⟩,h2,h3,h4⟩
section
variable {prog:Program} {w:World} {A:Around} {E:Value->Shared->Prop} {s:Shared} {K:Frag}
noncomputable def ledger (h:Heap) (L d:Addr):List (Addr×Obj):=(List.range h.objs.size).filterMap fun a=>if a=L\/a=d then none else (h.get? a).map fun o=>(a,o)
end
end Att
namespace L2
open PySem PySem.Spec PyProof.Rows
theorem JEj:∀ {vs:List Value} {ns:List Int},IntsAre vs ns->Vals (ns.map V.int) vs
 | _,_,.nil=>.nil
 | _,_,.cons n t h=>.cons ⟨t,rfl⟩ (JEj h)
noncomputable def Only (H:Hp):Prop:=∀b,H b=none\/∃o xs,H b=some (.frz o (.lst xs))
theorem JKA {P:Program} {w:World} {K:PySem.W.Frag} {mg mb:Str->Option Value} {CX:CXT} {k:Nat} {fa a:Addr} {fd:FuncData} {x:Str} {sp:Sp} {s₁:Shared} {vs:List Value} {ns:List Int}
  (KX:K.In s₁.heap) (hns:s₁.heap.Ns mainGlobals mg) (hb:s₁.heap.Ns builtinsNs mb) (hbb:∀x:Str,x≠"__name__"->mb x=bootBuiltins x) (hlim:s₁.heap.NoLimit) (hg:s₁.gens=#[])
  (ha:s₁.heap.get? a=some { cls:=.type "list",data:=.seq vs.toArray }) (hi:IntsAre vs ns) (hl:ns.length<=sizeLine) (hr:Room k callerA)
  (F:∀base:Heap,K.In base->base.Ns mainGlobals mg->FnOk P w K mg base CX k fa fd [x] sp) (hbind:∀(s:Shared) (u:Value),BindsTo s fd ⟨[u],[]⟩ [(x,u)])
  (hsp:∀H:Hp,Only H->SqL K H a (ns.map V.int)->sp [.ref a] H (fun v _=>v=.bl true) fun _ _ _=>False)
  (hCX:∀H e s',CX [] H s₁ (fun _ _ _=>False) e s'->False) :
  codeAny (model P w) callerA (.call (.ref fa) ⟨[.ref a],[]⟩) (fun r s'=>r=.ok (.ret (.bool true))/\OldK s₁.heap s'.heap/\s'.os=s₁.os/\AllBare s'.gens) s₁:=by
 have rv:=JEj hi
 have lenV:=hi.length
 have core:∀H:Hp,Only H->SqL K H a (ns.map V.int)->HOk P w H s₁.heap->(∀b,H b≠none->b=a)->(H a≠none->K.lookup a=none) ->
    codeAny (model P w) callerA (.call (.ref fa) ⟨[.ref a],[]⟩) (fun r s'=>r=.ok (.ret (.bool true))/\OldK s₁.heap s'.heap/\s'.os=s₁.os/\AllBare s'.gens) s₁:=by
  intro H hO hS hok hA hK
  have base_of:∀ {b:Addr} {o:Obj},s₁.heap.get? b=some o->H b=none->(hidT s₁.heap H).get? b=some o:=fun e n=>JJO e n
  have noA:∀ {b:Addr} {o:Obj} {es:Array DictEntry} {ep:Nat},s₁.heap.get? b=some o->o.data=.dict es ep->H b=none:=fun {b o es ep} e d=>by
    cases q:H b with
    | none=>rfl
    | some u =>
     have e':b=a:=hA b (by rw [q];simp)
     subst e'
     rw [ha] at e;cases e
     have d':Data.seq vs.toArray _=Data.dict es ep:=d
     cases d'
  have nsK:∀ {b:Addr} {m:Str->Option Value},s₁.heap.Ns b m->(hidT s₁.heap H).Ns b m:=fun {b m} ⟨o,es,ep,e,d,r⟩=>⟨o,es,ep,base_of e (noA e d),d,r⟩
  have hKb:K.In (hidT s₁.heap H):=fun b o e=>base_of (KX b o e) (by
    cases q:H b with
    | none=>rfl
    | some u =>
     have e':b=a:=hA b (by rw [q];simp)
     subst e'
     rw [hK (by rw [q];simp)] at e;cases e)
  have hM:Mod K mg (hidT s₁.heap H):=⟨hKb,nsK hns,⟨mb,nsK hb,hbb⟩,let ⟨mc,h1,h2⟩:=hlim;⟨mc,nsK h1,h2⟩⟩
  have e0:Env0 P w K mg (hidT s₁.heap H) callerA [] s₁ H:=⟨rfl,hM,fun b o e=>JMY e,Nat.le_of_eq (JHE _ _),trivial,fun b hb=>absurd (show b∈([]:List Addr) from hb) (by simp),hok,.of_eq hg⟩
  refine codeAny_mono ((F _ hKb (nsK hns)).run callerA [] s₁ H ⟨[.ref a],[]⟩ [.ref a] [.ref a] _ _ hr e0 (hbind s₁ (.ref a)) (.cons rfl .nil) (hsp H hO hS)) fun r s' h=>?_
  cases r with
  | error e=>exact (hCX H e s' h).elim
  | ok fl =>
    cases fl with
    | next=>exact False.elim h
    | brk=>exact False.elim h
    | cont=>exact False.elim h
    | ret u =>
     obtain ⟨v,H',os,bare,un,hok',r',q⟩:=h
     have q':v=.bl true:=q
     subst q'
     obtain rfl:u=Value.bool true:=r'
     refine ⟨rfl,OldK.of_keep fun b o e=>?_,os,bare⟩
     cases q:H b with
     | none=>exact un.keep b o e q (by intro z;exact absurd (show b∈([]:List Addr) from z) (by simp)) (by simp)
     | some u =>
      rcases hO b with z | ⟨ob,xs,z⟩
      ·rw [q] at z;cases z
      ·have z2:=un.frzs b ob _ z
       obtain ⟨e1,_⟩:=hok b _ z
       obtain ⟨e2,_⟩:=hok' b _ z2
       rw [e] at e1;cases e1
       exact e2
 cases hk:K.lookup a with
 | some o =>
  have e:=KX a o hk
  rw [ha] at e
  cases e
  refine core (fun _=>none) (fun _=>.inl rfl) (.inr ⟨_,vs.toArray,_,hk,rfl,rfl,rfl,by rw [q_f,lenV];exact hl,by simpa using rv⟩) (fun b u z=>by have z':(none:Option HO)=some u:=z;cases z') (fun b z=>absurd rfl z) fun z=>absurd rfl z
 | none =>
  refine core (fun b=>if b=a then some (.frz { cls:=.type "list",data:=.seq vs.toArray } (.lst (ns.map V.int))) else none) (fun b=>?_) (.inl (.inr ⟨{ cls:=.type "list",data:=.seq vs.toArray },if_pos rfl⟩)) (fun b u z=>?_) (fun b z=>?_) fun _=>hk
  · by_cases hb:b=a
    ·exact .inr ⟨_,_,if_pos hb⟩
    ·exact .inl (if_neg hb)
  · by_cases hb:b=a
    ·have z':=(if_pos hb).symm.trans z
     cases z'
     subst hb
     exact ⟨ha,by rw [q_g];exact hl,vs,_,rv,ha⟩
    ·have z':=(if_neg hb).symm.trans z
     cases z'
  · by_cases hb:b=a
    ·exact hb
    ·exact absurd (if_neg hb) z
end L2
namespace L2
open PySem PySem.Spec PyProof.Rows
noncomputable abbrev KOf {K:PySem.W.Frag} {h:Heap} (_:K.In h):PySem.W.Frag:=K
theorem walk_of {l:PySem.W.OpenLaw} {n k:Nat} {q:Program} {loose:List Str} {XP:(Str->Option Value)->Heap->Prop} {YP:World->Heap->Prop} {d:DefRec} {K:Params->PySem.W.Frag} {CX:World->CXT} {sp:World->Sp} {x:Str}
  (hn:l.most=some n) (hn2:n<=sizeLine) (hdf:d.params.defaults=[]) (hr:Room k callerA)
  (hY:∀(w:World) (h:Heap),YP w h->(K w.params).In h)
  (F:∀(w:World) (mg:Str->Option Value) (fa:Addr) (h:Heap),(K w.params).In h->h.Ns mainGlobals mg->mg d.name=some (.ref fa) ->
    ∃fd:FuncData,(∀(s:Shared) (u:Value),BindsTo s fd ⟨[u],[]⟩ [(x,u)]) /\
     ∀base:Heap,(K w.params).In base->base.Ns mainGlobals mg->FnOk l.prog w (K w.params) mg base (CX w) k fa fd [x] (sp w))
  (hsp:∀(w:World) (H:Hp) (a:Addr) (ns:List Int),ns.length<=n->Only H->SqL (K w.params) H a (ns.map V.int)->sp w [.ref a] H (fun v _=>v=.bl true) fun _ _ _=>False)
  (hCX:∀(w:World) (H:Hp) (s:Shared) (e:Value) (s':Shared),CX w [] H s (fun _ _ _=>False) e s'->False) :
  PySem.W.WalkO q loose XP YP l.row.toRowW d [] (fun f vs=>PySem.call f vs):=by
 refine Att.attach_call hn hdf fun w s₀ s₁ mg mb fa o pm cd doc a vs ns G Y ho hd hcd hmg hobj hints hlen hg=>?_
 have KX:=hY w _ Y
 obtain ⟨fd,hb,hF⟩:=F w mg fa _ KX G.T.g hmg
 exact JKA KX G.T.g G.T.b G.T.builtins G.T.nolimit hg hobj hints (Nat.le_trans hlen hn2) hr hF hb (fun H hO hS=>hsp w H a ns hlen hO hS) fun H e s'=>hCX w H s₁ e s'
end L2
namespace L2
open PySem PySem.Spec PyProof.Rows
noncomputable def JA9 (s:Stmt):Arguments:=match s with
 | .FunctionDef _ a _ _ _ _ _ _ _ _=>a
 | _=>{ posonlyargs:=[],args:=[],vararg:=none,kwonlyargs:=[],kw_defaults:=[],kwarg:=none,defaults:=[] }
noncomputable def JAx (s:Stmt):List Stmt:=match s with
 | .FunctionDef _ _ b _ _ _ _ _ _ _=>b
 | _=>[]
noncomputable def JAU (s:Stmt):Scope:=match s with
 | .FunctionDef _ _ _ _ _ _ sc _ _ _=>sc
 | _=>{ kind:=.function,names:=[],isGenerator:=false,isCoroutine:=false }
noncomputable abbrev CX0:CXT:=fun _ _ _ _ _ _=>False
structure Fun (K:PySem.W.Frag) (x qual:Str) (st:Stmt) (f:Addr) (fd:FuncData):Prop where
 ex:∃(oc:Value) (od:Option Addr) (kV doc pm:Value) (an:Option Addr) (cdv ct:Value) (osl:Array (Option Value)),
  fd=PySem.W.fnOf x qual (JA9 st) (JAx st) (JAU st) .none kV doc pm an cdv ct/\K.lookup f=some ⟨oc,od,.func fd,osl⟩/\PySem.W.codeIn K cdv qual=true
 kp:PySem.W.keepIn K (.ref f)=true
section
variable {P:Program} {w:World} {K:PySem.W.Frag} {mg:Str->Option Value} {base:Heap}
theorem Fun.ok {x qual:Str} {st:Stmt} {f:Addr} {fd:FuncData} {N ps:List Str} {k:Nat} {sp:Sp} (F:Fun K x qual st f fd) (S:FnScope N ps (JAU st)) (len:∀vs H Q E,sp vs H Q E->vs.length=ps.length)
  (hbody:∀(cdv:Value) (A:Around) (outer:List Env) (s:Shared) (H:Hp) (vs:List V) (Q:VK) (E:XK),Room k (A.deeper (envOfC qual (JAU st) s.heap.objs.size f cdv))->sp vs H Q E ->
    ∃t,PSs (cxOf CX0 P w K mg base N qual (JAU st) f cdv A outer s H E).nox (JAx st) t/\t { nx:=fun _ H'=>Q .non H',rt:=Q } (start N vs) H):FnOk P w K mg base CX0 (k+1) f fd ps sp:=by
 obtain ⟨oc,od,kV,doc,pm,an,cdv,ct,osl,rfl,lk,hcd⟩:=F.ex
 refine JOq lk hcd S len fun A outer s H vs Q E hr hsp=>?_
 obtain ⟨t,h,q⟩:=hbody cdv A outer s H vs Q E hr hsp
 exact ⟨t,h.nox,q⟩
theorem Fun.binds {x qual:Str} {st:Stmt} {f:Addr} {fd:FuncData} {ps:List Str} (F:Fun K x qual st f fd)
  (h:∀(kV doc pm:Value) (an:Option Addr) (cdv ct:Value) (us:List Value),us.length=ps.length->bindArgs (PySem.W.fnOf x qual (JA9 st) (JAx st) (JAU st) .none kV doc pm an cdv ct) ⟨us,[]⟩=pure (ps.zip us)):Binds K fd ps []:=by
 obtain ⟨oc,od,kV,doc,pm,an,cdv,ct,osl,rfl,lk,hcd⟩:=F.ex
 exact .all (h kV doc pm an cdv ct)
theorem JKw {x qual:Str} {st:Stmt} {f:Addr} {oc:Value} {od an:Option Addr} {osl:Array (Option Value)} {kV doc pm cdv ct:Value} (l:K.lookup f=some ⟨oc,od,.func (PySem.W.fnOf x qual (JA9 st) (JAx st) (JAU st) .none kV doc pm an cdv ct),osl⟩)
 (c:PySem.W.codeIn K cdv qual=true) (k:PySem.W.keepIn K (.ref f)=true):Fun K x qual st f (PySem.W.fnOf x qual (JA9 st) (JAx st) (JAU st) .none kV doc pm an cdv ct):=⟨⟨oc,od,kV,doc,pm,an,cdv,ct,osl,rfl,l,c⟩,k⟩
end
section
variable {X:Cx}
theorem pv (i:Nat) {x:Str} {pos:Pos} (hN:X.N[i]? = some x:=by rfl) (hv:Vis X.env.scope x:=by first | exact Or.inl rfl | exact Or.inr (Or.inl rfl) | exact Or.inr (Or.inr rfl)) (hd:(x==("__debug__":Str))=false:=by decide)
 (hcd:(x==("__classdict__":Str))=false:=by decide):PE X (.Name x pos) (tVar i):=JCg hN hv hd hcd
end
theorem iteF {A B:Prop} (h:B):if false=true then A else B:=by
 rw [if_neg Bool.false_ne_true]
 exact h
theorem iteT {A B:Prop} (h:A):if true=true then A else B:=by
 rw [if_pos rfl]
 exact h
noncomputable def Same (H H':Hp):Prop:=∀b o,H b=some o->H' b=some o
theorem Same.refl (H:Hp):Same H H:=fun _ _ h=>h
theorem Same.trans {H H1 H2:Hp} (a:Same H H1) (b:Same H1 H2):Same H H2:=fun c o h=>b c o (a c o h)
theorem Same.free {H H':Hp} (e:Same H H') {l:Addr} (h:H' l=Option.none):H l=Option.none:=by
 cases q:H l with
 | none=>rfl
 | some o =>
  rw [e l o q] at h
  cases h
theorem Same.seq {K:PySem.W.Frag} {H H':Hp} {a:Addr} {xs:List V} (e:Same H H') (h:SqL K H a xs):SqL K H' a xs:=by
 rcases h with (h | ⟨o,h⟩) | h
 ·exact .inl (.inl (e _ _ h))
 ·exact .inl (.inr ⟨o,e _ _ h⟩)
 ·exact .inr h
end L2
set_option autoImplicit false
section
namespace VI
open PySem
abbrev D:=PyData
noncomputable def excD (c:Nat):D:=.dict [(.none,.int (c:Int))]
inductive R (α:Type) where
 | ok (a:α)
 | exc (c:Nat)
 | bad
@[reducible] def R.bind {α β:Type} (r:R α) (f:α->R β):R β :=
 match r with
 | .ok a=>f a
 | .exc c=>.exc c
 | .bad=>.bad
inductive Ty where
 | int | bool | str | list | tuple | dict | valueError | own (c:Nat)
 deriving DecidableEq
inductive Blt where
 | len | abs | min | all
 deriving DecidableEq
inductive O1 where
 | slice (lo hi:Option Int)
 | toTup | toLst | rev
 deriving DecidableEq
inductive XO where
 | rev | enm | srt | zip | sst
 deriving DecidableEq
inductive E where
 | var (i:Nat)
 | cint (i:Int) | cbl (b:Bool) | cnon | cstr (x:Str)
 | glo (i:Nat)
 | bin (op:Operator) (a b:E)
 | neg (a:E)
 | not (a:E)
 | and (a b:E)
 | or (a b:E)
 | cmp (op:CmpOp) (a b:E)
 | isN (a:E) (neg:Bool)
 | isB (a:E) (b:Bool)
 | ife (c a b:E)
 | nil
 | cons (a r:E)
 | tup (es:E)
 | lst (es:E)
 | idx (a i:E)
 | call (f:Nat) (es:E)
 | blt (b:Blt) (es:E)
 | rng (es:E)
 | isi (a:E) (t:Ty)
 | mcount (o a:E)
 | mindex (o a:E)
 | mget (o a b:E)
 | cmpr (k:Nat) (elt iter cond:E)
 | dct (ks:List Str) (es:E)
 | rep (k:Nat) (es:E)
 | fn1 (o:O1) (a:E)
 | isnB (a:E) (b:Bool)
 | xop (k:XO) (es:E)
inductive Sl where
 | no
 | val (d:D)
 | own (d:D)
noncomputable def Sl.get:Sl->R D
 | .no=>.bad
 | .val d=>.ok d
 | .own d=>.ok d
noncomputable def Sl.frz:Sl->Sl
 | .own d=>.val d
 | s=>s
noncomputable def Sl.isOwn:Sl->Bool
 | .own _=>true
 | _=>false
abbrev Env:=List Sl
noncomputable def look (δ:Env) (i:Nat):R D:=match δ[i]? with
 | some s=>s.get
 | none=>.bad
structure Cn where
 fn:Nat->List D->R D
 glo:Nat->R D
 sub:Nat->Nat->Bool
noncomputable def truth:D->R Bool
 | .none=>.ok false
 | .bool b=>.ok b
 | .int i=>.ok (i != 0)
 | .str x=>if x.length<=16777216 then .ok ((x.length:Int) != 0) else .bad
 | .list xs=>.ok (!xs.isEmpty)
 | .tuple xs=>.ok (!xs.isEmpty)
 | .dict _=>.bad
open Classical in
noncomputable def binD (op:Operator) (x y:D):R D :=
 match op,x,y with
 | .Add,.int i,.int j=>.ok (.int (i+j))
 | .Sub,.int i,.int j=>.ok (.int (i - j))
 | .Mult,.int i,.int j=>if IntMulOk i j then .ok (.int (i*j)) else .bad
 | .FloorDiv,.int i,.int j=>if j≠0/\Builtin.divisionGoesByPylong i j=false then .ok (.int (i.fdiv j)) else .bad
 | .Mod,.int i,.int j=>if j≠0 then .ok (.int (i.fmod j)) else .bad
 | .Add,.tuple xs,.tuple ys=>if xs.length+ys.length<=16777216 then .ok (.tuple (xs++ys)) else .bad
 | .Add,.list xs,.list ys=>if xs.length+ys.length<=16777216 then .ok (.list (xs++ys)) else .bad
 | .Mult,.tuple xs,.int k=>if 2<=k/\k<=1000/\xs.length<=1000/\xs≠[] then .ok (.tuple (List.replicate k.toNat xs).flatten) else .bad
 | .Mult,.list xs,.int k=>if -(2 ^ 62)<=k/\k<2 ^ 62/\xs.length*k.toNat<=16777216 then .ok (.list (List.replicate k.toNat xs).flatten) else .bad
 | _,_,_=>.bad
noncomputable def shaped (d:D):Bool:=d.canLay0&&decide (d.depth<=64)
noncomputable def JBi (xs:List D) (x:D):Bool:=PyData.canLayAll0 xs&&x.canLay0&&decide (x.depth<=60)
noncomputable def cmpD (op:CmpOp) (x y:D):R D :=
 match op with
 | .Eq=>if (shaped x&&shaped y)=true then .ok (.bool (PyData.eqv x y)) else .bad
 | .NotEq=>if (shaped x&&shaped y)=true then .ok (.bool (!PyData.eqv x y)) else .bad
 | .Lt=>match x,y with | .int i,.int j=>.ok (.bool (decide (i<j))) | _,_=>.bad
 | .LtE=>match x,y with | .int i,.int j=>.ok (.bool (decide (i<=j))) | _,_=>.bad
 | .Gt=>match x,y with | .int i,.int j=>.ok (.bool (decide (j<i))) | _,_=>.bad
 | .GtE=>match x,y with | .int i,.int j=>.ok (.bool (decide (j<=i))) | _,_=>.bad
 | .In=>match y with
  | .list xs=>if JBi xs x=true then .ok (.bool (xs.any fun z=>PyData.eqv z x)) else .bad
  | .tuple xs=>if JBi xs x=true then .ok (.bool (xs.any fun z=>PyData.eqv z x)) else .bad
  | _=>.bad
 | .NotIn=>match y with
  | .list xs=>if JBi xs x=true then .ok (.bool (!xs.any fun z=>PyData.eqv z x)) else .bad
  | .tuple xs=>if JBi xs x=true then .ok (.bool (!xs.any fun z=>PyData.eqv z x)) else .bad
  | _=>.bad
 | _=>.bad
noncomputable def isNone:D->Bool
 | .none=>true
 | _=>false
noncomputable def isBool (b:Bool):D->R Bool
 | .bool c=>.ok (c==b)
 | _=>.bad
noncomputable def ixN (n:Nat) (i:Int):Option Nat:=if 0<=i then (if i<n then some i.toNat else none) else if -(n:Int)<=i then some (i+n).toNat else none
noncomputable def atI {α:Type} (xs:List α) (i:Int):Option α:=(ixN xs.length i).bind fun j=>xs[j]?
noncomputable def optR {α:Type}:Option α->R α
 | some a=>.ok a
 | none=>.bad
noncomputable def getK:List (D×D)->Str->R D
 | [],_=>.bad
 |(.str k,v)::r,x=>if k=x then .ok v else getK r x
 | _::_,_=>.bad
noncomputable def idxD (x i:D):R D :=
 match x,i with
 | .list xs,.int i=>optR (atI xs i)
 | .tuple xs,.int i=>optR (atI xs i)
 | .dict kvs,.str y=>getK kvs y
 | .str x,.int i=>if x.cps.size<=1000 then optR ((atI x.cps.toList i).map fun c=>.str ⟨#[c]⟩) else .bad
 | _,_=>.bad
noncomputable def isiD (sub:Nat->Nat->Bool) (x:D) (t:Ty):R D :=
 match x with
 | .none=>.ok (.bool false)
 | .bool _=>.ok (.bool (t==.int || t==.bool))
 | .int _=>.ok (.bool (t==.int))
 | .str _=>.ok (.bool (t==.str))
 | .list _=>.ok (.bool (t==.list))
 | .tuple _=>.ok (.bool (t==.tuple))
 | .dict [(.none,.int c)]=>if sub c.toNat c.toNat=true then (match t with
  | .own e=>.ok (.bool (sub c.toNat e))
  | .valueError=>.ok (.bool true)
  | _=>.bad) else .bad
 | .dict _=>.bad
noncomputable def lexI:List Int->List Int->Bool
 | [],[]=>false
 | [],_::_=>true
 | _::_,[]=>false
 | a::r,b::t=>if a=b then lexI r t else decide (a<b)
noncomputable def intsOf:List D->Option (List Int)
 | []=>some []
 | .int a::r=>(intsOf r).map (a::·)
 | _=>none
noncomputable def keysOf:List D->Option (List (List Int))
 | []=>some []
 | .tuple a::r=>(intsOf a).bind fun k=>(keysOf r).map (k::·)
 | _=>none
noncomputable def minK:List Int->List (List Int)->List Int
 | k,[]=>k
 | k,b::r=>minK (if lexI b k=true then b else k) r
noncomputable def minD (ds:List D):R D:=match keysOf ds with
 | some (k::ks)=>.ok (.tuple ((minK k ks).map fun i=>.int i))
 | _=>.bad
noncomputable def allD:List D->R D
 | []=>.ok (.bool true)
 | .bool b::r=>(match allD r with
  | .ok (.bool c)=>.ok (.bool (b&&c))
  | _=>.bad)
 | _=>.bad
noncomputable def bltD (b:Blt) (xs:List D):R D :=
 match b,xs with
 | .len,[.list ys]=>.ok (.int ys.length)
 | .len,[.tuple ys]=>.ok (.int ys.length)
 | .abs,[.int i]=>.ok (.int (if i<0 then -i else i))
 | .min,[.list ys]=>minD ys
 | .all,[.list ys]=>allD ys
 | _,_=>.bad
noncomputable def JGZ (lo hi:Int):List D:=(List.range (hi - lo).toNat).map fun (k:Nat)=>.int (lo+k)
noncomputable def small (i:Int):Bool:=decide (-(2 ^ 62)<=i)&&decide (i<2 ^ 62)
noncomputable def rngD (xs:List D):R (List D) :=
 match xs with
 | [.int j]=>if small j=true then .ok (JGZ 0 j) else .bad
 | [.int i,.int j]=>if (small i&&small j)=true then .ok (JGZ i j) else .bad
 | _=>.bad
noncomputable def JA5:D->R (List D)
 | .list xs=>.ok xs
 | .tuple xs=>.ok xs
 | _=>.bad
noncomputable def JE8 (x y:D):R D :=
 match x with
 | .list xs=>if JBi xs y=true then .ok (.int (xs.countP fun z=>PyData.eqv z y:Nat)) else .bad
 | _=>.bad
noncomputable def JEn (x y:D):R D :=
 match x with
 | .list xs=>if JBi xs y=true then
  (match xs.findIdx? fun z=>PyData.eqv z y with
   | some j=>.ok (.int j)
   | none=>.bad) else .bad
 | _=>.bad
noncomputable def getD:List (D×D)->Str->D->R D
 | [],_,z=>.ok z
 |(.str k,v)::r,x,z=>if k=x then .ok v else getD r x z
 | _,_,_=>.bad
noncomputable def JDr (x k z:D):R D :=
 match x,k with
 | .dict kvs,.str y=>getD kvs y z
 | _,_=>.bad
def sI (n d:Nat):Option Int->Nat
 | none=>d
 | some v=>if v<0 then (v+(n:Int)).toNat else min v.toNat n
def cutD {α:Type} (xs:List α) (lo hi:Option Int):List α:=(xs.drop (sI xs.length 0 lo)).take (sI xs.length xs.length hi - sI xs.length 0 lo)
noncomputable def op1D (o:O1) (d:D):R D:=match o,d with
 | .slice lo hi,.tuple xs=>.ok (.tuple (cutD xs lo hi))
 | .slice lo hi,.list xs=>.ok (.list (cutD xs lo hi))
 | .toTup,.tuple xs=>.ok (.tuple xs)
 | .toTup,.list xs=>.ok (.tuple xs)
 | .toLst,.tuple xs=>.ok (.list xs)
 | .toLst,.list xs=>.ok (.list xs)
 | .rev,.list xs=>.ok (.list xs.reverse)
 | _,_=>.bad
noncomputable def enmL:Nat->List D->List D
 | _,[]=>[]
 | i,d::r=>.tuple [.int (i:Nat),d]::enmL (i+1) r
noncomputable def kGo {α:Type} (lt:Nat->Nat->Bool):PySem.W.KasT α->α
 | .ret a=>a
 | .ask i j k=>kGo lt (k (lt i j))
inductive At where
 | i (n:Int) | s (x:Str) | t (k:List Int)
 deriving DecidableEq
noncomputable def At.kd:At->Nat
 | .i _=>0
 | .s _=>1
 | .t _=>2
noncomputable def ltAt:At->At->Bool
 | .i a,.i b=>decide (a<b)
 | .s x,.s y=>decide (x.cps.toList<y.cps.toList)
 | .t a,.t b=>lexI a b
 | _,_=>false
noncomputable def lexA:List At->List At->Bool
 | [],[]=>false
 | [],_::_=>true
 | _::_,[]=>false
 | a::r,b::t=>if a=b then lexA r t else ltAt a b
noncomputable def atOf:D->Option At
 | .int n=>some (.i n)
 | .str x=>some (.s x)
 | .tuple ds=>(intsOf ds).map .t
 | _=>none
noncomputable def JIY:List D->Option (List At)
 | []=>some []
 | d::r=>(atOf d).bind fun a=>(JIY r).map (a::·)
noncomputable def JCx:List D->Option (List (List At))
 | []=>some []
 | .tuple ds::r=>(JIY ds).bind fun k=>(JCx r).map (k::·)
 | _=>none
noncomputable def JCR (ks:List (List At)):List Nat:=(kGo (fun i j=>lexA (ks.getD i []) (ks.getD j [])) (PySem.W.kas_sort ks.length)).toList
noncomputable def JKF:List (List At)->Bool
 | []=>false
 | k::ks=>!k.isEmpty&&ks.all fun q=>q.map At.kd==k.map At.kd
noncomputable def strsOf:List D->Option (List Str)
 | []=>some []
 | .str x::r=>(strsOf r).map (x::·)
 | _=>none
noncomputable def ltS (x y:Str):Bool:=decide (x.cps.toList<y.cps.toList)
noncomputable def JAX (zs:List Str):List Str:=if zs.length<2 then zs else (kGo (fun i j=>ltS (zs.getD i "") (zs.getD j "")) (PySem.W.kas_sort zs.length)).toList.map fun i=>zs.getD i ""
noncomputable def dedS:List Str->List Str
 | []=>[]
 | x::r=>if x∈dedS r then dedS r else x::dedS r
noncomputable def srtS (ys:List D):R D:=match strsOf ys with
 | some xs=>if xs.length<=5 then .ok (.list ((JAX xs).map .str)) else .bad
 | none=>.bad
noncomputable def sstS (ys:List D):R D:=match strsOf ys with
 | some xs=>if xs.length<=1000/\(dedS xs).length<=5 then .ok (.list ((JAX (dedS xs)).map .str)) else .bad
 | none=>.bad
noncomputable def srtA (ys:List D):R D:=match JCx ys with
 | some ks=>if 2<=ks.length/\ks.length<=5/\JKF ks=true then .ok (.list ((JCR ks).map fun i=>ys.getD i .none)) else .bad
 | none=>srtS ys
noncomputable def srtD (ys:List D):R D:=if ys.length<2 then .ok (.list ys) else srtA ys
noncomputable def xD (k:XO) (xs:List D):R D:=match k,xs with
 | .rev,[.list ys]=>.ok (.list ys.reverse)
 | .enm,[.list ys]=>.ok (.list (enmL 0 ys))
 | .enm,[.tuple ys]=>.ok (.list (enmL 0 ys))
 | .srt,[.list ys]=>srtD ys
 | .sst,[.list ys]=>sstS ys
 | .zip,[.list xs,.list ys]=>.ok (.list (List.zipWith (fun a b=>PyData.tuple [a,b]) xs ys))
 | _,_=>.bad
noncomputable def JMQ:D->Bool
 | .list _=>true
 | _=>false
noncomputable def JJe:D->Bool
 | .dict []=>true
 | .dict ((.str _,_)::_)=>true
 | _=>false
noncomputable def push (k:Nat) (x:D) (δ:Env):R Env :=
 match k with
 | 0=>.ok (.val x::δ)
 | n+1=>match x with
  | .tuple xs=>if xs.length=n+1 then .ok (xs.map Sl.val++δ) else .bad
  | _=>.bad
noncomputable def JAo (f:D->R (Option D)):List D->R (List D)
 | []=>.ok []
 | x::xs=>match f x with
  | .ok (some y)=>(match JAo f xs with
   | .ok ys=>.ok (y::ys)
   | _=>.bad)
  | .ok none=>JAo f xs
  | _=>.bad
mutual
noncomputable def ev (C:Cn):E->Env->R D
 | .var i,δ=>look δ i
 | .cint i,_=>.ok (.int i)
 | .cbl b,_=>.ok (.bool b)
 | .cnon,_=>.ok .none
 | .cstr x,_=>.ok (.str x)
 | .glo i,_=>C.glo i
 | .bin op a b,δ=>(ev C a δ).bind fun x=>(ev C b δ).bind fun y=>binD op x y
 | .neg a,δ=>(ev C a δ).bind fun x=>match x with | .int i=>.ok (.int (-i)) | _=>.bad
 | .not a,δ=>((ev C a δ).bind truth).bind fun b=>.ok (.bool (!b))
 | .and a b,δ=>(ev C a δ).bind fun x=>match x with | .bool true=>ev C b δ | .bool false=>.ok (.bool false) | _=>.bad
 | .or a b,δ=>(ev C a δ).bind fun x=>match x with | .bool true=>.ok (.bool true) | .bool false=>ev C b δ | _=>.bad
 | .cmp op a b,δ=>(ev C a δ).bind fun x=>(ev C b δ).bind fun y=>cmpD op x y
 | .isN a n,δ=>(ev C a δ).bind fun x=>.ok (.bool (if n=true then !isNone x else isNone x))
 | .isB a b,δ=>(ev C a δ).bind fun x=>(isBool b x).bind fun k=>.ok (.bool k)
 | .ife c a b,δ=>(evT C c δ).bind fun k=>if k=true then ev C a δ else ev C b δ
 | .nil,_=>.bad
 | .cons _ _,_=>.bad
 | .tup es,δ=>(evA C es δ).bind fun xs=>.ok (.tuple xs)
 | .lst es,δ=>(evA C es δ).bind fun xs=>.ok (.list xs)
 | .idx a i,δ=>(ev C a δ).bind fun x=>(ev C i δ).bind fun y=>idxD x y
 | .call f es,δ=>(evA C es δ).bind fun xs=>C.fn f xs
 | .blt b es,δ=>(evA C es δ).bind fun xs=>bltD b xs
 | .rng _,_=>.bad
 | .isi a t,δ=>(ev C a δ).bind fun x=>isiD C.sub x t
 | .mcount o a,δ=>(ev C o δ).bind fun x=>if JMQ x=true then (ev C a δ).bind fun y=>JE8 x y else .bad
 | .mindex o a,δ=>(ev C o δ).bind fun x=>if JMQ x=true then (ev C a δ).bind fun y=>JEn x y else .bad
 | .mget o a b,δ=>(ev C o δ).bind fun x=>if JJe x=true then (ev C a δ).bind fun y=>(ev C b δ).bind fun z=>JDr x y z else .bad
 | .cmpr k elt iter cond,δ=>(evI C iter δ).bind fun xs=>if xs.length<=16777216 then (JAo (fun x=>(push k x δ).bind fun δ1=>(evT C cond δ1).bind fun t =>
  if t=true then (ev C elt δ1).bind fun y=>.ok (some y) else .ok none) xs).bind fun ys=>.ok (.list ys) else .bad
 | .dct ks es,δ=>(evA C es δ).bind fun xs=>.ok (.dict ((ks.map PyData.str).zip xs))
 | .rep k es,δ=>(evA C es δ).bind fun xs=>.ok (.list (List.replicate k xs).flatten)
 | .fn1 o a,δ=>(ev C a δ).bind fun x=>op1D o x
 | .isnB a b,δ=>(ev C a δ).bind fun x=>(isBool b x).bind fun k=>.ok (.bool (!k))
 | .xop k es,δ=>(evA C es δ).bind (xD k)
noncomputable def evT (C:Cn):E->Env->R Bool
 | .not a,δ=>(evT C a δ).bind fun b=>.ok (!b)
 | .and a b,δ=>(evT C a δ).bind fun x=>if x=true then evT C b δ else .ok false
 | .or a b,δ=>(evT C a δ).bind fun x=>if x=true then .ok true else evT C b δ
 | .var i,δ=>(look δ i).bind truth
 | .cbl b,_=>.ok b
 | .cmp op a b,δ=>((ev C a δ).bind fun x=>(ev C b δ).bind fun y=>cmpD op x y).bind truth
 | .isN a n,δ=>(ev C a δ).bind fun x=>.ok (if n=true then !isNone x else isNone x)
 | .isB a b,δ=>(ev C a δ).bind fun x=>isBool b x
 | .idx a i,δ=>((ev C a δ).bind fun x=>(ev C i δ).bind fun y=>idxD x y).bind truth
 | .call f es,δ=>((evA C es δ).bind fun xs=>C.fn f xs).bind truth
 | .blt b es,δ=>((evA C es δ).bind fun xs=>bltD b xs).bind truth
 | .isi a t,δ=>((ev C a δ).bind fun x=>isiD C.sub x t).bind truth
 | .isnB a b,δ=>(ev C a δ).bind fun x=>(isBool b x).bind fun k=>.ok (!k)
 | _,_=>.bad
noncomputable def evA (C:Cn):E->Env->R (List D)
 | .nil,_=>.ok []
 | .cons a r,δ=>(ev C a δ).bind fun x=>(evA C r δ).bind fun xs=>.ok (x::xs)
 | _,_=>.bad
noncomputable def evI (C:Cn):E->Env->R (List D)
 | .rng es,δ=>(evA C es δ).bind rngD
 | .var i,δ=>(look δ i).bind JA5
 | .glo i,_=>(C.glo i).bind JA5
 | .idx a i,δ=>((ev C a δ).bind fun x=>(ev C i δ).bind fun y=>idxD x y).bind JA5
 | .call f es,δ=>((evA C es δ).bind fun xs=>C.fn f xs).bind JA5
 | .tup es,δ=>evA C es δ
 | .lst es,δ=>evA C es δ
 | .fn1 o a,δ=>((ev C a δ).bind fun x=>op1D o x).bind JA5
 | .bin op a b,δ=>((ev C a δ).bind fun x=>(ev C b δ).bind fun y=>binD op x y).bind JA5
 | .xop k es,δ=>((evA C es δ).bind (xD k)).bind JA5
 | _,_=>.bad
end
noncomputable def E.uses:E->Nat->Bool
 | .var i,j=>i==j
 | .bin _ a b,j=>a.uses j || b.uses j
 | .neg a,j=>a.uses j
 | .not a,j=>a.uses j
 | .and a b,j=>a.uses j || b.uses j
 | .or a b,j=>a.uses j || b.uses j
 | .cmp _ a b,j=>a.uses j || b.uses j
 | .isN a _,j=>a.uses j
 | .isB a _,j=>a.uses j
 | .ife c a b,j=>c.uses j || a.uses j || b.uses j
 | .cons a r,j=>a.uses j || r.uses j
 | .tup es,j=>es.uses j
 | .lst es,j=>es.uses j
 | .idx a i,j=>a.uses j || i.uses j
 | .call _ es,j=>es.uses j
 | .blt _ es,j=>es.uses j
 | .rng es,j=>es.uses j
 | .isi a _,j=>a.uses j
 | .mcount o a,j=>o.uses j || a.uses j
 | .mindex o a,j=>o.uses j || a.uses j
 | .mget o a b,j=>o.uses j || a.uses j || b.uses j
 | .dct _ es,j=>es.uses j
 | .rep _ es,j=>es.uses j
 | .fn1 _ a,j=>a.uses j
 | .isnB a _,j=>a.uses j
 | .xop _ es,j=>es.uses j
 | .cmpr k elt iter cond,j=>iter.uses j || elt.uses (j+(if k=0 then 1 else k)) || cond.uses (j+(if k=0 then 1 else k))
 | .cint _,_=>false
 | .cbl _,_=>false
 | .cnon,_=>false
 | .cstr _,_=>false
 | .glo _,_=>false
 | .nil,_=>false
noncomputable def E.fresh:E->Bool
 | .lst _=>true
 | .cmpr ..=>true
 | _=>false
mutual
noncomputable def JAR:D->Bool
 | .none=>true
 | .bool _=>true
 | .int _=>true
 | .str _=>true
 | .list _=>false
 | .tuple xs=>JBv xs
 | .dict [(.none,.int _)]=>true
 | .dict _=>false
noncomputable def JBv:List D->Bool
 | []=>true
 | x::xs=>JAR x&&JBv xs
end
noncomputable def JAg (e:E):Nat->Env->Env
 | _,[]=>[]
 | i,s::r=>(if e.uses i=true then s.frz else s)::JAg e (i+1) r
noncomputable def JAJ (e:E):Nat->Env->Bool
 | _,[]=>false
 | i,s::r=>(e.uses i&&s.isOwn) || JAJ e (i+1) r
noncomputable def after (e:E) (d:D) (δ:Env):Env:=if (JAJ e 0 δ&&!JAR d)=true then JAg e 0 δ else δ
inductive Fl where
 | nx (δ:Env)
 | rt (d:D)
 | bk (δ:Env)
 | ct (δ:Env)
 | ex (c:Nat)
 | bad
inductive S where
 | nil | cons (s r:S)
 | pass | brk | cnt
 | asg (i:Nat) (e:E)
 | unp (is:List Nat) (e:E)
 | ret (e:E) | retN
 | ife (c:E) (a b:S)
 | app (i:Nat) (e:E)
 | ext (i:Nat) (e:E)
 | ins (i:Nat) (es:E)
 | drop (e:E)
 | for1 (i:Nat) (e:E) (b:S)
 | forT (is:List Nat) (e:E) (b:S)
 | whl (c:E) (b:S)
 | rais (c:Nat)
 | tryx (b:S) (c:Nat) (i:Nat) (h:S)
@[reducible] def stepR {α:Type} (r:R α) (f:α->Fl):Fl :=
 match r with
 | .ok a=>f a
 | .exc c=>.ex c
 | .bad=>.bad
noncomputable def JBB:List Nat->List D->Env->Env
 | i::is,d::ds,δ=>JBB is ds (δ.set i (.val d))
 | _,_,δ=>δ
noncomputable def JAd (n:Nat):D->R (List D)
 | .tuple xs=>if xs.length=n then .ok xs else .bad
 | .list xs=>if xs.length=n then .ok xs else .bad
 | _=>.bad
noncomputable def forL (put:D->Env->Option Env) (body:Env->Fl):List D->Env->Fl
 | [],δ=>.nx δ
 | d::ds,δ=>match put d δ with
  | none=>.bad
  | some δ1=>match body δ1 with
   | .nx δ'=>forL put body ds δ'
   | .ct δ'=>forL put body ds δ'
   | .bk δ'=>.nx δ'
   | r=>r
noncomputable def put1 (i:Nat) (d:D) (δ:Env):Option Env:=some (δ.set i (.val d))
noncomputable def putT (is:List Nat) (d:D) (δ:Env):Option Env:=match d with
 | .tuple xs=>if xs.length=is.length then some (JBB is xs δ) else none
 | _=>none
noncomputable def JAc (c:Env->R Bool) (body:Env->Fl):Nat->Env->Fl
 | 0,_=>.bad
 | n+1,δ=>match c δ with
  | .ok true=>(match body δ with
   | .nx δ'=>JAc c body n δ'
   | .ct δ'=>JAc c body n δ'
   | .bk δ'=>.nx δ'
   | r=>r)
  | .ok false=>.nx δ
  | .exc k=>.ex k
  | .bad=>.bad
open Classical in
noncomputable def JBV (c:Env->R Bool) (body:Env->Fl) (δ:Env):Fl :=
 if h:∃n,JAc c body n δ≠.bad then JAc c body h.choose δ else .bad
noncomputable def JBP (i:Nat) (ds:List D) (e:E) (x:D) (δ:Env):Fl :=
 if ds.length<16777216 then (if (JAJ e 0 δ&&!JAR x)=true then .bad else .nx (δ.set i (.own (.list (ds++[x]))))) else .bad
noncomputable def JBo (i:Nat) (ds:List D) (e:E) (x:D) (δ:Env):Fl :=
 match x with
 | .list zs=>if ds.length+zs.length<=16777216 then (if JAJ e 0 δ=true then .bad else .nx (δ.set i (.own (.list (ds++zs))))) else .bad
 | _=>.bad
noncomputable def JCJ (i:Nat) (ds:List D) (es:E) (xs:List D) (δ:Env):Fl :=
 match xs with
 | [.int k,y]=>if 0<=k/\k<=ds.length/\ds.length<16777216 then (if (JAJ es 0 δ&&!JAR y)=true then .bad else .nx (δ.set i (.own (.list (ds.take k.toNat++y::ds.drop k.toNat))))) else .bad
 | _=>.bad
noncomputable def exec (C:Cn):S->Env->Fl
 | .nil,δ=>.nx δ
 | .cons s r,δ=>match exec C s δ with
  | .nx δ'=>exec C r δ'
  | f=>f
 | .pass,δ=>.nx δ
 | .brk,δ=>.bk δ
 | .cnt,δ=>.ct δ
 | .asg i e,δ=>stepR (ev C e δ) fun x=>if e.fresh=true then .nx ((after e x δ).set i (.own x)) else .nx ((after e x δ).set i (.val x))
 | .unp is e,δ=>stepR (ev C e δ) fun d=>stepR (JAd is.length d) fun xs=>.nx (JBB is xs (after e d δ))
 | .ret e,δ=>stepR (ev C e δ) fun x=>.rt x
 | .retN,_=>.rt .none
 | .ife c a b,δ=>stepR (evT C c δ) fun k=>if k=true then exec C a δ else exec C b δ
 | .app i e,δ=>match δ[i]? with
  | some (.own (.list ds))=>stepR (ev C e δ) fun x=>JBP i ds e x δ
  | _=>.bad
 | .ext i e,δ=>match δ[i]? with
  | some (.own (.list ds))=>stepR (ev C e δ) fun x=>JBo i ds e x δ
  | _=>.bad
 | .ins i es,δ=>match δ[i]? with
  | some (.own (.list ds))=>stepR (evA C es δ) fun xs=>JCJ i ds es xs δ
  | _=>.bad
 | .drop e,δ=>stepR (ev C e δ) fun x=>.nx (after e x δ)
 | .for1 i e b,δ=>stepR (evI C e δ) fun xs=>forL (put1 i) (exec C b) xs (JAg e 0 δ)
 | .forT is e b,δ=>stepR (evI C e δ) fun xs=>forL (putT is) (exec C b) xs (JAg e 0 δ)
 | .whl c b,δ=>JBV (evT C c) (exec C b) δ
 | .rais c,_=>.ex c
 | .tryx b c i h,δ=>match exec C b δ with
  | .ex k=>if C.sub k c=true then (match exec C h ((δ.map fun _=>Sl.no).set i (.val (excD k))) with
   | .nx δ2=>.nx (δ2.set i .no)
   | .rt d=>.rt d
   | _=>.bad) else .bad
  | f=>f
structure Fd where
 par:Nat
 slots:Nat
 body:S
noncomputable def JFb (x:Bool) (C:Cn) (f:Fd) (xs:List D):R D :=
 if xs.length=f.par then
  (match exec C f.body (xs.map Sl.val++List.replicate (f.slots - f.par) Sl.no) with
   | .nx _=>.ok .none
   | .rt d=>.ok d
   | .ex c=>if x=true then .exc c else .bad
   | _=>.bad)
 else .bad
noncomputable def run (x:Bool) (tab:Nat->Option Fd) (glo:Nat->R D) (sub:Nat->Nat->Bool):Nat->Nat->List D->R D
 | 0,_,_=>.bad
 | n+1,f,xs=>match tab f with
  | none=>.bad
  | some fd=>JFb x ⟨run x tab glo sub n,glo,sub⟩ fd xs
end VI
end
section
namespace VI
open PySem
inductive GK where
 | fn (i:Nat) | con (i:Nat) | blt (b:Blt) | ty (t:Ty) | rng | isi | cls (c:Nat) | opt | nam
 deriving DecidableEq
noncomputable def JNc:Blt->Str
 | .len=>"len"
 | .abs=>"abs"
 | .min=>"min"
 | .all=>"all"
noncomputable def JA4:Ty->Option Str
 | .int=>some "int"
 | .bool=>some "bool"
 | .str=>some "str"
 | .list=>some "list"
 | .tuple=>some "tuple"
 | .dict=>some "dict"
 | .valueError=>some "ValueError"
 | .own _=>none
noncomputable def idxOf (x:Str):List Str->Option Nat
 | []=>none
 | y::r=>if (x==y)=true then some 0 else (idxOf x r).map (· + 1)
noncomputable def vis:Option NameKind->Bool
 | some .local=>true
 | some .cell=>true
 | some .free=>true
 | _=>false
noncomputable def JAP (x:Str):Bool:=x=="__debug__" || x=="__classdict__" || x=="__name__"
noncomputable def glob (G:List (Str×GK)) (names:List (Str×NameKind)) (x:Str):Option GK :=
 if JAP x=true then none else if names.lookup x=some .globalImplicit then G.lookup x else none
noncomputable def JAH (f:Expr->Option E):List Expr->Option E
 | []=>some .nil
 | e::r=>(f e).bind fun a=>(JAH f r).bind fun b=>some (.cons a b)
noncomputable def JAs (mk:E->E->E) (f:Expr->Option E):List Expr->Option E
 | []=>none
 | [e]=>f e
 | e::r=>(f e).bind fun a=>(JAs mk f r).bind fun b=>some (mk a b)
noncomputable def okBin:Operator->Bool
 | .Add | .Sub | .Mult | .FloorDiv | .Mod=>true
 | _=>false
noncomputable def isSlice:Expr->Bool
 | .Slice ..=>true
 | _=>false
noncomputable def JBI:Expr->Bool
 | .Call _ [] [] _=>true
 | _=>false
noncomputable def JAi (outer:List (Str×NameKind)) (names:List (Str×NameKind)):List (Str×NameKind) :=
 names.map fun (n,k)=>if (k==.free&&true&&outer.lookup n==some .cell)=true then (n,.cell) else (n,k)
noncomputable def dots (i:Nat):Str:=⟨Array.replicate (i+2) 46⟩
noncomputable def mask (xs:List Str):Nat->List Str->List Str
 | _,[]=>[]
 | i,y::r=>(if xs.contains y=true then dots i else y)::mask xs (i+1) r
noncomputable def namesOf:List Expr->Option (List Str)
 | []=>some []
 | .Name x _::r=>(namesOf r).map (x::·)
 | _=>none
noncomputable def JBq:Expr->Option (Nat×List Str)
 | .Name x _=>some (0,[x])
 | .Tuple ts _ _=>(namesOf ts).bind fun xs=>if xs=[] then none else some (xs.length,xs)
 | _=>none
noncomputable def itK (k:Nat) (q:Option (XO×List Expr)) (f:List Expr->Option E) (d:Option E):Option E :=
 if k=0 then d else match q with
  | some q=>(f q.2).map (E.xop q.1)
  | none=>d
noncomputable def JBu (outer names:List (Str×NameKind)) (xs N:List Str):Bool :=
 names.all (fun (n,k)=>k != .cell&&(k != .local || names.lookup n==some .local)&&(k != .free || (outer.lookup n==some .cell || outer.lookup n==some .free)))&&xs.all (fun x=>names.lookup x==some .local)
  && N.all (fun y=>xs.contains y || names.lookup y != some .local)&&(List.range N.length).all (fun i=>!vis ((JAi outer names).lookup (dots i)))&&decide (xs++mask xs 0 N).Nodup
noncomputable def strKeys:List (Option Expr)->Option (List Str)
 | []=>some []
 | some (.Constant (.str k) _ _)::r=>(strKeys r).map (k::·)
 | _=>none
noncomputable def JNk (a:Expr) (op:Operator) (b:Expr):Option (List Expr×Nat):=match a,op,b with
 | .List es _,.Mult,.Constant (.int k) _ _=>if 0<=k/\k<=1000/\es.length<=1000 then some (es,k.toNat) else none
 | _,_,_=>none
noncomputable def JCt:Option Expr->Option (Option Int)
 | none=>some none
 | some (.Constant (.int k) _ _)=>some (some k)
 | some (.UnaryOp .USub (.Constant (.int k) _ _) _)=>some (some (-k))
 | _=>none
noncomputable def sliceOf:Expr->Option (Option Int×Option Int)
 | .Slice lo hi none _=>(JCt lo).bind fun l=>(JCt hi).bind fun h=>some (l,h)
 | _=>none
noncomputable def JMs:Expr->Bool
 | .Slice none none (some (.UnaryOp .USub (.Constant (.int 1) _ _) _)) _=>true
 | _=>false
noncomputable def JNb (a:Expr) (op:Operator) (b:Expr):Option (Int×Int):=match a,op,b with
 | .Constant (.int x) _ _,.Pow,.Constant (.int y) _ _=>if 0<=x/\x<=100/\0<=y/\y<=20 then some (x,y) else none
 | _,_,_=>none
noncomputable def o1Of:Ty->Option O1
 | .tuple=>some .toTup
 | .list=>some .toLst
 | _=>none
noncomputable def XO.flag:XO->Str
 | .rev=>".rev"
 | .enm=>".enm"
 | .srt=>".srt"
 | .zip=>".zip"
 | .sst=>".sst"
noncomputable def JFM (G:List (Str×GK)) (names:List (Str×NameKind)) (f:Str) (a:Expr):Option (XO×List Expr) :=
 if f="sorted"/\glob G names f=some .nam then (match a with
  | .Call (.Name r _) [b] [] _=>if r="set"/\glob G names r=some .nam then some (.sst,[b]) else some (.srt,[a])
  | _=>some (.srt,[a]))
 else none
noncomputable def JBy (G:List (Str×GK)) (names:List (Str×NameKind)) (it:Bool) (f:Str) (a:Expr):Option (XO×List Expr) :=
 if it=true then (if f="reversed"/\glob G names f=some .nam then some (.rev,[a]) else JFM G names f a)
 else if f="list"/\glob G names f=some (.ty .list) then (match a with
  | .Call (.Name r _) [b] [] _=>if r="reversed"/\glob G names r=some .nam then some (.rev,[b]) else none
  | _=>none)
 else JFM G names f a
noncomputable def xRaw (G:List (Str×GK)) (names:List (Str×NameKind)) (it:Bool):Expr->Option (XO×List Expr)
 | .Call (.Name f _) [a] [] _=>JBy G names it f a
 | _=>none
noncomputable def xOf (G:List (Str×GK)) (names:List (Str×NameKind)) (it:Bool) (e:Expr):Option (XO×List Expr) :=
 (xRaw G names it e).bind fun q=>if G.lookup q.1.flag=some GK.opt then some q else none
noncomputable def xTgt (G:List (Str×GK)) (names:List (Str×NameKind)):Expr->Option (XO×List Expr)
 | .Call (.Name f _) [a] [] _=>if f="enumerate"/\glob G names f=some .nam then some (.enm,[a]) else none
 | .Call (.Name f _) [a,b] [] _=>if f="zip"/\glob G names f=some .nam then some (.zip,[a,b]) else none
 | _=>none
noncomputable def xT (G:List (Str×GK)) (names:List (Str×NameKind)) (e:Expr):Option (XO×List Expr) :=
 (xTgt G names e).bind fun q=>if G.lookup q.1.flag=some GK.opt then some q else none
noncomputable def JAA (G:List (Str×GK)):Nat->Bool->List (Str×NameKind)->List Str->Expr->Option E
 | 0,_,_,_,_=>none
 | n+1,it,names,N,e=>match xOf G names it e with
  | some q=>(JAH (JAA G n false names N) q.2).map (E.xop q.1)
  | none=>match e with
  | .Name x _=>if JAP x=true then none else if vis (names.lookup x)=true then (idxOf x N).map E.var
    else (match glob G names x with
    | some (.con i)=>some (.glo i)
    | _=>none)
  | .Constant c _ _=>(match it,c with
   | false,.none=>some .cnon
   | false,.bool b=>some (.cbl b)
   | false,.int i=>some (.cint i)
   | false,.str x=>some (.cstr x)
   | _,_=>none)
  | .Tuple es _ _=>if es.length<=1000 then (JAH (JAA G n false names N) es).map E.tup else none
  | .List es _=>if es.length<=1000 then (JAH (JAA G n false names N) es).map E.lst else none
  | .Subscript a i _=>if isSlice i=true then (if JMs i=true then (JAA G n false names N a).map (E.fn1 .rev) else (sliceOf i).bind fun q=>(JAA G n false names N a).map (E.fn1 (.slice q.1 q.2))) else (JAA G n false names N a).bind fun x=>(JAA G n false names N i).bind fun y=>some (.idx x y)
  | .Call (.Name f _) args [] _=>(match glob G names f with
    | some (.fn i)=>(match args with
        | _::_=>(JAH (JAA G n false names N) args).map (E.call i)
        | []=>none)
    | some .rng=>if it=true/\f="range" then (match args with
        | [_]=>(JAH (JAA G n false names N) args).map E.rng
        | [_,_]=>(JAH (JAA G n false names N) args).map E.rng
        | _=>none) else none
    | some (.blt b)=>if it=false/\f=JNc b then (match args with
        | _::_=>(JAH (JAA G n false names N) args).map (E.blt b)
        | []=>none) else none
    | some .isi=>if it=false/\f="isinstance" then (match args with
        | [a,.Name t _]=>(match glob G names t with
         | some (.ty y)=>if JA4 y=some t then (JAA G n false names N a).map fun x=>.isi x y else none
         | some (.cls c)=>(JAA G n false names N a).map fun x=>.isi x (.own c)
         | _=>none)
        | _=>none) else none
    | some (.ty y)=>if it=false/\JA4 y=some f then (o1Of y).bind fun o=>(match args with
        | [a]=>(JAA G n false names N a).map (E.fn1 o)
        | _=>none) else none
    | _=>none)
  | .Dict ks vs _=>(match strKeys ks with
   | some xs=>if it=false/\G.lookup (".dct":Str)=some GK.opt/\1<=xs.length/\xs.length<=15/\xs.length=vs.length/\decide xs.Nodup=true then (JAH (JAA G n false names N) vs).map (E.dct xs) else none
   | none=>none)
  | .BinOp a op b _=>match (if it=false/\G.lookup (".rep":Str)=some GK.opt then JNk a op b else none) with
   | some (es,k)=>(JAH (JAA G n false names N) es).map (E.rep k)
   | none=>match JNb a op b with
    | some (x,y)=>if it=false then some (.cint (x ^ y.toNat)) else none
    | none=>if okBin op=true then (JAA G n false names N a).bind fun x=>(JAA G n false names N b).bind fun y=>some (.bin op x y) else none
  | .UnaryOp op a _=>(match it,op with
   | false,.USub=>(JAA G n false names N a).map .neg
   | false,.Not=>(JAA G n false names N a).map .not
   | _,_=>none)
  | .BoolOp op es _=>(match it,op with
   | false,.And=>JAs .and (JAA G n false names N) es
   | false,.Or=>JAs .or (JAA G n false names N) es
   | _,_=>none)
  | .Compare a [op] [b] _=>if it=true then none else (match op with
   | .Is=>(match b with
    | .Constant .none _ _=>(JAA G n false names N a).map fun x=>.isN x false
    | .Constant (.bool k) _ _=>(JAA G n false names N a).map fun x=>.isB x k
    | _=>none)
   | .IsNot=>(match b with
    | .Constant .none _ _=>(JAA G n false names N a).map fun x=>.isN x true
    | .Constant (.bool k) _ _=>(JAA G n false names N a).map fun x=>.isnB x k
    | _=>none)
   | _=>if behindInMarks op b=true then none else (JAA G n false names N a).bind fun x=>(JAA G n false names N b).bind fun y=>some (.cmp op x y))
  | .IfExp c a b _=>if it=true then none else (JAA G n false names N c).bind fun z=>(JAA G n false names N a).bind fun x=>(JAA G n false names N b).bind fun y=>some (.ife z x y)
  | .Call (.Attribute o m ap) [a] [] cp=>if it=false/\JBI o=false/\(ap.endLine==cp.line)=true then
    (if m="count" then (JAA G n false names N o).bind fun x=>(JAA G n false names N a).bind fun y=>some (.mcount x y)
     else if m="index" then (JAA G n false names N o).bind fun x=>(JAA G n false names N a).bind fun y=>some (.mindex x y) else none) else none
  | .Call (.Attribute o m ap) [a,b] [] cp=>if it=false/\JBI o=false/\(ap.endLine==cp.line)=true/\m="get" then
    (JAA G n false names N o).bind fun x=>(JAA G n false names N a).bind fun y=>(JAA G n false names N b).bind fun z=>some (.mget x y z) else none
  | .ListComp elt [⟨tg,iter,ifs,as⟩] sc _=>if it=true\/as≠0\/sc.kind≠.function then none else (match JBq tg with
   | none=>none
   | some (k,xs)=>if JBu names sc.names xs N=true then
      (itK k (xT G names iter) (JAH (JAA G n false names N)) (JAA G n true names N iter)).bind fun i =>
      (JAA G n false (JAi names sc.names) (xs++mask xs 0 N) elt).bind fun x =>
      (match ifs with
       | []=>some (.cmpr k x i (.cbl true))
       | [c]=>(JAA G n false (JAi names sc.names) (xs++mask xs 0 N) c).bind fun y=>some (.cmpr k x i y)
       | _=>none)
    else none)
  | _=>none
noncomputable def JDk:Option NameKind->Bool
 | some .local=>true
 | some .cell=>true
 | _=>false
noncomputable def slot (names:List (Str×NameKind)) (N:List Str) (x:Str):Option Nat:=if JDk (names.lookup x)=true then idxOf x N else none
noncomputable def slots (names:List (Str×NameKind)) (N:List Str):List Expr->Option (List Nat)
 | []=>some []
 | .Name x _::r=>(slot names N x).bind fun i=>(slots names N r).bind fun is=>some (i::is)
 | _=>none
noncomputable def JAe (f:Stmt->Option S):List Stmt->Option S
 | []=>some .nil
 | s::r=>(f s).bind fun a=>(JAe f r).bind fun b=>some (.cons a b)
noncomputable def JDQ:Expr->Bool
 | .ListComp ..=>true
 | _=>false
noncomputable def isTup:Expr->Bool
 | .Tuple ..=>true
 | _=>false
noncomputable def JDi:Expr->Bool
 | .List ..=>true
 | _=>false
noncomputable def JE1 (names:List (Str×NameKind)) (ts:List Expr) (e:Expr):Bool:=match ts,e with
 | [.Name x px,.Name y py],.Tuple [a,b] _ _=>names.lookup x==some .local&&names.lookup y==some .local&&px.line==py.line&&x != y&&!([a,b].all (foldedForSure 8))&&!([a,b].all (constantsAlone 8))
 | _,_=>false
noncomputable def JMD:Expr->Option (List Expr)
 | .Tuple es _ _=>some es
 | _=>none
noncomputable def JG1:Expr->Bool
 | .List [] _=>true
 | _=>false
noncomputable def JDX (names:List (Str×NameKind)) (ts es:List Expr):Bool:=match ts with
 | [.Name x px,.Name y py,.Name z pz]=>es.length==3&&names.lookup x==some .local&&names.lookup y==some .local&&names.lookup z==some .local&&px.line==py.line&&px.line==pz.line&&x != y&&x != z&&y != z&&!(es.all (foldedForSure 8))&&!(es.all (constantsAlone 8))
 | _::_::_::_::_=>ts.length==es.length&&decide (es.length<=1000)
 | _=>false
noncomputable def JDC (f:Expr->Option E):List Expr->List Nat->Option (E×Option Nat)
 | [],_=>some (.nil,none)
 | _::_,[]=>none
 | e::r,i::is=>if JG1 e=true then (JAH f r).bind fun b=>some (.cons .cnon b,some i) else (f e).bind fun a=>(JDC f r is).bind fun q=>some (.cons a q.1,q.2)
noncomputable def unpO (is:List Nat) (x:E):Option Nat->S
 | none=>.unp is (.tup x)
 | some i=>.cons (.unp is (.tup x)) (.asg i (.lst .nil))
noncomputable def JDx (e c:Option Expr):Option Str:=match e,c with
 | some (.Call (.Name x _) [.Constant (.str _) _ _] [] _),none=>some x
 | _,_=>none
noncomputable def handOf:List ExceptHandler->Option (Str×Str×Str)
 | [.ExceptHandler (some (.Name cn _)) (some en) [.Assign [.Name kn _] (.Name en2 _) _] _]=>if en2=en then some (cn,en,kn) else none
 | _=>none
noncomputable def JHh:Expr->Option (Str×Str×Expr)
 | .Call (.Attribute (.Name x _) m ap) [a] [] cp=>if (ap.endLine==cp.line)=true then some (x,m,a) else none
 | _=>none
noncomputable def JMu:Expr->Option (Str×Expr×Expr)
 | .Call (.Attribute (.Name x _) m ap) [a,b] [] cp=>if (ap.endLine==cp.line)=true/\m="insert" then some (x,a,b) else none
 | _=>none
noncomputable def docOf:Expr->Bool
 | .Constant (.str _) _ _=>true
 | _=>false
noncomputable def JGm:List Expr->Option (Sum Str (List Expr))
 | [.Name x _]=>some (.inl x)
 | [.Tuple ts _ _]=>some (.inr ts)
 | _=>none
noncomputable def JA2 (G:List (Str×GK)):Nat->Bool->List (Str×NameKind)->List Str->Stmt->Option S
 | 0,_,_,_,_=>none
 | n+1,zz,names,N,st=>match st with
  | .Pass _=>some .pass
  | .Break _=>some .brk
  | .Continue _=>some .cnt
  | .Return none _=>some .retN
  | .Return (some e) _=>(JAA G n false names N e).map S.ret
  | .Assign ts e _=>(match JGm ts with
   | some (.inl x)=>(slot names N x).bind fun i=>(JAA G n false names N e).bind fun y=>if y.fresh=true/\JDi e=false/\JDQ e=false then none else some (.asg i y)
   | some (.inr ts)=>(slots names N ts).bind fun is=>if decide is.Nodup=true/\(isTup e=false\/JE1 names ts e=true) then (JAA G n false names N e).map (S.unp is)
     else (JMD e).bind fun es=>if decide is.Nodup=true/\JDX names ts es=true then (JDC (JAA G n false names N) es is).map (fun q=>unpO is q.1 q.2) else none
   | none=>none)
  | .If c a b _=>(JAA G n false names N c).bind fun z=>(JAe (JA2 G n zz names N) a).bind fun x=>(JAe (JA2 G n zz names N) b).bind fun y=>some (.ife z x y)
  | .Expr e _=>(match JHh e with
   | some (x,m,a)=>if JAP x=false then
     (if m="append" then (slot names N x).bind fun i=>(JAA G n false names N a).map (S.app i)
      else if m="extend"/\JDQ a=false then (slot names N x).bind fun i=>(JAA G n false names N a).map (S.ext i) else none) else none
   | none=>(match JMu e with
    | some (x,a,b)=>if JAP x=false then (slot names N x).bind fun i=>(JAH (JAA G n false names N) [a,b]).map (S.ins i) else none
    | none=>if docOf e=true then some .pass else if JDQ e=true then none else (JAA G n false names N e).map S.drop))
  | .For tg iter body [] _=>(match JGm [tg] with
   | some (.inl x)=>(slot names N x).bind fun i=>(JAA G n true names N iter).bind fun e=>(JAe (JA2 G n zz names N) body).bind fun b=>some (.for1 i e b)
   | some (.inr ts)=>(slots names N ts).bind fun is=>(match xT G names iter with
    | some q=>(JAH (JAA G n false names N) q.2).map (E.xop q.1)
    | none=>JAA G n true names N iter).bind fun e=>(JAe (JA2 G n zz names N) body).bind fun b=>some (.forT is e b)
   | none=>none)
  | .While c body [] _=>(JAA G n false names N c).bind fun z=>(JAe (JA2 G n zz names N) body).bind fun b=>some (.whl z b)
  | .Raise e c _=>(JDx e c).bind fun x=>(match glob G names x with
    | some (.cls c)=>if zz=true then some (.rais c) else none
    | _=>none)
  | .Try body hs [] [] _=>(handOf hs).bind fun q =>
    if zz=true/\G.lookup (".try":Str)=some GK.opt/\JAP q.2.1=false/\names.lookup q.2.1=some .local then (match glob G names q.1 with
    | some (.cls c)=>(JAe (JA2 G n false names N) body).bind fun b=>(idxOf q.2.1 N).bind fun i=>(slot names N q.2.2).bind fun j =>
       if i=j then none else some (.tryx b c i (.cons (.asg j (.var i)) .nil))
    | _=>none) else none
  | _=>none
end VI
end
section
namespace VI
open PySem
def JA3 (cells:List (Str×Addr)):List (Str×NameKind)->List (Str×Addr)->List (Str×Addr)
 | [],cs=>cs
 |(n,k)::r,cs=>if (k==NameKind.free)=true then JA3 cells r ((n,(cells.lookup n).getD 0)::cs) else JA3 cells r cs
theorem JB7 {env:PySem.Env}:∀(names:List (Str×NameKind)) (cs:List (Str×Addr)),(∀n,(n,NameKind.free)∈names->(env.cells.lookup n).isSome=true) ->
  (forIn names cs (fun (x:Str×NameKind) (r:List (Str×Addr))=>if (x.2==NameKind.free)=true then (do let c<-cellOf env x.1;pure (ForInStep.yield ((x.1,c)::r))) else pure (ForInStep.yield r)):Sem (List (Str×Addr)))=pure (JA3 env.cells names cs)
 | [],cs,_=>rfl
 |(n,k)::r,cs,h=>by
  rw [List.forIn_cons]
  have ih:=fun cs=>JB7 (env:=env) r cs fun m hm=>h m (q_s _ hm)
  by_cases hk:(k==NameKind.free)=true
  · have e:k=.free:=eq_of_beq hk
    subst e
    have q:=h n List.mem_cons_self
    obtain ⟨c,hc⟩:=Option.isSome_iff_exists.mp q
    simp only [hk,if_true]
    have e2:cellOf env n=pure c:=by unfold cellOf;rw [hc]
    rw [e2,pure_bind,pure_bind]
    show (forIn r ((n,c)::cs) _:Sem _)=_
    rw [ih]
    show pure (JA3 env.cells r ((n,c)::cs))=pure (JA3 env.cells ((n,NameKind.free)::r) cs)
    rw [show JA3 env.cells ((n,NameKind.free)::r) cs=JA3 env.cells r ((n,(env.cells.lookup n).getD 0)::cs) from if_pos rfl,hc]
    rfl
  · rw [if_neg hk,pure_bind]
    show (forIn r cs _:Sem _)=_
    rw [ih]
    show _=pure (JA3 env.cells ((n,k)::r) cs)
    rw [show JA3 env.cells ((n,k)::r) cs=JA3 env.cells r cs from if_neg hk]
theorem JDv {env:PySem.Env} {sc:Scope} (h:∀n,(n,NameKind.free)∈sc.names->(env.cells.lookup n).isSome=true):closureFor sc env=pure (JA3 env.cells sc.names []):=by
 have:=JB7 (env:=env) sc.names [] h
 unfold closureFor
 first
  | exact this
  |(simp only [] at this ⊢;rw [show (forIn sc.names [] _:Sem (List (Str×Addr)))=_ from this];rfl)
  |(rw [this];rfl)
theorem JBW {cells:List (Str×Addr)} {x:Str}:∀(names:List (Str×NameKind)) (cs:List (Str×Addr)),(JA3 cells names cs).lookup x =
  if (x,NameKind.free)∈names then some ((cells.lookup x).getD 0) else cs.lookup x
 | [],cs=>by simp [JA3]
 |(n,k)::r,cs=>by
  unfold JA3
  by_cases hk:(k==NameKind.free)=true
  · have e:k=.free:=eq_of_beq hk
    subst e
    rw [if_pos hk,JBW r]
    by_cases hr:(x,NameKind.free)∈r
    ·rw [if_pos hr,if_pos (q_s _ hr)]
    ·rw [if_neg hr]
     by_cases hx:x=n
     ·subst hx
      rw [if_pos List.mem_cons_self,List.lookup_cons,beq_self_eq_true]
     ·have hb:(x==n)=false:=beq_eq_false_iff_ne.mpr hx
      rw [List.lookup_cons,hb,if_neg]
      intro hm
      rcases q_n.mp hm with e | e
      ·exact hx (Prod.mk.inj e).1
      ·exact hr e
  · rw [if_neg hk,JBW r]
    have:((x,NameKind.free)∈(n,k)::r)↔(x,NameKind.free)∈r:=by
     constructor
     ·intro hm
      rcases q_n.mp hm with e | e
      ·exfalso;apply hk;rw [<-(Prod.mk.inj e).2];rfl
      ·exact e
     ·exact q_s _
    simp only [this]
end VI
end
section
set_option maxRecDepth 100000
namespace VI
open PySem PySem.Spec PyProof.Rows L2
section
variable {X:Cx}
noncomputable def rCat2 (K:PySem.W.Frag):R2:=fun x y H Q=>∃a b xs ys,x=.ref a/\y=.ref b/\SqT K H a xs/\SqT K H b ys/\xs.length+ys.length<=sizeLine /\
 (xs=[]->Q (.ref b) H)/\(xs≠[]->ys=[]->Q (.ref a) H)/\(xs≠[]->ys≠[]->∀p,H p=none->Q (.ref p) (upd H p (.tup (xs++ys))))
theorem JJb:OpR X (binaryOp .Add) (rCat2 X.K):=by
 intro pins s σ H x y v u Q I rx ry h
 obtain ⟨a,b,xs,ys,e1,e2,ha,hb,hz,q0,q1,q2⟩:=h
 by_cases hx:xs=[]
 ·subst e1 e2
  cases rx
  cases ry
  obtain ⟨its,r1,p1,_⟩:=I.tuple ha
  obtain ⟨its2,r2,p2,_⟩:=I.tuple hb
  obtain ⟨⟨cls,dd,data,sl⟩,ho,hc,n,hd⟩:=id p1
  obtain ⟨⟨cls2,dd2,data2,sl2⟩,ho2,hc2,n2,hd2⟩:=id p2
  simp only at hc hd hc2 hd2
  subst hc hd hc2 hd2
  have hv:its=[]:=r1.nil_iff.mpr hx
  exact concat_meets ⟨_,ho,rfl⟩ ⟨_,ho2,rfl⟩ noFill_tuple_add seq_tuple_add PySem.F.slot_tuple_add PySem.F.entry_tuple_add (PySem.F.args_tuple_add_2 _ _)
   (tuple_addW0 a b its.toArray its2.toArray n n2 dd dd2 sl sl2 (by simp [hv])) ⟨ho,ho2,⟨.ref b,H,I,rfl,q0 hx⟩⟩
 ·exact JMc pins s σ H x y v u Q I rx ry ⟨a,b,xs,ys,e1,e2,ha,hb,hx,hz,q1 hx,q2 hx⟩
noncomputable def rCatL (K:PySem.W.Frag):R2:=fun x y H Q=>∃a b xs ys,x=.ref a/\y=.ref b/\SqL K H a xs/\SqL K H b ys/\xs.length+ys.length<=sizeLine/\∀p,H p=none->Q (.ref p) (upd H p (.lst (xs++ys)))
theorem JMa:OpR X (binaryOp .Add) (rCatL X.K):=by
 intro pins s σ H x y v u Q I rx ry h
 obtain ⟨a,b,xs,ys,rfl,rfl,ha,hb,hz,q⟩:=h
 cases rx
 cases ry
 obtain ⟨its,r,⟨⟨cls,dd,data,sl⟩,n,ho,hc,hdd,hd⟩,_⟩:=I.list ha
 obtain ⟨its2,r2,⟨⟨cls2,dd2,data2,sl2⟩,n2,ho2,hc2,hdd2,hd2⟩,_⟩:=I.list hb
 simp only at hc hd hc2 hd2
 subst hc hd hc2 hd2
 have e:its.toArray++its2.toArray=(its++its2).toArray:=by simp
 have hl:its.toArray.size+its2.toArray.size<=sizeLine:=by
  rw [q_f,q_f,<-r.length,<-r2.length];exact hz
 refine concat_meets ⟨_,ho,rfl⟩ ⟨_,ho2,rfl⟩ noFill_list_add seq_list_add PySem.F.slot_list_add PySem.F.entry_list_add (PySem.F.args_list_add_2 _ _) (list_addW a b its.toArray its2.toArray n n2 dd dd2 sl sl2 hl) ⟨ho,ho2,?_⟩
 rw [e]
 exact ⟨.ref _,_,I.lnew (t':=s.toks) (r.append r2) (by rw [q_u];omega),rfl,q _ I.fresh⟩
noncomputable def rRepL (K:PySem.W.Frag):R2:=fun x y H Q=>∃a k xs,x=.ref a/\y=.int k/\SqL K H a xs/\-(2 ^ 63)<=k/\k<2 ^ 63/\xs.length*k.toNat<=sizeLine/\∀p,H p=none->Q (.ref p) (upd H p (.lst (List.replicate k.toNat xs).flatten))
theorem JMe:OpR X (binaryOp .Mult) (rRepL X.K):=by
 intro pins s σ H x y v u Q I rx ry h
 obtain ⟨a,k,xs,rfl,rfl,ha,h1,h2,hz,q⟩:=h
 cases rx
 obtain ⟨t,rfl⟩:=ry
 obtain ⟨its,r,⟨⟨cls,dd,data,sl⟩,n,ho,hc,hdd,hd⟩,_⟩:=I.list ha
 simp only at hc hd
 subst hc hd
 have hlen:its.toArray.size*k.toNat<=sizeLine:=by rw [q_f,<-r.length];exact hz
 have hcap:¬its.toArray.size*k.toNat > (2 ^ 63 - 1) / 8:=by
  have:(sizeLine:Nat)<=(2 ^ 63 - 1) / 8:=by decide
  omega
 have hfit:¬(!Builtin.List.listFitsIndex k)=true:=by
  rw [fitsIndex_both h1 h2]
  exact Bool.false_ne_true
 have hlong:¬Builtin.List.listTooLong (its.toArray.size*k.toNat)=true:=by
  rw [JDc hlen]
  exact Bool.false_ne_true
 refine wpAny_binaryOp_repeat_ref (T:="list") (U:="int") (by decide) ⟨_,ho,rfl⟩ (fun s'=>typeIs_int s' k t) noFill_list_mul PySem.F.fills_int_mul PySem.F.slot_int_rmul repeat_list PySem.F.slot_int_index.lookup
  (call_meets PySem.F.slot_int_rmul (typeIs_int s k t) PySem.F.entry_int_rmul (PySem.F.args_int_rmul_2 _ _) (lm_int_rmul_list_any k t a its.toArray n dd sl)
    ⟨ho,rfl,⟨_,ho,rfl⟩,call_meets PySem.F.slot_list_mul ⟨_,ho,rfl⟩ PySem.F.entry_list_mul (PySem.F.args_list_mul_2 _ _) (lm_list_mul_any a its.toArray n dd sl k t hfit hcap hlong) ⟨ho,?_⟩⟩)
 rw [listMul_foldl_if]
 exact ⟨.ref _,_,I.lnew (t':=s.toks) (r.rep k.toNat) (by rw [len_rep,Nat.mul_comm];exact hz),rfl,q _ I.fresh⟩
theorem JCQ:fillsNumberSlot (.type "tuple") "mul"=pure false :=
 PySem.fillsNumberSlot_seq (id:="tuple.__mul__") (r:=some (.builtin "tuple.__rmul__")) PySem.F.slot_tuple_mul.lookup (by decide +kernel) PySem.F.slot_tuple_rmul.lookup (by decide +kernel)
theorem JE2:seqRepeat? (.type "tuple")=pure (some (.builtin "tuple.__mul__")):=by
 unfold seqRepeat?
 rw [PySem.seqSlot_of (T:="tuple") (name:="__mul__") (id:="tuple.__mul__") PySem.F.slot_tuple_mul.lookup (by decide +kernel),PySem.seqSlot_of (T:="tuple") (name:="__rmul__") (id:="tuple.__rmul__") PySem.F.slot_tuple_rmul.lookup (by decide +kernel)]
 rfl
theorem JDD (a:Int) (t:Tok) (l:Addr) (items:Array Value) (n:Nat) (d:Option Addr) (sl:Array (Option Value)) :
  Meets (Builtin.«int.__rmul__» ⟨[.int a t,.ref l],[]⟩) (fun _ R s=>s.heap.get? l=some { cls:=.type "tuple",dict:=d,data:=.seq items n,slots:=sl }/\R (.ok (.ret Value.notImplemented)) s) :=
 .of_wp fun prog w A R s h=>by obtain ⟨hp,g,d,tk,os⟩:=s;obtain ⟨hl,h⟩:=h;wp_walk;exact ⟨_,rfl,h⟩
theorem JD2 (l:Addr) (items:Array Value) (n:Nat) (d:Option Addr) (sl:Array (Option Value)) (x:Int) (u:Tok) (h1:2<=x) (h2:x<=1000) (h3:items.size<=1000) (h4:items.isEmpty=false) (h5:(List.foldl (fun x1 x2=>x1++x2) #[] (List.replicate x.toNat items)).size<=sizeLine) :
  Meets (Builtin.«tuple.__mul__» ⟨[.ref l,.int x u],[]⟩) (fun _ R s=>s.heap.get? l=some { cls:=.type "tuple",dict:=d,data:=.seq items n,slots:=sl }/\R (.ok (.ret (Value.ref s.heap.objs.size))) { s with heap:=s.heap.push { cls:=Value.type "tuple",data:=Data.seq (List.foldl (fun x1 x2=>x1++x2) #[] (List.replicate x.toNat items)) },toks:=s.toks }) :=
 .of_wp fun prog w A R s h=>by
  obtain ⟨hp,g,d,tk,os⟩:=s;obtain ⟨hl,h⟩:=h
  have c1:(decide (x < -(2 ^ 63)) || decide (x ≥ 2 ^ 63))=false:=by simp;omega
  have c2:(items.isEmpty || x==1)=false:=by rw [h4];simp;omega
  have c3:(decide (x<=0) || items.isEmpty)=false:=by rw [h4];simp;omega
  have c4:((items.size:Int)*x)<=1000*1000:=Int.mul_le_mul (by omega) h2 (by omega) (by omega)
  have c5:¬((items.size:Int)*x > (2 ^ 63 - 1) / 8):=by omega
  have c6:Builtin.Tuple.tupleTooMany ((items.size:Int)*x)=false:=by
   unfold Builtin.Tuple.tupleTooMany
   rw [sizeLine_eq]
   exact q_o (by omega)
  wp_walk
  rw [if_neg (by rw [c1];decide)]
  wp_walk
  rw [if_neg (by rw [c2];decide)]
  dsimp only
  rw [if_neg (by rw [c3];decide)]
  rw [if_neg c5]
  rw [if_neg (by rw [c6];decide)]
  unfold Builtin.Tuple.tupleExact
  refine q_b (wpAny_newObj_type (q_e ⟨_,rfl,h⟩) h5)
noncomputable def rRepT (K:PySem.W.Frag):R2:=fun x y H Q=>∃a k xs,x=.ref a/\y=.int k/\SqT K H a xs/\2<=k/\k<=1000/\xs.length<=1000/\xs≠[]/\∀p,H p=none->Q (.ref p) (upd H p (.tup (List.replicate k.toNat xs).flatten))
theorem JNR:OpR X (binaryOp .Mult) (rRepT X.K):=by
 intro pins s σ H x y v u Q I rx ry h
 obtain ⟨a,k,xs,rfl,rfl,ha,h1,h2,h3,h4,q⟩:=h
 cases rx
 obtain ⟨t,rfl⟩:=ry
 obtain ⟨its,r,⟨⟨cls,dd,data,sl⟩,ho,hc,n,hd⟩,_⟩:=I.tuple ha
 simp only at hc hd
 subst hc hd
 have hl:=r.length
 have he:its.toArray.isEmpty=false:=by
  cases its with
  | nil=>exact absurd (q_A.mp (by simpa using hl)) h4
  | cons _ _=>rfl
 have ef:List.foldl (fun x1 x2=>x1++x2) #[] (List.replicate k.toNat its.toArray)=(List.replicate k.toNat its).flatten.toArray:=by
  have:=listMul_foldl_if its.toArray k.toNat
  rw [he] at this
  simpa using this
 have hz:(List.replicate k.toNat its).flatten.length<=1000000:=by
  rw [len_rep]
  exact Nat.le_trans (Nat.mul_le_mul (show k.toNat<=1000 by omega) (show its.length<=1000 by omega)) (by decide)
 refine wpAny_binaryOp_repeat_ref (T:="tuple") (U:="int") (by decide) ⟨_,ho,rfl⟩ (fun s'=>typeIs_int s' k t) JCQ PySem.F.fills_int_mul PySem.F.slot_int_rmul JE2 PySem.F.slot_int_index.lookup
  (call_meets PySem.F.slot_int_rmul (typeIs_int s k t) PySem.F.entry_int_rmul (PySem.F.args_int_rmul_2 _ _) (JDD k t a its.toArray n dd sl)
    ⟨ho,rfl,⟨_,ho,rfl⟩,call_meets PySem.F.slot_tuple_mul ⟨_,ho,rfl⟩ PySem.F.entry_tuple_mul (PySem.F.args_tuple_mul_2 _ _) (JD2 a its.toArray n dd sl k t h1 h2 (by simp only [q_f];omega) he (by rw [ef,sizeLine_eq];simp only [q_f];omega)) ⟨ho,?_⟩⟩)
 rw [ef]
 refine ⟨.ref s.heap.objs.size,upd H s.heap.objs.size (.tup (List.replicate k.toNat xs).flatten),I.laid (t':=s.toks) (fun b u e=>q_c _ e) (q_t _) ?_,rfl,q _ I.fresh⟩
 exact ⟨by rw [(r.rep k.toNat).length,sizeLine_eq];omega,_,r.rep k.toNat,⟨_,q_k _ rfl,rfl,_,rfl⟩⟩
theorem JEw:∀ {vs:List V} {us:List Value},Vals vs us->∀n:Nat,Vals (vs.take n) (us.take n)
 | [],_,r,n=>by cases r;simp;exact .nil
 | v::vs,us,r,0=>by simp;exact .nil
 | v::vs,us,r,n+1=>by
  cases r with
  | cons p q=>exact .cons p (JEw q n)
theorem JE3:∀ {vs:List V} {us:List Value},Vals vs us->∀n:Nat,Vals (vs.drop n) (us.drop n)
 | [],_,r,n=>by cases r;simp;exact .nil
 | v::vs,us,r,0=>r
 | v::vs,us,r,n+1=>by
  cases r with
  | cons p q=>exact JE3 q n
noncomputable def insF (i:Int) (x:Value) (xs:Array Value):Array Value:=(xs.extract 0 (if i<0 then (i+xs.size).toNat else min i.toNat xs.size)).push x++xs.extract (if i<0 then (i+xs.size).toNat else min i.toNat xs.size)
theorem JHH {i:Int} {x:Value} {its:List Value} (h0:0<=i) (h1:i<=its.length):insF i x its.toArray=(its.take i.toNat++x::its.drop i.toNat).toArray:=by
 unfold insF
 rw [if_neg (by omega)]
 have e:min i.toNat its.toArray.size=i.toNat:=by simp only [q_f];omega
 rw [e]
 apply Array.ext'
 simp
 exact List.take_of_length_le (by simp)
theorem JEZ (l:Addr) (is:Array Value) (n:Nat) (i:Int) (t:Tok) (x:Value) (h0:0<=i) (h1:i<=is.size) (h2:is.size<sizeLine) (h3:(insF i x is).size<=sizeLine) :
  Meets (Builtin.«list.insert» ⟨[.ref l,.int i t,x],[]⟩) (fun _ R s=>s.heap.get? l=some ⟨.type "list",none,.seq is n,#[]⟩/\R (.ok (.ret Value.none)) { s with heap:=s.heap.update l (Obj.mapSeq (insF i x)),toks:=s.toks }) :=
 .of_wp fun prog w A R s h=>by
  obtain ⟨hp,g,d,tk,os⟩:=s
  obtain ⟨hl,h⟩:=h
  have hs:(sizeLine:Int)<=2 ^ 62:=by rw [sizeLine_eq];decide
  wp_walk
  rw [if_neg (by rw [fitsIndex_both (by omega) (by omega)];decide)]
  dsimp only
  refine q_b ?_
  show wpAny _ _ (updateSeq l (insF i x)) _ _ _
  exact wpAny_updateSeq hl rfl (q_e ⟨_,rfl,h⟩) (Nat.le_of_lt h2) (Nat.le_trans h3 (Nat.le_succ _))
noncomputable def rIns:V->List V->Hp->VK->Prop:=fun x vs H Q=>∃l xs i y,x=.ref l/\vs=[.int i,y]/\H l=some (.lst xs)/\0<=i/\i<=xs.length/\xs.length<sizeLine/\Q .non (upd H l (.lst (xs.take i.toNat++y::xs.drop i.toNat)))
theorem JNt:MtM X "list.insert" rIns:=by
 intro pins s σ H x vs v us Q I rx rv h
 obtain ⟨l,xs,i,y,rfl,rfl,hH,h0,h1,h2,q⟩:=h
 cases rx
 cases rv with
 | cons ri rr =>
  cases rr with
  | cons ry rn =>
   cases rn
   rename_i u
   obtain ⟨t,rfl⟩:=ri
   obtain ⟨z,its,n,r,hl,e⟩:=I.lstM hH
   have hlen:=r.length
   have ef:=JHH (x:=u) (its:=its) h0 (by omega)
   refine call_meets PySem.F.slot_list_insert ⟨_,e,rfl⟩ PySem.F.entry_list_insert (PySem.F.args_list_insert_3 _ _ _) (JEZ l its.toArray n i t _ h0 (by rw [q_f];omega) (by rw [q_f];omega) (by rw [ef];simp;omega)) ⟨e,?_⟩
   refine ⟨.non,_,I.lset hH e ef ((JEw r _).append (.cons ry (JE3 r _))) (by simp;omega),rfl,q⟩
theorem JE5 (l b:Addr) (is js:Array Value) (n m:Nat) (sl:Array (Option Value)) (h0:¬(!is.isEmpty&&Builtin.List.listTooLong (is.size+js.size))=true) (h1:is.size<=sizeLine) (h2:is.size+js.size<=sizeLine+1) :
  Meets (Builtin.«list.extend» ⟨[.ref l,.ref b],[]⟩) (fun _ R s=>s.heap.get? l=some ⟨.type "list",none,.seq is n,#[]⟩/\s.heap.get? b=some ⟨.type "list",none,.seq js m,sl⟩/\R (.ok (.ret Value.none)) { s with heap:=s.heap.update l (Obj.mapSeq fun x=>x++js),toks:=s.toks }) :=
 .of_wp fun prog w A R s h=>by
  obtain ⟨hp,g,d,tk,os⟩:=s
  obtain ⟨hl,hb,h⟩:=h
  have f1:=AutoSeq1.sub_list_list
  have f2:=AutoSeq1.sub_list_tuple
  have hz':(is++js).size<=sizeLine+1:=by rw [Array.size_append];exact h2
  wp_walk using (wpAny_updateSeq hl rfl (hz:=h1) (_hz':=hz')),AutoSeq1.wpAny_loadPart' hl,AutoSeq1.wpAny_loadPart' hb
  exact ⟨_,rfl,h⟩
noncomputable def rExtL (K:PySem.W.Frag):V->List V->Hp->VK->Prop:=fun x vs H Q=>∃l b xs zs,x=.ref l/\vs=[.ref b]/\H l=some (.lst xs)/\SqL K H b zs/\xs.length+zs.length<=sizeLine/\Q .non (upd H l (.lst (xs++zs)))
theorem JMK:MtM X "list.extend" (rExtL X.K):=by
 intro pins s σ H x vs v us Q I rx rv h
 obtain ⟨l,b,xs,zs,rfl,rfl,hH,hB,hz,q⟩:=h
 cases rx
 obtain ⟨u,rfl,ru⟩:=rv.one
 cases ru
 obtain ⟨z,its,n,r,hl,e⟩:=I.lstM hH
 obtain ⟨its2,r2,⟨⟨cls,dd,data,sl⟩,m,ho,hc,hdd,hd⟩,_⟩:=I.list hB
 simp only at hc hdd hd
 subst hc hdd hd
 have l2:=r2.length
 have hsz:its.toArray.size+its2.toArray.size<=sizeLine:=by rw [q_f,q_f];omega
 have hlong:¬(!its.toArray.isEmpty&&Builtin.List.listTooLong (its.toArray.size+its2.toArray.size))=true:=by
  rw [JDc hsz,Bool.and_false]
  exact Bool.false_ne_true
 refine call_meets PySem.F.slot_list_extend ⟨_,e,rfl⟩ PySem.F.entry_list_extend (PySem.F.args_list_extend_2 _ _)
  (JE5 l b its.toArray its2.toArray n m sl hlong (by rw [q_f];omega) (by omega)) ⟨e,ho,?_⟩
 refine ⟨.non,_,I.lset (its':=its++its2) hH e (by simp) (r.append r2) ?_,rfl,q⟩
 rw [q_u]
 omega
end
section
variable {prog:Program} {w:World} {A:Around} {E:Value->Shared->Prop} {s:Shared}
theorem JBp {t sl:Addr} {items:Array Value} {vl vu:Value} {lo hi:Option Int} {Q:Value->Shared->Prop} (ht:IsTup s.heap t items) (hs:s.heap.IsSliceOf sl vl vu .none) (pl:IsPart vl lo) (pu:IsPart vu hi)
  (hw:HT.sIx items.size 0 lo=0/\HT.sIx items.size items.size hi=items.size) (h:Q (.ref t) s):wpAny (model prog w) A (getItem (.ref t) (.ref sl)) Q E s:=by
 obtain ⟨os,hos,hcs,hds⟩:=id hs
 have hTs:s.TypeIs (.ref sl) "slice":=⟨os,hos,hcs⟩
 unfold getItem
 try with_reducible refine wpAny_holding ?_
 first | refine q_b (q_e ?_) | skip
 refine q_b (wpAny_sequenceKey ht.typeIs (by decide) ?_)
 refine q_b (wpAny_callSpecial?_slot (name:=Str.ofString "__getitem__") ht.typeIs PyProof.Rows.slot_tuple_getitem
  (wpAny_call_entry PyProof.Rows.slot_tuple_getitem ht.typeIs entry_tuple_getitem ?_ (args_tuple_getitem _ _)))
 show wpAny _ _ (Builtin.Tuple.tupleItemsOf (.ref t) >>= _) _ _ s
 refine q_b (tupleItemsOf_ ht ?_)
 refine q_b (wpAny_typeOf hTs ?_)
 rw [if_pos (by decide)]
 refine q_b (HT.sliceApplied_gen hs pl pu ?_)
 have hyes:(((HT.sIx items.size 0 lo:Nat):Int)==0&&(1:Int)==1&&(HT.sIx items.size items.size hi - HT.sIx items.size 0 lo)==items.size)=true:=by
  rw [hw.1,hw.2];simp
 show wpAny _ _ (if (((HT.sIx items.size 0 lo:Nat):Int)==0&&(1:Int)==1&&(HT.sIx items.size items.size hi - HT.sIx items.size 0 lo)==items.size)=true then _ else _) _ _ s
 rw [if_pos hyes]
 refine q_b ?_
 unfold Builtin.Tuple.tupleIsExact
 refine q_b (wpAny_typeOf ht.typeIs (q_e ?_))
 rw [if_pos (by decide)]
 refine q_b (wpAny_rule ?_)
 exact q_e ⟨_,rfl,q_e h⟩
end
section
variable {X:Cx}
noncomputable def rSlW (K:PySem.W.Frag):V->Option Int->Option Int->Hp->VK->Prop:=fun x lo hi H Q=>∃a xs,x=.ref a/\SqT K H a xs/\(HT.sIx xs.length 0 lo=0/\HT.sIx xs.length xs.length hi=xs.length)/\Q (.ref a) H
theorem JMp:SlR X (rSlW X.K):=by
 intro pins s σ H x v vl vu lo hi sl Q I rx hs pl pu h
 obtain ⟨a,xs,rfl,hx,hw,q⟩:=h
 cases rx
 obtain ⟨its,r,ht,hz⟩:=I.tuple hx
 have hlen:its.toArray.size=xs.length:=by rw [q_f];exact r.length.symm
 refine ⟨"tuple",_,PyProof.Rows.slot_tuple_getitem.lookup,ht.typeIs,?_⟩
 exact JBp ht hs pl pu (by rw [hlen];exact hw) ⟨.ref a,H,I,rfl,q⟩
end
end VI
end
section
set_option maxRecDepth 100000
namespace VI
open PySem PySem.Spec PyProof.Rows L2
abbrev St:=L2.St
structure Bs where
 K:PySem.W.Frag
 cl:Nat->Addr
 w:World
noncomputable def ExcAt (a C:Addr) (h:Heap):Prop:=∃o,h.get? a=some o/\o.cls=.ref C
noncomputable def SqD (K:PySem.W.Frag) (w:World) (H:Hp) (a:Addr) (xs:List (Key×V)):Prop :=
 Rd H a (.dK xs)\/∀(P:Program) (h:Heap),K.In h->(a==sysModules)=false/\∃vs,KV xs vs/\h.DictOf (JBC P w) a vs
mutual
noncomputable def Den (B:Bs) (H:Hp):D->V->Prop
 | .none,v=>v=.non
 | .bool b,v=>v=.bl b
 | .int i,v=>v=.int i
 | .str x,v=>v=.str x
 | .tuple ds,v=>∃a xs,v=.ref a/\SqT B.K H a xs/\DenL B H ds xs
 | .list ds,v=>∃a xs,v=.ref a/\SqL B.K H a xs/\DenL B H ds xs
 | .dict kvs,v=>(∃a c,v=.ref a/\kvs=[(.none,.int ((c:Nat):Int))]/\H a=some (.ext (ExcAt a (B.cl c))))\/∃a xs,v=.ref a/\SqD B.K B.w H a xs/\DenK B H kvs xs
noncomputable def DenL (B:Bs) (H:Hp):List D->List V->Prop
 | [],vs=>vs=[]
 | d::ds,vs=>∃v r,vs=v::r/\Den B H d v/\DenL B H ds r
noncomputable def DenK (B:Bs) (H:Hp):List (D×D)->List (Key×V)->Prop
 | [],vs=>vs=[]
 |(k,d)::ds,vs=>∃x v r,vs=(Sum.inr x,v)::r/\k=.str x/\Den B H d v/\DenK B H ds r
end
theorem JIz {K:PySem.W.Frag} {H H':Hp} {a:Addr} {xs:List V} (e:Same H H') (h:SqT K H a xs):SqT K H' a xs:=by
 rcases h with (h | ⟨o,h⟩) | h
 ·exact .inl (.inl (e _ _ h))
 ·exact .inl (.inr ⟨o,e _ _ h⟩)
 ·exact .inr h
theorem JQi {K:PySem.W.Frag} {w:World} {H H':Hp} {a:Addr} {xs:List (Key×V)} (e:Same H H') (h:SqD K w H a xs):SqD K w H' a xs:=by
 rcases h with (h | ⟨o,h⟩) | h
 ·exact .inl (.inl (e _ _ h))
 ·exact .inl (.inr ⟨o,e _ _ h⟩)
 ·exact .inr h
mutual
theorem Den.mono {B:Bs} {H H':Hp} (s:Same H H'):∀(d:D) (v:V),Den B H d v->Den B H' d v
 | .none,_,h=>h
 | .bool _,_,h=>h
 | .int _,_,h=>h
 | .str _,_,h=>h
 | .tuple ds,v,h=>by
  simp only [Den] at h ⊢
  obtain ⟨a,xs,e,q,l⟩:=h
  exact ⟨a,xs,e,JIz s q,DenL.mono s ds xs l⟩
 | .list ds,v,h=>by
  simp only [Den] at h ⊢
  obtain ⟨a,xs,e,q,l⟩:=h
  exact ⟨a,xs,e,s.seq q,DenL.mono s ds xs l⟩
 | .dict kvs,v,h=>by
  simp only [Den] at h ⊢
  rcases h with ⟨a,c,e,k,q⟩ | ⟨a,xs,e,q,l⟩
  ·exact .inl ⟨a,c,e,k,s _ _ q⟩
  ·exact .inr ⟨a,xs,e,JQi s q,DenK.mono s kvs xs l⟩
theorem DenL.mono {B:Bs} {H H':Hp} (s:Same H H'):∀(ds:List D) (vs:List V),DenL B H ds vs->DenL B H' ds vs
 | [],_,h=>h
 | d::ds,vs,h=>by
  simp only [DenL] at h ⊢
  obtain ⟨v,r,e,q,l⟩:=h
  exact ⟨v,r,e,Den.mono s d v q,DenL.mono s ds r l⟩
theorem DenK.mono {B:Bs} {H H':Hp} (s:Same H H'):∀(ds:List (D×D)) (vs:List (Key×V)),DenK B H ds vs->DenK B H' ds vs
 | [],_,h=>h
 |(k,d)::ds,vs,h=>by
  simp only [DenK] at h ⊢
  obtain ⟨x,v,r,e,e',q,l⟩:=h
  exact ⟨x,v,r,e,e',Den.mono s d v q,DenK.mono s ds r l⟩
end
theorem DenL.len {B:Bs} {H:Hp}:∀(ds:List D) (vs:List V),DenL B H ds vs->ds.length=vs.length
 | [],_,h=>by simp only [DenL] at h;subst h;rfl
 | d::ds,vs,h=>by
  simp only [DenL] at h
  obtain ⟨v,r,e,q,l⟩:=h
  subst e
  simp only [List.length_cons,DenL.len ds r l]
theorem DenL.get {B:Bs} {H:Hp}:∀(ds:List D) (vs:List V) (i:Nat) (d:D),DenL B H ds vs->ds[i]? = some d->∃v,vs[i]? = some v/\Den B H d v
 | [],_,_,_,_,e=>by simp at e
 | d::ds,vs,i,x,h,e=>by
  simp only [DenL] at h
  obtain ⟨v,r,e1,q,l⟩:=h
  subst e1
  cases i with
  | zero =>
   simp only [List.getElem?_cons_zero,q_j] at e
   subst e
   exact ⟨v,rfl,q⟩
  | succ i =>
   simp only [List.getElem?_cons_succ] at e
   obtain ⟨u,e2,q2⟩:=DenL.get ds r i x l e
   exact ⟨u,by simpa using e2,q2⟩
theorem DenL.append {B:Bs} {H:Hp}:∀(ds es:List D) (vs us:List V),DenL B H ds vs->DenL B H es us->DenL B H (ds++es) (vs++us)
 | [],es,_,us,h,h2=>by simp only [DenL] at h;subst h;exact h2
 | d::ds,es,vs,us,h,h2=>by
  simp only [DenL,List.cons_append] at h ⊢
  obtain ⟨v,r,e,q,l⟩:=h
  subst e
  exact ⟨v,r++us,rfl,q,DenL.append ds es r us l h2⟩
mutual
theorem Den.reads {B:Bs} {X:Cx} {pins:List (Addr×Obj)} {σ:St} {H:Hp} {s:Shared} (hK:X.K=B.K) (I:Inv X pins σ H s) :
  ∀(d:D) (v:V) (u:Value),d.canLay0=true->Den B H d v->RelV v u->∃as,Reads s.heap u d as
 | .none,v,u,_,h,r=>by simp only [Den] at h;subst h;cases r;exact ⟨_,.none⟩
 | .bool b,v,u,_,h,r=>by simp only [Den] at h;subst h;cases r;exact ⟨_,.bool b⟩
 | .int i,v,u,_,h,r=>by simp only [Den] at h;subst h;obtain ⟨t,rfl⟩:=r;exact ⟨_,.int i t⟩
 | .str x,v,u,_,h,r=>by simp only [Den] at h;subst h;obtain ⟨t,rfl⟩:=r;exact ⟨_,.str x t⟩
 | .tuple ds,v,u,c,h,r=>by
  simp only [Den] at h
  obtain ⟨a,xs,e,q,l⟩:=h
  subst e
  cases r
  obtain ⟨its,rv,⟨o,h1,h2,n,h3⟩,_⟩:=I.tuple (hK▸q)
  obtain ⟨as,ra⟩:=DenL.reads hK I ds xs its (by simpa only [PyData.canLay0] using c) l rv
  exact ⟨as,.tuple h1 h2 h3 (by simpa using ra)⟩
 | .list ds,v,u,c,h,r=>by
  simp only [Den] at h
  obtain ⟨a,xs,e,q,l⟩:=h
  subst e
  cases r
  obtain ⟨its,rv,⟨o,n,h1,h2,_,h3⟩,_⟩:=I.list (hK▸q)
  obtain ⟨as,ra⟩:=DenL.reads hK I ds xs its (by simpa only [PyData.canLay0] using c) l rv
  exact ⟨a::as,.list h1 h2 h3 (by simpa using ra)⟩
 | .dict kvs,v,u,c,h,r=>by simp only [PyData.canLay0] at c;cases c
theorem DenL.reads {B:Bs} {X:Cx} {pins:List (Addr×Obj)} {σ:St} {H:Hp} {s:Shared} (hK:X.K=B.K) (I:Inv X pins σ H s) :
  ∀(ds:List D) (vs:List V) (us:List Value),PyData.canLayAll0 ds=true->DenL B H ds vs->Vals vs us->∃as,ReadsAll s.heap us ds as
 | [],vs,us,_,h,r=>by simp only [DenL] at h;subst h;cases r;exact ⟨_,.nil⟩
 | d::ds,vs,us,c,h,r=>by
  simp only [DenL] at h
  obtain ⟨v,t,e,q,l⟩:=h
  subst e
  simp only [PyData.canLayAll0,q_i] at c
  cases r with
  | cons r1 r2 =>
   obtain ⟨as,h1⟩:=Den.reads hK I d v _ c.1 q r1
   obtain ⟨bs,h2⟩:=DenL.reads hK I ds t _ c.2 l r2
   exact ⟨_,.cons h1 h2⟩
end
noncomputable def KE (B:Bs) (XX:Nat->Hp->Prop) (r:R D) (H:Hp) (Q:VK):Prop:=match r with
 | .ok d=>∀v H',Same H H'->Den B H' d v->Q v H'
 | .exc c=>XX c H
 | .bad=>False
noncomputable def KL (B:Bs) (XX:Nat->Hp->Prop) (r:R (List D)) (H:Hp) (Q:List V->Hp->Prop):Prop:=match r with
 | .ok ds=>∀vs H',Same H H'->DenL B H' ds vs->Q vs H'
 | .exc c=>XX c H
 | .bad=>False
noncomputable def KB (XX:Nat->Hp->Prop) (r:R Bool) (H:Hp) (Q:Bool->Hp->Prop):Prop:=match r with
 | .ok b=>∀H',Same H H'->Q b H'
 | .exc c=>XX c H
 | .bad=>False
noncomputable def Sok (B:Bs) (σ:St) (H:Hp) (δ:Env):Prop:=∀i d,look δ i=.ok d->∃v,σ[i]? = some (some v)/\Den B H d v
theorem Sok.mono {B:Bs} {σ:St} {H H':Hp} {δ:Env} (h:Sok B σ H δ) (s:Same H H'):Sok B σ H' δ:=fun i d e =>
 let ⟨v,e1,q⟩:=h i d e
 ⟨v,e1,Den.mono s d v q⟩
noncomputable def JCL (B:Bs) (n:Nat) (fn:List D->R D):Sp:=fun vs H Q E=>vs.length=n/\∃ds,DenL B H ds vs/\(match fn ds with
 | .ok d=>∀v H',Same H H'->Den B H' d v->Q v H'
 | .exc c=>∀H',Same H H'->E (.ref (B.cl c)) none H'
 | .bad=>False)
noncomputable def EX (B:Bs) (XX:Nat->Hp->Prop):XK:=fun u _ H=>∃c,u=.ref (B.cl c)/\XX c H
structure Gk (X:Cx) (B:Bs) (C:Cn) (CX:CXT) (XX:Nat->Hp->Prop) (G:List (Str×GK)):Prop where
 K:X.K=B.K
 W:X.w=B.w
 anti:∀c H H',Same H H'->XX c H->XX c H'
 units:X.A.units+200<cLine
 calm:X.calm=true
 fn:∀x i,G.lookup x=some (.fn i)->∃f fd ps k,X.mg x=some (.ref f)/\PySem.W.keepIn X.K (.ref f)=true /\
  FnOk X.prog X.w X.K X.mg X.base CX k f fd ps (JCL B ps.length (C.fn i))/\Room k X.A/\Binds X.K fd ps []/\∀ds,C.fn i ds≠.bad->ds.length=ps.length
 pas:JDL CX X (EX B XX)
 con:∀x i d,G.lookup x=some (.con i)->C.glo i=.ok d->∃u v,X.mg x=some u/\RelV v u/\∀H,Den B H d v
 noexg:∀i c,C.glo i≠.exc c
 blt:∀x b,G.lookup x=some (.blt b)->X.mg x=none
 rng:∀x,G.lookup x=some .rng->X.mg x=none
 isi:∀x,G.lookup x=some .isi->X.mg x=none
 ty:∀x t,G.lookup x=some (.ty t)->X.mg x=none
 cls:∀x c,G.lookup x=some (.cls c)->X.mg x=some (.ref (B.cl c))
 nam:∀x,G.lookup x=some .nam->X.mg x=none
section
variable {X:Cx} {B:Bs} {C:Cn} {CX:CXT} {XX:Nat->Hp->Prop} {G:List (Str×GK)}
noncomputable def RE (B:Bs) (C:Cn) (XX:Nat->Hp->Prop) (e:E):TE:=fun σ H Q=>∃δ,Sok B σ H δ/\KE B XX (ev C e δ) H Q
noncomputable def RT (B:Bs) (C:Cn) (XX:Nat->Hp->Prop) (e:E):TT:=fun σ H Q=>∃δ,Sok B σ H δ/\KB XX (evT C e δ) H Q
noncomputable def RA (B:Bs) (C:Cn) (XX:Nat->Hp->Prop) (e:E):TA:=fun σ H Q=>∃δ,Sok B σ H δ/\KL B XX (evA C e δ) H Q
theorem PE.imp {e:Expr} {t t':TE} (h:PE X e t) (i:∀σ H Q,t' σ H Q->t σ H Q):PE X e t':=fun pins s σ H Q I q=>h pins s σ H Q I (i σ H Q q)
theorem PT.imp {e:Expr} {t t':TT} (h:PT X e t) (i:∀σ H Q,t' σ H Q->t σ H Q):PT X e t':=fun pins s σ H Q I q=>h pins s σ H Q I (i σ H Q q)
theorem PA.imp {e:List Expr} {t t':TA} (h:PA X e t) (i:∀σ H Q,t' σ H Q->t σ H Q):PA X e t':=fun pos pins s σ H Q I q=>h pos pins s σ H Q I (i σ H Q q)
theorem RE.of {e:E} {δ:Env} {σ:St} {H:Hp} {Q:VK} {α:Type} {f:D->R α} {W:R α->Hp->Prop} (ok:Sok B σ H δ)
  (hx:∀c H,W (.exc c) H->XX c H) (hb:∀H,W .bad H->False) (h:W ((ev C e δ).bind f) H)
  (go:∀d v H1,Same H H1->Den B H1 d v->W (f d) H->Q v H1):RE B C XX e σ H Q:=by
 refine ⟨δ,ok,?_⟩
 cases q:ev C e δ with
 | ok d =>
  rw [q] at h
  exact fun v H1 s1 d1=>go d v H1 s1 d1 h
 | exc c =>
  rw [q] at h
  exact hx c H h
 | bad =>
  rw [q] at h
  exact (hb H h).elim
theorem RT.of {e:E} {δ:Env} {σ:St} {H:Hp} {Q:Bool->Hp->Prop} {α:Type} {f:Bool->R α} {W:R α->Hp->Prop} (ok:Sok B σ H δ)
  (hx:∀c H,W (.exc c) H->XX c H) (hb:∀H,W .bad H->False) (h:W ((evT C e δ).bind f) H)
  (go:∀b H1,Same H H1->W (f b) H->Q b H1):RT B C XX e σ H Q:=by
 refine ⟨δ,ok,?_⟩
 cases q:evT C e δ with
 | ok d =>
  rw [q] at h
  exact fun H1 s1=>go d H1 s1 h
 | exc c =>
  rw [q] at h
  exact hx c H h
 | bad =>
  rw [q] at h
  exact (hb H h).elim
theorem RA.of {e:E} {δ:Env} {σ:St} {H:Hp} {Q:List V->Hp->Prop} {α:Type} {f:List D->R α} {W:R α->Hp->Prop} (ok:Sok B σ H δ)
  (hx:∀c H,W (.exc c) H->XX c H) (hb:∀H,W .bad H->False) (h:W ((evA C e δ).bind f) H)
  (go:∀ds vs H1,Same H H1->DenL B H1 ds vs->W (f ds) H->Q vs H1):RA B C XX e σ H Q:=by
 refine ⟨δ,ok,?_⟩
 cases q:evA C e δ with
 | ok d =>
  rw [q] at h
  exact fun v H1 s1 d1=>go d v H1 s1 d1 h
 | exc c =>
  rw [q] at h
  exact hx c H h
 | bad =>
  rw [q] at h
  exact (hb H h).elim
theorem KE.mono (g:Gk X B C CX XX G) {r:R D} {H H':Hp} {Q:VK} (s:Same H H') (h:KE B XX r H Q):KE B XX r H' Q:=by
 cases r with
 | ok d=>exact fun v H2 s2 d2=>h v H2 (s.trans s2) d2
 | exc c=>exact g.anti c H H' s h
 | bad=>exact h
theorem KB.mono (g:Gk X B C CX XX G) {r:R Bool} {H H':Hp} {Q:Bool->Hp->Prop} (s:Same H H') (h:KB XX r H Q):KB XX r H' Q:=by
 cases r with
 | ok d=>exact fun H2 s2=>h H2 (s.trans s2)
 | exc c=>exact g.anti c H H' s h
 | bad=>exact h
theorem KL.mono (g:Gk X B C CX XX G) {r:R (List D)} {H H':Hp} {Q:List V->Hp->Prop} (s:Same H H') (h:KL B XX r H Q):KL B XX r H' Q:=by
 cases r with
 | ok d=>exact fun v H2 s2 d2=>h v H2 (s.trans s2) d2
 | exc c=>exact g.anti c H H' s h
 | bad=>exact h
theorem KE.exc {c:Nat} {H:Hp} {Q:VK} (h:KE B XX (.exc c) H Q):XX c H:=h
theorem KE.ok {d:D} {v:V} {H:Hp} {Q:VK} (h:KE B XX (.ok d) H Q) (q:Den B H d v):Q v H:=h v H (Same.refl H) q
theorem two (g:Gk X B C CX XX G) {a b:E} {σ:St} {H:Hp} {Q:VK} {f:D->D->R D} {r:R2}
  (hr:∀x y H dx dy,Den B H dx x->Den B H dy y->KE B XX (f dx dy) H Q->r x y H Q) :
  (∃δ,Sok B σ H δ/\KE B XX ((ev C a δ).bind fun x=>(ev C b δ).bind fun y=>f x y) H Q)->tOp r (RE B C XX a) (RE B C XX b) σ H Q:=by
 rintro ⟨δ,ok,h⟩
 refine RE.of (W:=fun r H=>KE B XX r H Q) ok (fun _ _ z=>z) (fun _ z=>z) h fun dx x H1 s1 d1 h1=>?_
 refine RE.of (W:=fun r H=>KE B XX r H Q) (ok.mono s1) (fun _ _ z=>z) (fun _ z=>z) (KE.mono g s1 h1) fun dy y H2 s2 d2 h2=>?_
 exact hr x y H2 dx dy (Den.mono s2 dx x d1) d2 (KE.mono g s2 h2)
theorem DenL.repN {H:Hp} {ds:List D} {vs:List V} (h:DenL B H ds vs):∀k:Nat,DenL B H (List.replicate k ds).flatten (List.replicate k vs).flatten
 | 0=>by simp only [List.replicate_zero,List.flatten_nil,DenL]
 | k+1=>by
  simp only [List.replicate_succ,List.flatten_cons]
  exact DenL.append _ _ _ _ h (DenL.repN h k)
theorem binOk (g:Gk X B C CX XX G) (op:Operator):OpR X (binaryOp op) (fun x y H Q=>∃dx dy,Den B H dx x/\Den B H dy y/\KE B XX (binD op dx dy) H Q):=by
 intro pins s σ H x y v u Q I rx ry ⟨dx,dy,hx,hy,k⟩
 cases dx<;>cases dy<;>first
  |(exfalso;cases op<;>exact k)
  | skip
 case list.list xs ys =>
  cases op<;>first
   | exact False.elim k
   | skip
  simp only [binD] at k
  split at k
  ·rename_i hz
   simp only [Den] at hx hy
   obtain ⟨a,us,e1,q1,l1⟩:=hx
   obtain ⟨c,ws,e2,q2,l2⟩:=hy
   subst e1;subst e2
   have n1:=DenL.len _ _ l1
   have n2:=DenL.len _ _ l2
   refine JMa pins s σ H _ _ v u Q I rx ry ⟨a,c,us,ws,rfl,rfl,g.K▸q1,g.K▸q2,by rw [sizeLine_eq];omega,fun p hp=>?_⟩
   have sm:Same H (upd H p (.lst (us++ws))):=fun b o e=>by rw [JAF (JAT e hp)];exact e
   refine k _ _ sm ?_
   simp only [Den]
   exact ⟨p,_,rfl,SqL.of JAC,DenL.append _ _ _ _ (DenL.mono sm _ _ l1) (DenL.mono sm _ _ l2)⟩
  ·exact k.elim
 case list.int xs j =>
  cases op<;>first
   | exact False.elim k
   | skip
  simp only [binD] at k
  split at k
  ·rename_i hz
   simp only [Den] at hx hy
   obtain ⟨a,us,e1,q1,l1⟩:=hx
   subst e1;subst hy
   have n1:=DenL.len _ _ l1
   refine JMe pins s σ H _ _ v u Q I rx ry ⟨a,j,us,rfl,rfl,g.K▸q1,by omega,by omega,by rw [sizeLine_eq,<-n1];exact hz.2.2,fun p hp=>?_⟩
   have sm:Same H (upd H p (.lst (List.replicate j.toNat us).flatten)):=fun b o e=>by rw [JAF (JAT e hp)];exact e
   refine k _ _ sm ?_
   simp only [Den]
   exact ⟨p,_,rfl,SqL.of JAC,DenL.repN (DenL.mono sm _ _ l1) _⟩
  ·exact k.elim
 case tuple.int xs j =>
  cases op<;>first
   | exact False.elim k
   | skip
  simp only [binD] at k
  split at k
  ·rename_i hz
   simp only [Den] at hx hy
   obtain ⟨a,us,e1,q1,l1⟩:=hx
   subst e1;subst hy
   have n1:=DenL.len _ _ l1
   refine JNR pins s σ H _ _ v u Q I rx ry ⟨a,j,us,rfl,rfl,g.K▸q1,hz.1,hz.2.1,by omega,fun z=>hz.2.2.2 (by rw [z] at n1;exact q_A.mp n1),fun p hp=>?_⟩
   have sm:Same H (upd H p (.tup (List.replicate j.toNat us).flatten)):=fun b o e=>by rw [JAF (JAT e hp)];exact e
   refine k _ _ sm ?_
   simp only [Den]
   exact ⟨p,_,rfl,SqT.of JAC,DenL.repN (DenL.mono sm _ _ l1) _⟩
  ·exact k.elim
 case tuple.tuple xs ys =>
  cases op<;>first
   | exact False.elim k
   | skip
  simp only [binD] at k
  split at k
  ·rename_i hz
   simp only [Den] at hx hy
   obtain ⟨a,us,e1,q1,l1⟩:=hx
   obtain ⟨c,ws,e2,q2,l2⟩:=hy
   subst e1;subst e2
   have n1:=DenL.len _ _ l1
   have n2:=DenL.len _ _ l2
   refine JJb pins s σ H _ _ v u Q I rx ry ⟨a,c,us,ws,rfl,rfl,g.K▸q1,g.K▸q2,by rw [sizeLine_eq];omega,fun h=>?_,fun h h2=>?_,fun h h2 p hp=>?_⟩
   · have:xs=[]:=by rw [h] at n1;exact List.eq_nil_of_length_eq_zero n1
     subst this
     refine k _ _ (Same.refl H) ?_
     simp only [Den,List.nil_append]
     exact ⟨c,ws,rfl,q2,l2⟩
   · have:ys=[]:=by rw [h2] at n2;exact List.eq_nil_of_length_eq_zero n2
     subst this
     refine k _ _ (Same.refl H) ?_
     simp only [Den,List.append_nil]
     exact ⟨a,us,rfl,q1,l1⟩
   · have sm:Same H (upd H p (.tup (us++ws))):=fun b o e=>by rw [JAF (JAT e hp)];exact e
     refine k _ _ sm ?_
     simp only [Den]
     exact ⟨p,_,rfl,SqT.of JAC,DenL.append _ _ _ _ (DenL.mono sm _ _ l1) (DenL.mono sm _ _ l2)⟩
  ·exact k.elim
 rename_i i j
 simp only [Den] at hx hy
 subst hx;subst hy
 cases op<;>first
  | exact False.elim k
  | skip
 ·exact JPU pins s σ H _ _ v u Q I rx ry ⟨i,j,rfl,rfl,KE.ok k (by simp only [Den])⟩
 ·exact JNn pins s σ H _ _ v u Q I rx ry ⟨i,j,rfl,rfl,KE.ok k (by simp only [Den])⟩
 ·simp only [binD] at k
  split at k
  ·rename_i hm
   obtain ⟨t,rfl⟩:=rx
   obtain ⟨t',rfl⟩:=ry
   exact mul_int ⟨.int _,H,I.tok _,⟨_,rfl⟩,KE.ok k (by simp only [Den])⟩ hm
  ·exact k.elim
 ·simp only [binD] at k
  split at k
  ·rename_i hm
   exact JMJ pins s σ H _ _ v u Q I rx ry ⟨i,j,rfl,rfl,hm,KE.ok k (by simp only [Den])⟩
  ·exact k.elim
 ·simp only [binD] at k
  split at k
  ·rename_i hm
   obtain ⟨t,rfl⟩:=rx
   obtain ⟨t',rfl⟩:=ry
   exact floordiv_int hm.1 ⟨.int _,H,I.tok _,⟨_,rfl⟩,KE.ok k (by simp only [Den])⟩ (.inl hm.2)
  ·exact k.elim
theorem JHj (g:Gk X B C CX XX G):X.A.units+64<cLine:=by have:=g.units;omega
theorem JN5 (g:Gk X B C CX XX G) (op:CmpOp):OpR X (compareOp op) (fun x y H Q=>∃dx dy,Den B H dx x/\Den B H dy y/\KE B XX (cmpD op dx dy) H Q):=by
 intro pins s σ H x y v u Q I rx ry ⟨dx,dy,hx,hy,k⟩
 cases op with
 | Eq =>
  simp only [cmpD] at k
  split at k
  ·rename_i hs
   simp only [q_i] at hs
   have c1:dx.canLay0=true:=(Bool.and_eq_true_iff.mp hs.1).1
   have c2:dy.canLay0=true:=(Bool.and_eq_true_iff.mp hs.2).1
   obtain ⟨as,ra⟩:=Den.reads g.K I dx x v c1 hx rx
   obtain ⟨bs,rb⟩:=Den.reads g.K I dy y u c2 hy ry
   exact SeqAt.compareEq_shaped ra rb hs.1 hs.2 (JHj g) ⟨.bl _,H,I,rfl,KE.ok k (by simp only [Den])⟩
  ·exact k.elim
 | NotEq =>
  simp only [cmpD] at k
  split at k
  ·rename_i hs
   simp only [q_i] at hs
   have c1:dx.canLay0=true:=(Bool.and_eq_true_iff.mp hs.1).1
   have c2:dy.canLay0=true:=(Bool.and_eq_true_iff.mp hs.2).1
   obtain ⟨as,ra⟩:=Den.reads g.K I dx x v c1 hx rx
   obtain ⟨bs,rb⟩:=Den.reads g.K I dy y u c2 hy ry
   exact SeqAt.compareNe_shaped ra rb hs.1 hs.2 (JHj g) ⟨.bl _,H,I,rfl,KE.ok k (by simp only [Den])⟩
  ·exact k.elim
 | Lt =>
  cases dx<;>cases dy<;>first | exact False.elim k | skip
  rename_i i j
  simp only [Den] at hx hy
  subst hx;subst hy
  exact op_lt pins s σ H _ _ v u Q I rx ry ⟨i,j,rfl,rfl,KE.ok k (by simp only [Den])⟩
 | LtE =>
  cases dx<;>cases dy<;>first | exact False.elim k | skip
  rename_i i j
  simp only [Den] at hx hy
  subst hx;subst hy
  exact op_le pins s σ H _ _ v u Q I rx ry ⟨i,j,rfl,rfl,KE.ok k (by simp only [Den])⟩
 | Gt =>
  cases dx<;>cases dy<;>first | exact False.elim k | skip
  rename_i i j
  simp only [Den] at hx hy
  subst hx;subst hy
  exact op_gt pins s σ H _ _ v u Q I rx ry ⟨i,j,rfl,rfl,KE.ok k (by simp only [Den])⟩
 | GtE =>
  cases dx<;>cases dy<;>first | exact False.elim k | skip
  rename_i i j
  simp only [Den] at hx hy
  subst hx;subst hy
  exact op_ge pins s σ H _ _ v u Q I rx ry ⟨i,j,rfl,rfl,KE.ok k (by simp only [Den])⟩
 | Is=>exact False.elim k
 | IsNot=>exact False.elim k
 | In =>
  cases dy with
  | list ds =>
   simp only [cmpD] at k
   split at k
   ·rename_i hs
    simp only [JBi,q_i,q_C] at hs
    obtain ⟨as,ra⟩:=Den.reads g.K I dx x v hs.1.2 hx rx
    obtain ⟨bs,rb⟩:=Den.reads g.K I (.list ds) y u (by simpa only [PyData.canLay0] using hs.1.1) hy ry
    have hu:=g.units
    refine SeqAt.in_list_reads rb ra hs.1.1 hs.1.2 ?_ ⟨.bl _,H,I,rfl,KE.ok k (by simp only [Den])⟩
    have:=Nat.min_le_right (PyData.depthAll ds) dx.depth
    omega
   ·exact k.elim
  | tuple ds =>
   simp only [cmpD] at k
   split at k
   ·rename_i hs
    simp only [JBi,q_i,q_C] at hs
    obtain ⟨as,ra⟩:=Den.reads g.K I dx x v hs.1.2 hx rx
    obtain ⟨bs,rb⟩:=Den.reads g.K I (.tuple ds) y u (by simpa only [PyData.canLay0] using hs.1.1) hy ry
    have hu:=g.units
    refine SeqAt.in_tuple_reads rb ra hs.1.1 hs.1.2 ?_ ⟨.bl _,H,I,rfl,KE.ok k (by simp only [Den])⟩
    have:=Nat.min_le_right (PyData.depthAll ds) dx.depth
    omega
   ·exact k.elim
  | _=>exact False.elim k
 | NotIn =>
  cases dy with
  | list ds =>
   simp only [cmpD] at k
   split at k
   ·rename_i hs
    simp only [JBi,q_i,q_C] at hs
    obtain ⟨as,ra⟩:=Den.reads g.K I dx x v hs.1.2 hx rx
    obtain ⟨bs,rb⟩:=Den.reads g.K I (.list ds) y u (by simpa only [PyData.canLay0] using hs.1.1) hy ry
    have hu:=g.units
    refine SeqAt.notIn_list_reads rb ra hs.1.1 hs.1.2 ?_ ⟨.bl _,H,I,rfl,KE.ok k (by simp only [Den])⟩
    have:=Nat.min_le_right (PyData.depthAll ds) dx.depth
    omega
   ·exact k.elim
  | tuple ds =>
   simp only [cmpD] at k
   split at k
   ·rename_i hs
    simp only [JBi,q_i,q_C] at hs
    obtain ⟨as,ra⟩:=Den.reads g.K I dx x v hs.1.2 hx rx
    obtain ⟨bs,rb⟩:=Den.reads g.K I (.tuple ds) y u (by simpa only [PyData.canLay0] using hs.1.1) hy ry
    have hu:=g.units
    refine SeqAt.notIn_tuple_reads rb ra hs.1.1 hs.1.2 ?_ ⟨.bl _,H,I,rfl,KE.ok k (by simp only [Den])⟩
    have:=Nat.min_le_right (PyData.depthAll ds) dx.depth
    omega
   ·exact k.elim
  | _=>exact False.elim k
end
end VI
end
section
set_option maxRecDepth 100000
namespace VI
open PySem PySem.Spec PyProof.Rows L2
noncomputable def NewT (B:Bs) (H H2 H3:Hp) (d:D) (x:V):Prop:=∃p xs es,H2 p=none/\H3=upd H2 p (.tup xs)/\x=.ref p/\d=.tuple es/\DenL B H es xs
noncomputable def ItOk (B:Bs) (J:It) (H:Hp) (ds:List D):Prop:=∀H2,Same H H2->∀i:Nat,
 (∀d,ds[i]? = some d->J.go i H2/\∀x H3,J.yld i H2 x H3->(H3=H2/\Den B H d x)\/NewT B H H2 H3 d x)/\(ds.length<=i->J.stop i H2)
noncomputable def KI (B:Bs) (XX:Nat->Hp->Prop) (r:R (List D)) (H:Hp) (Q:It->Hp->Prop):Prop:=match r with
 | .ok ds=>∀J H',Same H H'->ItOk B J H' ds->Q J H'
 | .exc c=>XX c H
 | .bad=>False
noncomputable def RI (B:Bs) (C:Cn) (XX:Nat->Hp->Prop) (e:E):TI:=fun σ H Q=>∃δ,Sok B σ H δ/\KI B XX (evI C e δ) H Q
theorem JI4 {δ:Env} {i c:Nat}:look δ i≠.exc c:=by
 unfold look
 cases δ[i]? with
 | none=>intro h;cases h
 | some s=>cases s<;>(intro h;cases h)
theorem JCu:∀ {N:List Str} {x:Str} {i:Nat},idxOf x N=some i->N[i]? = some x
 | [],x,i,h=>by simp [idxOf] at h
 | y::r,x,i,h=>by
  unfold idxOf at h
  split at h
  ·rename_i hy
   cases h
   have:x=y:=eq_of_beq hy
   subst this;rfl
  ·cases q:idxOf x r with
   | none=>rw [q] at h;cases h
   | some j =>
    rw [q] at h
    simp only [Option.map_some,q_j] at h
    subst h
    simpa using JCu q
theorem JA7 {H:Hp} {p:Addr} {o:HO} (h:H p=none):Same H (upd H p o):=fun b u e=>by rw [JAF (JAT e h)];exact e
theorem JAO {G:List (Str×GK)} {n:Nat} {it:Bool} {names:List (Str×NameKind)} {N:List Str} {e:Expr} {x:E} (h:JAA G n it names N e=some x) (es:List Expr) (env:PySem.Env) :
  starEach (e::es) env=(false,eval e env)::starEach es env:=by
 cases n with
 | zero=>simp [JAA] at h
 | succ n=>cases e<;>first | rfl | (simp [JAA,xOf,xRaw] at h)
theorem JBe {G:List (Str×GK)} {n:Nat} {it:Bool} {names:List (Str×NameKind)} {N:List Str} {pos:Pos} {env:PySem.Env}:∀ {es:List Expr} {x:E},JAH (JAA G n it names N) es=some x ->
  (backTo pos (starEach es env)).any (·.1)=false
 | [],_,_=>rfl
 | e::es,x,h=>by
  unfold JAH at h
  cases h1:JAA G n it names N e with
  | none=>rw [h1] at h;cases h
  | some a =>
    rw [h1] at h
    cases h2:JAH (JAA G n it names N) es with
    | none=>simp [h2] at h
    | some b =>
     rw [JAO h1 es env]
     show (false || (backTo pos (starEach es env)).any (·.1))=false
     rw [JBe h2];rfl
theorem JMh {b:Expr} (h:isSlice b=false):JHu b:=by
 intro o i
 cases b<;>first | rfl | cases h
theorem JAB {x:Str} (h:JAP x=false):(x==("__debug__":Str))=false/\(x==("__classdict__":Str))=false/\x≠"__name__":=by
 unfold JAP at h
 simp only [Bool.or_eq_false_iff] at h
 exact ⟨h.1.1,h.1.2,fun e=>by have:=h.2;rw [e] at this;simp at this⟩
noncomputable def cnt:E->Nat
 | .cons _ r=>cnt r+1
 | _=>0
theorem JBX {C:Cn}:∀(e:E) (δ:Env) (ds:List D),evA C e δ=.ok ds->ds.length=cnt e
 | .nil,δ,ds,h=>by simp only [evA] at h;cases h;rfl
 | .cons a r,δ,ds,h=>by
  simp only [evA] at h
  cases q:ev C a δ with
  | ok d =>
   cases q2:evA C r δ with
   | ok es =>
    rw [q,q2] at h
    cases h
    simp only [List.length_cons,cnt,JBX r δ es q2]
   | exc c=>rw [q,q2] at h;cases h
   | bad=>rw [q,q2] at h;cases h
  | exc c=>rw [q] at h;cases h
  | bad=>rw [q] at h;cases h
 | .var _,_,_,h | .cint _,_,_,h | .cbl _,_,_,h | .cnon,_,_,h | .cstr _,_,_,h | .glo _,_,_,h | .bin _ _ _,_,_,h | .neg _,_,_,h | .not _,_,_,h | .and _ _,_,_,h | .or _ _,_,_,h | .cmp _ _ _,_,_,h
 | .isN _ _,_,_,h | .isB _ _,_,_,h | .ife _ _ _,_,_,h | .tup _,_,_,h | .lst _,_,_,h | .idx _ _,_,_,h | .call _ _,_,_,h | .blt _ _,_,_,h | .rng _,_,_,h | .isi _ _,_,_,h | .mcount _ _,_,_,h | .mindex _ _,_,_,h | .mget _ _ _,_,_,h | .cmpr _ _ _ _,_,_,h=>by simp only [evA] at h;cases h
theorem JAM {f:Expr->Option E}:∀ {es:List Expr} {x:E},JAH f es=some x->cnt x=es.length
 | [],x,h=>by unfold JAH at h;cases h;rfl
 | e::es,x,h=>by
  unfold JAH at h
  cases h1:f e with
  | none=>rw [h1] at h;cases h
  | some a =>
   cases h2:JAH f es with
   | none=>simp [h1,h2] at h
   | some b =>
    simp only [h1,h2,Option.bind_some,q_j] at h
    subst h
    simp only [cnt,List.length_cons,JAM h2]
section
variable {X:Cx} {B:Bs} {C:Cn} {CX:CXT} {XX:Nat->Hp->Prop} {G:List (Str×GK)} {a b c:Expr} {x y z:E} {pos:Pos}
theorem s_bad {e:Expr} {x:E} (h:∀δ,ev C x δ=.bad):PE X e (RE B C XX x):=fun _ _ _ _ _ _ ⟨δ,_,k⟩=>by rw [h δ] at k;exact k.elim
theorem t_bad {e:Expr} {x:E} (h:∀δ,evT C x δ=.bad):PT X e (RT B C XX x):=fun _ _ _ _ _ _ ⟨δ,_,k⟩=>by rw [h δ] at k;exact k.elim
theorem s_var {i:Nat} {nm:Str} (hN:X.N[i]? = some nm) (hv:Vis X.env.scope nm) (hb:JAP nm=false):PE X (.Name nm pos) (RE B C XX (.var i)) :=
 PE.imp (JCg hN hv (JAB hb).1 (JAB hb).2.1) fun σ H Q ⟨δ,ok,k⟩=>by
  simp only [ev] at k
  cases q:look δ i with
  | ok d =>
   obtain ⟨v,e,dn⟩:=ok i d q
   rw [q] at k
   exact ⟨v,e,KE.ok k dn⟩
  | exc c=>exact (JI4 q).elim
  | bad=>rw [q] at k;exact k.elim
theorem s_int {i:Int} {j:Nat}:PE X (.Constant (.int i) j pos) (RE B C XX (.cint i)):=PE.imp JET fun σ H Q ⟨δ,ok,k⟩=>KE.ok k (by simp only [Den])
theorem s_bl {i:Bool} {j:Nat}:PE X (.Constant (.bool i) j pos) (RE B C XX (.cbl i)):=PE.imp JHQ fun σ H Q ⟨δ,ok,k⟩=>KE.ok k (by simp only [Den])
theorem s_non {j:Nat}:PE X (.Constant .none j pos) (RE B C XX .cnon):=PE.imp JPy fun σ H Q ⟨δ,ok,k⟩=>KE.ok k (by simp only [Den])
theorem s_str {i:Str} {j:Nat}:PE X (.Constant (.str i) j pos) (RE B C XX (.cstr i)):=PE.imp JQD fun σ H Q ⟨δ,ok,k⟩=>KE.ok k (by simp only [Den])
theorem s_glo (g:Gk X B C CX XX G) {i:Nat} {nm:Str} (hg:Gl X nm) (hl:G.lookup nm=some (.con i)) (hb:JAP nm=false):PE X (.Name nm pos) (RE B C XX (.glo i)):=by
 cases q:C.glo i with
 | ok d =>
  obtain ⟨u,v,hm,r,dn⟩:=g.con nm i d hl q
  exact PE.imp (JH6 hg hm r (JAB hb).1) fun σ H Q ⟨δ,ok,k⟩=>by
   simp only [ev] at k
   rw [q] at k
   exact KE.ok k (dn H)
 | exc c=>exact (g.noexg i c q).elim
 | bad=>exact s_bad fun δ=>by simp only [ev];exact q
theorem JPp (g:Gk X B C CX XX G) {op:Operator} (ha:PE X a (RE B C XX x)) (hb:PE X b (RE B C XX y)):PE X (.BinOp a op b pos) (RE B C XX (.bin op x y)) :=
 PE.imp (JNr (binOk g op) ha hb) fun σ H Q ⟨δ,ok,k⟩=>two g (f:=binD op) (fun x y H dx dy h1 h2 k=>⟨dx,dy,h1,h2,k⟩) ⟨δ,ok,by simpa only [ev] using k⟩
theorem s_cmp (g:Gk X B C CX XX G) {op:CmpOp} (ha:PE X a (RE B C XX x)) (hb:PE X b (RE B C XX y)) (hm:behindInMarks op b=false):PE X (.Compare a [op] [b] pos) (RE B C XX (.cmp op x y)) :=
 PE.imp (JFF (JN5 g op) ha hb hm) fun σ H Q ⟨δ,ok,k⟩=>two g (f:=cmpD op) (fun x y H dx dy h1 h2 k=>⟨dx,dy,h1,h2,k⟩) ⟨δ,ok,by simpa only [ev] using k⟩
theorem s_neg (g:Gk X B C CX XX G) (ha:PE X a (RE B C XX x)):PE X (.UnaryOp .USub a pos) (RE B C XX (.neg x)) :=
 PE.imp (JPc JKv ha) fun σ H Q ⟨δ,ok,k⟩=>by
  simp only [ev] at k
  refine RE.of (W:=fun r H=>KE B XX r H Q) ok (fun _ _ z=>z) (fun _ z=>z) k fun d v H1 s1 d1 h1=>?_
  have h2:=KE.mono g s1 h1
  cases d<;>first | exact False.elim h2 | skip
  rename_i i
  simp only [Den] at d1
  exact ⟨i,d1,KE.ok h2 (by simp only [Den])⟩
theorem truV {K:PySem.W.Frag} (hK:K=B.K) {d:D} {v:V} {H:Hp} {k:Bool} (h:Den B H d v) (t:truth d=.ok k):TruV K v H k:=by
 subst hK
 cases d with
 | none=>simp only [Den] at h;subst h;simp only [truth] at t;cases t;rfl
 | bool b=>simp only [Den] at h;subst h;simp only [truth] at t;cases t;rfl
 | int i=>simp only [Den] at h;subst h;simp only [truth] at t;cases t;rfl
 | str s =>
  simp only [Den] at h;subst h
  simp only [truth] at t
  split at t
  ·rename_i hl
   cases t
   exact ⟨by rw [sizeLine_eq];exact hl,rfl⟩
  ·cases t
 | list ds =>
  simp only [Den] at h
  obtain ⟨p,xs,e,q,l⟩:=h
  subst e
  simp only [truth] at t;cases t
  refine .inl ⟨xs,q,?_⟩
  have:=DenL.len ds xs l
  cases ds<;>cases xs<;>simp_all
 | tuple ds =>
  simp only [Den] at h
  obtain ⟨p,xs,e,q,l⟩:=h
  subst e
  simp only [truth] at t;cases t
  refine .inr (.inl ⟨xs,q,?_⟩)
  have:=DenL.len ds xs l
  cases ds<;>cases xs<;>simp_all
 | dict kvs=>simp only [truth] at t;cases t
theorem JE4 {d:D} {c:Nat}:truth d≠.exc c:=by
 cases d<;>simp only [truth]<;>(try split)<;>(intro h;cases h)
theorem s_not (g:Gk X B C CX XX G) (ha:PE X a (RE B C XX x)):PE X (.UnaryOp .Not a pos) (RE B C XX (.not x)):=by
 intro pins s σ H Q I ⟨δ,ok,k⟩
 refine UnaryOp_ (thn (ha pins s σ H (fun v H1=>∃t,TruV X.K v H1 t/\Q (.bl (!t)) H1) I ?_) fun v s1 ⟨w,H1,I1,r1,t,tv,q⟩=>?_)
 ·refine ⟨δ,ok,?_⟩
  simp only [ev] at k
  cases q:ev C x δ with
  | ok d =>
   rw [q] at k
   cases q2:truth d with
   | ok t =>
    simp only [R.bind,q2] at k
    exact fun v H1 s1 d1=>⟨t,truV g.K d1 q2,k _ H1 s1 (by simp only [Den])⟩
   | exc c=>exact (JE4 q2).elim
   | bad=>simp only [R.bind,q2] at k;exact k.elim
  | exc c=>rw [q] at k;exact k
  | bad=>rw [q] at k;exact k.elim
 ·exact not_of (thn (JK9 pins s1 σ H1 w v (fun b H=>b=t/\H=H1) I1 r1 ⟨t,tv,rfl,rfl⟩) fun b s2 ⟨H2,I2,e1,e2⟩=>by subst e1;subst e2;exact ⟨.bl (!b),H2,I2,rfl,q⟩)
theorem s_and (g:Gk X B C CX XX G) {rest:List Expr} (ha:PE X a (RE B C XX x)) (hb:PE X (.BoolOp .And (b::rest) pos) (RE B C XX y)):PE X (.BoolOp .And (a::b::rest) pos) (RE B C XX (.and x y)) :=
 PE.imp (JOu ha hb) fun σ H Q ⟨δ,ok,k⟩=>by
  simp only [ev] at k
  refine RE.of (W:=fun r H=>KE B XX r H Q) ok (fun _ _ z=>z) (fun _ z=>z) k fun d v H1 s1 d1 h1=>?_
  cases d<;>first | exact False.elim h1 | skip
  rename_i t
  simp only [Den] at d1
  refine ⟨t,d1,?_⟩
  cases t with
  | true=>exact iteT ⟨δ,ok.mono s1,KE.mono g s1 h1⟩
  | false=>exact iteF (KE.ok (KE.mono g s1 h1) (by simp only [Den]))
theorem s_or (g:Gk X B C CX XX G) {rest:List Expr} (ha:PE X a (RE B C XX x)) (hb:PE X (.BoolOp .Or (b::rest) pos) (RE B C XX y)):PE X (.BoolOp .Or (a::b::rest) pos) (RE B C XX (.or x y)) :=
 PE.imp (pe_or ha hb) fun σ H Q ⟨δ,ok,k⟩=>by
  simp only [ev] at k
  refine RE.of (W:=fun r H=>KE B XX r H Q) ok (fun _ _ z=>z) (fun _ z=>z) k fun d v H1 s1 d1 h1=>?_
  cases d<;>first | exact False.elim h1 | skip
  rename_i t
  simp only [Den] at d1
  refine ⟨t,d1,?_⟩
  cases t with
  | true=>exact iteT (KE.ok (KE.mono g s1 h1) (by simp only [Den]))
  | false=>exact iteF ⟨δ,ok.mono s1,KE.mono g s1 h1⟩
theorem JCV {d:D} {v:V} {H:Hp} (h:Den B H d v):decide (v=.non)=isNone d:=by
 cases d with
 | none=>simp only [Den] at h;subst h;rfl
 | bool _=>simp only [Den] at h;subst h;rfl
 | int _=>simp only [Den] at h;subst h;rfl
 | str _=>simp only [Den] at h;subst h;rfl
 | list _=>simp only [Den] at h;obtain ⟨p,xs,e,_⟩:=h;subst e;rfl
 | tuple _=>simp only [Den] at h;obtain ⟨p,xs,e,_⟩:=h;subst e;rfl
 | dict _ =>
  simp only [Den] at h
  rcases h with ⟨p,xs,e,_⟩ | ⟨p,xs,e,_⟩
  ·subst e;rfl
  ·subst e;rfl
theorem s_isN (g:Gk X B C CX XX G) {j:Nat} {pos':Pos} (ha:PE X a (RE B C XX x)):PE X (.Compare a [.Is] [.Constant .none j pos'] pos) (RE B C XX (.isN x false)) :=
 PE.imp (JKz (JKa ha)) fun σ H Q ⟨δ,ok,k⟩=>by
  simp only [ev] at k
  refine RE.of (W:=fun r H=>KE B XX r H Q) ok (fun _ _ z=>z) (fun _ z=>z) k fun d v H1 s1 d1 h1=>?_
  rw [JCV d1]
  exact KE.ok (KE.mono g s1 h1) (by simp [Den])
theorem JNG (g:Gk X B C CX XX G) {j:Nat} {pos':Pos} (ha:PE X a (RE B C XX x)):PE X (.Compare a [.IsNot] [.Constant .none j pos'] pos) (RE B C XX (.isN x true)) :=
 PE.imp (JKz (JIN ha)) fun σ H Q ⟨δ,ok,k⟩=>by
  simp only [ev] at k
  refine RE.of (W:=fun r H=>KE B XX r H Q) ok (fun _ _ z=>z) (fun _ z=>z) k fun d v H1 s1 d1 h1=>?_
  rw [JCV d1]
  exact KE.ok (KE.mono g s1 h1) (by simp [Den])
theorem JLH:OpR X (compareOp .Is) (fun v u H Q=>∃c d,v=.bl c/\u=.bl d/\Q (.bl (c==d)) H):=by
 intro pins s σ H v u w t Q I rx ry ⟨c,d,e1,e2,q⟩
 subst e1;subst e2
 cases rx;cases ry
 exact is_bool ⟨.bl _,H,I,rfl,q⟩
theorem s_isB (g:Gk X B C CX XX G) {j:Nat} {pos':Pos} {k:Bool} (ha:PE X a (RE B C XX x)):PE X (.Compare a [.Is] [.Constant (.bool k) j pos'] pos) (RE B C XX (.isB x k)) :=
 PE.imp (JFF JLH ha JHQ rfl) fun σ H Q ⟨δ,ok,kk⟩=>by
  simp only [ev] at kk
  refine RE.of (W:=fun r H=>KE B XX r H Q) ok (fun _ _ z=>z) (fun _ z=>z) kk fun d v H1 s1 d1 h1=>?_
  cases d<;>first | exact False.elim h1 | skip
  rename_i t
  simp only [Den] at d1
  exact ⟨t,k,d1,rfl,KE.ok (KE.mono g s1 h1) (by simp only [Den])⟩
theorem s_ife (g:Gk X B C CX XX G) (hc:PT X c (RT B C XX z)) (ha:PE X a (RE B C XX x)) (hb:PE X b (RE B C XX y)):PE X (.IfExp c a b pos) (RE B C XX (.ife z x y)) :=
 PE.imp (JJU hc ha hb) fun σ H Q ⟨δ,ok,k⟩=>by
  simp only [ev] at k
  refine RT.of (W:=fun r H=>KE B XX r H Q) ok (fun _ _ z=>z) (fun _ z=>z) k fun t H1 s1 h1=>?_
  cases t with
  | true=>exact iteT ⟨δ,ok.mono s1,KE.mono g s1 h1⟩
  | false=>exact iteF ⟨δ,ok.mono s1,KE.mono g s1 h1⟩
theorem JNM:PA X [] (RA B C XX .nil):=PA.imp JBk fun σ H Q ⟨δ,ok,k⟩=>k [] H (Same.refl H) (by simp only [DenL])
theorem JF0 (g:Gk X B C CX XX G) {es:List Expr} (ha:PE X a (RE B C XX x)) (hr:PA X es (RA B C XX y)) (hs:starEach (a::es) X.env=(false,eval a X.env)::starEach es X.env):PA X (a::es) (RA B C XX (.cons x y)) :=
 PA.imp (JBA ha hr hs) fun σ H Q ⟨δ,ok,k⟩=>by
  simp only [evA] at k
  refine RE.of (W:=fun r H=>KL B XX r H Q) ok (fun _ _ z=>z) (fun _ z=>z) k fun d v H1 s1 d1 h1=>?_
  refine RA.of (W:=fun r H=>KL B XX r H Q) (ok.mono s1) (fun _ _ z=>z) (fun _ z=>z) (KL.mono g s1 h1) fun ds vs H2 s2 d2 h2=>?_
  exact h2 (v::vs) H2 s2 (by simp only [DenL];exact ⟨v,vs,rfl,Den.mono s2 d v d1,d2⟩)
theorem s_tup (g:Gk X B C CX XX G) {es:List Expr} {k2:Nat} (h:PA X es (RA B C XX x)) (hl:cnt x<=1000):PE X (.Tuple es k2 pos) (RE B C XX (.tup x)) :=
 PE.imp (JKZ h) fun σ H Q ⟨δ,ok,k⟩=>by
  simp only [ev] at k
  cases q:evA C x δ with
  | ok ds =>
   rw [q] at k
   refine ⟨δ,ok,?_⟩
   rw [q]
   intro vs H1 s1 d1
   have e1:=DenL.len ds vs d1
   have e2:=JBX x δ ds q
   refine ⟨by rw [sizeLine_eq];omega,fun p hp=>k _ _ (s1.trans (JA7 hp)) ?_⟩
   simp only [Den]
   exact ⟨p,vs,rfl,SqT.of JAC,DenL.mono (JA7 hp) ds vs d1⟩
  | exc c=>rw [q] at k;exact ⟨δ,ok,by rw [q];exact k⟩
  | bad=>rw [q] at k;exact k.elim
theorem s_lst (g:Gk X B C CX XX G) {es:List Expr} (h:PA X es (RA B C XX x)) (hl:cnt x<=1000):PE X (.List es pos) (RE B C XX (.lst x)) :=
 PE.imp (JHB h) fun σ H Q ⟨δ,ok,k⟩=>by
  simp only [ev] at k
  cases q:evA C x δ with
  | ok ds =>
   rw [q] at k
   refine ⟨δ,ok,?_⟩
   rw [q]
   intro vs H1 s1 d1
   have e1:=DenL.len ds vs d1
   have e2:=JBX x δ ds q
   refine ⟨by rw [sizeLine_eq];omega,fun p hp=>k _ _ (s1.trans (JA7 hp)) ?_⟩
   simp only [Den]
   exact ⟨p,vs,rfl,SqL.of JAC,DenL.mono (JA7 hp) ds vs d1⟩
  | exc c=>rw [q] at k;exact ⟨δ,ok,by rw [q];exact k⟩
  | bad=>rw [q] at k;exact k.elim
theorem JId {H:Hp} {ds:List D} {vs:List V} {i:Int} {d:D} (h:DenL B H ds vs) (e:VI.atI ds i=some d):∃v,L2.atI vs i=some v/\Den B H d v:=by
 have hl:=DenL.len ds vs h
 unfold VI.atI at e
 cases q:VI.ixN ds.length i with
 | none=>rw [q] at e;cases e
 | some j =>
  rw [q] at e
  obtain ⟨v,e1,dn⟩:=DenL.get ds vs j d h e
  refine ⟨v,?_,dn⟩
  unfold L2.atI
  have q':L2.ixN vs.length i=some j:=by rw [<-hl];exact q
  rw [q']
  exact e1
theorem SqD.at {pins:List (Addr×Obj)} {σ:St} {H:Hp} {s:Shared} {a:Addr} {xs:List (Key×V)} (I:Inv X pins σ H s) (h:SqD X.K X.w H a xs):(a==sysModules)=false/\∃vs,KV xs vs/\s.heap.DictOf (JBC X.prog X.w) a vs:=by
 rcases h with h | h
 ·rcases h with h | ⟨o,h⟩
  ·obtain ⟨_,h1,h2⟩:=I.hok a _ h
   exact ⟨h1,h2⟩
  ·obtain ⟨_,_,h1,h2⟩:=I.hok a _ h
   exact ⟨h1,h2⟩
 ·exact h X.prog s.heap I.kIn
theorem JFS {ks:List (Key×V)} {vs:List (Key×Value)} {x:Str} (h:KV ks vs):(∀v,(ks.find? fun p=>p.1=Sum.inr x).map (·.2)=some v->∃u,valueAt vs (Sum.inr x:Key)=some u/\RelV v u)/\((ks.find? fun p=>p.1=Sum.inr x).map (·.2)=none->valueAt vs (Sum.inr x:Key)=none):=by
 induction h with
 | nil=>exact ⟨fun v e=>(by simp at e),fun _=>rfl⟩
 | @cons p q ps qs hq t ih =>
  obtain ⟨k,v⟩:=p
  obtain ⟨k',u⟩:=q
  obtain ⟨e1,e2⟩:=hq
  simp only at e1 e2
  subst e1
  unfold valueAt at ih ⊢
  simp only [List.find?_cons]
  by_cases hk:k=Sum.inr x
  ·simp only [hk,decide_true,Option.map_some,q_j]
   exact ⟨fun v' e=>⟨u,rfl,e▸e2⟩,fun e=>by cases e⟩
  ·simp only [hk,decide_false]
   exact ih
theorem JMC:IxR X (fun x y H Q=>∃p xs k v,x=.ref p/\y=.str k/\SqD X.K X.w H p xs/\((xs.find? fun p=>p.1=Sum.inr k).map (·.2))=some v/\Q v H):=by
 intro value slice pins s σ H x y v u Q I rx ry h hs
 obtain ⟨p,xs,k,z,rfl,rfl,hq,he,q⟩:=h
 cases rx
 obtain ⟨t,rfl⟩:=ry
 obtain ⟨hsys,vs,kv,dd⟩:=SqD.at I hq
 obtain ⟨u,g1,g2⟩:=(JFS kv).1 z he
 exact subscriptTail_builtinR (x:=u) dd.typeIs slot_dict_getitem.lookup (wpAny_getItem_of (Q:=fun r s'=>r=u/\EP X pins σ Q r s') (JBn _ _ k t) dd.mapOf g1 ⟨rfl,z,H,I.tok _,g2,q⟩) hs
theorem JEq {H:Hp} {x:Str} {d:D}:∀ {kvs:List (D×D)} {xs:List (Key×V)},DenK B H kvs xs->getK kvs x=.ok d->∃v,(xs.find? fun p=>p.1=Sum.inr x).map (·.2)=some v/\Den B H d v
 | [],xs,h,e=>by cases e
 |(k,b)::r,xs,h,e=>by
  simp only [DenK] at h
  obtain ⟨y,v,r',rfl,rfl,h1,h2⟩:=h
  simp only [getK] at e
  by_cases hk:y=x
  · rw [if_pos hk] at e
    cases e
    exact ⟨v,by simp [List.find?,hk],h1⟩
  · rw [if_neg hk] at e
    obtain ⟨v',e1,e2⟩:=JEq h2 e
    have:¬((Sum.inr y:Key)=Sum.inr x):=fun z=>hk (Sum.inr.inj z)
    exact ⟨v',by simpa [List.find?,this] using e1,e2⟩
theorem JGY {x:Str} {c:Nat}:∀ {kvs:List (D×D)},getK kvs x≠.exc c
 | []=>by intro h;cases h
 |(k,b)::r=>by
  cases k<;>simp only [getK]<;>first | (intro h;cases h;done) | skip
  split
  · intro h;cases h
  · exact JGY
theorem idxOk (g:Gk X B C CX XX G):IxR X (fun v u H Q=>∃dx dy,Den B H dx v/\Den B H dy u/\KE B XX (idxD dx dy) H Q):=by
 intro value slice pins s σ H v u w t Q I rx ry ⟨dx,dy,hx,hy,k⟩ hs
 refine (ix_seq.or JMC) value slice pins s σ H v u w t Q I rx ry ?_ hs
 cases dx with
 | list ds =>
  cases dy<;>first | exact False.elim k | skip
  rename_i i
  simp only [Den] at hx hy
  obtain ⟨p,xs,e,q,l⟩:=hx
  simp only [idxD] at k
  cases qa:VI.atI ds i with
  | none=>rw [qa] at k;exact k.elim
  | some d =>
   rw [qa] at k
   obtain ⟨z,e2,dn⟩:=JId l qa
   exact .inl (.inl ⟨p,xs,i,z,e,hy,g.K▸q,e2,KE.ok k dn⟩)
 | tuple ds =>
  cases dy<;>first | exact False.elim k | skip
  rename_i i
  simp only [Den] at hx hy
  obtain ⟨p,xs,e,q,l⟩:=hx
  simp only [idxD] at k
  cases qa:VI.atI ds i with
  | none=>rw [qa] at k;exact k.elim
  | some d =>
   rw [qa] at k
   obtain ⟨z,e2,dn⟩:=JId l qa
   exact .inl (.inr (.inl ⟨p,xs,i,z,e,hy,g.K▸q,e2,KE.ok k dn⟩))
 | dict kvs =>
  cases dy<;>first | exact False.elim k | skip
  rename_i y
  simp only [Den] at hx hy
  simp only [idxD] at k
  rcases hx with ⟨p,c,e1,e2,_⟩ | ⟨p,xs,e1,e2,e3⟩
  ·subst e2;exact False.elim k
  ·cases qg:getK kvs y with
   | ok d =>
    rw [qg] at k
    obtain ⟨z,f1,f2⟩:=JEq e3 qg
    exact .inr ⟨p,xs,y,z,e1,hy,by rw [g.K,g.W];exact e2,f1,KE.ok k f2⟩
   | exc c=>exact (JGY qg).elim
   | bad=>rw [qg] at k;exact k.elim
 | str z =>
  cases dy<;>first | exact False.elim k | skip
  rename_i i
  simp only [Den] at hx hy
  simp only [idxD] at k
  split at k
  ·rename_i hz
   cases qa:VI.atI z.cps.toList i with
   | none=>rw [qa] at k;exact k.elim
   | some c =>
    rw [qa] at k
    exact .inl (.inr (.inr ⟨z,i,c,hx,hy,by rw [sizeLine_eq];exact Nat.le_trans hz (by decide),qa,k _ _ (Same.refl H) (by simp only [Den])⟩))
  ·exact k.elim
 | _=>exact False.elim k
theorem s_idx (g:Gk X B C CX XX G) (ha:PE X a (RE B C XX x)) (hb:PE X b (RE B C XX y)) (hs:isSlice b=false):PE X (.Subscript a b pos) (RE B C XX (.idx x y)) :=
 PE.imp (pe_ix (idxOk g) ha hb (JMh hs)) fun σ H Q ⟨δ,ok,k⟩=>two g (f:=idxD) (fun x y H dx dy h1 h2 k=>⟨dx,dy,h1,h2,k⟩) ⟨δ,ok,by simpa only [ev] using k⟩
theorem JND (g:Gk X B C CX XX G) {n:Nat} {fn:List D->R D} {vs:List V} {ds:List D} {H:Hp} {Q:VK} (hn:fn ds≠.bad->ds.length=n) (dn:DenL B H ds vs) (k:KE B XX (fn ds) H Q):JCL B n fn vs H Q (EX B XX):=by
 have hb:fn ds≠.bad:=fun z=>by rw [z] at k;exact k
 refine ⟨by rw [<-DenL.len ds vs dn];exact hn hb,ds,dn,?_⟩
 cases q:fn ds with
 | ok d=>rw [q] at k;exact k
 | exc c=>rw [q] at k;exact fun H' s'=>⟨c,rfl,g.anti c H H' s' k⟩
 | bad=>exact (hb q).elim
end
end VI
end
section
set_option maxRecDepth 100000
namespace VI
open PySem PySem.Spec PyProof.Rows L2
section
variable {X:Cx} {B:Bs} {C:Cn} {CX:CXT} {XX:Nat->Hp->Prop} {G:List (Str×GK)} {a b c:Expr} {x y z:E} {pos p:Pos}
theorem s_call (g:Gk X B C CX XX G) {i:Nat} {nm:Str} {e:Expr} {r:List Expr} (hg:Gl X nm) (hl:G.lookup nm=some (.fn i)) (hb:JAP nm=false) (ha:PA X (e::r) (RA B C XX x))
  (he:starEach (e::r) X.env=(false,eval e X.env)::starEach r X.env) (hpl:(backTo pos (starEach (e::r) X.env)).any (·.1)=false):PE X (.Call (.Name nm p) (e::r) [] pos) (RE B C XX (.call i x)):=by
 obtain ⟨f,fd,ps,k,hm,hk,F,hr,hbi,hn⟩:=g.fn nm i hl
 refine PE.imp (JNC F hr hg hm hk hbi .nil g.pas ha (JAB hb).1 he ?_) ?_
 ·rw [he] at hpl
  exact hpl
 ·rintro σ H Q ⟨δ,ok,kk⟩
  simp only [ev] at kk
  refine RA.of (W:=fun r H=>KE B XX r H Q) ok (fun _ _ z=>z) (fun _ z=>z) kk fun ds vs H1 s1 d1 h1=>?_
  show JCL B ps.length (C.fn i) (vs++[]) H1 Q (EX B XX)
  rw [List.append_nil]
  exact JND g (hn ds) d1 (KE.mono g s1 h1)
theorem JIM (g:Gk X B C CX XX G):CallR X (.builtin "len") (fun vs H Q=>∃ds,DenL B H ds vs/\KE B XX (bltD .len ds) H Q):=by
 intro pins s σ H vs us Q I r ⟨ds,dn,k⟩
 refine JJv pins s σ H vs us Q I r ?_
 match ds,dn,k with
 | [.list ys],dn,k =>
  simp only [DenL,Den] at dn
  obtain ⟨v,r',e,⟨a,xs,e1,q,l⟩,e2⟩:=dn
  subst e2;subst e;subst e1
  exact ⟨_,xs.length,rfl,.inl ⟨xs,g.K▸q,rfl⟩,by rw [<-DenL.len ys xs l];exact KE.ok k (by simp only [Den])⟩
 | [.tuple ys],dn,k =>
  simp only [DenL,Den] at dn
  obtain ⟨v,r',e,⟨a,xs,e1,q,l⟩,e2⟩:=dn
  subst e2;subst e;subst e1
  exact ⟨_,xs.length,rfl,.inr ⟨xs,g.K▸q,rfl⟩,by rw [<-DenL.len ys xs l];exact KE.ok k (by simp only [Den])⟩
 | [],_,k=>exact False.elim k
 | [.none],_,k=>exact False.elim k
 | [.bool _],_,k=>exact False.elim k
 | [.int _],_,k=>exact False.elim k
 | [.str _],_,k=>exact False.elim k
 | [.dict _],_,k=>exact False.elim k
 | d::_::_,_,k=>cases d<;>exact False.elim k
theorem JH4 (g:Gk X B C CX XX G):CallR X (.builtin "abs") (fun vs H Q=>∃ds,DenL B H ds vs/\KE B XX (bltD .abs ds) H Q):=by
 intro pins s σ H vs us Q I r ⟨ds,dn,k⟩
 refine JJS pins s σ H vs us Q I r ?_
 match ds,dn,k with
 | [.int i],dn,k =>
  simp only [DenL,Den] at dn
  obtain ⟨v,r',e,e1,e2⟩:=dn
  subst e2;subst e;subst e1
  exact ⟨i,rfl,KE.ok k (by simp only [Den])⟩
 | [],_,k=>exact False.elim k
 | [.none],_,k=>exact False.elim k
 | [.bool _],_,k=>exact False.elim k
 | [.list _],_,k=>exact False.elim k
 | [.tuple _],_,k=>exact False.elim k
 | [.str _],_,k=>exact False.elim k
 | [.dict _],_,k=>exact False.elim k
 | d::_::_,_,k=>cases d<;>exact False.elim k
theorem JJ3 (g:Gk X B C CX XX G) {bl:Blt} {id:String} {nm:Str} {e:Expr} {r:List Expr} (hc:CallR X (.builtin id) (fun vs H Q=>∃ds,DenL B H ds vs/\KE B XX (bltD bl ds) H Q)) (hv:bootBuiltins nm=some (.builtin id))
  (hg:Gl X nm) (hl:G.lookup nm=some (.blt bl)) (hb:JAP nm=false) (ha:PA X (e::r) (RA B C XX x))
  (he:starEach (e::r) X.env=(false,eval e X.env)::starEach r X.env) (hpl:(backTo pos (starEach (e::r) X.env)).any (·.1)=false):PE X (.Call (.Name nm p) (e::r) [] pos) (RE B C XX (.blt bl x)):=by
 refine PE.imp (JCY hc hg (g.blt nm bl hl) hv ha (JAB hb).2.2 (JAB hb).1 he ?_) ?_
 ·rw [he] at hpl
  exact hpl
 ·rintro σ H Q ⟨δ,ok,kk⟩
  simp only [ev] at kk
  refine RA.of (W:=fun r H=>KE B XX r H Q) ok (fun _ _ z=>z) (fun _ z=>z) kk fun ds vs H1 s1 d1 h1=>?_
  exact ⟨ds,d1,KE.mono g s1 h1⟩
theorem JNA (g:Gk X B C CX XX G) (ha:PE X a (RE B C XX x)) (he:∀whole,isTrue a X.env whole=(do let v<-whole;standAt a.pos;holding [v] (truthy v))) (ht:∀δ,evT C x δ=(ev C x δ).bind truth):PT X a (RT B C XX x) :=
 PT.imp (JI9 ha he) fun σ H Q ⟨δ,ok,k⟩=>by
  rw [ht] at k
  refine RE.of (W:=fun r H=>KB XX r H Q) ok (fun _ _ z=>z) (fun _ z=>z) k fun d v H1 s1 d1 h1=>?_
  cases q:truth d with
  | ok t=>rw [q] at h1;exact ⟨t,truV g.K d1 q,h1 H1 s1⟩
  | exc c=>exact (JE4 q).elim
  | bad=>rw [q] at h1;exact h1.elim
theorem JOl {t:TE} (op:CmpOp) (h:PT X (.Compare a [op] [b] pos) (JQL t)) (ht:∀σ H Q,RE B C XX x σ H Q->t σ H Q) (hb:∀δ,evT C x δ=(ev C x δ).bind truth) (hbool:∀δ d,ev C x δ=.ok d->∃k,d=.bool k):PT X (.Compare a [op] [b] pos) (RT B C XX x) :=
 PT.imp h fun σ H Q ⟨δ,ok,k⟩=>by
  refine ht σ H _ ⟨δ,ok,?_⟩
  rw [hb] at k
  cases q:ev C x δ with
  | ok d =>
   rw [q] at k
   obtain ⟨t',rfl⟩:=hbool δ d q
   intro v H1 s1 d1
   simp only [Den] at d1
   exact ⟨t',d1,k H1 s1⟩
  | exc c=>rw [q] at k;exact k
  | bad=>rw [q] at k;exact k.elim
theorem JJk (g:Gk X B C CX XX G) (ha:PT X a (RT B C XX x)):PT X (.UnaryOp .Not a pos) (RT B C XX (.not x)) :=
 PT.imp (JOK ha) fun σ H Q ⟨δ,ok,k⟩=>by
  simp only [evT] at k
  exact RT.of (W:=fun r H=>KB XX r H Q) ok (fun _ _ z=>z) (fun _ z=>z) k fun t H1 s1 h1=>h1 H1 s1
theorem w_and (g:Gk X B C CX XX G) {rest:List Expr} (ha:PT X a (RT B C XX x)) (hb:PW X (.BoolOp .And (b::rest) pos) (RT B C XX y)):PW X (.BoolOp .And (a::b::rest) pos) (RT B C XX (.and x y)) :=
 fun wh pins s σ H Q I ⟨δ,ok,k⟩=>JQN ha hb wh pins s σ H Q I (by
  simp only [evT] at k
  refine RT.of (W:=fun r H=>KB XX r H Q) ok (fun _ _ z=>z) (fun _ z=>z) k fun t H1 s1 h1=>?_
  cases t with
  | true=>exact iteT ⟨δ,ok.mono s1,KB.mono g s1 h1⟩
  | false=>exact iteF (h1 H1 s1))
theorem w_or (g:Gk X B C CX XX G) {rest:List Expr} (ha:PT X a (RT B C XX x)) (hb:PW X (.BoolOp .Or (b::rest) pos) (RT B C XX y)):PW X (.BoolOp .Or (a::b::rest) pos) (RT B C XX (.or x y)) :=
 fun wh pins s σ H Q I ⟨δ,ok,k⟩=>pw_or ha hb wh pins s σ H Q I (by
  simp only [evT] at k
  refine RT.of (W:=fun r H=>KB XX r H Q) ok (fun _ _ z=>z) (fun _ z=>z) k fun t H1 s1 h1=>?_
  cases t with
  | true=>exact iteT (h1 H1 s1)
  | false=>exact iteF ⟨δ,ok.mono s1,KB.mono g s1 h1⟩)
end
end VI
end
section
set_option maxRecDepth 100000
namespace VI
open PySem PySem.Spec PyProof.Rows L2
theorem JDB {prog:Program} {w:World} {A:Around} {R:Result->Shared->Prop} {s:Shared} {elt target iter:Expr} {ifs:List Expr} {scope:Scope} {pos:Pos} {it acc:Value} {env:PySem.Env} (I:Nat->Shared->Prop)
  (turn:∀n s,I n s->wpAny (model prog w) A (pyNext it) (fun r s₁=>match r with
    | none=>R (.ok .next) s₁
    | some v=>wpAny (model prog w) A (letOwnedTupleGo target it v) (fun _ s₁'=>wpAny (model prog w) A (assign target env v) (fun _ s₂ =>
     wpAny (model prog w) A (forIn ifs true fun c r=>if r=true then do let ok<-isTrue c env (eval c env);pure (ForInStep.yield ok) else pure (ForInStep.yield r)) (fun ok s₃ =>
      if ok=true then wpAny (model prog w) A (eval elt env) (fun x s₄ =>
       wpAny (model prog w) A (call (.builtin "list.append") [acc,x]) (fun _ s₅=>∃m,m<n/\I m s₅) (notedBy (model prog w) A env fun e s'=>R (.error e) s') s₄) (notedBy (model prog w) A env fun e s'=>R (.error e) s') s₃
      else ∃m,m<n/\I m s₃) (notedBy (model prog w) A env fun e s'=>R (.error e) s') s₂) (notedBy (model prog w) A env fun e s'=>R (.error e) s') s₁') (notedBy (model prog w) A env fun e s'=>R (.error e) s') s₁) (notedBy (model prog w) A env fun e s'=>R (.error e) s') s)
  (n:Nat) (h:I n s) :
  codeAny (model prog w) A (.compLoop (.ListComp elt [⟨target,iter,ifs,0⟩] scope pos) 0 it acc env) R s:=by
 refine codeAny_loop rfl I (fun n s hI=>?_) n h
 show wpAny _ A ((compTurn (.ListComp elt [⟨target,iter,ifs,0⟩] scope pos) 0 it acc env).onRaise (fun x=>do noteFrame x env;theTreesLotGoes x)) _ _ s
 refine wpAny_noted ?_
 rw [compTurn_list]
 refine q_b (wpAny_standAt (q_b (wpAny_mono (turn n s hI) (fun r s₁ h₁=>?_) fun _ _ h'=>h')))
 cases r with
 | none=>exact q_e h₁
 | some v =>
  refine q_b (wpAny_mono h₁ (fun _ s₁' h₁'=>?_) fun _ _ h'=>h')
  refine q_b (wpAny_mono h₁' (fun _ s₂ h₂=>q_b (wpAny_mono h₂ (fun ok s₃ h₃=>?_) fun _ _ h'=>h')) fun _ _ h'=>h')
  cases ok with
  | false=>exact q_e ⟨rfl,h₃⟩
  | true =>
    exact q_b (q_b (wpAny_mono h₃ (fun x s₄ h₄=>q_b (wpAny_mono h₄ (fun _ s₅ h₅=>q_e (q_e ⟨rfl,h₅⟩)) fun _ _ h'=>h')) fun _ _ h'=>h'))
noncomputable def JAW (X:Cx) (sc:Scope) (Cc:Addr) (N':List Str) (fp:List Addr) (s:Shared) (H:Hp):Cx where
 prog:=X.prog
 w:=X.w
 K:=X.K
 mg:=X.mg
 base:=X.base
 A:=X.A
 N:=N'
 s₀:=s
 H₀:=H
 env:=compEnvC sc (JA3 X.env.cells sc.names []) Cc X.env
 outer:=X.stack
 stack:=X.stack
 ex:=fp
 fn:=fun _=>false
 calm:=true
 pn:=[]
 xe:=fun _ _=>False
theorem JAN {X:Cx} {sc:Scope} {Cc:Addr} (hk:X.env.scope.kind=.function):(compEnvC sc (JA3 X.env.cells sc.names []) Cc X.env).scope.names=JAi X.env.scope.names sc.names:=by
 show (sc.names.map fun (x:Str×NameKind)=>match x with | (n,k)=>if (k==NameKind.free&&X.env.scope.kind==ScopeKind.function&&X.env.kindOf n==some NameKind.cell)=true then (n,NameKind.cell) else (n,k))=_
 have:(X.env.scope.kind==ScopeKind.function)=true:=by rw [hk];rfl
 simp only [this]
 rfl
theorem JAw {outer:List (Str×NameKind)}:∀ {names:List (Str×NameKind)} {x:Str},names.lookup x=some .local->(JAi outer names).lookup x=some .local
 | [],x,h=>by simp at h
 |(n,k)::r,x,h=>by
  unfold JAi
  rw [List.map_cons]
  rw [List.lookup_cons] at h
  cases q:x==n with
  | true =>
    rw [q] at h
    cases h
    show List.lookup x ((if (NameKind.local==NameKind.free&&true&&outer.lookup n==some NameKind.cell)=true then (n,NameKind.cell) else (n,NameKind.local))::_)=_
    rw [if_neg (by simp),List.lookup_cons,q]
  | false =>
    rw [q] at h
    have e:∀kk,List.lookup x ((n,kk)::JAi outer r)=List.lookup x (JAi outer r):=fun kk=>by rw [List.lookup_cons,q]
    show List.lookup x ((if (k==NameKind.free&&true&&outer.lookup n==some NameKind.cell)=true then (n,NameKind.cell) else (n,k))::JAi outer r)=_
    split
    ·rw [e];exact JAw h
    ·rw [e];exact JAw h
theorem JBL {outer:List (Str×NameKind)}:∀ {names:List (Str×NameKind)} {x:Str},(∀y∈names,y.2≠.cell)->(JAi outer names).lookup x=some .cell\/(JAi outer names).lookup x=some .free->(x,NameKind.free)∈names
 | [],x,_,h=>by simp [JAi] at h
 |(n,k)::r,x,hc,h=>by
  have hc':∀y∈r,y.2≠.cell:=fun y hy=>hc y (q_s _ hy)
  have hk:k≠.cell:=hc (n,k) List.mem_cons_self
  have e0:JAi outer ((n,k)::r)=(if (k==NameKind.free&&true&&outer.lookup n==some NameKind.cell)=true then (n,NameKind.cell) else (n,k))::JAi outer r:=rfl
  rw [e0] at h
  cases q:x==n with
  | true =>
    have e:x=n:=eq_of_beq q
    subst e
    by_cases hf:k=.free
    ·subst hf;exact List.mem_cons_self
    ·rw [if_neg (by simp [hf]),List.lookup_cons,q] at h
     rcases h with h | h
     ·exact absurd (Option.some.inj h) hk
     ·exact absurd (Option.some.inj h) hf
  | false =>
    have e:∀kk,List.lookup x ((n,kk)::JAi outer r)=List.lookup x (JAi outer r):=fun kk=>by rw [List.lookup_cons,q]
    have h':List.lookup x (JAi outer r)=some .cell\/List.lookup x (JAi outer r)=some .free:=by
     split at h
     ·rw [e] at h;exact h
     ·rw [e] at h;exact h
    exact q_s _ (JBL hc' h')
section
variable {X:Cx} {B:Bs} {C:Cn} {CX:CXT} {G:List (Str×GK)} {pins:List (Addr×Obj)} {σ:St} {H:Hp} {s:Shared} {sc:Scope} {fp:List Addr} {N':List Str} {Cc:Addr}
structure BlkOk (X:Cx) (sc:Scope) (xs:List Str):Prop where
 kind:sc.kind=.function
 nocell:∀y∈sc.names,y.2≠.cell
 loc:∀y∈sc.names,y.2=.local->sc.names.lookup y.1=some .local
 free:∀n,(n,NameKind.free)∈sc.names->X.env.kindOf n=some .cell\/X.env.kindOf n=some .free
 tg:∀x∈xs,sc.names.lookup x=some .local
 out:∀y∈X.N,y ∉ xs->sc.names.lookup y≠some .local
 dots:∀i,i<X.N.length->Vis (compEnvC sc (JA3 X.env.cells sc.names []) 0 X.env).scope (dots i)->False
 nd:(xs++mask xs 0 X.N).Nodup
theorem vis_same {Cc C':Addr} {x:Str}:Vis (compEnvC sc (JA3 X.env.cells sc.names []) Cc X.env).scope x↔Vis (compEnvC sc (JA3 X.env.cells sc.names []) C' X.env).scope x:=Iff.rfl
theorem BlkOk.clos {xs:List Str} (b:BlkOk X sc xs) (ok:X.Ok):closureFor sc X.env=pure (JA3 X.env.cells sc.names []) :=
 JDv fun n hn=>by
  obtain ⟨c,hc⟩:=ok.has n (b.free n hn)
  rw [hc];rfl
theorem JBE {xs:List Str} (b:BlkOk X sc xs) (ok:X.Ok) {x:Str} {c:Addr}:(JA3 X.env.cells sc.names []).lookup x=some c↔(x,NameKind.free)∈sc.names/\X.env.cells.lookup x=some c:=by
 rw [JBW]
 by_cases h:(x,NameKind.free)∈sc.names
 ·rw [if_pos h]
  obtain ⟨d,hd⟩:=ok.has x (b.free x h)
  rw [hd]
  simp [h]
 ·rw [if_neg h]
  simp [h]
theorem JMl {xs:List Str} (b:BlkOk X sc xs) (hcalm:X.calm=true) (I:Inv X pins σ H s) (hf:∀b∈fp,FpOk X pins H b) (hlt:∀b∈fp,b<s.heap.objs.size) (hC:s.heap.objs.size<=Cc):(JAW X sc Cc N' fp s H).Ok where
 mod:=I.mod
 kind:=b.kind
 glob:=I.ok.glob
 blt:=I.ok.blt
 above:=hC
 inj:=fun x y c h1 h2=>I.ok.inj x y c ((JBE b I.ok).mp h1).2 ((JBE b I.ok).mp h2).2
 has:=fun x h=>by
  have e:=JAN (X:=X) (sc:=sc) (Cc:=Cc) I.ok.kind
  have h':(JAi X.env.scope.names sc.names).lookup x=some .cell\/(JAi X.env.scope.names sc.names).lookup x=some .free:=by
   rw [<-e];exact h
  have hm:=JBL b.nocell h'
  obtain ⟨c,hc⟩:=I.ok.has x (b.free x hm)
  exact ⟨c,(JBE b I.ok).mpr ⟨hm,hc⟩⟩
 cab:=fun _ _ z=>by cases z
 hd:=fun _=>I.ok.hd hcalm
 frames:=I.ok.frames
 stk:=.inl rfl
 exf:=fun a ha=>⟨q_l (q_m (hlt a ha) hC),fun x c e=>(hf a ha).2.2.2.2.1 x c ((JBE b I.ok).mp e).2⟩
 bs:=I.bs
 bsz:=Nat.le_trans I.ok.bsz I.sz
 noex:=fun a o e ha=>by
  rcases (hf a ha).2.2.2.1 with z | z
  ·exact I.ok.noex a o e z
  ·exact absurd (q_m (q_h e) (Nat.le_trans I.ok.bsz z)) (Nat.lt_irrefl _)
 exfs:=fun a ha hm=>by
  rcases q_n.mp (I.stkSub a hm) with z | z
  ·exact (hf a ha).2.1 z
  ·exact (hf a ha).2.2.1 z
 funs:=I.stack
 frf:=I.stkFree
theorem JF7 {xs:List Str}:∀(N:List Str) (i j:Nat) (y:Str),(mask xs i N)[j]? = some y->∃z,N[j]? = some z/\((z ∉ xs/\y=z)\/(z∈xs/\y=dots (i+j)))
 | [],_,_,_,h=>by simp [mask] at h
 | z::r,i,0,y,h=>by
  unfold mask at h
  simp only [List.getElem?_cons_zero,q_j] at h
  refine ⟨z,rfl,?_⟩
  split at h
  ·rename_i hc;exact .inr ⟨by simpa using hc,h.symm⟩
  ·rename_i hc;exact .inl ⟨by simpa using hc,h.symm⟩
 | z::r,i,j+1,y,h=>by
  unfold mask at h
  simp only [List.getElem?_cons_succ] at h
  obtain ⟨w,e,q⟩:=JF7 r (i+1) j y h
  refine ⟨w,by simpa using e,?_⟩
  rw [show i+(j+1)=i+1+j by omega]
  exact q
theorem JF2 {xs:List Str}:∀(N:List Str) (i:Nat),(mask xs i N).length=N.length
 | [],_=>rfl
 | _::r,i=>by simp only [mask,List.length_cons,JF2 r]
theorem JGs {xs:List Str} (b:BlkOk X sc xs) (hcalm:X.calm=true) (I:Inv X pins σ H s) (hf:∀b∈fp,FpOk X pins H b) (hlt:∀b∈fp,b<s.heap.objs.size) (hC:s.heap.objs.size<=Cc)
  {h':Heap} {t':Nat} {m:Str->Option Value} (k:∀b o,s.heap.get? b=some o->h'.get? b=some o) (hn:h'.Ns Cc m) :
  Inv (JAW X sc Cc (xs++mask xs 0 X.N) fp s H) [] (xs.map (fun _=>none)++σ) H { s with heap:=h',toks:=t' } where
 ok:=JMl b hcalm I hf hlt hC
 os:=rfl
 bare:=I.bare
 base:=Un.kept k
 loc:=by
  refine ⟨m,hn,fun i y v e1 e2 e3=>?_⟩
  by_cases hi:i<xs.length
  ·rw [q_B (by simpa using hi)] at e2
   simp [hi] at e2
  ·have hi':xs.length<=i:=by omega
   rw [List.getElem?_append_right (by simpa using hi')] at e2
   simp only [q_g] at e2
   have e1':(mask xs 0 X.N)[i - xs.length]? = some y:=by
    have:(xs++mask xs 0 X.N)[i]? = some y:=e1
    rwa [List.getElem?_append_right hi'] at this
   obtain ⟨z,ez,q⟩:=JF7 X.N 0 _ y e1'
   rcases q with ⟨hz,rfl⟩ | ⟨hz,rfl⟩
   ·have e3':Vis (compEnvC sc (JA3 X.env.cells sc.names []) Cc X.env).scope y:=e3
    have hfree:(y,NameKind.free)∈sc.names:=by
     have en:=JAN (X:=X) (sc:=sc) (Cc:=Cc) I.ok.kind
     unfold Vis at e3'
     rw [en] at e3'
     rcases e3' with e | e | e
     ·exfalso
      refine b.out y (List.mem_of_getElem? ez) hz ?_
      have:∀(names:List (Str×NameKind)),(JAi X.env.scope.names names).lookup y=some .local->names.lookup y=some .local:=by
       intro names
       induction names with
       | nil=>intro h;simp [JAi] at h
       | cons p r ih =>
        obtain ⟨n,kk⟩:=p
        intro h
        have e0:JAi X.env.scope.names ((n,kk)::r)=(if (kk==NameKind.free&&true&&X.env.scope.names.lookup n==some NameKind.cell)=true then (n,NameKind.cell) else (n,kk))::JAi X.env.scope.names r:=rfl
        rw [e0] at h
        rw [List.lookup_cons]
        split at h
        ·rw [List.lookup_cons] at h
         cases q:y==n with
         | true=>rw [q] at h;cases h
         | false=>rw [q] at h;exact ih h
        ·rw [List.lookup_cons] at h
         cases q:y==n with
         | true=>rw [q] at h;exact h
         | false=>rw [q] at h;exact ih h
      exact this sc.names e
     ·exact JBL b.nocell (.inl e)
     ·exact JBL b.nocell (.inr e)
    have hvis:Vis X.env.scope y:=by
     rcases b.free y hfree with e | e
     ·exact .inr (.inl e)
     ·exact .inr (.inr e)
    obtain ⟨mm,hmm,hl⟩:=I.loc
    obtain ⟨u,r,l⟩:=hl (i - xs.length) y v ez e2 hvis
    refine ⟨u,r,.inr ⟨?_,?_⟩⟩
    ·have en:=JAN (X:=X) (sc:=sc) (Cc:=Cc) I.ok.kind
     rcases e3' with e | e | e
     ·exfalso
      have e':(JAi X.env.scope.names sc.names).lookup y=some .local:=by rw [<-en];exact e
      have hh:=JBL (outer:=X.env.scope.names) (names:=sc.names) (x:=y) b.nocell
      have:∀(names:List (Str×NameKind)),(JAi X.env.scope.names names).lookup y=some .local->names.lookup y=some .local:=by
       intro names
       induction names with
       | nil=>intro h;simp [JAi] at h
       | cons p r ih =>
        obtain ⟨n,kk⟩:=p
        intro h
        have e0:JAi X.env.scope.names ((n,kk)::r)=(if (kk==NameKind.free&&true&&X.env.scope.names.lookup n==some NameKind.cell)=true then (n,NameKind.cell) else (n,kk))::JAi X.env.scope.names r:=rfl
        rw [e0] at h
        rw [List.lookup_cons]
        split at h
        ·rw [List.lookup_cons] at h
         cases q:y==n with
         | true=>rw [q] at h;cases h
         | false=>rw [q] at h;exact ih h
        ·rw [List.lookup_cons] at h
         cases q:y==n with
         | true=>rw [q] at h;exact h
         | false=>rw [q] at h;exact ih h
      exact b.out y (List.mem_of_getElem? ez) hz (this sc.names e')
     ·exact .inl e
     ·exact .inr e
    ·rcases l with ⟨hk,_⟩ | ⟨_,c,hc,hcell⟩
     ·exfalso
      rcases b.free y hfree with e | e
      ·rw [e] at hk;cases hk
      ·rw [e] at hk;cases hk
     ·refine ⟨c,(JBE b I.ok).mpr ⟨hfree,hc⟩,?_⟩
      obtain ⟨o,ho,hd⟩:=hcell
      exact ⟨o,k _ _ ho,hd⟩
   ·exfalso
    have hlt':i - xs.length<X.N.length:=(q_p.mp ez).1
    have:dots (0+(i - xs.length))=dots (i - xs.length):=by rw [Nat.zero_add]
    exact b.dots (i - xs.length) hlt' (by rw [<-this];exact vis_same.mp e3)
 cell:=fun x c e=>by
  obtain ⟨v,o,ho,hd⟩:=I.cell x c ((JBE b I.ok).mp e).2
  exact ⟨v,o,k _ _ ho,hd⟩
 free:=I.hok.fresh hC
 freeC:=fun x c e=>I.freeC x c ((JBE b I.ok).mp e).2
 pin:=fun p hp=>absurd (show p∈([]:List (Addr×Obj)) from hp) (by simp)
 hok:=I.hok.kept k
 len:=by
  show (xs.map (fun _=>(none:Option V))++σ).length=(xs++mask xs 0 X.N).length
  rw [q_u,q_u,q_g,JF2,I.len]
end
end VI
end
section
set_option maxRecDepth 100000
namespace VI
open PySem PySem.Spec PyProof.Rows L2
section
variable {X:Cx} {B:Bs} {C:Cn} {CX:CXT} {XX:Nat->Hp->Prop} {G:List (Str×GK)} {pins:List (Addr×Obj)} {σ:St} {H:Hp} {s:Shared} {sc:Scope} {N':List Str} {Cc:Addr}
abbrev noE:Value->Shared->Prop:=fun _ _=>False
noncomputable def JBt (X':Cx) (B:Bs) (σ:St) (n:Nat) (δ:Env) (target elt:Expr) (ifs:List Expr) (F:D->R (Option D)):Prop :=
 ∀(pins:List (Addr×Obj)) (s:Shared) (pre:St) (H:Hp) (d:D) (o:Option D) (v:V) (u:Value),pre.length=n->F d=.ok o->Inv X' pins (pre++σ) H s->RelV v u->Den B H d v->Sok B σ H δ ->
  wpAny (model X'.prog X'.w) X'.A (assign target X'.env u) (fun _ s₂ =>
   wpAny (model X'.prog X'.w) X'.A (forIn ifs true fun c r=>if r=true then do let ok<-isTrue c X'.env (eval c X'.env);pure (ForInStep.yield ok) else pure (ForInStep.yield r)) (fun ok s₃ =>
    if ok=true then ∃y,o=some y/\wpAny (model X'.prog X'.w) X'.A (eval elt X'.env) (fun x s₄=>∃pre' H' w,pre'.length=n/\Inv X' pins (pre'++σ) H' s₄/\Same H H'/\RelV w x/\Den B H' y w) noE s₃
    else o=none/\∃pre' H',pre'.length=n/\Inv X' pins (pre'++σ) H' s₃/\Same H H') noE s₂) noE s
theorem JEW {α:Type} {l:List α} {j:Nat} (h:j<l.length):l.drop j=l[j]::l.drop (j+1):=List.drop_eq_getElem_cons h
theorem JIU {elt iter target:Expr} {ifs:List Expr} {pos pos':Pos} {i:E} {δ:Env} {xs:List Str} {ds zs:List D} {F:D->R (Option D)} {use:Option (Value->Sem Unit)} {Q:Value->Shared->Prop}
  (g:Gk X B C CX XX G) (b:BlkOk X sc xs) (hi:PI X target iter (RI B C XX i)) (hs:∀x,foldedSetIterable iter X.env x=pure x)
  (hrun:∀Cc fp s0 H0,JBt (JAW X sc Cc (xs++mask xs 0 X.N) fp s0 H0) B σ xs.length δ target elt ifs F)
  (I:Inv X pins σ H s) (ok:Sok B σ H δ) (hds:evI C i δ=.ok ds) (hlen:ds.length<=16777216) (hz:JAo F ds=.ok zs)
  (fin:∀(D Cc:Addr) (s':Shared) (m:Str->Option Value) (H3:Hp) (yv:List V),s'.heap.Ns Cc m->Inv X pins σ (upd H3 D (.lst yv)) s'->Same H H3->H3 D=none->DenL B H3 zs yv->(upd H3 D (.lst yv)) Cc=none->Cc≠X.env.locals->X.s₀.heap.objs.size<=Cc ->
    (∀x c,X.env.cells.lookup x=some c->c≠Cc)->(∀p∈X.pn++pins,p.1≠Cc)->compPost (model X.prog X.w) X.A X.xe use Q (.ref D) Cc (.ok .next) s') :
  wpAny (model X.prog X.w) X.A (comprehension (.ListComp elt [⟨target,iter,ifs,0⟩] sc pos) sc X.env pos' (newList []) false (eval iter X.env) use) Q X.xe s:=by
 refine wpAny_comprehension_free rfl hs (b.clos I.ok) b.kind b.loc (wpAny_mono (hi pins s σ H (fun J H1=>Same H H1/\ItOk B J H1 ds) I ⟨δ,ok,?_⟩) (fun xv s₁ h₁=>wpAny_mono h₁ (fun itv s₂ h₂=>?_) (fun _ _ e=>e)) (fun _ _ e=>e))
 ·rw [hds];exact fun J H' s' io=>⟨s',io⟩
 obtain ⟨it,fp,tn,J,H2,e,I2,T,st2,f2,sm2,io⟩:=h₂
 subst e
 have hlt:∀b∈fp,b<s₂.heap.objs.size:=fun b hb=>by
  obtain ⟨o,ho,_⟩:=T.obj 0 _ st2 b hb
  exact q_h ho
 refine wpAny_newObj_type (wpAny_newFunctionEnv b.nocell (by intro y hy;simp at hy) (fun h₁ hns₁ hsb₁=>?_) b.kind)
 dsimp only at hns₁ hsb₁ ⊢
 generalize hH2:s₂.heap.push { cls:=.type "list",dict:=none,data:=.seq ([]:List Value).toArray }=P2 at hns₁ hsb₁ ⊢
 have hC:P2.objs.size=s₂.heap.objs.size+1:=by rw [<-hH2,Heap.size_push]
 have hCle:s₂.heap.objs.size<=P2.objs.size:=by rw [hC];exact Nat.le_succ _
 have hDC:s₂.heap.objs.size≠P2.objs.size:=by rw [hC];exact q_l (Nat.lt_succ_self _)
 have below:∀b,b<s₂.heap.objs.size->b≠P2.objs.size:=fun b hb=>by rw [hC];exact q_l (q_D hb)
 have old:∀b o,s₂.heap.get? b=some o->h₁.get? b=some o:=fun b o e=>hsb₁.extBut b o (below b (q_h e)) (q_c _ (hH2▸q_c _ e))
 have hacc:h₁.get? s₂.heap.objs.size=some { cls:=.type "list",dict:=none,data:=.seq ([]:List Value).toArray }:=hsb₁.extBut _ _ hDC (q_c _ (hH2▸q_k _ rfl))
 have I4:=JGs (fp:=fp) (t':=s₂.toks+([]:List (Str×Value)).length) b g.calm I2 f2 hlt hCle old hns₁
 have st4:tn 0 h₁:=T.keep _ _ _ st2 fun b _ o e=>old b o e
 have hH2D:H2 s₂.heap.objs.size=none:=I2.hok.fresh (q_t _)
 have fpX:∀ {ps:List (Addr×Obj)} {H':Hp},(∀b∈fp,H' b=none)->(∀p∈ps,p.1=s₂.heap.objs.size)->∀b∈fp,FpOk (JAW X sc P2.objs.size (xs++mask xs 0 X.N) fp s₂ H2) ps H' b:=fun {ps H'} hn hp a ha=>by
  refine ⟨hn a ha,below a (hlt a ha),I4.ok.exfs a ha,.inl ha,fun x c e=>(I4.ok.exf a ha).2 x c e,fun p hpp=>?_⟩
  have hpp':p∈ps:=hpp
  rw [hp p hpp']
  exact Nat.ne_of_gt (hlt a ha)
 have loop:∀s₃:Shared,s₃={ s₂ with heap:=h₁,toks:=s₂.toks+([]:List (Str×Value)).length } ->
    codeAny (model X.prog X.w) X.A (.compLoop (.ListComp elt [⟨target,iter,ifs,0⟩] sc pos) 0 (.ref it) (.ref s₂.heap.objs.size) (JAW X sc P2.objs.size (xs++mask xs 0 X.N) fp s₂ H2).env)
      (compPost (model X.prog X.w) X.A X.xe use Q (.ref s₂.heap.objs.size) P2.objs.size) s₃:=by
  rintro s₃ rfl
  refine JDB (fun n s'=>∃(j:Nat) (pre:St) (H':Hp) (ys:List D) (yv:List V) (its:List Value) (ep:Nat) (rest:List D),n=ds.length - j/\j<=ds.length/\pre.length=xs.length /\
    Inv (JAW X sc P2.objs.size (xs++mask xs 0 X.N) fp s₂ H2) [] (pre++σ) H' s'/\tn j s'.heap/\(∀b∈fp,H' b=none)/\Same H2 H'/\H' s₂.heap.objs.size=none /\
    s'.heap.get? s₂.heap.objs.size=some { cls:=.type "list",data:=.seq its.toArray ep }/\Vals yv its/\DenL B H' ys yv/\ys.length<=j/\JAo F (ds.drop j)=.ok rest/\zs=ys++rest) ?_ ds.length
    ⟨0,xs.map (fun _=>none),H2,[],[],[],0,zs,by simp,Nat.zero_le _,by simp,I4,st4,fun b hb=>(f2 b hb).1,Same.refl _,hH2D,hacc,.nil,by simp only [DenL],q_t _,by simpa using hz,rfl⟩
  rintro n s3 ⟨j,pre,H3,ys,yv,its,ep,rest,hn,hj,hpl,I3,st3,fr3,sm3,hD3,ho3,rv3,dn3,hyl,hr3,hzs⟩
  subst hn
  have I3p:Inv (JAW X sc P2.objs.size (xs++mask xs 0 X.N) fp s₂ H2) [(s₂.heap.objs.size,{ cls:=.type "list",data:=.seq its.toArray ep })] (pre++σ) H3 s3:=I3.pins_of fun p hp=>by
    have e:p=(s₂.heap.objs.size,{ cls:=.type "list",data:=.seq its.toArray ep }):=by simpa using hp
    subst e
    refine ⟨ho3,hD3,hDC,fun hm=>?_,fun v z=>?_⟩
    · obtain ⟨_,o,ho,_⟩:=I4.ok.funs.mem hm
      exact absurd (q_h ho) (Nat.lt_irrefl _)
    · have z':Data.seq its.toArray ep=Data.cell v:=z
      cases z'
  have sameE:∀(e:Value) (s':Shared),noE e s'->notedBy (model X.prog X.w) X.A (JAW X sc P2.objs.size (xs++mask xs 0 X.N) fp s₂ H2).env (fun e s'=>compPost (model X.prog X.w) X.A X.xe use Q (.ref s₂.heap.objs.size) P2.objs.size (.error e) s') e s':=fun _ _ z=>z.elim
  by_cases hlt3:j<ds.length
  ·
    have hd:ds[j]? = some ds[j]:=by simp [hlt3]
    obtain ⟨go,yl⟩:=(io H3 sm3 j).1 ds[j] hd
    refine wpAny_mono (T.item (JAW X sc P2.objs.size (xs++mask xs 0 X.N) fp s₂ H2) rfl rfl rfl rfl j [(s₂.heap.objs.size,{ cls:=.type "list",data:=.seq its.toArray ep })] s3 (pre++σ) H3 noE I3p (fpX fr3 (fun p hp=>by rw [List.mem_singleton.mp hp])) st3 go) (fun r s4 h4=>?_) sameE
    obtain ⟨u,hu,h4⟩:=h4
    subst hu
    show wpAny _ _ (letOwnedTupleGo target (.ref it) u) _ _ s4
    refine wpAny_mono h4 (fun _ s5 h5=>?_) sameE
    obtain ⟨v,H5,I5,r5,y5,st5,fr5⟩:=h5
    obtain ⟨s35,d5⟩:Same H3 H5/\Den B H5 ds[j] v:=by
      rcases yl v H5 y5 with ⟨e5,d5⟩ | ⟨p,ws,es,hp,e5,ex,ed,dl⟩
      · subst e5;exact ⟨Same.refl _,Den.mono sm3 _ _ d5⟩
      · subst e5;subst ex
        have s35:Same H3 (upd H3 p (.tup ws)):=JA7 hp
        refine ⟨s35,?_⟩
        rw [ed]
        simp only [Den]
        exact ⟨p,ws,rfl,SqT.of JAC,DenL.mono (sm3.trans s35) _ _ dl⟩
    replace sm3:=sm3.trans s35
    replace dn3:=DenL.mono s35 ys yv dn3
    have I5p:=I5.pinned (fpX fr5 (fun p hp=>by rw [List.mem_singleton.mp hp])) (T.obj _ _ st5)
    rw [JEW hlt3] at hr3
    unfold JAo at hr3
    have okσ:Sok B σ H5 δ:=(ok.mono sm2).mono sm3
    cases qF:F ds[j] with
    | exc c=>rw [qF] at hr3;cases hr3
    | bad=>rw [qF] at hr3;cases hr3
    | ok o =>
      have hstep:=hrun P2.objs.size fp s₂ H2 _ s5 pre H5 ds[j] o v u hpl qF I5p r5 d5 okσ
      refine wpAny_mono hstep (fun _ s6 h6=>wpAny_mono h6 (fun okb s7 h7=>?_) sameE) sameE
      have back:∀ {σ':St} {H':Hp} {s':Shared},Inv (JAW X sc P2.objs.size (xs++mask xs 0 X.N) fp s₂ H2) ([(s₂.heap.objs.size,{ cls:=.type "list",data:=.seq its.toArray ep })]++JE7 fp s5.heap) σ' H' s' ->
         s'.heap.get? s₂.heap.objs.size=some { cls:=.type "list",data:=.seq its.toArray ep }/\H' s₂.heap.objs.size=none/\tn (j+1) s'.heap/\(∀b∈fp,H' b=none):=fun {σ' H' s'} J'=>by
        have p0:=J'.pin (s₂.heap.objs.size,{ cls:=.type "list",data:=.seq its.toArray ep }) (q_r _ (List.mem_append_left _ (by simp)))
        refine ⟨p0.1,p0.2.1,T.keep _ _ _ st5 fun a ha o e=>(J'.pin (a,o) (q_r _ (q_r _ (JBg ha e)))).1,fun a ha=>?_⟩
        obtain ⟨o,e,_⟩:=T.obj _ _ st5 a ha
        exact (J'.pin (a,o) (q_r _ (q_r _ (JBg ha e)))).2.1
      cases okb with
      | false =>
        obtain ⟨eo,pre',H',hp',I',sm'⟩:=h7
        subst eo
        rw [qF] at hr3
        obtain ⟨b1,b2,b3,b4⟩:=back I'
        rw [if_neg Bool.false_ne_true]
        refine ⟨ds.length - (j+1),by omega,j+1,pre',H',ys,yv,its,ep,rest,rfl,hlt3,hp',I'.pins_of (fun p hp=>absurd hp (by simp)),b3,b4,sm3.trans sm',b2,b1,rv3,DenL.mono sm' ys yv dn3,by omega,hr3,hzs⟩
      | true =>
        rw [if_pos rfl] at h7 ⊢
        obtain ⟨y,eo,h7⟩:=h7
        subst eo
        rw [qF] at hr3
        cases qr:JAo F (ds.drop (j+1)) with
        | exc c=>simp only [qr] at hr3;cases hr3
        | bad=>simp only [qr] at hr3;cases hr3
        | ok rs =>
         simp only [qr] at hr3
         have hr3':y::rs=rest:=by injection hr3
         refine wpAny_mono h7 (fun x s8 h8=>?_) sameE
         obtain ⟨pre',H',w',hp',I',sm',rw8,d8⟩:=h8
         obtain ⟨b1,b2,b3,b4⟩:=back I'
         have hsz:its.length<=j:=by rw [<-rv3.length,<-DenL.len ys yv dn3];exact hyl
         have hlim:its.toArray.size<sizeLine:=by rw [q_f,sizeLine_eq];omega
         refine call_meets PySem.F.slot_list_append ⟨_,b1,rfl⟩ PySem.F.entry_list_append (PySem.F.args_list_append_2 _ _) (PySem.list_append s₂.heap.objs.size its.toArray ep x (by omega)) ⟨b1,?_⟩
         have q8:=PySem.IsL.update b1 (fun a=>a.push x)
         have q8':(s8.heap.update s₂.heap.objs.size (Obj.mapSeq (fun a=>a.push x))).get? s₂.heap.objs.size=some { cls:=.type "list",data:=.seq (its++[x]).toArray (if (its.toArray.push x).size==its.toArray.size then ep else ep+1) }:=by simpa using q8
         have I0:Inv (JAW X sc P2.objs.size (xs++mask xs 0 X.N) fp s₂ H2) [] (pre'++σ) H' s8:=I'.pins_of (fun p hp=>absurd hp (by simp))
         have I9:=I0.turned (h':=s8.heap.update s₂.heap.objs.size (Obj.mapSeq (fun a=>a.push x))) (t':=s8.toks) (it:=s₂.heap.objs.size) (fun b o hb e=>(Heap.get?_update_other _ _ (Ne.symm hb)).trans e) b2 hDC (.inr (q_t _))
          (fun x c e z=>by
            obtain ⟨v',o',ho',_⟩:=I2.cell x c ((JBE b I.ok).mp e).2
            rw [z] at ho'
            exact absurd (q_h ho') (Nat.lt_irrefl _)) (fun p hp=>absurd (show p∈([]:List (Addr×Obj)) from hp) (by simp))
         refine ⟨ds.length - (j+1),by omega,j+1,pre',H',ys++[y],yv++[w'],its++[x],_,rs,rfl,hlt3,hp',I9,T.keep _ _ _ b3 fun a ha o e=>(Heap.get?_update_other _ _ (Nat.ne_of_gt (hlt a ha))).trans e,b4,sm3.trans sm',b2,q8',rv3.append (.cons rw8 .nil),
          DenL.append ys [y] yv [w'] (DenL.mono sm' ys yv dn3) (by simp only [DenL];exact ⟨w',[],rfl,d8,rfl⟩),by rw [q_u,List.length_singleton];omega,qr,by rw [hzs,<-hr3'];simp⟩
  ·
    have ej:j=ds.length:=by omega
    have stop:=(io H3 sm3 j).2 (by omega)
    refine wpAny_mono (T.done (JAW X sc P2.objs.size (xs++mask xs 0 X.N) fp s₂ H2) rfl rfl rfl rfl j [(s₂.heap.objs.size,{ cls:=.type "list",data:=.seq its.toArray ep })] s3 (pre++σ) H3 noE I3p (fpX fr3 (fun p hp=>by rw [List.mem_singleton.mp hp])) st3 stop) (fun r s4 h4=>?_) sameE
    obtain ⟨hr,I5⟩:=h4
    subst hr
    show compPost _ _ _ _ _ _ _ _ s4
    have p0:=I5.pin (s₂.heap.objs.size,{ cls:=.type "list",data:=.seq its.toArray ep }) (q_r _ (by simp))
    have hrest:rest=[]:=by
      rw [ej,List.drop_length] at hr3
      unfold JAo at hr3
      injection hr3 with hr3
      exact hr3.symm
    have u0:Un (frs X.stack) fp H2 H3 s₂.heap s4.heap:=I5.base
    have neD:∀b o,s₂.heap.get? b=some o->b≠s₂.heap.objs.size:=fun b o e=>q_l (q_h e)
    have nD:∀b o,H3 b=some o->b≠s₂.heap.objs.size:=fun b o e z=>by rw [z,hD3] at e;cases e
    have u1:Un (frs X.stack) fp H2 (upd H3 s₂.heap.objs.size (.lst yv)) s₂.heap s4.heap :=
      ⟨u0.keep,u0.slot,fun b o e n hx=>by rw [JAF (neD b o e)];exact u0.free b o e n hx,u0.there,fun b xs' e=>by rw [JAF (nD b _ (u0.tups b xs' e))];exact u0.tups b xs' e,
        fun b o u e=>by rw [JAF (nD b _ (u0.frzs b o u e))];exact u0.frzs b o u e,fun b ps e=>by
         obtain ⟨more,q⟩:=u0.tbls b ps e
         exact ⟨more,by rw [JAF (nD b _ q)];exact q⟩⟩
    have hvl:yv.length<=sizeLine:=by rw [<-DenL.len ys yv dn3,sizeLine_eq];omega
    have hok1:HOk X.prog X.w (upd H3 s₂.heap.objs.size (.lst yv)) s4.heap:=fun a u e=>by
      by_cases ha:a=s₂.heap.objs.size
      · subst ha
        rw [JAC] at e;cases e
        exact ⟨hvl,its,ep,rv3,p0.1⟩
      · rw [JAF ha] at e
        exact (I5.hok a u e).stay (fun c w' _ q=>q) (fun c q=>by rw [JAF (nD c _ q)];exact q) fun c xs' q=>by rw [JAF (nD c _ q)];exact q
    have J:=I2.call' (s':=s4) I5.os u1 hok1 I5.bare fun a ha=>⟨(f2 a ha).2.2.2.1,(f2 a ha).2.1,(f2 a ha).2.2.2.2.1,(f2 a ha).2.2.2.2.2⟩
    obtain ⟨m4,hn4,_⟩:=I5.loc
    refine fin s₂.heap.objs.size P2.objs.size s4 m4 H3 yv hn4 J (sm2.trans sm3) hD3 ?_ ?_ ?_ ?_ ?_ ?_
    · rw [hzs,hrest,List.append_nil]
      exact dn3
    · rw [JAF (Ne.symm hDC)];exact I5.free
    · exact Nat.ne_of_gt (q_m I2.lt hCle)
    · exact Nat.le_trans I2.sz hCle
    · intro x c e z
      obtain ⟨v',o',ho',_⟩:=I2.cell x c e
      rw [z] at ho'
      exact absurd (q_m (q_h ho') hCle) (Nat.lt_irrefl _)
    · intro p hp z
      exact absurd (q_m (q_h (I2.pin p hp).1) (by rw [z];exact hCle)) (Nat.lt_irrefl _)
 exact codeAny_compStart_list (loop _ rfl) (T.self _ _ _ _ _ st4 (loop _ rfl))
end
end VI
end
section
set_option maxRecDepth 100000
namespace VI
open PySem PySem.Spec PyProof.Rows L2
theorem JHv {B:Bs} {H:Hp} {a:Addr} {ds:List D} {xs:List V} (q:SqL B.K H a xs) (l:DenL B H ds xs):ItOk B (Itl B.K a) H ds:=by
 intro H2 s2 i
 have q2:=s2.seq q
 refine ⟨fun d e=>?_,fun h=>⟨xs,q2,by rw [<-DenL.len ds xs l];exact h⟩⟩
 obtain ⟨v,e1,dn⟩:=DenL.get ds xs i d l e
 refine ⟨⟨xs,v,q2,e1⟩,fun x H3 y=>?_⟩
 obtain ⟨e3,y⟩:=y
 have:=y xs q2
 rw [e1] at this
 cases this
 exact .inl ⟨e3,dn⟩
theorem JJY {B:Bs} {H:Hp} {a:Addr} {ds:List D} {xs:List V} (q:SqT B.K H a xs) (l:DenL B H ds xs):ItOk B (Itt B.K a) H ds:=by
 intro H2 s2 i
 have q2:=JIz s2 q
 refine ⟨fun d e=>?_,fun h=>⟨xs,q2,by rw [<-DenL.len ds xs l];exact h⟩⟩
 obtain ⟨v,e1,dn⟩:=DenL.get ds xs i d l e
 refine ⟨⟨xs,v,q2,e1⟩,fun x H3 y=>?_⟩
 obtain ⟨e3,y⟩:=y
 have:=y xs q2
 rw [e1] at this
 cases this
 exact .inl ⟨e3,dn⟩
theorem JFw {B:Bs} {H:Hp} {lo hi:Int}:ItOk B (Itr lo (hi - lo).toNat) H (JGZ lo hi):=by
 intro H2 s2 i
 unfold JGZ
 refine ⟨fun d e=>?_,fun h=>show (hi - lo).toNat<=i by simpa using h⟩
 rw [List.getElem?_map] at e
 by_cases hi':i<(hi - lo).toNat
 ·rw [List.getElem?_range hi'] at e
  simp only [Option.map_some,q_j] at e
  refine ⟨hi',fun x H3 y=>?_⟩
  obtain ⟨e3,y⟩:=y
  refine .inl ⟨e3,?_⟩
  rw [<-e,y]
  simp only [Den]
 ·rw [List.getElem?_eq_none_iff.mpr (by simpa using hi')] at e
  cases e
section
variable {X:Cx} {B:Bs} {C:Cn} {CX:CXT} {XX:Nat->Hp->Prop} {G:List (Str×GK)} {a b c tg:Expr} {x y z:E} {pos p:Pos}
theorem JD7 (g:Gk X B C CX XX G) (ha:PE X a (RE B C XX x)) (hi:∀δ,evI C x δ=(ev C x δ).bind JA5):PI X tg a (RI B C XX x):=by
 intro pins s σ H R I ⟨δ,ok,k⟩
 rw [hi] at k
 cases q:ev C x δ with
 | ok d =>
  rw [q] at k
  cases d with
  | list ds =>
   refine JIk ha pins s σ H R I ⟨δ,ok,?_⟩
   rw [q]
   intro v H1 s1 d1
   simp only [Den] at d1
   obtain ⟨p,xs,e,hq,l⟩:=d1
   refine ⟨p,e,⟨xs,g.K▸hq⟩,?_⟩
   rw [g.K]
   exact k _ H1 s1 (JHv hq l)
  | tuple ds =>
   refine JOA ha pins s σ H R I ⟨δ,ok,?_⟩
   rw [q]
   intro v H1 s1 d1
   simp only [Den] at d1
   obtain ⟨p,xs,e,hq,l⟩:=d1
   refine ⟨p,e,⟨xs,g.K▸hq⟩,?_⟩
   rw [g.K]
   exact k _ H1 s1 (JJY hq l)
  | _=>exact False.elim k
 | exc c =>
  rw [q] at k
  refine JIk ha pins s σ H R I ⟨δ,ok,?_⟩
  rw [q]
  exact k
 | bad=>rw [q] at k;exact k.elim
theorem JCo {i:Int} (h:small i=true):-(2 ^ 62)<=i/\i<2 ^ 62:=by
 unfold small at h
 simp only [q_i,q_C] at h
 exact h
theorem JOG (g:Gk X B C CX XX G) (hg:Gl X "range") (hm:X.mg "range"=none) (ha:PA X [a] (RA B C XX x)) (hc:cnt x=1) (hs:starEach [a] X.env=[(false,eval a X.env)]):PI X tg (.Call (.Name "range" p) [a] [] pos) (RI B C XX (.rng x)):=by
 intro pins s σ H R I ⟨δ,ok,k⟩
 refine JIA hg hm ha hs pins s σ H R I ?_
 simp only [evI] at k
 refine ⟨δ,ok,?_⟩
 cases q:evA C x δ with
 | ok ds =>
  rw [q] at k
  intro vs H1 s1 d1
  have hl:=JBX x δ ds q
  rw [hc] at hl
  match ds,hl,k,d1 with
  | [.none],_,k,_=>exact False.elim k
  | [.bool _],_,k,_=>exact False.elim k
  | [.str _],_,k,_=>exact False.elim k
  | [.list _],_,k,_=>exact False.elim k
  | [.tuple _],_,k,_=>exact False.elim k
  | [.dict _],_,k,_=>exact False.elim k
  | [.int j],_,k,d1 =>
   simp only [VI.R.bind,rngD] at k
   split at k
   ·rename_i hsm
    simp only [DenL,Den] at d1
    obtain ⟨v,r,e,e1,e2⟩:=d1
    subst e2;subst e;subst e1
    obtain ⟨b1,b2⟩:=JCo hsm
    refine ⟨j,rfl,b1,b2,?_⟩
    have:=k (Itr 0 (j - 0).toNat) H1 s1 JFw
    simpa using this
   ·exact k.elim
 | exc c=>rw [q] at k;exact k
 | bad=>rw [q] at k;exact k.elim
theorem JN8 (g:Gk X B C CX XX G) (hg:Gl X "range") (hm:X.mg "range"=none) (ha:PA X [a,b] (RA B C XX x)) (hc:cnt x=2) (hs:starEach [a,b] X.env=[(false,eval a X.env),(false,eval b X.env)]) (hs2:starEach [b] X.env=[(false,eval b X.env)]) :
  PI X tg (.Call (.Name "range" p) [a,b] [] pos) (RI B C XX (.rng x)):=by
 intro pins s σ H R I ⟨δ,ok,k⟩
 refine JHX hg hm ha hs hs2 pins s σ H R I ?_
 simp only [evI] at k
 refine ⟨δ,ok,?_⟩
 cases q:evA C x δ with
 | ok ds =>
  rw [q] at k
  intro vs H1 s1 d1
  have hl:=JBX x δ ds q
  rw [hc] at hl
  match ds,hl,k,d1 with
  | [.none,_],_,k,_=>exact False.elim k
  | [.bool _,_],_,k,_=>exact False.elim k
  | [.str _,_],_,k,_=>exact False.elim k
  | [.list _,_],_,k,_=>exact False.elim k
  | [.tuple _,_],_,k,_=>exact False.elim k
  | [.dict _,_],_,k,_=>exact False.elim k
  | [.int _,.none],_,k,_=>exact False.elim k
  | [.int _,.bool _],_,k,_=>exact False.elim k
  | [.int _,.str _],_,k,_=>exact False.elim k
  | [.int _,.list _],_,k,_=>exact False.elim k
  | [.int _,.tuple _],_,k,_=>exact False.elim k
  | [.int _,.dict _],_,k,_=>exact False.elim k
  | [.int i,.int j],_,k,d1 =>
   simp only [VI.R.bind,rngD] at k
   split at k
   ·rename_i hsm
    simp only [q_i] at hsm
    simp only [DenL,Den] at d1
    obtain ⟨v,r,e,e1,v',r',e',e1',e2⟩:=d1
    subst e2;subst e';subst e;subst e1;subst e1'
    obtain ⟨b1,b2⟩:=JCo hsm.1
    obtain ⟨b3,b4⟩:=JCo hsm.2
    exact ⟨i,j,rfl,⟨b1,b2,b3,b4⟩,k _ H1 s1 JFw⟩
   ·exact k.elim
 | exc c=>rw [q] at k;exact k
 | bad=>rw [q] at k;exact k.elim
end
end VI
end
section
set_option maxRecDepth 100000
namespace VI
open PySem PySem.Spec PyProof.Rows L2
theorem JBZ {G:List (Str×GK)} {n:Nat} {it:Bool} {names:List (Str×NameKind)} {N:List Str} {e:Expr} {x:E} (h:JAA G n it names N e=some x) (env:PySem.Env) (v:Value):foldedSetIterable e env v=pure v:=by
 cases n with
 | zero=>simp [JAA] at h
 | succ n=>cases e<;>first | rfl | (simp [JAA,xOf,xRaw] at h)
theorem Gk.nox {X X':Cx} {B:Bs} {C:Cn} {CX:CXT} {XX:Nat->Hp->Prop} {G:List (Str×GK)} (g:Gk X B C CX XX G) (h1:X'.K=X.K) (h2:X'.A=X.A) (h3:X'.mg=X.mg) (h4:X'.prog=X.prog) (h5:X'.w=X.w) (h6:X'.base=X.base) (h7:X'.calm=true)
  (hp:JDL CX X' (EX B fun _ _=>False)):Gk X' B C CX (fun _ _=>False) G where
 K:=h1.trans g.K
 W:=h5.trans g.W
 anti:=fun _ _ _ _ z=>z
 units:=by rw [h2];exact g.units
 calm:=h7
 fn:=by rw [h1,h2,h3,h4,h5,h6];exact g.fn
 pas:=hp
 con:=by rw [h3];exact g.con
 noexg:=g.noexg
 blt:=by rw [h3];exact g.blt
 rng:=by rw [h3];exact g.rng
 isi:=by rw [h3];exact g.isi
 ty:=by rw [h3];exact g.ty
 cls:=by rw [h3];exact g.cls
 nam:=by rw [h3];exact g.nam
theorem JB5 {f:D->R (Option D)} {c:Nat}:∀ {ds:List D},JAo f ds≠.exc c
 | []=>fun h=>by unfold JAo at h;cases h
 | x::xs=>fun h=>by
  unfold JAo at h
  cases q:f x with
  | ok o =>
   rw [q] at h
   cases o with
   | none=>exact JB5 h
   | some y =>
    cases q2:JAo f xs with
    | ok ys=>simp only [q2] at h;cases h
    | exc c=>simp only [q2] at h;cases h
    | bad=>simp only [q2] at h;cases h
  | exc c=>rw [q] at h;cases h
  | bad=>rw [q] at h;cases h
section
variable {X:Cx} {B:Bs} {C:Cn} {CX:CXT} {XX:Nat->Hp->Prop} {G:List (Str×GK)} {a b c tg:Expr} {x y z:E} {pos p:Pos}
noncomputable def itemF (C:Cn) (k:Nat) (x y:E) (δ:Env) (d:D):R (Option D):=(push k d δ).bind fun δ1=>(evT C y δ1).bind fun t=>if t=true then (ev C x δ1).bind fun z=>.ok (some z) else .ok none
theorem JGN {σ:St} {H:Hp} {δ:Env} {d:D} {v:V} (ok:Sok B σ H δ) (dn:Den B H d v):Sok B (some v::σ) H (.val d::δ):=by
 intro i d' e
 cases i with
 | zero =>
  have:d=d':=by
   have e':(R.ok d:R D)=.ok d':=e
   injection e'
  subst this
  exact ⟨v,rfl,dn⟩
 | succ i=>exact ok i d' e
theorem JB4 {X':Cx} {nm:Str} {px:Pos} {elt:Expr} {ifs:List Expr} {σ:St} {δ:Env} (hN0:X'.N.Nodup) (hN:X'.N[0]? = some nm) (hloc:X'.env.scope.names.lookup nm=some .local)
  (he:PE X' elt (RE B C (fun _ _=>False) x)) (hc:∀c,ifs=[c]->PT X' c (RT B C (fun _ _=>False) y)) (hifs:ifs=[]/\y=.cbl true\/∃c,ifs=[c]) (hxe:X'.xe=noE) :
  JBt X' B σ 1 δ (.Name nm px) elt ifs (itemF C 0 x y δ):=by
 intro pins s pre H d o v u hpre hF I r dn ok
 obtain ⟨p0,rfl⟩:∃p0,pre=[p0]:=by
  match pre,hpre with
  | [p0],_=>exact ⟨p0,rfl⟩
 have hF':(evT C y (.val d::δ)).bind (fun t=>if t=true then (ev C x (.val d::δ)).bind fun z=>.ok (some z) else .ok none)=.ok o:=hF
 have ok1:=JGN ok dn
 have hst:=JDb (X:=X') (pos:=px) hN0 hN (.inl hloc) (.inr hloc) pins s ([p0]++σ) H v u (fun σ' H'=>σ'=some v::σ/\H'=H) I r ⟨rfl,rfl⟩
 rw [hxe] at hst
 refine thn hst fun _ s2 ⟨σ2,H2,I2,e1,e2⟩=>?_
 subst e1;subst e2
 have elt_go:∀(s3:Shared) (H3:Hp) (t:Bool),Inv X' pins (some v::σ) H3 s3->Same H2 H3->evT C y (.val d::δ)=.ok t ->
    (if t=true then ∃z,o=some z/\wpAny (model X'.prog X'.w) X'.A (eval elt X'.env) (fun x s₄=>∃pre' H' w,pre'.length=1/\Inv X' pins (pre'++σ) H' s₄/\Same H2 H'/\RelV w x/\Den B H' z w) noE s3
      else o=none/\∃pre' H',pre'.length=1/\Inv X' pins (pre'++σ) H' s3/\Same H2 H'):=by
  intro s3 H3 t I3 s23 qt
  rw [qt] at hF'
  cases t with
  | true =>
    rw [if_pos rfl]
    simp only [R.bind,if_true] at hF'
    cases qx:ev C x (.val d::δ) with
    | ok z =>
      simp only [qx] at hF'
      have eo:o=some z:=by injection hF' with h;exact h.symm
      refine ⟨z,eo,?_⟩
      have hh:=he pins s3 (some v::σ) H3 (fun w H'=>Same H3 H'/\Den B H' z w) I3 ⟨_,ok1.mono s23,by rw [qx];exact fun w H' s' d'=>⟨s',d'⟩⟩
      rw [hxe] at hh
      exact thn hh fun x' s4 ⟨w,H',I4,rw4,s34,d4⟩=>⟨[some v],H',w,rfl,I4,s23.trans s34,rw4,d4⟩
    | exc c=>simp only [qx] at hF';cases hF'
    | bad=>simp only [qx] at hF';cases hF'
  | false =>
    rw [if_neg Bool.false_ne_true]
    simp only [R.bind,q_v,if_false] at hF'
    have eo:o=none:=by injection hF' with h;exact h.symm
    exact ⟨eo,[some v],H3,rfl,I3,s23⟩
 rcases hifs with ⟨e1,e2⟩ | ⟨c',e1⟩
 ·subst e1;subst e2
  exact wpAny_tests_nil (elt_go s2 H2 true I2 (Same.refl _) (by simp only [evT]))
 ·subst e1
  refine wpAny_tests_one ?_
  cases qt:evT C y (.val d::δ) with
  | ok t =>
    have hh:=hc c' rfl pins s2 (some v::σ) H2 (fun t' H'=>t'=t/\Same H2 H') I2 ⟨_,ok1,by rw [qt];exact fun H' s'=>⟨rfl,s'⟩⟩
    rw [hxe] at hh
    refine thn hh fun t' s3 ⟨H3,I3,e3,s23⟩=>?_
    subst e3
    exact elt_go s3 H3 t' I3 s23 qt
  | exc c=>rw [qt] at hF';cases hF'
  | bad=>rw [qt] at hF';cases hF'
theorem JCK {e:Expr} {r:List Expr} {xs:List Str} (h:namesOf (e::r)=some xs):∃nm p ys,e=.Name nm p/\namesOf r=some ys/\xs=nm::ys:=by
 unfold namesOf at h
 split at h
 ·rename_i q;cases q
 ·rename_i q
  cases q
  obtain ⟨ys,h1,h2⟩:=q_d.mp h
  exact ⟨_,_,ys,rfl,h1,h2.symm⟩
 ·cases h
theorem JCN {env:PySem.Env}:∀ {ts:List Expr} {xs:List Str},namesOf ts=some xs->(assignEach ts env).findIdx? (·.1)=none/\(assignEach ts env).length=xs.length
 | [],xs,h=>by unfold namesOf at h;cases h;exact ⟨rfl,rfl⟩
 | e::r,xs,h=>by
  obtain ⟨nm,p,ys,rfl,h1,rfl⟩:=JCK h
  obtain ⟨q1,q2⟩:=JCN (env:=env) h1
  refine ⟨?_,by show (assignEach r env).length+1=_;rw [q2];rfl⟩
  show List.findIdx? (·.1) ((false,assign (.Name nm p) env)::assignEach r env)=none
  rw [List.findIdx?_cons]
  simp [q1]
noncomputable def JD4:Nat->List V->St->St
 | _,[],σ=>σ
 | j,v::r,σ=>JD4 (j+1) r (σ.set j (some v))
theorem JCi:∀(vs:List V) (a pre σ:St),pre.length=vs.length->JD4 a.length vs (a++(pre++σ))=a++(vs.map some++σ)
 | [],a,pre,σ,h=>by
  have:pre=[]:=q_A.mp h
  subst this;rfl
 | v::r,a,[],σ,h=>by cases h
 | v::r,a,p::pre,σ,h=>by
  simp only [JD4]
  have e:(a++(p::pre++σ)).set a.length (some v)=(a++[some v])++(pre++σ):=by
   rw [List.set_append_right _ _ (q_t _),Nat.sub_self]
   simp
  rw [e,show a.length+1=(a++[some v]).length by simp,JCi r (a++[some v]) pre σ (by simpa using h)]
  simp
theorem JFi {X':Cx} (hN0:X'.N.Nodup):∀ {ts:List Expr} {xs:List Str} {j:Nat},namesOf ts=some xs->(∀(i:Nat) (nm:Str),xs[i]? = some nm->X'.N[j+i]? = some nm)->(∀nm∈xs,X'.env.scope.names.lookup nm=some .local)->PGs X' ts (fun vs σ H Q=>vs.length=xs.length/\Q (JD4 j vs σ) H)
 | [],xs,j,h,_,_=>by
  unfold namesOf at h;cases h
  intro pins s σ H vs us Q I r ⟨e,q⟩
  have ev:vs=[]:=q_A.mp e
  subst ev
  exact JHG pins s σ H [] us Q I r ⟨rfl,q⟩
 | e::r,xs,j,h,hN,hl=>by
  obtain ⟨nm,p,ys,rfl,h1,rfl⟩:=JCK h
  have hx:X'.env.scope.names.lookup nm=some .local:=hl nm (by simp)
  have ih:=JFi hN0 (j:=j+1) h1 (fun i z e=>by have:=hN (i+1) z (by simpa using e);rw [show j+1+i=j+(i+1) by omega];exact this) (fun z hz=>hl z (by simp [hz]))
  intro pins s σ H vs us Q I rv ⟨e,q⟩
  refine JFy (JDb hN0 (hN 0 nm rfl) (.inl hx) (.inr hx)) ih rfl pins s σ H vs us Q I rv ?_
  match vs,e,q with
  | v::vr,e,q=>exact ⟨v,vr,rfl,by simpa using e,q⟩
theorem JDT {σ:St} {H:Hp} {δ:Env}:∀ {ds:List D} {vs:List V},Sok B σ H δ->DenL B H ds vs->Sok B (vs.map some++σ) H (ds.map Sl.val++δ)
 | [],vs,ok,dn=>by simp only [DenL] at dn;subst dn;exact ok
 | d::ds,vs,ok,dn=>by
  simp only [DenL] at dn
  obtain ⟨v,r,rfl,d1,d2⟩:=dn
  exact JGN (JDT ok d2) d1
theorem item_tup {X':Cx} {ts:List Expr} {kt:Nat} {pt:Pos} {xs:List Str} {elt:Expr} {ifs:List Expr} {σ:St} {δ:Env} (hcalm:X'.calm=true) (hK:X'.K=B.K) (hx:namesOf ts=some xs) (hne:xs≠[]) (hN0:X'.N.Nodup) (hN:∀(i:Nat) (nm:Str),xs[i]? = some nm->X'.N[i]? = some nm) (hloc:∀nm∈xs,X'.env.scope.names.lookup nm=some .local)
  (he:PE X' elt (RE B C (fun _ _=>False) x)) (hc:∀c,ifs=[c]->PT X' c (RT B C (fun _ _=>False) y)) (hifs:ifs=[]/\y=.cbl true\/∃c,ifs=[c]) (hxe:X'.xe=noE) :
  JBt X' B σ xs.length δ (.Tuple ts kt pt) elt ifs (itemF C xs.length x y δ):=by
 intro pins s pre H d o v u hpre hF I r dn ok
 obtain ⟨ds,ed,hdl,hF'⟩:∃ds,d=.tuple ds/\ds.length=xs.length/\(evT C y (ds.map Sl.val++δ)).bind (fun t=>if t=true then (ev C x (ds.map Sl.val++δ)).bind fun z=>.ok (some z) else .ok none)=.ok o:=by
  obtain ⟨n,hn⟩:∃n,xs.length=n+1:=⟨xs.length - 1,by have:=List.length_pos_iff.mpr hne;omega⟩
  rw [hn] at hF ⊢
  unfold itemF push at hF
  cases d<;>first | (cases hF;done) | skip
  rename_i ds
  simp only at hF
  split at hF
  · rename_i h;exact ⟨ds,rfl,h,hF⟩
  · cases hF
 subst ed
 simp only [Den] at dn
 obtain ⟨a,vs,rfl,sq,dl⟩:=dn
 have hvl:=DenL.len ds vs dl
 have ok1:=JDT ok dl
 obtain ⟨st1,st2⟩:=JCN (env:=X'.env) hx
 have hst:=JHP (X:=X') (pos:=pt) (k:=kt) hcalm (JFi (j:=0) hN0 hx (fun i nm e=>by rw [Nat.zero_add];exact hN i nm e) hloc) st2 st1 pins s (pre++σ) H (.ref a) u (fun σ' H'=>σ'=vs.map some++σ/\H'=H) I r
  ⟨a,vs,rfl,by rw [hK];exact sq,by omega,by omega,by have:=JCi vs [] pre σ (by omega);simpa using this,rfl⟩
 rw [hxe] at hst
 refine thn hst fun _ s2 ⟨σ2,H2,I2,e1,e2⟩=>?_
 subst e1;subst e2
 have hlen:(vs.map some:St).length=xs.length:=by simp;omega
 generalize (vs.map some:St)=P at *
 generalize ds.map Sl.val++δ=δ1 at *
 have elt_go:∀(s3:Shared) (H3:Hp) (t:Bool),Inv X' pins (P++σ) H3 s3->Same H2 H3->evT C y δ1=.ok t ->
    (if t=true then ∃z,o=some z/\wpAny (model X'.prog X'.w) X'.A (eval elt X'.env) (fun x s₄=>∃pre' H' w,pre'.length=xs.length/\Inv X' pins (pre'++σ) H' s₄/\Same H2 H'/\RelV w x/\Den B H' z w) noE s3
      else o=none/\∃pre' H',pre'.length=xs.length/\Inv X' pins (pre'++σ) H' s3/\Same H2 H'):=by
  intro s3 H3 t I3 s23 qt
  rw [qt] at hF'
  cases t with
  | true =>
    rw [if_pos rfl]
    simp only [R.bind,if_true] at hF'
    cases qx:ev C x δ1 with
    | ok z =>
      simp only [qx] at hF'
      have eo:o=some z:=by injection hF' with h;exact h.symm
      refine ⟨z,eo,?_⟩
      have hh:=he pins s3 (P++σ) H3 (fun w H'=>Same H3 H'/\Den B H' z w) I3 ⟨_,ok1.mono s23,by rw [qx];exact fun w H' s' d'=>⟨s',d'⟩⟩
      rw [hxe] at hh
      exact thn hh fun x' s4 ⟨w,H',I4,rw4,s34,d4⟩=>⟨P,H',w,hlen,I4,s23.trans s34,rw4,d4⟩
    | exc c=>simp only [qx] at hF';cases hF'
    | bad=>simp only [qx] at hF';cases hF'
  | false =>
    rw [if_neg Bool.false_ne_true]
    simp only [R.bind,q_v,if_false] at hF'
    have eo:o=none:=by injection hF' with h;exact h.symm
    exact ⟨eo,P,H3,hlen,I3,s23⟩
 rcases hifs with ⟨e1,e2⟩ | ⟨c',e1⟩
 ·subst e1;subst e2
  exact wpAny_tests_nil (elt_go s2 H2 true I2 (Same.refl _) (by simp only [evT]))
 ·subst e1
  refine wpAny_tests_one ?_
  cases qt:evT C y δ1 with
  | ok t =>
    have hh:=hc c' rfl pins s2 (P++σ) H2 (fun t' H'=>t'=t/\Same H2 H') I2 ⟨_,ok1,by rw [qt];exact fun H' s'=>⟨rfl,s'⟩⟩
    rw [hxe] at hh
    refine thn hh fun t' s3 ⟨H3,I3,e3,s23⟩=>?_
    subst e3
    exact elt_go s3 H3 t' I3 s23 qt
  | exc c=>rw [qt] at hF';cases hF'
  | bad=>rw [qt] at hF';cases hF'
noncomputable def REF (B:Bs) (C:Cn) (XX:Nat->Hp->Prop) (x:E):TE:=fun σ H Q=>∃δ,Sok B σ H δ/\(match ev C x δ with
 | .ok d=>∀D ds xs H1,d=.list ds->Same H H1->H1 D=none->DenL B H1 ds xs->Q (.ref D) (upd H1 D (.lst xs))
 | .exc c=>XX c H
 | .bad=>False)
theorem REF.of {e:Expr} (h:PE X e (REF B C XX x)) (hl:∀δ d,ev C x δ=.ok d->∃ds,d=.list ds):PE X e (RE B C XX x) :=
 PE.imp h fun σ H Q ⟨δ,ok,k⟩=>by
  refine ⟨δ,ok,?_⟩
  cases q:ev C x δ with
  | ok d =>
   rw [q] at k
   intro D ds xs H1 e s1 hD dn
   refine k _ _ (s1.trans (JA7 hD)) ?_
   subst e
   simp only [Den]
   exact ⟨D,xs,rfl,SqL.of JAC,DenL.mono (JA7 hD) ds xs dn⟩
  | exc c=>rw [q] at k;exact k
  | bad=>rw [q] at k;exact k
theorem JOy (g:Gk X B C CX XX G) {es:List Expr} (h:PA X es (RA B C XX x)) (hl:cnt x<=1000):PE X (.List es pos) (REF B C XX (.lst x)) :=
 PE.imp (JHB h) fun σ H Q ⟨δ,ok,k⟩=>by
  simp only [ev] at k
  refine ⟨δ,ok,?_⟩
  cases q:evA C x δ with
  | ok ds =>
   rw [q] at k
   intro vs H1 s1 d1
   have e1:=DenL.len ds vs d1
   have e2:=JBX x δ ds q
   exact ⟨by rw [sizeLine_eq];omega,fun p hp=>k p ds vs H1 rfl s1 hp d1⟩
  | exc c=>rw [q] at k;exact k
  | bad=>rw [q] at k;exact k.elim
theorem JGX (g:Gk X B C CX XX G) {elt iter target:Expr} {ifs:List Expr} {sc:Scope} {xs:List Str} {k:Nat} (b:BlkOk X sc xs) (hi:PI X target iter (RI B C XX z)) (hs:∀v,foldedSetIterable iter X.env v=pure v)
  (hrun:∀Cc fp s0 H0 σ δ,JBt (JAW X sc Cc (xs++mask xs 0 X.N) fp s0 H0) B σ xs.length δ target elt ifs (itemF C k x y δ))
  {pins:List (Addr×Obj)} {s:Shared} {σ:St} {H:Hp} {Q:VK} {pos':Pos} {use:Option (Value->Sem Unit)} {Q':Value->Shared->Prop} (I:Inv X pins σ H s) (h:REF B C XX (.cmpr k x z y) σ H Q)
  (fin:∀(D Cc:Addr) (s':Shared) (m:Str->Option Value) (H':Hp),s'.heap.Ns Cc m->Inv X pins σ H' s'->Q (.ref D) H'->H' Cc=none->Cc≠X.env.locals->X.s₀.heap.objs.size<=Cc ->
    (∀x c,X.env.cells.lookup x=some c->c≠Cc)->(∀p∈X.pn++pins,p.1≠Cc)->compPost (model X.prog X.w) X.A X.xe use Q' (.ref D) Cc (.ok .next) s') :
  wpAny (model X.prog X.w) X.A (comprehension (.ListComp elt [⟨target,iter,ifs,0⟩] sc pos) sc X.env pos' (newList []) false (eval iter X.env) use) Q' X.xe s:=by
 obtain ⟨δ,ok,kk⟩:=h
 simp only [ev] at kk
 cases q:evI C z δ with
 | ok ds =>
  simp only [q,R.bind] at kk
  split at kk
  · rename_i d hd
    split at hd
    · rename_i hlen
      cases qz:JAo (itemF C k x y δ) ds with
      | ok zs =>
       have qz':=qz
       unfold itemF at qz'
       simp only [R.bind] at qz'
       rw [qz'] at hd
       have hd':PyData.list zs=d:=by injection hd
       refine JIU g b hi hs (fun Cc fp s0 H0=>hrun Cc fp s0 H0 σ δ) I ok q hlen qz ?_
       intro D Cc s' m H3 yv hn J sm hD dn h1 h2 h3 h4 h5
       exact fin D Cc s' m _ hn J (kk D zs yv H3 hd'.symm sm hD dn) h1 h2 h3 h4 h5
      | exc c=>exact (JB5 qz).elim
      | bad=>unfold itemF at qz;simp only [R.bind] at qz;rw [qz] at hd;cases hd
    · cases hd
  · rename_i c hd
    exfalso
    split at hd
    · cases qz:JAo (itemF C k x y δ) ds with
      | ok zs=>unfold itemF at qz;simp only [R.bind] at qz;rw [qz] at hd;cases hd
      | exc c=>exact (JB5 qz).elim
      | bad=>unfold itemF at qz;simp only [R.bind] at qz;rw [qz] at hd;cases hd
    · cases hd
  · exact kk.elim
 | exc c =>
  simp only [q,R.bind] at kk
  refine wpAny_comprehension_free rfl hs (b.clos I.ok) b.kind b.loc (wpAny_mono (hi pins s σ H (fun _ _=>False) I ⟨δ,ok,by rw [q];exact kk⟩) (fun xv s₁ h₁=>wpAny_mono h₁ (fun itv s₂ h₂=>?_) (fun _ _ e=>e)) (fun _ _ e=>e))
  obtain ⟨_,_,_,_,_,_,_,_,_,_,f⟩:=h₂
  exact f.elim
 | bad=>simp only [q,R.bind] at kk
theorem JC8 (g:Gk X B C CX XX G) {elt iter target:Expr} {ifs:List Expr} {sc:Scope} {xs:List Str} {k:Nat} (b:BlkOk X sc xs) (hi:PI X target iter (RI B C XX z)) (hs:∀v,foldedSetIterable iter X.env v=pure v)
  (hrun:∀Cc fp s0 H0 σ δ,JBt (JAW X sc Cc (xs++mask xs 0 X.N) fp s0 H0) B σ xs.length δ target elt ifs (itemF C k x y δ)) :
  PE X (.ListComp elt [⟨target,iter,ifs,0⟩] sc pos) (REF B C XX (.cmpr k x z y)):=by
 intro pins s σ H Q I h
 rw [eval_ListComp]
 refine JGX (use:=none) g b hi hs hrun I h ?_
 intro D Cc s' m H' hn J hq h1 h2 h3 h4 h5
 refine ⟨m,hn,fun h' hsb=>?_⟩
 have J':=J.turned (h':=h') (t':=s'.toks) (it:=Cc) (fun b o hb e=>(hsb.2 b hb).trans e) h1 h2 (.inr h3) h4 h5
 exact ⟨.ref D,H',J',rfl,hq⟩
theorem JI3 (g:Gk X B C CX XX G) {elt iter target:Expr} {ifs:List Expr} {sc:Scope} {xs:List Str} {k i:Nat} {nm:Str} {px spos:Pos} (b:BlkOk X sc xs) (hi:PI X target iter (RI B C XX z)) (hs:∀v,foldedSetIterable iter X.env v=pure v)
  (hrun:∀Cc fp s0 H0 σ δ,JBt (JAW X sc Cc (xs++mask xs 0 X.N) fp s0 H0) B σ xs.length δ target elt ifs (itemF C k x y δ))
  (hsw:swapsWith (.ListComp elt [⟨target,iter,ifs,0⟩] sc pos) (some (.Name nm px)) spos.line X.env=pure true) (hnd:X.N.Nodup) (hN:X.N[i]? = some nm) (hloc:X.env.scope.names.lookup nm=some .local) :
  PS X (.Assign [.Name nm px] (.ListComp elt [⟨target,iter,ifs,0⟩] sc pos) spos) (tAsg (REF B C XX (.cmpr k x z y)) (JEs i)):=by
 intro pins s σ H D I h
 rw [exec_Assign_Name_used _ _ _ _ hsw]
 refine q_b (wpAny_standAt (q_b ?_))
 show wpAny _ _ (do let _<-comprehension (.ListComp elt [⟨target,iter,ifs,0⟩] sc pos) sc X.env _ (newList []) false (eval iter X.env) (some (assign (.Name nm px) X.env))) _ _ s
 refine q_b (wpAny_mono (JGX (use:=some (assign (.Name nm px) X.env)) (Q':=fun _ s'=>SP X pins D .next s') g b hi hs hrun I h ?_) (fun _ s' hq=>q_e (q_e hq)) fun _ _ e=>e)
 intro Da Cc s' m H' hn J hq h1 h2 h3 h4 h5
 show wpAny _ _ (assign (.Name nm px) X.env (.ref Da)) _ _ s'
 refine wpAny_assign_Name (JEO J hnd hN (.inl hloc) (v:=.ref Da) rfl (fun s2 J2 hch=>?_) (.inr hloc))
 obtain ⟨a,sb,ha⟩:=hch
 have hne:Cc≠a:=by
  rcases ha with z | z
  · rw [z];exact h2
  · exact fun e=>h4 nm a z e.symm
 refine ⟨m,hn.sameBut sb hne,fun h' hsb=>?_⟩
 exact ⟨_,H',J2.turned (h':=h') (t':=s2.toks) (it:=Cc) (fun b o hb e=>(hsb.2 b hb).trans e) h1 h2 (.inr h3) h4 h5,hq⟩
end
end VI
end
section
set_option maxRecDepth 100000
namespace VI
open PySem PySem.Spec PyProof.Rows L2
theorem JKV {X:Cx} {sc:Scope} {xs:List Str} {names:List (Str×NameKind)} {N:List Str} (hk:X.env.scope.kind=.function) (hn:X.env.scope.names=names) (hN:X.N=N) (hs:sc.kind=.function) (h:JBu names sc.names xs N=true):BlkOk X sc xs:=by
 subst hn;subst hN
 unfold JBu at h
 simp only [q_i,List.all_eq_true] at h
 obtain ⟨⟨⟨⟨h1,h2⟩,h3⟩,h4⟩,h5⟩:=h
 refine ⟨hs,fun y hy=>?_,fun y hy hl=>?_,fun n hm=>?_,fun x hx=>?_,fun y hy hx=>?_,fun i hi hv=>?_,of_decide_eq_true h5⟩
 ·have:=(h1 y hy).1.1
  intro e;rw [e] at this;simp at this
 ·have:=(h1 y hy).1.2
  rw [hl] at this
  simpa using this
 ·have:=(h1 (n,.free) hm).2
  simpa [PySem.Env.kindOf] using this
 ·simpa using h2 x hx
 ·have:=h3 y hy
  simp only [Bool.or_eq_true,bne_iff_ne,ne_eq] at this
  rcases this with e | e
  ·exact absurd (by simpa using e) hx
  ·exact e
 ·have:=h4 i (List.mem_range.mpr hi)
  unfold Vis at hv
  rw [JAN hk] at hv
  rcases hv with e | e | e<;>(rw [e] at this;simp [vis] at this)
section
variable {X:Cx} {B:Bs} {C:Cn} {CX:CXT} {XX:Nat->Hp->Prop} {G:List (Str×GK)} {pos p:Pos} {names:List (Str×NameKind)} {N:List Str} {n:Nat}
theorem allA (g:Gk X B C CX XX G) (ih:∀e x,JAA G n false names N e=some x->PE X e (RE B C XX x)):∀ {es:List Expr} {x:E},JAH (JAA G n false names N) es=some x->PA X es (RA B C XX x)
 | [],x,h=>by unfold JAH at h;cases h;exact JNM
 | e::es,x,h=>by
  unfold JAH at h
  obtain ⟨a,h1,h⟩:=q_a.mp h
  obtain ⟨b,h2,h⟩:=q_a.mp h
  cases h
  exact JF0 g (ih e a h1) (allA g ih h2) (JAO h1 es X.env)
theorem JLc (g:Gk X B C CX XX G) (ih:∀e x,JAA G n false names N e=some x->PE X e (RE B C XX x)/\PT X e (RT B C XX x)):∀ {es:List Expr} {x:E},JAs .and (JAA G n false names N) es=some x ->
  PE X (.BoolOp .And es pos) (RE B C XX x)/\PW X (.BoolOp .And es pos) (RT B C XX x)
 | [],x,h=>by unfold JAs at h;cases h
 | [e],x,h=>by
  unfold JAs at h
  exact ⟨JK2 (ih e x h).1,JNi (ih e x h).2⟩
 | e::e'::es,x,h=>by
  unfold JAs at h
  obtain ⟨a,h1,h⟩:=q_a.mp h
  obtain ⟨b,h2,h⟩:=q_a.mp h
  cases h
  obtain ⟨q1,q2⟩:=JLc g ih h2
  exact ⟨s_and g (ih e a h1).1 q1,w_and g (ih e a h1).2 q2⟩
theorem JPN (g:Gk X B C CX XX G) (ih:∀e x,JAA G n false names N e=some x->PE X e (RE B C XX x)/\PT X e (RT B C XX x)):∀ {es:List Expr} {x:E},JAs .or (JAA G n false names N) es=some x ->
  PE X (.BoolOp .Or es pos) (RE B C XX x)/\PW X (.BoolOp .Or es pos) (RT B C XX x)
 | [],x,h=>by unfold JAs at h;cases h
 | [e],x,h=>by
  unfold JAs at h
  exact ⟨JK2 (ih e x h).1,JN9 (ih e x h).2⟩
 | e::e'::es,x,h=>by
  unfold JAs at h
  obtain ⟨a,h1,h⟩:=q_a.mp h
  obtain ⟨b,h2,h⟩:=q_a.mp h
  cases h
  obtain ⟨q1,q2⟩:=JPN g ih h2
  exact ⟨s_or g (ih e a h1).1 q1,w_or g (ih e a h1).2 q2⟩
theorem JAl {x:Str} {k:GK} (h:glob G names x=some k):JAP x=false/\names.lookup x=some .globalImplicit/\G.lookup x=some k:=by
 unfold glob at h
 split at h
 ·cases h
 ·rename_i hb
  split at h
  ·rename_i hg
   exact ⟨by simpa using hb,hg,h⟩
  ·cases h
theorem JEQ {x:Str} (hn:X.env.scope.names=names) (h:vis (names.lookup x)=true):Vis X.env.scope x:=by
 unfold Vis
 rw [hn]
 cases q:names.lookup x with
 | none=>rw [q] at h;cases h
 | some k=>cases k<;>simp_all [vis]
theorem JBm {x:Str} (hn:X.env.scope.names=names) (h:names.lookup x=some .globalImplicit):Gl X x:=by
 show X.env.scope.names.lookup x=_
 rw [hn];exact h
theorem JJK {op:CmpOp} {d d' r:D} (h:cmpD op d d'=.ok r):∃k,r=.bool k:=by
 cases op<;>simp only [cmpD] at h<;>(repeat' split at h)<;>first | (cases h;exact ⟨_,rfl⟩) | cases h
theorem JFU {op:CmpOp} {x y:E} {δ:Env} {d:D} (h:ev C (.cmp op x y) δ=.ok d):∃k,d=.bool k:=by
 simp only [ev] at h
 cases q:ev C x δ with
 | ok dx =>
  cases q2:ev C y δ with
  | ok dy=>rw [q,q2] at h;exact JJK h
  | exc c=>rw [q,q2] at h;cases h
  | bad=>rw [q,q2] at h;cases h
 | exc c=>rw [q] at h;cases h
 | bad=>rw [q] at h;cases h
end
end VI
end
section
set_option maxRecDepth 100000
namespace VI
open PySem PySem.Spec PyProof.Rows L2
section
variable {X:Cx} {B:Bs} {C:Cn} {CX:CXT} {XX:Nat->Hp->Prop} {G:List (Str×GK)} {a b c:Expr} {x y z:E} {pos p:Pos}
theorem JP9 (n d:Nat) (o:Option Int):sI n d o=HT.sIx n d o:=by cases o<;>rfl
theorem JDl {e:Option Expr} {o:Option Int} (h:JCt e=some o):∃t,PO X e t/\∀σ H Q,Q o H->t σ H Q:=by
 unfold JCt at h
 split at h
 ·cases h;exact ⟨_,JL0,fun σ H Q q=>q⟩
 ·cases h;exact ⟨_,JHD JET,fun σ H Q q=>⟨_,rfl,q⟩⟩
 ·cases h;exact ⟨_,JHD (JPc JKv JET),fun σ H Q q=>⟨_,rfl,_,rfl,q⟩⟩
 ·cases h
theorem DenL.drop {H:Hp}:∀(n:Nat) (ds:List D) (vs:List V),DenL B H ds vs->DenL B H (ds.drop n) (vs.drop n)
 | 0,ds,vs,h=>h
 | n+1,[],vs,h=>by simp only [DenL] at h;subst h;simp only [List.drop_nil,DenL]
 | n+1,d::ds,vs,h=>by
  simp only [DenL] at h
  obtain ⟨v,r,e,q,l⟩:=h
  subst e
  exact DenL.drop n ds r l
theorem DenL.take {H:Hp}:∀(n:Nat) (ds:List D) (vs:List V),DenL B H ds vs->DenL B H (ds.take n) (vs.take n)
 | 0,ds,vs,h=>by simp only [List.take_zero,DenL]
 | n+1,[],vs,h=>by simp only [DenL] at h;subst h;simp only [List.take_nil,DenL]
 | n+1,d::ds,vs,h=>by
  simp only [DenL] at h
  obtain ⟨v,r,e,q,l⟩:=h
  subst e
  simp only [List.take_succ_cons,DenL]
  exact ⟨v,_,rfl,q,DenL.take n ds r l⟩
theorem DenL.cut {H:Hp} {ds:List D} {vs:List V} (h:DenL B H ds vs) (lo hi:Option Int):DenL B H (cutD ds lo hi) (cutV vs lo hi):=by
 unfold cutD cutV
 have e:=DenL.len _ _ h
 simp only [JP9,e]
 exact DenL.take _ _ _ (DenL.drop _ _ _ h)
theorem JIb {xs:List D} {lo hi:Option Int} (h:HT.sIx xs.length 0 lo=0/\HT.sIx xs.length xs.length hi=xs.length):cutD xs lo hi=xs:=by
 unfold cutD
 simp only [JP9,h.1,h.2]
 simp
theorem JAq {H:Hp} {q:Addr} {o:HO} (h:H q=none):Same H (upd H q o):=fun b u e=>by rw [JAF (JAT e h)];exact e
theorem JHF:∀ {vs:List V} {us:List Value},Vals vs us->Vals vs.reverse us.reverse
 | [],us,h=>by cases h;exact .nil
 | v::vs,us,h=>by
  cases h with
  | cons r1 r2 =>
   simp only [List.reverse_cons]
   exact (JHF r2).append (.cons r1 .nil)
theorem JHd {H:Hp}:∀(ds:List D) (vs:List V),DenL B H ds vs->DenL B H ds.reverse vs.reverse
 | [],vs,h=>by simp only [DenL] at h;subst h;simp only [List.reverse_nil,DenL]
 | d::ds,vs,h=>by
  simp only [DenL] at h
  obtain ⟨v,r,e,q,l⟩:=h
  subst e
  simp only [List.reverse_cons]
  refine DenL.append _ _ _ _ (JHd ds r l) ?_
  simp only [DenL]
  exact ⟨v,[],rfl,q,rfl⟩
theorem JDn (its:List Value):slicePick its.toArray none none (some (-1))=its.reverse.toArray:=by
 have hr:sliceRange ((its.length:Int) - 1) (-1) (-1)=(List.range its.length).reverse:=by
  unfold sliceRange
  have hc:(if (-1:Int) > 0 then (if (its.length:Int) - 1 < -1 then (-1 - ((its.length:Int) - 1) + -1 - 1) / -1 else 0) else (if (its.length:Int) - 1 > -1 then ((its.length:Int) - 1 - -1 - -1 - 1) / (-(-1)) else 0)).toNat=its.length:=by
   rw [if_neg (by decide)]
   by_cases h:(its.length:Int) - 1 > -1
   ·rw [if_pos h]
    simp
   ·rw [if_neg h]
    omega
  simp only [hc]
  refine List.ext_getElem (by simp) fun i h1 h2=>?_
  simp at h1
  simp [List.getElem_reverse]
  omega
 have hp:=pick_run its.toArray 0 its.length
 simp only [Nat.zero_add,List.map_id',List.drop_zero,List.take_length] at hp
 unfold slicePick
 have hb:sliceBounds none none (some (-1)) its.toArray.size=((its.length:Int) - 1, -1, -1):=by
  simp [sliceBounds]
 rw [hb]
 simp only
 rw [hr,List.filterMap_reverse,hp]
theorem s_rev (g:Gk X B C CX XX G) {i:Expr} (hs:JMs i=true) (ha:PE X a (RE B C XX x)):PE X (.Subscript a i pos) (RE B C XX (.fn1 .rev x)):=by
 unfold JMs at hs
 split at hs
 ·rename_i j p1 p2 p3
  intro pins s σ H Q I ⟨δ,ok,k⟩
  simp only [ev] at k
  refine Subscript_ (thn (ha pins s σ H (fun v H1=>∃q us ds,v=.ref q/\SqL X.K H1 q us/\Same H H1/\DenL B H1 ds us/\KE B XX (.ok (.list ds.reverse)) H1 Q) I ?_) fun v s1 ⟨x1,H1,I1,r1,q,us,ds,e1,sq,sm,dn,k1⟩=>?_)
  ·refine RE.of (W:=fun r H=>KE B XX r H Q) ok (fun _ _ z=>z) (fun _ z=>z) k fun d v H1 s1 d1 h1=>?_
   cases d<;>first | exact False.elim h1 | skip
   simp only [Den] at d1
   obtain ⟨q,us,e1,sq,l⟩:=d1
   exact ⟨q,us,_,e1,g.K▸sq,s1,l,KE.mono g s1 h1⟩
  ·subst e1
   cases r1
   obtain ⟨its,rv,pl,hz⟩:=I1.list sq
   obtain ⟨ts,ps,qs⟩:=JDl (X:=X) (show JCt (some (.UnaryOp .USub (.Constant (.int 1) j p1) p2))=some (some (-1)) from rfl)
   refine wpAny_Slice ?_
   rw [evalPart_none]
   refine q_e ?_
   refine q_e ?_
   refine thn (ps pins s1 σ H1 (fun st H2=>st=some (-1)/\H2=H1) I1 (qs _ _ _ ⟨rfl,rfl⟩)) fun vst s2 ⟨st,H2,I2,pst,e2,e3⟩=>?_
   subst e2;subst e3
   have I3:Inv X pins σ H2 { s2 with heap:=s2.heap.push { cls:=.type "slice",data:=.fields #[Value.none,Value.none,vst] } }:=I2.kept (t':=s2.toks) fun b ob q=>q_c _ q
   obtain ⟨its2,rv2,pl2,hz2⟩:=I3.list sq
   have hl:=rv2.length
   refine tail_any (ops:=[.ref q,.ref s2.heap.objs.size]) (T:="list") pl2.isList.typeIs list_getitem_lookup ?_ (by with_unfolding_all rfl)
   refine wpAny_getItem_list_slice (lo:=none) (hi:=none) (st:=some (-1)) pl2.isList (Heap.IsSliceOf.new ..) .none .none pst (by decide) ?_ (by rw [q_f,<-hl];exact hz2)
   rw [JDn]
   refine ⟨.ref _,_,I3.lnew (t':=s2.toks) (JHF rv2) (by rw [List.length_reverse];exact hz2),rfl,?_⟩
   have hf:=I3.fresh
   have sm2:Same H2 (upd H2 (s2.heap.push { cls:=.type "slice",data:=.fields #[Value.none,Value.none,vst] }).objs.size (.lst us.reverse)):=JAq hf
   refine k1 _ _ sm2 ?_
   simp only [Den]
   exact ⟨_,_,rfl,SqL.of JAC,DenL.mono sm2 _ _ (JHd _ _ dn)⟩
 ·cases hs
theorem JME (g:Gk X B C CX XX G) {i:Expr} {lo hi:Option Int} (hs:sliceOf i=some (lo,hi)) (ha:PE X a (RE B C XX x)):PE X (.Subscript a i pos) (RE B C XX (.fn1 (.slice lo hi) x)):=by
 unfold sliceOf at hs
 split at hs
 ·rename_i l h p2
  obtain ⟨l',h1,hs⟩:=q_a.mp hs
  obtain ⟨h',h2,hs⟩:=q_a.mp hs
  cases hs
  obtain ⟨tl,pl,ql⟩:=JDl (X:=X) h1
  obtain ⟨th,ph,qh⟩:=JDl (X:=X) h2
  refine PE.imp (JKC (SlR.or (SlR.or JP1 JMp) JL2) ha pl ph) fun σ H Q ⟨δ,ok,k⟩=>?_
  simp only [ev] at k
  refine RE.of (W:=fun r H=>KE B XX r H Q) ok (fun _ _ z=>z) (fun _ z=>z) k fun d v H1 s1 d1 h1=>?_
  refine ql _ _ _ (qh _ _ _ ?_)
  have h1:=KE.mono g s1 h1
  cases d<;>first | exact False.elim h1 | skip
  ·rename_i ds
   simp only [Den] at d1
   obtain ⟨q,vs,e,sq,l⟩:=d1
   refine .inr ⟨q,vs,e,g.K▸sq,fun p' hp=>?_⟩
   have sm:Same H1 (upd H1 p' (.lst (cutV vs lo hi))):=JAq hp
   refine h1 _ _ sm ?_
   simp only [Den]
   exact ⟨p',_,rfl,SqL.of JAC,DenL.mono sm _ _ (DenL.cut l lo hi)⟩
  ·rename_i ds
   simp only [Den] at d1
   obtain ⟨q,vs,e,sq,l⟩:=d1
   have el:=DenL.len _ _ l
   by_cases hw:HT.sIx vs.length 0 lo=0/\HT.sIx vs.length vs.length hi=vs.length
   ·refine .inl (.inr ⟨q,vs,e,g.K▸sq,hw,?_⟩)
    refine h1 _ _ (Same.refl H1) ?_
    rw [JIb (by rw [el];exact hw)]
    subst e
    simp only [Den]
    exact ⟨q,vs,rfl,sq,l⟩
   ·refine .inl (.inl ⟨q,vs,e,g.K▸sq,hw,fun p' hp=>?_⟩)
    have sm:Same H1 (upd H1 p' (.tup (cutV vs lo hi))):=JAq hp
    refine h1 _ _ sm ?_
    simp only [Den]
    exact ⟨p',_,rfl,SqT.of JAC,DenL.mono sm _ _ (DenL.cut l lo hi)⟩
 ·cases hs
theorem JNx (g:Gk X B C CX XX G) {f:Str} {ty:Ty} {o:O1} (ho:o1Of ty=some o) (hf:JA4 ty=some f) (hg:Gl X f) (hl:G.lookup f=some (.ty ty)) (hb:JAP f=false) (ha:PE X a (RE B C XX x))
  (he:starEach [a] X.env=[(false,eval a X.env)]):PE X (.Call (.Name f p) [a] [] pos) (RE B C XX (.fn1 o x)):=by
 have key:∀ {T:String} {r:List V->Hp->VK->Prop},CallR X (.type T) r->bootBuiltins f=some (.type T) ->
    (∀d v H Q,Den B H d v->KE B XX (op1D o d) H Q->r [v] H Q)->PE X (.Call (.Name f p) [a] [] pos) (RE B C XX (.fn1 o x)):=fun {T r} hc hv hr=>by
  refine PE.imp (JB9 (es:=[]) hc hg (g.ty f ty hl) hv (JBA ha JBk he) (JAB hb).2.2 (JAB hb).1 he rfl) fun σ H Q ⟨δ,ok,k⟩=>?_
  simp only [ev] at k
  refine RE.of (W:=fun r H=>KE B XX r H Q) ok (fun _ _ z=>z) (fun _ z=>z) k fun d v H1 s1 d1 h1=>?_
  exact hr d v H1 Q d1 (KE.mono g s1 h1)
 cases ty<;>simp only [o1Of,q_j,reduceCtorEq] at ho
 ·subst ho
  simp only [JA4,q_j] at hf
  subst hf
  refine key JEH (by decide +kernel) fun d v H Q dn k=>?_
  cases d<;>first | exact False.elim k | skip
  · simp only [Den] at dn
    obtain ⟨q,vs,e,sq,l⟩:=dn
    subst e
    refine ⟨q,vs,rfl,.inl (g.K▸sq),fun p' hp=>?_⟩
    have sm:Same H (upd H p' (.lst vs)):=JAq hp
    refine k _ _ sm ?_
    simp only [Den]
    exact ⟨p',_,rfl,SqL.of JAC,DenL.mono sm _ _ l⟩
  · simp only [Den] at dn
    obtain ⟨q,vs,e,sq,l⟩:=dn
    subst e
    refine ⟨q,vs,rfl,.inr (g.K▸sq),fun p' hp=>?_⟩
    have sm:Same H (upd H p' (.lst vs)):=JAq hp
    refine k _ _ sm ?_
    simp only [Den]
    exact ⟨p',_,rfl,SqL.of JAC,DenL.mono sm _ _ l⟩
 ·subst ho
  simp only [JA4,q_j] at hf
  subst hf
  refine key JDz (by decide +kernel) fun d v H Q dn k=>?_
  cases d<;>first | exact False.elim k | skip
  · simp only [Den] at dn
    obtain ⟨q,vs,e,sq,l⟩:=dn
    subst e
    refine ⟨q,vs,rfl,.inl ⟨g.K▸sq,fun p' hp=>?_⟩⟩
    have sm:Same H (upd H p' (.tup vs)):=JAq hp
    refine k _ _ sm ?_
    simp only [Den]
    exact ⟨p',_,rfl,SqT.of JAC,DenL.mono sm _ _ l⟩
  · have dn':=dn
    simp only [Den] at dn
    obtain ⟨q,vs,e,sq,l⟩:=dn
    subst e
    exact ⟨q,vs,rfl,.inr ⟨g.K▸sq,KE.ok k dn'⟩⟩
theorem s_pow {i j:Nat} {u v:Int} {p1 p2:Pos} (h0:0<=u) (h1:u<=100) (h2:0<=v) (h3:v<=20):PE X (.BinOp (.Constant (.int u) i p1) .Pow (.Constant (.int v) j p2) pos) (RE B C XX (.cint (u ^ v.toNat))) :=
 PE.imp (JNr JPL JET JET) fun σ H Q ⟨δ,ok,k⟩=>by
  simp only [ev] at k
  exact ⟨u,v,rfl,rfl,⟨h2,by omega,by omega⟩,KE.ok k (by simp only [Den])⟩
theorem JIV:OpR X (compareOp .IsNot) (fun v u H Q=>∃c d,v=.bl c/\u=.bl d/\Q (.bl (!(c==d))) H):=by
 intro pins s σ H v u w t Q I rx ry ⟨c,d,e1,e2,q⟩
 subst e1;subst e2
 cases rx;cases ry
 exact isnot_bool ⟨.bl _,H,I,rfl,q⟩
theorem JPA (g:Gk X B C CX XX G) {j:Nat} {pos':Pos} {k:Bool} (ha:PE X a (RE B C XX x)):PE X (.Compare a [.IsNot] [.Constant (.bool k) j pos'] pos) (RE B C XX (.isnB x k)) :=
 PE.imp (JFF JIV ha JHQ rfl) fun σ H Q ⟨δ,ok,kk⟩=>by
  simp only [ev] at kk
  refine RE.of (W:=fun r H=>KE B XX r H Q) ok (fun _ _ z=>z) (fun _ z=>z) kk fun d v H1 s1 d1 h1=>?_
  cases d<;>first | exact False.elim h1 | skip
  rename_i t
  simp only [Den] at d1
  exact ⟨t,k,d1,rfl,KE.ok (KE.mono g s1 h1) (by simp only [Den])⟩
theorem JFh (g:Gk X B C CX XX G) {j:Nat} {pos':Pos} {k:Bool} (ha:PE X a (RE B C XX x)):PT X (.Compare a [.IsNot] [.Constant (.bool k) j pos'] pos) (RT B C XX (.isnB x k)) :=
 PT.imp (JFN JIV ha JHQ rfl) fun σ H Q ⟨δ,ok,kk⟩=>by
  simp only [evT] at kk
  refine RE.of (W:=fun r H=>KB XX r H Q) ok (fun _ _ z=>z) (fun _ z=>z) kk fun d v H1 s1 d1 h1=>?_
  cases d<;>first | exact False.elim h1 | skip
  rename_i t
  simp only [Den] at d1
  exact ⟨t,k,d1,rfl,!(t==k),rfl,h1 H1 s1⟩
theorem JDM:∀ {ys:List D} {d:D},allD ys=.ok d->∃bs:List Bool,ys=bs.map PyData.bool/\d=.bool (bs.all id)
 | [],d,h=>by simp only [allD] at h;cases h;exact ⟨[],rfl,rfl⟩
 | y::r,d,h=>by
  cases y<;>simp only [allD,reduceCtorEq] at h
  rename_i b
  split at h
  ·rename_i c e
   cases h
   obtain ⟨bs,h1,h2⟩:=JDM e
   refine ⟨b::bs,by rw [h1];rfl,?_⟩
   simp only [PyData.bool.injEq] at h2
   simp only [List.all_cons,id,h2]
  ·cases h
theorem JJ9:∀ {ys:List D} {c:Nat},allD ys≠.exc c
 | [],c=>by simp only [allD];intro h;cases h
 | y::r,c=>by
  cases y<;>simp only [allD]<;>first | (intro h;cases h;done) | skip
  split<;>(intro h;cases h)
theorem JDN {H:Hp}:∀ {bs:List Bool} {vs:List V},DenL B H (bs.map PyData.bool) vs->vs=bs.map V.bl
 | [],vs,h=>by simpa only [List.map_nil,DenL] using h
 | b::bs,vs,h=>by
  simp only [List.map_cons,DenL,Den] at h
  obtain ⟨v,r,e,q,l⟩:=h
  subst e;subst q
  rw [JDN l];rfl
theorem JDO:∀ {bs:List Bool} {us:List Value},Vals (bs.map V.bl) us->us=bs.map Value.bool
 | [],us,h=>by cases h;rfl
 | b::bs,us,h=>by
  cases h with
  | cons r1 r2 =>
   cases r1
   rw [JDO r2];rfl
theorem all_range (bs:List Bool):((List.range bs.length).all fun i=>bs.getD i false)=bs.all id:=by
 rw [Bool.eq_iff_iff]
 simp only [List.all_eq_true,List.mem_range,id]
 constructor
 ·intro h b hb
  obtain ⟨i,hi,e⟩:=List.getElem_of_mem hb
  have:=h i hi
  rw [List.getD_eq_getElem?_getD,q_q hi] at this
  simpa [e] using this
 ·intro h i hi
  rw [List.getD_eq_getElem?_getD,q_q hi]
  exact h _ (List.getElem_mem hi)
theorem JHf (g:Gk X B C CX XX G):CallR X (.builtin "all") (fun vs H Q=>∃ds,DenL B H ds vs/\KE B XX (bltD .all ds) H Q):=by
 intro pins s σ H vs us Q I r ⟨ds,dn,k⟩
 match ds,dn,k with
 | [.list ys],dn,k =>
  simp only [DenL,Den] at dn
  obtain ⟨v,r1,e,⟨a,xs,e1,hq,dl⟩,e2⟩:=dn
  subst e2;subst e1;subst e
  cases r with
  | cons ra rb =>
   cases rb
   cases ra
   rw [<-g.K] at hq
   obtain ⟨its,rv,p,hz⟩:=I.list hq
   simp only [bltD] at k
   cases hk:allD ys with
   | ok d =>
    rw [hk] at k
    obtain ⟨bs,e1,e2⟩:=JDM hk
    subst e1;subst e2
    have e3:=JDN dl
    subst e3
    have e4:=JDO rv
    subst e4
    have hA:X.A.handled=none:=I.ok.hd g.calm
    have hlt:a<s.heap.objs.size:=by
     obtain ⟨o,n,ho,_⟩:=p
     exact q_h ho
    refine call_all_walk (wpAny_pyIter_list p.isList ?_)
    have hne:a≠s.heap.objs.size:=q_l hlt
    refine ⟨s.heap.objs.size,_,_,_,_,_,(fun i=>bs.getD i false),rfl,Walks.list (prog:=X.prog) (w:=X.w) (A:=X.A.in1) hA s.heap.objs.size a hne (bs.map Value.bool).toArray,?_,?_,?_⟩
    ·exact ⟨⟨_,q_k _ rfl,rfl,rfl⟩,p.isList.at fun o e=>q_c _ e⟩
    ·intro i v s' Q' E' hP hQ
     simp only [List.getElem?_toArray,List.getElem?_map] at hP
     obtain ⟨b,hb,rfl⟩:=q_d.mp hP
     refine wpAny_truthy_bool ?_
     have hQ:Q' (bs.getD i false) s':=hQ
     rw [List.getD_eq_getElem?_getD,hb] at hQ
     exact hQ
    ·intro h' tk hk'
     refine ⟨.bl _,H,I.kept fun b o e=>hk' b o ?_ (q_c _ e),rfl,?_⟩
     ·simp only [List.mem_singleton]
      exact q_l (q_h e)
     ·have:((List.range (bs.map Value.bool).toArray.size).all fun i=>bs.getD i false)=bs.all id:=by
       rw [q_f,q_g];exact all_range bs
      rw [this]
      exact KE.ok k (by simp only [Den])
   | exc c=>exact (JJ9 hk).elim
   | bad=>rw [hk] at k;exact k.elim
 | [],_,k=>exact False.elim k
 | [.none],_,k=>exact False.elim k
 | [.bool _],_,k=>exact False.elim k
 | [.int _],_,k=>exact False.elim k
 | [.str _],_,k=>exact False.elim k
 | [.tuple _],_,k=>exact False.elim k
 | [.dict _],_,k=>exact False.elim k
 | d1::d2::r,_,k=>cases d1<;>exact False.elim k
end
end VI
end
section
set_option maxRecDepth 100000
namespace VI
open PySem PySem.Spec PyProof.Rows L2
section
variable {X:Cx} {B:Bs} {C:Cn} {CX:CXT} {XX:Nat->Hp->Prop} {G:List (Str×GK)} {a b c tg:Expr} {x y z:E} {pos p:Pos}
theorem JJm (g:Gk X B C CX XX G) {j:Nat} {pos':Pos} (ha:PE X a (RE B C XX x)):PT X (.Compare a [.Is] [.Constant .none j pos'] pos) (RT B C XX (.isN x false)) :=
 PT.imp (JLL (JKa ha)) fun σ H Q ⟨δ,ok,k⟩=>by
  simp only [evT] at k
  refine RE.of (W:=fun r H=>KB XX r H Q) ok (fun _ _ z=>z) (fun _ z=>z) k fun d v H1 s1 d1 h1=>?_
  exact ⟨isNone d,by rw [JCV d1],by simpa using h1 H1 s1⟩
theorem JMo (g:Gk X B C CX XX G) {j:Nat} {pos':Pos} (ha:PE X a (RE B C XX x)):PT X (.Compare a [.IsNot] [.Constant .none j pos'] pos) (RT B C XX (.isN x true)) :=
 PT.imp (JLL (JIN ha)) fun σ H Q ⟨δ,ok,k⟩=>by
  simp only [evT] at k
  refine RE.of (W:=fun r H=>KB XX r H Q) ok (fun _ _ z=>z) (fun _ z=>z) k fun d v H1 s1 d1 h1=>?_
  exact ⟨!isNone d,by rw [JCV d1],by simpa using h1 H1 s1⟩
theorem JJo (g:Gk X B C CX XX G) {j:Nat} {pos':Pos} {k:Bool} (ha:PE X a (RE B C XX x)):PT X (.Compare a [.Is] [.Constant (.bool k) j pos'] pos) (RT B C XX (.isB x k)) :=
 PT.imp (JFN JLH ha JHQ rfl) fun σ H Q ⟨δ,ok,kk⟩=>by
  simp only [evT] at kk
  refine RE.of (W:=fun r H=>KB XX r H Q) ok (fun _ _ z=>z) (fun _ z=>z) kk fun d v H1 s1 d1 h1=>?_
  cases d<;>first | exact False.elim h1 | skip
  rename_i t
  simp only [Den] at d1
  exact ⟨t,k,d1,rfl,t==k,rfl,h1 H1 s1⟩
end
theorem JB3 {C:Cn} {k:Nat} {x y z:E} (δ:Env) (d:D) (h:ev C (.cmpr k x z y) δ=.ok d):∃ds,d=.list ds:=by
 simp only [ev] at h
 cases q:evI C z δ with
 | ok xs =>
  simp only [q,R.bind] at h
  split at h
  ·cases qz:JAo (itemF C k x y δ) xs with
   | ok zs=>unfold itemF at qz;simp only [R.bind] at qz;rw [qz] at h;cases h;exact ⟨zs,rfl⟩
   | exc c=>exact (JB5 qz).elim
   | bad=>unfold itemF at qz;simp only [R.bind] at qz;rw [qz] at h;cases h
  ·cases h
 | exc c=>simp only [q,R.bind] at h;cases h
 | bad=>simp only [q,R.bind] at h;cases h
theorem JG0 {a b:Expr} {op:Operator} {es:List Expr} {k:Nat} (h:JNk a op b=some (es,k)):∃p kk j p2,a=.List es p/\op=.Mult/\b=.Constant (.int kk) j p2/\k=kk.toNat/\0<=kk/\kk<=1000/\es.length<=1000:=by
 unfold JNk at h
 split at h
 ·split at h
  ·rename_i hc
   cases h
   exact ⟨_,_,_,_,rfl,rfl,rfl,rfl,hc.1,hc.2.1,hc.2.2⟩
  ·cases h
 ·cases h
theorem JGo {a b:Expr} {op:Operator} {u v:Int} (h:JNb a op b=some (u,v)):∃i p j p2,a=.Constant (.int u) i p/\op=.Pow/\b=.Constant (.int v) j p2/\0<=u/\u<=100/\0<=v/\v<=20:=by
 unfold JNb at h
 split at h
 ·split at h
  ·rename_i hc
   cases h
   exact ⟨_,_,_,_,rfl,rfl,rfl,hc.1,hc.2.1,hc.2.2.1,hc.2.2.2⟩
  ·cases h
 ·cases h
section
variable {B:Bs} {C:Cn} {CX:CXT} {G:List (Str×GK)}
structure XOk (B:Bs) (C:Cn) (CX:CXT) (G:List (Str×GK)) (k:XO):Prop where
 val:∀(X:Cx) (XX:Nat->Hp->Prop),Gk X B C CX XX G->∀(e:Expr) (args:List Expr) (y:E),xRaw G X.env.scope.names false e=some (k,args)->PA X args (RA B C XX y)->(∀a∈args,∀es env,starEach (a::es) env=(false,eval a env)::starEach es env)->cnt y=args.length->PE X e (RE B C XX (.xop k y))
 itr:∀(X:Cx) (XX:Nat->Hp->Prop),Gk X B C CX XX G->∀(tg e:Expr) (args:List Expr) (y:E),xRaw G X.env.scope.names true e=some (k,args)->PA X args (RA B C XX y)->(∀a∈args,∀es env,starEach (a::es) env=(false,eval a env)::starEach es env)->cnt y=args.length->PI X tg e (RI B C XX (.xop k y))
 tgt:∀(X:Cx) (XX:Nat->Hp->Prop),Gk X B C CX XX G->∀(ts:List Expr) (kt:Nat) (pt:Pos) (e:Expr) (args:List Expr) (y:E),xTgt G X.env.scope.names e=some (k,args)->PA X args (RA B C XX y)->(∀a∈args,∀es env,starEach (a::es) env=(false,eval a env)::starEach es env)->cnt y=args.length->PI X (.Tuple ts kt pt) e (RI B C XX (.xop k y))
structure Rare (B:Bs) (C:Cn) (CX:CXT) (G:List (Str×GK)):Prop where
 nox:∀outer H s e s',¬CX outer H s (EX B fun _ _=>False) e s'
 isi:∀(X:Cx) (XX:Nat->Hp->Prop),Gk X B C CX XX G->∀(a:Expr) (x:E) (t:Str) (ty:Ty) (p pt pos:Pos),Gl X "isinstance"->Gl X t->G.lookup ("isinstance":Str)=some GK.isi->(G.lookup t=some (.ty ty)/\JA4 ty=some t\/∃c,ty=.own c/\G.lookup t=some (.cls c))->JAP t=false ->
  PE X a (RE B C XX x)->starEach [a,.Name t pt] X.env=(false,eval a X.env)::starEach [.Name t pt] X.env->PE X (.Call (.Name "isinstance" p) [a,.Name t pt] [] pos) (RE B C XX (.isi x ty))
 count:∀(X:Cx) (XX:Nat->Hp->Prop),Gk X B C CX XX G->∀(o a:Expr) (x y:E) (ap cp:Pos),JBI o=false->(ap.endLine==cp.line)=true->PE X o (RE B C XX x)->PE X a (RE B C XX y)->starEach [a] X.env=[(false,eval a X.env)] ->
  PE X (.Call (.Attribute o "count" ap) [a] [] cp) (RE B C XX (.mcount x y))
 index:∀(X:Cx) (XX:Nat->Hp->Prop),Gk X B C CX XX G->∀(o a:Expr) (x y:E) (ap cp:Pos),JBI o=false->(ap.endLine==cp.line)=true->PE X o (RE B C XX x)->PE X a (RE B C XX y)->starEach [a] X.env=[(false,eval a X.env)] ->
  PE X (.Call (.Attribute o "index" ap) [a] [] cp) (RE B C XX (.mindex x y))
 get:∀(X:Cx) (XX:Nat->Hp->Prop),Gk X B C CX XX G->∀(o a b:Expr) (x y z:E) (ap cp:Pos),JBI o=false->(ap.endLine==cp.line)=true->PE X o (RE B C XX x)->PE X a (RE B C XX y)->PE X b (RE B C XX z) ->
  starEach [a,b] X.env=[(false,eval a X.env),(false,eval b X.env)]->starEach [b] X.env=[(false,eval b X.env)]->PE X (.Call (.Attribute o "get" ap) [a,b] [] cp) (RE B C XX (.mget x y z))
 min:G.lookup ("min":Str)=some (.blt .min)->∀(X:Cx) (XX:Nat->Hp->Prop),Gk X B C CX XX G->CallR X (.builtin "min") (fun vs H Q=>∃ds,DenL B H ds vs/\KE B XX (bltD .min ds) H Q)
 dct:G.lookup (".dct":Str)=some GK.opt->∀(X:Cx) (XX:Nat->Hp->Prop),Gk X B C CX XX G->∀(n:Nat) (names:List (Str×NameKind)) (N:List Str) (ks:List (Option Expr)) (vs:List Expr) (xs:List Str) (x:E) (pos:Pos),(∀e x,JAA G n false names N e=some x->PE X e (RE B C XX x)) ->
  strKeys ks=some xs->1<=xs.length->xs.length<=15->xs.length=vs.length->xs.Nodup->JAH (JAA G n false names N) vs=some x->PE X (.Dict ks vs pos) (RE B C XX (.dct xs x))
 rep:G.lookup (".rep":Str)=some GK.opt->∀(X:Cx) (XX:Nat->Hp->Prop),Gk X B C CX XX G->∀(es:List Expr) (x:E) (k:Int) (j:Nat) (p p2 pos:Pos),PA X es (RA B C XX x)->cnt x<=1000->0<=k->k<=1000->PE X (.BinOp (.List es p) .Mult (.Constant (.int k) j p2) pos) (RE B C XX (.rep k.toNat x))
 xop:∀k:XO,G.lookup k.flag=some GK.opt->XOk B C CX G k
theorem JDZ {names:List (Str×NameKind)} {e:Expr} {q:XO×List Expr} (h:xT G names e=some q):xTgt G names e=some q/\G.lookup q.1.flag=some GK.opt:=by
 unfold xT at h
 obtain ⟨r,h1,h2⟩:=q_a.mp h
 split at h2
 ·cases h2
  exact ⟨h1,by assumption⟩
 ·cases h2
theorem JFe {names:List (Str×NameKind)} {e:Expr} {q:XO×List Expr} (h:xT G names e=some q) (env:PySem.Env) (v:Value):foldedSetIterable e env v=pure v:=by
 obtain ⟨h1,_⟩:=JDZ h
 unfold xTgt at h1
 split at h1
 ·rfl
 ·rfl
 ·cases h1
theorem JGO {names:List (Str×NameKind)} {it:Bool} {e:Expr} {q:XO×List Expr} (h:xOf G names it e=some q):xRaw G names it e=some q/\G.lookup q.1.flag=some GK.opt:=by
 unfold xOf at h
 obtain ⟨r,h1,h2⟩:=q_a.mp h
 split at h2
 ·rename_i hf
  cases h2
  exact ⟨h1,hf⟩
 ·cases h2
theorem JEA {n:Nat} {names:List (Str×NameKind)} {N:List Str}:∀ {es:List Expr} {x:E},JAH (JAA G n false names N) es=some x->∀a∈es,∀r env,starEach (a::r) env=(false,eval a env)::starEach r env
 | e::es,x,h,a,ha,r,env=>by
  unfold JAH at h
  obtain ⟨y,h1,h⟩:=q_a.mp h
  obtain ⟨z,h2,h⟩:=q_a.mp h
  rcases q_n.mp ha with z | ha
  ·subst z;exact JAO h1 r env
  ·exact JEA h2 a ha r env
theorem sound (ra:Rare B C CX G):∀(n:Nat) (X:Cx) (XX:Nat->Hp->Prop) (names:List (Str×NameKind)) (N:List Str),Gk X B C CX XX G->X.env.scope.kind=.function->X.env.scope.names=names->X.N=N->N.Nodup ->
  (∀e x,JAA G n false names N e=some x->PE X e (RE B C XX x)/\PT X e (RT B C XX x))/\(∀tg e x,JAA G n true names N e=some x->PI X tg e (RI B C XX x))
 | 0,X,XX,names,N,g,hk,hn,hN,hnd=>⟨fun e x h=>by simp [JAA] at h,fun tg e x h=>by simp [JAA] at h⟩
 | n+1,X,XX,names,N,g,hk,hn,hN,hnd=>by
  obtain ⟨ih,ihI⟩:=sound ra n X XX names N g hk hn hN hnd
  have ihE:∀e x,JAA G n false names N e=some x->PE X e (RE B C XX x):=fun e x h=>(ih e x h).1
  have truthOf:∀ {e:Expr} {x:E},PE X e (RE B C XX x)->(∀whole,isTrue e X.env whole=(do let v<-whole;standAt e.pos;holding [v] (truthy v)))->(∀δ,evT C x δ=(ev C x δ).bind truth)->PE X e (RE B C XX x)/\PT X e (RT B C XX x) :=
    fun h1 h2 h3=>⟨h1,JNA g h1 h2 h3⟩
  have valOnly:∀ {e:Expr} {x:E},PE X e (RE B C XX x)->(∀δ,evT C x δ=.bad)->PE X e (RE B C XX x)/\PT X e (RT B C XX x):=fun h1 h2=>⟨h1,t_bad h2⟩
  have nameE:∀(b:Bool) (x:Str) (p:Pos) (y:E),xOf G names b (.Name x p)=none->JAA G (n+1) b names N (.Name x p)=some y->PE X (.Name x p) (RE B C XX y)/\((∀δ,evT C y δ=(ev C y δ).bind truth)\/∀δ,evT C y δ=.bad)/\∀δ,evI C y δ=(ev C y δ).bind JA5:=by
    intro b x p y hxx h
    simp only [JAA,hxx] at h
    split at h
    ·cases h
    ·rename_i hb
     have hb':JAP x=false:=by simpa using hb
     split at h
     · rename_i hv
       obtain ⟨i,hi,e⟩:=q_d.mp h
       subst e
       exact ⟨s_var (by rw [hN];exact JCu hi) (JEQ hn hv) hb',(.inl fun δ=>by simp only [evT,ev]),fun δ=>by simp only [evI,ev]⟩
     · split at h
       ·rename_i i hg
        cases h
        obtain ⟨_,h2,h3⟩:=JAl hg
        exact ⟨s_glo g (JBm hn h2) h3 hb',(.inr fun δ=>by simp only [evT]),fun δ=>by simp only [evI,ev]⟩
       ·cases h
  have callE:∀(b:Bool) (f:Str) (p pos:Pos) (args:List Expr) (y:E),xOf G names b (.Call (.Name f p) args [] pos)=none->JAA G (n+1) b names N (.Call (.Name f p) args [] pos)=some y->(∃i x,y=.call i x/\PE X (.Call (.Name f p) args [] pos) (RE B C XX y)) \/
     (b=false/\((∃i x,y=.blt i x)\/(∃a t,y=.isi a t)\/∃o a,y=.fn1 o a)/\PE X (.Call (.Name f p) args [] pos) (RE B C XX y))\/(b=true/\∃x,y=.rng x/\∀tg,PI X tg (.Call (.Name f p) args [] pos) (RI B C XX y)):=by
    intro b f p pos args y hxx h
    simp only [JAA,hxx] at h
    split at h
    ·rename_i i hg
     obtain ⟨h1,h2,h3⟩:=JAl hg
     split at h
     · rename_i e r
       obtain ⟨x,hx,e'⟩:=q_d.mp h
       subst e'
       obtain ⟨a,ha,hx'⟩:=q_a.mp (by unfold JAH at hx;exact hx)
       exact .inl ⟨i,x,rfl,s_call g (JBm hn h2) h3 h1 (allA g ihE hx) (JAO ha r X.env) (JBe hx)⟩
     · cases h
    ·rename_i hg
     obtain ⟨h1,h2,h3⟩:=JAl hg
     split at h
     · rename_i hb
       obtain ⟨hb1,hb2⟩:=hb
       subst hb2
       split at h
       ·rename_i a
        obtain ⟨x,hx,e'⟩:=q_d.mp h
        subst e'
        obtain ⟨a',ha,_⟩:=q_a.mp (by unfold JAH at hx;exact hx)
        exact .inr (.inr ⟨hb1,x,rfl,fun tg=>JOG g (JBm hn h2) (g.rng _ h3) (allA g ihE hx) (JAM hx) (JAO ha [] X.env)⟩)
       ·rename_i a a2
        obtain ⟨x,hx,e'⟩:=q_d.mp h
        subst e'
        obtain ⟨a',ha,hr⟩:=q_a.mp (by unfold JAH at hx;exact hx)
        obtain ⟨r',hr',_⟩:=q_a.mp hr
        obtain ⟨a2',ha2,_⟩:=q_a.mp (by unfold JAH at hr';exact hr')
        exact .inr (.inr ⟨hb1,x,rfl,fun tg=>JN8 g (JBm hn h2) (g.rng _ h3) (allA g ihE hx) (JAM hx) (by rw [JAO ha [a2] X.env,JAO ha2 [] X.env];rfl) (JAO ha2 [] X.env)⟩)
       ·cases h
     · cases h
    ·rename_i bl hg
     obtain ⟨h1,h2,h3⟩:=JAl hg
     split at h
     · rename_i hb
       obtain ⟨hb1,hb2⟩:=hb
       split at h
       ·rename_i e r
        obtain ⟨x,hx,e'⟩:=q_d.mp h
        subst e'
        obtain ⟨a,ha,hx'⟩:=q_a.mp (by unfold JAH at hx;exact hx)
        refine .inr (.inl ⟨hb1,.inl ⟨bl,x,rfl⟩,?_⟩)
        subst hb2
        cases bl with
        | len=>exact JJ3 g (JIM g) PySem.boot_len (JBm hn h2) h3 h1 (allA g ihE hx) (JAO ha r X.env) (JBe hx)
        | abs=>exact JJ3 (id:="abs") g (JH4 g) (by decide +kernel) (JBm hn h2) h3 h1 (allA g ihE hx) (JAO ha r X.env) (JBe hx)
        | all=>exact JJ3 (id:="all") g (JHf g) (by decide +kernel) (JBm hn h2) h3 h1 (allA g ihE hx) (JAO ha r X.env) (JBe hx)
        | min=>exact JJ3 (id:="min") g (ra.min h3 X XX g) (by decide +kernel) (JBm hn h2) h3 h1 (allA g ihE hx) (JAO ha r X.env) (JBe hx)
       ·cases h
     · cases h
    ·rename_i hg
     obtain ⟨h1,h2,h3⟩:=JAl hg
     split at h
     · rename_i hb
       obtain ⟨hb1,hb2⟩:=hb
       subst hb2
       split at h
       ·rename_i a t pt
        split at h
        ·rename_i ty hgt
         obtain ⟨t1,t2,t3⟩:=JAl hgt
         split at h
         · rename_i ht
           obtain ⟨x,hx,e'⟩:=q_d.mp h
           subst e'
           exact .inr (.inl ⟨hb1,.inr (.inl ⟨x,ty,rfl⟩),ra.isi X XX g a x t ty p pt pos (JBm hn h2) (JBm hn t2) h3 (.inl ⟨t3,ht⟩) t1 (ihE a x hx) (JAO hx _ X.env)⟩)
         · cases h
        ·rename_i c hgt
         obtain ⟨t1,t2,t3⟩:=JAl hgt
         obtain ⟨x,hx,e'⟩:=q_d.mp h
         subst e'
         exact .inr (.inl ⟨hb1,.inr (.inl ⟨x,.own c,rfl⟩),ra.isi X XX g a x t (.own c) p pt pos (JBm hn h2) (JBm hn t2) h3 (.inr ⟨c,rfl,t3⟩) t1 (ihE a x hx) (JAO hx _ X.env)⟩)
        ·cases h
       ·cases h
     · cases h
    ·rename_i ty hg
     obtain ⟨h1,h2,h3⟩:=JAl hg
     split at h
     · rename_i hb
       obtain ⟨hb1,hb2⟩:=hb
       obtain ⟨o,ho,h⟩:=q_a.mp h
       match args,h with
       | [a],h =>
        obtain ⟨x,hx,e'⟩:=q_d.mp h
        subst e'
        exact .inr (.inl ⟨hb1,.inr (.inr ⟨o,x,rfl⟩),JNx g ho hb2 (JBm hn h2) h3 h1 (ihE a x hx) (JAO hx [] X.env)⟩)
       | [],h=>cases h
       | _::_::_,h=>cases h
     · cases h
    ·cases h
  have tupE:∀(b:Bool) (es:List Expr) (k:Nat) (p:Pos) (y:E),xOf G names b (.Tuple es k p)=none->JAA G (n+1) b names N (.Tuple es k p)=some y->∃x,y=.tup x/\PE X (.Tuple es k p) (RE B C XX y):=by
    intro b es k p y hxx h
    simp only [JAA,hxx] at h
    split at h
    ·rename_i hl
     obtain ⟨x,hx,e'⟩:=q_d.mp h
     subst e'
     exact ⟨x,rfl,s_tup g (allA g ihE hx) (by rw [JAM hx];exact hl)⟩
    ·cases h
  have lstE:∀(b:Bool) (es:List Expr) (p:Pos) (y:E),xOf G names b (.List es p)=none->JAA G (n+1) b names N (.List es p)=some y->∃x,y=.lst x/\PE X (.List es p) (RE B C XX y):=by
    intro b es p y hxx h
    simp only [JAA,hxx] at h
    split at h
    ·rename_i hl
     obtain ⟨x,hx,e'⟩:=q_d.mp h
     subst e'
     exact ⟨x,rfl,s_lst g (allA g ihE hx) (by rw [JAM hx];exact hl)⟩
    ·cases h
  have subE:∀(b:Bool) (a i:Expr) (p:Pos) (y:E),xOf G names b (.Subscript a i p)=none->JAA G (n+1) b names N (.Subscript a i p)=some y->((∃x z,y=.idx x z)\/∃o x,y=.fn1 o x)/\PE X (.Subscript a i p) (RE B C XX y):=by
    intro b a i p y hxx h
    simp only [JAA,hxx] at h
    split at h
    ·split at h
     · rename_i hr
       obtain ⟨x,hx,e'⟩:=q_d.mp h
       subst e'
       exact ⟨.inr ⟨_,x,rfl⟩,s_rev g hr (ihE a x hx)⟩
     · obtain ⟨q,hq,h⟩:=q_a.mp h
       obtain ⟨x,hx,e'⟩:=q_d.mp h
       subst e'
       exact ⟨.inr ⟨_,x,rfl⟩,JME g hq (ihE a x hx)⟩
    ·rename_i hs
     obtain ⟨x,hx,h⟩:=q_a.mp h
     obtain ⟨z,hz,h⟩:=q_a.mp h
     cases h
     exact ⟨.inl ⟨x,z,rfl⟩,s_idx g (ihE a x hx) (ihE i z hz) (by simpa using hs)⟩
  constructor
  · intro e x h
    cases hxx:xOf G names false e with
    | some q =>
     simp only [JAA,hxx] at h
     obtain ⟨y,hy,e'⟩:=q_d.mp h
     subst e'
     obtain ⟨q1,q2⟩:=JGO hxx
     exact valOnly ((ra.xop q.1 q2).val X XX g e q.2 y (by rw [hn];exact q1) (allA g ihE hy) (JEA hy) (JAM hy)) fun δ=>by simp only [evT]
    | none =>
    cases e with
    | Name nm p =>
     obtain ⟨h1,h2,_⟩:=nameE false nm p x hxx h
     rcases h2 with h2 | h2
     · exact truthOf h1 (fun _=>rfl) h2
     · exact valOnly h1 h2
    | Constant c j p =>
     simp only [JAA,hxx] at h
     cases c<;>simp only [q_j,reduceCtorEq] at h<;>subst h
     · exact valOnly s_non fun δ=>by simp only [evT]
     · exact truthOf s_bl (fun _=>rfl) fun δ=>by simp only [evT,ev,R.bind,truth]
     · exact valOnly s_int fun δ=>by simp only [evT]
     · exact valOnly s_str fun δ=>by simp only [evT]
    | Tuple es k p =>
     obtain ⟨y,rfl,h1⟩:=tupE false es k p x hxx h
     exact valOnly h1 fun δ=>by simp only [evT]
    | List es p =>
     obtain ⟨y,rfl,h1⟩:=lstE false es p x hxx h
     exact valOnly h1 fun δ=>by simp only [evT]
    | Subscript a i p =>
     obtain ⟨⟨y,z,rfl⟩ | ⟨o,y,rfl⟩,h1⟩:=subE false a i p x hxx h
     · exact truthOf h1 (fun _=>rfl) fun δ=>by simp only [evT,ev]
     · exact valOnly h1 fun δ=>by simp only [evT]
    | Dict ks vs p =>
     simp only [JAA,hxx] at h
     split at h
     · rename_i xs hks
       split at h
       ·rename_i hc
        obtain ⟨y,hy,e'⟩:=q_d.mp h
        subst e'
        exact valOnly (ra.dct hc.2.1 X XX g n names N ks vs xs y p ihE hks hc.2.2.1 hc.2.2.2.1 hc.2.2.2.2.1 (of_decide_eq_true hc.2.2.2.2.2) hy) fun δ=>by simp only [evT]
       ·cases h
     · cases h
    | BinOp a op b p =>
     simp only [JAA,hxx] at h
     split at h
     · rename_i es k hr
       split at hr
       case isFalse=>cases hr
       rename_i hz
       obtain ⟨p1,kk,j,p2,rfl,rfl,rfl,rfl,hr1,hr2,hr3⟩:=JG0 hr
       obtain ⟨y,hy,e'⟩:=q_d.mp h
       subst e'
       exact valOnly (ra.rep hz.2 X XX g es y kk j p1 p2 p (allA g ihE hy) (by rw [JAM hy];exact hr3) hr1 hr2) fun δ=>by simp only [evT]
     · split at h
       ·rename_i u v hp
        obtain ⟨i1,q1,i2,q2,rfl,rfl,rfl,hp1,hp2,hp3,hp4⟩:=JGo hp
        split at h
        case isFalse=>cases h
        cases h
        exact valOnly (s_pow hp1 hp2 hp3 hp4) fun δ=>by simp only [evT]
       ·split at h
        ·rename_i ho
         obtain ⟨y,hy,h⟩:=q_a.mp h
         obtain ⟨z,hz,h⟩:=q_a.mp h
         cases h
         exact valOnly (JPp g (ihE a y hy) (ihE b z hz)) fun δ=>by simp only [evT]
        ·cases h
    | UnaryOp op a p =>
     simp only [JAA,hxx] at h
     cases op<;>simp only [q_d,reduceCtorEq] at h
     · obtain ⟨y,hy,e'⟩:=h
       subst e'
       exact ⟨s_not g (ihE a y hy),JJk g (ih a y hy).2⟩
     · obtain ⟨y,hy,e'⟩:=h
       subst e'
       exact valOnly (s_neg g (ihE a y hy)) fun δ=>by simp only [evT]
    | BoolOp op es p =>
     simp only [JAA,hxx] at h
     cases op
     · obtain ⟨q1,q2⟩:=JLc g ih h
       exact ⟨q1,q2.pt⟩
     · obtain ⟨q1,q2⟩:=JPN g ih h
       exact ⟨q1,q2.pt⟩
    | Compare a ops bs p =>
     match ops,bs,h with
     | [op],[b],h =>
       simp only [JAA,hxx,q_v,if_false] at h
       have cmpd:∀(y z:E),PE X a (RE B C XX y)->PE X b (RE B C XX z)->behindInMarks op b=false->PE X (.Compare a [op] [b] p) (RE B C XX (.cmp op y z))/\PT X (.Compare a [op] [b] p) (RT B C XX (.cmp op y z)):=fun y z h1 h2 hm =>
        ⟨s_cmp g h1 h2 hm,JOl op (JFN (JN5 g op) h1 h2 hm) (fun σ H Q ⟨δ,ok,k⟩=>two g (f:=cmpD op) (fun x y H dx dy h1 h2 k=>⟨dx,dy,h1,h2,k⟩) ⟨δ,ok,by simpa only [ev] using k⟩) (fun δ=>by simp only [evT,ev]) fun δ d h=>JFU h⟩
       cases op<;>simp only at h<;>first
        |(split at h
          · cases h
          · rename_i hm
            obtain ⟨y,hy,h⟩:=q_a.mp h
            obtain ⟨z,hz,h⟩:=q_a.mp h
            cases h
            exact cmpd y z (ihE a y hy) (ihE b z hz) (by simpa using hm))
        | skip
       ·split at h
        ·obtain ⟨y,hy,e'⟩:=q_d.mp h
         subst e'
         exact ⟨s_isN g (ihE a y hy),JJm g (ihE a y hy)⟩
        ·obtain ⟨y,hy,e'⟩:=q_d.mp h
         subst e'
         exact ⟨s_isB g (ihE a y hy),JJo g (ihE a y hy)⟩
        ·cases h
       ·split at h
        ·obtain ⟨y,hy,e'⟩:=q_d.mp h
         subst e'
         exact ⟨JNG g (ihE a y hy),JMo g (ihE a y hy)⟩
        ·obtain ⟨y,hy,e'⟩:=q_d.mp h
         subst e'
         exact ⟨JPA g (ihE a y hy),JFh g (ihE a y hy)⟩
        ·cases h
     | [],_,h=>simp [JAA,hxx] at h
     | _::_::_,_,h=>simp [JAA,hxx] at h
     | [_],[],h=>simp [JAA,hxx] at h
     | [_],_::_::_,h=>simp [JAA,hxx] at h
    | IfExp c a b p =>
     simp only [JAA,hxx,q_v,if_false] at h
     obtain ⟨z,hz,h⟩:=q_a.mp h
     obtain ⟨y,hy,h⟩:=q_a.mp h
     obtain ⟨w,hw,h⟩:=q_a.mp h
     cases h
     exact valOnly (s_ife g (ih c z hz).2 (ihE a y hy) (ihE b w hw)) fun δ=>by simp only [evT]
    | Call f args kws p =>
     cases f with
     | Name nm p2 =>
       cases kws with
       | nil =>
        rcases callE false nm p2 p args x hxx h with ⟨i,y,rfl,h1⟩ | ⟨_,hs,h1⟩ | ⟨hb,_⟩
        ·exact truthOf h1 (fun _=>rfl) fun δ=>by simp only [evT,ev]
        ·rcases hs with ⟨i,y,rfl⟩ | ⟨y,t,rfl⟩ | ⟨o,y,rfl⟩
         · exact truthOf h1 (fun _=>rfl) fun δ=>by simp only [evT,ev]
         · exact truthOf h1 (fun _=>rfl) fun δ=>by simp only [evT,ev]
         · exact valOnly h1 fun δ=>by simp only [evT]
        ·cases hb
       | cons k ks=>simp [JAA,hxx] at h
     | Attribute o m ap =>
       cases kws with
       | cons k ks=>match args,h with
        | [],h=>simp [JAA,hxx] at h
        | [_],h=>simp [JAA,hxx] at h
        | [_,_],h=>simp [JAA,hxx] at h
        | _::_::_::_,h=>simp [JAA,hxx] at h
       | nil=>match args,h with
        | [],h=>simp [JAA,hxx] at h
        | _::_::_::_,h=>simp [JAA,hxx] at h
        | [a],hh =>
         clear h
         simp only [JAA,hxx] at hh
         split at hh
         · rename_i hc
           split at hh
           · rename_i hm
             subst hm
             obtain ⟨y,hy,hh⟩:=q_a.mp hh
             obtain ⟨z,hz,hh⟩:=q_a.mp hh
             cases hh
             exact valOnly (ra.count X XX g o a y z ap p hc.2.1 hc.2.2 (ihE o y hy) (ihE a z hz) (JAO hz [] X.env)) fun δ=>by simp only [evT]
           · split at hh
             ·rename_i hm
              subst hm
              obtain ⟨y,hy,hh⟩:=q_a.mp hh
              obtain ⟨z,hz,hh⟩:=q_a.mp hh
              cases hh
              exact valOnly (ra.index X XX g o a y z ap p hc.2.1 hc.2.2 (ihE o y hy) (ihE a z hz) (JAO hz [] X.env)) fun δ=>by simp only [evT]
             ·cases hh
         · cases hh
        | [a,b],hh =>
         clear h
         simp only [JAA,hxx] at hh
         split at hh
         · rename_i hc
           obtain ⟨_,h1,h2,h3⟩:=hc
           subst h3
           obtain ⟨y,hy,hh⟩:=q_a.mp hh
           obtain ⟨z,hz,hh⟩:=q_a.mp hh
           obtain ⟨w,hw,hh⟩:=q_a.mp hh
           cases hh
           exact valOnly (ra.get X XX g o a b y z w ap p h1 h2 (ihE o y hy) (ihE a z hz) (ihE b w hw) (by rw [JAO hz [b] X.env,JAO hw [] X.env];rfl) (JAO hw [] X.env)) fun δ=>by simp only [evT]
         · cases hh
     | _=>simp [JAA,hxx] at h
    | ListComp elt gens sc p =>
     match gens,h with
     | [],h=>simp [JAA,hxx] at h
     | _::_::_,h=>simp [JAA,hxx] at h
     | [⟨tg,iter,ifs,as⟩],h =>
       simp only [JAA,hxx] at h
       split at h
       ·cases h
       ·rename_i hc
        have hc1:as=0:=Decidable.byContradiction fun z=>hc (.inr (.inl z))
        have hc2:sc.kind=.function:=Decidable.byContradiction fun z=>hc (.inr (.inr z))
        subst hc1
        split at h
        ·cases h
        ·rename_i k xs htg
         split at h
         · rename_i hs
           obtain ⟨i,hi,h⟩:=q_a.mp h
           obtain ⟨y,hy,h⟩:=q_a.mp h
           have bk:=JKV hk hn hN hc2 hs
           refine valOnly ?_ fun δ=>?_
           · cases tg with
             | Name nm px =>
              simp only [JBq,q_j,Prod.mk.injEq] at htg
              obtain ⟨e1,e2⟩:=htg
              subst e1;subst e2
              unfold itK at hi;rw [if_pos rfl] at hi
              have inner:=fun (Cc:Addr) (fp:List Addr) (s0:Shared) (H0:Hp)=>sound ra n (JAW X sc Cc ([nm]++mask [nm] 0 X.N) fp s0 H0) (fun _ _=>False) (JAi names sc.names) ([nm]++mask [nm] 0 N)
               (Gk.nox g rfl rfl rfl rfl rfl rfl rfl fun _ _ _ _ _ _ _ z=>(ra.nox _ _ _ _ _ z).elim) hc2 (by rw [<-hn];exact JAN hk) (by rw [<-hN];rfl) (by rw [<-hN];exact bk.nd)
              have hloc:∀Cc fp s0 H0,(JAW X sc Cc ([nm]++mask [nm] 0 X.N) fp s0 H0).env.scope.names.lookup nm=some .local:=fun Cc fp s0 H0=>by
               show (compEnvC sc (JA3 X.env.cells sc.names []) Cc X.env).scope.names.lookup nm=_
               rw [JAN hk]
               exact JAw (bk.tg nm (by simp))
              match ifs,h with
              | [],h =>
               cases h
               exact REF.of (JC8 g bk (ihI _ iter i hi) (JBZ hi X.env) fun Cc fp s0 H0 σ δ=>JB4 (by exact bk.nd) rfl (hloc Cc fp s0 H0) ((inner Cc fp s0 H0).1 elt y hy).1 (fun c hc=>by cases hc) (.inl ⟨rfl,rfl⟩) rfl) JB3
              | [c],h =>
               obtain ⟨w,hw,h⟩:=q_a.mp h
               cases h
               exact REF.of (JC8 g bk (ihI _ iter i hi) (JBZ hi X.env) fun Cc fp s0 H0 σ δ=>JB4 (by exact bk.nd) rfl (hloc Cc fp s0 H0) ((inner Cc fp s0 H0).1 elt y hy).1 (fun c' hc=>by cases hc;exact ((inner Cc fp s0 H0).1 c w hw).2) (.inr ⟨c,rfl⟩) rfl) JB3
              | _::_::_,h=>cases h
             | Tuple ts kt pt =>
              simp only [JBq] at htg
              obtain ⟨xs',hx,htg⟩:=q_a.mp htg
              split at htg
              ·cases htg
              ·rename_i hne
               simp only [q_j,Prod.mk.injEq] at htg
               obtain ⟨e1,e2⟩:=htg
               subst e2;subst e1
               have hk0:xs'.length≠0:=fun z=>hne (q_A.mp z)
               unfold itK at hi;rw [if_neg hk0] at hi
               have inner:=fun (Cc:Addr) (fp:List Addr) (s0:Shared) (H0:Hp)=>sound ra n (JAW X sc Cc (xs'++mask xs' 0 X.N) fp s0 H0) (fun _ _=>False) (JAi names sc.names) (xs'++mask xs' 0 N)
                 (Gk.nox g rfl rfl rfl rfl rfl rfl rfl fun _ _ _ _ _ _ _ z=>(ra.nox _ _ _ _ _ z).elim) hc2 (by rw [<-hn];exact JAN hk) (by rw [<-hN];rfl) (by rw [<-hN];exact bk.nd)
               have hloc:∀Cc fp s0 H0,∀nm∈xs',(JAW X sc Cc (xs'++mask xs' 0 X.N) fp s0 H0).env.scope.names.lookup nm=some .local:=fun Cc fp s0 H0 nm hnm=>by
                 show (compEnvC sc (JA3 X.env.cells sc.names []) Cc X.env).scope.names.lookup nm=_
                 rw [JAN hk]
                 exact JAw (bk.tg nm hnm)
               have hat:∀Cc fp s0 H0 (i:Nat) (nm:Str),xs'[i]? = some nm->(JAW X sc Cc (xs'++mask xs' 0 X.N) fp s0 H0).N[i]? = some nm:=fun Cc fp s0 H0 i nm e=>by
                 show (xs'++mask xs' 0 X.N)[i]? = some nm
                 rw [q_B (q_p.mp e).1];exact e
               obtain ⟨hpi,hfo⟩:PI X (.Tuple ts kt pt) iter (RI B C XX i)/\∀v,foldedSetIterable iter X.env v=pure v:=by
                 cases hq:xT G names iter with
                 | none=>rw [hq] at hi;exact ⟨ihI _ iter i hi,JBZ hi X.env⟩
                 | some q =>
                   rw [hq] at hi
                   obtain ⟨y',hy',rfl⟩:=q_d.mp hi
                   obtain ⟨q1,q2⟩:=JDZ hq
                   exact ⟨(ra.xop q.1 q2).tgt X XX g ts kt pt iter q.2 y' (by rw [hn];exact q1) (allA g ihE hy') (JEA hy') (JAM hy'),JFe hq X.env⟩
               match ifs,h with
               | [],h =>
                 cases h
                 exact REF.of (JC8 g bk hpi hfo fun Cc fp s0 H0 σ δ=>item_tup rfl g.K hx hne (by exact bk.nd) (hat Cc fp s0 H0) (hloc Cc fp s0 H0) ((inner Cc fp s0 H0).1 elt y hy).1 (fun c hc=>by cases hc) (.inl ⟨rfl,rfl⟩) rfl) JB3
               | [c],h =>
                 obtain ⟨w,hw,h⟩:=q_a.mp h
                 cases h
                 exact REF.of (JC8 g bk hpi hfo fun Cc fp s0 H0 σ δ=>item_tup rfl g.K hx hne (by exact bk.nd) (hat Cc fp s0 H0) (hloc Cc fp s0 H0) ((inner Cc fp s0 H0).1 elt y hy).1 (fun c' hc=>by cases hc;exact ((inner Cc fp s0 H0).1 c w hw).2) (.inr ⟨c,rfl⟩) rfl) JB3
               | _::_::_,h=>cases h
             | _=>simp [JBq] at htg
           · match ifs,h with
             | [],h=>cases h;simp only [evT]
             | [c],h =>
              obtain ⟨w,hw,h⟩:=q_a.mp h
              cases h
              simp only [evT]
             | _::_::_,h=>cases h
         · cases h
    | _=>simp [JAA,hxx] at h
  · intro tg e x h
    cases hxx:xOf G names true e with
    | some q =>
     simp only [JAA,hxx] at h
     obtain ⟨y,hy,e'⟩:=q_d.mp h
     subst e'
     obtain ⟨q1,q2⟩:=JGO hxx
     exact (ra.xop q.1 q2).itr X XX g tg e q.2 y (by rw [hn];exact q1) (allA g ihE hy) (JEA hy) (JAM hy)
    | none =>
    cases e with
    | Name nm p =>
     obtain ⟨h1,_,h3⟩:=nameE true nm p x hxx h
     exact JD7 g h1 h3
    | Tuple es k p =>
     obtain ⟨y,rfl,h1⟩:=tupE true es k p x hxx h
     refine JD7 g h1 fun δ=>?_
     simp only [evI,ev]
     cases evA C y δ<;>rfl
    | List es p =>
     obtain ⟨y,rfl,h1⟩:=lstE true es p x hxx h
     refine JD7 g h1 fun δ=>?_
     simp only [evI,ev]
     cases evA C y δ<;>rfl
    | Subscript a i p =>
     obtain ⟨⟨y,z,rfl⟩ | ⟨o,y,rfl⟩,h1⟩:=subE true a i p x hxx h
     · exact JD7 g h1 fun δ=>by simp only [evI,ev]
     · exact JD7 g h1 fun δ=>by simp only [evI,ev]
    | Call f args kws p =>
     cases f with
     | Name nm p2 =>
       cases kws with
       | nil =>
        rcases callE true nm p2 p args x hxx h with ⟨i,y,rfl,h1⟩ | ⟨hb,_⟩ | ⟨_,y,rfl,h1⟩
        ·exact JD7 g h1 fun δ=>by simp only [evI,ev]
        ·cases hb
        ·exact h1 tg
       | cons k ks=>simp [JAA,hxx] at h
     | Attribute o m ap =>
       cases kws with
       | cons k ks=>match args,h with
        | [],h=>simp [JAA,hxx] at h
        | [_],h=>simp [JAA,hxx] at h
        | [_,_],h=>simp [JAA,hxx] at h
        | _::_::_::_,h=>simp [JAA,hxx] at h
       | nil=>match args,h with
        | [],h=>simp [JAA,hxx] at h
        | [_],h=>simp [JAA,hxx] at h
        | [_,_],h=>simp [JAA,hxx] at h
        | _::_::_::_,h=>simp [JAA,hxx] at h
     | _=>simp [JAA,hxx] at h
    | Compare a ops bs p=>match ops,bs,h with
     | [_],[_],h=>simp [JAA,hxx] at h
     | [],_,h=>simp [JAA,hxx] at h
     | _::_::_,_,h=>simp [JAA,hxx] at h
     | [_],[],h=>simp [JAA,hxx] at h
     | [_],_::_::_,h=>simp [JAA,hxx] at h
    | ListComp elt gens sc p=>match gens,h with
     | [],h=>simp [JAA,hxx] at h
     | _::_::_,h=>simp [JAA,hxx] at h
     | [⟨tg,iter,ifs,as⟩],h=>simp [JAA,hxx] at h
    | BinOp a op b p =>
     simp only [JAA,hxx] at h
     split at h
     · rename_i hr
       simp at hr
     · split at h
       ·simp at h
       ·split at h
        ·obtain ⟨y,hy,h⟩:=q_a.mp h
         obtain ⟨z,hz,h⟩:=q_a.mp h
         cases h
         exact JD7 g (JPp g (ihE a y hy) (ihE b z hz)) fun δ=>by simp only [evI,ev]
        ·cases h
    | Dict ks vs p =>
     simp only [JAA,hxx] at h
     split at h
     · simp at h
     · cases h
    | _=>simp [JAA,hxx] at h
theorem JIc (ra:Rare B C CX G) {n:Nat} {X:Cx} {XX:Nat->Hp->Prop} {names:List (Str×NameKind)} {N:List Str} (g:Gk X B C CX XX G) (hk:X.env.scope.kind=.function) (hn:X.env.scope.names=names) (hN:X.N=N) (hnd:N.Nodup)
  {elt:Expr} {gens:List Comprehension} {sc:Scope} {p:Pos} {x:E} (h:JAA G n false names N (.ListComp elt gens sc p)=some x) :
  ∃target iter ifs xs k y z w,gens=[⟨target,iter,ifs,0⟩]/\x=.cmpr k y z w/\BlkOk X sc xs/\PI X target iter (RI B C XX z)/\(∀v,foldedSetIterable iter X.env v=pure v) /\
   ∀Cc fp s0 H0 σ δ,JBt (JAW X sc Cc (xs++mask xs 0 X.N) fp s0 H0) B σ xs.length δ target elt ifs (itemF C k y w δ):=by
 cases n with
 | zero=>simp [JAA,xOf,xRaw] at h
 | succ n =>
  match gens,h with
  | [],h=>simp [JAA,xOf,xRaw] at h
  | _::_::_,h=>simp [JAA,xOf,xRaw] at h
  | [⟨tg,iter,ifs,as⟩],h =>
   simp only [JAA,xOf,xRaw,Option.bind_none] at h
   split at h
   ·cases h
   ·rename_i hc
    have hc1:as=0:=Decidable.byContradiction fun z=>hc (.inr (.inl z))
    have hc2:sc.kind=.function:=Decidable.byContradiction fun z=>hc (.inr (.inr z))
    subst hc1
    split at h
    ·cases h
    ·rename_i k xs htg
     split at h
     ·rename_i hs
      obtain ⟨i,hi,h⟩:=q_a.mp h
      obtain ⟨y,hy,h⟩:=q_a.mp h
      have bk:=JKV hk hn hN hc2 hs
      have ihI:=(sound ra n X XX names N g hk hn hN hnd).2
      cases tg with
      | Name nm px =>
       simp only [JBq,q_j,Prod.mk.injEq] at htg
       obtain ⟨e1,e2⟩:=htg
       subst e1;subst e2
       unfold itK at hi;rw [if_pos rfl] at hi
       have inner:=fun (Cc:Addr) (fp:List Addr) (s0:Shared) (H0:Hp)=>sound ra n (JAW X sc Cc ([nm]++mask [nm] 0 X.N) fp s0 H0) (fun _ _=>False) (JAi names sc.names) ([nm]++mask [nm] 0 N)
        (Gk.nox g rfl rfl rfl rfl rfl rfl rfl fun _ _ _ _ _ _ _ z=>(ra.nox _ _ _ _ _ z).elim) hc2 (by rw [<-hn];exact JAN hk) (by rw [<-hN];rfl) (by rw [<-hN];exact bk.nd)
       have hloc:∀Cc fp s0 H0,(JAW X sc Cc ([nm]++mask [nm] 0 X.N) fp s0 H0).env.scope.names.lookup nm=some .local:=fun Cc fp s0 H0=>by
        show (compEnvC sc (JA3 X.env.cells sc.names []) Cc X.env).scope.names.lookup nm=_
        rw [JAN hk]
        exact JAw (bk.tg nm (by simp))
       match ifs,h with
       | [],h =>
        cases h
        exact ⟨_,iter,[],[nm],0,y,i,_,rfl,rfl,bk,ihI _ iter i hi,JBZ hi X.env,fun Cc fp s0 H0 σ δ=>JB4 (by exact bk.nd) rfl (hloc Cc fp s0 H0) ((inner Cc fp s0 H0).1 elt y hy).1 (fun c hc=>by cases hc) (.inl ⟨rfl,rfl⟩) rfl⟩
       | [c],h =>
        obtain ⟨w,hw,h⟩:=q_a.mp h
        cases h
        exact ⟨_,iter,[c],[nm],0,y,i,w,rfl,rfl,bk,ihI _ iter i hi,JBZ hi X.env,fun Cc fp s0 H0 σ δ=>JB4 (by exact bk.nd) rfl (hloc Cc fp s0 H0) ((inner Cc fp s0 H0).1 elt y hy).1 (fun c' hc=>by cases hc;exact ((inner Cc fp s0 H0).1 c w hw).2) (.inr ⟨c,rfl⟩) rfl⟩
       | _::_::_,h=>cases h
      | Tuple ts kt pt =>
       simp only [JBq] at htg
       obtain ⟨xs',hx,htg⟩:=q_a.mp htg
       split at htg
       ·cases htg
       ·rename_i hne
        simp only [q_j,Prod.mk.injEq] at htg
        obtain ⟨e1,e2⟩:=htg
        subst e2;subst e1
        have hk0:xs'.length≠0:=fun z=>hne (q_A.mp z)
        unfold itK at hi;rw [if_neg hk0] at hi
        have inner:=fun (Cc:Addr) (fp:List Addr) (s0:Shared) (H0:Hp)=>sound ra n (JAW X sc Cc (xs'++mask xs' 0 X.N) fp s0 H0) (fun _ _=>False) (JAi names sc.names) (xs'++mask xs' 0 N)
          (Gk.nox g rfl rfl rfl rfl rfl rfl rfl fun _ _ _ _ _ _ _ z=>(ra.nox _ _ _ _ _ z).elim) hc2 (by rw [<-hn];exact JAN hk) (by rw [<-hN];rfl) (by rw [<-hN];exact bk.nd)
        have hloc:∀Cc fp s0 H0,∀nm∈xs',(JAW X sc Cc (xs'++mask xs' 0 X.N) fp s0 H0).env.scope.names.lookup nm=some .local:=fun Cc fp s0 H0 nm hnm=>by
          show (compEnvC sc (JA3 X.env.cells sc.names []) Cc X.env).scope.names.lookup nm=_
          rw [JAN hk]
          exact JAw (bk.tg nm hnm)
        have hat:∀Cc fp s0 H0 (i:Nat) (nm:Str),xs'[i]? = some nm->(JAW X sc Cc (xs'++mask xs' 0 X.N) fp s0 H0).N[i]? = some nm:=fun Cc fp s0 H0 i nm e=>by
          show (xs'++mask xs' 0 X.N)[i]? = some nm
          rw [q_B (q_p.mp e).1];exact e
        obtain ⟨hpi,hfo⟩:PI X (.Tuple ts kt pt) iter (RI B C XX i)/\∀v,foldedSetIterable iter X.env v=pure v:=by
          cases hq:xT G names iter with
          | none=>rw [hq] at hi;exact ⟨ihI _ iter i hi,JBZ hi X.env⟩
          | some q =>
            rw [hq] at hi
            obtain ⟨y',hy',rfl⟩:=q_d.mp hi
            obtain ⟨q1,q2⟩:=JDZ hq
            exact ⟨(ra.xop q.1 q2).tgt X XX g ts kt pt iter q.2 y' (by rw [hn];exact q1) (allA g (fun e x h=>((sound ra n X XX names N g hk hn hN hnd).1 e x h).1) hy') (JEA hy') (JAM hy'),JFe hq X.env⟩
        match ifs,h with
        | [],h =>
          cases h
          exact ⟨_,iter,[],xs',_,y,i,_,rfl,rfl,bk,hpi,hfo,fun Cc fp s0 H0 σ δ=>item_tup rfl g.K hx hne (by exact bk.nd) (hat Cc fp s0 H0) (hloc Cc fp s0 H0) ((inner Cc fp s0 H0).1 elt y hy).1 (fun c hc=>by cases hc) (.inl ⟨rfl,rfl⟩) rfl⟩
        | [c],h =>
          obtain ⟨w,hw,h⟩:=q_a.mp h
          cases h
          exact ⟨_,iter,[c],xs',_,y,i,w,rfl,rfl,bk,hpi,hfo,fun Cc fp s0 H0 σ δ=>item_tup rfl g.K hx hne (by exact bk.nd) (hat Cc fp s0 H0) (hloc Cc fp s0 H0) ((inner Cc fp s0 H0).1 elt y hy).1 (fun c' hc=>by cases hc;exact ((inner Cc fp s0 H0).1 c w hw).2) (.inr ⟨c,rfl⟩) rfl⟩
        | _::_::_,h=>cases h
      | _=>simp [JBq] at htg
     ·cases h
theorem JEJ (ra:Rare B C CX G) {n:Nat} {X:Cx} {XX:Nat->Hp->Prop} {names:List (Str×NameKind)} {N:List Str} (g:Gk X B C CX XX G) (hk:X.env.scope.kind=.function) (hn:X.env.scope.names=names) (hN:X.N=N) (hnd:N.Nodup)
  {es:List Expr} {p:Pos} {x:E} (h:JAA G n false names N (.List es p)=some x):PE X (.List es p) (REF B C XX x):=by
 cases n with
 | zero=>simp [JAA,xOf,xRaw] at h
 | succ n =>
  simp only [JAA,xOf,xRaw,Option.bind_none] at h
  split at h
  ·rename_i hl
   obtain ⟨y,hx,e'⟩:=q_d.mp h
   subst e'
   exact JOy g (allA g (fun e x h=>((sound ra n X XX names N g hk hn hN hnd).1 e x h).1) hx) (by rw [JAM hx];exact hl)
  ·cases h
end
end VI
end
section
set_option maxRecDepth 100000
namespace VI
open PySem PySem.Spec PyProof.Rows L2
noncomputable def Agr (x:E) (δ δ':Env):Prop:=∀i,x.uses i=true->δ[i]? = δ'[i]?
theorem JJ0 {δ δ':Env} {i:Nat} (h:δ[i]? = δ'[i]?):look δ i=look δ' i:=by unfold look;rw [h]
theorem JJI {k:Nat} {d:D} {δ δ' δ1:Env} (h:push k d δ=.ok δ1):∃δ1',push k d δ'=.ok δ1'/\∀x:E,(∀i,x.uses (i+(if k=0 then 1 else k))=true->δ[i]? = δ'[i]?)->Agr x δ1 δ1':=by
 cases k with
 | zero =>
  have e:(.val d::δ)=δ1:=by injection h
  subst e
  refine ⟨_,rfl,fun x hx i hi=>?_⟩
  cases i with
  | zero=>rfl
  | succ i=>simpa using hx i hi
 | succ k =>
  unfold push at h ⊢
  cases d<;>first | cases h | skip
  rename_i ds
  simp only at h ⊢
  split at h
  ·rename_i hl
   have e:ds.map Sl.val++δ=δ1:=by injection h
   subst e
   rw [if_pos hl]
   refine ⟨_,rfl,fun x hx i hi=>?_⟩
   by_cases hi2:i<ds.length
   ·rw [q_B (by simpa using hi2),q_B (by simpa using hi2)]
   ·rw [List.getElem?_append_right (by simpa using hi2),List.getElem?_append_right (by simpa using hi2)]
    simp only [q_g]
    refine hx _ ?_
    rw [if_neg (Nat.succ_ne_zero k),<-hl,Nat.sub_add_cancel (by omega)]
    exact hi
  ·cases h
theorem JJh {k:Nat} {d:D} {δ δ':Env} (h:push k d δ=.bad):push k d δ'=.bad:=by
 cases k with
 | zero=>cases h
 | succ k =>
  unfold push at h ⊢
  cases d<;>first | rfl | skip
  simp only at h ⊢
  split at h
  ·cases h
  ·rename_i hl;rw [if_neg hl]
theorem JJZ {k c:Nat} {d:D} {δ:Env}:push k d δ≠.exc c:=by
 cases k with
 | zero=>intro h;cases h
 | succ k =>
  unfold push
  cases d<;>simp only<;>(try split)<;>(intro h;cases h)
theorem ub_l {a b:Bool} (h:a=true):(a || b)=true:=by rw [h];rfl
theorem ub_r {a b:Bool} (h:b=true):(a || b)=true:=by rw [h];exact Bool.or_true a
theorem JAa {a b c:Bool} (h:a=true):(a || b || c)=true:=ub_l (ub_l h)
theorem JAZ {a b c:Bool} (h:b=true):(a || b || c)=true:=ub_l (ub_r h)
theorem agree (C:Cn) (x:E):∀(δ δ':Env),Agr x δ δ'->ev C x δ=ev C x δ'/\evT C x δ=evT C x δ'/\evA C x δ=evA C x δ'/\evI C x δ=evI C x δ':=by
 induction x with
 | var i=>intro δ δ' h;simp only [ev,evT,evA,evI,JJ0 (h i (show (i==i)=true from beq_self_eq_true i)),and_self]
 | cint _ | cbl _ | cnon | cstr _ | glo _ | nil=>intro δ δ' h;simp only [ev,evT,evA,evI,and_self]
 | bin op a b iha ihb =>
  intro δ δ' h
  have ha:=iha δ δ' fun i hi=>h i (by first | exact hi | exact ub_l hi | exact ub_r hi | exact JAa hi | exact JAZ hi)
  have hb:=ihb δ δ' fun i hi=>h i (by first | exact hi | exact ub_l hi | exact ub_r hi | exact JAa hi | exact JAZ hi)
  simp only [ev,evT,evA,evI,ha.1,hb.1,and_self]
 | neg a iha =>
  intro δ δ' h
  have ha:=iha δ δ' fun i hi=>h i (by first | exact hi | exact ub_l hi | exact ub_r hi | exact JAa hi | exact JAZ hi)
  simp only [ev,evT,evA,evI,ha.1,and_self]
 | not a iha =>
  intro δ δ' h
  have ha:=iha δ δ' fun i hi=>h i (by first | exact hi | exact ub_l hi | exact ub_r hi | exact JAa hi | exact JAZ hi)
  simp only [ev,evT,evA,evI,ha.1,ha.2.1,and_self]
 | and a b iha ihb =>
  intro δ δ' h
  have ha:=iha δ δ' fun i hi=>h i (by first | exact hi | exact ub_l hi | exact ub_r hi | exact JAa hi | exact JAZ hi)
  have hb:=ihb δ δ' fun i hi=>h i (by first | exact hi | exact ub_l hi | exact ub_r hi | exact JAa hi | exact JAZ hi)
  simp only [ev,evT,evA,evI,ha.1,hb.1,ha.2.1,hb.2.1,and_self]
 | or a b iha ihb =>
  intro δ δ' h
  have ha:=iha δ δ' fun i hi=>h i (by first | exact hi | exact ub_l hi | exact ub_r hi | exact JAa hi | exact JAZ hi)
  have hb:=ihb δ δ' fun i hi=>h i (by first | exact hi | exact ub_l hi | exact ub_r hi | exact JAa hi | exact JAZ hi)
  simp only [ev,evT,evA,evI,ha.1,hb.1,ha.2.1,hb.2.1,and_self]
 | cmp op a b iha ihb =>
  intro δ δ' h
  have ha:=iha δ δ' fun i hi=>h i (by first | exact hi | exact ub_l hi | exact ub_r hi | exact JAa hi | exact JAZ hi)
  have hb:=ihb δ δ' fun i hi=>h i (by first | exact hi | exact ub_l hi | exact ub_r hi | exact JAa hi | exact JAZ hi)
  simp only [ev,evT,evA,evI,ha.1,hb.1,and_self]
 | isN a n iha =>
  intro δ δ' h
  have ha:=iha δ δ' fun i hi=>h i (by first | exact hi | exact ub_l hi | exact ub_r hi | exact JAa hi | exact JAZ hi)
  simp only [ev,evT,evA,evI,ha.1,and_self]
 | isB a n iha =>
  intro δ δ' h
  have ha:=iha δ δ' fun i hi=>h i (by first | exact hi | exact ub_l hi | exact ub_r hi | exact JAa hi | exact JAZ hi)
  simp only [ev,evT,evA,evI,ha.1,and_self]
 | ife c a b ihc iha ihb =>
  intro δ δ' h
  have hc:=ihc δ δ' fun i hi=>h i (by first | exact hi | exact ub_l hi | exact ub_r hi | exact JAa hi | exact JAZ hi)
  have ha:=iha δ δ' fun i hi=>h i (by first | exact hi | exact ub_l hi | exact ub_r hi | exact JAa hi | exact JAZ hi)
  have hb:=ihb δ δ' fun i hi=>h i (by first | exact hi | exact ub_l hi | exact ub_r hi | exact JAa hi | exact JAZ hi)
  simp only [ev,evT,evA,evI,ha.1,hb.1,hc.2.1,and_self]
 | cons a r iha ihr =>
  intro δ δ' h
  have ha:=iha δ δ' fun i hi=>h i (by first | exact hi | exact ub_l hi | exact ub_r hi | exact JAa hi | exact JAZ hi)
  have hr:=ihr δ δ' fun i hi=>h i (by first | exact hi | exact ub_l hi | exact ub_r hi | exact JAa hi | exact JAZ hi)
  simp only [ev,evT,evA,evI,ha.1,hr.2.2.1,and_self]
 | tup es ih =>
  intro δ δ' h
  have ha:=ih δ δ' fun i hi=>h i (by first | exact hi | exact ub_l hi | exact ub_r hi | exact JAa hi | exact JAZ hi)
  simp only [ev,evT,evA,evI,ha.2.2.1,and_self]
 | lst es ih =>
  intro δ δ' h
  have ha:=ih δ δ' fun i hi=>h i (by first | exact hi | exact ub_l hi | exact ub_r hi | exact JAa hi | exact JAZ hi)
  simp only [ev,evT,evA,evI,ha.2.2.1,and_self]
 | fn1 o a iha =>
  intro δ δ' h
  have ha:=iha δ δ' fun i hi=>h i (by first | exact hi | exact ub_l hi | exact ub_r hi | exact JAa hi | exact JAZ hi)
  simp only [ev,evT,evA,evI,ha.1,and_self]
 | xop k es ih =>
  intro δ δ' h
  have ha:=ih δ δ' fun i hi=>h i (by first | exact hi | exact ub_l hi | exact ub_r hi | exact JAa hi | exact JAZ hi)
  simp only [ev,evT,evA,evI,ha.2.2.1,and_self]
 | isnB a n iha =>
  intro δ δ' h
  have ha:=iha δ δ' fun i hi=>h i (by first | exact hi | exact ub_l hi | exact ub_r hi | exact JAa hi | exact JAZ hi)
  simp only [ev,evT,evA,evI,ha.1,and_self]
 | dct ks es ih =>
  intro δ δ' h
  have ha:=ih δ δ' fun i hi=>h i (by first | exact hi | exact ub_l hi | exact ub_r hi | exact JAa hi | exact JAZ hi)
  simp only [ev,evT,evA,evI,ha.2.2.1,and_self]
 | rep k es ih =>
  intro δ δ' h
  have ha:=ih δ δ' fun i hi=>h i (by first | exact hi | exact ub_l hi | exact ub_r hi | exact JAa hi | exact JAZ hi)
  simp only [ev,evT,evA,evI,ha.2.2.1,and_self]
 | idx a b iha ihb =>
  intro δ δ' h
  have ha:=iha δ δ' fun i hi=>h i (by first | exact hi | exact ub_l hi | exact ub_r hi | exact JAa hi | exact JAZ hi)
  have hb:=ihb δ δ' fun i hi=>h i (by first | exact hi | exact ub_l hi | exact ub_r hi | exact JAa hi | exact JAZ hi)
  simp only [ev,evT,evA,evI,ha.1,hb.1,and_self]
 | call f es ih =>
  intro δ δ' h
  have ha:=ih δ δ' fun i hi=>h i (by first | exact hi | exact ub_l hi | exact ub_r hi | exact JAa hi | exact JAZ hi)
  simp only [ev,evT,evA,evI,ha.2.2.1,and_self]
 | blt b es ih =>
  intro δ δ' h
  have ha:=ih δ δ' fun i hi=>h i (by first | exact hi | exact ub_l hi | exact ub_r hi | exact JAa hi | exact JAZ hi)
  simp only [ev,evT,evA,evI,ha.2.2.1,and_self]
 | rng es ih =>
  intro δ δ' h
  have ha:=ih δ δ' fun i hi=>h i (by first | exact hi | exact ub_l hi | exact ub_r hi | exact JAa hi | exact JAZ hi)
  simp only [ev,evT,evA,evI,ha.2.2.1,and_self]
 | isi a t iha =>
  intro δ δ' h
  have ha:=iha δ δ' fun i hi=>h i (by first | exact hi | exact ub_l hi | exact ub_r hi | exact JAa hi | exact JAZ hi)
  simp only [ev,evT,evA,evI,ha.1,and_self]
 | mcount a b iha ihb =>
  intro δ δ' h
  have ha:=iha δ δ' fun i hi=>h i (by first | exact hi | exact ub_l hi | exact ub_r hi | exact JAa hi | exact JAZ hi)
  have hb:=ihb δ δ' fun i hi=>h i (by first | exact hi | exact ub_l hi | exact ub_r hi | exact JAa hi | exact JAZ hi)
  simp only [ev,evT,evA,evI,ha.1,hb.1,and_self]
 | mindex a b iha ihb =>
  intro δ δ' h
  have ha:=iha δ δ' fun i hi=>h i (by first | exact hi | exact ub_l hi | exact ub_r hi | exact JAa hi | exact JAZ hi)
  have hb:=ihb δ δ' fun i hi=>h i (by first | exact hi | exact ub_l hi | exact ub_r hi | exact JAa hi | exact JAZ hi)
  simp only [ev,evT,evA,evI,ha.1,hb.1,and_self]
 | mget a b c iha ihb ihc =>
  intro δ δ' h
  have ha:=iha δ δ' fun i hi=>h i (by first | exact hi | exact ub_l hi | exact ub_r hi | exact JAa hi | exact JAZ hi)
  have hb:=ihb δ δ' fun i hi=>h i (by first | exact hi | exact ub_l hi | exact ub_r hi | exact JAa hi | exact JAZ hi)
  have hc:=ihc δ δ' fun i hi=>h i (by first | exact hi | exact ub_l hi | exact ub_r hi | exact JAa hi | exact JAZ hi)
  simp only [ev,evT,evA,evI,ha.1,hb.1,hc.1,and_self]
 | cmpr k elt iter cond ihe ihi ihc =>
  intro δ δ' h
  have hi:=ihi δ δ' fun i hi=>h i (by first | exact hi | exact ub_l hi | exact ub_r hi | exact JAa hi | exact JAZ hi)
  refine ⟨?_,by simp only [evT],by simp only [evA],by simp only [evI]⟩
  simp only [ev,hi.2.2.2]
  congr 1
  funext xs
  congr 2
  congr 1
  funext d
  cases q:push k d δ with
  | ok δ1 =>
   obtain ⟨δ1',q',ag⟩:=JJI (δ':=δ') q
   rw [q']
   have h1:=ihc δ1 δ1' (ag cond fun i hi=>h i (by exact ub_r hi))
   have h2:=ihe δ1 δ1' (ag elt fun i hi=>h i (by exact JAZ hi))
   simp only [R.bind,h1.2.1,h2.1]
  | exc c=>exact (JJZ q).elim
  | bad=>rw [JJh (δ':=δ') q]
abbrev Ow:=Nat->Option Addr
open Classical in
noncomputable def hidP (H:Hp) (P:Addr->Prop):Hp:=fun b=>if P b then none else H b
theorem JA1 {H:Hp} {P:Addr->Prop} {b:Addr} (h:P b):hidP H P b=none:=by unfold hidP;rw [if_pos h]
theorem JAG {H:Hp} {P:Addr->Prop} {b:Addr} (h:¬P b):hidP H P b=H b:=by unfold hidP;rw [if_neg h]
theorem JAu {H:Hp} {P:Addr->Prop} {b:Addr} {o:HO} (h:hidP H P b=some o):¬P b/\H b=some o:=by
 by_cases hp:P b
 ·rw [JA1 hp] at h;cases h
 ·rw [JAG hp] at h;exact ⟨hp,h⟩
open Classical in
noncomputable def mixP (H H1:Hp) (P:Addr->Prop):Hp:=fun b=>if P b then H b else H1 b
theorem JBb {H H1:Hp} {P:Addr->Prop} {b:Addr} (h:P b):mixP H H1 P b=H b:=by unfold mixP;rw [if_pos h]
theorem JAL {H H1:Hp} {P:Addr->Prop} {b:Addr} (h:¬P b):mixP H H1 P b=H1 b:=by unfold mixP;rw [if_neg h]
section
variable {X:Cx} {pins ps:List (Addr×Obj)} {σ:St} {H H1:Hp} {s s1:Shared} {P:Addr->Prop}
theorem JIQ (I:Inv X pins σ H s) {a:Addr} {xs:List V} (h:H a=some (.lst xs)) (h0:X.H₀ a=none):a≠X.env.locals/\a ∉ X.fs:=by
 refine ⟨fun z=>(by rw [z,I.free] at h;cases h),fun z=>?_⟩
 obtain ⟨_,o,ho,_⟩:=I.ok.funs.mem z
 have:=I.base.free a o ho (I.ok.frf a z) fun q=>I.ok.exfs a q z
 rw [h] at this;cases this
theorem JBG (I:Inv X pins σ H s) (hP:∀a,P a->∃xs,H a=some (.lst xs)/\X.H₀ a=none) (hps:∀p∈ps,P p.1/\s.heap.get? p.1=some p.2):Inv X (pins++ps) σ (hidP H P) s where
 ok:=I.ok
 os:=I.os
 bare:=I.bare
 base:=by
  have nP:∀b u,H b=some u->(∀xs,u≠.lst xs)->¬P b:=fun b u e hu hp=>by
   obtain ⟨xs,h1,_⟩:=hP b hp
   rw [e] at h1;cases h1;exact hu xs rfl
  refine ⟨I.base.keep,I.base.slot,fun b o e n hx=>?_,I.base.there,fun b xs e=>?_,fun b o u e=>?_,fun b t e=>?_⟩
  ·have:=I.base.free b o e n hx
   by_cases hp:P b
   ·exact JA1 hp
   ·rw [JAG hp];exact this
  ·have q:=I.base.tups b xs e
   rw [JAG (nP b _ q fun _ z=>by cases z)];exact q
  ·have q:=I.base.frzs b o u e
   rw [JAG (nP b _ q fun _ z=>by cases z)];exact q
  ·obtain ⟨m,q⟩:=I.base.tbls b t e
   exact ⟨m,by rw [JAG (nP b _ q fun _ z=>by cases z)];exact q⟩
 loc:=I.loc
 cell:=I.cell
 free:=by
  by_cases hp:P X.env.locals
  ·exact JA1 hp
  ·rw [JAG hp];exact I.free
 freeC:=fun x c e=>by
  by_cases hp:P c
  ·exact JA1 hp
  ·rw [JAG hp];exact I.freeC x c e
 pin:=fun p hp=>by
  have old:∀p∈X.pn++pins,s.heap.get? p.1=some p.2/\hidP H P p.1=none/\p.1≠X.env.locals/\p.1 ∉ X.fs/\∀v,p.2.data≠.cell v:=fun p hp=>by
   obtain ⟨h1,h2,h3⟩:=I.pin p hp
   refine ⟨h1,?_,h3⟩
   by_cases hq:P p.1
   ·exact JA1 hq
   ·rw [JAG hq];exact h2
  rcases List.mem_append.mp hp with z | z
  ·exact old p (List.mem_append_left _ z)
  ·rcases List.mem_append.mp z with z | z
   ·exact old p (q_r _ z)
   ·obtain ⟨hq,ho⟩:=hps p z
    obtain ⟨xs,h1,h0⟩:=hP _ hq
    obtain ⟨n1,n2⟩:=JIQ I h1 h0
    refine ⟨ho,JA1 hq,n1,n2,fun v e=>?_⟩
    obtain ⟨_,its,n,_,e2⟩:=I.hok _ _ h1
    rw [ho] at e2
    have e3:p.2={ cls:=.type "list",data:=.seq its.toArray n }:=Option.some.inj e2
    rw [e3] at e
    have e4:Data.seq its.toArray n=Data.cell v:=e
    cases e4
 hok:=fun b u e=>by
  obtain ⟨hb,e⟩:=JAu e
  refine (I.hok b u e).stay (fun c w _ q=>q) (fun c q=>?_) fun c xs q=>?_
  ·rw [JAG fun hc=>by obtain ⟨xs,h1,_⟩:=hP c hc;rw [q] at h1;cases h1];exact q
  ·rw [JAG fun hc=>by obtain ⟨ys,h1,_⟩:=hP c hc;rw [q] at h1;cases h1];exact q
 len:=I.len
theorem JAm {σ':St} (I:Inv X pins σ H s) (J:Inv X (pins++ps) σ' H1 s1) (hP:∀a,P a->∃xs,H a=some (.lst xs)/\X.H₀ a=none) (hps:∀a,P a->∃o,(a,o)∈ps/\s.heap.get? a=some o) :
  Inv X pins σ' (mixP H H1 P) s1/\∀a,P a->H1 a=none:=by
 have hpin:∀a,P a->∃o,s1.heap.get? a=some o/\H1 a=none/\s.heap.get? a=some o:=fun a ha=>by
  obtain ⟨o,hm,ho⟩:=hps a ha
  obtain ⟨h1,h2,_⟩:=J.pin (a,o) (q_r _ (q_r _ hm))
  exact ⟨o,h1,h2,ho⟩
 have nP:∀b u,H1 b=some u->¬P b:=fun b u e hp=>by obtain ⟨_,_,h,_⟩:=hpin b hp;rw [e] at h;cases h
 have nS:∀b o,X.s₀.heap.get? b=some o->X.H₀ b=none->b ∉ X.ex->¬P b:=fun b o e n hx hp=>by
  obtain ⟨xs,h1,_⟩:=hP b hp
  have:=I.base.free b o e n hx
  rw [h1] at this;cases this
 refine ⟨⟨J.ok,J.os,J.bare,⟨J.base.keep,J.base.slot,fun b o e n hx=>?_,J.base.there,fun b xs e=>?_,fun b o u e=>?_,fun b t e=>?_⟩,J.loc,J.cell,?_,fun x c e=>?_,fun p hp=>?_,fun b u e=>?_,J.len⟩,fun a ha=>?_⟩
 ·rw [JAL (nS b o e n hx)];exact J.base.free b o e n hx
 ·have q:=J.base.tups b xs e
  rw [JAL (nP b _ q)];exact q
 ·have q:=J.base.frzs b o u e
  rw [JAL (nP b _ q)];exact q
 ·obtain ⟨m,q⟩:=J.base.tbls b t e
  exact ⟨m,by rw [JAL (nP b _ q)];exact q⟩
 ·rw [JAL fun hp=>by obtain ⟨xs,h1,_⟩:=hP _ hp;rw [I.free] at h1;cases h1];exact J.free
 ·rw [JAL fun hp=>by obtain ⟨xs,h1,_⟩:=hP _ hp;rw [I.freeC x c e] at h1;cases h1];exact J.freeC x c e
 ·have hp':p∈X.pn++(pins++ps):=by
   rcases List.mem_append.mp hp with z | z
   ·exact List.mem_append_left _ z
   ·exact q_r _ (List.mem_append_left _ z)
  obtain ⟨h1,h2,h3⟩:=J.pin p hp'
  refine ⟨h1,?_,h3⟩
  rw [JAL fun hq=>by
   obtain ⟨xs,g1,_⟩:=hP _ hq
   have:=(I.pin p hp).2.1
   rw [g1] at this;cases this]
  exact h2
 ·by_cases hb:P b
  ·rw [JBb hb] at e
   obtain ⟨xs,h1,_⟩:=hP b hb
   rw [h1] at e;cases e
   obtain ⟨o,g1,_,g3⟩:=hpin b hb
   obtain ⟨z,its,n,r,e2⟩:=I.hok b _ h1
   rw [g3] at e2;cases e2
   exact ⟨z,its,n,r,g1⟩
  ·rw [JAL hb] at e
   refine (J.hok b u e).stay (fun c w _ q=>q) (fun c q=>?_) fun c xs q=>?_
   ·rw [JAL (nP c _ q)];exact q
   ·rw [JAL (nP c _ q)];exact q
 ·obtain ⟨_,_,h,_⟩:=hpin a ha;exact h
end
end VI
end
section
set_option maxRecDepth 100000
namespace VI
open PySem PySem.Spec PyProof.Rows L2
noncomputable def ownP (O:Ow) (b:Addr):Prop:=∃i,O i=some b
noncomputable abbrev hid (H:Hp) (O:Ow):Hp:=hidP H (ownP O)
noncomputable def JAK (B:Bs) (H₀ H:Hp) (O:Ow) (σ:St) (i:Nat):Option Sl->Prop
 | some (.own d)=>∃a ds xs,O i=some a/\d=.list ds/\σ[i]? = some (some (.ref a))/\H a=some (.lst xs)/\H₀ a=none/\DenL B (hid H O) ds xs
 | some (.val d)=>O i=none/\∃v,σ[i]? = some (some v)/\Den B (hid H O) d v
 | _=>O i=none
structure SO (B:Bs) (H₀:Hp) (σ:St) (H:Hp) (δ:Env) (O:Ow):Prop where
 len:σ.length=δ.length
 same:Same H₀ H
 inj:∀i j a,O i=some a->O j=some a->i=j
 slot:∀i,JAK B H₀ H O σ i δ[i]?
noncomputable def JAV (x:E):Nat->Env->Env
 | _,[]=>[]
 | i,s::r=>(if x.uses i=true then s else if s.isOwn=true then .no else s)::JAV x (i+1) r
theorem JCH (x:E):∀(δ:Env) (k i:Nat),(JAV x k δ)[i]? = (δ[i]?).map fun s=>if x.uses (k+i)=true then s else if s.isOwn=true then .no else s
 | [],_,_=>by simp [JAV]
 | s::r,k,0=>by simp [JAV]
 | s::r,k,i+1=>by
  have:=JCH x r (k+1) i
  rw [show k+1+i=k+(i+1) by omega] at this
  simpa [JAV] using this
theorem JEU (x:E):∀(δ:Env) (k i:Nat),(JAg x k δ)[i]? = (δ[i]?).map fun s=>if x.uses (k+i)=true then s.frz else s
 | [],_,_=>by simp [JAg]
 | s::r,k,0=>by simp [JAg]
 | s::r,k,i+1=>by
  have:=JEU x r (k+1) i
  rw [show k+1+i=k+(i+1) by omega] at this
  simpa [JAg] using this
theorem JER (x:E):∀(δ:Env) (k:Nat),(JAg x k δ).length=δ.length
 | [],_=>rfl
 | s::r,k=>by simp only [JAg,List.length_cons,JER x r]
theorem JBU (x:E):∀(δ:Env) (k i:Nat) (s:Sl),JAJ x k δ=false->δ[i]? = some s->x.uses (k+i)=true->s.isOwn=false
 | [],_,_,_,_,e,_=>by simp at e
 | s::r,k,0,t,h,e,hu=>by
  unfold JAJ at h
  simp only [Bool.or_eq_false_iff,Bool.and_eq_false_iff] at h
  simp only [List.getElem?_cons_zero,q_j] at e
  subst e
  rcases h.1 with z | z
  ·rw [Nat.add_zero] at hu;rw [hu] at z;cases z
  ·exact z
 | s::r,k,i+1,t,h,e,hu=>by
  unfold JAJ at h
  simp only [Bool.or_eq_false_iff] at h
  exact JBU x r (k+1) i t h.2 (by simpa using e) (by rw [show k+1+i=k+(i+1) by omega];exact hu)
mutual
theorem JDU {B:Bs} {H1 H2:Hp} (hk:∀b o,H1 b=some o->(∀xs,o≠.lst xs)->H2 b=some o):∀(d:D) (v:V),JAR d=true->Den B H1 d v->Den B H2 d v
 | .none,_,_,h=>h
 | .bool _,_,_,h=>h
 | .int _,_,_,h=>h
 | .str _,_,_,h=>h
 | .list _,_,n,_=>by simp only [JAR] at n;cases n
 | .tuple ds,v,n,h=>by
  simp only [Den] at h ⊢
  obtain ⟨a,xs,e,q,l⟩:=h
  refine ⟨a,xs,e,?_,JBs hk ds xs (by simpa only [JAR] using n) l⟩
  rcases q with (q | ⟨o,q⟩) | q
  ·exact .inl (.inl (hk _ _ q fun _ z=>by cases z))
  ·exact .inl (.inr ⟨o,hk _ _ q fun _ z=>by cases z⟩)
  ·exact .inr q
 | .dict kvs,v,n,h=>by
  simp only [Den] at h ⊢
  rcases h with ⟨a,c,e,k,q⟩ | ⟨a,xs,e,q,l⟩
  ·exact .inl ⟨a,c,e,k,hk _ _ q fun _ z=>by cases z⟩
  ·exfalso
   match kvs,n,l with
   | [],n,_=>simp [JAR] at n
   |(k,w)::r,n,l =>
    simp only [DenK] at l
    obtain ⟨x,v',r',_,ek,_⟩:=l
    subst ek
    simp [JAR] at n
theorem JBs {B:Bs} {H1 H2:Hp} (hk:∀b o,H1 b=some o->(∀xs,o≠.lst xs)->H2 b=some o):∀(ds:List D) (vs:List V),JBv ds=true->DenL B H1 ds vs->DenL B H2 ds vs
 | [],_,_,h=>h
 | d::ds,vs,n,h=>by
  simp only [DenL] at h ⊢
  simp only [JBv,q_i] at n
  obtain ⟨v,r,e,q,l⟩:=h
  exact ⟨v,r,e,JDU hk d v n.1 q,JBs hk ds r n.2 l⟩
end
section
variable {X:Cx} {B:Bs} {C:Cn} {CX:CXT} {XX:Nat->Hp->Prop} {G:List (Str×GK)} {pins:List (Addr×Obj)} {σ:St} {H:Hp} {s:Shared} {δ:Env} {O:Ow} {x:E} {Hb:Hp}
noncomputable def unP (x:E) (O:Ow) (b:Addr):Prop:=∃i,O i=some b/\x.uses i=false
theorem SO.own (so:SO B Hb σ H δ O) {i:Nat} {a:Addr} (h:O i=some a):∃ds xs,δ[i]? = some (.own (.list ds))/\σ[i]? = some (some (.ref a))/\H a=some (.lst xs)/\Hb a=none/\DenL B (hid H O) ds xs:=by
 have q:=so.slot i
 cases e:δ[i]? with
 | none=>rw [e] at q;simp only [JAK] at q;rw [h] at q;cases q
 | some t =>
  rw [e] at q
  cases t with
  | no=>simp only [JAK] at q;rw [h] at q;cases q
  | val d=>simp only [JAK] at q;rw [h] at q;cases q.1
  | own d =>
   simp only [JAK] at q
   obtain ⟨a',ds,xs,e1,e2,e3,e4,e5,e6⟩:=q
   rw [h] at e1;cases e1
   subst e2
   exact ⟨ds,xs,rfl,e3,e4,e5,e6⟩
noncomputable def JBz (x:E) (O:Ow) (n:Nat) (h:Heap):List (Addr×Obj) :=
 (List.range n).filterMap fun i=>match O i with
   | some a=>if x.uses i=true then none else (h.get? a).map fun o=>(a,o)
   | none=>none
theorem JAp (hb:Same X.H₀ Hb) (so:SO B Hb σ H δ O):∀a,unP x O a->∃xs,H a=some (.lst xs)/\X.H₀ a=none:=fun a ⟨i,h,_⟩=>by
 obtain ⟨ds,xs,_,_,e4,e5,_⟩:=so.own h
 exact ⟨xs,e4,hb.free e5⟩
theorem JAv {n:Nat} {h:Heap}:∀p∈JBz x O n h,unP x O p.1/\h.get? p.1=some p.2:=fun p hp=>by
 obtain ⟨i,_,e⟩:=List.mem_filterMap.mp hp
 cases q:O i with
 | none=>rw [q] at e;cases e
 | some a =>
  rw [q] at e
  simp only at e
  split at e
  ·cases e
  ·rename_i hu
   obtain ⟨o,ho,e2⟩:=q_d.mp e
   subst e2
   exact ⟨⟨i,q,by simpa using hu⟩,ho⟩
theorem JAn (I:Inv X pins σ H s) (so:SO B Hb σ H δ O):∀a,unP x O a->∃o,(a,o)∈JBz x O δ.length s.heap/\s.heap.get? a=some o:=fun a ⟨i,h,hu⟩=>by
 obtain ⟨ds,xs,e1,_,e4,_,_⟩:=so.own h
 obtain ⟨_,its,n,_,ho⟩:=I.hok a _ e4
 refine ⟨_,List.mem_filterMap.mpr ⟨i,List.mem_range.mpr (q_p.mp e1).1,?_⟩,ho⟩
 rw [h]
 simp only [hu,q_v,if_false,ho,Option.map_some]
theorem JAk (so:SO B Hb σ H δ O):Same Hb (hid H O):=fun b o e=>by
 rw [hid,JAG fun ⟨i,h⟩=>by obtain ⟨_,_,_,_,_,e5,_⟩:=so.own h;rw [e] at e5;cases e5]
 exact so.same b o e
theorem same_un:Same (hid H O) (hidP H (unP x O)):=fun b o e=>by
 obtain ⟨h1,h2⟩:=JAu e
 rw [JAG fun ⟨i,h,_⟩=>h1 ⟨i,h⟩]
 exact h2
theorem JAb (so:SO B Hb σ H δ O):Sok B σ (hidP H (unP x O)) (JAV x 0 δ):=fun i d e=>by
 unfold look at e
 rw [JCH,Nat.zero_add] at e
 have q:=so.slot i
 cases e1:δ[i]? with
 | none=>rw [e1] at e;cases e
 | some t =>
  rw [e1] at e q
  simp only [Option.map_some] at e
  cases t with
  | no =>
   simp only [Sl.isOwn,q_v,if_false,ite_self,Sl.get] at e
   cases e
  | val d' =>
   simp only [Sl.isOwn,q_v,if_false,ite_self,Sl.get] at e
   cases e
   simp only [JAK] at q
   obtain ⟨_,v,e2,dn⟩:=q
   exact ⟨v,e2,Den.mono same_un d v dn⟩
  | own d' =>
   by_cases hu:x.uses i=true
   ·rw [if_pos hu] at e
    simp only [Sl.get] at e
    cases e
    simp only [JAK] at q
    obtain ⟨a,ds,xs,q1,q2,q3,q4,q5,q6⟩:=q
    subst q2
    refine ⟨_,q3,?_⟩
    simp only [Den]
    refine ⟨a,xs,rfl,SqL.of ?_,DenL.mono same_un ds xs q6⟩
    rw [JAG fun ⟨j,hj,hu2⟩=>by
     have:=so.inj i j a q1 hj
     subst this
     rw [hu] at hu2;cases hu2]
    exact q4
   ·rw [if_neg hu] at e
    simp only [Sl.isOwn,if_true,Sl.get] at e
    cases e
theorem JBS:Agr x δ (JAV x 0 δ):=fun i hi=>by
 rw [JCH,Nat.zero_add]
 cases δ[i]? with
 | none=>rfl
 | some t=>simp [hi]
theorem JC2 (so:SO B Hb σ H δ O) {H1:Hp} (sm:Same (hidP H (unP x O)) H1) (hz:∀a,unP x O a->H1 a=none):SO B Hb σ (mixP H H1 (unP x O)) δ O:=by
 have s1:Same (hid H O) (hid (mixP H H1 (unP x O)) O):=fun b o e=>by
  obtain ⟨h1,h2⟩:=JAu e
  rw [hid,JAG h1,JAL fun ⟨i,h,_⟩=>h1 ⟨i,h⟩]
  exact sm b o (by rw [JAG fun ⟨i,h,_⟩=>h1 ⟨i,h⟩];exact h2)
 refine ⟨so.len,fun b o e=>?_,so.inj,fun i=>?_⟩
 ·have e1:=JAk so b o e
  obtain ⟨_,h2⟩:=JAu (s1 b o e1)
  exact h2
 ·have q:=so.slot i
  cases e1:δ[i]? with
  | none=>rw [e1] at q;exact q
  | some t =>
   rw [e1] at q
   cases t with
   | no=>exact q
   | val d =>
    simp only [JAK] at q ⊢
    obtain ⟨h0,v,e2,dn⟩:=q
    exact ⟨h0,v,e2,Den.mono s1 d v dn⟩
   | own d =>
    simp only [JAK] at q ⊢
    obtain ⟨a,ds,xs,q1,q2,q3,q4,q5,q6⟩:=q
    refine ⟨a,ds,xs,q1,q2,q3,?_,q5,DenL.mono s1 ds xs q6⟩
    by_cases hp:unP x O a
    ·rw [JBb hp];exact q4
    ·rw [JAL hp]
     exact sm a _ (by rw [JAG hp];exact q4)
noncomputable def frzO (x:E) (O:Ow):Ow:=fun i=>if x.uses i=true then none else O i
theorem ownP_frz {b:Addr}:ownP (frzO x O) b↔unP x O b:=by
 constructor
 ·rintro ⟨i,h⟩
  unfold frzO at h
  split at h
  ·cases h
  ·rename_i hu;exact ⟨i,h,by simpa using hu⟩
 ·rintro ⟨i,h,hu⟩
  exact ⟨i,by unfold frzO;rw [if_neg (by rw [hu];exact Bool.false_ne_true)];exact h⟩
theorem JAz {H1:Hp} (hz:∀a,unP x O a->H1 a=none):Same H1 (hid (mixP H H1 (unP x O)) (frzO x O)):=fun b o e=>by
 have hb:¬unP x O b:=fun h=>by rw [hz b h] at e;cases e
 rw [hid,JAG (fun h=>hb (ownP_frz.mp h)),JAL hb]
 exact e
theorem JGV (so:SO B Hb σ H δ O) {H1:Hp} (sm:Same (hidP H (unP x O)) H1) (hz:∀a,unP x O a->H1 a=none):SO B Hb σ (mixP H H1 (unP x O)) (JAg x 0 δ) (frzO x O):=by
 have s1:Same (hid H O) (hid (mixP H H1 (unP x O)) (frzO x O)):=(same_un.trans sm).trans (JAz hz)
 have k:=JC2 so sm hz
 refine ⟨by rw [JER];exact so.len,k.same,fun i j a h1 h2=>?_,fun i=>?_⟩
 ·unfold frzO at h1 h2
  split at h1
  ·cases h1
  ·split at h2
   ·cases h2
   ·exact so.inj i j a h1 h2
 ·rw [JEU,Nat.zero_add]
  have q:=so.slot i
  cases e1:δ[i]? with
  | none=>rw [e1] at q;simp only [JAK,Option.map_none] at q ⊢;unfold frzO;split<;>first | rfl | exact q
  | some t =>
   rw [e1] at q
   simp only [Option.map_some]
   cases t with
   | no =>
    simp only [Sl.frz,ite_self,JAK] at q ⊢
    unfold frzO;split<;>first | rfl | exact q
   | val d =>
    simp only [Sl.frz,ite_self,JAK] at q ⊢
    obtain ⟨h0,v,e2,dn⟩:=q
    exact ⟨by unfold frzO;split<;>first | rfl | exact h0,v,e2,Den.mono s1 d v dn⟩
   | own d =>
    by_cases hu:x.uses i=true
    ·rw [if_pos hu]
     simp only [Sl.frz,JAK] at q ⊢
     obtain ⟨a,ds,xs,q1,q2,q3,q4,q5,q6⟩:=q
     subst q2
     refine ⟨by unfold frzO;rw [if_pos hu],_,q3,?_⟩
     simp only [Den]
     refine ⟨a,xs,rfl,SqL.of ?_,DenL.mono s1 ds xs q6⟩
     have hp:¬unP x O a:=fun ⟨j,hj,hu2⟩=>by
      have:=so.inj i j a q1 hj
      subst this
      rw [hu] at hu2;cases hu2
     exact JAz hz a _ (sm a _ (by rw [JAG hp];exact q4))
    ·rw [if_neg hu]
     simp only [JAK] at q ⊢
     obtain ⟨a,ds,xs,q1,q2,q3,q4,q5,q6⟩:=q
     have hp:unP x O a:=⟨i,q1,by simpa using hu⟩
     refine ⟨a,ds,xs,by unfold frzO;rw [if_neg hu];exact q1,q2,q3,by rw [JBb hp];exact q4,q5,DenL.mono s1 ds xs q6⟩
theorem JJ5 (so:SO B Hb σ H δ O) {H1:Hp} {d:D} {v:V} (sm:Same (hidP H (unP x O)) H1) (hz:∀a,unP x O a->H1 a=none) (dn:Den B H1 d v) :
  ∃O',SO B Hb σ (mixP H H1 (unP x O)) (after x d δ) O'/\Den B (hid (mixP H H1 (unP x O)) O') d v:=by
 unfold after
 split
 ·exact ⟨_,JGV so sm hz,Den.mono (JAz hz) d v dn⟩
 ·rename_i hb
  refine ⟨O,JC2 so sm hz,?_⟩
  cases hu:JAJ x 0 δ with
  | false =>
   refine Den.mono (fun b o e=>?_) d v dn
   have hb':¬unP x O b:=fun h=>by rw [hz b h] at e;cases e
   have hb2:¬ownP O b:=fun ⟨i,h⟩=>by
    obtain ⟨ds,xs,e1,_⟩:=so.own h
    refine hb' ⟨i,h,?_⟩
    cases q:x.uses i with
    | false=>rfl
    | true =>
     have:=JBU x δ 0 i _ hu e1 (by rw [Nat.zero_add];exact q)
     cases this
   rw [hid,JAG hb2,JAL hb']
   exact e
  | true =>
   have hl:JAR d=true:=by
    rw [hu] at hb
    cases q:JAR d with
    | true=>rfl
    | false=>rw [q] at hb;exact absurd rfl hb
   refine JDU (fun b o e ho=>?_) d v hl dn
   have hb':¬unP x O b:=fun h=>by rw [hz b h] at e;cases e
   have hb2:¬ownP O b:=fun ⟨i,h⟩=>by
    obtain ⟨ds,xs,_,_,e4,_⟩:=so.own h
    have:=sm b _ (by rw [JAG hb'];exact e4)
    rw [e] at this
    exact ho xs (Option.some.inj this)
   rw [hid,JAG hb2,JAL hb']
   exact e
noncomputable def RS (X:Cx) (B:Bs) (C:Cn) (XX:Nat->Hp->Prop) (x:E):TE:=fun σ H Q=>∃δ O Hb,Same X.H₀ Hb/\SO B Hb σ H δ O/\(match ev C x δ with
 | .ok d=>∀v H' O',SO B Hb σ H' (after x d δ) O'->Den B (hid H' O') d v->Q v H'
 | .exc c=>XX c Hb
 | .bad=>False)
noncomputable def RTS (X:Cx) (B:Bs) (C:Cn) (XX:Nat->Hp->Prop) (x:E):TT:=fun σ H Q=>∃δ O Hb,Same X.H₀ Hb/\SO B Hb σ H δ O/\(match evT C x δ with
 | .ok b=>∀H',SO B Hb σ H' δ O->Q b H'
 | .exc c=>XX c Hb
 | .bad=>False)
noncomputable def RIS (X:Cx) (B:Bs) (C:Cn) (XX:Nat->Hp->Prop) (x:E):TI:=fun σ H Q=>∃δ O Hb,Same X.H₀ Hb/\SO B Hb σ H δ O/\(match evI C x δ with
 | .ok ds=>∀J H' O',SO B Hb σ H' (JAg x 0 δ) O'->ItOk B J (hid H' O') ds->Q J H'
 | .exc c=>XX c Hb
 | .bad=>False)
theorem JGj (g:Gk X B C CX XX G) {e:Expr} (he:PE X e (RE B C XX x)):PE X e (RS X B C XX x):=by
 intro pins s σ H Q I ⟨δ,O,Hb,hb,so,k⟩
 have J0:=JBG (ps:=JBz x O δ.length s.heap) I (JAp (x:=x) hb so) JAv
 have hev:=(agree C x δ (JAV x 0 δ) JBS).1
 cases q:ev C x δ with
 | ok d =>
  rw [q] at k
  refine thn (he _ s σ _ (fun v H1=>Same (hidP H (unP x O)) H1/\Den B H1 d v) J0 ⟨JAV x 0 δ,JAb so,by rw [<-hev,q];exact fun v H1 s1 d1=>⟨s1,d1⟩⟩) fun u s1 ⟨v,H1,J,r,sm,dn⟩=>?_
  obtain ⟨I',hz⟩:=JAm I J (JAp hb so) (JAn I so)
  obtain ⟨O',so',dn'⟩:=JJ5 so sm hz dn
  exact ⟨v,_,I',r,k v _ O' so' dn'⟩
 | exc c =>
  rw [q] at k
  exact thn (he _ s σ _ (fun v H1=>False) J0 ⟨JAV x 0 δ,JAb so,by rw [<-hev,q];exact g.anti c _ _ ((JAk so).trans same_un) k⟩) fun u s1 ⟨v,H1,J,r,f⟩=>f.elim
 | bad=>rw [q] at k;exact k.elim
theorem JLK (g:Gk X B C CX XX G) {e:Expr} (he:PT X e (RT B C XX x)):PT X e (RTS X B C XX x):=by
 intro pins s σ H Q I ⟨δ,O,Hb,hb,so,k⟩
 have J0:=JBG (ps:=JBz x O δ.length s.heap) I (JAp (x:=x) hb so) JAv
 have hev:=(agree C x δ (JAV x 0 δ) JBS).2.1
 cases q:evT C x δ with
 | ok d =>
  rw [q] at k
  refine thn (he _ s σ _ (fun b H1=>b=d/\Same (hidP H (unP x O)) H1) J0 ⟨JAV x 0 δ,JAb so,by rw [<-hev,q];exact fun H1 s1=>⟨rfl,s1⟩⟩) fun u s1 ⟨H1,J,e,sm⟩=>?_
  subst e
  obtain ⟨I',hz⟩:=JAm I J (JAp hb so) (JAn I so)
  exact ⟨_,I',k _ (JC2 so sm hz)⟩
 | exc c =>
  rw [q] at k
  exact thn (he _ s σ _ (fun v H1=>False) J0 ⟨JAV x 0 δ,JAb so,by rw [<-hev,q];exact g.anti c _ _ ((JAk so).trans same_un) k⟩) fun u s1 ⟨H1,J,f⟩=>f.elim
 | bad=>rw [q] at k;exact k.elim
theorem JKp (g:Gk X B C CX XX G) {tg e:Expr} (he:PI X tg e (RI B C XX x)):PI X tg e (RIS X B C XX x):=by
 intro pins s σ H Q I ⟨δ,O,Hb,hb,so,k⟩
 have J0:=JBG (ps:=JBz x O δ.length s.heap) I (JAp (x:=x) hb so) JAv
 have hev:=(agree C x δ (JAV x 0 δ) JBS).2.2.2
 cases q:evI C x δ with
 | ok ds =>
  rw [q] at k
  refine thn (he _ s σ _ (fun Jt H1=>Same (hidP H (unP x O)) H1/\ItOk B Jt H1 ds) J0 ⟨JAV x 0 δ,JAb so,by rw [<-hev,q];exact fun Jt H1 s1 d1=>⟨s1,d1⟩⟩) fun u s1 h1=>thn h1 fun itv s2 h2=>?_
  obtain ⟨it,fp,tn,Jt,H1,e,J,T,st,f,sm,io⟩:=h2
  obtain ⟨I',hz⟩:=JAm I J (JAp hb so) (JAn I so)
  refine ⟨it,fp,tn,Jt,_,e,I',T,st,fun b hb=>?_,k Jt _ _ (JGV so sm hz) fun H2 s2 i=>⟨fun d e=>⟨((io H2 ((JAz hz).trans s2) i).1 d e).1,fun v H3 y=>(((io H2 ((JAz hz).trans s2) i).1 d e).2 v H3 y).imp (fun q=>⟨q.1,Den.mono (JAz hz) d v q.2⟩) fun ⟨p,xs,es,z1,z2,z3,z4,z5⟩=>⟨p,xs,es,z1,z2,z3,z4,DenL.mono (JAz hz) _ _ z5⟩⟩,(io H2 ((JAz hz).trans s2) i).2⟩⟩
  obtain ⟨f1,f2,f3,f4,f5,f6⟩:=f b hb
  refine ⟨?_,f2,f3,f4,f5,fun p hp=>f6 p ?_⟩
  ·rw [JAL fun hp=>by
    obtain ⟨o,hm,_⟩:=JAn I so b hp
    exact f6 (b,o) (q_r _ (q_r _ hm)) rfl]
   exact f1
  ·rcases List.mem_append.mp hp with z | z
   ·exact List.mem_append_left _ z
   ·exact q_r _ (List.mem_append_left _ z)
 | exc c =>
  rw [q] at k
  refine thn (he _ s σ _ (fun _ _=>False) J0 ⟨JAV x 0 δ,JAb so,by rw [<-hev,q];exact g.anti c _ _ ((JAk so).trans same_un) k⟩) fun u s1 h1=>thn h1 fun itv s2 h2=>?_
  obtain ⟨_,_,_,_,_,_,_,_,_,_,f⟩:=h2
  exact f.elim
 | bad=>rw [q] at k;exact k.elim
end
end VI
end
section
set_option maxRecDepth 100000
namespace VI
open PySem PySem.Spec PyProof.Rows L2
theorem same_hidP {H:Hp} {P:Addr->Prop}:Same (hidP H P) H:=fun b o e=>(JAu e).2
section
variable {X:Cx} {B:Bs} {C:Cn} {CX:CXT} {XX:Nat->Hp->Prop} {G:List (Str×GK)} {pins:List (Addr×Obj)} {σ:St} {H:Hp} {s:Shared} {δ:Env} {O:Ow} {x:E} {Hb Hb':Hp}
theorem SO.weak (so:SO B Hb' σ H δ O) (h:Same Hb Hb'):SO B Hb σ H δ O:=by
 refine ⟨so.len,h.trans so.same,so.inj,fun i=>?_⟩
 have q:=so.slot i
 cases e:δ[i]? with
 | none=>rw [e] at q;exact q
 | some t =>
  rw [e] at q
  cases t with
  | no=>exact q
  | val d=>exact q
  | own d =>
   simp only [JAK] at q ⊢
   obtain ⟨a,ds,xs,q1,q2,q3,q4,q5,q6⟩:=q
   exact ⟨a,ds,xs,q1,q2,q3,q4,h.free q5,q6⟩
theorem SO.base (so:SO B Hb σ H δ O):SO B (hid H O) σ H δ O:=by
 refine ⟨so.len,same_hidP,so.inj,fun i=>?_⟩
 have q:=so.slot i
 cases e:δ[i]? with
 | none=>rw [e] at q;exact q
 | some t =>
  rw [e] at q
  cases t with
  | no=>exact q
  | val d=>exact q
  | own d =>
   simp only [JAK] at q ⊢
   obtain ⟨a,ds,xs,q1,q2,q3,q4,q5,q6⟩:=q
   exact ⟨a,ds,xs,q1,q2,q3,q4,JA1 ⟨i,q1⟩,q6⟩
noncomputable def setO (O:Ow) (i:Nat) (a:Option Addr):Ow:=fun j=>if j=i then a else O j
theorem JAt {O:Ow} {i:Nat} {a:Option Addr}:setO O i a i=a:=if_pos rfl
theorem JAh {O:Ow} {i j:Nat} {a:Option Addr} (h:j≠i):setO O i a j=O j:=if_neg h
theorem JA0 {i:Nat}:Same (hid H O) (hid H (setO O i none)):=fun b o e=>by
 obtain ⟨h1,h2⟩:=JAu e
 rw [hid,JAG fun ⟨j,hj⟩=>h1 ⟨j,by
  by_cases hji:j=i
  ·subst hji;rw [JAt] at hj;cases hj
  ·rw [JAh hji] at hj;exact hj⟩]
 exact h2
theorem JHt (so:SO B Hb σ H δ O) {i:Nat} {d:D} {v:V} (dn:Den B (hid H O) d v):SO B Hb (σ.set i (some v)) H (δ.set i (.val d)) (setO O i none):=by
 refine ⟨by simpa using so.len,so.same,fun j k a h1 h2=>?_,fun j=>?_⟩
 ·by_cases hj:j=i
  ·subst hj;rw [JAt] at h1;cases h1
  ·by_cases hk:k=i
   ·subst hk;rw [JAt] at h2;cases h2
   ·rw [JAh hj] at h1;rw [JAh hk] at h2
    exact so.inj j k a h1 h2
 ·by_cases hj:j=i
  ·subst hj
   by_cases hl:j<δ.length
   ·rw [q_y hl]
    simp only [JAK]
    exact ⟨JAt,v,q_y (by rw [so.len];exact hl),Den.mono JA0 d v dn⟩
   ·rw [List.getElem?_eq_none_iff.mpr (by simpa using hl)]
    exact JAt
  ·rw [q_z (Ne.symm hj)]
   have q:=so.slot j
   cases e:δ[j]? with
   | none=>rw [e] at q;simp only [JAK] at q ⊢;rw [JAh hj];exact q
   | some t =>
    rw [e] at q
    cases t with
    | no=>simp only [JAK] at q ⊢;rw [JAh hj];exact q
    | val d' =>
     simp only [JAK] at q ⊢
     rw [JAh hj,q_z (Ne.symm hj)]
     obtain ⟨h0,w,e2,dn'⟩:=q
     exact ⟨h0,w,e2,Den.mono JA0 d' w dn'⟩
    | own d' =>
     simp only [JAK] at q ⊢
     rw [JAh hj,q_z (Ne.symm hj)]
     obtain ⟨a,ds,xs,q1,q2,q3,q4,q5,q6⟩:=q
     exact ⟨a,ds,xs,q1,q2,q3,q4,q5,DenL.mono JA0 ds xs q6⟩
theorem JES (so:SO B Hb σ H δ O) {Da:Addr} {o:HO} (hD:H Da=none):SO B Hb σ (upd H Da o) δ O:=by
 have own:∀j a,O j=some a->∃xs,H a=some (.lst xs):=fun j a h=>by
  have q:=so.slot j
  cases e:δ[j]? with
  | none=>rw [e] at q;simp only [JAK] at q;rw [h] at q;cases q
  | some t =>
   rw [e] at q
   cases t with
   | no=>simp only [JAK] at q;rw [h] at q;cases q
   | val d=>simp only [JAK] at q;rw [h] at q;cases q.1
   | own d =>
    simp only [JAK] at q
    obtain ⟨a',ds',xs',e1,e2,e3,e4,_⟩:=q
    rw [h] at e1;cases e1
    exact ⟨xs',e4⟩
 have s1:Same (hid H O) (hid (upd H Da o) O):=fun b u e=>by
  obtain ⟨h1,h2⟩:=JAu e
  have hb:b≠Da:=fun z=>by rw [z,hD] at h2;cases h2
  rw [hid,JAG h1,JAF hb]
  exact h2
 refine ⟨so.len,so.same.trans (JA7 hD),so.inj,fun j=>?_⟩
 have q:=so.slot j
 cases e:δ[j]? with
 | none=>rw [e] at q;exact q
 | some t =>
  rw [e] at q
  cases t with
  | no=>exact q
  | val d' =>
   simp only [JAK] at q ⊢
   obtain ⟨h0,w,e2,dn'⟩:=q
   exact ⟨h0,w,e2,Den.mono s1 d' w dn'⟩
  | own d' =>
   simp only [JAK] at q ⊢
   obtain ⟨a,ds',xs',q1,q2,q3,q4,q5,q6⟩:=q
   exact ⟨a,ds',xs',q1,q2,q3,by rw [JAF fun z=>by rw [z,hD] at q4;cases q4];exact q4,q5,DenL.mono s1 ds' xs' q6⟩
theorem JGe (so:SO B Hb σ H δ O) {i:Nat} (hil:i<δ.length) {Da:Addr} {ds:List D} {xs:List V} (hD:H Da=none) (dn:DenL B (hid H O) ds xs):SO B Hb (σ.set i (some (.ref Da))) (upd H Da (.lst xs)) (δ.set i (.own (.list ds))) (setO O i (some Da)):=by
 have nO:∀j a,O j=some a->a≠Da:=fun j a h z=>by
  subst z
  have q:=so.slot j
  cases e:δ[j]? with
  | none=>rw [e] at q;simp only [JAK] at q;rw [h] at q;cases q
  | some t =>
   rw [e] at q
   cases t with
   | no=>simp only [JAK] at q;rw [h] at q;cases q
   | val d=>simp only [JAK] at q;rw [h] at q;cases q.1
   | own d =>
    simp only [JAK] at q
    obtain ⟨a',ds',xs',e1,e2,e3,e4,_⟩:=q
    rw [h] at e1;cases e1
    rw [hD] at e4;cases e4
 have s1:Same (hid H O) (hid (upd H Da (.lst xs)) (setO O i (some Da))):=fun b o e=>by
  obtain ⟨h1,h2⟩:=JAu e
  have hb:b≠Da:=fun z=>by rw [z,hD] at h2;cases h2
  rw [hid,JAG fun ⟨j,hj⟩=>by
   by_cases hji:j=i
   ·subst hji;rw [JAt] at hj;exact hb (Option.some.inj hj).symm
   ·rw [JAh hji] at hj;exact h1 ⟨j,hj⟩,JAF hb]
  exact h2
 refine ⟨by simpa using so.len,so.same.trans (JA7 hD),fun j k a h1 h2=>?_,fun j=>?_⟩
 ·by_cases hj:j=i
  ·subst hj
   rw [JAt] at h1
   by_cases hk:k=j
   ·exact hk.symm
   ·rw [JAh hk] at h2
    exact absurd (Option.some.inj h1).symm (nO k a h2)
  ·by_cases hk:k=i
   ·subst hk;rw [JAt] at h2;rw [JAh hj] at h1
    exact absurd (Option.some.inj h2).symm (nO j a h1)
   ·rw [JAh hj] at h1;rw [JAh hk] at h2
    exact so.inj j k a h1 h2
 ·by_cases hj:j=i
  ·subst hj
   by_cases hl:j<δ.length
   ·rw [q_y hl]
    simp only [JAK]
    exact ⟨Da,ds,xs,JAt,rfl,q_y (by rw [so.len];exact hl),JAC,so.same.free hD,DenL.mono s1 ds xs dn⟩
   ·exact absurd hil hl
  ·rw [q_z (Ne.symm hj)]
   have q:=so.slot j
   cases e:δ[j]? with
   | none=>rw [e] at q;simp only [JAK] at q ⊢;rw [JAh hj];exact q
   | some t =>
    rw [e] at q
    cases t with
    | no=>simp only [JAK] at q ⊢;rw [JAh hj];exact q
    | val d' =>
     simp only [JAK] at q ⊢
     rw [JAh hj,q_z (Ne.symm hj)]
     obtain ⟨h0,w,e2,dn'⟩:=q
     exact ⟨h0,w,e2,Den.mono s1 d' w dn'⟩
    | own d' =>
     simp only [JAK] at q ⊢
     rw [JAh hj,q_z (Ne.symm hj)]
     obtain ⟨a,ds',xs',q1,q2,q3,q4,q5,q6⟩:=q
     exact ⟨a,ds',xs',q1,q2,q3,by rw [JAF (nO j a q1)];exact q4,q5,DenL.mono s1 ds' xs' q6⟩
theorem JEx (so:SO B Hb σ H δ O) {i:Nat} {Da:Addr} {ds:List D} {xs:List V} (hD:H Da=none) (dn:DenL B (hid H O) ds xs):∃O',SO B Hb (σ.set i (some (.ref Da))) (upd H Da (.lst xs)) (δ.set i (.own (.list ds))) O':=by
 by_cases hi:i<δ.length
 ·exact ⟨_,JGe so hi hD dn⟩
 ·rw [List.set_eq_of_length_le (l:=σ) (by rw [so.len];omega),List.set_eq_of_length_le (l:=δ) (by omega)]
  exact ⟨O,JES so hD⟩
theorem JGR (so:SO B Hb σ H δ O) {i:Nat} {a:Addr} {ds:List D} {xs:List V} (ha:O i=some a) (dn:DenL B (hid H O) ds xs):SO B Hb σ (upd H a (.lst xs)) (δ.set i (.own (.list ds))) O:=by
 have eh:hid (upd H a (.lst xs)) O=hid H O:=by
  funext b
  by_cases hb:ownP O b
  ·rw [hid,hid,JA1 hb,JA1 hb]
  ·rw [hid,hid,JAG hb,JAG hb,JAF fun z=>hb ⟨i,by rw [z];exact ha⟩]
 have own:=fun (j:Nat) (b:Addr) (h:O j=some b)=>so.inj i j
 have hq:=so.slot i
 obtain ⟨ds0,xs0,e1,e2,e3,e4⟩:∃ds0 xs0,δ[i]? = some (.own (.list ds0))/\σ[i]? = some (some (.ref a))/\H a=some (.lst xs0)/\Hb a=none:=by
  cases e:δ[i]? with
  | none=>rw [e] at hq;simp only [JAK] at hq;rw [ha] at hq;cases hq
  | some t =>
   rw [e] at hq
   cases t with
   | no=>simp only [JAK] at hq;rw [ha] at hq;cases hq
   | val d=>simp only [JAK] at hq;rw [ha] at hq;cases hq.1
   | own d =>
    simp only [JAK] at hq
    obtain ⟨a',ds',xs',f1,f2,f3,f4,f5,_⟩:=hq
    rw [ha] at f1;cases f1
    subst f2
    exact ⟨ds',xs',rfl,f3,f4,f5⟩
 refine ⟨by simpa using so.len,fun b o e=>?_,so.inj,fun j=>?_⟩
 ·rw [JAF fun z=>by rw [z,e4] at e;cases e]
  exact so.same b o e
 ·by_cases hj:j=i
  ·subst hj
   rw [q_y (q_p.mp e1).1]
   simp only [JAK]
   exact ⟨a,ds,xs,ha,rfl,e2,JAC,e4,by rw [eh];exact dn⟩
  ·rw [q_z (Ne.symm hj)]
   have q:=so.slot j
   cases e:δ[j]? with
   | none=>rw [e] at q;exact q
   | some t =>
    rw [e] at q
    cases t with
    | no=>exact q
    | val d' =>
     simp only [JAK] at q ⊢
     rw [eh];exact q
    | own d' =>
     simp only [JAK] at q ⊢
     obtain ⟨a',ds',xs',q1,q2,q3,q4,q5,q6⟩:=q
     refine ⟨a',ds',xs',q1,q2,q3,?_,q5,by rw [eh];exact q6⟩
     rw [JAF fun z=>hj (so.inj j i a (by rw [<-z];exact q1) ha)]
     exact q4
noncomputable def RSF (X:Cx) (B:Bs) (C:Cn) (XX:Nat->Hp->Prop) (x:E):TE:=fun σ H Q=>∃δ O Hb,Same X.H₀ Hb/\SO B Hb σ H δ O/\(match ev C x δ with
 | .ok d=>∀Da ds xs H1 O',d=.list ds->SO B Hb σ H1 (after x d δ) O'->H1 Da=none->DenL B (hid H1 O') ds xs->Q (.ref Da) (upd H1 Da (.lst xs))
 | .exc c=>XX c Hb
 | .bad=>False)
theorem JFg {H1:Hp} {P:Addr->Prop} {Da:Addr} {o:HO} (h:¬P Da):mixP H (upd H1 Da o) P=upd (mixP H H1 P) Da o:=by
 funext b
 by_cases hb:b=Da
 ·subst hb;rw [JAL h,JAC,JAC]
 ·rw [JAF hb]
  by_cases hp:P b
  ·rw [JBb hp,JBb hp]
  ·rw [JAL hp,JAL hp,JAF hb]
theorem JEa (so:SO B Hb σ H δ O) {H1:Hp} {ds:List D} {xs:List V} (sm:Same (hidP H (unP x O)) H1) (hz:∀a,unP x O a->H1 a=none) (dn:DenL B H1 ds xs) :
  ∃O',SO B Hb σ (mixP H H1 (unP x O)) (after x (.list ds) δ) O'/\DenL B (hid (mixP H H1 (unP x O)) O') ds xs:=by
 unfold after
 split
 ·exact ⟨_,JGV so sm hz,DenL.mono (JAz hz) ds xs dn⟩
 ·rename_i hb
  have hu:JAJ x 0 δ=false:=by
   cases q:JAJ x 0 δ with
   | false=>rfl
   | true=>rw [q] at hb;exact absurd (by simp [JAR]) hb
  refine ⟨O,JC2 so sm hz,DenL.mono (fun b o e=>?_) ds xs dn⟩
  have hb':¬unP x O b:=fun h=>by rw [hz b h] at e;cases e
  have hb2:¬ownP O b:=fun ⟨i,h⟩=>by
   obtain ⟨ds,xs,e1,_⟩:=so.own h
   refine hb' ⟨i,h,?_⟩
   cases q:x.uses i with
   | false=>rfl
   | true =>
    have:=JBU x δ 0 i _ hu e1 (by rw [Nat.zero_add];exact q)
    cases this
  rw [hid,JAG hb2,JAL hb']
  exact e
theorem JLe (g:Gk X B C CX XX G) {e:Expr} (he:PE X e (REF B C XX x)):PE X e (RSF X B C XX x):=by
 intro pins s σ H Q I ⟨δ,O,Hb,hb,so,k⟩
 have J0:=JBG (ps:=JBz x O δ.length s.heap) I (JAp (x:=x) hb so) JAv
 have hev:=(agree C x δ (JAV x 0 δ) JBS).1
 cases q:ev C x δ with
 | ok d =>
  rw [q] at k
  refine thn (he _ s σ _ (fun v H1=>∃Da ds xs H2,v=.ref Da/\H1=upd H2 Da (.lst xs)/\d=.list ds/\Same (hidP H (unP x O)) H2/\H2 Da=none/\DenL B H2 ds xs) J0
   ⟨JAV x 0 δ,JAb so,by rw [<-hev,q];exact fun Da ds xs H1 e s1 hD dn=>⟨Da,ds,xs,H1,rfl,rfl,e,s1,hD,dn⟩⟩) fun u s1 ⟨v,H1,J,r,Da,ds,xs,H2,e1,e2,e3,sm,hD,dn⟩=>?_
  subst e1;subst e2;subst e3
  obtain ⟨I',hz⟩:=JAm I J (JAp hb so) (JAn I so)
  have nD:¬unP x O Da:=fun h=>by have:=hz Da h;rw [JAC] at this;cases this
  have hz2:∀a,unP x O a->H2 a=none:=fun a h=>by
   have:=hz a h
   rwa [JAF fun z=>nD (by rw [<-z];exact h)] at this
  rw [JFg nD] at I'
  obtain ⟨O',so',dn'⟩:=JEa so sm hz2 dn
  exact ⟨_,_,I',r,k Da ds xs _ O' rfl so' (by rw [JAL nD];exact hD) dn'⟩
 | exc c =>
  rw [q] at k
  exact thn (he _ s σ _ (fun v H1=>False) J0 ⟨JAV x 0 δ,JAb so,by rw [<-hev,q];exact g.anti c _ _ ((JAk so).trans same_un) k⟩) fun u s1 ⟨v,H1,J,r,f⟩=>f.elim
 | bad=>rw [q] at k;exact k.elim
theorem JNu (g:Gk X B C CX XX G) {st:Stmt} {i:Nat} (he:PS X st (tAsg (REF B C XX x) (JEs i))):PS X st (tAsg (RSF X B C XX x) (JEs i)):=by
 intro pins s σ H D I h
 obtain ⟨δ,O,Hb,hb,so,k⟩:=h
 have J0:=JBG (ps:=JBz x O δ.length s.heap) I (JAp (x:=x) hb so) JAv
 have hev:=(agree C x δ (JAV x 0 δ) JBS).1
 cases q:ev C x δ with
 | ok d =>
  rw [q] at k
  refine thn (he _ s σ _ { nx:=fun σ' H1=>∃Da ds xs H2,σ'=σ.set i (some (.ref Da))/\H1=upd H2 Da (.lst xs)/\d=.list ds/\Same (hidP H (unP x O)) H2/\H2 Da=none/\DenL B H2 ds xs,rt:=fun _ _=>False } J0
   ⟨JAV x 0 δ,JAb so,by rw [<-hev,q];exact fun Da ds xs H1 e s1 hD dn=>⟨Da,ds,xs,H1,rfl,rfl,e,s1,hD,dn⟩⟩) fun f s1 hf=>?_
  cases f with
  | next =>
   obtain ⟨σ',H1,J,Da,ds,xs,H2,e1,e2,e3,sm,hD,dn⟩:=hf
   subst e1;subst e2;subst e3
   obtain ⟨I',hz⟩:=JAm I J (JAp hb so) (JAn I so)
   have nD:¬unP x O Da:=fun h=>by have:=hz Da h;rw [JAC] at this;cases this
   have hz2:∀a,unP x O a->H2 a=none:=fun a h=>by
    have:=hz a h
    rwa [JAF fun z=>nD (by rw [<-z];exact h)] at this
   rw [JFg nD] at I'
   obtain ⟨O',so',dn'⟩:=JEa so sm hz2 dn
   exact ⟨_,_,I',k Da ds xs _ O' rfl so' (by rw [JAL nD];exact hD) dn'⟩
  | ret v=>obtain ⟨_,_,_,_,_,f⟩:=hf;exact f.elim
  | brk=>obtain ⟨_,_,_,f⟩:=hf;exact False.elim f
  | cont=>obtain ⟨_,_,_,f⟩:=hf;exact False.elim f
 | exc c =>
  rw [q] at k
  refine thn (he _ s σ _ { nx:=fun _ _=>False,rt:=fun _ _=>False } J0 ⟨JAV x 0 δ,JAb so,by rw [<-hev,q];exact g.anti c _ _ ((JAk so).trans same_un) k⟩) fun f s1 hf=>?_
  cases f with
  | next=>obtain ⟨_,_,_,f⟩:=hf;exact f.elim
  | ret v=>obtain ⟨_,_,_,_,_,f⟩:=hf;exact f.elim
  | brk=>obtain ⟨_,_,_,f⟩:=hf;exact False.elim f
  | cont=>obtain ⟨_,_,_,f⟩:=hf;exact False.elim f
 | bad=>rw [q] at k;exact k.elim
end
end VI
end
section
set_option maxRecDepth 100000
namespace VI
open PySem PySem.Spec PyProof.Rows L2
section
variable {X:Cx} {B:Bs} {C:Cn} {CX:CXT} {XX:Nat->Hp->Prop} {G:List (Str×GK)} {x:E} {pos:Pos}
noncomputable def JCT (X:Cx) (B:Bs) (XX:Nat->Hp->Prop) (Hb:Hp) (D:Ends):Fl->Prop
 | .nx δ=>∀σ H O,SO B Hb σ H δ O->D.nx σ H
 | .rt d=>∀v H,Same Hb H->Den B H d v->D.rt v H
 | .bk δ=>∀σ H O,SO B Hb σ H δ O->D.bk σ H
 | .ct δ=>∀σ H O,SO B Hb σ H δ O->D.ct σ H
 | .ex c=>XX c Hb
 | .bad=>False
noncomputable def RSt (X:Cx) (B:Bs) (C:Cn) (XX:Nat->Hp->Prop) (t:S):TS:=fun D σ H=>∃δ O Hb,Same X.H₀ Hb/\SO B Hb σ H δ O/\JCT X B XX Hb D (exec C t δ)
theorem PS.imp {st:Stmt} {t t':TS} (h:PS X st t) (i:∀D σ H,t' D σ H->t D σ H):PS X st t':=fun pins s σ H D I q=>h pins s σ H D I (i D σ H q)
theorem PSs.imp {st:List Stmt} {t t':TS} (h:PSs X st t) (i:∀D σ H,t' D σ H->t D σ H):PSs X st t':=fun pins s σ H D I q=>h pins s σ H D I (i D σ H q)
theorem JQJ:PSs X [] (RSt X B C XX .nil):=PSs.imp JMP fun D σ H ⟨δ,O,Hb,hb,so,k⟩=>k σ H O so
theorem JLw {st:Stmt} {r:List Stmt} {a b:S} (h1:PS X st (RSt X B C XX a)) (h2:PSs X r (RSt X B C XX b)):PSs X (st::r) (RSt X B C XX (.cons a b)) :=
 PSs.imp (JJu h1 h2) fun D σ H ⟨δ,O,Hb,hb,so,k⟩=>by
  refine ⟨δ,O,Hb,hb,so,?_⟩
  simp only [exec] at k
  cases q:exec C a δ with
  | nx δ'=>rw [q] at k;exact fun σ' H' O' so'=>⟨δ',O',Hb,hb,so',k⟩
  | rt d=>rw [q] at k;exact k
  | bk d=>rw [q] at k;exact k
  | ct d=>rw [q] at k;exact k
  | ex c=>rw [q] at k;exact k
  | bad=>rw [q] at k;exact k
theorem JLv:PS X (.Pass pos) (RSt X B C XX .pass):=PS.imp JMT fun D σ H ⟨δ,O,Hb,hb,so,k⟩=>k σ H O so
theorem JPP:PS X (.Break pos) (RSt X B C XX .brk):=PS.imp JKG fun D σ H ⟨δ,O,Hb,hb,so,k⟩=>k σ H O so
theorem JQf:PS X (.Continue pos) (RSt X B C XX .cnt):=PS.imp JFQ fun D σ H ⟨δ,O,Hb,hb,so,k⟩=>k σ H O so
theorem JQS {y:Str} {j:Nat} {pos':Pos}:PS X (.Expr (.Constant (.str y) j pos) pos') (RSt X B C XX .pass):=PS.imp JQP fun D σ H ⟨δ,O,Hb,hb,so,k⟩=>k σ H O so
theorem JNd:PS X (.Return none pos) (RSt X B C XX .retN):=PS.imp JMZ fun D σ H ⟨δ,O,Hb,hb,so,k⟩=>k .non H so.same (by simp only [Den])
theorem JOo (g:Gk X B C CX XX G) {e:Expr} (he:PE X e (RE B C XX x)):PS X (.Return (some e) pos) (RSt X B C XX (.ret x)) :=
 PS.imp (JPG (JGj g he)) fun D σ H ⟨δ,O,Hb,hb,so,k⟩=>by
  refine ⟨δ,O,Hb,hb,so,?_⟩
  simp only [exec] at k
  cases q:ev C x δ with
  | ok d=>rw [q] at k;exact fun v H' O' so' dn=>k v H' so'.same (Den.mono same_hidP d v dn)
  | exc c=>rw [q] at k;exact k
  | bad=>rw [q] at k;exact k
theorem JPn (g:Gk X B C CX XX G) {c:Expr} {a b:List Stmt} {s1 s2:S} (hc:PT X c (RT B C XX x)) (ha:PSs X a (RSt X B C XX s1)) (hb:PSs X b (RSt X B C XX s2)):PS X (.If c a b pos) (RSt X B C XX (.ife x s1 s2)) :=
 PS.imp (ps_if (JLK g hc) ha hb) fun D σ H ⟨δ,O,Hb,hb,so,k⟩=>by
  refine ⟨δ,O,Hb,hb,so,?_⟩
  simp only [exec] at k
  cases q:evT C x δ with
  | ok t =>
   rw [q] at k
   intro H' so'
   cases t with
   | true=>exact iteT ⟨δ,O,Hb,hb,so',k⟩
   | false=>exact iteF ⟨δ,O,Hb,hb,so',k⟩
  | exc c=>rw [q] at k;exact k
  | bad=>rw [q] at k;exact k
theorem JMk (g:Gk X B C CX XX G) {e:Expr} (he:PE X e (RE B C XX x)) (hs:swapsWith e none pos.line X.env=pure false):PS X (.Expr e pos) (RSt X B C XX (.drop x)) :=
 PS.imp (JCp (JGj g he) hs) fun D σ H ⟨δ,O,Hb,hb,so,k⟩=>by
  refine ⟨δ,O,Hb,hb,so,?_⟩
  simp only [exec] at k
  cases q:ev C x δ with
  | ok d=>rw [q] at k;exact fun v H' O' so' dn=>k σ H' O' so'
  | exc c=>rw [q] at k;exact k
  | bad=>rw [q] at k;exact k
theorem JN7 (g:Gk X B C CX XX G) {e:Expr} {i:Nat} {nm:Str} {pos':Pos} (he:PE X e (RE B C XX x)) (hf:x.fresh=false) (hnd:X.N.Nodup) (hN:X.N[i]? = some nm) (hx:Loc X.env.scope nm) (hs:swapsWith e (some (.Name nm pos')) pos.line X.env=pure false)
  (hfn:X.fn nm=true\/X.env.scope.names.lookup nm=some .local):PS X (.Assign [.Name nm pos'] e pos) (RSt X B C XX (.asg i x)) :=
 PS.imp (JHw hnd hN hx (JGj g he) hs hfn) fun D σ H ⟨δ,O,Hb,hb,so,k⟩=>by
  refine ⟨δ,O,Hb,hb,so,?_⟩
  simp only [exec,hf,q_v,if_false] at k
  cases q:ev C x δ with
  | ok d=>rw [q] at k;exact fun v H' O' so' dn=>k _ H' _ (JHt so' dn)
  | exc c=>rw [q] at k;exact k
  | bad=>rw [q] at k;exact k
theorem JEV {i:Nat} (hf:x.fresh=true) {D:Ends} {σ:St} {H:Hp} (h:RSt X B C XX (.asg i x) D σ H):tAsg (RSF X B C XX x) (JEs i) D σ H:=by
 obtain ⟨δ,O,Hb,hb,so,k⟩:=h
 refine ⟨δ,O,Hb,hb,so,?_⟩
 simp only [exec,hf,if_true] at k
 cases q:ev C x δ with
 | ok d =>
  rw [q] at k
  intro Da ds xs H1 O' e so' hD dn
  subst e
  obtain ⟨O2,so2⟩:=JEx (i:=i) so' hD dn
  exact k _ _ O2 so2
 | exc c=>rw [q] at k;exact k
 | bad=>rw [q] at k;exact k
theorem JIs (g:Gk X B C CX XX G) {e:Expr} {i:Nat} {nm:Str} {pos':Pos} (he:PE X e (REF B C XX x)) (hf:x.fresh=true) (hnd:X.N.Nodup) (hN:X.N[i]? = some nm) (hx:Loc X.env.scope nm) (hs:swapsWith e (some (.Name nm pos')) pos.line X.env=pure false)
  (hfn:X.fn nm=true\/X.env.scope.names.lookup nm=some .local):PS X (.Assign [.Name nm pos'] e pos) (RSt X B C XX (.asg i x)) :=
 PS.imp (JHw hnd hN hx (JLe g he) hs hfn) fun D σ H h=>JEV hf h
theorem JMV (g:Gk X B C CX XX G) {st:Stmt} {i:Nat} (h:PS X st (tAsg (REF B C XX x) (JEs i))) (hf:x.fresh=true):PS X st (RSt X B C XX (.asg i x)) :=
 PS.imp (JNu g h) fun D σ H h=>JEV hf h
theorem JPF (g:Gk X B C CX XX G) (hp:PassesOwn (model X.prog X.w) X.A X.env X.xe) {c:Expr} {body:List Stmt} {b:S} (hc:PT X c (RT B C XX x)) (hb:PSs X body (RSt X B C XX b)):PS X (.While c body [] pos) (RSt X B C XX (.whl x b)) :=
 PS.imp (JKK hp (JLK g hc) hb) fun D σ H ⟨δ,O,Hb,hb0,so,k⟩=>by
  simp only [exec] at k
  unfold JBV at k
  split at k
  ·rename_i hex
   refine ⟨fun m σ H=>∃δ O,SO B Hb σ H δ O/\JCT X B XX Hb D (JAc (evT C x) (exec C b) m δ),⟨hex.choose,δ,O,so,k⟩,?_⟩
   rintro m σ H ⟨δ,O,so,k⟩
   cases m with
   | zero=>exact False.elim k
   | succ m =>
    refine ⟨δ,O,Hb,hb0,so,?_⟩
    simp only [JAc] at k
    cases q:evT C x δ with
    | ok t =>
     rw [q] at k
     intro H' so'
     cases t with
     | true =>
      refine iteT ⟨fun σ' H'=>∃δ O,SO B Hb σ' H' δ O/\JCT X B XX Hb D (JAc (evT C x) (exec C b) m δ),fun σ' H' h=>⟨m,Nat.lt_succ_self m,h⟩,δ,O,Hb,hb0,so',?_⟩
      simp only at k
      cases q2:exec C b δ with
      | nx δ'=>rw [q2] at k;exact fun σ2 H2 O2 so2=>⟨δ',O2,so2,k⟩
      | ct δ'=>rw [q2] at k;exact fun σ2 H2 O2 so2=>⟨δ',O2,so2,k⟩
      | bk δ'=>rw [q2] at k;exact k
      | rt d=>rw [q2] at k;exact k
      | ex c=>rw [q2] at k;exact k
      | bad=>rw [q2] at k;exact k
     | false=>exact iteF (k σ H' O so')
    | exc c=>rw [q] at k;exact k
    | bad=>rw [q] at k;exact k
  ·exact False.elim k
theorem JLQ (g:Gk X B C CX XX G) {put:D->Env->Option Env} {gt:TG} {tb:TS} {b:S} {De:Ends} {σ:St} {H1:Hp} {J:It} {ds:List D} {δ:Env} {O:Ow} {Hb:Hp} (hb:Same X.H₀ Hb) (so:SO B Hb σ H1 δ O) (io:ItOk B J (hid H1 O) ds)
  (hput:∀(d:D) (v:V) (σ:St) (H:Hp) (δ δ':Env) (O:Ow) (Hb':Hp) (Q:St->Hp->Prop),SO B Hb' σ H δ O->Den B (hid H O) d v->put d δ=some δ'->(∀σ' O',SO B Hb' σ' H δ' O'->Q σ' H)->gt v σ H Q)
  (htb:∀De σ H,RSt X B C XX b De σ H->tb De σ H) (k:JCT X B XX Hb De (forL put (exec C b) ds δ)) :
  ∃W:Nat->Nat->St->Hp->Prop,(∃m,W 0 m σ H1)/\∀i m σ H,W i m σ H->(J.stop i H/\De.nx σ H)\/(J.go i H/\∃N:St->Hp->Prop,(∀σ' H',N σ' H'->∃m',m'<m/\W (i+1) m' σ' H')/\∀x H',J.yld i H x H'->gt x σ H' fun σ2 H2=>tb { De with nx:=N,ct:=N,bk:=De.nx } σ2 H2):=by
 have hb1:Same Hb (hid H1 O):=JAk so
 refine ⟨fun i m σ H=>m=ds.length - i/\i<=ds.length/\∃δ O',SO B (hid H1 O) σ H δ O'/\JCT X B XX Hb De (forL put (exec C b) (ds.drop i) δ),⟨ds.length,by simp,Nat.zero_le _,δ,O,so.base,by simpa using k⟩,?_⟩
 rintro i m σ H ⟨rfl,hi,δ2,O2,so2,k2⟩
 by_cases hlt:i<ds.length
 ·right
  have hd:ds[i]? = some ds[i]:=by simp [hlt]
  obtain ⟨go,yl⟩:=(io H so2.same i).1 ds[i] hd
  refine ⟨go,fun σ' H'=>∃δ O',SO B (hid H1 O) σ' H' δ O'/\JCT X B XX Hb De (forL put (exec C b) (ds.drop (i+1)) δ),fun σ' H' ⟨δ3,O3,so3,k3⟩=>⟨ds.length - (i+1),by omega,rfl,hlt,δ3,O3,so3,k3⟩,fun v H' y=>?_⟩
  obtain ⟨so3',dn2⟩:SO B (hid H1 O) σ H' δ2 O2/\Den B (hid H' O2) ds[i] v:=by
    rcases yl v H' y with ⟨e,dn⟩ | ⟨p,xs,es,hp,e,ex,ed,dl⟩
    ·subst e;exact ⟨so2,Den.mono (JAk so2) _ v dn⟩
    ·subst e;subst ex
     have s3:=JES so2 (o:=.tup xs) hp
     refine ⟨s3,?_⟩
     rw [ed]
     simp only [Den]
     refine ⟨p,xs,rfl,SqT.of ?_,DenL.mono (JAk s3) _ _ dl⟩
     rw [hid,JAG fun ⟨j,hj⟩=>by obtain ⟨_,_,_,_,e5,_⟩:=so2.own hj;rw [hp] at e5;cases e5]
     exact JAC
  rw [JEW hlt] at k2
  unfold forL at k2
  cases qp:put ds[i] δ2 with
  | none=>rw [qp] at k2;exact False.elim k2
  | some δ3 =>
    rw [qp] at k2
    refine hput ds[i] v σ H' δ2 δ3 O2 _ _ so3' dn2 qp fun σ3 O3 so3=>?_
    refine htb _ _ _ ⟨δ3,O3,_,hb.trans hb1,so3,?_⟩
    simp only at k2
    cases q2:exec C b δ3 with
    | nx δ'=>rw [q2] at k2;exact fun σ4 H4 O4 so4=>⟨δ',O4,so4,k2⟩
    | ct δ'=>rw [q2] at k2;exact fun σ4 H4 O4 so4=>⟨δ',O4,so4,k2⟩
    | bk δ'=>rw [q2] at k2;exact fun σ4 H4 O4 so4=>k2 σ4 H4 O4 (so4.weak hb1)
    | rt d=>rw [q2] at k2;exact fun v4 H4 s4 d4=>k2 v4 H4 (hb1.trans s4) d4
    | ex c=>rw [q2] at k2;exact g.anti c Hb _ hb1 k2
    | bad=>rw [q2] at k2;exact k2
 ·left
  have ei:i=ds.length:=by omega
  refine ⟨(io H so2.same i).2 (by omega),?_⟩
  rw [ei,List.drop_length] at k2
  exact k2 σ H O2 (so2.weak hb1)
theorem JMR (g:Gk X B C CX XX G) (hp:PassesOwn (model X.prog X.w) X.A X.env X.xe) {iter:Expr} {body:List Stmt} {b:S} {i:Nat} {nm:Str} {pos':Pos} (hi:PI X (.Name nm pos') iter (RI B C XX x)) (hb:PSs X body (RSt X B C XX b)) (hnd:X.N.Nodup) (hN:X.N[i]? = some nm) (hx:Loc X.env.scope nm)
  (hfn:X.fn nm=true\/X.env.scope.names.lookup nm=some .local) (hs:∀v,foldedSetIterable iter X.env v=pure v):PS X (.For (.Name nm pos') iter body [] pos) (RSt X B C XX (.for1 i x b)) :=
 PS.imp (JKS hp g.calm (JKp g hi) (JDb hnd hN hx hfn) hb hs) fun De σ H ⟨δ,O,Hb,hb0,so,k⟩=>by
  refine ⟨δ,O,Hb,hb0,so,?_⟩
  simp only [exec] at k
  cases q:evI C x δ with
  | ok ds =>
    rw [q] at k
    intro J H' O' so' io
    refine JLQ g hb0 so' io (put:=put1 i) (fun d v σ H δ δ' O Hb' Q so dn e h=>?_) (fun _ _ _ h=>h) k
    have e':δ.set i (.val d)=δ':=Option.some.inj e
    subst e'
    exact h _ _ (JHt so dn)
  | exc c=>rw [q] at k;exact k
  | bad=>rw [q] at k;exact k
end
end VI
end
section
set_option maxRecDepth 100000
namespace VI
open PySem PySem.Spec PyProof.Rows L2
section
variable {prog:Program} {w:World} {A:Around} {E:Value->Shared->Prop}
theorem JFC {it t:Addr} {items:Array Value} (hne:t≠it):∀(n i:Nat) (s:Shared) (Q:List Value->Shared->Prop),s.heap.IsListIter it t i->s.heap.IsList t items->i+n<=items.size ->
  (∀h':Heap,h'.IsListIter it t (i+n)->Heap.SameBut it s.heap h'->Q ((items.toList.drop i).take n) { s with heap:=h' })->wpAny (model prog w) A (draw (.ref it) n) Q E s
 | 0,i,s,Q,hit,_,_,hQ=>by
  show wpAny _ _ (pure []) Q E s
  exact q_e (by simpa using hQ s.heap hit (Heap.SameBut.refl ..))
 | n+1,i,s,Q,hit,ht,hle,hQ=>by
  have hlt:i<items.size:=by omega
  show wpAny _ _ (pyNext (.ref it) >>= _) Q E s
  refine q_b (wpAny_pyNext_list_item hit ht (x:=items[i]) (by simp [hlt]) fun h₁ hit₁ hs₁=>?_)
  refine q_b (wpAny_holding (JFC hne n (i+1) _ _ hit₁ (ht.extBut hs₁.extBut hne) (by omega) fun h₂ hit₂ hs₂=>q_e ?_))
  have hd:items.toList.drop i=items[i]::items.toList.drop (i+1):=by simp [List.drop_eq_getElem_cons,hlt]
  have:=hQ h₂ (by rw [show i+(n+1)=i+1+n by omega];exact hit₂) (hs₁.trans hs₂)
  rw [hd,List.take_succ_cons] at this
  exact this
theorem JCD {s:Shared} {env:PySem.Env} {elts:List Expr} {x1:Nat} {pos:Pos} {t:Addr} {items:Array Value} {Q:Unit->Shared->Prop} (hh:A.handled=none) (ht:s.heap.IsList t items)
  (hn:(assignEach elts env).length=items.size) (hstar:(assignEach elts env).findIdx? (·.1)=none)
  (h:∀h',Heap.ExtBut s.heap.objs.size s.heap h'->wpAny (model prog w) A (assignInOrder ((assignEach elts env).map (·.2)) items.toList) Q E { s with heap:=h' }) :
  wpAny (model prog w) A (assign (.Tuple elts x1 pos) env (.ref t)) Q E s:=by
 have hlt:t≠s.heap.objs.size:=by obtain ⟨o,ho,_⟩:=ht;exact q_l (q_h ho)
 rw [assign_Tuple]
 refine q_b (wpAny_standAt ?_)
 unfold unpack
 rw [hn,hstar]
 refine q_b (wpAny_holding ?_)
 unfold unpackItems
 refine q_b ?_
 unfold notIterableAtAll
 refine q_b (wpAny_specialOf ht.typeIs slot_list_iter.lookup ?_)
 refine q_e ?_
 simp only [q_v,if_false]
 refine q_b (wpAny_holding (wpAny_pyIter_list ht ?_))
 refine q_b (wpAny_holding (JFC hlt items.size 0 _ _ ⟨_,q_k _ rfl,rfl,rfl⟩ (ht.extBut (fun b o _ e=>q_c _ e) (q_l (q_D (by obtain ⟨o,ho,_⟩:=ht;exact q_h ho)))) (by omega) fun h₁ hit₁ hs₁=>?_))
 have hall:List.take items.size (List.drop 0 items.toList)=items.toList:=by
  rw [List.drop_zero];exact List.take_of_length_le (by simp)
 rw [hall]
 rw [if_neg (by simp)]
 have ht1:h₁.IsList t items:=by
  refine Heap.IsList.extBut ?_ hs₁.extBut hlt
  exact ht.extBut (fun b o _ e=>q_c _ e) hlt
 refine q_b (wpAny_holding (wpAny_pyNext_list_end hh hit₁ ht1 (by simp) fun h₂ he₂=>?_))
 simp only [Option.isSome_none,q_v,if_false]
 refine q_e (h h₂ fun b o hb e=>he₂ b o hb (hs₁.extBut b o hb (q_c _ e)))
end
noncomputable def setV:List Nat->List V->St->St
 | i::is,v::vs,σ=>setV is vs (σ.set i (some v))
 | _,_,σ=>σ
section
variable {X:Cx} {B:Bs} {C:Cn} {CX:CXT} {XX:Nat->Hp->Prop} {G:List (Str×GK)} {x:E} {pos:Pos} {names:List (Str×NameKind)} {N:List Str}
theorem JEP {nm:Str} (hn:X.env.scope.names=names) (h:JDk (names.lookup nm)=true):L2.Loc X.env.scope nm:=by
 unfold L2.Loc
 rw [hn]
 cases q:names.lookup nm with
 | none=>rw [q] at h;cases h
 | some k=>cases k<;>simp_all [JDk]
theorem slot_of {nm:Str} {i:Nat} (hn:X.env.scope.names=names) (hN:X.N=N) (h:slot names N nm=some i):X.N[i]? = some nm/\L2.Loc X.env.scope nm:=by
 unfold slot at h
 split at h
 ·rename_i hb
  exact ⟨by rw [hN];exact JCu h,JEP hn hb⟩
 ·cases h
theorem JBK {e:Expr} {r:List Expr} {is:List Nat} (h:slots names N (e::r)=some is):∃nm p i js,e=.Name nm p/\slot names N nm=some i/\slots names N r=some js/\is=i::js:=by
 unfold slots at h
 split at h
 ·rename_i q;cases q
 ·rename_i q
  cases q
  obtain ⟨i,h1,h⟩:=q_a.mp h
  obtain ⟨js,h2,h⟩:=q_a.mp h
  cases h
  exact ⟨_,_,i,js,rfl,h1,h2,rfl⟩
 ·cases h
theorem JBc {env:PySem.Env}:∀ {ts:List Expr} {is:List Nat},slots names N ts=some is->(assignEach ts env).findIdx? (·.1)=none/\(assignEach ts env).length=is.length
 | [],is,h=>by unfold slots at h;cases h;exact ⟨rfl,rfl⟩
 | e::r,is,h=>by
  obtain ⟨nm,p,i,js,rfl,h1,h2,rfl⟩:=JBK h
  obtain ⟨q1,q2⟩:=JBc (env:=env) h2
  refine ⟨?_,by show (assignEach r env).length+1=_;rw [q2];rfl⟩
  show List.findIdx? (·.1) ((false,assign (.Name nm p) env)::assignEach r env)=none
  rw [List.findIdx?_cons]
  simp [q1]
theorem JB1 (hn:X.env.scope.names=names) (hN:X.N=N) (hnd:N.Nodup) (hfn:∀nm,X.fn nm=true\/X.env.scope.names.lookup nm≠some .cell):∀ {ts:List Expr} {is:List Nat},slots names N ts=some is->PGs X ts (fun vs σ H Q=>vs.length=is.length/\Q (setV is vs σ) H)
 | [],is,h=>by
  unfold slots at h;cases h
  intro pins s σ H vs us Q I r ⟨e,q⟩
  refine JHG pins s σ H vs us Q I r ⟨q_A.mp e,?_⟩
  cases vs<;>exact q
 | e::r,is,h=>by
  obtain ⟨nm,p,i,js,rfl,h1,h2,rfl⟩:=JBK h
  obtain ⟨q1,q2⟩:=slot_of hn hN h1
  have hf:X.fn nm=true\/X.env.scope.names.lookup nm=some .local:=by
   rcases hfn nm with z | z
   ·exact .inl z
   ·rcases q2 with k | k
    ·exact .inr k
    ·exact absurd k z
  intro pins s σ H vs us Q I rv ⟨e,q⟩
  refine JFy (JDb (by rw [hN];exact hnd) q1 q2 hf) (JB1 hn hN hnd hfn h2) rfl pins s σ H vs us Q I rv ?_
  match vs,e,q with
  | v::vr,e,q=>exact ⟨v,vr,rfl,by simpa using e,q⟩
theorem JKX (g:Gk X B C CX XX G) {es:List Expr} {k n:Nat} {t:TGs} (h:PGs X es t) (hn:(assignEach es X.env).length=n) (hst:(assignEach es X.env).findIdx? (·.1)=none) :
  PG X (.Tuple es k pos) (fun v σ H Q=>∃a xs,v=.ref a/\(SqT X.K H a xs\/SqL X.K H a xs)/\xs.length=n/\t xs σ H Q):=by
 intro pins s σ H v u Q I r ⟨a,xs,e1,hq,hl,hw⟩
 rcases hq with hq | hq
 ·exact JHP g.calm h hn hst pins s σ H v u Q I r ⟨a,xs,e1,hq,hl,hw⟩
 ·subst e1
  cases r
  obtain ⟨its,rv,⟨o,m,ho,hc,hd,hs⟩,hz⟩:=I.list hq
  refine JCD (I.ok.hd g.calm) (items:=its.toArray) ⟨o,ho,hc,m,hs⟩ (by simp [hn,<-hl,rv.length]) hst fun h' hx=>?_
  have I1:Inv X pins σ H { s with heap:=h' }:=I.kept (t':=s.toks) fun b o e=>hx b o (q_l (q_h e)) e
  exact h pins _ σ H xs _ Q I1 (by simpa using rv) hw
theorem JBM:∀(is:List Nat) (ds:List D) (vs:List V) {Hb:Hp} {σ:St} {H:Hp} {δ:Env} {O:Ow},SO B Hb σ H δ O->DenL B (hid H O) ds vs->∃O',SO B Hb (setV is vs σ) H (JBB is ds δ) O'
 | [],ds,vs,_,_,_,_,O,so,dn=>by cases ds<;>cases vs<;>exact ⟨O,so⟩
 | i::is,[],vs,_,_,_,_,O,so,dn=>by
  simp only [DenL] at dn;subst dn
  exact ⟨O,so⟩
 | i::is,d::ds,vs,_,_,_,_,O,so,dn=>by
  simp only [DenL] at dn
  obtain ⟨v,r,e,q,l⟩:=dn
  subst e
  exact JBM is ds r (JHt (i:=i) so q) (DenL.mono JA0 ds r l)
theorem JFI {n c:Nat} {d:D}:JAd n d≠.exc c:=by
 cases d<;>simp only [JAd]<;>(try split)<;>(intro h;cases h)
theorem JQK (g:Gk X B C CX XX G) {e:Expr} {ts:List Expr} {is:List Nat} {k:Nat} {pt:Pos} (he:PE X e (RE B C XX x)) (hn:X.env.scope.names=names) (hN:X.N=N) (hnd:N.Nodup) (hfn:∀nm,X.fn nm=true\/X.env.scope.names.lookup nm≠some .cell)
  (h:slots names N ts=some is) (hs:swapsWithSole [.Tuple ts k pt] e pos.line X.env=pure false) (hw:swappedStores [.Tuple ts k pt] e X.env=pure none):PS X (.Assign [.Tuple ts k pt] e pos) (RSt X B C XX (.unp is x)):=by
 obtain ⟨q1,q2⟩:=JBc (env:=X.env) h
 refine PS.imp (JLO (JGj g he) (JKX g (JB1 hn hN hnd hfn h) q2 q1) hs hw rfl) fun De σ H ⟨δ,O,Hb,hb,so,kk⟩=>?_
 refine ⟨δ,O,Hb,hb,so,?_⟩
 simp only [exec] at kk
 cases q:ev C x δ with
 | ok d =>
  rw [q] at kk
  intro v H' O' so' dn
  have kk:JCT X B XX Hb De (stepR (JAd is.length d) fun xs=>Fl.nx (JBB is xs (after x d δ))):=kk
  cases qu:JAd is.length d with
  | ok ds =>
    rw [qu] at kk
    have hl:ds.length=is.length/\∃a xs,v=.ref a/\(SqT X.K H' a xs\/SqL X.K H' a xs)/\DenL B (hid H' O') ds xs:=by
     cases d with
     | tuple ys =>
      simp only [JAd] at qu
      split at qu
      ·rename_i hy
       cases qu
       simp only [Den] at dn
       obtain ⟨a,xs,e1,e2,e3⟩:=dn
       exact ⟨hy,a,xs,e1,.inl (JIz same_hidP (g.K▸e2)),e3⟩
      ·cases qu
     | list ys =>
      simp only [JAd] at qu
      split at qu
      ·rename_i hy
       cases qu
       simp only [Den] at dn
       obtain ⟨a,xs,e1,e2,e3⟩:=dn
       exact ⟨hy,a,xs,e1,.inr (same_hidP.seq (g.K▸e2)),e3⟩
      ·cases qu
     | _=>simp only [JAd] at qu;cases qu
    obtain ⟨hl1,a,xs,e1,e2,e3⟩:=hl
    have hlx:=DenL.len ds xs e3
    obtain ⟨O2,so2⟩:=JBM is ds xs so' e3
    exact ⟨a,xs,e1,e2,by omega,by omega,kk _ _ O2 so2⟩
  | exc c=>exact (JFI qu).elim
  | bad=>rw [qu] at kk;exact kk.elim
 | exc c=>rw [q] at kk;exact kk
 | bad=>rw [q] at kk;exact kk
theorem JG7 (g:Gk X B C CX XX G) (hp:PassesOwn (model X.prog X.w) X.A X.env X.xe) {iter:Expr} {body:List Stmt} {b:S} {ts:List Expr} {is:List Nat} {k:Nat} {pt:Pos} (hi:PI X (.Tuple ts k pt) iter (RI B C XX x)) (hb:PSs X body (RSt X B C XX b)) (hn:X.env.scope.names=names) (hN:X.N=N) (hnd:N.Nodup) (hfn:∀nm,X.fn nm=true\/X.env.scope.names.lookup nm≠some .cell)
  (h:slots names N ts=some is) (hs:∀v,foldedSetIterable iter X.env v=pure v):PS X (.For (.Tuple ts k pt) iter body [] pos) (RSt X B C XX (.forT is x b)):=by
 obtain ⟨q1,q2⟩:=JBc (env:=X.env) h
 refine PS.imp (JKS hp g.calm (JKp g hi) (JKX g (JB1 hn hN hnd hfn h) q2 q1) hb hs) fun De σ H ⟨δ,O,Hb,hb0,so,kk⟩=>?_
 refine ⟨δ,O,Hb,hb0,so,?_⟩
 simp only [exec] at kk
 cases q:evI C x δ with
 | ok ds =>
  rw [q] at kk
  intro J H' O' so' io
  refine JLQ g hb0 so' io (put:=putT is) (gt:=fun v σ H Q=>∃a xs,v=.ref a/\(SqT X.K H a xs\/SqL X.K H a xs)/\xs.length=is.length/\(xs.length=is.length/\Q (setV is xs σ) H)) (fun d v σ H δ δ' O Hb' Q so dn e h=>?_) (fun _ _ _ h=>h) kk
  cases d with
  | tuple ys =>
    simp only [putT] at e
    split at e
    ·rename_i hy
     cases e
     simp only [Den] at dn
     obtain ⟨a,xs,e1,e2,e3⟩:=dn
     have hlx:=DenL.len ys xs e3
     obtain ⟨O2,so2⟩:=JBM is ys xs so e3
     exact ⟨a,xs,e1,.inl (JIz same_hidP (g.K▸e2)),by omega,by omega,h _ O2 so2⟩
    ·cases e
  | _=>simp only [putT] at e;cases e
 | exc c=>rw [q] at kk;exact kk
 | bad=>rw [q] at kk;exact kk
noncomputable def RAS (X:Cx) (B:Bs) (C:Cn) (XX:Nat->Hp->Prop) (x:E):TA:=fun σ H Q=>∃δ O Hb,Same X.H₀ Hb/\SO B Hb σ H δ O/\(match evA C x δ with
 | .ok ds=>∀vs H' O',SO B Hb σ H' (after (.tup x) (.tuple ds) δ) O'->DenL B (hid H' O') ds vs->Q vs H'
 | .exc c=>XX c Hb
 | .bad=>False)
theorem JEg {Hb:Hp} {σ:St} {H:Hp} {δ:Env} {O:Ow} (so:SO B Hb σ H δ O) {H1:Hp} {ds:List D} {vs:List V} (sm:Same (hidP H (unP x O)) H1) (hz:∀a,unP x O a->H1 a=none) (dn:DenL B H1 ds vs) :
  ∃O',SO B Hb σ (mixP H H1 (unP x O)) (after x (.tuple ds) δ) O'/\DenL B (hid (mixP H H1 (unP x O)) O') ds vs:=by
 unfold after
 split
 ·exact ⟨_,JGV so sm hz,DenL.mono (JAz hz) ds vs dn⟩
 ·rename_i hb
  refine ⟨O,JC2 so sm hz,?_⟩
  cases hu:JAJ x 0 δ with
  | false =>
   refine DenL.mono (fun b o e=>?_) ds vs dn
   have hb':¬unP x O b:=fun h=>by rw [hz b h] at e;cases e
   have hb2:¬ownP O b:=fun ⟨i,h⟩=>by
    obtain ⟨ds,xs,e1,_⟩:=so.own h
    refine hb' ⟨i,h,?_⟩
    cases q:x.uses i with
    | false=>rfl
    | true =>
     have:=JBU x δ 0 i _ hu e1 (by rw [Nat.zero_add];exact q)
     cases this
   rw [hid,JAG hb2,JAL hb']
   exact e
  | true =>
   have hl:JBv ds=true:=by
    rw [hu] at hb
    cases q:JBv ds with
    | true=>rfl
    | false=>exact absurd (by simp [JAR,q]) hb
   refine JBs (fun b o e ho=>?_) ds vs hl dn
   have hb':¬unP x O b:=fun h=>by rw [hz b h] at e;cases e
   have hb2:¬ownP O b:=fun ⟨i,h⟩=>by
    obtain ⟨ds,xs,_,_,e4,_⟩:=so.own h
    have:=sm b _ (by rw [JAG hb'];exact e4)
    rw [e] at this
    exact ho xs (Option.some.inj this)
   rw [hid,JAG hb2,JAL hb']
   exact e
theorem JI5 {es:E} {j:Nat}:(E.tup es).uses j=es.uses j:=rfl
theorem JBR:∀(δ:Env) (k:Nat),JAJ (.tup x) k δ=JAJ x k δ
 | [],_=>rfl
 | s::r,k=>by simp only [JAJ,JI5,JBR r]
theorem JCb:∀(δ:Env) (k:Nat),JAg (.tup x) k δ=JAg x k δ
 | [],_=>rfl
 | s::r,k=>by simp only [JAg,JCb r];rfl
theorem JHT (g:Gk X B C CX XX G) {es:List Expr} (he:PA X es (RA B C XX x)):PA X es (RAS X B C XX x):=by
 intro pos pins s σ H Q I ⟨δ,O,Hb,hb,so,k⟩
 have J0:=JBG (ps:=JBz x O δ.length s.heap) I (JAp (x:=x) hb so) JAv
 have hev:=(agree C x δ (JAV x 0 δ) JBS).2.2.1
 cases q:evA C x δ with
 | ok ds =>
  rw [q] at k
  refine thn (he pos _ s σ _ (fun vs H1=>Same (hidP H (unP x O)) H1/\DenL B H1 ds vs) J0 ⟨JAV x 0 δ,JAb so,by rw [<-hev,q];exact fun v H1 s1 d1=>⟨s1,d1⟩⟩) fun u s1 ⟨vs,H1,J,r,sm,dn⟩=>?_
  obtain ⟨I',hz⟩:=JAm I J (JAp hb so) (JAn I so)
  obtain ⟨O',so',dn'⟩:=JEg so sm hz dn
  refine ⟨vs,_,I',r,k vs _ O' ?_ dn'⟩
  have:after (.tup x) (.tuple ds) δ=after x (.tuple ds) δ:=by unfold after;rw [JBR,JCb]
  rw [this];exact so'
 | exc c =>
  rw [q] at k
  exact thn (he pos _ s σ _ (fun v H1=>False) J0 ⟨JAV x 0 δ,JAb so,by rw [<-hev,q];exact g.anti c _ _ ((JAk so).trans same_un) k⟩) fun u s1 ⟨v,H1,J,r,f⟩=>f.elim
 | bad=>rw [q] at k;exact k.elim
theorem JOQ (g:Gk X B C CX XX G) {a b:Expr} {i j:Nat} {nx ny:Str} {px py pt pt2:Pos} {kt k2:Nat} (ha:PA X [a,b] (RA B C XX x)) (hnd:X.N.Nodup) (hi:X.N[i]? = some nx) (hj:X.N[j]? = some ny) (hij:i≠j)
  (hx:X.env.scope.names.lookup nx=some .local) (hy:X.env.scope.names.lookup ny=some .local)
  (hw:swappedStores [.Tuple [.Name nx px,.Name ny py] kt pt] (.Tuple [a,b] k2 pt2) X.env=pure (some [nx,ny])):PS X (.Assign [.Tuple [.Name nx px,.Name ny py] kt pt] (.Tuple [a,b] k2 pt2) pos) (RSt X B C XX (.unp [i,j] (.tup x))) :=
 PS.imp (JQe g.calm hnd hi hj hij hx hy (JHT g ha) hw) fun De σ H ⟨δ,O,Hb,hb,so,kk⟩=>by
  refine ⟨δ,O,Hb,hb,so,?_⟩
  simp only [exec,ev] at kk
  cases q:evA C x δ with
  | ok ds =>
    rw [q] at kk
    intro vs H' O' so' dn
    simp only [R.bind,JAd,List.length_cons,List.length_nil] at kk
    match ds,vs,dn,kk,so' with
    | [d1,d2],vs,dn,kk,so' =>
     obtain ⟨O2,so2⟩:=JBM [i,j] [d1,d2] vs so' dn
     simp only [DenL] at dn
     obtain ⟨v1,r,e,q1,v2,r2,e2,q2,e3⟩:=dn
     subst e3;subst e2;subst e
     exact ⟨v1,v2,rfl,kk _ _ O2 so2⟩
    | [],_,_,kk,_=>exact False.elim kk
    | [_],_,_,kk,_=>exact False.elim kk
    | _::_::_::_,_,_,kk,_=>simp at kk;exact False.elim kk
  | exc c=>rw [q] at kk;exact kk
  | bad=>rw [q] at kk;exact kk
noncomputable def ROA (X:Cx) (B:Bs) (C:Cn) (XX:Nat->Hp->Prop) (x:E) (k:Nat):TA:=fun σ H Q=>Same X.H₀ H/\∃δ,Sok B σ H δ /\
 KL B XX (evA C x δ) H fun vs H1=>∀a,H1 a=none->Q (vs.set k (.ref a)) (upd H1 a (.lst []))
theorem JNa (g:Gk X B C CX XX G) {es:List Expr} {p:Pos} (h:PA X es (RA B C XX x)):PA X (.List [] p::es) (ROA X B C XX (.cons .cnon x) 0):=by
 intro pos pins s σ H Q I ⟨hs,δ,ok,k⟩
 show wpAny _ _ (spliced ((false,eval (.List [] p) X.env)::backTo pos (starEach es X.env))) _ _ s
 refine Calls.spliced_cons (thn (JHB (pos:=p) JBk pins s σ H (fun v H1=>∃a,H a=none/\v=.ref a/\H1=upd H a (.lst [])) I ⟨Nat.zero_le _,fun a ha=>⟨a,ha,rfl,rfl⟩⟩) fun u s1 ⟨v,H1,I1,r1,a,ha,e1,e2⟩=>?_)
 subst e1;subst e2
 have hP:∀b,b=a->∃xs,upd H a (.lst []) b=some (.lst xs)/\X.H₀ b=none:=fun b e=>by subst e;exact ⟨[],JAC,hs.free ha⟩
 obtain ⟨_,its,n,_,ho⟩:=I1.hok a _ JAC
 have J:=JBG (P:=fun b=>b=a) (ps:=[(a,_)]) I1 hP (by
  intro q hq
  simp only [List.mem_singleton] at hq
  subst hq
  exact ⟨rfl,ho⟩)
 have eh:hidP (upd H a (.lst [])) (fun b=>b=a)=H:=by
  funext b
  by_cases hb:b=a
  ·subst hb;rw [JA1 (P:=fun c=>c=b) rfl,ha]
  ·rw [JAG (P:=fun c=>c=a) hb,JAF hb]
 rw [eh] at J
 simp only [evA,ev,R.bind] at k
 cases q:evA C x δ with
 | ok ds =>
  rw [q] at k
  refine thn (h pos _ s1 σ H (fun vs H3=>Same H H3/\DenL B H3 ds vs) J ⟨δ,ok,by rw [q];exact fun vs H3 s3 d3=>⟨s3,d3⟩⟩) fun us s2 ⟨vs,H3,J3,r3,sm,dn⟩=>?_
  obtain ⟨I3,hz⟩:=JAm (P:=fun b=>b=a) I1 J3 hP (fun b e=>by subst e;exact ⟨_,List.mem_singleton.mpr rfl,ho⟩)
  have em:mixP (upd H a (.lst [])) H3 (fun b=>b=a)=upd H3 a (.lst []):=by
   funext b
   by_cases hb:b=a
   ·subst hb;rw [JBb (P:=fun c=>c=b) rfl,JAC,JAC]
   ·rw [JAL (P:=fun c=>c=a) hb,JAF hb]
  rw [em] at I3
  refine ⟨.ref a::vs,_,I3,.cons r1 r3,?_⟩
  exact k (.non::vs) H3 sm (by simp only [DenL,Den];exact ⟨_,_,rfl,rfl,dn⟩) a (hz a rfl)
 | exc c =>
  rw [q] at k
  exact thn (h pos _ s1 σ H (fun vs H3=>False) J ⟨δ,ok,by rw [q];exact k⟩) fun us s2 ⟨vs,H3,J3,r3,f⟩=>f.elim
 | bad=>rw [q] at k;exact k.elim
theorem JMA (g:Gk X B C CX XX G) {e:Expr} {es:List Expr} {y:E} {k:Nat} (ha:PE X e (RE B C XX x)) (hr:PA X es (ROA X B C XX y k)) (hs:starEach (e::es) X.env=(false,eval e X.env)::starEach es X.env):PA X (e::es) (ROA X B C XX (.cons x y) (k+1)) :=
 PA.imp (JBA ha hr hs) fun σ H Q ⟨hs,δ,ok,kk⟩=>by
  simp only [evA] at kk
  refine RE.of (W:=fun r H=>KL B XX r H _) ok (fun _ _ z=>z) (fun _ z=>z) kk fun d v H1 s1 d1 h1=>?_
  refine ⟨hs.trans s1,δ,ok.mono s1,?_⟩
  have h1:=KL.mono g s1 h1
  cases q:evA C y δ with
  | ok ds =>
   rw [q] at h1
   intro vs H2 s2 d2 a ha
   exact h1 (v::vs) H2 s2 (by simp only [DenL];exact ⟨v,vs,rfl,Den.mono s2 d v d1,d2⟩) a ha
  | exc c=>rw [q] at h1;exact h1
  | bad=>rw [q] at h1;exact h1
noncomputable def RASO (X:Cx) (B:Bs) (C:Cn) (XX:Nat->Hp->Prop) (x:E) (k:Nat):TA:=fun σ H Q=>∃δ O Hb,Same X.H₀ Hb/\SO B Hb σ H δ O/\(match evA C x δ with
 | .ok ds=>∀vs H' O',SO B Hb σ H' (after (.tup x) (.tuple ds) δ) O'->DenL B (hid H' O') ds vs->∀a,H' a=none->Q (vs.set k (.ref a)) (upd H' a (.lst []))
 | .exc c=>XX c Hb
 | .bad=>False)
theorem JL3 (g:Gk X B C CX XX G) {es:List Expr} {k:Nat} (he:PA X es (ROA X B C XX x k)):PA X es (RASO X B C XX x k):=by
 intro pos pins s σ H Q I ⟨δ,O,Hb,hb,so,kk⟩
 have J0:=JBG (ps:=JBz x O δ.length s.heap) I (JAp (x:=x) hb so) JAv
 have hev:=(agree C x δ (JAV x 0 δ) JBS).2.2.1
 have hS:Same X.H₀ (hidP H (unP x O)):=hb.trans ((JAk so).trans same_un)
 cases q:evA C x δ with
 | ok ds =>
  rw [q] at kk
  refine thn (he pos _ s σ _ (fun us H1=>∃vs H2 a,us=vs.set k (.ref a)/\H1=upd H2 a (.lst [])/\H2 a=none/\Same (hidP H (unP x O)) H2/\DenL B H2 ds vs) J0 ⟨hS,JAV x 0 δ,JAb so,by rw [<-hev,q];exact fun vs H1 s1 d1 a ha=>⟨vs,H1,a,rfl,rfl,ha,s1,d1⟩⟩) fun u s1 ⟨us,H1,J,r,vs,H2,a,e1,e2,ha,sm,dn⟩=>?_
  subst e1;subst e2
  obtain ⟨I',hz⟩:=JAm I J (JAp hb so) (JAn I so)
  have nD:¬unP x O a:=fun h=>by have:=hz a h;rw [JAC] at this;cases this
  have hz2:∀b,unP x O b->H2 b=none:=fun b h=>by
   have:=hz b h
   rwa [JAF fun z=>nD (by rw [<-z];exact h)] at this
  rw [JFg nD] at I'
  obtain ⟨O',so',dn'⟩:=JEg so sm hz2 dn
  refine ⟨_,_,I',r,kk vs _ O' ?_ dn' a (by rw [JAL nD];exact ha)⟩
  have:after (.tup x) (.tuple ds) δ=after x (.tuple ds) δ:=by unfold after;rw [JBR,JCb]
  rw [this];exact so'
 | exc c =>
  rw [q] at kk
  exact thn (he pos _ s σ _ (fun v H1=>False) J0 ⟨hS,JAV x 0 δ,JAb so,by rw [<-hev,q];exact g.anti c _ _ ((JAk so).trans same_un) kk⟩) fun u s1 ⟨v,H1,J,r,f⟩=>f.elim
 | bad=>rw [q] at kk;exact kk.elim
noncomputable def JHs (is:List Nat) (ta:TA):TS:=fun D σ H=>ta σ H fun vs H1=>vs.length=is.length/\vs.length<=1000/\∀H2,(H2=H1\/∃p,H1 p=none/\H2=upd H1 p (.tup vs))->D.nx (setV is vs σ) H2
theorem JL6 (g:Gk X B C CX XX G) {ts es:List Expr} {is:List Nat} {ta:TA} {k k2:Nat} {pt pt2:Pos} (ha:PA X es ta) (hn:X.env.scope.names=names) (hN:X.N=N) (hnd:N.Nodup) (hfn:∀nm,X.fn nm=true\/X.env.scope.names.lookup nm≠some .cell)
  (h:slots names N ts=some is) (hs:swapsWithSole [.Tuple ts k pt] (.Tuple es k2 pt2) pos.line X.env=pure false) (hw:swappedStores [.Tuple ts k pt] (.Tuple es k2 pt2) X.env=pure none):PS X (.Assign [.Tuple ts k pt] (.Tuple es k2 pt2) pos) (JHs is ta):=by
 obtain ⟨q1,q2⟩:=JBc (env:=X.env) h
 have ha':PA X es (fun σ H Q'=>∃Q,ta σ H Q/\∀vs H,Q vs H->Q' vs H):=fun pos pins s σ H Q I ⟨Q0,h,m⟩=>thn (ha pos pins s σ H Q0 I h) fun u s1 ⟨vs,H1,I1,r,q⟩=>⟨vs,H1,I1,r,m _ _ q⟩
 refine PS.imp (JLO (JKZ ha') (JHP g.calm (JB1 hn hN hnd hfn h) q2 q1) hs hw rfl) fun De σ H hh=>⟨_,hh,fun vs H1 ⟨a1,a2,a3⟩=>⟨Nat.le_trans a2 (by decide),fun p hp=>⟨p,vs,rfl,SqT.of JAC,a1,a1,a3 _ (.inr ⟨p,hp,rfl⟩)⟩⟩⟩
theorem JNE {i j l:Nat} {x y z:Str} {a b c:Expr} {ta:TA} {px py pz pt:Pos} {kt k2 pt2} (hc:X.calm=true) (hN:X.N.Nodup) (hi:X.N[i]? = some x) (hj:X.N[j]? = some y) (hl:X.N[l]? = some z) (hij:i≠j) (hil:i≠l) (hjl:j≠l)
  (hx:X.env.scope.names.lookup x=some .local) (hy:X.env.scope.names.lookup y=some .local) (hz:X.env.scope.names.lookup z=some .local) (ha:PA X [a,b,c] ta)
  (hw:swappedStores [.Tuple [.Name x px,.Name y py,.Name z pz] kt pt] (.Tuple [a,b,c] k2 pt2) X.env=pure (some [x,y,z]))
  (hs:swapsWithSole [.Tuple [.Name x px,.Name y py,.Name z pz] kt pt] (.Tuple [a,b,c] k2 pt2) pos.line X.env=pure false:=by rfl) :
  PS X (.Assign [.Tuple [.Name x px,.Name y py,.Name z pz] kt pt] (.Tuple [a,b,c] k2 pt2) pos) (JHs [i,j,l] ta):=by
 intro pins s σ H D I h
 rw [exec_Assign_arm]
 refine q_b (wpAny_standAt ?_)
 rw [hs]
 refine q_b (q_e ?_)
 rw [if_neg (by decide)]
 refine q_b (Tuple_ (thn (ha _ pins s σ H _ I h) fun us s1 ⟨vs,H1,I1,r1,q0,q00,q1⟩=>?_))
 have q1:=q1 H1 (.inl rfl)
 obtain ⟨v,w,o,rfl⟩:∃v w o,vs=[v,w,o]:=by
  match vs,q0 with
  | [v,w,o],_=>exact ⟨v,w,o,rfl⟩
 obtain ⟨u1,u2,u3,rfl,rv,rw',ro⟩:∃u1 u2 u3,us=[u1,u2,u3]/\RelV v u1/\RelV w u2/\RelV o u3:=by
  cases r1 with
  | cons p q =>
    cases q with
    | cons p' q' =>
     cases q' with
     | cons p'' q'' =>
      cases q''
      exact ⟨_,_,_,rfl,p,p',p''⟩
 refine wpAny_newObj_type ?_ (by show 3<=sizeLine;decide)
 have I2:Inv X pins σ H1 { s1 with heap:=s1.heap.push { cls:=.type "tuple",data:=.seq [u1,u2,u3].toArray } }:=I1.kept (t':=s1.toks) fun b o e=>q_c _ e
 rw [hw]
 refine q_b (q_e ?_)
 show wpAny (model X.prog X.w) X.A (do rule "assign.swapped-stores";let items<-unpackItems (.ref s1.heap.objs.size) 3 none;assignInOrder [fun v=>bindName X.env z v,fun v=>bindName X.env y v,fun v=>bindName X.env x v] items.reverse;pure Flow.next) _ _ _
 refine q_b (wpAny_rule (q_b (unpackItems_tuple (items:=#[u1,u2,u3]) (I.ok.hd hc) (IsTup.new s1.heap _) fun h' hx'=>?_)))
 have I3:=I2.kept (h':=h') (t':=s1.toks) fun b o e=>hx' b o (q_l (q_h e)) e
 show wpAny _ _ (assignInOrder [fun v=>bindName X.env z v,fun v=>bindName X.env y v,fun v=>bindName X.env x v] [u3,u2,u1] >>= fun _=>pure Flow.next) _ _ _
 refine q_b (assignInOrder_cons (wpAny_bindName (JA8 I3 hN hl (.inl hz) ro (fun s2 I4=>?_) (.inr hz))))
 refine assignInOrder_cons (wpAny_bindName (JA8 I4 hN hj (.inl hy) rw' (fun s3 I5=>?_) (.inr hy)))
 refine assignInOrder_cons (wpAny_bindName (JA8 I5 hN hi (.inl hx) rv (fun s4 I6=>assignInOrder_nil (q_e ?_)) (.inr hx)))
 rw [List.set_comm _ _ (Ne.symm hjl),List.set_comm _ _ (Ne.symm hil),List.set_comm _ _ (Ne.symm hij)] at I6
 exact ⟨_,H1,I6,q1⟩
theorem JGT:∀(is:List Nat) (vs:List V) (σ:St) (k i:Nat) (v:V),is.Nodup->vs.length=is.length->is[k]? = some i->setV is (vs.set k v) σ=(setV is vs σ).set i (some v)
 | [],_,_,_,_,_,_,_,h=>by simp at h
 | j::is,[],_,_,_,_,_,h,_=>by simp at h
 | j::is,w::vs,σ,0,i,v,hn,hl,h=>by
  simp only [List.getElem?_cons_zero,q_j] at h
  subst h
  simp only [List.set_cons_zero,setV]
  have q:∀(is:List Nat) (vs:List V) (σ:St),j ∉ is->(setV is vs σ).set j (some v)=setV is vs (σ.set j (some v)):=by
   intro is
   induction is with
   | nil=>intro vs σ _;rfl
   | cons a r ih =>
    intro vs σ hj
    cases vs with
    | nil=>rfl
    | cons b t =>
     simp only [setV]
     rw [ih t _ (fun z=>hj (q_s _ z)),List.set_comm _ _ (fun z=>hj (by rw [z];exact List.mem_cons_self ..))]
  rw [q is vs _ (List.nodup_cons.mp hn).1]
  simp
 | j::is,w::vs,σ,k+1,i,v,hn,hl,h=>by
  simp only [List.set_cons_succ,setV]
  exact JGT is vs _ k i v (List.nodup_cons.mp hn).2 (by simpa using hl) (by simpa using h)
theorem JED {is:List Nat} {δ:Env} {ds:List D} (q:evA C x δ=.ok ds):exec C (.unp is (.tup x)) δ=if ds.length=is.length then .nx (JBB is ds (after (.tup x) (.tuple ds) δ)) else .bad:=by
 by_cases h:ds.length=is.length
 ·simp only [exec,ev,q,R.bind,stepR,JAd,h,if_true]
 ·simp only [exec,ev,q,R.bind,stepR,JAd,h,if_false]
theorem JMW (g:Gk X B C CX XX G) {is:List Nat} {st:Stmt} (hl:cnt x<=1000) (h:PS X st (JHs is (RAS X B C XX x))):PS X st (RSt X B C XX (.unp is (.tup x))) :=
 PS.imp h fun De σ H ⟨δ,O,Hb,hb,so,kk⟩=>by
  refine ⟨δ,O,Hb,hb,so,?_⟩
  cases q:evA C x δ with
  | ok ds =>
   rw [JED q] at kk
   intro vs H' O' so' dn
   have e1:=DenL.len ds vs dn
   have e2:=JBX x δ ds q
   split at kk
   ·refine ⟨by omega,by omega,fun H2 h2=>?_⟩
    obtain ⟨O2,so2⟩:=JBM is ds vs so' dn
    rcases h2 with h2 | ⟨p,hp,h2⟩
    ·subst h2;exact kk _ _ O2 so2
    ·subst h2;exact kk _ _ O2 (JES so2 hp)
   ·exact kk.elim
  | exc c=>simp only [exec,ev,q] at kk;exact kk
  | bad=>simp only [exec,ev,q] at kk;exact kk
theorem JNL (g:Gk X B C CX XX G) {is:List Nat} {k i:Nat} {st:Stmt} (hl:cnt x<=1000) (hn:is.Nodup) (hi:is[k]? = some i) (h:PS X st (JHs is (RASO X B C XX x k))):PS X st (RSt X B C XX (.cons (.unp is (.tup x)) (.asg i (.lst .nil)))) :=
 PS.imp h fun De σ H ⟨δ,O,Hb,hb,so,kk⟩=>by
  refine ⟨δ,O,Hb,hb,so,?_⟩
  cases q:evA C x δ with
  | ok ds =>
   have e3:exec C (.cons (.unp is (.tup x)) (.asg i (.lst .nil))) δ=match exec C (.unp is (.tup x)) δ with | .nx δ'=>exec C (.asg i (.lst .nil)) δ' | f=>f:=rfl
   rw [e3,JED q] at kk
   intro vs H' O' so' dn a ha
   have e1:=DenL.len ds vs dn
   have e2:=JBX x δ ds q
   by_cases hy:ds.length=is.length
   ·rw [if_pos hy] at kk
    refine ⟨by simp;omega,by simp;omega,fun H2 h2=>?_⟩
    obtain ⟨O2,so2⟩:=JBM is ds vs so' dn
    obtain ⟨O3,so3⟩:=JEx (i:=i) so2 (Da:=a) (ds:=[]) (xs:=[]) ha (by simp only [DenL])
    rw [JGT is vs σ k i _ hn (by omega) hi]
    have ea:after (.lst .nil) (.list []) (JBB is ds (after (.tup x) (.tuple ds) δ))=JBB is ds (after (.tup x) (.tuple ds) δ):=by
     unfold after
     rw [if_neg]
     have:∀(δ:Env) (k:Nat),JAJ (.lst .nil) k δ=false:=by
      intro δ
      induction δ with
      | nil=>intro k;rfl
      | cons s r ih=>intro k;simp only [JAJ,ih,E.uses,Bool.false_and,Bool.or_self]
     rw [this];simp
    have kk:JCT X B XX Hb De (.nx ((after (.lst .nil) (.list []) (JBB is ds (after (.tup x) (.tuple ds) δ))).set i (.own (.list [])))):=kk
    rw [ea] at kk
    rcases h2 with h2 | ⟨p,hp,h2⟩
    ·subst h2;exact kk _ _ O3 so3
    ·subst h2;exact kk _ _ O3 (JES so3 hp)
   ·rw [if_neg hy] at kk
    exact kk.elim
  | exc c=>simp only [exec,ev,q] at kk;exact kk
  | bad=>simp only [exec,ev,q] at kk;exact kk
end
end VI
end
section
set_option maxRecDepth 100000
namespace VI
open PySem PySem.Spec PyProof.Rows L2
section
variable {X:Cx} {B:Bs} {C:Cn} {CX:CXT} {XX:Nat->Hp->Prop} {G:List (Str×GK)} {x:E} {pos:Pos}
theorem SO.slotOwn {Hb:Hp} {σ:St} {H:Hp} {δ:Env} {O:Ow} (so:SO B Hb σ H δ O) {i:Nat} {ds:List D} (h:δ[i]? = some (.own (.list ds))):∃a xs,O i=some a/\σ[i]? = some (some (.ref a))/\H a=some (.lst xs)/\DenL B (hid H O) ds xs:=by
 have q:=so.slot i
 rw [h] at q
 simp only [JAK] at q
 obtain ⟨a,ds',xs,q1,q2,q3,q4,q5,q6⟩:=q
 cases q2
 exact ⟨a,xs,q1,q3,q4,q6⟩
theorem JE0 {H:Hp}:∀ {ds:List D} {vs:List V},DenL B H ds vs->∀n:Nat,DenL B H (ds.take n) (vs.take n)
 | [],vs,h,n=>by simp only [DenL] at h;subst h;simp [DenL]
 | d::ds,vs,h,0=>by simp [DenL]
 | d::ds,vs,h,n+1=>by
  simp only [DenL] at h
  obtain ⟨v,r,e,q,l⟩:=h
  subst e
  simp only [List.take_succ_cons,DenL]
  exact ⟨v,_,rfl,q,JE0 l n⟩
theorem JEe {H:Hp}:∀ {ds:List D} {vs:List V},DenL B H ds vs->∀n:Nat,DenL B H (ds.drop n) (vs.drop n)
 | [],vs,h,n=>by simp only [DenL] at h;subst h;simp [DenL]
 | d::ds,vs,h,0=>h
 | d::ds,vs,h,n+1=>by
  simp only [DenL] at h
  obtain ⟨v,r,e,q,l⟩:=h
  subst e
  exact JEe l n
theorem JQM (g:Gk X B C CX XX G) {a:Expr} {i:Nat} {nm:Str} {p1 ap cp:Pos} (hN:X.N[i]? = some nm) (hv:Vis X.env.scope nm) (hbn:JAP nm=false) (he:PE X a (RE B C XX x)) (hs:starEach [a] X.env=[(false,eval a X.env)]) (hl:(ap.endLine==cp.line)=true) :
  PS X (.Expr (.Call (.Attribute (.Name nm p1) "append" ap) [a] [] cp) pos) (RSt X B C XX (.app i x)):=by
 refine PS.imp (JCp (JIK PySem.F.plainAttrs_list PySem.F.slot_list_append PySem.F.type_list_append JHV (JCg hN hv (JAB hbn).1 (JAB hbn).2.1) (JBA (JGj g he) JBk hs) rfl (by rw [hs];rfl) hl hs rfl) rfl) fun De σ H ⟨δ,O,Hb,hb,so,kk⟩=>?_
 simp only [exec] at kk
 split at kk
 ·rename_i ds hd
  obtain ⟨l,xs,q1,q2,q3,q4⟩:=so.slotOwn hd
  refine ⟨_,q2,.inl ⟨rfl,xs,SqL.of q3⟩,δ,O,Hb,hb,so,?_⟩
  cases q:ev C x δ with
  | ok d =>
   rw [q] at kk
   intro v H' O' so' dn
   have kk:JCT X B XX Hb De (JBP i ds x d δ):=kk
   unfold JBP at kk
   split at kk
   ·rename_i hlen
    split at kk
    ·exact False.elim kk
    ·rename_i hu
     have ea:after x d δ=δ:=by unfold after;rw [if_neg hu]
     rw [ea] at so'
     obtain ⟨l',xs',r1,r2,r3,r4⟩:=so'.slotOwn hd
     rw [q2] at r2
     cases r2
     refine ⟨l,xs',v,rfl,rfl,r3,by rw [<-DenL.len ds xs' r4,sizeLine_eq];exact hlen,?_⟩
     exact kk _ _ O' (JGR so' r1 (DenL.append ds [d] xs' [v] r4 (by simp only [DenL];exact ⟨v,[],rfl,dn,rfl⟩)))
   ·exact False.elim kk
  | exc c=>rw [q] at kk;exact kk
  | bad=>rw [q] at kk;exact kk
 ·exact False.elim kk
theorem JOP (g:Gk X B C CX XX G) {a b:Expr} {i:Nat} {nm:Str} {p1 ap cp:Pos} (hN:X.N[i]? = some nm) (hv:Vis X.env.scope nm) (hbn:JAP nm=false) (he:PA X [a,b] (RA B C XX x)) (hs:starEach [a,b] X.env=[(false,eval a X.env),(false,eval b X.env)]) (hs2:starEach [b] X.env=[(false,eval b X.env)]) (hl:(ap.endLine==cp.line)=true) :
  PS X (.Expr (.Call (.Attribute (.Name nm p1) "insert" ap) [a,b] [] cp) pos) (RSt X B C XX (.ins i x)):=by
 refine PS.imp (JCp (JIK PySem.F.plainAttrs_list PySem.F.slot_list_insert PySem.F.type_list_insert JNt (JCg hN hv (JAB hbn).1 (JAB hbn).2.1) (JHT g he) rfl (by rw [hs];rfl) hl (by rw [hs,hs2]) (by rw [hs2];rfl)) rfl) fun De σ H ⟨δ,O,Hb,hb,so,kk⟩=>?_
 simp only [exec] at kk
 split at kk
 ·rename_i ds hd
  obtain ⟨l,xs,q1,q2,q3,q4⟩:=so.slotOwn hd
  refine ⟨_,q2,.inl ⟨rfl,xs,SqL.of q3⟩,δ,O,Hb,hb,so,?_⟩
  cases q:evA C x δ with
  | ok zs =>
   rw [q] at kk
   intro vs H' O' so' dn
   have kk:JCT X B XX Hb De (JCJ i ds x zs δ):=kk
   unfold JCJ at kk
   split at kk
   ·rename_i k y _
    split at kk
    ·rename_i hlen
     obtain ⟨k0,k1,k2⟩:=hlen
     split at kk
     ·exact False.elim kk
     ·rename_i hu
      have ea:after (.tup x) (.tuple [.int k,y]) δ=δ:=by
       unfold after
       rw [if_neg]
       rw [JBR]
       intro z
       apply hu
       simpa [JAR,JBv] using z
      rw [ea] at so'
      obtain ⟨l',xs',r1,r2,r3,r4⟩:=so'.slotOwn hd
      rw [q2] at r2
      cases r2
      simp only [DenL,Den] at dn
      obtain ⟨v1,vr,e1,e2,v2,vr2,e3,dy,e4⟩:=dn
      subst e4;subst e3;subst e2;subst e1
      have hle:=DenL.len ds xs' r4
      refine ⟨l,xs',k,v2,rfl,rfl,r3,k0,by omega,by rw [sizeLine_eq];omega,?_⟩
      refine kk _ _ O' (JGR so' r1 (DenL.append _ _ _ _ (JE0 r4 _) ?_))
      simp only [DenL]
      exact ⟨v2,_,rfl,dy,JEe r4 _⟩
    ·exact False.elim kk
   ·exact False.elim kk
  | exc c=>rw [q] at kk;exact kk
  | bad=>rw [q] at kk;exact kk
 ·exact False.elim kk
theorem JP7 (g:Gk X B C CX XX G) {a:Expr} {i:Nat} {nm:Str} {p1 ap cp:Pos} (hN:X.N[i]? = some nm) (hv:Vis X.env.scope nm) (hbn:JAP nm=false) (he:PE X a (REF B C XX x)) (hs:starEach [a] X.env=[(false,eval a X.env)]) (hl:(ap.endLine==cp.line)=true) :
  PS X (.Expr (.Call (.Attribute (.Name nm p1) "extend" ap) [a] [] cp) pos) (RSt X B C XX (.ext i x)):=by
 refine PS.imp (JCp (JIK PySem.F.plainAttrs_list PySem.F.slot_list_extend PySem.F.type_list_extend JIp (JCg hN hv (JAB hbn).1 (JAB hbn).2.1) (JBA (JLe g he) JBk hs) rfl (by rw [hs];rfl) hl hs rfl) rfl) fun De σ H ⟨δ,O,Hb,hb,so,kk⟩=>?_
 simp only [exec] at kk
 split at kk
 ·rename_i ds hd
  obtain ⟨l,xs,q1,q2,q3,q4⟩:=so.slotOwn hd
  refine ⟨_,q2,.inl ⟨rfl,xs,SqL.of q3⟩,δ,O,Hb,hb,so,?_⟩
  cases q:ev C x δ with
  | ok d =>
   rw [q] at kk
   intro Da zs zv H1 O' ed so' hD dn
   subst ed
   have kk:JCT X B XX Hb De (JBo i ds x (.list zs) δ):=kk
   unfold JBo at kk
   simp only at kk
   split at kk
   ·rename_i hlen
    split at kk
    ·exact False.elim kk
    ·rename_i hu
     have hu':JAJ x 0 δ=false:=by simpa using hu
     have ea:after x (.list zs) δ=δ:=by unfold after;rw [hu'];simp
     rw [ea] at so'
     obtain ⟨l',xs',r1,r2,r3,r4⟩:=so'.slotOwn hd
     rw [q2] at r2
     cases r2
     have hne:l≠Da:=fun z=>by rw [z,hD] at r3;cases r3
     have so2:=JES (o:=.lst zv) so' hD
     refine ⟨l,Da,xs',zv,rfl,rfl,by rw [JAF hne];exact r3,JAC,by rw [<-DenL.len ds xs' r4,<-DenL.len zs zv dn,sizeLine_eq];exact hlen,?_⟩
     have s1:Same (hid H1 O') (hid (upd H1 Da (.lst zv)) O'):=fun b u e=>by
      obtain ⟨h1,h2⟩:=JAu e
      have hb:b≠Da:=fun z=>by rw [z,hD] at h2;cases h2
      rw [hid,JAG h1,JAF hb]
      exact h2
     exact kk _ _ O' (JGR so2 r1 (DenL.append ds zs xs' zv (DenL.mono s1 ds xs' r4) (DenL.mono s1 zs zv dn)))
   ·exact False.elim kk
  | exc c=>rw [q] at kk;exact kk
  | bad=>rw [q] at kk;exact kk
 ·exact False.elim kk
theorem JL8 (g:Gk X B C CX XX G) {a:Expr} {i:Nat} {nm:Str} {p1 ap cp:Pos} (hN:X.N[i]? = some nm) (hv:Vis X.env.scope nm) (hbn:JAP nm=false) (he:PE X a (RE B C XX x)) (hs:starEach [a] X.env=[(false,eval a X.env)]) (hl:(ap.endLine==cp.line)=true) :
  PS X (.Expr (.Call (.Attribute (.Name nm p1) "extend" ap) [a] [] cp) pos) (RSt X B C XX (.ext i x)):=by
 refine PS.imp (JCp (JIK PySem.F.plainAttrs_list PySem.F.slot_list_extend PySem.F.type_list_extend JMK (JCg hN hv (JAB hbn).1 (JAB hbn).2.1) (JBA (JGj g he) JBk hs) rfl (by rw [hs];rfl) hl hs rfl) rfl) fun De σ H ⟨δ,O,Hb,hb,so,kk⟩=>?_
 simp only [exec] at kk
 split at kk
 ·rename_i ds hd
  obtain ⟨l,xs,q1,q2,q3,q4⟩:=so.slotOwn hd
  refine ⟨_,q2,.inl ⟨rfl,xs,SqL.of q3⟩,δ,O,Hb,hb,so,?_⟩
  cases q:ev C x δ with
  | ok d =>
   rw [q] at kk
   intro v H' O' so' dn
   have kk:JCT X B XX Hb De (JBo i ds x d δ):=kk
   cases d with
   | list zs =>
    unfold JBo at kk
    simp only at kk
    split at kk
    ·rename_i hlen
     split at kk
     ·exact False.elim kk
     ·rename_i hu
      have hu':JAJ x 0 δ=false:=by simpa using hu
      have ea:after x (.list zs) δ=δ:=by unfold after;rw [hu'];simp
      rw [ea] at so'
      obtain ⟨l',xs',r1,r2,r3,r4⟩:=so'.slotOwn hd
      rw [q2] at r2
      cases r2
      simp only [Den] at dn
      obtain ⟨Da,zv,e1,e2,e3⟩:=dn
      exact ⟨l,Da,xs',zv,rfl,by rw [e1],r3,same_hidP.seq (g.K▸e2),by rw [<-DenL.len ds xs' r4,<-DenL.len zs zv e3,sizeLine_eq];exact hlen,kk _ _ O' (JGR so' r1 (DenL.append ds zs xs' zv r4 e3))⟩
    ·exact False.elim kk
   | _=>exact False.elim kk
  | exc c=>rw [q] at kk;exact kk
  | bad=>rw [q] at kk;exact kk
 ·exact False.elim kk
end
end VI
end
section
set_option maxRecDepth 100000
namespace VI
open PySem PySem.Spec PyProof.Rows L2
theorem JF5 {G:List (Str×GK)} {n:Nat} {it:Bool} {names:List (Str×NameKind)} {N:List Str} {e:Expr} {x:E} (h:JAA G n it names N e=some x) (hc:JDQ e=false) (t:Option Expr) (l:Nat) (env:PySem.Env):swapsWith e t l env=pure false:=by
 cases n with
 | zero=>simp [JAA] at h
 | succ n=>cases e<;>first | rfl | (simp [JAA,xOf,xRaw] at h;done) | cases hc
theorem JHy {G:List (Str×GK)} {n:Nat} {it:Bool} {names:List (Str×NameKind)} {N:List Str} {e:Expr} {x:E} (h:JAA G n it names N e=some x) (ts:List Expr) (k:Nat) (p:Pos) (l:Nat) (env:PySem.Env):swapsWithSole [.Tuple ts k p] e l env=pure false:=by
 cases n with
 | zero=>simp [JAA] at h
 | succ n=>cases e<;>first | rfl | (simp [JAA,xOf,xRaw] at h)
theorem JFB {e:Expr} (hc:isTup e=false) (ts:List Expr) (k:Nat) (p:Pos) (env:PySem.Env):swappedStores [.Tuple ts k p] e env=pure none:=by
 cases e<;>first | rfl | cases hc
theorem JEF {names:List (Str×NameKind)} {env:PySem.Env} {a b:Expr} {nx ny:Str} {px py pt pt2:Pos} {kt k2:Nat} (hk:env.scope.kind=.function) (hn:env.scope.names=names) (hs:∀es:List Expr,es=[a,b]->(es.any fun | .Starred ..=>true | _=>false)=false)
  (h:JE1 names [.Name nx px,.Name ny py] (.Tuple [a,b] k2 pt2)=true) :
  swappedStores [.Tuple [.Name nx px,.Name ny py] kt pt] (.Tuple [a,b] k2 pt2) env=pure (some [nx,ny])/\nx≠ny/\env.scope.names.lookup nx=some .local/\env.scope.names.lookup ny=some .local:=by
 simp only [JE1,q_i,beq_iff_eq,Bool.not_eq_true',bne_iff_ne,ne_eq] at h
 obtain ⟨⟨⟨⟨⟨h1,h2⟩,h3⟩,h4⟩,h5⟩,h6⟩:=h
 have hb:env.blockKind=.function:=by unfold PySem.Env.blockKind;rw [hk];rfl
 have e1:env.kindOf nx=some .local:=by show env.scope.names.lookup nx=_;rw [hn];exact h1
 have e2:env.kindOf ny=some .local:=by show env.scope.names.lookup ny=_;rw [hn];exact h2
 refine ⟨?_,h4,e1,e2⟩
 have hst:=hs [a,b] rfl
 unfold swappedStores
 simp only [List.length_cons,List.length_nil,hb,List.head?_cons,Option.map_some,Option.getD_some,List.filterMap_cons,List.filterMap_nil,e1,e2]
 have l1:((Expr.Name nx px).pos).line=px.line:=rfl
 simp only [l1,h3,beq_self_eq_true,Bool.and_self,Bool.true_or,Bool.or_true,Bool.true_and,if_true,bne_self_eq_false,Bool.or_false,Bool.not_true,Bool.false_or,q_v,if_false,h5,h6,hst]
 have l2:([nx,ny]:List Str).eraseDups.length=2:=by
  have hne:(ny==nx)=false:=beq_eq_false_iff_ne.mpr (Ne.symm h4)
  simp [List.eraseDups_cons,List.filter_cons,hne,bne]
 have hst':∀q:Expr->Bool,([a,b].any q)=false->q a=false/\q b=false:=fun q h=>by simpa using h
 have hab:=hst' _ hst
 simp [l2]
 intro hz
 exfalso
 rcases hz with z | z
 ·have:=hab.1
  cases a<;>first | (cases z;done) | (cases this;done)
 ·have:=hab.2
  cases b<;>first | (cases z;done) | (cases this;done)
theorem JGC {e:Expr} (h:JDi e=true):∃es p,e=.List es p:=by
 cases e<;>first | exact ⟨_,_,rfl⟩ | cases h
theorem JI2 {e:Expr} (h:JDQ e=true):∃a b c p,e=.ListComp a b c p:=by
 cases e<;>first | exact ⟨_,_,_,_,rfl⟩ | cases h
section
variable {B:Bs} {C:Cn} {CX:CXT} {G:List (Str×GK)}
noncomputable def JKq (X:Cx) (B:Bs) (G:List (Str×GK)) (XX:Nat->Hp->Prop):Prop:=∀(nm:Str) (c:Nat) (m:Str) (j:Nat) (p1 p2 p3 pos:Pos),Gl X nm->JAP nm=false->G.lookup nm=some (.cls c) ->
 ∀(pins:List (Addr×Obj)) (s:Shared) (σ:St) (H:Hp) (D:Ends),Inv X pins σ H s->XX c H->wpAny (model X.prog X.w) X.A (PySem.exec (.Raise (some (.Call (.Name nm p1) [.Constant (.str m) j p2] [] p3)) none pos) X.env) (SP X pins D) X.xe s
noncomputable def atX (X:Cx) (A:Around) (pn:List (Addr×Obj)) (xe:Value->Shared->Prop) (calm:Bool):Cx:={ X with A:=A,pn:=pn,xe:=xe,calm:=calm }
noncomputable def Tries (X:Cx) (B:Bs) (C:Cn) (CX:CXT) (G:List (Str×GK)) (XX:Nat->Hp->Prop):Prop:=∀(body:List Stmt) (b:S) (cn en kn:Str) (c i j:Nat) (np p1 p2 p3 hpos pos:Pos),
 (∀(pn:List (Addr×Obj)) (xe:Value->Shared->Prop) (XX':Nat->Hp->Prop),PassesOwn (model X.prog X.w) X.A X.env xe->Gk (atX X X.A pn xe true) B C CX XX' G->PSs (atX X X.A pn xe true) body (RSt (atX X X.A pn xe true) B C XX' b)) ->
 Gl X cn->JAP cn=false->JAP en=false->G.lookup cn=some (.cls c)->X.N.Nodup->X.N[i]? = some en->X.env.scope.names.lookup en=some .local->X.N[j]? = some kn->Loc X.env.scope kn->i≠j ->
 PS X (.Try body [.ExceptHandler (some (.Name cn np)) (some en) [.Assign [.Name kn p1] (.Name en p2) p3] hpos] [] [] pos) (RSt X B C XX (.tryx b c i (.cons (.asg j (.var i)) .nil)))
theorem JD1 {e c:Option Expr} {x:Str} (h:JDx e c=some x):∃p1 m j p2 p3,e=some (.Call (.Name x p1) [.Constant (.str m) j p2] [] p3)/\c=none:=by
 unfold JDx at h
 split at h
 ·cases h;exact ⟨_,_,_,_,_,rfl,rfl⟩
 ·cases h
theorem JFL {hs:List ExceptHandler} {q:Str×Str×Str} (h:handOf hs=some q):∃np p1 p2 p3 hp,hs=[.ExceptHandler (some (.Name q.1 np)) (some q.2.1) [.Assign [.Name q.2.2 p1] (.Name q.2.1 p2) p3] hp]:=by
 unfold handOf at h
 split at h
 ·split at h
  ·rename_i e
   cases h
   subst e
   exact ⟨_,_,_,_,_,rfl⟩
  ·cases h
 ·cases h
theorem JFP {e:Expr} {x m:Str} {a:Expr} (h:JHh e=some (x,m,a)):∃p1 ap cp,e=.Call (.Attribute (.Name x p1) m ap) [a] [] cp/\(ap.endLine==cp.line)=true:=by
 unfold JHh at h
 split at h
 ·split at h
  ·rename_i e
   cases h
   exact ⟨_,_,_,rfl,e⟩
  ·cases h
 ·cases h
theorem JGf {e:Expr} {x:Str} {a b:Expr} (h:JMu e=some (x,a,b)):∃p1 ap cp,e=.Call (.Attribute (.Name x p1) "insert" ap) [a,b] [] cp/\(ap.endLine==cp.line)=true:=by
 unfold JMu at h
 split at h
 ·split at h
  ·rename_i e
   cases h
   obtain ⟨e1,e2⟩:=e
   subst e2
   exact ⟨_,_,_,rfl,e1⟩
  ·cases h
 ·cases h
theorem JGx {e:Expr} (h:docOf e=true):∃y j p,e=.Constant (.str y) j p:=by
 unfold docOf at h
 split at h
 ·exact ⟨_,_,_,rfl⟩
 ·cases h
theorem JEc {ts:List Expr} {x:Str} (h:JGm ts=some (.inl x)):∃p,ts=[.Name x p]:=by
 unfold JGm at h
 split at h
 ·cases h;exact ⟨_,rfl⟩
 ·cases h
 ·cases h
theorem JEt {ts us:List Expr} (h:JGm ts=some (.inr us)):∃k p,ts=[.Tuple us k p]:=by
 unfold JGm at h
 split at h
 ·cases h
 ·cases h;exact ⟨_,_,rfl⟩
 ·cases h
theorem JGu {e:Expr} {es:List Expr} (h:JMD e=some es):∃k p,e=.Tuple es k p:=by
 unfold JMD at h
 split at h
 ·cases h;exact ⟨_,_,rfl⟩
 ·cases h
theorem JCm {e:Expr} (h:JG1 e=true):∃p,e=.List [] p:=by
 unfold JG1 at h
 split at h
 ·exact ⟨_,rfl⟩
 ·cases h
noncomputable def isStar:Expr->Bool
 | .Starred ..=>true
 | _=>false
theorem JIe {n:Nat} {names:List (Str×NameKind)} {N:List Str} {e:Expr} {x:E} (h:JAA G n false names N e=some x):isStar e=false:=by
 cases e<;>first | rfl | (cases n<;>simp [JAA,xOf,xRaw] at h)
theorem JDS {n:Nat} {names:List (Str×NameKind)} {N:List Str}:∀ {es:List Expr} {is:List Nat} {q:E×Option Nat},JDC (JAA G n false names N) es is=some q->∀e∈es,isStar e=false
 | [],_,_,_,e,he=>by cases he
 | _::_,[],_,h,_,_=>by unfold JDC at h;cases h
 | a::r,i::is,q,h,e,he=>by
  unfold JDC at h
  split at h
  ·rename_i hn
   obtain ⟨p,rfl⟩:=JCm hn
   obtain ⟨b,hb,_⟩:=q_a.mp h
   rcases q_n.mp he with rfl | he
   ·rfl
   ·have:∀ {es:List Expr} {x:E},JAH (JAA G n false names N) es=some x->∀e∈es,isStar e=false:=by
     intro es
     induction es with
     | nil=>intro x _ e he;cases he
     | cons a r ih =>
      intro x h e he
      unfold JAH at h
      obtain ⟨y,h1,h⟩:=q_a.mp h
      obtain ⟨z,h2,_⟩:=q_a.mp h
      rcases q_n.mp he with rfl | he
      ·exact JIe h1
      ·exact ih h2 e he
    exact this hb e he
  ·obtain ⟨y,h1,h⟩:=q_a.mp h
   obtain ⟨z,h2,_⟩:=q_a.mp h
   rcases q_n.mp he with rfl | he
   ·exact JIe h1
   ·exact JDS h2 e he
theorem JFm {X:Cx} {XX:Nat->Hp->Prop} {n:Nat} {names:List (Str×NameKind)} {N:List Str} (g:Gk X B C CX XX G) (ih:∀e x,JAA G n false names N e=some x->PE X e (RE B C XX x)):∀ {es:List Expr} {is:List Nat} {q:E×Option Nat},JDC (JAA G n false names N) es is=some q ->
  cnt q.1=es.length/\(q.2=none->PA X es (RA B C XX q.1))/\∀i,q.2=some i->∃k,is[k]? = some i/\PA X es (ROA X B C XX q.1 k)
 | [],_,q,h=>by
  unfold JDC at h;cases h
  exact ⟨rfl,fun _=>JNM,fun _ z=>by cases z⟩
 | _::_,[],_,h=>by unfold JDC at h;cases h
 | e::r,i::is,q,h=>by
  unfold JDC at h
  split at h
  ·rename_i hn
   obtain ⟨p,rfl⟩:=JCm hn
   obtain ⟨b,hb,h⟩:=q_a.mp h
   cases h
   have hc:cnt b=r.length:=JAM hb
   refine ⟨by simp only [cnt,hc,List.length_cons],(fun z=>nomatch z),fun j hj=>⟨0,?_,JNa g (allA g ih hb)⟩⟩
   simpa using hj
  ·obtain ⟨y,h1,h⟩:=q_a.mp h
   obtain ⟨z,h2,h⟩:=q_a.mp h
   cases h
   obtain ⟨c1,c2,c3⟩:=JFm g ih h2
   refine ⟨by simp only [cnt,c1,List.length_cons],fun w=>JF0 g (ih e y h1) (c2 w) (JAO h1 r X.env),fun j hj=>?_⟩
   obtain ⟨k,hk,hp⟩:=c3 j hj
   exact ⟨k+1,by simpa using hk,JMA g (ih e y h1) hp (JAO h1 r X.env)⟩
theorem disp3 {names:List (Str×NameKind)} {env:PySem.Env} {a b c:Expr} {nx ny nz:Str} {px py pz pt pt2:Pos} {kt k2:Nat} (hk:env.scope.kind=.function) (hn:env.scope.names=names) (s1:isStar a=false) (s2:isStar b=false) (s3:isStar c=false)
  (h:JDX names [.Name nx px,.Name ny py,.Name nz pz] [a,b,c]=true) :
  swappedStores [.Tuple [.Name nx px,.Name ny py,.Name nz pz] kt pt] (.Tuple [a,b,c] k2 pt2) env=pure (some [nx,ny,nz])/\env.scope.names.lookup nx=some .local/\env.scope.names.lookup ny=some .local/\env.scope.names.lookup nz=some .local:=by
 simp only [JDX,q_i,beq_iff_eq,Bool.not_eq_true',bne_iff_ne,ne_eq] at h
 obtain ⟨⟨⟨⟨⟨⟨⟨⟨⟨⟨_,h1⟩,h2⟩,h3⟩,l1⟩,l2⟩,n1⟩,n2⟩,n3⟩,h5⟩,h6⟩:=h
 have hb:env.blockKind=.function:=by unfold PySem.Env.blockKind;rw [hk];rfl
 have e1:env.kindOf nx=some .local:=by show env.scope.names.lookup nx=_;rw [hn];exact h1
 have e2:env.kindOf ny=some .local:=by show env.scope.names.lookup ny=_;rw [hn];exact h2
 have e3:env.kindOf nz=some .local:=by show env.scope.names.lookup nz=_;rw [hn];exact h3
 refine ⟨?_,e1,e2,e3⟩
 have el:([nx,ny,nz]:List Str).eraseDups.length=3:=by
  have m1:(ny==nx)=false:=beq_eq_false_iff_ne.mpr (Ne.symm n1)
  have m2:(nz==nx)=false:=beq_eq_false_iff_ne.mpr (Ne.symm n2)
  have m3:(nz==ny)=false:=beq_eq_false_iff_ne.mpr (Ne.symm n3)
  simp [List.eraseDups_cons,List.filter_cons,m1,m2,m3,bne]
 unfold swappedStores
 have lx:((Expr.Name nx px).pos).line=px.line:=rfl
 simp only [List.length_cons,List.length_nil,hb,List.head?_cons,Option.map_some,Option.getD_some,List.filterMap_cons,List.filterMap_nil,e1,e2,e3,lx,<-l1,<-l2,beq_self_eq_true,Bool.and_self,if_true,h5,h6,el,bne_self_eq_false,Bool.or_false,Bool.not_true,q_v,if_false]
 simp
 intro hz
 exfalso
 rcases hz with z | z | z
 ·cases a<;>first | (cases z;done) | (cases s1;done)
 ·cases b<;>first | (cases z;done) | (cases s2;done)
 ·cases c<;>first | (cases z;done) | (cases s3;done)
theorem disp4 {env:PySem.Env} {a b c d:Expr} {r es:List Expr} {pt pt2:Pos} {kt k2:Nat}:swappedStores [.Tuple (a::b::c::d::r) kt pt] (.Tuple es k2 pt2) env=pure none:=by
 unfold swappedStores
 have:(!((a::b::c::d::r).length==2 || (a::b::c::d::r).length==3))=true:=by simp
 simp only [this,Bool.true_or,if_true]
theorem JM2 {X:Cx} {XX:Nat->Hp->Prop} {n:Nat} {names:List (Str×NameKind)} {N:List Str} (g:Gk X B C CX XX G) (ih:∀e x,JAA G n false names N e=some x->PE X e (RE B C XX x)) (hk:X.env.scope.kind=.function) (hn:X.env.scope.names=names) (hN:X.N=N) (hnd:N.Nodup) (hfn:∀nm,X.fn nm=true\/X.env.scope.names.lookup nm≠some .cell)
  {ts es:List Expr} {is:List Nat} {k k2:Nat} {pt pt2 pos:Pos} {q:E×Option Nat} (hi:slots names N ts=some is) (hd:is.Nodup) (ho:JDX names ts es=true) (hq:JDC (JAA G n false names N) es is=some q) :
  PS X (.Assign [.Tuple ts k pt] (.Tuple es k2 pt2) pos) (RSt X B C XX (unpO is q.1 q.2)):=by
 obtain ⟨c1,c2,c3⟩:=JFm g ih hq
 have key:∀ta,PA X es ta->PS X (.Assign [.Tuple ts k pt] (.Tuple es k2 pt2) pos) (JHs is ta):=fun ta ha=>by
  have ho':=ho
  unfold JDX at ho'
  split at ho'
  ·rename_i nx px ny py nz pz
   obtain ⟨a,b,c,rfl⟩:∃a b c,es=[a,b,c]:=by
    simp only [q_i,beq_iff_eq] at ho'
    match es,ho'.1.1.1.1.1.1.1.1.1.1 with
    | [a,b,c],_=>exact ⟨a,b,c,rfl⟩
   have hs:=JDS hq
   obtain ⟨w1,w2,w3,w4⟩:=disp3 (env:=X.env) (kt:=k) (pt:=pt) (k2:=k2) (pt2:=pt2) hk hn (hs a (by simp)) (hs b (by simp)) (hs c (by simp)) ho
   obtain ⟨_,_,i,js,e0,i1,hi,e4⟩:=JBK hi
   cases e0
   obtain ⟨_,_,j,ls,e0,i2,hi,e5⟩:=JBK hi
   cases e0
   obtain ⟨_,_,l,us,e0,i3,hi,e6⟩:=JBK hi
   cases e0
   unfold slots at hi
   cases hi
   subst e6;subst e5;subst e4
   simp only [List.nodup_cons,q_n,List.not_mem_nil,or_false,not_or] at hd
   exact JNE g.calm (by rw [hN];exact hnd) (slot_of hn hN i1).1 (slot_of hn hN i2).1 (slot_of hn hN i3).1 hd.1.1 hd.1.2 hd.2.1 w2 w3 w4 ha w1
  ·exact JL6 g ha hn hN hnd hfn hi rfl disp4
  ·cases ho'
 have hl:es.length<=1000:=by
  unfold JDX at ho
  split at ho
  ·simp only [q_i,beq_iff_eq] at ho
   have:=ho.1.1.1.1.1.1.1.1.1.1
   omega
  ·simp only [q_i,q_C] at ho
   exact ho.2
  ·cases ho
 cases e:q.2 with
 | none=>exact JMW g (by omega) (key _ (JHT g (c2 e)))
 | some i =>
  obtain ⟨k',hk',hp⟩:=c3 i e
  exact JNL g (by omega) hd hk' (key _ (JL3 g hp))
theorem JB0 {X:Cx} {XX:Nat->Hp->Prop} {f:Stmt->Option S} (ih:∀st t,f st=some t->PS X st (RSt X B C XX t)):∀ {sts:List Stmt} {t:S},JAe f sts=some t->PSs X sts (RSt X B C XX t)
 | [],t,h=>by unfold JAe at h;cases h;exact JQJ
 | st::r,t,h=>by
  unfold JAe at h
  obtain ⟨a,h1,h⟩:=q_a.mp h
  obtain ⟨b,h2,h⟩:=q_a.mp h
  cases h
  exact JLw (ih st a h1) (JB0 ih h2)
theorem JIa (ra:Rare B C CX G):∀(n:Nat) (X:Cx) (XX:Nat->Hp->Prop) (names:List (Str×NameKind)) (N:List Str) (zz:Bool),Gk X B C CX XX G->X.env.scope.kind=.function->X.env.scope.names=names->X.N=N->N.Nodup ->
  PassesOwn (model X.prog X.w) X.A X.env X.xe->(∀nm,X.fn nm=true)->(zz=true->JKq X B G XX)->(zz=true->G.lookup (".try":Str)=some GK.opt->Tries X B C CX G XX)->∀(st:Stmt) (t:S),JA2 G n zz names N st=some t->PS X st (RSt X B C XX t)
 | 0,X,XX,names,N,zz,g,hk,hn,hN,hnd,hpo,hfn,hr,ht,st,t,h=>by simp [JA2] at h
 | n+1,X,XX,names,N,zz,g,hk,hn,hN,hnd,hpo,hfn,hr,ht,st,t,h=>by
  have ih:=JIa ra n X XX names N zz g hk hn hN hnd hpo hfn hr ht
  obtain ⟨ihE,ihI⟩:=sound ra n X XX names N g hk hn hN hnd
  cases st with
  | Pass p=>simp only [JA2,q_j] at h;subst h;exact JLv
  | Break p=>simp only [JA2,q_j] at h;subst h;exact JPP
  | Continue p=>simp only [JA2,q_j] at h;subst h;exact JQf
  | Return e p =>
   cases e with
   | none=>simp only [JA2,q_j] at h;subst h;exact JNd
   | some e =>
    simp only [JA2] at h
    obtain ⟨x,hx,e'⟩:=q_d.mp h
    subst e'
    exact JOo g (ihE e x hx).1
  | If c a b p =>
   simp only [JA2] at h
   obtain ⟨z,hz,h⟩:=q_a.mp h
   obtain ⟨x,hx,h⟩:=q_a.mp h
   obtain ⟨y,hy,h⟩:=q_a.mp h
   cases h
   exact JPn g (ihE c z hz).2 (JB0 ih hx) (JB0 ih hy)
  | While c body orelse p =>
   cases orelse with
   | cons a b=>simp [JA2] at h
   | nil =>
    simp only [JA2] at h
    obtain ⟨z,hz,h⟩:=q_a.mp h
    obtain ⟨x,hx,h⟩:=q_a.mp h
    cases h
    exact JPF g hpo (ihE c z hz).2 (JB0 ih hx)
  | For tg iter body orelse p =>
   cases orelse with
   | cons a b=>simp [JA2] at h
   | nil =>
    simp only [JA2] at h
    split at h
    ·rename_i nm ht
     obtain ⟨p2,e2⟩:=JEc ht
     cases e2
     obtain ⟨i,hi,h⟩:=q_a.mp h
     obtain ⟨x,hx,h⟩:=q_a.mp h
     obtain ⟨b,hb,h⟩:=q_a.mp h
     cases h
     obtain ⟨q1,q2⟩:=slot_of hn hN hi
     exact JMR g hpo (ihI _ iter x hx) (JB0 ih hb) (by rw [hN];exact hnd) q1 q2 (.inl (hfn nm)) (JBZ hx X.env)
    ·rename_i ts ht
     obtain ⟨k,p2,e2⟩:=JEt ht
     cases e2
     obtain ⟨is,hi,h⟩:=q_a.mp h
     obtain ⟨x,hx,h⟩:=q_a.mp h
     obtain ⟨b,hb,h⟩:=q_a.mp h
     cases h
     cases hxx:xT G names iter with
     | none =>
      rw [hxx] at hx
      exact JG7 g hpo (ihI _ iter x hx) (JB0 ih hb) hn hN hnd (fun nm=>.inl (hfn nm)) hi (JBZ hx X.env)
     | some q =>
      rw [hxx] at hx
      obtain ⟨y,hy,rfl⟩:=q_d.mp hx
      obtain ⟨q1,q2⟩:=JDZ hxx
      exact JG7 g hpo ((ra.xop q.1 q2).tgt X XX g ts k p2 iter q.2 y (by rw [hn];exact q1) (allA g (fun a x h=>(ihE a x h).1) hy) (JEA hy) (JAM hy)) (JB0 ih hb) hn hN hnd (fun nm=>.inl (hfn nm)) hi (JFe hxx X.env)
    ·cases h
  | Raise exc cause p =>
   simp only [JA2] at h
   obtain ⟨nm,hr0,h9⟩:=q_a.mp h
   clear h
   obtain ⟨p1,m,j,p2,p3,rfl,rfl⟩:=JD1 hr0
   have h:=h9
   clear h9
   split at h
   ·rename_i c hg
    split at h
    case isFalse=>cases h
    rename_i hz
    cases h
    obtain ⟨g1,g2,g3⟩:=JAl hg
    intro pins s σ H D I ⟨δ,O,Hb,hb,so,k⟩
    simp only [exec] at k
    exact hr hz nm c m j p1 p2 p3 p (JBm hn g2) g1 g3 pins s σ H D I (g.anti c Hb H so.same k)
   ·cases h
  | Assign ts e p =>
   have hfn':∀nm,X.fn nm=true\/X.env.scope.names.lookup nm=some .local:=fun nm=>.inl (hfn nm)
   simp only [JA2] at h
   split at h
   ·rename_i nm ht
    obtain ⟨p1,rfl⟩:=JEc ht
    obtain ⟨i,hi,h⟩:=q_a.mp h
    obtain ⟨y,hy,h⟩:=q_a.mp h
    split at h
    ·cases h
    ·rename_i hc
     cases h
     obtain ⟨q1,q2⟩:=slot_of hn hN hi
     have hnd':X.N.Nodup:=by rw [hN];exact hnd
     by_cases h1:JDi e=true
     ·obtain ⟨es,p2,rfl⟩:=JGC h1
      have hf:y.fresh=true:=by
       cases n with
       | zero=>simp [JAA] at hy
       | succ n =>
        simp only [JAA,xOf,xRaw,Option.bind_none] at hy
        split at hy
        ·obtain ⟨z,_,e'⟩:=q_d.mp hy
         subst e';rfl
        ·cases hy
      exact JIs g (JEJ ra g hk hn hN hnd hy) hf hnd' q1 q2 rfl (hfn' nm)
     ·by_cases h2:JDQ e=true
      ·obtain ⟨elt,gens,sc,p2,rfl⟩:=JI2 h2
       obtain ⟨target,iter,ifs,xs,k,y1,z1,w1,e1,e2,bk,hi2,hs2,hrun⟩:=JIc ra g hk hn hN hnd hy
       subst e1;subst e2
       cases hb:(X.env.blockKind==.function&&X.env.kindOf nm==some .local&&p1.line==(Expr.ListComp elt [⟨target,iter,ifs,0⟩] sc p2).pos.line&&!(sc.names.any fun (n,k)=>n==nm&&(k==.local || k==.cell))) with
       | true =>
        have hsw:swapsWith (.ListComp elt [⟨target,iter,ifs,0⟩] sc p2) (some (.Name nm p1)) p.line X.env=pure true:=by rw [<-hb];rfl
        have hloc:X.env.scope.names.lookup nm=some .local:=by
         simp only [q_i,beq_iff_eq] at hb
         exact hb.1.1.2
        exact JMV g (JI3 g bk hi2 hs2 hrun hsw hnd' q1 hloc) rfl
       | false =>
        have hsw:swapsWith (.ListComp elt [⟨target,iter,ifs,0⟩] sc p2) (some (.Name nm p1)) p.line X.env=pure false:=by rw [<-hb];rfl
        exact JIs g (JC8 g bk hi2 hs2 hrun) rfl hnd' q1 q2 hsw (hfn' nm)
      ·have hf:y.fresh=false:=by
        cases hz:y.fresh with
        | false=>rfl
        | true=>exact absurd ⟨hz,by simpa using h1,by simpa using h2⟩ hc
       exact JN7 g (ihE e y hy).1 hf hnd' q1 q2 (JF5 hy (by simpa using h2) _ _ _) (hfn' nm)
   ·rename_i ts ht
    obtain ⟨k,pt,rfl⟩:=JEt ht
    obtain ⟨is,hi,h⟩:=q_a.mp h
    split at h
    ·rename_i hc
     obtain ⟨y,hy,e'⟩:=q_d.mp h
     subst e'
     by_cases ht:isTup e=true
     ·have hp:JE1 names ts e=true:=by
       rcases hc.2 with z | z
       ·rw [ht] at z;cases z
       ·exact z
      have hp':=hp
      unfold JE1 at hp'
      split at hp'
      ·rename_i nx px ny py a b k2 pt2
       obtain ⟨w1,w2,w3,w4⟩:=JEF (env:=X.env) (kt:=k) (pt:=pt) hk hn (fun es e=>by
        subst e
        cases n with
        | zero=>simp [JAA] at hy
        | succ n =>
         simp only [JAA,xOf,xRaw,Option.bind_none] at hy
         split at hy
         ·obtain ⟨z,hz,_⟩:=q_d.mp hy
          unfold JAH at hz
          obtain ⟨z1,hz1,hz⟩:=q_a.mp hz
          obtain ⟨z2,hz2,hz⟩:=q_a.mp hz
          unfold JAH at hz2
          obtain ⟨z3,hz3,hz2⟩:=q_a.mp hz2
          have t1:∀ {e:Expr} {x:E},JAA G n false names N e=some x->(match e with | .Starred ..=>true | _=>false)=false:=by
           intro e x h
           cases e<;>first | rfl | (cases n<;>simp [JAA,xOf,xRaw] at h)
          simp only [List.any_cons,List.any_nil,t1 hz1,t1 hz3,Bool.or_self,Bool.or_false]
         ·cases hy) hp
       simp only [slots] at hi
       obtain ⟨i,hi1,hi⟩:=q_a.mp hi
       obtain ⟨js,hi2,hi⟩:=q_a.mp hi
       obtain ⟨j,hi3,hi2⟩:=q_a.mp hi2
       simp only [Option.bind_some,q_j] at hi2
       subst hi2
       cases hi
       have hy':=hy
       cases n with
       | zero=>simp [JAA] at hy
       | succ n =>
        simp only [JAA,xOf,xRaw,Option.bind_none] at hy
        split at hy
        ·obtain ⟨z,hz,e'⟩:=q_d.mp hy
         subst e'
         have hij:i≠j:=by
          have:=of_decide_eq_true hc.1
          simp at this
          exact this
         exact JOQ g (allA g (fun e x h=>((sound ra n X XX names N g hk hn hN hnd).1 e x h).1) hz) (by rw [hN];exact hnd) (slot_of hn hN hi1).1 (slot_of hn hN hi3).1 hij w3 w4 w1
        ·cases hy
      ·cases hp'
     ·exact JQK g (ihE e y hy).1 hn hN hnd (fun nm=>.inl (hfn nm)) hi (JHy hy _ _ _ _ _) (JFB (by simpa using ht) _ _ _ _)
    ·obtain ⟨es,he,h9⟩:=q_a.mp h
     clear h
     obtain ⟨k2,pt2,rfl⟩:=JGu he
     split at h9
     case isFalse=>cases h9
     rename_i hc
     obtain ⟨q,hq,rfl⟩:=q_d.mp h9
     exact JM2 g (fun e x h=>((sound ra n X XX names N g hk hn hN hnd).1 e x h).1) hk hn hN hnd (fun nm=>.inl (hfn nm)) hi (of_decide_eq_true hc.1) hc.2 hq
   ·cases h
  | Expr e p =>
   simp only [JA2] at h
   split at h
   ·rename_i nm m a hm
    obtain ⟨p1,ap,cp,rfl,hc1⟩:=JFP hm
    split at h
    ·rename_i hc2
     have JEQ:∀ {i},slot names N nm=some i->Vis X.env.scope nm:=fun hi=>by
      rcases (slot_of hn hN hi).2 with k | k
      ·exact .inl k
      ·exact .inr (.inl k)
     split at h
     ·rename_i hm
      subst hm
      obtain ⟨i,hi,h⟩:=q_a.mp h
      obtain ⟨y,hy,e'⟩:=q_d.mp h
      subst e'
      exact JQM g (slot_of hn hN hi).1 (JEQ hi) hc2 (ihE a y hy).1 (JAO hy [] _) hc1
     ·split at h
      ·rename_i hm
       obtain ⟨hm,hl⟩:=hm
       subst hm
       obtain ⟨i,hi,h⟩:=q_a.mp h
       obtain ⟨y,hy,e'⟩:=q_d.mp h
       subst e'
       by_cases hl2:JDi a=true
       ·obtain ⟨es,p2,rfl⟩:=JGC hl2
        exact JP7 g (slot_of hn hN hi).1 (JEQ hi) hc2 (JEJ ra g hk hn hN hnd hy) (JAO hy [] _) hc1
       ·exact JL8 g (slot_of hn hN hi).1 (JEQ hi) hc2 (ihE a y hy).1 (JAO hy [] _) hc1
      ·cases h
    ·cases h
   ·split at h
    ·rename_i nm a b hm
     obtain ⟨p1,ap,cp,rfl,hc1⟩:=JGf hm
     split at h
     ·rename_i hc2
      obtain ⟨i,hi,h⟩:=q_a.mp h
      obtain ⟨y,hy,e'⟩:=q_d.mp h
      subst e'
      have vs:Vis X.env.scope nm:=by
       rcases (slot_of hn hN hi).2 with k | k
       ·exact .inl k
       ·exact .inr (.inl k)
      have s1:=JEA hy a (by simp) [b] X.env
      have s2:=JEA hy b (by simp) [] X.env
      have s3:starEach ([]:List Expr) X.env=[]:=rfl
      rw [s3] at s2
      rw [s2] at s1
      exact JOP g (slot_of hn hN hi).1 vs hc2 (allA g (fun e x h=>((sound ra n X XX names N g hk hn hN hnd).1 e x h).1) hy) s1 s2 hc1
     ·cases h
    ·split at h
     ·rename_i hd
      obtain ⟨y,j,p2,rfl⟩:=JGx hd
      cases h
      exact JQS
     ·split at h
      ·cases h
      ·rename_i hc
       obtain ⟨y,hy,e'⟩:=q_d.mp h
       subst e'
       exact JMk g (ihE e y hy).1 (JF5 hy (by simpa using hc) _ _ _)
  | Try body hs orelse fin p =>
   cases orelse with
   | cons a b=>simp [JA2] at h
   | nil =>
    cases fin with
    | cons a b=>simp [JA2] at h
    | nil =>
     simp only [JA2] at h
     obtain ⟨⟨cn,en,kn⟩,hq,h9⟩:=q_a.mp h
     clear h
     obtain ⟨np,p1,p2,p3,hp,rfl⟩:=JFL hq
     have h:=h9
     clear h9 hq
     simp only at h ⊢
     split at h
     case isFalse=>cases h
     rename_i hc
     obtain ⟨hz,ho,hb,hl⟩:=hc
     split at h
     case h_2=>cases h
     rename_i c hg
     obtain ⟨b,hbb,h⟩:=q_a.mp h
     obtain ⟨i,hi,h⟩:=q_a.mp h
     obtain ⟨j,hj,h⟩:=q_a.mp h
     split at h
     case isTrue=>cases h
     rename_i hij
     cases h
     obtain ⟨g1,g2,g3⟩:=JAl hg
     have hie:slot names N en=some i:=by unfold slot;rw [hl];exact hi
     refine ht hz ho _ _ _ _ _ _ _ _ _ _ _ _ _ _ (fun pn xe XX' po gk=>?_) (JBm hn g2) g1 hb g3 (by rw [hN];exact hnd) (slot_of hn hN hie).1 (by rw [hn];exact hl) (slot_of hn hN hj).1 (slot_of hn hN hj).2 hij
     exact JB0 (JIa ra n (atX X X.A pn xe true) XX' names N false gk hk hn hN hnd po hfn (fun z=>by cases z) (fun z=>by cases z)) hbb
  | _=>simp [JA2] at h
end
end VI
end
section
set_option maxRecDepth 100000
namespace VI
open PySem PySem.Spec PyProof.Rows L2
structure Turned (G:List (Str×GK)) (st:Stmt) (N ps:List Str) (fd:Fd):Prop where
 comp:JAe (JA2 G 60 true (JAU st).names N) (JAx st)=some fd.body
 sc:FnScope N ps (JAU st)
 par:fd.par=ps.length
 slots:fd.slots=N.length
structure DefAt (K:PySem.W.Frag) (mg:Str->Option Value) (G:List (Str×GK)) (x:Str) (fd:Fd):Prop where
 ex:∃f fo st N ps,mg x=some (.ref f)/\Fun K x x st f fo/\Binds K fo ps []/\Turned G st N ps fd
theorem JGp {N:List Str} {ds:List D} {vs:List V} {B:Bs} {H:Hp} {m:Nat} (h:DenL B H ds vs) (hl:N.length=m) (hv:vs.length<=m):SO B H (start N vs) H (ds.map Sl.val++List.replicate (m - ds.length) Sl.no) (fun _=>none):=by
 have hlen:=DenL.len ds vs h
 refine ⟨?_,Same.refl H,(fun i j a e=>by cases e),fun i=>?_⟩
 ·simp only [L2.start,q_u,q_g,List.length_replicate];omega
 ·have hh:hid H (fun _=>none)=H:=by
   funext b
   unfold hid hidP
   rw [if_neg]
   rintro ⟨i,e⟩
   cases e
  by_cases hi:i<ds.length
  ·rw [q_B (by simpa using hi),List.getElem?_map]
   obtain ⟨d,hd⟩:∃d,ds[i]? = some d:=⟨_,q_q hi⟩
   obtain ⟨v,hv,dn⟩:=DenL.get ds vs i d h hd
   rw [hd]
   refine ⟨rfl,v,?_,by rw [hh];exact dn⟩
   unfold L2.start
   rw [q_B (by rw [q_g];omega),List.getElem?_map,hv]
   rfl
  ·rw [List.getElem?_append_right (by simpa using hi),List.getElem?_replicate]
   split
   ·rfl
   ·rfl
section
variable {B:Bs} {G:List (Str×GK)} {tab:Nat->Option Fd} {glo:Nat->R D} {sub:Nat->Nat->Bool}
theorem JM1 {x:Bool} {n i:Nat} {ds:List D} (h:run x tab glo sub n i ds≠.bad):∃fd,tab i=some fd/\ds.length=fd.par:=by
 cases n with
 | zero=>exact absurd rfl h
 | succ n =>
  unfold run at h
  cases e:tab i with
  | none=>rw [e] at h;exact absurd rfl h
  | some fd =>
   have h:JFb x ⟨run x tab glo sub n,glo,sub⟩ fd ds≠.bad:=by rw [e] at h;exact h
   refine ⟨fd,rfl,?_⟩
   unfold JFb at h
   by_cases hl:ds.length=fd.par
   ·exact hl
   ·rw [if_neg hl] at h
    exact absurd rfl h
noncomputable def JNX (K:PySem.W.Frag):Sp:=fun vs H Q E=>∃(a:Addr) (ns:List Int),vs=[.ref a]/\ns.length<=63/\SqL K H a (ns.map V.int)/\∀H',Q (.bl true) H'
theorem JGa {H:Hp}:∀ns:List Int,DenL B H (ns.map fun i=>PyData.int i) (ns.map V.int)
 | []=>by simp only [List.map_nil,DenL]
 | n::ns=>by
  simp only [List.map_cons,DenL]
  exact ⟨_,_,rfl,by simp only [Den],JGa ns⟩
end
end VI
end
section
set_option maxRecDepth 100000
namespace VI
open PySem PySem.Spec PyProof.Rows L2
structure FnIn (K:PySem.W.Frag) (x:Str) (st:Stmt):Prop where
 ex:∃(f:Addr) (oc:Value) (od an:Option Addr) (sl:Array (Option Value)) (kV dc pm cd ct:Value),PySem.W.nsIn K mainGlobals x=some (some (.ref f)) /\
  K.lookup f=some ⟨oc,od,.func (PySem.W.fnOf x x (JA9 st) (JAx st) (JAU st) .none kV dc pm an cd ct),sl⟩/\PySem.W.codeIn K cd x=true/\PySem.W.keepIn K (.ref f)=true
theorem fn_in {K:PySem.W.Frag} {x:Str} {st:Stmt} {f:Addr} {oc:Value} {od an:Option Addr} {sl:Array (Option Value)} {kV dc pm cd ct:Value} (a:PySem.W.nsIn K mainGlobals x=some (some (.ref f)))
  (l:K.lookup f=some ⟨oc,od,.func (PySem.W.fnOf x x (JA9 st) (JAx st) (JAU st) .none kV dc pm an cd ct),sl⟩) (c:PySem.W.codeIn K cd x=true) (k:PySem.W.keepIn K (.ref f)=true):FnIn K x st :=
 ⟨f,oc,od,an,sl,kV,dc,pm,cd,ct,a,l,c,k⟩
noncomputable def JBD (x:Str) (st:Stmt) (ps:List Str):Prop:=∀(kV doc pm:Value) (an:Option Addr) (cdv ct:Value) (us:List Value),us.length=ps.length->bindArgs (PySem.W.fnOf x x (JA9 st) (JAx st) (JAU st) .none kV doc pm an cdv ct) ⟨us,[]⟩=pure (ps.zip us)
theorem FnIn.at {K:PySem.W.Frag} {h:Heap} {mg:Str->Option Value} {G:List (Str×GK)} {x:Str} {st:Stmt} {N ps:List Str} {fd:Fd} (F:FnIn K x st) (X:K.In h) (Gm:h.Ns mainGlobals mg) (b:JBD x st ps) (T:Turned G st N ps fd):DefAt K mg G x fd:=by
 obtain ⟨f,oc,od,an,sl,kV,dc,pm,cd,ct,a,l,c,k⟩:=F.ex
 have Fn:=JKw (st:=st) l c k
 exact ⟨f,_,st,N,ps,PySem.W.mg_of X Gm a,Fn,Fn.binds b,T⟩
noncomputable def AllP (P:Str->GK->Prop):List (Str×GK)->Prop
 | []=>True
 |(x,k)::r=>P x k/\AllP P r
theorem AllP.get {P:Str->GK->Prop}:∀ {G:List (Str×GK)} {x:Str} {k:GK},AllP P G->G.lookup x=some k->P x k
 | [],x,k,_,h=>by cases h
 |(y,j)::r,x,k,⟨h1,h2⟩,h=>by
  rw [List.lookup_cons] at h
  by_cases e:(x==y)=true
  · rw [e] at h
    have e':x=y:=by simpa using e
    cases h
    subst e'
    exact h1
  · have e':(x==y)=false:=by simpa using e
    rw [e'] at h
    exact AllP.get h2 h
end VI
end
section
set_option maxRecDepth 100000
namespace VI
open PySem PySem.Spec PyProof.Rows L2
theorem JEI {o:Expr} (h:JBI o=false) (nm:Str) (env:PySem.Env) (m:Sem Value):attributeBase o nm env m=m:=by
 cases o with
 | Call f as ks p =>
  cases as with
  | nil =>
   cases ks with
   | nil=>cases h
   | cons k ks=>cases f<;>rfl
  | cons a as=>cases f<;>rfl
 | _=>rfl
section
variable {X:Cx} {B:Bs} {C:Cn} {CX:CXT} {XX:Nat->Hp->Prop} {G:List (Str×GK)}
noncomputable def JPZ (B:Bs) (XX:Nat->Hp->Prop):V->List V->Hp->VK->Prop:=fun v vs H Q=>∃dx dy u,Den B H dx v/\vs=[u]/\Den B H dy u/\KE B XX (JE8 dx dy) H Q
noncomputable def JOr (B:Bs) (XX:Nat->Hp->Prop):V->List V->Hp->VK->Prop:=fun v vs H Q=>∃dx dy u,Den B H dx v/\vs=[u]/\Den B H dy u/\KE B XX (JEn dx dy) H Q
theorem JJs (g:Gk X B C CX XX G):MtR X "list.count" (JPZ B XX):=by
 intro pins s σ H v vs vv us Q I rv rs ⟨dx,dy,u,hx,e,hy,k⟩
 subst e
 obtain ⟨w,rfl,rw'⟩:=rs.one
 cases dx with
 | list ds =>
  simp only [JE8] at k
  split at k
  ·rename_i hs
   simp only [JBi,q_i,q_C] at hs
   obtain ⟨bs,rb⟩:=Den.reads g.K I dy u w hs.1.2 hy rw'
   obtain ⟨as,ra⟩:=Den.reads g.K I (.list ds) v vv (by simpa only [PyData.canLay0] using hs.1.1) hx rv
   have hu:=g.units
   have hm:=Nat.min_le_right (PyData.depthAll ds) dy.depth
   cases ra with
   | list h1 h2 h3 h4 =>
    rename_i l o items n as'
    obtain ⟨oc,od,oD,os⟩:=o
    simp only at h2 h3
    subst h2;subst h3
    refine call_meets PySem.F.slot_list_count ⟨_,h1,rfl⟩ PySem.F.entry_list_count (PySem.F.args_list_count_2 _ _) (SeqAt.list_countAt l items n od os w _) ⟨h1,SeqAt.items_eqAt h4 rb hs.1.1 hs.1.2 (by omega),?_⟩
    refine ⟨.int _,H,I.tok _,⟨_,rfl⟩,KE.ok k ?_⟩
    simp only [Den]
    congr 2
    rw [<-SeqAt.readsAll_map ds _ _ hs.1.1 h4,List.countP_map]
    rfl
  ·exact k.elim
 | _=>exact False.elim k
theorem JJn (g:Gk X B C CX XX G):MtR X "list.index" (JOr B XX):=by
 intro pins s σ H v vs vv us Q I rv rs ⟨dx,dy,u,hx,e,hy,k⟩
 subst e
 obtain ⟨w,rfl,rw'⟩:=rs.one
 cases dx with
 | list ds =>
  simp only [JEn] at k
  split at k
  ·rename_i hs
   simp only [JBi,q_i,q_C] at hs
   obtain ⟨bs,rb⟩:=Den.reads g.K I dy u w hs.1.2 hy rw'
   obtain ⟨as,ra⟩:=Den.reads g.K I (.list ds) v vv (by simpa only [PyData.canLay0] using hs.1.1) hx rv
   have hu:=g.units
   have hm:=Nat.min_le_right (PyData.depthAll ds) dy.depth
   split at k
   ·rename_i j hj
    have hz:ds.length<=sizeLine:=by
     simp only [Den] at hx
     obtain ⟨a,xs,e1,q,l⟩:=hx
     obtain ⟨_,_,_,z⟩:=I.list (g.K▸q)
     rw [DenL.len ds xs l];exact z
    cases ra with
    | list h1 h2 h3 h4 =>
     rename_i l o items n as'
     obtain ⟨oc,od,oD,os⟩:=o
     simp only at h2 h3
     subst h2;subst h3
     have hmap:=SeqAt.readsAll_map ds _ _ hs.1.1 h4
     have hlen:items.size=ds.length:=by rw [<-hmap,q_g,q_E]
     obtain ⟨q1,q2,q3⟩:=List.findIdx?_eq_some_iff_getElem.mp hj
     have get:∀m (hm:m<items.size),SeqAt.readOf s.heap items[m]=ds[m]'(by omega):=fun m hm=>by
      have:(items.toList.map (SeqAt.readOf s.heap))[m]'(by simpa using hm)=ds[m]'(by omega):=by simp only [hmap]
      simpa using this
     refine call_meets PySem.F.slot_list_index ⟨_,h1,rfl⟩ PySem.F.entry_list_index (PySem.F.args_list_index_2 _ _) (SeqAt.list_indexAt l items n od os w (fun y=>PyData.eqv (SeqAt.readOf s.heap y) dy) j (by omega) ?_ ?_ ?_) ⟨h1,SeqAt.items_eqAt h4 rb hs.1.1 hs.1.2 (by omega),?_⟩
     ·have:(sizeLine:Int)<2 ^ 63 - 1:=by decide
      omega
     ·simp only [get j (by omega)];exact q2
     ·intro m hm hmj
      simp only [get m hm]
      have:=q3 m hmj
      simpa using this
     ·refine ⟨.int _,H,I.tok _,⟨_,rfl⟩,KE.ok k ?_⟩
      simp only [Den]
   ·exact False.elim k
  ·exact k.elim
 | _=>exact False.elim k
theorem few1 {a:Expr} {cp:Pos} (hs:starEach [a] X.env=[(false,eval a X.env)]):((backTo cp (starEach [a] X.env)).all (fun x=>!x.1)&&(backToKw cp (keywordEach [] X.env)).all (fun x=>x.1.isSome)
  && decide (([a]:List Expr).length+([]:List Keyword).length+(if ([]:List Keyword).isEmpty then 0 else 1)<30))=true:=by
 rw [hs];rfl
theorem JPI (g:Gk X B C CX XX G) {o a:Expr} {x y:E} {ap cp:Pos} {m:Str} {id:String} {f:D->D->R D} (slot:Slot "list" m id) (hty:typeOf (.builtin id)=pure (.type "method_descriptor"))
  (hm:MtR X id (fun v vs H Q=>∃dx dy u,Den B H dx v/\vs=[u]/\Den B H dy u/\KE B XX (f dx dy) H Q)) (ho:JBI o=false) (hl:(ap.endLine==cp.line)=true) (hx:PE X o (RE B C XX x)) (hy:PE X a (RE B C XX y)) (hs:starEach [a] X.env=[(false,eval a X.env)]) {z:E}
  (hz:∀δ,ev C z δ=(ev C x δ).bind fun x=>if JMQ x=true then (ev C y δ).bind fun y=>f x y else .bad):PE X (.Call (.Attribute o m ap) [a] [] cp) (RE B C XX z):=by
 refine PE.imp (JIK PySem.F.plainAttrs_list slot hty hm hx (JBA hy JBk hs) (JEI ho _ _ _) (few1 hs) hl hs rfl) fun σ H Q ⟨δ,ok,h⟩=>?_
 rw [hz] at h
 refine RE.of (W:=fun r H=>KE B XX r H Q) ok (fun _ _ z=>z) (fun _ z=>z) h fun dx v H1 s1 d1 h1=>?_
 cases dx with
 | list ds =>
  have d1':=d1
  simp only [Den] at d1'
  obtain ⟨l,xs,e,q,dl⟩:=d1'
  subst e
  refine ⟨.inl ⟨rfl,xs,by rw [g.K];exact q⟩,?_⟩
  refine RE.of (W:=fun r H=>KE B XX r H Q) (ok.mono s1) (fun _ _ z=>z) (fun _ z=>z) (KE.mono g s1 h1) fun dy u H2 s2 d2 h2=>?_
  exact ⟨_,_,_,Den.mono s2 _ _ d1,rfl,d2,KE.mono g s2 h2⟩
 | _=>exact False.elim h1
theorem JM3 (g:Gk X B C CX XX G) (o a:Expr) (x y:E) (ap cp:Pos) (ho:JBI o=false) (hl:(ap.endLine==cp.line)=true) (hx:PE X o (RE B C XX x)) (hy:PE X a (RE B C XX y)) (hs:starEach [a] X.env=[(false,eval a X.env)]) :
  PE X (.Call (.Attribute o "count" ap) [a] [] cp) (RE B C XX (.mcount x y)) :=
 JPI g PySem.F.slot_list_count PySem.F.type_list_count (JJs g) ho hl hx hy hs fun δ=>by simp only [ev]
theorem JNh (g:Gk X B C CX XX G) (o a:Expr) (x y:E) (ap cp:Pos) (ho:JBI o=false) (hl:(ap.endLine==cp.line)=true) (hx:PE X o (RE B C XX x)) (hy:PE X a (RE B C XX y)) (hs:starEach [a] X.env=[(false,eval a X.env)]) :
  PE X (.Call (.Attribute o "index" ap) [a] [] cp) (RE B C XX (.mindex x y)) :=
 JPI g PySem.F.slot_list_index PySem.F.type_list_index (JJn g) ho hl hx hy hs fun δ=>by simp only [ev]
theorem JGL {H:Hp} {x:Str} {z d:D}:∀ {kvs:List (D×D)} {xs:List (Key×V)},DenK B H kvs xs->getD kvs x z=.ok d ->
  (∃v,(xs.find? fun p=>p.1=Sum.inr x).map (·.2)=some v/\Den B H d v)\/((xs.find? fun p=>p.1=Sum.inr x).map (·.2)=none/\d=z)
 | [],xs,h,e=>by
  simp only [DenK] at h
  subst h
  simp only [getD,R.ok.injEq] at e
  exact .inr ⟨rfl,e.symm⟩
 |(k,d')::r,xs,h,e=>by
  simp only [DenK] at h
  obtain ⟨y,v,t,e1,e2,q,l⟩:=h
  subst e1;subst e2
  simp only [getD] at e
  simp only [List.find?_cons]
  split at e
  · rename_i hk
    subst hk
    cases e
    simp only [decide_true,Option.map_some]
    exact .inl ⟨v,rfl,q⟩
  · rename_i hk
    have:¬((Sum.inr y:Key)=Sum.inr x):=fun z=>hk (Sum.inr.inj z)
    simp only [this,decide_false]
    exact JGL l e
theorem r_get (g:Gk X B C CX XX G) (o a b:Expr) (x y z:E) (ap cp:Pos) (ho:JBI o=false) (hl:(ap.endLine==cp.line)=true) (hx:PE X o (RE B C XX x)) (hy:PE X a (RE B C XX y)) (hz:PE X b (RE B C XX z))
  (hs:starEach [a,b] X.env=[(false,eval a X.env),(false,eval b X.env)]) (hs2:starEach [b] X.env=[(false,eval b X.env)]):PE X (.Call (.Attribute o "get" ap) [a,b] [] cp) (RE B C XX (.mget x y z)):=by
 intro pins s σ H Q I ⟨δ,ok,h⟩
 simp only [ev] at h
 have hA:PA X [a,b] (RA B C XX (.cons y (.cons z .nil))):=JF0 g hy (JF0 g hz JNM (by rw [hs2];rfl)) (by rw [hs,hs2])
 refine wpAny_Call_method_late (JEI ho _ _ _) (by rw [hs];rfl) hl rfl (thn (hx pins s σ H (fun v H1=>∃dx,Den B H1 dx v/\Same H H1/\KE B XX (if JJe dx=true then (ev C y δ).bind fun y=>(ev C z δ).bind fun z=>JDr dx y z else .bad) H Q) I
  (RE.of (W:=fun r H=>KE B XX r H Q) ok (fun _ _ z=>z) (fun _ z=>z) h fun dx v H1 s1 d1 h1=>⟨dx,d1,s1,h1⟩)) fun v s1 ⟨vx,H1,I1,r1,dx,d1,sm,h1⟩=>?_)
 cases hd:JJe dx with
 | false=>rw [hd] at h1;exact False.elim h1
 | true =>
  rw [hd] at h1
  have h1:KE B XX ((ev C y δ).bind fun y=>(ev C z δ).bind fun z=>JDr dx y z) H Q:=h1
  have hk:∃kvs p xs,dx=.dict kvs/\vx=.ref p/\SqD B.K B.w H1 p xs/\DenK B H1 kvs xs:=by
    cases dx with
    | dict kvs =>
     simp only [Den] at d1
     rcases d1 with ⟨p,c,e1,e2,_⟩ | ⟨p,xs,e1,e2,e3⟩
     ·subst e2
      cases hd
     ·exact ⟨kvs,p,xs,rfl,e1,e2,e3⟩
    | _=>cases hd
  obtain ⟨kvs,p,xs,rfl,rfl,sq,dk⟩:=hk
  cases r1
  rw [<-g.K,<-g.W] at sq
  have ex:=SqD.at I1 sq
  obtain ⟨hsys,vs,kv,dd⟩:=ex
  have dd':=dd
  obtain ⟨ob,es,ep,ho',hex,_⟩:=dd'
  refine ⟨"dict",_,PySem.F.plainAttrs_dict,PySem.F.slot_dict_get,PySem.F.type_dict_get,dd.typeIs,fun q e=>?_,?_⟩
  · cases e
    exact ⟨ob,ho',hex.2.1⟩
  · have run:=hA cp pins s1 σ H1 (fun us H2=>∃dy dz,Same H1 H2/\DenL B H2 [dy,dz] us/\KE B XX (JDr (.dict kvs) dy dz) H Q) I1 (by
     refine ⟨δ,ok.mono sm,?_⟩
     simp only [evA]
     cases q1:ev C y δ with
     | ok dy =>
      rw [q1] at h1
      cases q2:ev C z δ with
      | ok dz=>rw [q2] at h1;exact fun us H2 s2 d2=>⟨dy,dz,s2,d2,h1⟩
      | exc c=>rw [q2] at h1;exact g.anti c H H1 sm h1
      | bad=>rw [q2] at h1;exact h1
     | exc c=>rw [q1] at h1;exact g.anti c H H1 sm h1
     | bad=>rw [q1] at h1;exact h1)
    rw [hs] at run ⊢
    refine Calls.callWith_builtin rfl (Calls.evalArgs_plain (thn run fun us s2 ⟨ws,H2,I2,r2,dy,dz,s12,dl,hq⟩=>?_))
    simp only [DenL] at dl
    obtain ⟨u1,t1,e1,q1,u2,t2,e2,q2,e3⟩:=dl
    subst e3;subst e2;subst e1
    obtain ⟨w1,w2,rfl,rw1,rw2⟩:=r2.two
    cases dy with
    | str k =>
     simp only [Den] at q1
     subst q1
     obtain ⟨tk,rfl⟩:=rw1
     obtain ⟨hsys,vs,kv,dd⟩:=SqD.at I2 (JQi s12 sq)
     refine call_meetsIn PySem.F.slot_dict_get dd.typeIs PySem.F.entry_dict_get (PySem.F.args_dict_get_3 _ _ _) (meets_dict_get_default (JBC X.prog X.w) p (JBn _ _ k tk) hsys w2) ⟨_,dd.mapOf,?_⟩
     have dk2:=DenK.mono s12 kvs xs dk
     simp only [JDr] at hq
     cases hg:getD kvs k dz with
     | ok d =>
      rw [hg] at hq
      rcases JGL dk2 hg with ⟨v,f1,f2⟩ | ⟨f1,f2⟩
      ·obtain ⟨u,g1,g2⟩:=(JFS kv).1 v f1
       refine ⟨v,H2,I2.tok _,by rw [g1];exact g2,hq v H2 (sm.trans s12) f2⟩
      ·have g1:=(JFS kv).2 f1
       subst f2
       refine ⟨u2,H2,I2.tok _,by rw [g1];exact rw2,hq u2 H2 (sm.trans s12) q2⟩
     | exc c =>
      exfalso
      have:∀kvs:List (D×D),getD kvs k dz≠.exc c:=by
       intro kvs
       induction kvs with
       | nil=>intro h;cases h
       | cons p r ih =>
        obtain ⟨a,b⟩:=p
        cases a<;>simp only [getD]<;>first | (intro h;cases h;done) | skip
        split
        ·intro h;cases h
        ·exact ih
      exact this kvs hg
     | bad=>rw [hg] at hq;exact False.elim hq
    | _=>exact False.elim hq
end
end VI
end
section
set_option maxRecDepth 100000
namespace VI
open PySem PySem.Spec PyProof.Rows L2
noncomputable def TrAt (h:Heap) (e T:Addr) (cls:Value):Prop:=∃oe vs a0 oT ts,h.get? e=some oe/\(oe.cls=cls/\vs[0]? = some a0)/\oe.data=.fields vs/\vs[1]? = some (.ref T)/\T≠e/\h.get? T=some oT/\oT.data=.fields ts/\ts[3]? = some .none
noncomputable def CXV (P:Program) (w:World) (B:Bs):CXT:=fun outer H s E e s'=>∃(ea T:Addr) (c:Nat) (H':Hp),e=.ref ea/\s'.os=s.os/\AllBare s'.gens/\Un (frs outer) [] H H' s.heap s'.heap/\HOk P w H' s'.heap /\
 TrAt s'.heap ea T (.ref (B.cl c))/\(s.heap.get? ea=none/\H' ea=none)/\(s.heap.get? T=none/\H' T=none)/\E (.ref (B.cl c)) none H'
theorem JGW {P:Program} {w:World} {H:Hp} {h:Heap} {a:Addr} {o:HO} (x:HOk P w H h) (q:H a=some o):∃u,h.get? a=some u:=by
 have:=x a o q
 cases o with
 | lst xs=>obtain ⟨_,_,_,_,e⟩:=this;exact ⟨_,e⟩
 | tup xs=>obtain ⟨_,_,_,_,e,_⟩:=this;exact ⟨_,e⟩
 | dK kvs=>obtain ⟨_,_,_,_,_,_,_,e,_⟩:=this;exact ⟨_,e⟩
 | dT kvs=>obtain ⟨_,_,_,_,_,_,_,e,_⟩:=this;exact ⟨_,e⟩
 | set S n=>obtain ⟨_,_,_,_,e,_⟩:=this;exact ⟨_,e⟩
 | ins C dx fs=>obtain ⟨_,_,_,e,_⟩:=this;exact ⟨_,e⟩
 | own y=>exact this
 | xd fs=>obtain ⟨_,⟨_,_,_,e,_⟩,_⟩:=this;exact ⟨_,e⟩
 | rng lo hi=>obtain ⟨_,_,_,e⟩:=this;exact ⟨_,e⟩
 | frz ob u=>exact ⟨_,this.1⟩
 | tbl ps=>exact ⟨_,this⟩
 | met f y=>exact ⟨_,this⟩
 | ext φ=>exact this.2.1
theorem JJq {P:Program} {w:World} {H:Hp} {h:Heap} {a:Addr} (x:HOk P w H h) (q:h.get? a=none):H a=none:=by
 cases z:H a with
 | none=>rfl
 | some o =>
  obtain ⟨u,e⟩:=JGW x z
  rw [q] at e;cases e
section
variable {X:Cx} {pins:List (Addr×Obj)} {σ:St} {H':Hp} {s1:Shared} {h2:Heap}
theorem JDW (I:Inv X pins σ H' s1) (up:s1.heap.UpToSlots h2) {b:Addr} (hb:b∈frs X.stack):∃o,h2.get? b=some o/\∀vs,o.data≠.fields vs:=by
 obtain ⟨_,o,ho,hd⟩:=I.stack.mem hb
 obtain ⟨sl,hs⟩:=up b o ho hd
 exact ⟨_,hs,hd⟩
theorem JHo (I:Inv X pins σ H' s1) (hex:X.ex=[]) {as:List Addr} (has:∀b∈as,b∈frs X.stack\/(X.s₀.heap.get? b=none/\H' b=none)) {ea:Addr} {cls a0:Value} {l:List PySem.Env}
  (fl:Heap.FlyingW (PySem.W.hideAll s1.heap as) l ea cls a0 h2) (up:s1.heap.UpToSlots h2) :
  Un X.fs [] X.H₀ H' X.s₀.heap h2/\HOk X.prog X.w H' h2/\∃T,TrAt h2 ea T cls/\X.s₀.heap.get? T=none/\H' T=none:=by
 obtain ⟨st,fe,ff,oe,vs,T,oT,ts,q1,q2,q3,q4,q5,q6,q7,q8,q9⟩:=fl
 have U:=I.base
 rw [hex] at U
 have sub:∀b∈X.fs,b∈frs X.stack:=fun b hb=>by
  rcases I.ok.stk with e | ⟨e,hf⟩
  · rw [e];exact hb
  · rw [e]
    unfold frs
    rw [List.filterMap_cons,hf]
    exact q_s _ hb
 have loc:∀b o,X.s₀.heap.get? b=some o->b ∉ X.fs->b ∉ frs X.stack:=fun b o e n z=>by
  rcases q_n.mp (I.stkSub b z) with q | q
  · rw [q] at e
    exact absurd (q_h e) (Nat.not_lt.mpr I.ok.above)
  · exact n q
 have out:∀b o,X.s₀.heap.get? b=some o->b ∉ frs X.stack->b ∉ as:=fun b o e n z=>by
  rcases has b z with q | ⟨q,_⟩
  · exact n q
  · rw [q] at e;cases e
 have keep:∀b o,s1.heap.get? b=some o->b ∉ as->h2.get? b=some o:=fun b o e n=>st b o (PySem.W.hideAll_get _ e n)
 have trk:∀b o,H' b=some o->b ∉ as:=fun b o e z=>by
  rcases has b z with q | ⟨_,q⟩
  · rw [I.stkFree b q] at e;cases e
  · rw [q] at e;cases e
 refine ⟨⟨fun b o e n hf hx=>keep b o (U.keep b o e n hf hx) (out b o e (loc b o e hf)),fun b o e n hf hx=>?_,U.free,fun b o e hx=>?_,U.tups,U.frzs,U.tbls⟩,fun a o e=>?_,T,⟨oe,vs,a0,oT,ts,q1,q2,q3,q4,q6,q7,q8,q9⟩,?_,?_⟩
 ·obtain ⟨sl,e1⟩:=U.slot b o e n hf hx
  obtain ⟨_,o',ho',hd'⟩:=I.stack.mem (sub b hf)
  rw [e1] at ho'
  cases ho'
  obtain ⟨sl',e2⟩:=up b _ e1 hd'
  exact ⟨sl',e2⟩
 ·obtain ⟨o',e1⟩:=U.there b o e hx
  by_cases hb:b∈frs X.stack
  · obtain ⟨o2,e2,_⟩:=JDW I up hb
    exact ⟨o2,e2⟩
  · exact ⟨o',keep b o' e1 (out b o e hb)⟩
 ·refine (I.hok a o e).stay (fun b u hb eb=>keep b u eb ?_) (fun _ q=>q) fun _ _ q=>q
  rcases hb with rfl | hb
  · exact trk _ _ e
  · exact trk _ _ hb
 ·cases q:X.s₀.heap.get? T with
  | none=>rfl
  | some o =>
    exfalso
    obtain ⟨o',e1⟩:=U.there T o q (by simp)
    by_cases hb:T∈frs X.stack
    ·obtain ⟨o2,e2,hd⟩:=JDW I up hb
     rw [q7] at e2;cases e2
     exact hd _ q8
    ·have:=PySem.W.hideAll_get as e1 (out T o q hb)
     rw [q5] at this;cases this
 ·cases q:H' T with
  | none=>rfl
  | some o =>
    exfalso
    have hl:=(I.hok T o q).lt
    have hn:=trk T o q
    obtain ⟨u,e⟩:=JGW I.hok q
    have:=PySem.W.hideAll_get as e hn
    rw [q5] at this;cases this
end
section
variable {P:Program} {w:World} {B:Bs} {mg:Str->Option Value} {base:Heap} {N:List Str} {qual:Str} {scope:Scope} {f:Addr} {cd:Value} {A:Around} {outer:List PySem.Env} {s:Shared} {H:Hp} {E:XK}
abbrev XXd (B:Bs) (E:XK):Nat->Hp->Prop:=fun c H1=>∀H',Same H1 H'->E (.ref (B.cl c)) none H'
theorem JMq:JDL (CXV P w B) (cxOf (CXV P w B) P w B.K mg base N qual scope f cd A outer s H E) (EX B (XXd B E)):=by
 intro pins σ H1 s1 e s' I ⟨ea,T,c,H',e1,os,bare,un,hok,tr,⟨f1,f2⟩,⟨f3,f4⟩,⟨c',ec,hE⟩⟩
 subst e1
 have I':=I.call' (ch:=[]) os un hok bare (fun b hb=>by simp at hb)
 obtain ⟨oe,vs,a0,oT,ts,q1,q2,q3,q4,q6,q7,q8,q9⟩:=id tr
 have fr0:∀b,s1.heap.get? b=none->s.heap.get? b=none:=fun b q=>by
  cases z:s.heap.get? b with
  | none=>rfl
  | some o =>
   obtain ⟨o',e2⟩:=I.base.there b o z (by simp [cxOf])
   rw [q] at e2;cases e2
 have has:∀b∈(ea::T::frs (cxOf (CXV P w B) P w B.K mg base N qual scope f cd A outer s H E).stack),b∈frs (cxOf (CXV P w B) P w B.K mg base N qual scope f cd A outer s H E).stack\/(s.heap.get? b=none/\H' b=none):=fun b hb=>by
  rcases q_n.mp hb with rfl | hb
  ·exact .inr ⟨fr0 _ f1,f2⟩
  ·rcases q_n.mp hb with rfl | hb
   ·exact .inr ⟨fr0 _ f3,f4⟩
   ·exact .inl hb
 refine PySem.wpAny_leaves_onW (base:=PySem.W.hideAll s'.heap (ea::T::frs (cxOf (CXV P w B) P w B.K mg base N qual scope f cd A outer s H E).stack)) (outer:=outer) (cls:=.ref (B.cl c)) (a0:=a0) I'.ok.frames rfl
  ⟨fun b o q=>PySem.W.of_hideAll _ q,PySem.W.hideAll_none _ (by simp),PySem.W.funFrames_hide I'.stack (fun env he a hf=>q_s _ (q_s _ (List.mem_filterMap.mpr ⟨env,he,hf⟩))),oe,vs,T,oT,ts,q1,q2,q3,q4,PySem.W.hideAll_none _ (by simp),q6,q7,q8,q9⟩ fun h2 fl up=>?_
 obtain ⟨u2,hok2,T2,tr2,t1,t2⟩:=JHo I' rfl has fl up
 refine ⟨ea,T2,c,H',rfl,?_,bare,u2,hok2,tr2,⟨fr0 _ f1,f2⟩,⟨t1,t2⟩,?_⟩
 ·exact os.trans I.os
 ·rw [ec];exact hE H' (Same.refl H')
theorem JIH:∀(outer:List PySem.Env) (H:Hp) (s:Shared) (e:Value) (s':Shared),¬CXV P w B outer H s (EX B fun _ _=>False) e s':=by
 rintro outer H s e s' ⟨ea,T,c,H',_,_,_,_,_,_,_,_,c',_,z⟩
 exact z
end
end VI
end
section
set_option maxRecDepth 100000
namespace VI
open PySem PySem.Spec PyProof.Rows L2
abbrev bmV:List Value:=[.type "ValueError",.type "Exception",.type "BaseException",.type "object"]
theorem JNe {K:PySem.W.Frag} {h:Heap} {C:Addr} {bmB:List Value} {newId:String} (X:K.In h) (q:PySem.W.excIn K C bmB newId=true) :
  ∃(bm:List Value) (N:Addr) (nm qn:Str) (bs:List Value) (hdct:Bool) (sn:List Str) (sub:List Value) (ab:Bool) (col:Option Bool) (dd:Option Addr) (k0 k1 k2 k3 k5:Option Value) (mN:Str->Option Value),
   h.get? C=some (excClassObj nm qn C N bs bm hdct sn sub ab col dd k0 k1 k2 k3 k5 newId)/\h.Ns N mN/\mN "__init__"=none/\OwnTail h bmB bm:=by
 unfold PySem.W.excIn at q
 split at q
 case h_2=>cases q
 rename_i od cdat slots hlook
 split at q
 case h_2=>cases q
 rename_i C2 tl a0 a1 a2 a3 idn a5 hmro hsl
 simp only [q_i,beq_iff_eq,Bool.not_eq_true'] at q
 obtain ⟨⟨⟨⟨⟨e1,e2⟩,e3⟩,e4⟩,e5⟩,e6⟩:=q
 subst e1;subst e2
 cases cdat with
 | mk nm bs mro ns qn hd sn sub ab col del =>
  simp only at hmro e3 e5 e6
  subst hmro;subst e3
  cases slots with
  | mk l =>
   simp only at hsl
   subst hsl
   exact ⟨tl,ns,nm,qn,bs,hd,sn,sub,ab,col,od,a0,a1,a2,a3,a5,_,X _ _ hlook,.of_isNs (PySem.W.isNs_of_in X e5),PySem.W.nsMap_none_of_in X e5 e6,PySem.W.tail_of_in X e4⟩
section
variable {P:Program} {w:World} {B:Bs} {mg:Str->Option Value} {base:Heap} {N:List Str} {qual:Str} {scope:Scope} {f:Addr} {cd:Value} {A:Around} {outer:List PySem.Env} {s:Shared} {H:Hp} {E:XK} {G:List (Str×GK)}
structure Cl (mg:Str->Option Value) (B:Bs) (G:List (Str×GK)):Prop where
 mgc:∀x c,G.lookup x=some (.cls c)->mg x=some (.ref (B.cl c))
 exc:∀x c,G.lookup x=some (.cls c)->∃Bn inN bmN newId,ExcBaseFacts Bn newId inN bmN/\bmV.contains (.type Bn)=true/\PySem.W.excIn B.K (B.cl c) bmV newId=true
theorem JGr (cl:Cl mg B G) (hA:A.handled=none):JKq (cxOf (CXV P w B) P w B.K mg base N qual scope f cd A outer s H E) B G (XXd B E):=by
 intro nm c m j p1 p2 p3 pos hg hb hl pins s1 σ H1 D I hx
 obtain ⟨Bn,inN,bmN,newId,Fn,hBn,q⟩:=cl.exc nm c hl
 obtain ⟨bm,N',nm',qn,bs,hdct,sn,sub,ab,col,dd,k0,k1,k2,k3,k5,mN,hC,hN,hni,TL⟩:=JNe I.kIn q
 refine wpAny_Raise_call_subU (C:=B.cl c) (nm:=nm') (q:=qn) (N:=N') (bs:=bs) (bm:=bm) (hdct:=hdct) (sn:=sn) (sub:=sub) (ab:=ab) (col:=col) (dd:=dd) (k0:=k0) (k1:=k1) (k2:=k2) (k3:=k3) (k5:=k5)
  Fn hBn PySem.F.excBase_ValueError (mN:=mN) (TL.hasType PySem.F.excBase_ValueError.hasBase) hA rfl hni (JDs I hg (cl.mgc nm c hl) ⟨rfl,?_⟩ (JAB hb).1)
 refine Calls.evalArgs_plain (Calls.spliced_cons (Calls.Constant_str (k:=j) (pos:=p2) (Calls.spliced_nil ⟨rfl,(show (1:Nat)<=sizeLine by decide),hC,hN,TL,fun h' e hx'=>?_⟩)))
 have none0:s.heap.get? e=none:=by
  cases z:s.heap.get? e with
  | none=>rfl
  | some o =>
    obtain ⟨o',e2⟩:=I.base.there e o z (by simp [cxOf])
    have:=hx'.new
    rw [e2] at this;cases this
 refine PySem.wpAny_leaves_madeW (base:=PySem.W.hideAll s1.heap (frs (cxOf (CXV P w B) P w B.K mg base N qual scope f cd A outer s H E).stack)) (outer:=outer) I.ok.frames rfl (fun b o q=>PySem.W.of_hideAll _ q)
  (PySem.W.funFrames_hide I.stack (fun env he a hf=>List.mem_filterMap.mpr ⟨env,he,hf⟩)) hx' fun h2 t x1 x2 x3 x4=>?_
 obtain ⟨u2,hok2,T2,tr2,t1,t2⟩:=JHo I rfl (fun b hb=>.inl hb) x1 ((Heap.UpToSlots.of_keeps hx'.keeps).trans x4)
 exact ⟨e,T2,c,H1,rfl,I.os,I.bare,u2,hok2,tr2,⟨none0,JJq I.hok hx'.new⟩,⟨t1,t2⟩,hx H1 (Same.refl H1)⟩
end
end VI
end
section
set_option maxRecDepth 100000
namespace VI
open PySem PySem.Spec PyProof.Rows L2
section
variable {X:Cx} {pins pins' pn:List (Addr×Obj)} {σ:St} {H:Hp} {s:Shared} {A:Around} {xe:Value->Shared->Prop} {calm:Bool} {h2:Heap}
theorem JGQ (I:Inv X pins σ H s) (hA:A.frames=X.A.frames) (hc:calm=true->A.handled=none) (hp:∀p∈pn++pins',p∈X.pn++pins):Inv (atX X A pn xe calm) pins' σ H s :=
 let ok:=I.ok
 ⟨⟨ok.mod,ok.kind,ok.glob,ok.blt,ok.above,ok.inj,ok.has,ok.cab,hc,hA.trans ok.frames,ok.stk,ok.exf,ok.bs,ok.bsz,ok.noex,ok.exfs,ok.funs,ok.frf⟩,I.os,I.bare,I.base,I.loc,I.cell,I.free,I.freeC,fun p q=>I.pin p (hp p q),I.hok,I.len⟩
theorem JDY (I:Inv (atX X A pn xe calm) pins' σ H s) (hA:X.A.frames=A.frames) (hc:X.calm=true->X.A.handled=none) (hp:∀p∈X.pn++pins,p∈pn++pins'):Inv X pins σ H s :=
 let ok:=I.ok
 ⟨⟨ok.mod,ok.kind,ok.glob,ok.blt,ok.above,ok.inj,ok.has,ok.cab,hc,hA.trans ok.frames,ok.stk,ok.exf,ok.bs,ok.bsz,ok.noex,ok.exfs,ok.funs,ok.frf⟩,I.os,I.bare,I.base,I.loc,I.cell,I.free,I.freeC,fun p q=>I.pin p (hp p q),I.hok,I.len⟩
theorem JHp (I:Inv X pins σ H s) (hex:X.ex=[]) {as:List Addr} (has:∀b∈as,b∈frs X.stack\/(X.s₀.heap.get? b=none/\H b=none)) (hpin:∀p∈X.pn++pins,p.1 ∉ as) {ea:Addr} {cls a0:Value} {l:List PySem.Env}
  (fl:Heap.FlyingW (PySem.W.hideAll s.heap as) l ea cls a0 h2) (up:s.heap.UpToSlots h2) (t:Nat):Inv X pins σ H { s with heap:=h2,toks:=t }:=by
 obtain ⟨u2,hok2,_⟩:=JHo I hex has fl up
 obtain ⟨m,hn,hl⟩:=id I.loc
 have cell:∀ {c:Addr} {v:Option Value},s.heap.IsCell c v->h2.IsCell c v:=fun {c v} ⟨o,ho,hd⟩=>by
  obtain ⟨sl,e⟩:=up c o ho (fun vs q=>by rw [hd] at q;cases q)
  exact ⟨_,e,hd⟩
 refine ⟨I.ok,I.os,I.bare,by rw [hex];exact u2,⟨m,up.ns hn,fun i x v e1 e2 e3=>?_⟩,fun x c e=>?_,I.free,I.freeC,fun p hp=>?_,hok2,I.len⟩
 ·obtain ⟨u,r,q⟩:=hl i x v e1 e2 e3
  refine ⟨u,r,?_⟩
  rcases q with q | ⟨k,c,e,z⟩
  · exact .inl q
  · exact .inr ⟨k,c,e,cell z⟩
 ·obtain ⟨v,z⟩:=I.cell x c e
  exact ⟨v,cell z⟩
 ·obtain ⟨e,n,ne,nf,d⟩:=I.pin p hp
  exact ⟨fl.1 _ _ (PySem.W.hideAll_get _ e (hpin p hp)),n,ne,nf,d⟩
theorem JH0 (I:Inv X pins σ H s) {ea C:Addr} {oe:Obj} {vs:Array Value} (he:s.heap.get? ea=some oe) (hc:oe.cls=.ref C) (hd:oe.data=.fields vs) (h0:X.s₀.heap.get? ea=none) (hn:H ea=none) (hpin:∀p∈X.pn++pins,p.1≠ea) :
  Inv X pins σ (upd H ea (.ext (ExcAt ea C))) s:=by
 have hloc:ea≠X.env.locals:=fun z=>by
  obtain ⟨m,⟨o,es,ep,ho,hdo,_⟩,_⟩:=I.loc
  rw [<-z,he] at ho
  cases ho
  rw [hd] at hdo;cases hdo
 have hcell:∀x c,X.env.cells.lookup x=some c->c≠ea:=fun x c e z=>by
  obtain ⟨v,o,ho,hdo⟩:=I.cell x c e
  rw [z,he] at ho
  cases ho
  rw [hd] at hdo;cases hdo
 have U:=I.base
 refine ⟨I.ok,I.os,I.bare,⟨U.keep,U.slot,fun b o e n hx=>?_,U.there,fun b xs e=>?_,fun b o u e=>?_,fun b ps e=>?_⟩,I.loc,I.cell,?_,fun x c e=>?_,fun p hp=>?_,fun a o e=>?_,I.len⟩
 ·rw [JAF fun z=>by rw [z,h0] at e;cases e]
  exact U.free b o e n hx
 ·have q:=U.tups b xs e
  rw [JAF fun z=>by rw [z,hn] at q;cases q]
  exact q
 ·have q:=U.frzs b o u e
  rw [JAF fun z=>by rw [z,hn] at q;cases q]
  exact q
 ·obtain ⟨more,q⟩:=U.tbls b ps e
  exact ⟨more,by rw [JAF fun z=>by rw [z,hn] at q;cases q];exact q⟩
 ·rw [JAF hloc.symm];exact I.free
 ·rw [JAF (hcell x c e)];exact I.freeC x c e
 ·obtain ⟨e,n,ne,nf,d⟩:=I.pin p hp
  exact ⟨e,by rw [JAF (hpin p hp)];exact n,ne,nf,d⟩
 ·by_cases ha:a=ea
  ·subst ha
   rw [JAC] at e
   cases e
   refine ⟨⟨oe,he,hc⟩,⟨oe,he⟩,fun h1 h2 ⟨o1,q1,q2⟩ k=>⟨o1,k o1 q1,q2⟩⟩
  ·rw [JAF ha] at e
   have ne:∀b o,H b=some o->b≠ea:=fun b o q z=>by rw [z,hn] at q;cases q
   exact (I.hok a o e).stay (fun b u _ q=>q) (fun b q=>by rw [JAF (ne b _ q)];exact q) fun b xs q=>by rw [JAF (ne b _ q)];exact q
theorem JHk {M:Model} {A:Around} {E:Value->Shared->Prop} {i:Nat} {x:Str} {v:V} {Q:Unit->Shared->Prop} (I:Inv X pins σ H s) (hN:X.N.Nodup) (hi:X.N[i]? = some x) (hx:X.env.scope.names.lookup x=some .local) (hv:σ[i]? = some (some v))
  (h:∀s',Inv X pins (σ.set i none) H s'->Q () s'):wpAny M A (unbindName X.env x) Q E s:=by
 obtain ⟨m,hn,hl⟩:=id I.loc
 obtain ⟨u,r,q⟩:=hl i x v hi hv (.inl hx)
 have hm:m x=some u:=by
  rcases q with ⟨_,q⟩ | ⟨k,_⟩
  · exact q
  · have hk:X.env.kindOf x=some .local:=hx
    rcases k with k | k<;>rw [hk] at k<;>cases k
 have hcls:(X.env.scope.kind==.class || (X.env.scope.kind==.module&&X.env.locals != X.env.globals))=false:=by rw [I.ok.kind];rfl
 refine wpAny_unbindName_local hx hn hm hcls fun h' u' hn' hs=>h _ ?_
 obtain ⟨oL,_,_,hoL,_⟩:=id hn
 have old:∀b o,X.s₀.heap.get? b=some o->h'.get? b=s.heap.get? b:=fun b o e=>hs.2 b (q_l (q_m (q_h e) I.ok.above))
 have trk:∀b o,H b=some o->b≠X.env.locals:=fun b o e z=>by rw [z,I.free] at e;cases e
 have U:=I.base
 refine ⟨I.ok,I.os,I.bare,⟨fun b o e n hb hx=>(old b o e).trans (U.keep b o e n hb hx),fun b o e n hb hx=>?_,U.free,fun b o e hx=>?_,U.tups,U.frzs,U.tbls⟩,⟨_,hn',fun j y v' e1 e2 e3=>?_⟩,fun y c e=>?_,I.free,I.freeC,fun p hp=>?_,fun a o e=>?_,by simpa using I.len⟩
 ·obtain ⟨sl,q⟩:=U.slot b o e n hb hx
  exact ⟨sl,(old b o e).trans q⟩
 ·obtain ⟨o',q⟩:=U.there b o e hx
  exact ⟨o',(old b o e).trans q⟩
 ·have hj:j≠i:=fun z=>by
    subst z
    have:j<σ.length:=(q_p.mp hv).1
    rw [q_y this] at e2;cases e2
  rw [q_z (Ne.symm hj)] at e2
  obtain ⟨w,r',q⟩:=hl j y v' e1 e2 e3
  have hne:y≠x:=fun e=>hj (JDg hN e1 (e▸hi))
  refine ⟨w,r',?_⟩
  rcases q with ⟨k,e⟩ | ⟨k,c,e,z⟩
  · exact .inl ⟨k,by simp [hne,e]⟩
  · exact .inr ⟨k,c,e,z.sameBut hs (I.cne y c e)⟩
 ·obtain ⟨w,z⟩:=I.cell y c e
  exact ⟨w,z.sameBut hs (I.cne y c e)⟩
 ·obtain ⟨e,n,ne,nf,d⟩:=I.pin p hp
  exact ⟨(hs.2 p.1 ne).trans e,n,ne,nf,d⟩
 ·refine (I.hok a o e).stay (fun b w hb q=>(hs.2 b ?_).trans q) (fun _ q=>q) fun _ _ q=>q
  rcases hb with rfl | hb
  · exact trk _ _ e
  · exact trk _ _ hb
end
end VI
end
section
set_option maxRecDepth 100000
namespace VI
open PySem PySem.Spec PyProof.Rows L2
section
variable {X:Cx} {B:Bs} {C:Cn} {XX:Nat->Hp->Prop} {G:List (Str×GK)}
theorem sp_un {pins:List (Addr×Obj)} {D:Ends} {xe:Value->Shared->Prop} {f:Flow} {s:Shared} (hc:X.calm=true->X.A.handled=none) (h:SP (atX X X.A (X.pn++pins) xe true) [] D f s):SP X pins D f s:=by
 have hp:∀p∈X.pn++pins,p∈(X.pn++pins)++[]:=fun p hp=>by simpa using hp
 cases f with
 | next=>obtain ⟨σ',H',I,q⟩:=h;exact ⟨σ',H',JDY I rfl hc hp,q⟩
 | brk=>obtain ⟨σ',H',I,q⟩:=h;exact ⟨σ',H',JDY I rfl hc hp,q⟩
 | cont=>obtain ⟨σ',H',I,q⟩:=h;exact ⟨σ',H',JDY I rfl hc hp,q⟩
 | ret u=>obtain ⟨v,σ',H',I,r,q⟩:=h;exact ⟨v,σ',H',JDY I rfl hc hp,r,q⟩
theorem JPD {CX:CXT} (g:Gk X B C CX XX G) {pn:List (Addr×Obj)} {xe:Value->Shared->Prop} {XX':Nat->Hp->Prop} (ha:∀c H H',Same H H'->XX' c H->XX' c H') (hp:JDL CX (atX X X.A pn xe true) (EX B XX')):Gk (atX X X.A pn xe true) B C CX XX' G where
 K:=g.K
 W:=g.W
 anti:=ha
 units:=g.units
 calm:=rfl
 fn:=g.fn
 pas:=hp
 con:=g.con
 noexg:=g.noexg
 blt:=g.blt
 rng:=g.rng
 isi:=g.isi
 ty:=g.ty
 cls:=g.cls
 nam:=g.nam
theorem JPw {Hb H9:Hp} {σ':St} {δ:Env} {ea:Addr} {k1 i j:Nat} (hl:σ'.length=δ.length) (hj:j<δ.length) (hij:i≠j) (sm:Same Hb H9) (he:H9 ea=some (.ext (ExcAt ea (B.cl k1)))) :
  SO B Hb ((((σ'.set i (some (.ref ea))).set j (some (.ref ea))).set i (some .non)).set i none) H9 ((((δ.map fun _=>Sl.no).set i (.val (excD k1))).set j (.val (excD k1))).set i .no) (fun _=>none):=by
 refine ⟨by simp [hl],sm,(fun a b c e=>by cases e),fun m=>?_⟩
 have hh:hid H9 (fun _=>none)=H9:=by
  funext b
  unfold hid hidP
  rw [if_neg]
  rintro ⟨i,e⟩
  cases e
 by_cases hmi:m=i
 ·subst hmi
  by_cases hm:m<δ.length
  ·rw [q_y (by simpa using hm)]
   rfl
  ·rw [List.getElem?_eq_none (by simp;omega)]
   rfl
 ·rw [q_z (Ne.symm hmi)]
  by_cases hmj:m=j
  ·subst hmj
   rw [q_y (by simpa using hj)]
   refine ⟨rfl,.ref ea,?_,?_⟩
   ·rw [q_z (Ne.symm hmi),q_z (Ne.symm hmi),q_y (by simp;omega)]
   ·rw [hh]
    unfold excD
    simp only [Den]
    exact .inl ⟨ea,k1,rfl,rfl,he⟩
  ·rw [q_z (Ne.symm hmj),q_z (Ne.symm hmi),List.getElem?_map]
   cases δ[m]?<;>rfl
theorem JPV (g:Gk X B C (CXV X.prog X.w B) XX G) (hst:X.stack=X.env::X.outer) (hf:X.env.frame=some X.env.locals) (hex:X.ex=[]) (hnd:X.N.Nodup) (hfn:∀nm,X.fn nm=true) (hh:X.A.handled=none)
  {body:List Stmt} {b:S} {cn en kn:Str} {c i j:Nat} {np p1 p2 p3 hpos pos:Pos}
  (hbody:∀(pn:List (Addr×Obj)) (xe:Value->Shared->Prop) (XX':Nat->Hp->Prop),PassesOwn (model X.prog X.w) X.A X.env xe->Gk (atX X X.A pn xe true) B C (CXV X.prog X.w B) XX' G->PSs (atX X X.A pn xe true) body (RSt (atX X X.A pn xe true) B C XX' b))
  (hgl:Gl X cn) (hmc:X.mg cn=some (.ref (B.cl c))) (hbn:JAP cn=false) (hben:JAP en=false)
  (hsub:∀k,C.sub k c=true->PySem.W.exmOne B.K (.ref (B.cl k)) (.ref (B.cl c))=some true)
  (hi:X.N[i]? = some en) (hle:X.env.scope.names.lookup en=some .local) (hj:X.N[j]? = some kn) (hlk:Loc X.env.scope kn) (hij:i≠j) :
  PS X (.Try body [.ExceptHandler (some (.Name cn np)) (some en) [.Assign [.Name kn p1] (.Name en p2) p3] hpos] [] [] pos) (RSt X B C XX (.tryx b c i (.cons (.asg j (.var i)) .nil))):=by
 intro pins s σ H D I ⟨δ,O,Hb,hb,so,k⟩
 refine wpAny_Try_except ?_
 have hcal:X.calm=true->X.A.handled=none:=I.ok.hd
 have hpp:∀p∈(X.pn++pins)++[],p∈X.pn++pins:=fun p hp=>by simpa using hp
 have hlen:σ.length=δ.length:=so.len
 have hlN:σ.length=X.N.length:=I.len
 simp only [exec] at k
 cases q:exec C b δ with
 | ex k1 =>
  rw [q] at k
  simp only at k
  split at k
  case isFalse=>exact False.elim k
  rename_i hs1
  have hiδ:i<δ.length:=by
    have:=(q_p.mp hi).1
    omega
  have hjδ:j<δ.length:=by
    have:=(q_p.mp hj).1
    omega
  have e0:look ((δ.map fun _=>Sl.no).set i (.val (excD k1))) i=.ok (excD k1):=by
    unfold look
    rw [q_y (by simpa using hiδ)]
    rfl
  have e1:after (.var i) (excD k1) ((δ.map fun _=>Sl.no).set i (.val (excD k1)))=(δ.map fun _=>Sl.no).set i (.val (excD k1)):=by
    unfold after
    have:JAR (excD k1)=true:=rfl
    rw [this]
    simp
  simp only [ev,e0,stepR,E.fresh,e1] at k
  have k:∀σ H O,SO B Hb σ H ((((δ.map fun _=>Sl.no).set i (.val (excD k1))).set j (.val (excD k1))).set i .no) O->D.nx σ H:=k
  refine wpAny_mono (hbody (X.pn++pins) (fun e s₁=>wpAny (model X.prog X.w) X.A (noteFrame e X.env) (fun _ s₂=>wpAny (model X.prog X.w) X.A (setFlight e none) (fun _ s₃=>wpAny (model X.prog X.w) X.A (handleBy e X.env [.ExceptHandler (some (.Name cn np)) (some en) [.Assign [.Name kn p1] (.Name en p2) p3] hpos]) (SP X pins D) X.xe s₃) X.xe s₂) X.xe s₁)
    (fun k H1=>k=k1/\Same Hb H1) PassesOwn.looking (JPD g (fun c H H' s ⟨a,b⟩=>⟨a,b.trans s⟩) ?_) [] s σ H ⟨fun _ _=>False,fun _ _=>False,fun _ _=>False,fun _ _=>False⟩ (JGQ I rfl (fun _=>hh) hpp) ⟨δ,O,Hb,hb,so,by rw [q];exact ⟨rfl,Same.refl Hb⟩⟩) (fun f s₁ h₁=>?_) fun _ _ z=>z
  ·
    intro pins' σ' H1 s1 e s' I1 ⟨ea,T,c',H',ee,os,bare,un,hok,tr,⟨f1,f2⟩,⟨f3,f4⟩,⟨c2,ec,hk2,sm⟩⟩
    subst ee;subst hk2
    have I':=I1.call' (ch:=[]) os un hok bare (fun b hb=>by simp at hb)
    have J0:Inv X pins σ' H' s':=JDY I' rfl hcal (fun p hp=>List.mem_append_left _ hp)
    obtain ⟨oe,vs,a0,oT,ts,q1,q2,q3,q4,q6,q7,q8,q9⟩:=id tr
    have fr0:∀b,s1.heap.get? b=none->X.s₀.heap.get? b=none:=fun b q=>by
      cases z:X.s₀.heap.get? b with
      | none=>rfl
      | some o =>
       obtain ⟨o',e2⟩:=I1.base.there b o z (by show b ∉ X.ex;rw [hex];simp)
       rw [q] at e2;cases e2
    have has:∀b∈(ea::T::frs X.stack),b∈frs X.stack\/(X.s₀.heap.get? b=none/\H' b=none):=fun b hb=>by
      rcases q_n.mp hb with rfl | hb
      ·exact .inr ⟨fr0 _ f1,f2⟩
      ·rcases q_n.mp hb with rfl | hb
       ·exact .inr ⟨fr0 _ f3,f4⟩
       ·exact .inl hb
    have hpin:∀p∈X.pn++pins,p.1 ∉ (ea::T::frs X.stack):=fun p hp hm=>by
      obtain ⟨e,n,ne,nf,d⟩:=I1.pin p (List.mem_append_left _ hp)
      rcases q_n.mp hm with z | hm
      ·rw [z,f1] at e;cases e
      ·rcases q_n.mp hm with z | hm
       ·rw [z,f3] at e;cases e
       ·rcases q_n.mp (J0.stkSub _ hm) with z | z
        ·exact ne z
        ·exact nf z
    have stk:=J0.stack
    have fl0:Heap.FlyingW (PySem.W.hideAll s'.heap (ea::T::frs X.stack)) X.stack ea (.ref (B.cl c')) a0 s'.heap :=
      ⟨fun b o q=>PySem.W.of_hideAll _ q,PySem.W.hideAll_none _ (by simp),PySem.W.funFrames_hide stk (fun env he a hf=>q_s _ (q_s _ (List.mem_filterMap.mpr ⟨env,he,hf⟩))),oe,vs,T,oT,ts,q1,q2,q3,q4,PySem.W.hideAll_none _ (by simp),q6,q7,q8,q9⟩
    refine PySem.wpAny_looks_onW (base:=PySem.W.hideAll s'.heap (ea::T::frs X.stack)) (outer:=X.outer) (cls:=.ref (B.cl c')) (a0:=a0) (J0.ok.frames.trans (congrArg some hst)) hf (by rw [<-hst];exact fl0) fun h4 held4 up4=>?_
    refine PySem.wpAny_landsW held4 fun h5 fl5 up5'=>?_
    have up5:=up4.trans up5'
    have fl5':=fl5
    have J5:Inv X pins σ' H' { s' with heap:=h5 }:=JHp J0 hex has hpin fl5 up5 s'.toks
    have J5m:Inv (atX X (X.A.mark (some (.ref ea))) X.pn (fun _ _=>False) false) pins σ' H' { s' with heap:=h5 }:=JGQ J5 rfl (fun z=>by cases z) (fun p hp=>hp)
    refine wpAny_handleBy_cons (codeAny_handlers_test (JDs J5m hgl hmc ?_ (JAB hbn).1)) (by intro q;cases q)
    obtain ⟨ob,hob,hoc⟩:=fl5.there
    have LT:PySem.W.Looks (model X.prog X.w) h5 (typeOf (.ref ea)) (.ref (B.cl c')):=by
      rw [<-hoc]
      exact (PySem.W.Looks.ld hob).andThen .now
    have hex1:PySem.W.exmOne X.K (.ref (B.cl c')) (.ref (B.cl c))=some true:=by
      rw [g.K,show Value.ref (B.cl c')=Value.ref (B.cl c2) from ec]
      exact hsub c2 hs1
    refine (PySem.W.exm_one J5.kIn LT hex1).here (s:={ s' with heap:=h5 }) (codeAny_handlers_suite_as ?_)
    refine lands_againW (s:={ s' with heap:=h5 }) fl5 fun h6 fl6 up6=>?_
    have J6:Inv X pins σ' H' { s' with heap:=h6 }:=JHp J0 hex has hpin fl6 (up5.trans up6) s'.toks
    obtain ⟨_,_,_,oe6,vs6,T6,oT6,ts6,w1,⟨w2,_⟩,w3,_⟩:=id fl6
    have ecl:B.cl c'=B.cl c2:=by
      have:=ec
      injection this
    have J7:=JH0 J6 w1 (by rw [w2,ecl]) w3 (fr0 _ f1) f2 (fun p hp z=>hpin p hp (by rw [z];simp))
    refine JA8 J7 hnd hi (.inl hle) (v:=.ref ea) rfl (fun s8 J8'=>?_) (.inr hle)
    have J8:Inv (atX X (X.A.mark (some (.ref ea))) X.pn (fun _ _=>False) false) pins _ _ s8:=JGQ J8' rfl (fun z=>by cases z) (fun p hp=>hp)
    have P1:PS (atX X (X.A.mark (some (.ref ea))) X.pn (fun _ _=>False) false) (.Assign [.Name kn p1] (.Name en p2) p3) (tAsg (tVar i) (JEs j)) :=
      JHw (i:=j) hnd hj hlk (JCg hi (.inl hle) (JAB hben).1 (JAB hben).2.1) rfl (.inl (hfn kn))
    have hiσ:i<σ'.length:=by rw [J6.len];exact (q_p.mp hi).1
    refine wpAny_mono (JNf P1 pins s8 _ _ ⟨fun σ9 H9=>σ9=(σ'.set i (some (.ref ea))).set j (some (.ref ea))/\H9=upd H' ea (.ext (ExcAt ea (B.cl c2))),fun _ _=>False,fun _ _=>False,fun _ _=>False⟩ J8 ⟨.ref ea,q_y hiσ,rfl,rfl⟩) (fun f s9 h9=>?_) fun _ _ z=>z.elim
    cases f with
    | brk=>obtain ⟨_,_,_,z⟩:=h9;exact z.elim
    | cont=>obtain ⟨_,_,_,z⟩:=h9;exact z.elim
    | ret u=>obtain ⟨_,_,_,_,_,z⟩:=h9;exact z.elim
    | next =>
      obtain ⟨σ9,H9,J9,rfl,rfl⟩:=h9
      have J9':Inv X pins _ _ s9:=JDY J9 rfl hcal (fun p hp=>hp)
      show wpAny (model X.prog X.w) X.A (do bindName X.env en .none;unbindBehindTheSuite X.env en hpos) (fun _ s₃=>SP X pins D .next s₃) X.xe s9
      refine q_b (wpAny_bindName (JA8 J9' hnd hi (.inl hle) (v:=.non) rfl (fun s10 J10=>?_) (.inr hle)))
      unfold unbindBehindTheSuite
      have hv:((((σ'.set i (some (V.ref ea))).set j (some (V.ref ea))).set i (some V.non)))[i]? = some (some V.non):=q_y (by simpa using hiσ)
      refine wpAny_onRaise (JHk J10 hnd hi hle hv fun s11 J11=>⟨_,_,J11,k _ _ _ (JPw (by rw [J6.len,<-hlN,hlen]) hjδ hij (sm.trans fun b o e=>?_) JAC)⟩)
      rw [JAF fun z=>by rw [z,f2] at e;cases e]
      exact e
  · cases f with
    | next=>obtain ⟨_,_,_,z⟩:=h₁;exact z.elim
    | brk=>obtain ⟨_,_,_,z⟩:=h₁;exact z.elim
    | cont=>obtain ⟨_,_,_,z⟩:=h₁;exact z.elim
    | ret u=>obtain ⟨_,_,_,_,_,z⟩:=h₁;exact z.elim
 | bad=>rw [q] at k;exact False.elim k
 | _ =>
  rw [q] at k
  refine wpAny_mono (hbody (X.pn++pins) (fun _ _=>False) (fun _ _=>False) PassesOwn.never (JPD g (fun _ _ _ _ z=>z) fun _ _ _ _ _ _ _ z=>(JIH _ _ _ _ _ z).elim) [] s σ H D (JGQ I rfl (fun _=>hh) hpp) ⟨δ,O,Hb,hb,so,by rw [q];exact k⟩) (fun f s₁ h₁=>?_) fun _ _ z=>z.elim
  have h2:=sp_un hcal h₁
  cases f with
  | next=>exact wpAny_execs_nil h2
  | brk=>exact h2
  | cont=>exact h2
  | ret u=>exact h2
end
end VI
end
section
set_option maxRecDepth 100000
namespace VI
open PySem PySem.Spec PyProof.Rows L2
section
variable {B:Bs} {G:List (Str×GK)} {tab:Nat->Option Fd} {glo:Nat->R D} {sub:Nat->Nat->Bool}
structure Mo (mg:Str->Option Value) (B:Bs) (G:List (Str×GK)) (tab:Nat->Option Fd) (glo:Nat->R D) (sub:Nat->Nat->Bool):Prop where
 fn:∀x i,G.lookup x=some (.fn i)->∃fd,tab i=some fd/\DefAt B.K mg G x fd
 con:∀x i d,G.lookup x=some (.con i)->glo i=.ok d->∃u v,mg x=some u/\RelV v u/\∀H,Den B H d v
 noexg:∀i c,glo i≠.exc c
 blt:∀x b,G.lookup x=some (.blt b)->mg x=none
 rng:∀x,G.lookup x=some .rng->mg x=none
 isi:∀x,G.lookup x=some .isi->mg x=none
 ty:∀x t,G.lookup x=some (.ty t)->mg x=none
 nam:∀x,G.lookup x=some .nam->mg x=none
 cl:Cl mg B G
 exm:∀x c,G.lookup x=some (.cls c)->∀k,sub k c=true->PySem.W.exmOne B.K (.ref (B.cl k)) (.ref (B.cl c))=some true
theorem JP5 {P:Program} {w:World} (hw:w=B.w) {mg:Str->Option Value} {base:Heap} (M:Mo mg B G tab glo sub) (ra:∀n,Rare B ⟨run true tab glo sub n,glo,sub⟩ (CXV P w B) G) {n i:Nat} {x:Str} {f:Addr} {fo:FuncData} {st:Stmt} {N ps:List Str} {fd:Fd}
  (ih:∀(y:Str) (j:Nat),G.lookup y=some (.fn j)->∃f fd ps,mg y=some (.ref f)/\PySem.W.keepIn B.K (.ref f)=true/\FnOk P w B.K mg base (CXV P w B) n f fd ps (JCL B ps.length (run true tab glo sub n j))/\Binds B.K fd ps []/\∀ds,run true tab glo sub n j ds≠.bad->ds.length=ps.length)
  (F:Fun B.K x x st f fo) (T:Turned G st N ps fd) (ht:tab i=some fd):FnOk P w B.K mg base (CXV P w B) (n+1) f fo ps (JCL B ps.length (run true tab glo sub (n+1) i)):=by
 obtain ⟨oc,od,kV,doc,pm,an,cdv,ct,osl,rfl,lk,hcd⟩:=F.ex
 refine JOq lk hcd T.sc (fun vs H Q E q=>q.1) fun A outer s H vs Q E hr q=>?_
 obtain ⟨hl,ds,dn,q⟩:=q
 have hA:A.handled=none:=hr.hd
 have g:Gk (cxOf (CXV P w B) P w B.K mg base N x (JAU st) f cdv A outer s H E) B ⟨run true tab glo sub n,glo,sub⟩ (CXV P w B) (XXd B E) G:={
  K:=rfl
  W:=hw
  anti:=fun c H1 H2 sm z H' s'=>z H' (sm.trans s')
  units:=by have:=hr.un;show (A.deeper _).units+200<_;omega
  calm:=rfl
  fn:=fun y j hy=>by
    obtain ⟨f',fd',ps',w1,w2,w3,w4,w5⟩:=ih y j hy
    exact ⟨f',fd',ps',n,w1,w2,w3,hr,w4,w5⟩
  pas:=JMq
  con:=M.con
  noexg:=M.noexg
  blt:=M.blt
  rng:=M.rng
  isi:=M.isi
  ty:=M.ty
  cls:=M.cl.mgc
  nam:=M.nam }
 have hs:=JIa (ra n) 60 _ _ _ _ true g T.sc.kind rfl rfl T.sc.nd PassesOwn.leaving (fun _=>rfl) (fun _=>JGr M.cl hA)
  (fun _ _ body b cn en kn c i j np p1 p2 p3 hpos pos hbody hgl hbn hben hlk hnd hi hle hj hlj hij =>
    JPV g rfl rfl rfl hnd (fun _=>rfl) hA hbody hgl (M.cl.mgc cn c hlk) hbn hben (fun k hk=>M.exm cn c hlk k hk) hi hle hj hlj hij)
 refine ⟨_,JB0 hs T.comp,?_⟩
 have hlen:=DenL.len ds vs dn
 have hN:N.length=fd.slots:=T.slots.symm
 have hpl:ps.length<=N.length:=by have:=congrArg List.length T.sc.pre;rw [List.length_take] at this;omega
 refine ⟨_,_,H,Same.refl H,JGp dn rfl (by omega),?_⟩
 unfold run at q
 rw [ht] at q
 simp only [JFb] at q
 rw [if_pos (by rw [T.par];omega)] at q
 rw [show fd.slots - fd.par=N.length - ds.length by rw [T.slots,T.par];omega] at q
 split at q
 ·rename_i r d hd
  split at hd
  · rename_i δ he
    cases hd
    rw [he]
    exact fun σ' H' O' so'=>q .non H' so'.same (by simp only [Den])
  · rename_i d' he
    cases hd
    rw [he]
    exact fun v H' sm dn'=>q v H' sm dn'
  · simp at hd
  · cases hd
 ·rename_i r c hd
  split at hd
  · cases hd
  · cases hd
  · rename_i c' he
    simp only [if_true,R.exc.injEq] at hd
    subst hd
    rw [he]
    exact q
  · cases hd
 ·exact q.elim
theorem fns {P:Program} {w:World} (hw:w=B.w) {mg:Str->Option Value} {base:Heap} (M:Mo mg B G tab glo sub) (ra:∀n,Rare B ⟨run true tab glo sub n,glo,sub⟩ (CXV P w B) G):∀(n:Nat) (x:Str) (i:Nat),G.lookup x=some (.fn i) ->
  ∃f fd ps,mg x=some (.ref f)/\PySem.W.keepIn B.K (.ref f)=true/\FnOk P w B.K mg base (CXV P w B) n f fd ps (JCL B ps.length (run true tab glo sub n i))/\Binds B.K fd ps []/\∀ds,run true tab glo sub n i ds≠.bad->ds.length=ps.length
 | 0,x,i,h=>by
  obtain ⟨fd,ht,⟨f,fo,st,N,ps,e1,F,bi,T⟩⟩:=M.fn x i h
  refine ⟨f,fo,ps,e1,F.kp,⟨fun vs H Q E q=>q.1,fun A outer s H args us vs Q E hr he hb hv ⟨_,ds,_,q⟩=>?_⟩,bi,fun ds q=>absurd rfl q⟩
  exact False.elim q
 | n+1,x,i,h=>by
  obtain ⟨fd,ht,⟨f,fo,st,N,ps,e1,F,bi,T⟩⟩:=M.fn x i h
  refine ⟨f,fo,ps,e1,F.kp,JP5 hw M ra (fns hw M ra n) F T ht,bi,fun ds q=>?_⟩
  obtain ⟨fd',h1,h2⟩:=JM1 q
  rw [ht] at h1
  cases h1
  rw [h2,T.par]
theorem JO0 {P:Program} {w:World} (hw:w=B.w) {mg:Str->Option Value} {base:Heap} (M:Mo mg B G tab glo sub) (ra:∀n,Rare B ⟨run true tab glo sub n,glo,sub⟩ (CXV P w B) G) {x:Str} {i:Nat} {f:Addr} {fo:FuncData} {st:Stmt} {N ps:List Str} {fd:Fd}
  (F:Fun B.K x x st f fo) (T:Turned G st N ps fd) (ht:tab i=some fd):∀n,FnOk P w B.K mg base (CXV P w B) n f fo ps (JCL B ps.length (run true tab glo sub n i))
 | 0=>⟨fun vs H Q E q=>q.1,fun A outer s H args us vs Q E hr he hb hv ⟨_,ds,_,q⟩=>False.elim q⟩
 | n+1=>JP5 hw M ra (fns hw M ra n) F T ht
theorem JOd {P:Program} {w:World} {mg:Str->Option Value} {base:Heap} {f:Addr} {fd:FuncData} {ps:List Str} {n:Nat} {r:List D->R D} (F:FnOk P w B.K mg base (CXV P w B) n f fd ps (JCL B ps.length r)) (hp:ps.length=1)
  (h:∀ns:List Int,ns.length<=63->r [.list (ns.map fun i=>PyData.int i)]=.ok (.bool true)):FnOk P w B.K mg base CX0 n f fd ps (JNX B.K):=by
 refine ⟨fun vs H Q E ⟨a,ns,e,_⟩=>by subst e;rw [hp];rfl,fun A outer s H args us vs Q E hr he hb hv ⟨a,ns,e,hl,hS,k⟩=>?_⟩
 subst e
 refine codeAny_mono (F.run A outer s H args us [.ref a] Q (fun _ _ _=>False) hr he hb hv ⟨by rw [hp];rfl,[.list (ns.map fun i=>PyData.int i)],?_,?_⟩) fun r s' z=>?_
 ·simp only [DenL]
  exact ⟨_,_,rfl,by simp only [Den];exact ⟨a,_,rfl,hS,JGa ns⟩,rfl⟩
 ·rw [h ns hl]
  intro v H' sm dn
  simp only [Den] at dn
  subst dn
  exact k H'
 ·cases r with
  | ok v=>cases v<;>exact z
  | error e =>
    obtain ⟨ea,T,c,H',_,_,_,_,_,_,_,_,z⟩:=z
    exact z
theorem JQZ {P:Program} {w:World} {K:PySem.W.Frag} {h:Heap} {mg:Str->Option Value} {cl:Nat->Addr} {fa:Addr} {st:Stmt} {N:List Str} {x:Str} {fd:Fd} {i n:Nat}
  (X:K.In h) (Gm:h.Ns mainGlobals mg) (hfa:mg "law"=some (.ref fa)) (F:FnIn K "law" st) (T:Turned G st N [x] fd) (hb:JBD "law" st [x]) (hl:G.lookup ("law":Str)=some (.fn i)) (ht:tab i=some fd)
  (M:∀base:Heap,K.In base->base.Ns mainGlobals mg->Mo mg ⟨K,cl,w⟩ G tab glo sub) (ra:∀n,Rare ⟨K,cl,w⟩ ⟨run true tab glo sub n,glo,sub⟩ (CXV P w ⟨K,cl,w⟩) G)
  (hbind:∀(kV doc pm:Value) (an:Option Addr) (cdv ct:Value) (s:Shared) (u:Value),BindsTo s (PySem.W.fnOf "law" "law" (JA9 st) (JAx st) (JAU st) .none kV doc pm an cdv ct) ⟨[u],[]⟩ [(x,u)])
  (ok:∀ns:List Int,ns.length<=63->run true tab glo sub n i [.list (ns.map fun i=>PyData.int i)]=.ok (.bool true)) :
  ∃fo:FuncData,(∀(s:Shared) (u:Value),BindsTo s fo ⟨[u],[]⟩ [(x,u)])/\∀base:Heap,K.In base->base.Ns mainGlobals mg->FnOk P w K mg base CX0 n fa fo [x] (JNX K):=by
 obtain ⟨f,oc,od,an,sl,kV,dc,pm,cd,ct,a,l,c,k⟩:=F.ex
 have e:=hfa.symm.trans (PySem.W.mg_of X Gm a)
 cases e
 refine ⟨PySem.W.fnOf "law" "law" (JA9 st) (JAx st) (JAU st) .none kV dc pm an cd ct,fun s u=>hbind kV dc pm an cd ct s u,fun base kb nb=>?_⟩
 have:=JO0 (P:=P) (w:=w) (base:=base) (B:=⟨K,cl,w⟩) rfl (M base kb nb) ra (JKw (st:=st) l c k) T ht n
 exact JOd this rfl ok
end
end VI
end
section
set_option maxRecDepth 100000
namespace VI
open PySem PySem.Spec PyProof.Rows L2 Builtin Builtin.ObjectAttr Builtin.Getset_descriptor
structure ExcK (K:PySem.W.Frag) (C:Addr):Prop where
 ga:PySem.W.findIn K (.ref C) "__getattribute__"=some (some (.builtin "BaseException.__getattribute__"))
 gh:PySem.W.findIn K (.ref C) "__getattr__"=some none
 cl:PySem.W.findIn K (.ref C) "__class__"=some (some (.builtin "object.__class__"))
 ob:PySem.W.mroIn K C (.type "object")=some true
 bx:PySem.W.mroIn K C (.type "BaseException")=some true
 gt:PySem.W.specialIn K (.builtin "object.__class__") "__get__"=some (some (.builtin "getset_descriptor.__get__"))
 st:PySem.W.takesIn K (.builtin "object.__class__")=some true
section
variable {K:PySem.W.Frag} {a C:Addr} {prog:Program} {w:World} {A:Around} {s:Shared}
theorem JCW {M:Model} {h:Heap} (p:ExcAt a C h):PySem.W.Looks M h (typeOf (.ref a)) (.ref C):=by
 obtain ⟨o,h1,h2⟩:=p
 rw [<-h2]
 exact (PySem.W.Looks.ld h1).andThen .now
theorem JHZ {M:Model} {h:Heap} {nm:Str} {d g:Value} (X:K.In h) (h1:PySem.W.findIn K (.ref C) nm=some (some d)) (h2:PySem.W.specialIn K d "__get__"=some (some g)) (h3:PySem.W.takesIn K d=some true) :
   PySem.W.Looks M h (find (.ref a) (.ref C) nm) (.bind g d) :=
 (PySem.W.looks_findIn X h1).andThen ((show PySem.W.Looks M h (getOf (some d)) (some g) from PySem.W.looks_specialIn X h2).andThen
   ((show PySem.W.Looks M h (dataDescriptor? (some d) (some g)) (some (g,d)) from (PySem.W.looks_takesIn X h3).andThen .now).andThen (PySem.W.Looks.tag .now)))
theorem JLz {R:Result->Shared->Prop} {tp:Value} (X:K.In s.heap) (p:ExcAt a C s.heap) (hm:PySem.W.mroIn K C (.type "object")=some true) (h:R (.ok (.ret (.ref C))) s) :
  codeAny (model prog w) A (.call (.builtin "getset_descriptor.__get__") ⟨[.builtin "object.__class__",.ref a,tp],[]⟩) R s:=by
 obtain ⟨hp,gs,dn,tk,os⟩:=s
 have q0:=JCW (M:=model prog w) p
 have q1:=PySem.W.looks_mroIn (M:=model prog w) X hm
 refine codeAny_call_builtin PySem.W.KF.slot_gs.plain PySem.W.KF.entry_gs (PySem.W.KF.slot_gs.check _ _ _ _ _ _ _ _ PySem.W.KF.type_class (PySem.W.KF.args_gs _ _ _) ?_)
 unfold Builtin.«getset_descriptor.__get__» descrGet;rw [PySem.W.dga_obj];refine q_b (q_e ?_)
 unfold descrGetter descrCheckInstance descrNameAndClass isInstance;simp only [PySem.W.KF.owner_class];repeat lk
 refine ⟨Code.quiet_builtin _ (by decide +kernel),codeAny_builtin PySem.W.KF.entry_class ?_⟩
 unfold Builtin.«object.__class__» shownTypeOf;repeat lk
 exact h
theorem JJW {nameV:Value} {E:Value->Shared->Prop} {Q:Unit->Shared->Prop} (F:ExcK K C) (X:K.In s.heap) (p:ExcAt a C s.heap) (h:Q () s):wpAny (model prog w) A (checkBuiltinCall "BaseException.__getattribute__" ⟨[.ref a,nameV],[]⟩) Q E s:=by
 obtain ⟨hp,gs,dn,tk,os⟩:=s
 have q:PySem.W.Looks (model prog w) hp (isInstance (.ref a) (.type "BaseException")) true:=(JCW p).andThen (PySem.W.looks_mroIn X F.bx)
 have k1:builtinKind "BaseException.__getattribute__"=some .slot:=by decide +kernel
 have k2:splitId "BaseException.__getattribute__"=some ("BaseException","__getattribute__"):=by decide +kernel
 have ha:=PySem.F.args_bexc_ga (.ref a) nameV
 simp only [checkBuiltinCall,k1,k2]
 refine q_b (q.at ?_)
 repeat (first | exact h | wp_step)
theorem JG9 {E:Value->Shared->Prop} {Q:Option Value->Shared->Prop} (F:ExcK K C) (X:K.In s.heap) (p:ExcAt a C s.heap) (h:Q (some (.ref C)) { s with toks:=s.toks+1 }) :
  wpAny (model prog w) A (getAttr? (.ref a) "__class__") Q E s:=by
 obtain ⟨hp,gs,dn,tk,os⟩:=s
 have q0:=JCW (M:=model prog w) p
 have q1:=PySem.W.looks_findIn (M:=model prog w) X F.ga
 have q2:=PySem.W.looks_findIn (M:=model prog w) X F.gh
 have q3:=JHZ (M:=model prog w) (a:=a) X F.cl F.gt F.st
 have B:=PySem.F.attr_ValueError.ga
 unfold getAttr? getAttrBy? getAttrBy
 refine q_b (wpAny_mkText (q_b (wpAny_attempt (wpAny_holding (q_b (q0.at (q_b (q1.at ?_))))))))
 show wpAny _ _ (getAttrByItsOwn _ _ _ _ _ _) _ _ _
 refine q_b (q2.at (q_b (wpAny_attempt (wpAny_holding ?_))))
 show wpAny _ _ (boundAndCalled _ _ _) _ _ _
 unfold boundAndCalled
 rw [B.bind]
 refine q_b (q_e (wpAny_call (codeAny_call_builtin B.plain PySem.F.entry_bexc_ga (JJW F X p ?_))))
 refine q_b (q_e (q_b (q_e (q_b (q0.at (q_b (q3.at ?_)))))))
 show wpAny _ _ (holding [Value.builtin "object.__class__"] (call (.builtin "getset_descriptor.__get__") [Value.builtin "object.__class__",.ref a,.ref C]) >>= ret) _ _ _
 refine q_b (wpAny_holding (wpAny_call (JLz X p F.ob (q_e ?_))))
 show wpAny _ _ (handedOut (.ref C)) _ _ _
 exact PySem.W.handed_on rfl (q_e h)
theorem JGJ (F:ExcK K C):PySem.W.KitX K (.ref a) (.ref C) (ExcAt a C) where
 ty:=fun M h _ p=>JCW p
 it:=fun M h X _=>by
  obtain ⟨cd,e1,_⟩:=q_a.mp F.ob
  unfold PySem.W.clsIn at e1
  split at e1
  ·rename_i ho
   intro A' Q' E' s' k q
   unfold isType loadHead
   exact q_b (wpAny_loadPart (k _ _ (X _ _ ho)) (q_e q))
  ·cases e1
 ne:=fun h tp dd its n sl X ht=>by
  obtain ⟨cd,e1,_⟩:=q_a.mp F.ob
  refine Bool.eq_false_iff.mpr fun q=>?_
  have e:C=tp:=Value.ref.inj (beq_iff_eq.mp q)
  subst e
  unfold PySem.W.clsIn at e1
  split at e1
  ·rename_i ho
   have z:=(X _ _ ho).symm.trans ht
   cases z
  ·cases e1
 ca:=fun X p k=>JG9 F X p k
end
noncomputable def nmOf:Ty->String
 | .int=>"int"
 | .bool=>"bool"
 | .str=>"str"
 | .list=>"list"
 | .tuple=>"tuple"
 | .dict=>"dict"
 | .valueError=>"ValueError"
 | .own _=>""
theorem JNK {ty:Ty} {t:Str} (h:JA4 ty=some t):bootBuiltins t=some (.type (nmOf ty)):=by
 cases ty<;>simp only [JA4,q_j,reduceCtorEq] at h<;>subst h<;>boot_by_name
section
variable {K:PySem.W.Frag}
theorem JOB {ty:Ty} (h:(JA4 ty).isSome=true):PySem.W.kitOne K (.type "NoneType") (.type (nmOf ty))=some false:=by
 cases ty<;>first | (cases h;done) | kernel_rfl
theorem JMj {ty:Ty} (h:(JA4 ty).isSome=true):PySem.W.kitOne K (.type "bool") (.type (nmOf ty))=some (ty==.int || ty==.bool):=by
 cases ty<;>first | (cases h;done) | kernel_rfl
theorem JQR {ty:Ty} (h:(JA4 ty).isSome=true):PySem.W.kitOne K (.type "int") (.type (nmOf ty))=some (ty==.int):=by
 cases ty<;>first | (cases h;done) | kernel_rfl
theorem JNq {ty:Ty} (h:(JA4 ty).isSome=true):PySem.W.kitOne K (.type "str") (.type (nmOf ty))=some (ty==.str):=by
 cases ty<;>first | (cases h;done) | kernel_rfl
theorem JMz {ty:Ty} (h:(JA4 ty).isSome=true):PySem.W.kitOne K (.type "list") (.type (nmOf ty))=some (ty==.list):=by
 cases ty<;>first | (cases h;done) | kernel_rfl
theorem JI6 {ty:Ty} (h:(JA4 ty).isSome=true):PySem.W.kitOne K (.type "tuple") (.type (nmOf ty))=some (ty==.tuple):=by
 cases ty<;>first | (cases h;done) | kernel_rfl
theorem ko_of {C:Addr} {T:String} (h:PySem.W.kitOne K (.type "NoneType") (.ref C)=some false) (hs:PySem.W.subIn K (.type T) (.ref C)=some false):PySem.W.kitOne K (.type T) (.ref C)=some false:=by
 have n1:∀T:String,((Value.type T)==Value.ref C)=false:=fun T=>rfl
 unfold PySem.W.kitOne PySem.W.kitCls at h ⊢
 rw [n1] at h ⊢
 simp only [q_v,if_false] at h ⊢
 split at h
 ·rename_i z
  rw [if_pos z];exact hs
 ·cases h
theorem JL7 {C:Addr}:PySem.W.subIn K (.type "bool") (.ref C)=some false:=by kernel_rfl
theorem JN4 {C:Addr}:PySem.W.subIn K (.type "int") (.ref C)=some false:=by kernel_rfl
theorem JQC {C:Addr}:PySem.W.subIn K (.type "str") (.ref C)=some false:=by kernel_rfl
theorem JM6 {C:Addr}:PySem.W.subIn K (.type "list") (.ref C)=some false:=by kernel_rfl
theorem JJT {C:Addr}:PySem.W.subIn K (.type "tuple") (.ref C)=some false:=by kernel_rfl
end
structure Isi (B:Bs) (G:List (Str×GK)) (sub:Nat->Nat->Bool):Prop where
 own:∀x c,G.lookup x=some (.cls c)->PySem.W.kitOne B.K (.type "NoneType") (.ref (B.cl c))=some false
 exc:∀k,sub k k=true->ExcK B.K (B.cl k)/\PySem.W.kitOne B.K (.ref (B.cl k)) (.type "ValueError")=some true
 rel:∀k,sub k k=true->∀x c,G.lookup x=some (.cls c)->PySem.W.kitOne B.K (.ref (B.cl k)) (.ref (B.cl c))=some (sub k c)
section
variable {X:Cx} {B:Bs} {C:Cn} {CX:CXT} {XX:Nat->Hp->Prop} {G:List (Str×GK)}
noncomputable def TyV (B:Bs) (G:List (Str×GK)) (ty:Ty) (v:V):Prop:=((JA4 ty).isSome=true/\v=.ty (nmOf ty))\/∃x c,ty=.own c/\G.lookup x=some (.cls c)/\v=.ref (B.cl c)
theorem JJB (I0:Isi B G C.sub) (g:Gk X B C CX XX G) (ty:Ty):CallR X (.builtin "isinstance") (fun vs H Q=>∃d v1 v2,vs=[v1,v2]/\Den B H d v1/\TyV B G ty v2/\KE B XX (isiD C.sub d ty) H Q):=by
 intro pins s σ H vs us Q I r ⟨d,v1,v2,e,dn,tv,k⟩
 subst e
 obtain ⟨u1,us',rfl,r1,rs⟩:∃u1 us',us=u1::us'/\RelV v1 u1/\Vals [v2] us':=by cases r;exact ⟨_,_,rfl,‹_›,‹_›⟩
 obtain ⟨u2,rfl,r2⟩:=rs.one
 have KI:B.K.In s.heap:=g.K▸I.kIn
 have fin:∀ {x t:Value} {Hh:Heap->Prop} {b:Bool},PySem.W.KitX B.K x t Hh->Hh s.heap->isiD C.sub d ty=.ok (.bool b)->x=u1->x≠.builtin "__main__.__loader__#opaque"->PySem.W.kitOne B.K t u2=some b->wpAny (model X.prog X.w) X.A (call (.builtin "isinstance") [u1,u2]) (EP X pins σ Q) X.xe s:=by
  intro x t Hh b Z p e hx hne e2
  subst hx
  rw [e] at k
  exact PySem.W.kia_one Z KI p e2 hne fun tk=>⟨.bl b,H,I.tok tk,rfl,KE.ok k (by simp only [Den])⟩
 have u2e:∀(T:String) (f:Ty->Bool),((JA4 ty).isSome=true->PySem.W.kitOne B.K (.type T) (.type (nmOf ty))=some (f ty))->(∀c,f (.own c)=false)->(∀c,PySem.W.subIn B.K (.type T) (.ref c)=some false)->PySem.W.kitOne B.K (.type T) u2=some (f ty):=by
  intro T f h1 h2 h3
  rcases tv with ⟨t1,rfl⟩ | ⟨x,c,rfl,hl,rfl⟩
  ·cases r2
   exact h1 t1
  ·cases r2
   rw [h2]
   exact ko_of (I0.own x c hl) (h3 _)
 cases d with
 | none =>
  simp only [Den] at dn
  subst dn;cases r1
  refine fin PySem.W.kitx_none trivial rfl rfl (by intro q;cases q) (u2e "NoneType" (fun _=>false) (fun h=>JOB h) (fun _=>rfl) fun c=>?_)
  kernel_rfl
 | bool b =>
  simp only [Den] at dn
  subst dn;cases r1
  exact fin PySem.W.kitx_bool trivial rfl rfl (by intro q;cases q) (u2e "bool" (fun ty=>ty==.int || ty==.bool) (fun h=>JMj h) (fun _=>rfl) fun c=>JL7)
 | int b =>
  simp only [Den] at dn
  subst dn;obtain ⟨t,rfl⟩:=r1
  exact fin PySem.W.kitx_int trivial rfl rfl (by intro q;cases q) (u2e "int" (fun ty=>ty==.int) (fun h=>JQR h) (fun _=>rfl) fun c=>JN4)
 | str b =>
  simp only [Den] at dn
  subst dn;obtain ⟨t,rfl⟩:=r1
  exact fin PySem.W.kitx_str trivial rfl rfl (by intro q;cases q) (u2e "str" (fun ty=>ty==.str) (fun h=>JNq h) (fun _=>rfl) fun c=>JQC)
 | list b =>
  simp only [Den] at dn
  obtain ⟨l,xs,rfl,q,_⟩:=dn
  cases r1
  obtain ⟨its,_,⟨o,n,e1,e2,_⟩,_⟩:=I.list (g.K▸q)
  exact fin PySem.W.kitx_list ⟨o,e1,e2⟩ rfl rfl (by intro q;cases q) (u2e "list" (fun ty=>ty==.list) (fun h=>JMz h) (fun _=>rfl) fun c=>JM6)
 | tuple b =>
  simp only [Den] at dn
  obtain ⟨l,xs,rfl,q,_⟩:=dn
  cases r1
  obtain ⟨its,_,⟨o,e1,e2,_⟩,_⟩:=I.tuple (g.K▸q)
  exact fin PySem.W.kitx_tuple ⟨o,e1,e2⟩ rfl rfl (by intro q;cases q) (u2e "tuple" (fun ty=>ty==.tuple) (fun h=>JI6 h) (fun _=>rfl) fun c=>JJT)
 | dict kvs =>
  simp only [Den] at dn
  rcases dn with ⟨l,c,rfl,rfl,q⟩ | ⟨l,xs,rfl,q,dk⟩
  ·cases r1
   simp only [isiD,Int.toNat_natCast] at k fin
   by_cases hk:C.sub c c=true
   ·rw [if_pos hk] at k fin
    have p:ExcAt l (B.cl c) s.heap:=by
     have:=I.hok l _ q
     exact this.1
    rcases tv with ⟨t1,rfl⟩ | ⟨x,e,rfl,hl,rfl⟩
    ·cases r2
     cases ty with
     | valueError=>exact fin (JGJ (I0.exc c hk).1) p rfl rfl (by intro q;cases q) (I0.exc c hk).2
     | own e=>cases t1
     | _=>exact False.elim k
    ·cases r2
     exact fin (JGJ (I0.exc c hk).1) p rfl rfl (by intro q;cases q) (I0.rel c hk x e hl)
   ·rw [if_neg hk] at k
    exact False.elim k
  ·cases kvs with
   | nil=>exact False.elim k
   | cons p r =>
    obtain ⟨p1,p2⟩:=p
    simp only [DenK] at dk
    obtain ⟨_,_,_,_,rfl,_⟩:=dk
    exact False.elim k
theorem r_isi (I0:Isi B G C.sub) (g:Gk X B C CX XX G) (a:Expr) (x:E) (t:Str) (ty:Ty) (p pt pos:Pos) (h1:Gl X "isinstance") (h2:Gl X t) (h3:G.lookup ("isinstance":Str)=some GK.isi)
  (h4:G.lookup t=some (.ty ty)/\JA4 ty=some t\/∃c,ty=.own c/\G.lookup t=some (.cls c)) (h5:JAP t=false) (ha:PE X a (RE B C XX x)) (hs:starEach [a,.Name t pt] X.env=(false,eval a X.env)::starEach [.Name t pt] X.env) :
  PE X (.Call (.Name "isinstance" p) [a,.Name t pt] [] pos) (RE B C XX (.isi x ty)):=by
 have hst:starEach [.Name t pt] X.env=[(false,eval (.Name t pt) X.env)]:=rfl
 obtain ⟨v2,tv,hn⟩:∃v2,TyV B G ty v2/\PE X (.Name t pt) (tC v2):=by
  rcases h4 with ⟨e1,e2⟩ | ⟨c,rfl,e1⟩
  · exact ⟨_,.inl ⟨by rw [e2];rfl,rfl⟩,JNN h2 (g.ty t ty e1) (JNK e2) rfl (JAB h5).2.2 (JAB h5).1⟩
  · exact ⟨_,.inr ⟨t,c,rfl,e1,rfl⟩,JH6 h2 (g.cls t c e1) rfl (JAB h5).1⟩
 refine PE.imp (JCY (JJB I0 g ty) h1 (g.isi _ h3) (by boot_by_name) (JBA ha (JBA hn JBk hst) hs) (by decide) (by decide) hs (by rw [hst];rfl)) ?_
 rintro σ H Q ⟨δ,ok,kk⟩
 simp only [ev] at kk
 refine RE.of (W:=fun r H=>KE B XX r H Q) ok (fun _ _ z=>z) (fun _ z=>z) kk fun d v H1 s1 d1 h1=>?_
 exact ⟨d,v,v2,rfl,d1,tv,KE.mono g s1 h1⟩
end
end VI
end
section
set_option maxRecDepth 100000
namespace VI
open PySem PySem.Spec PyProof.Rows L2
theorem JNl {B:Bs} {C:Cn} {G:List (Str×GK)} {P:Program} {w:World} (I0:Isi B G C.sub)
  (mn:G.lookup ("min":Str)=some (.blt .min)->∀(X:Cx) (XX:Nat->Hp->Prop),Gk X B C (CXV P w B) XX G->CallR X (.builtin "min") (fun vs H Q=>∃ds,DenL B H ds vs/\KE B XX (bltD .min ds) H Q))
  (dc:G.lookup (".dct":Str)=some GK.opt->∀(X:Cx) (XX:Nat->Hp->Prop),Gk X B C (CXV P w B) XX G->∀(n:Nat) (names:List (Str×NameKind)) (N:List Str) (ks:List (Option Expr)) (vs:List Expr) (xs:List Str) (x:E) (pos:Pos),(∀e x,JAA G n false names N e=some x->PE X e (RE B C XX x)) ->
    strKeys ks=some xs->1<=xs.length->xs.length<=15->xs.length=vs.length->xs.Nodup->JAH (JAA G n false names N) vs=some x->PE X (.Dict ks vs pos) (RE B C XX (.dct xs x)))
  (xo:∀k:XO,G.lookup k.flag=some GK.opt->XOk B C (CXV P w B) G k)
  (rp:G.lookup (".rep":Str)=some GK.opt->∀(X:Cx) (XX:Nat->Hp->Prop),Gk X B C (CXV P w B) XX G->∀(es:List Expr) (x:E) (k:Int) (j:Nat) (p p2 pos:Pos),PA X es (RA B C XX x)->cnt x<=1000->0<=k->k<=1000->PE X (.BinOp (.List es p) .Mult (.Constant (.int k) j p2) pos) (RE B C XX (.rep k.toNat x))):Rare B C (CXV P w B) G where
 nox:=fun outer H s e s'=>JIH outer H s e s'
 isi:=fun X XX g a x t ty p pt pos h1 h2 h3 h4 h5 h6 h7=>r_isi I0 g a x t ty p pt pos h1 h2 h3 h4 h5 h6 h7
 count:=fun X XX g o a x y ap cp h1 h2 h3 h4 h5=>JM3 g o a x y ap cp h1 h2 h3 h4 h5
 index:=fun X XX g o a x y ap cp h1 h2 h3 h4 h5=>JNh g o a x y ap cp h1 h2 h3 h4 h5
 get:=fun X XX g o a b x y z ap cp h1 h2 h3 h4 h5 h6 h7=>r_get g o a b x y z ap cp h1 h2 h3 h4 h5 h6 h7
 min:=mn
 dct:=dc
 rep:=rp
 xop:=xo
theorem x_no {B:Bs} {C:Cn} {CX:CXT} {G:List (Str×GK)} {k:XO} (h:G.lookup k.flag=none) (z:G.lookup k.flag=some GK.opt):XOk B C CX G k:=by rw [h] at z;cases z
theorem JMB {B:Bs} {C:Cn} {G:List (Str×GK)} {P:Program} {w:World} (I0:Isi B G C.sub) (h1:G.lookup ("min":Str)=none) (h2:G.lookup (".dct":Str)=none) (h3:G.lookup (".rep":Str)=none) (xo:∀k:XO,G.lookup k.flag=some GK.opt->XOk B C (CXV P w B) G k):Rare B C (CXV P w B) G :=
 JNl I0 (fun z=>by rw [h1] at z;cases z) (fun z=>by rw [h2] at z;cases z) xo (fun z=>by rw [h3] at z;cases z)
noncomputable def allN:Nat->(List Value->Prop)->Prop
 | 0,P=>P []
 | n+1,P=>∀a,allN n fun r=>P (a::r)
theorem JHJ:∀ {n:Nat} {P:List Value->Prop},allN n P->∀us:List Value,us.length=n->P us
 | 0,P,h,us,e=>by rw [q_A.mp e];exact h
 | n+1,P,h,us,e=>by
  cases us with
  | nil=>cases e
  | cons a r=>exact JHJ (h a) r (by simpa using e)
theorem bOk {x:Str} {st:Stmt} {ps:List Str} (h:allN ps.length fun us=>∀(kV doc pm:Value) (an:Option Addr) (cdv ct:Value),bindArgs (PySem.W.fnOf x x (JA9 st) (JAx st) (JAU st) .none kV doc pm an cdv ct) ⟨us,[]⟩=pure (ps.zip us)):JBD x st ps :=
 fun kV doc pm an cdv ct us hl=>JHJ h us hl kV doc pm an cdv ct
noncomputable def JFH (rs:List (Nat×List Nat)) (k c:Nat):Bool:=match rs.lookup k with
 | some l=>l.contains c
 | none=>false
noncomputable def AllR (P:Nat->List Nat->Prop):List (Nat×List Nat)->Prop
 | []=>True
 |(k,l)::r=>P k l/\AllR P r
theorem AllR.get {P:Nat->List Nat->Prop}:∀ {rs:List (Nat×List Nat)} {k:Nat} {l:List Nat},AllR P rs->rs.lookup k=some l->P k l
 | [],k,l,_,h=>by cases h
 |(j,m)::r,k,l,⟨h1,h2⟩,h=>by
  rw [List.lookup_cons] at h
  by_cases e:(k==j)=true
  · rw [e] at h
    have e':k=j:=by simpa using e
    cases h
    subst e'
    exact h1
  · have e':(k==j)=false:=by simpa using e
    rw [e'] at h
    exact AllR.get h2 h
structure ClIn (K:PySem.W.Frag) (x:Str) (C:Addr):Prop where
 ns:PySem.W.nsIn K mainGlobals x=some (some (.ref C))
 ex:PySem.W.excIn K C bmV "ValueError.__new__"=true
 ty:PySem.W.kitOne K (.type "NoneType") (.ref C)=some false
structure RaIn (K:PySem.W.Frag) (C:Addr):Prop where
 k:ExcK K C
 v:PySem.W.kitOne K (.ref C) (.type "ValueError")=some true
noncomputable def JO1 (K:PySem.W.Frag) (C D:Addr) (b:Bool):Prop:=PySem.W.kitOne K (.ref C) (.ref D)=some b/\(b=true->PySem.W.exmOne K (.ref C) (.ref D)=some true)
section
variable {B:Bs} {G:List (Str×GK)} {tab:Nat->Option Fd} {glo:Nat->R D} {rs:List (Nat×List Nat)} {mg:Str->Option Value}
noncomputable def MoP (mg:Str->Option Value) (B:Bs) (G:List (Str×GK)) (tab:Nat->Option Fd) (glo:Nat->R D) (x:Str):GK->Prop
 | .fn i=>∃fd,tab i=some fd/\DefAt B.K mg G x fd
 | .con i=>∀d,glo i=.ok d->∃u v,mg x=some u/\RelV v u/\∀H,Den B H d v
 | .blt _=>mg x=none
 | .rng=>mg x=none
 | .isi=>mg x=none
 | .ty _=>mg x=none
 | .nam=>mg x=none
 | .cls c=>ClIn B.K x (B.cl c)/\mg x=some (.ref (B.cl c))
 | .opt=>True
noncomputable def RaP (B:Bs) (G:List (Str×GK)) (k:Nat) (l:List Nat):Prop:=RaIn B.K (B.cl k)/\AllP (fun _ gk=>match gk with
 | .cls c=>JO1 B.K (B.cl k) (B.cl c) (l.contains c)
 | _=>True) G
theorem JCG {k c:Nat} (h:JFH rs k c=true):∃l,rs.lookup k=some l/\l.contains c=true:=by
 unfold JFH at h
 split at h
 ·rename_i l e
  exact ⟨l,e,h⟩
 ·cases h
theorem JKs (hr:AllR (RaP B G) rs) {x:Str} {k c:Nat} {l:List Nat} (hx:G.lookup x=some (.cls c)) (hk:rs.lookup k=some l):JO1 B.K (B.cl k) (B.cl c) (l.contains c):=(hr.get hk).2.get hx
theorem JOz (h:AllP (MoP mg B G tab glo) G) (hr:AllR (RaP B G) rs):Isi B G (JFH rs) where
 own:=fun x c e=>(h.get e).1.ty
 exc:=fun k hk=>by
  obtain ⟨l,e,_⟩:=JCG hk
  exact ⟨(hr.get e).1.k,(hr.get e).1.v⟩
 rel:=fun k hk x c e=>by
  obtain ⟨l,el,_⟩:=JCG hk
  have:JFH rs k c=l.contains c:=by unfold JFH;rw [el]
  rw [this]
  exact (JKs hr e el).1
theorem mo_of (h:AllP (MoP mg B G tab glo) G) (hr:AllR (RaP B G) rs) (hg:∀i c,glo i≠.exc c):Mo mg B G tab glo (JFH rs) where
 fn:=fun x i e=>h.get e
 con:=fun x i d e q=>h.get e d q
 noexg:=hg
 blt:=fun x b e=>h.get e
 rng:=fun x e=>h.get e
 isi:=fun x e=>h.get e
 ty:=fun x t e=>h.get e
 nam:=fun x e=>h.get e
 cl:=⟨fun x c e=>(h.get e).2,fun x c e=>⟨_,_,_,_,PySem.F.excBase_ValueError,by decide,(h.get e).1.ex⟩⟩
 exm:=fun x c e k hk=>by
  obtain ⟨l,el,hc⟩:=JCG hk
  exact (JKs hr e el).2 hc
end
noncomputable def conV:Value->Option D
 | .none=>some .none
 | .bool b=>some (.bool b)
 | .int i _=>some (.int i)
 | .str x _=>some (.str x)
 | _=>none
theorem JJ6 {B:Bs} {u:Value} {d:D} (h:conV u=some d):∃v,RelV v u/\∀H,Den B H d v:=by
 cases u<;>simp only [conV,q_j,reduceCtorEq] at h<;>subst h
 ·exact ⟨.non,rfl,fun H=>by simp only [Den]⟩
 ·exact ⟨.bl _,rfl,fun H=>by simp only [Den]⟩
 ·exact ⟨.int _,⟨_,rfl⟩,fun H=>by simp only [Den]⟩
 ·exact ⟨.str _,⟨_,rfl⟩,fun H=>by simp only [Den]⟩
inductive EntOk (B:Bs) (w:World):List DictEntry->List (D×D)->Prop
 | nil:EntOk B w [] []
 | cons {en:DictEntry} {x:Str} {t:Tok} {d:D} {es:List DictEntry} {kvs:List (D×D)}:en.key=.str x t->en.hash=hashStr w x->(∃v,RelV v en.val/\∀H,Den B H d v)->EntOk B w es kvs->EntOk B w (en::es) ((.str x,d)::kvs)
theorem EntOk.den {B:Bs} {w:World} {es:List DictEntry} {kvs:List (D×D)} (h:EntOk B w es kvs):∃ks:List (Key×V),(∀H,DenK B H kvs ks)/\∀P:Program,∃rs:List (Key×Value),KV ks rs/\Pairs (JBC P w) es rs/\(∀e∈es,∃k,(JBC P w).is k e.key=true/\e.hash=(JBC P w).hash k)/\rs.map (·.1)=kvs.filterMap (fun p=>match p.1 with | .str x=>some (Sum.inr x:Key) | _=>none):=by
 induction h with
 | nil=>exact ⟨[],fun H=>by simp only [DenK],fun P=>⟨[],.nil,.nil,fun e he=>(by simp at he),rfl⟩⟩
 | @cons en x t d es kvs h1 h2 h3 _ ih =>
  obtain ⟨ks,b,ih⟩:=ih
  obtain ⟨v,r,q⟩:=h3
  refine ⟨(Sum.inr x,v)::ks,fun H=>?_,fun P=>?_⟩
  ·simp only [DenK]
   exact ⟨x,v,ks,rfl,rfl,q H,b H⟩
  ·obtain ⟨rs,a,c,e,f⟩:=ih P
   have hk:(JBC P w).is (Sum.inr x) en.key=true:=by rw [h1];exact JBn P w x t
   refine ⟨(Sum.inr x,en.val)::rs,.cons ⟨rfl,r⟩ a,.cons hk rfl c,fun e' he=>?_,by simp only [List.map_cons,f];rfl⟩
   rcases q_n.mp he with rfl | he
   ·exact ⟨Sum.inr x,hk,h2⟩
   ·exact e e' he
end VI
namespace VI
open PySem PySem.Spec PyProof.Rows L2
mutual
noncomputable def conK (K:PySem.W.Frag):Nat->Value->Option D
 | 0,_=>none
 | n+1,u=>match u with
  | .ref a=>(match K.lookup a with
   | some ⟨.type "tuple",_,.seq its 0,_⟩=>if its.size<=1000 then (JGy K n its.toList).map PyData.tuple else none
   | _=>none)
  | u=>conV u
noncomputable def JGy (K:PySem.W.Frag):Nat->List Value->Option (List D)
 | 0,_=>none
 | _,[]=>some []
 | n+1,u::us=>(conK K n u).bind fun d=>(JGy K n us).map (d::·)
end
mutual
theorem JFl {B:Bs}:∀ {n:Nat} {u:Value} {d:D},conK B.K n u=some d->∃v,RelV v u/\∀H,Den B H d v
 | 0,u,d,h=>by simp [conK] at h
 | n+1,u,d,h=>by
  unfold conK at h
  split at h
  ·rename_i a
   split at h
   ·rename_i od its sl l
    split at h
    ·rename_i hz
     obtain ⟨ds,h1,e⟩:=q_d.mp h
     subst e
     obtain ⟨vs,r,q⟩:=JEd h1
     refine ⟨.ref a,rfl,fun H=>?_⟩
     simp only [Den]
     exact ⟨a,vs,rfl,.inr ⟨_,its,_,l,rfl,rfl,by rw [sizeLine_eq];omega,r⟩,q H⟩
    ·cases h
   ·cases h
  ·exact JJ6 h
theorem JEd {B:Bs}:∀ {n:Nat} {us:List Value} {ds:List D},JGy B.K n us=some ds->∃vs,Vals vs us/\∀H,DenL B H ds vs
 | 0,us,ds,h=>by simp [JGy] at h
 | n+1,[],ds,h=>by
  simp only [JGy,q_j] at h
  subst h
  exact ⟨[],.nil,fun H=>by simp only [DenL]⟩
 | n+1,u::us,ds,h=>by
  unfold JGy at h
  obtain ⟨d,h1,h⟩:=q_a.mp h
  obtain ⟨r,h2,e⟩:=q_d.mp h
  subst e
  obtain ⟨v,r1,q1⟩:=JFl h1
  obtain ⟨vs,r2,q2⟩:=JEd h2
  exact ⟨v::vs,.cons r1 r2,fun H=>by simp only [DenL];exact ⟨v,vs,rfl,q1 H,q2 H⟩⟩
end
theorem JIP {K:PySem.W.Frag} {cl:Nat->Addr} {w:World} {h:Heap} {mg:Str->Option Value} {x:Str} {d0:D} (X:K.In h) (Gm:h.Ns mainGlobals mg)
  (e:((PySem.W.nsIn K mainGlobals x).bind fun o=>o.bind fun u=>conK K 64 u)=some d0) {glo:Nat->R D} {i:Nat} (hg:glo i=.ok d0) :
  ∀d,glo i=.ok d->∃u v,mg x=some u/\RelV v u/\∀H,Den ⟨K,cl,w⟩ H d v:=by
 intro d hd
 rw [hg] at hd
 cases hd
 obtain ⟨o,h1,h2⟩:=q_a.mp e
 obtain ⟨u,h3,h4⟩:=q_a.mp h2
 subst h3
 obtain ⟨v,r,q⟩:=JFl (B:=⟨K,cl,w⟩) h4
 exact ⟨u,v,PySem.W.mg_of X Gm h1,r,q⟩
end VI
end
section
namespace Fr
theorem JBT {a g:Int} (h:g ∣ a):a.fdiv g=a / g:=Int.fdiv_eq_ediv_of_dvd h
theorem JCU (up down:Int) (h:down≠0):up.fdiv (if down<0 then -((up.gcd down:Nat):Int) else ((up.gcd down:Nat):Int))=(Rat.divInt up down).num:=by
 have hg:((up.gcd down:Nat):Int) ∣ up:=Int.gcd_dvd_left ..
 rw [Rat.num_divInt,Int.gcd_comm down up]
 by_cases hd:down<0
 ·rw [if_pos hd,JBT (Int.neg_dvd.mpr hg),Int.sign_eq_neg_one_of_neg hd,Int.neg_one_mul,Int.ediv_neg,Int.neg_ediv_of_dvd hg]
 ·rw [if_neg hd,JBT hg,Int.sign_eq_one_of_pos (by omega),Int.one_mul]
theorem JDt (up down:Int) (h:down≠0):down.fdiv (if down<0 then -((up.gcd down:Nat):Int) else ((up.gcd down:Nat):Int))=((Rat.divInt up down).den:Int):=by
 have hg:((up.gcd down:Nat):Int) ∣ down:=Int.gcd_dvd_right ..
 rw [Rat.den_divInt,if_neg h,Int.gcd_comm down up]
 by_cases hd:down<0
 ·rw [if_pos hd,JBT (Int.neg_dvd.mpr hg),Int.ediv_neg,Int.natCast_ediv,<-Int.neg_ediv_of_dvd hg]
  congr 1
  omega
 ·rw [if_neg hd,JBT hg,Int.natCast_ediv]
  congr 1
  omega
theorem den_pos (q:Rat):(0:Int)<(q.den:Int):=by have:=q.den_pos;omega
theorem JAS (q:Rat):(q.den:Int)≠0:=by have:=den_pos q;omega
theorem JIu (a b:Rat):Rat.divInt (a.num*b.den+b.num*a.den) ((a.den:Int)*b.den)=a+b:=by
 conv=>rhs;rw [<-Rat.num_divInt_den a,<-Rat.num_divInt_den b]
 rw [Rat.divInt_add_divInt _ _ (JAS a) (JAS b)]
theorem JG4 (a b:Rat):Rat.divInt (a.num*b.den - b.num*a.den) ((a.den:Int)*b.den)=a - b:=by
 conv=>rhs;rw [<-Rat.num_divInt_den a,<-Rat.num_divInt_den b]
 rw [Rat.divInt_sub_divInt _ _ (JAS a) (JAS b)]
theorem JFk (a b:Rat):Rat.divInt (a.num*b.num) ((a.den:Int)*b.den)=a*b:=by
 conv=>rhs;rw [<-Rat.num_divInt_den a,<-Rat.num_divInt_den b]
 rw [Rat.divInt_mul_divInt]
theorem JIF (a b:Rat):Rat.divInt (a.num*b.den) ((a.den:Int)*b.num)=a / b:=by
 rw [Rat.div_def,Rat.inv_def]
 conv=>rhs;rw [<-Rat.num_divInt_den a]
 rw [Rat.divInt_mul_divInt]
theorem JGH (a b:Int):b.gcd (a.fmod b)=a.gcd b:=by
 have h:=Int.mul_fdiv_add_fmod a b
 have e:a.fmod b=a - b*a.fdiv b:=by omega
 rw [e,Int.gcd_comm a b]
 apply Nat.dvd_antisymm
 ·apply Int.dvd_gcd
  ·exact Int.gcd_dvd_left ..
  ·have h1:((b.gcd (a - b*a.fdiv b):Nat):Int) ∣ b:=Int.gcd_dvd_left ..
   have h2:((b.gcd (a - b*a.fdiv b):Nat):Int) ∣ a - b*a.fdiv b:=Int.gcd_dvd_right ..
   have h3:=Int.dvd_add h2 (Int.dvd_mul_of_dvd_left (c:=a.fdiv b) h1)
   have e2:a - b*a.fdiv b+b*a.fdiv b=a:=by omega
   rwa [e2] at h3
 ·apply Int.dvd_gcd
  ·exact Int.gcd_dvd_left ..
  ·exact Int.dvd_sub (Int.gcd_dvd_right ..) (Int.dvd_mul_of_dvd_left (Int.gcd_dvd_left ..))
theorem JG8 (a b:Int) (h:b≠0):(a.fmod b).natAbs<b.natAbs:=by
 by_cases hb:0<b
 ·have h1:=Int.fmod_nonneg_of_pos a hb
  have h2:=Int.fmod_lt_of_pos a hb
  omega
 ·have hb':b<0:=by omega
  have h1:=Int.mul_fdiv_add_fmod a b
  rw [Int.fmod_eq_emod]
  have h2:=Int.emod_nonneg a h
  have h3:=Int.emod_lt a h
  split
  ·rename_i q
   rcases q with q | q
   ·omega
   ·have:=Int.emod_eq_zero_of_dvd q
    omega
  ·rename_i q
   have h4:a % b≠0:=fun z=>q (.inr (Int.dvd_of_emod_eq_zero z))
   omega
end Fr
end
section
namespace VI.VP
open PySem
theorem JAD {x:Bool} {tab:Nat->Option Fd} {glo:Nat->R D} {sub:Nat->Nat->Bool} {n f:Nat} {xs:List D} {fd:Fd} (h:tab f=some fd):run x tab glo sub (n+1) f xs=JFb x ⟨run x tab glo sub n,glo,sub⟩ fd xs:=by
 rw [run,h]
@[simp] theorem look_zero (s:Sl) (δ:Env):look (s::δ) 0=s.get:=rfl
@[simp] theorem look_succ (s:Sl) (δ:Env) (i:Nat):look (s::δ) (i+1)=look δ i:=rfl
@[simp] theorem get_val (d:D):(Sl.val d).get=.ok d:=rfl
@[simp] theorem get_own (d:D):(Sl.own d).get=.ok d:=rfl
@[simp] theorem bind_ok {α β:Type} (a:α) (f:α->R β):(R.ok a).bind f=f a:=rfl
@[simp] theorem bind_exc {α β:Type} (c:Nat) (f:α->R β):(R.exc c).bind f=.exc c:=rfl
@[simp] theorem stepR_ok {α:Type} (a:α) (f:α->Fl):stepR (.ok a) f=f a:=rfl
@[simp] theorem stepR_exc {α:Type} (c:Nat) (f:α->Fl):stepR (.exc c) f=.ex c:=rfl
theorem JCn (e:E) (i:Nat) (d:D) (r:Env):JAJ e i (.val d::r)=JAJ e (i+1) r:=by simp [JAJ,Sl.isOwn]
theorem JDK (e:E) (i:Nat) (r:Env):JAJ e i (.no::r)=JAJ e (i+1) r:=by simp [JAJ,Sl.isOwn]
theorem JL5 (e:E) (i:Nat) (d:D) (r:Env):JAJ e i (.own d::r)=(e.uses i || JAJ e (i+1) r):=by simp [JAJ,Sl.isOwn]
theorem JCq (e:E) (i:Nat):JAJ e i []=false:=rfl
theorem JBO (e:E) (i:Nat) (d:D) (r:Env):JAg e i (.val d::r)=.val d::JAg e (i+1) r:=by simp [JAg,Sl.frz]
theorem JBd (e:E) (i:Nat) (r:Env):JAg e i (.no::r)=.no::JAg e (i+1) r:=by simp [JAg,Sl.frz]
theorem JB6 (e:E) (i:Nat) (d:D) (r:Env):JAg e i (.own d::r)=(if e.uses i=true then .val d else .own d)::JAg e (i+1) r:=by
 simp only [JAg,Sl.frz]
theorem JAf (e:E) (i:Nat):JAg e i []=[]:=rfl
theorem JFj (e:E) (d:D) (δ:Env):after e d δ=if (JAJ e 0 δ&&!JAR d)=true then JAg e 0 δ else δ:=rfl
noncomputable def JJi (x:Bool):Fl->R D
 | .nx _=>.ok .none
 | .rt d=>.ok d
 | .ex c=>if x=true then .exc c else .bad
 | _=>.bad
theorem JAE {x:Bool} {C:Cn} {f:Fd} {xs:List D} (h:xs.length=f.par):JFb x C f xs=JJi x (exec C f.body (xs.map Sl.val++List.replicate (f.slots - f.par) Sl.no)):=by
 unfold JFb
 rw [if_pos h]
 cases exec C f.body (xs.map Sl.val++List.replicate (f.slots - f.par) Sl.no)<;>rfl
section
variable {c:Env->R Bool} {b:Env->Fl}
theorem JBl:∀(n:Nat) (δ:Env),JAc c b n δ≠.bad->JAc c b (n+1) δ=JAc c b n δ
 | 0,δ,h=>absurd rfl h
 | n+1,δ,h=>by
  unfold JAc at h ⊢
  cases hc:c δ with
  | ok k =>
   cases k with
   | true =>
    rw [hc] at h
    simp only at h ⊢
    cases hb:b δ with
    | nx δ'=>rw [hb] at h;exact JBl n δ' h
    | ct δ'=>rw [hb] at h;exact JBl n δ' h
    | bk δ'=>rfl
    | rt d=>rfl
    | ex k=>rfl
    | bad=>rfl
   | false=>rfl
  | exc k=>rfl
  | bad=>rfl
theorem JEE {n m:Nat} {δ:Env} (h:JAc c b n δ≠.bad) (hm:n<=m):JAc c b m δ=JAc c b n δ:=by
 induction hm with
 | refl=>rfl
 | step _ ih=>rw [JBl _ _ (by rw [ih];exact h),ih]
theorem JCZ {n:Nat} {δ:Env} (h:JAc c b n δ≠.bad):JBV c b δ=JAc c b n δ:=by
 unfold JBV
 have hx:∃n,JAc c b n δ≠.bad:=⟨n,h⟩
 rw [dif_pos hx]
 have h2:=hx.choose_spec
 rcases Nat.le_total n hx.choose with l | l
 ·exact JEE h l
 ·exact (JEE h2 l).symm
theorem JC0 {δ:Env} (hc:c δ=.ok false):JBV c b δ=.nx δ:=by
 have:JAc c b 1 δ=.nx δ:=by unfold JAc;rw [hc]
 rw [JCZ (n:=1) (by rw [this];intro h;cases h),this]
theorem JCd {δ δ':Env} (hc:c δ=.ok true) (hb:b δ=.nx δ'):JBV c b δ=JBV c b δ':=by
 have hs:∀n,JAc c b (n+1) δ=JAc c b n δ':=fun n=>by
  conv=>lhs;unfold JAc
  rw [hc];simp only;rw [hb]
 by_cases h:∃n,JAc c b n δ'≠.bad
 ·obtain ⟨n,h⟩:=h
  rw [JCZ h,JCZ (n:=n+1) (by rw [hs];exact h),hs]
 ·have h1:JBV c b δ'=.bad:=by unfold JBV;rw [dif_neg h]
  have h2:¬ ∃n,JAc c b n δ≠.bad:=by
   rintro ⟨n,q⟩
   cases n with
   | zero=>exact q rfl
   | succ n=>exact h ⟨n,by rw [<-hs];exact q⟩
  rw [h1]
  unfold JBV
  rw [dif_neg h2]
end
theorem JBa {i:Int} {k:Nat} (h:i.natAbs<2 ^ k):Builtin.Int.intBits i<=k:=by
 unfold Builtin.Int.intBits
 split
 ·omega
 ·rename_i hz
  have hn:i.natAbs≠0:=by simpa using hz
  have:=(Nat.log2_lt hn).mpr h
  omega
theorem JHR {i j:Int} (h:j.natAbs<2 ^ 9000):Builtin.divisionGoesByPylong i j=false:=by
 unfold Builtin.divisionGoesByPylong
 simp only [Bool.and_eq_false_iff,decide_eq_false_iff_not]
 left
 split
 ·omega
 ·rename_i hz
  have hn:j.natAbs≠0:=by simpa using hz
  have:=(Nat.log2_lt hn).mpr h
  omega
end VI.VP
end
section
namespace VI.VP
open PySem Fr
noncomputable def L (i:Int):Prop:=i.natAbs<2 ^ 4000
theorem L.of {i:Int} {k:Nat} (h:i.natAbs<2 ^ k) (hk:k<=4000):L i:=q_m h (Nat.pow_le_pow_right (by omega) hk)
theorem JNs {i j:Int} (hi:L i) (hj:L j):IntMulOk i j:=by
 have h1:=JBa hi
 have h2:=JBa hj
 unfold IntMulOk
 intro h
 simp only [q_i,q_C] at h
 have h3:=h.2
 unfold Builtin.Int.intTooBig at h3
 have:(bitsLine:Int) ≥ 8000:=by decide
 simp only [q_C] at h3
 omega
theorem pyl {i j:Int} (hj:L j):Builtin.divisionGoesByPylong i j=false:=JHR (q_m hj (Nat.pow_le_pow_right (by omega) (by omega)))
theorem JAj {i j:Int} (hi:L i) (hj:L j):binD .Mult (.int i) (.int j)=.ok (.int (i*j)):=by
 simp only [binD,if_pos (JNs hi hj)]
theorem JGB {i j:Int} (hj:j.natAbs<2 ^ 64):binD .Mult (.int i) (.int j)=.ok (.int (i*j)):=by
 simp only [binD,if_pos (IntMulOk.of_right (a:=i) (JBa hj))]
theorem JCe {i j:Int} (hj:i.natAbs<2 ^ 64):binD .Mult (.int i) (.int j)=.ok (.int (i*j)):=by
 simp only [binD,if_pos (IntMulOk.of_left (b:=j) (JBa hj))]
theorem JPH {i j:Int}:binD .Add (.int i) (.int j)=.ok (.int (i+j)):=rfl
theorem JOh {i j:Int}:binD .Sub (.int i) (.int j)=.ok (.int (i - j)):=rfl
theorem JHM {i j:Int} (h:j≠0) (hj:L j):binD .FloorDiv (.int i) (.int j)=.ok (.int (i.fdiv j)):=by
 simp only [binD,if_pos (And.intro h (pyl (i:=i) hj))]
theorem JFd {i j:Int} (h:j≠0):binD .Mod (.int i) (.int j)=.ok (.int (i.fmod j)):=by
 simp only [binD,if_pos h]
noncomputable def F (q:Rat):D:=.tuple [.int q.num,.int q.den]
theorem JNJ (p q:Rat):PyData.eqv (F p) (F q)=decide (p=q):=by
 simp only [F,PyData.eqv,PyData.eqvAll,Bool.and_true]
 by_cases h:p=q
 ·subst h;simp
 ·rw [q_o h]
  simp only [Bool.and_eq_false_iff,beq_eq_false_iff_ne,ne_eq]
  by_cases hn:p.num=q.num
  ·right
   intro hd
   exact h (Rat.ext hn (by omega))
  ·left;exact hn
theorem JGS (q:Rat):shaped (F q)=true:=by
 simp only [shaped,F,PyData.canLay0,PyData.canLayAll0,PyData.depth,PyData.depthAll,Bool.and_true,Bool.true_and]
 decide
theorem JKr (q:Rat):idxD (F q) (.int 0)=.ok (.int q.num):=rfl
theorem JLk (q:Rat):idxD (F q) (.int 1)=.ok (.int q.den):=rfl
theorem F_ne (p q:Rat):cmpD .NotEq (F p) (F q)=.ok (.bool (!decide (p=q))):=by
 simp only [cmpD,JGS,Bool.and_self,if_true,JNJ]
theorem F_eq (p q:Rat):cmpD .Eq (F p) (F q)=.ok (.bool (decide (p=q))):=by
 simp only [cmpD,JGS,Bool.and_self,if_true,JNJ]
theorem i_ne (i j:Int):cmpD .NotEq (.int i) (.int j)=.ok (.bool (!decide (i=j))):=by
 have:PyData.eqv (.int i) (.int j)=decide (i=j):=by simp only [PyData.eqv];rfl
 simp only [cmpD,shaped,PyData.canLay0,PyData.depth,this]
 rfl
theorem i_eq (i j:Int):cmpD .Eq (.int i) (.int j)=.ok (.bool (decide (i=j))):=by
 have:PyData.eqv (.int i) (.int j)=decide (i=j):=by simp only [PyData.eqv];rfl
 simp only [cmpD,shaped,PyData.canLay0,PyData.depth,this]
 rfl
theorem i_lt (i j:Int):cmpD .Lt (.int i) (.int j)=.ok (.bool (decide (i<j))):=rfl
theorem i_gt (i j:Int):cmpD .Gt (.int i) (.int j)=.ok (.bool (decide (j<i))):=rfl
theorem i_le (i j:Int):cmpD .LtE (.int i) (.int j)=.ok (.bool (decide (i<=j))):=rfl
theorem i_ge (i j:Int):cmpD .GtE (.int i) (.int j)=.ok (.bool (decide (j<=i))):=rfl
theorem JHC (u d:Int) (h:d≠0):(Rat.divInt u d).num.natAbs<=u.natAbs:=by
 rw [<-JCU u d h]
 have hg:((u.gcd d:Nat):Int) ∣ u:=Int.gcd_dvd_left ..
 have key:∀g:Int,g ∣ u->(u.fdiv g).natAbs<=u.natAbs:=fun g hg=>by
  rw [JBT hg]
  obtain ⟨k,rfl⟩:=hg
  by_cases hz:g=0
  ·subst hz;simp
  ·rw [Int.mul_ediv_cancel_left _ hz,Int.natAbs_mul]
   have:0<g.natAbs:=by omega
   exact Nat.le_mul_of_pos_left _ this
 split
 ·exact key _ (Int.neg_dvd.mpr hg)
 ·exact key _ hg
theorem JGb (u d:Int) (h:d≠0):(Rat.divInt u d).den<=d.natAbs:=by
 rw [Rat.den_divInt,if_neg h]
 exact Nat.div_le_self _ _
noncomputable def Sz (k:Nat) (q:Rat):Prop:=q.num.natAbs<2 ^ k/\q.den<2 ^ k
theorem Sz.mono {i k:Nat} {q:Rat} (h:Sz i q) (hk:i<=k):Sz k q:=⟨q_m h.1 (Nat.pow_le_pow_right (by omega) hk),q_m h.2 (Nat.pow_le_pow_right (by omega) hk)⟩
theorem Sz.of {u d:Int} {k:Nat} (h:d≠0) (hu:u.natAbs<2 ^ k) (hd:d.natAbs<2 ^ k):Sz k (Rat.divInt u d):=⟨Nat.lt_of_le_of_lt (JHC u d h) hu,Nat.lt_of_le_of_lt (JGb u d h) hd⟩
theorem Sz.n {k:Nat} {q:Rat} (h:Sz k q):q.num.natAbs<2 ^ k:=h.1
theorem Sz.d {k:Nat} {q:Rat} (h:Sz k q):(q.den:Int).natAbs<2 ^ k:=by simpa using h.2
theorem JAQ {a b:Int} {i j:Nat} (h1:a.natAbs<2 ^ i) (h2:b.natAbs<2 ^ j):(a*b).natAbs<2 ^ (i+j):=by
 rw [Int.natAbs_mul,Nat.pow_add]
 exact Nat.mul_lt_mul'' h1 h2
theorem JOw {a b:Int} {i:Nat} (h1:a.natAbs<2 ^ i) (h2:b.natAbs<2 ^ i):(a+b).natAbs<2 ^ (i+1):=by
 have:=Int.natAbs_add_le a b
 rw [Nat.pow_succ]
 omega
theorem JPe {a b:Int} {i:Nat} (h1:a.natAbs<2 ^ i) (h2:b.natAbs<2 ^ i):(a - b).natAbs<2 ^ (i+1):=by
 have:=Int.natAbs_sub_le a b
 rw [Nat.pow_succ]
 omega
theorem JDG {a:Int} {i k:Nat} (h:a.natAbs<2 ^ i) (hk:i<=k):a.natAbs<2 ^ k:=q_m h (Nat.pow_le_pow_right (by omega) hk)
section
variable {i j k:Nat} {p q:Rat}
theorem Sz.add (hp:Sz i p) (hq:Sz j q) (hk:i+j+1<=k):Sz k (p+q):=by
 rw [<-JIu]
 have h1:=JAQ hp.n hq.d
 have h2:=JAQ hq.n hp.d
 rw [Nat.add_comm j i] at h2
 refine Sz.of (Int.mul_ne_zero (JAS p) (JAS q)) (JDG (JOw h1 h2) hk) (JDG (JAQ hp.d hq.d) (by omega))
theorem Sz.sub (hp:Sz i p) (hq:Sz j q) (hk:i+j+1<=k):Sz k (p - q):=by
 rw [<-JG4]
 have h1:=JAQ hp.n hq.d
 have h2:=JAQ hq.n hp.d
 rw [Nat.add_comm j i] at h2
 refine Sz.of (Int.mul_ne_zero (JAS p) (JAS q)) (JDG (JPe h1 h2) hk) (JDG (JAQ hp.d hq.d) (by omega))
theorem Sz.mul (hp:Sz i p) (hq:Sz j q) (hk:i+j<=k):Sz k (p*q):=by
 rw [<-JFk]
 exact Sz.of (Int.mul_ne_zero (JAS p) (JAS q)) (JDG (JAQ hp.n hq.n) hk) (JDG (JAQ hp.d hq.d) hk)
theorem Sz.div (hp:Sz i p) (hq:Sz j q) (h0:q≠0) (hk:i+j<=k):Sz k (p / q):=by
 rw [<-JIF]
 have:q.num≠0:=fun z=>h0 (Rat.num_eq_zero.mp z)
 exact Sz.of (Int.mul_ne_zero (JAS p) this) (JDG (JAQ hp.n hq.d) hk) (JDG (JAQ hp.d hq.n) hk)
end
abbrev Q (q:Rat):Prop:=Sz 1500 q
theorem Sz.Ln {k:Nat} {q:Rat} (h:Sz k q) (hk:k<=4000):L q.num:=L.of h.n hk
theorem Sz.Ld {k:Nat} {q:Rat} (h:Sz k q) (hk:k<=4000):L (q.den:Int):=L.of h.d hk
end VI.VP
end
section
namespace VI.VP
open PySem
section
variable {C:Cn} {δ:Env} {a b c e es o i r:E} {x y z d:D} {xs:List D}
noncomputable def bin1 (op:Operator):R D->R D->R D
 | .ok x,.ok y=>binD op x y
 | .ok _,r=>r
 | r,_=>r
noncomputable def neg1:R D->R D
 | .ok (.int i)=>.ok (.int (-i))
 | .exc c=>.exc c
 | _=>.bad
noncomputable def not1:R Bool->R D
 | .ok b=>.ok (.bool (!b))
 | .exc c=>.exc c
 | .bad=>.bad
noncomputable def tr1:R D->R Bool
 | .ok d=>truth d
 | .exc c=>.exc c
 | .bad=>.bad
noncomputable def and1 (C:Cn) (b:E) (δ:Env):R D->R D
 | .ok (.bool true)=>ev C b δ
 | .ok (.bool false)=>.ok (.bool false)
 | .exc c=>.exc c
 | _=>.bad
noncomputable def or1 (C:Cn) (b:E) (δ:Env):R D->R D
 | .ok (.bool true)=>.ok (.bool true)
 | .ok (.bool false)=>ev C b δ
 | .exc c=>.exc c
 | _=>.bad
noncomputable def cmp1 (op:CmpOp):R D->R D->R D
 | .ok x,.ok y=>cmpD op x y
 | .ok _,r=>r
 | r,_=>r
noncomputable def isN1 (n:Bool):R D->R D
 | .ok x=>.ok (.bool (if n=true then !isNone x else isNone x))
 | r=>r
noncomputable def isB1 (b:Bool):R D->R D
 | .ok (.bool c)=>.ok (.bool (c==b))
 | .exc c=>.exc c
 | _=>.bad
noncomputable def ife1 (C:Cn) (a b:E) (δ:Env):R Bool->R D
 | .ok true=>ev C a δ
 | .ok false=>ev C b δ
 | .exc c=>.exc c
 | .bad=>.bad
noncomputable def tup1:R (List D)->R D
 | .ok xs=>.ok (.tuple xs)
 | .exc c=>.exc c
 | .bad=>.bad
noncomputable def lst1:R (List D)->R D
 | .ok xs=>.ok (.list xs)
 | .exc c=>.exc c
 | .bad=>.bad
noncomputable def idx1:R D->R D->R D
 | .ok x,.ok y=>idxD x y
 | .ok _,r=>r
 | r,_=>r
noncomputable def JIo (C:Cn) (f:Nat):R (List D)->R D
 | .ok xs=>C.fn f xs
 | .exc c=>.exc c
 | .bad=>.bad
noncomputable def blt1 (b:Blt):R (List D)->R D
 | .ok xs=>bltD b xs
 | .exc c=>.exc c
 | .bad=>.bad
noncomputable def isi1 (C:Cn) (t:Ty):R D->R D
 | .ok x=>isiD C.sub x t
 | r=>r
noncomputable def JKx:R D->R D->R D
 | .ok (.list xs),.ok y=>JE8 (.list xs) y
 | .ok (.list _),r=>r
 | .exc c,_=>.exc c
 | _,_=>.bad
noncomputable def JKo:R D->R D->R D
 | .ok (.list xs),.ok y=>JEn (.list xs) y
 | .ok (.list _),r=>r
 | .exc c,_=>.exc c
 | _,_=>.bad
noncomputable def get1:R D->R D->R D->R D
 | .ok x,r1,r2=>if JJe x=true then (r1.bind fun y=>r2.bind fun z=>JDr x y z) else .bad
 | .exc c,_,_=>.exc c
 | _,_,_=>.bad
noncomputable def JJG:R D->R (List D)->R (List D)
 | .ok x,.ok xs=>.ok (x::xs)
 | .ok _,r=>r
 | .exc c,_=>.exc c
 | .bad,_=>.bad
noncomputable def JEY (C:Cn) (k:Nat) (elt cond:E) (δ:Env) (x:D):R (Option D):=(push k x δ).bind fun δ1=>(evT C cond δ1).bind fun t=>if t=true then (ev C elt δ1).bind fun y=>.ok (some y) else .ok none
noncomputable def JCO (C:Cn) (k:Nat) (elt cond:E) (δ:Env):R (List D)->R D
 | .ok xs=>if xs.length<=16777216 then (JAo (JEY C k elt cond δ) xs).bind fun ys=>.ok (.list ys) else .bad
 | .exc c=>.exc c
 | .bad=>.bad
noncomputable def its1:R D->R (List D)
 | .ok d=>JA5 d
 | .exc c=>.exc c
 | .bad=>.bad
noncomputable def rng1:R (List D)->R (List D)
 | .ok d=>rngD d
 | r=>r
theorem JCy (r:R D):r.bind truth=tr1 r:=by cases r<;>rfl
theorem JB8 (r:R D):r.bind JA5=its1 r:=by cases r<;>rfl
theorem v_var {j:Nat}:ev C (.var j) δ=look δ j:=by simp only [ev]
theorem JOS {j:Int}:ev C (.cint j) δ=.ok (.int j):=by simp only [ev]
theorem v_bl {j:Bool}:ev C (.cbl j) δ=.ok (.bool j):=by simp only [ev]
theorem JNy:ev C .cnon δ=.ok .none:=by simp only [ev]
theorem JOm {j:Str}:ev C (.cstr j) δ=.ok (.str j):=by simp only [ev]
theorem JNw {j:Nat}:ev C (.glo j) δ=C.glo j:=by simp only [ev]
theorem JOc {op:Operator}:ev C (.bin op a b) δ=bin1 op (ev C a δ) (ev C b δ):=by
 simp only [ev]
 cases ev C a δ<;>cases ev C b δ<;>rfl
theorem JO6:ev C (.neg a) δ=neg1 (ev C a δ):=by
 simp only [ev]
 cases h:ev C a δ with
 | ok d=>cases d<;>rfl
 | exc c=>rfl
 | bad=>rfl
theorem v_not:ev C (.not a) δ=not1 (tr1 (ev C a δ)):=by
 simp only [ev]
 cases h:ev C a δ with
 | ok d=>simp only [R.bind,tr1];cases truth d<;>rfl
 | exc c=>rfl
 | bad=>rfl
theorem v_and:ev C (.and a b) δ=and1 C b δ (ev C a δ):=by
 simp only [ev]
 cases h:ev C a δ with
 | ok d =>
  cases d with
  | bool k=>cases k<;>rfl
  | _=>rfl
 | exc c=>rfl
 | bad=>rfl
theorem v_or:ev C (.or a b) δ=or1 C b δ (ev C a δ):=by
 simp only [ev]
 cases h:ev C a δ with
 | ok d =>
  cases d with
  | bool k=>cases k<;>rfl
  | _=>rfl
 | exc c=>rfl
 | bad=>rfl
theorem JOj {op:CmpOp}:ev C (.cmp op a b) δ=cmp1 op (ev C a δ) (ev C b δ):=by
 simp only [ev]
 cases ev C a δ<;>cases ev C b δ<;>rfl
theorem JOO {k:Bool}:ev C (.isN a k) δ=isN1 k (ev C a δ):=by
 simp only [ev]
 cases ev C a δ<;>rfl
theorem JOW {k:Bool}:ev C (.isB a k) δ=isB1 k (ev C a δ):=by
 simp only [ev]
 cases h:ev C a δ with
 | ok d=>cases d<;>rfl
 | exc c=>rfl
 | bad=>rfl
theorem JQd:ev C (.ife c a b) δ=ife1 C a b δ (evT C c δ):=by
 simp only [ev]
 cases h:evT C c δ with
 | ok k=>cases k<;>rfl
 | exc c=>rfl
 | bad=>rfl
theorem JPd:ev C (.tup es) δ=tup1 (evA C es δ):=by simp only [ev];cases evA C es δ<;>rfl
theorem JQI:ev C (.lst es) δ=lst1 (evA C es δ):=by simp only [ev];cases evA C es δ<;>rfl
theorem JP6:ev C (.idx a i) δ=idx1 (ev C a δ) (ev C i δ):=by
 simp only [ev]
 cases ev C a δ<;>cases ev C i δ<;>rfl
theorem JKR {f:Nat}:ev C (.call f es) δ=JIo C f (evA C es δ):=by simp only [ev];cases evA C es δ<;>rfl
theorem JPT {f:Blt}:ev C (.blt f es) δ=blt1 f (evA C es δ):=by simp only [ev];cases evA C es δ<;>rfl
theorem JQh {t:Ty}:ev C (.isi a t) δ=isi1 C t (ev C a δ):=by simp only [ev];cases ev C a δ<;>rfl
theorem v_count:ev C (.mcount o a) δ=JKx (ev C o δ) (ev C a δ):=by
 simp only [ev]
 cases ev C o δ with
 | ok d=>cases d<;>cases ev C a δ<;>rfl
 | exc c=>rfl
 | bad=>rfl
theorem JHi:ev C (.mindex o a) δ=JKo (ev C o δ) (ev C a δ):=by
 simp only [ev]
 cases ev C o δ with
 | ok d=>cases d<;>cases ev C a δ<;>rfl
 | exc c=>rfl
 | bad=>rfl
theorem v_get:ev C (.mget o a b) δ=get1 (ev C o δ) (ev C a δ) (ev C b δ):=by
 simp only [ev]
 cases ev C o δ with
 | ok d=>rfl
 | exc c=>rfl
 | bad=>rfl
theorem JLm {k:Nat}:ev C (.cmpr k e i c) δ=JCO C k e c δ (evI C i δ):=by
 simp only [ev]
 cases evI C i δ<;>rfl
noncomputable def dct1 (ks:List Str):R (List D)->R D
 | .ok xs=>.ok (.dict ((ks.map PyData.str).zip xs))
 | .exc c=>.exc c
 | .bad=>.bad
noncomputable def rep1 (k:Nat):R (List D)->R D
 | .ok xs=>.ok (.list (List.replicate k xs).flatten)
 | .exc c=>.exc c
 | .bad=>.bad
theorem JN3 {ks:List Str}:ev C (.dct ks es) δ=dct1 ks (evA C es δ):=by simp only [ev];cases evA C es δ<;>rfl
theorem JOX {k:Nat}:ev C (.rep k es) δ=rep1 k (evA C es δ):=by simp only [ev];cases evA C es δ<;>rfl
noncomputable def fn11 (o:O1):R D->R D
 | .ok x=>op1D o x
 | r=>r
noncomputable def JNI (b:Bool):R D->R D
 | .ok (.bool c)=>.ok (.bool (!(c==b)))
 | .exc c=>.exc c
 | _=>.bad
theorem JPk {o1:O1}:ev C (.fn1 o1 a) δ=fn11 o1 (ev C a δ):=by simp only [ev];cases ev C a δ<;>rfl
theorem JKh {k:Bool}:ev C (.isnB a k) δ=JNI k (ev C a δ):=by
 simp only [ev]
 cases h:ev C a δ with
 | ok d=>cases d<;>rfl
 | exc c=>rfl
 | bad=>rfl
theorem JFh {k:Bool}:evT C (.isnB a k) δ=tr1 (JNI k (ev C a δ)):=by
 simp only [evT]
 cases h:ev C a δ with
 | ok d=>cases d<;>rfl
 | exc c=>rfl
 | bad=>rfl
noncomputable def xop1 (k:XO):R (List D)->R D
 | .ok xs=>xD k xs
 | .exc c=>.exc c
 | .bad=>.bad
theorem JPg {k:XO}:ev C (.xop k es) δ=xop1 k (evA C es δ):=by simp only [ev];cases evA C es δ<;>rfl
theorem JQa {k:XO}:evI C (.xop k es) δ=its1 (xop1 k (evA C es δ)):=by simp only [evI,JB8];cases evA C es δ<;>rfl
theorem JN1 {o1:O1}:evI C (.fn1 o1 a) δ=its1 (fn11 o1 (ev C a δ)):=by simp only [evI,JB8];cases ev C a δ<;>rfl
theorem JOJ {op:Operator}:evI C (.bin op a b) δ=its1 (bin1 op (ev C a δ) (ev C b δ)):=by
 simp only [evI,JB8]
 cases ev C a δ<;>cases ev C b δ<;>rfl
theorem JKd:evA C .nil δ=.ok []:=by simp only [evA]
theorem JHO:evA C (.cons a r) δ=JJG (ev C a δ) (evA C r δ):=by
 simp only [evA]
 cases ev C a δ<;>cases evA C r δ<;>rfl
theorem JJk:evT C (.not a) δ=tr1 (not1 (evT C a δ)):=by
 simp only [evT]
 cases evT C a δ<;>rfl
noncomputable def andT (C:Cn) (b:E) (δ:Env):R Bool->R Bool
 | .ok true=>evT C b δ
 | r=>r
noncomputable def orT (C:Cn) (b:E) (δ:Env):R Bool->R Bool
 | .ok false=>evT C b δ
 | r=>r
theorem JPi:evT C (.and a b) δ=andT C b δ (evT C a δ):=by
 simp only [evT]
 cases h:evT C a δ with
 | ok k=>cases k<;>rfl
 | exc c=>rfl
 | bad=>rfl
theorem t_or:evT C (.or a b) δ=orT C b δ (evT C a δ):=by
 simp only [evT]
 cases h:evT C a δ with
 | ok k=>cases k<;>rfl
 | exc c=>rfl
 | bad=>rfl
theorem JNp {j:Nat}:evT C (.var j) δ=tr1 (look δ j):=by simp only [evT];cases look δ j<;>rfl
theorem t_bl {j:Bool}:evT C (.cbl j) δ=.ok j:=by simp only [evT]
theorem JOT {op:CmpOp}:evT C (.cmp op a b) δ=tr1 (cmp1 op (ev C a δ) (ev C b δ)):=by
 simp only [evT,JCy]
 cases ev C a δ<;>cases ev C b δ<;>rfl
theorem JJm {k:Bool}:evT C (.isN a k) δ=tr1 (isN1 k (ev C a δ)):=by simp only [evT];cases ev C a δ<;>rfl
theorem JJo {k:Bool}:evT C (.isB a k) δ=tr1 (isB1 k (ev C a δ)):=by
 simp only [evT]
 cases h:ev C a δ with
 | ok d=>cases d<;>rfl
 | exc c=>rfl
 | bad=>rfl
theorem JPu:evT C (.idx a i) δ=tr1 (idx1 (ev C a δ) (ev C i δ)):=by
 simp only [evT,JCy]
 cases ev C a δ<;>cases ev C i δ<;>rfl
theorem JKe {f:Nat}:evT C (.call f es) δ=tr1 (JIo C f (evA C es δ)):=by simp only [evT,JCy];cases evA C es δ<;>rfl
theorem JPl {f:Blt}:evT C (.blt f es) δ=tr1 (blt1 f (evA C es δ)):=by simp only [evT,JCy];cases evA C es δ<;>rfl
theorem JQb {t:Ty}:evT C (.isi a t) δ=tr1 (isi1 C t (ev C a δ)):=by simp only [evT,JCy];cases ev C a δ<;>rfl
theorem JOi:evI C (.rng es) δ=rng1 (evA C es δ):=by simp only [evI];cases evA C es δ<;>rfl
theorem JPC {j:Nat}:evI C (.var j) δ=its1 (look δ j):=by simp only [evI];cases look δ j<;>rfl
theorem JPW {j:Nat}:evI C (.glo j) δ=its1 (C.glo j):=by simp only [evI];cases C.glo j<;>rfl
theorem l_idx:evI C (.idx a i) δ=its1 (idx1 (ev C a δ) (ev C i δ)):=by
 simp only [evI,JB8]
 cases ev C a δ<;>cases ev C i δ<;>rfl
theorem JLX {f:Nat}:evI C (.call f es) δ=its1 (JIo C f (evA C es δ)):=by simp only [evI,JB8];cases evA C es δ<;>rfl
theorem JOV:evI C (.tup es) δ=evA C es δ:=by simp only [evI]
theorem JOv:evI C (.lst es) δ=evA C es δ:=by simp only [evI]
noncomputable def seq1 (C:Cn) (r:S):Fl->Fl
 | .nx δ=>exec C r δ
 | f=>f
noncomputable def asg1 (i:Nat) (e:E) (δ:Env):R D->Fl
 | .ok x=>if e.fresh=true then .nx ((after e x δ).set i (.own x)) else .nx ((after e x δ).set i (.val x))
 | .exc c=>.ex c
 | .bad=>.bad
noncomputable def unp2 (is:List Nat) (δ:Env):R (List D)->Fl
 | .ok xs=>.nx (JBB is xs δ)
 | .exc c=>.ex c
 | .bad=>.bad
noncomputable def unp1 (is:List Nat) (e:E) (δ:Env):R D->Fl
 | .ok d=>unp2 is (after e d δ) (JAd is.length d)
 | .exc c=>.ex c
 | .bad=>.bad
noncomputable def ret1:R D->Fl
 | .ok d=>.rt d
 | .exc c=>.ex c
 | .bad=>.bad
noncomputable def ifs1 (C:Cn) (a b:S) (δ:Env):R Bool->Fl
 | .ok true=>exec C a δ
 | .ok false=>exec C b δ
 | .exc c=>.ex c
 | .bad=>.bad
noncomputable def app1 (i:Nat) (e:E) (δ:Env) (r:R D):Option Sl->Fl
 | some (.own (.list ds))=>(match r with
  | .ok x=>JBP i ds e x δ
  | .exc c=>.ex c
  | .bad=>.bad)
 | _=>.bad
noncomputable def ext1 (i:Nat) (e:E) (δ:Env) (r:R D):Option Sl->Fl
 | some (.own (.list ds))=>(match r with
  | .ok x=>JBo i ds e x δ
  | .exc c=>.ex c
  | .bad=>.bad)
 | _=>.bad
noncomputable def JNV (e:E) (δ:Env):R D->Fl
 | .ok x=>.nx (after e x δ)
 | .exc c=>.ex c
 | .bad=>.bad
noncomputable def for2 (C:Cn) (i:Nat) (b:S):List D->Env->Fl:=forL (put1 i) (exec C b)
noncomputable def for1 (C:Cn) (i:Nat) (e:E) (b:S) (δ:Env):R (List D)->Fl
 | .ok xs=>for2 C i b xs (JAg e 0 δ)
 | .exc c=>.ex c
 | .bad=>.bad
noncomputable def whl1 (C:Cn) (c:E) (b:S) (δ:Env):Fl:=JBV (evT C c) (exec C b) δ
noncomputable def try1 (C:Cn) (c i:Nat) (h:S) (δ:Env):Fl->Fl
 | .ex k=>if C.sub k c=true then (match exec C h ((δ.map fun _=>Sl.no).set i (.val (excD k))) with
  | .nx δ2=>.nx (δ2.set i .no)
  | .rt d=>.rt d
  | _=>.bad) else .bad
 | f=>f
variable {s t h:S} {j k:Nat}
theorem JNj:exec C .nil δ=.nx δ:=by simp only [exec]
theorem JHx:exec C (.cons s t) δ=seq1 C t (exec C s δ):=by simp only [exec];cases exec C s δ<;>rfl
theorem JLf:exec C .pass δ=.nx δ:=by simp only [exec]
theorem JQT:exec C .brk δ=.bk δ:=by simp only [exec]
theorem JOt:exec C .cnt δ=.ct δ:=by simp only [exec]
theorem JPs:exec C (.asg j e) δ=asg1 j e δ (ev C e δ):=by simp only [exec];cases ev C e δ<;>rfl
theorem JQY {is:List Nat}:exec C (.unp is e) δ=unp1 is e δ (ev C e δ):=by
 simp only [exec]
 cases ev C e δ with
 | ok d=>simp only [stepR,unp1];cases JAd is.length d<;>rfl
 | exc c=>rfl
 | bad=>rfl
theorem JQX:exec C (.ret e) δ=ret1 (ev C e δ):=by simp only [exec];cases ev C e δ<;>rfl
theorem JLp:exec C .retN δ=.rt .none:=by simp only [exec]
theorem JPh:exec C (.ife c s t) δ=ifs1 C s t δ (evT C c δ):=by
 simp only [exec]
 cases h:evT C c δ with
 | ok k=>cases k<;>rfl
 | exc c=>rfl
 | bad=>rfl
theorem JP8:exec C (.app j e) δ=app1 j e δ (ev C e δ) δ[j]?:=by
 simp only [exec]
 cases h:δ[j]? with
 | none=>rfl
 | some u =>
  cases u with
  | own d =>
   cases d with
   | list ds=>simp only [app1];cases ev C e δ<;>rfl
   | _=>rfl
  | _=>rfl
theorem JQO:exec C (.ext j e) δ=ext1 j e δ (ev C e δ) δ[j]?:=by
 simp only [exec]
 cases h:δ[j]? with
 | none=>rfl
 | some u =>
  cases u with
  | own d =>
   cases d with
   | list ds=>simp only [ext1];cases ev C e δ<;>rfl
   | _=>rfl
  | _=>rfl
theorem JLr:exec C (.drop e) δ=JNV e δ (ev C e δ):=by simp only [exec];cases ev C e δ<;>rfl
theorem JLo:exec C (.for1 j e s) δ=for1 C j e s δ (evI C e δ):=by simp only [exec];cases evI C e δ<;>rfl
theorem JPR:exec C (.whl c s) δ=whl1 C c s δ:=by simp only [exec];rfl
theorem JLq:exec C (.rais k) δ=.ex k:=by simp only [exec]
theorem JKW:exec C (.tryx s k j h) δ=try1 C k j h δ (exec C s δ):=by simp only [exec];cases exec C s δ<;>rfl
noncomputable def forN (C:Cn) (i:Nat) (b:S) (ds:List D):Fl->Fl
 | .nx δ'=>for2 C i b ds δ'
 | .ct δ'=>for2 C i b ds δ'
 | .bk δ'=>.nx δ'
 | r=>r
theorem JMt:for2 C j s [] δ=.nx δ:=rfl
theorem JBF:for2 C j s (d::xs) δ=forN C j s xs (exec C s (δ.set j (.val d))):=by
 unfold for2 forL
 simp only [put1]
 cases exec C s (δ.set j (.val d))<;>rfl
noncomputable def pushc:R (Option D)->R (List D)->R (List D)
 | .ok (some y),.ok ys=>.ok (y::ys)
 | .ok none,r=>r
 | _,_=>.bad
noncomputable def mkl:R (List D)->R D
 | .ok ys=>.ok (.list ys)
 | .exc c=>.exc c
 | .bad=>.bad
theorem JBY {k:Nat} (hl:xs.length<=16777216):JCO C k e c δ (.ok xs)=mkl (JAo (JEY C k e c δ) xs):=by
 simp only [JCO,if_pos hl]
 cases JAo (JEY C k e c δ) xs<;>rfl
theorem JOL {f:D->R (Option D)}:JAo f []=.ok []:=rfl
theorem JNm {f:D->R (Option D)} (hf:∀c,f d≠.exc c):JAo f (d::xs)=pushc (f d) (JAo f xs):=by
 conv=>lhs;unfold JAo
 cases h:f d with
 | ok o =>
  cases o with
  | none=>rfl
  | some y =>
   simp only
   cases JAo f xs<;>rfl
 | exc c=>exact absurd h (hf c)
 | bad=>cases JAo f xs<;>rfl
theorem JH9 {f:D->R (Option D)} {g:D->D}:∀ {xs:List D},(∀x∈xs,f x=.ok (some (g x)))->JAo f xs=.ok (xs.map g)
 | [],_=>rfl
 | x::xs,h=>by
  unfold JAo
  rw [h x (by simp),JH9 fun y hy=>h y (by simp [hy])]
  rfl
theorem JEf {f:D->R (Option D)} {p:D->Bool} {g:D->D}:∀ {xs:List D},(∀x∈xs,f x=.ok (if p x=true then some (g x) else none))->JAo f xs=.ok ((xs.filter p).map g)
 | [],_=>rfl
 | x::xs,h=>by
  unfold JAo
  rw [h x (by simp)]
  have ih:=JEf (xs:=xs) fun y hy=>h y (by simp [hy])
  cases hp:p x
  ·simp only [q_v,if_false]
   rw [ih,q_w (by simp [hp])]
  ·simp only [if_true]
   rw [ih,q_x hp]
   rfl
noncomputable def opt1 (b:Bool):R D->R (Option D)
 | .ok y=>.ok (some y)
 | .exc c=>.exc c
 | .bad=>.bad
noncomputable def JFT (C:Cn) (e:E) (δ:Env):R Bool->R (Option D)
 | .ok true=>opt1 true (ev C e δ)
 | .ok false=>.ok none
 | .exc c=>.exc c
 | .bad=>.bad
theorem JCr:JEY C 0 e c δ x=JFT C e (.val x::δ) (evT C c (.val x::δ)):=by
 unfold JEY
 simp only [push,R.bind]
 cases h:evT C c (.val x::δ) with
 | ok k =>
  cases k
  ·rfl
  ·simp only [if_true,JFT]
   cases ev C e (.val x::δ)<;>rfl
 | exc c=>rfl
 | bad=>rfl
theorem JI1 {n:Nat} {ys:List D} (h:ys.length=n+1):JEY C (n+1) e c δ (.tuple ys)=JFT C e (ys.map Sl.val++δ) (evT C c (ys.map Sl.val++δ)):=by
 have hp:push (n+1) (.tuple ys) δ=.ok (ys.map Sl.val++δ):=by unfold push;simp only [h,if_true]
 unfold JEY
 rw [hp]
 generalize ys.map Sl.val++δ=δ1
 simp only [R.bind]
 cases h:evT C c δ1 with
 | ok k =>
  cases k
  ·rfl
  ·simp only [if_true,JFT]
   cases ev C e δ1<;>rfl
 | exc c=>rfl
 | bad=>rfl
end
theorem JK3 {i:Nat} {e:E} {δ:Env} {d:D}:asg1 i e δ (.ok d)=.nx ((after e d δ).set i (if e.fresh=true then .own d else .val d)):=by
 simp only [asg1]
 split<;>rfl
theorem JEp (s:Sl) (δ:Env):(s::δ)[0]? = some s:=rfl
theorem JEh (s:Sl) (δ:Env) (i:Nat):(s::δ)[i+1]? = δ[i]?:=rfl
theorem JHK (b:Bool):tr1 (.ok (.bool b))=.ok b:=rfl
theorem if_tt {α:Sort _} (a b:α):(if true=true then a else b)=a:=rfl
theorem if_ff {α:Sort _} (a b:α):(if false=true then a else b)=b:=rfl
theorem JOU {op:Operator} {x y:D}:bin1 op (.ok x) (.ok y)=binD op x y:=rfl
theorem JPS {i:Int}:neg1 (.ok (.int i))=.ok (.int (-i)):=rfl
theorem JPO {b:Bool}:not1 (.ok b)=.ok (.bool (!b)):=rfl
theorem JKP {C:Cn} {b:E} {δ:Env}:and1 C b δ (.ok (.bool true))=ev C b δ:=rfl
theorem JKO {C:Cn} {b:E} {δ:Env}:and1 C b δ (.ok (.bool false))=.ok (.bool false):=rfl
theorem JOg {C:Cn} {b:E} {δ:Env}:or1 C b δ (.ok (.bool true))=.ok (.bool true):=rfl
theorem JOx {C:Cn} {b:E} {δ:Env}:or1 C b δ (.ok (.bool false))=ev C b δ:=rfl
theorem JP0 {op:CmpOp} {x y:D}:cmp1 op (.ok x) (.ok y)=cmpD op x y:=rfl
theorem JP2 {n:Bool} {x:D}:isN1 n (.ok x)=.ok (.bool (if n=true then !isNone x else isNone x)):=rfl
theorem JOZ {b c:Bool}:isB1 b (.ok (.bool c))=.ok (.bool (c==b)):=rfl
theorem JKm {C:Cn} {a b:E} {δ:Env}:ife1 C a b δ (.ok true)=ev C a δ:=rfl
theorem JK8 {C:Cn} {a b:E} {δ:Env}:ife1 C a b δ (.ok false)=ev C b δ:=rfl
theorem JQU {xs:List D}:tup1 (.ok xs)=.ok (.tuple xs):=rfl
theorem JQF {ks:List Str} {xs:List D}:dct1 ks (.ok xs)=.ok (.dict ((ks.map PyData.str).zip xs)):=rfl
theorem JOn {k:Nat} {xs:List D}:rep1 k (.ok xs)=.ok (.list (List.replicate k xs).flatten):=rfl
theorem JQW {o:O1} {x:D}:fn11 o (.ok x)=op1D o x:=rfl
theorem JNv {k:XO} {xs:List D}:xop1 k (.ok xs)=xD k xs:=rfl
theorem k_rev {xs:List D}:xD .rev [.list xs]=.ok (.list xs.reverse):=rfl
theorem us_xop {k:XO} {es:E} {j:Nat}:(E.xop k es).uses j=es.uses j:=rfl
theorem JLR {b c:Bool}:JNI b (.ok (.bool c))=.ok (.bool (!(c==b))):=rfl
theorem JO2 {lo hi:Option Int} {xs:List D}:op1D (.slice lo hi) (.tuple xs)=.ok (.tuple (cutD xs lo hi)):=rfl
theorem JPK {lo hi:Option Int} {xs:List D}:op1D (.slice lo hi) (.list xs)=.ok (.list (cutD xs lo hi)):=rfl
theorem k_tt {xs:List D}:op1D .toTup (.tuple xs)=.ok (.tuple xs):=rfl
theorem k_tl {xs:List D}:op1D .toTup (.list xs)=.ok (.tuple xs):=rfl
theorem k_lt {xs:List D}:op1D .toLst (.tuple xs)=.ok (.list xs):=rfl
theorem k_ll {xs:List D}:op1D .toLst (.list xs)=.ok (.list xs):=rfl
theorem JHl {e:E} {δ:Env} {c:Nat}:JNV e δ (.exc c)=.ex c:=rfl
theorem JOI {xs:List D}:lst1 (.ok xs)=.ok (.list xs):=rfl
theorem JPE {x y:D}:idx1 (.ok x) (.ok y)=idxD x y:=rfl
theorem JLF {C:Cn} {f:Nat} {xs:List D}:JIo C f (.ok xs)=C.fn f xs:=rfl
theorem JOp {b:Blt} {xs:List D}:blt1 b (.ok xs)=bltD b xs:=rfl
theorem JOC {C:Cn} {t:Ty} {x:D}:isi1 C t (.ok x)=isiD C.sub x t:=rfl
theorem JG3 {x:List D} {y:D}:JKx (.ok (.list x)) (.ok y)=JE8 (.list x) y:=rfl
theorem JIg {x:List D} {y:D}:JKo (.ok (.list x)) (.ok y)=JEn (.list x) y:=rfl
theorem JPz {k:Str} {v:D} {x:List (D×D)} {y z:D}:get1 (.ok (.dict ((.str k,v)::x))) (.ok y) (.ok z)=JDr (.dict ((.str k,v)::x)) y z:=rfl
theorem JLj {x:D} {xs:List D}:JJG (.ok x) (.ok xs)=.ok (x::xs):=rfl
theorem JHn {C:Cn} {b:E} {δ:Env}:andT C b δ (.ok true)=evT C b δ:=rfl
theorem JH7 {C:Cn} {b:E} {δ:Env}:andT C b δ (.ok false)=.ok false:=rfl
theorem JLM {C:Cn} {b:E} {δ:Env}:orT C b δ (.ok true)=.ok true:=rfl
theorem JLI {C:Cn} {b:E} {δ:Env}:orT C b δ (.ok false)=evT C b δ:=rfl
theorem JPY {d:D}:its1 (.ok d)=JA5 d:=rfl
theorem JOF {d:List D}:rng1 (.ok d)=rngD d:=rfl
theorem JL4 {C:Cn} {r:S} {δ:Env}:seq1 C r (.nx δ)=exec C r δ:=rfl
theorem JKf {C:Cn} {r:S} {d:D}:seq1 C r (.rt d)=.rt d:=rfl
theorem JLN {C:Cn} {r:S} {c:Nat}:seq1 C r (.ex c)=.ex c:=rfl
theorem JLC {C:Cn} {r:S} {δ:Env}:seq1 C r (.bk δ)=.bk δ:=rfl
theorem JLG {C:Cn} {r:S} {δ:Env}:seq1 C r (.ct δ)=.ct δ:=rfl
theorem JLZ {i:Nat} {e:E} {δ:Env} {c:Nat}:asg1 i e δ (.exc c)=.ex c:=rfl
theorem JP3 {is:List Nat} {e:E} {δ:Env} {d:D}:unp1 is e δ (.ok d)=unp2 is (after e d δ) (JAd is.length d):=rfl
theorem JLd {is:List Nat} {δ:Env} {xs:List D}:unp2 is δ (.ok xs)=.nx (JBB is xs δ):=rfl
theorem JO3 {d:D}:ret1 (.ok d)=.rt d:=rfl
theorem JK1 {c:Nat}:ret1 (.exc c)=.ex c:=rfl
theorem JLh {C:Cn} {a b:S} {δ:Env}:ifs1 C a b δ (.ok true)=exec C a δ:=rfl
theorem JKM {C:Cn} {a b:S} {δ:Env}:ifs1 C a b δ (.ok false)=exec C b δ:=rfl
theorem JLJ {C:Cn} {a b:S} {δ:Env} {c:Nat}:ifs1 C a b δ (.exc c)=.ex c:=rfl
theorem JO4 {i:Nat} {e:E} {δ:Env} {x:D} {ds:List D}:app1 i e δ (.ok x) (some (.own (.list ds)))=JBP i ds e x δ:=rfl
theorem JPj {i:Nat} {e:E} {δ:Env} {x:D} {ds:List D}:ext1 i e δ (.ok x) (some (.own (.list ds)))=JBo i ds e x δ:=rfl
theorem JLD {e:E} {δ:Env} {x:D}:JNV e δ (.ok x)=.nx (after e x δ):=rfl
theorem JPq {C:Cn} {i:Nat} {e:E} {b:S} {δ:Env} {xs:List D}:for1 C i e b δ (.ok xs)=for2 C i b xs (JAg e 0 δ):=rfl
theorem JCk {C:Cn} {i:Nat} {b:S} {ds:List D} {δ:Env}:forN C i b ds (.nx δ)=for2 C i b ds δ:=rfl
theorem JLY {C:Cn} {i:Nat} {b:S} {ds:List D} {δ:Env}:forN C i b ds (.ct δ)=for2 C i b ds δ:=rfl
theorem JK4 {C:Cn} {i:Nat} {b:S} {ds:List D} {δ:Env}:forN C i b ds (.bk δ)=.nx δ:=rfl
theorem JKy {C:Cn} {i:Nat} {b:S} {ds:List D} {d:D}:forN C i b ds (.rt d)=.rt d:=rfl
theorem JLB {C:Cn} {i:Nat} {b:S} {ds:List D} {c:Nat}:forN C i b ds (.ex c)=.ex c:=rfl
theorem JLn {x:Bool} {δ:Env}:JJi x (.nx δ)=.ok .none:=rfl
theorem JLE {x:Bool} {d:D}:JJi x (.rt d)=.ok d:=rfl
theorem JK7 {c:Nat}:JJi true (.ex c)=.exc c:=rfl
theorem JKi {C:Cn} {c i:Nat} {h:S} {δ δ':Env}:try1 C c i h δ (.nx δ')=.nx δ':=rfl
theorem JK0 {C:Cn} {c i:Nat} {h:S} {δ:Env} {d:D}:try1 C c i h δ (.rt d)=.rt d:=rfl
theorem JKT {C:Cn} {e:E} {δ:Env}:JFT C e δ (.ok true)=opt1 true (ev C e δ):=rfl
theorem JIn {C:Cn} {e:E} {δ:Env}:JFT C e δ (.ok false)=.ok none:=rfl
theorem JP4 {b:Bool} {y:D}:opt1 b (.ok y)=.ok (some y):=rfl
theorem JIh {C:Cn} {f c:Nat}:JIo C f (.exc c)=.exc c:=rfl
theorem JIf {c:Nat} {r:R (List D)}:JJG (.exc c) r=.exc c:=rfl
theorem JFp {x:D} {c:Nat}:JJG (.ok x) (.exc c)=.exc c:=rfl
theorem JOb {xs:List D}:bltD .len [.list xs]=.ok (.int xs.length):=rfl
theorem JKt {xs:List D}:bltD .len [.tuple xs]=.ok (.int xs.length):=rfl
theorem JO9 {i:Int}:bltD .abs [.int i]=.ok (.int (if i<0 then -i else i)):=rfl
theorem JO5 {xs:List D}:bltD .min [.list xs]=minD xs:=rfl
theorem JCw {i j:Nat}:(E.var i).uses j=(i==j):=rfl
theorem JCv {j:Nat}:E.nil.uses j=false:=rfl
theorem JBx {a r:E} {j:Nat}:(E.cons a r).uses j=(a.uses j || r.uses j):=rfl
theorem JKl {a:E} {j:Nat}:(E.lst a).uses j=a.uses j:=rfl
theorem JLA {a:E} {j:Nat}:(E.tup a).uses j=a.uses j:=rfl
theorem us_isi {a:E} {t:Ty} {j:Nat}:(E.isi a t).uses j=a.uses j:=rfl
theorem JCE {a:E} {f:Nat} {j:Nat}:(E.call f a).uses j=a.uses j:=rfl
theorem us_blt {a:E} {f:Blt} {j:Nat}:(E.blt f a).uses j=a.uses j:=rfl
theorem JK5 {a b:E} {j:Nat}:(E.idx a b).uses j=(a.uses j || b.uses j):=rfl
theorem JHm {a b:E} {o:Operator} {j:Nat}:(E.bin o a b).uses j=(a.uses j || b.uses j):=rfl
theorem JHc {k:Nat} {a b c:E} {j:Nat}:(E.cmpr k a b c).uses j=(b.uses j || a.uses (j+(if k=0 then 1 else k)) || c.uses (j+(if k=0 then 1 else k))):=rfl
theorem JLS {o:O1} {a:E} {j:Nat}:(E.fn1 o a).uses j=a.uses j:=rfl
theorem us_isnB {a:E} {b:Bool} {j:Nat}:(E.isnB a b).uses j=a.uses j:=rfl
theorem JCc {i:Int} {j:Nat}:(E.cint i).uses j=false:=rfl
theorem us_bl {i:Bool} {j:Nat}:(E.cbl i).uses j=false:=rfl
theorem us_str {i:Str} {j:Nat}:(E.cstr i).uses j=false:=rfl
end VI.VP
end
local macro_rules | `(tactic| dsimp! [$ts,*])=>`(tactic| simp only [VI.VP.v_var,VI.VP.JOS,VI.VP.v_bl,VI.VP.JNy,VI.VP.JOm,VI.VP.JNw,VI.VP.JOc,VI.VP.JO6,VI.VP.v_not,VI.VP.v_and,VI.VP.v_or,VI.VP.JOj,VI.VP.JOO,VI.VP.JOW,VI.VP.JQd,VI.VP.JPd,VI.VP.JQI,VI.VP.JP6,VI.VP.JKR,VI.VP.JPT,VI.VP.JQh,
 VI.VP.v_count,VI.VP.JHi,VI.VP.v_get,VI.VP.JLm,VI.VP.JN3,VI.VP.JOX,VI.VP.JPk,VI.VP.JPg,VI.VP.JQa,VI.VP.JNv,VI.VP.JKh,VI.VP.JFh,VI.VP.JN1,VI.VP.JOJ,VI.VP.JQW,VI.VP.JLR,VI.VP.JO2,VI.VP.JPK,VI.VP.k_tt,VI.VP.k_tl,VI.VP.k_lt,VI.VP.k_ll,VI.VP.JKd,VI.VP.JHO,VI.VP.JJk,VI.VP.JPi,VI.VP.t_or,VI.VP.JNp,VI.VP.t_bl,VI.VP.JOT,VI.VP.JJm,VI.VP.JJo,VI.VP.JPu,VI.VP.JKe,VI.VP.JPl,VI.VP.JQb,VI.VP.JOi,VI.VP.JPC,VI.VP.JPW,VI.VP.l_idx,VI.VP.JLX,VI.VP.JOV,VI.VP.JOv,
 VI.VP.JNj,VI.VP.JHx,VI.VP.JLf,VI.VP.JQT,VI.VP.JOt,VI.VP.JPs,VI.VP.JQY,VI.VP.JQX,VI.VP.JLp,VI.VP.JPh,VI.VP.JP8,VI.VP.JQO,VI.VP.JLr,VI.VP.JLo,VI.VP.JPR,VI.VP.JLq,VI.VP.JKW,
 VI.VP.JHK,VI.VP.JK3,VI.VP.JOU,VI.VP.JPS,VI.VP.JPO,VI.VP.JKP,VI.VP.JKO,VI.VP.JOg,VI.VP.JOx,VI.VP.JP0,VI.VP.JP2,VI.VP.JOZ,VI.VP.JKm,VI.VP.JK8,VI.VP.JQU,VI.VP.JOI,VI.VP.JPE,VI.VP.JLF,VI.VP.JOp,VI.VP.JOC,VI.VP.JG3,VI.VP.JIg,VI.VP.JPz,VI.VP.JLj,VI.VP.JHn,VI.VP.JH7,VI.VP.JLM,VI.VP.JLI,VI.VP.JPY,VI.VP.JOF,VI.VP.JL4,VI.VP.JKf,VI.VP.JLN,VI.VP.JLC,VI.VP.JLG,VI.VP.JLZ,VI.VP.JP3,VI.VP.JLd,VI.VP.JO3,VI.VP.JK1,VI.VP.JLh,VI.VP.JKM,VI.VP.JLJ,VI.VP.JO4,VI.VP.JPj,VI.VP.JLD,VI.VP.JPq,VI.VP.JCk,VI.VP.JLY,VI.VP.JK4,VI.VP.JKy,VI.VP.JLB,VI.VP.JLn,VI.VP.JLE,VI.VP.JK7,VI.VP.JKi,VI.VP.JK0,VI.VP.JKT,VI.VP.JIn,VI.VP.JP4,VI.VP.JIh,VI.VP.JIf,VI.VP.JFp,VI.VP.JOb,VI.VP.JKt,VI.VP.JO9,VI.VP.JO5,VI.VP.JQF,VI.VP.JOn,VI.VP.JHl,
 VI.VP.look_zero,VI.VP.look_succ,VI.VP.get_val,VI.VP.get_own,VI.VP.JEp,VI.VP.JEh,List.map_cons,List.map_nil,List.cons_append,List.nil_append,
 List.replicate_succ,List.replicate_zero,Nat.reduceSub,List.set_cons_zero,List.set_cons_succ,VI.E.fresh,VI.VP.JFj,VI.VP.JCn,VI.VP.JDK,VI.VP.JCq,Bool.false_and,q_v,eq_self,if_true,if_false,VI.VP.i_ne,VI.VP.i_eq,VI.VP.i_lt,VI.VP.i_gt,VI.VP.i_le,VI.VP.i_ge,
 VI.VP.F_ne,VI.VP.F_eq,VI.VP.JKr,VI.VP.JLk,VI.VP.JPH,VI.VP.JOh,$ts,*])
section
namespace VI.VP
noncomputable def b_0:S:=(.cons (.asg 2 (.blt .abs (.cons (.var 0) .nil))) (.cons (.asg 3 (.blt .abs (.cons (.var 1) .nil))) (.cons (.whl (.cmp .NotEq (.var 3) (.cint 0)) (.cons (.asg 4 (.bin .Mod (.var 2) (.var 3))) (.cons (.asg 2 (.var 3)) (.cons (.asg 3 (.var 4)) .nil)))) (.cons (.ret (.var 2)) .nil))))
noncomputable def d_0:Fd:=⟨2,5,b_0⟩
noncomputable def b_1:S:=(.cons (.ife (.cmp .Eq (.var 1) (.cint 0)) (.cons (.rais 1) .nil) .nil) (.cons (.asg 2 (.call 0 (.cons (.var 0) (.cons (.var 1) .nil)))) (.cons (.ife (.cmp .Lt (.var 1) (.cint 0)) (.cons (.asg 2 (.neg (.var 2))) .nil) .nil) (.cons (.ret (.tup (.cons (.bin .FloorDiv (.var 0) (.var 2)) (.cons (.bin .FloorDiv (.var 1) (.var 2)) .nil)))) .nil))))
noncomputable def d_1:Fd:=⟨2,3,b_1⟩
noncomputable def b_2:S:=(.cons (.ret (.tup (.cons (.var 0) (.cons (.cint 1) .nil)))) .nil)
noncomputable def d_2:Fd:=⟨1,1,b_2⟩
noncomputable def b_3:S:=(.cons (.ret (.call 1 (.cons (.bin .Add (.bin .Mult (.idx (.var 0) (.cint 0)) (.idx (.var 1) (.cint 1))) (.bin .Mult (.idx (.var 1) (.cint 0)) (.idx (.var 0) (.cint 1)))) (.cons (.bin .Mult (.idx (.var 0) (.cint 1)) (.idx (.var 1) (.cint 1))) .nil)))) .nil)
noncomputable def d_3:Fd:=⟨2,2,b_3⟩
noncomputable def b_4:S:=(.cons (.ret (.call 1 (.cons (.bin .Sub (.bin .Mult (.idx (.var 0) (.cint 0)) (.idx (.var 1) (.cint 1))) (.bin .Mult (.idx (.var 1) (.cint 0)) (.idx (.var 0) (.cint 1)))) (.cons (.bin .Mult (.idx (.var 0) (.cint 1)) (.idx (.var 1) (.cint 1))) .nil)))) .nil)
noncomputable def d_4:Fd:=⟨2,2,b_4⟩
noncomputable def b_5:S:=(.cons (.ret (.call 1 (.cons (.bin .Mult (.idx (.var 0) (.cint 0)) (.idx (.var 1) (.cint 0))) (.cons (.bin .Mult (.idx (.var 0) (.cint 1)) (.idx (.var 1) (.cint 1))) .nil)))) .nil)
noncomputable def d_5:Fd:=⟨2,2,b_5⟩
noncomputable def b_6:S:=(.cons (.ret (.cmp .Lt (.bin .Mult (.idx (.var 0) (.cint 0)) (.idx (.var 1) (.cint 1))) (.bin .Mult (.idx (.var 1) (.cint 0)) (.idx (.var 0) (.cint 1))))) .nil)
noncomputable def d_6:Fd:=⟨2,2,b_6⟩
noncomputable def b_7:S:=(.cons (.asg 1 (.idx (.var 0) (.cint 0))) (.cons (.for1 2 (.var 0) (.cons (.ife (.call 6 (.cons (.var 2) (.cons (.var 1) .nil))) (.cons (.asg 1 (.var 2)) .nil) .nil) .nil)) (.cons (.ret (.var 1)) .nil)))
noncomputable def d_7:Fd:=⟨1,3,b_7⟩
noncomputable def b_8:S:=(.cons (.asg 1 (.idx (.var 0) (.cint 0))) (.cons (.for1 2 (.var 0) (.cons (.ife (.call 6 (.cons (.var 1) (.cons (.var 2) .nil))) (.cons (.asg 1 (.var 2)) .nil) .nil) .nil)) (.cons (.ret (.var 1)) .nil)))
noncomputable def d_8:Fd:=⟨1,3,b_8⟩
noncomputable def b_9:S:=(.cons (.ret (.bin .FloorDiv (.bin .Add (.bin .Mult (.cint 2) (.idx (.var 0) (.cint 0))) (.idx (.var 0) (.cint 1))) (.bin .Mult (.cint 2) (.idx (.var 0) (.cint 1))))) .nil)
noncomputable def d_9:Fd:=⟨1,1,b_9⟩
noncomputable def b_10:S:=(.cons (.ret (.call 3 (.cons (.var 0) (.cons (.call 5 (.cons (.var 2) (.cons (.call 4 (.cons (.var 1) (.cons (.var 0) .nil))) .nil))) .nil)))) .nil)
noncomputable def d_10:Fd:=⟨3,3,b_10⟩
noncomputable def b_11:S:=(.cons (.ife (.cmp .Lt (.var 1) (.blt .len (.cons (.var 0) .nil))) (.cons (.ret (.idx (.var 0) (.var 1))) .nil) .nil) (.cons (.ife (.cmp .Eq (.var 0) (.lst .nil)) (.cons (.ret (.cint 0)) .nil) .nil) (.cons (.ret (.bin .Add (.bin .Mult (.idx (.var 0) (.bin .Mod (.var 1) (.blt .len (.cons (.var 0) .nil)))) (.cint 31)) (.var 1))) .nil)))
noncomputable def d_11:Fd:=⟨2,2,b_11⟩
noncomputable def b_12:S:=(.cons (.asg 3 (.bin .Mod (.bin .Mult (.bin .Add (.call 11 (.cons (.var 0) (.cons (.var 1) .nil))) (.bin .Mult (.cint 6151) (.bin .Add (.var 1) (.cint 1)))) (.cint 40692)) (.cint 2147483399))) (.cons (.ret (.bin .Mod (.bin .Mod (.bin .Add (.bin .Mult (.var 3) (.var 3)) (.bin .FloorDiv (.var 3) (.cint 31))) (.cint 2147483629)) (.var 2))) .nil))
noncomputable def d_12:Fd:=⟨3,4,b_12⟩
noncomputable def b_13:S:=(.cons (.whl (.cmp .NotEq (.var 1) (.cint 0)) (.cons (.unp [0,1] (.tup (.cons (.var 1) (.cons (.bin .Mod (.var 0) (.var 1)) .nil)))) .nil)) (.cons (.ret (.blt .abs (.cons (.var 0) .nil))) .nil))
noncomputable def d_13:Fd:=⟨2,2,b_13⟩
noncomputable def b_14:S:=(.cons (.asg 2 (.bin .Mult (.call 13 (.cons (.var 0) (.cons (.var 1) .nil))) (.ife (.cmp .Gt (.var 1) (.cint 0)) (.cint 1) (.neg (.cint 1))))) (.cons (.ret (.tup (.cons (.bin .FloorDiv (.var 0) (.var 2)) (.cons (.bin .FloorDiv (.var 1) (.var 2)) .nil)))) .nil))
noncomputable def d_14:Fd:=⟨2,3,b_14⟩
noncomputable def b_15:S:=(.cons (.asg 2 (.bin .Add (.cint 1) (.call 12 (.cons (.var 0) (.cons (.var 1) (.cons (.cint 4) .nil)))))) (.cons (.ret (.call 14 (.cons (.bin .Sub (.call 12 (.cons (.var 0) (.cons (.bin .Add (.var 1) (.cint 1)) (.cons (.bin .Add (.bin .Mult (.cint 12) (.var 2)) (.cint 1)) .nil)))) (.bin .Mult (.cint 6) (.var 2))) (.cons (.var 2) .nil)))) .nil))
noncomputable def d_15:Fd:=⟨2,3,b_15⟩
noncomputable def b_16:S:=(.cons (.asg 2 (.bin .Add (.cint 1) (.call 12 (.cons (.var 0) (.cons (.var 1) (.cons (.cint 3) .nil)))))) (.cons (.ret (.call 14 (.cons (.bin .Add (.cint 1) (.call 12 (.cons (.var 0) (.cons (.bin .Add (.var 1) (.cint 1)) (.cons (.bin .Mult (.cint 6) (.var 2)) .nil))))) (.cons (.var 2) .nil)))) .nil))
noncomputable def d_16:Fd:=⟨2,3,b_16⟩
noncomputable def b_17:S:=(.cons (.ret (.call 14 (.cons (.bin .Add (.bin .Mult (.idx (.var 0) (.cint 0)) (.idx (.var 1) (.cint 1))) (.bin .Mult (.idx (.var 1) (.cint 0)) (.idx (.var 0) (.cint 1)))) (.cons (.bin .Mult (.idx (.var 0) (.cint 1)) (.idx (.var 1) (.cint 1))) .nil)))) .nil)
noncomputable def d_17:Fd:=⟨2,2,b_17⟩
noncomputable def b_18:S:=(.cons (.ret (.call 14 (.cons (.bin .Sub (.bin .Mult (.idx (.var 0) (.cint 0)) (.idx (.var 1) (.cint 1))) (.bin .Mult (.idx (.var 1) (.cint 0)) (.idx (.var 0) (.cint 1)))) (.cons (.bin .Mult (.idx (.var 0) (.cint 1)) (.idx (.var 1) (.cint 1))) .nil)))) .nil)
noncomputable def d_18:Fd:=⟨2,2,b_18⟩
noncomputable def b_19:S:=(.cons (.ret (.call 14 (.cons (.bin .Mult (.idx (.var 0) (.cint 0)) (.idx (.var 1) (.cint 0))) (.cons (.bin .Mult (.idx (.var 0) (.cint 1)) (.idx (.var 1) (.cint 1))) .nil)))) .nil)
noncomputable def d_19:Fd:=⟨2,2,b_19⟩
noncomputable def b_20:S:=(.cons (.ret (.call 14 (.cons (.bin .Mult (.idx (.var 0) (.cint 0)) (.idx (.var 1) (.cint 1))) (.cons (.bin .Mult (.idx (.var 0) (.cint 1)) (.idx (.var 1) (.cint 0))) .nil)))) .nil)
noncomputable def d_20:Fd:=⟨2,2,b_20⟩
noncomputable def b_21:S:=(.cons (.ret (.cmp .Lt (.bin .Mult (.idx (.var 0) (.cint 0)) (.idx (.var 1) (.cint 1))) (.bin .Mult (.idx (.var 1) (.cint 0)) (.idx (.var 0) (.cint 1))))) .nil)
noncomputable def d_21:Fd:=⟨2,2,b_21⟩
end VI.VP
end
section
namespace VI.VP
open PySem Fr
structure TabF (tab:Nat->Option Fd):Prop where
 h0:tab 0=some d_0
 h1:tab 1=some d_1
 h2:tab 2=some d_2
 h3:tab 3=some d_3
 h4:tab 4=some d_4
 h5:tab 5=some d_5
 h6:tab 6=some d_6
section
variable {x:Bool} {tab:Nat->Option Fd} {glo:Nat->R D} {sub:Nat->Nat->Bool} {n:Nat}
theorem JJ7 {C:Cn} (one other:D):∀(m:Nat) (a b:Int) (z:Sl),z.isOwn=false->0<=a->0<=b->b.natAbs=m->∃z',whl1 C (.cmp .NotEq (.var 3) (.cint 0)) (.cons (.asg 4 (.bin .Mod (.var 2) (.var 3))) (.cons (.asg 2 (.var 3)) (.cons (.asg 3 (.var 4)) .nil)))
  [.val one,.val other,.val (.int a),.val (.int b),z]=.nx [.val one,.val other,.val (.int (a.gcd b)),.val (.int 0),z']:=by
 intro m
 induction m using Nat.strongRecOn with
 | ind m ih =>
  intro a b z hz ha hb hm
  by_cases h0:b=0
  ·subst h0
   refine ⟨z,?_⟩
   have e:((a.gcd 0:Nat):Int)=a:=by simp;omega
   rw [e]
   exact JC0 (by dsimp! [];simp)
  ·have hf:=JG8 a b h0
   obtain ⟨z',h⟩:=ih (a.fmod b).natAbs (by omega) b (a.fmod b) (.val (.int (a.fmod b))) rfl hb (Int.fmod_nonneg_of_pos a (by omega)) rfl
   refine ⟨z',?_⟩
   rw [JGH] at h
   rw [<-h]
   refine JCd (by dsimp! [];simp [h0]) ?_
   cases z with
   | own d=>cases hz
   | no=>dsimp! [JFd h0]
   | val d=>dsimp! [JFd h0]
theorem JLt (a b:Int):((if a<0 then -a else a).gcd (if b<0 then -b else b))=a.gcd b:=by
 split<;>split<;>simp
theorem JJE (T:TabF tab) (a b:Int):run x tab glo sub (n+1) 0 [.int a,.int b]=.ok (.int (a.gcd b)):=by
 rw [JAD T.h0,JAE rfl]
 obtain ⟨z',h⟩:=JJ7 (C:=⟨run x tab glo sub n,glo,sub⟩) (.int a) (.int b) _ (if a<0 then -a else a) (if b<0 then -b else b) .no rfl (by split<;>omega) (by split<;>omega) rfl
 rw [JLt] at h
 dsimp! [d_0,b_0,h]
theorem JDe (T:TabF tab) (a b:Int) (hb:b≠0) (lb:L b):run x tab glo sub (n+2) 1 [.int a,.int b]=.ok (F (Rat.divInt a b)):=by
 rw [JAD T.h1,JAE rfl]
 have hg:a.gcd b≠0:=by
  intro z
  exact hb (Int.gcd_eq_zero_iff.mp z).2
 have lg:(a.gcd b)<=b.natAbs:=Int.gcd_le_natAbs_right _ hb
 unfold L at lb
 have q1:=JCU a b hb
 have q2:=JDt a b hb
 by_cases h:b<0
 ·rw [if_pos h] at q1 q2
  dsimp! [d_1,b_1,JJE T,hb,h,decide_true,decide_false,JHM (j:=-((a.gcd b:Nat):Int)) (by omega) (by unfold L;omega),q1,q2,F]
 ·rw [if_neg h] at q1 q2
  dsimp! [d_1,b_1,JJE T,hb,h,decide_true,decide_false,JHM (j:=((a.gcd b:Nat):Int)) (by omega) (by unfold L;omega),q1,q2,F]
theorem JNg (T:TabF tab) {p q:Rat} (hp:Q p) (hq:Q q):run x tab glo sub (n+3) 3 [F p,F q]=.ok (F (p+q)):=by
 rw [JAD T.h3,JAE rfl]
 dsimp! [d_3,b_3,JAj (hp.Ln (by omega)) (hq.Ld (by omega)),JAj (hq.Ln (by omega)) (hp.Ld (by omega)),JAj (hp.Ld (by omega)) (hq.Ld (by omega)),
  JDe T _ _ (Int.mul_ne_zero (JAS p) (JAS q)) (L.of (JAQ hp.d hq.d) (by omega)),JIu]
theorem JB2 (T:TabF tab) {p q:Rat} (hp:Q p) (hq:Q q):run x tab glo sub (n+3) 4 [F p,F q]=.ok (F (p - q)):=by
 rw [JAD T.h4,JAE rfl]
 dsimp! [d_4,b_4,JAj (hp.Ln (by omega)) (hq.Ld (by omega)),JAj (hq.Ln (by omega)) (hp.Ld (by omega)),JAj (hp.Ld (by omega)) (hq.Ld (by omega)),
  JDe T _ _ (Int.mul_ne_zero (JAS p) (JAS q)) (L.of (JAQ hp.d hq.d) (by omega)),JG4]
theorem JBQ (T:TabF tab) {p q:Rat} (hp:Q p) (hq:Q q):run x tab glo sub (n+3) 5 [F p,F q]=.ok (F (p*q)):=by
 rw [JAD T.h5,JAE rfl]
 dsimp! [d_5,b_5,JAj (hp.Ln (by omega)) (hq.Ln (by omega)),JAj (hp.Ld (by omega)) (hq.Ld (by omega)),
  JDe T _ _ (Int.mul_ne_zero (JAS p) (JAS q)) (L.of (JAQ hp.d hq.d) (by omega)),JFk]
theorem lt_iff (p q:Rat):p.num*q.den<q.num*p.den↔p<q:=(Rat.lt_iff p q).symm
theorem JBw (T:TabF tab) {p q:Rat} (hp:Q p) (hq:Q q):run x tab glo sub (n+1) 6 [F p,F q]=.ok (.bool (decide (p<q))):=by
 rw [JAD T.h6,JAE rfl]
 dsimp! [d_6,b_6,JAj (hp.Ln (by omega)) (hq.Ld (by omega)),JAj (hq.Ln (by omega)) (hp.Ld (by omega)),lt_iff]
theorem JCA (T:TabF tab) (i:Int):run x tab glo sub (n+1) 2 [.int i]=.ok (.tuple [.int i,.int 1]):=by
 rw [JAD T.h2,JAE rfl]
 dsimp! [d_2,b_2]
structure TabL (tab:Nat->Option Fd):Prop where
 h11:tab 11=some d_11
 h12:tab 12=some d_12
 h13:tab 13=some d_13
 h14:tab 14=some d_14
 h15:tab 15=some d_15
 h16:tab 16=some d_16
 h17:tab 17=some d_17
 h18:tab 18=some d_18
 h19:tab 19=some d_19
 h20:tab 20=some d_20
 h21:tab 21=some d_21
theorem JJr {C:Cn}:∀(m:Nat) (a b:Int),b.natAbs=m->∃g:Int,g.natAbs=a.gcd b/\whl1 C (.cmp .NotEq (.var 1) (.cint 0)) (.cons (.unp [0,1] (.tup (.cons (.var 1) (.cons (.bin .Mod (.var 0) (.var 1)) .nil)))) .nil) [.val (.int a),.val (.int b)]=.nx [.val (.int g),.val (.int 0)]:=by
 intro m
 induction m using Nat.strongRecOn with
 | ind m ih =>
  intro a b hm
  by_cases h0:b=0
  ·subst h0
   exact ⟨a,by simp,JC0 (by dsimp! [];simp)⟩
  ·have hf:=JG8 a b h0
   obtain ⟨g,h1,h2⟩:=ih (a.fmod b).natAbs (by omega) b (a.fmod b) rfl
   refine ⟨g,by rw [h1,JGH],?_⟩
   rw [<-h2]
   refine JCd (by dsimp! [];simp [h0]) ?_
   dsimp! [JFd h0,JAd,JBB,List.length_cons,List.length_nil]
theorem JDJ (T:TabL tab) (a b:Int):run x tab glo sub (n+1) 13 [.int a,.int b]=.ok (.int (a.gcd b)):=by
 rw [JAD T.h13,JAE rfl]
 obtain ⟨g,h1,h2⟩:=JJr (C:=⟨run x tab glo sub n,glo,sub⟩) _ a b rfl
 dsimp! [d_13,b_13,h2]
 congr 2
 split<;>omega
theorem JBH (T:TabL tab) (a b:Int) (hb:b≠0) (lb:L b):run x tab glo sub (n+2) 14 [.int a,.int b]=.ok (F (Rat.divInt a b)):=by
 rw [JAD T.h14,JAE rfl]
 have hg:a.gcd b≠0:=by
  intro z
  exact hb (Int.gcd_eq_zero_iff.mp z).2
 have lg:(a.gcd b)<=b.natAbs:=Int.gcd_le_natAbs_right _ hb
 unfold L at lb
 have q1:=JCU a b hb
 have q2:=JDt a b hb
 by_cases h:b<0
 ·rw [if_pos h] at q1 q2
  have h':¬0<b:=by omega
  dsimp! [d_14,b_14,JDJ T,h',decide_true,decide_false,JGB (i:=((a.gcd b:Nat):Int)) (j:=-1) (by decide),Int.mul_neg_one,JHM (j:=-((a.gcd b:Nat):Int)) (by omega) (by unfold L;omega),q1,q2,F]
 ·rw [if_neg h] at q1 q2
  have h':0<b:=by omega
  dsimp! [d_14,b_14,JDJ T,h',decide_true,decide_false,JGB (i:=((a.gcd b:Nat):Int)) (j:=1) (by decide),Int.mul_one,JHM (j:=((a.gcd b:Nat):Int)) (by omega) (by unfold L;omega),q1,q2,F]
theorem JJ1 (T:TabL tab) {p q:Rat} (hp:Q p) (hq:Q q):run x tab glo sub (n+3) 17 [F p,F q]=.ok (F (p+q)):=by
 rw [JAD T.h17,JAE rfl]
 dsimp! [d_17,b_17,JAj (hp.Ln (by omega)) (hq.Ld (by omega)),JAj (hq.Ln (by omega)) (hp.Ld (by omega)),JAj (hp.Ld (by omega)) (hq.Ld (by omega)),
  JBH T _ _ (Int.mul_ne_zero (JAS p) (JAS q)) (L.of (JAQ hp.d hq.d) (by omega)),JIu]
theorem JHW (T:TabL tab) {p q:Rat} (hp:Q p) (hq:Q q):run x tab glo sub (n+3) 18 [F p,F q]=.ok (F (p - q)):=by
 rw [JAD T.h18,JAE rfl]
 dsimp! [d_18,b_18,JAj (hp.Ln (by omega)) (hq.Ld (by omega)),JAj (hq.Ln (by omega)) (hp.Ld (by omega)),JAj (hp.Ld (by omega)) (hq.Ld (by omega)),
  JBH T _ _ (Int.mul_ne_zero (JAS p) (JAS q)) (L.of (JAQ hp.d hq.d) (by omega)),JG4]
theorem JIR (T:TabL tab) {p q:Rat} (hp:Q p) (hq:Q q):run x tab glo sub (n+3) 19 [F p,F q]=.ok (F (p*q)):=by
 rw [JAD T.h19,JAE rfl]
 dsimp! [d_19,b_19,JAj (hp.Ln (by omega)) (hq.Ln (by omega)),JAj (hp.Ld (by omega)) (hq.Ld (by omega)),
  JBH T _ _ (Int.mul_ne_zero (JAS p) (JAS q)) (L.of (JAQ hp.d hq.d) (by omega)),JFk]
theorem JJd (T:TabL tab) {p q:Rat} (hp:Q p) (hq:Q q) (h0:q≠0):run x tab glo sub (n+3) 20 [F p,F q]=.ok (F (p / q)):=by
 have hz:q.num≠0:=fun z=>h0 (Rat.num_eq_zero.mp z)
 rw [JAD T.h20,JAE rfl]
 dsimp! [d_20,b_20,JAj (hp.Ln (by omega)) (hq.Ld (by omega)),JAj (hp.Ld (by omega)) (hq.Ln (by omega)),
  JBH T _ _ (Int.mul_ne_zero (JAS p) hz) (L.of (JAQ hp.d hq.n) (by omega)),JIF]
theorem JJt (T:TabL tab) {p q:Rat} (hp:Q p) (hq:Q q):run x tab glo sub (n+1) 21 [F p,F q]=.ok (.bool (decide (p<q))):=by
 rw [JAD T.h21,JAE rfl]
 dsimp! [d_21,b_21,JAj (hp.Ln (by omega)) (hq.Ld (by omega)),JAj (hq.Ln (by omega)) (hp.Ld (by omega)),lt_iff]
abbrev sc (ns:List Int):D:=.list (ns.map fun i=>.int i)
theorem JEL (ns:List Int):shaped (sc ns)=true:=by
 have h1:∀ns:List Int,PyData.canLayAll0 (ns.map fun i=>PyData.int i)=true:=fun ns=>by
  induction ns with
  | nil=>rfl
  | cons a r ih=>simp only [List.map_cons,PyData.canLayAll0,PyData.canLay0,ih,Bool.and_self]
 have h2:∀ns:List Int,PyData.depthAll (ns.map fun i=>PyData.int i)=0:=fun ns=>by
  induction ns with
  | nil=>rfl
  | cons a r ih=>simp only [List.map_cons,PyData.depthAll,PyData.depth,ih];rfl
 simp only [shaped,PyData.canLay0,h1,PyData.depth,h2]
 decide
theorem JFE (ns:List Int):cmpD .Eq (sc ns) (.list [])=.ok (.bool ns.isEmpty):=by
 have:shaped (.list [])=true:=JEL []
 simp only [cmpD,JEL,this,Bool.and_self,if_true]
 cases ns<;>simp [PyData.eqv,PyData.eqvAll]
theorem JLP (ns:List Int) (k:Int) (h0:0<=k) (h1:k<ns.length):∃i,idxD (sc ns) (.int k)=.ok (.int i):=by
 refine ⟨ns[k.toNat]'(by omega),?_⟩
 simp only [sc,idxD,atI,ixN,q_g,if_pos h0,if_pos h1,Option.bind_some]
 rw [List.getElem?_map,q_q (by omega)]
 rfl
theorem JNH (T:TabL tab) (ns:List Int) (k:Int) (hk:0<=k):∃i,run x tab glo sub (n+1) 11 [sc ns,.int k]=.ok (.int i):=by
 rw [JAD T.h11,JAE rfl]
 by_cases h:k<ns.length
 ·obtain ⟨i,hi⟩:=JLP ns k hk h
  refine ⟨i,?_⟩
  dsimp! [d_11,b_11,q_g,h,decide_true,hi]
 ·have hd:decide (k<(ns.length:Int))=false:=q_o h
  by_cases hn:ns=[]
  ·refine ⟨0,?_⟩
   have e:cmpD .Eq (sc ns) (.list [])=.ok (.bool true):=by rw [JFE,hn];rfl
   dsimp! [d_11,b_11,q_g,hd,e]
  ·have hl:0<(ns.length:Int):=by
    have:=List.length_pos_iff.mpr hn
    omega
   obtain ⟨i,hi⟩:=JLP ns (k.fmod ns.length) (Int.fmod_nonneg_of_pos k hl) (Int.fmod_lt_of_pos k hl)
   refine ⟨i*31+k,?_⟩
   have e:cmpD .Eq (sc ns) (.list [])=.ok (.bool false):=by rw [JFE];cases ns<;>simp at hn ⊢
   dsimp! [d_11,b_11,q_g,hd,e,JFd (i:=k) (j:=(ns.length:Int)) (by omega),hi,JGB (i:=i) (j:=31) (by decide)]
theorem JCC (T:TabL tab) (ns:List Int) (k m:Int) (hk:0<=k) (hk2:k<2000000) (hm:0<m):∃i,0<=i/\i<m/\run x tab glo sub (n+2) 12 [sc ns,.int k,.int m]=.ok (.int i):=by
 rw [JAD T.h12,JAE rfl]
 obtain ⟨c,hc⟩:=JNH (x:=x) (glo:=glo) (sub:=sub) (n:=n) T ns k hk
 obtain ⟨d,hd⟩:∃d,d=((c+6151*(k+1))*40692).fmod 2147483399:=⟨_,rfl⟩
 have hd0:0<=d:=by rw [hd];exact Int.fmod_nonneg_of_pos _ (by decide)
 have hd1:d<2147483399:=by rw [hd];exact Int.fmod_lt_of_pos _ (by decide)
 have hm1:binD .Mod (.int ((c+6151*(k+1))*40692)) (.int 2147483399)=.ok (.int d):=by rw [JFd (by decide),hd]
 refine ⟨((d*d+d.fdiv 31).fmod 2147483629).fmod m,Int.fmod_nonneg_of_pos _ hm,Int.fmod_lt_of_pos _ hm,?_⟩
 dsimp! [d_12,b_12,hc,JCe (i:=6151) (j:=k+1) (by decide),JGB (i:=c+6151*(k+1)) (j:=40692) (by decide),hm1,JCe (i:=d) (j:=d) (by omega),JHM (i:=d) (j:=31) (by decide) (L.of (k:=10) (by decide) (by omega)),
  JFd (j:=2147483629) (by decide),JFd (j:=m) (show m≠0 by omega)]
structure Small (q:Rat):Prop where
 n:q.num.natAbs<=24
 d:q.den<=4
 w:q.num.natAbs<=6*q.den
theorem Small.sz {q:Rat} (h:Small q):Sz 5 q:=⟨by have:=h.n;omega,by have:=h.d;omega⟩
theorem Small.Q {q:Rat} (h:Small q):Q q:=h.sz.mono (by omega)
theorem JCM (a b:Int) (hb:0<b):∃g:Int,0<g/\a=(Rat.divInt a b).num*g/\b=((Rat.divInt a b).den:Int)*g:=by
 have hg:a.gcd b≠0:=by
  intro z
  have:=(Int.gcd_eq_zero_iff.mp z).2
  omega
 have q1:=JCU a b (by omega)
 have q2:=JDt a b (by omega)
 rw [if_neg (by omega)] at q1 q2
 refine ⟨((a.gcd b:Nat):Int),by omega,?_,?_⟩
 ·rw [<-q1,JBT (Int.gcd_dvd_left ..),Int.ediv_mul_cancel (Int.gcd_dvd_left ..)]
 ·rw [<-q2,JBT (Int.gcd_dvd_right ..),Int.ediv_mul_cancel (Int.gcd_dvd_right ..)]
theorem JE9 (a b m:Int) (hb:0<b) (h1:-(m*b)<=a) (h2:a<=m*b):-(m*(Rat.divInt a b).den)<=(Rat.divInt a b).num/\(Rat.divInt a b).num<=m*(Rat.divInt a b).den:=by
 obtain ⟨g,hg,e1,e2⟩:=JCM a b hb
 generalize (Rat.divInt a b).num=u at *
 generalize ((Rat.divInt a b).den:Int)=d at *
 subst e1;subst e2
 rw [<-Int.mul_assoc] at h1 h2
 constructor
 ·rw [<-Int.neg_mul] at h1
  exact Int.le_of_mul_le_mul_right h1 hg
 ·exact Int.le_of_mul_le_mul_right h2 hg
theorem JI7 (T:TabL tab) (ns:List Int) (k:Int) (hk:0<=k) (hk2:k<1000000):∃q,Small q/\run x tab glo sub (n+3) 15 [sc ns,.int k]=.ok (F q):=by
 rw [JAD T.h15,JAE rfl]
 obtain ⟨i,i0,i1,hi⟩:=JCC (x:=x) (glo:=glo) (sub:=sub) (n:=n) T ns k 4 hk (by omega) (by decide)
 obtain ⟨j,j0,j1,hj⟩:=JCC (x:=x) (glo:=glo) (sub:=sub) (n:=n) T ns (k+1) (12*(1+i)+1) (by omega) (by omega) (by omega)
 refine ⟨Rat.divInt (j - 6*(1+i)) (1+i),?_,?_⟩
 ·have h1:=JE9 (j - 6*(1+i)) (1+i) 6 (by omega) (by omega) (by omega)
  have h2:=JHC (j - 6*(1+i)) (1+i) (by omega)
  have h3:=JGb (j - 6*(1+i)) (1+i) (by omega)
  exact ⟨by omega,by omega,by omega⟩
 ·dsimp! [d_15,b_15,hi,JCe (i:=12) (j:=1+i) (by decide),JCe (i:=6) (j:=1+i) (by decide),hj,JBH T (j - 6*(1+i)) (1+i) (by omega) (L.of (k:=10) (by omega) (by omega))]
theorem JFA (T:TabL tab) (ns:List Int) (k:Int) (hk:0<=k) (hk2:k<1000000):∃q,Small q/\0<q/\q.den<=3/\run x tab glo sub (n+3) 16 [sc ns,.int k]=.ok (F q):=by
 rw [JAD T.h16,JAE rfl]
 obtain ⟨i,i0,i1,hi⟩:=JCC (x:=x) (glo:=glo) (sub:=sub) (n:=n) T ns k 3 hk (by omega) (by decide)
 obtain ⟨j,j0,j1,hj⟩:=JCC (x:=x) (glo:=glo) (sub:=sub) (n:=n) T ns (k+1) (6*(1+i)) (by omega) (by omega) (by omega)
 refine ⟨Rat.divInt (1+j) (1+i),?_,?_,by have h3:=JGb (1+j) (1+i) (by omega);omega,?_⟩
 ·have h1:=JE9 (1+j) (1+i) 6 (by omega) (by omega) (by omega)
  have h2:=JHC (1+j) (1+i) (by omega)
  have h3:=JGb (1+j) (1+i) (by omega)
  exact ⟨by omega,by omega,by omega⟩
 ·rw [Rat.lt_iff]
  obtain ⟨g,hg,e1,e2⟩:=JCM (1+j) (1+i) (by omega)
  have h:0<(Rat.divInt (1+j) (1+i)).num*g:=by omega
  have h2:=Int.pos_of_mul_pos_left h hg
  simpa using h2
 ·dsimp! [d_16,b_16,hi,JCe (i:=6) (j:=1+i) (by decide),hj,JBH T (1+j) (1+i) (by omega) (L.of (k:=10) (by omega) (by omega))]
theorem JJj (T:TabL tab) (ns:List Int) (k:Int) (hk:0<=k) (hk2:k<1000000):∃q,Small q/\0<q/\run x tab glo sub (n+3) 16 [sc ns,.int k]=.ok (F q):=by
 obtain ⟨q,h1,h2,_,h⟩:=JFA (x:=x) (glo:=glo) (sub:=sub) (n:=n) T ns k hk hk2
 exact ⟨q,h1,h2,h⟩
end
end VI.VP
end
section
set_option maxRecDepth 100000
namespace VI
open PySem PySem.Spec PyProof.Rows L2
theorem JIq:typeLookup (.type "list_reverseiterator") "__len__"=pure none:=by rw [typeLookup_type,builtinLookup_eq_fast];kernel_rfl
theorem JJl:typeLookup (.type "list_reverseiterator") "__length_hint__"=pure (some (.builtin "list_reverseiterator.__length_hint__")):=by rw [typeLookup_type,builtinLookup_eq_fast];kernel_rfl
section
variable {prog:Program} {w:World} {A:Around} {E:Value->Shared->Prop} {s:Shared}
theorem JJa {I:Addr} (hT:s.TypeIs (.ref I) "list_reverseiterator") {Q:Bool->Shared->Prop} (h:Q false s):wpAny (model prog w) A (Builtin.List.listLengthHint (.ref I)) Q E s:=by
 unfold Builtin.List.listLengthHint
 refine q_b (wpAny_specialOf hT JIq ?_)
 show wpAny _ A (specialOf (Value.ref I) (Str.ofString "__length_hint__") >>= _) _ _ _
 refine q_b (wpAny_specialOf hT JJl ?_)
 (generalize hid:("list_reverseiterator.__length_hint__":String)=id0;(fail_if_success (clear hid id0));wp_delta;rw [show splitId id0=some ("list_reverseiterator","__length_hint__") from by subst hid;decide +kernel];subst hid)
 refine q_b (wpAny_isInstance (b:=true) hT (by rw [isSubtype_type];kernel_rfl) ?_)
 exact q_e h
theorem JMN {R:Result->Shared->Prop} {I l S:Addr} {items:Array Value} {res:Value} {c₀:Nat} (hh:A.handled=none) (hne:l≠I) (hit:s.heap.IsRevIter I l ((items.size:Int) - 1)) (hl:s.heap.IsList l items) (hn:items.size<=sizeLine)
  (hSI:S≠I) (hSl:S≠l) (hS:s.heap.get? S=some { cls:=.type "list",data:=.seq #[] c₀ })
  (hR:∀h' tk acc' c',(∀b o,b≠S->b≠I->s.heap.get? b=some o->h'.get? b=some o)->h'.get? S=some { cls:=.type "list",dict:=none,data:=.seq acc' c',slots:=#[] }->ItemsOf (fun i v=>items[items.size - 1 - i]? = some v) acc' items.size->R (.ok (.ret res)) { s with heap:=h',toks:=tk }) :
  wpAny (model prog w) A.in1 (Builtin.List.listExtendWith (.ref S) (.ref I) res)
    (fun fin s'=>match fin with | .done f=>R (.ok f) s' | .again c'=>c'.quiet=true/\codeAny (model prog w) A c' R s') (fun e s'=>R (.error e) s') s:=by
 have hSf:S ∉ [I,l]:=by simp only [q_n,List.not_mem_nil,or_false,not_or];exact ⟨hSI,hSl⟩
 have W:=Walks.listRev (prog:=prog) (w:=w) (A:=A.in1) hh I l hne items
 have st:0<=items.size/\s.heap.IsRevIter I l ((items.size:Int) - 1 - ((0:Nat):Int))/\s.heap.IsList l items:=⟨Nat.zero_le _,by simpa using hit,hl⟩
 unfold Builtin.List.listExtendWith
 refine q_b (wpAny_typeOf (T:="list_reverseiterator") hit.typeIs ?_)
 have h1:Builtin.List.listSameRef (.ref S) (.ref I)=false:=by simp [Builtin.List.listSameRef,hSI]
 rw [if_neg (by rw [h1];decide)]
 refine q_b (W.self 0 s _ _ st ?_)
 refine q_b (wpAny_holding (JJa hit.typeIs ?_))
 rw [if_neg (by decide)]
 refine q_e ⟨plainId_quiet PySem.F.plain_extend_loop _,codeAny_extend_loopS W.toS hn S hSf res items.size 0 s #[] c₀ rfl (Nat.zero_le _) st hS (ItemsOf.nil _) fun s' acc' c' hm hS' hacc=>?_⟩
 rw [Moved.eq_with hm]
 refine hR s'.heap s'.toks acc' c' (fun b o hb hbI e=>hm.heap b o (fun hmem=>?_) e) hS' hacc
 rcases q_n.mp hmem with e' | hmem
 ·exact hb e'
 ·exact hbI (List.mem_singleton.mp hmem)
theorem JDj {I l:Addr} {items:Array Value} {Q:Value->Shared->Prop} (hh:A.handled=none) (hne:l≠I) (hit:s.heap.IsRevIter I l ((items.size:Int) - 1)) (hl:s.heap.IsList l items) (hn:items.size<=sizeLine)
  (hQ:∀h' tk acc' c',(∀b o,b≠I->s.heap.get? b=some o->h'.get? b=some o)->h'.get? s.heap.objs.size=some { cls:=.type "list",dict:=none,data:=.seq acc' c',slots:=#[] } ->
    ItemsOf (fun i v=>items[items.size - 1 - i]? = some v) acc' items.size->Q (.ref s.heap.objs.size) { s with heap:=h',toks:=tk }) :
  wpAny (model prog w) A (call (.type "list") [.ref I]) Q E s:=by
 have hI:I<s.heap.objs.size:=by obtain ⟨o,ho,_⟩:=hit;exact q_h ho
 have hL:l<s.heap.objs.size:=by obtain ⟨o,ho,_⟩:=hl;exact q_h ho
 refine callType_codes (Q₁:=fun o1 s1=>o1=.ref s.heap.objs.size/\s1={ s with heap:=s.heap.push { cls:=.type "list",data:=.seq #[] } }) PySem.F.called_list (PySem.F.typeCall_list_1 _) PySem.F.entry_list_init (code_list_new _ ⟨rfl,rfl⟩) fun o1 s1 q1=>?_
 obtain ⟨rfl,rfl⟩:=q1
 have hS:(s.heap.push { cls:=.type "list",data:=.seq #[] }).get? s.heap.objs.size=some { cls:=.type "list",data:=.seq #[] }:=q_k _ rfl
 refine ⟨⟨_,hS,rfl⟩,PySem.F.args_list_init_2 _ _,?_⟩
 show wpAny _ _ (do let old<-Builtin.List.listItems (.ref s.heap.objs.size);Builtin.List.listUpdate (.ref s.heap.objs.size) (fun _=>#[]);letGo old.toList.reverse;Builtin.List.listExtendWith (.ref s.heap.objs.size) (.ref I) .none) _ _ _
 refine q_b ?_
 unfold Builtin.List.listItems
 refine q_b (wpAny_seqItems hS rfl (q_e ?_))
 show wpAny _ _ (updateSeq s.heap.objs.size (fun _=>#[]) >>= fun _=>letGo (#[]:Array Value).toList.reverse >>= fun _=>Builtin.List.listExtendWith (.ref s.heap.objs.size) (.ref I) .none) _ _ _
 refine q_b (wpAny_updateSeq hS rfl ?_)
 have hS2:=Heap.get?_update_self (Obj.mapSeq (fun _=>(#[]:Array Value))) hS rfl
 have kp:∀b o,b≠s.heap.objs.size->s.heap.get? b=some o->((s.heap.push { cls:=.type "list",data:=.seq #[] }).update s.heap.objs.size (Obj.mapSeq (fun _=>(#[]:Array Value)))).get? b=some o :=
  fun b o hb e=>(Heap.get?_update_other _ _ (Ne.symm hb)).trans (q_c _ e)
 refine q_b (wpAny_letGo ?_)
 refine JMN (A:=A.in1) hh hne (hit.at fun o e=>kp _ o (q_l hI) e) (hl.at fun o e=>kp _ o (q_l hL) e) hn (Nat.ne_of_gt hI) (Nat.ne_of_gt hL) hS2 fun h' tk acc' c' hk hS' hacc=>?_
 exact ⟨rfl,hQ h' tk acc' c' (fun b o hb e=>hk b o (q_l (q_h e)) hb (kp b o (q_l (q_h e)) e)) hS' hacc⟩
end
section
variable {X:Cx} {pins:List (Addr×Obj)} {σ:St} {H:Hp} {s:Shared} {h':Heap}
theorem JFJ {t':Nat} {it a:Addr} {o:HO} (I:Inv X pins σ H s) (k:∀b u,b≠it->s.heap.get? b=some u->h'.get? b=some u) (f:FpOk X pins H it) (hp:s.heap.objs.size<=a) (new:ObjOk X.prog X.w (upd H a o) h' a o) :
  Inv X pins σ (upd H a o) { s with heap:=h',toks:=t' }:=by
 obtain ⟨hn,hL,hfs,h1,h2,h3⟩:=f
 have ha:=I.hok.fresh hp
 have nit:∀b u,H b=some u->b≠it:=fun b u e z=>by rw [z,hn] at e;cases e
 have na:∀b u,s.heap.get? b=some u->b≠a:=fun b u e=>q_l (q_m (q_h e) hp)
 have kp:∀b u,H b=some u->upd H a o b=some u:=fun b u e=>by rw [JAF (JAT e ha)];exact e
 refine I.step (g':=s.gens) (d':=s.drawn) (ch:=[it]) (fun b hb=>?_) (fun b u _ _ hc e _=>k b u (fun z=>hc (by simp [z])) e) (fun b u _ _ hc e _=>⟨u.slots,k b u (fun z=>hc (by simp [z])) e⟩)
  (fun b u _ e n=>by rw [JAF (na b u e)];exact n) (fun b u hc e=>⟨u,k b u (fun z=>hc (by simp [z])) e⟩) (fun b xs e=>kp b _ e) (fun b u v e=>kp b _ e) (fun b ps e=>⟨#[],by rw [kp b _ e];simp⟩) (fun m hm=>?_) (fun b u e=>?_) I.bare
 ·have e:b=it:=by simpa using hb
  subst e
  exact ⟨h1,hL,h2,h3⟩
 ·obtain ⟨ob,es,ep,ho,r⟩:=hm
  exact ⟨ob,es,ep,k _ ob (Ne.symm hL) ho,r⟩
 ·by_cases hb:b=a
  · subst hb;rw [JAC] at e;cases e;exact new
  · rw [JAF hb] at e
    refine (I.hok b u e).stay (fun c v hc q=>k c v ?_ q) (fun c q=>kp c _ q) fun c xs q=>kp c _ q
    rcases hc with z | z
    ·rw [z];exact nit b u e
    ·exact nit c _ z
end
section
variable {X:Cx} {B:Bs} {C:Cn} {CX:CXT} {XX:Nat->Hp->Prop} {G:List (Str×GK)}
theorem JFx (ds:List D):(∃ys,ds=[.list ys])\/(xD .rev ds=.bad/\xD .srt ds=.bad/\xD .sst ds=.bad) :=
 match ds with
 | [.list ys]=>.inl ⟨ys,rfl⟩
 | []=>.inr ⟨rfl,rfl,rfl⟩
 | [.none]=>.inr ⟨rfl,rfl,rfl⟩
 | [.bool _]=>.inr ⟨rfl,rfl,rfl⟩
 | [.int _]=>.inr ⟨rfl,rfl,rfl⟩
 | [.str _]=>.inr ⟨rfl,rfl,rfl⟩
 | [.tuple _]=>.inr ⟨rfl,rfl,rfl⟩
 | [.dict _]=>.inr ⟨rfl,rfl,rfl⟩
 | d1::d2::r=>.inr (by cases d1<;>exact ⟨rfl,rfl,rfl⟩)
theorem DenL.rev {H:Hp}:∀(ds:List D) (vs:List V),DenL B H ds vs->DenL B H ds.reverse vs.reverse
 | [],vs,h=>by simp only [DenL] at h;subst h;simp only [List.reverse_nil,DenL]
 | d::ds,vs,h=>by
  simp only [DenL] at h
  obtain ⟨v,r,e,q,l⟩:=h
  subst e
  simp only [List.reverse_cons]
  refine DenL.append _ _ _ _ (DenL.rev ds r l) ?_
  simp only [DenL]
  exact ⟨v,[],rfl,q,rfl⟩
theorem JF9:∀ {vs:List V} {us:List Value},Vals vs us->Vals vs.reverse us.reverse
 | [],us,h=>by cases h;exact .nil
 | v::vs,us,h=>by
  cases h with
  | cons r1 r2 =>
   simp only [List.reverse_cons]
   exact (JF9 r2).append (.cons r1 .nil)
theorem JII {its:List Value} {acc:Array Value} (h:ItemsOf (fun i v=>its.toArray[its.toArray.size - 1 - i]? = some v) acc its.toArray.size):acc=its.reverse.toArray:=by
 apply Array.ext
 ·rw [h.1];simp
 ·intro i h1 h2
  have e:=h.2 i acc[i] (Array.getElem?_eq_getElem h1)
  have hs:acc.size=its.length:=by rw [h.1];simp
  simp only [q_f,List.getElem?_toArray] at e
  have h3:its.length - 1 - i<its.length:=by omega
  rw [q_q h3] at e
  simp only [q_j] at e
  simp only [List.getElem_toArray,List.getElem_reverse]
  exact e.symm
noncomputable def RvO (X:Cx) (p l:Addr) (n:Nat):HO:=.ext fun h=>X.s₀.heap.objs.size<=p/\h.IsRevIter p l ((n:Int) - 1)
theorem JCP:CallR X (.type "reversed") (fun xs H Q=>∃l ys,xs=[.ref l]/\SqL X.K H l ys/\∀p,H p=none->Q (.ref p) (upd H p (RvO X p l ys.length))):=by
 intro pins s σ H xs us Q I r ⟨l,ys,e,hq,q⟩
 subst e
 cases r with
 | cons ra rb =>
  cases rb
  cases ra
  obtain ⟨its,rv,pl,hz⟩:=I.list hq
  have hl:=rv.length
  refine call_reversed_list pl.isList ?_
  refine ⟨.ref s.heap.objs.size,_,I.laid (t':=s.toks) (fun b o e=>q_c _ e) (q_t _) (o:=RvO X s.heap.objs.size l ys.length) ?_,rfl,q _ I.fresh⟩
  have e1:((its.toArray.size:Nat):Int) - 1=(ys.length:Int) - 1:=by rw [q_f,hl]
  rw [e1]
  exact ⟨⟨I.sz,_,q_k _ rfl,rfl,rfl⟩,⟨_,q_k _ rfl⟩,fun h1 h2 z k=>⟨z.1,z.2.at k⟩⟩
theorem forget {pins:List (Addr×Obj)} {σ:St} {H1:Hp} {s:Shared} {p:Addr} {φ:Heap->Prop} (I:Inv X pins σ (upd H1 p (.ext φ)) s) (h1:H1 p=none) (hs:X.s₀.heap.objs.size<=p):Inv X pins σ H1 s/\FpOk X pins H1 p:=by
 have hp:upd H1 p (.ext φ) p=some (.ext φ):=JAC
 have no:∀b,upd H1 p (.ext φ) b=none->b≠p:=fun b e z=>by rw [z,hp] at e;cases e
 have f:FpOk X pins H1 p:=by
  refine ⟨h1,fun z=>no _ I.free z.symm,fun hb=>?_,.inr hs,fun x c e=>no _ (I.freeC x c e),fun q hq=>no _ (I.pin q hq).2.1⟩
  obtain ⟨_,o,ho,_⟩:=I.ok.funs.mem hb
  exact absurd (q_m (q_h ho) hs) (Nat.lt_irrefl _)
 have dn:∀b u,upd H1 p (.ext φ) b=some u->u≠.ext φ->H1 b=some u:=fun b u e ne=>by
  by_cases hb:b=p
  · rw [hb,hp] at e;cases e;exact absurd rfl ne
  · rw [JAF hb] at e;exact e
 refine ⟨?_,f⟩
 refine I.step (g':=s.gens) (d':=s.drawn) (t':=s.toks) (h':=s.heap) (ch:=[]) (fun _ z=>nomatch z) (fun b u _ _ _ e _=>e) (fun b u _ _ _ e _=>⟨u.slots,e⟩)
  (fun b u _ e n=>by rw [JAF (no b n)] at n;exact n) (fun b u _ e=>⟨u,e⟩) (fun b xs e=>dn b _ e (by simp)) (fun b u v e=>dn b _ e (by simp)) (fun b ps e=>⟨#[],by rw [dn b _ e (by simp)];simp⟩) (fun m hm=>hm) (fun b u e=>?_) I.bare
 have hb:b≠p:=fun z=>by rw [z,h1] at e;cases e
 exact (I.hok b u (by rw [JAF hb];exact e)).stay (fun c v _ q=>q) (fun c q=>dn c _ q (by simp)) fun c xs q=>dn c _ q (by simp)
theorem JDA (hc:X.calm=true):CallR X (.type "list") (fun xs H Q=>∃p l ys H1,xs=[.ref p]/\H=upd H1 p (RvO X p l ys.length)/\H1 p=none/\SqL X.K H1 l ys/\∀q,H1 q=none->Q (.ref q) (upd H1 q (.lst ys.reverse))):=by
 intro pins s σ H xs us Q I r ⟨p,l,ys,H1,e,eH,h1,hq,q⟩
 subst e;subst eH
 cases r with
 | cons ra rb =>
  cases rb
  cases ra
  obtain ⟨⟨hs,hit⟩,_,_⟩:=I.hok p _ JAC
  obtain ⟨I1,f⟩:=forget I h1 hs
  obtain ⟨its,rv,pl,hz⟩:=I1.list hq
  have hl:=rv.length
  have hne:l≠p:=fun z=>by
   subst z
   obtain ⟨o,ho,c1,_⟩:=pl.isList
   obtain ⟨o',ho',c2,_⟩:=hit
   rw [ho] at ho';cases ho'
   rw [c1] at c2
   exact absurd (Value.type.inj c2) (by decide)
  have hsz:its.toArray.size=ys.length:=by rw [q_f];exact hl.symm
  refine JDj (items:=its.toArray) (I.ok.hd hc) hne (by rw [hsz];exact hit) pl.isList (by rw [hsz];exact hz) fun h' tk acc' c' hk hS hacc=>?_
  have ea:=JII hacc
  subst ea
  exact ⟨.ref s.heap.objs.size,_,JFJ I1 (fun b o hb e=>hk b o hb e) f (q_t _) (show ObjOk X.prog X.w _ h' _ (.lst ys.reverse) from ⟨by simpa using hz,its.reverse,c',JF9 rv,hS⟩),rfl,q _ I1.fresh⟩
noncomputable def Itv (K:PySem.W.Frag) (a:Addr) (n:Nat):It :=
 ⟨fun i H=>∃xs,SqL K H a xs/\xs.length=n/\i<n,fun i H x H'=>H'=H/\∀xs,SqL K H a xs->xs.length=n->xs[n - 1 - i]? = some x,fun i H=>n<=i⟩
theorem JJQ {P:Program} {w:World} {K:PySem.W.Frag} {tg:Expr} (a it:Addr) (n:Nat):Turn P w K tg (Itv K a n) [it] it (fun i h=>i<=n/\h.IsRevIter it a ((n:Int) - 1 - (i:Int))) where
 mem:=by simp
 obj:=fun i h st b hb=>by
  have e:b=it:=by simpa using hb
  subst e
  obtain ⟨_,o,e,c,d⟩:=st
  exact ⟨o,e,fun v z=>by rw [d] at z;cases z⟩
 keep:=fun i h h' st k=>⟨st.1,st.2.at fun o e=>k it (by simp) o e⟩
 item:=by
  intro X hP hw hK hc i pins s σ H E I hf st hg
  subst hP hw hK
  obtain ⟨xs,hq,hn,hi⟩:=hg
  obtain ⟨its,rv,p,hz⟩:=I.list hq
  have hlt:n - 1 - i<xs.length:=by omega
  obtain ⟨u,hu,ru⟩:=rv.get (q_q hlt)
  obtain ⟨f0,f1,f2,f3,f4,f5⟩:=hf it (by simp)
  have hit:=st.2
  rw [show (n:Int) - 1 - (i:Int)=((n - 1 - i:Nat):Int) by omega] at hit
  refine wpAny_pyNext_rev_item hit p.isList (x:=u) (by simpa using hu) fun h' st' sb=>?_
  have I1:Inv X pins σ H { s with heap:=h' }:=I.turned (t':=s.toks) (fun b o hb e=>(sb.2 b hb).trans e) f0 f1 f3 f4 f5
  have st2:h'.IsRevIter it a ((n:Int) - 1 - ((i+1:Nat):Int)):=by
   rw [show (n:Int) - 1 - ((i+1:Nat):Int)=((n - 1 - i:Nat):Int) - 1 by omega];exact st'
  obtain ⟨o,e,c,d⟩:=id st'
  exact ⟨u,rfl,JKL (s:={ s with heap:=h' }) e c d (by decide) ⟨xs[n - 1 - i],H,I1,ru,⟨rfl,fun ys hy _=>by rw [I.list_inj hy hq];exact q_q hlt⟩,⟨hi,st2⟩,fun b hb=>(hf b hb).1⟩⟩
 done:=by
  intro X hP hw hK hc i pins s σ H E I hf st hg
  subst hP hw hK
  obtain ⟨f0,f1,f2,f3,f4,f5⟩:=hf it (by simp)
  have hg:n<=i:=hg
  have hit:=st.2
  rw [show (n:Int) - 1 - (i:Int)=-1 by have:=st.1;omega] at hit
  exact wpAny_pyNext_rev_end (I.ok.hd hc) hit fun h' eb=>⟨rfl,I.turned (t':=s.toks) (fun b o hb e=>eb b o hb e) f0 f1 f3 f4 f5⟩
 self:=fun _ _ _ _ _ st h=>wpAny_pyIter_revIter st.2 h
theorem JI0 {H:Hp} {a:Addr} {ds:List D} {xs:List V} (q:SqL B.K H a xs) (l:DenL B H ds xs):ItOk B (Itv B.K a xs.length) H ds.reverse:=by
 intro H2 s2 i
 have q2:=s2.seq q
 have el:=DenL.len ds xs l
 refine ⟨fun d e=>?_,fun h=>by rw [List.length_reverse,el] at h;exact h⟩
 have hi:i<ds.length:=by
  have:=(q_p.mp e).1
  simpa using this
 rw [List.getElem?_reverse hi] at e
 obtain ⟨v,e1,dn⟩:=DenL.get ds xs _ d l e
 refine ⟨⟨xs,q2,rfl,by omega⟩,fun x H3 y=>?_⟩
 obtain ⟨e3,y⟩:=y
 have:=y xs q2 rfl
 rw [<-el,e1] at this
 cases this
 exact .inl ⟨e3,dn⟩
theorem JCf {names:List (Str×NameKind)} {f:Str} {a:Expr} {k:XO} {args:List Expr} (h:JFM G names f a=some (k,args)):k=.srt/\args=[a]/\f="sorted"/\glob G names f=some .nam \/
  k=.sst/\f="sorted"/\glob G names f=some .nam/\∃b r p pos,args=[b]/\a=.Call (.Name r p) [b] [] pos/\r="set"/\glob G names r=some .nam:=by
 unfold JFM at h
 split at h
 ·rename_i hf
  split at h
  ·rename_i r p b pos
   split at h
   ·rename_i hr
    cases h
    exact .inr ⟨rfl,hf.1,hf.2,b,r,p,pos,rfl,rfl,hr.1,hr.2⟩
   ·cases h;exact .inl ⟨rfl,rfl,hf.1,hf.2⟩
  ·cases h;exact .inl ⟨rfl,rfl,hf.1,hf.2⟩
 ·cases h
theorem JFv {names:List (Str×NameKind)} {f:Str} {a:Expr} {k:XO} {args:List Expr} (h:JFM G names f a=some (k,args)) (h1:k≠.srt) (h2:k≠.sst):False:=by
 rcases JCf h with ⟨z,_⟩ | ⟨z,_⟩
 ·exact h1 z
 ·exact h2 z
theorem JGn {names:List (Str×NameKind)} {f:Str} {a:Expr} {args:List Expr} (h:JBy G names false f a=some (.rev,args)) :
  XO.rev=.rev/\∃b r p pos,args=[b]/\f="list"/\glob G names f=some (.ty .list)/\a=.Call (.Name r p) [b] [] pos/\r="reversed"/\glob G names r=some .nam:=by
 unfold JBy at h
 rw [if_neg (by decide)] at h
 split at h
 ·rename_i hf
  split at h
  ·rename_i r p b pos
   split at h
   ·rename_i hr
    cases h
    exact ⟨rfl,b,r,p,pos,rfl,hf.1,hf.2,rfl,hr.1,hr.2⟩
   ·cases h
  ·cases h
 ·exact (JFv h (by decide) (by decide)).elim
theorem JEr {names:List (Str×NameKind)} {f:Str} {a:Expr} {k:XO} {args:List Expr} (h:JBy G names false f a=some (k,args)):k=.rev\/k=.srt/\args=[a]/\f="sorted"/\glob G names f=some .nam \/
  k=.sst/\f="sorted"/\glob G names f=some .nam/\∃b r p pos,args=[b]/\a=.Call (.Name r p) [b] [] pos/\r="set"/\glob G names r=some .nam:=by
 unfold JBy at h
 rw [if_neg (by decide)] at h
 split at h
 ·split at h
  ·split at h
   ·cases h;exact .inl rfl
   ·cases h
  ·cases h
 ·exact .inr (JCf h)
theorem JD6 {names:List (Str×NameKind)} {f:Str} {a:Expr} {k:XO} {args:List Expr} (h:JBy G names true f a=some (k,args)):(k=.rev/\args=[a]/\f="reversed"/\glob G names f=some .nam)\/JFM G names f a=some (k,args):=by
 unfold JBy at h
 rw [if_pos rfl] at h
 split at h
 ·rename_i hf
  cases h
  exact .inl ⟨rfl,rfl,hf.1,hf.2⟩
 ·exact .inr h
theorem JE6 {names:List (Str×NameKind)} {f:Str} {a:Expr} {p pos:Pos} {k:XO} {args:List Expr} (h:JFM G names f a=some (k,args)):xRaw G names false (.Call (.Name f p) [a] [] pos)=some (k,args):=by
 have hf:f="sorted":=by
  rcases JCf h with ⟨_,_,z,_⟩ | ⟨_,z,_⟩<;>exact z
 show JBy G names false f a=_
 unfold JBy
 rw [if_neg (by decide),if_neg (by rw [hf];intro z;exact absurd z.1 (by decide))]
 exact h
theorem JKU (g:Gk X B C CX XX G) {b:Expr} {p pos:Pos} {t:TA} (hg:glob G X.env.scope.names "reversed"=some .nam) (ha:PA X [b] t) (he:starEach [b] X.env=[(false,eval b X.env)]) :
  PE X (.Call (.Name "reversed" p) [b] [] pos) (tCB (fun xs H Q=>∃l ys,xs=[.ref l]/\SqL X.K H l ys/\∀p,H p=none->Q (.ref p) (upd H p (RvO X p l ys.length))) t):=by
 obtain ⟨_,h2,h3⟩:=JAl hg
 exact JB9 (es:=[]) JCP h2 (g.nam _ h3) (by decide +kernel) ha (by decide) (by decide) he rfl
theorem x_rev:XOk B C CX G .rev where
 val:=by
  intro X XX g e args y h ha hs hc
  unfold xRaw at h
  split at h
  ·rename_i f p a pos
   obtain ⟨_,b,r,p2,pos2,rfl,rfl,h1,rfl,rfl,h2⟩:=JGn h
   obtain ⟨_,h3,h4⟩:=JAl h1
   refine PE.imp (JB9 (es:=[]) (JDA g.calm) h3 (g.ty _ _ h4) (by decide +kernel) (JBA (JKU g h2 ha (hs b (by simp) [] X.env)) JBk rfl) (by decide) (by decide) rfl rfl) fun σ H Q ⟨δ,ok,k⟩=>?_
   simp only [ev] at k
   refine RA.of (W:=fun r H=>KE B XX r H Q) ok (fun _ _ z=>z) (fun _ z=>z) k fun ds vs H1 s1 d1 k1=>?_
   have k1:=KE.mono g s1 k1
   rcases JFx ds with ⟨ys,rfl⟩ | ⟨b1,b2,b3⟩
   rotate_left
   ·rw [b1] at k1;exact False.elim k1
   ·simp only [DenL,Den] at d1
    obtain ⟨v,r,e,⟨q,us,e1,sq,l⟩,e2⟩:=d1
    subst e2;subst e1;subst e
    refine ⟨q,us,rfl,g.K▸sq,fun p' hp=>⟨p',q,us,H1,rfl,rfl,hp,g.K▸sq,fun p3 hp3=>?_⟩⟩
    have sm:Same H1 (upd H1 p3 (.lst us.reverse)):=JAq hp3
    refine k1 _ _ sm ?_
    simp only [Den]
    exact ⟨p3,_,rfl,SqL.of JAC,DenL.mono sm _ _ (DenL.rev _ _ l)⟩
  ·cases h
 itr:=by
  intro X XX g tg e args y h ha hs hc
  unfold xRaw at h
  split at h
  ·rename_i f p a pos
   rcases JD6 h with ⟨_,rfl,rfl,h2⟩ | z
   rotate_left
   ·exact (JFv z (by decide) (by decide)).elim
   intro pins s σ H R I ⟨δ,ok,k⟩
   simp only [evI] at k
   refine thn (JKU g h2 ha (hs a (by simp) [] X.env) pins s σ H (fun v H2=>∃(p l:Addr) (ys:List V) (H1:Hp),v=.ref p/\H2=upd H1 p (RvO X p l ys.length)/\H1 p=none/\R (Itv X.K l ys.length) H1) I ?_) fun v s1 ⟨x,H2,I2,rx,p',l,ys,H1,e1,e2,h1,hR⟩=>?_
   ·refine RA.of (W:=fun r H=>KI B XX r H R) ok (fun _ _ z=>z) (fun _ z=>z) (by
     cases q:evA C y δ with
     | ok ds=>rw [q] at k;exact k
     | exc c=>rw [q] at k;exact k
     | bad=>rw [q] at k;exact k) (f:=fun ds=>(xD .rev ds).bind JA5) fun ds vs H1 s1 d1 k1=>?_
    rcases JFx ds with ⟨ys,rfl⟩ | ⟨b1,b2,b3⟩
    rotate_left
    ·rw [b1] at k1;exact False.elim k1
    ·simp only [DenL,Den] at d1
     obtain ⟨v,r,e,⟨q,us,e1,sq,l⟩,e2⟩:=d1
     subst e2;subst e1;subst e
     refine ⟨q,us,rfl,g.K▸sq,fun p' hp=>⟨p',q,us,H1,rfl,rfl,hp,?_⟩⟩
     rw [g.K]
     exact k1 _ _ s1 (JI0 sq l)
   ·subst e1;subst e2
    cases rx
    obtain ⟨⟨hs',hit⟩,_,_⟩:=I2.hok p' _ JAC
    obtain ⟨I1,f⟩:=forget I2 h1 hs'
    exact wpAny_pyIter_revIter hit ⟨p',[p'],_,_,H1,rfl,I1,JJQ l p' ys.length,⟨Nat.zero_le _,by simpa using hit⟩,fun b hb=>by rw [List.mem_singleton.mp hb];exact f,hR⟩
  ·cases h
 tgt:=by
  intro X XX g ts kt pt e args y h ha hs hc
  unfold xTgt at h
  split at h
  ·split at h<;>cases h
  ·split at h<;>cases h
  ·cases h
end
end VI
end
section
set_option maxRecDepth 100000
namespace VI
open PySem PySem.Spec PyProof.Rows L2
open PySem.W (KasT kas_sort kas_ask KatTups KatLex KasFin UpdF)
noncomputable def kIn {α:Type} (n:Nat):KasT α->Bool
 | .ret _=>true
 | .ask i j k=>decide (i<n)&&decide (j<n)&&kIn n (k true)&&kIn n (k false)
theorem JIC {α:Type} {n:Nat} {cmp:Nat->Nat->(Bool->Shared->Prop)->Shared->Prop} {lt:Nat->Nat->Bool} {Q:α->Shared->Prop} {s:Shared} (h:∀i j C,i<n->j<n->C (lt i j) s->cmp i j C s) :
  ∀t:KasT α,kIn n t=true->Q (kGo lt t) s->t.kasWp cmp Q s
 | .ret a,_,q=>q
 | .ask i j k,hk,q=>by
  simp only [kIn,q_i,q_C] at hk
  refine h i j _ hk.1.1.1 hk.1.1.2 ?_
  refine JIC h (k (lt i j)) ?_ q
  cases lt i j
  ·exact hk.2
  ·exact hk.1.2
theorem kIn2:kIn 2 (kas_sort 2)=true:=by decide +kernel
theorem kIn3:kIn 3 (kas_sort 3)=true:=by decide +kernel
theorem kIn4:kIn 4 (kas_sort 4)=true:=by decide +kernel
theorem kIn5:kIn 5 (kas_sort 5)=true:=by decide +kernel
theorem JG2 {P:Program} {w:World} {H:Hp} {h:Heap} {a:Addr} {o:HO} (x:ObjOk P w H h a o):∃u,h.get? a=some u:=by
 cases o with
 | lst xs=>obtain ⟨_,_,_,_,e⟩:=x;exact ⟨_,e⟩
 | tup xs=>obtain ⟨_,_,_,o,e,_⟩:=x;exact ⟨_,e⟩
 | dK kvs=>obtain ⟨_,_,_,_,o,_,_,e,_⟩:=x;exact ⟨_,e⟩
 | dT kvs=>obtain ⟨_,_,_,_,o,_,_,e,_⟩:=x;exact ⟨_,e⟩
 | set S n=>obtain ⟨o,_,_,_,e,_⟩:=x;exact ⟨_,e⟩
 | ins C dx fs=>obtain ⟨_,_,_,e,_⟩:=x;exact ⟨_,e⟩
 | own y=>obtain ⟨_,e⟩:=x;exact ⟨_,e⟩
 | xd fs=>obtain ⟨_,⟨_,_,_,e,_⟩,_⟩:=x;exact ⟨_,e⟩
 | rng lo hi=>obtain ⟨_,_,_,e⟩:=x;exact ⟨_,e⟩
 | frz ob u=>obtain ⟨e,_⟩:=x;exact ⟨_,e⟩
 | tbl ps=>exact ⟨_,x⟩
 | met f y=>exact ⟨_,x⟩
 | ext φ=>obtain ⟨_,⟨_,e⟩,_⟩:=x;exact ⟨_,e⟩
noncomputable def below (h:Heap) (L:Nat):Heap:={ h with objs:=h.objs.extract 0 L }
theorem below_get {h:Heap} {L b:Nat} {o:Obj}:(below h L).get? b=some o↔b<L/\h.get? b=some o:=by
 unfold below Heap.get?
 simp only
 constructor
 ·intro e
  by_cases hb:b<L
  ·refine ⟨hb,?_⟩
   rw [Array.getElem?_extract] at e
   simp only [Nat.sub_zero,Nat.zero_add] at e
   by_cases hs:b<min L h.objs.size
   ·rw [if_pos hs] at e;exact e
   ·rw [if_neg hs] at e;cases e
  ·rw [Array.getElem?_extract] at e
   rw [if_neg (by omega)] at e
   cases e
 ·rintro ⟨hb,e⟩
  rw [Array.getElem?_extract]
  simp only [Nat.sub_zero,Nat.zero_add]
  have hs:b<h.objs.size:=q_h (h:=h) (o:=o) (by unfold Heap.get?;exact e)
  rw [if_pos (by omega)]
  exact e
noncomputable def JFt (h:Heap) (L:Nat):List (Addr×Obj):=(List.range h.objs.size).filterMap fun b=>if b<=L then none else (h.get? b).map fun o=>(b,o)
theorem above_mem {h:Heap} {L:Nat} {p:Addr×Obj}:p∈JFt h L↔L<p.1/\h.get? p.1=some p.2:=by
 unfold JFt
 rw [List.mem_filterMap]
 constructor
 ·rintro ⟨b,_,e⟩
  split at e
  ·cases e
  ·rename_i hb
   obtain ⟨o,ho,e⟩:=q_d.mp e
   subst e
   exact ⟨by omega,ho⟩
 ·rintro ⟨h1,h2⟩
  refine ⟨p.1,List.mem_range.mpr (q_h h2),?_⟩
  rw [if_neg (by omega),h2]
  rfl
theorem JFs {h:Heap} {L:Addr} {m:Str->Option Value} (hn:h.Ns L m):Fr (below h L) L h m :=
 ⟨hn,fun b o e=>(below_get.mp e).2,by
  show (h.objs.extract 0 L).size<=L
  simp
  omega⟩
theorem JBf {h:Heap} {L:Addr}:News (below h L) L h (JFt h L):=fun p hp=>by
 obtain ⟨h1,h2⟩:=above_mem.mp hp
 refine ⟨h2,Nat.ne_of_gt h1,?_⟩
 cases e:(below h L).get? p.1 with
 | none=>rfl
 | some o=>exact absurd (below_get.mp e).1 (by omega)
theorem JD5 {h h':Heap} {L:Addr} {m:Str->Option Value} {r:List (Addr×Obj)} (F:Fr (below h L) L h' m) (N:News (below h L) L h' r) (hr:∀p∈JFt h L,p∈r):∀b o,b≠L->h.get? b=some o->h'.get? b=some o:=fun b o hb e=>by
 by_cases hl:b<L
 ·exact F.keep b o (below_get.mpr ⟨hl,e⟩)
 ·exact (N (b,o) (hr _ (above_mem.mpr ⟨Nat.lt_of_le_of_ne (Nat.le_of_not_lt hl) (Ne.symm hb),e⟩))).1
theorem JO7 {h:Heap} {L:Addr} {m m':Str->Option Value} (h1:h.Ns L m) (h2:h.Ns L m'):m=m':=by
 obtain ⟨o,es,ep,e1,e2,_,e3⟩:=h1
 obtain ⟨o',es',ep',f1,f2,_,f3⟩:=h2
 rw [e1] at f1;cases f1
 rw [e2] at f2;cases f2
 funext x
 rw [<-e3,<-f3]
theorem JDy {X:Cx} {pins:List (Addr×Obj)} {σ:St} {H:Hp} {s:Shared} {h':Heap} {D:Addr} {o:HO} {m:Str->Option Value} (I:Inv X pins σ H s) (hn:s.heap.Ns X.env.locals m) (hn':h'.Ns X.env.locals m) (kp:∀b u,b≠X.env.locals->s.heap.get? b=some u->h'.get? b=some u) (hD:s.heap.get? D=none) (new:ObjOk X.prog X.w (upd H D o) h' D o) :
  H D=none/\Inv X pins σ (upd H D o) { s with heap:=h' }:=by
 have h0:H D=none:=by
  cases e:H D with
  | none=>rfl
  | some u=>obtain ⟨v,hv⟩:=JG2 (I.hok D u e);rw [hD] at hv;cases hv
 refine ⟨h0,?_⟩
 have na:∀b u,s.heap.get? b=some u->b≠D:=fun b u e z=>by rw [z,hD] at e;cases e
 have ku:∀b u,H b=some u->upd H D o b=some u:=fun b u e=>by rw [JAF (JAT e h0)];exact e
 have there:∀b u,s.heap.get? b=some u->∃v,h'.get? b=some v:=fun b u e=>by
  by_cases hb:b=X.env.locals
  · subst hb;obtain ⟨ob,_,_,ho,_⟩:=hn';exact ⟨ob,ho⟩
  · exact ⟨u,kp b u hb e⟩
 refine I.step (g':=s.gens) (d':=s.drawn) (t':=s.toks) (ch:=[]) (fun _ z=>nomatch z) (fun b u hL _ _ e _=>kp b u hL e) (fun b u hL _ _ e _=>⟨u.slots,kp b u hL e⟩)
  (fun b u _ e n=>by rw [JAF (na b u e)];exact n) (fun b u _ e=>there b u e) (fun b xs e=>ku b _ e) (fun b u v e=>ku b _ e) (fun b ps e=>⟨#[],by rw [ku b _ e];simp⟩) (fun m' hm=>?_) (fun b u e=>?_) I.bare
 ·rw [JO7 hm hn];exact hn'
 ·by_cases hb:b=D
  · subst hb;rw [JAC] at e;cases e;exact new
  · rw [JAF hb] at e
    refine (I.hok b u e).stay (fun c v hc q=>kp c v ?_ q) (fun c q=>ku c _ q) fun c xs q=>ku c _ q
    rcases hc with z | z
    ·rw [z];exact fun z2=>by rw [z2,I.free] at e;cases e
    ·exact fun z2=>by rw [z2,I.free] at z;cases z
noncomputable def TI (h:Heap):List (List Int)->List Value->Prop
 | [],[]=>True
 | k::ks,v::vs=>(∃a o xs n,v=.ref a/\h.get? a=some o/\o.cls=.type "tuple"/\o.data=.seq (List.toArray xs) n/\Vals (k.map V.int) xs)/\TI h ks vs
 | _,_=>False
theorem TI.get {h:Heap}:∀ {ks:List (List Int)} {vs:List Value} {i:Nat},TI h ks vs->i<ks.length->∃a o xs n,vs.getD i Value.none=.ref a/\h.get? a=some o/\o.cls=.type "tuple"/\o.data=.seq (List.toArray xs) n/\Vals ((ks.getD i []).map V.int) xs
 | [],_,_,_,hi=>by simp at hi
 | _::_,[],_,t,_=>t.elim
 | k::ks,v::vs,0,t,_=>by
  obtain ⟨⟨a,o,xs,n,e1,e2,e3,e4,e5⟩,_⟩:=t
  exact ⟨a,o,xs,n,by simpa using e1,e2,e3,e4,by simpa using e5⟩
 | k::ks,v::vs,i+1,t,hi=>by
  obtain ⟨a,o,xs,n,e1,r⟩:=TI.get (i:=i) t.2 (by simpa using hi)
  exact ⟨a,o,xs,n,by simpa using e1,by simpa using r⟩
theorem TI.len {h:Heap}:∀ {ks:List (List Int)} {vs:List Value},TI h ks vs->vs.length=ks.length
 | [],[],_=>rfl
 | [],_::_,t=>t.elim
 | _::_,[],t=>t.elim
 | _::_,_::_,t=>by simp [TI.len t.2]
theorem TI.mono {h h':Heap} {L:Addr} {m:Str->Option Value} (hn:h.Ns L m) (kp:∀b o,b≠L->h.get? b=some o->h'.get? b=some o):∀ {ks:List (List Int)} {vs:List Value},TI h ks vs->TI h' ks vs
 | [],[],_=>trivial
 | [],_::_,t=>t.elim
 | _::_,[],t=>t.elim
 | k::ks,v::vs,⟨⟨a,o,xs,n,e1,e2,e3,e4,e5⟩,r⟩=>by
  refine ⟨⟨a,o,xs,n,e1,kp a o (fun z=>?_) e2,e3,e4,e5⟩,TI.mono hn kp r⟩
  subst z
  obtain ⟨o',es,ep,f1,f2,_⟩:=hn
  rw [e2] at f1;cases f1
  rw [e4] at f2;cases f2
theorem TI.firsts {h:Heap}:∀ {ks:List (List Int)} {vs:List Value},TI h ks vs->(∀k∈ks,k≠[])->∃fs,KatTups h vs fs/\fs.length=ks.length/\∀f∈fs,∃i t,f=Value.int i t
 | [],[],_,_=>⟨[],trivial,rfl,(fun _ z=>nomatch z)⟩
 | [],_::_,t,_=>t.elim
 | _::_,[],t,_=>t.elim
 | k::ks,v::vs,⟨⟨a,o,xs,n,e1,e2,e3,e4,e5⟩,r⟩,hne=>by
  obtain ⟨fs,h1,h2,h3⟩:=TI.firsts r fun k hk=>hne k (by simp [hk])
  cases k with
  | nil=>exact absurd rfl (hne [] (by simp))
  | cons i k =>
   cases e5 with
   | cons p q =>
    rename_i f xr
    obtain ⟨t,rfl⟩:=p
    refine ⟨Value.int i t::fs,e1▸PySem.W.KatTups.cons e2 e3 e4 (by simp) h1,by simp [h2],fun g hg=>?_⟩
    rcases q_n.mp hg with rfl | hg
    ·exact ⟨_,_,rfl⟩
    ·exact h3 g hg
section
variable {prog:Program} {w:World} {A:Around} {s:Shared}
theorem JQE {Q:Bool->Shared->Prop} {fin:Bool}:∀(a b:List Int) (xs ys:List Value) (i:Nat),Vals (a.map V.int) xs->Vals (b.map V.int) ys->(lexI a b=lexI a b)->fin=decide (xs.length<ys.length)->Q (lexI a b) s->KatLex prog w A true fin Q (xs.zip ys) i s
 | [],[],xs,ys,i,va,vb,_,hf,q=>by
  cases va;cases vb
  simp only [lexI] at q
  simp only [List.length_nil,Nat.lt_irrefl,decide_false] at hf
  subst hf
  exact PySem.W.kat_nil q
 | [],_::_,xs,ys,i,va,vb,_,hf,q=>by
  cases va
  cases vb with
  | cons p r =>
   simp only [lexI] at q
   simp only [List.length_nil,List.length_cons,Nat.zero_lt_succ,decide_true] at hf
   subst hf
   exact PySem.W.kat_nil q
 | _::_,[],xs,ys,i,va,vb,_,hf,q=>by
  cases vb
  cases va with
  | cons p r =>
   simp only [lexI] at q
   simp only [List.length_nil,Nat.not_lt_zero,decide_false] at hf
   subst hf
   exact PySem.W.kat_nil q
 | x::a,y::b,xs,ys,i,va,vb,_,hf,q=>by
  cases va with
  | cons p r =>
   cases vb with
   | cons p' r' =>
    obtain ⟨t,rfl⟩:=p
    obtain ⟨t',rfl⟩:=p'
    refine PySem.W.kat_cons (wpAny_eqBool_int ?_)
    simp only [lexI] at q
    by_cases e:x=y
    ·rw [if_pos e] at q
     rw [beq_iff_eq.mpr e]
     refine PySem.W.kat_yes (JQE a b _ _ (i+1) r r' rfl ?_ q)
     rw [hf];simp
    ·rw [if_neg e] at q
     rw [beq_eq_false_iff_ne.mpr e]
     refine PySem.W.kat_no ?_
     by_cases hi:i=0
     ·subst hi
      exact PySem.W.kat_lt_int q
     ·have:(true&&i==0)=false:=by simp [hi]
      rw [this]
      exact PySem.W.kat_one _ _ (PySem.wpAny_lt_int q)
end
noncomputable def AtV (h:Heap):At->Value->Prop
 | .i n,v=>∃t,v=.int n t
 | .s x,v=>∃t,v=.str x t
 | .t k,v=>∃a o xs n,v=.ref a/\h.get? a=some o/\o.cls=.type "tuple"/\o.data=.seq (List.toArray xs) n/\Vals (k.map V.int) xs
noncomputable def AtsV (h:Heap):List At->List Value->Prop
 | [],[]=>True
 | a::r,v::vs=>AtV h a v/\AtsV h r vs
 | _,_=>False
theorem AtsV.len {h:Heap}:∀ {a:List At} {vs:List Value},AtsV h a vs->vs.length=a.length
 | [],[],_=>rfl
 | [],_::_,t=>t.elim
 | _::_,[],t=>t.elim
 | _::_,_::_,t=>by simp [AtsV.len t.2]
noncomputable def TA' (h:Heap):List (List At)->List Value->Prop
 | [],[]=>True
 | k::ks,v::vs=>(∃a o xs n,v=.ref a/\h.get? a=some o/\o.cls=.type "tuple"/\o.data=.seq (List.toArray xs) n/\AtsV h k xs)/\TA' h ks vs
 | _,_=>False
theorem TA'.get {h:Heap}:∀ {ks:List (List At)} {vs:List Value} {i:Nat},TA' h ks vs->i<ks.length->∃a o xs n,vs.getD i Value.none=.ref a/\h.get? a=some o/\o.cls=.type "tuple"/\o.data=.seq (List.toArray xs) n/\AtsV h (ks.getD i []) xs
 | [],_,_,_,hi=>by simp at hi
 | _::_,[],_,t,_=>t.elim
 | k::ks,v::vs,0,t,_=>by
  obtain ⟨⟨a,o,xs,n,e1,e2,e3,e4,e5⟩,_⟩:=t
  exact ⟨a,o,xs,n,by simpa using e1,e2,e3,e4,by simpa using e5⟩
 | k::ks,v::vs,i+1,t,hi=>by
  obtain ⟨a,o,xs,n,e1,r⟩:=TA'.get (i:=i) t.2 (by simpa using hi)
  exact ⟨a,o,xs,n,by simpa using e1,by simpa using r⟩
theorem TA'.len {h:Heap}:∀ {ks:List (List At)} {vs:List Value},TA' h ks vs->vs.length=ks.length
 | [],[],_=>rfl
 | [],_::_,t=>t.elim
 | _::_,[],t=>t.elim
 | _::_,_::_,t=>by simp [TA'.len t.2]
theorem AtV.mono {h h':Heap} {L:Addr} {m:Str->Option Value} (hn:h.Ns L m) (kp:∀b o,b≠L->h.get? b=some o->h'.get? b=some o):∀ {a:At} {v:Value},AtV h a v->AtV h' a v
 | .i _,_,t=>t
 | .s _,_,t=>t
 | .t k,v,⟨a,o,xs,n,e1,e2,e3,e4,e5⟩=>by
  refine ⟨a,o,xs,n,e1,kp a o (fun z=>?_) e2,e3,e4,e5⟩
  subst z
  obtain ⟨o',es,ep,f1,f2,_⟩:=hn
  rw [e2] at f1;cases f1
  rw [e4] at f2;cases f2
theorem AtsV.mono {h h':Heap} {L:Addr} {m:Str->Option Value} (hn:h.Ns L m) (kp:∀b o,b≠L->h.get? b=some o->h'.get? b=some o):∀ {a:List At} {vs:List Value},AtsV h a vs->AtsV h' a vs
 | [],[],_=>trivial
 | [],_::_,t=>t.elim
 | _::_,[],t=>t.elim
 | _::_,_::_,t=>⟨t.1.mono hn kp,AtsV.mono hn kp t.2⟩
theorem TA'.mono {h h':Heap} {L:Addr} {m:Str->Option Value} (hn:h.Ns L m) (kp:∀b o,b≠L->h.get? b=some o->h'.get? b=some o):∀ {ks:List (List At)} {vs:List Value},TA' h ks vs->TA' h' ks vs
 | [],[],_=>trivial
 | [],_::_,t=>t.elim
 | _::_,[],t=>t.elim
 | k::ks,v::vs,⟨⟨a,o,xs,n,e1,e2,e3,e4,e5⟩,r⟩=>by
  refine ⟨⟨a,o,xs,n,e1,kp a o (fun z=>?_) e2,e3,e4,e5.mono hn kp⟩,TA'.mono hn kp r⟩
  subst z
  obtain ⟨o',es,ep,f1,f2,_⟩:=hn
  rw [e2] at f1;cases f1
  rw [e4] at f2;cases f2
noncomputable def tyAt:Nat->Value
 | 0=>.type "int"
 | 1=>.type "str"
 | _=>.type "tuple"
theorem AtV.looks {M:Model} {h:Heap}:∀ {a:At} {v:Value},AtV h a v->PySem.W.Looks M h (typeOf v) (tyAt a.kd)
 | .i _,_,⟨_,e⟩=>by subst e;exact PySem.W.Looks.of_pure rfl
 | .s _,_,⟨_,e⟩=>by subst e;exact PySem.W.Looks.of_pure rfl
 | .t _,_,⟨a,o,xs,n,e1,e2,e3,e4,e5⟩=>by
  subst e1
  have:=(PySem.W.Looks.ld (M:=M) (part:=Option.none) e2).andThen (f:=fun o=>pure o.cls) .now
  rw [e3] at this
  exact this
theorem TA'.firsts {M:Model} {h:Heap} {c:Nat}:∀ {ks:List (List At)} {vs:List Value},TA' h ks vs->(∀k∈ks,(k.map At.kd).head? = some c)->∃fs,KatTups h vs fs/\fs.length=ks.length/\∀f∈fs,PySem.W.Looks M h (typeOf f) (tyAt c)
 | [],[],_,_=>⟨[],trivial,rfl,(fun _ z=>nomatch z)⟩
 | [],_::_,t,_=>t.elim
 | _::_,[],t,_=>t.elim
 | k::ks,v::vs,⟨⟨a,o,xs,n,e1,e2,e3,e4,e5⟩,r⟩,hne=>by
  obtain ⟨fs,h1,h2,h3⟩:=TA'.firsts (M:=M) r fun k hk=>hne k (by simp [hk])
  have hc:=hne k (by simp)
  match k,xs,e5,hc,e4 with
  | q::k,f::xs,e5,hc,e4 =>
   simp only [List.map_cons,List.head?_cons,q_j] at hc
   refine ⟨f::fs,e1▸PySem.W.KatTups.cons e2 e3 e4 (by simp) h1,by simp [h2],fun g hg=>?_⟩
   rcases q_n.mp hg with rfl | hg
   ·rw [<-hc];exact e5.1.looks
   ·exact h3 g hg
section
variable {prog:Program} {w:World} {A:Around} {s:Shared}
theorem JCI:∀ {k:List Int} {xs:List Value},Vals (k.map V.int) xs->ItemsAre (intKind prog w) k xs
 | [],_,r=>by cases r;exact .nil
 | n::k,_,r=>by
  cases r with
  | cons p q =>
   obtain ⟨t,rfl⟩:=p
   exact .cons (by simp [intKind,Value.isInt]) (JCI q)
theorem JD3:∀ {k:List Int} {xs:List Value},Vals (k.map V.int) xs->IntsAre xs k
 | [],_,r=>by cases r;exact .nil
 | n::k,_,r=>by
  cases r with
  | cons p q =>
   obtain ⟨t,rfl⟩:=p
   exact .cons _ _ (JD3 q)
theorem atEq {Q:Bool->Shared->Prop} {E:Value->Shared->Prop} (hu:A.units+10<cLine) {a b:At} {p q:Value} (ha:AtV s.heap a p) (hb:AtV s.heap b q) (hk:a.kd=b.kd) (h:Q (decide (a=b)) s):wpAny (model prog w) A (eqBool p q) Q E s:=by
 cases a with
 | i x =>
  cases b with
  | i y =>
   obtain ⟨t,rfl⟩:=ha
   obtain ⟨t',rfl⟩:=hb
   refine wpAny_eqBool_int ?_
   have e:(x==y)=decide (At.i x=At.i y):=by
    by_cases z:x=y
    ·subst z;simp
    ·simp [z]
   rw [e];exact h
  | s y=>cases hk
  | t y=>cases hk
 | s x =>
  cases b with
  | s y =>
   obtain ⟨t,rfl⟩:=ha
   obtain ⟨t',rfl⟩:=hb
   refine wpAny_eqBool_str ?_
   have e:decide (x=y)=decide (At.s x=At.s y):=by
    by_cases z:x=y
    ·subst z;simp
    ·simp [z]
   rw [e];exact h
  | i y=>cases hk
  | t y=>cases hk
 | t x =>
  cases b with
  | t y =>
   obtain ⟨a,o,xs,n,rfl,e2,e3,e4,e5⟩:=ha
   obtain ⟨a',o',xs',n',rfl,f2,f3,f4,f5⟩:=hb
   refine wpAny_eqBool_tuple (knd:=intKind prog w) (x:=x) (y:=y) (by omega) ⟨o,_,n,e2,e3,e4,by simpa using JCI e5⟩ ⟨o',_,n',f2,f3,f4,by simpa using JCI f5⟩ ?_
   have e:decide (x=y)=decide (At.t x=At.t y):=by
    by_cases z:x=y
    ·subst z;simp
    ·simp [z]
   rw [e];exact h
  | s y=>cases hk
  | i y=>cases hk
theorem JHL:∀a b:List Int,HT.lexLt a b=lexI a b
 | [],[]=>rfl
 | [],_::_=>rfl
 | _::_,[]=>rfl
 | a::r,b::t=>by rw [HT.lexLt_cons,lexI,JHL r t]
theorem atLt {Q:Bool->Shared->Prop} {E:Value->Shared->Prop} (hu:A.units+10<cLine) {a b:At} {p q:Value} {f:Bool} (hf:f=true->a.kd≠2) (ha:AtV s.heap a p) (hb:AtV s.heap b q) (hk:a.kd=b.kd) (h:Q (ltAt a b) s):wpAny (model prog w) A (oneLt' f p q) Q E s:=by
 cases a with
 | i x =>
  cases b with
  | i y =>
   obtain ⟨t,rfl⟩:=ha
   obtain ⟨t',rfl⟩:=hb
   cases f with
   | true=>exact PySem.W.kat_lt_int h
   | false=>exact PySem.W.kat_one _ _ (PySem.wpAny_lt_int h)
  | s y=>cases hk
  | t y=>cases hk
 | s x =>
  cases b with
  | s y =>
   obtain ⟨t,rfl⟩:=ha
   obtain ⟨t',rfl⟩:=hb
   cases f with
   | true=>exact PySem.W.kas_lt_str h
   | false=>exact PySem.W.kat_one _ _ (PyProof.Rows.lt_str h)
  | i y=>cases hk
  | t y=>cases hk
 | t x =>
  cases b with
  | t y =>
   obtain ⟨a,o,xs,n,rfl,e2,e3,e4,e5⟩:=ha
   obtain ⟨a',o',xs',n',rfl,f2,f3,f4,f5⟩:=hb
   cases f with
   | true=>exact absurd rfl (hf rfl)
   | false =>
    refine PySem.W.kat_one _ _ ?_
    refine HT.lt_tupInts (items:=List.toArray xs) (items2:=List.toArray xs') ⟨o,e2,e3,n,e4⟩ ⟨o',f2,f3,n',f4⟩ (by simpa using JD3 e5) (by simpa using JD3 f5) (by omega) ?_
    rw [JHL]
    exact h
  | s y=>cases hk
  | i y=>cases hk
theorem JHz {Q:Bool->Shared->Prop} {fin fl:Bool} (hu:A.units+10<cLine):∀(a b:List At) (xs ys:List Value) (i:Nat),AtsV s.heap a xs->AtsV s.heap b ys->a.map At.kd=b.map At.kd->(fl=true->i=0->∀q∈a.head?,q.kd≠2)->fin=decide (xs.length<ys.length)->Q (lexA a b) s->KatLex prog w A fl fin Q (xs.zip ys) i s
 | [],[],xs,ys,i,va,vb,_,_,hf,q=>by
  cases xs with
  | cons _ _=>exact va.elim
  | nil =>
   cases ys with
   | cons _ _=>exact vb.elim
   | nil =>
    simp only [lexA] at q
    simp only [List.length_nil,Nat.lt_irrefl,decide_false] at hf
    subst hf
    exact PySem.W.kat_nil q
 | [],_::_,_,_,_,_,_,hk,_,_,_=>by simp at hk
 | _::_,[],_,_,_,_,_,hk,_,_,_=>by simp at hk
 | x::a,y::b,xs,ys,i,va,vb,hk,hfl,hf,q=>by
  cases xs with
  | nil=>exact va.elim
  | cons p xs =>
   cases ys with
   | nil=>exact vb.elim
   | cons p' ys =>
    simp only [List.map_cons,List.cons.injEq] at hk
    refine PySem.W.kat_cons (atEq hu va.1 vb.1 hk.1 ?_)
    simp only [lexA] at q
    by_cases e:x=y
    ·rw [if_pos e] at q
     rw [decide_eq_true e]
     refine PySem.W.kat_yes (JHz hu a b _ _ (i+1) va.2 vb.2 hk.2 (fun _ z=>by omega) ?_ q)
     rw [hf];simp
    ·rw [if_neg e] at q
     rw [q_o e]
     refine PySem.W.kat_no (atLt hu (fun z=>?_) va.1 vb.1 hk.1 q)
     simp only [q_i,beq_iff_eq] at z
     exact hfl z.1 z.2 x rfl
theorem JMv {ks:List (List At)} {vs:List Value} {c:Nat} (hu:A.units+10<cLine) (t:TA' s.heap ks vs) (hc:∀k∈ks,(k.map At.kd).head? = some c) (hs:∀k∈ks,∀k'∈ks,k.map At.kd=k'.map At.kd) {i j:Nat} (hi:i<ks.length) (hj:j<ks.length) {C:Bool->Shared->Prop} (q:C (lexA (ks.getD i []) (ks.getD j [])) s):kas_ask prog w A (tuples' (tyAt c != Value.type "tuple")) vs i j C s:=by
 obtain ⟨a,o,xs,n,e1,e2,e3,e4,e5⟩:=t.get hi
 obtain ⟨b,o',ys,n',f1,f2,f3,f4,f5⟩:=t.get hj
 have m1:ks.getD i []∈ks:=by
  have:ks.getD i []=ks[i]:=by simp [hi]
  rw [this];exact List.getElem_mem hi
 have m2:ks.getD j []∈ks:=by
  have:ks.getD j []=ks[j]:=by simp [hj]
  rw [this];exact List.getElem_mem hj
 unfold kas_ask
 rw [e1,f1]
 refine PySem.W.kat_lt e2 e4 f2 f4 ?_
 refine JHz hu _ _ _ _ 0 e5 f5 (hs _ m1 _ m2) (fun z _ q hq hk=>?_) (by simp) q
 have h1:=hc _ m1
 rw [List.head?_map] at h1
 rw [hq] at h1
 simp only [Option.map_some,q_j] at h1
 rw [hk] at h1
 subst h1
 exact absurd z (by decide)
end
section
variable {X:Cx} {B:Bs} {C:Cn} {CX:CXT} {XX:Nat->Hp->Prop} {G:List (Str×GK)}
noncomputable def IT (K:PySem.W.Frag) (H:Hp):List (List Int)->List V->Prop
 | [],[]=>True
 | k::ks,y::ys=>(∃a,y=.ref a/\SqT K H a (k.map V.int))/\IT K H ks ys
 | _,_=>False
theorem IT.ti {pins:List (Addr×Obj)} {σ:St} {H:Hp} {s:Shared} (I:Inv X pins σ H s):∀ {ks:List (List Int)} {ys:List V} {us:List Value},IT X.K H ks ys->Vals ys us->TI s.heap ks us
 | [],[],_,_,r=>by cases r;trivial
 | [],_::_,_,t,_=>t.elim
 | _::_,[],_,t,_=>t.elim
 | k::ks,y::ys,us,⟨⟨a,e,q⟩,t⟩,r=>by
  cases r with
  | cons p r =>
   subst e
   cases p
   obtain ⟨its,rv,⟨o,ho,hc,n,hd⟩,_⟩:=I.tuple q
   exact ⟨⟨a,o,its,n,rfl,ho,hc,hd,rv⟩,IT.ti I t r⟩
theorem IT.len {K:PySem.W.Frag} {H:Hp}:∀ {ks:List (List Int)} {ys:List V},IT K H ks ys->ys.length=ks.length
 | [],[],_=>rfl
 | [],_::_,t=>t.elim
 | _::_,[],t=>t.elim
 | _::_,_::_,t=>by simp [IT.len t.2]
theorem JLa {n:Nat} (h2:2<=n) (h5:n<=5):kIn n (kas_sort n)=true:=by
 have:n=2\/n=3\/n=4\/n=5:=by omega
 rcases this with rfl | rfl | rfl | rfl
 ·exact kIn2
 ·exact kIn3
 ·exact kIn4
 ·exact kIn5
theorem JCh {ys:List V} {us:List Value} (r:Vals ys us):∀l:List Nat,(∀i∈l,i<ys.length)->Vals (l.map fun i=>ys.getD i .non) (l.map fun i=>us.getD i Value.none)
 | [],_=>.nil
 | i::l,h=>by
  have hi:=h i (by simp)
  obtain ⟨u,hu,ru⟩:=r.get (q_q hi)
  refine .cons ?_ (JCh r l fun j hj=>h j (by simp [hj]))
  have e1:ys.getD i .non=ys[i]:=by simp [hi]
  have e2:us.getD i Value.none=u:=by simp [hu]
  show RelV (ys.getD i .non) (us.getD i Value.none)
  rw [e1,e2];exact ru
noncomputable def kOut (n:Nat):KasT (Array Nat)->Bool
 | .ret a=>a.toList.all fun i=>decide (i<n)
 | .ask _ _ k=>kOut n (k true)&&kOut n (k false)
theorem JFK {n:Nat} {lt:Nat->Nat->Bool}:∀t:KasT (Array Nat),kOut n t=true->∀i∈(kGo lt t).toList,i<n
 | .ret a,h,i,hi=>by
  simp only [kOut,List.all_eq_true,q_C] at h
  exact h i hi
 | .ask i j k,h,x,hx=>by
  simp only [kOut,q_i] at h
  simp only [kGo] at hx
  refine JFK (k (lt i j)) ?_ x hx
  cases lt i j
  ·exact h.2
  ·exact h.1
theorem kOut2:kOut 2 (kas_sort 2)=true:=by decide +kernel
theorem kOut3:kOut 3 (kas_sort 3)=true:=by decide +kernel
theorem kOut4:kOut 4 (kas_sort 4)=true:=by decide +kernel
theorem kOut5:kOut 5 (kas_sort 5)=true:=by decide +kernel
theorem JIt {n:Nat} (h2:2<=n) (h5:n<=5):kOut n (kas_sort n)=true:=by
 have:n=2\/n=3\/n=4\/n=5:=by omega
 rcases this with rfl | rfl | rfl | rfl
 ·exact kOut2
 ·exact kOut3
 ·exact kOut4
 ·exact kOut5
noncomputable def kLen (n:Nat):KasT (Array Nat)->Bool
 | .ret a=>decide (a.size<=n)
 | .ask _ _ k=>kLen n (k true)&&kLen n (k false)
theorem JFY {n:Nat} {lt:Nat->Nat->Bool}:∀t:KasT (Array Nat),kLen n t=true->(kGo lt t).size<=n
 | .ret a,h=>by simpa [kLen,kGo] using h
 | .ask i j k,h=>by
  simp only [kLen,q_i] at h
  simp only [kGo]
  refine JFY (k (lt i j)) ?_
  cases lt i j
  ·exact h.2
  ·exact h.1
theorem JQG:kLen 5 (kas_sort 2)=true:=by decide +kernel
theorem JOa:kLen 5 (kas_sort 3)=true:=by decide +kernel
theorem JOE:kLen 5 (kas_sort 4)=true:=by decide +kernel
theorem JPM:kLen 5 (kas_sort 5)=true:=by decide +kernel
noncomputable def IAt (K:PySem.W.Frag) (H:Hp):At->V->Prop
 | .i n,v=>v=.int n
 | .s x,v=>v=.str x
 | .t k,v=>∃a,v=.ref a/\SqT K H a (k.map V.int)
noncomputable def IAs (K:PySem.W.Frag) (H:Hp):List At->List V->Prop
 | [],[]=>True
 | a::r,v::vs=>IAt K H a v/\IAs K H r vs
 | _,_=>False
noncomputable def IA (K:PySem.W.Frag) (H:Hp):List (List At)->List V->Prop
 | [],[]=>True
 | k::ks,y::ys=>(∃a zs,y=.ref a/\SqT K H a zs/\IAs K H k zs)/\IA K H ks ys
 | _,_=>False
theorem IAt.at {pins:List (Addr×Obj)} {σ:St} {H:Hp} {s:Shared} (I:Inv X pins σ H s) {a:At} {v:V} {u:Value} (h:IAt X.K H a v) (r:RelV v u):AtV s.heap a u:=by
 cases a with
 | i n=>have h:v=.int n:=h;subst h;exact r
 | s x=>have h:v=.str x:=h;subst h;exact r
 | t k =>
  obtain ⟨a,rfl,q⟩:=h
  cases r
  obtain ⟨its,rv,⟨o,ho,hc,n,hd⟩,_⟩:=I.tuple q
  exact ⟨a,o,its,n,rfl,ho,hc,hd,rv⟩
theorem IAs.ats {pins:List (Addr×Obj)} {σ:St} {H:Hp} {s:Shared} (I:Inv X pins σ H s):∀ {a:List At} {vs:List V} {us:List Value},IAs X.K H a vs->Vals vs us->AtsV s.heap a us
 | [],[],_,_,r=>by cases r;trivial
 | [],_::_,_,t,_=>t.elim
 | _::_,[],_,t,_=>t.elim
 | _::_,_::_,_,t,r=>by
  cases r with
  | cons p q=>exact ⟨t.1.at I p,IAs.ats I t.2 q⟩
theorem IA.ta {pins:List (Addr×Obj)} {σ:St} {H:Hp} {s:Shared} (I:Inv X pins σ H s):∀ {ks:List (List At)} {ys:List V} {us:List Value},IA X.K H ks ys->Vals ys us->TA' s.heap ks us
 | [],[],_,_,r=>by cases r;trivial
 | [],_::_,_,t,_=>t.elim
 | _::_,[],_,t,_=>t.elim
 | k::ks,y::ys,us,⟨⟨a,zs,e,q,t0⟩,t⟩,r=>by
  cases r with
  | cons p r =>
   subst e
   cases p
   obtain ⟨its,rv,⟨o,ho,hc,n,hd⟩,_⟩:=I.tuple q
   exact ⟨⟨a,o,its,n,rfl,ho,hc,hd,t0.ats I rv⟩,IA.ta I t r⟩
theorem IA.len {K:PySem.W.Frag} {H:Hp}:∀ {ks:List (List At)} {ys:List V},IA K H ks ys->ys.length=ks.length
 | [],[],_=>rfl
 | [],_::_,t=>t.elim
 | _::_,[],t=>t.elim
 | _::_,_::_,t=>by simp [IA.len t.2]
theorem JFr {ks:List (List At)} (h2:2<=ks.length) (h5:ks.length<=5):∀i∈JCR ks,i<ks.length:=JFK _ (JIt h2 h5)
theorem JH8 {ks:List (List At)} (h2:2<=ks.length) (h5:ks.length<=5):(JCR ks).length<=5:=by
 unfold JCR
 rw [q_E]
 refine JFY _ ?_
 have:ks.length=2\/ks.length=3\/ks.length=4\/ks.length=5:=by omega
 rcases this with e | e | e | e<;>rw [e]
 ·exact JQG
 ·exact JOa
 ·exact JOE
 ·exact JPM
theorem JDq (hu:X.A.units+200<cLine):CallR X (.builtin "sorted") (fun xs H Q=>∃l ys ks c,xs=[.ref l]/\SqL X.K H l ys/\IA X.K H ks ys/\2<=ks.length/\ks.length<=5/\(∀k∈ks,(k.map At.kd).head? = some c)/\(∀k∈ks,∀k'∈ks,k.map At.kd=k'.map At.kd)/\∀p,H p=none->Q (.ref p) (upd H p (.lst ((JCR ks).map fun i=>ys.getD i .non)))):=by
 intro pins s σ H xs us Q I r ⟨l,ys,ks,cc,e,hq,it,h2,h5,hc,hsg,q⟩
 subst e
 cases r with
 | cons ra rb =>
  cases rb
  cases ra
  obtain ⟨its,rv,pl,hz⟩:=I.list hq
  have ti:=it.ta I rv
  have hl:=ti.len
  obtain ⟨m,hn,_⟩:=I.loc
  have F:=JFs hn
  refine PySem.W.kat_sorted (vs:=its) F JBf pl.isList (by omega) (by omega) fun D e1 h' F' N' hD=>?_
  have kp:∀b o,b≠X.env.locals->s.heap.get? b=some o->h'.get? b=some o:=JD5 F' N' fun p hp=>q_s _ hp
  have ti':=ti.mono hn kp
  obtain ⟨fs,t1,t2,t3⟩:=ti'.firsts (M:=model X.prog X.w) hc
  refine PySem.W.kat_kind (s:={ s with heap:=h' }) (T:=tyAt cc) t1 (by omega) t3 (by unfold tyAt;split<;>decide) ?_
  rw [hl]
  refine JIC (n:=ks.length) (lt:=fun i j=>lexA (ks.getD i []) (ks.getD j [])) (fun i j C hi hj c=>JMv (show X.A.units+1+1+10<cLine by omega) ti' hc hsg hi hj c) _ (JLa h2 h5) ?_
  refine KasFin.intro F' N' (UpdF.head fun p hp=>q_l (hD p hp)) fun h2' c F2 N2=>?_
  have hDn:s.heap.get? D=none:=by
   cases e:s.heap.get? D with
   | none=>rfl
   | some o =>
    have hL:D≠X.env.locals:=(N' _ (.head _)).2.1
    by_cases hb:D<X.env.locals
    ·have:=(N' _ (.head _)).2.2
     rw [below_get.mpr ⟨hb,e⟩] at this;cases this
    ·exact absurd (hD (D,o) (above_mem.mpr ⟨Nat.lt_of_le_of_ne (Nat.le_of_not_lt hb) (Ne.symm hL),e⟩)) (Nat.lt_irrefl _)
  have kp2:∀b o,b≠X.env.locals->s.heap.get? b=some o->h2'.get? b=some o:=JD5 F2 N2 fun p hp=>q_s _ hp
  have ok:ObjOk X.prog X.w (upd H D (.lst ((JCR ks).map fun i=>ys.getD i .non))) h2' D (.lst ((JCR ks).map fun i=>ys.getD i .non)):=by
   refine ⟨?_,_,c,JCh rv (JCR ks) fun i hi=>?_,(N2 _ (.head _)).1⟩
   ·have:=JH8 h2 h5
    rw [q_g,sizeLine_eq];omega
   ·have:=JFr h2 h5 i hi
    have:=it.len
    omega
  obtain ⟨h0,I2⟩:=JDy (D:=D) I hn F2.ns kp2 hDn ok
  exact ⟨.ref D,_,I2,rfl,q D h0⟩
section
variable {prog:Program} {w:World} {A:Around} {E:Value->Shared->Prop} {s:Shared}
theorem JEM {l:Addr} {vs:List Value} {Q:Value->Shared->Prop} (hl:s.heap.IsList l vs.toArray) (h2:vs.length<2)
  (h:∀h' c,(∀b o,s.heap.get? b=some o->h'.get? b=some o)->h'.get? (s.heap.objs.size+1)=some (seqObj "list" vs.toArray c)->Q (.ref (s.heap.objs.size+1)) { s with heap:=h' }) :
  wpAny (model prog w) A (call (.builtin "sorted") [.ref l]) Q E s:=by
 refine Calls.call_function_entry kind_sorted plain_sorted entry_sorted (args_sorted1 _) ?_
 unfold Builtin.«sorted»
 refine q_b (m:=checkCount "sorted" 1 1 _) (q_e ?_)
 refine q_b (collect_list hl ?_ (by rw [sizeLine_eq];omega))
 refine q_b (wpAny_newList ?_ (by rw [sizeLine_eq];omega))
 have hsz:((s.heap.push (seqObj "list" #[] 0)).update s.heap.objs.size (Obj.mapSeq (·++vs.toArray))).objs.size=s.heap.objs.size+1:=by
  rw [Heap.size_update,size_push']
 have hoL:(((s.heap.push (seqObj "list" #[] 0)).update s.heap.objs.size (Obj.mapSeq (·++vs.toArray))).push (seqObj "list" vs.toArray 0)).get? (s.heap.objs.size+1)=some (seqObj "list" vs.toArray 0):=by
  rw [<-hsz];exact q_k _ rfl
 have keep:∀b o,s.heap.get? b=some o->(((s.heap.push (seqObj "list" #[] 0)).update s.heap.objs.size (Obj.mapSeq (·++vs.toArray))).push (seqObj "list" vs.toArray 0)).get? b=some o:=fun b o q=>by
  have hlt:b<s.heap.objs.size:=q_h q
  rw [Heap.get?_push_ne _ _ _ (by rw [hsz];exact q_l (q_D hlt)),Heap.get?_update_ne _ _ _ _ (q_l hlt),Heap.get?_push_ne _ _ _ (q_l hlt)]
  exact q
 show wpAny _ _ _ _ _ { s with heap:=((s.heap.push (seqObj "list" #[] 0)).update s.heap.objs.size (Obj.mapSeq (·++vs.toArray))).push (seqObj "list" vs.toArray 0) }
 rw [hsz]
 generalize hgA:((s.heap.push (seqObj "list" #[] 0)).update s.heap.objs.size (Obj.mapSeq (·++vs.toArray))).push (seqObj "list" vs.toArray 0)=hA at *
 generalize hga:s.heap.objs.size+1=a at *
 refine q_b (wpAny_holding (wpAny_call_entry slot_list_sort ⟨_,hoL,rfl⟩ entry_list_sort ?body (args_list_sort _)))
 case body =>
  obtain ⟨e1,ho1⟩:∃e1,(hA.update a (Obj.mapSeq fun _=>(#[]:Array Value))).get? a=some (seqObj "list" #[] e1):=⟨_,get?_update_seq hoL fun _=>#[]⟩
  rw [list_sort_plain]
  refine q_b (listItems_at hoL rfl ?_)
  refine q_b (listUpdate_at hoL rfl ?_ (by rw [q_f,sizeLine_eq];omega) (Nat.zero_le _))
  refine q_b (seqEpoch_at ho1 rfl ?_)
  refine q_b (wpAny_newTuple ?_ (by show vs.length<=_;rw [sizeLine_eq];omega))
  refine q_b (wpAny_newList ?_ (Nat.zero_le _))
  refine wpAny_holding ?_
  dsimp only
  have hn2:vs.toArray.size<2:=by rw [q_f];omega
  rw [if_pos hn2,if_pos hn2]
  refine q_b (q_e ?_)
  have hr:((pure ():StateT SortSt Sem Unit).run (SortSt.mk' general' (vs.toArray.zip vs.toArray) #[] 7 none))=pure ((),SortSt.mk' general' (vs.toArray.zip vs.toArray) #[] 7 none):=rfl
  refine q_b ?_
  refine (show wpAny (model prog w) A.in1.in1 (pure ((),SortSt.mk' general' (vs.toArray.zip vs.toArray) #[] 7 none)) _ _ _ from q_e ?_)
  dsimp only
  have ho3:(((hA.update a (Obj.mapSeq fun _=>(#[]:Array Value))).push { cls:=Value.type "tuple",data:=Data.seq vs.toArray }).push { cls:=Value.type "list",data:=Data.seq #[] }).get? a=some (seqObj "list" #[] e1):=q_c _ (q_c _ ho1)
  have hout:Array.map (fun x:Keyed=>x.snd) (arrOf (SortSt.mk' general' (vs.toArray.zip vs.toArray) #[] 7 none))=vs.toArray:=by
    show Array.map (fun x:Keyed=>x.snd) (vs.toArray.zip vs.toArray)=vs.toArray
    apply Array.ext'
    simp [List.map_snd_zip]
  refine q_b (seqEpoch_at ho3 rfl ?_)
  refine q_b (listUpdate_at ho3 rfl ?_ (Nat.zero_le _) (by rw [hout,q_f,sizeLine_eq];omega))
  have hfl:failedOf (SortSt.mk' general' (vs.toArray.zip vs.toArray) #[] 7 none)=none:=rfl
  simp only [bne_self_eq_false,q_v,if_false]
  refine q_e ⟨_,rfl,q_e ⟨_,rfl,?_⟩⟩
  rw [hout]
  obtain ⟨c2,hc2⟩:∃c2,((((hA.update a (Obj.mapSeq fun _=>(#[]:Array Value))).push { cls:=Value.type "tuple",data:=Data.seq vs.toArray }).push { cls:=Value.type "list",data:=Data.seq #[] }).update a (Obj.mapSeq fun _=>vs.toArray)).get? a=some (seqObj "list" vs.toArray c2):=⟨_,get?_update_seq ho3 fun _=>vs.toArray⟩
  refine h _ c2 (fun b o q=>?_) hc2
  have hne:b≠a:=by rw [<-hga];exact q_l (q_D (q_h q))
  rw [Heap.get?_update_ne _ _ _ _ hne]
  refine q_c _ (q_c _ ?_)
  rw [Heap.get?_update_ne _ _ _ _ hne]
  exact keep b o q
end
theorem JF6 {H:Hp}:∀ {xs:List D} {k:List Int} {us:List V},intsOf xs=some k->DenL B H xs us->us=k.map V.int
 | [],k,us,h,d=>by simp only [intsOf,q_j] at h;simp only [DenL] at d;subst h;subst d;rfl
 | x::xs,k,us,h,d=>by
  cases x<;>simp only [intsOf] at h<;>try (cases h;done)
  obtain ⟨k2,hk2,h⟩:=q_d.mp h
  subst h
  simp only [DenL,Den] at d
  obtain ⟨v,r,e,q,l⟩:=d
  subst e;subst q
  rw [JF6 hk2 l];rfl
theorem JGK {H:Hp} {ds:List D} {ys:List V} (dn:DenL B H ds ys):∀l:List Nat,(∀i∈l,i<ds.length)->DenL B H (l.map fun i=>ds.getD i .none) (l.map fun i=>ys.getD i .non)
 | [],_=>by simp only [List.map_nil,DenL]
 | i::l,h=>by
  have hi:=h i (by simp)
  obtain ⟨v,e1,d1⟩:=DenL.get ds ys i ds[i] dn (q_q hi)
  simp only [List.map_cons,DenL]
  refine ⟨_,_,rfl,?_,JGK dn l fun j hj=>h j (by simp [hj])⟩
  have e2:ds.getD i .none=ds[i]:=by simp [hi]
  have e3:ys.getD i .non=v:=by simp [e1]
  rw [e2,e3];exact d1
theorem JGP {H:Hp} (K:X.K=B.K):∀ {ds:List D} {ys:List V} {ks:List (List At)},JCx ds=some ks->DenL B H ds ys->IA X.K H ks ys
 | [],ys,ks,h,d=>by
  simp only [JCx,q_j] at h
  simp only [DenL] at d
  subst h;subst d;trivial
 | d::ds,ys,ks,h,dn=>by
  simp only [DenL] at dn
  obtain ⟨v,r,e,q,l⟩:=dn
  subst e
  cases d<;>simp only [JCx] at h<;>try (cases h;done)
  rename_i xs
  obtain ⟨k,hk,h⟩:=q_a.mp h
  obtain ⟨kr,hkr,h⟩:=q_d.mp h
  subst h
  simp only [Den] at q
  obtain ⟨a,us,e1,sq,dl⟩:=q
  subst e1
  refine ⟨⟨a,us,rfl,by rw [K];exact sq,?_⟩,JGP K hkr l⟩
  have:∀(xs:List D) (k:List At) (us:List V),JIY xs=some k->DenL B H xs us->IAs X.K H k us:=by
   intro xs
   induction xs with
   | nil=>intro k us h d;simp only [JIY,q_j] at h;simp only [DenL] at d;subst h;subst d;trivial
   | cons x xs ih =>
    intro k us h d
    simp only [JIY] at h
    obtain ⟨at1,ha,h⟩:=q_a.mp h
    obtain ⟨k2,hk2,h⟩:=q_d.mp h
    subst h
    simp only [DenL] at d
    obtain ⟨v,r,e,q,l⟩:=d
    subst e
    refine ⟨?_,ih k2 r hk2 l⟩
    cases x<;>simp only [atOf] at ha<;>try (cases ha;done)
    ·cases ha;simp only [Den] at q;exact q
    ·cases ha;simp only [Den] at q;exact q
    ·obtain ⟨ki,hki,rfl⟩:=q_d.mp ha
     simp only [Den] at q
     obtain ⟨b,ws,e1,sq2,dl2⟩:=q
     refine ⟨b,e1,?_⟩
     rw [JF6 hki dl2] at sq2
     rw [K];exact sq2
  exact this xs k us hk dl
theorem JEz:∀ {ds:List D} {ks:List (List At)},JCx ds=some ks->ds.length=ks.length
 | [],ks,h=>by simp only [JCx,q_j] at h;subst h;rfl
 | d::ds,ks,h=>by
  cases d<;>simp only [JCx] at h<;>try (cases h;done)
  obtain ⟨k,hk,h⟩:=q_a.mp h
  obtain ⟨kr,hkr,h⟩:=q_d.mp h
  subst h
  simp [JEz hkr]
theorem JMO {ks:List (List At)} (h:JKF ks=true):∃c,(∀k∈ks,(k.map At.kd).head? = some c)/\∀k∈ks,∀k'∈ks,k.map At.kd=k'.map At.kd:=by
 cases ks with
 | nil=>cases h
 | cons k ks =>
  simp only [JKF,q_i,List.all_eq_true,beq_iff_eq] at h
  obtain ⟨h1,h2⟩:=h
  have h3:∀q∈k::ks,q.map At.kd=k.map At.kd:=fun q hq=>by
   rcases q_n.mp hq with rfl | hq
   ·rfl
   ·exact h2 q hq
  cases k with
  | nil=>simp at h1
  | cons a k=>exact ⟨a.kd,fun q hq=>by rw [h3 q hq];rfl,fun q hq q' hq'=>by rw [h3 q hq,h3 q' hq']⟩
theorem JCF:CallR X (.builtin "sorted") (fun xs H Q=>∃l ys,xs=[.ref l]/\SqL X.K H l ys/\ys.length<2/\∀p,H p=none->Q (.ref p) (upd H p (.lst ys))):=by
 intro pins s σ H xs us Q I r ⟨l,ys,e,hq,h2,q⟩
 subst e
 cases r with
 | cons ra rb =>
  cases rb
  cases ra
  obtain ⟨its,rv,pl,hz⟩:=I.list hq
  have hl:=rv.length
  refine JEM pl.isList (by omega) fun h' c kp ho=>?_
  have hf:H (s.heap.objs.size+1)=none:=I.hok.fresh (Nat.le_succ _)
  exact ⟨.ref _,_,I.laid (t':=s.toks) kp (Nat.le_succ _) (show ObjOk X.prog X.w _ h' _ (.lst ys) from ⟨hz,its,c,rv,ho⟩),rfl,q _ hf⟩
end
end VI
end
section
namespace VI
open PySem PySem.W
namespace So
noncomputable def inn {α:Type} (n:Nat):KasT α->Bool
 | .ret _=>true
 | .ask i j k=>decide (i<n)&&decide (j<n)&&inn n (k true)&&inn n (k false)
theorem go_congr {α:Type} {n:Nat} {lt lt':Nat->Nat->Bool} (h:∀i j,i<n->j<n->lt i j=lt' i j):∀t:KasT α,inn n t=true->kGo lt t=kGo lt' t
 | .ret a,_=>rfl
 | .ask i j k,hk=>by
  simp only [inn,q_i,q_C] at hk
  simp only [kGo]
  rw [h i j hk.1.1.1 hk.1.1.2]
  refine go_congr h _ ?_
  cases lt' i j
  ·exact hk.2
  ·exact hk.1.2
noncomputable def chk (n:Nat) (r:List Nat):Bool:=(kGo (fun i j=>decide (r.getD i n<r.getD j n)) (kas_sort n)).toList.map (fun i=>r.getD i n)==List.range n
noncomputable def vecs:Nat->Nat->List (List Nat)
 | 0,_=>[[]]
 | k+1,n=>(vecs k n).flatMap fun v=>((List.range n).filter fun a=>!v.contains a).map fun a=>a::v
theorem JF3 {n:Nat}:∀(v:List Nat),v.Nodup->(∀a∈v,a<n)->v∈vecs v.length n
 | [],_,_=>by simp [vecs]
 | a::v,h,h'=>by
  obtain ⟨h1,h2⟩:=List.nodup_cons.mp h
  have ih:=JF3 v h2 fun b hb=>h' b (by simp [hb])
  simp only [List.length_cons,vecs]
  refine List.mem_flatMap.mpr ⟨v,ih,List.mem_map.mpr ⟨a,List.mem_filter.mpr ⟨List.mem_range.mpr (h' a (by simp)),?_⟩,rfl⟩⟩
  simpa using h1
theorem chk2:(vecs 2 2).all (chk 2)=true:=by decide +kernel
theorem chk3:(vecs 3 3).all (chk 3)=true:=by decide +kernel
theorem chk4:(vecs 4 4).all (chk 4)=true:=by decide +kernel
theorem chk5:(vecs 5 5).all (chk 5)=true:=by decide +kernel
theorem inn2:inn 2 (kas_sort 2)=true:=by decide +kernel
theorem inn3:inn 3 (kas_sort 3)=true:=by decide +kernel
theorem inn4:inn 4 (kas_sort 4)=true:=by decide +kernel
theorem inn5:inn 5 (kas_sort 5)=true:=by decide +kernel
theorem JNS {n:Nat} (h2:2<=n) (h5:n<=5) {r:List Nat} (hl:r.length=n) (hd:r.Nodup) (hr:∀a∈r,a<n):chk n r=true:=by
 have h:=JF3 r hd hr
 rw [hl] at h
 obtain rfl | rfl | rfl | rfl:n=2\/n=3\/n=4\/n=5:=by omega
 ·exact List.all_eq_true.mp chk2 r h
 ·exact List.all_eq_true.mp chk3 r h
 ·exact List.all_eq_true.mp chk4 r h
 ·exact List.all_eq_true.mp chk5 r h
theorem JM5 {n:Nat} (h2:2<=n) (h5:n<=5):inn n (kas_sort n)=true:=by
 obtain rfl | rfl | rfl | rfl:n=2\/n=3\/n=4\/n=5:=by omega
 ·exact inn2
 ·exact inn3
 ·exact inn4
 ·exact inn5
theorem JLU {α:Type} {p q:α->Bool}:∀ {l:List α},(∀y∈l,p y=true->q y=true)->l.countP p<=l.countP q
 | [],_=>q_t _
 | b::l,h=>by
  have ih:=JLU (l:=l) fun y hy=>h y (by simp [hy])
  have hb:=h b (by simp)
  simp only [List.countP_cons]
  by_cases e:p b=true
  ·rw [if_pos e,if_pos (hb e)];omega
  ·rw [if_neg e];omega
theorem cnt_lt {α:Type} {p q:α->Bool}:∀ {l:List α},(∀y∈l,p y=true->q y=true)->(∃a∈l,q a=true/\p a=false)->l.countP p<l.countP q
 | [],_,⟨a,ha,_⟩=>by cases ha
 | b::l,h,⟨a,ha,h1,h2⟩=>by
  have hb:=h b (by simp)
  have hr:∀y∈l,p y=true->q y=true:=fun y hy=>h y (by simp [hy])
  have ih0:=JLU hr
  simp only [List.countP_cons]
  rcases q_n.mp ha with rfl | ha
  ·rw [if_pos h1,if_neg (by rw [h2];simp)];omega
  ·have ih:=cnt_lt hr ⟨a,ha,h1,h2⟩
   by_cases e:p b=true
   ·rw [if_pos e,if_pos (hb e)];omega
   ·rw [if_neg e];omega
theorem JKk (x:Str):ltS x x=false:=q_o (List.lt_irrefl _)
theorem lt_tr {x y z:Str} (h1:ltS x y=true) (h2:ltS y z=true):ltS x z=true:=decide_eq_true (List.lt_trans (of_decide_eq_true h1) (of_decide_eq_true h2))
theorem JH3 {x y:Str} (h1:ltS x y=false) (h2:ltS y x=false):x=y:=by
 have h1:=of_decide_eq_false h1
 have h2:=of_decide_eq_false h2
 have e:x.cps.toList=y.cps.toList:=List.le_antisymm (List.not_lt.mp h2) (List.not_lt.mp h1)
 cases x;cases y
 simp only [Str.mk.injEq]
 exact Array.toList_inj.mp e
noncomputable def rk (zs:List Str) (a:Str):Nat:=zs.countP fun y=>ltS y a
theorem JPr {zs:List Str} {a b:Str} (ha:a∈zs) (h:ltS a b=true):rk zs a<rk zs b:=cnt_lt (fun y _ e=>lt_tr e h) ⟨a,ha,h,JKk a⟩
theorem JMi {zs:List Str} {a b:Str} (ha:a∈zs) (hb:b∈zs):ltS a b=decide (rk zs a<rk zs b):=by
 cases h:ltS a b with
 | true=>exact (decide_eq_true (JPr ha h)).symm
 | false =>
  refine (q_o ?_).symm
  cases h':ltS b a with
  | true=>have:=JPr hb h';omega
  | false=>rw [JH3 h h'];omega
theorem JKb {zs:List Str} {a b:Str} (ha:a∈zs) (hb:b∈zs) (h:rk zs a=rk zs b):a=b:=by
 refine JH3 ?_ ?_
 ·rw [JMi ha hb];exact q_o (by omega)
 ·rw [JMi hb ha];exact q_o (by omega)
theorem rk_n {zs:List Str} {a:Str} (ha:a∈zs):rk zs a<zs.length:=by
 have:=cnt_lt (p:=fun y=>ltS y a) (q:=fun _=>true) (l:=zs) (fun _ _ _=>rfl) ⟨a,ha,rfl,JKk a⟩
 rwa [show (zs.countP fun _=>true)=zs.length by simp] at this
theorem JIG {α:Type} {f:α->Nat}:∀ {L L':List α},(∀a∈L,∀b∈L',f a=f b->a=b)->L.map f=L'.map f->L=L'
 | [],[],_,_=>rfl
 | [],b::r,_,h=>by simp at h
 | a::r,[],_,h=>by simp at h
 | a::r,b::t,hi,h=>by
  simp only [List.map_cons,List.cons.injEq] at h
  rw [hi a (by simp) b (by simp) h.1,JIG (fun x hx y hy=>hi x (by simp [hx]) y (by simp [hy])) h.2]
theorem core {zs:List Str} (hp:zs.Nodup) (l2:2<=zs.length) (l5:zs.length<=5):(∀a∈JAX zs,a∈zs)/\(JAX zs).map (rk zs)=List.range zs.length:=by
 have gt:∀i,i<zs.length->∃a∈zs,zs.getD i ""=a/\(zs.map (rk zs)).getD i zs.length=rk zs a:=fun i hi=>by
  refine ⟨zs[i],List.getElem_mem hi,?_,?_⟩<;>simp [List.getD_eq_getElem?_getD,hi]
 have nd:(zs.map (rk zs)).Nodup:=by
  unfold List.Nodup
  rw [List.pairwise_map]
  exact List.Pairwise.imp_of_mem (fun ha hb h e=>h (JKb ha hb e)) hp
 have ck:=JNS l2 l5 (r:=zs.map (rk zs)) (by simp) nd fun a ha=>by
  obtain ⟨m,hm,rfl⟩:=List.mem_map.mp ha
  exact rk_n hm
 unfold chk at ck
 have ck:=eq_of_beq ck
 have ek:kGo (fun i j=>ltS (zs.getD i "") (zs.getD j "")) (kas_sort zs.length)=kGo (fun i j=>decide ((zs.map (rk zs)).getD i zs.length<(zs.map (rk zs)).getD j zs.length)) (kas_sort zs.length) :=
  go_congr (fun i j hi hj=>by
   obtain ⟨a,ha,a2,a4⟩:=gt i hi
   obtain ⟨b,hb,b2,b4⟩:=gt j hj
   simp only [a2,b2,a4,b4]
   exact JMi ha hb) _ (JM5 l2 l5)
 have es:JAX zs=(kGo (fun i j=>decide ((zs.map (rk zs)).getD i zs.length<(zs.map (rk zs)).getD j zs.length)) (kas_sort zs.length)).toList.map fun i=>zs.getD i "":=by
  unfold JAX
  rw [if_neg (by omega),ek]
 generalize (kGo (fun i j=>decide ((zs.map (rk zs)).getD i zs.length<(zs.map (rk zs)).getD j zs.length)) (kas_sort zs.length)).toList=p at ck es
 have hin:∀i∈p,i<zs.length:=fun i hi=>by
  have:(zs.map (rk zs)).getD i zs.length∈List.range zs.length:=by rw [<-ck];exact List.mem_map.mpr ⟨i,hi,rfl⟩
  have:=List.mem_range.mp this
  by_cases o:i<zs.length
  ·exact o
  ·rw [List.getD_eq_getElem?_getD,List.getElem?_eq_none (by simp;omega)] at this
   simp at this
 rw [es]
 refine ⟨fun a ha=>?_,?_⟩
 ·obtain ⟨i,hi,rfl⟩:=List.mem_map.mp ha
  obtain ⟨a,ha,a1,_⟩:=gt i (hin i hi)
  rw [a1];exact ha
 ·rw [<-ck,List.map_map]
  refine List.map_congr_left fun i hi=>?_
  obtain ⟨a,_,a1,a4⟩:=gt i (hin i hi)
  simp only [Function.comp]
  rw [a4,a1]
theorem sort_perm {zs zs':List Str} (p:zs'.Perm zs) (hp:zs.Nodup) (l5:zs.length<=5):JAX zs'=JAX zs:=by
 by_cases l2:2<=zs.length
 ·have pl:=p.length_eq
  obtain ⟨m1,r1⟩:=core hp l2 l5
  obtain ⟨m2,r2⟩:=core (p.nodup_iff.mpr hp) (by omega) (by omega)
  have er:rk zs'=rk zs:=funext fun a=>p.countP_eq _
  rw [er,pl,<-r1] at r2
  exact JIG (fun a ha b hb=>JKb (p.mem_iff.mp (m2 a ha)) (m1 b hb)) r2
 ·have:zs'=zs:=by
   match zs,l2,p with
   | [],_,p=>exact List.perm_nil.mp p
   | [a],_,p=>exact List.perm_singleton.mp p
   | _::_::_,l2,_=>exact absurd (by simp) l2
  rw [this]
theorem ded_nd:∀xs:List Str,(dedS xs).Nodup
 | []=>List.nodup_nil
 | x::r=>by
  unfold dedS
  split
  ·exact ded_nd r
  ·rename_i h;exact List.nodup_cons.mpr ⟨h,ded_nd r⟩
theorem ded_mem {x:Str}:∀ {xs:List Str},x∈dedS xs↔x∈xs
 | []=>Iff.rfl
 | y::r=>by
  unfold dedS
  have ih:=ded_mem (x:=x) (xs:=r)
  split
  ·rename_i h
   rw [ih,q_n]
   exact ⟨.inr,fun z=>z.elim (fun z=>z▸ded_mem.mp h) id⟩
  ·rw [q_n,q_n,ih]
end So
end VI
end
section
set_option maxRecDepth 100000
namespace VI
open PySem PySem.Spec PyProof.Rows L2
namespace Ft
theorem JF8:Manifest.owners.lookup (String.ofList ['r','o','t','a','r','e','t','i','_','t','e','s'].reverse)=some Manifest.sig_set_iterator:=by kernel_rfl
theorem slot_si_next:Slot "set_iterator" "__next__" "set_iterator.__next__" :=
 .of (owner:="set_iterator") (n:="__next__") (by rw [typeLookup_type,builtinLookup_eq_fast];kernel_rfl) (by decide +kernel) (by decide +kernel) (by decide +kernel)
  (by first | exact .inl (by decide +kernel) | exact .inr (by decide +kernel)) (by rw [isSubtype_type];kernel_rfl)
theorem entry_si_next:entryFor table "set_iterator.__next__"=some Builtin.«set_iterator.__next__»:=entryFor_of_tree (by kernel_rfl)
theorem args_si_next_1 (a:Value):argsOk "set_iterator.__next__" ⟨[a],[]⟩:=by
 unfold argsOk;rw [signature?_of (id:="set_iterator.__next__") (n:=['_','_','t','x','e','n','_','_']) (o:=['r','o','t','a','r','e','t','i','_','t','e','s']) (by kernel_rfl) JF8];kernel_rfl
theorem slot_si_iter:Slot "set_iterator" "__iter__" "set_iterator.__iter__" :=
 .of (owner:="set_iterator") (n:="__iter__") (by rw [typeLookup_type,builtinLookup_eq_fast];kernel_rfl) (by decide +kernel) (by decide +kernel) (by decide +kernel)
  (by first | exact .inl (by decide +kernel) | exact .inr (by decide +kernel)) (by rw [isSubtype_type];kernel_rfl)
theorem args_si_iter_1 (a:Value):argsOk "set_iterator.__iter__" ⟨[a],[]⟩:=by
 unfold argsOk;rw [signature?_of (id:="set_iterator.__iter__") (n:=['_','_','r','e','t','i','_','_']) (o:=['r','o','t','a','r','e','t','i','_','t','e','s']) (by kernel_rfl) JF8];kernel_rfl
theorem entry_si_iter:entryFor table "set_iterator.__iter__"=some Builtin.«dict_keyiterator.__iter__» :=
 entryFor_alias (id':="dict_keyiterator.__iter__") (by kernel_rfl) (by first | rfl | decide +kernel | (unfold String.splitOn;simp +decide [String.splitOnAux])) (by decide +kernel) (by kernel_rfl)
theorem owner_set:Manifest.owners.lookup (String.ofList ['t','e','s'].reverse)=some Manifest.sig_set:=by kernel_rfl
theorem slot_set_iter:Slot "set" "__iter__" "set.__iter__" :=
 .of (owner:="set") (n:="__iter__") (by rw [typeLookup_type,builtinLookup_eq_fast];kernel_rfl) (by decide +kernel) (by decide +kernel) (by decide +kernel)
  (by first | exact .inl (by decide +kernel) | exact .inr (by decide +kernel)) (by rw [isSubtype_type];kernel_rfl)
theorem args_set_iter_1 (a:Value):argsOk "set.__iter__" ⟨[a],[]⟩:=by
 unfold argsOk;rw [signature?_of (id:="set.__iter__") (n:=['_','_','r','e','t','i','_','_']) (o:=['t','e','s']) (by kernel_rfl) owner_set];kernel_rfl
theorem entry_set_iter:entryFor table "set.__iter__"=some Builtin.«frozenset.__iter__» :=
 entryFor_alias (id':="frozenset.__iter__") (by kernel_rfl) (by first | rfl | decide +kernel | (unfold String.splitOn;simp +decide [String.splitOnAux])) (by decide +kernel) (by kernel_rfl)
theorem len_set:typeLookup (.type "set") "__len__"=pure (some (.builtin "set.__len__")):=by rw [typeLookup_type,builtinLookup_eq_fast];kernel_rfl
end Ft
section
variable {prog:Program} {w:World} {A:Around} {E:Value->Shared->Prop} {s:Shared}
theorem JFR {α:Type}:∀ {l:List α} {i:Nat} (h:i<l.length),(l[i]::l.eraseIdx i).Perm l
 | [],i,h=>by simp at h
 | a::l,0,h=>by simp
 | a::l,i+1,h=>by
  simp only [List.getElem_cons_succ,List.eraseIdx_cons_succ]
  exact (List.Perm.swap _ _ _).trans (List.Perm.cons a (JFR (by simpa using h)))
theorem JGq {src:Source} {n:Nat} {Q:Nat->Shared->Prop} (hn:n≠0) (h:∀i d,i<n->Q i { s with drawn:=d }):wpAny (model prog w) A (choose src n) Q E s:=by
 intro Γ p hΓ
 unfold choose
 rw [Sem.wp_choose]
 exact ⟨hn,by rw [Sem.wp_pure];exact h _ _ (Nat.mod_lt _ (Nat.pos_of_ne_zero hn))⟩
theorem JEk {α:Type}:∀(n:Nat) (xs:List α) {s:Shared} {Q:List α->Shared->Prop},n=xs.length->(∀ys d,ys.Perm xs->Q ys { s with drawn:=d })->wpAny (model prog w) A (drawOrder n xs) Q E s
 | 0,xs,s,Q,hn,h=>by
  have:xs=[]:=q_A.mp hn.symm
  subst this
  exact q_e (h [] s.drawn (List.Perm.refl _))
 | n+1,[],s,Q,hn,h=>by simp at hn
 | n+1,x::xs,s,Q,hn,h=>by
  simp only [drawOrder]
  refine q_b (JGq (by simp) fun i d hi=>?_)
  rw [q_q hi]
  have hl:((x::xs).eraseIdx i).length=n:=by rw [List.length_eraseIdx_of_lt hi];simp only [List.length_cons] at hn ⊢;omega
  refine q_b (JEk n _ hl.symm fun ys d' p=>?_)
  refine q_e (h _ d' ?_)
  exact (List.Perm.cons _ p).trans (JFR hi)
theorem JEN {α:Type} (next:Nat->Nat):∀(n k:Nat) (left:List α) (out:Array α),n=left.length->∃ys,ys.Perm left/\(pickOrder.go next n k left out).toList=out.toList++ys
 | 0,k,left,out,hn=>by
  have:left=[]:=q_A.mp hn.symm
  subst this
  exact ⟨[],List.Perm.refl _,by simp [pickOrder.go]⟩
 | n+1,k,left,out,hn=>by
  have hi:next k % left.length<left.length:=Nat.mod_lt _ (by omega)
  have hl:(left.eraseIdx (next k % left.length)).length=n:=by rw [List.length_eraseIdx_of_lt hi];omega
  obtain ⟨ys,p,e⟩:=JEN next n (k+1) (left.eraseIdx (next k % left.length)) (out.push left[next k % left.length]) hl.symm
  refine ⟨left[next k % left.length]::ys,(List.Perm.cons _ p).trans (JFR hi),?_⟩
  simp only [pickOrder.go]
  rw [q_q hi]
  simp only
  rw [e]
  simp
theorem JGk {α:Type} (next:Nat->Nat) (xs:Array α):(pickOrder next xs).toList.Perm xs.toList:=by
 obtain ⟨ys,p,e⟩:=JEN next xs.size 0 xs.toList #[] (by simp)
 unfold pickOrder
 rw [e]
 simpa using p
end
end VI
end
section
set_option maxRecDepth 100000
namespace VI
open PySem PySem.Spec PyProof.Rows L2
def IsSI (h:Heap) (I:Addr) (first:Value) (i:Int) (a:Addr) (n ep:Nat):Prop:=∃o,h.get? I=some o/\o.cls=.type "set_iterator"/\o.data=.fields #[first,rawInt i,.ref a,rawInt n,rawInt ep]
theorem IsSI.ty {s:Shared} {I a:Addr} {first:Value} {i:Int} {n ep:Nat} (x:IsSI s.heap I first i a n ep):s.TypeIs (.ref I) "set_iterator":=let ⟨o,ho,hc,_⟩:=x;⟨o,ho,hc⟩
theorem IsSI.at {h h':Heap} {I a:Addr} {first:Value} {i:Int} {n ep:Nat} (x:IsSI h I first i a n ep) (e:∀o,h.get? I=some o->h'.get? I=some o):IsSI h' I first i a n ep:=let ⟨o,ho,r⟩:=x;⟨o,e _ ho,r⟩
structure SetAt (h:Heap) (a:Addr) (so:Obj) (es:Array (Int×Value)) (ep:Nat) (t:SetTable):Prop where
 get:h.get? a=some so
 cls:so.cls=.type "set"
 data:so.data=.set es ep t
 fits:t.fits es.size=true
theorem SetAt.at {h h':Heap} {a:Addr} {so:Obj} {es:Array (Int×Value)} {ep:Nat} {t:SetTable} (x:SetAt h a so es ep t) (e:∀o,h.get? a=some o->h'.get? a=some o):SetAt h' a so es ep t:=⟨e _ x.get,x.cls,x.data,x.fits⟩
section
variable {prog:Program} {w:World} {A:Around} {E:Value->Shared->Prop} {s:Shared} {I a:Addr} {so:Obj} {es:Array (Int×Value)} {ep:Nat} {t:SetTable} {i:Nat}
def byT (w:World):Bool:=w.params.followText "set-order"
theorem JBh {Q:Bool->Shared->Prop} (h:Q (byT w) s):wpAny (model prog w) A setsByText Q E s:=by
 unfold setsByText
 exact q_b (wpAny_askSetting (q_e h))
theorem JC5 {slot nxt:Nat} {x:Value} {Q:Option Value->Shared->Prop} (hit:IsSI s.heap I (rawInt slot) i a es.size ep) (hs:SetAt s.heap a so es ep t)
  (hn:∀(Q':Option (Value×Nat)->Shared->Prop) (E':Value->Shared->Prop),Q' (some (x,nxt)) s->wpAny (model prog w) A.in1 (setNext a slot i ep) Q' E' s)
  (hQ:∀h',IsSI h' I (rawInt nxt) ((i+1:Nat):Int) a es.size ep->Heap.SameBut I s.heap h'->Q (some x) { s with heap:=h' }):wpAny (model prog w) A (pyNext (.ref I)) Q E s:=by
 obtain ⟨o,ho,hc,hd⟩:=id hit
 unfold pyNext
 refine q_b (wpAny_attempt (wpAny_callSpecial?_slot (name:=Str.ofString "__next__") hit.ty Ft.slot_si_next
  (wpAny_call_entry Ft.slot_si_next hit.ty Ft.entry_si_next ?_ (Ft.args_si_next_1 _))))
 unfold Builtin.«set_iterator.__next__»
 refine q_b (wpAny_of_eq (a:=(Value.ref I,[])) rfl ?_)
 try dsimp only
 refine q_b (wpAny_fieldsOf ho hd ?_)
 show wpAny _ _ (setEntries a >>= _) _ _ s
 refine q_b (wpAny_setEntries_of hs.get hs.data hs.fits ?_)
 rw [if_neg (by simp)]
 show wpAny _ _ (setNext a (slot:Int).toNat (i:Int).toNat (ep:Int).toNat >>= _) _ _ s
 simp only [Int.toNat_natCast]
 refine q_b (hn _ _ ?_)
 dsimp only
 refine q_b (wpAny_setField ho hd (by simp) ?_)
 have g1:=Heap.get?_update_self (Obj.mapFields (·.setIfInBounds 0 (rawInt nxt))) ho (Obj.isFreed_of_fields (Obj.data_mapFields hd _))
 have d1:=Obj.data_mapFields hd (·.setIfInBounds 0 (rawInt nxt))
 refine q_b (wpAny_setField g1 d1 (by simp) ?_)
 refine q_e ⟨x,rfl,q_e (hQ _ ?_ ((Heap.SameBut.update ..).trans (Heap.SameBut.update ..)))⟩
 refine ⟨_,Heap.get?_update_self _ g1 (Obj.isFreed_of_fields (Obj.data_mapFields d1 _)),(Obj.cls_mapFields ..).trans ((Obj.cls_mapFields ..).trans hc),?_⟩
 rw [Obj.data_mapFields d1]
 simp
theorem JFu {h1:Heap} (hh:A.handled=none) {Q:Option Value->Shared->Prop} (hQ:∀h',(∀b o,h1.get? b=some o->h'.get? b=some o)->Q none { s with heap:=h' }) :
  wpAny (model prog w) A.in1 (do raiseNew (<-newExc (.type "StopIteration") []))
   (fun r s'=>∃v,r=PySem.Fin.done (Flow.ret v)/\wpAny (model prog w) A (pure (some v)) Q E s')
   (fun e s'=>wpAny (model prog w) A (do if (<-isInstance e (.type "StopIteration"))=true then pure none else throw e) Q E s') { s with heap:=h1 }:=by
 refine q_b ?_
 simp only [newExc,newTuple]
 refine q_b (wpAny_newObj_type ?_ (by size_fits))
 refine q_b (m:=firstArgMember _ _) (wpAny_of_eq (a:=Value.none) (by first | rfl | (simp only [firstArgMember];rfl)) ?_)
 refine wpAny_newObj_type ?_ (by size_fits)
 simp only [raiseNew]
 refine q_b (wpAny_handled ?_)
 first | rw [show A.in1.handled=none from hh] | rw [hh]
 refine q_b (q_e (wpAny_throw ?_))
 refine q_b (wpAny_isInstance (T:="StopIteration") (b:=true) ⟨_,q_k _ rfl,rfl⟩ isSubtype_stop ?_)
 exact q_e (hQ _ fun b o e=>q_c _ (q_c _ e))
theorem JDI {slot:Nat} {Q:Option Value->Shared->Prop} (hh:A.handled=none) (hit:IsSI s.heap I (rawInt slot) i a es.size ep) (hs:SetAt s.heap a so es ep t)
  (hn:∀(Q':Option (Value×Nat)->Shared->Prop) (E':Value->Shared->Prop),Q' none s->wpAny (model prog w) A.in1 (setNext a slot i ep) Q' E' s)
  (hQ:∀h',(∀b o,b≠I->s.heap.get? b=some o->h'.get? b=some o)->Q none { s with heap:=h' }):wpAny (model prog w) A (pyNext (.ref I)) Q E s:=by
 obtain ⟨o,ho,hc,hd⟩:=id hit
 unfold pyNext
 refine q_b (wpAny_attempt (wpAny_callSpecial?_slot (name:=Str.ofString "__next__") hit.ty Ft.slot_si_next
  (wpAny_call_entry Ft.slot_si_next hit.ty Ft.entry_si_next ?_ (Ft.args_si_next_1 _))))
 unfold Builtin.«set_iterator.__next__»
 refine q_b (wpAny_of_eq (a:=(Value.ref I,[])) rfl ?_)
 try dsimp only
 refine q_b (wpAny_fieldsOf ho hd ?_)
 show wpAny _ _ (setEntries a >>= _) _ _ s
 refine q_b (wpAny_setEntries_of hs.get hs.data hs.fits ?_)
 rw [if_neg (by simp)]
 show wpAny _ _ (setNext a (slot:Int).toNat (i:Int).toNat (ep:Int).toNat >>= _) _ _ s
 simp only [Int.toNat_natCast]
 refine q_b (hn _ _ ?_)
 dsimp only
 refine q_b (wpAny_setField ho hd (by simp) ?_)
 refine JFu hh fun h' hk=>hQ h' fun b o hb e=>hk b o ?_
 exact ((Heap.SameBut.update s.heap I _).2 b hb).trans e
theorem JDh {T:Addr} {to:Obj} {c place:Nat} {ps:Array Value} {x:Value} {z:Int} {Q:Option Value->Shared->Prop} (hit:IsSI s.heap I (.ref T) i a es.size ep) (hs:SetAt s.heap a so es ep t)
  (hT:s.heap.get? T=some to) (hTd:to.data=.seq ps c) (hp:ps[i]? = some (rawInt place)) (hx:es[place]? = some (z,x))
  (hQ:∀h',IsSI h' I (.ref T) ((i+1:Nat):Int) a es.size ep->Heap.SameBut I s.heap h'->Q (some x) { s with heap:=h' }):wpAny (model prog w) A (pyNext (.ref I)) Q E s:=by
 obtain ⟨o,ho,hc,hd⟩:=id hit
 unfold pyNext
 refine q_b (wpAny_attempt (wpAny_callSpecial?_slot (name:=Str.ofString "__next__") hit.ty Ft.slot_si_next
  (wpAny_call_entry Ft.slot_si_next hit.ty Ft.entry_si_next ?_ (Ft.args_si_next_1 _))))
 unfold Builtin.«set_iterator.__next__»
 refine q_b (wpAny_of_eq (a:=(Value.ref I,[])) rfl ?_)
 try dsimp only
 refine q_b (wpAny_fieldsOf ho hd ?_)
 show wpAny _ _ (setEntries a >>= _) _ _ s
 refine q_b (wpAny_setEntries_of hs.get hs.data hs.fits ?_)
 rw [if_neg (by simp)]
 show wpAny _ _ (seqItems? (.ref T) >>= _) _ _ s
 refine q_b (wpAny_seqItems hT hTd ?_)
 simp only [Int.toNat_natCast,hp]
 show wpAny _ _ (setNextDrawn a (place:Int).toNat (ep:Int).toNat >>= _) _ _ s
 simp only [Int.toNat_natCast]
 refine q_b ?_
 unfold setNextDrawn
 refine q_b (wpAny_setState_of hs.get hs.data hs.fits ?_)
 dsimp only
 rw [if_neg (by simp),hx]
 refine q_e ?_
 refine q_b (wpAny_setField ho hd (by simp) ?_)
 refine q_e ⟨x,rfl,q_e (hQ _ ?_ (Heap.SameBut.update ..))⟩
 refine ⟨_,Heap.get?_update_self _ ho (Obj.isFreed_of_fields (Obj.data_mapFields hd _)),(Obj.cls_mapFields ..).trans hc,?_⟩
 rw [Obj.data_mapFields hd]
 simp
theorem JFD {T:Addr} {to:Obj} {c:Nat} {ps:Array Value} {Q:Option Value->Shared->Prop} (hh:A.handled=none) (hit:IsSI s.heap I (.ref T) i a es.size ep) (hs:SetAt s.heap a so es ep t)
  (hT:s.heap.get? T=some to) (hTd:to.data=.seq ps c) (hp:ps[i]? = none)
  (hQ:∀h',(∀b o,b≠I->s.heap.get? b=some o->h'.get? b=some o)->Q none { s with heap:=h' }):wpAny (model prog w) A (pyNext (.ref I)) Q E s:=by
 obtain ⟨o,ho,hc,hd⟩:=id hit
 unfold pyNext
 refine q_b (wpAny_attempt (wpAny_callSpecial?_slot (name:=Str.ofString "__next__") hit.ty Ft.slot_si_next
  (wpAny_call_entry Ft.slot_si_next hit.ty Ft.entry_si_next ?_ (Ft.args_si_next_1 _))))
 unfold Builtin.«set_iterator.__next__»
 refine q_b (wpAny_of_eq (a:=(Value.ref I,[])) rfl ?_)
 try dsimp only
 refine q_b (wpAny_fieldsOf ho hd ?_)
 show wpAny _ _ (setEntries a >>= _) _ _ s
 refine q_b (wpAny_setEntries_of hs.get hs.data hs.fits ?_)
 rw [if_neg (by simp)]
 show wpAny _ _ (seqItems? (.ref T) >>= _) _ _ s
 refine q_b (wpAny_seqItems hT hTd ?_)
 simp only [Int.toNat_natCast,hp]
 refine q_b (wpAny_setField ho hd (by simp) ?_)
 have g1:=Heap.get?_update_self (Obj.mapFields (·.setIfInBounds 0 (rawInt 0))) ho (Obj.isFreed_of_fields (Obj.data_mapFields hd _))
 have d1:=Obj.data_mapFields hd (·.setIfInBounds 0 (rawInt 0))
 refine q_b (wpAny_setField g1 d1 (by simp) ?_)
 refine JFu hh fun h' hk=>hQ h' fun b o hb e=>hk b o ?_
 exact (((Heap.SameBut.update s.heap I _).trans (Heap.SameBut.update _ I _)).2 b hb).trans e
theorem JH2 (hs:SetAt s.heap a so es ep t) (hB:byT w=true) {Q:Array (Int×Value)->Shared->Prop} (h:Q (pickOrder (w.params.setOrder a ep) es) s):wpAny (model prog w) A (setWalk a) Q E s:=by
 unfold setWalk
 refine q_b (wpAny_setState_of hs.get hs.data hs.fits ?_)
 dsimp only
 refine q_b (JBh ?_)
 rw [hB,if_pos rfl]
 exact q_b (wpAny_askSetting (q_e h))
theorem JHU {slot:Nat} (hs:SetAt s.heap a so es ep t) (hB:byT w=true) {Q:Option (Value×Nat)->Shared->Prop} (h:Q (((pickOrder (w.params.setOrder a ep) es)[i]?).map fun e=>(e.2,slot)) s):wpAny (model prog w) A (setNext a slot i ep) Q E s:=by
 unfold setNext
 refine q_b (wpAny_setState_of hs.get hs.data hs.fits ?_)
 dsimp only
 refine q_b (JBh ?_)
 rw [hB,if_pos rfl,if_neg (by simp)]
 exact q_b (JH2 hs hB (q_e h))
theorem JLg {slot:Nat} (hs:SetAt s.heap a so es ep t) (hB:byT w=false) (he:es.size<=1) (hl:t.led=true) {Q:Option (Value×Nat)->Shared->Prop}
  (h:Q (match es[SetTable.below t.place slot]?,t.place[SetTable.below t.place slot]? with | some (_,x),some j=>some (x,j+1) | _,_=>none) s):wpAny (model prog w) A (setNext a slot i ep) Q E s:=by
 unfold setNext
 refine q_b (wpAny_setState_of hs.get hs.data hs.fits ?_)
 dsimp only
 refine q_b (JBh ?_)
 rw [hB,if_neg (by decide)]
 have hd:(!t.plain&&decide (es.size > 1))=false:=by rw [show decide (es.size > 1)=false from q_o (by omega),Bool.and_false]
 split
 ·rename_i hx
  have hx:(!t.plain&&decide (es.size > 1))=true:=hx
  rw [hd] at hx;cases hx
 ·refine q_b ?_
  show wpAny _ _ (if (!t.led&&!es.isEmpty)=true then unsupported "set:maker-not-led" else pure ()) _ _ _
  rw [hl,Bool.not_true,Bool.false_and,if_neg (by decide)]
  exact q_e (q_e h)
theorem JJF (hs:SetAt s.heap a so es ep t) (hz:es.size<=100)
  {Q:Value->Shared->Prop}
  (h1:(byT w=true\/(t.plain=true\/es.size<=1))->Q (.ref s.heap.objs.size) { s with heap:=s.heap.push { cls:=.type "set_iterator",data:=.fields #[rawInt 0,rawInt 0,.ref a,rawInt es.size,rawInt ep] } })
  (h2:byT w=false->t.plain=false->∀(ord:List Nat) d,ord.Perm (List.range es.size)->Q (.ref (s.heap.objs.size+1)) { s with drawn:=d,heap:=(s.heap.push { cls:=.type "tuple",data:=.seq (ord.map fun i:Nat=>rawInt i).toArray }).push { cls:=.type "set_iterator",data:=.fields #[.ref s.heap.objs.size,rawInt 0,.ref a,rawInt es.size,rawInt ep] } }) :
  wpAny (model prog w) A (pyIter (.ref a)) Q E s:=by
 have hT:s.TypeIs (.ref a) "set":=⟨so,hs.get,hs.cls⟩
 refine wpAny_pyIter_slot hT Ft.slot_set_iter (wpAny_call_entry Ft.slot_set_iter hT Ft.entry_set_iter ?_ (Ft.args_set_iter_1 _))
 unfold Builtin.«frozenset.__iter__»
 refine q_b (wpAny_of_eq (a:=a) rfl ?_)
 refine q_b ?_
 unfold Builtin.Frozenset.sizeOf
 refine q_b (wpAny_setEntries_of hs.get hs.data hs.fits (q_e ?_))
 refine q_b ?_
 unfold setDrawn
 refine q_b (wpAny_setState_of hs.get hs.data hs.fits ?_)
 dsimp only
 refine q_b (JBh (q_e ?_))
 show wpAny _ _ (if (!byT w&&(!t.plain&&decide (es.size > 1)))=true then _ else _) _ _ _
 by_cases hd:(!byT w&&(!t.plain&&decide (es.size > 1)))=true
 ·rw [if_pos hd]
  simp only [q_i,Bool.not_eq_true',q_C] at hd
  refine q_b (JEk es.size (List.range es.size) (by simp) fun ord d po=>?_)
  refine q_b (wpAny_newTuple ?_ ?_)
  rotate_left
  · rw [q_g,po.length_eq,List.length_range,sizeLine_eq];omega
  dsimp only
  have hs1:SetAt (s.heap.push { cls:=.type "tuple",data:=.seq (ord.map fun i:Nat=>rawInt i).toArray }) a so es ep t:=hs.at fun o e=>q_c _ e
  refine q_b ?_
  unfold setEpoch
  refine q_b (wpAny_setState_of hs1.get hs1.data hs1.fits (q_e ?_))
  refine q_b (m:=newFields _ _) (wpAny_newObj_type ?_ (by size_fits))
  refine q_e ⟨_,rfl,"set_iterator",_,⟨_,q_k _ rfl,rfl⟩,Ft.slot_si_next.lookup,?_⟩
  rw [Heap.size_push]
  exact h2 hd.1 hd.2.1 ord d po
 ·rw [if_neg hd]
  refine q_b (q_e ?_)
  refine q_b ?_
  unfold setEpoch
  refine q_b (wpAny_setState_of hs.get hs.data hs.fits (q_e ?_))
  refine q_b (m:=newFields _ _) (wpAny_newObj_type ?_ (by size_fits))
  refine q_e ⟨_,rfl,"set_iterator",_,⟨_,q_k _ rfl,rfl⟩,Ft.slot_si_next.lookup,?_⟩
  refine h1 ?_
  cases hb:byT w
  · right
    rw [hb] at hd
    cases hp:t.plain
    ·right
     rw [hp] at hd
     simp only [Bool.not_false,Bool.true_and,q_C] at hd
     omega
    ·exact .inl rfl
  · exact .inl rfl
end
end VI
end
section
set_option maxRecDepth 100000
namespace VI
open PySem PySem.Spec PyProof.Rows L2
section
variable {prog:Program} {w:World} {A:Around} {E:Value->Shared->Prop} {s:Shared} {I a:Addr} {so:Obj} {es:Array (Int×Value)} {ep:Nat} {t:SetTable} {i:Nat}
theorem JPv (hh:A.handled=none) (hne:a≠I) (hB:byT w=true):Walks prog w A I [I,a] [I] (pickOrder (w.params.setOrder a ep) es).size (fun i v=>((pickOrder (w.params.setOrder a ep) es)[i]?).map (·.2)=some v) (fun i h=>IsSI h I (rawInt 0) i a es.size ep/\SetAt h a so es ep t) where
 sub:=fun b hb=>by simp at hb;simp [hb]
 frame:=fun _ _ _ st hk=>⟨st.1.at fun o e=>hk I (by simp) o e,st.2.at fun o e=>hk a (by simp) o e⟩
 item:=fun i s Q E hi st hQ=>by
  have hg:(pickOrder (w.params.setOrder a ep) es)[i]? = some (pickOrder (w.params.setOrder a ep) es)[i]:=Array.getElem?_eq_getElem hi
  refine JC5 (slot:=0) (nxt:=0) (x:=((pickOrder (w.params.setOrder a ep) es)[i]).2) st.1 st.2 (fun Q' E' q=>JHU st.2 hB (by rw [hg];exact q)) fun h' st' sb=>?_
  exact hQ _ h' s.toks (by rw [hg];rfl) ⟨st',st.2.at fun o e=>(sb.2 a hne).trans e⟩ fun b o hb e=>(sb.2 b fun z=>hb (by simp [z])).trans e
 done:=fun s Q E st hQ=>by
  refine JDI (slot:=0) hh st.1 st.2 (fun Q' E' q=>JHU st.2 hB (by rw [Array.getElem?_eq_none (q_t _)];exact q)) fun h' hk=>?_
  exact hQ h' s.toks fun b o hb e=>hk b o (fun z=>hb (by simp [z])) e
 self:=fun _ s _ _ st hQ=>by
  refine wpAny_pyIter_slot st.1.ty Ft.slot_si_iter (wpAny_call_entry Ft.slot_si_iter st.1.ty Ft.entry_si_iter ?_ (Ft.args_si_iter_1 _))
  show wpAny _ _ (ret (.ref I)) _ _ s
  exact q_e ⟨_,rfl,"set_iterator",_,st.1.ty,Ft.slot_si_next.lookup,hQ⟩
theorem JML {T:Addr} {to:Obj} {c:Nat} {ord:List Nat} (hh:A.handled=none) (hne:a≠I) (hnT:T≠I) (hTd:to.data=.seq (ord.map fun i:Nat=>rawInt i).toArray c) (ho:ord.Perm (List.range es.size)) :
  Walks prog w A I [I,a,T] [I] es.size (fun i v=>(ord[i]?.bind fun p=>es[p]?).map (·.2)=some v) (fun i h=>IsSI h I (.ref T) i a es.size ep/\SetAt h a so es ep t/\h.get? T=some to) where
 sub:=fun b hb=>by simp at hb;simp [hb]
 frame:=fun _ _ _ st hk=>⟨st.1.at fun o e=>hk I (by simp) o e,st.2.1.at fun o e=>hk a (by simp) o e,hk T (by simp) _ st.2.2⟩
 item:=fun i s Q E hi st hQ=>by
  have hl:ord.length=es.size:=by rw [ho.length_eq,List.length_range]
  have hi':i<ord.length:=by omega
  have hp:ord[i]<es.size:=List.mem_range.mp (ho.mem_iff.mp (List.getElem_mem hi'))
  have g1:ord[i]? = some ord[i]:=q_q hi'
  have g2:es[ord[i]]? = some es[ord[i]]:=Array.getElem?_eq_getElem hp
  refine JDh (place:=ord[i]) (z:=(es[ord[i]]).1) (x:=(es[ord[i]]).2) st.1 st.2.1 st.2.2 hTd (by simp [g1]) g2 fun h' st' sb=>?_
  exact hQ _ h' s.toks (by rw [g1,Option.bind_some,g2];rfl) ⟨st',st.2.1.at fun o e=>(sb.2 a hne).trans e,(sb.2 T hnT).trans st.2.2⟩ fun b o hb e=>(sb.2 b fun z=>hb (by simp [z])).trans e
 done:=fun s Q E st hQ=>by
  have hl:ord.length=es.size:=by rw [ho.length_eq,List.length_range]
  refine JFD hh st.1 st.2.1 st.2.2 hTd (by simp;omega) fun h' hk=>?_
  exact hQ h' s.toks fun b o hb e=>hk b o (fun z=>hb (by simp [z])) e
 self:=fun _ s _ _ st hQ=>by
  refine wpAny_pyIter_slot st.1.ty Ft.slot_si_iter (wpAny_call_entry Ft.slot_si_iter st.1.ty Ft.entry_si_iter ?_ (Ft.args_si_iter_1 _))
  show wpAny _ _ (ret (.ref I)) _ _ s
  exact q_e ⟨_,rfl,"set_iterator",_,st.1.ty,Ft.slot_si_next.lookup,hQ⟩
theorem JKu {xs:Array Nat} (h:xs.size<=1):SetTable.below xs 0=0:=by
 unfold SetTable.below
 obtain e | e:xs.size=0\/xs.size=1:=by omega
 ·rw [e];rfl
 ·rw [e]
  simp [SetTable.below.go]
theorem JOs {xs:Array Nat} {j:Nat} (h:xs.size=1) (hj:xs[0]? = some j):SetTable.below xs (j+1)=1:=by
 unfold SetTable.below
 rw [h]
 simp [SetTable.below.go,Array.getD_eq_getD_getElem?,hj]
theorem W_one (hh:A.handled=none) (hne:a≠I) (hB:byT w=false) (he:es.size<=1) (hl:t.led=true) (hf:t.place.size=es.size) :
  Walks prog w A I [I,a] [I] es.size (fun i v=>es[i]?.map (·.2)=some v) (fun i h=>∃slot:Nat,IsSI h I (rawInt slot) i a es.size ep/\SetAt h a so es ep t/\((i=0/\slot=0)\/(i=1/\∃j,t.place[0]? = some j/\slot=j+1))) where
 sub:=fun b hb=>by simp at hb;simp [hb]
 frame:=fun _ _ _ ⟨slot,st1,st2,st3⟩ hk=>⟨slot,st1.at fun o e=>hk I (by simp) o e,st2.at fun o e=>hk a (by simp) o e,st3⟩
 item:=fun i s Q E hi ⟨slot,st1,st2,st3⟩ hQ=>by
  have i0:i=0:=by omega
  subst i0
  have s0:slot=0:=by
   rcases st3 with ⟨_,z⟩ | ⟨z,_⟩
   ·exact z
   ·cases z
  subst s0
  have hp:0<t.place.size:=by omega
  have g1:es[0]? = some es[0]:=Array.getElem?_eq_getElem hi
  have g2:t.place[0]? = some t.place[0]:=Array.getElem?_eq_getElem hp
  refine JC5 (slot:=0) (nxt:=t.place[0]+1) (x:=(es[0]).2) st1 st2 (fun Q' E' q=>JLg st2 hB he hl (by rw [JKu (by omega),g1,g2];exact q)) fun h' st' sb=>?_
  exact hQ _ h' s.toks (by rw [g1];rfl) ⟨_,st',st2.at fun o e=>(sb.2 a hne).trans e,.inr ⟨rfl,_,g2,rfl⟩⟩ fun b o hb e=>(sb.2 b fun z=>hb (by simp [z])).trans e
 done:=fun s Q E ⟨slot,st1,st2,st3⟩ hQ=>by
  refine JDI (slot:=slot) hh st1 st2 (fun Q' E' q=>JLg st2 hB he hl ?_) fun h' hk=>hQ h' s.toks fun b o hb e=>hk b o (fun z=>hb (by simp [z])) e
  rcases st3 with ⟨z,rfl⟩ | ⟨z,j,g,rfl⟩
  ·rw [JKu (by omega),Array.getElem?_eq_none (by omega)];exact q
  ·rw [JOs (by omega) g,Array.getElem?_eq_none (by omega)];exact q
 self:=fun _ s _ _ ⟨slot,st1,st2,st3⟩ hQ=>by
  refine wpAny_pyIter_slot st1.ty Ft.slot_si_iter (wpAny_call_entry Ft.slot_si_iter st1.ty Ft.entry_si_iter ?_ (Ft.args_si_iter_1 _))
  show wpAny _ _ (ret (.ref I)) _ _ s
  exact q_e ⟨_,rfl,"set_iterator",_,st1.ty,Ft.slot_si_next.lookup,hQ⟩
abbrev hL (s:Shared):Heap:=s.heap.push { cls:=.type "list",data:=.seq ([]:List Value).toArray }
abbrev siO (first:Value) (a:Addr) (n ep:Nat):Obj:={ cls:=.type "set_iterator",data:=.fields #[first,rawInt 0,.ref a,rawInt n,rawInt ep] }
theorem itep {α:Type} {c:Prop} [Decidable c] {m1 m2:Sem α} {Q:α->Shared->Prop} (hc:c) (h:wpAny (model prog w) A m1 Q E s):wpAny (model prog w) A (if c then m1 else m2) Q E s:=by rw [if_pos hc];exact h
theorem JGD (hT:s.TypeIs (.ref a) "set") {Q:Bool->Shared->Prop} (h:Q false s):wpAny (model prog w) A (Builtin.List.listLengthHint (.ref a)) Q E s:=by
 unfold Builtin.List.listLengthHint
 refine q_b (wpAny_specialOf hT Ft.len_set ?_)
 (generalize hid:("set.__len__":String)=id0;(fail_if_success (clear hid id0));wp_delta;rw [show splitId id0=some ("set","__len__") from by subst hid;decide +kernel];subst hid)
 refine q_b (wpAny_isInstance (b:=true) hT (by rw [isSubtype_type];kernel_rfl) ?_)
 rw [if_neg (by decide)]
 dsimp only
 refine itep (by decide +kernel) ?_
 refine q_b (wpAny_typeOf hT ?_)
 exact q_e h
theorem JDd {S:Addr} {fp:List Addr} {n:Nat} {P:Nat->Value->Prop} {St:Nat->Heap->Prop} {R:Result->Shared->Prop} {res:Value} (W:Walks prog w A.in1 I fp [I] n P St) (hn:n<=sizeLine) (hst:St 0 s.heap) (hSf:S ∉ fp)
  (hS:s.heap.get? S=some { cls:=.type "list",data:=.seq ([]:List Value).toArray })
  (hR:∀h' tk acc' c',(∀b o,b≠S->b≠I->s.heap.get? b=some o->h'.get? b=some o)->h'.get? S=some { cls:=.type "list",dict:=none,data:=.seq acc' c',slots:=#[] }->ItemsOf P acc' n->R (.ok (.ret res)) { s with heap:=h',toks:=tk }) :
  wpAny (model prog w) A.in1 (rule "list.extend.makes-room" >>= fun _=>Builtin.List.listTouch (.ref S) >>= fun _=>again (.builtin "list.extend.loop" ⟨[.ref S,.ref I,res],[]⟩))
    (fun fin s'=>match fin with | .done f=>R (.ok f) s' | .again c'=>c'.quiet=true/\codeAny (model prog w) A c' R s') (fun e s'=>R (.error e) s') s:=by
 refine q_b (wpAny_rule ?_)
 refine q_b ?_
 show wpAny _ A.in1 (updateSeq S (·.push .none) >>= fun _=>updateSeq S (·.pop)) _ _ _
 refine q_b (wpAny_updateSeq hS rfl ?_)
 have hS₂:=Heap.get?_update_self (Obj.mapSeq (·.push Value.none)) hS rfl
 refine wpAny_updateSeq hS₂ rfl ?_
 have hS₃:=Heap.get?_update_self (Obj.mapSeq (·.pop)) hS₂ rfl
 have oth:∀b o,b≠S->s.heap.get? b=some o->((s.heap.update S (Obj.mapSeq (·.push Value.none))).update S (Obj.mapSeq (·.pop))).get? b=some o :=
  fun b o hb e=>(Heap.get?_update_other _ _ (Ne.symm hb)).trans ((Heap.get?_update_other _ _ (Ne.symm hb)).trans e)
 have hst2:St 0 ((s.heap.update S (Obj.mapSeq (·.push Value.none))).update S (Obj.mapSeq (·.pop))):=W.frame 0 _ _ hst fun b hb o e=>oth b o (fun h=>hSf (h▸hb)) e
 refine q_e ⟨plainId_quiet PySem.F.plain_extend_loop _,codeAny_extend_loopS W.toS hn S hSf res n 0 _ _ _ rfl (Nat.zero_le _) hst2 hS₃ (ItemsOf.nil P) fun s' acc' c' hm hS' hacc=>?_⟩
 have e:=Moved.eq_with hm
 rw [e]
 refine hR s'.heap s'.toks acc' c' (fun b o hb hbI e=>hm.heap b o (fun hmem=>?_) (oth b o hb e)) hS' hacc
 rcases q_n.mp hmem with e' | hmem
 ·exact hb e'
 ·exact hbI (List.mem_singleton.mp hmem)
theorem JCS {R:Result->Shared->Prop} (hh:A.handled=none) (hs:SetAt s.heap a so es ep t) (hz:es.size<=100) (hc:byT w=false->t.led=true/\(es.size<=1\/t.plain=false))
  (fin:∀(h':Heap) (d:Drawn) (tk:Nat) (acc:Array Value) (c:Nat),(∀b o,s.heap.get? b=some o->h'.get? b=some o)->h'.get? s.heap.objs.size=some { cls:=.type "list",dict:=none,data:=.seq acc c,slots:=#[] }->acc.toList.Perm (es.toList.map (·.2)) ->
    R (.ok (.ret (.ref s.heap.objs.size))) { s with heap:=h',drawn:=d,toks:=tk }) :
  codeAny (model prog w) A (.builtin "proto.collect" ⟨[.ref a],[]⟩) R s:=by
 have hlt:a<s.heap.objs.size:=q_h hs.get
 refine codeAny_builtin PySem.F.entry_proto_collect ?_
 rw [Around.under_plainId PySem.F.plain_proto_collect _]
 show wpAny _ A.in1 (newList [] >>= fun l=>again (.builtin "list.__iadd__" ⟨[l,.ref a],[]⟩)) _ _ s
 refine q_b (wpAny_newObj_type ?_)
 refine q_e ⟨plainId_quiet PySem.F.plain_list_iadd _,codeAny_builtin PySem.F.entry_list_iadd ?_⟩
 rw [Around.under_plainId PySem.F.plain_list_iadd _]
 show wpAny _ A.in1 (Builtin.List.listExtendWith (.ref s.heap.objs.size) (.ref a) (.ref s.heap.objs.size)) _ _ _
 unfold Builtin.List.listExtendWith
 have hs1:SetAt (hL s) a so es ep t:=hs.at fun o e=>q_c _ e
 have hT1:∀h',(∀o,(hL s).get? a=some o->h'.get? a=some o)->∀s2:Shared,s2.heap=h'->s2.TypeIs (.ref a) "set":=fun h' k s2 e=>by
  subst e
  exact ⟨so,k _ hs1.get,hs.cls⟩
 refine q_b (wpAny_typeOf (hT1 _ (fun o e=>e) _ rfl) ?_)
 have h1:Builtin.List.listSameRef (.ref s.heap.objs.size) (.ref a)=false:=by simp [Builtin.List.listSameRef,Nat.ne_of_gt hlt]
 have h2:(Value.type "set"==Value.type "list")=false:=by decide
 have h3:(Value.type "set"==Value.type "tuple")=false:=by decide
 simp only [h1,h2,h3,Bool.or_false,q_v,if_false]
 have hS:(hL s).get? s.heap.objs.size=some { cls:=.type "list",data:=.seq ([]:List Value).toArray }:=q_k _ rfl
 have hsz:(hL s).objs.size=s.heap.objs.size+1:=Heap.size_push _ _
 have items:∀ {acc:Array Value} {n:Nat} {P:Nat->Value->Prop} {xs:List Value},ItemsOf P acc n->n=xs.length->(∀i v,P i v->xs[i]? = some v)->acc.toList=xs:=fun {acc n P xs} hi hn hp=>by
  refine List.ext_getElem? fun i=>?_
  by_cases o:i<acc.size
  · have e:acc[i]? = some acc[i]:=Array.getElem?_eq_getElem o
    rw [Array.getElem?_toList,e,hp i _ (hi.2 i _ e)]
  · rw [Array.getElem?_toList,Array.getElem?_eq_none (by omega),List.getElem?_eq_none (by have:=hi.1;omega)]
 refine q_b (JJF hs1 hz (fun ho=>?_) (fun hB hp ord d po=>?_))
 ·have hI:(hL s).objs.size≠s.heap.objs.size:=by rw [hsz];omega
  have hIa:a≠(hL s).objs.size:=by rw [hsz];exact q_l (q_D hlt)
  refine q_b (wpAny_holding (JGD (hT1 _ (fun o e=>q_c _ e) _ rfl) ?_))
  refine itep (by decide +kernel) ?_
  have hSf:s.heap.objs.size ∉ [(hL s).objs.size,a]:=by
    simp only [q_n,List.not_mem_nil,or_false,not_or]
    exact ⟨Ne.symm hI,Nat.ne_of_gt hlt⟩
  have hs2:=hs1.at (h':=(hL s).push (siO (rawInt 0) a es.size ep)) fun o e=>q_c _ e
  have hit:IsSI ((hL s).push (siO (rawInt 0) a es.size ep)) (hL s).objs.size (rawInt 0) ((0:Nat):Int) a es.size ep:=⟨_,q_k _ rfl,rfl,rfl⟩
  cases hB:byT w with
  | true =>
    have pp:=JGk (w.params.setOrder a ep) es
    have hps:(pickOrder (w.params.setOrder a ep) es).size=es.size:=by rw [<-q_E,pp.length_eq,q_E]
    refine JDd (s:={ s with heap:=(hL s).push (siO (rawInt 0) a es.size ep) }) (JPv (A:=A.in1) (so:=so) (es:=es) (ep:=ep) (t:=t) hh hIa hB) (by rw [hps,sizeLine_eq];omega) ⟨hit,hs2⟩ hSf (q_c _ hS) fun h' tk acc c hk hS' hi=>?_
    refine fin h' s.drawn tk acc c (fun b o e=>hk b o (q_l (q_h e)) (by rw [hsz];exact q_l (q_D (q_h e))) (q_c _ (q_c _ e))) hS' ?_
    rw [items (xs:=(pickOrder (w.params.setOrder a ep) es).toList.map (·.2)) hi (by simp) (fun i v e=>by rw [List.getElem?_map,Array.getElem?_toList];exact e)]
    exact pp.map _
  | false =>
    obtain ⟨hl,hc2⟩:=hc hB
    have he:es.size<=1:=by
     rcases ho with z | z | z
     ·rw [hB] at z;cases z
     ·rcases hc2 with z' | z'
      ·exact z'
      ·rw [z] at z';cases z'
     ·exact z
    have hf:t.place.size=es.size:=by
     have:=hs.fits
     simp only [SetTable.fits,q_i,beq_iff_eq] at this
     exact this.1
    refine JDd (s:={ s with heap:=(hL s).push (siO (rawInt 0) a es.size ep) }) (W_one (A:=A.in1) (so:=so) (es:=es) (ep:=ep) (t:=t) hh hIa hB he hl hf) (by rw [sizeLine_eq];omega) ⟨0,hit,hs2,.inl ⟨rfl,rfl⟩⟩ hSf (q_c _ hS) fun h' tk acc c hk hS' hi=>?_
    refine fin h' s.drawn tk acc c (fun b o e=>hk b o (q_l (q_h e)) (by rw [hsz];exact q_l (q_D (q_h e))) (q_c _ (q_c _ e))) hS' ?_
    rw [items (xs:=es.toList.map (·.2)) hi (by simp) (fun i v e=>by rw [List.getElem?_map,Array.getElem?_toList];exact e)]
 ·have hI:(hL s).objs.size+1≠s.heap.objs.size:=by rw [hsz];omega
  have hIa:a≠(hL s).objs.size+1:=by rw [hsz];exact q_l (q_D (q_D hlt))
  obtain ⟨to,eto⟩:∃to:Obj,to={ cls:=.type "tuple",data:=.seq (ord.map fun i:Nat=>rawInt i).toArray }:=⟨_,rfl⟩
  rw [<-eto]
  have k1:∀b o,(hL s).get? b=some o->(((hL s).push to).push (siO (.ref (hL s).objs.size) a es.size ep)).get? b=some o:=fun b o e=>q_c _ (q_c _ e)
  have hfz:to.isFreed=false:=by rw [eto];rfl
  have hTg:(((hL s).push to).push (siO (.ref (hL s).objs.size) a es.size ep)).get? (hL s).objs.size=some to:=q_c _ (q_k _ hfz)
  have hgI:(((hL s).push to).push (siO (.ref (hL s).objs.size) a es.size ep)).get? ((hL s).objs.size+1)=some (siO (.ref (hL s).objs.size) a es.size ep):=by
    have:=q_k (o:=siO (.ref (hL s).objs.size) a es.size ep) ((hL s).push to) rfl
    rwa [show ((hL s).push to).objs.size=(hL s).objs.size+1 from Heap.size_push _ _] at this
  refine q_b (wpAny_holding (JGD (hT1 _ (fun o e=>k1 a o e) _ rfl) ?_))
  refine itep (by decide +kernel) ?_
  have hSf:s.heap.objs.size ∉ [(hL s).objs.size+1,a,(hL s).objs.size]:=by
    simp only [q_n,List.not_mem_nil,or_false,not_or]
    exact ⟨Ne.symm hI,Nat.ne_of_gt hlt,by rw [hsz];omega⟩
  have hs2:=hs1.at (h':=((hL s).push to).push (siO (.ref (hL s).objs.size) a es.size ep)) fun o e=>k1 a o e
  have hit:IsSI (((hL s).push to).push (siO (.ref (hL s).objs.size) a es.size ep)) ((hL s).objs.size+1) (.ref (hL s).objs.size) ((0:Nat):Int) a es.size ep:=⟨_,hgI,rfl,rfl⟩
  have hTd:to.data=.seq (ord.map fun i:Nat=>rawInt i).toArray 0:=by rw [eto]
  refine JDd (s:={ s with drawn:=d,heap:=((hL s).push to).push (siO (.ref (hL s).objs.size) a es.size ep) }) (JML (A:=A.in1) (so:=so) (es:=es) (ep:=ep) (t:=t) hh hIa (q_l (Nat.lt_succ_self _)) hTd po) (by rw [sizeLine_eq];omega) ⟨hit,hs2,hTg⟩ hSf (k1 _ _ hS) fun h' tk acc c hk hS' hi=>?_
  refine fin h' d tk acc c (fun b o e=>hk b o (q_l (q_h e)) (by rw [hsz];exact q_l (q_D (q_D (q_h e)))) (k1 b o (q_c _ e))) hS' ?_
  have hl:ord.length=es.size:=by rw [po.length_eq,List.length_range]
  have hb:∀p∈ord,p<es.size:=fun p hp=>List.mem_range.mp (po.mem_iff.mp hp)
  have e0:∀(l:List Nat),(∀p∈l,p<es.size)->∀(i:Nat) (v:Value),(l[i]?.bind fun p:Nat=>es[p]?).map (fun e:Int×Value=>e.2)=some v->(l.filterMap fun p=>es[p]?.map (·.2))[i]? = some v:=by
    intro l
    induction l with
    | nil=>intro _ i v e;simp at e
    | cons p l ih =>
     intro h i v e
     have g:=Array.getElem?_eq_getElem (h p (by simp))
     rw [List.filterMap_cons_some (b:=(es[p]'(h p (by simp))).2) (by rw [g];rfl)]
     cases i with
     | zero=>simpa [g] using e
     | succ i=>simpa using ih (fun q hq=>h q (by simp [hq])) i v (by simpa using e)
  have e1:∀(l:List Nat),(∀p∈l,p<es.size)->(l.filterMap fun p=>es[p]?.map (·.2)).length=l.length:=by
    intro l
    induction l with
    | nil=>intro _;rfl
    | cons p l ih =>
     intro h
     have g:=Array.getElem?_eq_getElem (h p (by simp))
     rw [List.filterMap_cons_some (b:=(es[p]'(h p (by simp))).2) (by rw [g];rfl),List.length_cons,List.length_cons,ih fun q hq=>h q (by simp [hq])]
  rw [items (xs:=ord.filterMap fun p=>es[p]?.map (·.2)) hi (by rw [e1 ord hb,hl]) (e0 ord hb)]
  refine (po.filterMap _).trans ?_
  have:(List.range es.size).filterMap (fun p=>es[p]?.map (·.2))=es.toList.map (·.2):=by
    refine List.ext_getElem? fun i=>?_
    by_cases o:i<es.size
    ·have hx:=e0 (List.range es.size) (fun p hp=>List.mem_range.mp hp) i (es[i]).2 (by simp [o])
     rw [hx]
     simp [o]
    ·rw [List.getElem?_eq_none (by rw [e1 _ (fun p hp=>List.mem_range.mp hp),List.length_range];omega),List.getElem?_eq_none (by simp;omega)]
  rw [this]
theorem JFW {Q:List Value->Shared->Prop} (hh:A.handled=none) (hs:SetAt s.heap a so es ep t) (hz:es.size<=100) (hc:byT w=false->t.led=true/\(es.size<=1\/t.plain=false))
  (hQ:∀h' d tk (vs:List Value),(∀b o,s.heap.get? b=some o->h'.get? b=some o)->vs.Perm (es.toList.map (·.2))->Q vs { s with heap:=h',drawn:=d,toks:=tk }) :
  wpAny (model prog w) A (collect (.ref a)) Q E s:=by
 unfold collect
 refine q_b (wpAny_runValue (JCS hh hs hz hc fun h' d tk acc c hk hS' hp=>?_))
 show wpAny _ A (load s.heap.objs.size >>= _) _ _ _
 refine q_b (wpAny_load hS' ?_)
 exact q_e (hQ h' d tk _ hk hp)
end
end VI
end
section
set_option maxRecDepth 100000
namespace VI
open PySem PySem.Spec PyProof.Rows L2
theorem JGv (t:SetTable) (es:Array (Int×Value)) (h:Int) (x:Value):(layNew t es h x).2.1.led=t.led:=by
 unfold layNew
 split
 ·dsimp only [SetTable.put,SetTable.orStandIn]
  split<;>first | rfl | (split<;>rfl)
 ·rfl
theorem JIL (t:SetTable) (es:Array (Int×Value)) (n:Nat):(relayAll t es n).2.1.led=t.led/\(t.plain=false->(relayAll t es n).2.1.plain=false):=by
 unfold relayAll
 split
 ·rename_i t' order e
  have ht:t'.led=t.led/\t'.plain=t.plain:=by
   unfold SetTable.relaid SetTable.laid at e
   simp only [Option.bind_eq_bind,q_a,Option.pure_def,q_j,Prod.mk.injEq] at e
   obtain ⟨_,_,rfl,_⟩:=e
   exact ⟨rfl,rfl⟩
  dsimp only
  split
  ·exact ⟨ht.1,fun h=>ht.2.trans h⟩
  ·exact ⟨rfl,fun _=>rfl⟩
 ·exact ⟨rfl,fun _=>rfl⟩
def keyOf:Int×Value->Str
 |(_,.str s _)=>s
 | _=>""
structure TSet (prog:Program) (w:World) (h:Heap) (a:Addr) (so:Obj) (es:Array (Int×Value)) (ep:Nat) (t:SetTable) (l:List Str):Prop where
 at':SetAt h a so es ep t
 ex:so.ExactSet
 el:ElemsOf (strKind prog w) es.toList
 nd:(es.toList.map keyOf).Nodup
 mem:∀k,k∈es.toList.map keyOf↔k∈l
 sz:es.size<=l.length
 led:byT w=false->t.led=true/\(es.size=0\/t.plain=false)
def TS (prog:Program) (w:World) (h:Heap) (a:Addr) (l:List Str):Prop:=∃so es ep t,TSet prog w h a so es ep t l
theorem TS.at {prog:Program} {w:World} {h h':Heap} {a:Addr} {l:List Str} (x:TS prog w h a l) (e:∀o,h.get? a=some o->h'.get? a=some o):TS prog w h' a l :=
 let ⟨so,es,ep,t,y⟩:=x;⟨so,es,ep,t,y.at'.at e,y.ex,y.el,y.nd,y.mem,y.sz,y.led⟩
section
variable {prog:Program} {w:World} {A:Around} {E:Value->Shared->Prop} {s:Shared} {a:Addr} {so:Obj} {es:Array (Int×Value)} {ep:Nat} {t:SetTable} {l:List Str} {k:Str} {tk:Tok}
theorem JGU {e:Int×Value} {l:List (Int×Value)} (h:ElemsOf (strKind prog w) l) (he:e∈l):(strKind prog w).is (keyOf e) e.2=true/\e.1=(strKind prog w).hash (keyOf e):=by
 obtain ⟨⟨k,h1,h2⟩,_⟩:=h e he
 obtain ⟨u,hu⟩:=Value.isStrOf_shape h1
 obtain ⟨e1,e2⟩:=e
 simp only at hu h1 h2
 subst hu
 exact ⟨h1,h2⟩
theorem el_is {e:Int×Value} {l:List (Int×Value)} (h:ElemsOf (strKind prog w) l) (he:e∈l) {k:Str}:(strKind prog w).is k e.2=true↔k=keyOf e :=
 ⟨fun z=>(strKind prog w).inj _ _ _ z (JGU h he).1,fun z=>z▸(JGU h he).1⟩
theorem JGF {g:Bool->Sem Unit} (hg:∀(b:Bool) (s₁:Shared) (Q':Unit->Shared->Prop),Q' () s₁->wpAny (model prog w) A (g b) Q' E s₁)
  (ho:s.heap.get? a=some so) (hd:so.data=.set es ep t)
  {es1:Array (Int×Value)} {t2:SetTable} (hb1:es1.size<scanBound) (hf2:t2.fits es1.size=true) (hp2:t2.plain=false) {wasDummy:Bool} {R:Option Bool->Shared->Prop}
  (h:∀h' so' es' ep' t',Heap.SameBut a s.heap h'->h'.get? a=some so'->so'.cls=so.cls/\so'.dict=so.dict/\so'.slots=so.slots->so'.data=.set es' ep' t'->es'.toList.Perm es1.toList->t'.fits es'.size=true->t'.led=t2.led->t'.plain=false->R (some true) { s with heap:=h' }) :
  wpAny (model prog w) A (do
     storeSet a es1 t2
     if (!wasDummy&&t2.tooFull)=true then do
       g (relayAll t2 es1 (SetTable.grown es1.size)).2.2
       storeSet a (relayAll t2 es1 (SetTable.grown es1.size)).1 (relayAll t2 es1 (SetTable.grown es1.size)).2.1
       pure (some true)
      else pure (some true)) R E s:=by
 refine q_b (wpAny_storeSet_of ho hd ?_ (fits_of_scanBound hb1))
 have g1:(s.heap.update a (Obj.putSet es1 t2)).get? a=some { so with data:=.set es1 (ep+1) t2 }:=by
  have:=Heap.get?_update_self (Obj.putSet es1 t2) ho (by rw [putSet_of es1 t2 hd];rfl)
  rw [putSet_of es1 t2 hd] at this;exact this
 have hsb1:=Heap.SameBut.update s.heap a (Obj.putSet es1 t2)
 split
 ·have hp:=relayAll_perm t2 es1 (SetTable.grown es1.size)
  have hfr:=relayAll_fits t2 es1 (SetTable.grown es1.size)
  have hlr:=JIL t2 es1 (SetTable.grown es1.size)
  generalize hRl:relayAll t2 es1 (SetTable.grown es1.size)=Rl at hp hfr hlr ⊢
  obtain ⟨es2,t3,gave2⟩:=Rl
  dsimp only at hp hfr hlr ⊢
  have hsz:es2.size=es1.size:=by rw [<-q_E,hp.length_eq,q_E]
  have hb2:es2.size<scanBound:=by rw [hsz];exact hb1
  refine q_b (hg _ _ _ ?_)
  refine q_b (wpAny_storeSet_of g1 rfl ?_ (fits_of_scanBound hb2))
  have g2:((s.heap.update a (Obj.putSet es1 t2)).update a (Obj.putSet es2 t3)).get? a=some { so with data:=.set es2 (ep+1+1) t3 }:=by
    have:=Heap.get?_update_self (Obj.putSet es2 t3) g1 (by rw [putSet_of es2 t3 rfl];rfl)
    rw [putSet_of es2 t3 rfl] at this;exact this
  exact q_e (h _ _ _ _ _ (hsb1.trans (Heap.SameBut.update _ a _)) g2 ⟨rfl,rfl,rfl⟩ rfl hp hfr hlr.1 (hlr.2 hp2))
 ·exact q_e (h _ _ _ _ _ hsb1 g1 ⟨rfl,rfl,rfl⟩ rfl (List.Perm.refl _) hf2 rfl hp2)
theorem JNF {Q:Bool->Shared->Prop} (hS:TS prog w s.heap a l) (hr:l.length+1<scanBound)
  (h:∀h' b,Heap.SameBut a s.heap h'->TS prog w h' a (l++[k])->Q b { s with heap:=h' }):wpAny (model prog w) A (setAddHashed a (.str k tk) ((strKind prog w).hash k)) Q E s:=by
 obtain ⟨so,es,ep,t,T⟩:=hS
 have hkey:=strKind_is prog w k tk
 have hsc:(Value.str k tk).scannable=true:=rfl
 have ho:=T.at'.get
 have hd:=T.at'.data
 have hf:=T.at'.fits
 have hel:=T.el
 have hb:es.size<scanBound:=by have:=T.sz;omega
 unfold setAddHashed setAddHashedIn
 refine wpAny_holding (q_b (wpAny_setState_of ho hd hf ?_))
 dsimp only
 rw [byScan_of hsc hb hel]
 simp only [↓reduceIte]
 unfold setAddByScan
 refine q_b ?_
 refine q_b (wpAny_rule ?_)
 refine q_b (wpAny_setScan_of hkey ho hd hf hel ?_)
 cases hr':List.findIdx? (fun e=>(strKind prog w).is k e.2) es.toList with
 | some j =>
  dsimp only
  obtain ⟨hj,hpj,_⟩:=List.findIdx?_eq_some_iff_getElem.mp hr'
  have hk:k∈l:=(T.mem k).mp (List.mem_map.mpr ⟨_,List.getElem_mem hj,((el_is hel (List.getElem_mem hj)).mp hpj).symm⟩)
  refine q_e (q_e ?_)
  have e:s={ s with heap:=s.heap }:=by cases s;rfl
  rw [e]
  refine h s.heap _ (Heap.SameBut.refl a s.heap) ⟨so,es,ep,t,T.at',T.ex,T.el,T.nd,fun k'=>?_,by have:=T.sz;simp only [q_u,List.length_cons,List.length_nil];omega,T.led⟩
  rw [T.mem k',List.mem_append,List.mem_singleton]
  exact ⟨.inl,fun z=>z.elim id fun z=>z▸hk⟩
 | none =>
  dsimp only
  have hk:k ∉ es.toList.map keyOf:=fun z=>by
    obtain ⟨e,he,rfl⟩:=List.mem_map.mp z
    have:=List.findIdx?_eq_none_iff.mp hr' e he
    rw [(JGU hel he).1] at this;cases this
  have hgw:∀(b:Bool) {s₁:Shared} {Q':Unit->Shared->Prop},Q' () s₁->wpAny (model prog w) A (match b with | true=>rule "set.scan.the-table-gave-way" | false=>pure ()) Q' E s₁ :=
    fun b s₁ Q' hq=>by cases b<;>first | exact q_e hq | exact wpAny_rule hq
  have hperm:=layNew_perm t es ((strKind prog w).hash k) (.str k tk)
  have hfits:=layNew_fits t es ((strKind prog w).hash k) (.str k tk)
  have hled:=JGv t es ((strKind prog w).hash k) (.str k tk)
  generalize hL:layNew t es ((strKind prog w).hash k) (.str k tk)=L at hperm hfits hled ⊢
  obtain ⟨es1,t1,wasDummy,gave⟩:=L
  dsimp only at hperm hfits hled ⊢
  rw [Array.toList_push] at hperm
  have hb1':es1.size<scanBound:=by
    rw [<-q_E,hperm.length_eq,q_u,q_E]
    have:=T.sz
    simp only [List.length_cons,List.length_nil];omega
  refine q_b (hgw _ ?_)
  have hend:∀h' so' es' ep' t',Heap.SameBut a s.heap h'->h'.get? a=some so'->so'.cls=so.cls/\so'.dict=so.dict/\so'.slots=so.slots->so'.data=.set es' ep' t'->es'.toList.Perm es1.toList->t'.fits es'.size=true->t'.led=t1.led->t'.plain=false->Q true { s with heap:=h' }:=by
    intro h' so' es' ep' t' hsb hg hc hd' hp hf' hl' hpl
    have pk:(es'.toList.map keyOf).Perm (es.toList.map keyOf++[k]):=by
     have:=(hp.trans hperm).map keyOf
     rwa [List.map_append] at this
    refine h h' _ hsb ⟨so',es',ep',t',⟨hg,hc.1.trans T.at'.cls,hd',hf'⟩,⟨hc.1.trans T.ex.1,hc.2.1.trans T.ex.2.1,hc.2.2.trans T.ex.2.2⟩,(hel.push hkey hsc).perm (hp.trans hperm),?_,fun k'=>?_,?_,fun hB=>⟨hl'.trans (hled.trans (T.led hB).1),.inr hpl⟩⟩
    ·rw [pk.nodup_iff,List.nodup_append]
     exact ⟨T.nd,by simp,fun x hx y hy e=>hk (by rw [List.mem_singleton.mp hy] at e;exact e▸hx)⟩
    ·rw [pk.mem_iff,List.mem_append,List.mem_append,T.mem k']
    ·have:=T.sz
     rw [<-q_E,(hp.trans hperm).length_eq,q_u,q_u,q_E]
     simp only [List.length_cons,List.length_nil];omega
  split
  · refine q_b ?_
    rw [hashByValue_scannable 8 hsc]
    refine q_e ?_
    rw [show plainKind (.str k tk)=false from rfl]
    refine JGF (so:=so) (es:=es) (ep:=ep) (t:=t) ?_ ho hd hb1' ?_ ?_ ?_
    ·intro b s₁ Q' hq;cases b<;>first | exact q_e hq | exact wpAny_rule hq
    ·exact SetTable.fits_plain_off hfits
    ·rfl
    ·intro h' so' es' ep' t' a1 a2 a3 a4 a5 a6 a7 a8;dsimp only;exact q_e (hend h' so' es' ep' t' a1 a2 a3 a4 a5 a6 a7 a8)
  · rename_i hpl
    refine q_b (q_e ?_)
    simp only [↓reduceIte]
    refine JGF (so:=so) (es:=es) (ep:=ep) (t:=t) ?_ ho hd hb1' hfits ?_ ?_
    ·intro b s₁ Q' hq;cases b<;>first | exact q_e hq | exact wpAny_rule hq
    ·simpa using hpl
    ·intro h' so' es' ep' t' a1 a2 a3 a4 a5 a6 a7 a8;dsimp only;exact q_e (hend h' so' es' ep' t' a1 a2 a3 a4 a5 a6 a7 a8)
theorem JM4 (x:Value) {Q₁:Value->Shared->Prop}
  (h:Q₁ (.ref s.heap.objs.size) { s with heap:=s.heap.push { cls:=.type "set",dict:=none,data:=.set #[] 0 (.fresh 0 0 (!byT w)) } }) :
  codeAny (model prog w) A (.call (.builtin "set.__new__") ⟨[.type "set",x],[]⟩) (wants Q₁ E) s:=by
 refine codeAny_of_tree ?_
 show wpAny _ A.in1 (do checkBuiltinCall "set.__new__" ⟨[.type "set",x],[]⟩;again (.builtin "set.__new__" ⟨[.type "set",x],[]⟩)) _ _ s
 refine q_b (wpAny_of_eq (PySem.F.newCall_set_1 x) (q_e ⟨plainId_quiet PySem.F.plain_set_new _,codeAny_builtin PySem.F.entry_set_new ?_⟩))
 rw [Around.under_plainId PySem.F.plain_set_new _]
 unfold Builtin.«set.__new__» Builtin.Frozenset.newClass
 have hsub:=sub_set_self
 obtain ⟨hp,g,d,tk,os⟩:=s
 dsimp only
 wp_walk
 refine wpAny_askSetting (q_e ?_)
 dsimp only
 simp only [newObj]
 refine q_b (wpAny_alloc (q_e ?_))
 exact q_e h
theorem JJw {I:Addr} {fp wr:List Addr} {G:Array GenState->Array GenState->Prop} {n:Nat} {P:Nat->Value->Prop} {St:Nat->Shared->Prop} {R:Result->Shared->Prop}
  (W:WalksS prog w A.in1 I fp wr G n P St) (S:Addr) (hSf:S ∉ fp) (xs:List Str) (hn:xs.length=n) (hval:∀(i:Nat) v,P i v->∃k t,xs[i]? = some k/\v=.str k t) (hb:n+1<scanBound) :
  ∀(k i:Nat) (s:Shared),n - i=k->i<=n->St i s->TS prog w s.heap S (xs.take i) ->
    (∀s',Moved (S::wr) G s s'->TS prog w s'.heap S xs->R (.ok (.ret .none)) s') ->
    codeAny (model prog w) A (.builtin "set.update.loop" ⟨[.ref S,.ref I],[]⟩) R s:=by
 have hSw:S ∉ wr:=fun h=>hSf (W.sub _ h)
 have hsub:∀b∈wr,b∈S::wr:=fun b hb=>q_s _ hb
 intro k
 induction k with
 | zero =>
  intro i s hk hi hst hS hR
  have hin:i=n:=by omega
  subst hin
  refine codeAny_builtin PyProof.Rows.F.entry_set_update_loop ?_
  rw [Around.under_plainId PyProof.Rows.F.plain_set_update_loop _]
  show wpAny _ A.in1 (pyNext (.ref I) >>= _) _ _ s
  refine q_b (W.done s _ _ hst fun s' hm=>?_)
  show wpAny _ A.in1 (ret Value.none) _ _ s'
  rw [<-hn,List.take_length] at hS
  exact q_e (hR s' (hm.mono hsub) (hS.at fun o e=>hm.heap S _ hSw e))
 | succ k ih =>
  intro i s hk hi hst hS hR
  have hlt:i<n:=by omega
  refine codeAny_builtin PyProof.Rows.F.entry_set_update_loop ?_
  rw [Around.under_plainId PyProof.Rows.F.plain_set_update_loop _]
  show wpAny _ A.in1 (pyNext (.ref I) >>= _) _ _ s
  refine q_b (W.item i s _ _ hlt hst fun v s' hP hst' hm=>?_)
  obtain ⟨x,t,hx,rfl⟩:=hval i v hP
  have hS':TS prog w s'.heap S (xs.take i):=hS.at fun o e=>hm.heap S _ hSw e
  show wpAny _ A.in1 (holding [Value.str x t] (setAdd S (.str x t)) >>= _) _ _ s'
  refine q_b (wpAny_holding ?_)
  unfold setAdd
  refine wpAny_holding ?_
  refine q_b ((strKind prog w).pyHash (k:=x) (strKind_is _ _ _ _) ?_)
  refine JNF (s:={ s' with toks:=s'.toks+1 }) hS' (by rw [List.length_take];omega) fun h' b hsb hS2=>?_
  have hSi:TS prog w h' S (xs.take (i+1)):=by
    rw [List.take_succ,hx];exact hS2
  refine q_e ⟨plainId_quiet PyProof.Rows.F.plain_set_update_loop _,ih (i+1) _ (by omega) hlt (W.frame _ s' _ _ hst' (Nat.le_succ _) fun b hb o e=>?_) hSi fun s'' hm'' hS''=>?_⟩
  · rw [hsb.2 b (fun h:b=S=>hSf (by rw [<-h];exact hb))];exact e
  · refine hR s'' (Moved.trans W.gtrans ((hm.mono hsub).then_heap (Nat.le_succ _) fun b o hb e=>?_) hm'') hS''
    rw [hsb.2 b (fun h:b=S=>hb (by rw [h];exact List.mem_cons_self))];exact e
set_option maxHeartbeats 3200000 in
theorem JD8 {l:Addr} {items:Array Value} {xs:List Str} {Q:Value->Shared->Prop}
  (hh:A.handled=none) (hl:s.heap.IsList l items) (hn:xs.length=items.size) (hi:∀(i:Nat) v,items[i]? = some v->∃k t,xs[i]? = some k/\v=.str k t) (hb:items.size+1<scanBound)
  (h:∀(h':Heap) (tk:Nat),TS prog w h' s.heap.objs.size xs->(∀b o,b<s.heap.objs.size->s.heap.get? b=some o->h'.get? b=some o)->Q (.ref s.heap.objs.size) { s with heap:=h',toks:=tk }) :
  wpAny (model prog w) A (call (.type "set") [.ref l]) Q E s:=by
 obtain ⟨c,tl,hmro⟩:=PySem.F.called_set.mro
 have hmade:=PySem.F.called_set.made
 have hsub:=PySem.F.called_set.sub
 refine wpAny_call (codeAny_of_tree ?_)
 show wpAny _ _ (callAny (.type "set") _) _ _ _
 refine q_e ⟨Code.quiet_builtin _ (by decide +kernel),codeAny_builtin PySem.F.entry_type_call ?_⟩
 rw [Around.under_plain (weight_type_call_type "set" [.ref l] []) rfl]
 have h1:=PySem.F.called_set.notType
 have h2:=PySem.F.called_set.canCreate
 have hct:=PySem.F.typeCall_set_1 (.ref l)
 repeat (any_goals (first | assumption | wp_step))
 refine codeAny_mono (JM4 (.ref l) (E:=E) (Q₁:=fun obj s₁=>obj=.ref s.heap.objs.size/\s₁={ s with heap:=s.heap.push { cls:=.type "set",dict:=none,data:=.set #[] 0 (.fresh 0 0 (!byT w)) } }) ⟨rfl,rfl⟩) fun r s₁ hr=>?_
 cases r with
 | error e=>exact hr
 | ok fl =>
  cases fl with
  | ret obj =>
    obtain ⟨rfl,rfl⟩:=hr
    generalize hled:(!byT w)=led at *
    have hS:(s.heap.push { cls:=.type "set",dict:=none,data:=.set #[] 0 (.fresh 0 0 led) }).get? s.heap.objs.size=some { cls:=.type "set",dict:=none,data:=.set #[] 0 (.fresh 0 0 led) }:=q_k _ rfl
    have hT:Shared.TypeIs { s with heap:=s.heap.push { cls:=.type "set",dict:=none,data:=.set #[] 0 (.fresh 0 0 led) } } (.ref s.heap.objs.size) "set":=⟨_,hS,rfl⟩
    have hli:=PySem.F.called_set.init.lookup
    have hbi:=PySem.F.called_set.init.bind (.ref s.heap.objs.size)
    repeat (any_goals (first | assumption | wp_step))
    refine codeAny_mono (codeAny_call_builtin (R:=wants (fun r s₂=>r=.none/\∃h' tk,s₂={ s with heap:=h',toks:=tk }/\TS prog w h' s.heap.objs.size xs /\
      (∀b o,b<s.heap.objs.size->s.heap.get? b=some o->h'.get? b=some o)) E) PySem.F.called_set.init.plain PySem.F.entry_set_init (check_set_init_1 hT ?_)) fun r₂ s₂ hr₂=>?_
    ·obtain ⟨ol,hol,hcl,nl,hdl⟩:=hl
     obtain ⟨ocls,odict,odata,oslots⟩:=ol
     simp only at hcl hdl
     subst hcl;subst hdl
     have hol':(s.heap.push { cls:=.type "set",dict:=none,data:=.set #[] 0 (.fresh 0 0 led) }).get? l=some { cls:=.type "list",dict:=odict,data:=.seq items nl,slots:=oslots }:=q_c _ hol
     have hsls:=PySem.F.sub_list_set
     have hslf:=PySem.F.sub_list_frozenset
     have hne:(Value.type "list"==Value.type "dict")=false:=by decide
     have hl1:(s.heap.push { cls:=.type "set",dict:=none,data:=.set #[] 0 (.fresh 0 0 led) }).IsList l items:=⟨_,hol',rfl,nl,rfl⟩
     unfold Builtin.«set.__init__» noKeywords Builtin.Frozenset.updateFrom
     generalize hPI:pyIter=PI
     wp_walk
     subst hPI
     refine wpAny_pyIter_list hl1 ?_
     refine q_b (wpAny_runValue ?_)
     have hlS:l<s.heap.objs.size:=q_h hol
     have hh3:A.in1.in1.in1.handled=none:=by simp [hh]
     have hneI:l≠(s.heap.push { cls:=.type "set",dict:=none,data:=.set #[] 0 (.fresh 0 0 led) }).objs.size:=by
      rw [Heap.size_push];exact q_l (q_D hlS)
     have hSf:s.heap.objs.size ∉ [(s.heap.push { cls:=.type "set",dict:=none,data:=.set #[] 0 (.fresh 0 0 led) }).objs.size,l]:=by
      rw [Heap.size_push];simp only [q_n,List.mem_singleton,List.not_mem_nil,or_false,not_or]
      exact ⟨q_l (Nat.lt_succ_self _),Nat.ne_of_gt hlS⟩
     refine JJw ((Walks.list hh3 _ l hneI items).toS) s.heap.objs.size
      hSf xs hn hi hb (items.size - 0) 0 _ (by omega) (Nat.zero_le _)
      ⟨⟨_,q_k _ rfl,rfl,rfl⟩,(hl1.push _)⟩ ?hS0 ?hR
     case hS0 =>
      have hget:((s.heap.push { cls:=.type "set",dict:=none,data:=.set #[] 0 (.fresh 0 0 led) }).push { cls:=.type "list_iterator",data:=.fields #[.ref l,.int 0 0] }).get? s.heap.objs.size
         = some { cls:=.type "set",dict:=none,data:=.set #[] 0 (.fresh 0 0 led) }:=q_c _ hS
      exact ⟨_,#[],0,.fresh 0 0 led,⟨hget,rfl,rfl,rfl⟩,⟨rfl,rfl,rfl⟩,fun e he=>by simp at he,by simp,fun k=>by simp,Nat.zero_le _,fun hB=>⟨by rw [<-hled,hB];rfl,.inl rfl⟩⟩
     case hR =>
      intro s' hm hS'
      obtain ⟨h',g',d',tk',os'⟩:=s'
      have eg:g'=s.gens:=hm.gens
      have ed:d'=s.drawn:=hm.drawn
      have eo:os'=s.os:=hm.os
      subst eg;subst ed;subst eo
      show wpAny _ _ _ _ _ _
      refine q_e ?_
      show wpAny _ _ (ret Value.none) _ _ _
      refine q_e ⟨rfl,h',tk',rfl,hS',fun b o hb e=>?_⟩
      have hb1:b≠s.heap.objs.size:=q_l hb
      have hb2:b≠(s.heap.push { cls:=.type "set",dict:=none,data:=.set #[] 0 (.fresh 0 0 led) }).objs.size:=by
        rw [Heap.size_push];exact q_l (q_D hb)
      exact hm.heap b o (by simp only [q_n,List.mem_singleton,List.not_mem_nil,or_false,not_or];exact ⟨hb1,hb2⟩) (q_c _ (q_c _ e))
    ·cases r₂ with
     | error e=>exact hr₂
     | ok fl₂ =>
      cases fl₂ with
      | ret r =>
        obtain ⟨rfl,h',tk,rfl,hS',hk'⟩:=hr₂
        repeat (any_goals (first | assumption | wp_step))
        exact h _ _ hS' hk'
      | _=>exact hr₂.elim
  | _=>exact hr.elim
end
end VI
end
section
set_option maxRecDepth 100000
namespace VI
open PySem PySem.Spec PySem.W PyProof.Rows L2
theorem JGc {zs:List Str} {vs:List Value} (h:Vals (zs.map V.str) vs) {i:Nat} (hi:i<zs.length):∃t,vs.getD i Value.none=.str (zs.getD i "") t:=by
 obtain ⟨u,hu,ru⟩:=h.get (i:=i) (x:=V.str zs[i]) (by simp [hi])
 obtain ⟨t,rfl⟩:∃t,u=.str zs[i] t:=ru
 exact ⟨t,by simp [List.getD_eq_getElem?_getD,hu,hi]⟩
theorem JOf {zs:List Str} {vs:List Value} (h:Vals (zs.map V.str) vs):∀v∈vs,∃x t,v=.str x t:=fun v hv=>by
 obtain ⟨i,hi,rfl⟩:=List.mem_iff_getElem.mp hv
 have hl:=h.length
 rw [q_g] at hl
 obtain ⟨t,e⟩:=JGc h (i:=i) (by omega)
 exact ⟨_,t,by simpa [List.getD_eq_getElem?_getD,hi] using e⟩
theorem JNP {zs:List Str} {vs:List Value} (h:Vals (zs.map V.str) vs) (l:List Nat) (hl:∀i∈l,i<zs.length):Vals ((l.map fun i=>zs.getD i "").map V.str) (l.map fun i=>vs.getD i Value.none):=by
 have:=JCh h l fun i hi=>by rw [q_g];exact hl i hi
 have e:(l.map fun i=>(zs.map V.str).getD i .non)=(l.map fun i=>zs.getD i "").map V.str:=by
  rw [List.map_map]
  refine List.map_congr_left fun i hi=>?_
  have:=hl i hi
  simp [List.getD_eq_getElem?_getD,this]
 rwa [e] at this
section
variable {prog:Program} {w:World} {A:Around} {E:Value->Shared->Prop} {s s2:Shared} {L D:Addr} {m:Str->Option Value} {vs:List Value} {zs:List Str} {n:Nat}
theorem JGl {P:PySem.Fin->Shared->Prop} (hoL:s2.heap.get? D=some (seqObj "list" vs.toArray n)) (h2:vs.length<2)
  (h:∀h' c,(∀b o,b≠D->s2.heap.get? b=some o->h'.get? b=some o)->h'.get? D=some (seqObj "list" vs.toArray c)->P (.done (.ret .none)) { s2 with heap:=h' }) :
  wpAny (model prog w) A (Builtin.«list.sort» ⟨[.ref D],[]⟩) P E s2:=by
 obtain ⟨e1,ho1⟩:∃e1,(s2.heap.update D (Obj.mapSeq fun _=>(#[]:Array Value))).get? D=some (seqObj "list" #[] e1):=⟨_,get?_update_seq hoL fun _=>#[]⟩
 rw [list_sort_plain]
 refine q_b (listItems_at hoL rfl ?_)
 refine q_b (listUpdate_at hoL rfl ?_ (by rw [q_f,sizeLine_eq];omega) (Nat.zero_le _))
 refine q_b (seqEpoch_at ho1 rfl ?_)
 refine q_b (wpAny_newTuple ?_ (by show vs.length<=_;rw [sizeLine_eq];omega))
 refine q_b (wpAny_newList ?_ (Nat.zero_le _))
 refine wpAny_holding ?_
 dsimp only
 have hn2:vs.toArray.size<2:=by rw [q_f];omega
 rw [if_pos hn2,if_pos hn2]
 refine q_b (q_e ?_)
 refine q_b ?_
 refine (show wpAny (model prog w) A (pure ((),SortSt.mk' general' (vs.toArray.zip vs.toArray) #[] 7 none)) _ _ _ from q_e ?_)
 dsimp only
 have ho3:(((s2.heap.update D (Obj.mapSeq fun _=>(#[]:Array Value))).push { cls:=Value.type "tuple",data:=Data.seq vs.toArray }).push { cls:=Value.type "list",data:=Data.seq #[] }).get? D=some (seqObj "list" #[] e1):=q_c _ (q_c _ ho1)
 have hout:Array.map (fun x:Keyed=>x.snd) (arrOf (SortSt.mk' general' (vs.toArray.zip vs.toArray) #[] 7 none))=vs.toArray:=by
  show Array.map (fun x:Keyed=>x.snd) (vs.toArray.zip vs.toArray)=vs.toArray
  apply Array.ext'
  simp [List.map_snd_zip]
 refine q_b (seqEpoch_at ho3 rfl ?_)
 refine q_b (listUpdate_at ho3 rfl ?_ (Nat.zero_le _) (by rw [hout,q_f,sizeLine_eq];omega))
 have hfl:failedOf (SortSt.mk' general' (vs.toArray.zip vs.toArray) #[] 7 none)=none:=rfl
 simp only [bne_self_eq_false,q_v,if_false]
 refine q_e ?_
 rw [hout]
 obtain ⟨c2,hc2⟩:∃c2,((((s2.heap.update D (Obj.mapSeq fun _=>(#[]:Array Value))).push { cls:=Value.type "tuple",data:=Data.seq vs.toArray }).push { cls:=Value.type "list",data:=Data.seq #[] }).update D (Obj.mapSeq fun _=>vs.toArray)).get? D=some (seqObj "list" vs.toArray c2):=⟨_,get?_update_seq ho3 fun _=>vs.toArray⟩
 refine h _ c2 (fun b o hne q=>?_) hc2
 rw [Heap.get?_update_ne _ _ _ _ hne]
 refine q_c _ (q_c _ ?_)
 rw [Heap.get?_update_ne _ _ _ _ hne]
 exact q
theorem JEC {P:PySem.Fin->Shared->Prop} (hn:s.heap.Ns L m) (keep:∀b o,s.heap.get? b=some o->s2.heap.get? b=some o) (hDn:s.heap.get? D=none) (ho:s2.heap.get? D=some (seqObj "list" vs.toArray n)) (tv:Vals (zs.map V.str) vs) (h5:zs.length<=5)
  (h:∀h' c out,(∀b o,b≠L->s.heap.get? b=some o->h'.get? b=some o)->h'.Ns L m->h'.get? D=some (seqObj "list" (List.toArray out) c)->Vals ((JAX zs).map V.str) out->P (.done (.ret .none)) { s2 with heap:=h' }) :
  wpAny (model prog w) A (Builtin.«list.sort» ⟨[.ref D],[]⟩) P E s2:=by
 have hl:=tv.length
 rw [q_g] at hl
 have ne:∀b o,s.heap.get? b=some o->b≠D:=fun b o q z=>by rw [z,hDn] at q;cases q
 have hLD:D≠L:=by
  obtain ⟨o,_,_,q,_⟩:=hn
  exact Ne.symm (ne L o q)
 by_cases h2:zs.length<2
 ·have e:JAX zs=zs:=by unfold JAX;rw [if_pos h2]
  rw [e] at h
  refine JGl ho (by omega) fun h' c hk hd=>?_
  have kp:∀b o,s.heap.get? b=some o->h'.get? b=some o:=fun b o q=>hk b o (ne b o q) (keep b o q)
  exact h h' c vs (fun b o _ q=>kp b o q) (hn.at' fun o q=>kp L o q) hd tv
 ·have F:=(JFs hn).kept keep
  have N:=(JBf (h:=s.heap) (L:=L)).grown keep
  refine kas_list_sort (T:=.type "str") F N ho hLD ?_ (fun p hp=>?_) (by omega) (by omega) (fun e1 h' F' N' v hv=>?_) (by decide) (by decide) fun e1 h' F' N'=>?_
  · cases e:(below s.heap L).get? D with
    | none=>rfl
    | some o=>rw [(below_get.mp e).2] at hDn;cases hDn
  · exact ne _ _ (JBf (h:=s.heap) (L:=L) p hp).1
  · obtain ⟨x,t,rfl⟩:=JOf tv v hv
    exact Looks.of_pure rfl
  · rw [<-hl]
    refine JIC (n:=zs.length) (lt:=fun i j=>ltS (zs.getD i "") (zs.getD j "")) (fun i j C hi hj c=>?_) _ (JLa (by omega) h5) ?_
    ·unfold kas_ask
     obtain ⟨t1,e1⟩:=JGc tv hi
     obtain ⟨t2,e2⟩:=JGc tv hj
     rw [e1,e2]
     exact kas_lt_str c
    ·refine KasFin.intro F' N' (UpdF.head fun p hp=>ne _ _ (JBf (h:=s.heap) (L:=L) p hp).1) fun h2' c F2 N2=>?_
     have kp2:∀b o,b≠L->s.heap.get? b=some o->h2'.get? b=some o:=JD5 F2 N2 fun p hp=>q_s _ hp
     refine h h2' c _ kp2 F2.ns (N2 _ (.head _)).1 ?_
     have e:JAX zs=(kGo (fun i j=>ltS (zs.getD i "") (zs.getD j "")) (kas_sort zs.length)).toList.map fun i=>zs.getD i "":=by unfold JAX;rw [if_neg h2]
     rw [e]
     exact JNP tv _ fun i hi=>JFK _ (JIt (by omega) h5) i hi
end
end VI
end
section
set_option maxRecDepth 100000
namespace VI
open PySem PySem.Spec PyProof.Rows L2
open PySem.W (KasT kas_sort kas_ask KatTups KatLex KasFin UpdF)
def strV:Value->Str
 | .str s _=>s
 | _=>""
theorem JGG:∀ {vs:List Value},(∀v∈vs,∃x t,v=.str x t)->Vals ((vs.map strV).map V.str) vs
 | [],_=>.nil
 | v::vs,h=>by
  obtain ⟨x,t,rfl⟩:=h v (by simp)
  exact .cons ⟨t,rfl⟩ (JGG fun u hu=>h u (by simp [hu]))
theorem JEu {zs:List Str} (h5:zs.length<=5):(JAX zs).length<=5:=by
 unfold JAX
 split
 ·exact h5
 ·rw [q_g,q_E]
  refine JFY _ ?_
  have:zs.length=2\/zs.length=3\/zs.length=4\/zs.length=5:=by omega
  rcases this with e | e | e | e<;>rw [e]
  ·exact JQG
  ·exact JOa
  ·exact JOE
  ·exact JPM
theorem JEG {prog:Program} {w:World} {h:Heap} {a:Addr} {so:Obj} {es:Array (Int×Value)} {ep:Nat} {t:SetTable} {l:List Str} (T:TSet prog w h a so es ep t l) {vs:List Value} (p:vs.Perm (es.toList.map (·.2))) :
  Vals ((vs.map strV).map V.str) vs/\(vs.map strV).Perm (dedS l):=by
 refine ⟨JGG fun v hv=>?_,?_⟩
 ·obtain ⟨e,he,rfl⟩:=List.mem_map.mp (p.mem_iff.mp hv)
  obtain ⟨u,hu⟩:=Value.isStrOf_shape (JGU T.el he).1
  exact ⟨_,u,hu⟩
 ·have e1:(es.toList.map (·.2)).map strV=es.toList.map keyOf:=by
   rw [List.map_map]
   refine List.map_congr_left fun e _=>?_
   obtain ⟨z,v⟩:=e
   cases v<;>rfl
  have p1:(vs.map strV).Perm (es.toList.map keyOf):=by rw [<-e1];exact p.map _
  refine p1.trans ((List.perm_ext_iff_of_nodup T.nd (So.ded_nd l)).mpr fun k=>?_)
  rw [T.mem k,So.ded_mem]
section
variable {X:Cx} {B:Bs} {C:Cn} {CX:CXT} {XX:Nat->Hp->Prop} {G:List (Str×GK)}
theorem JDw:CallR X (.builtin "sorted") (fun xs H Q=>∃l zs,xs=[.ref l]/\SqL X.K H l (zs.map V.str)/\zs.length<=5/\∀p,H p=none->Q (.ref p) (upd H p (.lst ((JAX zs).map V.str)))):=by
 intro pins s σ H xs us Q I r ⟨l,zs,e,hq,h5,q⟩
 subst e
 cases r with
 | cons ra rb =>
  cases rb
  cases ra
  obtain ⟨vs,rv,pl,hz⟩:=I.list hq
  have hl:=rv.length
  rw [q_g] at hl
  obtain ⟨m,hn,_⟩:=I.loc
  refine PySem.Calls.call_function_entry kind_sorted plain_sorted entry_sorted (args_sorted1 _) ?_
  unfold Builtin.«sorted»
  refine q_b (m:=checkCount "sorted" 1 1 _) (q_e ?_)
  refine q_b (collect_list pl.isList ?_ (by rw [sizeLine_eq];omega))
  refine q_b (wpAny_newList ?_ (by rw [sizeLine_eq];omega))
  have hsz:((s.heap.push (seqObj "list" #[] 0)).update s.heap.objs.size (Obj.mapSeq (·++vs.toArray))).objs.size=s.heap.objs.size+1:=by
   rw [Heap.size_update,size_push']
  have hoL:(((s.heap.push (seqObj "list" #[] 0)).update s.heap.objs.size (Obj.mapSeq (·++vs.toArray))).push (seqObj "list" vs.toArray 0)).get? (s.heap.objs.size+1)=some (seqObj "list" vs.toArray 0):=by
   rw [<-hsz];exact q_k _ rfl
  have keep:∀b o,s.heap.get? b=some o->(((s.heap.push (seqObj "list" #[] 0)).update s.heap.objs.size (Obj.mapSeq (·++vs.toArray))).push (seqObj "list" vs.toArray 0)).get? b=some o:=fun b o q=>by
   have hlt:b<s.heap.objs.size:=q_h q
   rw [Heap.get?_push_ne _ _ _ (by rw [hsz];exact q_l (q_D hlt)),Heap.get?_update_ne _ _ _ _ (q_l hlt),Heap.get?_push_ne _ _ _ (q_l hlt)]
   exact q
  have hDn:s.heap.get? (s.heap.objs.size+1)=none:=Heap.get?_none_of_le (Nat.le_succ _)
  show wpAny _ _ _ _ _ { s with heap:=((s.heap.push (seqObj "list" #[] 0)).update s.heap.objs.size (Obj.mapSeq (·++vs.toArray))).push (seqObj "list" vs.toArray 0) }
  rw [hsz]
  refine q_b (wpAny_holding (wpAny_call_entry slot_list_sort ⟨_,hoL,rfl⟩ entry_list_sort (JEC (s:=s) hn keep hDn hoL rv h5 fun h' c out kp hn' hd tv=>?_) (args_list_sort _)))
  refine ⟨_,rfl,q_e ⟨_,rfl,?_⟩⟩
  have ok:ObjOk X.prog X.w (upd H (s.heap.objs.size+1) (.lst ((JAX zs).map V.str))) h' (s.heap.objs.size+1) (.lst ((JAX zs).map V.str)):=by
   refine ⟨?_,out,c,tv,hd⟩
   have:=JEu h5
   rw [q_g,sizeLine_eq];omega
  obtain ⟨h0,I2⟩:=JDy (D:=s.heap.objs.size+1) I hn hn' kp hDn ok
  exact ⟨.ref (s.heap.objs.size+1),_,I2,rfl,q _ h0⟩
noncomputable def StO (X:Cx) (p:Addr) (zs:List Str):HO:=.ext fun h=>X.s₀.heap.objs.size<=p/\TS X.prog X.w h p zs
theorem JFG (hc:X.calm=true):CallR X (.type "set") (fun xs H Q=>∃l zs,xs=[.ref l]/\SqL X.K H l (zs.map V.str)/\zs.length<=1000/\∀p,H p=none->Q (.ref p) (upd H p (StO X p zs))):=by
 intro pins s σ H xs us Q I r ⟨l,zs,e,hq,h5,q⟩
 subst e
 cases r with
 | cons ra rb =>
  cases rb
  cases ra
  obtain ⟨vs,rv,pl,hz⟩:=I.list hq
  have hl:=rv.length
  rw [q_g] at hl
  refine JD8 (xs:=zs) (items:=vs.toArray) (I.ok.hd hc) pl.isList (by rw [q_f];exact hl) (fun i v hv=>?_) (by rw [q_f];unfold scanBound;omega) fun h' tk hS hk=>?_
  ·have hi:i<vs.length:=by
    have:=(Array.getElem?_eq_some_iff.mp hv).1
    simpa using this
   obtain ⟨t,et⟩:=JGc rv (i:=i) (by omega)
   have hi2:i<zs.length:=by omega
   refine ⟨zs[i],t,by simp [hi2],?_⟩
   have:vs.getD i Value.none=v:=by
    rw [List.getElem?_toArray] at hv
    simp [List.getD_eq_getElem?_getD,hv]
   rw [<-this,et]
   simp [List.getD_eq_getElem?_getD,hi2]
  ·refine ⟨.ref s.heap.objs.size,_,I.laid (t':=tk) (fun b o e=>hk b o (q_h e) e) (q_t _) (o:=StO X s.heap.objs.size zs) ?_,rfl,q _ I.fresh⟩
   have g:∃o,h'.get? s.heap.objs.size=some o:=by obtain ⟨so,_,_,_,T⟩:=hS;exact ⟨so,T.at'.get⟩
   exact ⟨⟨I.sz,hS⟩,g,fun h1 h2 z k=>⟨z.1,z.2.at k⟩⟩
theorem JCa (hc:X.calm=true):CallR X (.builtin "sorted") (fun xs H Q=>∃p zs H1,xs=[.ref p]/\H=upd H1 p (StO X p zs)/\H1 p=none/\(dedS zs).length<=5/\∀q,H1 q=none->Q (.ref q) (upd H1 q (.lst ((JAX (dedS zs)).map V.str)))):=by
 intro pins s σ H xs us Q I r ⟨p,zs,H1,e,eH,h1,h5,q⟩
 subst e;subst eH
 cases r with
 | cons ra rb =>
  cases rb
  cases ra
  obtain ⟨⟨hs,so,es,ep,t,T⟩,_,_⟩:=I.hok p _ JAC
  obtain ⟨I1,f⟩:=forget I h1 hs
  obtain ⟨m,hn,_⟩:=I1.loc
  have esz:es.size<=5:=by
   have:=(JEG T (List.Perm.refl _)).2.length_eq
   rw [q_g,q_g,q_E] at this
   omega
  refine PySem.Calls.call_function_entry kind_sorted plain_sorted entry_sorted (args_sorted1 _) ?_
  unfold Builtin.«sorted»
  refine q_b (m:=checkCount "sorted" 1 1 _) (q_e ?_)
  refine q_b (JFW (by first | exact I.ok.hd hc | (simp only [Around.in1_handled];exact I.ok.hd hc)) T.at' (by omega) (fun hB=>⟨(T.led hB).1,(T.led hB).2.elim (fun z=>.inl (by omega)) .inr⟩) fun h2 d tk vs k2 pv=>?_)
  obtain ⟨tv0,pz⟩:=JEG T pv
  have hvl:vs.length<=5:=by rw [pv.length_eq,q_g,q_E];exact esz
  refine q_b (wpAny_newList ?_ (by rw [sizeLine_eq];omega))
  have hoL:(h2.push (seqObj "list" vs.toArray 0)).get? h2.objs.size=some (seqObj "list" vs.toArray 0):=q_k _ rfl
  have keep:∀b o,s.heap.get? b=some o->(h2.push (seqObj "list" vs.toArray 0)).get? b=some o:=fun b o e=>q_c _ (k2 b o e)
  have hDn:s.heap.get? h2.objs.size=none:=by
   cases e:s.heap.get? h2.objs.size with
   | none=>rfl
   | some o=>exact absurd (q_h (k2 _ o e)) (Nat.lt_irrefl _)
  show wpAny _ _ _ _ _ { s with heap:=h2.push (seqObj "list" vs.toArray 0),drawn:=d,toks:=tk }
  refine q_b (wpAny_holding (wpAny_call_entry slot_list_sort ⟨_,hoL,rfl⟩ entry_list_sort (JEC (s:=s) hn keep hDn hoL tv0 (by rw [pz.length_eq];exact h5) fun h' c out kp hn' hd tv=>?_) (args_list_sort _)))
  refine ⟨_,rfl,q_e ⟨_,rfl,?_⟩⟩
  rw [So.sort_perm pz (So.ded_nd zs) h5] at tv
  have ok:ObjOk X.prog X.w (upd H1 h2.objs.size (.lst ((JAX (dedS zs)).map V.str))) h' h2.objs.size (.lst ((JAX (dedS zs)).map V.str)):=by
   refine ⟨?_,out,c,tv,hd⟩
   have:=JEu h5
   rw [q_g,sizeLine_eq];omega
  have I3:Inv X pins σ H1 { s with drawn:=d,toks:=tk } :=
   I1.step (g':=s.gens) (d':=d) (t':=tk) (h':=s.heap) (ch:=[]) (fun _ z=>nomatch z) (fun b u _ _ _ e _=>e) (fun b u _ _ _ e _=>⟨u.slots,e⟩)
    (fun b u _ e n=>n) (fun b u _ e=>⟨u,e⟩) (fun b xs e=>e) (fun b u v e=>e) (fun b ps e=>⟨#[],by rw [e];simp⟩) (fun m hm=>hm) I1.hok I1.bare
  obtain ⟨h0,I2⟩:=JDy (D:=h2.objs.size) I3 hn hn' kp hDn ok
  exact ⟨.ref h2.objs.size,_,I2,rfl,q _ h0⟩
end
end VI
end
section
set_option maxRecDepth 100000
namespace VI
open PySem PySem.Spec PyProof.Rows L2
section
variable {X:Cx} {B:Bs} {C:Cn} {CX:CXT} {XX:Nat->Hp->Prop} {G:List (Str×GK)}
theorem JDo {H:Hp}:∀ {ds:List D} {us:List V} {zs:List Str},strsOf ds=some zs->DenL B H ds us->us=zs.map V.str
 | [],us,zs,h,l=>by
  simp only [strsOf,q_j] at h
  simp only [DenL] at l
  subst h;subst l;rfl
 | d::ds,us,zs,h,l=>by
  simp only [DenL] at l
  obtain ⟨v,r,e,dv,l⟩:=l
  subst e
  cases d with
  | str x =>
   simp only [strsOf,q_d] at h
   obtain ⟨zs',h1,rfl⟩:=h
   simp only [Den] at dv
   subst dv
   rw [JDo h1 l]
   rfl
  | _=>simp [strsOf] at h
theorem JC3 {H:Hp}:∀(zs:List Str) (H':Hp),DenL B H' (zs.map PyData.str) (zs.map V.str)
 | [],_=>by simp only [List.map_nil,DenL]
 | z::zs,H'=>by
  simp only [List.map_cons,DenL]
  exact ⟨_,_,rfl,by simp only [Den],JC3 (H:=H) zs H'⟩
theorem JC4 (hu:X.A.units+200<cLine):CallR X (.builtin "sorted") (fun xs H Q=>((∃l ys,xs=[.ref l]/\SqL X.K H l ys/\ys.length<2/\∀p,H p=none->Q (.ref p) (upd H p (.lst ys))) \/
  (∃l ys ks c,xs=[.ref l]/\SqL X.K H l ys/\IA X.K H ks ys/\2<=ks.length/\ks.length<=5/\(∀k∈ks,(k.map At.kd).head? = some c)/\(∀k∈ks,∀k'∈ks,k.map At.kd=k'.map At.kd)/\∀p,H p=none->Q (.ref p) (upd H p (.lst ((JCR ks).map fun i=>ys.getD i .non))))) \/
  (∃l zs,xs=[.ref l]/\SqL X.K H l (zs.map V.str)/\zs.length<=5/\∀p,H p=none->Q (.ref p) (upd H p (.lst ((JAX zs).map V.str))))):=by
 intro pins s σ H xs us Q I r h
 rcases h with (h | h) | h
 ·exact JCF pins s σ H xs us Q I r h
 ·exact JDq hu pins s σ H xs us Q I r h
 ·exact JDw pins s σ H xs us Q I r h
theorem JLV (X:Cx) (XX:Nat->Hp->Prop) (g:Gk X B C CX XX G) (e:Expr) (args:List Expr) (y:E) (h:xRaw G X.env.scope.names false e=some (.srt,args)) (ha:PA X args (RA B C XX y)) (hs:∀a∈args,∀es env,starEach (a::es) env=(false,eval a env)::starEach es env) (hc:cnt y=args.length):PE X e (RE B C XX (.xop .srt y)):=by
 unfold xRaw at h
 split at h
 ·rename_i f p a pos
  rcases JEr h with z | ⟨_,rfl,rfl,h2⟩ | ⟨z,_⟩
  ·cases z
  rotate_left
  ·cases z
  ·obtain ⟨_,h3,h4⟩:=JAl h2
   refine PE.imp (JCY (es:=[]) (JC4 g.units) h3 (g.nam _ h4) (by decide +kernel) ha (by decide) (by decide) (hs a (by simp) [] X.env) rfl) fun σ H Q ⟨δ,ok,k⟩=>?_
   simp only [ev] at k
   refine RA.of (W:=fun r H=>KE B XX r H Q) ok (fun _ _ z=>z) (fun _ z=>z) k fun ds vs H1 s1 d1 k1=>?_
   have k1:=KE.mono g s1 k1
   rcases JFx ds with ⟨ys,rfl⟩ | ⟨b1,b2,b3⟩
   rotate_left
   ·rw [b2] at k1;exact False.elim k1
   ·simp only [DenL,Den] at d1
    obtain ⟨v,r,e,⟨q,us,e1,sq,l⟩,e2⟩:=d1
    subst e2;subst e1;subst e
    simp only [xD] at k1
    unfold srtD at k1
    split at k1
    ·rename_i hsm
     refine .inl (.inl ⟨q,us,rfl,g.K▸sq,by rw [<-DenL.len _ _ l];exact hsm,fun p3 hp3=>?_⟩)
     have sm:Same H1 (upd H1 p3 (.lst us)):=JAq hp3
     refine k1 _ _ sm ?_
     simp only [Den]
     exact ⟨p3,_,rfl,SqL.of JAC,DenL.mono sm _ _ l⟩
    ·unfold srtA at k1
     cases hka:JCx ys with
     | none =>
      rw [hka] at k1
      simp only at k1
      unfold srtS at k1
      cases hst:strsOf ys with
      | none=>rw [hst] at k1;exact False.elim k1
      | some zs =>
       rw [hst] at k1
       simp only at k1
       split at k1
       ·rename_i h5
        have eu:=JDo hst l
        subst eu
        refine .inr ⟨q,zs,rfl,g.K▸sq,h5,fun p3 hp3=>?_⟩
        have sm:Same H1 (upd H1 p3 (.lst ((JAX zs).map V.str))):=JAq hp3
        refine k1 _ _ sm ?_
        simp only [Den]
        exact ⟨p3,_,rfl,SqL.of JAC,JC3 (H:=H1) _ _⟩
       ·exact False.elim k1
     | some ks =>
      rw [hka] at k1
      simp only at k1
      split at k1
      ·rename_i hc
       obtain ⟨c2,c5,cs⟩:=hc
       obtain ⟨c,s1,s2⟩:=JMO cs
       refine .inl (.inr ⟨q,us,ks,c,rfl,g.K▸sq,JGP g.K hka l,c2,c5,s1,s2,fun p3 hp3=>?_⟩)
       have sm:Same H1 (upd H1 p3 (.lst ((JCR ks).map fun i=>us.getD i .non))):=JAq hp3
       refine k1 _ _ sm ?_
       simp only [Den]
       refine ⟨p3,_,rfl,SqL.of JAC,DenL.mono sm _ _ (JGK l _ fun i hi=>?_)⟩
       have:=JFr c2 c5 i hi
       have:=JEz hka
       omega
      ·exact False.elim k1
 ·cases h
theorem x_srt:XOk B C CX G .srt where
 val:=JLV
 itr:=by
  intro X XX g tg e args y h ha hs hc
  unfold xRaw at h
  split at h
  ·rcases JD6 h with ⟨z,_⟩ | z
   ·cases z
   ·exact JD7 g (JLV X XX g _ args y (JE6 z) ha hs hc) fun δ=>by simp only [evI,ev]
  ·cases h
 tgt:=by
  intro X XX g ts kt pt e args y h ha hs hc
  unfold xTgt at h
  split at h
  ·split at h<;>cases h
  ·split at h<;>cases h
  ·cases h
theorem JQB (g:Gk X B C CX XX G) {b:Expr} {p pos:Pos} {t:TA} (hg:glob G X.env.scope.names "set"=some .nam) (ha:PA X [b] t) (he:starEach [b] X.env=[(false,eval b X.env)]) :
  PE X (.Call (.Name "set" p) [b] [] pos) (tCB (fun xs H Q=>∃l zs,xs=[.ref l]/\SqL X.K H l (zs.map V.str)/\zs.length<=1000/\∀p,H p=none->Q (.ref p) (upd H p (StO X p zs))) t):=by
 obtain ⟨_,h2,h3⟩:=JAl hg
 exact JB9 (es:=[]) (JFG g.calm) h2 (g.nam _ h3) (by decide +kernel) ha (by decide) (by decide) he rfl
theorem JKQ (X:Cx) (XX:Nat->Hp->Prop) (g:Gk X B C CX XX G) (e:Expr) (args:List Expr) (y:E) (h:xRaw G X.env.scope.names false e=some (.sst,args)) (ha:PA X args (RA B C XX y)) (hs:∀a∈args,∀es env,starEach (a::es) env=(false,eval a env)::starEach es env) (hc:cnt y=args.length):PE X e (RE B C XX (.xop .sst y)):=by
 unfold xRaw at h
 split at h
 ·rename_i f p a pos
  rcases JEr h with z | ⟨z,_⟩ | ⟨_,rfl,h1,b,r,p2,pos2,rfl,rfl,rfl,h2⟩
  ·cases z
  ·cases z
  ·obtain ⟨_,h3,h4⟩:=JAl h1
   refine PE.imp (JCY (es:=[]) (JCa g.calm) h3 (g.nam _ h4) (by decide +kernel) (JBA (JQB g h2 ha (hs b (by simp) [] X.env)) JBk rfl) (by decide) (by decide) rfl rfl) fun σ H Q ⟨δ,ok,k⟩=>?_
   simp only [ev] at k
   refine RA.of (W:=fun r H=>KE B XX r H Q) ok (fun _ _ z=>z) (fun _ z=>z) k fun ds vs H1 s1 d1 k1=>?_
   have k1:=KE.mono g s1 k1
   rcases JFx ds with ⟨ys,rfl⟩ | ⟨b1,b2,b3⟩
   rotate_left
   ·rw [b3] at k1;exact False.elim k1
   ·simp only [DenL,Den] at d1
    obtain ⟨v,r,e,⟨q,us,e1,sq,l⟩,e2⟩:=d1
    subst e2;subst e1;subst e
    simp only [xD] at k1
    unfold sstS at k1
    cases hst:strsOf ys with
    | none=>rw [hst] at k1;exact False.elim k1
    | some zs =>
     rw [hst] at k1
     simp only at k1
     split at k1
     ·rename_i h5
      have eu:=JDo hst l
      subst eu
      refine ⟨q,zs,rfl,g.K▸sq,h5.1,fun p' hp=>⟨p',zs,H1,rfl,rfl,hp,h5.2,fun p3 hp3=>?_⟩⟩
      have sm:Same H1 (upd H1 p3 (.lst ((JAX (dedS zs)).map V.str))):=JAq hp3
      refine k1 _ _ sm ?_
      simp only [Den]
      exact ⟨p3,_,rfl,SqL.of JAC,JC3 (H:=H1) _ _⟩
     ·exact False.elim k1
 ·cases h
theorem x_sst:XOk B C CX G .sst where
 val:=JKQ
 itr:=by
  intro X XX g tg e args y h ha hs hc
  unfold xRaw at h
  split at h
  ·rcases JD6 h with ⟨z,_⟩ | z
   ·cases z
   ·exact JD7 g (JKQ X XX g _ args y (JE6 z) ha hs hc) fun δ=>by simp only [evI,ev]
  ·cases h
 tgt:=by
  intro X XX g ts kt pt e args y h ha hs hc
  unfold xTgt at h
  split at h
  ·split at h<;>cases h
  ·split at h<;>cases h
  ·cases h
end
end VI
end
section
namespace VI.VP
open PySem Fr
structure TabM (tab:Nat->Option Fd):Prop where
 h7:tab 7=some d_7
 h8:tab 8=some d_8
 h9:tab 9=some d_9
 h10:tab 10=some d_10
section
variable {x:Bool} {tab:Nat->Option Fd} {glo:Nat->R D} {sub:Nat->Nat->Bool} {n:Nat}
theorem JCB (T:TabF tab) (some':D):∀(qs:List Rat) (m:Rat) (z:Sl),z.isOwn=false->Q m->(∀q∈qs,Q q)->∃m' z',(m'=m\/m'∈qs)/\m'<=m/\(∀q∈qs,m'<=q)/\Q m' /\
  for2 ⟨run x tab glo sub (n+1),glo,sub⟩ 2 (.cons (.ife (.call 6 (.cons (.var 2) (.cons (.var 1) .nil))) (.cons (.asg 1 (.var 2)) .nil) .nil) .nil) (qs.map F) [.val some',.val (F m),z]=.nx [.val some',.val (F m'),z']
 | [],m,z,hz,hm,hq=>⟨m,z,.inl rfl,Rat.le_refl,by simp,hm,rfl⟩
 | q::qs,m,z,hz,hm,hq=>by
  have hq0:Q q:=hq q (by simp)
  rw [List.map_cons,JBF]
  by_cases h:q<m
  ·obtain ⟨m',z',h1,h2,h3,h4,h5⟩:=JCB T some' qs q (.val (F q)) rfl hq0 (fun q hq'=>hq q (by simp [hq']))
   refine ⟨m',z',?_,?_,?_,h4,?_⟩
   ·rcases h1 with h1 | h1
    ·exact .inr (by simp [h1])
    ·exact .inr (by simp [h1])
   ·grind
   ·intro r hr
    rcases q_n.mp hr with e | e
    ·subst e;exact h2
    ·exact h3 r e
   ·dsimp! [JBw T hq0 hm,h,decide_true]
    exact h5
  ·obtain ⟨m',z',h1,h2,h3,h4,h5⟩:=JCB T some' qs m (.val (F q)) rfl hm (fun q hq'=>hq q (by simp [hq']))
   refine ⟨m',z',?_,h2,?_,h4,?_⟩
   ·rcases h1 with h1 | h1
    ·exact .inl h1
    ·exact .inr (by simp [h1])
   ·intro r hr
    rcases q_n.mp hr with e | e
    ·subst e;grind
    ·exact h3 r e
   ·dsimp! [JBw T hq0 hm,h,decide_false]
    exact h5
theorem JCj (T:TabF tab) (some':D):∀(qs:List Rat) (m:Rat) (z:Sl),z.isOwn=false->Q m->(∀q∈qs,Q q)->∃m' z',(m'=m\/m'∈qs)/\m<=m'/\(∀q∈qs,q<=m')/\Q m' /\
  for2 ⟨run x tab glo sub (n+1),glo,sub⟩ 2 (.cons (.ife (.call 6 (.cons (.var 1) (.cons (.var 2) .nil))) (.cons (.asg 1 (.var 2)) .nil) .nil) .nil) (qs.map F) [.val some',.val (F m),z]=.nx [.val some',.val (F m'),z']
 | [],m,z,hz,hm,hq=>⟨m,z,.inl rfl,Rat.le_refl,by simp,hm,rfl⟩
 | q::qs,m,z,hz,hm,hq=>by
  have hq0:Q q:=hq q (by simp)
  rw [List.map_cons,JBF]
  by_cases h:m<q
  ·obtain ⟨m',z',h1,h2,h3,h4,h5⟩:=JCj T some' qs q (.val (F q)) rfl hq0 (fun q hq'=>hq q (by simp [hq']))
   refine ⟨m',z',?_,?_,?_,h4,?_⟩
   ·rcases h1 with h1 | h1
    ·exact .inr (by simp [h1])
    ·exact .inr (by simp [h1])
   ·grind
   ·intro r hr
    rcases q_n.mp hr with e | e
    ·subst e;exact h2
    ·exact h3 r e
   ·dsimp! [JBw T hm hq0,h,decide_true]
    exact h5
  ·obtain ⟨m',z',h1,h2,h3,h4,h5⟩:=JCj T some' qs m (.val (F q)) rfl hm (fun q hq'=>hq q (by simp [hq']))
   refine ⟨m',z',?_,h2,?_,h4,?_⟩
   ·rcases h1 with h1 | h1
    ·exact .inl h1
    ·exact .inr (by simp [h1])
   ·intro r hr
    rcases q_n.mp hr with e | e
    ·subst e;grind
    ·exact h3 r e
   ·dsimp! [JBw T hm hq0,h,decide_false]
    exact h5
theorem JKY (a:D) (r:List D):idxD (.list (a::r)) (.int 0)=.ok a:=by
 simp [idxD,atI,ixN,optR]
theorem JJC (T:TabF tab) (M:TabM tab) (p:Rat) (qs:List Rat) (hq:∀q∈p::qs,Q q):∃m,m∈p::qs/\(∀q∈p::qs,m<=q)/\Q m/\run x tab glo sub (n+2) 7 [.list ((p::qs).map F)]=.ok (F m):=by
 rw [JAD M.h7,JAE rfl]
 obtain ⟨m,z,h1,h2,h3,h4,h5⟩:=JCB (x:=x) (glo:=glo) (sub:=sub) (n:=n) T (.list ((p::qs).map F)) (p::qs) p .no rfl (hq p (by simp)) hq
 refine ⟨m,?_,h3,h4,?_⟩
 ·rcases h1 with h1 | h1
  ·simp [h1]
  ·exact h1
 ·simp only [List.map_cons] at h5 ⊢
  dsimp! [d_7,b_7,JKY,JA5,JBO,JBd,JAf,h5]
theorem JLu (T:TabF tab) (M:TabM tab) (p:Rat) (qs:List Rat) (hq:∀q∈p::qs,Q q):∃m,m∈p::qs/\(∀q∈p::qs,q<=m)/\Q m/\run x tab glo sub (n+2) 8 [.list ((p::qs).map F)]=.ok (F m):=by
 rw [JAD M.h8,JAE rfl]
 obtain ⟨m,z,h1,h2,h3,h4,h5⟩:=JCj (x:=x) (glo:=glo) (sub:=sub) (n:=n) T (.list ((p::qs).map F)) (p::qs) p .no rfl (hq p (by simp)) hq
 refine ⟨m,?_,h3,h4,?_⟩
 ·rcases h1 with h1 | h1
  ·simp [h1]
  ·exact h1
 ·simp only [List.map_cons] at h5 ⊢
  dsimp! [d_8,b_8,JKY,JA5,JBO,JBd,JAf,h5]
end
end VI.VP
end
section
namespace VI.VP
open PySem Fr
theorem r3:rngD [.int 3]=.ok [.int 0,.int 1,.int 2]:=rfl
theorem JMH (p:Rat):(F p).depth=1:=by
 simp only [F,PyData.depth,PyData.depthAll];rfl
section
variable {x:Bool} {tab:Nat->Option Fd} {glo:Nat->R D} {sub:Nat->Nat->Bool} {n:Nat}
end
end VI.VP
end
section
namespace VI.VP
noncomputable def b_23:S:=(.cons (.ret (.and (.isi (.var 0) .int) (.not (.isi (.var 0) .bool)))) .nil)
noncomputable def d_23:Fd:=⟨1,1,b_23⟩
noncomputable def b_24:S:=(.cons (.ife (.or (.not (.isi (.var 0) .tuple)) (.cmp .NotEq (.blt .len (.cons (.var 0) .nil)) (.cint 2))) (.cons (.ret (.cbl false)) .nil) .nil) (.cons (.asg 1 (.idx (.var 0) (.cint 0))) (.cons (.asg 2 (.idx (.var 0) (.cint 1))) (.cons (.ife (.or (.not (.call 23 (.cons (.var 1) .nil))) (.not (.call 23 (.cons (.var 2) .nil)))) (.cons (.ret (.cbl false)) .nil) .nil) (.cons (.ret (.and (.cmp .Gt (.var 2) (.cint 0)) (.cmp .Eq (.call 0 (.cons (.var 1) (.cons (.var 2) .nil))) (.cint 1)))) .nil)))))
noncomputable def d_24:Fd:=⟨1,3,b_24⟩
noncomputable def b_25:S:=(.cons (.ret (.call 1 (.cons (.bin .Mult (.idx (.var 0) (.cint 0)) (.idx (.var 1) (.cint 1))) (.cons (.bin .Mult (.idx (.var 0) (.cint 1)) (.idx (.var 1) (.cint 0))) .nil)))) .nil)
noncomputable def d_25:Fd:=⟨2,2,b_25⟩
noncomputable def b_26:S:=(.cons (.asg 1 (.lst (.cons (.isi (.var 0) (.own 1)) (.cons (.isi (.var 0) (.own 2)) (.cons (.isi (.var 0) (.own 6)) (.cons (.isi (.var 0) (.own 3)) .nil)))))) (.cons (.ext 1 (.lst (.cons (.isi (.var 0) (.own 7)) (.cons (.isi (.var 0) (.own 5)) (.cons (.isi (.var 0) (.own 4)) .nil))))) (.cons (.ife (.or (.cmp .NotEq (.mcount (.var 1) (.cbl true)) (.cint 1)) (.not (.isi (.var 0) .valueError))) (.cons (.ret (.cstr "wrong")) .nil) .nil) (.cons (.ret (.idx (.lst (.cons (.cstr "no frac") (.cons (.cstr "no kind") (.cons (.cstr "no name") (.cons (.cstr "no plan") (.cons (.cstr "no text") (.cons (.cstr "no time") (.cons (.cstr "no track") .nil)))))))) (.mindex (.var 1) (.cbl true)))) .nil))))
noncomputable def d_26:Fd:=⟨1,2,b_26⟩
noncomputable def b_27:S:=(.cons (.asg 3 .cnon) (.cons (.asg 4 .cnon) (.cons (.tryx (.cons (.asg 4 (.ife (.cmp .Eq (.var 0) (.cint 0)) (.call 1 (.cons (.var 1) (.cons (.var 2) .nil))) (.call 25 (.cons (.var 1) (.cons (.var 2) .nil))))) .nil) 0 5 (.cons (.asg 3 (.var 5)) .nil)) (.cons (.ife (.isN (.var 3) false) (.cons (.ret (.var 4)) .nil) .nil) (.cons (.ret (.call 26 (.cons (.var 3) .nil))) .nil)))))
noncomputable def d_27:Fd:=⟨3,6,b_27⟩
end VI.VP
end
section
namespace VI.VP
open PySem Fr
section
variable {x:Bool} {tab:Nat->Option Fd} {glo:Nat->R D} {sub:Nat->Nat->Bool} {n:Nat}
structure TabI (tab:Nat->Option Fd):Prop where
 h23:tab 23=some d_23
 h24:tab 24=some d_24
 h25:tab 25=some d_25
noncomputable def isW:D->Bool
 | .int _=>true
 | _=>false
theorem JBN (T:TabI tab) (d:D) {b1 b2:Bool} (h1:isiD sub d .int=.ok (.bool b1)) (h2:isiD sub d .bool=.ok (.bool b2)):run x tab glo sub (n+1) 23 [d]=.ok (.bool (b1&&!b2)):=by
 rw [JAD T.h23,JAE rfl]
 cases b1
 ·dsimp! [d_23,b_23,h1,h2]
 ·dsimp! [d_23,b_23,h1,h2,Bool.true_and]
theorem JD9 (T:TabI tab) (d:D) (h:∀k,d≠.dict k):run x tab glo sub (n+1) 23 [d]=.ok (.bool (isW d)):=by
 cases d with
 | dict k=>exact absurd rfl (h k)
 | none=>exact JBN (b1:=false) (b2:=false) T _ rfl rfl
 | bool k=>exact JBN (b1:=true) (b2:=true) T _ rfl rfl
 | int k=>exact JBN (b1:=true) (b2:=false) T _ rfl rfl
 | str k=>exact JBN (b1:=false) (b2:=false) T _ rfl rfl
 | list k=>exact JBN (b1:=false) (b2:=false) T _ rfl rfl
 | tuple k=>exact JBN (b1:=false) (b2:=false) T _ rfl rfl
theorem JCX (T:TabF tab) (I:TabI tab) (a b:Int):run x tab glo sub (n+2) 24 [.tuple [.int a,.int b]]=.ok (.bool (decide (0<b)&&decide (a.gcd b=1))):=by
 have w:=fun (d:D) (h:∀k,d≠.dict k)=>JD9 (x:=x) (glo:=glo) (sub:=sub) (n:=n) I d h
 have e0:idxD (.tuple [.int a,.int b]) (.int 0)=.ok (.int a):=rfl
 have e1:idxD (.tuple [.int a,.int b]) (.int 1)=.ok (.int b):=rfl
 have e2:isiD sub (.tuple [.int a,.int b]) .tuple=.ok (.bool true):=rfl
 have e3:(2:Int)=(((0+1+1:Nat)):Int):=rfl
 have e4:((((a.gcd b:Nat):Int))=1)=(a.gcd b=1):=by apply propext;omega
 rw [JAD I.h24,JAE rfl]
 by_cases hb:0<b
 ·dsimp! [d_24,b_24,e0,e1,e2,e3,w (.int a) (fun k h=>by cases h),w (.int b) (fun k h=>by cases h),isW,List.length_cons,List.length_nil,Nat.reduceAdd,Bool.not_true,hb,decide_true,JJE T,Bool.true_and,e4]
 ·dsimp! [d_24,b_24,e0,e1,e2,e3,w (.int a) (fun k h=>by cases h),w (.int b) (fun k h=>by cases h),isW,List.length_cons,List.length_nil,Nat.reduceAdd,Bool.not_true,hb,decide_true,decide_false,JJE T,Bool.true_and,e4]
noncomputable def bads:List D:=[.tuple [.int 1,.int 0],.tuple [.int 2,.int 4],.tuple [.int 1,.int (-2)],.tuple [.bool true,.int 2],.tuple [.int 1,.bool true],.list [.int 1,.int 2],.tuple [.int 1],.tuple [.int 1,.int 2,.int 3],.none,.int 1,.tuple [.int 0,.int 2],.tuple [.str "1",.int 2],.tuple [.int 1,.none]]
theorem JFf (T:TabF tab) (I:TabI tab) (d:D) (h:isiD sub d .tuple=.ok (.bool false)):run x tab glo sub (n+2) 24 [d]=.ok (.bool false):=by
 rw [JAD I.h24,JAE rfl]
 dsimp! [d_24,b_24,h,Bool.not_false]
theorem JIv (T:TabF tab) (I:TabI tab) (ds:List D) (h:((ds.length:Int)=2)=False):run x tab glo sub (n+2) 24 [.tuple ds]=.ok (.bool false):=by
 have e2:isiD sub (.tuple ds) .tuple=.ok (.bool true):=rfl
 rw [JAD I.h24,JAE rfl]
 dsimp! [d_24,b_24,e2,h,Bool.not_true,Bool.not_false,decide_false]
theorem JD0 (T:TabF tab) (I:TabI tab) (a b:D) (ha:∀k,a≠.dict k) (hb:∀k,b≠.dict k) (h:isW a=false\/(isW a=true/\isW b=false)):run x tab glo sub (n+2) 24 [.tuple [a,b]]=.ok (.bool false):=by
 have w:=fun (d:D) (h:∀k,d≠.dict k)=>JD9 (x:=x) (glo:=glo) (sub:=sub) (n:=n) I d h
 have e0:idxD (.tuple [a,b]) (.int 0)=.ok a:=rfl
 have e1:idxD (.tuple [a,b]) (.int 1)=.ok b:=rfl
 have e2:isiD sub (.tuple [a,b]) .tuple=.ok (.bool true):=rfl
 have e3:(2:Int)=(((0+1+1:Nat)):Int):=rfl
 rw [JAD I.h24,JAE rfl]
 rcases h with h | ⟨h,h'⟩
 ·dsimp! [d_24,b_24,e0,e1,e2,e3,w a ha,w b hb,h,List.length_cons,List.length_nil,Nat.reduceAdd,Bool.not_true,Bool.not_false,decide_true]
 ·dsimp! [d_24,b_24,e0,e1,e2,e3,w a ha,w b hb,h,h',List.length_cons,List.length_nil,Nat.reduceAdd,Bool.not_true,Bool.not_false,decide_true]
theorem bads_ok (T:TabF tab) (I:TabI tab):∀d∈bads,run x tab glo sub (n+2) 24 [d]=.ok (.bool false):=by
 intro d hd
 simp only [bads,q_n,List.not_mem_nil,or_false] at hd
 have nd:∀ {d:D},(match d with | .dict _=>false | _=>true)=true->∀k,d≠.dict k:=fun h k e=>by subst e;cases h
 rcases hd with rfl | rfl | rfl | rfl | rfl | rfl | rfl | rfl | rfl | rfl | rfl | rfl | rfl
 ·rw [JCX T I];rfl
 ·rw [JCX T I];rfl
 ·rw [JCX T I];rfl
 ·exact JD0 T I _ _ (nd rfl) (nd rfl) (.inl rfl)
 ·exact JD0 T I _ _ (nd rfl) (nd rfl) (.inr ⟨rfl,rfl⟩)
 ·exact JFf T I _ rfl
 ·exact JIv T I _ (by simp)
 ·exact JIv T I _ (by simp)
 ·exact JFf T I _ rfl
 ·exact JFf T I _ rfl
 ·rw [JCX T I];rfl
 ·exact JD0 T I _ _ (nd rfl) (nd rfl) (.inl rfl)
 ·exact JD0 T I _ _ (nd rfl) (nd rfl) (.inr ⟨rfl,rfl⟩)
end
end VI.VP
end
section
namespace VI.VP
noncomputable def b_29:S:=(.cons (.ret (.cmp .In (.var 0) (.glo 41))) .nil)
noncomputable def d_29:Fd:=⟨1,1,b_29⟩
noncomputable def b_30:S:=(.cons (.ife (.not (.call 29 (.cons (.var 0) .nil))) (.cons (.rais 2) .nil) .nil) .nil)
noncomputable def d_30:Fd:=⟨1,1,b_30⟩
noncomputable def b_31:S:=(.cons (.ret (.call 8 (.cons (.lst (.cons (.glo 39) (.cons (.call 7 (.cons (.lst (.cons (.glo 40) (.cons (.var 0) .nil))) .nil)) .nil))) .nil))) .nil)
noncomputable def d_31:Fd:=⟨1,1,b_31⟩
noncomputable def b_32:S:=(.cons (.drop (.call 30 (.cons (.var 0) .nil))) (.cons (.asg 2 (.call 31 (.cons (.var 1) .nil))) (.cons (.ife (.cmp .Eq (.var 0) (.cstr "even")) (.cons (.ret (.var 2)) .nil) .nil) (.cons (.ife (.cmp .Eq (.var 0) (.cstr "in")) (.cons (.ret (.call 5 (.cons (.var 2) (.cons (.var 2) .nil)))) .nil) .nil) (.cons (.ife (.cmp .Eq (.var 0) (.cstr "out")) (.cons (.ret (.call 4 (.cons (.call 5 (.cons (.call 2 (.cons (.cint 2) .nil)) (.cons (.var 2) .nil))) (.cons (.call 5 (.cons (.var 2) (.cons (.var 2) .nil))) .nil)))) .nil) .nil) (.cons (.ife (.cmp .Eq (.var 0) (.cstr "both")) (.cons (.ret (.call 5 (.cons (.call 5 (.cons (.var 2) (.cons (.var 2) .nil))) (.cons (.call 4 (.cons (.call 2 (.cons (.cint 3) .nil)) (.cons (.call 5 (.cons (.call 2 (.cons (.cint 2) .nil)) (.cons (.var 2) .nil))) .nil))) .nil)))) .nil) .nil) (.cons (.ife (.cmp .Eq (.var 0) (.cstr "hold")) (.cons (.ret (.ife (.cmp .Eq (.var 2) (.glo 40)) (.glo 40) (.glo 39))) .nil) .nil) (.cons (.ret (.ife (.cmp .Eq (.var 2) (.glo 39)) (.glo 39) (.glo 40))) .nil))))))))
noncomputable def d_32:Fd:=⟨2,3,b_32⟩
noncomputable def b_33:S:=(.cons (.drop (.call 30 (.cons (.var 0) .nil))) (.cons (.ret (.mget (.glo 42) (.var 0) (.var 0))) .nil))
noncomputable def d_33:Fd:=⟨1,1,b_33⟩
noncomputable def b_34:S:=(.cons (.drop (.call 30 (.cons (.var 0) .nil))) (.cons (.ife (.cmp .Lt (.var 1) (.cint 1)) (.cons (.ret (.lst .nil)) .nil) .nil) (.cons (.ret (.cmpr 0 (.call 32 (.cons (.var 1) (.cons (.call 1 (.cons (.var 0) (.cons (.var 2) .nil))) .nil))) (.rng (.cons (.bin .Add (.var 1) (.cint 1)) .nil)) (.cbl true))) .nil)))
noncomputable def d_34:Fd:=⟨2,2,b_34⟩
noncomputable def b_35:S:=(.cons (.ret (.idx (.lst (.cons (.cstr "even") (.cons (.cstr "in") (.cons (.cstr "out") (.cons (.cstr "both") (.cons (.cstr "hold") (.cons (.cstr "jump") .nil))))))) (.call 12 (.cons (.var 0) (.cons (.var 1) (.cons (.cint 6) .nil)))))) .nil)
noncomputable def d_35:Fd:=⟨2,2,b_35⟩
noncomputable def b_36:S:=(.cons (.ife (.cmp .LtE (.idx (.var 1) (.cint 0)) (.cint 0)) (.cons (.ret (.tup (.cons (.cint 0) (.cons (.cint 1) .nil)))) .nil) .nil) (.cons (.ife (.cmp .GtE (.idx (.var 1) (.cint 0)) (.idx (.var 1) (.cint 1))) (.cons (.ret (.tup (.cons (.cint 1) (.cons (.cint 1) .nil)))) .nil) .nil) (.cons (.ife (.cmp .In (.var 0) (.tup (.cons (.cstr "hold") (.cons (.cstr "jump") .nil)))) (.cons (.ret (.ife (.cmp .Eq (.var 0) (.cstr "hold")) (.tup (.cons (.cint 0) (.cons (.cint 1) .nil))) (.tup (.cons (.cint 1) (.cons (.cint 1) .nil))))) .nil) .nil) (.cons (.unp [2,3] (.var 1)) (.cons (.ife (.cmp .Eq (.var 0) (.cstr "even")) (.cons (.ret (.var 1)) .nil) .nil) (.cons (.ife (.cmp .Eq (.var 0) (.cstr "in")) (.cons (.ret (.call 14 (.cons (.bin .Mult (.var 2) (.var 2)) (.cons (.bin .Mult (.var 3) (.var 3)) .nil)))) .nil) .nil) (.cons (.ife (.cmp .Eq (.var 0) (.cstr "out")) (.cons (.ret (.call 14 (.cons (.bin .Sub (.bin .Mult (.bin .Mult (.cint 2) (.var 2)) (.var 3)) (.bin .Mult (.var 2) (.var 2))) (.cons (.bin .Mult (.var 3) (.var 3)) .nil)))) .nil) .nil) (.cons (.ret (.call 14 (.cons (.bin .Sub (.bin .Mult (.bin .Mult (.bin .Mult (.cint 3) (.var 2)) (.var 2)) (.var 3)) (.bin .Mult (.bin .Mult (.bin .Mult (.cint 2) (.var 2)) (.var 2)) (.var 2))) (.cons (.bin .Mult (.bin .Mult (.var 3) (.var 3)) (.var 3)) .nil)))) .nil))))))))
noncomputable def d_36:Fd:=⟨2,4,b_36⟩
noncomputable def b_37:S:=(.cons (.asg 2 .cnon) (.cons (.asg 3 .cnon) (.cons (.tryx (.cons (.asg 3 (.ife (.cmp .Eq (.var 0) (.cint 0)) (.call 32 (.cons (.var 1) (.cons (.tup (.cons (.cint 1) (.cons (.cint 2) .nil))) .nil))) (.call 33 (.cons (.var 1) .nil)))) .nil) 0 4 (.cons (.asg 2 (.var 4)) .nil)) (.cons (.ife (.isN (.var 2) false) (.cons (.ret (.var 3)) .nil) .nil) (.cons (.ret (.call 26 (.cons (.var 2) .nil))) .nil)))))
noncomputable def d_37:Fd:=⟨2,5,b_37⟩
end VI.VP
end
section
namespace VI.VP
open PySem Fr
inductive Kd where
 | even | inn | out | both | hold | jump
 deriving DecidableEq
noncomputable def Kd.str:Kd->Str
 | .even=>"even"
 | .inn=>"in"
 | .out=>"out"
 | .both=>"both"
 | .hold=>"hold"
 | .jump=>"jump"
noncomputable def Kd.turn:Kd->Kd
 | .inn=>.out
 | .out=>.inn
 | .hold=>.jump
 | .jump=>.hold
 | k=>k
noncomputable def JAy (r:Rat):Rat:=if r<=0 then 0 else if 1<=r then 1 else r
noncomputable def ez (k:Kd) (p:Rat):Rat:=match k with
 | .even=>p
 | .inn=>p*p
 | .out=>2*p - p*p
 | .both=>p*p*(3 - 2*p)
 | .hold=>if p=1 then 1 else 0
 | .jump=>if p=0 then 0 else 1
noncomputable def kinds:D:=.tuple [.str "even",.str "in",.str "out",.str "both",.str "hold",.str "jump"]
noncomputable def turned:D:=.dict [(.str "in",.str "out"),(.str "out",.str "in"),(.str "hold",.str "jump"),(.str "jump",.str "hold")]
structure GloK (glo:Nat->R D):Prop where
 zero:glo 39=.ok (F 0)
 one:glo 40=.ok (F 1)
 kinds:glo 41=.ok VP.kinds
 turned:glo 42=.ok VP.turned
structure TabK (tab:Nat->Option Fd):Prop where
 h29:tab 29=some d_29
 h30:tab 30=some d_30
 h31:tab 31=some d_31
 h32:tab 32=some d_32
 h33:tab 33=some d_33
section
variable {x:Bool} {tab:Nat->Option Fd} {glo:Nat->R D} {sub:Nat->Nat->Bool} {n:Nat}
theorem JNz (g:GloK glo) (T:TabK tab) (d:D) {b:Bool} (h:cmpD .In d VP.kinds=.ok (.bool b)):run x tab glo sub (n+1) 29 [d]=.ok (.bool b):=by
 rw [JAD T.h29,JAE rfl]
 dsimp! [d_29,b_29,g.kinds,h]
theorem JJJ (k:Kd):cmpD .In (.str k.str) VP.kinds=.ok (.bool true):=by
 have h:JBi [.str "even",.str "in",.str "out",.str "both",.str "hold",.str "jump"] (.str k.str)=true:=by cases k<;>decide +kernel
 have h2:([.str "even",.str "in",.str "out",.str "both",.str "hold",.str "jump"]:List D).any (fun z=>PyData.eqv z (.str k.str))=true:=by cases k<;>decide +kernel
 simp only [cmpD,VP.kinds,h,if_true,h2]
theorem JFa (g:GloK glo) (T:TabK tab) (k:Kd):run x tab glo sub (n+2) 30 [.str k.str]=.ok .none:=by
 rw [JAD T.h30,JAE rfl]
 dsimp! [d_30,b_30,JNz g T _ (JJJ k),Bool.not_true]
theorem JGE {k:Nat} {r:Rat} (hk:1<=k) (h:Sz k r):Sz k (JAy r):=by
 unfold JAy
 have h0:Sz 1 (0:Rat):=⟨by decide,by decide⟩
 have h1:Sz 1 (1:Rat):=⟨by decide,by decide⟩
 split
 ·exact h0.mono hk
 ·split
  ·exact h1.mono hk
  ·exact h
theorem JHg (g:GloK glo) (F0:TabF tab) (M:TabM tab) (T:TabK tab) {r:Rat} (hr:Q r):run x tab glo sub (n+3) 31 [F r]=.ok (F (JAy r)):=by
 have h0:Q (0:Rat):=⟨by decide +kernel,by decide +kernel⟩
 have h1:Q (1:Rat):=⟨by decide +kernel,by decide +kernel⟩
 obtain ⟨a,a1,a2,a3,a4⟩:=JJC (x:=x) (glo:=glo) (sub:=sub) (n:=n) F0 M 1 [r] (by simp [h1,hr])
 obtain ⟨b,b1,b2,b3,b4⟩:=JLu (x:=x) (glo:=glo) (sub:=sub) (n:=n) F0 M 0 [a] (by simp [h0,a3])
 simp only [List.map_cons,List.map_nil] at a4 b4
 have e:b=JAy r:=by
  have q1:=a2 1 (by simp)
  have q2:=a2 r (by simp)
  have q3:=b2 0 (by simp)
  have q4:=b2 a (by simp)
  simp only [q_n,List.not_mem_nil,or_false] at a1 b1
  unfold JAy
  grind
 subst e
 rw [JAD T.h31,JAE rfl]
 dsimp! [d_31,b_31,g.zero,g.one,a4,b4]
theorem JMX {a b:Str} (ha:shaped (.str a)=true) (hb:shaped (.str b)=true):cmpD .Eq (.str a) (.str b)=.ok (.bool (a==b)):=by
 simp only [cmpD,ha,hb,Bool.and_self,if_true,PyData.eqv]
theorem JEl (k:Kd):shaped (.str k.str)=true:=by cases k<;>decide +kernel
theorem JLy (k j:Kd):cmpD .Eq (.str k.str) (.str j.str)=.ok (.bool (decide (k=j))):=by
 rw [JMX (JEl k) (JEl j)]
 have:(k.str==j.str)=decide (k=j):=by cases k<;>cases j<;>decide +kernel
 rw [this]
theorem JJN (g:GloK glo) (F0:TabF tab) (M:TabM tab) (T:TabK tab) (k:Kd) {r:Rat} (hr:Sz 200 r):run x tab glo sub (n+4) 32 [.str k.str,F r]=.ok (F (ez k (JAy r))):=by
 have hp:Sz 200 (JAy r):=JGE (by omega) hr
 obtain ⟨p,e⟩:∃p,p=JAy r:=⟨_,rfl⟩
 have kp:run x tab glo sub (n+3) 31 [F r]=.ok (F p):=by rw [e];exact JHg g F0 M T (hr.mono (by omega))
 rw [<-e] at hp ⊢
 have z2:Sz 2 (2:Rat):=⟨by decide,by decide⟩
 have z3:Sz 2 (3:Rat):=⟨by decide,by decide⟩
 have z1:Sz 2 (1:Rat):=⟨by decide,by decide⟩
 have z0:Sz 2 (0:Rat):=⟨by decide,by decide⟩
 have pp:Sz 400 (p*p):=hp.mul hp (by omega)
 have p2:Sz 202 (2*p):=z2.mul hp (by omega)
 have q3:Sz 205 (3 - 2*p):=z3.sub p2 (by omega)
 obtain ⟨ks,hk⟩:∃ks,ks=k.str:=⟨_,rfl⟩
 have nk:run x tab glo sub (n+3) 30 [.str ks]=.ok .none:=by rw [hk];exact JFa g T k
 have c:∀j:Kd,cmpD .Eq (.str ks) (.str j.str)=.ok (.bool (decide (k=j))):=by rw [hk];exact JLy k
 rw [<-hk]
 clear hk
 have c1:=c .even
 have c2:=c .inn
 have c3:=c .out
 have c4:=c .both
 have c5:=c .hold
 simp only [Kd.str] at c1 c2 c3 c4 c5
 rw [JAD T.h32,JAE rfl]
 have w2:run x tab glo sub (n+3) 2 [.int 2]=.ok (F 2):=JCA F0 2
 have w3:run x tab glo sub (n+3) 2 [.int 3]=.ok (F 3):=JCA F0 3
 have m1:run x tab glo sub (n+3) 5 [F p,F p]=.ok (F (p*p)):=JBQ F0 (hp.mono (by omega)) (hp.mono (by omega))
 have m2:run x tab glo sub (n+3) 5 [F 2,F p]=.ok (F (2*p)):=JBQ F0 (z2.mono (by omega)) (hp.mono (by omega))
 have m3:run x tab glo sub (n+3) 4 [F (2*p),F (p*p)]=.ok (F (2*p - p*p)):=JB2 F0 (p2.mono (by omega)) (pp.mono (by omega))
 have m4:run x tab glo sub (n+3) 4 [F 3,F (2*p)]=.ok (F (3 - 2*p)):=JB2 F0 (z3.mono (by omega)) (p2.mono (by omega))
 have m5:run x tab glo sub (n+3) 5 [F (p*p),F (3 - 2*p)]=.ok (F (p*p*(3 - 2*p))):=JBQ F0 (pp.mono (by omega)) (q3.mono (by omega))
 cases k
 case hold =>
  by_cases h:p=1<;>dsimp! [d_32,b_32,nk,JAR,kp,c1,c2,c3,c4,c5,reduceCtorEq,decide_true,decide_false,ez,h,g.zero,g.one]
 case jump =>
  by_cases h:p=0<;>dsimp! [d_32,b_32,nk,JAR,kp,c1,c2,c3,c4,c5,reduceCtorEq,decide_true,decide_false,ez,h,g.zero,g.one]
 all_goals dsimp! [d_32,b_32,nk,JAR,kp,c1,c2,c3,c4,c5,w2,w3,m1,m2,m3,m4,m5,reduceCtorEq,decide_true,decide_false,ez,g.zero,g.one]
end
end VI.VP
end
section
namespace VI.VP
open PySem Fr
theorem JKJ (k:Kd):JDr VP.turned (.str k.str) (.str k.str)=.ok (.str k.turn.str):=by
 have q:∀a b:Kd,(a.str=b.str)=(a=b):=by
  intro a b
  apply propext
  cases a<;>cases b<;>simp only [Kd.str,reduceCtorEq,iff_true,iff_false]<;>decide +kernel
 have e:VP.turned=.dict [(.str Kd.inn.str,.str Kd.out.str),(.str Kd.out.str,.str Kd.inn.str),(.str Kd.hold.str,.str Kd.jump.str),(.str Kd.jump.str,.str Kd.hold.str)]:=rfl
 simp only [e,JDr,getD,q]
 cases k<;>simp only [reduceCtorEq,if_true,if_false,Kd.turn]
theorem ez0 (k:Kd):ez k 0=0:=by cases k<;>decide +kernel
theorem ez1 (k:Kd):ez k 1=1:=by cases k<;>decide +kernel
theorem JLb (r:Rat):r=(r.num:Rat) / ((r.den:Int):Rat):=by
 conv=>lhs;rw [<-Rat.num_divInt_den r,Rat.divInt_eq_div]
theorem JIl (r:Rat):((r.den:Int):Rat)≠0:=by
 intro h
 have:=den_pos r
 have h2:((r.den:Int):Rat)=((0:Int):Rat):=h
 rw [Rat.intCast_inj] at h2
 omega
theorem JMI (r:Rat):Rat.divInt (2*r.num*r.den - r.num*r.num) ((r.den:Int)*r.den)=2*r - r*r:=by
 have hd:=JIl r
 have e:=JLb r
 rw [Rat.divInt_eq_div]
 simp only [Rat.intCast_sub,Rat.intCast_mul,Rat.intCast_ofNat]
 generalize ((r.den:Int):Rat)=d at *
 generalize (r.num:Rat)=u at *
 subst e
 grind
theorem JJD (r:Rat):Rat.divInt (3*r.num*r.num*r.den - 2*r.num*r.num*r.num) ((r.den:Int)*r.den*r.den)=r*r*(3 - 2*r):=by
 have hd:=JIl r
 have e:=JLb r
 rw [Rat.divInt_eq_div]
 simp only [Rat.intCast_sub,Rat.intCast_mul,Rat.intCast_ofNat]
 generalize ((r.den:Int):Rat)=d at *
 generalize (r.num:Rat)=u at *
 subst e
 grind
theorem JBr (r:Rat):r.num<=0↔r<=0:=by
 rw [Rat.le_iff]
 simp
theorem JDV (r:Rat):(r.den:Int)<=r.num↔1<=r:=by
 rw [Rat.le_iff]
 simp
section
variable {x:Bool} {tab:Nat->Option Fd} {glo:Nat->R D} {sub:Nat->Nat->Bool} {n:Nat}
theorem JIS (g:GloK glo) (T:TabK tab) (k:Kd):run x tab glo sub (n+3) 33 [.str k.str]=.ok (.str k.turn.str):=by
 have nk:run x tab glo sub (n+2) 30 [.str k.str]=.ok .none:=JFa g T k
 have e:=JKJ k
 have e':=g.turned
 simp only [VP.turned] at e e'
 rw [JAD T.h33,JAE rfl]
 dsimp! [d_33,b_33,nk,JAR,e',e]
theorem in_hj (k:Kd):cmpD .In (.str k.str) (.tuple [.str "hold",.str "jump"])=.ok (.bool (decide (k=.hold) || decide (k=.jump))):=by
 have h:JBi [.str "hold",.str "jump"] (.str k.str)=true:=by cases k<;>decide +kernel
 have h2:([.str "hold",.str "jump"]:List D).any (fun z=>PyData.eqv z (.str k.str))=(decide (k=.hold) || decide (k=.jump)):=by cases k<;>decide +kernel
 simp only [cmpD,h,if_true,h2]
theorem F0':PyData.tuple [.int 0,.int 1]=F 0:=rfl
theorem F1':PyData.tuple [.int 1,.int 1]=F 1:=rfl
theorem F_unp (r:Rat):JAd 2 (F r)=.ok [.int r.num,.int r.den]:=rfl
theorem JIO (Lw:TabL tab) (h36:tab 36=some d_36) (k:Kd) {r:Rat} (hr:Sz 200 r):run x tab glo sub (n+3) 36 [.str k.str,F r]=.ok (F (ez k (JAy r))):=by
 rw [JAD h36,JAE rfl]
 by_cases h1:r.num<=0
 ·have e:JAy r=0:=by unfold JAy;rw [if_pos ((JBr r).mp h1)]
  rw [e,ez0]
  dsimp! [d_36,b_36,h1,decide_true,F0']
 ·by_cases h2:(r.den:Int)<=r.num
  ·have e:JAy r=1:=by
    unfold JAy
    rw [if_neg (fun z=>h1 ((JBr r).mpr z)),if_pos ((JDV r).mp h2)]
   rw [e,ez1]
   dsimp! [d_36,b_36,h1,h2,decide_true,decide_false,F1']
  ·have e:JAy r=r:=by
    unfold JAy
    rw [if_neg (fun z=>h1 ((JBr r).mpr z)),if_neg (fun z=>h2 ((JDV r).mpr z))]
   have hn0:r≠0:=fun z=>h1 (by rw [z];decide)
   have hn1:r≠1:=fun z=>h2 (by rw [z];decide)
   rw [e]
   have ln:L r.num:=hr.Ln (by omega)
   have ld:L (r.den:Int):=hr.Ld (by omega)
   have an:=hr.n
   have ad:=hr.d
   have u2:(2*r.num).natAbs<2 ^ 202:=JDG (JAQ (i:=2) (a:=2) (by decide) an) (by omega)
   have u3:(3*r.num).natAbs<2 ^ 202:=JDG (JAQ (i:=2) (a:=3) (by decide) an) (by omega)
   have nn:(r.num*r.num).natAbs<2 ^ 400:=JAQ an an
   have dd:((r.den:Int)*r.den).natAbs<2 ^ 400:=JAQ ad ad
   have u2n:(2*r.num*r.num).natAbs<2 ^ 402:=JAQ u2 an
   have u3n:(3*r.num*r.num).natAbs<2 ^ 402:=JAQ u3 an
   have ddd:((r.den:Int)*r.den*r.den).natAbs<2 ^ 600:=JAQ dd ad
   have d0:(r.den:Int)*r.den≠0:=Int.mul_ne_zero (JAS r) (JAS r)
   have d1:(r.den:Int)*r.den*r.den≠0:=Int.mul_ne_zero d0 (JAS r)
   have m1:run x tab glo sub (n+2) 14 [.int (r.num*r.num),.int (r.den*r.den)]=.ok (F (r*r)):=by rw [JBH Lw _ _ d0 (L.of dd (by omega)),JFk]
   have m2:run x tab glo sub (n+2) 14 [.int (2*r.num*r.den - r.num*r.num),.int (r.den*r.den)]=.ok (F (2*r - r*r)):=by rw [JBH Lw _ _ d0 (L.of dd (by omega)),JMI]
   have m3:run x tab glo sub (n+2) 14 [.int (3*r.num*r.num*r.den - 2*r.num*r.num*r.num),.int (r.den*r.den*r.den)]=.ok (F (r*r*(3 - 2*r))):=by rw [JBH Lw _ _ d1 (L.of ddd (by omega)),JJD]
   have hj:=in_hj k
   obtain ⟨ks,hk⟩:∃ks,ks=k.str:=⟨_,rfl⟩
   have c:∀j:Kd,cmpD .Eq (.str ks) (.str j.str)=.ok (.bool (decide (k=j))):=by rw [hk];exact JLy k
   rw [<-hk] at hj ⊢
   clear hk
   have c1:=c .even
   have c2:=c .inn
   have c3:=c .out
   have c5:=c .hold
   simp only [Kd.str] at c1 c2 c3 c5
   cases k<;>dsimp! [d_36,b_36,h1,h2,decide_true,decide_false,hj,reduceCtorEq,Bool.or_false,Bool.or_true,Bool.or_self,c1,c2,c3,c5,F0',F1',ez,hn0,hn1,List.length_cons,List.length_nil,Nat.reduceAdd,F_unp,JBB,
    JAj ln ln,JAj ld ld,JAj (L.of dd (by omega)) ld,JCe (i:=2) (j:=r.num) (by decide),JCe (i:=3) (j:=r.num) (by decide),JAj (L.of u2 (by omega)) ld,JAj (L.of u2 (by omega)) ln,JAj (L.of u3 (by omega)) ln,JAj (L.of u3n (by omega)) ld,JAj (L.of u2n (by omega)) ln,m1,m2,m3]
theorem JM7 (i:Int) (h0:0<=i) (h1:i<6):∃k:Kd,idxD (.list [.str "even",.str "in",.str "out",.str "both",.str "hold",.str "jump"]) (.int i)=.ok (.str k.str):=by
 have:i=0\/i=1\/i=2\/i=3\/i=4\/i=5:=by omega
 rcases this with rfl | rfl | rfl | rfl | rfl | rfl
 ·exact ⟨.even,rfl⟩
 ·exact ⟨.inn,rfl⟩
 ·exact ⟨.out,rfl⟩
 ·exact ⟨.both,rfl⟩
 ·exact ⟨.hold,rfl⟩
 ·exact ⟨.jump,rfl⟩
theorem JKD (Lw:TabL tab) (h35:tab 35=some d_35) (ns:List Int) (j:Int) (hj:0<=j) (hj2:j<1000000):∃k:Kd,run x tab glo sub (n+3) 35 [sc ns,.int j]=.ok (.str k.str):=by
 rw [JAD h35,JAE rfl]
 obtain ⟨i,i0,i1,hi⟩:=JCC (x:=x) (glo:=glo) (sub:=sub) (n:=n) Lw ns j 6 hj (by omega) (by decide)
 obtain ⟨k,hk⟩:=JM7 i i0 i1
 refine ⟨k,?_⟩
 dsimp! [d_35,b_35,hi,hk]
end
end VI.VP
end
section
namespace VI.VP
open PySem Fr
section
variable {x:Bool} {tab:Nat->Option Fd} {glo:Nat->R D} {sub:Nat->Nat->Bool} {n:Nat}
noncomputable def parts (k:Kd) (m:Int):List Rat:=(List.range (m+1).toNat).map fun j:Nat=>ez k (JAy (Rat.divInt (j:Int) m))
end
end VI.VP
end
section
namespace VI.VP
noncomputable def b_43:S:=(.cons (.drop (.call 30 (.cons (.var 0) .nil))) (.cons (.ife (.or (.call 6 (.cons (.var 1) (.cons (.glo 39) .nil))) (.call 6 (.cons (.glo 40) (.cons (.var 1) .nil)))) (.cons (.ret (.glo 39)) .nil) .nil) (.cons (.ife (.cmp .Eq (.var 0) (.cstr "even")) (.cons (.ret (.glo 40)) .nil) .nil) (.cons (.ife (.cmp .Eq (.var 0) (.cstr "in")) (.cons (.ret (.call 5 (.cons (.call 2 (.cons (.cint 2) .nil)) (.cons (.var 1) .nil)))) .nil) .nil) (.cons (.ife (.cmp .Eq (.var 0) (.cstr "out")) (.cons (.ret (.call 4 (.cons (.call 2 (.cons (.cint 2) .nil)) (.cons (.call 5 (.cons (.call 2 (.cons (.cint 2) .nil)) (.cons (.var 1) .nil))) .nil)))) .nil) .nil) (.cons (.ife (.cmp .Eq (.var 0) (.cstr "both")) (.cons (.ret (.call 5 (.cons (.call 2 (.cons (.cint 6) .nil)) (.cons (.call 4 (.cons (.var 1) (.cons (.call 5 (.cons (.var 1) (.cons (.var 1) .nil))) .nil))) .nil)))) .nil) .nil) (.cons (.ret (.glo 39)) .nil)))))))
noncomputable def d_43:Fd:=⟨2,2,b_43⟩
noncomputable def b_44:S:=(.cons (.asg 1 .cnon) (.cons (.tryx (.cons (.drop (.call 43 (.cons (.var 0) (.cons (.tup (.cons (.cint 1) (.cons (.cint 2) .nil))) .nil)))) .nil) 0 2 (.cons (.asg 1 (.var 2)) .nil)) (.cons (.ret (.isi (.var 1) (.own 2))) .nil)))
noncomputable def d_44:Fd:=⟨1,3,b_44⟩
end VI.VP
end
section
namespace VI.VP
open PySem Fr
noncomputable def slm (k:Kd) (r:Rat):Rat:=match k with
 | .even=>1
 | .inn=>2*r
 | .out=>2 - 2*r
 | .both=>6*(r - r*r)
 | .hold=>0
 | .jump=>0
noncomputable def sl (k:Kd) (r:Rat):Rat:=if r<0\/1<r then 0 else slm k r
section
variable {x:Bool} {tab:Nat->Option Fd} {glo:Nat->R D} {sub:Nat->Nat->Bool} {n:Nat}
theorem JJV (g:GloK glo) (F0:TabF tab) (T:TabK tab) (h43:tab 43=some d_43) (k:Kd) {r:Rat} (hr:Sz 200 r):run x tab glo sub (n+4) 43 [.str k.str,F r]=.ok (F (sl k r)):=by
 have z2:Sz 2 (2:Rat):=⟨by decide,by decide⟩
 have z1:Sz 2 (1:Rat):=⟨by decide,by decide⟩
 have z0:Sz 2 (0:Rat):=⟨by decide,by decide⟩
 have z6:Sz 3 (6:Rat):=⟨by decide,by decide⟩
 have rr:Sz 400 (r*r):=hr.mul hr (by omega)
 have r2:Sz 202 (2*r):=z2.mul hr (by omega)
 have rs:Sz 601 (r - r*r):=hr.sub rr (by omega)
 obtain ⟨ks,hk⟩:∃ks,ks=k.str:=⟨_,rfl⟩
 have nk:run x tab glo sub (n+3) 30 [.str ks]=.ok .none:=by rw [hk];exact JFa g T k
 have c:∀j:Kd,cmpD .Eq (.str ks) (.str j.str)=.ok (.bool (decide (k=j))):=by rw [hk];exact JLy k
 rw [<-hk]
 clear hk
 have c1:=c .even
 have c2:=c .inn
 have c3:=c .out
 have c4:=c .both
 simp only [Kd.str] at c1 c2 c3 c4
 have l1:run x tab glo sub (n+3) 6 [F r,F 0]=.ok (.bool (decide (r<0))):=JBw F0 (hr.mono (by omega)) (z0.mono (by omega))
 have l2:run x tab glo sub (n+3) 6 [F 1,F r]=.ok (.bool (decide (1<r))):=JBw F0 (z1.mono (by omega)) (hr.mono (by omega))
 have w2:run x tab glo sub (n+3) 2 [.int 2]=.ok (F 2):=JCA F0 2
 have w6:run x tab glo sub (n+3) 2 [.int 6]=.ok (F 6):=JCA F0 6
 have m1:run x tab glo sub (n+3) 5 [F r,F r]=.ok (F (r*r)):=JBQ F0 (hr.mono (by omega)) (hr.mono (by omega))
 have m2:run x tab glo sub (n+3) 5 [F 2,F r]=.ok (F (2*r)):=JBQ F0 (z2.mono (by omega)) (hr.mono (by omega))
 have m3:run x tab glo sub (n+3) 4 [F 2,F (2*r)]=.ok (F (2 - 2*r)):=JB2 F0 (z2.mono (by omega)) (r2.mono (by omega))
 have m4:run x tab glo sub (n+3) 4 [F r,F (r*r)]=.ok (F (r - r*r)):=JB2 F0 (hr.mono (by omega)) (rr.mono (by omega))
 have m5:run x tab glo sub (n+3) 5 [F 6,F (r - r*r)]=.ok (F (6*(r - r*r))):=JBQ F0 (z6.mono (by omega)) (rs.mono (by omega))
 rw [JAD h43,JAE rfl]
 by_cases h1:r<0
 ·have e:sl k r=0:=by unfold sl;rw [if_pos (.inl h1)]
  rw [e]
  dsimp! [d_43,b_43,nk,JAR,g.zero,g.one,l1,h1,decide_true]
 ·by_cases h2:1<r
  ·have e:sl k r=0:=by unfold sl;rw [if_pos (.inr h2)]
   rw [e]
   dsimp! [d_43,b_43,nk,JAR,g.zero,g.one,l1,l2,h1,h2,decide_true,decide_false]
  ·unfold sl
   rw [if_neg (fun z=>z.elim h1 h2)]
   cases k<;>dsimp! [d_43,b_43,nk,JAR,g.zero,g.one,l1,l2,h1,h2,decide_true,decide_false,c1,c2,c3,c4,reduceCtorEq,w2,w6,m1,m2,m3,m4,m5,slm]
end
end VI.VP
end
section
namespace VI.VP
open PySem Fr
class Z (k:outParam Nat) (q:Rat):Prop where
 h:Sz k q
theorem Z.le {k:Nat} {q:Rat} (z:Z k q) {n:Nat} (h:k<=n):Sz n q:=z.h.mono h
section
variable {i j:Nat} {p q:Rat}
instance [a:Z i p] [b:Z j q]:Z (i+j+1) (p+q):=⟨a.h.add b.h (q_t _)⟩
instance [a:Z i p] [b:Z j q]:Z (i+j+1) (p - q):=⟨a.h.sub b.h (q_t _)⟩
instance [a:Z i p] [b:Z j q]:Z (i+j) (p*q):=⟨a.h.mul b.h (q_t _)⟩
instance [a:Z i p] [b:Z j q]:Z (i+j+1) (p / q):=⟨by
 by_cases h:q=0
 ·subst h
  rw [show p / (0:Rat)=0 by rw [Rat.div_def];simp]
  exact ⟨Nat.pow_pos (by omega),q_m (by decide:(0:Rat).den<2 ^ 1) (Nat.pow_le_pow_right (by omega) (by omega))⟩
 ·exact a.h.div b.h h (by omega)⟩
instance:Z 3 (0:Rat):=⟨⟨by decide,by decide⟩⟩
instance:Z 3 (1:Rat):=⟨⟨by decide,by decide⟩⟩
instance:Z 3 (2:Rat):=⟨⟨by decide,by decide⟩⟩
instance:Z 3 (3:Rat):=⟨⟨by decide,by decide⟩⟩
instance:Z 3 (4:Rat):=⟨⟨by decide,by decide⟩⟩
instance:Z 3 (5:Rat):=⟨⟨by decide,by decide⟩⟩
instance:Z 3 (6:Rat):=⟨⟨by decide,by decide⟩⟩
instance [a:Z i q]:Z (i+1) (JAy q):=⟨JGE (by omega) (a.h.mono (by omega))⟩
theorem Small.Z {q:Rat} (h:Small q):Z 5 q:=⟨h.sz⟩
theorem sz01 {n:Nat} (h:1<=n):Sz n (0:Rat)/\Sz n (1:Rat):=⟨Sz.mono (i:=1) ⟨by decide,by decide⟩ h,Sz.mono (i:=1) ⟨by decide,by decide⟩ h⟩
instance [a:Z i p] {k:Kd}:Z (4*i+10) (ez k p):=⟨by
 have z2:Z 3 (2:Rat):=inferInstance
 have h1:Z (i+i) (p*p):=inferInstance
 have h2:Z ((3+i)+(i+i)+1) (2*p - p*p):=inferInstance
 have h3:Z ((i+i)+(3+(3+i)+1)) (p*p*(3 - 2*p)):=inferInstance
 cases k
 ·exact a.le (by omega)
 ·exact h1.le (by omega)
 ·exact h2.le (by omega)
 ·exact h3.le (by omega)
 ·show Sz _ (if p=1 then 1 else 0);split<;>first | exact (sz01 (by omega)).1 | exact (sz01 (by omega)).2
 ·show Sz _ (if p=0 then 0 else 1);split<;>first | exact (sz01 (by omega)).1 | exact (sz01 (by omega)).2⟩
instance [a:Z i p] {k:Kd}:Z (4*i+10) (sl k p):=⟨by
 have h1:Z (3+i) (2*p):=inferInstance
 have h2:Z (3+(3+i)+1) (2 - 2*p):=inferInstance
 have h3:Z (3+(i+(i+i)+1)) (6*(p - p*p)):=inferInstance
 unfold sl
 split
 ·exact (sz01 (by omega)).1
 ·cases k
  ·exact (sz01 (by omega)).2
  ·exact h1.le (by omega)
  ·exact h2.le (by omega)
  ·exact h3.le (by omega)
  ·exact (sz01 (by omega)).1
  ·exact (sz01 (by omega)).1⟩
end
theorem nd (q:Rat):q*((q.den:Int):Rat)=(q.num:Rat):=by
 have z:((q.den:Int):Rat)≠0:=by exact_mod_cast JAS q
 conv=>lhs;lhs;rw [<-Rat.num_divInt_den q,Rat.divInt_eq_div,Rat.div_def]
 rw [Rat.mul_assoc,Rat.inv_mul_cancel _ z,Rat.mul_one]
theorem JPb {K:Rat} {N D:Int} (h:K*(D:Rat)=(N:Rat)) (hD:D≠0):K=Rat.divInt N D:=by
 rw [Rat.divInt_eq_div,Rat.div_def,<-h,Rat.mul_assoc,Rat.mul_inv_cancel _ (by exact_mod_cast hD),Rat.mul_one]
theorem pw_le {x i j:Nat} (h:x<2 ^ i) (e:i<=j):x<2 ^ j:=q_m h (Nat.pow_le_pow_right (by omega) e)
theorem pw1 (i:Nat):2 ^ (i+1)=2*2 ^ i/\2 ^ (i+2)=4*2 ^ i/\2 ^ (i+3)=8*2 ^ i/\2 ^ (i+4)=16*2 ^ i:=by
 refine ⟨?_,?_,?_,?_⟩<;>(rw [Nat.pow_add];omega)
section
variable {a c i i4 i5 i6:Nat} {s g l u v q:Rat}
theorem JLi {b c:Nat} {e:Rat} (hs:Sz a s) (hg:Sz b g) (he:Sz c e):Sz (a+b+c+2) (s+e*(g - s)):=by
 have d1:=JAS s
 have d2:=JAS g
 have d3:=JAS e
 rw [JPb (K:=s+e*(g - s)) (N:=s.num*g.den*e.den+(e.num*g.num*s.den - e.num*s.num*g.den)) (D:=s.den*g.den*e.den) ?_ (Int.mul_ne_zero (Int.mul_ne_zero d1 d2) d3)]
 ·have P1:=JAQ (JAQ hs.n hg.d) he.d
  have P2:=JAQ (JAQ he.n hg.n) hs.d
  have P3:=JAQ (JAQ he.n hs.n) hg.d
  rw [show c+b+a=a+b+c by omega] at P2
  rw [show c+a+b=a+b+c by omega] at P3
  have E:=(pw1 (a+b+c)).2.1
  exact Sz.of (Int.mul_ne_zero (Int.mul_ne_zero d1 d2) d3) (by omega) (pw_le (JAQ (JAQ hs.d hg.d) he.d) (by omega))
 ·have e1:=nd s
  have e2:=nd g
  have e3:=nd e
  simp only [Rat.intCast_add,Rat.intCast_mul,Rat.intCast_sub]
  rw [<-e1,<-e2,<-e3]
  grind
end
instance (priority:=high) {i j k:Nat} {s g e:Rat} [a:Z i s] [b:Z j g] [c:Z k e]:Z (i+j+k+2) (s+e*(g - s)):=⟨JLi a.h b.h c.h⟩
instance (priority:=high) {i j k:Nat} {s g e:Rat} [a:Z i s] [b:Z j g] [c:Z k e]:Z (i+j+k+2) (s+(g - s)*e):=⟨by
 rw [Rat.mul_comm];exact JLi a.h b.h c.h⟩
section
variable {j:Nat} {p:Rat} [a:Z j p]
instance (priority:=high):Z (3*j+8) (p*p*p - 2*(p*p)+p):=⟨by
 rw [show p*p*p - 2*(p*p)+p=p*((1 - p)*(1 - p)) by grind]
 exact (inferInstance:Z _ (p*((1 - p)*(1 - p)))).le (by omega)⟩
instance (priority:=high):Z (3*j+4) (p*p*p - p*p):=⟨by
 rw [show p*p*p - p*p=p*p*(p - 1) by grind]
 exact (inferInstance:Z _ (p*p*(p - 1))).le (by omega)⟩
instance (priority:=high):Z (2*j+11) (3*(p*p) - 4*p+1):=⟨by
 rw [show 3*(p*p) - 4*p+1=(3*p - 1)*(p - 1) by grind]
 exact (inferInstance:Z _ ((3*p - 1)*(p - 1))).le (by omega)⟩
instance (priority:=high):Z (2*j+7) (3*(p*p) - 2*p):=⟨by
 rw [show 3*(p*p) - 2*p=p*(3*p - 2) by grind]
 exact (inferInstance:Z _ (p*(3*p - 2))).le (by omega)⟩
end
end VI.VP
end
section
namespace VI.VP
noncomputable def JIy:S:=(.cons (.ret (.cmpr 0 (.var 0) (.var 0) (.not (.call 6 (.cons (.var 2) (.cons (.idx (.var 0) (.glo 128)) .nil)))))) .nil)
noncomputable def JJA:Fd:=⟨2,2,JIy⟩
noncomputable def JFV:S:=(.cons (.asg 1 (.lst .nil)) (.cons (.for1 2 (.var 0) (.cons (.ins 1 (.cons (.blt .len (.cons (.call 218 (.cons (.var 1) (.cons (.idx (.var 2) (.glo 128)) .nil))) .nil)) (.cons (.var 2) .nil))) .nil)) (.cons (.ret (.var 1)) .nil)))
noncomputable def JJL:Fd:=⟨1,3,JFV⟩
noncomputable def JKB:S:=(.cons (.ret (.cmpr 0 (.idx (.var 0) (.glo 226)) (.var 0) (.and (.call 6 (.cons (.var 2) (.cons (.idx (.var 0) (.glo 128)) .nil))) (.not (.call 6 (.cons (.var 3) (.cons (.idx (.var 0) (.glo 128)) .nil))))))) .nil)
noncomputable def JI8:Fd:=⟨3,3,JKB⟩
noncomputable def JJX:S:=(.cons (.ret (.cmpr 0 (.idx (.var 0) (.glo 226)) (.var 0) (.and (.not (.call 6 (.cons (.idx (.var 0) (.glo 128)) (.cons (.var 2) .nil)))) (.call 6 (.cons (.idx (.var 0) (.glo 128)) (.cons (.var 3) .nil)))))) .nil)
noncomputable def JKH:Fd:=⟨3,3,JJX⟩
noncomputable def JIr:S:=(.cons (.asg 3 (.call 219 (.cons (.var 0) .nil))) (.cons (.ife (.call 6 (.cons (.var 2) (.cons (.var 1) .nil))) (.cons (.ret (.call 221 (.cons (.xop .rev (.cons (.var 3) .nil)) (.cons (.var 2) (.cons (.var 1) .nil))))) .nil) .nil) (.cons (.ret (.call 220 (.cons (.var 3) (.cons (.var 1) (.cons (.var 2) .nil))))) .nil)))
noncomputable def JHS:Fd:=⟨3,4,JIr⟩
noncomputable def JBJ:S:=(.cons (.asg 1 (.lst .nil)) (.cons (.for1 2 (.rng (.cons (.call 12 (.cons (.var 0) (.cons (.cint 0) (.cons (.cint 6) .nil)))) .nil)) (.cons (.app 1 (.tup (.cons (.call 14 (.cons (.call 12 (.cons (.var 0) (.cons (.bin .Add (.cint 1) (.var 2)) (.cons (.cint 9) .nil)))) (.cons (.cint 2) .nil))) (.cons (.idx (.cstr "dbeac") (.var 2)) .nil)))) .nil)) (.cons (.for1 2 (.rng (.cons (.cint 5) .nil)) (.cons (.asg 3 (.lst .nil)) (.cons (.for1 4 (.rng (.cons (.cint 3) .nil)) (.cons (.asg 5 (.bin .Sub (.call 12 (.cons (.var 0) (.cons (.bin .Add (.bin .Add (.cint 10) (.bin .Mult (.cint 3) (.var 2))) (.var 4)) (.cons (.cint 19) .nil)))) (.cint 1))) (.cons (.app 3 (.tup (.cons (.var 5) (.cons (.call 14 (.cons (.var 5) (.cons (.cint 4) .nil))) .nil)))) .nil))) (.cons (.unp [6,7,8] (.cmpr 0 (.idx (.var 0) (.cint 1)) (.xop .srt (.cons (.var 3) .nil)) (.cbl true))) (.cons (.ife (.cmp .NotEq (.bin .Add (.call 222 (.cons (.var 1) (.cons (.var 6) (.cons (.var 7) .nil)))) (.call 222 (.cons (.var 1) (.cons (.var 7) (.cons (.var 8) .nil))))) (.call 222 (.cons (.var 1) (.cons (.var 6) (.cons (.var 8) .nil))))) (.cons (.ret (.cbl false)) .nil) .nil) (.cons (.ife (.cmp .NotEq (.bin .Add (.call 222 (.cons (.var 1) (.cons (.var 8) (.cons (.var 7) .nil)))) (.call 222 (.cons (.var 1) (.cons (.var 7) (.cons (.var 6) .nil))))) (.call 222 (.cons (.var 1) (.cons (.var 8) (.cons (.var 6) .nil))))) (.cons (.ret (.cbl false)) .nil) .nil) (.cons (.asg 9 (.call 222 (.cons (.var 1) (.cons (.var 6) (.cons (.var 8) .nil))))) (.cons (.asg 10 (.call 222 (.cons (.var 1) (.cons (.var 8) (.cons (.var 6) .nil))))) (.cons (.asg 11 (.cmpr 2 (.var 1) (.var 1) (.and (.call 21 (.cons (.var 8) (.cons (.var 0) .nil))) (.call 21 (.cons (.var 0) (.cons (.var 10) .nil)))))) (.cons (.ife (.cmp .NotEq (.xop .srt (.cons (.cmpr 0 (.var 0) (.var 9) (.cmp .In (.var 0) (.var 11))) .nil)) (.xop .srt (.cons (.var 11) .nil))) (.cons (.ret (.cbl false)) .nil) .nil) (.cons (.asg 12 (.cmpr 2 (.var 1) (.var 1) (.and (.cmp .Eq (.var 0) (.var 8)) (.cmp .NotEq (.var 8) (.var 10))))) (.cons (.ife (.cmp .NotEq (.xop .srt (.cons (.bin .Add (.var 9) (.var 12)) .nil)) (.xop .sst (.cons (.bin .Add (.var 9) (.var 10)) .nil))) (.cons (.ret (.cbl false)) .nil) .nil) (.cons (.ife (.cmp .NotEq (.call 222 (.cons (.var 1) (.cons (.var 6) (.cons (.var 6) .nil)))) (.lst .nil)) (.cons (.ret (.cbl false)) .nil) .nil) .nil))))))))))))) (.cons (.asg 13 (.call 222 (.cons (.var 1) (.cons (.tup (.cons (.neg (.cint 1)) (.cons (.cint 1) .nil))) (.cons (.tup (.cons (.cint 9) (.cons (.cint 1) .nil))) .nil))))) (.cons (.ret (.and (.cmp .Eq (.xop .srt (.cons (.var 13) .nil)) (.xop .srt (.cons (.cmpr 2 (.var 1) (.var 1) (.cbl true)) .nil))) (.cmp .Eq (.fn1 .rev (.var 13)) (.call 222 (.cons (.var 1) (.cons (.tup (.cons (.cint 9) (.cons (.cint 1) .nil))) (.cons (.tup (.cons (.neg (.cint 1)) (.cons (.cint 1) .nil))) .nil))))))) .nil)))))
noncomputable def JJc:Fd:=⟨1,14,JBJ⟩
noncomputable def tabA (i:Nat):Option Fd:=match i with
 | 0=>some d_0
 | 1=>some d_1
 | 2=>some d_2
 | 3=>some d_3
 | 4=>some d_4
 | 5=>some d_5
 | 6=>some d_6
 | 7=>some d_7
 | 8=>some d_8
 | 9=>some d_9
 | 10=>some d_10
 | 11=>some d_11
 | 12=>some d_12
 | 13=>some d_13
 | 14=>some d_14
 | 15=>some d_15
 | 16=>some d_16
 | 17=>some d_17
 | 18=>some d_18
 | 19=>some d_19
 | 20=>some d_20
 | 21=>some d_21
 | 23=>some d_23
 | 24=>some d_24
 | 25=>some d_25
 | 26=>some d_26
 | 27=>some d_27
 | 29=>some d_29
 | 30=>some d_30
 | 31=>some d_31
 | 32=>some d_32
 | 33=>some d_33
 | 34=>some d_34
 | 35=>some d_35
 | 36=>some d_36
 | 37=>some d_37
 | 43=>some d_43
 | 44=>some d_44
 | 218=>some JJA
 | 219=>some JJL
 | 220=>some JI8
 | 221=>some JKH
 | 222=>some JHS
 | 227=>some JJc
 | _=>none
noncomputable def gloA (i:Nat):R D:=match i with
 | 39=>.ok (F 0)
 | 40=>.ok (F 1)
 | 41=>.ok (VI.VP.kinds)
 | 42=>.ok (VI.VP.turned)
 | 55=>.ok (.int 0)
 | 56=>.ok (.int 1)
 | 57=>.ok (.int 2)
 | 58=>.ok (.int 3)
 | 59=>.ok (.int 4)
 | 60=>.ok (.int 5)
 | 61=>.ok (.str "kept")
 | 77=>.ok (.tuple [F 0,F 0])
 | 93=>.ok (.int 0)
 | 94=>.ok (.int 1)
 | 128=>.ok (.int 0)
 | 129=>.ok (.int 1)
 | 151=>.ok (.int 5)
 | 152=>.ok (.int 4)
 | 192=>.ok (.dict [(.str "even",.tuple [.int 1,.int 2]),(.str "both",.tuple [.int 1,.int 2]),(.str "kept",.tuple [.int 1,.int 2]),(.str "in",.tuple [.int 1,.int 3]),(.str "out",.tuple [.int 2,.int 3]),(.str "hold",.tuple [.int 0,.int 1]),(.str "jump",.tuple [.int 1,.int 1])])
 | 226=>.ok (.int 1)
 | _=>.bad
end VI.VP
end
section
namespace VI.VP
open PySem Fr
theorem tF:TabF tabA:=⟨rfl,rfl,rfl,rfl,rfl,rfl,rfl⟩
theorem tL:TabL tabA:=⟨rfl,rfl,rfl,rfl,rfl,rfl,rfl,rfl,rfl,rfl,rfl⟩
theorem tM:TabM tabA:=⟨rfl,rfl,rfl,rfl⟩
theorem tK:TabK tabA:=⟨rfl,rfl,rfl,rfl,rfl⟩
theorem gK:GloK gloA:=⟨rfl,rfl,rfl,rfl⟩
theorem G39:gloA 39=.ok (F 0):=rfl
theorem G40:gloA 40=.ok (F 1):=rfl
theorem G55:gloA 55=.ok (.int 0):=rfl
theorem G56:gloA 56=.ok (.int 1):=rfl
theorem G57:gloA 57=.ok (.int 2):=rfl
theorem G58:gloA 58=.ok (.int 3):=rfl
theorem G59:gloA 59=.ok (.int 4):=rfl
theorem G60:gloA 60=.ok (.int 5):=rfl
theorem G61:gloA 61=.ok (.str "kept"):=rfl
section
variable {x:Bool} {sub:Nat->Nat->Bool} {m i j:Nat} {p q:Rat}
theorem JAI {k:Nat} (h:k<=m):∃n,m=n+k:=⟨m - k,by omega⟩
theorem JLl [a:Z i p] [b:Z j q] (hi:i<=1500) (hj:j<=1500) (hm:3<=m):run x tabA gloA sub m 3 [F p,F q]=.ok (F (p+q)):=by
 obtain ⟨n,rfl⟩:=JAI hm
 exact JNg tF (a.le hi) (b.le hj)
theorem JIT [a:Z i p] [b:Z j q] (hi:i<=1500) (hj:j<=1500) (hm:3<=m):run x tabA gloA sub m 4 [F p,F q]=.ok (F (p - q)):=by
 obtain ⟨n,rfl⟩:=JAI hm
 exact JB2 tF (a.le hi) (b.le hj)
theorem JHb [a:Z i p] [b:Z j q] (hi:i<=1500) (hj:j<=1500) (hm:3<=m):run x tabA gloA sub m 5 [F p,F q]=.ok (F (p*q)):=by
 obtain ⟨n,rfl⟩:=JAI hm
 exact JBQ tF (a.le hi) (b.le hj)
theorem q_less [a:Z i p] [b:Z j q] (hi:i<=1500) (hj:j<=1500) (hm:1<=m):run x tabA gloA sub m 6 [F p,F q]=.ok (.bool (decide (p<q))):=by
 obtain ⟨n,rfl⟩:=JAI hm
 exact JBw tF (a.le hi) (b.le hj)
theorem JPa [a:Z i p] [b:Z j q] (h0:q≠0) (hi:i<=1500) (hj:j<=1500) (hm:3<=m):run x tabA gloA sub m 25 [F p,F q]=.ok (F (p / q)):=by
 obtain ⟨n,rfl⟩:=JAI hm
 have hp:=a.le hi
 have hq:=b.le hj
 have hz:q.num≠0:=fun z=>h0 (Rat.num_eq_zero.mp z)
 rw [JAD (n:=n+2) (show tabA 25=some d_25 from rfl),JAE rfl]
 dsimp! [d_25,b_25,JAj (hp.Ln (by omega)) (hq.Ld (by omega)),JAj (hp.Ld (by omega)) (hq.Ln (by omega)),JDe (n:=n) tF _ _ (Int.mul_ne_zero (JAS p) hz) (L.of (JAQ hp.d hq.n) (by omega)),JIF]
theorem JMS (k:Int) (hm:1<=m):run x tabA gloA sub m 2 [.int k]=.ok (.tuple [.int k,.int 1]):=by
 obtain ⟨n,rfl⟩:=JAI hm
 exact JCA tF k
theorem JHA {r:Rat} {k:Nat} [a:Z i p] [b:Z j q] [c:Z k r] (hi:i<=1500) (hj:j<=1500) (hk:i+j+k<=1498) (hm:4<=m):run x tabA gloA sub m 10 [F p,F q,F r]=.ok (F (p+r*(q - p))):=by
 obtain ⟨n,rfl⟩:=JAI hm
 have z1:Z (j+i+1) (q - p):=inferInstance
 have z2:Z (k+(j+i+1)) (r*(q - p)):=inferInstance
 rw [JAD (n:=n+3) (show tabA 10=some d_10 from rfl),JAE rfl]
 dsimp! [d_10,b_10,JIT (x:=x) (sub:=sub) (m:=n+3) (p:=q) (q:=p) (by omega) (by omega) (by omega),JHb (x:=x) (sub:=sub) (m:=n+3) (p:=r) (q:=q - p) (by omega) (by omega) (by omega),JLl (x:=x) (sub:=sub) (m:=n+3) (p:=p) (q:=r*(q - p)) (by omega) (by omega) (by omega)]
theorem JOY [a:Z i p] (hi:i<=1500) (hm:3<=m):run x tabA gloA sub m 31 [F p]=.ok (F (JAy p)):=by
 obtain ⟨n,rfl⟩:=JAI hm
 exact JHg gK tF tM tK (a.le hi)
theorem JL1 {k:Kd} [a:Z i p] (hi:i<=200) (hm:4<=m):run x tabA gloA sub m 32 [.str k.str,F p]=.ok (F (ez k (JAy p))):=by
 obtain ⟨n,rfl⟩:=JAI hm
 exact JJN gK tF tM tK k (a.le hi)
theorem JMr {k:Kd} [a:Z i p] (hi:i<=200) (hm:4<=m):run x tabA gloA sub m 43 [.str k.str,F p]=.ok (F (sl k p)):=by
 obtain ⟨n,rfl⟩:=JAI hm
 exact JJV gK tF tK rfl k (a.le hi)
theorem JLs {k:Kd} (hm:3<=m):run x tabA gloA sub m 33 [.str k.str]=.ok (.str k.turn.str):=by
 obtain ⟨n,rfl⟩:=JAI hm
 exact JIS gK tK k
theorem JPf [a:Z i p] [b:Z j q] (hi:i<=1500) (hj:j<=1500) (hm:3<=m):run x tabA gloA sub m 17 [F p,F q]=.ok (F (p+q)):=by
 obtain ⟨n,rfl⟩:=JAI hm
 exact JJ1 tL (a.le hi) (b.le hj)
theorem JMF [a:Z i p] [b:Z j q] (hi:i<=1500) (hj:j<=1500) (hm:3<=m):run x tabA gloA sub m 18 [F p,F q]=.ok (F (p - q)):=by
 obtain ⟨n,rfl⟩:=JAI hm
 exact JHW tL (a.le hi) (b.le hj)
theorem JNB [a:Z i p] [b:Z j q] (hi:i<=1500) (hj:j<=1500) (hm:3<=m):run x tabA gloA sub m 19 [F p,F q]=.ok (F (p*q)):=by
 obtain ⟨n,rfl⟩:=JAI hm
 exact JIR tL (a.le hi) (b.le hj)
theorem JQg [a:Z i p] [b:Z j q] (h0:q≠0) (hi:i<=1500) (hj:j<=1500) (hm:3<=m):run x tabA gloA sub m 20 [F p,F q]=.ok (F (p / q)):=by
 obtain ⟨n,rfl⟩:=JAI hm
 exact JJd tL (a.le hi) (b.le hj) h0
theorem JOD [a:Z i p] [b:Z j q] (hi:i<=1500) (hj:j<=1500) (hm:1<=m):run x tabA gloA sub m 21 [F p,F q]=.ok (.bool (decide (p<q))):=by
 obtain ⟨n,rfl⟩:=JAI hm
 exact JJt tL (a.le hi) (b.le hj)
theorem JKN {a b:Int} (hb:b≠0) (lb:b.natAbs<2 ^ 64) (hm:2<=m):run x tabA gloA sub m 14 [.int a,.int b]=.ok (F (Rat.divInt a b)):=by
 obtain ⟨n,rfl⟩:=JAI hm
 exact JBH tL a b hb (L.of lb (by omega))
theorem JNZ {k:Kd} [a:Z i p] (hi:i<=200) (hm:3<=m):run x tabA gloA sub m 36 [.str k.str,F p]=.ok (F (ez k (JAy p))):=by
 obtain ⟨n,rfl⟩:=JAI hm
 exact JIO tL rfl k (a.le hi)
theorem JHa (ns:List Int) (k c:Int) (hm:2<=m) (hk:0<=k) (hk2:k<2000000) (hc:0<c):∃i,0<=i/\i<c/\run x tabA gloA sub m 12 [sc ns,.int k,.int c]=.ok (.int i):=by
 obtain ⟨n,rfl⟩:=JAI hm
 exact JCC tL ns k c hk hk2 hc
theorem l_frac (ns:List Int) (k:Int) (hm:3<=m) (hk:0<=k) (hk2:k<1000000):∃q,Small q/\run x tabA gloA sub m 15 [sc ns,.int k]=.ok (F q):=by
 obtain ⟨n,rfl⟩:=JAI hm
 exact JI7 tL ns k hk hk2
theorem l_size (ns:List Int) (k:Int) (hm:3<=m) (hk:0<=k) (hk2:k<1000000):∃q,Small q/\0<q/\run x tabA gloA sub m 16 [sc ns,.int k]=.ok (F q):=by
 obtain ⟨n,rfl⟩:=JAI hm
 exact JJj tL ns k hk hk2
theorem l_size3 (ns:List Int) (k:Int) (hm:3<=m) (hk:0<=k) (hk2:k<1000000):∃q,Small q/\0<q/\q.den<=3/\run x tabA gloA sub m 16 [sc ns,.int k]=.ok (F q):=by
 obtain ⟨n,rfl⟩:=JAI hm
 exact JFA tL ns k hk hk2
theorem l_kind (ns:List Int) (k:Int) (hm:3<=m) (hk:0<=k) (hk2:k<1000000):∃d:Kd,run x tabA gloA sub m 35 [sc ns,.int k]=.ok (.str d.str):=by
 obtain ⟨n,rfl⟩:=JAI hm
 exact JKD tL rfl ns k hk hk2
end
end VI.VP
end
local macro_rules | `(tactic| dsimp?! [$ts,*])=>`(tactic| simp (disch:=first | omega | assumption) only [VI.VP.v_var,VI.VP.JOS,VI.VP.v_bl,VI.VP.JNy,VI.VP.JOm,VI.VP.JNw,VI.VP.JOc,VI.VP.JO6,VI.VP.v_not,VI.VP.v_and,VI.VP.v_or,VI.VP.JOj,VI.VP.JOO,VI.VP.JOW,VI.VP.JQd,VI.VP.JPd,VI.VP.JQI,VI.VP.JP6,VI.VP.JKR,VI.VP.JPT,VI.VP.JQh,
 VI.VP.v_count,VI.VP.JHi,VI.VP.v_get,VI.VP.JLm,VI.VP.JN3,VI.VP.JOX,VI.VP.JPk,VI.VP.JPg,VI.VP.JQa,VI.VP.JNv,VI.VP.JKh,VI.VP.JFh,VI.VP.JN1,VI.VP.JOJ,VI.VP.JQW,VI.VP.JLR,VI.VP.JO2,VI.VP.JPK,VI.VP.k_tt,VI.VP.k_tl,VI.VP.k_lt,VI.VP.k_ll,VI.VP.JKd,VI.VP.JHO,VI.VP.JJk,VI.VP.JPi,VI.VP.t_or,VI.VP.JNp,VI.VP.t_bl,VI.VP.JOT,VI.VP.JJm,VI.VP.JJo,VI.VP.JPu,VI.VP.JKe,VI.VP.JPl,VI.VP.JQb,VI.VP.JOi,VI.VP.JPC,VI.VP.JPW,VI.VP.l_idx,VI.VP.JLX,VI.VP.JOV,VI.VP.JOv,
 VI.VP.JNj,VI.VP.JHx,VI.VP.JLf,VI.VP.JQT,VI.VP.JOt,VI.VP.JPs,VI.VP.JQY,VI.VP.JQX,VI.VP.JLp,VI.VP.JPh,VI.VP.JP8,VI.VP.JQO,VI.VP.JLr,VI.VP.JLo,VI.VP.JPR,VI.VP.JLq,VI.VP.JKW,
 VI.VP.JHK,VI.VP.JK3,VI.VP.JOU,VI.VP.JPS,VI.VP.JPO,VI.VP.JKP,VI.VP.JKO,VI.VP.JOg,VI.VP.JOx,VI.VP.JP0,VI.VP.JP2,VI.VP.JOZ,VI.VP.JKm,VI.VP.JK8,VI.VP.JQU,VI.VP.JOI,VI.VP.JPE,VI.VP.JLF,VI.VP.JOp,VI.VP.JOC,VI.VP.JG3,VI.VP.JIg,VI.VP.JPz,VI.VP.JLj,VI.VP.JHn,VI.VP.JH7,VI.VP.JLM,VI.VP.JLI,VI.VP.JPY,VI.VP.JOF,VI.VP.JL4,VI.VP.JKf,VI.VP.JLN,VI.VP.JLC,VI.VP.JLG,VI.VP.JLZ,VI.VP.JP3,VI.VP.JLd,VI.VP.JO3,VI.VP.JK1,VI.VP.JLh,VI.VP.JKM,VI.VP.JLJ,VI.VP.JO4,VI.VP.JPj,VI.VP.JLD,VI.VP.JPq,VI.VP.JCk,VI.VP.JLY,VI.VP.JK4,VI.VP.JKy,VI.VP.JLB,VI.VP.JLn,VI.VP.JLE,VI.VP.JK7,VI.VP.JKi,VI.VP.JK0,VI.VP.JKT,VI.VP.JIn,VI.VP.JP4,VI.VP.JIh,VI.VP.JIf,VI.VP.JFp,VI.VP.JOb,VI.VP.JKt,VI.VP.JO9,VI.VP.JO5,VI.VP.JQF,VI.VP.JOn,VI.VP.JHl,
 VI.VP.look_zero,VI.VP.look_succ,VI.VP.get_val,VI.VP.get_own,VI.VP.JEp,VI.VP.JEh,List.map_cons,List.map_nil,List.cons_append,List.nil_append,
 List.replicate_succ,List.replicate_zero,Nat.reduceSub,List.set_cons_zero,List.set_cons_succ,VI.E.fresh,VI.VP.JFj,VI.VP.JCn,VI.VP.JDK,VI.VP.JCq,Bool.false_and,q_v,eq_self,if_true,if_false,VI.VP.i_ne,VI.VP.i_eq,VI.VP.i_lt,VI.VP.i_gt,VI.VP.i_le,VI.VP.i_ge,
 VI.VP.F_ne,VI.VP.F_eq,VI.VP.JKr,VI.VP.JLk,VI.VP.JPH,VI.VP.JOh,
 VI.VP.G39,VI.VP.G40,VI.VP.G55,VI.VP.G56,VI.VP.G57,VI.VP.G58,VI.VP.G59,VI.VP.G60,VI.VP.G61,VI.VP.JLl,VI.VP.JIT,VI.VP.JHb,VI.VP.q_less,VI.VP.JPa,VI.VP.JMS,VI.VP.JHA,VI.VP.JOY,VI.VP.JL1,VI.VP.JMr,VI.VP.JLs,VI.VP.JPf,VI.VP.JMF,VI.VP.JNB,VI.VP.JQg,VI.VP.JOD,VI.VP.JNZ,$ts,*])
section
namespace VI.VP
open PySem Fr
noncomputable def kst:Option Kd->Str
 | some k=>k.str
 | none=>"kept"
noncomputable def mo (s g b l:Rat) (k:Option Kd) (u v:Rat):D:=.tuple [F s,F g,F b,F l,.str (kst k),.tuple [F u,F v]]
noncomputable def kw (s g l u v p:Rat):Rat:=s+ez .both (JAy p)*(g - s)+l*(u*(p*p*p - 2*(p*p)+p)+v*(p*p*p - p*p))
noncomputable def wo (s g b l:Rat) (k:Option Kd) (u v t:Rat):Rat:=match k with
 | some k=>s+ez k (JAy ((t - b) / l))*(g - s)
 | none=>kw s g l u v (JAy ((t - b) / l))
noncomputable def ks (s g l u v p:Rat):Rat:=(g - s) / l*sl .both p+(u*(3*(p*p) - 4*p+1)+v*(3*(p*p) - 2*p))
noncomputable def sd (s g b l:Rat) (k:Option Kd) (u v t:Rat):Rat:=match k with
 | some k=>(g - s) / l*sl k ((t - b) / l)
 | none=>if (t - b) / l<0\/1<(t - b) / l then 0 else ks s g l u v ((t - b) / l)
section
variable {s g b l u v:Rat} {k:Option Kd}
end
section
variable {x:Bool} {sub:Nat->Nat->Bool} {m i1 i2 i3 i4 i5 i6 j:Nat} {s g b l u v t p:Rat}
end
end VI.VP
end
section
namespace VI.VP
open PySem Fr
section
variable {s g b l u v t:Rat} {k:Option Kd} {i1 i2 i3 i4 i5 i6 j:Nat}
instance [a1:Z i1 s] [a2:Z i2 g] [a3:Z i3 b] [a4:Z i4 l] [a5:Z i5 u] [a6:Z i6 v] [a7:Z j t]:Z (2*i1+i2+i4+i5+i6+16*(j+i3+i4+4)+40) (wo s g b l k u v t):=⟨by
 have zp:Z (j+i3+i4+3) (JAy ((t - b) / l)):=⟨(inferInstance:Z (j+i3+1+i4+1+1) (JAy ((t - b) / l))).le (by omega)⟩
 generalize hp:JAy ((t - b) / l)=p at *
 unfold wo
 cases k with
 | some k =>
  simp only [hp]
  have h:Z _ (s+ez k p*(g - s)):=inferInstance
  exact h.le (by omega)
 | none =>
  simp only [hp]
  unfold kw
  have h:Z _ (s+ez .both (JAy p)*(g - s)+l*(u*(p*p*p - 2*(p*p)+p)+v*(p*p*p - p*p))):=inferInstance
  exact h.le (by omega)⟩
instance [a1:Z i1 s] [a2:Z i2 g] [a3:Z i3 b] [a4:Z i4 l] [a5:Z i5 u] [a6:Z i6 v] [a7:Z j t]:Z (2*i1+i2+i4+i5+i6+16*(j+i3+i4+4)+40) (sd s g b l k u v t):=⟨by
 have zp:Z (j+i3+i4+3) ((t - b) / l):=⟨(inferInstance:Z (j+i3+1+i4+1) ((t - b) / l)).le (by omega)⟩
 generalize hp:(t - b) / l=p at *
 unfold sd
 cases k with
 | some k =>
  simp only [hp]
  have h:Z _ ((g - s) / l*sl k p):=inferInstance
  exact h.le (by omega)
 | none =>
  simp only [hp]
  have h:Z _ ((g - s) / l*sl .both p+(u*(3*(p*p) - 4*p+1)+v*(3*(p*p) - 2*p))):=inferInstance
  split
  ·exact (sz01 (by omega)).1
  ·exact h.le (by omega)⟩
end
section
variable {x:Bool} {sub:Nat->Nat->Bool} {m i1 i2 i3 i4 i5 i6 j:Nat} {s g b l u v t p:Rat}
end
noncomputable def Vs (z:Sl):Prop:=z.isOwn=false
theorem Vs.own {z:Sl} (h:Vs z) (e:E) (i:Nat) (r:Env):JAJ e i (z::r)=JAJ e (i+1) r:=by
 unfold Vs at h
 cases z<;>first | (cases h;done) | simp [JAJ,Sl.isOwn]
end VI.VP
end
section
namespace VI.VP
open PySem Fr
section
variable {x:Bool} {sub:Nat->Nat->Bool} {m i1 i2 i3 i4 i5 i6 j:Nat} {s g b l u v t p:Rat}
end
end VI.VP
end
section
namespace VI.VP
open PySem Fr
structure Mv where
 s:Rat
 g:Rat
 b:Rat
 l:Rat
 k:Option Kd
 u:Rat
 v:Rat
noncomputable def Mv.d (m:Mv):D:=mo m.s m.g m.b m.l m.k m.u m.v
structure Mv.Ok (m:Mv):Prop where
 l0:0<m.l
 uv:m.k≠none->m.u=0/\m.v=0
 b:Sz 200 m.b
 l:Sz 20 m.l
 sg:∃i j,Sz i m.s/\Sz j m.g/\i+j<=1180
 us:∃i j,Sz i m.u/\Sz j m.v/\i+j<=900
theorem Mv.Ok.of {m:Mv} (l0:0<m.l) (uv:m.k≠none->m.u=0/\m.v=0) (s:Sz 20 m.s) (g:Sz 20 m.g) (b:Sz 200 m.b) (l:Sz 20 m.l) (u:Sz 20 m.u) (v:Sz 20 m.v):m.Ok :=
 ⟨l0,uv,b,l,⟨20,20,s,g,by omega⟩,⟨20,20,u,v,by omega⟩⟩
noncomputable def Mv.e (m:Mv):Rat:=m.b+m.l
noncomputable def tr (w:Rat) (ms:List Mv):D:=.tuple [F w,.tuple (ms.map Mv.d)]
section
variable {x:Bool} {sub:Nat->Nat->Bool} {m n:Nat} {w:Rat} {w':D} {ms:List Mv}
theorem Mv.q_less {a c:Mv} (h:a.Ok) (hc:c.Ok) (hm:1<=m):run x tabA gloA sub m 6 [F c.b,F a.e]=.ok (.bool (decide (c.b<a.e))):=by
 have:Z 200 a.b:=⟨h.b⟩
 have:Z 200 c.b:=⟨hc.b⟩
 have:Z 20 a.l:=⟨h.l⟩
 have:Z 221 a.e:=⟨(inferInstance:Z (200+20+1) (a.b+a.l)).h⟩
 exact VP.q_less (by omega) (by omega) hm
section
variable {g b l:Rat} {k:Kd} {i:Nat}
end
end
end VI.VP
end
section
namespace VI.VP
open PySem Fr
theorem JFz {C:Cn} {i:Nat} {b:S} {Inv:List D->Env->Prop} (hb:∀d ds δ,Inv (d::ds) δ->∃δ',(exec C b (δ.set i (.val d))=.nx δ'\/exec C b (δ.set i (.val d))=.ct δ')/\Inv ds δ'):∀ {ds:List D} {δ},Inv ds δ->∃δ',for2 C i b ds δ=.nx δ'/\Inv [] δ'
 | [],δ,h=>⟨δ,rfl,h⟩
 | d::ds,δ,h=>by
  obtain ⟨δ1,e,h1⟩:=hb d ds δ h
  obtain ⟨δ2,e2,h2⟩:=JFz hb h1
  refine ⟨δ2,?_,h2⟩
  rw [JBF]
  rcases e with e | e<;>(rw [e];exact e2)
theorem Mv.depth (m:Mv):m.d.depth<=4:=by
 simp only [Mv.d,mo,PyData.depth,PyData.depthAll,JMH]
 decide
theorem Mv.refl (m:Mv):PyData.eqv m.d m.d=true:=by
 simp only [Mv.d,mo,PyData.eqv,PyData.eqvAll,JNJ,decide_true,Bool.and_true,beq_self_eq_true]
def Tw (B:Nat) (q:Rat):Prop:=∃z:Int,z.natAbs<=B/\q=Rat.divInt z 12
theorem Tw.add {A B:Nat} {p q:Rat} (h:Tw A p) (h':Tw B q):Tw (A+B) (p+q):=by
 obtain ⟨z,hz,rfl⟩:=h
 obtain ⟨y,hy,rfl⟩:=h'
 refine ⟨z+y,by omega,?_⟩
 simp only [Rat.divInt_eq_div]
 have:((z+y:Int):Rat)=z+y:=Rat.intCast_add z y
 rw [this]
 grind
theorem Tw.mono {A B:Nat} {p:Rat} (h:Tw A p) (e:A<=B):Tw B p:=by
 obtain ⟨z,hz,rfl⟩:=h
 exact ⟨z,by omega,rfl⟩
theorem Tw.sz {B:Nat} {p:Rat} (h:Tw B p) (e:B<1024):Sz 10 p:=by
 obtain ⟨z,hz,rfl⟩:=h
 exact Sz.of (by decide) (by omega) (by decide)
structure Dr (a:Mv):Prop where
 s:Small a.s
 g:Small a.g
 l:Small a.l
 u:Small a.u
 v:Small a.v
 b:Tw 1023 a.b
theorem Dr.old {a:Mv} (h:Dr a):Sz 10 a.b/\Sz 5 a.l/\Sz 5 a.u/\Sz 5 a.v:=⟨h.b.sz (by omega),h.l.sz,h.u.sz,h.v.sz⟩
section
variable {x:Bool} {sub:Nat->Nat->Bool} {m n:Nat} {w t:Rat} {ms:List Mv} {ns:List Int}
end
end VI.VP
end
section
namespace VI.VP
open PySem Fr PySem.W
structure Mk where
 q:Rat
 i:Nat
def labC (i:Nat):Nat:=[100,98,101,97,99].getD i 0
def lab (i:Nat):Str:=⟨#[labC i]⟩
theorem JJ2:∀ {i j:Nat},i<5->j<5->labC i=labC j->i=j:=by
 have:∀i:Fin 5,∀j:Fin 5,labC i.val=labC j.val->i=j:=by decide +kernel
 intro i j hi hj h
 have:=this ⟨i,hi⟩ ⟨j,hj⟩ h
 exact congrArg Fin.val this
noncomputable def Mk.d (m:Mk):D:=.tuple [F m.q,.str (lab m.i)]
noncomputable def till (t:Rat) (l:List Mk):List Mk:=l.filter fun x=>!decide (t<x.q)
noncomputable def btf (acc:List Mk) (m:Mk):List Mk:=acc.take (till m.q acc).length++m::acc.drop (till m.q acc).length
noncomputable def bt (ms:List Mk):List Mk:=ms.foldl btf []
def Rl (a b:Mk):Prop:=a.q<=b.q/\(a.q=b.q->a.i<b.i)
theorem JDH {t:Rat}:∀ {l:List Mk},l.Pairwise Rl->l.take (till t l).length=till t l/\∀x∈l.drop (till t l).length,t<x.q
 | [],_=>⟨rfl,fun x h=>by simp [till] at h⟩
 | a::r,h=>by
  obtain ⟨h1,h2⟩:=List.pairwise_cons.mp h
  by_cases o:t<a.q
  ·have e:till t (a::r)=[]:=by
    unfold till
    refine List.filter_eq_nil_iff.mpr fun x hx=>?_
    rcases q_n.mp hx with rfl | hx
    ·simp [o]
    ·have:=(h1 x hx).1
     simp;grind
   rw [e]
   refine ⟨rfl,fun x hx=>?_⟩
   simp only [List.length_nil,List.drop_zero] at hx
   rcases q_n.mp hx with rfl | hx
   ·exact o
   ·have:=(h1 x hx).1;grind
  ·have e:till t (a::r)=a::till t r:=by
    unfold till
    rw [q_x (by simp;grind)]
   obtain ⟨i1,i2⟩:=JDH (t:=t) h2
   rw [e]
   simp only [List.length_cons,List.take_succ_cons,List.drop_succ_cons]
   exact ⟨by rw [i1],i2⟩
theorem JNo {acc:List Mk} {m:Mk} (h:acc.Pairwise Rl) (hi:∀x∈acc,x.i<m.i):(btf acc m).Pairwise Rl:=by
 obtain ⟨e1,e2⟩:=JDH (t:=m.q) h
 unfold btf
 have ht:∀x∈acc.take (till m.q acc).length,x.q<=m.q:=fun x hx=>by
  rw [e1] at hx
  have:=(List.mem_filter.mp hx).2
  simp at this;grind
 have h':(acc.take (till m.q acc).length++acc.drop (till m.q acc).length).Pairwise Rl:=by rw [List.take_append_drop];exact h
 rw [List.pairwise_append] at h' ⊢
 refine ⟨h'.1,List.pairwise_cons.mpr ⟨fun x hx=>?_,h'.2.1⟩,fun x hx y hy=>?_⟩
 ·have:=e2 x hx
  exact ⟨by grind,fun e=>by grind⟩
 ·rcases q_n.mp hy with rfl | hy
  ·exact ⟨ht x hx,fun _=>hi x (List.mem_of_mem_take hx)⟩
  ·exact h'.2.2 x hx y hy
theorem btf_perm {acc:List Mk} {m:Mk}:(btf acc m).Perm (m::acc):=by
 unfold btf
 exact List.perm_middle.trans (by rw [List.take_append_drop])
theorem JID {acc:List Mk} {m:Mk}:(btf acc m).length=acc.length+1:=by
 have:=(btf_perm (acc:=acc) (m:=m)).length_eq
 simpa using this
def Nums (ms:List Mk):Prop:=∀(j:Nat) (m:Mk),ms[j]? = some m->m.i=j
theorem JHY {ms:List Mk} {m:Mk} (h:Nums (ms++[m])):Nums ms/\m.i=ms.length:=by
 refine ⟨fun j x hx=>h j x ?_,h ms.length m (by simp)⟩
 rw [q_B (q_p.mp hx).1];exact hx
theorem JJM {ms:List Mk} {m:Mk}:bt (ms++[m])=btf (bt ms) m:=by unfold bt;rw [List.foldl_append];rfl
theorem JIi {ms:List Mk} (h:Nums ms) {x:Mk} (hx:x∈ms):x.i<ms.length:=by
 obtain ⟨j,hj,rfl⟩:=List.mem_iff_getElem.mp hx
 rw [h j _ (q_q hj)];exact hj
theorem JHN:∀(n:Nat) (ms:List Mk),ms.length=n->Nums ms->(bt ms).Perm ms/\(bt ms).Pairwise Rl
 | 0,ms,hl,_=>by
  have:ms=[]:=q_A.mp hl
  subst this
  exact ⟨List.Perm.refl _,List.Pairwise.nil⟩
 | n+1,ms,hl,h=>by
  have hne:ms≠[]:=by intro z;subst z;simp at hl
  obtain ⟨r,m,rfl⟩:∃r m,ms=r++[m]:=⟨ms.dropLast,ms.getLast hne,(List.dropLast_concat_getLast hne).symm⟩
  obtain ⟨h1,h2⟩:=JHY h
  obtain ⟨p,w⟩:=JHN n r (by simpa using hl) h1
  rw [JJM]
  refine ⟨btf_perm.trans ?_,JNo w fun x hx=>?_⟩
  ·exact (List.Perm.cons m p).trans (by simpa using (List.perm_append_comm (l₁:=[m]) (l₂:=r)))
  ·rw [h2];exact JIi h1 (p.mem_iff.mp hx)
end VI.VP
end
section
namespace VI.VP
open PySem Fr PySem.W
theorem JAr {α:Type} {f:D->R (Option D)} {p:α->Bool} {g:α->D} {c:α->D}:∀ {xs:List α},(∀a∈xs,f (c a)=.ok (if p a then some (g a) else none))->JAo f (xs.map c)=.ok ((xs.filter p).map g)
 | [],_=>rfl
 | a::xs,h=>by
  simp only [List.map_cons]
  unfold JAo
  rw [h a (by simp)]
  have ih:=JAr (xs:=xs) fun y hy=>h y (by simp [hy])
  cases hp:p a
  ·simp only [q_v,if_false]
   rw [ih,q_w (by simp [hp])]
  ·simp only [if_true]
   rw [ih,q_x hp]
   rfl
theorem G128:gloA 128=.ok (.int 0):=rfl
theorem G226:gloA 226=.ok (.int 1):=rfl
theorem x_ins {C:Cn} {i:Nat} {es:E} {δ:VI.Env} {ds:List D} {xs:List D} (h1:δ[i]? = some (.own (.list ds))) (h2:evA C es δ=.ok xs):exec C (.ins i es) δ=JCJ i ds es xs δ:=by
 simp only [exec,h1,h2,stepR]
theorem JPo {i k:Nat} {ds:List D} {es:E} {y:D} {δ:VI.Env} (hk:k<=ds.length) (hl:ds.length<16777216) (hn:JAR y=true):JCJ i ds es [.int k,y] δ=.nx (δ.set i (.own (.list (ds.take k++y::ds.drop k)))):=by
 simp only [JCJ]
 rw [if_pos ⟨by omega,by omega,hl⟩,hn,Bool.not_true,Bool.and_false]
 simp
def Mks (ms:List Mk):Prop:=∀a∈ms,Sz 10 a.q
noncomputable def fo (lo hi:Rat) (l:List Mk):List Mk:=l.filter fun m=>decide (lo<m.q)&&!decide (hi<m.q)
noncomputable def bk (lo hi:Rat) (l:List Mk):List Mk:=l.filter fun m=>!decide (m.q<lo)&&decide (m.q<hi)
noncomputable def nx (t:Rat) (l:List Mk):List Mk:=l.filter fun m=>decide (t<m.q)
noncomputable def Mk.l (m:Mk):D:=.str (lab m.i)
theorem mk_no (m:Mk):JAR m.d=true:=rfl
theorem mk_0 (m:Mk):idxD m.d (.int 0)=.ok (F m.q):=rfl
theorem mk_1 (m:Mk):idxD m.d (.int 1)=.ok m.l:=rfl
theorem itM (l:List D):JA5 (.list l)=.ok l:=rfl
theorem revM (l:List D):xD .rev [.list l]=.ok (.list l.reverse):=rfl
theorem btf_mem {acc:List Mk} {m x:Mk}:x∈btf acc m↔x=m\/x∈acc:=by
 rw [btf_perm.mem_iff];exact q_n
theorem JMb {t:Rat} {l:List Mk}:(till t l).length<=l.length:=List.length_filter_le _ _
section
variable {x:Bool} {sub:Nat->Nat->Bool} {m n j k:Nat} {t lo hi:Rat} {ms:List Mk}
theorem JPX (h:Mks ms) [Z j t] (hj:j<=1500) (hl:ms.length<=1000) (hm:2<=m):run x tabA gloA sub m 218 [.list (ms.map Mk.d),F t]=.ok (.list ((till t ms).map Mk.d)):=by
 obtain ⟨n,rfl⟩:=JAI hm
 rw [JAD (n:=n+1) (show tabA 218=some JJA from rfl),JAE rfl]
 obtain ⟨C,hC⟩:∃C:Cn,C=⟨run x tabA gloA sub (n+1),gloA,sub⟩:=⟨_,rfl⟩
 have fn:C.fn=run x tabA gloA sub (n+1):=by rw [hC]
 have fg:C.glo=gloA:=by rw [hC]
 rw [<-hC]
 have cp:JCO C 0 (.var 0) (.not (.call 6 (.cons (.var 2) (.cons (.idx (.var 0) (.glo 128)) .nil)))) [.val (.list (ms.map Mk.d)),.val (F t)] (.ok (ms.map Mk.d))=.ok (.list ((till t ms).map Mk.d)):=by
  rw [JBY (by rw [q_g];omega),JAr (p:=fun m=>!decide (t<m.q)) (g:=Mk.d) (fun a ha=>?_)]
  ·rfl
  ·have zb:Z 10 a.q:=⟨h a ha⟩
   have m0:=mk_0 a
   rw [JCr]
   generalize a.d=ad at *
   by_cases o:t<a.q
   ·dsimp?! [fn,fg,G128,m0,o,decide_true,Bool.not_true]
   ·dsimp?! [fn,fg,G128,m0,o,decide_false,Bool.not_false]
 generalize (till t ms).map Mk.d=bs at *
 generalize ms.map Mk.d=ds at *
 dsimp?! [JJA,JIy,fn,fg,itM,cp]
theorem JMn (h:Mks ms) [Z j lo] [Z k hi] (hj:j<=1500) (hk:k<=1500) (hl:ms.length<=1000) (hm:2<=m):run x tabA gloA sub m 220 [.list (ms.map Mk.d),F lo,F hi]=.ok (.list ((fo lo hi ms).map Mk.l)):=by
 obtain ⟨n,rfl⟩:=JAI hm
 rw [JAD (n:=n+1) (show tabA 220=some JI8 from rfl),JAE rfl]
 obtain ⟨C,hC⟩:∃C:Cn,C=⟨run x tabA gloA sub (n+1),gloA,sub⟩:=⟨_,rfl⟩
 have fn:C.fn=run x tabA gloA sub (n+1):=by rw [hC]
 have fg:C.glo=gloA:=by rw [hC]
 rw [<-hC]
 have cp:JCO C 0 (.idx (.var 0) (.glo 226)) (.and (.call 6 (.cons (.var 2) (.cons (.idx (.var 0) (.glo 128)) .nil))) (.not (.call 6 (.cons (.var 3) (.cons (.idx (.var 0) (.glo 128)) .nil))))) [.val (.list (ms.map Mk.d)),.val (F lo),.val (F hi)] (.ok (ms.map Mk.d))=.ok (.list ((fo lo hi ms).map Mk.l)):=by
  rw [JBY (by rw [q_g];omega),JAr (p:=fun m=>decide (lo<m.q)&&!decide (hi<m.q)) (g:=Mk.l) (fun a ha=>?_)]
  ·rfl
  ·have zb:Z 10 a.q:=⟨h a ha⟩
   have m0:=mk_0 a
   have m1:=mk_1 a
   rw [JCr]
   generalize a.d=ad at *
   by_cases o:lo<a.q<;>by_cases o':hi<a.q <;>
    dsimp?! [fn,fg,G128,G226,m0,m1,o,o',decide_true,Bool.not_true,decide_false,Bool.not_false,Bool.and_false,Bool.and_true]
 generalize (fo lo hi ms).map Mk.l=bs at *
 generalize ms.map Mk.d=ds at *
 dsimp?! [JI8,JKB,fn,fg,itM,cp]
theorem JN0 (h:Mks ms) [Z j lo] [Z k hi] (hj:j<=1500) (hk:k<=1500) (hl:ms.length<=1000) (hm:2<=m):run x tabA gloA sub m 221 [.list (ms.map Mk.d),F lo,F hi]=.ok (.list ((bk lo hi ms).map Mk.l)):=by
 obtain ⟨n,rfl⟩:=JAI hm
 rw [JAD (n:=n+1) (show tabA 221=some JKH from rfl),JAE rfl]
 obtain ⟨C,hC⟩:∃C:Cn,C=⟨run x tabA gloA sub (n+1),gloA,sub⟩:=⟨_,rfl⟩
 have fn:C.fn=run x tabA gloA sub (n+1):=by rw [hC]
 have fg:C.glo=gloA:=by rw [hC]
 rw [<-hC]
 have cp:JCO C 0 (.idx (.var 0) (.glo 226)) (.and (.not (.call 6 (.cons (.idx (.var 0) (.glo 128)) (.cons (.var 2) .nil)))) (.call 6 (.cons (.idx (.var 0) (.glo 128)) (.cons (.var 3) .nil)))) [.val (.list (ms.map Mk.d)),.val (F lo),.val (F hi)] (.ok (ms.map Mk.d))=.ok (.list ((bk lo hi ms).map Mk.l)):=by
  rw [JBY (by rw [q_g];omega),JAr (p:=fun m=>!decide (m.q<lo)&&decide (m.q<hi)) (g:=Mk.l) (fun a ha=>?_)]
  ·rfl
  ·have zb:Z 10 a.q:=⟨h a ha⟩
   have m0:=mk_0 a
   have m1:=mk_1 a
   rw [JCr]
   generalize a.d=ad at *
   by_cases o:a.q<lo<;>by_cases o':a.q<hi <;>
    dsimp?! [fn,fg,G128,G226,m0,m1,o,o',decide_true,Bool.not_true,decide_false,Bool.not_false,Bool.and_false,Bool.and_true]
 generalize (bk lo hi ms).map Mk.l=bs at *
 generalize ms.map Mk.d=ds at *
 dsimp?! [JKH,JJX,fn,fg,itM,cp]
noncomputable def JDf:S:=match JFV with
 | .cons _ (.cons (.for1 _ _ b) _)=>b
 | _=>.nil
theorem JIZ {C:Cn} (fn:C.fn=run x tabA gloA sub (n+2)) (fg:C.glo=gloA) (z:Sl):∀(r acc:List Mk) (y:Sl),Mks r->Mks acc->acc.length+r.length<=1000 ->
  ∃y',for2 C 2 JDf (r.map Mk.d) [z,.own (.list (acc.map Mk.d)),y]=.nx [z,.own (.list ((r.foldl btf acc).map Mk.d)),y']
 | [],acc,y,_,_,_=>⟨y,rfl⟩
 | a::r,acc,y,hr,ha,hl=>by
  have hl':acc.length+r.length+1<=1000:=by simp only [List.length_cons] at hl;omega
  have za:Z 10 a.q:=⟨hr a (by simp)⟩
  have e1:run x tabA gloA sub (n+2) 218 [.list (acc.map Mk.d),F a.q]=.ok (.list ((till a.q acc).map Mk.d)):=JPX ha (by omega) (by omega) (by omega)
  have m0:=mk_0 a
  have ev:evA C (.cons (.blt .len (.cons (.call 218 (.cons (.var 1) (.cons (.idx (.var 2) (.glo 128)) .nil))) .nil)) (.cons (.var 2) .nil)) [z,.own (.list (acc.map Mk.d)),.val a.d]=.ok [.int ((till a.q acc).length:Nat),a.d]:=by
   have hln:((till a.q acc).map Mk.d).length=(till a.q acc).length:=q_g _
   generalize (till a.q acc).map Mk.d=bs at *
   generalize acc.map Mk.d=ds at *
   generalize a.d=ad at *
   dsimp?! [fn,fg,G128,m0,e1,hln]
  have st:exec C JDf [z,.own (.list (acc.map Mk.d)),.val a.d]=.nx [z,.own (.list ((btf acc a).map Mk.d)),.val a.d]:=by
   simp only [JDf,JFV,JHx]
   rw [x_ins (ds:=acc.map Mk.d) rfl ev,JPo (by rw [q_g];exact JMb) (by rw [q_g];omega) (mk_no a),JL4,JNj]
   simp only [List.set_cons_succ,List.set_cons_zero,btf,List.map_append,List.map_cons,List.map_take,List.map_drop]
  obtain ⟨y',ih⟩:=JIZ fn fg z r (btf acc a) (.val a.d) (fun b hb=>hr b (by simp [hb])) (fun b hb=>by
   rcases btf_mem.mp hb with rfl | hb
   ·exact hr b (by simp)
   ·exact ha b hb) (by rw [JID];omega)
  refine ⟨y',?_⟩
  simp only [List.map_cons]
  rw [JBF]
  simp only [List.set_cons_succ,List.set_cons_zero]
  rw [st,JCk]
  exact ih
theorem q_bt (h:Mks ms) (hl:ms.length<=1000) (hm:3<=m):run x tabA gloA sub m 219 [.list (ms.map Mk.d)]=.ok (.list ((bt ms).map Mk.d)):=by
 obtain ⟨n,rfl⟩:=JAI hm
 rw [JAD (n:=n+2) (show tabA 219=some JJL from rfl),JAE rfl]
 obtain ⟨C,hC⟩:∃C:Cn,C=⟨run x tabA gloA sub (n+2),gloA,sub⟩:=⟨_,rfl⟩
 have fn:C.fn=run x tabA gloA sub (n+2):=by rw [hC]
 have fg:C.glo=gloA:=by rw [hC]
 rw [<-hC]
 obtain ⟨y,lp⟩:=JIZ fn fg (.val (.list (ms.map Mk.d))) ms [] .no h (fun a ha=>by cases ha) (by simpa using hl)
 rw [show ms.foldl btf []=bt ms from rfl] at lp
 simp only [JDf,JFV,List.map_nil] at lp
 generalize (bt ms).map Mk.d=bs at *
 generalize ms.map Mk.d=ds at *
 dsimp?! [JJL,JFV,fn,fg,itM,JBO,JB6,JBd,JAf,JCw,Nat.reduceBEq,Nat.reduceAdd,↓lp]
theorem JPB (h:Mks ms):Mks (bt ms):=by
 have:∀(r acc:List Mk),Mks r->Mks acc->Mks (r.foldl btf acc):=by
  intro r
  induction r with
  | nil=>exact fun acc _ h=>h
  | cons a r ih=>exact fun acc hr ha=>ih _ (fun b hb=>hr b (by simp [hb])) (fun b hb=>by
   rcases btf_mem.mp hb with rfl | hb
   ·exact hr b (by simp)
   ·exact ha b hb)
 exact this ms [] h (fun a ha=>by cases ha)
theorem JEX:(bt ms).length=ms.length:=by
 have:∀(r acc:List Mk),(r.foldl btf acc).length=acc.length+r.length:=by
  intro r
  induction r with
  | nil=>exact fun acc=>rfl
  | cons a r ih=>exact fun acc=>by rw [List.foldl_cons,ih,JID,List.length_cons];omega
 have:=this ms []
 rw [List.length_nil,Nat.zero_add] at this
 exact this
noncomputable def psd (s g:Rat) (ms:List Mk):List Mk:=if g<s then bk g s (bt ms).reverse else fo s g (bt ms)
theorem JA6 (h:Mks ms) [Z j lo] [Z k hi] (hj:j<=1500) (hk:k<=1500) (hl:ms.length<=1000) (hm:4<=m):run x tabA gloA sub m 222 [.list (ms.map Mk.d),F lo,F hi]=.ok (.list ((psd lo hi ms).map Mk.l)):=by
 obtain ⟨n,rfl⟩:=JAI hm
 rw [JAD (n:=n+3) (show tabA 222=some JHS from rfl),JAE rfl]
 have e1:=q_bt (x:=x) (sub:=sub) (m:=n+3) h hl (by omega)
 have hb:=JPB h
 have hbl:=JEX (ms:=ms)
 have e2:=JMn (x:=x) (sub:=sub) (m:=n+3) (lo:=lo) (hi:=hi) hb hj hk (by omega) (by omega)
 have e3:=JN0 (x:=x) (sub:=sub) (m:=n+3) (lo:=hi) (hi:=lo) (ms:=(bt ms).reverse) (fun a ha=>hb a (List.mem_reverse.mp ha)) hk hj (by rw [List.length_reverse];omega) (by omega)
 rw [List.map_reverse] at e3
 unfold psd
 by_cases o:hi<lo
 ·rw [if_pos o]
  generalize (bk hi lo (bt ms).reverse).map Mk.l=r1 at *
  generalize (fo lo hi (bt ms)).map Mk.l=r2 at *
  generalize (bt ms).map Mk.d=bs at *
  generalize ms.map Mk.d=ds at *
  dsimp?! [JHS,JIr,e1,e2,e3,o,decide_true,revM,JBO,JB6,JBd,JAf]
 ·rw [if_neg o]
  generalize (bk hi lo (bt ms).reverse).map Mk.l=r1 at *
  generalize (fo lo hi (bt ms)).map Mk.l=r2 at *
  generalize (bt ms).map Mk.d=bs at *
  generalize ms.map Mk.d=ds at *
  dsimp?! [JHS,JIr,e1,e2,e3,o,decide_false,revM,JBO,JB6,JBd,JAf]
end
end VI.VP
end
section
namespace VI.VP
open PySem Fr PySem.W
theorem JC7 (e:E) (i:Nat) (y:Sl) (r:Env):JAJ e i (y::r)=((e.uses i&&y.isOwn) || JAJ e (i+1) r):=rfl
theorem JLW {δ:Env} {i:Nat} {ds:List D} {x:D} {e:E} (h:ds.length<1000) (hn:JAR x=true):JBP i ds e x δ=.nx (δ.set i (.own (.list (ds++[x])))):=by
 unfold JBP
 rw [if_pos (by omega),hn,Bool.not_true,Bool.and_false]
 rfl
theorem JNW {k:Nat} (h:k<5):idxD (.str "dbeac") (.int k)=.ok (.str (lab k)):=by
 obtain rfl | rfl | rfl | rfl | rfl:k=0\/k=1\/k=2\/k=3\/k=4:=by omega
 all_goals rfl
theorem JH1 (i:Nat):PyData.canLay0 (.str (lab i))=true:=by
 have h:∀c∈[100,98,101,97,99,0],PyData.canLay0 (.str ⟨#[c]⟩)=true:=by decide +kernel
 unfold lab
 refine h _ ?_
 match i with
 | 0=>decide
 | 1=>decide
 | 2=>decide
 | 3=>decide
 | 4=>decide
 | n+5=>simp [labC]
theorem JGM (s:Str):(s==s)=true:=by simp
theorem JFn:∀l:List Mk,PyData.canLayAll0 (l.map Mk.l)=true
 | []=>by simp only [List.map_nil,PyData.canLayAll0]
 | p::r=>by simp only [List.map_cons,PyData.canLayAll0,JFn r,Mk.l,JH1,Bool.and_self]
theorem JGA:∀l:List Mk,PyData.depthAll (l.map Mk.l)<=2
 | []=>by simp only [List.map_nil,PyData.depthAll];omega
 | p::r=>by
  have:=JGA r
  simp only [List.map_cons,PyData.depthAll,Mk.l,PyData.depth]
  omega
theorem JEB:∀l:List Mk,PyData.eqvAll (l.map Mk.l) (l.map Mk.l)=true
 | []=>by simp only [List.map_nil,PyData.eqvAll]
 | p::r=>by simp only [List.map_cons,PyData.eqvAll,JEB r,Mk.l,PyData.eqv,JGM,Bool.and_self]
theorem JFZ (l:List Mk):cmpD .NotEq (.list (l.map Mk.l)) (.list (l.map Mk.l))=.ok (.bool false):=by
 have hs:shaped (.list (l.map Mk.l))=true:=by
  have:=JGA l
  unfold shaped
  rw [q_i]
  refine ⟨by simp only [PyData.canLay0,JFn],decide_eq_true ?_⟩
  simp only [PyData.depth]
  omega
 simp only [cmpD,hs,Bool.and_self,if_true,PyData.eqv,JEB,Bool.not_true]
theorem JM9 {i j:Nat} (hi:i<5) (hj:j<5) (h:(lab i==lab j)=true):i=j:=by
 have:=eq_of_beq h
 unfold lab at this
 simp at this
 exact JJ2 hi hj this
end VI.VP
end
section
namespace VI.VP
open PySem Fr PySem.W
theorem JJf {ms:List Mk} {m:Mk} (h:Nums ms) (e:m.i=ms.length):Nums (ms++[m]):=by
 intro j a ha
 by_cases o:j<ms.length
 ·rw [q_B o] at ha
  exact h j a ha
 ·have hj:j<(ms++[m]).length:=(q_p.mp ha).1
  simp only [q_u,List.length_cons,List.length_nil] at hj
  have:j=ms.length:=by omega
  subst this
  simp at ha
  rw [<-ha,e]
theorem JLT {xs:List D}:op1D .rev (.list xs)=.ok (.list xs.reverse):=rfl
theorem ua7 {a b:E} {j:Nat}:(E.and a b).uses j=(a.uses j || b.uses j):=rfl
theorem un7 {a:E} {j:Nat}:(E.not a).uses j=a.uses j:=rfl
theorem no7 (q:Rat):JAR (F q)=true:=rfl
theorem JH5 {C:Cn} {e c:E} {δ:Env} {m:Mk}:JEY C 2 e c δ m.d=JFT C e (.val (F m.q)::.val m.l::δ) (evT C c (.val (F m.q)::.val m.l::δ)):=JI1 rfl
theorem ux7 {k:XO} {es:E} {j:Nat}:(E.xop k es).uses j=es.uses j:=rfl
theorem frz70 {y:Sl} (h:Vs y) (e:E) (i:Nat) (r:Env):JAg e i (y::r)=y::JAg e (i+1) r:=by
 cases y with
 | own d=>cases h
 | no=>simp only [JAg,Sl.frz,ite_self]
 | val d=>simp only [JAg,Sl.frz,ite_self]
theorem rng70 (N:Nat) (h:N<=5):rngD [.int N]=.ok ((List.range' 0 N).map fun j:Nat=>PyData.int j):=by
 obtain rfl | rfl | rfl | rfl | rfl | rfl:N=0\/N=1\/N=2\/N=3\/N=4\/N=5:=by omega
 all_goals rfl
end VI.VP
end
section
namespace VI.VP
open PySem Fr PySem.W
theorem JGI {a b c:Rat} (h1:a<=b) (h2:b<=c):∀ {l:List Mk},l.Pairwise Rl->fo a b l++fo b c l=fo a c l
 | [],_=>rfl
 | x::r,h=>by
  obtain ⟨p1,p2⟩:=List.pairwise_cons.mp h
  by_cases hb:b<x.q
  ·have big:∀y∈x::r,b<y.q:=fun y hy=>by
    rcases q_n.mp hy with rfl | hy
    ·exact hb
    ·have:=(p1 y hy).1;grind
   have e1:fo a b (x::r)=[]:=by
    unfold fo
    exact List.filter_eq_nil_iff.mpr fun y hy=>by simp [big y hy]
   have e2:fo b c (x::r)=fo a c (x::r):=by
    unfold fo
    refine List.filter_congr fun y hy=>?_
    have:=big y hy
    rw [decide_eq_true this,decide_eq_true (show a<y.q by grind)]
   rw [e1,e2,List.nil_append]
  ·have ih:=JGI h1 h2 p2
   unfold fo at ih ⊢
   by_cases ha:a<x.q
   ·rw [q_x (by simp [ha];grind),q_w (by simp [hb]),q_x (by simp [ha];grind),List.cons_append,ih]
   ·rw [q_w (by simp [ha]),q_w (by simp [hb]),q_w (by simp [ha]),ih]
theorem JF1 {a b c:Rat} (h1:a<=b) (h2:b<=c):∀ {l:List Mk},l.Pairwise Rl->bk a b l++bk b c l=bk a c l
 | [],_=>rfl
 | x::r,h=>by
  obtain ⟨p1,p2⟩:=List.pairwise_cons.mp h
  by_cases hb:x.q<b
  ·have ih:=JF1 h1 h2 p2
   unfold bk at ih ⊢
   by_cases ha:x.q<a
   ·rw [q_w (by simp [ha]),q_w (by simp [hb]),q_w (by simp [ha]),ih]
   ·rw [q_x (by simp [ha,hb]),q_w (by simp [hb]),q_x (by simp [ha];grind),List.cons_append,ih]
  ·have big:∀y∈x::r,¬y.q<b:=fun y hy=>by
    rcases q_n.mp hy with rfl | hy
    ·exact hb
    ·have:=(p1 y hy).1;grind
   have e1:bk a b (x::r)=[]:=by
    unfold bk
    exact List.filter_eq_nil_iff.mpr fun y hy=>by simp [big y hy]
   have e2:bk b c (x::r)=bk a c (x::r):=by
    unfold bk
    refine List.filter_congr fun y hy=>?_
    have:=big y hy
    rw [q_o this,q_o (show ¬y.q<a by grind)]
   rw [e1,e2,List.nil_append]
theorem JG5 (a:Rat) (l:List Mk):fo a a l=[]:=by
 unfold fo
 exact List.filter_eq_nil_iff.mpr fun y _=>by simp
theorem JMw (a:Rat) (l:List Mk):bk a a l=[]:=by
 unfold bk
 exact List.filter_eq_nil_iff.mpr fun y _=>by simp
theorem JBj {a b:Rat} (h:a<=b) (ms:List Mk):psd a b ms=fo a b (bt ms):=by
 unfold psd
 rw [if_neg (by grind)]
theorem JCs {a b:Rat} (h:a<=b) (ms:List Mk):psd b a ms=(bk a b (bt ms)).reverse:=by
 unfold psd
 by_cases o:a<b
 ·rw [if_pos o]
  unfold bk
  rw [List.filter_reverse]
 ·have:a=b:=by grind
  subst this
  rw [if_neg o,JG5,JMw]
  rfl
noncomputable def lt (l:List Mk):List Str:=l.map fun m=>lab m.i
theorem lt_l (l:List Mk):l.map Mk.l=(lt l).map PyData.str:=by unfold lt;rw [List.map_map];rfl
theorem JQA {i j:Nat} (hi:i<5) (hj:j<5) (h:lab i=lab j):i=j:=JM9 hi hj (by rw [h];simp)
structure Good (ms:List Mk):Prop where
 nums:Nums ms
 len:ms.length<=5
 mks:Mks ms
 lo:∀a∈ms, -1<a.q
 hi:∀a∈ms,a.q<9
theorem Good.i5 {ms:List Mk} (g:Good ms) {a:Mk} (ha:a∈ms):a.i<5:=by have:=JIi g.nums ha;have:=g.len;omega
theorem Good.one {ms:List Mk} (g:Good ms) {a b:Mk} (ha:a∈ms) (hb:b∈ms) (h:lab a.i=lab b.i):a=b:=by
 have e:=JQA (g.i5 ha) (g.i5 hb) h
 obtain ⟨i,hi,rfl⟩:=List.mem_iff_getElem.mp ha
 obtain ⟨j,hj,rfl⟩:=List.mem_iff_getElem.mp hb
 have e1:=g.nums i _ (q_q hi)
 have e2:=g.nums j _ (q_q hj)
 have:i=j:=by omega
 subst this;rfl
theorem Good.nd {ms:List Mk} (g:Good ms):ms.Nodup:=by
 unfold List.Nodup
 rw [List.pairwise_iff_getElem]
 intro i j hi hj hij e
 have e1:=g.nums i _ (q_q hi)
 have e2:=g.nums j _ (q_q hj)
 rw [e] at e1
 omega
theorem Good.pm {ms:List Mk} (g:Good ms):(bt ms).Perm ms:=(JHN ms.length ms rfl g.nums).1
theorem Good.pw {ms:List Mk} (g:Good ms):(bt ms).Pairwise Rl:=(JHN ms.length ms rfl g.nums).2
theorem JMf {ms l:List Mk} (g:Good ms) (hs:∀a∈l,a∈ms) (hn:l.Nodup):(lt l).Nodup:=by
 unfold lt List.Nodup
 rw [List.pairwise_map]
 exact List.Pairwise.imp_of_mem (fun ha hb h e=>h (g.one (hs _ ha) (hs _ hb) e)) hn
theorem JIw {ms l:List Mk} (g:Good ms) (hs:∀a∈l,a∈ms) {m:Mk} (hm:m∈ms):lab m.i∈lt l↔m∈l:=by
 unfold lt
 rw [List.mem_map]
 exact ⟨fun ⟨a,ha,e⟩=>g.one (hs a ha) hm e▸ha,fun h=>⟨m,h,rfl⟩⟩
theorem JIm {p q:Mk->Bool}:∀ {l:List Mk},(∀a∈l,p a=true->q a=false)->(l.filter p++l.filter q).Perm (l.filter fun a=>p a || q a)
 | [],_=>List.Perm.refl _
 | a::l,h=>by
  have ih:=JIm (l:=l) fun b hb=>h b (by simp [hb])
  cases hp:p a with
  | true =>
   rw [q_x hp,q_w (by rw [h a (by simp) hp];simp),q_x (by simp [hp])]
   exact List.Perm.cons _ ih
  | false =>
   cases hq:q a with
   | true =>
    rw [q_w (by simp [hp]),q_x hq,q_x (by simp [hq])]
    exact List.perm_middle.trans (List.Perm.cons _ ih)
   | false =>
    rw [q_w (by simp [hp]),q_w (by simp [hq]),q_w (by simp [hp,hq])]
    exact ih
theorem strs_map:∀zs:List Str,strsOf (zs.map PyData.str)=some zs
 | []=>rfl
 | z::zs=>by simp only [List.map_cons,strsOf,strs_map zs];rfl
theorem JC6 {zs:List Str} (h:zs.length<=5):xD .srt [.list (zs.map PyData.str)]=.ok (.list ((JAX zs).map PyData.str)):=by
 simp only [xD]
 unfold srtD
 by_cases h2:zs.length<2
 ·rw [if_pos (by rw [q_g];exact h2)]
  unfold JAX
  rw [if_pos h2]
 ·rw [if_neg (by rw [q_g];exact h2)]
  have k2:JCx (zs.map PyData.str)=none:=by cases zs with | nil=>simp at h2 | cons a r=>rfl
  unfold srtA
  rw [k2]
  simp only
  unfold srtS
  rw [strs_map]
  simp only [if_pos h]
theorem JNQ {zs:List Str} (h1:zs.length<=1000) (h:(dedS zs).length<=5):xD .sst [.list (zs.map PyData.str)]=.ok (.list ((JAX (dedS zs)).map PyData.str)):=by
 simp only [xD]
 unfold sstS
 rw [strs_map]
 simp only [if_pos (And.intro h1 h)]
theorem JJg {zs:List Str} (hp:zs.Nodup) (h:zs.length<=5):∀z∈JAX zs,z∈zs:=by
 by_cases h2:2<=zs.length
 ·exact (So.core hp h2 h).1
 ·unfold JAX
  rw [if_pos (by omega)]
  exact fun z hz=>hz
theorem JFX:∀ {zs:List Str},(∀z∈zs,∃i,z=lab i)->PyData.canLayAll0 (zs.map PyData.str)=true
 | [],_=>by simp only [List.map_nil,PyData.canLayAll0]
 | z::zs,h=>by
  obtain ⟨i,rfl⟩:=h z (by simp)
  simp only [List.map_cons,PyData.canLayAll0,JFX (zs:=zs) fun y hy=>h y (by simp [hy]),JH1,Bool.and_self]
theorem JIW:∀zs:List Str,PyData.depthAll (zs.map PyData.str)<=2
 | []=>by simp only [List.map_nil,PyData.depthAll];omega
 | z::zs=>by
  have:=JIW zs
  simp only [List.map_cons,PyData.depthAll,PyData.depth]
  omega
theorem JDm:∀zs:List Str,PyData.eqvAll (zs.map PyData.str) (zs.map PyData.str)=true
 | []=>by simp only [List.map_nil,PyData.eqvAll]
 | z::zs=>by simp only [List.map_cons,PyData.eqvAll,JDm zs,PyData.eqv,JGM,Bool.and_self]
theorem JKc {zs:List Str} (h:∀z∈zs,∃i,z=lab i):shaped (.list (zs.map PyData.str))=true:=by
 have:=JIW zs
 unfold shaped
 rw [q_i]
 refine ⟨by simp only [PyData.canLay0,JFX h],decide_eq_true ?_⟩
 simp only [PyData.depth]
 omega
theorem JKj {zs:List Str} (h:∀z∈zs,∃i,z=lab i):cmpD .NotEq (.list (zs.map PyData.str)) (.list (zs.map PyData.str))=.ok (.bool false):=by
 simp only [cmpD,JKc h,Bool.and_self,if_true,PyData.eqv,JDm,Bool.not_true]
theorem JKg {zs:List Str} (h:∀z∈zs,∃i,z=lab i):cmpD .Eq (.list (zs.map PyData.str)) (.list (zs.map PyData.str))=.ok (.bool true):=by
 simp only [cmpD,JKc h,Bool.and_self,if_true,PyData.eqv,JDm]
theorem JIx (l:List Mk):∀z∈lt l,∃i,z=lab i:=fun z hz=>by
 unfold lt at hz
 obtain ⟨m,_,rfl⟩:=List.mem_map.mp hz
 exact ⟨_,rfl⟩
theorem JFO {l:List Mk} (hp:(lt l).Nodup) (h:l.length<=5):∀z∈JAX (lt l),∃i,z=lab i:=fun z hz=>JIx l z (JJg hp (by unfold lt;rw [q_g];exact h) z hz)
theorem JQV {zs:List Str} (h:∀z∈zs,∃i,z=lab i) (i:Nat):cmpD .In (.str (lab i)) (.list (zs.map PyData.str))=.ok (.bool (decide (lab i∈zs))):=by
 have hc:JBi (zs.map PyData.str) (.str (lab i))=true:=by
  simp only [JBi,JFX h,JH1,Bool.and_self,Bool.true_and]
  exact decide_eq_true (by simp only [PyData.depth];omega)
 simp only [cmpD,hc,if_true]
 congr 2
 rw [List.any_map,Bool.eq_iff_iff,List.any_eq_true,q_C]
 constructor
 ·rintro ⟨z,hz,e⟩
  simp only [Function.comp,PyData.eqv] at e
  rw [<-eq_of_beq e];exact hz
 ·intro hz
  exact ⟨_,hz,by simp [PyData.eqv]⟩
end VI.VP
end
section
namespace VI.VP
open PySem Fr PySem.W
noncomputable def chkW (r:List Nat):Bool:=match (kGo (fun i j=>decide (r.getD i 0<r.getD j 0)) (kas_sort 3)).toList with
 | [i,j,k]=>decide (i<3)&&decide (j<3)&&decide (k<3)&&decide (r.getD i 0<=r.getD j 0)&&decide (r.getD j 0<=r.getD k 0)
 | _=>false
noncomputable def allW:List (List Nat):=(List.range 3).flatMap fun a=>(List.range 3).flatMap fun b=>(List.range 3).map fun c=>[a,b,c]
theorem JJR:allW.all chkW=true:=by decide +kernel
noncomputable def tu (u:Int):D:=.tuple [.int u,F (Rat.divInt u 4)]
noncomputable def ku (u:Int):List At:=[.i u,.t [(Rat.divInt u 4).num,((Rat.divInt u 4).den:Int)]]
theorem JPm (u v:Int):lexA (ku u) (ku v)=decide (u<v):=by
 unfold ku
 simp only [lexA]
 by_cases e:u=v
 ·subst e
  rw [if_pos rfl,if_pos rfl]
  exact (q_o (by omega)).symm
 ·rw [if_neg (by simpa using e)]
  rfl
theorem srt3 (u0 u1 u2:Int):∃a b c:Int,a∈[u0,u1,u2]/\b∈[u0,u1,u2]/\c∈[u0,u1,u2]/\a<=b/\b<=c/\xD .srt [.list [tu u0,tu u1,tu u2]]=.ok (.list [tu a,tu b,tu c]):=by
 have ka:JCx [tu u0,tu u1,tu u2]=some [ku u0,ku u1,ku u2]:=rfl
 have sg:JKF [ku u0,ku u1,ku u2]=true:=rfl
 obtain ⟨us,hus⟩:∃us:List Int,us=[u0,u1,u2]:=⟨_,rfl⟩
 have hl:us.length=3:=by rw [hus];rfl
 obtain ⟨rk3,hrk⟩:∃rk3:Int->Nat,rk3=fun u=>us.countP fun v=>decide (v<u):=⟨_,rfl⟩
 have lt3:∀u∈us,∀v,u<v->rk3 u<rk3 v:=fun u hu v h=>by
  rw [hrk]
  exact So.cnt_lt (fun y _ e=>decide_eq_true (by have:=of_decide_eq_true e;omega)) ⟨u,hu,decide_eq_true h,q_o (by omega)⟩
 have iff3:∀u∈us,∀v∈us,decide (u<v)=decide (rk3 u<rk3 v):=fun u hu v hv=>by
  by_cases h:u<v
  ·rw [decide_eq_true h,decide_eq_true (lt3 u hu v h)]
  ·rw [q_o h]
   refine (q_o ?_).symm
   by_cases h':v<u
   ·have:=lt3 v hv u h';omega
   ·have:u=v:=by omega
    rw [this];omega
 have n3:∀u∈us,rk3 u<3:=fun u hu=>by
  have:=So.cnt_lt (p:=fun v=>decide (v<u)) (q:=fun _=>true) (l:=us) (fun _ _ _=>rfl) ⟨u,hu,rfl,q_o (by omega)⟩
  rw [show (us.countP fun _=>true)=us.length by simp,hl] at this
  rw [hrk];exact this
 have m0:u0∈us:=by rw [hus];simp
 have m1:u1∈us:=by rw [hus];simp
 have m2:u2∈us:=by rw [hus];simp
 have hr:[rk3 u0,rk3 u1,rk3 u2]∈allW:=by
  unfold allW
  exact List.mem_flatMap.mpr ⟨_,List.mem_range.mpr (n3 u0 m0),List.mem_flatMap.mpr ⟨_,List.mem_range.mpr (n3 u1 m1),List.mem_map.mpr ⟨_,List.mem_range.mpr (n3 u2 m2),rfl⟩⟩⟩
 have ck:=List.all_eq_true.mp JJR _ hr
 have gt:∀i,i<3->∃u∈us,[ku u0,ku u1,ku u2].getD i []=ku u/\[tu u0,tu u1,tu u2].getD i .none=tu u/\[rk3 u0,rk3 u1,rk3 u2].getD i 0=rk3 u:=fun i hi=>by
  obtain rfl | rfl | rfl:i=0\/i=1\/i=2:=by omega
  ·exact ⟨u0,m0,rfl,rfl,rfl⟩
  ·exact ⟨u1,m1,rfl,rfl,rfl⟩
  ·exact ⟨u2,m2,rfl,rfl,rfl⟩
 have es:JCR [ku u0,ku u1,ku u2]=(kGo (fun i j=>decide ([rk3 u0,rk3 u1,rk3 u2].getD i 0 < [rk3 u0,rk3 u1,rk3 u2].getD j 0)) (kas_sort 3)).toList:=by
  unfold JCR
  show (kGo _ (kas_sort 3)).toList=_
  rw [So.go_congr (n:=3) (lt':=fun i j=>decide ([rk3 u0,rk3 u1,rk3 u2].getD i 0 < [rk3 u0,rk3 u1,rk3 u2].getD j 0)) (fun i j hi hj=>?_) _ So.inn3]
  obtain ⟨u,hu,e1,_,e2⟩:=gt i hi
  obtain ⟨v,hv,f1,_,f2⟩:=gt j hj
  rw [e1,f1,e2,f2,JPm]
  exact iff3 u hu v hv
 unfold chkW at ck
 rw [<-es] at ck
 split at ck
 ·rename_i i j k ep
  simp only [q_i,q_C] at ck
  obtain ⟨⟨⟨⟨hi,hj⟩,hk⟩,c1⟩,c2⟩:=ck
  obtain ⟨a,ha,_,ea,ra⟩:=gt i hi
  obtain ⟨b,hb,_,eb,rb⟩:=gt j hj
  obtain ⟨c,hc,_,ec,rc⟩:=gt k hk
  rw [ra,rb] at c1
  rw [rb,rc] at c2
  refine ⟨a,b,c,hus▸ha,hus▸hb,hus▸hc,?_,?_,?_⟩
  ·by_cases o:b<a
   ·have:=lt3 b hb a o;omega
   ·omega
  ·by_cases o:c<b
   ·have:=lt3 c hc b o;omega
   ·omega
  ·simp only [xD]
   unfold srtD
   rw [if_neg (by simp)]
   unfold srtA
   rw [ka]
   simp only
   rw [if_pos ⟨by simp,by simp,sg⟩,ep]
   simp only [List.map_cons,List.map_nil]
   rw [ea,eb,ec]
 ·cases ck
theorem JOk {σ τ:Int} (h:σ<=τ):Rat.divInt σ 4<=Rat.divInt τ 4:=by
 rw [Rat.divInt_eq_div,Rat.divInt_eq_div]
 have h:=Rat.intCast_le_intCast.mpr h
 have e:((4:Int):Rat)=4:=rfl
 rw [e]
 grind
theorem q2_in {p:Int} (h0:0<=p) (h1:p<9):-1<Rat.divInt p 2/\Rat.divInt p 2<9:=by
 rw [Rat.divInt_eq_div]
 have h0:=Rat.intCast_le_intCast.mpr h0
 have h1:=Rat.intCast_lt_intCast.mpr h1
 have e:((2:Int):Rat)=2:=rfl
 have e0:((0:Int):Rat)=0:=rfl
 have e9:((9:Int):Rat)=9:=rfl
 rw [e0] at h0
 rw [e9] at h1
 rw [e]
 constructor<;>grind
noncomputable def JJ8:S:=match JBJ with
 | .cons _ (.cons (.for1 _ _ b) _)=>b
 | _=>.nil
noncomputable def JC1:S:=match JBJ with
 | .cons _ (.cons _ (.cons (.for1 _ _ b) _))=>b
 | _=>.nil
noncomputable def JKE:S:=match JC1 with
 | .cons _ (.cons (.for1 _ _ b) _)=>b
 | _=>.nil
noncomputable def JJ4:S:=match JC1 with
 | .cons _ (.cons _ r)=>r
 | _=>.nil
section
variable {x:Bool} {sub:Nat->Nat->Bool} {n:Nat}
theorem JK6 (ns:List Int) {C:Cn} (fn:C.fn=run x tabA gloA sub (n+4)) (fg:C.glo=gloA):∀(r:Nat) (acc:List Mk) (y:Sl),Vs y->Good acc->acc.length+r<=5 ->
  ∃(ms:List Mk) (y':Sl),Vs y'/\Good ms /\
   for2 C 2 JJ8 ((List.range' acc.length r).map fun j:Nat=>PyData.int j) [.val (sc ns),.own (.list (acc.map Mk.d)),y,.no,.no,.no,.no,.no,.no,.no,.no,.no,.no,.no]
   = .nx [.val (sc ns),.own (.list (ms.map Mk.d)),y',.no,.no,.no,.no,.no,.no,.no,.no,.no,.no,.no]
 | 0,acc,y,hy,h1,hl=>⟨acc,y,hy,h1,rfl⟩
 | r+1,acc,y,hy,h1,hl=>by
  obtain ⟨p,p0,p1,hp⟩:=JHa (x:=x) (sub:=sub) (m:=n+4) ns (1+(acc.length:Int)) 9 (by omega) (by omega) (by omega) (by omega)
  have hm:run x tabA gloA sub (n+4) 14 [.int p,.int 2]=.ok (F (Rat.divInt p 2)):=JKN (by decide) (by decide) (by omega)
  have hs:Sz 10 (Rat.divInt p 2):=Sz.of (by decide) (by omega) (by omega)
  have hb:=q2_in p0 p1
  have hi:=JNW (k:=acc.length) (by omega)
  have ap:∀(e:E) (δ:Env),JBP 1 (acc.map Mk.d) e (.tuple [F (Rat.divInt p 2),.str (lab acc.length)]) δ=.nx (δ.set 1 (.own (.list (acc.map Mk.d++[.tuple [F (Rat.divInt p 2),.str (lab acc.length)]])))):=fun e δ=>JLW (by rw [q_g];omega) rfl
  have st:exec C JJ8 [.val (sc ns),.own (.list (acc.map Mk.d)),.val (.int acc.length),.no,.no,.no,.no,.no,.no,.no,.no,.no,.no,.no]=.nx [.val (sc ns),.own (.list ((acc++[(⟨Rat.divInt p 2,acc.length⟩:Mk)]).map Mk.d)),.val (.int acc.length),.no,.no,.no,.no,.no,.no,.no,.no,.no,.no,.no]:=by
   rw [List.map_append,show [(⟨Rat.divInt p 2,acc.length⟩:Mk)].map Mk.d=[.tuple [F (Rat.divInt p 2),.str (lab acc.length)]] from rfl]
   generalize lab acc.length=lb at *
   generalize acc.map Mk.d=ds at *
   dsimp?! [JJ8,JBJ,fn,fg,hp,hm,hi,ap]
  have all:∀ {P:Mk->Prop},(∀a∈acc,P a)->P ⟨Rat.divInt p 2,acc.length⟩->∀a∈acc++[⟨Rat.divInt p 2,acc.length⟩],P a:=fun h1 h2 a ha=>by
   rcases List.mem_append.mp ha with ha | ha
   ·exact h1 a ha
   ·rw [List.mem_singleton.mp ha];exact h2
  have g2:Mks (acc++[⟨Rat.divInt p 2,acc.length⟩]):=all (P:=fun a=>Sz 10 a.q) h1.mks hs
  have g3:=all (P:=fun a=>-1<a.q) h1.lo hb.1
  have g4:=all (P:=fun a=>a.q<9) h1.hi hb.2
  obtain ⟨ms,y',hv,a1,a4⟩:=JK6 ns fn fg r (acc++[⟨Rat.divInt p 2,acc.length⟩]) (.val (.int acc.length)) rfl ⟨JJf h1.nums rfl,by simp only [q_u,List.length_cons,List.length_nil];omega,g2,g3,g4⟩ (by simp only [q_u,List.length_cons,List.length_nil];omega)
  refine ⟨ms,y',hv,a1,?_⟩
  rw [List.range'_succ,List.map_cons,JBF]
  simp only [List.set_cons_succ,List.set_cons_zero]
  rw [st,JCk]
  simpa using a4
theorem JMd (ns:List Int) {C:Cn} (fn:C.fn=run x tabA gloA sub (n+4)) (fg:C.glo=gloA) {κ j:Int} (k0:0<=κ) (k1:κ<5) (j0:0<=j) (j1:j<3) (acc:List D) (ha:acc.length<1000) (z1 y5 y6 y7 y8 y9 y10 y11 y12 y13:Sl) :
  ∃u:Int, -1<=u/\u<=17/\exec C JKE [.val (sc ns),z1,.val (.int κ),.own (.list acc),.val (.int j),y5,y6,y7,y8,y9,y10,y11,y12,y13]
   = .nx [.val (sc ns),z1,.val (.int κ),.own (.list (acc++[tu u])),.val (.int j),.val (.int u),y6,y7,y8,y9,y10,y11,y12,y13]:=by
 obtain ⟨p,p0,p1,hp⟩:=JHa (x:=x) (sub:=sub) (m:=n+4) ns (10+3*κ+j) 19 (by omega) (by omega) (by omega) (by omega)
 have hm:run x tabA gloA sub (n+4) 14 [.int (p - 1),.int 4]=.ok (F (Rat.divInt (p - 1) 4)):=JKN (by decide) (by decide) (by omega)
 have mu:binD .Mult (.int 3) (.int κ)=.ok (.int (3*κ)):=JAj (L.of (k:=10) (by omega) (by omega)) (L.of (k:=10) (by omega) (by omega))
 have ap:∀(e:E) (δ:Env),JBP 3 acc e (.tuple [.int (p - 1),F (Rat.divInt (p - 1) 4)]) δ=.nx (δ.set 3 (.own (.list (acc++[.tuple [.int (p - 1),F (Rat.divInt (p - 1) 4)]])))):=fun e δ=>JLW ha rfl
 refine ⟨p - 1,by omega,by omega,?_⟩
 unfold tu
 generalize F (Rat.divInt (p - 1) 4)=Fq at *
 dsimp?! [JKE,JC1,JBJ,fn,fg,hp,mu,hm,ap,JC7,JCw,JCv,JBx,JCE,JHm,JCc,Nat.reduceAdd,Nat.reduceBEq,Bool.or_false,Bool.or_self,Bool.false_and,Bool.false_or,Sl.isOwn,Bool.and_false,JAR,no7,Bool.not_true]
end
end VI.VP
end
section
namespace VI.VP
open PySem Fr PySem.W
theorem JJy {xs ys:List D} (h:xs.length+ys.length<=1000):binD .Add (.list xs) (.list ys)=.ok (.list (xs++ys)):=by
 simp only [binD]
 rw [if_pos (by omega)]
theorem JN2 {a b c:D}:JAd 3 (.list [a,b,c])=.ok [a,b,c]:=rfl
theorem JCl (e:E) (i:Nat) (y:Sl) (r:Env):JAg e i (y::r)=(if e.uses i=true then y.frz else y)::JAg e (i+1) r:=rfl
theorem ur7 {a:E} {j:Nat}:(E.rng a).uses j=a.uses j:=rfl
theorem uc7 {o:CmpOp} {a b:E} {j:Nat}:(E.cmp o a b).uses j=(a.uses j || b.uses j):=rfl
theorem ub7 {k:Bool} {j:Nat}:(E.cbl k).uses j=false:=rfl
theorem tu1 (u:Int):idxD (tu u) (.int 1)=.ok (F (Rat.divInt u 4)):=rfl
section
variable {x:Bool} {sub:Nat->Nat->Bool} {n:Nat}
theorem JL9 {a b:Rat} {ms:List Mk}:(psd a b ms).length<=ms.length:=by
 unfold psd
 split
 ·unfold bk
  exact Nat.le_trans (List.length_filter_le _ _) (by rw [List.length_reverse,JEX];omega)
 ·unfold fo
  exact Nat.le_trans (List.length_filter_le _ _) (by rw [JEX];omega)
theorem turnB (ns:List Int) {C:Cn} {ms:List Mk} (fn:C.fn=run x tabA gloA sub (n+4)) (fg:C.glo=gloA) (g:Good ms) {a b c:Int} (hab:a<=b) (hbc:b<=c) (ha:-1<=a) (hc:c<=17) (κ:D) (so:List D) (hso:so.length=3) (hsr:xD .srt [.list so]=.ok (.list [tu a,tu b,tu c]))
  (z1 y4 y5 y6 y7 y8 y9 y10 y11 y12 y13:Sl) (h1:z1=.own (.list (ms.map Mk.d))\/z1=.val (.list (ms.map Mk.d))) :
  ∃z3 z6 z7 z8 z9 z10 z11 z12:Sl,exec C JJ4 [.val (sc ns),z1,.val κ,.own (.list so),y4,y5,y6,y7,y8,y9,y10,y11,y12,y13]
    = .nx [.val (sc ns),.val (.list (ms.map Mk.d)),.val κ,z3,y4,y5,z6,z7,z8,z9,z10,z11,z12,y13]:=by
 have zA:Z 10 (Rat.divInt a 4):=⟨Sz.of (by decide) (by omega) (by omega)⟩
 have zB:Z 10 (Rat.divInt b 4):=⟨Sz.of (by decide) (by omega) (by omega)⟩
 have zC:Z 10 (Rat.divInt c 4):=⟨Sz.of (by decide) (by omega) (by omega)⟩
 have lAB:=JOk hab
 have lBC:=JOk hbc
 have cu:∀δ:Env,JCO C 0 (.idx (.var 0) (.cint 1)) (.cbl true) δ (.ok [tu a,tu b,tu c])=.ok (.list [F (Rat.divInt a 4),F (Rat.divInt b 4),F (Rat.divInt c 4)]):=fun δ=>by
  rw [JBY (by simp),show [tu a,tu b,tu c]=[a,b,c].map tu from rfl,JAr (p:=fun _=>true) (g:=fun u=>F (Rat.divInt u 4)) (fun u _=>?_)]
  · rfl
  · rw [JCr]
    have t1:=tu1 u
    generalize tu u=td at *
    dsimp?! [t1]
 have i3:JA5 (.list [tu a,tu b,tu c])=.ok [tu a,tu b,tu c]:=rfl
 generalize tu a=ta at *
 generalize tu b=tb at *
 generalize tu c=tc at *
 generalize Rat.divInt a 4=A at *
 generalize Rat.divInt b 4=B at *
 generalize Rat.divInt c 4=Q at *
 have lAC:A<=Q:=by grind
 have len:=g.len
 have bl:=JEX (ms:=ms)
 have r1:=JA6 (x:=x) (sub:=sub) (m:=n+4) (lo:=A) (hi:=B) g.mks (by omega) (by omega) (by omega) (by omega)
 have r2:=JA6 (x:=x) (sub:=sub) (m:=n+4) (lo:=B) (hi:=Q) g.mks (by omega) (by omega) (by omega) (by omega)
 have r3:=JA6 (x:=x) (sub:=sub) (m:=n+4) (lo:=A) (hi:=Q) g.mks (by omega) (by omega) (by omega) (by omega)
 have r4:=JA6 (x:=x) (sub:=sub) (m:=n+4) (lo:=Q) (hi:=B) g.mks (by omega) (by omega) (by omega) (by omega)
 have r5:=JA6 (x:=x) (sub:=sub) (m:=n+4) (lo:=B) (hi:=A) g.mks (by omega) (by omega) (by omega) (by omega)
 have r6:=JA6 (x:=x) (sub:=sub) (m:=n+4) (lo:=Q) (hi:=A) g.mks (by omega) (by omega) (by omega) (by omega)
 have r7:=JA6 (x:=x) (sub:=sub) (m:=n+4) (lo:=A) (hi:=A) g.mks (by omega) (by omega) (by omega) (by omega)
 have pl:∀p q,((psd p q ms).map Mk.l).length<=5:=fun p q=>by rw [q_g];exact Nat.le_trans JL9 len
 have ad1:binD .Add (.list ((psd A B ms).map Mk.l)) (.list ((psd B Q ms).map Mk.l))=.ok (.list ((psd A Q ms).map Mk.l)):=by
  rw [JJy (by have:=pl A B;have:=pl B Q;omega),<-List.map_append,JBj lAB,JBj lBC,JBj lAC,JGI lAB lBC g.pw]
 have ad2:binD .Add (.list ((psd Q B ms).map Mk.l)) (.list ((psd B A ms).map Mk.l))=.ok (.list ((psd Q A ms).map Mk.l)):=by
  rw [JJy (by have:=pl Q B;have:=pl B A;omega),<-List.map_append,JCs lAB,JCs lBC,JCs lAC,<-List.reverse_append,JF1 lAB lBC g.pw]
 have ne1:=JFZ (psd A Q ms)
 have ne2:=JFZ (psd Q A ms)
 have r7':(psd A A ms).map Mk.l=[]:=by rw [JBj (by grind),JG5];rfl
 rw [r7'] at r7
 have ne3:cmpD .NotEq (.list []) (.list [])=.ok (.bool false):=JFZ []
 have c1:∀a3 a4 a5 a7 a9 a10 a11 a12 a13,JCO C 2 (.var 1) (.and (.call 21 (.cons (.var 8) (.cons (.var 0) .nil))) (.call 21 (.cons (.var 0) (.cons (.var 10) .nil)))) [.val (sc ns),.val (.list (ms.map Mk.d)),.val κ,a3,a4,a5,.val (F A),a7,.val (F Q),a9,a10,a11,a12,a13] (.ok (ms.map Mk.d))=.ok (.list ((ms.filter fun m=>decide (A<m.q)&&decide (m.q<Q)).map Mk.l)):=fun a3 a4 a5 a7 a9 a10 a11 a12 a13=>by
  rw [JBY (by rw [q_g];omega),JAr (p:=fun m=>decide (A<m.q)&&decide (m.q<Q)) (g:=Mk.l) (fun m hm=>?_)]
  · rfl
  · have zb:Z 10 m.q:=⟨g.mks m hm⟩
    rw [JH5]
    generalize m.l=al at *
    by_cases o:A<m.q<;>by_cases o':m.q<Q <;>
     dsimp?! [fn,fg,o,o',decide_true,decide_false,Bool.and_false,Bool.and_true]
 have inB:∀m∈psd A Q ms,decide (lab m.i∈lt (psd Q A ms))=decide (m.q<Q):=fun m hm=>by
  rw [JBj lAC] at hm
  unfold fo at hm
  obtain ⟨m1,m2⟩:=List.mem_filter.mp hm
  have mm:=g.pm.mem_iff.mp m1
  rw [JCs lAC]
  refine decide_eq_decide.mpr ?_
  rw [JIw g (l:=(bk A Q (bt ms)).reverse) (fun a ha=>g.pm.mem_iff.mp (List.mem_filter.mp (List.mem_reverse.mp ha)).1) mm,List.mem_reverse]
  unfold bk
  rw [List.mem_filter]
  simp only [q_i,Bool.not_eq_true',q_C,decide_eq_false_iff_not] at m2 ⊢
  exact ⟨fun z=>z.2.2,fun z=>⟨m1,by grind,z⟩⟩
 have c2:∀δ:Env,look δ 10=.ok (.list ((psd Q A ms).map Mk.l))->JCO C 0 (.var 0) (.cmp .In (.var 0) (.var 11)) δ (.ok ((psd A Q ms).map Mk.l))=.ok (.list (((psd A Q ms).filter fun m=>decide (m.q<Q)).map Mk.l)):=fun δ hδ=>by
  rw [JBY (by have:=pl A Q;omega),JAr (p:=fun m=>decide (m.q<Q)) (g:=Mk.l) (fun m hm=>?_)]
  · rfl
  · rw [JCr]
    have e:=inB m hm
    have ic:=JQV (JIx (psd Q A ms)) m.i
    rw [<-lt_l,e] at ic
    have ic:cmpD .In m.l (.list ((psd Q A ms).map Mk.l))=.ok (.bool (decide (m.q<Q))):=ic
    generalize m.l=al at *
    by_cases o:m.q<Q
    ·rw [decide_eq_true o] at ic ⊢
     dsimp?! [hδ,ic]
    ·rw [q_o o] at ic ⊢
     dsimp?! [hδ,ic]
 have pI:((psd A Q ms).filter fun m=>decide (m.q<Q)).Perm (ms.filter fun m=>decide (A<m.q)&&decide (m.q<Q)):=by
  rw [JBj lAC]
  unfold fo
  rw [List.filter_filter]
  refine (g.pm.filter _).trans (List.Perm.of_eq (List.filter_congr fun m hm=>?_))
  by_cases o:A<m.q<;>by_cases o':m.q<Q<;>by_cases o2:Q<m.q<;>simp [o,o',o2]<;>grind
 have ndI:=JMf g (l:=ms.filter fun m=>decide (A<m.q)&&decide (m.q<Q)) (fun a ha=>(List.mem_filter.mp ha).1) (g.nd.filter _)
 have lI:(ms.filter fun m=>decide (A<m.q)&&decide (m.q<Q)).length<=5:=Nat.le_trans (List.length_filter_le _ _) len
 have x1:xD .srt [.list ((ms.filter fun m=>decide (A<m.q)&&decide (m.q<Q)).map Mk.l)]=.ok (.list ((JAX (lt (ms.filter fun m=>decide (A<m.q)&&decide (m.q<Q)))).map PyData.str)):=by
  rw [lt_l,JC6 (by unfold lt;rw [q_g];exact lI)]
 have x2:xD .srt [.list (((psd A Q ms).filter fun m=>decide (m.q<Q)).map Mk.l)]=.ok (.list ((JAX (lt (ms.filter fun m=>decide (A<m.q)&&decide (m.q<Q)))).map PyData.str)):=by
  have hp:(lt ((psd A Q ms).filter fun m=>decide (m.q<Q))).Perm (lt (ms.filter fun m=>decide (A<m.q)&&decide (m.q<Q))):=pI.map _
  rw [lt_l,JC6 (by unfold lt;rw [q_g,pI.length_eq];exact lI),So.sort_perm hp ndI (by unfold lt;rw [q_g];exact lI)]
 have neI:=JKj (JFO ndI lI)
 have c3:∀a3 a4 a5 a7 a9 a10 a11 a12 a13,JCO C 2 (.var 1) (.and (.cmp .Eq (.var 0) (.var 8)) (.cmp .NotEq (.var 8) (.var 10))) [.val (sc ns),.val (.list (ms.map Mk.d)),.val κ,a3,a4,a5,.val (F A),a7,.val (F Q),a9,a10,a11,a12,a13] (.ok (ms.map Mk.d))=.ok (.list ((ms.filter fun m=>decide (m.q=A)&&!decide (A=Q)).map Mk.l)):=fun a3 a4 a5 a7 a9 a10 a11 a12 a13=>by
  rw [JBY (by rw [q_g];omega),JAr (p:=fun m=>decide (m.q=A)&&!decide (A=Q)) (g:=Mk.l) (fun m hm=>?_)]
  · rfl
  · rw [JH5]
    have f1:=F_eq m.q A
    have f2:=F_ne A Q
    generalize m.l=al at *
    by_cases o:m.q=A<;>by_cases o':A=Q
    ·rw [decide_eq_true o] at f1 ⊢;rw [decide_eq_true o'] at f2 ⊢
     dsimp?! [fn,fg,↓f1,↓f2,Bool.not_true,Bool.and_false,Bool.and_true]
    ·rw [decide_eq_true o] at f1 ⊢;rw [q_o o'] at f2 ⊢
     dsimp?! [fn,fg,↓f1,↓f2,Bool.not_false,Bool.and_false,Bool.and_true]
    ·rw [q_o o] at f1 ⊢;rw [decide_eq_true o'] at f2 ⊢
     dsimp?! [fn,fg,↓f1,↓f2,Bool.not_true,Bool.and_false,Bool.and_true,Bool.false_and]
    ·rw [q_o o] at f1 ⊢;rw [q_o o'] at f2 ⊢
     dsimp?! [fn,fg,↓f1,↓f2,Bool.not_false,Bool.and_false,Bool.and_true,Bool.false_and]
 obtain ⟨W,hW⟩:∃W:List Mk,W=psd A Q ms++ms.filter fun m=>decide (m.q=A)&&!decide (A=Q):=⟨_,rfl⟩
 have pW:W.Perm (ms.filter fun m=>(decide (A<m.q)&&!decide (Q<m.q)) || (decide (m.q=A)&&!decide (A=Q))):=by
  rw [hW,JBj lAC]
  unfold fo
  refine (List.Perm.append_right _ (g.pm.filter _)).trans (JIm fun m _ h=>?_)
  simp only [q_i,Bool.not_eq_true',q_C,decide_eq_false_iff_not] at h
  rw [q_o (show ¬m.q=A by grind),Bool.false_and]
 have sW:∀m∈W,m∈ms:=fun m hm=>(List.mem_filter.mp (pW.mem_iff.mp hm)).1
 have lW:W.length<=5:=by rw [pW.length_eq];exact Nat.le_trans (List.length_filter_le _ _) len
 have ndW:=JMf g sW (pW.nodup_iff.mpr (g.nd.filter _))
 have ad3:binD .Add (.list ((psd A Q ms).map Mk.l)) (.list ((ms.filter fun m=>decide (m.q=A)&&!decide (A=Q)).map Mk.l))=.ok (.list (W.map Mk.l)):=by
  rw [JJy,<-List.map_append,<-hW]
  have:=lW
  rw [hW,q_u] at this
  rw [q_g,q_g];omega
 have ad4:binD .Add (.list ((psd A Q ms).map Mk.l)) (.list ((psd Q A ms).map Mk.l))=.ok (.list ((psd A Q ms++psd Q A ms).map Mk.l)):=by
  rw [JJy (by have:=pl A Q;have:=pl Q A;omega),<-List.map_append]
 have sV:∀m∈psd A Q ms++psd Q A ms,m∈ms:=fun m hm=>by
  rw [JBj lAC,JCs lAC] at hm
  rcases List.mem_append.mp hm with hm | hm
  · exact g.pm.mem_iff.mp (List.mem_filter.mp hm).1
  · exact g.pm.mem_iff.mp (List.mem_filter.mp (List.mem_reverse.mp hm)).1
 have pV:(dedS (lt (psd A Q ms++psd Q A ms))).Perm (lt W):=by
  refine (List.perm_ext_iff_of_nodup (So.ded_nd _) ndW).mpr fun z=>?_
  rw [So.ded_mem]
  have key:∀m∈ms,m∈psd A Q ms++psd Q A ms↔m∈W:=fun m hm=>by
    rw [pW.mem_iff,List.mem_append,JBj lAC,JCs lAC,List.mem_reverse,List.mem_filter]
    unfold fo bk
    rw [List.mem_filter,List.mem_filter,g.pm.mem_iff]
    simp only [hm,true_and,q_i,Bool.or_eq_true,Bool.not_eq_true',q_C,decide_eq_false_iff_not]
    constructor
    ·rintro (⟨u1,u2⟩ | ⟨u1,u2⟩)
     ·exact .inl ⟨u1,u2⟩
     ·by_cases o:A<m.q
      ·exact .inl ⟨o,by grind⟩
      ·exact .inr ⟨by grind,by grind⟩
    ·rintro (⟨u1,u2⟩ | ⟨u1,u2⟩)
     ·exact .inl ⟨u1,u2⟩
     ·exact .inr ⟨by grind,by grind⟩
  constructor
  · intro hz
    unfold lt at hz
    obtain ⟨m,hm,rfl⟩:=List.mem_map.mp hz
    exact (JIw g sW (sV m hm)).mpr ((key m (sV m hm)).mp hm)
  · intro hz
    unfold lt at hz
    obtain ⟨m,hm,rfl⟩:=List.mem_map.mp hz
    exact (JIw g sV (sW m hm)).mpr ((key m (sW m hm)).mpr hm)
 have lWt:(lt W).length<=5:=by unfold lt;rw [q_g];exact lW
 have x3:xD .srt [.list (W.map Mk.l)]=.ok (.list ((JAX (lt W)).map PyData.str)):=by rw [lt_l,JC6 lWt]
 have x4:xD .sst [.list ((psd A Q ms++psd Q A ms).map Mk.l)]=.ok (.list ((JAX (lt W)).map PyData.str)):=by
  rw [lt_l,JNQ (by unfold lt;rw [q_g,q_u];have:=pl A Q;have:=pl Q A;rw [q_g] at *;omega) (by rw [pV.length_eq];exact lWt),So.sort_perm pV ndW lWt]
 have neW:=JKj (JFO ndW lW)
 refine ⟨.val (.list so),.val (F A),.val (F B),.val (F Q),.val (.list ((psd A Q ms).map Mk.l)),.val (.list ((psd Q A ms).map Mk.l)),.own (.list ((ms.filter fun m=>decide (A<m.q)&&decide (m.q<Q)).map Mk.l)),.own (.list ((ms.filter fun m=>decide (m.q=A)&&!decide (A=Q)).map Mk.l)),?_⟩
 have c2':∀a0 a1 a2 a3 a4 a5 a6 a7 a8 a9 a11 a12 a13:Sl,JCO C 0 (.var 0) (.cmp .In (.var 0) (.var 11)) [a0,a1,a2,a3,a4,a5,a6,a7,a8,a9,.val (.list ((psd Q A ms).map Mk.l)),a11,a12,a13] (.ok ((psd A Q ms).map Mk.l))=.ok (.list (((psd A Q ms).filter fun m=>decide (m.q<Q)).map Mk.l)):=fun a0 a1 a2 a3 a4 a5 a6 a7 a8 a9 a11 a12 a13=>c2 _ rfl
 clear inB c2 pI pW sW ndW pV sV ndI
 generalize (JAX (lt W)).map PyData.str=s2 at *
 generalize (psd A Q ms++psd Q A ms).map Mk.l=v1 at *
 generalize W.map Mk.l=v2 at *
 generalize (JAX (lt (ms.filter fun m=>decide (A<m.q)&&decide (m.q<Q)))).map PyData.str=s1 at *
 generalize ((psd A Q ms).filter fun m=>decide (m.q<Q)).map Mk.l=v3 at *
 generalize (ms.filter fun m=>decide (A<m.q)&&decide (m.q<Q)).map Mk.l=v4 at *
 generalize (ms.filter fun m=>decide (m.q=A)&&!decide (A=Q)).map Mk.l=v5 at *
 generalize (psd A Q ms).map Mk.l=p3 at *
 generalize (psd Q A ms).map Mk.l=n3 at *
 generalize (psd A B ms).map Mk.l=p1 at *
 generalize (psd B Q ms).map Mk.l=p2 at *
 generalize (psd Q B ms).map Mk.l=n1 at *
 generalize (psd B A ms).map Mk.l=n2 at *
 generalize ms.map Mk.d=ds at *
 rcases h1 with rfl | rfl
 ·dsimp?! [JJ4,JC1,JBJ,fn,fg,hsr,itM,i3,cu,List.length_cons,List.length_nil,Nat.reduceAdd,JN2,JBB,r1,r2,r3,r4,r5,r6,r7,ad1,ad2,ad3,ad4,ne1,ne2,ne3,c1,c2',c3,x1,x2,x3,x4,neI,neW,JC7,JCl,JAf,ua7,un7,uc7,ub7,ux7,JCw,JCv,JBx,JCE,JHc,JLS,JK5,JCc,JHm,Nat.reduceBEq,Bool.or_false,Bool.or_self,Bool.false_and,Bool.false_or,Bool.or_true,Bool.true_or,Bool.true_and,Sl.isOwn,Bool.and_false,Bool.and_true,JAR,no7,Bool.not_true,Bool.not_false,Nat.reduceEqDiff,Sl.frz]
 ·dsimp?! [JJ4,JC1,JBJ,fn,fg,hsr,itM,i3,cu,List.length_cons,List.length_nil,Nat.reduceAdd,JN2,JBB,r1,r2,r3,r4,r5,r6,r7,ad1,ad2,ad3,ad4,ne1,ne2,ne3,c1,c2',c3,x1,x2,x3,x4,neI,neW,JC7,JCl,JAf,ua7,un7,uc7,ub7,ux7,JCw,JCv,JBx,JCE,JHc,JLS,JK5,JCc,JHm,Nat.reduceBEq,Bool.or_false,Bool.or_self,Bool.false_and,Bool.false_or,Bool.or_true,Bool.true_or,Bool.true_and,Sl.isOwn,Bool.and_false,Bool.and_true,JAR,no7,Bool.not_true,Bool.not_false,Nat.reduceEqDiff,Sl.frz]
theorem turn7 (ns:List Int) {C:Cn} {ms:List Mk} (fn:C.fn=run x tabA gloA sub (n+4)) (fg:C.glo=gloA) (g:Good ms) {κ:Int} (k0:0<=κ) (k1:κ<5)
  (z1 y3 y4 y5 y6 y7 y8 y9 y10 y11 y12:Sl) (h1:z1=.own (.list (ms.map Mk.d))\/z1=.val (.list (ms.map Mk.d))) :
  ∃z3 z4 z5 z6 z7 z8 z9 z10 z11 z12:Sl,exec C JC1 [.val (sc ns),z1,.val (.int κ),y3,y4,y5,y6,y7,y8,y9,y10,y11,y12,.no]
    = .nx [.val (sc ns),.val (.list (ms.map Mk.d)),.val (.int κ),z3,z4,z5,z6,z7,z8,z9,z10,z11,z12,.no]:=by
 obtain ⟨u0,a0,b0,t0⟩:=JMd ns fn fg k0 k1 (j:=0) (by omega) (by omega) [] (by simp) z1 y5 y6 y7 y8 y9 y10 y11 y12 .no
 obtain ⟨u1,a1,b1,t1⟩:=JMd ns fn fg k0 k1 (j:=1) (by omega) (by omega) [tu u0] (by simp) z1 (.val (.int u0)) y6 y7 y8 y9 y10 y11 y12 .no
 obtain ⟨u2,a2,b2,t2⟩:=JMd ns fn fg k0 k1 (j:=2) (by omega) (by omega) [tu u0,tu u1] (by simp) z1 (.val (.int u1)) y6 y7 y8 y9 y10 y11 y12 .no
 simp only [List.nil_append,List.cons_append] at t0 t1 t2
 obtain ⟨a,b,c,ma,mb,mc,hab,hbc,hs⟩:=srt3 u0 u1 u2
 have bd:∀u∈[u0,u1,u2], -1<=u/\u<=17:=fun u hu=>by
  simp only [q_n,List.not_mem_nil,or_false] at hu
  rcases hu with rfl | rfl | rfl
  · exact ⟨a0,b0⟩
  · exact ⟨a1,b1⟩
  · exact ⟨a2,b2⟩
 obtain ⟨z3,z6,z7,z8,z9,z10,z11,z12,hr⟩:=turnB ns fn fg g hab hbc (bd a ma).1 (bd c mc).2 (.int κ) [tu u0,tu u1,tu u2] rfl hs z1 (.val (.int 2)) (.val (.int u2)) y6 y7 y8 y9 y10 y11 y12 .no h1
 have lp:for2 C 4 JKE [.int 0,.int 1,.int 2] [.val (sc ns),z1,.val (.int κ),.own (.list []),y4,y5,y6,y7,y8,y9,y10,y11,y12,.no]=.nx [.val (sc ns),z1,.val (.int κ),.own (.list [tu u0,tu u1,tu u2]),.val (.int 2),.val (.int u2),y6,y7,y8,y9,y10,y11,y12,.no]:=by
  rw [JBF]
  simp only [List.set_cons_succ,List.set_cons_zero]
  rw [t0,JCk,JBF]
  simp only [List.set_cons_succ,List.set_cons_zero]
  rw [t1,JCk,JBF]
  simp only [List.set_cons_succ,List.set_cons_zero]
  rw [t2,JCk,JMt]
 refine ⟨z3,.val (.int 2),.val (.int u2),z6,z7,z8,z9,z10,z11,z12,?_⟩
 have rg:rngD [.int 3]=.ok [.int 0,.int 1,.int 2]:=rfl
 simp only [JKE,JC1,JBJ] at lp
 simp only [JJ4,JC1,JBJ] at hr
 generalize ms.map Mk.d=ds at *
 generalize tu u0=v0 at *
 generalize tu u1=v1 at *
 generalize tu u2=v2 at *
 generalize [PyData.int 0,PyData.int 1,PyData.int 2]=js at *
 dsimp?! [JC1,JBJ,fn,fg,rg,↓lp,↓hr,JC7,JCl,JAf,ur7,JKl,JCv,JBx,JCc,Nat.reduceAdd,Nat.reduceBEq,Bool.or_false,Bool.or_self,Bool.false_and,Bool.false_or]
noncomputable def JJH:S:=match JBJ with
 | .cons _ (.cons _ (.cons _ r))=>r
 | _=>.nil
theorem fm1:PyData.tuple [.int (-1),.int 1]=F (Rat.divInt (-1) 1):=rfl
theorem fm9:PyData.tuple [.int 9,.int 1]=F (Rat.divInt 9 1):=rfl
theorem JHr {a:E} {j:Nat}:(E.neg a).uses j=a.uses j:=rfl
theorem restL (ns:List Int) {C:Cn} {ms:List Mk} (fn:C.fn=run x tabA gloA sub (n+4)) (fg:C.glo=gloA) (g:Good ms) (z1 y2 y3 y4 y5 y6 y7 y8 y9 y10 y11 y12:Sl) (h1:z1=.own (.list (ms.map Mk.d))\/z1=.val (.list (ms.map Mk.d))) :
  exec C JJH [.val (sc ns),z1,y2,y3,y4,y5,y6,y7,y8,y9,y10,y11,y12,.no]=.rt (.bool true):=by
 have zA:Z 10 (Rat.divInt (-1) 1):=⟨Sz.of (by decide) (by decide) (by decide)⟩
 have zB:Z 10 (Rat.divInt 9 1):=⟨Sz.of (by decide) (by decide) (by decide)⟩
 have eA:Rat.divInt (-1) 1=-1:=rfl
 have eB:Rat.divInt 9 1=9:=rfl
 have len:=g.len
 have bl:=JEX (ms:=ms)
 have r1:=JA6 (x:=x) (sub:=sub) (m:=n+4) (lo:=Rat.divInt (-1) 1) (hi:=Rat.divInt 9 1) g.mks (by omega) (by omega) (by omega) (by omega)
 have r2:=JA6 (x:=x) (sub:=sub) (m:=n+4) (lo:=Rat.divInt 9 1) (hi:=Rat.divInt (-1) 1) g.mks (by omega) (by omega) (by omega) (by omega)
 have lAB:Rat.divInt (-1) 1<=Rat.divInt 9 1:=by rw [eA,eB];grind
 have f1:fo (Rat.divInt (-1) 1) (Rat.divInt 9 1) (bt ms)=bt ms:=by
  unfold fo
  refine List.filter_eq_self.mpr fun m hm=>?_
  have mm:=g.pm.mem_iff.mp hm
  have h1:=g.lo m mm
  have h2:=g.hi m mm
  rw [eA,eB,decide_eq_true h1,q_o (by grind)]
  rfl
 have f2:bk (Rat.divInt (-1) 1) (Rat.divInt 9 1) (bt ms)=bt ms:=by
  unfold bk
  refine List.filter_eq_self.mpr fun m hm=>?_
  have mm:=g.pm.mem_iff.mp hm
  have h1:=g.lo m mm
  have h2:=g.hi m mm
  rw [eA,eB,decide_eq_true h2,q_o (by grind)]
  rfl
 rw [JBj lAB,f1] at r1
 rw [JCs lAB,f2] at r2
 have c5:∀δ:Env,JCO C 2 (.var 1) (.cbl true) δ (.ok (ms.map Mk.d))=.ok (.list (ms.map Mk.l)):=fun δ=>by
  rw [JBY (by rw [q_g];omega),JAr (p:=fun _=>true) (g:=Mk.l) (fun m hm=>?_)]
  ·rw [List.filter_eq_self.mpr fun _ _=>rfl];rfl
  ·rw [JH5]
   generalize m.l=al at *
   dsimp?! [fn,fg]
 have ndM:=JMf g (l:=ms) (fun a ha=>ha) g.nd
 have lM:(lt ms).length<=5:=by unfold lt;rw [q_g];exact len
 have pM:(lt (bt ms)).Perm (lt ms):=g.pm.map _
 have x1:xD .srt [.list (ms.map Mk.l)]=.ok (.list ((JAX (lt ms)).map PyData.str)):=by rw [lt_l,JC6 lM]
 have x2:xD .srt [.list ((bt ms).map Mk.l)]=.ok (.list ((JAX (lt ms)).map PyData.str)):=by
  rw [lt_l,JC6 (by rw [pM.length_eq];exact lM),So.sort_perm pM ndM lM]
 have e1:=JKg (JFO ndM len)
 have e2:cmpD .Eq (.list ((bt ms).map Mk.l).reverse) (.list ((bt ms).reverse.map Mk.l))=.ok (.bool true):=by
  rw [<-List.map_reverse,lt_l];exact JKg (JIx _)
 have fa:=fm1
 have fb:=fm9
 generalize (JAX (lt ms)).map PyData.str=s1 at *
 generalize (bt ms).reverse.map Mk.l=v1 at *
 generalize (bt ms).map Mk.l=v2 at *
 generalize ms.map Mk.l=v3 at *
 generalize ms.map Mk.d=ds at *
 generalize F (Rat.divInt (-1) 1)=Fa at *
 generalize F (Rat.divInt 9 1)=Fb at *
 rcases h1 with rfl | rfl
 ·dsimp?! [JJH,JBJ,fn,fg,fa,fb,r1,r2,itM,JLT,c5,x1,x2,e1,e2,JC7,JCl,JAf,JHr,JLA,JCw,JCv,JBx,JCE,JCc,Nat.reduceAdd,Nat.reduceBEq,Bool.or_false,Bool.or_self,Bool.false_and,Bool.false_or,Bool.or_true,Bool.true_or,Bool.true_and,Sl.isOwn,Bool.and_false,Bool.and_true,JAR,Bool.not_true,Bool.not_false,Sl.frz,Int.reduceNeg]
 ·dsimp?! [JJH,JBJ,fn,fg,fa,fb,r1,r2,itM,JLT,c5,x1,x2,e1,e2,JC7,JCl,JAf,JHr,JLA,JCw,JCv,JBx,JCE,JCc,Nat.reduceAdd,Nat.reduceBEq,Bool.or_false,Bool.or_self,Bool.false_and,Bool.false_or,Bool.or_true,Bool.true_or,Bool.true_and,Sl.isOwn,Bool.and_false,Bool.and_true,JAR,Bool.not_true,Bool.not_false,Sl.frz,Int.reduceNeg]
theorem JKI (ns:List Int):run true tabA gloA sub (n+5) 227 [sc ns]=.ok (.bool true):=by
 rw [JAD (n:=n+4) (show tabA 227=some JJc from rfl),JAE rfl]
 obtain ⟨C,hC⟩:∃C:Cn,C=⟨run true tabA gloA sub (n+4),gloA,sub⟩:=⟨_,rfl⟩
 have fn:C.fn=run true tabA gloA sub (n+4):=by rw [hC]
 have fg:C.glo=gloA:=by rw [hC]
 rw [<-hC]
 obtain ⟨p,p0,p1,hp⟩:=JHa (x:=true) (sub:=sub) (m:=n+4) ns 0 6 (by omega) (by omega) (by omega) (by omega)
 obtain ⟨N,rfl⟩:=Int.eq_ofNat_of_zero_le p0
 obtain ⟨ms,y2,v2,g,lpA⟩:=JK6 ns fn fg N [] .no rfl ⟨fun j m h=>(by simp at h),by simp,fun a h=>(by cases h),fun a h=>(by cases h),fun a h=>(by cases h)⟩ (by simp only [List.length_nil];omega)
 simp only [List.length_nil,List.map_nil] at lpA
 have rg:=rng70 N (by omega)
 have rg5:rngD [.int 5]=.ok ((([0,1,2,3,4]:List Int)).map PyData.int):=rfl
 obtain ⟨δ',lpB,is,z1,y2',y3,y4,y5,y6,y7,y8,y9,y10,y11,y12,ei,hi,hz,eδ⟩:=JFz (C:=C) (i:=2) (b:=JC1)
  (Inv:=fun ds δ=>∃(is:List Int) (z1 y2 y3 y4 y5 y6 y7 y8 y9 y10 y11 y12:Sl),ds=is.map PyData.int/\(∀κ∈is,0<=κ/\κ<5)/\(z1=.own (.list (ms.map Mk.d))\/z1=.val (.list (ms.map Mk.d)))/\δ=[.val (sc ns),z1,y2,y3,y4,y5,y6,y7,y8,y9,y10,y11,y12,.no])
  (fun d ds δ ⟨is,z1,y2,y3,y4,y5,y6,y7,y8,y9,y10,y11,y12,ed,hk,hz,e⟩=>by
    subst e
    cases is with
    | nil=>cases ed
    | cons κ is =>
     simp only [List.map_cons,List.cons.injEq] at ed
     obtain ⟨rfl,rfl⟩:=ed
     obtain ⟨k0,k1⟩:=hk κ (by simp)
     obtain ⟨w3,w4,w5,w6,w7,w8,w9,w10,w11,w12,hw⟩:=turn7 ns fn fg g k0 k1 z1 y3 y4 y5 y6 y7 y8 y9 y10 y11 y12 hz
     exact ⟨_,.inl hw,is,_,.val (.int κ),w3,w4,w5,w6,w7,w8,w9,w10,w11,w12,rfl,fun κ' h=>hk κ' (by simp [h]),.inr rfl,rfl⟩)
  (ds:=(([0,1,2,3,4]:List Int)).map PyData.int) (δ:=[.val (sc ns),.own (.list (ms.map Mk.d)),y2,.no,.no,.no,.no,.no,.no,.no,.no,.no,.no,.no])
  ⟨_,_,y2,.no,.no,.no,.no,.no,.no,.no,.no,.no,.no,rfl,by decide,.inl rfl,rfl⟩
 subst eδ
 have hr:=restL ns fn fg g z1 y2' y3 y4 y5 y6 y7 y8 y9 y10 y11 y12 hz
 simp only [JJ8,JBJ] at lpA
 simp only [JC1,JBJ] at lpB
 simp only [JJH,JBJ] at hr
 clear hz
 generalize (List.range' 0 N).map (fun j:Nat=>PyData.int j)=js at *
 generalize (([0,1,2,3,4]:List Int)).map PyData.int=ks at *
 generalize ms.map Mk.d=ds at *
 dsimp?! [JJc,JBJ,fn,fg,hp,rg,rg5,↓lpA,↓lpB,↓hr,JBO,JBd,JB6,JAf,frz70 v2,JC7,ur7,JKl,JCw,JCv,JBx,JCE,JCc,Nat.reduceAdd,Nat.reduceBEq,Bool.or_false,Bool.or_self,Bool.false_and,Bool.false_or,Bool.true_or,Bool.true_and,Sl.isOwn,Bool.and_false,Sl.frz]
end
end VI.VP
end
section
namespace VH
open PySem PySem.W
noncomputable def rP:Pos:=⟨0,0,0,0⟩
noncomputable def dName:Stmt->Str
 | .FunctionDef n _ _ _ _ _ _ _ _ _=>n
 | _=>"?"
noncomputable def dArgs:Stmt->Arguments
 | .FunctionDef _ a _ _ _ _ _ _ _ _=>a
 | _=>⟨[],[],none,[],[],none,[]⟩
noncomputable def JPx:Stmt->List Stmt
 | .FunctionDef _ _ b _ _ _ _ _ _ _=>b
 | _=>[]
noncomputable def JKn:Stmt->Scope
 | .FunctionDef _ _ _ _ _ _ s _ _ _=>s
 | _=>default
noncomputable def tO (xs:List Value):Obj:=⟨.type "tuple",none,.seq xs.toArray 0,#[]⟩
noncomputable def fO (xs:List Value):Obj:=⟨.none,none,.fields xs.toArray,#[]⟩
noncomputable def sqs:Nat->List Str->List Value
 | _,[]=>[]
 | t,x::r=>.str x t::sqs (t+1) r
noncomputable def f1 (st:Stmt):Obj:=⟨.none,none,.func { name:=dName st,qualname:=dName st,params:=dArgs st,body:=.stmts (JPx st),scope:=JKn st,globals:=0,closure:=[],defaults:=.none,kwdefaults:=.none },#[]⟩
noncomputable def f2 (st:Stmt) (pm:Value) (cd:Addr):Obj:=⟨.type "function",none,.func { name:=dName st,qualname:=dName st,params:=dArgs st,body:=.stmts (JPx st),scope:=JKn st,globals:=mainNs,closure:=[],defaults:=.none,kwdefaults:=.none,pyModule:=pm,code:=.ref cd },#[]⟩
noncomputable def cO (x:Str) (t l k loc a:Nat) (b:Bool) (u t2:Nat):Obj :=
 ⟨.type "code",none,.fields #[.str x t,.str x (t+1),.str "/claim/cut.py" (t+2),.int l 0,.int k 0,.int 0 0,.int 0 0,.int loc 0,.ref a,.bool b,.int 181 0,.ref (a+1),.none,.ref (a+2),.ref (a+3),.ref (a+4),.int t2 0,.int u 0,.str "/claim/cut.py" (t2+1)],#[]⟩
noncomputable def ent (P:Params) (x:Str) (t:Nat) (v:Value):DictEntry:=⟨PyData.keyHash P x,.str x t,v⟩
noncomputable def dO (es:List DictEntry) (n:Nat):Obj:=⟨.type "dict",none,.dict es.toArray n,#[]⟩
def alt:Bool->List Obj->List Obj
 | _,[]=>[]
 | true,o::r=>o::alt false r
 | false,_::r=>alt true r
def bt:Nat->List Obj->BT
 | 0,_=>.nil
 | _,[]=>.nil
 | n+1,o::r=>.node o (bt n (alt true r)) (bt n (alt false r))
def put:Nat->Obj->List Obj->List Obj
 | _,_,[]=>[]
 | 0,o,_::r=>o::r
 | n+1,o,x::r=>x::put n o r
noncomputable def sT (l:List Obj) (n k:Nat) (os:OsState):SharedT:=⟨bt 12 l,n,{},#[],{},k,os⟩
noncomputable def sH (l:List Obj) (k:Nat) (os:OsState):Shared:=⟨⟨l.toArray,{}⟩,#[],{},k,os⟩
noncomputable def envOf (p:Program):PySem.Env:={ scope:=p.main.scope,locals:=mainNs,globals:=mainNs,cells:=[],code:=.ref 13,frame:=some 14 }
noncomputable def cdOf (p:Program):Code:=.body (behindTheImports p) (envOf p)
end VH
end
section
set_option Elab.async false
set_option maxRecDepth 100000
set_option maxHeartbeats 0
namespace V71
open PySem PySem.W VH L2 VI VI.VP
noncomputable abbrev prog:Program:=PySem.Challenge.pw_glideways_k71_whole_ways_passed
noncomputable def top (i:Nat):Stmt:=prog.main.body.getD i (.Pass ⟨0,0,0,0⟩)
noncomputable def mainE (P:Params):List DictEntry:=[ent P "__name__" 165 (.str "law_glideways_k71_whole_ways_passed" 240),ent P "__doc__" 166 (.none),ent P "__package__" 167 (.none),ent P "__loader__" 168 (.builtin "__main__.__loader__#opaque"),ent P "__spec__" 169 (.none),ent P "__annotations__" 170 (.ref 6),ent P "__builtins__" 171 (.ref 4),ent P "__file__" 173 (.str "/claim/cut.py" 172),ent P "__cached__" 174 (.none),ent P "is_less" 196 (.ref 21),ent P "TIME" 200 (.int 0 199),ent P "LABEL" 202 (.int 1 201),ent P "marks_till" 208 (.ref 26),ent P "by_times" 217 (.ref 33),ent P "labels_forth" 223 (.ref 38),ent P "labels_back" 229 (.ref 43),ent P "passed" 239 (.ref 50),ent P "_law_cell" 249 (.ref 57),ent P "_law_pick" 259 (.ref 64),ent P "_law_divisor" 267 (.ref 71),ent P "_law_made" 276 (.ref 78),ent P "_law_frac" 285 (.ref 85),ent P "_law_size" 294 (.ref 92),ent P "_law_plus" 302 (.ref 99),ent P "_law_minus" 310 (.ref 106),ent P "_law_times" 318 (.ref 113),ent P "_law_over" 326 (.ref 120),ent P "_law_less" 334 (.ref 127),ent P "law" 340 (.ref 132)]
noncomputable def mainN:Value:=.str "law_glideways_k71_whole_ways_passed" 240
noncomputable def JNU (P:Params) (m k:Nat) (v:Value):Obj:=dO (ent P "__name__" 165 v::((mainE P).take m).drop 1) k
noncomputable def twelve:List Value:=[.int 2 0,.int 0 0,.ref 20,.int 7 0,.int 0 0,.ref 25,.int 9 0,.int 0 0,.ref 32,.int 14 0,.int 0 0,.ref 37,.int 16 0,.int 0 0,.ref 42,.int 18 0,.int 0 0,.ref 49,.int 24 0,.int 0 0,.ref 56,.int 30 0,.int 0 0,.ref 63,.int 33 0,.int 0 0,.ref 70,.int 37 0,.int 0 0,.ref 77,.int 40 0,.int 0 0,.ref 84,.int 43 0,.int 0 0,.ref 91,.int 46 0,.int 0 0,.ref 98,.int 48 0,.int 0 0,.ref 105,.int 50 0,.int 0 0,.ref 112,.int 52 0,.int 0 0,.ref 119,.int 54 0,.int 0 0,.ref 126,.int 56 0,.int 0 0,.ref 131]
noncomputable def ob (P:Params):List Obj:=[
 boot_o_0 P,
 boot_o_1 P,
 boot_o_2 P,
 JNU P 29 29 mainN,
 boot_o_4 P,
 boot_o_5 P,
 boot_o_6 P,
 boot_o_7 P,
 boot_o_8 P,
 boot_o_9 P,
 boot_o_10 P,
 tO [],
 fO twelve,
 ⟨.type "code",none,.fields #[.str "<module>" 182,.str "<module>" 183,.str "/claim/cut.py" 184,.int 1 0,.int 0 0,.int 0 0,.int 0 0,.int 0 0,.ref 11,.bool false,.int 181 0,.ref 12,.none,.none,.none,.none,.int 185 0,.int 1 0,.str "/claim/cut.py" 186],#[]⟩,
 ⟨.type "frame",none,.plain,#[some (.ref 13),some (.ref 3),some (.ref 3),none,some (.str "__main__" 164),none,some (.ref 0)]⟩,
 tO [],
 fO [],
 tO (sqs 192 ["one","other"]),
 tO [],
 f1 (top 1),
 cO "is_less" 189 2 2 3 15 true 2 194,
 f2 (top 1) (.str "glideways.fracs" 187) 20,
 tO [],
 fO [],
 f1 (top 5),
 ⟨.type "code",none,.fields #[.str "marks_till" 203,.str "marks_till" 204,.str "/claim/cut.py" 205,.int 7 0,.int 2 0,.int 0 0,.int 0 0,.int 3 0,.ref 22,.bool true,.int 181 0,.ref 23,.none,.none,.none,.ref 24,.int 206 0,.int 7 0,.str "/claim/cut.py" 207],#[]⟩,
 f2 (top 5) (.str "glideways.marks" 197) 25,
 tO [],
 fO [],
 tO (sqs 212 ["marks","risen","mark"]),
 tO [],
 f1 (top 6),
 cO "by_times" 209 9 1 3 27 true 9 215,
 f2 (top 6) (.str "glideways.marks" 197) 32,
 tO [],
 fO [],
 f1 (top 7),
 ⟨.type "code",none,.fields #[.str "labels_forth" 218,.str "labels_forth" 219,.str "/claim/cut.py" 220,.int 14 0,.int 3 0,.int 0 0,.int 0 0,.int 3 0,.ref 34,.bool true,.int 181 0,.ref 35,.none,.none,.none,.ref 36,.int 221 0,.int 14 0,.str "/claim/cut.py" 222],#[]⟩,
 f2 (top 7) (.str "glideways.marks" 197) 37,
 tO [],
 fO [],
 f1 (top 8),
 ⟨.type "code",none,.fields #[.str "labels_back" 224,.str "labels_back" 225,.str "/claim/cut.py" 226,.int 16 0,.int 3 0,.int 0 0,.int 0 0,.int 3 0,.ref 39,.bool true,.int 181 0,.ref 40,.none,.none,.none,.ref 41,.int 227 0,.int 16 0,.str "/claim/cut.py" 228],#[]⟩,
 f2 (top 8) (.str "glideways.marks" 197) 42,
 tO [],
 fO [],
 tO (sqs 233 ["marks","start","goal","risen"]),
 tO [],
 f1 (top 9),
 cO "passed" 230 18 3 3 44 true 18 237,
 f2 (top 9) (.str "glideways.marks" 197) 49,
 tO [],
 fO [],
 tO (sqs 245 ["_law_script","_law_k"]),
 tO [],
 f1 (top 11),
 cO "_law_cell" 242 24 2 3 51 true 24 247,
 f2 (top 11) (.str "law_glideways_k71_whole_ways_passed" 240) 56,
 tO [],
 fO [],
 tO (sqs 253 ["_law_script","_law_k","_law_many","_law_drawn"]),
 tO [],
 f1 (top 12),
 cO "_law_pick" 250 30 3 3 58 true 30 257,
 f2 (top 12) (.str "law_glideways_k71_whole_ways_passed" 240) 63,
 tO [],
 fO [],
 tO (sqs 263 ["_law_one","_law_other"]),
 tO [],
 f1 (top 13),
 cO "_law_divisor" 260 33 2 3 65 true 33 265,
 f2 (top 13) (.str "law_glideways_k71_whole_ways_passed" 240) 70,
 tO [],
 fO [],
 tO (sqs 271 ["_law_up","_law_down","_law_size_here"]),
 tO [],
 f1 (top 14),
 cO "_law_made" 268 37 2 3 72 true 37 274,
 f2 (top 14) (.str "law_glideways_k71_whole_ways_passed" 240) 77,
 tO [],
 fO [],
 tO (sqs 280 ["_law_script","_law_at","_law_down"]),
 tO [],
 f1 (top 15),
 cO "_law_frac" 277 40 2 3 79 true 40 283,
 f2 (top 15) (.str "law_glideways_k71_whole_ways_passed" 240) 84,
 tO [],
 fO [],
 tO (sqs 289 ["_law_script","_law_at","_law_down"]),
 tO [],
 f1 (top 16),
 cO "_law_size" 286 43 2 3 86 true 43 292,
 f2 (top 16) (.str "law_glideways_k71_whole_ways_passed" 240) 91,
 tO [],
 fO [],
 tO (sqs 298 ["_law_one","_law_other"]),
 tO [],
 f1 (top 17),
 cO "_law_plus" 295 46 2 3 93 true 46 300,
 f2 (top 17) (.str "law_glideways_k71_whole_ways_passed" 240) 98,
 tO [],
 fO [],
 tO (sqs 306 ["_law_one","_law_other"]),
 tO [],
 f1 (top 18),
 cO "_law_minus" 303 48 2 3 100 true 48 308,
 f2 (top 18) (.str "law_glideways_k71_whole_ways_passed" 240) 105,
 tO [],
 fO [],
 tO (sqs 314 ["_law_one","_law_other"]),
 tO [],
 f1 (top 19),
 cO "_law_times" 311 50 2 3 107 true 50 316,
 f2 (top 19) (.str "law_glideways_k71_whole_ways_passed" 240) 112,
 tO [],
 fO [],
 tO (sqs 322 ["_law_one","_law_other"]),
 tO [],
 f1 (top 20),
 cO "_law_over" 319 52 2 3 114 true 52 324,
 f2 (top 20) (.str "law_glideways_k71_whole_ways_passed" 240) 119,
 tO [],
 fO [],
 tO (sqs 330 ["_law_one","_law_other"]),
 tO [],
 f1 (top 21),
 cO "_law_less" 327 54 2 3 121 true 54 332,
 f2 (top 21) (.str "law_glideways_k71_whole_ways_passed" 240) 126,
 tO [],
 fO [],
 f1 (top 22),
 ⟨.type "code",none,.fields #[.str "law" 335,.str "law" 336,.str "/claim/cut.py" 337,.int 56 0,.int 1 0,.int 0 0,.int 0 0,.int 3 0,.ref 128,.bool true,.int 181 0,.ref 129,.none,.none,.none,.ref 130,.int 338 0,.int 56 0,.str "/claim/cut.py" 339],#[]⟩,
 f2 (top 22) (.str "law_glideways_k71_whole_ways_passed" 240) 131]
noncomputable def l0 (P:Params):List Obj:=put 12 (fO (twelve.take 0)) (put 3 (JNU P 9 9 (.str "__main__" 164)) ((ob P).take 15))
noncomputable def l1 (P:Params):List Obj:=put 12 (fO (twelve.take 36)) (put 3 (JNU P 23 23 (.str "law_glideways_k71_whole_ways_passed" 240)) ((ob P).take 93))
theorem p0:∀(w:World) (os:OsState),segRunT treeTable prog w 11 (some (.ref 6)) 1 402 (sT (l0 w.params) 15 187 os) (piecesOf ((prog.main.body.drop 0).take 17) (envOf prog) (cdOf prog) ⟨0,0,0,0⟩ [topFrame rP])=some (.next,sT (l1 w.params) 93 295 os,cdOf prog,⟨43,0,45,87⟩):=fun w os=>by kernel_rfl
noncomputable def l2 (P:Params):List Obj:=ob P
theorem p1:∀(w:World) (os:OsState),segRunT treeTable prog w 11 (some (.ref 6)) 1 177 (sT (l1 w.params) 93 295 os) (piecesOf ((prog.main.body.drop 17).take 6) (envOf prog) (cdOf prog) ⟨43,0,45,87⟩ [topFrame rP])=some (.next,sT (l2 w.params) 133 341 os,cdOf prog,⟨56,0,81,153⟩):=fun w os=>by kernel_rfl
theorem pre (w:World) (os:OsState):topGo treeTable prog w 11 (some (.ref 6)) 12 ⟨boot_heap w.params,Array.mk [],boot_drawn,boot_toks,os⟩ (topStub prog)=some (sH (l0 w.params) 187 os,⟨denote treeTable (cdOf prog),cdOf prog,⟨0,0,0,0⟩,[topFrame rP]⟩):=by kernel_rfl
theorem blk (w:World) (os:OsState):segRun treeTable prog w 11 (some (.ref 6)) 1 1 (sH (l0 w.params) 187 os) (blockOf (behindTheImports prog) (envOf prog) (cdOf prog) ⟨0,0,0,0⟩ [topFrame rP])=some (.next,(sT (l0 w.params) 15 187 os).abs,cdOf prog,⟨0,0,0,0⟩):=by kernel_rfl
theorem fin (w:World) (os:OsState):topRun treeTable prog w 11 (some (.ref 6)) 2 (sT (l2 w.params) 133 341 os).abs ⟨doneF .next,cdOf prog,⟨56,0,81,153⟩,[topFrame rP]⟩=some (sH (l2 w.params) 341 os):=by kernel_rfl
theorem body:behindTheImports prog=(((prog.main.body.drop 0).take 17)++(((prog.main.body.drop 17).take 6)++[])):=by kernel_rfl
theorem rn (w:World) (os:OsState):topRun treeTable prog w 11 (some (.ref 6)) (12+(1+(402+(177+2)))) ⟨boot_heap w.params,Array.mk [],boot_drawn,boot_toks,os⟩ (topStub prog)=some (sH (l2 w.params) 341 os) :=
 go_top (pre w os) (piece_block (blk w os) (body▸(piece_app (segRun_of (p0 w os)) (piece_app (segRun_of (p1 w os)) (piece_nil (fin w os))))))
noncomputable def ktok:Nat:=341
noncomputable def view:Program:={ prog with main:={ prog.main with body:=[top 22] } }
noncomputable def loose:List Str:=(["is_less","TIME","LABEL","marks_till","by_times","labels_forth","labels_back","passed","_law_cell","_law_pick","_law_divisor","_law_made","_law_frac","_law_size","_law_plus","_law_minus","_law_times","_law_over","_law_less"]:List String).map Str.ofString
noncomputable def K (P:Params):Frag:=(List.range 133).zip (ob P)
noncomputable def hk:Hook:=kHook K (List.range 133) (fun _=>by kernel_rfl)
theorem left:LeftO prog view loose (fun s=>xlAt view [] s&&recOk (RowW.records PySem.Challenge.rw_glideways_k71_whole_ways_passed.row.toRowW) s) hk.obs hk.val 1880 true :=
 LeftO.of_pieces (H₀:=boot_heap) (H₁:=fun P=>⟨(l2 P).toArray,{}⟩) (gs₀:=Array.mk []) (gs₁:=#[]) (d₀:=boot_drawn) (d₁:={}) (k₀:=boot_toks) (k₁:=ktok) (m₀:=11) (ann:=some (.ref 6))
  (boot_open (by kernel_rfl) (by decide) (fun s=>by kernel_rfl)) (fun w=>by kernel_rfl) (fun w os=>rn w os) (by decide +kernel) (fun w=>by kernel_rfl)
noncomputable def G:List (Str×GK):=[(("is_less":Str),GK.fn 6),(("marks_till":Str),GK.fn 218),(("by_times":Str),GK.fn 219),(("labels_forth":Str),GK.fn 220),(("labels_back":Str),GK.fn 221),(("passed":Str),GK.fn 222),(("_law_cell":Str),GK.fn 11),(("_law_pick":Str),GK.fn 12),(("_law_divisor":Str),GK.fn 13),(("_law_made":Str),GK.fn 14),(("_law_less":Str),GK.fn 21),(("law":Str),GK.fn 227),(("TIME":Str),GK.con 128),(("LABEL":Str),GK.con 226),(("len":Str),GK.blt Blt.len),(("abs":Str),GK.blt Blt.abs),(("range":Str),GK.rng),(("reversed":Str),GK.nam),(("sorted":Str),GK.nam),(("set":Str),GK.nam),(("list":Str),GK.ty Ty.list),((".rev":Str),GK.opt),((".srt":Str),GK.opt),((".sst":Str),GK.opt)]
noncomputable abbrev tab:Nat->Option Fd:=tabA
noncomputable abbrev glo:Nat->R D:=gloA
theorem JIJ:∀i c,glo i≠.exc c:=by
 intro i c h
 unfold glo gloA at h
 split at h<;>cases h
noncomputable def rs:List (Nat×List Nat):=[]
noncomputable def cl (k:Nat):Addr:=match k with  | _=>0
local macro_rules | `(tactic| and_intros)=>`(tactic| exact ⟨by kernel_rfl,⟨rfl,rfl,rfl,by decide +kernel,rfl,by decide +kernel,by decide +kernel⟩,rfl,rfl⟩)
theorem fI {K:PySem.W.Frag} {x:Str} {st:Stmt} (f c:Addr) (pm:Value) (a:PySem.W.nsIn K mainGlobals x=some (some (.ref f)):=by kernel_rfl) (l:K.lookup f=some ⟨.type "function",none,.func (PySem.W.fnOf x x (JA9 st) (JAx st) (JAU st) .none .none .none pm none (.ref c) .none),#[]⟩:=by kernel_rfl) (d:PySem.W.codeIn K (.ref c) x=true:=by kernel_rfl) (k:PySem.W.keepIn K (.ref f)=true:=by kernel_rfl):FnIn K x st:=fn_in a l d k
noncomputable abbrev s_6:Stmt:=top 1
theorem t_6:Turned G s_6 ["one","other"] ["one","other"] d_6:=by and_intros
theorem b_6:JBD "is_less" s_6 ["one","other"]:=bOk fun _ _ _ _ _ _ _ _=>rfl
theorem f_6 (P:Params):FnIn (K P) "is_less" s_6:=fI 21 20 (.str "glideways.fracs" 187)
noncomputable abbrev JNT:Stmt:=top 5
theorem t_218:Turned G JNT ["marks","time"] ["marks","time"] JJA:=by and_intros
theorem JIy:JBD "marks_till" JNT ["marks","time"]:=bOk fun _ _ _ _ _ _ _ _=>rfl
theorem f_218 (P:Params):FnIn (K P) "marks_till" JNT:=fI 26 25 (.str "glideways.marks" 197)
noncomputable abbrev JMg:Stmt:=top 6
theorem t_219:Turned G JMg ["marks","risen","mark"] ["marks"] JJL:=by and_intros
theorem JFV:JBD "by_times" JMg ["marks"]:=bOk fun _ _ _ _ _ _ _=>rfl
theorem f_219 (P:Params):FnIn (K P) "by_times" JMg:=fI 33 32 (.str "glideways.marks" 197)
noncomputable abbrev JLx:Stmt:=top 7
theorem t_220:Turned G JLx ["marks","low","high"] ["marks","low","high"] JI8:=by and_intros
theorem JKB:JBD "labels_forth" JLx ["marks","low","high"]:=bOk fun _ _ _ _ _ _ _ _ _=>rfl
theorem f_220 (P:Params):FnIn (K P) "labels_forth" JLx:=fI 38 37 (.str "glideways.marks" 197)
noncomputable abbrev JMM:Stmt:=top 8
theorem t_221:Turned G JMM ["marks","low","high"] ["marks","low","high"] JKH:=by and_intros
theorem JJX:JBD "labels_back" JMM ["marks","low","high"]:=bOk fun _ _ _ _ _ _ _ _ _=>rfl
theorem f_221 (P:Params):FnIn (K P) "labels_back" JMM:=fI 43 42 (.str "glideways.marks" 197)
noncomputable abbrev JMG:Stmt:=top 9
theorem t_222:Turned G JMG ["marks","start","goal","risen"] ["marks","start","goal"] JHS:=by and_intros
theorem JIr:JBD "passed" JMG ["marks","start","goal"]:=bOk fun _ _ _ _ _ _ _ _ _=>rfl
theorem f_222 (P:Params):FnIn (K P) "passed" JMG:=fI 50 49 (.str "glideways.marks" 197)
noncomputable abbrev s_11:Stmt:=top 11
theorem t_11:Turned G s_11 ["_law_script","_law_k"] ["_law_script","_law_k"] d_11:=by and_intros
theorem b_11:JBD "_law_cell" s_11 ["_law_script","_law_k"]:=bOk fun _ _ _ _ _ _ _ _=>rfl
theorem f_11 (P:Params):FnIn (K P) "_law_cell" s_11:=fI 57 56 (.str "law_glideways_k71_whole_ways_passed" 240)
noncomputable abbrev s_12:Stmt:=top 12
theorem t_12:Turned G s_12 ["_law_script","_law_k","_law_many","_law_drawn"] ["_law_script","_law_k","_law_many"] d_12:=by and_intros
theorem b_12:JBD "_law_pick" s_12 ["_law_script","_law_k","_law_many"]:=bOk fun _ _ _ _ _ _ _ _ _=>rfl
theorem f_12 (P:Params):FnIn (K P) "_law_pick" s_12:=fI 64 63 (.str "law_glideways_k71_whole_ways_passed" 240)
noncomputable abbrev s_13:Stmt:=top 13
theorem t_13:Turned G s_13 ["_law_one","_law_other"] ["_law_one","_law_other"] d_13:=by and_intros
theorem b_13:JBD "_law_divisor" s_13 ["_law_one","_law_other"]:=bOk fun _ _ _ _ _ _ _ _=>rfl
theorem f_13 (P:Params):FnIn (K P) "_law_divisor" s_13:=fI 71 70 (.str "law_glideways_k71_whole_ways_passed" 240)
noncomputable abbrev s_14:Stmt:=top 14
theorem t_14:Turned G s_14 ["_law_up","_law_down","_law_size_here"] ["_law_up","_law_down"] d_14:=by and_intros
theorem b_14:JBD "_law_made" s_14 ["_law_up","_law_down"]:=bOk fun _ _ _ _ _ _ _ _=>rfl
theorem f_14 (P:Params):FnIn (K P) "_law_made" s_14:=fI 78 77 (.str "law_glideways_k71_whole_ways_passed" 240)
noncomputable abbrev s_21:Stmt:=top 21
theorem t_21:Turned G s_21 ["_law_one","_law_other"] ["_law_one","_law_other"] d_21:=by and_intros
theorem b_21:JBD "_law_less" s_21 ["_law_one","_law_other"]:=bOk fun _ _ _ _ _ _ _ _=>rfl
theorem f_21 (P:Params):FnIn (K P) "_law_less" s_21:=fI 127 126 (.str "law_glideways_k71_whole_ways_passed" 240)
noncomputable abbrev JNO:Stmt:=top 22
theorem JQc:Turned G JNO ["_law_script","_law_marks","_law_k","_law_some","_law_j","_law_up","_law_first","_law_middle","_law_last","_law_forth","_law_back","_law_inside","_law_begin","_law_every"] ["_law_script"] JJc:=by and_intros
theorem JBJ:JBD "law" JNO ["_law_script"]:=bOk fun _ _ _ _ _ _ _=>rfl
theorem JPt (P:Params):FnIn (K P) "law" JNO:=fI 132 131 (.str "law_glideways_k71_whole_ways_passed" 240)
theorem JOM {w:World} {h:Heap} {mg:Str->Option Value} (X:(K w.params).In h) (Gm:h.Ns mainGlobals mg):∀d,glo 128=.ok d->∃u v,mg "TIME"=some u/\RelV v u/\∀H,Den ⟨K w.params,cl,w⟩ H d v:=JIP X Gm (by kernel_rfl) rfl
theorem JMx {w:World} {h:Heap} {mg:Str->Option Value} (X:(K w.params).In h) (Gm:h.Ns mainGlobals mg):∀d,glo 226=.ok d->∃u v,mg "LABEL"=some u/\RelV v u/\∀H,Den ⟨K w.params,cl,w⟩ H d v:=JIP X Gm (by kernel_rfl) rfl
theorem mo (w:World) {h:Heap} {mg:Str->Option Value} (X:(K w.params).In h) (Gm:h.Ns mainGlobals mg):AllP (MoP mg ⟨K w.params,cl,w⟩ G tab glo) G :=
 ⟨⟨_,rfl,(f_6 w.params).at X Gm b_6 t_6⟩,⟨_,rfl,(f_218 w.params).at X Gm JIy t_218⟩,⟨_,rfl,(f_219 w.params).at X Gm JFV t_219⟩,⟨_,rfl,(f_220 w.params).at X Gm JKB t_220⟩,⟨_,rfl,(f_221 w.params).at X Gm JJX t_221⟩,⟨_,rfl,(f_222 w.params).at X Gm JIr t_222⟩,⟨_,rfl,(f_11 w.params).at X Gm b_11 t_11⟩,⟨_,rfl,(f_12 w.params).at X Gm b_12 t_12⟩,⟨_,rfl,(f_13 w.params).at X Gm b_13 t_13⟩,⟨_,rfl,(f_14 w.params).at X Gm b_14 t_14⟩,⟨_,rfl,(f_21 w.params).at X Gm b_21 t_21⟩,⟨_,rfl,(JPt w.params).at X Gm JBJ JQc⟩,JOM X Gm,JMx X Gm,mg_none_of X Gm (by kernel_rfl),mg_none_of X Gm (by kernel_rfl),mg_none_of X Gm (by kernel_rfl),mg_none_of X Gm (by kernel_rfl),mg_none_of X Gm (by kernel_rfl),mg_none_of X Gm (by kernel_rfl),mg_none_of X Gm (by kernel_rfl),trivial,trivial,trivial,trivial⟩
theorem ra (w:World):AllR (RaP ⟨K w.params,cl,w⟩ G) rs :=
 trivial
theorem walk {d:DefRec} (hd:d.name="law") (hdf:d.params.defaults=[]):WalkO view loose (XL view []) hk.says PySem.Challenge.rw_glideways_k71_whole_ways_passed.row.toRowW d [] (fun f vs=>PySem.call f vs) :=
 L2.walk_of (l:=PySem.Challenge.rw_glideways_k71_whole_ways_passed) (n:=63) (k:=5) (x:="_law_script") (K:=K) (CX:=fun _=>CX0) (sp:=fun w=>JNX (K w.params)) rfl (by decide) hdf ⟨rfl,by decide,by decide⟩ (fun w h Y=>kIn_of Y)
  (by rw [hd];exact fun w mg fa h KX Gm hmg=>JQZ (cl:=cl) (tab:=tab) (glo:=glo) (sub:=JFH rs) KX Gm hmg (JPt w.params) JQc JBJ (by kernel_rfl) rfl (fun base kb nb=>mo_of (mo w kb nb) (ra w) JIJ) (fun n=>JMB (JOz (mo w KX Gm) (ra w)) (by kernel_rfl) (by kernel_rfl) (by kernel_rfl) (fun k z=>by cases k with | rev=>exact x_rev | enm=>exact x_no (by kernel_rfl) z | srt=>exact x_srt | zip=>exact x_no (by kernel_rfl) z | sst=>exact x_sst)) (fun _ _ _ _ _ _ _ _=>.of_eq rfl) (fun ns hl=>JKI (n:=0) ns))
  (fun _ _ a ns hl _ hS=>⟨a,ns,rfl,hl,hS,fun _=>rfl⟩) fun _ _ _ _ _ z=>z
end V71
open PySem PySem.W PyProof.Rows
set_option maxRecDepth 100000 in
set_option maxHeartbeats 0 in
theorem PySem.Challenge.cw_glideways_k71_whole_ways_passed_holds : PySem.Challenge.rw_glideways_k71_whole_ways_passed.Holds := by
 w_on
 refine holds_law V71.said fun said=>?_
 refine holds_open (q:=V71.view) (loose:=V71.loose) (XP:=XL V71.view []) (Yf:=V71.hk.obs) (Ya:=V71.hk.val) (YP:=V71.hk.says) V71.left V71.hk.of V71.hk.keeps (fun s e=>xl_of s (Bool.and_eq_true_iff.mp e).1) XL.keeps (by rfl) (by rfl) (by rfl) (fun s e=>recFacts_of (Bool.and_eq_true_iff.mp e).2) (by rfl) (by first | assumption | decide +kernel) (by decide +kernel) ⟨rfl,rfl,rfl,rfl,rfl,by decide +kernel⟩ ?hw (V71.walk rfl rfl)
 case hw=>w_witness2
end
