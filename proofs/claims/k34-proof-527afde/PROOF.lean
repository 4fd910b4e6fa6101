import PyProof.Rows.All
import Wide.All
import OpenK.AllK
import Wide.FinOn
import Lean
import PyProof.EqAt
import PyProof.EqKinds
import PyProof.TupleCall
import KE.KIsAll
import KE.KLam
import KE.KSortTup
import KE.KTryMore
import OpenK.KRaise
import PyProof.CompFree
import PyProof.ConsumeWalk
import PyProof.ExcAttrAll.ValueError
import PyProof.FactsAll.list_3
import PyProof.FactsAll.tuple_2
import PyProof.Fits
import PyProof.Lay0
import PyProof.P3Statements
import PySem.Eval
import PySem.Challenge.RW_glideways_k34_areas_refused
set_option Elab.async false
set_option compiler.extract_closed false
set_option bootstrap.genMatcherCode false
set_option maxRecDepth 100000 in set_option maxHeartbeats 0 in theorem V34.said:PySem.Challenge.rw_glideways_k34_areas_refused.wellSaid=true:=by kernel_rfl
set_option maxRecDepth 100000
set_option Elab.async false
set_option linter.all false
namespace L2
open PySem PySem.Spec PyProof.Rows
noncomputable abbrev Key:=Sum Int Str
noncomputable def JI1:Key→Value→Bool
 | .inl k,v=>Value.isInt k v
 | .inr x,v=>Value.isStrOf x v
noncomputable def keyH (w:World):Key→Int
 | .inl k=>hashInt k
 | .inr x=>hashStr w x
theorem JAd:∀ {k:Key} {v:Value},JI1 k v=true→(∃i t,k=Sum.inl i∧v=Value.int i t)∨(∃x t,k=Sum.inr x∧v=Value.str x t)
 | .inl i,v,h=>by
  obtain ⟨t,e⟩:=Value.isInt_shape (k:=i) (v:=v) h
  exact .inl ⟨i,t,rfl,e⟩
 | .inr x,v,h=>by
  obtain ⟨t,e⟩:=Value.isStrOf_shape (x:=x) (v:=v) h
  exact .inr ⟨x,t,rfl,e⟩
theorem JHX (x:Str) (t:Tok):JI1 (.inr x) (.str x t)=true:=by simp [JI1,Value.isStrOf]
theorem JOc (a b:Int):decide ((Sum.inl a:Key)=Sum.inl b)=(a==b):=by
 by_cases e:a=b
 ·subst e;simp
 ·have h:¬(Sum.inl a:Key)=Sum.inl b:=fun q=>e (Sum.inl.inj q)
  rw [decide_eq_false h]
  exact (beq_eq_false_iff_ne.mpr e).symm
theorem JN6 (a b:Str):decide ((Sum.inr a:Key)=Sum.inr b)=decide (a=b):=by
 by_cases e:a=b
 ·subst e;simp
 ·have h:¬(Sum.inr a:Key)=Sum.inr b:=fun q=>e (Sum.inr.inj q)
  rw [decide_eq_false h,decide_eq_false e]
theorem JNh (a:Int) (b:Str):decide ((Sum.inl a:Key)=Sum.inr b)=false:=decide_eq_false (fun q=>nomatch q)
theorem JN1 (a:Str) (b:Int):decide ((Sum.inr a:Key)=Sum.inl b)=false:=decide_eq_false (fun q=>nomatch q)
noncomputable def JBH (prog:Program) (w:World):PySem.KeyKind prog w Key where
 is:=JI1
 hash:=keyH w
 inj:=fun v a b ha hb=>by
  rcases JAd ha with ⟨i,t,rfl,rfl⟩ | ⟨x,t,rfl,rfl⟩
  ·rcases JAd hb with ⟨j,u,rfl,e⟩ | ⟨y,u,rfl,e⟩
   ·injection e with e1 _;rw [e1]
   ·exact nomatch e
  ·rcases JAd hb with ⟨j,u,rfl,e⟩ | ⟨y,u,rfl,e⟩
   ·exact nomatch e
   ·injection e with e1 _;rw [e1]
 byValue:=fun k v h=>by
  rcases JAd h with ⟨i,t,rfl,rfl⟩ | ⟨x,t,rfl,rfl⟩<;>rfl
 pyHash:=fun hv h=>by
  rcases JAd hv with ⟨i,t,rfl,rfl⟩ | ⟨x,t,rfl,rfl⟩
  ·exact wpAny_pyHash_int h
  ·exact wpAny_pyHash_str h
 eqBool:=fun hu hv h=>by
  rcases JAd hu with ⟨i,t,rfl,rfl⟩ | ⟨x,t,rfl,rfl⟩
  ·rcases JAd hv with ⟨j,u,rfl,rfl⟩ | ⟨y,u,rfl,rfl⟩
   ·rw [JOc] at h;exact wpAny_eqBool_int h
   ·rw [JNh] at h;exact SeqAt.EqAt.int_str i t y u _ _ _ _ h
  ·rcases JAd hv with ⟨j,u,rfl,rfl⟩ | ⟨y,u,rfl,rfl⟩
   ·rw [JN1] at h;exact SeqAt.EqAt.str_int x t j u _ _ _ _ h
   ·rw [JN6] at h;exact wpAny_eqBool_str h
 «strs»:=fun k x t v h=>by
  rcases JAd h with ⟨i,u,rfl,e⟩ | ⟨y,u,rfl,e⟩
  ·exact nomatch e
  ·injection e with e1 _
   subst e1
   cases v<;>rfl
theorem JCZ (prog:Program) (w:World) (x:Str) (t:Tok):(JBH prog w).is (.inr x) (.str x t)=true:=JHX x t
end L2
namespace L2
open PySem PySem.Spec PyProof.Rows
inductive V where
 | non | bl (b:Bool) | int (i:Int) | str (x:Str) | byt (b:Array UInt8) | flt (b:UInt64) | ref (a:Addr) | ty (n:String)
 deriving DecidableEq
noncomputable def RelV:V→Value→Prop
 | .non,u=>u=Value.none
 | .bl b,u=>u=Value.bool b
 | .int i,u=>∃t,u=Value.int i t
 | .str x,u=>∃t,u=Value.str x t
 | .byt b,u=>∃t,u=Value.bytes b t
 | .flt b,u=>∃t,u=Value.float b t
 | .ref a,u=>u=Value.ref a
 | .ty n,u=>u=Value.type n
noncomputable abbrev Vals:List V→List Value→Prop:=Paired RelV
theorem Vals.length {xs:List V} {us:List Value} (r:Vals xs us):xs.length=us.length:=Paired.length r
theorem Vals.get:∀ {xs:List V} {us:List Value} {i:Nat} {x:V},Vals xs us→xs[i]? = some x→∃u,us[i]? = some u∧RelV x u
 | _,_,_,_,.nil,e=>by simp at e
 | _,_,0,_,.cons r _,e=>by simp at e;subst e;exact ⟨_,rfl,r⟩
 | _,_,i+1,x,.cons _ t,e=>by
  obtain ⟨u,h1,h2⟩:=Vals.get (i:=i) (x:=x) t (by simpa using e)
  exact ⟨u,by simpa using h1,h2⟩
theorem Vals.append:∀ {xs ys:List V} {us ws:List Value},Vals xs us→Vals ys ws→Vals (xs++ys) (us++ws)
 | _,_,_,_,.nil,s=>s
 | _,_,_,_,.cons r t,s=>.cons r (Vals.append t s)
theorem Vals.take:∀ {xs:List V} {us:List Value} (n:Nat),Vals xs us→Vals (xs.take n) (us.take n)
 | _,_,0,_=>.nil
 | _,_,_+1,.nil=>.nil
 | _,_,n+1,.cons r t=>.cons r (Vals.take n t)
theorem Vals.drop:∀ {xs:List V} {us:List Value} (n:Nat),Vals xs us→Vals (xs.drop n) (us.drop n)
 | _,_,0,r=>r
 | _,_,_+1,.nil=>.nil
 | _,_,n+1,.cons _ t=>Vals.drop n t
noncomputable def RelO:Option V→Option Value→Prop
 | some v,some u=>RelV v u
 | none,none=>True
 | _,_=>False
noncomputable def KV {κ:Type}:List (κ×V)→List (κ×Value)→Prop:=Paired fun (p:κ×V) (q:κ×Value)=>p.1=q.1∧RelV p.2 q.2
noncomputable def kV:Key→V
 | .inl i=>.int i
 | .inr x=>.str x
inductive HO where
 | lst (xs:List V)
 | tup (xs:List V)
 | dK (kvs:List (Key×V)) | dT (kvs:List (List Key×V))
 | set (S:Int→Bool) (n:Nat)
 | ins (C dx:Addr) (fs:List (Str×V))
 | own (x:Addr)
 | xd (fs:List (Str×V))
 | met (f x:Addr)
 | rng (lo hi:Int)
 | frz (o:Obj) (u:HO)
 | tbl (ps:Array Value)
 | ext (φ:Heap→Prop)
noncomputable abbrev Hp:=Addr→Option HO
noncomputable def upd (H:Hp) (a:Addr) (o:HO):Hp:=fun b=>if b=a then some o else H b
theorem JAM {H:Hp} {a:Addr} {o:HO}:upd H a o a=some o:=by unfold upd;rw [if_pos rfl]
theorem JAL {H:Hp} {a b:Addr} {o:HO} (h:b≠a):upd H a o b=H b:=by unfold upd;rw [if_neg h]
theorem JAY {H:Hp} {a b:Addr} {o:HO} (h:H a=some o) (h':H b=none):a≠b:=by
 intro e;subst e;rw [h] at h';cases h'
section
variable (P:Program) (w:World)
noncomputable def ObjOk (H:Hp) (h:Heap) (a:Addr):HO→Prop
 | .lst xs=>xs.length≤sizeLine∧∃(its:List Value) (n:Nat),Vals xs its∧h.get? a=some { cls:=.type "list",data:=.seq its.toArray n }
 | .tup xs=>xs.length≤sizeLine∧∃its:List Value,Vals xs its∧IsTup h a its.toArray
 | .dK kvs=>kvs.length≤sizeLine∧(a==sysModules)=false∧∃vs,KV kvs vs∧h.DictOf (JBH P w) a vs
 | .dT kvs=>kvs.length≤sizeLine∧(a==sysModules)=false∧∃xs:List (List Key×Addr×Value),
  Paired (fun (p:List Key×V) (q:List Key×Addr×Value)=>p.1=q.1∧H q.2.1=some (.tup (p.1.map kV))∧RelV p.2 q.2.2) kvs xs ∧
  ∃o es ep,h.get? a=some o∧o.ExactDict∧o.data=.dict es ep∧es.toList=xs.map (entryOfKey (tupleKind (JBH P w)))∧(xs.map (·.1)).Nodup
 | .set S n=>h.SetOf (intKind P w) a S n
 | .ins C dx fs=>H dx=some (.own a)∧fs.length≤1000∧dx≠a∧h.get? a=some (PySem.W.instObj C dx) ∧
  ∃mA,h.Ns1 dx mA∧(∀f,RelO (fs.lookup f) (mA f))∧PySem.Within mA (fs.map (·.1))
 | .own _=>∃o,h.get? a=some o
 | .xd fs=>∃mA,h.Ns1 a mA∧∀f,RelO (fs.lookup f) (mA f)
 | .rng lo hi=>∃t u v,h.get? a=some { cls:=.type "range",data:=.fields #[.int lo t,.int hi u,.int 1 v] }
 | .frz o u=>h.get? a=some o∧ObjOk H h a u
 | .tbl ps=>h.get? a=some { cls:=.none,data:=.fields ps }
 | .met f x=>h.get? a=some (PySem.W.methodObj (.ref f) (.ref x))
 | .ext φ=>φ h∧(∃o,h.get? a=some o)∧∀h1 h2:Heap,φ h1→(∀o,h1.get? a=some o→h2.get? a=some o)→φ h2
noncomputable def HOk (H:Hp) (h:Heap):Prop:=∀a o,H a=some o→ObjOk P w H h a o
end
section
variable {P:Program} {w:World} {H H':Hp} {h h':Heap} {a:Addr} {o:HO}
theorem ObjOk.lt (x:ObjOk P w H h a o):a<h.objs.size:=by
 cases o with
 | lst xs=>obtain ⟨_,_,_,_,e⟩:=x;exact Heap.lt_size e
 | tup xs=>obtain ⟨_,_,_,p⟩:=x;exact p.lt
 | dK kvs=>obtain ⟨_,_,_,_,o,_,_,e,_⟩:=x;exact Heap.lt_size e
 | dT kvs=>obtain ⟨_,_,_,_,o,_,_,e,_⟩:=x;exact Heap.lt_size e
 | set S n=>obtain ⟨o,_,_,_,e,_⟩:=x;exact Heap.lt_size e
 | ins C dx fs=>obtain ⟨_,_,_,e,_⟩:=x;exact Heap.lt_size e
 | own y=>obtain ⟨_,e⟩:=x;exact Heap.lt_size e
 | xd fs=>obtain ⟨_,⟨_,_,_,e,_⟩,_⟩:=x;exact Heap.lt_size e
 | rng lo hi=>obtain ⟨_,_,_,e⟩:=x;exact Heap.lt_size e
 | frz ob u=>obtain ⟨e,_⟩:=x;exact Heap.lt_size e
 | tbl ps=>exact Heap.lt_size (show h.get? a=some _ from x)
 | met f y=>exact Heap.lt_size (show h.get? a=some _ from x)
 | ext φ=>obtain ⟨_,⟨_,e⟩,_⟩:=x;exact Heap.lt_size e
theorem Paired.mapP {α β:Type} {F G:α→β→Prop}:∀ {l₁:List α} {l₂:List β},Paired F l₁ l₂→(∀a b,F a b→G a b)→Paired G l₁ l₂
 | _,_,.nil,_=>.nil
 | _,_,.cons r t,f=>.cons (f _ _ r) (Paired.mapP t f)
theorem ObjOk.stay (x:ObjOk P w H h a o) (k:∀b u,(b=a∨H b=some (.own a))→h.get? b=some u→h'.get? b=some u)
  (ho:∀b,H b=some (.own a)→H' b=some (.own a)) (ht:∀b xs,H b=some (.tup xs)→H' b=some (.tup xs)):ObjOk P w H' h' a o:=by
 induction o with
 | lst xs=>obtain ⟨z,its,n,r,e⟩:=x;exact ⟨z,its,n,r,k _ _ (.inl rfl) e⟩
 | tup xs=>obtain ⟨z,its,r,ob,e,c⟩:=x;exact ⟨z,its,r,ob,k _ _ (.inl rfl) e,c⟩
 | dK kvs=>obtain ⟨z,y,vs,r,ob,es,ep,e,c⟩:=x;exact ⟨z,y,vs,r,ob,es,ep,k _ _ (.inl rfl) e,c⟩
 | dT kvs =>
  obtain ⟨z,y,xs,r,ob,es,ep,e,c⟩:=x
  exact ⟨z,y,xs,Paired.mapP r fun p q z=>⟨z.1,ht _ _ z.2.1,z.2.2⟩,ob,es,ep,k _ _ (.inl rfl) e,c⟩
 | set S n=>obtain ⟨ob,es,ep,t,e,c⟩:=x;exact ⟨ob,es,ep,t,k _ _ (.inl rfl) e,c⟩
 | ins C dx fs =>
  obtain ⟨d,z,ne,e,mA,⟨od,es,ep,e2,c⟩,r⟩:=x
  exact ⟨ho _ d,z,ne,k _ _ (.inl rfl) e,mA,⟨od,es,ep,k _ _ (.inr d) e2,c⟩,r⟩
 | own y=>obtain ⟨ob,e⟩:=x;exact ⟨ob,k _ _ (.inl rfl) e⟩
 | xd fs=>obtain ⟨mA,⟨od,es,ep,e,c⟩,r⟩:=x;exact ⟨mA,⟨od,es,ep,k _ _ (.inl rfl) e,c⟩,r⟩
 | rng lo hi=>obtain ⟨t,u,v,e⟩:=x;exact ⟨t,u,v,k _ _ (.inl rfl) e⟩
 | frz ob u ih=>obtain ⟨e,q⟩:=x;exact ⟨k _ _ (.inl rfl) e,ih q⟩
 | tbl ps =>
  have e:h.get? a=some { cls:=.none,data:=.fields ps }:=x
  show h'.get? a=some { cls:=.none,data:=.fields ps }
  exact k a _ (.inl rfl) e
 | met f y =>
  have e:h.get? a=some (PySem.W.methodObj (.ref f) (.ref y)):=x
  show h'.get? a=some (PySem.W.methodObj (.ref f) (.ref y))
  exact k a _ (.inl rfl) e
 | ext φ=>obtain ⟨p,⟨o,e⟩,st⟩:=x;exact ⟨st _ _ p fun o q=>k _ _ (.inl rfl) q,⟨o,k _ _ (.inl rfl) e⟩,st⟩
theorem HOk.lt (x:HOk P w H h) (e:H a=some o):a<h.objs.size:=(x a o e).lt
theorem HOk.fresh (x:HOk P w H h) (e:h.objs.size≤a):H a=none:=by
 cases q:H a with
 | none=>rfl
 | some u=>exact absurd (Nat.lt_of_lt_of_le (x.lt q) e) (Nat.lt_irrefl _)
theorem HOk.kept (x:HOk P w H h) (k:∀b u,h.get? b=some u→h'.get? b=some u):HOk P w H h':=fun a o e =>
 (x a o e).stay (fun b u _ q=>k b u q) (fun _ q=>q) fun _ _ q=>q
theorem HOk.laid (x:HOk P w H h) (k:∀b u,h.get? b=some u→h'.get? b=some u) (hp:h.objs.size≤a) (new:ObjOk P w (upd H a o) h' a o):HOk P w (upd H a o) h':=fun b u e=>by
 have hn:=x.fresh hp
 by_cases hb:b=a
 ·subst hb;rw [JAM] at e;cases e;exact new
 ·rw [JAL hb] at e
  exact (x b u e).stay (fun c v _ q=>k c v q) (fun c q=>by rw [JAL (JAY q hn)];exact q) fun c xs q=>by rw [JAL (JAY q hn)];exact q
end
noncomputable def Rd (H:Hp) (a:Addr) (u:HO):Prop:=H a=some u∨∃o,H a=some (.frz o u)
theorem Rd.of {H:Hp} {a:Addr} {u:HO} (h:H a=some u):Rd H a u:=.inl h
theorem Rd.ok {P:Program} {w:World} {H:Hp} {h:Heap} {a:Addr} {u:HO} (r:Rd H a u) (x:HOk P w H h):ObjOk P w H h a u:=by
 rcases r with r | ⟨o,r⟩
 ·exact x a u r
 ·obtain ⟨_,q⟩:=x a _ r
  exact q
noncomputable def Mut:Option HO→Prop
 | some (.lst _)=>True
 | some (.dK _)=>True
 | some (.dT _)=>True
 | some (.set _ _)=>True
 | some (.ins _ _ _)=>True
 | some (.ext _)=>True
 | _=>False
section
variable {P:Program} {w:World} {H:Hp} {h h':Heap} {x e:Addr} {o':HO}
theorem HOk.write (ok:HOk P w H h) (mu:Mut (H x)) (he:e=x∨H e=some (.own x)) (k:∀b u,b≠e→h.get? b=some u→h'.get? b=some u) (heo:∃u,h'.get? e=some u)
  (new:ObjOk P w (upd H x o') h' x o'):HOk P w (upd H x o') h':=fun b u q=>by
 have nown:∀c y,H c=some (.own y)→c≠x:=fun c y r z=>by subst z;rw [r] at mu;exact mu
 have ntup:∀c xs,H c=some (.tup xs)→c≠x:=fun c xs r z=>by subst z;rw [r] at mu;exact mu
 by_cases hb:b=x
 ·subst hb;rw [JAM] at q;cases q;exact new
 ·rw [JAL hb] at q
  by_cases hbe:b=e
  · have q':H b=some (.own x):=by
     rcases he with z | z
     ·exact absurd (hbe.trans z) hb
     ·rw [hbe];exact z
    rw [q] at q';cases q'
    obtain ⟨v,hv⟩:=heo
    exact ⟨v,by rw [hbe];exact hv⟩
  · refine (ok b u q).stay (fun c v hc r=>k c v ?_ r) (fun c r=>by rw [JAL (nown c b r)];exact r) fun c xs r=>by rw [JAL (ntup c xs r)];exact r
    rcases hc with rfl | hc
    ·exact hbe
    ·rintro rfl
     rcases he with z | z
     ·exact nown c b hc z
     ·rw [hc] at z;cases z;exact hb rfl
end
structure Un (fs ex:List Addr) (H H':Hp) (h h':Heap):Prop where
 keep:∀b o,h.get? b=some o→H b=none→b ∉ fs→b ∉ ex→h'.get? b=some o
 slot:∀b o,h.get? b=some o→H b=none→b∈fs→b ∉ ex→∃sl,h'.get? b=some { o with slots:=sl }
 free:∀b o,h.get? b=some o→H b=none→b ∉ ex→H' b=none
 there:∀b o,h.get? b=some o→b ∉ ex→∃o',h'.get? b=some o'
 tups:∀b xs,H b=some (.tup xs)→H' b=some (.tup xs)
 frzs:∀b o u,H b=some (.frz o u)→H' b=some (.frz o u)
 tbls:∀b ps,H b=some (.tbl ps)→∃more,H' b=some (.tbl (ps++more))
section
variable {fs fs' ex ex':List Addr} {H H1 H2:Hp} {h h1 h2 h':Heap} {a x e:Addr} {o:HO}
theorem Un.any (u:Un fs ex H H1 h h1) {b:Addr} {ob:Obj} (q:h.get? b=some ob) (n:H b=none) (hx:b ∉ ex):∃sl,h1.get? b=some { ob with slots:=sl }:=by
 by_cases hb:b∈fs
 ·exact u.slot b ob q n hb hx
 ·exact ⟨ob.slots,u.keep b ob q n hb hx⟩
theorem Un.trans (a:Un fs ex H H1 h h1) (b:Un fs ex H1 H2 h1 h2):Un fs ex H H2 h h2 where
 keep:=fun c ob q n hc hx=>b.keep c ob (a.keep c ob q n hc hx) (a.free c ob q n hx) hc hx
 slot:=fun c ob q n hc hx=>by
  obtain ⟨sl,e1⟩:=a.slot c ob q n hc hx
  obtain ⟨sl',e2⟩:=b.slot c _ e1 (a.free c ob q n hx) hc hx
  exact ⟨sl',e2⟩
 free:=fun c ob q n hx=>by
  obtain ⟨o',e1⟩:=a.there c ob q hx
  exact b.free c o' e1 (a.free c ob q n hx) hx
 there:=fun c ob q hx=>by
  obtain ⟨o',e1⟩:=a.there c ob q hx
  exact b.there c o' e1 hx
 tups:=fun c xs q=>b.tups c xs (a.tups c xs q)
 frzs:=fun c ob xs q=>b.frzs c ob xs (a.frzs c ob xs q)
 tbls:=fun c ps q=>by
  obtain ⟨m1,e1⟩:=a.tbls c ps q
  obtain ⟨m2,e2⟩:=b.tbls c _ e1
  exact ⟨m1++m2,by rw [e2,Array.append_assoc]⟩
theorem Un.kept (k:∀b u,h.get? b=some u→h'.get? b=some u):Un fs ex H H h h' :=
 ⟨fun b ob q _ _ _=>k b ob q,fun b ob q _ _ _=>⟨ob.slots,k b ob q⟩,fun _ _ _ n _=>n,fun b ob q _=>⟨ob,k b ob q⟩,fun _ _ q=>q,fun _ _ _ q=>q,fun _ ps q=>⟨#[],by rw [q];simp⟩⟩
theorem Un.refl:Un fs ex H H h h:=Un.kept fun _ _ q=>q
theorem Un.laid (k:∀b u,h.get? b=some u→h'.get? b=some u) (hp:h.objs.size≤a) (hn:H a=none):Un fs ex H (upd H a o) h h' where
 keep:=fun b u q _ _ _=>k b u q
 slot:=fun b u q _ _ _=>⟨u.slots,k b u q⟩
 free:=fun b u q n _=>by rw [JAL (Nat.ne_of_lt (Nat.lt_of_lt_of_le (Heap.lt_size q) hp))];exact n
 there:=fun b u q _=>⟨u,k b u q⟩
 tups:=fun b xs q=>by rw [JAL (JAY q hn)];exact q
 frzs:=fun b u xs q=>by rw [JAL (JAY q hn)];exact q
 tbls:=fun b ps q=>⟨#[],by rw [JAL (JAY q hn),q];simp⟩
theorem Un.write (mu:Mut (H x)) (he:e=x∨H e=some (.own x)) (k:∀b u,b≠e→h.get? b=some u→h'.get? b=some u) (heo:∃u,h'.get? e=some u):Un fs ex H (upd H x o) h h':=by
 have hx:∀b,H b=none→b≠x:=fun b n z=>by subst z;rw [n] at mu;exact mu
 have hb:∀b,H b=none→b≠e:=fun b n z=>by
  subst z
  rcases he with r | r
  ·exact hx b n r
  ·rw [n] at r;cases r
 have hm:∀b u,H b=some u→¬Mut (some u)→b≠x:=fun b u q nm z=>by subst z;rw [q] at mu;exact nm mu
 refine ⟨fun b u q n _ _=>k b u (hb b n) q,fun b u q n _ _=>⟨u.slots,k b u (hb b n) q⟩,fun b u q n _=>by rw [JAL (hx b n)];exact n,fun b u q _=>?_,
  fun b xs q=>by rw [JAL (hm b _ q fun z=>z)];exact q,fun b u xs q=>by rw [JAL (hm b _ q fun z=>z)];exact q,fun b ps q=>⟨#[],by rw [JAL (hm b _ q fun z=>z),q];simp⟩⟩
 by_cases hbe:b=e
 ·subst hbe;exact heo
 ·exact ⟨u,k b u hbe q⟩
theorem Un.mono (u:Un fs ex H H1 h h1) (hs:∀b∈fs,b∈fs') (hx:∀b∈ex,b∈ex'):Un fs' ex' H H1 h h1 :=
 ⟨fun b ob q n hb he=>u.keep b ob q n (fun z=>hb (hs b z)) fun z=>he (hx b z),fun _ _ q n _ he=>u.any q n fun z=>he (hx _ z),fun b ob q n he=>u.free b ob q n fun z=>he (hx b z),fun b ob q he=>u.there b ob q fun z=>he (hx b z),u.tups,u.frzs,u.tbls⟩
end
noncomputable def trk (h:Heap) (H:Hp):List Addr:=(List.range h.objs.size).filter fun a=>(H a).isSome
noncomputable def hidT (h:Heap) (H:Hp):Heap:=PySem.W.hideAll h (trk h H)
theorem JDi (h:Heap) (H:Hp):(hidT h H).objs.size=h.objs.size:=PySem.W.hideAll_size _ _
theorem JFA {h:Heap} {H:Hp} {b:Addr} {o:Obj} (e:h.get? b=some o) (n:H b=none):(hidT h H).get? b=some o :=
 PySem.W.hideAll_get _ e fun hm=>by
  have q:(H b).isSome=true:=(List.mem_filter.mp hm).2
  rw [n] at q;simp at q
theorem JEi {h:Heap} {H:Hp} {b:Addr} {o:Obj} (e:(hidT h H).get? b=some o):h.get? b=some o∧H b=none:=by
 have e':h.get? b=some o:=PySem.W.of_hideAll (trk h H) e
 refine ⟨e',?_⟩
 cases q:H b with
 | none=>rfl
 | some x =>
  have hm:b∈trk h H:=List.mem_filter.mpr ⟨List.mem_range.mpr (Heap.lt_size e'),by simp [q]⟩
  have z:(hidT h H).get? b=none:=PySem.W.hideAll_none (trk h H) hm
  rw [z] at e;cases e
noncomputable def JLf (g h:Heap) (L:Addr):List (Addr×Obj):=(List.range h.objs.size).filterMap fun a=>if a=L∨(g.get? a).isSome=true then none else (h.get? a).map fun o=>(a,o)
noncomputable def rest (g h:Heap) (L d:Addr):List (Addr×Obj):=(JLf g h L).filter fun p=>decide (p.1≠d)
end L2
namespace L2
open PySem PySem.Spec PyProof.Rows
structure Mod (K:PySem.W.Frag) (mg:Str→Option Value) (base:Heap):Prop where
 kin:K.In base
 glob:base.Ns mainGlobals mg
 blt:∃mb,base.Ns builtinsNs mb∧∀x:Str,x≠"__name__"→mb x=bootBuiltins x
 nolimit:base.NoLimit
structure Cx where
 prog:Program
 w:World
 K:PySem.W.Frag
 mg:Str→Option Value
 base:Heap
 A:Around
 N:List Str
 s₀:Shared
 H₀:Hp
 env:Env
 outer:List Env
 stack:List Env
 ex:List Addr
 fn:Str→Bool
 calm:Bool
 pn:List (Addr×Obj)
 xe:Value→Shared→Prop
noncomputable def frs (l:List Env):List Addr:=l.filterMap (·.frame)
noncomputable abbrev Cx.fs (X:Cx):List Addr:=frs X.outer
noncomputable def Vis (sc:Scope) (x:Str):Prop:=sc.names.lookup x=some .local∨sc.names.lookup x=some .cell∨sc.names.lookup x=some .free
noncomputable def Loc (sc:Scope) (x:Str):Prop:=sc.names.lookup x=some .local∨sc.names.lookup x=some .cell
noncomputable def Look (env:Env) (h:Heap) (m:Str→Option Value) (x:Str) (u:Value):Prop :=
 (env.kindOf x=some .local∧m x=some u)∨((env.kindOf x=some .cell∨env.kindOf x=some .free)∧∃c,env.cells.lookup x=some c∧h.IsCell c (some u))
structure Cx.Ok (X:Cx):Prop where
 mod:Mod X.K X.mg X.base
 kind:X.env.scope.kind=.function
 glob:X.env.globals=mainGlobals
 blt:X.env.builtins=builtinsNs
 above:X.s₀.heap.objs.size≤X.env.locals
 inj:∀x y c,X.env.cells.lookup x=some c→X.env.cells.lookup y=some c→x=y
 has:∀x,(X.env.kindOf x=some .cell∨X.env.kindOf x=some .free)→∃c,X.env.cells.lookup x=some c
 cab:∀x c,X.fn x=true→X.env.cells.lookup x=some c→X.s₀.heap.objs.size≤c
 hd:X.calm=true→X.A.handled=none
 frames:X.A.frames=some X.stack
 stk:X.stack=X.outer∨(X.stack=X.env::X.outer∧X.env.frame=some X.env.locals)
 exf:∀b∈X.ex,b≠X.env.locals∧∀x c,X.env.cells.lookup x=some c→c≠b
 bs:∀b o,X.base.get? b=some o→X.s₀.heap.get? b=some o∧X.H₀ b=none
 bsz:X.base.objs.size≤X.s₀.heap.objs.size
 noex:∀b o,X.base.get? b=some o→b ∉ X.ex
 exfs:∀b∈X.ex,b ∉ X.fs
 funs:X.s₀.heap.FunFrames X.base X.outer
 frf:∀b∈X.fs,X.H₀ b=none
structure Inv (X:Cx) (pins:List (Addr×Obj)) (σ:List (Option V)) (H:Hp) (s:Shared):Prop where
 ok:X.Ok
 os:s.os=X.s₀.os
 bare:AllBare s.gens
 base:Un X.fs X.ex X.H₀ H X.s₀.heap s.heap
 loc:∃m,s.heap.Ns X.env.locals m∧∀(i:Nat) (x:Str) (v:V),X.N[i]? = some x→σ[i]? = some (some v)→Vis X.env.scope x→∃u,RelV v u∧Look X.env s.heap m x u
 cell:∀x c,X.env.cells.lookup x=some c→∃v,s.heap.IsCell c v
 free:H X.env.locals=none
 freeC:∀x c,X.env.cells.lookup x=some c→H c=none
 pin:∀p∈X.pn++pins,s.heap.get? p.1=some p.2∧H p.1=none∧p.1≠X.env.locals∧p.1 ∉ X.fs∧∀v,p.2.data≠.cell v
 hok:HOk X.prog X.w H s.heap
 len:σ.length=X.N.length
section
variable {X:Cx} {pins:List (Addr×Obj)} {σ:List (Option V)} {H H':Hp} {s:Shared} {h':Heap}
theorem Cx.Ok.nofr (ok:X.Ok) {b:Addr} {o:Obj} (e:X.base.get? b=some o):b ∉ X.fs:=fun hb=>by
 have:=(ok.funs.mem hb).1
 rw [e] at this;cases this
theorem Inv.bs (I:Inv X pins σ H s):∀b o,X.base.get? b=some o→s.heap.get? b=some o∧H b=none:=fun b o e =>
 ⟨I.base.keep b o (I.ok.bs b o e).1 (I.ok.bs b o e).2 (I.ok.nofr e) (I.ok.noex b o e),I.base.free b o (I.ok.bs b o e).1 (I.ok.bs b o e).2 (I.ok.noex b o e)⟩
theorem Inv.bk (I:Inv X pins σ H s):∀b o,X.base.get? b=some o→s.heap.get? b=some o:=fun b o e=>(I.bs b o e).1
theorem Inv.mod (I:Inv X pins σ H s):Mod X.K X.mg X.base:=I.ok.mod
theorem Inv.kIn (I:Inv X pins σ H s):X.K.In s.heap:=I.ok.mod.kin.keeps I.bk
theorem Inv.nolimit (I:Inv X pins σ H s):s.heap.NoLimit:=I.ok.mod.nolimit.keeps I.bk
theorem Inv.lt (I:Inv X pins σ H s):X.env.locals<s.heap.objs.size:=let ⟨_,hn,_⟩:=I.loc;hn.lt
theorem Inv.sz (I:Inv X pins σ H s):X.s₀.heap.objs.size≤s.heap.objs.size:=Nat.le_trans I.ok.above (Nat.le_of_lt I.lt)
theorem Inv.nofs (I:Inv X pins σ H s) {a:Addr} (h:s.heap.objs.size≤a):a ∉ X.fs:=fun hb=>by
 obtain ⟨_,o,ho,_⟩:=I.ok.funs.mem hb
 exact absurd (Nat.lt_of_lt_of_le (Heap.lt_size ho) (Nat.le_trans I.sz h)) (Nat.lt_irrefl _)
theorem Inv.cne (I:Inv X pins σ H s):∀x c,X.env.cells.lookup x=some c→c≠X.env.locals:=fun x c e z=>by
 obtain ⟨v,o,ho,hd⟩:=I.cell x c e
 obtain ⟨m,⟨o',es,ep,ho',hd',_⟩,_⟩:=I.loc
 rw [z,ho'] at ho;cases ho;rw [hd'] at hd;cases hd
theorem Inv.funs (I:Inv X pins σ H s):s.heap.FunFrames X.base X.outer:=by
 have all:∀(l:List Env),(∀b∈frs l,b∈X.fs)→X.s₀.heap.FunFrames X.base l→s.heap.FunFrames X.base l:=by
  intro l
  induction l with
  | nil=>intro _ _;trivial
  | cons env r ih =>
   intro hs hl
   obtain ⟨hk,⟨L,o,hf,hn,ho,hd⟩,hr⟩:=hl
   have hL:L∈X.fs:=hs L (by unfold frs;rw [List.filterMap_cons,hf];exact List.mem_cons_self)
   obtain ⟨sl,e⟩:=I.base.slot L o ho (I.ok.frf L hL) hL fun z=>I.ok.exfs L z hL
   exact ⟨hk,⟨L,_,hf,hn,e,hd⟩,ih (fun b hb=>hs b (by unfold frs;rw [List.filterMap_cons,hf];exact List.mem_cons_of_mem _ hb)) hr⟩
 exact all X.outer (fun _ hb=>hb) I.ok.funs
theorem Inv.stack (I:Inv X pins σ H s):s.heap.FunFrames X.base X.stack:=by
 rcases I.ok.stk with e | ⟨e,hf⟩
 ·rw [e];exact I.funs
 ·rw [e]
  obtain ⟨m,hn,_⟩:=I.loc
  refine .cons (by rw [I.ok.kind];decide) hf hn ?_ I.funs
  exact Heap.get?_none_of_le (Nat.le_trans I.ok.bsz I.ok.above)
theorem Inv.stkSub (I:Inv X pins σ H s):∀b∈frs X.stack,b∈X.env.locals::X.fs:=fun b hb=>by
 rcases I.ok.stk with e | ⟨e,hf⟩
 ·rw [e] at hb;exact List.mem_cons_of_mem _ hb
 ·rw [e] at hb
  unfold frs at hb
  rw [List.filterMap_cons,hf] at hb
  exact hb
theorem Inv.stkFree (I:Inv X pins σ H s):∀b∈frs X.stack,H b=none:=fun b hb=>by
 rcases List.mem_cons.mp (I.stkSub b hb) with e | hb
 ·rw [e];exact I.free
 ·obtain ⟨_,o,ho,_⟩:=I.ok.funs.mem hb
  exact I.base.free b o ho (I.ok.frf b hb) fun z=>I.ok.exfs b z hb
theorem Inv.step {g':Array GenState} {t':Nat} {d':Drawn} {ch:List Addr} (I:Inv X pins σ H s)
  (hch:∀b∈ch,(b∈X.ex∨X.s₀.heap.objs.size≤b)∧b≠X.env.locals∧(∀x c,X.env.cells.lookup x=some c→c≠b)∧∀p∈X.pn++pins,p.1≠b)
  (keep:∀b o,b≠X.env.locals→b ∉ X.fs→b ∉ ch→s.heap.get? b=some o→H b=none→h'.get? b=some o)
  (slot:∀b o,b≠X.env.locals→b∈X.fs→b ∉ ch→s.heap.get? b=some o→H b=none→∃sl,h'.get? b=some { o with slots:=sl }) (free:∀b o,b ∉ ch→s.heap.get? b=some o→H b=none→H' b=none)
  (there:∀b o,b ∉ ch→s.heap.get? b=some o→∃o',h'.get? b=some o')
  (tups:∀b xs,H b=some (.tup xs)→H' b=some (.tup xs)) (frzs:∀b o u,H b=some (.frz o u)→H' b=some (.frz o u)) (tbls:∀b ps,H b=some (.tbl ps)→∃more,H' b=some (.tbl (ps++more)))
  (ns:∀m,s.heap.Ns X.env.locals m→h'.Ns X.env.locals m) (hok:HOk X.prog X.w H' h') (hg:AllBare g') :
  Inv X pins σ H' { s with heap:=h',gens:=g',drawn:=d',toks:=t' }:=by
 have neL:∀b o,X.s₀.heap.get? b=some o→b≠X.env.locals:=fun b o e=>Nat.ne_of_lt (Nat.lt_of_lt_of_le (Heap.lt_size e) I.ok.above)
 have neC:∀b o,X.s₀.heap.get? b=some o→b ∉ X.ex→b ∉ ch:=fun b o e hx hb=>by
  rcases (hch b hb).1 with z | z
  · exact hx z
  · exact absurd (Nat.lt_of_lt_of_le (Heap.lt_size e) z) (Nat.lt_irrefl _)
 have cellK:∀x c,X.env.cells.lookup x=some c→∀v,s.heap.IsCell c v→h'.IsCell c v:=fun x c e v ⟨o,ho,hd⟩=>by
  have nch:c ∉ ch:=fun z=>(hch c z).2.2.1 x c e rfl
  by_cases hc:c∈X.fs
  · obtain ⟨sl,q⟩:=slot c o (I.cne x c e) hc nch ho (I.freeC x c e)
    exact ⟨_,q,hd⟩
  · exact ⟨o,keep c o (I.cne x c e) hc nch ho (I.freeC x c e),hd⟩
 refine ⟨I.ok,I.os,hg,⟨fun b o e n hb hx=>?_,fun b o e n hb hx=>?_,fun b o e n hx=>?_,fun b o e hx=>?_,fun b xs e=>tups b xs (I.base.tups b xs e),fun b o xs e=>frzs b o xs (I.base.frzs b o xs e),fun b ps e=>?_⟩,?_,fun x c e=>?_,?_,fun x c e=>?_,fun p hp=>?_,hok,I.len⟩
 ·exact keep b o (neL b o e) hb (neC b o e hx) (I.base.keep b o e n hb hx) (I.base.free b o e n hx)
 ·obtain ⟨sl,e1⟩:=I.base.slot b o e n hb hx
  obtain ⟨sl',e2⟩:=slot b _ (neL b o e) hb (neC b o e hx) e1 (I.base.free b o e n hx)
  exact ⟨sl',e2⟩
 ·obtain ⟨o',e1⟩:=I.base.there b o e hx
  exact free b o' (neC b o e hx) e1 (I.base.free b o e n hx)
 ·obtain ⟨o',e1⟩:=I.base.there b o e hx
  exact there b o' (neC b o e hx) e1
 ·obtain ⟨m1,e1⟩:=I.base.tbls b ps e
  obtain ⟨m2,e2⟩:=tbls b _ e1
  exact ⟨m1++m2,by rw [e2,Array.append_assoc]⟩
 ·obtain ⟨m,hn,hl⟩:=I.loc
  refine ⟨m,ns m hn,fun i x v e1 e2 e3=>?_⟩
  obtain ⟨u,r,l⟩:=hl i x v e1 e2 e3
  refine ⟨u,r,?_⟩
  rcases l with l | ⟨k,c,e,z⟩
  · exact .inl l
  · exact .inr ⟨k,c,e,cellK x c e _ z⟩
 ·obtain ⟨v,z⟩:=I.cell x c e
  exact ⟨v,cellK x c e v z⟩
 ·obtain ⟨m,⟨o,_,_,ho,_⟩,_⟩:=I.loc
  exact free _ o (fun z=>(hch _ z).2.1 rfl) ho I.free
 ·obtain ⟨v,o,ho,hd⟩:=I.cell x c e
  exact free c o (fun z=>(hch c z).2.2.1 x c e rfl) ho (I.freeC x c e)
 ·obtain ⟨e,n,ne,nf,d⟩:=I.pin p hp
  have nch:p.1 ∉ ch:=fun z=>(hch p.1 z).2.2.2 p hp rfl
  exact ⟨keep p.1 p.2 ne nf nch e n,free p.1 p.2 nch e n,ne,nf,d⟩
theorem Inv.un {t':Nat} (I:Inv X pins σ H s) (u:Un X.fs [] H H' s.heap h') (hok:HOk X.prog X.w H' h'):Inv X pins σ H' { s with heap:=h',toks:=t' }:=by
 obtain ⟨m,⟨o,es,ep,ho,r⟩,_⟩:=id I.loc
 obtain ⟨sl,hL⟩:=u.any ho I.free (by simp)
 exact I.step (g':=s.gens) (d':=s.drawn) (ch:=[]) (fun _ z=>nomatch z) (fun b o _ hb _ e n=>u.keep b o e n hb (by simp)) (fun b o _ hb _ e n=>u.slot b o e n hb (by simp)) (fun b o _ e n=>u.free b o e n (by simp)) (fun b o _ e=>u.there b o e (by simp)) u.tups u.frzs u.tbls (fun m' hm=>by
  obtain ⟨o',es',ep',ho',r'⟩:=hm
  rw [ho] at ho';cases ho'
  exact ⟨_,es',ep',hL,r'⟩) hok I.bare
theorem Inv.call {g':Array GenState} {t':Nat} {d':Drawn} {ch:List Addr} (I:Inv X pins σ H s) (u:Un (frs X.stack) ch H H' s.heap h') (hok:HOk X.prog X.w H' h') (hg:AllBare g')
  (hch:∀b∈ch,(b∈X.ex∨X.s₀.heap.objs.size≤b)∧b≠X.env.locals∧(∀x c,X.env.cells.lookup x=some c→c≠b)∧∀p∈X.pn++pins,p.1≠b) :
  Inv X pins σ H' { s with heap:=h',gens:=g',drawn:=d',toks:=t' }:=by
 obtain ⟨m,⟨o,es,ep,ho,r⟩,_⟩:=id I.loc
 obtain ⟨sl,hL⟩:=u.any ho I.free fun z=>(hch _ z).2.1 rfl
 exact I.step (ch:=ch) hch (fun b o hL hb hc e n=>u.keep b o e n (fun z=>(List.mem_cons.mp (I.stkSub b z)).elim hL hb) hc) (fun b o _ _ hc e n=>u.any e n hc) (fun b o hc e n=>u.free b o e n hc) (fun b o hc e=>u.there b o e hc) u.tups u.frzs u.tbls (fun m' hm=>by
  obtain ⟨o',es',ep',ho',r'⟩:=hm
  rw [ho] at ho';cases ho'
  exact ⟨_,es',ep',hL,r'⟩) hok hg
theorem Inv.turned {t':Nat} {it:Addr} (I:Inv X pins σ H s) (k:∀b o,b≠it→s.heap.get? b=some o→h'.get? b=some o) (hn:H it=none) (hL:it≠X.env.locals)
  (h1:it∈X.ex∨X.s₀.heap.objs.size≤it) (h2:∀x c,X.env.cells.lookup x=some c→c≠it) (h3:∀p∈X.pn++pins,p.1≠it):Inv X pins σ H { s with heap:=h',toks:=t' }:=by
 have nit:∀b u,H b=some u→b≠it:=fun b u e z=>by rw [z,hn] at e;cases e
 refine I.step (g':=s.gens) (d':=s.drawn) (ch:=[it]) (fun b hb=>?_) (fun b o _ _ hc e _=>k b o (fun z=>hc (by simp [z])) e) (fun b o _ _ hc e _=>⟨o.slots,k b o (fun z=>hc (by simp [z])) e⟩) (fun _ _ _ _ n=>n)
  (fun b o hc e=>⟨o,k b o (fun z=>hc (by simp [z])) e⟩) (fun _ _ e=>e) (fun _ _ _ e=>e) (fun b ps e=>⟨#[],by rw [e];simp⟩) (fun m hm=>?_) (fun b u e=>?_) I.bare
 ·have e:b=it:=by simpa using hb
  subst e
  exact ⟨h1,hL,h2,h3⟩
 ·obtain ⟨o,es,ep,ho,r⟩:=hm
  exact ⟨o,es,ep,k _ o (Ne.symm hL) ho,r⟩
 ·refine (I.hok b u e).stay (fun c v hc q=>k c v ?_ q) (fun _ q=>q) fun _ _ q=>q
  rcases hc with z | z
  · rw [z];exact nit b u e
  · exact nit c _ z
theorem Inv.tok (I:Inv X pins σ H s) (t:Nat):Inv X pins σ H { s with toks:=t }:=I.un (h':=s.heap) (t':=t) Un.refl I.hok
theorem Inv.kept {t':Nat} (I:Inv X pins σ H s) (k:∀b u,s.heap.get? b=some u→h'.get? b=some u):Inv X pins σ H { s with heap:=h',toks:=t' }:=I.un (Un.kept k) (I.hok.kept k)
theorem Inv.laid {a:Addr} {o:HO} {t':Nat} (I:Inv X pins σ H s) (k:∀b u,s.heap.get? b=some u→h'.get? b=some u) (hp:s.heap.objs.size≤a) (new:ObjOk X.prog X.w (upd H a o) h' a o) :
 Inv X pins σ (upd H a o) { s with heap:=h',toks:=t' }:=I.un (Un.laid k hp (I.hok.fresh hp)) (I.hok.laid k hp new)
theorem Inv.write {x e:Addr} {o:HO} {t':Nat} (I:Inv X pins σ H s) (mu:Mut (H x)) (he:e=x∨H e=some (.own x)) (k:∀b u,b≠e→s.heap.get? b=some u→h'.get? b=some u) (heo:∃u,h'.get? e=some u)
 (new:ObjOk X.prog X.w (upd H x o) h' x o):Inv X pins σ (upd H x o) { s with heap:=h',toks:=t' }:=I.un (Un.write mu he k heo) (I.hok.write mu he k heo new)
theorem Inv.weak {σ':List (Option V)} (I:Inv X pins σ H s) (hl:σ'.length=σ.length) (w:∀(i:Nat) v,σ'[i]? = some (some v)→σ[i]? = some (some v)):Inv X pins σ' H s :=
 ⟨I.ok,I.os,I.bare,I.base,let ⟨m,hn,hl'⟩:=I.loc;⟨m,hn,fun i x v e1 e2 e3=>hl' i x v e1 (w i v e2) e3⟩,I.cell,I.free,I.freeC,I.pin,I.hok,hl.trans I.len⟩
theorem Inv.pins_of {pins':List (Addr×Obj)} (I:Inv X pins σ H s) (h:∀p∈pins',s.heap.get? p.1=some p.2∧H p.1=none∧p.1≠X.env.locals∧p.1 ∉ X.fs∧∀v,p.2.data≠.cell v):Inv X pins' σ H s :=
 ⟨I.ok,I.os,I.bare,I.base,I.loc,I.cell,I.free,I.freeC,fun p hp=>(List.mem_append.mp hp).elim (fun z=>I.pin p (List.mem_append_left _ z)) (h p),I.hok,I.len⟩
theorem JDU {N:List Str} (hN:N.Nodup) {i j:Nat} {x:Str} (a:N[i]? = some x) (b:N[j]? = some x):i=j:=by
 obtain ⟨h1,e1⟩:=List.getElem?_eq_some_iff.mp a
 obtain ⟨h2,e2⟩:=List.getElem?_eq_some_iff.mp b
 exact (List.getElem_inj hN).mp (e1.trans e2.symm)
theorem JDe {M:Model} {A:Around} {E:Value→Shared→Prop} {i:Nat} {x:Str} {v:V} {u:Value} {Q:Unit→Shared→Prop} (I:Inv X pins σ H s) (hN:X.N.Nodup) (hi:X.N[i]? = some x) (hx:Loc X.env.scope x) (r:RelV v u)
  (h:∀s',Inv X pins (σ.set i (some v)) H s'→(∃a,Heap.SameBut a s.heap s'.heap∧(a=X.env.locals∨X.env.cells.lookup x=some a))→Q () s') (hf:X.fn x=true∨X.env.scope.names.lookup x=some .local:=by first | exact .inl rfl | exact .inr rfl | assumption):wpAny M A (storeName X.env x u) Q E s:=by
 obtain ⟨m,hn,hl⟩:=id I.loc
 have hcls:(X.env.scope.kind==.class || (X.env.scope.kind==.module&&X.env.locals != X.env.globals))=false:=by rw [I.ok.kind];rfl
 have hiσ:i<σ.length:=by rw [I.len];exact (List.getElem?_eq_some_iff.mp hi).1
 have cne:=I.cne
 have tracked:∀ {a:Addr} {h':Heap},(∃o,s.heap.get? a=some o∧H a=none)→Heap.SameBut a s.heap h'→HOk X.prog X.w H h':=fun {a h'} ha hs b ob e=>by
  obtain ⟨_,_,hfree⟩:=ha
  refine (I.hok b ob e).stay (fun c w' hc q=>(hs.2 c ?_).trans q) (fun _ q=>q) fun _ _ q=>q
  rintro rfl
  rcases hc with rfl | hc
  · rw [hfree] at e;cases e
  · rw [hfree] at hc;cases hc
 rcases hx with hk | hk
 ·refine wpAny_storeName_local hk hn (fun h' hn' hs=>?_) hcls
  obtain ⟨oL,_,_,hoL,_⟩:=id hn
  refine h _ ⟨I.ok,I.os,I.bare,⟨fun b o e n hb hx=>?_,fun b o e n hb hx=>?_,I.base.free,fun b o e hx=>?_,I.base.tups,I.base.frzs,I.base.tbls⟩,⟨_,hn',fun j y v' e1 e2 e3=>?_⟩,fun y c e=>?_,I.free,I.freeC,fun p hp=>?_,tracked ⟨oL,hoL,I.free⟩ hs,by simpa using I.len⟩ ⟨_,hs,.inl rfl⟩
  · exact (hs.2 b (Nat.ne_of_lt (Nat.lt_of_lt_of_le (Heap.lt_size e) I.ok.above))).trans (I.base.keep b o e n hb hx)
  · obtain ⟨sl,e1⟩:=I.base.slot b o e n hb hx
    exact ⟨sl,(hs.2 b (Nat.ne_of_lt (Nat.lt_of_lt_of_le (Heap.lt_size e) I.ok.above))).trans e1⟩
  · obtain ⟨o',e1⟩:=I.base.there b o e hx
    exact ⟨o',(hs.2 b (Nat.ne_of_lt (Nat.lt_of_lt_of_le (Heap.lt_size e) I.ok.above))).trans e1⟩
  · by_cases hj:j=i
    ·subst hj
     rw [hi] at e1;cases e1
     rw [List.getElem?_set_self hiσ] at e2
     cases e2
     exact ⟨u,r,.inl ⟨hk,by simp⟩⟩
    ·rw [List.getElem?_set_ne (Ne.symm hj)] at e2
     obtain ⟨u',r',q⟩:=hl j y v' e1 e2 e3
     refine ⟨u',r',?_⟩
     rcases q with ⟨k,e⟩ | ⟨k,c,e,z⟩
     ·refine .inl ⟨k,?_⟩
      have:y≠x:=fun e=>hj (JDU hN e1 (e▸hi))
      simp [this,e]
     ·exact .inr ⟨k,c,e,z.sameBut hs (cne y c e)⟩
  · obtain ⟨w',z⟩:=I.cell y c e
    exact ⟨w',z.sameBut hs (cne y c e)⟩
  · obtain ⟨e,n,ne,nf,d⟩:=I.pin p hp
    exact ⟨(hs.2 p.1 ne).trans e,n,ne,nf,d⟩
 ·have hfn:X.fn x=true:=by
    rcases hf with z | z
    ·exact z
    ·rw [z] at hk;cases hk
  obtain ⟨c,hc⟩:=I.ok.has x (.inl hk)
  obtain ⟨w',z⟩:=I.cell x c hc
  refine wpAny_storeName_cell I.ok.kind hk hc z (fun h' hc' hs=>?_)
  obtain ⟨oc,hoc,hocd⟩:=id z
  refine h { s with heap:=h' } ⟨I.ok,I.os,I.bare,⟨fun b o e n hb hx=>?_,fun b o e n hb hx=>?_,I.base.free,fun b o e hx=>?_,I.base.tups,I.base.frzs,I.base.tbls⟩,⟨m,hn.sameBut hs (Ne.symm (cne x c hc)),fun j y v' e1 e2 e3=>?_⟩,fun y c' e=>?_,I.free,I.freeC,fun p hp=>?_,tracked ⟨oc,hoc,I.freeC x c hc⟩ hs,by simpa using I.len⟩ ⟨c,hs,.inr hc⟩
  · exact (hs.2 b (Nat.ne_of_lt (Nat.lt_of_lt_of_le (Heap.lt_size e) (I.ok.cab x c hfn hc)))).trans (I.base.keep b o e n hb hx)
  · obtain ⟨sl,e1⟩:=I.base.slot b o e n hb hx
    exact ⟨sl,(hs.2 b (Nat.ne_of_lt (Nat.lt_of_lt_of_le (Heap.lt_size e) (I.ok.cab x c hfn hc)))).trans e1⟩
  · obtain ⟨o',e1⟩:=I.base.there b o e hx
    exact ⟨o',(hs.2 b (Nat.ne_of_lt (Nat.lt_of_lt_of_le (Heap.lt_size e) (I.ok.cab x c hfn hc)))).trans e1⟩
  · by_cases hj:j=i
    ·subst hj
     rw [hi] at e1;cases e1
     rw [List.getElem?_set_self hiσ] at e2
     cases e2
     exact ⟨u,r,.inr ⟨.inl hk,c,hc,hc'⟩⟩
    ·rw [List.getElem?_set_ne (Ne.symm hj)] at e2
     obtain ⟨u',r',q⟩:=hl j y v' e1 e2 e3
     refine ⟨u',r',?_⟩
     rcases q with q | ⟨k,c',e,z'⟩
     ·exact .inl q
     ·refine .inr ⟨k,c',e,z'.sameBut hs ?_⟩
      rintro rfl
      exact hj (JDU hN e1 (I.ok.inj _ _ _ e hc▸hi))
  · by_cases hcc:c'=c
    ·subst hcc;exact ⟨_,hc'⟩
    ·obtain ⟨w2,z2⟩:=I.cell y c' e
     exact ⟨w2,z2.sameBut hs hcc⟩
  · obtain ⟨e,n,ne,nf,d⟩:=I.pin p hp
    refine ⟨(hs.2 p.1 ?_).trans e,n,ne,nf,d⟩
    intro q
    rw [q,hoc] at e
    have q':oc=p.2:=Option.some.inj e
    exact d w' (by rw [←q'];exact hocd)
theorem JBY {M:Model} {A:Around} {E:Value→Shared→Prop} {i:Nat} {x:Str} {v:V} {u:Value} {Q:Unit→Shared→Prop} (I:Inv X pins σ H s) (hN:X.N.Nodup) (hi:X.N[i]? = some x) (hx:Loc X.env.scope x) (r:RelV v u)
  (h:∀s',Inv X pins (σ.set i (some v)) H s'→Q () s') (hf:X.fn x=true∨X.env.scope.names.lookup x=some .local:=by first | exact .inl rfl | exact .inr rfl | assumption):wpAny M A (storeName X.env x u) Q E s :=
 JDe I hN hi hx r (fun s' I' _=>h s' I') hf
theorem Inv.call' {s':Shared} {ch:List Addr} (I:Inv X pins σ H s) (ho:s'.os=s.os) (u:Un (frs X.stack) ch H H' s.heap s'.heap) (hok:HOk X.prog X.w H' s'.heap) (hg:AllBare s'.gens)
  (hch:∀b∈ch,(b∈X.ex∨X.s₀.heap.objs.size≤b)∧b≠X.env.locals∧(∀x c,X.env.cells.lookup x=some c→c≠b)∧∀p∈X.pn++pins,p.1≠b):Inv X pins σ H' s':=by
 obtain ⟨h',g',d',t',o'⟩:=s'
 have e:o'=s.os:=ho
 subst e
 exact I.call (g':=g') (t':=t') (d':=d') u hok hg hch
end
noncomputable abbrev XK:=Value→Option Addr→Hp→Prop
noncomputable abbrev St:=List (Option V)
noncomputable abbrev VK:=V→Hp→Prop
noncomputable abbrev TE:=St→Hp→VK→Prop
noncomputable abbrev TT:=St→Hp→(Bool→Hp→Prop)→Prop
noncomputable abbrev TA:=St→Hp→(List V→Hp→Prop)→Prop
structure Ends where
 nx:St→Hp→Prop
 rt:VK
 bk:St→Hp→Prop:=fun _ _=>False
 ct:St→Hp→Prop:=fun _ _=>False
noncomputable abbrev TS:=Ends→St→Hp→Prop
noncomputable def EP (X:Cx) (pins:List (Addr×Obj)) (σ:St) (Q:VK) (u:Value) (s':Shared):Prop:=∃v H',Inv X pins σ H' s'∧RelV v u∧Q v H'
noncomputable def TP (X:Cx) (pins:List (Addr×Obj)) (σ:St) (Q:Bool→Hp→Prop) (b:Bool) (s':Shared):Prop:=∃H',Inv X pins σ H' s'∧Q b H'
noncomputable def AP (X:Cx) (pins:List (Addr×Obj)) (σ:St) (Q:List V→Hp→Prop) (us:List Value) (s':Shared):Prop:=∃vs H',Inv X pins σ H' s'∧Vals vs us∧Q vs H'
noncomputable def SP (X:Cx) (pins:List (Addr×Obj)) (D:Ends) (f:Flow) (s':Shared):Prop :=
 match f with
 | .next=>∃σ' H',Inv X pins σ' H' s'∧D.nx σ' H'
 | .brk=>∃σ' H',Inv X pins σ' H' s'∧D.bk σ' H'
 | .cont=>∃σ' H',Inv X pins σ' H' s'∧D.ct σ' H'
 | .ret u=>∃v σ' H',Inv X pins σ' H' s'∧RelV v u∧D.rt v H'
noncomputable def PE (X:Cx) (e:Expr) (t:TE):Prop :=
 ∀(pins:List (Addr×Obj)) (s:Shared) (σ:St) (H:Hp) (Q:VK),Inv X pins σ H s→t σ H Q→wpAny (model X.prog X.w) X.A (eval e X.env) (EP X pins σ Q) X.xe s
noncomputable def PT (X:Cx) (e:Expr) (t:TT):Prop :=
 ∀(pins:List (Addr×Obj)) (s:Shared) (σ:St) (H:Hp) (Q:Bool→Hp→Prop),Inv X pins σ H s→t σ H Q→wpAny (model X.prog X.w) X.A (isTrue e X.env (eval e X.env)) (TP X pins σ Q) X.xe s
noncomputable def PW (X:Cx) (e:Expr) (t:TT):Prop :=
 ∀(whole:Sem Value) (pins:List (Addr×Obj)) (s:Shared) (σ:St) (H:Hp) (Q:Bool→Hp→Prop),Inv X pins σ H s→t σ H Q→wpAny (model X.prog X.w) X.A (isTrue e X.env whole) (TP X pins σ Q) X.xe s
theorem PW.pt {X:Cx} {e:Expr} {t:TT} (h:PW X e t):PT X e t:=h _
noncomputable def PA (X:Cx) (es:List Expr) (t:TA):Prop :=
 ∀(pos:Pos) (pins:List (Addr×Obj)) (s:Shared) (σ:St) (H:Hp) (Q:List V→Hp→Prop),Inv X pins σ H s→t σ H Q→wpAny (model X.prog X.w) X.A (spliced (backTo pos (starEach es X.env))) (AP X pins σ Q) X.xe s
noncomputable def PS (X:Cx) (st:Stmt) (t:TS):Prop :=
 ∀(pins:List (Addr×Obj)) (s:Shared) (σ:St) (H:Hp) (D:Ends),Inv X pins σ H s→t D σ H→wpAny (model X.prog X.w) X.A (exec st X.env) (SP X pins D) X.xe s
noncomputable def PSs (X:Cx) (st:List Stmt) (t:TS):Prop :=
 ∀(pins:List (Addr×Obj)) (s:Shared) (σ:St) (H:Hp) (D:Ends),Inv X pins σ H s→t D σ H→wpAny (model X.prog X.w) X.A (execs st X.env) (SP X pins D) X.xe s
theorem thn {α:Type} {t:Sem α} {Q Q':α→Shared→Prop} {M:Model} {A:Around} {E:Value→Shared→Prop} {s:Shared} (h:wpAny M A t Q E s) (hQ:∀a s,Q a s→Q' a s):wpAny M A t Q' E s:=wpAny_mono h hQ fun _ _ x=>x
end L2
namespace L2
open PySem PySem.Spec PyProof.Rows
section
variable {X:Cx}
theorem bin {a b:Expr} {ta tb:TE} (ha:PE X a ta) (hb:PE X b tb) {pins:List (Addr×Obj)} {s:Shared} {σ:St} {H:Hp} {R:V→V→Hp→Prop} (I:Inv X pins σ H s) (h:ta σ H fun x H1=>tb σ H1 fun y H2=>R x y H2)
  {α:Type} {Q:α→Shared→Prop} {f:Value→Value→Sem α}
  (hf:∀v u s2 x y H2,Inv X pins σ H2 s2→RelV x v→RelV y u→R x y H2→wpAny (model X.prog X.w) X.A (f v u) Q X.xe s2) :
  wpAny (model X.prog X.w) X.A (eval a X.env) (fun v s₁=>wpAny (model X.prog X.w) X.A (eval b X.env) (fun u s₂=>wpAny (model X.prog X.w) X.A (f v u) Q X.xe s₂) X.xe s₁) X.xe s:=by
 refine thn (ha pins s σ H _ I h) fun v s1 ⟨x,H1,I1,r1,q1⟩=>?_
 refine thn (hb pins s1 σ H1 _ I1 q1) fun u s2 ⟨y,H2,I2,r2,q2⟩=>?_
 exact hf v u s2 x y H2 I2 r1 r2 q2
noncomputable def tVar (i:Nat):TE:=fun σ H Q=>∃v,σ[i]? = some (some v)∧Q v H
noncomputable def tC (v:V):TE:=fun _ H Q=>Q v H
theorem JD1 {i:Nat} {x:Str} {pos:Pos} (hN:X.N[i]? = some x) (hv:Vis X.env.scope x) (hd:(x==("__debug__":Str))=false:=by decide) (hcd:(x==("__classdict__":Str))=false:=by decide):PE X (.Name x pos) (tVar i):=by
 intro pins s σ H Q I h
 obtain ⟨v,e,h⟩:=h
 obtain ⟨m,hn,hl⟩:=I.loc
 obtain ⟨u,r,l⟩:=hl i x v hN e hv
 have fin:EP X pins σ Q u s:=⟨v,H,I,r,h⟩
 rcases l with ⟨hk,hm⟩ | ⟨hk,c,hc,hcell⟩
 ·exact wpAny_Name (wpAny_loadName_local I.ok.kind hk hn hm fin) hd
 ·rcases hk with hk | hk
  ·exact wpAny_Name (wpAny_loadName_cell I.ok.kind hk hc hcell fin) hd
  ·exact wpAny_Name (wpAny_loadName_free I.ok.kind hk hc hcell fin hcd) hd
theorem JDy {i j pos}:PE X (.Constant (.int i) j pos) (tC (.int i)):=fun _ _ _ H _ I h=>wpAny_Constant_int ⟨.int i,H,I.tok _,⟨_,rfl⟩,h⟩
theorem JGG {b j pos}:PE X (.Constant (.bool b) j pos) (tC (.bl b)):=fun _ _ _ H _ I h=>Constant_bool ⟨.bl b,H,I,rfl,h⟩
theorem JMj {j pos}:PE X (.Constant .none j pos) (tC .non):=fun _ _ _ H _ I h=>Constant_none ⟨.non,H,I,rfl,h⟩
theorem JNB {x j pos}:PE X (.Constant (.str x) j pos) (tC (.str x)):=fun _ _ _ H _ I h=>Calls.Constant_str ⟨.str x,H,I.tok _,⟨_,rfl⟩,h⟩
noncomputable def Gl (X:Cx) (x:Str):Prop:=X.env.kindOf x=some .globalImplicit
theorem JB7 {E:Value→Shared→Prop} {pins:List (Addr×Obj)} {s:Shared} {σ:St} {H:Hp} {x:Str} {u:Value} {pos:Pos} {Q:Value→Shared→Prop} (I:Inv X pins σ H s) (hg:Gl X x) (hm:X.mg x=some u) (h:Q u s)
  (hd:(x==("__debug__":Str))=false:=by decide):wpAny (model X.prog X.w) X.A (eval (.Name x pos) X.env) Q E s :=
 Calls.Name_function_global I.ok.kind hg (Calls.loadGlobal_global (by rw [I.ok.glob];exact I.mod.glob.keeps I.bk) hm h) hd
theorem JDg {E:Value→Shared→Prop} {pins:List (Addr×Obj)} {s:Shared} {σ:St} {H:Hp} {x:Str} {u:Value} {pos:Pos} {Q:Value→Shared→Prop} (I:Inv X pins σ H s) (hg:Gl X x) (hm:X.mg x=none) (hv:bootBuiltins x=some u) (h:Q u s)
  (hn:x≠"__name__":=by decide) (hd:(x==("__debug__":Str))=false:=by decide):wpAny (model X.prog X.w) X.A (eval (.Name x pos) X.env) Q E s:=by
 obtain ⟨mb,h1,h2⟩:=I.mod.blt
 exact Calls.Name_function_global I.ok.kind hg (Calls.loadGlobal_builtin (by rw [I.ok.glob];exact I.mod.glob.keeps I.bk) hm (by rw [I.ok.blt];exact h1.keeps I.bk) ((h2 x hn).trans hv) h) hd
theorem JHQ {x:Str} {v:V} {u:Value} {pos:Pos} (hg:Gl X x) (hm:X.mg x=some u) (r:RelV v u) (hd:(x==("__debug__":Str))=false:=by decide):PE X (.Name x pos) (tC v) :=
 fun _ _ _ H _ I h=>JB7 I hg hm ⟨v,H,I,r,h⟩ hd
theorem JLr {x:Str} {v:V} {u:Value} {pos:Pos} (hg:Gl X x) (hm:X.mg x=none) (hv:bootBuiltins x=some u) (r:RelV v u) (hn:x≠"__name__":=by decide) (hd:(x==("__debug__":Str))=false:=by decide):PE X (.Name x pos) (tC v) :=
 fun _ _ _ H _ I h=>JDg I hg hm hv ⟨v,H,I,r,h⟩ hn hd
variable {a b:Expr} {ta tb:TE} {pos:Pos}
noncomputable def PC (X:Cx) (op:CmpOp) (a b:Expr) (t:TE):Prop :=
 ∀(pins:List (Addr×Obj)) (s:Shared) (σ:St) (H:Hp) (Q:VK),Inv X pins σ H s→t σ H Q →
  wpAny (model X.prog X.w) X.A (eval a X.env) (fun v s₁=>wpAny (model X.prog X.w) X.A (eval b X.env) (fun u s₂=>wpAny (model X.prog X.w) X.A (compareOp op v u) (EP X pins σ Q) X.xe s₂) X.xe s₁) X.xe s
theorem JE7 (b:Expr) {op:CmpOp} (h:op≠.In) (h2:op≠.NotIn):behindInMarks op b=false:=by
 have e1:(op==CmpOp.In)=false:=by cases op<;>first | rfl | exact absurd rfl h
 have e2:(op==CmpOp.NotIn)=false:=by cases op<;>first | rfl | exact absurd rfl h2
 cases b<;>simp [behindInMarks,e1,e2]
noncomputable def tIsN (ta:TE):TE:=fun σ H Q=>ta σ H fun x H1=>Q (.bl (decide (x=.non))) H1
noncomputable def tNotN (ta:TE):TE:=fun σ H Q=>ta σ H fun x H1=>Q (.bl (!decide (x=.non))) H1
theorem RelV.none_iff {x:V} {v:Value} (r:RelV x v):(v==Value.none)=decide (x=.non):=by
 cases x with
 | non=>cases r;rfl
 | bl _=>cases r;rfl
 | int _=>obtain ⟨t,rfl⟩:=r;rfl
 | str _=>obtain ⟨t,rfl⟩:=r;rfl
 | byt _=>obtain ⟨t,rfl⟩:=r;rfl
 | flt _=>obtain ⟨t,rfl⟩:=r;rfl
 | ref _=>cases r;rfl
 | ty _=>cases r;rfl
theorem JJr {j pos'} (ha:PE X a ta):PC X .Is a (.Constant .none j pos') (tIsN ta):=by
 intro pins s σ H Q I h
 refine thn (ha pins s σ H _ I h) fun v s1 ⟨x,H1,I1,r1,q1⟩=>?_
 exact Constant_none (is_none_gen ⟨.bl _,H1,I1,by rw [r1.none_iff];rfl,q1⟩)
theorem JGi {j pos'} (ha:PE X a ta):PC X .IsNot a (.Constant .none j pos') (tNotN ta):=by
 intro pins s σ H Q I h
 refine thn (ha pins s σ H _ I h) fun v s1 ⟨x,H1,I1,r1,q1⟩=>?_
 exact Constant_none (isnot_none_gen ⟨.bl _,H1,I1,by rw [r1.none_iff];rfl,q1⟩)
noncomputable def tB (t:TE):TT:=fun σ H Q=>t σ H fun x H1=>∃c,x=.bl c∧Q c H1
theorem JJn {op:CmpOp} {t:TE} (h:PC X op a b t) (h1:behindInMarks op b=false:=by first | exact JE7 _ (by decide) (by decide) | rfl):PE X (.Compare a [op] [b] pos) t:=fun pins s σ H Q I hw=>wpAny_Compare1 (h pins s σ H Q I hw) h1
theorem JKM {op:CmpOp} {t:TE} (h:PC X op a b t) (h1:behindInMarks op b=false:=by first | exact JE7 _ (by decide) (by decide) | rfl):PT X (.Compare a [op] [b] pos) (tB t):=by
 intro pins s σ H Q I hw
 refine wpAny_isTrue_Compare1 (thn (h pins s σ H _ I hw) fun v s1 h1=>thn h1 fun u s2 h2=>thn h2 fun c s3 ⟨x,H1,I1,r1,q1⟩=>?_) h1
 obtain ⟨d,rfl,q⟩:=q1
 cases r1
 exact wpAny_truthy_bool ⟨H1,I1,q⟩
variable {tA tB':TT} {rest:List Expr}
noncomputable def tAnd (t u:TT):TT:=fun σ H Q=>t σ H fun c H1=>if c=true then u σ H1 Q else Q false H1
noncomputable def tOr (t u:TT):TT:=fun σ H Q=>t σ H fun c H1=>if c=true then Q true H1 else u σ H1 Q
noncomputable def tNot (t:TT):TT:=fun σ H Q=>t σ H fun c H1=>Q (!c) H1
theorem JLa (ha:PT X a tA):PW X (.BoolOp .And [a] pos) tA:=by
 intro wh pins s σ H Q I h
 refine isTrue_and (thn (ha pins s σ H Q I h) fun c s1 e=>?_)
 cases c with
 | true=>exact isTrue_and_nil e
 | false=>exact e
theorem JN9 (ha:PT X a tA):PW X (.BoolOp .Or [a] pos) tA:=by
 intro wh pins s σ H Q I h
 refine isTrue_or (thn (ha pins s σ H Q I h) fun c s1 e=>?_)
 cases c with
 | false=>exact isTrue_or_nil e
 | true=>exact e
theorem JOm (ha:PT X a tA) (hb:PW X (.BoolOp .And (b::rest) pos) tB'):PW X (.BoolOp .And (a::b::rest) pos) (tAnd tA tB'):=by
 intro wh pins s σ H Q I h
 refine isTrue_and (thn (ha pins s σ H _ I h) fun c s1 ⟨H1,I1,q1⟩=>?_)
 cases c with
 | true=>exact hb wh pins s1 σ H1 Q I1 q1
 | false=>exact ⟨H1,I1,q1⟩
theorem pw_or (ha:PT X a tA) (hb:PW X (.BoolOp .Or (b::rest) pos) tB'):PW X (.BoolOp .Or (a::b::rest) pos) (tOr tA tB'):=by
 intro wh pins s σ H Q I h
 refine isTrue_or (thn (ha pins s σ H _ I h) fun c s1 ⟨H1,I1,q1⟩=>?_)
 cases c with
 | true=>exact ⟨H1,I1,q1⟩
 | false=>exact hb wh pins s1 σ H1 Q I1 q1
theorem JNs (ha:PT X a tA):PT X (.UnaryOp .Not a pos) (tNot tA):=by
 intro pins s σ H Q I h
 exact isTrue_not (ha pins s σ H (fun c H1=>Q (!c) H1) I h)
noncomputable def tAndV (ta tb:TE):TE:=fun σ H Q=>ta σ H fun x H1=>∃c,x=.bl c∧if c=true then tb σ H1 Q else Q (.bl false) H1
noncomputable def tOrV (ta tb:TE):TE:=fun σ H Q=>ta σ H fun x H1=>∃c,x=.bl c∧if c=true then Q (.bl true) H1 else tb σ H1 Q
theorem JJM {op} {t:TE} (h:PE X a t):PE X (.BoolOp op [a] pos) t:=fun pins s σ H Q I hw=>BoolOp_one (h pins s σ H Q I hw)
theorem JN4 (ha:PE X a ta) (hb:PE X (.BoolOp .And (b::rest) pos) tb):PE X (.BoolOp .And (a::b::rest) pos) (tAndV ta tb):=by
 intro pins s σ H Q I h
 refine BoolOp_and (thn (ha pins s σ H _ I h) fun v s1 ⟨x,H1,I1,r1,q1⟩=>?_)
 obtain ⟨c,rfl,q1⟩:=q1
 cases r1
 refine wpAny_truthy_bool ?_
 cases c with
 | true=>exact hb pins s1 σ H1 Q I1 q1
 | false=>exact ⟨.bl false,H1,I1,rfl,q1⟩
theorem pe_or (ha:PE X a ta) (hb:PE X (.BoolOp .Or (b::rest) pos) tb):PE X (.BoolOp .Or (a::b::rest) pos) (tOrV ta tb):=by
 intro pins s σ H Q I h
 refine BoolOp_or (thn (ha pins s σ H _ I h) fun v s1 ⟨x,H1,I1,r1,q1⟩=>?_)
 obtain ⟨c,rfl,q1⟩:=q1
 cases r1
 refine wpAny_truthy_bool ?_
 cases c with
 | false=>exact hb pins s1 σ H1 Q I1 q1
 | true=>exact ⟨.bl true,H1,I1,rfl,q1⟩
noncomputable def tIf (t:TT) (ta tb:TE):TE:=fun σ H Q=>t σ H fun c H1=>if c=true then ta σ H1 Q else tb σ H1 Q
theorem JIQ {c:Expr} (hc:PT X c tA) (ha:PE X a ta) (hb:PE X b tb):PE X (.IfExp c a b pos) (tIf tA ta tb):=by
 intro pins s σ H Q I h
 refine wpAny_IfExp (thn (hc pins s σ H _ I h) fun d s1 ⟨H1,I1,q1⟩=>?_)
 cases d with
 | true=>exact ha pins s1 σ H1 Q I1 q1
 | false=>exact hb pins s1 σ H1 Q I1 q1
end
end L2
namespace L2
open PySem PySem.Spec PyProof.Rows
noncomputable def SqL (K:PySem.W.Frag) (H:Hp) (a:Addr) (xs:List V):Prop :=
 Rd H a (.lst xs) ∨
  ∃(o:Obj) (its:Array Value) (n:Nat),K.lookup a=some o∧o.cls=.type "list"∧o.dict=none∧o.data=.seq its n∧its.size≤sizeLine∧Vals xs its.toList
noncomputable def SqT (K:PySem.W.Frag) (H:Hp) (a:Addr) (xs:List V):Prop :=
 Rd H a (.tup xs) ∨
  ∃(o:Obj) (its:Array Value) (n:Nat),K.lookup a=some o∧o.cls=.type "tuple"∧o.data=.seq its n∧its.size≤sizeLine∧Vals xs its.toList
noncomputable def absV:Value→Option V
 | .none=>some .non
 | .bool b=>some (.bl b)
 | .int i _=>some (.int i)
 | .str x _=>some (.str x)
 | .bytes b _=>some (.byt b)
 | .float b _=>some (.flt b)
 | .ref a=>some (.ref a)
 | .type n=>some (.ty n)
 | _=>none
theorem RelV.abs {x:V} {u:Value} (r:RelV x u):absV u=some x:=by
 cases x with
 | non=>cases r;rfl
 | bl _=>cases r;rfl
 | int _=>obtain ⟨t,rfl⟩:=r;rfl
 | str _=>obtain ⟨t,rfl⟩:=r;rfl
 | byt _=>obtain ⟨t,rfl⟩:=r;rfl
 | flt _=>obtain ⟨t,rfl⟩:=r;rfl
 | ref _=>cases r;rfl
 | ty _=>cases r;rfl
theorem RelV.inj {x y:V} {u:Value} (r:RelV x u) (q:RelV y u):x=y:=Option.some.inj (r.abs.symm.trans q.abs)
theorem Vals.inj:∀ {xs ys:List V} {us:List Value},Vals xs us→Vals ys us→xs=ys
 | _,_,_,.nil,.nil=>rfl
 | _,_,_,.cons r t,.cons r' t'=>by rw [r.inj r',Vals.inj t t']
section
variable {X:Cx} {pins:List (Addr×Obj)} {σ:St} {H:Hp} {s:Shared} {a:Addr} {xs ys:List V}
theorem SqL.of {K:PySem.W.Frag} (h:H a=some (.lst xs)):SqL K H a xs:=.inl (.inl h)
theorem SqT.of {K:PySem.W.Frag} (h:H a=some (.tup xs)):SqT K H a xs:=.inl (.inl h)
theorem Inv.list (I:Inv X pins σ H s) (h:SqL X.K H a xs):∃its:List Value,Vals xs its∧PlainL s.heap a its.toArray∧xs.length≤sizeLine:=by
 rcases h with h | ⟨o,its,n,hk,hc,hd,hs,hz,r⟩
 ·obtain ⟨z,its,n,r,e⟩:=h.ok I.hok
  exact ⟨its,r,⟨_,n,e,rfl,rfl,rfl⟩,z⟩
 ·refine ⟨its.toList,r,⟨o,n,I.kIn a o hk,hc,hd,by simpa using hs⟩,?_⟩
  have e:=r.length
  simp only [Array.length_toList] at e
  omega
theorem Inv.tuple (I:Inv X pins σ H s) (h:SqT X.K H a xs):∃its:List Value,Vals xs its∧IsTup s.heap a its.toArray∧xs.length≤sizeLine:=by
 rcases h with h | ⟨o,its,n,hk,hc,hs,hz,r⟩
 ·obtain ⟨z,its,r,p⟩:=h.ok I.hok
  exact ⟨its,r,p,z⟩
 ·refine ⟨its.toList,r,⟨o,I.kIn a o hk,hc,n,by simpa using hs⟩,?_⟩
  have e:=r.length
  simp only [Array.length_toList] at e
  omega
theorem Inv.list_inj (I:Inv X pins σ H s) (h:SqL X.K H a xs) (h':SqL X.K H a ys):xs=ys:=by
 obtain ⟨its,r,⟨o,n,e,_,_,d⟩,_⟩:=I.list h
 obtain ⟨its',r',⟨o',n',e',_,_,d'⟩,_⟩:=I.list h'
 rw [e] at e';cases e'
 rw [d] at d'
 injection d' with d1 _
 have:its=its':=by simpa using congrArg Array.toList d1
 subst this
 exact r.inj r'
theorem Inv.tuple_inj (I:Inv X pins σ H s) (h:SqT X.K H a xs) (h':SqT X.K H a ys):xs=ys:=by
 obtain ⟨its,r,⟨o,e,_,n,d⟩,_⟩:=I.tuple h
 obtain ⟨its',r',⟨o',e',_,n',d'⟩,_⟩:=I.tuple h'
 rw [e] at e';cases e'
 rw [d] at d'
 injection d' with d1 _
 have:its=its':=by simpa using congrArg Array.toList d1
 subst this
 exact r.inj r'
end
noncomputable abbrev Cx.wish (X:Cx) (E:Value→Shared→Prop):Cx:={ X with xe:=E }
noncomputable abbrev Cx.nox (X:Cx):Cx:=X.wish fun _ _=>False
theorem Cx.Ok.wish {X:Cx} (ok:X.Ok) (E:Value→Shared→Prop):(X.wish E).Ok :=
 ⟨ok.mod,ok.kind,ok.glob,ok.blt,ok.above,ok.inj,ok.has,ok.cab,ok.hd,ok.frames,ok.stk,ok.exf,ok.bs,ok.bsz,ok.noex,ok.exfs,ok.funs,ok.frf⟩
theorem Cx.Ok.unwish {X:Cx} {E:Value→Shared→Prop} (ok:(X.wish E).Ok):X.Ok :=
 ⟨ok.mod,ok.kind,ok.glob,ok.blt,ok.above,ok.inj,ok.has,ok.cab,ok.hd,ok.frames,ok.stk,ok.exf,ok.bs,ok.bsz,ok.noex,ok.exfs,ok.funs,ok.frf⟩
section
variable {X:Cx} {pins:List (Addr×Obj)} {σ:St} {H:Hp} {s:Shared} {E:Value→Shared→Prop}
theorem Inv.wish (I:Inv X pins σ H s) (E:Value→Shared→Prop):Inv (X.wish E) pins σ H s:=⟨I.ok.wish E,I.os,I.bare,I.base,I.loc,I.cell,I.free,I.freeC,I.pin,I.hok,I.len⟩
theorem Inv.unwish (I:Inv (X.wish E) pins σ H s):Inv X pins σ H s:=⟨I.ok.unwish,I.os,I.bare,I.base,I.loc,I.cell,I.free,I.freeC,I.pin,I.hok,I.len⟩
theorem SP.unwish {D:Ends} {f:Flow} {s':Shared} (h:SP (X.wish E) pins D f s'):SP X pins D f s':=by
 cases f with
 | next=>obtain ⟨σ',H',I,q⟩:=h;exact ⟨σ',H',I.unwish,q⟩
 | brk=>obtain ⟨σ',H',I,q⟩:=h;exact ⟨σ',H',I.unwish,q⟩
 | cont=>obtain ⟨σ',H',I,q⟩:=h;exact ⟨σ',H',I.unwish,q⟩
 | ret u=>obtain ⟨v,σ',H',I,r,q⟩:=h;exact ⟨v,σ',H',I.unwish,r,q⟩
theorem PE.nox {e:Expr} {t:TE} (h:PE X.nox e t):PE X e t:=fun pins s σ H Q I hw =>
 wpAny_mono (h pins s σ H Q (I.wish _) hw) (fun _ _ ⟨v,H',I',r,q⟩=>⟨v,H',I'.unwish,r,q⟩) fun _ _ z=>False.elim z
theorem PT.nox {e:Expr} {t:TT} (h:PT X.nox e t):PT X e t:=fun pins s σ H Q I hw =>
 wpAny_mono (h pins s σ H Q (I.wish _) hw) (fun _ _ ⟨H',I',q⟩=>⟨H',I'.unwish,q⟩) fun _ _ z=>False.elim z
theorem PSs.nox {st:List Stmt} {t:TS} (h:PSs X.nox st t):PSs X st t:=fun pins s σ H D I hw =>
 wpAny_mono (h pins s σ H D (I.wish _) hw) (fun _ _ q=>q.unwish) fun _ _ z=>False.elim z
end
section
variable {X:Cx} {st:Stmt} {rest:List Stmt} {t u:TS} {e:Expr} {te:TE} {pos:Pos}
noncomputable def JIY:TS:=fun D σ H=>D.nx σ H
noncomputable def tSeq (t u:TS):TS:=fun D σ H=>t { D with nx:=u D } σ H
theorem JK9:PSs X [] JIY:=fun _ _ σ H _ I h=>wpAny_execs_nil ⟨σ,H,I,h⟩
theorem JI6 (h1:PS X st t) (h2:PSs X rest u):PSs X (st::rest) (tSeq t u):=by
 intro pins s σ H D I h
 refine wpAny_execs_cons (thn (h1 pins s σ H { D with nx:=u D } I h) fun f s1 q=>?_)
 cases f with
 | next =>
  obtain ⟨σ',H',I',q⟩:=q
  exact h2 pins s1 σ' H' D I' q
 | ret v=>exact q
 | brk=>exact q
 | cont=>exact q
noncomputable def JNS:TS:=fun D σ H=>D.bk σ H
noncomputable def tCont:TS:=fun D σ H=>D.ct σ H
theorem JLc:PS X (.Pass pos) JIY:=fun _ _ σ H _ I h=>wpAny_Pass ⟨σ,H,I,h⟩
theorem JH3:PS X (.Break pos) JNS:=fun _ _ σ H _ I h=>wpAny_Break ⟨σ,H,I,h⟩
theorem JEf:PS X (.Continue pos) tCont:=fun _ _ σ H _ I h=>wpAny_Continue ⟨σ,H,I,h⟩
theorem Inv.quiet {pins:List (Addr×Obj)} {σ:St} {H:Hp} {s:Shared} (I:Inv X pins σ H s):interactive X.env=false:=by simp [interactive,I.ok.kind]
theorem JMb {x j pos pos'}:PS X (.Expr (.Constant (.str x) j pos) pos') JIY:=fun _ s σ H _ I h=>wpAny_Expr (Calls.Constant_str (show SP X _ _ .next { s with toks:=s.toks+1 } from ⟨σ,H,I.tok _,h⟩)) I.quiet
noncomputable def tDrop (te:TE):TS:=fun D σ H=>te σ H fun _ H1=>D.nx σ H1
theorem JGY (he:PE X e te) (hs:swapsWith e none pos.line X.env=pure false:=by rfl):PS X (.Expr e pos) (tDrop te):=by
 intro pins s σ H D I h
 exact wpAny_Expr_any (thn (he pins s σ H _ I h) fun v s1 ⟨x,H1,I1,r1,q1⟩=>⟨σ,H1,I1,q1⟩) I.quiet hs
noncomputable def tRet (te:TE):TS:=fun D σ H=>te σ H D.rt
theorem JO1 (he:PE X e te):PS X (.Return (some e) pos) (tRet te):=by
 intro pins s σ H D I h
 exact wpAny_Return_some (thn (he pins s σ H _ I h) fun v s1 ⟨x,H1,I1,r1,q1⟩=>⟨x,σ,H1,I1,r1,q1⟩)
noncomputable def tRetN:TS:=fun D _ H=>D.rt .non H
theorem JLC:PS X (.Return none pos) tRetN:=fun _ _ σ H _ I h=>wpAny_Return_none ⟨.non,σ,H,I,rfl,h⟩
noncomputable def tIfS (c:TT) (t u:TS):TS:=fun D σ H=>c σ H fun b H1=>if b=true then t D σ H1 else u D σ H1
theorem ps_if {c:Expr} {a b:List Stmt} {tc:TT} (hc:PT X c tc) (ha:PSs X a t) (hb:PSs X b u):PS X (.If c a b pos) (tIfS tc t u):=by
 intro pins s σ H D I h
 refine wpAny_If (thn (hc pins s σ H _ I h) fun d s1 ⟨H1,I1,q1⟩=>?_)
 cases d with
 | true=>exact ha pins s1 σ H1 D I1 q1
 | false=>exact hb pins s1 σ H1 D I1 q1
end
noncomputable abbrev TG:=V→St→Hp→(St→Hp→Prop)→Prop
noncomputable abbrev TGs:=List V→St→Hp→(St→Hp→Prop)→Prop
noncomputable def PG (X:Cx) (target:Expr) (t:TG):Prop :=
 ∀(pins:List (Addr×Obj)) (s:Shared) (σ:St) (H:Hp) (v:V) (u:Value) (Q:St→Hp→Prop),Inv X pins σ H s→RelV v u→t v σ H Q →
  wpAny (model X.prog X.w) X.A (assign target X.env u) (fun _ s'=>∃σ' H',Inv X pins σ' H' s'∧Q σ' H') X.xe s
noncomputable def PGs (X:Cx) (ts:List Expr) (t:TGs):Prop :=
 ∀(pins:List (Addr×Obj)) (s:Shared) (σ:St) (H:Hp) (vs:List V) (us:List Value) (Q:St→Hp→Prop),Inv X pins σ H s→Vals vs us→t vs σ H Q →
  wpAny (model X.prog X.w) X.A (assignInOrder ((assignEach ts X.env).map (·.2)) us) (fun _ s'=>∃σ' H',Inv X pins σ' H' s'∧Q σ' H') X.xe s
section
variable {X:Cx} {pos:Pos}
noncomputable def JDn (i:Nat):TG:=fun v σ H Q=>Q (σ.set i (some v)) H
theorem JCT {i:Nat} {x:Str} (hN:X.N.Nodup) (hi:X.N[i]? = some x) (hx:Loc X.env.scope x) (hf:X.fn x=true∨X.env.scope.names.lookup x=some .local:=by first | exact .inl rfl | exact .inr rfl | assumption):PG X (.Name x pos) (JDn i):=by
 intro pins s σ H v u Q I r h
 exact wpAny_assign_Name (JBY I hN hi hx r (fun s' I'=>⟨_,H,I',h⟩) hf)
noncomputable def gNil:TGs:=fun vs σ H Q=>vs=[]∧Q σ H
noncomputable def gCons (t:TG) (u:TGs):TGs:=fun vs σ H Q=>∃v r,vs=v::r∧t v σ H fun σ' H'=>u r σ' H' Q
theorem JGA:PGs X [] gNil:=by
 intro pins s σ H vs us Q I r h
 obtain ⟨e,h⟩:=h
 subst e
 cases r
 exact assignInOrder_nil ⟨σ,H,I,h⟩
theorem JEz {e:Expr} {es:List Expr} {t:TG} {u:TGs} (h1:PG X e t) (h2:PGs X es u)
  (hs:(assignEach (e::es) X.env).map (·.2)=assign e X.env::(assignEach es X.env).map (·.2):=by rfl):PGs X (e::es) (gCons t u):=by
 intro pins s σ H vs us Q I r h
 obtain ⟨v,vr,e1,h⟩:=h
 subst e1
 cases r with
 | cons r rr =>
  rw [hs]
  refine assignInOrder_cons (thn (h1 pins s σ H _ _ _ I r h) fun _ s1 ⟨σ1,H1,I1,q1⟩=>?_)
  exact h2 pins s1 σ1 H1 _ _ Q I1 rr q1
noncomputable def gTup (K:PySem.W.Frag) (n:Nat) (t:TGs):TG:=fun v σ H Q=>∃a xs,v=.ref a∧SqT K H a xs∧xs.length=n∧t xs σ H Q
theorem JKF {es:List Expr} {k:Nat} {t:TGs} {n:Nat} (hc:X.calm=true) (h:PGs X es t)
  (hn:(assignEach es X.env).length=n:=by rfl) (hst:(assignEach es X.env).findIdx? (·.1)=none:=by rfl):PG X (.Tuple es k pos) (gTup X.K n t):=by
 intro pins s σ H v u Q I r hw
 obtain ⟨a,xs,e1,hq,hl,hw⟩:=hw
 subst e1
 cases r
 obtain ⟨its,rv,ht,hz⟩:=I.tuple hq
 refine assign_Tuple_tuple (I.ok.hd hc) ht (by simp [hn,←hl,rv.length]) hst fun h' hx=>?_
 have I1:Inv X pins σ H { s with heap:=h' }:=I.kept (t':=s.toks) fun b o e=>hx b o (Nat.ne_of_lt (Heap.lt_size e)) e
 exact h pins _ σ H xs _ Q I1 (by simpa using rv) hw
noncomputable def tAsg (te:TE) (g:TG):TS:=fun D σ H=>te σ H fun x H1=>g x σ H1 D.nx
theorem JM5 {tg e:Expr} {te:TE} {g:TG} (he:PE X e te) (hg:PG X tg g) (hs:swapsWithSole [tg] e pos.line X.env=pure false:=by rfl) (hw:swappedStores [tg] e X.env=pure none:=by rfl)
  (h1:(assignEach [tg] X.env).map (·.2)=[assign tg X.env]:=by rfl):PS X (.Assign [tg] e pos) (tAsg te g):=by
 intro pins s σ H D I h
 refine wpAny_Assign_stores (thn (he pins s σ H _ I h) fun v s1 ⟨x,H1,I1,r1,q1⟩=>?_) hs hw
 rw [h1]
 exact thn (hg pins s1 σ H1 x v _ I1 r1 q1) fun _ s2 q=>q
theorem JJx {i:Nat} {x:Str} {e:Expr} {te:TE} {pos':Pos} (hN:X.N.Nodup) (hi:X.N[i]? = some x) (hx:Loc X.env.scope x) (he:PE X e te) (hs:swapsWith e (some (.Name x pos')) pos.line X.env=pure false:=by rfl) (hf:X.fn x=true∨X.env.scope.names.lookup x=some .local:=by first | exact .inl rfl | exact .inr rfl | assumption) :
  PS X (.Assign [.Name x pos'] e pos) (tAsg te (JDn i)):=by
 intro pins s σ H D I h
 refine wpAny_Assign_Name (thn (he pins s σ H _ I h) fun v s1 ⟨y,H1,I1,r1,q1⟩=>?_) hs
 exact JBY I1 hN hi hx r1 (fun s2 I2=>⟨_,H1,I2,q1⟩) hf
noncomputable def tPar (i j:Nat) (ta:TA):TS:=fun D σ H=>ta σ H fun vs H1=>∃v w,vs=[v,w]∧D.nx ((σ.set i (some v)).set j (some w)) H1
theorem JNO {i j:Nat} {x y:Str} {a b:Expr} {ta:TA} {px py pt:Pos} {kt k2 pt2} (hc:X.calm=true) (hN:X.N.Nodup) (hi:X.N[i]? = some x) (hj:X.N[j]? = some y) (hij:i≠j)
  (hx:X.env.scope.names.lookup x=some .local) (hy:X.env.scope.names.lookup y=some .local) (ha:PA X [a,b] ta)
  (hw:swappedStores [.Tuple [.Name x px,.Name y py] kt pt] (.Tuple [a,b] k2 pt2) X.env=pure (some [x,y]))
  (hs:swapsWithSole [.Tuple [.Name x px,.Name y py] kt pt] (.Tuple [a,b] k2 pt2) pos.line X.env=pure false:=by rfl) :
  PS X (.Assign [.Tuple [.Name x px,.Name y py] kt pt] (.Tuple [a,b] k2 pt2) pos) (tPar i j ta):=by
 intro pins s σ H D I h
 rw [exec_Assign_arm]
 refine wpAny_bind (wpAny_standAt ?_)
 rw [hs]
 refine wpAny_bind (wpAny_pure ?_)
 rw [if_neg (by decide)]
 refine wpAny_bind (Tuple_ (thn (ha _ pins s σ H _ I h) fun us s1 ⟨vs,H1,I1,r1,q1⟩=>?_))
 obtain ⟨v,w,e1,q1⟩:=q1
 subst e1
 obtain ⟨u1,u2,rfl,rv,rw'⟩:∃u1 u2,us=[u1,u2]∧RelV v u1∧RelV w u2:=by
  cases r1 with
  | cons p q =>
    cases q with
    | cons p' q' =>
     cases q'
     exact ⟨_,_,rfl,p,p'⟩
 refine wpAny_newObj_type ?_ (by show 2≤sizeLine;decide)
 have I2:Inv X pins σ H1 { s1 with heap:=s1.heap.push { cls:=.type "tuple",data:=.seq [u1,u2].toArray } }:=I1.kept (t':=s1.toks) fun b o e=>Heap.get?_push_of_some _ e
 rw [hw]
 refine wpAny_bind (wpAny_pure ?_)
 show wpAny (model X.prog X.w) X.A (do rule "assign.swapped-stores";let items←unpackItems (.ref s1.heap.objs.size) 2 none;assignInOrder [fun v=>bindName X.env y v,fun v=>bindName X.env x v] items.reverse;pure Flow.next) _ _ _
 refine wpAny_bind (wpAny_rule (wpAny_bind (unpackItems_tuple (items:=#[u1,u2]) (I.ok.hd hc) (IsTup.new s1.heap _) fun h' hx'=>?_)))
 have I3:=I2.kept (h':=h') (t':=s1.toks) fun b o e=>hx' b o (Nat.ne_of_lt (Heap.lt_size e)) e
 show wpAny _ _ (assignInOrder [fun v=>bindName X.env y v,fun v=>bindName X.env x v] [u2,u1] >>= fun _=>pure Flow.next) _ _ _
 refine wpAny_bind (assignInOrder_cons (wpAny_bindName (JBY I3 hN hj (.inl hy) rw' (fun s2 I4=>?_) (.inr hy))))
 refine assignInOrder_cons (wpAny_bindName (JBY I4 hN hi (.inl hx) rv (fun s3 I5=>assignInOrder_nil (wpAny_pure ?_)) (.inr hx)))
 rw [List.set_comm _ _ (Ne.symm hij)] at I5
 exact ⟨_,H1,I5,q1⟩
end
section
variable {X:Cx} {pos:Pos}
noncomputable def JO8 (c:TT) (tb:TS):TS:=fun D σ H=>∃W:Nat→St→Hp→Prop,(∃m,W m σ H)∧∀m σ H,W m σ H →
 c σ H fun b H1=>if b=true then ∃N:St→Hp→Prop,(∀σ' H',N σ' H'→∃m',m'<m∧W m' σ' H')∧tb { D with nx:=N,ct:=N,bk:=D.nx } σ H1 else D.nx σ H1
theorem JIj {c:Expr} {body:List Stmt} {tc:TT} {tb:TS} (hp:PassesOwn (model X.prog X.w) X.A X.env X.xe) (hc:PT X c tc) (hb:PSs X body tb):PS X (.While c body [] pos) (JO8 tc tb):=by
 intro pins s σ H D I h
 obtain ⟨W,⟨m0,w0⟩,turn⟩:=h
 refine wpAny_While (codeAny_whileLoop (fun n s'=>∃σ' H',Inv X pins σ' H' s'∧W n σ' H') ?_ m0 ⟨σ,H,I,w0⟩)
 rintro n s1 ⟨σ1,H1,I1,w1⟩
 refine wpAny_passesOwn hp (thn (hc pins s1 σ1 H1 _ I1 (turn n σ1 H1 w1)) fun b s2 ⟨H2,I2,q2⟩=>?_)
 cases b with
 | true =>
  obtain ⟨N,hN,q2⟩:=q2
  rw [if_pos rfl]
  refine wpAny_passesOwn hp (thn (hb pins s2 σ1 H2 _ I2 q2) fun f s3 q3=>?_)
  cases f with
  | next =>
   obtain ⟨σ3,H3,I3,n3⟩:=q3
   obtain ⟨m',hm,w3⟩:=hN σ3 H3 n3
   exact ⟨m',hm,σ3,H3,I3,w3⟩
  | cont =>
   obtain ⟨σ3,H3,I3,n3⟩:=q3
   obtain ⟨m',hm,w3⟩:=hN σ3 H3 n3
   exact ⟨m',hm,σ3,H3,I3,w3⟩
  | brk=>exact q3
  | ret v=>exact q3
 | false =>
  rw [if_neg Bool.false_ne_true]
  exact wpAny_execs_nil ⟨σ1,H2,I2,q2⟩
end
structure It where
 go:Nat→Hp→Prop
 yld:Nat→Hp→V→Hp→Prop
 stop:Nat→Hp→Prop
noncomputable def FpOk (X:Cx) (pins:List (Addr×Obj)) (H:Hp) (b:Addr):Prop :=
 H b=none∧b≠X.env.locals∧b ∉ X.fs∧(b∈X.ex∨X.s₀.heap.objs.size≤b)∧(∀x c,X.env.cells.lookup x=some c→c≠b)∧∀p∈X.pn++pins,p.1≠b
theorem Inv.fpOk {X:Cx} {pins:List (Addr×Obj)} {σ:St} {H H':Hp} {s:Shared} {b:Addr} (I:Inv X pins σ H s) (hb:s.heap.objs.size≤b) (hn:H' b=none):FpOk X pins H' b:=by
 refine ⟨hn,Nat.ne_of_gt (Nat.lt_of_lt_of_le I.lt hb),I.nofs hb,.inr (Nat.le_trans I.sz hb),fun x c e z=>?_,fun p hp z=>?_⟩
 ·obtain ⟨v,q⟩:=I.cell x c e
  exact absurd (Nat.lt_of_lt_of_le q.lt (by rw [z];exact hb)) (Nat.lt_irrefl _)
 ·exact absurd (Nat.lt_of_lt_of_le (Heap.lt_size (I.pin p hp).1) (by rw [z];exact hb)) (Nat.lt_irrefl _)
structure Turn (P:Program) (w:World) (K:PySem.W.Frag) (tg:Expr) (J:It) (fp:List Addr) (it:Addr) (tn:Nat→Heap→Prop):Prop where
 mem:it∈fp
 obj:∀i h,tn i h→∀b∈fp,∃o,h.get? b=some o∧∀v,o.data≠.cell v
 keep:∀i h h',tn i h→(∀b∈fp,∀o,h.get? b=some o→h'.get? b=some o)→tn i h'
 item:∀(X:Cx),X.prog=P→X.w=w→X.K=K→X.calm=true→∀(i:Nat) (pins:List (Addr×Obj)) (s:Shared) (σ:St) (H:Hp) (E:Value→Shared→Prop),Inv X pins σ H s→(∀b∈fp,FpOk X pins H b)→tn i s.heap→J.go i H →
  wpAny (model P w) X.A (pyNext (.ref it)) (fun r s1=>∃u,r=some u ∧
   wpAny (model P w) X.A (letOwnedTupleGo tg (.ref it) u) (fun _ s2=>∃x H',Inv X pins σ H' s2∧RelV x u∧J.yld i H x H'∧tn (i+1) s2.heap∧∀b∈fp,H' b=none) E s1) E s
 done:∀(X:Cx),X.prog=P→X.w=w→X.K=K→X.calm=true→∀(i:Nat) (pins:List (Addr×Obj)) (s:Shared) (σ:St) (H:Hp) (E:Value→Shared→Prop),Inv X pins σ H s→(∀b∈fp,FpOk X pins H b)→tn i s.heap→J.stop i H →
  wpAny (model P w) X.A (pyNext (.ref it)) (fun r s1=>r=none∧Inv X pins σ H s1) E s
 self:∀(A:Around) (i:Nat) (s:Shared) (Q:Value→Shared→Prop) (E:Value→Shared→Prop),tn i s.heap→Q (.ref it) s→wpAny (model P w) A (pyIter (.ref it)) Q E s
noncomputable abbrev TI:=St→Hp→(It→Hp→Prop)→Prop
noncomputable def PIE (X:Cx) (pins:List (Addr×Obj)) (σ:St) (tg:Expr) (R:It→Hp→Prop) (itv:Value) (s2:Shared):Prop :=
 ∃(it:Addr) (fp:List Addr) (tn:Nat→Heap→Prop) (J:It) (H':Hp),itv=.ref it∧Inv X pins σ H' s2∧Turn X.prog X.w X.K tg J fp it tn∧tn 0 s2.heap∧(∀b∈fp,FpOk X pins H' b)∧R J H'
noncomputable def PI (X:Cx) (tg iter:Expr) (wi:TI):Prop :=
 ∀(pins:List (Addr×Obj)) (s:Shared) (σ:St) (H:Hp) (R:It→Hp→Prop),Inv X pins σ H s→wi σ H R →
  wpAny (model X.prog X.w) X.A (eval iter X.env) (fun v s1=>wpAny (model X.prog X.w) X.A (pyIter v) (PIE X pins σ tg R) X.xe s1) X.xe s
theorem JKk {M:Model} {A:Around} {E:Value→Shared→Prop} {s:Shared} {tg:Expr} {it:Addr} {u:Value} {o:Obj} {n:String} {vs:Array Value} {Q:Unit→Shared→Prop} (ho:s.heap.get? it=some o) (hc:o.cls=.type n) (hd:o.data=.fields vs)
  (hn:["enumerate","zip","dict_itemiterator","dict_reverseitemiterator","odict_iterator","itertools.zip_longest","itertools.pairwise"].contains n=false) (hQ:Q () s):wpAny M A (letOwnedTupleGo tg (.ref it) u) Q E s:=by
 unfold letOwnedTupleGo
 cases tg<;>first
  | exact wpAny_pure hQ
  | (cases u<;>first
      | exact wpAny_pure hQ
      |(refine wpAny_bind (wpAny_load ho ?_)
        rw [hc,hd]
        show wpAny M A (if (["enumerate","zip","dict_itemiterator","dict_reverseitemiterator","odict_iterator","itertools.zip_longest","itertools.pairwise"].contains n&&vs[0]? == some (rawInt _))=true then _ else _) Q E s
        rw [if_neg (by intro h;rw [hn,Bool.false_and] at h;cases h)]
        exact wpAny_pure hQ))
noncomputable def Itl (K:PySem.W.Frag) (a:Addr):It :=
 ⟨fun i H=>∃xs x,SqL K H a xs∧xs[i]? = some x,fun i H x H'=>H'=H∧∀xs,SqL K H a xs→xs[i]? = some x,fun i H=>∃xs,SqL K H a xs∧xs.length≤i⟩
noncomputable def Itt (K:PySem.W.Frag) (a:Addr):It :=
 ⟨fun i H=>∃xs x,SqT K H a xs∧xs[i]? = some x,fun i H x H'=>H'=H∧∀xs,SqT K H a xs→xs[i]? = some x,fun i H=>∃xs,SqT K H a xs∧xs.length≤i⟩
noncomputable def Itr (lo:Int) (n:Nat):It:=⟨fun i _=>i<n,fun i H x H'=>H'=H∧x=.int (lo+i),fun i _=>n≤i⟩
theorem JHO {P:Program} {w:World} {K:PySem.W.Frag} {tg:Expr} (a it:Addr):Turn P w K tg (Itl K a) [it] it (fun i h=>h.IsListIter it a i) where
 mem:=by simp
 obj:=fun i h st b hb=>by
  have e:b=it:=by simpa using hb
  subst e
  obtain ⟨o,e,c,d⟩:=st
  exact ⟨o,e,fun v z=>by rw [d] at z;cases z⟩
 keep:=fun i h h' st k=>st.at fun o e=>k it (by simp) o e
 item:=by
  intro X hP hw hK hc i pins s σ H E I hf st hg
  subst hP hw hK
  obtain ⟨xs,x,hq,hx⟩:=hg
  obtain ⟨its,rv,p,hz⟩:=I.list hq
  obtain ⟨u,hu,ru⟩:=rv.get hx
  obtain ⟨f0,f1,f2,f3,f4,f5⟩:=hf it (by simp)
  refine wpAny_pyNext_list_item st p.isList (x:=u) (by simpa using hu) fun h' st' sb=>?_
  have I1:Inv X pins σ H { s with heap:=h' }:=I.turned (t':=s.toks) (fun b o hb e=>(sb.2 b hb).trans e) f0 f1 f3 f4 f5
  obtain ⟨o,e,c,d⟩:=id st'
  exact ⟨u,rfl,JKk (s:={ s with heap:=h' }) e c d (by decide) ⟨x,H,I1,ru,⟨rfl,fun ys hy=>by rw [I.list_inj hy hq];exact hx⟩,st',fun b hb=>(hf b hb).1⟩⟩
 done:=by
  intro X hP hw hK hc i pins s σ H E I hf st hg
  subst hP hw hK
  obtain ⟨xs,hq,hx⟩:=hg
  obtain ⟨its,rv,p,hz⟩:=I.list hq
  obtain ⟨f0,f1,f2,f3,f4,f5⟩:=hf it (by simp)
  have hl:=rv.length
  exact wpAny_pyNext_list_end (I.ok.hd hc) st p.isList (by simp;omega) fun h' eb=>⟨rfl,I.turned (t':=s.toks) (fun b o hb e=>eb b o hb e) f0 f1 f3 f4 f5⟩
 self:=fun _ _ _ _ _ st h=>wpAny_pyIter_listiter st h
theorem JFZ {P:Program} {w:World} {K:PySem.W.Frag} {tg:Expr} (a it:Addr):Turn P w K tg (Itt K a) [it] it (fun i h=>h.IsTupleIter it a i) where
 mem:=by simp
 obj:=fun i h st b hb=>by
  have e:b=it:=by simpa using hb
  subst e
  obtain ⟨o,e,c,d⟩:=st
  exact ⟨o,e,fun v z=>by rw [d] at z;cases z⟩
 keep:=fun i h h' st k=>st.at fun o e=>k it (by simp) o e
 item:=by
  intro X hP hw hK hc i pins s σ H E I hf st hg
  subst hP hw hK
  obtain ⟨xs,x,hq,hx⟩:=hg
  obtain ⟨its,rv,p,hz⟩:=I.tuple hq
  obtain ⟨u,hu,ru⟩:=rv.get hx
  obtain ⟨f0,f1,f2,f3,f4,f5⟩:=hf it (by simp)
  refine wpAny_pyNext_tuple_item st (show s.heap.IsTuple a its.toArray from p) (x:=u) (by simpa using hu) fun h' st' sb=>?_
  have I1:Inv X pins σ H { s with heap:=h' }:=I.turned (t':=s.toks) (fun b o hb e=>(sb.2 b hb).trans e) f0 f1 f3 f4 f5
  obtain ⟨o,e,c,d⟩:=id st'
  exact ⟨u,rfl,JKk (s:={ s with heap:=h' }) e c d (by decide) ⟨x,H,I1,ru,⟨rfl,fun ys hy=>by rw [I.tuple_inj hy hq];exact hx⟩,st',fun b hb=>(hf b hb).1⟩⟩
 done:=by
  intro X hP hw hK hc i pins s σ H E I hf st hg
  subst hP hw hK
  obtain ⟨xs,hq,hx⟩:=hg
  obtain ⟨its,rv,p,hz⟩:=I.tuple hq
  obtain ⟨f0,f1,f2,f3,f4,f5⟩:=hf it (by simp)
  have hl:=rv.length
  exact wpAny_pyNext_tuple_end (I.ok.hd hc) st (show s.heap.IsTuple a its.toArray from p) (by simp;omega) fun h' eb=>⟨rfl,I.turned (t':=s.toks) (fun b o hb e=>eb b o hb e) f0 f1 f3 f4 f5⟩
 self:=fun _ _ _ _ _ st h=>wpAny_pyIter_tupleiter st h
theorem JFy {P:Program} {w:World} {K:PySem.W.Frag} {tg:Expr} (it:Addr) (lo:Int) (n:Nat):Turn P w K tg (Itr lo n) [it] it (fun i h=>IsRangeIter h it (lo+(i:Nat)*1) ((n:Int) - (i:Nat)) 1) where
 mem:=by simp
 obj:=fun i h st b hb=>by
  have e:b=it:=by simpa using hb
  subst e
  exact ⟨_,st,fun v z=>by
   have z':Data.fields _=Data.cell v:=z
   cases z'⟩
 keep:=fun i h h' st k=>k it (by simp) _ st
 item:=by
  intro X hP hw hK hc i pins s σ H E I hf st hg
  subst hP hw hK
  obtain ⟨f0,f1,f2,f3,f4,f5⟩:=hf it (by simp)
  have W:=Walks.range (prog:=X.prog) (w:=X.w) (I.ok.hd hc) it lo 1 n
  refine W.item i s _ _ hg st fun v h' tk hv st' kk=>?_
  obtain ⟨t,rfl⟩:=hv
  have I1:Inv X pins σ H { s with heap:=h',toks:=tk }:=I.turned (fun b o hb e=>kk b o (by simpa using hb) e) f0 f1 f3 f4 f5
  refine ⟨_,rfl,JKk (s:={ s with heap:=h',toks:=tk }) (n:="range_iterator") st' rfl rfl (by decide) ⟨.int (lo+i),H,I1,⟨t,?_⟩,⟨rfl,rfl⟩,st',fun b hb=>(hf b hb).1⟩⟩
  rw [Int.mul_one]
 done:=by
  intro X hP hw hK hc i pins s σ H E I hf st hg
  subst hP hw hK
  obtain ⟨f0,f1,f2,f3,f4,f5⟩:=hf it (by simp)
  exact wpAny_pyNext_range_end (I.ok.hd hc) st (by have:n≤i:=hg;omega) fun h' eb=>⟨rfl,I.turned (t':=s.toks) (fun b o hb e=>eb b o hb e) f0 f1 f3 f4 f5⟩
 self:=fun _ _ _ _ _ st h=>wpAny_pyIter_rangeiter st h
end L2
namespace L2
open PySem PySem.Spec PyProof.Rows
section
variable {X:Cx} {tg:Expr}
noncomputable def iList (K:PySem.W.Frag) (tl:TE):TI:=fun σ H R=>tl σ H fun x H1=>∃a,x=.ref a∧(∃xs,SqL K H1 a xs)∧R (Itl K a) H1
noncomputable def iTup (K:PySem.W.Frag) (tl:TE):TI:=fun σ H R=>tl σ H fun x H1=>∃a,x=.ref a∧(∃xs,SqT K H1 a xs)∧R (Itt K a) H1
theorem JG2 {l:Expr} {tl:TE} (hl:PE X l tl):PI X tg l (iList X.K tl):=by
 intro pins s σ H R I h
 refine thn (hl pins s σ H _ I h) fun v s1 ⟨x,H1,I1,r1,q1⟩=>?_
 obtain ⟨a,e,⟨xs,hq⟩,q⟩:=q1
 subst e
 cases r1
 obtain ⟨its,rv,p,hz⟩:=I1.list hq
 refine wpAny_pyIter_list p.isList ?_
 refine ⟨s1.heap.objs.size,[s1.heap.objs.size],_,_,H1,rfl,I1.kept (t':=s1.toks) fun b o e=>Heap.get?_push_of_some _ e,JHO a _,⟨_,Heap.get?_push_size _ rfl,rfl,rfl⟩,fun b hb=>?_,q⟩
 have e:b=s1.heap.objs.size:=by simpa using hb
 subst e
 exact I1.fpOk (Nat.le_refl _) (I1.hok.fresh (Nat.le_refl _))
theorem JPQ {l:Expr} {tl:TE} (hl:PE X l tl):PI X tg l (iTup X.K tl):=by
 intro pins s σ H R I h
 refine thn (hl pins s σ H _ I h) fun v s1 ⟨x,H1,I1,r1,q1⟩=>?_
 obtain ⟨a,e,⟨xs,hq⟩,q⟩:=q1
 subst e
 cases r1
 obtain ⟨its,rv,p,hz⟩:=I1.tuple hq
 refine wpAny_pyIter_tuple (show s1.heap.IsTuple a its.toArray from p) ?_
 refine ⟨s1.heap.objs.size,[s1.heap.objs.size],_,_,H1,rfl,I1.kept (t':=s1.toks) fun b o e=>Heap.get?_push_of_some _ e,JFZ a _,⟨_,Heap.get?_push_size _ rfl,rfl,rfl⟩,fun b hb=>?_,q⟩
 have e:b=s1.heap.objs.size:=by simpa using hb
 subst e
 exact I1.fpOk (Nat.le_refl _) (I1.hok.fresh (Nat.le_refl _))
theorem JFY {pins:List (Addr×Obj)} {σ:St} {H:Hp} {s:Shared} {R:It→Hp→Prop} {E:Value→Shared→Prop} {lo hi:Int} {t u v:Tok} {tk:Nat} (I:Inv X pins σ H s) (h1:-(2 ^ 62)≤lo) (h2:lo<2 ^ 62) (h3:-(2 ^ 62)≤hi) (h4:hi<2 ^ 62)
  (q:R (Itr lo (hi - lo).toNat) H):wpAny (model X.prog X.w) X.A (pyIter (.ref s.heap.objs.size)) (PIE X pins σ tg R) E { s with heap:=s.heap.push { cls:=.type "range",data:=.fields #[.int lo t,.int hi u,.int 1 v] },toks:=tk }:=by
 refine wpAny_pyIter_range (IsRange.new ..) (small_one h1 h2 h3 h4) ?_
 have I1:Inv X pins σ H { s with heap:=s.heap.push { cls:=.type "range",data:=.fields #[.int lo t,.int hi u,.int 1 v] },toks:=tk }:=I.kept fun b o e=>Heap.get?_push_of_some _ e
 refine ⟨(s.heap.push { cls:=.type "range",data:=.fields #[.int lo t,.int hi u,.int 1 v] }).objs.size,[(s.heap.push { cls:=.type "range",data:=.fields #[.int lo t,.int hi u,.int 1 v] }).objs.size],_,_,H,rfl,
  I1.kept (t':=tk) fun b o e=>Heap.get?_push_of_some _ e,JFy _ lo (hi - lo).toNat,?_,fun b hb=>?_,q⟩
 ·have e1:lo+((0:Nat):Int)*1=lo:=by simp
  have e2:(((hi - lo).toNat:Nat):Int) - ((0:Nat):Int)=Builtin.Range.rangeSize lo hi 1:=by rw [rangeSize_one];split<;>omega
  show IsRangeIter _ _ (lo+((0:Nat):Int)*1) ((((hi - lo).toNat:Nat):Int) - ((0:Nat):Int)) 1
  rw [e1,e2]
  exact Heap.get?_push_size _ rfl
 ·have e:b=(s.heap.push { cls:=.type "range",data:=.fields #[.int lo t,.int hi u,.int 1 v] }).objs.size:=by simpa using hb
  subst e
  exact I1.fpOk (Nat.le_refl _) (I1.hok.fresh (Nat.le_refl _))
noncomputable def iRng1 (ta:TA):TI:=fun σ H R=>ta σ H fun vs H1=>∃j:Int,vs=[.int j]∧-(2 ^ 62)≤j∧j<2 ^ 62∧R (Itr 0 j.toNat) H1
noncomputable def iRng2 (ta:TA):TI:=fun σ H R=>ta σ H fun vs H1=>∃i j:Int,vs=[.int i,.int j]∧(-(2 ^ 62)≤i∧i<2 ^ 62∧-(2 ^ 62)≤j∧j<2 ^ 62)∧R (Itr i (j - i).toNat) H1
theorem JGQ {a:Expr} {ta:TA} {p pos:Pos} (hg:Gl X "range") (hm:X.mg "range"=none) (ha:PA X [a] ta) (hs:starEach [a] X.env=[(false,eval a X.env)]:=by rfl):PI X tg (.Call (.Name "range" p) [a] [] pos) (iRng1 ta):=by
 intro pins s σ H R I h
 refine Call_ (JDg I hg hm boot_range (PyProof.Rows.callWith_type1 (thn (ha pos pins s σ H _ I h) fun us s1 ⟨vs,H1,I1,r1,q1⟩=>?_) hs rfl))
 obtain ⟨j,e,q1,q2,q⟩:=q1
 subst e
 cases r1 with
 | cons r rr =>
  cases rr
  obtain ⟨t,rfl⟩:=r
  exact call_range_1 (JFY I1 (by omega) (by omega) q1 q2 (by simpa using q))
theorem JGu {a b:Expr} {ta:TA} {p pos:Pos} (hg:Gl X "range") (hm:X.mg "range"=none) (ha:PA X [a,b] ta) (hs:starEach [a,b] X.env=[(false,eval a X.env),(false,eval b X.env)]:=by rfl) (hs2:starEach [b] X.env=[(false,eval b X.env)]:=by rfl) :
  PI X tg (.Call (.Name "range" p) [a,b] [] pos) (iRng2 ta):=by
 intro pins s σ H R I h
 refine Call_ (JDg I hg hm boot_range (PyProof.Rows.callWith_type1 (thn (ha pos pins s σ H _ I h) fun us s1 ⟨vs,H1,I1,r1,q1⟩=>?_) (by rw [hs,hs2]) (by rw [hs2];rfl)))
 obtain ⟨i,j,e,⟨q1,q2,q3,q4⟩,q⟩:=q1
 subst e
 cases r1 with
 | cons r rr =>
  cases rr with
  | cons r' rr =>
   cases rr
   obtain ⟨t,rfl⟩:=r
   obtain ⟨t',rfl⟩:=r'
   exact call_range_2 (JFY I1 q1 q2 q3 q4 q)
noncomputable def tFor (wi:TI) (g:TG) (tb:TS):TS:=fun D σ H=>wi σ H fun J H1=>∃W:Nat→Nat→St→Hp→Prop,(∃m,W 0 m σ H1)∧∀i m σ H,W i m σ H →
 (J.stop i H∧D.nx σ H)∨(J.go i H∧∃N:St→Hp→Prop,(∀σ' H',N σ' H'→∃m',m'<m∧W (i+1) m' σ' H')∧∀x H',J.yld i H x H'→g x σ H' fun σ2 H2=>tb { D with nx:=N,ct:=N,bk:=D.nx } σ2 H2)
noncomputable def JB0 (fp:List Addr) (h:Heap):List (Addr×Obj):=fp.filterMap fun b=>(h.get? b).map fun o=>(b,o)
theorem JA3 {fp:List Addr} {h:Heap} {b:Addr} {o:Obj} (hb:b∈fp) (e:h.get? b=some o):(b,o)∈JB0 fp h:=List.mem_filterMap.mpr ⟨b,hb,by rw [e];rfl⟩
theorem JEF {fp:List Addr} {h:Heap} {p:Addr×Obj} (hp:p∈JB0 fp h):p.1∈fp∧h.get? p.1=some p.2:=by
 obtain ⟨b,hb,e⟩:=List.mem_filterMap.mp hp
 cases q:h.get? b with
 | none=>rw [q] at e;cases e
 | some o =>
  rw [q] at e
  have e':(b,o)=p:=Option.some.inj e
  subst e'
  exact ⟨hb,q⟩
theorem Inv.pinned {pins:List (Addr×Obj)} {σ:St} {H:Hp} {s:Shared} {fp:List Addr} (I:Inv X pins σ H s) (hf:∀b∈fp,FpOk X pins H b) (ho:∀b∈fp,∃o,s.heap.get? b=some o∧∀v,o.data≠.cell v):Inv X (pins++JB0 fp s.heap) σ H s :=
 I.pins_of fun p hp=>(List.mem_append.mp hp).elim (fun z=>I.pin p (List.mem_append_right _ z)) fun z=>by
  obtain ⟨hb,e⟩:=JEF z
  obtain ⟨f0,f1,f2,_⟩:=hf p.1 hb
  obtain ⟨o,e',d⟩:=ho p.1 hb
  rw [e] at e';cases e'
  exact ⟨e,f0,f1,f2,d⟩
theorem Inv.unpinned {pins pl:List (Addr×Obj)} {σ:St} {H:Hp} {s:Shared} (I:Inv X (pins++pl) σ H s):Inv X pins σ H s:=I.pins_of fun p hp=>I.pin p (List.mem_append_right _ (List.mem_append_left _ hp))
theorem JKT {iter:Expr} {body:List Stmt} {wi:TI} {g:TG} {tb:TS} {pos:Pos} (hp:PassesOwn (model X.prog X.w) X.A X.env X.xe) (hc:X.calm=true) (hi:PI X tg iter wi) (hg:PG X tg g) (hb:PSs X body tb)
  (hs:∀x,foldedSetIterable iter X.env x=pure x:=by intro _;rfl):PS X (.For tg iter body [] pos) (tFor wi g tb):=by
 intro pins s σ H D I h
 refine wpAny_For (thn (hi pins s σ H _ I h) fun v s1 h1=>thn h1 fun itv s2 h2=>?_) hs
 obtain ⟨it,fp,tn,J,H2,e,I2,T,st2,f2,W,⟨m0,w0⟩,turn⟩:=h2
 subst e
 have stat:∀ {H':Hp},(∀b∈fp,H' b=none)→∀b∈fp,FpOk X pins H' b:=fun hn b hb=>⟨hn b hb,(f2 b hb).2⟩
 refine codeAny_forLoop_any (fun n s'=>∃i σ' H',Inv X pins σ' H' s'∧tn i s'.heap∧(∀b∈fp,H' b=none)∧W i n σ' H') ?_ m0 ⟨0,σ,H2,I2,st2,fun b hb=>(f2 b hb).1,w0⟩
 rintro n s3 ⟨i,σ3,H3,I3,st3,fr3,w3⟩
 rcases turn i n σ3 H3 w3 with ⟨stop,qn⟩ | ⟨go,N,hN,step⟩
 ·refine wpAny_passesOwn hp (thn (T.done X rfl rfl rfl hc i pins s3 σ3 H3 X.xe I3 (stat fr3) st3 stop) fun r s4 ⟨hr,I4⟩=>?_)
  subst hr
  exact wpAny_execs_nil ⟨σ3,H3,I4,qn⟩
 ·refine wpAny_passesOwn hp (thn (T.item X rfl rfl rfl hc i pins s3 σ3 H3 X.xe I3 (stat fr3) st3 go) fun r s4 ⟨u,hr,h4⟩=>?_)
  subst hr
  refine wpAny_passesOwn hp (thn h4 fun _ s5 ⟨x,H5,I5,r5,y5,st5,fr5⟩=>?_)
  have I5':=I5.pinned (stat fr5) (T.obj _ _ st5)
  refine wpAny_passesOwn hp (thn (hg _ s5 σ3 H5 x u _ I5' r5 (step x H5 y5)) fun _ s6 ⟨σ6,H6,I6,q6⟩=>?_)
  refine wpAny_passesOwn hp (thn (hb _ s6 σ6 H6 _ I6 q6) fun f s7 q7=>?_)
  have again:∀ {σ7:St} {H7:Hp},Inv X (pins++JB0 fp s5.heap) σ7 H7 s7→N σ7 H7→∃m,m<n∧∃i σ' H',Inv X pins σ' H' s7∧tn i s7.heap∧(∀b∈fp,H' b=none)∧W i m σ' H':=fun {σ7 H7} I7 n7=>by
    obtain ⟨m',hm,w7⟩:=hN σ7 H7 n7
    refine ⟨m',hm,i+1,σ7,H7,I7.unpinned,T.keep _ _ _ st5 fun b hb o e=>(I7.pin (b,o) (List.mem_append_right _ (List.mem_append_right _ (JA3 hb e)))).1,fun b hb=>?_,w7⟩
    obtain ⟨o,e,d⟩:=T.obj _ _ st5 b hb
    exact (I7.pin (b,o) (List.mem_append_right _ (List.mem_append_right _ (JA3 hb e)))).2.1
  cases f with
  | next=>obtain ⟨σ7,H7,I7,n7⟩:=q7;exact again I7 n7
  | cont=>obtain ⟨σ7,H7,I7,n7⟩:=q7;exact again I7 n7
  | brk=>obtain ⟨σ7,H7,I7,q7⟩:=q7;exact ⟨σ7,H7,I7.unpinned,q7⟩
  | ret v=>obtain ⟨x7,σ7,H7,I7,r7,q7⟩:=q7;exact ⟨x7,σ7,H7,I7.unpinned,r7,q7⟩
end
end L2
namespace L2
open PySem PySem.Spec PyProof.Rows
noncomputable abbrev R2:=V→V→Hp→VK→Prop
noncomputable def OpR (X:Cx) (f:Value→Value→Sem Value) (r:R2):Prop :=
 ∀(pins:List (Addr×Obj)) (s:Shared) (σ:St) (H:Hp) (x y:V) (v u:Value) (Q:VK),Inv X pins σ H s→RelV x v→RelV y u→r x y H Q →
  wpAny (model X.prog X.w) X.A (f v u) (EP X pins σ Q) X.xe s
noncomputable def UnR (X:Cx) (f:Value→Sem Value) (r:V→Hp→VK→Prop):Prop :=
 ∀(pins:List (Addr×Obj)) (s:Shared) (σ:St) (H:Hp) (x:V) (v:Value) (Q:VK),Inv X pins σ H s→RelV x v→r x H Q →
  wpAny (model X.prog X.w) X.A (f v) (EP X pins σ Q) X.xe s
noncomputable def CallR (X:Cx) (f:Value) (r:List V→Hp→VK→Prop):Prop :=
 ∀(pins:List (Addr×Obj)) (s:Shared) (σ:St) (H:Hp) (xs:List V) (us:List Value) (Q:VK),Inv X pins σ H s→Vals xs us→r xs H Q →
  wpAny (model X.prog X.w) X.A (call f us) (EP X pins σ Q) X.xe s
noncomputable def TruR (X:Cx) (r:V→Hp→(Bool→Hp→Prop)→Prop):Prop :=
 ∀(pins:List (Addr×Obj)) (s:Shared) (σ:St) (H:Hp) (x:V) (v:Value) (Q:Bool→Hp→Prop),Inv X pins σ H s→RelV x v→r x H Q →
  wpAny (model X.prog X.w) X.A (truthy v) (TP X pins σ Q) X.xe s
noncomputable def tOp (r:R2) (ta tb:TE):TE:=fun σ H Q=>ta σ H fun x H1=>tb σ H1 fun y H2=>r x y H2 Q
noncomputable def tUn (r:V→Hp→VK→Prop) (ta:TE):TE:=fun σ H Q=>ta σ H fun x H1=>r x H1 Q
noncomputable def rI (C:Int→Int→Prop) (g:Int→Int→V):R2:=fun x y H Q=>∃i j,x=.int i∧y=.int j∧C i j∧Q (g i j) H
noncomputable def rI0 (g:Int→Int→V):R2:=fun x y H Q=>∃i j,x=.int i∧y=.int j∧Q (g i j) H
noncomputable def rU (g:Int→V):V→Hp→VK→Prop:=fun x H Q=>∃i,x=.int i∧Q (g i) H
section
variable {X:Cx} {a b c:Expr} {ta tb tc:TE} {pos:Pos}
theorem binT (ha:PE X a ta) (hb:PE X b tb) {pins:List (Addr×Obj)} {s:Shared} {σ:St} {H:Hp} {R:V→V→Hp→Prop} (I:Inv X pins σ H s)
  (h:ta σ H fun x H1=>tb σ H1 fun y H2=>R x y H2) {Q:Value→Shared→Prop} {f:Value→Value→Sem Value}
  (hf:∀v u s2 x y H2,Inv X pins σ H2 s2→RelV x v→RelV y u→R x y H2→wpAny (model X.prog X.w) X.A (f v u) Q X.xe s2) :
  wpAny (model X.prog X.w) X.A (eval a X.env) (fun v s₁=>wpAny (model X.prog X.w) X.A (eval b X.env) (fun u s₂=>wpAny (model X.prog X.w) X.A (f v u) Q X.xe s₂) X.xe s₁) X.xe s:=by
 refine thn (ha pins s σ H _ I h) fun v s1 ⟨x,H1,I1,r1,q1⟩=>?_
 refine thn (hb pins s1 σ H1 _ I1 q1) fun u s2 ⟨y,H2,I2,r2,q2⟩=>?_
 exact hf v u s2 x y H2 I2 r1 r2 q2
theorem JMs {op:Operator} {r:R2} (ho:OpR X (binaryOp op) r) (ha:PE X a ta) (hb:PE X b tb):PE X (.BinOp a op b pos) (tOp r ta tb):=by
 intro pins s σ H Q I h
 exact wpAny_BinOp (binT ha hb I h fun v u s2 x y H2 I2 rx ry q=>ho pins s2 σ H2 x y v u Q I2 rx ry q)
theorem JMU {op:UnaryOp} {r:V→Hp→VK→Prop} (ho:UnR X (unaryOp op) r) (ha:PE X a ta):PE X (.UnaryOp op a pos) (tUn r ta):=by
 intro pins s σ H Q I h
 exact UnaryOp_ (thn (ha pins s σ H _ I h) fun v s1 ⟨x,H1,I1,r1,q1⟩=>ho pins s1 σ H1 x v Q I1 r1 q1)
theorem opI {f:Value→Value→Sem Value} {C:Int→Int→Prop} {g:Int→Int→Int}
  (rule:∀(i j:Int) (t u:Tok) (s:Shared) (Q:Value→Shared→Prop) (E:Value→Shared→Prop),C i j→Q (.int (g i j) s.toks) { s with toks:=s.toks+1 }→wpAny (model X.prog X.w) X.A (f (.int i t) (.int j u)) Q E s) :
  OpR X f (rI C fun i j=>.int (g i j)):=by
 intro pins s σ H x y v u Q I rx ry h
 obtain ⟨i,j,rfl,rfl,hc,q⟩:=h
 obtain ⟨t,rfl⟩:=rx
 obtain ⟨t',rfl⟩:=ry
 exact rule i j t t' s _ _ hc ⟨.int (g i j),H,I.tok _,⟨_,rfl⟩,q⟩
theorem opI0 {f:Value→Value→Sem Value} {g:Int→Int→Int}
  (rule:∀(i j:Int) (t u:Tok) (s:Shared) (Q:Value→Shared→Prop) (E:Value→Shared→Prop),Q (.int (g i j) s.toks) { s with toks:=s.toks+1 }→wpAny (model X.prog X.w) X.A (f (.int i t) (.int j u)) Q E s) :
  OpR X f (rI0 fun i j=>.int (g i j)):=by
 intro pins s σ H x y v u Q I rx ry h
 obtain ⟨i,j,rfl,rfl,q⟩:=h
 obtain ⟨t,rfl⟩:=rx
 obtain ⟨t',rfl⟩:=ry
 exact rule i j t t' s _ _ ⟨.int (g i j),H,I.tok _,⟨_,rfl⟩,q⟩
theorem opB0 {f:Value→Value→Sem Value} {g:Int→Int→Bool}
  (rule:∀(i j:Int) (t u:Tok) (s:Shared) (Q:Value→Shared→Prop) (E:Value→Shared→Prop),Q (.bool (g i j)) s→wpAny (model X.prog X.w) X.A (f (.int i t) (.int j u)) Q E s) :
  OpR X f (rI0 fun i j=>.bl (g i j)):=by
 intro pins s σ H x y v u Q I rx ry h
 obtain ⟨i,j,rfl,rfl,q⟩:=h
 obtain ⟨t,rfl⟩:=rx
 obtain ⟨t',rfl⟩:=ry
 exact rule i j t t' s _ _ ⟨.bl (g i j),H,I,rfl,q⟩
noncomputable def CPow (i j:Int):Prop:=0≤j∧j≤1000000∧i.natAbs<2 ^ 64
noncomputable def CMul (i j:Int):Prop:=(-(2 ^ 64)<i∧i<2 ^ 64)∨(-(2 ^ 64)<j∧j<2 ^ 64)
theorem CMul.ok {i j:Int} (h:CMul i j):IntMulOk i j:=by
 rcases h with ⟨h1,h2⟩ | ⟨h1,h2⟩
 ·exact .of_left (intBits_le_64 h1 h2)
 ·exact .of_right (intBits_le_64 h1 h2)
theorem JNo:OpR X (binaryOp .Add) (rI0 fun i j=>.int (i+j)):=opI0 fun _ _ _ _ _ _ _ q=>add_int q
theorem JM4:OpR X (binaryOp .Sub) (rI0 fun i j=>.int (i - j)):=opI0 fun _ _ _ _ _ _ _ q=>sub_int q
theorem JLS:OpR X (binaryOp .Mod) (rI (fun _ j=>j≠0) fun i j=>.int (i.fmod j)):=opI fun _ _ _ _ _ _ _ hc q=>mod_int' hc q
theorem JNE:OpR X (binaryOp .Pow) (rI CPow fun i j=>.int (i ^ j.toNat)):=opI fun _ _ _ _ _ _ _ hc q=>pow_int_small hc.1 hc.2.1 hc.2.2 q
theorem unI {f:Value→Sem Value} {g:Int→Int}
  (rule:∀(i:Int) (t:Tok) (s:Shared) (Q:Value→Shared→Prop) (E:Value→Shared→Prop),Q (.int (g i) s.toks) { s with toks:=s.toks+1 }→wpAny (model X.prog X.w) X.A (f (.int i t)) Q E s) :
  UnR X f (rU fun i=>.int (g i)):=by
 intro pins s σ H x v Q I rx h
 obtain ⟨i,rfl,q⟩:=h
 obtain ⟨t,rfl⟩:=rx
 exact rule i t s _ _ ⟨.int (g i),H,I.tok _,⟨_,rfl⟩,q⟩
theorem JKU:UnR X (unaryOp .USub) (rU fun i=>.int (-i)):=unI fun _ _ _ _ _ q=>neg_int q
end
section
variable {X:Cx} {a b c:Expr} {ta tb tc:TE} {pos:Pos}
theorem op_lt:OpR X (compareOp .Lt) (rI0 fun i j=>.bl (decide (i<j))):=opB0 fun _ _ _ _ _ _ _ q=>lt_int q
theorem op_le:OpR X (compareOp .LtE) (rI0 fun i j=>.bl (decide (i≤j))):=opB0 fun _ _ _ _ _ _ _ q=>le_int q
theorem op_gt:OpR X (compareOp .Gt) (rI0 fun i j=>.bl (decide (j<i))):=opB0 fun _ _ _ _ _ _ _ q=>gt_int q
theorem op_ge:OpR X (compareOp .GtE) (rI0 fun i j=>.bl (decide (j≤i))):=opB0 fun _ _ _ _ _ _ _ q=>ge_int q
theorem OpR.or {f:Value→Value→Sem Value} {r r':R2} (h:OpR X f r) (h':OpR X f r'):OpR X f (fun x y H Q=>r x y H Q∨r' x y H Q):=by
 intro pins s σ H x y v u Q I rx ry q
 rcases q with q | q
 ·exact h pins s σ H x y v u Q I rx ry q
 ·exact h' pins s σ H x y v u Q I rx ry q
theorem JEb {op:CmpOp} {r:R2} (ho:OpR X (compareOp op) r) (ha:PE X a ta) (hb:PE X b tb) (hm:behindInMarks op b=false):PE X (.Compare a [op] [b] pos) (tOp r ta tb):=by
 intro pins s σ H Q I h
 exact wpAny_Compare1 (binT ha hb I h fun v u s2 x y H2 I2 rx ry q=>ho pins s2 σ H2 x y v u Q I2 rx ry q) hm
noncomputable def JPH (t:TE):TT:=fun σ H Q=>t σ H fun x H'=>∃k,x=.bl k∧Q k H'
theorem JEY {op:CmpOp} {r:R2} (ho:OpR X (compareOp op) r) (ha:PE X a ta) (hb:PE X b tb) (hm:behindInMarks op b=false):PT X (.Compare a [op] [b] pos) (JPH (tOp r ta tb)):=by
 intro pins s σ H Q I h
 refine wpAny_isTrue_Compare1 (thn (ha pins s σ H _ I h) fun v s1 ⟨x,H1,I1,r1,q1⟩=>thn (hb pins s1 σ H1 _ I1 q1) fun u s2 ⟨y,H2,I2,r2,q2⟩ =>
  thn (ho pins s2 σ H2 x y v u _ I2 r1 r2 q2) fun c s3 ⟨z,H3,I3,r3,k,e,q3⟩=>?_) hm
 subst e
 cases r3
 exact wpAny_truthy_bool ⟨H3,I3,q3⟩
noncomputable def TruV (K:PySem.W.Frag) (x:V) (H:Hp) (k:Bool):Prop :=
 match x with
 | .non=>k=false
 | .bl b=>k=b
 | .int i=>k=(i != 0)
 | .str y=>y.length≤sizeLine∧k=((y.length:Int) != 0)
 | .byt y=>y.size≤sizeLine∧k=((y.size:Int) != 0)
 | .ref p=>(∃xs,SqL K H p xs∧k=!xs.isEmpty)∨(∃xs,SqT K H p xs∧k=!xs.isEmpty)∨∃kvs,H p=some (.dK kvs)∧k=!kvs.isEmpty
 | _=>False
theorem JFn {κ:Type} {kvs:List (κ×V)} {vs:List (κ×Value)} (r:KV kvs vs):(!vs.isEmpty)=!kvs.isEmpty:=by
 cases r<;>rfl
theorem JC4 {xs:List V} {its:List Value} (r:Vals xs its):(!its.toArray.isEmpty)=!xs.isEmpty:=by
 cases r<;>simp
theorem JDu:(sizeLine:Nat)<2 ^ 63:=by rw [sizeLine_eq];decide
theorem JJo:TruR X (fun x H Q=>∃k,TruV X.K x H k∧Q k H):=by
 intro pins s σ H x v Q I rx h
 obtain ⟨k,e,q⟩:=h
 have hl:=JDu
 have hs:sizeLine=16777216:=sizeLine_eq
 cases x with
 | non =>
  cases rx
  have e':k=false:=e
  subst e'
  exact truthy_none ⟨H,I,q⟩
 | bl b =>
  cases rx
  have e':k=b:=e
  subst e'
  exact wpAny_truthy_bool ⟨H,I,q⟩
 | int i =>
  obtain ⟨t,rfl⟩:=rx
  have e':k=(i != 0):=e
  subst e'
  exact PySem.P.truthy_int ⟨H,I,q⟩
 | str y =>
  obtain ⟨t,rfl⟩:=rx
  obtain ⟨hy,e'⟩:y.length≤sizeLine∧k=((y.length:Int) != 0):=e
  subst e'
  exact PySem.P.truthy_str (by omega) ⟨H,I.tok _,q⟩
 | byt y =>
  obtain ⟨t,rfl⟩:=rx
  obtain ⟨hy,e'⟩:y.size≤sizeLine∧k=((y.size:Int) != 0):=e
  subst e'
  exact PySem.W.truthy_bytes (by omega) ⟨H,I.tok _,q⟩
 | ref p =>
  cases rx
  have e':(∃xs,SqL X.K H p xs∧k=!xs.isEmpty)∨(∃xs,SqT X.K H p xs∧k=!xs.isEmpty)∨∃kvs,H p=some (.dK kvs)∧k=!kvs.isEmpty:=e
  rcases e' with ⟨xs,hx,e'⟩ | ⟨xs,hx,e'⟩ | ⟨kvs,hx,e'⟩
  ·subst e'
   obtain ⟨its,r,pl,hz⟩:=I.list hx
   have hlen:=r.length
   exact wpAny_truthy_list pl.isList (by simp only [List.size_toArray];omega) ⟨H,I.tok _,by rw [JC4 r];exact q⟩
  ·subst e'
   obtain ⟨its,r,pl,hz⟩:=I.tuple hx
   have hlen:=r.length
   exact truthy_tuple pl (by simp only [List.size_toArray];omega) ⟨H,I.tok _,by rw [JC4 r];exact q⟩
  ·subst e'
   obtain ⟨hz,hS,vs,r,m⟩:kvs.length≤sizeLine∧(p==sysModules)=false∧∃vs,KV kvs vs∧s.heap.DictOf (JBH X.prog X.w) p vs:=I.hok p _ hx
   have hlen:kvs.length=vs.length:=Paired.length r
   exact wpAny_truthy_dict hS m (by omega) ⟨H,I.tok _,by rw [JFn r];exact q⟩
 | _=>exact (show False from e).elim
theorem JI4 (ha:PE X a ta) (he:∀whole,isTrue a X.env whole=(do let v←whole;standAt a.pos;holding [v] (truthy v))) :
  PT X a (fun σ H Q=>ta σ H fun x H'=>∃k,TruV X.K x H' k∧Q k H'):=by
 intro pins s σ H Q I h
 exact isTrue_plain (thn (ha pins s σ H _ I h) fun v s1 ⟨x,H1,I1,r1,q1⟩=>JJo pins s1 σ H1 x v Q I1 r1 q1) (he _)
theorem vals1 {x:V} {us:List Value} (r:Vals [x] us):∃u,us=[u]∧RelV x u:=by
 cases r with
 | cons r1 r2=>cases r2;exact ⟨_,rfl,r1⟩
theorem JHn:CallR X (.builtin "abs") (fun xs H Q=>∃i,xs=[.int i]∧Q (.int (if i<0 then -i else i)) H):=by
 intro pins s σ H xs us Q I r h
 obtain ⟨i,rfl,q⟩:=h
 obtain ⟨u,rfl,t,rfl⟩:=vals1 r
 exact call_abs_int fun u tk=>⟨.int (if i<0 then -i else i),H,I.tok _,⟨_,rfl⟩,q⟩
noncomputable def LenV (K:PySem.W.Frag) (x:V) (H:Hp) (n:Nat):Prop :=
 match x with
 | .str y=>y.length≤sizeLine∧n=y.length
 | .byt y=>y.size≤sizeLine∧n=y.size
 | .ref p=>(∃xs,SqL K H p xs∧n=xs.length)∨∃xs,SqT K H p xs∧n=xs.length
 | _=>False
theorem JIC:CallR X (.builtin "len") (fun xs H Q=>∃x n,xs=[x]∧LenV X.K x H n∧Q (.int n) H):=by
 intro pins s σ H xs us Q I r h
 obtain ⟨x,n,rfl,e,q⟩:=h
 obtain ⟨u,rfl,rx⟩:=vals1 r
 have hl:=JDu
 have hs:sizeLine=16777216:=sizeLine_eq
 cases x with
 | str y =>
  obtain ⟨t,rfl⟩:=rx
  obtain ⟨hy,e'⟩:y.length≤sizeLine∧n=y.length:=e
  subst e'
  exact len_str (by omega) ⟨.int _,H,I.tok _,⟨_,rfl⟩,q⟩
 | byt y =>
  obtain ⟨t,rfl⟩:=rx
  obtain ⟨hy,e'⟩:y.size≤sizeLine∧n=y.size:=e
  subst e'
  exact PySem.W.len_bytes (by omega) ⟨.int _,H,I.tok _,⟨_,rfl⟩,q⟩
 | ref p =>
  cases rx
  have e':(∃xs,SqL X.K H p xs∧n=xs.length)∨∃xs,SqT X.K H p xs∧n=xs.length:=e
  rcases e' with ⟨xs,hx,e'⟩ | ⟨xs,hx,e'⟩
  ·subst e'
   obtain ⟨its,r',pl,hz⟩:=I.list hx
   have hlen:=r'.length
   exact Calls.call_len_list pl.isList (by simp only [List.size_toArray];omega) ⟨.int xs.length,H,I.tok _,⟨_,by simp only [List.size_toArray];rw [hlen]⟩,q⟩
  ·subst e'
   obtain ⟨its,r',pl,hz⟩:=I.tuple hx
   have hlen:=r'.length
   exact len_tuple pl (by simp only [List.size_toArray];omega) ⟨.int xs.length,H,I.tok _,⟨_,by simp only [List.size_toArray];rw [hlen]⟩,q⟩
 | _=>exact (show False from e).elim
end
end L2
namespace L2
open PySem PySem.Spec PyProof.Rows
structure ObjM (h:Heap) (x dx C:Addr) (mA:Str→Option Value):Prop where
 obj:h.get? x=some (PySem.W.instObj C dx)
 ns:h.Ns1 dx mA
 ne:dx≠x
section
variable {prog:Program} {w:World} {A:Around} {E:Value→Shared→Prop} {s:Shared} {K:PySem.W.Frag} {x dx C f:Addr} {mA:Str→Option Value} {name:Str} {v:Value}
end
section
variable {P:Program} {w:World} {H H':Hp} {h h':Heap} {a C dx:Addr} {fs fs':List (Str×V)}
end
structure Cls (K:PySem.W.Frag) (C:Addr):Prop where
 pg:PySem.W.plainGet K C Str.empty=true
 hd:PySem.W.hasDictIn K C=true
 po:PySem.W.plainOver K C=true
 sa:PySem.W.findIn K (.ref C) "__setattr__"=some (some (.builtin "object.__setattr__"))
theorem Cls.get {K:PySem.W.Frag} {C:Addr} (c:Cls K C) (f:Str):PySem.W.plainGet K C f=true:=c.pg
section
variable {X:Cx} {pins:List (Addr×Obj)} {σ:St} {H:Hp} {s:Shared} {a C dx:Addr} {fs:List (Str×V)} {f:Str} {v:V} {A:Around} {E:Value→Shared→Prop}
theorem Inv.made (I:Inv X pins σ H s):Inv X pins σ (upd (upd H s.heap.objs.size (.own (s.heap.objs.size+1))) (s.heap.objs.size+1) (.ins C s.heap.objs.size []))
  { s with heap:=(s.heap.push PySem.W.emptyDict).push (PySem.W.instObj C s.heap.objs.size) }:=by
 have e1:(s.heap.push PySem.W.emptyDict).get? s.heap.objs.size=some PySem.W.emptyDict:=Heap.get?_push_size s.heap rfl
 have e2:((s.heap.push PySem.W.emptyDict).push (PySem.W.instObj C s.heap.objs.size)).get? (s.heap.objs.size+1)=some (PySem.W.instObj C s.heap.objs.size):=by
  have:=Heap.get?_push_size (s.heap.push PySem.W.emptyDict) (o:=PySem.W.instObj C s.heap.objs.size) rfl
  rwa [Heap.size_push] at this
 have e3:(s.heap.push PySem.W.emptyDict).Ns s.heap.objs.size (fun _=>none):=⟨PySem.W.emptyDict,#[],_,e1,rfl,(fun e he=>absurd he (by simp)),fun _=>rfl⟩
 have I1:=I.laid (a:=s.heap.objs.size) (o:=.own (s.heap.objs.size+1)) (h':=s.heap.push PySem.W.emptyDict) (t':=s.toks) (fun b u q=>Heap.get?_push_of_some _ q) (Nat.le_refl _) ⟨_,e1⟩
 refine I1.laid (a:=s.heap.objs.size+1) (o:=.ins C s.heap.objs.size []) (t':=s.toks) (fun b u q=>Heap.get?_push_of_some _ q) (Nat.le_of_eq (Heap.size_push _ _)) ?_
 have ne:s.heap.objs.size≠s.heap.objs.size+1:=Nat.ne_of_lt (Nat.lt_succ_self _)
 refine ⟨by rw [JAL ne,JAM],Nat.zero_le _,ne,e2,fun _=>none,(Heap.Ns1.of_empty e3).at fun o q=>Heap.get?_push_of_some _ q,fun _=>True.intro,fun y hy=>absurd rfl hy⟩
end
section
variable {X:Cx} {o e value:Expr} {f:Str} {pos pos' tpos:Pos} {ta tv:TE}
end
section
variable {X:Cx} {pins:List (Addr×Obj)} {σ:St} {H:Hp} {s:Shared} {A:Around} {E:Value→Shared→Prop} {Q:Value→Shared→Prop} {c:Value} {b:Bool}
end
end L2
namespace L2
open PySem PySem.Spec PyProof.Rows
structure Room (k:Nat) (A:Around):Prop where
 hd:A.handled=none
 dp:A.depth+3*k+5<recursionLimit
 un:A.units+16*k+200<cLine
theorem Room.mono {j k:Nat} {A:Around} (r:Room k A) (h:j≤k):Room j A:=⟨r.hd,by have:=r.dp;omega,by have:=r.un;omega⟩
theorem Room.deeper {k:Nat} {A:Around} (r:Room (k+1) A) (env:Env):Room k (A.deeper env) :=
 ⟨r.hd,by have:=r.dp;show A.depth+1+3*k+5<_;omega,by have:=r.un;show A.units+3+16*k+200<_;omega⟩
theorem Room.depth {k:Nat} {A:Around} (r:Room k A):A.depth<recursionLimit:=by have:=r.dp;omega
noncomputable def tNil:TA:=fun _ H Q=>Q [] H
noncomputable def JO4 (ta:TE) (tr:TA):TA:=fun σ H Q=>ta σ H fun x H1=>tr σ H1 fun xs H2=>Q (x::xs) H2
section
variable {X:Cx} {e:Expr} {es:List Expr} {te:TE} {t:TA} {pos:Pos}
theorem JC9:PA X [] tNil:=fun _ _ _ _ H Q I h=>Calls.spliced_nil ⟨[],H,I,.nil,h⟩
theorem JBk (ha:PE X e te) (hr:PA X es t) (hs:starEach (e::es) X.env=(false,eval e X.env)::starEach es X.env:=by rfl):PA X (e::es) (JO4 te t):=by
 intro pos pins s σ H Q I h
 rw [hs]
 show wpAny _ _ (spliced ((false,eval e X.env)::backTo pos (starEach es X.env))) _ _ s
 refine Calls.spliced_cons (thn (ha pins s σ H _ I h) fun u s1 ⟨x,H1,I1,r1,q1⟩=>?_)
 exact thn (hr pos pins s1 σ H1 _ I1 q1) fun us s2 ⟨xs,H2,I2,r2,q2⟩=>⟨x::xs,H2,I2,.cons r1 r2,q2⟩
noncomputable def tTup (t:TA):TE:=fun σ H Q=>t σ H fun xs H1=>xs.length≤sizeLine∧∀p,H1 p=none→Q (.ref p) (upd H1 p (.tup xs))
noncomputable def tLst (t:TA):TE:=fun σ H Q=>t σ H fun xs H1=>xs.length≤sizeLine∧∀p,H1 p=none→Q (.ref p) (upd H1 p (.lst xs))
theorem JPP {x1} (h:PA X es t):PE X (.Tuple es x1 pos) (tTup t):=by
 intro pins s σ H Q I hq
 refine wpAny_Tuple_spliced (thn (h pos pins s σ H _ I hq) fun us s1 ⟨xs,H1,I1,r,z,q⟩=>⟨by rw [←r.length];exact z,?_⟩)
 have hf:H1 s1.heap.objs.size=none:=I1.hok.fresh (Nat.le_refl _)
 refine ⟨.ref s1.heap.objs.size,upd H1 s1.heap.objs.size (.tup xs),I1.laid (t':=s1.toks) (fun b u e=>Heap.get?_push_of_some _ e) (Nat.le_refl _) ?_,rfl,q _ hf⟩
 exact ⟨z,us,r,⟨_,Heap.get?_push_size _ rfl,rfl,_,rfl⟩⟩
theorem JJ0 (h:PA X es t):PE X (.List es pos) (tLst t):=by
 intro pins s σ H Q I hq
 refine wpAny_List_spliced (thn (h pos pins s σ H _ I hq) fun us s1 ⟨xs,H1,I1,r,z,q⟩=>⟨by rw [←r.length];exact z,?_⟩)
 have hf:H1 s1.heap.objs.size=none:=I1.hok.fresh (Nat.le_refl _)
 refine ⟨.ref s1.heap.objs.size,upd H1 s1.heap.objs.size (.lst xs),I1.laid (t':=s1.toks) (fun b u e=>Heap.get?_push_of_some _ e) (Nat.le_refl _) ?_,rfl,q _ hf⟩
 exact ⟨z,us,0,r,Heap.get?_push_size _ rfl⟩
end
noncomputable abbrev Sp:=List V→Hp→VK→XK→Prop
noncomputable abbrev CXT:=List Env→Hp→Shared→XK→Value→Shared→Prop
structure Env0 (P:Program) (w:World) (K:PySem.W.Frag) (mg:Str→Option Value) (base:Heap) (A:Around) (outer:List Env) (s:Shared) (H:Hp):Prop where
 frames:A.frames=some outer
 mod:Mod K mg base
 bs:∀b o,base.get? b=some o→s.heap.get? b=some o∧H b=none
 bsz:base.objs.size≤s.heap.objs.size
 funs:s.heap.FunFrames base outer
 frf:∀b∈frs outer,H b=none
 hok:HOk P w H s.heap
 bare:AllBare s.gens
noncomputable def CE (outer:List Env) (P:Program) (w:World) (H:Hp) (s:Shared) (Q:VK) (u:Value) (s':Shared):Prop :=
 ∃v H',s'.os=s.os∧AllBare s'.gens∧Un (frs outer) [] H H' s.heap s'.heap∧HOk P w H' s'.heap∧RelV v u∧Q v H'
noncomputable def CR (CX:CXT) (outer:List Env) (P:Program) (w:World) (H:Hp) (s:Shared) (Q:VK) (E:XK) (r:Result) (s':Shared):Prop :=
 match r with
 | .ok (.ret u)=>CE outer P w H s Q u s'
 | .ok _=>False
 | .error e=>CX outer H s E e s'
structure FnOk (P:Program) (w:World) (K:PySem.W.Frag) (mg:Str→Option Value) (base:Heap) (CX:CXT) (k:Nat) (f:Addr) (fd:FuncData) (ps:List Str) (sp:Sp):Prop where
 len:∀vs H Q E,sp vs H Q E→vs.length=ps.length
 run:∀(A:Around) (outer:List Env) (s:Shared) (H:Hp) (args:Args) (us:List Value) (vs:List V) (Q:VK) (E:XK),Room k A→Env0 P w K mg base A outer s H→BindsTo s fd args (ps.zip us)→Vals vs us→sp vs H Q E →
  codeAny (model P w) A (.call (.ref f) args) (CR CX outer P w H s Q E) s
theorem FnOk.mono {P:Program} {w:World} {K:PySem.W.Frag} {mg:Str→Option Value} {base:Heap} {CX:CXT} {j k:Nat} {f:Addr} {fd:FuncData} {ps:List Str} {sp:Sp} (F:FnOk P w K mg base CX j f fd ps sp) (h:j≤k) :
 FnOk P w K mg base CX k f fd ps sp:=⟨F.len,fun A outer s H args us vs Q E hr=>F.run A outer s H args us vs Q E (hr.mono h)⟩
theorem FnOk.imp {P:Program} {w:World} {K:PySem.W.Frag} {mg:Str→Option Value} {base:Heap} {CX:CXT} {k:Nat} {f:Addr} {fd:FuncData} {ps:List Str} {sp sp':Sp} (F:FnOk P w K mg base CX k f fd ps sp)
  (h:∀vs H Q E,sp' vs H Q E→sp vs H Q E):FnOk P w K mg base CX k f fd ps sp' :=
 ⟨fun vs H Q E q=>F.len vs H Q E (h _ _ _ _ q),fun A outer s H args us vs Q E hr he hb hv hs=>F.run A outer s H args us vs Q E hr he hb hv (h _ _ _ _ hs)⟩
section
variable {X:Cx} {pins:List (Addr×Obj)} {σ:St} {H:Hp} {s s':Shared}
theorem Inv.env0 (I:Inv X pins σ H s):Env0 X.prog X.w X.K X.mg X.base X.A X.stack s H :=
 ⟨I.ok.frames,I.ok.mod,I.bs,Nat.le_trans I.ok.bsz I.sz,I.stack,I.stkFree,I.hok,I.bare⟩
theorem Inv.after {Q:VK} {u:Value} (I:Inv X pins σ H s) (h:CE X.stack X.prog X.w H s Q u s'):EP X pins σ Q u s':=by
 obtain ⟨v,H',os,bare,un,hok,r,q⟩:=h
 obtain ⟨hh,g,d,t,os'⟩:=s'
 obtain rfl:os'=s.os:=os
 exact ⟨v,H',I.call (h':=hh) (g':=g) (d':=d) (t':=t) (ch:=[]) un hok bare (fun b z=>absurd z (by simp)),r,q⟩
end
noncomputable def tCall (sp:Sp) (dvs:List V) (E:XK) (t:TA):TE:=fun σ H Q=>t σ H fun vs H1=>sp (vs++dvs) H1 Q E
noncomputable def Binds (K:PySem.W.Frag) (fd:FuncData) (ps:List Str) (ds:List Value):Prop :=
 ∀(s:Shared) (us:List Value),K.In s.heap→(us++ds).length=ps.length→BindsTo s fd ⟨us,[]⟩ (ps.zip (us++ds))
theorem Binds.all {K:PySem.W.Frag} {fd:FuncData} {ps:List Str} (h:∀us:List Value,us.length=ps.length→bindArgs fd ⟨us,[]⟩=pure (ps.zip us)):Binds K fd ps []:=fun s us _ hl=>by
 rw [List.append_nil] at hl ⊢
 exact .of_eq (h us hl)
noncomputable def JDH (CX:CXT) (X:Cx) (E:XK):Prop:=∀(pins:List (Addr×Obj)) (σ:St) (H:Hp) (s:Shared) (e:Value) (s':Shared),Inv X pins σ H s→CX X.stack H s E e s'→X.xe e s'
section
variable {X:Cx} {CX:CXT} {k:Nat} {f C:Addr} {fd:FuncData} {ps:List Str} {sp:Sp} {dvs:List V} {ds:List Value} {E:XK} {x m:Str} {p pos apos:Pos} {e o:Expr} {es:List Expr} {ta:TE} {t:TA}
theorem JMi {pins:List (Addr×Obj)} {σ:St} {H:Hp} {s:Shared} {Q:VK} {us:List Value} {vs:List V} (F:FnOk X.prog X.w X.K X.mg X.base CX k f fd ps sp) (hr:Room k X.A) (hb:Binds X.K fd ps ds) (hd:Vals dvs ds) (hx:JDH CX X E)
  (I:Inv X pins σ H s) (r:Vals vs us) (h:sp (vs++dvs) H Q E):wpAny (model X.prog X.w) X.A (call (.ref f) us) (EP X pins σ Q) X.xe s:=by
 have r2:Vals (vs++dvs) (us++ds):=r.append hd
 have hl:(us++ds).length=ps.length:=by rw [←r2.length];exact F.len _ _ _ _ h
 refine wpAny_call (codeAny_mono (F.run X.A X.stack s H ⟨us,[]⟩ (us++ds) (vs++dvs) Q E hr I.env0 (hb s us I.kIn hl) r2 h) fun r s' hq=>?_)
 cases r with
 | error e=>exact hx pins σ H s e s' I hq
 | ok fl =>
  cases fl with
  | ret u=>exact I.after hq
  | next=>exact False.elim hq
  | brk=>exact False.elim hq
  | cont=>exact False.elim hq
theorem JLj (F:FnOk X.prog X.w X.K X.mg X.base CX k f fd ps sp) (hr:Room k X.A) (hg:Gl X x) (hm:X.mg x=some (.ref f)) (hk:PySem.W.keepIn X.K (.ref f)=true) (hb:Binds X.K fd ps ds) (hd:Vals dvs ds) (hx:JDH CX X E)
  (ha:PA X (e::es) t) (hdb:(x==("__debug__":Str))=false:=by decide) (he:starEach (e::es) X.env=(false,eval e X.env)::starEach es X.env:=by rfl) (hpl:(backTo pos (starEach es X.env)).any (·.1)=false:=by rfl) :
  PE X (.Call (.Name x p) (e::es) [] pos) (tCall sp dvs E t):=by
 intro pins s σ H Q I h
 refine wpAny_Call_Name_kw (JB7 I hg hm ?_ hdb)
 refine PySem.W.callWith_K (h₀:=X.base) I.ok.mod.kin hk (thn (ha pos pins s σ H _ I h) fun us s1 ⟨vs,H1,I1,r,q⟩=>⟨I1.kIn,?_⟩) he hpl
 exact JMi F hr hb hd hx I1 r q
end
section
variable {X:Cx} {CX:CXT} {k:Nat} {f C:Addr} {fd:FuncData} {ps ks:List Str} {sp:Sp} {E:XK} {x m:Str} {p pos apos kpos:Pos} {e o:Expr} {es:List Expr} {kws:List Keyword} {te ta:TE} {t tk:TA} {nm:Option Str}
variable {g:List Value→List Value→List Value} {gV:List V→List V→List V}
end
structure FnScope (N P:List Str) (sc:Scope):Prop where
 kind:sc.kind=.function
 co:sc.isCoroutine=false
 gen:sc.isGenerator=false
 nd:N.Nodup
 pre:N.take P.length=P
 par:∀x∈P,sc.names.lookup x=some .local∨sc.names.lookup x=some .cell
 nofree:∀y∈sc.names,y.2≠.free
theorem JDr {kindOf:Str→Option NameKind} {x:Str}:∀ {binds:List (Str×Value)} {m:Str→Option Value},(∀v,(x,v) ∉ binds)→bindL kindOf binds m x=m x
 | [],_,_=>rfl
 |(n,v)::r,m,h=>by
  unfold bindL
  rw [JDr fun w hw=>h w (List.mem_cons_of_mem _ hw)]
  split
  · have:x≠n:=by rintro rfl;exact h v List.mem_cons_self
    simp [this]
  · rfl
theorem JD4 {kindOf:Str→Option NameKind} {x:Str}:∀ {binds:List (Str×Value)} {m:Str→Option Value},(∀v,(x,v) ∉ binds)→bindC kindOf binds m x=m x
 | [],_,_=>rfl
 |(n,v)::r,m,h=>by
  unfold bindC
  rw [JD4 fun w hw=>h w (List.mem_cons_of_mem _ hw)]
  split
  · rfl
  · have:x≠n:=by rintro rfl;exact h v List.mem_cons_self
    simp [this]
theorem JD6 {kindOf:Str→Option NameKind} {x:Str} {v:Value}:∀ {P:List Str} {vs:List Value} {i:Nat} {m:Str→Option Value},P.Nodup→P[i]? = some x→vs[i]? = some v→kindOf x=some .local →
  bindL kindOf (P.zip vs) m x=some v
 | [],_,_,_,_,h,_,_=>by simp at h
 | _::_,[],_,_,_,_,h,_=>by simp at h
 | p::P,w::vs,0,m,nd,h1,h2,hk=>by
  simp at h1 h2;subst h1;subst h2
  show bindL kindOf ((p,w)::P.zip vs) m p=_
  unfold bindL
  rw [JDr fun v hv=>(List.nodup_cons.mp nd).1 (List.of_mem_zip hv).1,if_pos hk]
  simp
 | p::P,w::vs,i+1,m,nd,h1,h2,hk=>by
  show bindL kindOf ((p,w)::P.zip vs) m x=_
  unfold bindL
  exact JD6 (i:=i) (List.nodup_cons.mp nd).2 (by simpa using h1) (by simpa using h2) hk
theorem JDx {kindOf:Str→Option NameKind} {x:Str} {v:Value}:∀ {P:List Str} {vs:List Value} {i:Nat} {m:Str→Option Value},P.Nodup→P[i]? = some x→vs[i]? = some v→kindOf x≠some .local →
  bindC kindOf (P.zip vs) m x=some v
 | [],_,_,_,_,h,_,_=>by simp at h
 | _::_,[],_,_,_,_,h,_=>by simp at h
 | p::P,w::vs,0,m,nd,h1,h2,hk=>by
  simp at h1 h2;subst h1;subst h2
  show bindC kindOf ((p,w)::P.zip vs) m p=_
  unfold bindC
  rw [JD4 fun v hv=>(List.nodup_cons.mp nd).1 (List.of_mem_zip hv).1,if_neg hk]
  simp
 | p::P,w::vs,i+1,m,nd,h1,h2,hk=>by
  show bindC kindOf ((p,w)::P.zip vs) m x=_
  unfold bindC
  exact JDx (i:=i) (List.nodup_cons.mp nd).2 (by simpa using h1) (by simpa using h2) hk
noncomputable def start (N:List Str) (vs:List V):St:=vs.map some++List.replicate (N.length - vs.length) none
noncomputable def cxOf (CX:CXT) (P:Program) (w:World) (K:PySem.W.Frag) (mg:Str→Option Value) (base:Heap) (N:List Str) (qual:Str) (scope:Scope) (f:Addr) (cd:Value) (A:Around) (outer:List Env) (s:Shared) (H:Hp) (E:XK):Cx where
 prog:=P
 w:=w
 K:=K
 mg:=mg
 base:=base
 A:=A.deeper (envOfC qual scope s.heap.objs.size f cd)
 N:=N
 s₀:=s
 H₀:=H
 env:=envOfC qual scope s.heap.objs.size f cd
 outer:=outer
 stack:=envOfC qual scope s.heap.objs.size f cd::outer
 ex:=[]
 calm:=true
 fn:=fun _=>true
 pn:=[]
 xe:=fun e s'=>wpAny (model P w) (A.deeper (envOfC qual scope s.heap.objs.size f cd)) (leaving (envOfC qual scope s.heap.objs.size f cd) e) (fun _ s''=>CX outer H s E e s'') (fun e' s''=>CX outer H s E e' s'') s'
theorem JFT {sc:Scope} {n:Nat} {x:Str} (h:sc.names.lookup x=some .cell):∃c,(cellsFrom n sc.names []).lookup x=some c:=by
 have q:=PySem.W.cellsFrom_some sc.names n [] (.inl h)
 exact Option.isSome_iff_exists.mp q
theorem JBo {CX:CXT} {P:Program} {w:World} {K:PySem.W.Frag} {mg:Str→Option Value} {base:Heap} {N ps:List Str} {qual:Str} {scope:Scope} {f:Addr} {cd:Value} {A:Around} {outer:List Env} {s s1:Shared} {H:Hp} {E:XK} {us:List Value} {vs:List V}
  (S:FnScope N ps scope) (hd:A.handled=none) (e0:Env0 P w K mg base A outer s H) (hl:vs.length=ps.length) (r:Vals vs us)
  (x:InCallC s s.heap.objs.size (bindL (envOfC qual scope s.heap.objs.size f cd).kindOf (ps.zip us) fun _=>none) (cellsFrom (s.heap.objs.size+1) scope.names []) (bindC (envOfC qual scope s.heap.objs.size f cd).kindOf (ps.zip us) fun _=>none) s1) :
  Inv (cxOf CX P w K mg base N qual scope f cd A outer s H E) [] (start N vs) H s1:=by
 have hpl:ps.length≤N.length:=by have:=congrArg List.length S.pre;rw [List.length_take] at this;omega
 obtain ⟨h1,tk,rfl,hk⟩:=x.done
 have noA:∀b:Addr,b ∉ (cxOf CX P w K mg base N qual scope f cd A outer s H E).ex:=fun b z=>absurd (show b∈([]:List Addr) from z) (by simp)
 refine ⟨⟨e0.mod,S.kind,rfl,rfl,Nat.le_refl _,fun y z c h1 h2=>?_,fun y hy=>?_,fun y c _ h=>?_,fun _=>hd,Around.frames_deeper e0.frames,.inr ⟨rfl,rfl⟩,fun b z=>absurd z (noA b),e0.bs,e0.bsz,fun b _ _=>noA b,fun b z=>absurd z (noA b),e0.funs,e0.frf⟩,
  rfl,e0.bare,Un.kept hk,⟨_,x.toInCall.ns,fun i y v h1 h2 h3=>?_⟩,fun y c h=>⟨_,x.cell y c h⟩,e0.hok.fresh (Nat.le_refl _),fun y c h=>?_,fun p hp=>absurd (show p∈([]:List (Addr×Obj)) from hp) (by simp),e0.hok.kept hk,?_⟩
 ·exact name_of_addr x.apart (PySem.mem_of_lookup h1) (PySem.mem_of_lookup h2)
 ·have hy:scope.names.lookup y=some .cell∨scope.names.lookup y=some .free:=hy
  rcases hy with hy | hy
  · exact JFT hy
  · exact absurd rfl (S.nofree _ (PySem.mem_of_lookup hy))
 ·exact Nat.le_of_lt (x.above y c (PySem.mem_of_lookup h))
 ·have hi:i<vs.length:=by
    unfold start at h2
    by_cases hi:i<vs.length
    ·exact hi
    ·rw [List.getElem?_append_right (by simpa using hi)] at h2
     rw [List.getElem?_replicate] at h2
     split at h2<;>cases h2
  have ha:vs[i]? = some v:=by
    unfold start at h2
    rw [List.getElem?_append_left (by simpa using hi),List.getElem?_map] at h2
    cases e:vs[i]? with
    | none=>rw [e] at h2;cases h2
    | some a=>rw [e] at h2;cases h2;rfl
  obtain ⟨u,hu,rv⟩:=r.get ha
  have hp:ps[i]? = some y:=by
    rw [←S.pre,List.getElem?_take_of_lt (by omega)];exact h1
  have ndP:ps.Nodup:=by rw [←S.pre];exact S.nd.sublist (List.take_sublist _ _)
  refine ⟨u,rv,?_⟩
  rcases S.par y (List.mem_of_getElem? hp) with k | k
  · exact .inl ⟨k,JD6 ndP hp hu k⟩
  · obtain ⟨c,e⟩:=JFT (n:=s.heap.objs.size+1) k
    refine .inr ⟨.inl k,c,e,?_⟩
    have q:=x.cell y c e
    rw [JDx ndP hp hu (by show scope.names.lookup y≠_;rw [k];decide)] at q
    exact q
 ·exact e0.hok.fresh (Nat.le_of_lt (x.above y c (PySem.mem_of_lookup h)))
 ·unfold start
  show _=N.length
  rw [List.length_append,List.length_map,List.length_replicate]
  omega
theorem JMR {CX:CXT} {P:Program} {w:World} {K:PySem.W.Frag} {mg:Str→Option Value} {base:Heap} {k:Nat} {f:Addr} {name qual:Str} {params:Arguments} {body:List Stmt} {scope:Scope} {dV kV doc pm cdv ct oc:Value} {an od:Option Addr}
  {osl:Array (Option Value)} {N ps:List Str} {sp:Sp} (lk:K.lookup f=some ⟨oc,od,.func (PySem.W.fnOf name qual params body scope dV kV doc pm an cdv ct),osl⟩) (hcd:PySem.W.codeIn K cdv qual=true) (S:FnScope N ps scope)
  (len:∀vs H Q E,sp vs H Q E→vs.length=ps.length)
  (hbody:∀(A:Around) (outer:List Env) (s:Shared) (H:Hp) (vs:List V) (Q:VK) (E:XK),Room k (A.deeper (envOfC qual scope s.heap.objs.size f cdv))→sp vs H Q E →
    ∃t,PSs (cxOf CX P w K mg base N qual scope f cdv A outer s H E) body t∧t { nx:=fun _ H'=>Q .non H',rt:=Q } (start N vs) H) :
  FnOk P w K mg base CX (k+1) f (PySem.W.fnOf name qual params body scope dV kV doc pm an cdv ct) ps sp:=by
 refine ⟨len,fun A outer s H args us vs Q E hr e0 hb r hsp=>?_⟩
 have hl:=len _ _ _ _ hsp
 have KX:K.In s.heap:=e0.mod.kin.keeps fun b o e=>(e0.bs b o e).1
 have lim:s.heap.NoLimit:=e0.mod.nolimit.keeps fun b o e=>(e0.bs b o e).1
 have hkind:∀y∈ps.zip us,scope.names.lookup y.1=some .local∨(scope.names.lookup y.1=some .cell∧((cellsFrom (s.heap.objs.size+1) scope.names []).lookup y.1).isSome=true):=fun ⟨n,v⟩ hy=>by
  rcases S.par n (List.of_mem_zip hy).1 with q | q
  · exact .inl q
  · exact .inr ⟨q,PySem.W.cellsFrom_some _ _ _ (.inl q)⟩
 refine codeAny_call_function hr.depth (KX _ _ lk) rfl S.co S.gen rfl (PySem.W.codeRec_of KX hcd) (hb _ _ _ _ ?_)
 refine wpAny_newFunctionEnv_cells S.kind hkind fun env he s1 x=>?_
 subst he
 refine ⟨lim.keeps x.toInCall.keep,codeAny_func ?_⟩
 obtain ⟨t,ht,hq⟩:=hbody A outer s H vs Q E (hr.deeper _) hsp
 have I:Inv (cxOf CX P w K mg base N qual scope f cdv A outer s H E) [] (start N vs) H s1:=JBo S hr.hd e0 hl r x
 refine wpAny_mono (ht [] s1 (start N vs) H _ I hq) (fun fl s' hs=>?_) fun e s' hs=>hs
 have fin:∀ {σ':St} {H':Hp} {v:V} {u:Value},Inv (cxOf CX P w K mg base N qual scope f cdv A outer s H E) [] σ' H' s'→RelV v u→Q v H'→CE outer P w H s Q u s' :=
  fun {σ' H' v u} J rv q=>⟨v,H',J.os,J.bare,J.base,J.hok,rv,q⟩
 cases fl with
 | ret u =>
  obtain ⟨v,σ',H',J,rv,q⟩:=hs
  exact fin J rv q
 | next =>
  obtain ⟨σ',H',J,q⟩:=hs
  exact fin (v:=V.non) (u:=Value.none) J rfl q
 | brk =>
  obtain ⟨_,_,_,q⟩:=hs
  exact False.elim q
 | cont =>
  obtain ⟨_,_,_,q⟩:=hs
  exact False.elim q
end L2
namespace L2
open PySem PySem.Spec PyProof.Rows
section
variable {X:Cx} {x:Str} {p pos:Pos} {e:Expr} {es:List Expr} {t:TA} {id T:String} {r:List V→Hp→VK→Prop}
noncomputable def tCB (r:List V→Hp→VK→Prop) (t:TA):TE:=fun σ H Q=>t σ H fun vs H1=>r vs H1 Q
theorem JFS (hc:CallR X (.builtin id) r) (hg:Gl X x) (hm:X.mg x=none) (hv:bootBuiltins x=some (.builtin id)) (ha:PA X (e::es) t) (hn:x≠"__name__":=by decide) (hdb:(x==("__debug__":Str))=false:=by decide)
  (he:starEach (e::es) X.env=(false,eval e X.env)::starEach es X.env:=by rfl) (hpl:(backTo pos (starEach es X.env)).any (·.1)=false:=by rfl):PE X (.Call (.Name x p) (e::es) [] pos) (tCB r t):=by
 intro pins s σ H Q I h
 refine wpAny_Call_Name_kw (JDg I hg hm hv ?_ hn hdb)
 exact PyProof.Rows.callWith_builtin1 (thn (ha pos pins s σ H _ I h) fun us s1 ⟨vs,H1,I1,r1,q1⟩=>hc pins s1 σ H1 vs us Q I1 r1 q1) he hpl
theorem JGS (hc:CallR X (.type T) r) (hg:Gl X x) (hm:X.mg x=none) (hv:bootBuiltins x=some (.type T)) (ha:PA X (e::es) t) (hn:x≠"__name__":=by decide) (hdb:(x==("__debug__":Str))=false:=by decide)
  (he:starEach (e::es) X.env=(false,eval e X.env)::starEach es X.env:=by rfl) (hpl:(backTo pos (starEach es X.env)).any (·.1)=false:=by rfl):PE X (.Call (.Name x p) (e::es) [] pos) (tCB r t):=by
 intro pins s σ H Q I h
 refine wpAny_Call_Name_kw (JDg I hg hm hv ?_ hn hdb)
 exact PyProof.Rows.callWith_type1 (thn (ha pos pins s σ H _ I h) fun us s1 ⟨vs,H1,I1,r1,q1⟩=>hc pins s1 σ H1 vs us Q I1 r1 q1) he hpl
end
end L2
namespace HT
open PySem PyProof.Rows
section
open PySem.SeqAt
open PySem.AutoSeq1 (wpAny_loadPart')
open PySem.MeetsSeq PySem.MeetsSeq2 PySem.MeetsSeq3
end
section
variable {prog:Program} {w:World} {A:Around} {E:Value→Shared→Prop} {s:Shared}
theorem cat_tup {t b:Addr} {vs ws:List Value} {Q:Value→Shared→Prop} (ht:IsTup s.heap t vs.toArray) (hb:IsTup s.heap b ws.toArray) (hv:vs≠[])
  (h1:ws=[]→Q (.ref t) s) (h2:ws≠[]→Q (.ref s.heap.objs.size) { s with heap:=s.heap.push { cls:=.type "tuple",data:=.seq (vs++ws).toArray } })
  (hsz:vs.length+ws.length≤sizeLine):wpAny (model prog w) A (binaryOp .Add (.ref t) (.ref b)) Q E s:=by
 obtain ⟨⟨cls,dd,data,sl⟩,ho,hc,n,hd⟩:=id ht
 obtain ⟨⟨cls2,dd2,data2,sl2⟩,ho2,hc2,n2,hd2⟩:=id hb
 simp only at hc hd hc2 hd2
 subst hc hd hc2 hd2
 have e:vs.toArray++ws.toArray=(vs++ws).toArray:=by simp
 by_cases hw:ws=[]
 ·exact concat_meets ⟨_,ho,rfl⟩ ⟨_,ho2,rfl⟩ noFill_tuple_add seq_tuple_add PySem.F.slot_tuple_add PySem.F.entry_tuple_add (PySem.F.args_tuple_add_2 _ _)
    (tuple_addW1 t b vs.toArray ws.toArray n n2 dd dd2 sl sl2 (by simpa using hv) (by simp [hw])) ⟨ho,ho2,h1 hw⟩
 ·refine concat_meets ⟨_,ho,rfl⟩ ⟨_,ho2,rfl⟩ noFill_tuple_add seq_tuple_add PySem.F.slot_tuple_add PySem.F.entry_tuple_add (PySem.F.args_tuple_add_2 _ _)
    (tuple_addW2 t b vs.toArray ws.toArray n n2 dd dd2 sl sl2 (by simpa using hv) (by simpa using hw) (by rw [List.size_toArray,List.size_toArray];exact hsz)) ⟨ho,ho2,?_⟩
  rw [e]
  exact h2 hw
noncomputable def sIx (n d:Nat):Option Int→Nat
 | none=>d
 | some v=>if v<0 then (v+(n:Int)).toNat else min v.toNat n
theorem JM6 (n d:Nat) (hd:d≤n) (o:Option Int):sIx n d o≤n:=by
 cases o with
 | none=>exact hd
 | some v =>
  show (if v<0 then (v+(n:Int)).toNat else min v.toNat n)≤n
  by_cases hv:v<0
  ·rw [if_pos hv];omega
  ·rw [if_neg hv];exact Nat.min_le_right _ _
theorem JGn (v:Int) (n d:Nat):(if v<0 then max (v+(n:Int)) 0 else min v (n:Int))=((sIx n d (some v):Nat):Int):=by
 show (if v<0 then max (v+(n:Int)) 0 else min v (n:Int))=(((if v<0 then (v+(n:Int)).toNat else min v.toNat n):Nat):Int)
 by_cases hv:v<0
 ·simp only [if_pos hv];omega
 ·simp only [if_neg hv];omega
theorem JFr (lo hi:Option Int) (n:Nat):Builtin.Slice.sliceAdjust lo hi 1 (n:Int)=(((sIx n 0 lo:Nat):Int),((sIx n n hi:Nat):Int)):=by
 have h1:¬((1:Int)<0):=by omega
 unfold Builtin.Slice.sliceAdjust
 simp only [h1,if_false]
 refine Prod.ext ?_ ?_
 ·cases lo with
  | none=>rfl
  | some v=>exact JGn v n 0
 ·cases hi with
  | none=>rfl
  | some v=>exact JGn v n n
theorem JFt (i j:Nat):Builtin.Slice.slicePlaces (i:Int) (j:Int) 1=j - i:=by
 unfold Builtin.Slice.slicePlaces
 have h1:(1:Int) > 0:=by omega
 simp only [h1,if_true,Int.ediv_one]
 split<;>omega
theorem JC8 {v:Value} {o:Option Int} {Q:Option Int→Shared→Prop} (p:IsPart v o) (h:Q o s):wpAny (model prog w) A (Builtin.Slice.slicePartIndex v) Q E s:=by
 cases p with
 | none=>exact slicePart_none h
 | int i t=>exact slicePart_int h
theorem sliceApplied_gen {sl:Addr} {vl vu:Value} {lo hi:Option Int} {n:Nat} {Q:Int×Int×Nat→Shared→Prop} (hs:s.heap.IsSliceOf sl vl vu .none) (pl:IsPart vl lo) (pu:IsPart vu hi)
  (h:Q (((sIx n 0 lo:Nat):Int),1,sIx n n hi - sIx n 0 lo) s):wpAny (model prog w) A (Builtin.Slice.sliceApplied (.ref sl) (pure (n:Int))) Q E s:=by
 obtain ⟨os,hos,hcs,hds⟩:=id hs
 unfold Builtin.Slice.sliceApplied Builtin.Slice.sliceFields
 refine wpAny_bind (wpAny_bind (wpAny_field hos hds (x:=vl) rfl (wpAny_bind (wpAny_field hos hds (x:=vu) rfl (wpAny_bind (wpAny_field hos hds (x:=.none) rfl (wpAny_pure ?_)))))))
 refine wpAny_bind (slicePart_none ?_)
 show wpAny _ _ (if ((1:Int)==0)=true then _ else _) _ _ s
 rw [if_neg (by decide)]
 refine wpAny_bind (JC8 pl (wpAny_bind (JC8 pu (wpAny_bind (wpAny_pure ?_)))))
 show wpAny _ _ (match Builtin.Slice.sliceAdjust lo hi 1 (n:Int) with | (lo,hi)=>pure (lo,(1:Int),Builtin.Slice.slicePlaces lo hi 1)) _ _ s
 rw [JFr lo hi n]
 show wpAny _ _ (pure (((sIx n 0 lo:Nat):Int),(1:Int),Builtin.Slice.slicePlaces ((sIx n 0 lo:Nat):Int) ((sIx n n hi:Nat):Int) 1)) _ _ s
 rw [JFt]
 exact wpAny_pure h
theorem JIz (xs:Array Value) (i k:Nat):((List.range k).filterMap fun (m:Nat)=>xs[((i:Int)+(m:Int)*1).toNat]?).toArray=((xs.toList.drop i).take k).toArray:=by
 have e:(fun (m:Nat)=>xs[((i:Int)+(m:Int)*1).toNat]?)=fun m=>xs[i+m]?:=by
  funext m
  have:((i:Int)+(m:Int)*1).toNat=i+m:=by omega
  rw [this]
 rw [e]
 have:=pick_run xs i k
 rw [List.filterMap_map] at this
 have e2:((fun x=>xs[x]?) ∘ fun x=>i+x)=fun m=>xs[i+m]?:=rfl
 rw [e2] at this
 rw [this]
theorem getItem_tuple_cut {t sl:Addr} {items:Array Value} {vl vu:Value} {lo hi:Option Int} {Q:Value→Shared→Prop} (ht:IsTup s.heap t items) (hs:s.heap.IsSliceOf sl vl vu .none) (pl:IsPart vl lo) (pu:IsPart vu hi)
  (hw:¬(sIx items.size 0 lo=0∧sIx items.size items.size hi=items.size))
  (h:Q (.ref s.heap.objs.size) { s with heap:=s.heap.push { cls:=.type "tuple",data:=.seq ((items.toList.drop (sIx items.size 0 lo)).take (sIx items.size items.size hi - sIx items.size 0 lo)).toArray } })
  (hsz:items.size≤sizeLine):wpAny (model prog w) A (getItem (.ref t) (.ref sl)) Q E s:=by
 have htake:sizeOk (.seq ((items.toList.drop (sIx items.size 0 lo)).take (sIx items.size items.size hi - sIx items.size 0 lo)).toArray):=by
  show ((items.toList.drop (sIx items.size 0 lo)).take (sIx items.size items.size hi - sIx items.size 0 lo)).toArray.size≤sizeLine
  rw [List.size_toArray,List.length_take,List.length_drop,Array.length_toList]
  omega
 have hj:sIx items.size items.size hi≤items.size:=JM6 _ _ (Nat.le_refl _) hi
 obtain ⟨os,hos,hcs,hds⟩:=id hs
 have hTs:s.TypeIs (.ref sl) "slice":=⟨os,hos,hcs⟩
 unfold getItem
 try with_reducible refine wpAny_holding ?_
 first | refine wpAny_bind (wpAny_pure ?_) | skip
 refine wpAny_bind (wpAny_sequenceKey ht.typeIs (by decide) ?_)
 refine wpAny_bind (wpAny_callSpecial?_slot (name:=Str.ofString "__getitem__") ht.typeIs PyProof.Rows.slot_tuple_getitem
  (wpAny_call_entry PyProof.Rows.slot_tuple_getitem ht.typeIs entry_tuple_getitem ?_ (args_tuple_getitem _ _)))
 show wpAny _ _ (Builtin.Tuple.tupleItemsOf (.ref t) >>= _) _ _ s
 refine wpAny_bind (tupleItemsOf_ ht ?_)
 refine wpAny_bind (wpAny_typeOf hTs ?_)
 rw [if_pos (by decide)]
 refine wpAny_bind (sliceApplied_gen hs pl pu ?_)
 have hno:¬((((sIx items.size 0 lo:Nat):Int)==0&&(1:Int)==1&&(sIx items.size items.size hi - sIx items.size 0 lo)==items.size)=true):=by
  intro q
  rw [Bool.and_eq_true,Bool.and_eq_true] at q
  have q1:((sIx items.size 0 lo:Nat):Int)=0:=eq_of_beq q.1.1
  have q2:sIx items.size items.size hi - sIx items.size 0 lo=items.size:=eq_of_beq q.2
  exact hw ⟨by omega,by omega⟩
 show wpAny _ _ (if (((sIx items.size 0 lo:Nat):Int)==0&&(1:Int)==1&&(sIx items.size items.size hi - sIx items.size 0 lo)==items.size)=true then _ else _) _ _ s
 rw [if_neg hno,JIz]
 first
  | exact wpAny_bind (m:=Builtin.Tuple.tupleExact _) (wpAny_newObj_type (wpAny_pure ⟨_,rfl,wpAny_pure h⟩) htake)
  | exact wpAny_bind (m:=Builtin.Tuple.tupleExact _) (wpAny_newObj_type (wpAny_bind (wpAny_pure (wpAny_pure ⟨_,rfl,wpAny_pure h⟩))) htake)
  | exact wpAny_bind (wpAny_bind (m:=Builtin.Tuple.tupleExact _) (wpAny_newObj_type (wpAny_pure (wpAny_pure ⟨_,rfl,wpAny_pure h⟩)) htake))
  | exact wpAny_bind (wpAny_bind (m:=Builtin.Tuple.tupleExact _) (wpAny_newObj_type (wpAny_pure ⟨_,rfl,wpAny_pure h⟩) htake))
end
end HT
namespace L2
open PySem PySem.Spec PyProof.Rows
noncomputable abbrev TO:=St→Hp→(Option Int→Hp→Prop)→Prop
noncomputable def PO (X:Cx) (e:Option Expr) (t:TO):Prop :=
 ∀(pins:List (Addr×Obj)) (s:Shared) (σ:St) (H:Hp) (Q:Option Int→Hp→Prop),Inv X pins σ H s→t σ H Q →
  wpAny (model X.prog X.w) X.A (evalPart e X.env) (fun u s'=>∃o H',Inv X pins σ H' s'∧IsPart u o∧Q o H') X.xe s
noncomputable def JL5:TO:=fun _ H Q=>Q none H
noncomputable def tPart (t:TE):TO:=fun σ H Q=>t σ H fun x H1=>∃i,x=.int i∧Q (some i) H1
section
variable {X:Cx} {e:Expr} {te:TE} {lo hi:Option Expr} {tl th:TO} {pos p2:Pos}
theorem JK3:PO X none JL5:=by
 intro pins s σ H Q I h
 rw [evalPart_none]
 exact wpAny_pure ⟨none,H,I,.none,h⟩
theorem JGm (h:PE X e te):PO X (some e) (tPart te):=by
 intro pins s σ H Q I hw
 rw [evalPart_some]
 refine thn (h pins s σ H _ I hw) fun u s1 ⟨x,H1,I1,r1,q1⟩=>?_
 obtain ⟨i,rfl,q⟩:=q1
 obtain ⟨t,rfl⟩:=r1
 exact ⟨some i,H1,I1,.int i t,q⟩
noncomputable def SlR (X:Cx) (r:V→Option Int→Option Int→Hp→VK→Prop):Prop :=
 ∀(pins:List (Addr×Obj)) (s:Shared) (σ:St) (H:Hp) (x:V) (v vl vu:Value) (lo hi:Option Int) (sl:Addr) (Q:VK),Inv X pins σ H s→RelV x v→s.heap.IsSliceOf sl vl vu .none→IsPart vl lo→IsPart vu hi→r x lo hi H Q →
  ∃T id,typeLookup (.type T) "__getitem__"=pure (some (.builtin id))∧s.TypeIs v T∧wpAny (model X.prog X.w) X.A (getItem v (.ref sl)) (EP X pins σ Q) X.xe s
theorem SlR.or {r r':V→Option Int→Option Int→Hp→VK→Prop} (h:SlR X r) (h':SlR X r'):SlR X (fun x lo hi H Q=>r x lo hi H Q∨r' x lo hi H Q):=by
 intro pins s σ H x v vl vu lo hi sl Q I rx hs pl pu q
 rcases q with q | q
 ·exact h pins s σ H x v vl vu lo hi sl Q I rx hs pl pu q
 ·exact h' pins s σ H x v vl vu lo hi sl Q I rx hs pl pu q
noncomputable def tSl (r:V→Option Int→Option Int→Hp→VK→Prop) (te:TE) (tl th:TO):TE:=fun σ H Q=>te σ H fun x H1=>tl σ H1 fun l H2=>th σ H2 fun u H3=>r x l u H3 Q
theorem JI2 {r:V→Option Int→Option Int→Hp→VK→Prop} (hr:SlR X r) (he:PE X e te) (hl:PO X lo tl) (hu:PO X hi th):PE X (.Subscript e (.Slice lo hi none p2) pos) (tSl r te tl th):=by
 intro pins s σ H Q I h
 refine Subscript_ (thn (he pins s σ H _ I h) fun v s1 ⟨x,H1,I1,r1,q1⟩=>?_)
 refine wpAny_Slice (thn (hl pins s1 σ H1 _ I1 q1) fun vl s2 ⟨l,H2,I2,pl,q2⟩=>thn (hu pins s2 σ H2 _ I2 q2) fun vu s3 ⟨u,H3,I3,pu,q3⟩=>?_)
 rw [evalPart_none]
 refine wpAny_pure ?_
 have I4:Inv X pins σ H3 { s3 with heap:=s3.heap.push { cls:=.type "slice",data:=.fields #[vl,vu,.none] } }:=I3.kept (t':=s3.toks) fun b ob q=>Heap.get?_push_of_some _ q
 obtain ⟨T,id,hT,ht,hg⟩:=hr pins { s3 with heap:=s3.heap.push { cls:=.type "slice",data:=.fields #[vl,vu,.none] } } σ H3 x v vl vu l u s3.heap.objs.size Q I4 r1 (Heap.IsSliceOf.new ..) pl pu q3
 show wpAny (model X.prog X.w) X.A (subscriptTail e (.Slice lo hi none p2) v (.ref s3.heap.objs.size)) (EP X pins σ Q) X.xe { s3 with heap:=s3.heap.push { cls:=.type "slice",data:=.fields #[vl,vu,.none] } }
 exact tail_any (ops:=[.ref s3.heap.objs.size,v]) ht hT hg (by with_unfolding_all rfl)
noncomputable def cutV (xs:List V) (lo hi:Option Int):List V:=(xs.drop (HT.sIx xs.length 0 lo)).take (HT.sIx xs.length xs.length hi - HT.sIx xs.length 0 lo)
theorem JCu (xs:List V) (lo hi:Option Int):(cutV xs lo hi).length≤xs.length:=by
 unfold cutV
 rw [List.length_take,List.length_drop]
 omega
noncomputable def rSlT (K:PySem.W.Frag):V→Option Int→Option Int→Hp→VK→Prop:=fun x lo hi H Q=>∃a xs,x=.ref a∧SqT K H a xs ∧
 ¬(HT.sIx xs.length 0 lo=0∧HT.sIx xs.length xs.length hi=xs.length)∧∀p,H p=none→Q (.ref p) (upd H p (.tup (cutV xs lo hi)))
theorem JOQ:SlR X (rSlT X.K):=by
 intro pins s σ H x v vl vu lo hi sl Q I rx hs pl pu h
 obtain ⟨a,xs,rfl,hx,hw,q⟩:=h
 cases rx
 obtain ⟨its,r,ht,hz⟩:=I.tuple hx
 have hlen:its.toArray.size=xs.length:=by rw [List.size_toArray];exact r.length.symm
 refine ⟨"tuple",_,PyProof.Rows.slot_tuple_getitem.lookup,ht.typeIs,?_⟩
 refine HT.getItem_tuple_cut ht hs pl pu (by rw [hlen];exact hw) ?_ (by rw [hlen];exact hz)
 rw [hlen]
 refine ⟨.ref s.heap.objs.size,_,I.laid (t':=s.toks) (o:=.tup (cutV xs lo hi)) (fun b ob q=>Heap.get?_push_of_some _ q) (Nat.le_refl _) ?_,rfl,q _ (I.hok.fresh (Nat.le_refl _))⟩
 exact ⟨Nat.le_trans (JCu xs lo hi) hz,_,(r.drop (HT.sIx xs.length 0 lo)).take (HT.sIx xs.length xs.length hi - HT.sIx xs.length 0 lo),IsTup.new _ _⟩
noncomputable def rCatT (K:PySem.W.Frag):R2:=fun x y H Q=>∃a b xs ys,x=.ref a∧y=.ref b∧SqT K H a xs∧SqT K H b ys∧xs≠[]∧xs.length+ys.length≤sizeLine ∧
 (ys=[]→Q (.ref a) H)∧(ys≠[]→∀p,H p=none→Q (.ref p) (upd H p (.tup (xs++ys))))
theorem Vals.nil_iff {xs:List V} {us:List Value} (r:Vals xs us):us=[]↔xs=[]:=by
 cases r with
 | nil=>simp
 | cons _ _=>simp
theorem JL3:OpR X (binaryOp .Add) (rCatT X.K):=by
 intro pins s σ H x y v u Q I rx ry h
 obtain ⟨a,b,xs,ys,rfl,rfl,ha,hb,hx,hz,q1,q2⟩:=h
 cases rx
 cases ry
 obtain ⟨its,r1,p1,_⟩:=I.tuple ha
 obtain ⟨its2,r2,p2,_⟩:=I.tuple hb
 refine HT.cat_tup p1 p2 (fun z=>hx (r1.nil_iff.mp z)) (fun z=>⟨.ref a,H,I,rfl,q1 (r2.nil_iff.mp z)⟩) (fun z=>?_) (by rw [←r1.length,←r2.length];exact hz)
 refine ⟨.ref s.heap.objs.size,_,I.laid (t':=s.toks) (o:=.tup (xs++ys)) (fun b ob q=>Heap.get?_push_of_some _ q) (Nat.le_refl _) ?_,rfl,q2 (fun w=>z (r2.nil_iff.mpr w)) _ (I.hok.fresh (Nat.le_refl _))⟩
 exact ⟨by rw [List.length_append];exact hz,_,r1.append r2,IsTup.new _ _⟩
end
end L2
namespace L2
open PySem PySem.Spec PyProof.Rows
noncomputable def ixN (n:Nat) (i:Int):Option Nat:=if 0≤i then (if i<n then some i.toNat else none) else if -(n:Int)≤i then some (i+n).toNat else none
noncomputable def atI {α:Type} (xs:List α) (i:Int):Option α:=(ixN xs.length i).bind fun j=>xs[j]?
theorem JLx {n:Nat} {i:Int} {j:Nat} (h:ixN n i=some j):seqIndex? i n=some j∧j<n∧-(n:Int)≤i∧i<n:=by
 unfold ixN at h
 by_cases h0:0≤i
 ·rw [if_pos h0] at h
  by_cases h1:i<n
  ·rw [if_pos h1] at h
   have e:i.toNat=j:=Option.some.inj h
   exact ⟨by rw [seqIndex_of h0 h1,e],by omega,by omega,h1⟩
  ·rw [if_neg h1] at h;cases h
 ·rw [if_neg h0] at h
  by_cases h1:-(n:Int)≤i
  ·rw [if_pos h1] at h
   have e:(i+n).toNat=j:=Option.some.inj h
   exact ⟨by rw [seqIndex_neg (by omega) h1,e],by omega,h1,by omega⟩
  ·rw [if_neg h1] at h;cases h
theorem JEl {α:Type} {xs:List α} {i:Int} {v:α} (h:atI xs i=some v):∃j,seqIndex? i xs.length=some j∧xs[j]? = some v∧j<xs.length∧-(xs.length:Int)≤i∧i<xs.length:=by
 unfold atI at h
 cases e:ixN xs.length i with
 | none=>rw [e] at h;cases h
 | some j =>
  rw [e] at h
  obtain ⟨h1,h2,h3,h4⟩:=JLx e
  exact ⟨j,h1,h,h2,h3,h4⟩
noncomputable def JGM (b:Expr):Prop:=∀o i,subscripted b false o i=operate [o,i] (getItem o i)
noncomputable def IxR (X:Cx) (r:R2):Prop :=
 ∀(value slice:Expr) (pins:List (Addr×Obj)) (s:Shared) (σ:St) (H:Hp) (x y:V) (v u:Value) (Q:VK),Inv X pins σ H s→RelV x v→RelV y u→r x y H Q →
  subscripted slice false v u=operate [v,u] (getItem v u)→wpAny (model X.prog X.w) X.A (subscriptTail value slice v u) (EP X pins σ Q) X.xe s
noncomputable def MtR (X:Cx) (id:String) (r:V→List V→Hp→VK→Prop):Prop :=
 ∀(pins:List (Addr×Obj)) (s:Shared) (σ:St) (H:Hp) (x:V) (xs:List V) (v:Value) (us:List Value) (Q:VK),Inv X pins σ H s→RelV x v→Vals xs us→r x xs H Q →
  wpAny (model X.prog X.w) X.A (call (.builtin id) (v::us)) (EP X pins σ Q) X.xe s
section
variable {X:Cx} {a b:Expr} {ta tb:TE} {pos:Pos}
theorem IxR.or {r r':R2} (h:IxR X r) (h':IxR X r'):IxR X (fun x y H Q=>r x y H Q∨r' x y H Q):=by
 intro value slice pins s σ H x y v u Q I rx ry q hs
 rcases q with q | q
 ·exact h value slice pins s σ H x y v u Q I rx ry q hs
 ·exact h' value slice pins s σ H x y v u Q I rx ry q hs
theorem MtR.or {id:String} {r r':V→List V→Hp→VK→Prop} (h:MtR X id r) (h':MtR X id r'):MtR X id (fun x xs H Q=>r x xs H Q∨r' x xs H Q):=by
 intro pins s σ H x xs v us Q I rx rs q
 rcases q with q | q
 ·exact h pins s σ H x xs v us Q I rx rs q
 ·exact h' pins s σ H x xs v us Q I rx rs q
theorem pe_ix {r:R2} (hr:IxR X r) (ha:PE X a ta) (hb:PE X b tb) (hs:JGM b):PE X (.Subscript a b pos) (tOp r ta tb):=by
 intro pins s σ H Q I h
 exact Subscript_ (binT ha hb I h fun v u s2 x y H2 I2 rx ry q=>hr a b pins s2 σ H2 x y v u Q I2 rx ry q (hs _ _))
noncomputable def rIxL (K:PySem.W.Frag):R2:=fun x y H Q=>∃p xs i v,x=.ref p∧y=.int i∧SqL K H p xs∧atI xs i=some v∧Q v H
noncomputable def rIxT (K:PySem.W.Frag):R2:=fun x y H Q=>∃p xs i v,x=.ref p∧y=.int i∧SqT K H p xs∧atI xs i=some v∧Q v H
noncomputable def rIxS:R2:=fun x y H Q=>∃z i c,x=.str z∧y=.int i∧z.length≤sizeLine∧atI z.cps.toList i=some c∧Q (.str ⟨#[c]⟩) H
theorem ix_list:IxR X (rIxL X.K):=by
 intro value slice pins s σ H x y v u Q I rx ry h hs
 obtain ⟨p,xs,i,z,rfl,rfl,hq,he,q⟩:=h
 cases rx
 obtain ⟨t,rfl⟩:=ry
 obtain ⟨its,r,pl,hz⟩:=I.list hq
 obtain ⟨j,h1,h2,h3,h4,h5⟩:=JEl he
 obtain ⟨w,ew,rw'⟩:=r.get h2
 have hl:=r.length
 have hn:=JDu
 have fin:EP X pins σ Q w s:=⟨z,H,I,rw',q⟩
 by_cases h0:0≤i
 ·have hj:i.toNat=j:=by
   rw [seqIndex_of h0 h5] at h1
   exact Option.some.inj h1
  exact item_listR pl.isList h0 (by omega) (by rw [hj];simpa using ew) fin hs
 ·have hj:(i+(its.toArray.size:Int)).toNat=j:=by
   rw [seqIndex_neg (by omega) h4] at h1
   rw [List.size_toArray,←hl]
   exact Option.some.inj h1
  exact subscriptTail_builtinR (x:=w) pl.isList.typeIs slot_list_getitem.lookup
   (wpAny_getItem_list_neg (Q:=fun r s'=>r=w∧EP X pins σ Q r s') pl.isList (by omega) (by rw [List.size_toArray]<;>omega) (by omega) (by rw [hj];simpa using ew) ⟨rfl,fin⟩) hs
theorem ix_tup:IxR X (rIxT X.K):=by
 intro value slice pins s σ H x y v u Q I rx ry h hs
 obtain ⟨p,xs,i,z,rfl,rfl,hq,he,q⟩:=h
 cases rx
 obtain ⟨t,rfl⟩:=ry
 obtain ⟨its,r,pl,hz⟩:=I.tuple hq
 obtain ⟨j,h1,h2,h3,h4,h5⟩:=JEl he
 obtain ⟨w,ew,rw'⟩:=r.get h2
 have hl:=r.length
 have hn:=JDu
 have fin:EP X pins σ Q w s:=⟨z,H,I,rw',q⟩
 exact subscriptTail_builtinR (x:=w) pl.typeIs slot_tuple_getitem.lookup
  (getItem_tuple (j:=j) (Q:=fun r s'=>r=w∧EP X pins σ Q r s') pl (by omega) (by omega) (by rw [List.size_toArray,←hl];exact h1) (by simpa using ew) ⟨rfl,fin⟩) hs
theorem JNG:IxR X rIxS:=by
 intro value slice pins s σ H x y v u Q I rx ry h hs
 obtain ⟨z,i,c,rfl,rfl,hz,he,q⟩:=h
 obtain ⟨t,rfl⟩:=rx
 obtain ⟨t',rfl⟩:=ry
 obtain ⟨j,h1,h2,h3,h4,h5⟩:=JEl he
 have hl:z.cps.toList.length=z.length:=by simp [Str.length]
 rw [hl] at h1 h4 h5
 have hn:=JDu
 exact tail_any (typeIs_str s z t) slot_str_getitem.lookup (getItem_str (c:=c) (by
  have e1:decide (i < -(2 ^ 63:Int))=false:=decide_eq_false (by omega)
  have e2:decide (i ≥ 2 ^ 63)=false:=decide_eq_false (by omega)
  rw [e1,e2,Bool.or_false]) (by rw [h1];simpa using h2) ⟨.str ⟨#[c]⟩,H,I.tok _,⟨_,rfl⟩,q⟩) hs
noncomputable def rIx (K:PySem.W.Frag):R2:=fun x y H Q=>rIxL K x y H Q∨rIxT K x y H Q∨rIxS x y H Q
theorem ix_seq:IxR X (rIx X.K):=ix_list.or (ix_tup.or JNG)
theorem Inv.lst {pins:List (Addr×Obj)} {σ:St} {H:Hp} {s:Shared} {p:Addr} {xs:List V} (I:Inv X pins σ H s) (h:H p=some (.lst xs)) :
  ∃(its:List Value) (n:Nat),Vals xs its∧s.heap.get? p=some { cls:=.type "list",data:=.seq its.toArray n }∧xs.length≤sizeLine:=by
 obtain ⟨z,its,n,r,e⟩:=I.hok p _ h
 exact ⟨its,n,r,e,z⟩
theorem JEK (lo hi:Option Int) (n:Nat):(sliceBounds lo hi none n).1=((HT.sIx n 0 lo:Nat):Int)∧(sliceBounds lo hi none n).2.1=((HT.sIx n n hi:Nat):Int)∧(sliceBounds lo hi none n).2.2=1:=by
 refine ⟨?_,?_,rfl⟩
 ·cases lo with
  | none=>simp [sliceBounds,HT.sIx]
  | some i =>
   simp only [sliceBounds,HT.sIx,Option.getD_none,show (1:Int) > 0 by decide,if_true]
   by_cases h:i<0
   ·simp only [h,if_true]<;>omega
   ·simp only [h,if_false]<;>omega
 ·cases hi with
  | none=>simp [sliceBounds,HT.sIx]
  | some i =>
   simp only [sliceBounds,HT.sIx,Option.getD_none,show (1:Int) > 0 by decide,if_true]
   by_cases h:i<0
   ·simp only [h,if_true]<;>omega
   ·simp only [h,if_false]<;>omega
theorem JDP (its:List Value) (lo hi:Option Int):slicePick its.toArray lo hi none=((its.drop (HT.sIx its.length 0 lo)).take (HT.sIx its.length its.length hi - HT.sIx its.length 0 lo)).toArray:=by
 obtain ⟨h1,h2,h3⟩:=JEK lo hi its.toArray.size
 unfold slicePick
 rw [h1,h2,h3]
 simp only [sliceRange_one,pick_run,List.size_toArray]<;>rfl
noncomputable def rSlL (K:PySem.W.Frag):V→Option Int→Option Int→Hp→VK→Prop:=fun x lo hi H Q=>∃a xs,x=.ref a∧SqL K H a xs∧∀p,H p=none→Q (.ref p) (upd H p (.lst (cutV xs lo hi)))
theorem JMG:SlR X (rSlL X.K):=by
 intro pins s σ H x v vl vu lo hi sl Q I rx hs pl pu h
 obtain ⟨a,xs,rfl,hx,q⟩:=h
 cases rx
 obtain ⟨its,r,ht,hz⟩:=I.list hx
 have hlen:=r.length
 refine ⟨"list",_,slot_list_getitem.lookup,ht.isList.typeIs,?_⟩
 refine wpAny_getItem_list_slice ht.isList hs pl pu .none (by simp) ?_ (by rw [List.size_toArray]<;>omega)
 rw [JDP,←hlen]
 refine ⟨.ref s.heap.objs.size,_,I.laid (t':=s.toks) (o:=.lst (cutV xs lo hi)) (fun b ob q=>Heap.get?_push_of_some _ q) (Nat.le_refl _) ?_,rfl,q _ (I.hok.fresh (Nat.le_refl _))⟩
 exact ⟨Nat.le_trans (JCu xs lo hi) hz,_,0,(r.drop (HT.sIx xs.length 0 lo)).take (HT.sIx xs.length xs.length hi - HT.sIx xs.length 0 lo),Heap.get?_push_size _ rfl⟩
theorem CallR.or {f:Value} {r r':List V→Hp→VK→Prop} (h:CallR X f r) (h':CallR X f r'):CallR X f (fun xs H Q=>r xs H Q∨r' xs H Q):=by
 intro pins s σ H xs us Q I rs q
 rcases q with q | q
 ·exact h pins s σ H xs us Q I rs q
 ·exact h' pins s σ H xs us Q I rs q
theorem JD7:CallR X (.type "list") (fun xs H Q=>∃p ys,xs=[.ref p]∧(SqL X.K H p ys∨SqT X.K H p ys)∧∀l,H l=none→Q (.ref l) (upd H l (.lst ys))):=by
 intro pins s σ H xs us Q I r h
 obtain ⟨p,ys,rfl,hq,q⟩:=h
 obtain ⟨u,rfl,rx⟩:=vals1 r
 cases rx
 have fin:∀(its:List Value),Vals ys its→ys.length≤sizeLine→∀(h':Heap) (c':Nat),(∀b o',s.heap.get? b=some o'→h'.get? b=some o') →
   h'.get? s.heap.objs.size=some { cls:=.type "list",dict:=none,data:=.seq its.toArray c',slots:=#[] }→EP X pins σ Q (.ref s.heap.objs.size) { s with heap:=h' }:=fun its r' hz h' c' kp e =>
  ⟨.ref s.heap.objs.size,_,I.laid (t':=s.toks) kp (Nat.le_refl _) (show ObjOk X.prog X.w _ h' _ (.lst ys) from ⟨hz,its,c',r',e⟩),rfl,q _ (I.hok.fresh (Nat.le_refl _))⟩
 rcases hq with hq | hq
 ·obtain ⟨its,r',pl,hz⟩:=I.list hq
  have hlen:=r'.length
  obtain ⟨o,ho,hc,n,hd⟩:=pl.isList
  exact call_list_seq p (.inl rfl) ho hc hd (fun h' c' kp e=>fin its r' hz h' c' kp e) (by simp only [List.size_toArray]<;>omega)
 ·obtain ⟨its,r',pl,hz⟩:=I.tuple hq
  have hlen:=r'.length
  obtain ⟨o,ho,hc,n,hd⟩:=pl
  exact call_list_seq p (.inr rfl) ho hc hd (fun h' c' kp e=>fin its r' hz h' c' kp e) (by simp only [List.size_toArray]<;>omega)
theorem JDQ:CallR X (.type "tuple") (fun xs H Q=>∃p ys,xs=[.ref p]∧((SqL X.K H p ys∧∀l,H l=none→Q (.ref l) (upd H l (.tup ys)))∨(SqT X.K H p ys∧Q (.ref p) H))):=by
 intro pins s σ H xs us Q I r h
 obtain ⟨p,ys,rfl,h⟩:=h
 obtain ⟨u,rfl,rx⟩:=vals1 r
 cases rx
 rcases h with ⟨hq,q⟩ | ⟨hq,q⟩
 ·obtain ⟨its,r',pl,hz⟩:=I.list hq
  have hlen:=r'.length
  refine call_tuple_list pl.isList (fun h' kp=>?_) (by simp only [List.size_toArray]<;>omega)
  have I1:Inv X pins σ H { s with heap:=h' }:=I.kept (t':=s.toks) kp
  have I2:Inv X pins σ (upd H h'.objs.size (.tup ys)) { s with heap:=h'.push { cls:=.type "tuple",data:=.seq its.toArray } } :=
   I1.laid (t':=s.toks) (fun b o e=>Heap.get?_push_of_some _ e) (Nat.le_refl _) (show ObjOk X.prog X.w _ _ _ (.tup ys) from ⟨hz,its,r',IsTup.new _ _⟩)
  exact ⟨.ref h'.objs.size,_,I2,rfl,q _ (I1.hok.fresh (Nat.le_refl _))⟩
 ·obtain ⟨its,r',pl,hz⟩:=I.tuple hq
  exact call_tuple_same pl ⟨.ref p,H,I,rfl,q⟩
noncomputable def tyV (K:PySem.W.Frag) (T:String) (x:V) (H:Hp):Prop:=match x with
 | .str _=>T="str"
 | .int _=>T="int"
 | .ref p=>(T="list"∧∃xs,SqL K H p xs)∨(T="tuple"∧∃o,K.lookup p=some o∧o.cls=.type "tuple"∧o.dict=none) ∨
  (T="dict"∧((∃kvs,H p=some (.dK kvs))∨∃kvs,H p=some (.dT kvs)))∨(T="set"∧∃S n,H p=some (.set S n))
 | _=>False
theorem JJ6 {pins:List (Addr×Obj)} {σ:St} {H:Hp} {s:Shared} {T:String} {x:V} {v:Value} (I:Inv X pins σ H s) (r:RelV x v) (ty:tyV X.K T x H) :
  s.TypeIs v T∧∀a,v=.ref a→∃ob,s.heap.get? a=some ob∧ob.dict=none:=by
 cases x with
 | str z =>
  obtain ⟨t,rfl⟩:=r
  cases (show T="str" from ty)
  exact ⟨typeIs_str s z t,fun _ e=>nomatch e⟩
 | int i =>
  obtain ⟨t,rfl⟩:=r
  cases (show T="int" from ty)
  exact ⟨typeIs_int s i t,fun _ e=>nomatch e⟩
 | ref p =>
  cases r
  rcases ty with ⟨rfl,xs,hq⟩ | ⟨rfl,o,hk,hc,hd⟩ | ⟨rfl,hk⟩ | ⟨rfl,S,n,hk⟩
  ·obtain ⟨its,_,pl,_⟩:=I.list hq
   refine ⟨pl.isList.typeIs,fun a e=>?_⟩
   cases e
   obtain ⟨o,n,e,c,hd,_⟩:=pl
   exact ⟨o,e,hd⟩
  ·refine ⟨⟨o,I.kIn p o hk,hc⟩,fun a e=>?_⟩
   cases e
   exact ⟨o,I.kIn _ o hk,hd⟩
  ·have z:∃o,s.heap.get? p=some o∧o.ExactDict:=by
    rcases hk with ⟨kvs,hk⟩ | ⟨kvs,hk⟩
    ·obtain ⟨_,_,_,_,o,_,_,e,ex,_⟩:=I.hok p _ hk
     exact ⟨o,e,ex⟩
    ·obtain ⟨_,_,_,_,o,_,_,e,ex,_⟩:=I.hok p _ hk
     exact ⟨o,e,ex⟩
   obtain ⟨o,e,ex⟩:=z
   refine ⟨⟨o,e,ex.1⟩,fun a e2=>?_⟩
   cases e2
   exact ⟨o,e,ex.2.1⟩
  ·obtain ⟨o,_,_,_,e,ex,_⟩:=I.hok p _ hk
   refine ⟨⟨o,e,ex.1⟩,fun a e2=>?_⟩
   cases e2
   exact ⟨o,e,ex.2.1⟩
 | _=>exact False.elim ty
noncomputable def tBM (K:PySem.W.Frag) (T:String) (r:V→List V→Hp→VK→Prop) (to:TE) (t:TA):TE:=fun σ H Q=>to σ H fun x H1=>tyV K T x H1∧t σ H1 fun xs H2=>r x xs H2 Q
variable {o e:Expr} {es:List Expr} {to:TE} {t:TA} {name:Str} {apos cpos:Pos} {T id:String} {r:V→List V→Hp→VK→Prop}
theorem JNM (pa:PlainAttrs T) (slot:Slot T name id) (hty:typeOf (.builtin id)=pure (.type "method_descriptor")) (hm:MtR X id r) (ho:PE X o to) (ha:PA X (e::es) t)
  (hbase:attributeBase o name X.env (eval o X.env)=eval o X.env:=by rfl)
  (hfew:((backTo cpos (starEach (e::es) X.env)).all (fun x=>!x.1)&&(backToKw cpos (keywordEach [] X.env)).all (fun x=>x.1.isSome)
    && decide ((e::es).length+([]:List Keyword).length+(if ([]:List Keyword).isEmpty then 0 else 1)<30))=true:=by rfl)
  (hline:(apos.endLine==cpos.line)=true:=by rfl) (hs:starEach (e::es) X.env=(false,eval e X.env)::starEach es X.env:=by rfl) (hplain:(backTo cpos (starEach es X.env)).any (·.1)=false:=by rfl) :
  PE X (.Call (.Attribute o name apos) (e::es) [] cpos) (tBM X.K T r to t):=by
 intro pins s σ H Q I h
 refine wpAny_Call_method_late hbase hfew hline rfl (thn (ho pins s σ H _ I h) fun v s1 ⟨x,H1,I1,r1,ty,q1⟩=>?_)
 obtain ⟨h1,h2⟩:=JJ6 I1 r1 ty
 refine ⟨T,id,pa,slot,hty,h1,h2,?_⟩
 have hA:=ha cpos pins s1 σ H1 _ I1 q1
 rw [hs] at hA ⊢
 refine Calls.callWith_builtin (by show (false || (backTo cpos (starEach es X.env)).any (·.1))=false;rw [hplain]<;>rfl) (Calls.evalArgs_plain ?_)
 exact thn hA fun us s2 ⟨vs,H2,I2,r2,q2⟩=>hm pins s2 σ H2 x vs v us Q I2 r1 r2 q2
end
end L2
namespace L2
open PySem PySem.Spec PyProof.Rows
noncomputable def MtM (X:Cx) (id:String) (r:V→List V→Hp→VK→Prop):Prop :=
 ∀(pins:List (Addr×Obj)) (s:Shared) (σ:St) (H:Hp) (x:V) (xs:List V) (v:Value) (us:List Value) (Q:VK),Inv X pins σ H s→RelV x v→Vals xs us→r x xs H Q →
  wpAny (model X.prog X.w) X.A (call (.builtin id) (v::us)) (EP X pins σ Q) X.xe s
theorem Vals.one:∀ {x:V} {us:List Value},Vals [x] us→∃u,us=[u]∧RelV x u
 | _,_,.cons r .nil=>⟨_,rfl,r⟩
theorem Vals.two:∀ {x y:V} {us:List Value},Vals [x,y] us→∃u v,us=[u,v]∧RelV x u∧RelV y v
 | _,_,_,.cons r (.cons q .nil)=>⟨_,_,rfl,r,q⟩
theorem Vals.rep {xs:List V} {us:List Value} (h:Vals xs us):∀k:Nat,Vals (List.replicate k xs).flatten (List.replicate k us).flatten
 | 0=>.nil
 | k+1=>by
  rw [List.replicate_succ,List.replicate_succ,List.flatten_cons,List.flatten_cons]
  exact Vals.append h (Vals.rep h k)
section
variable {X:Cx} {pins:List (Addr×Obj)} {σ:St} {H:Hp} {s:Shared} {l b:Addr} {xs ys zs:List V}
theorem Inv.lset {its its':List Value} {n:Nat} {f:Array Value→Array Value} {t':Nat} (I:Inv X pins σ H s) (hH:H l=some (.lst xs))
  (e:s.heap.get? l=some { cls:=.type "list",data:=.seq its.toArray n }) (hf:f its.toArray=its'.toArray) (hv:Vals ys its') (hz:ys.length≤sizeLine) :
  Inv X pins σ (upd H l (.lst ys)) { s with heap:=s.heap.update l (Obj.mapSeq f),toks:=t' }:=by
 have q:=PySem.IsL.update e f
 rw [hf] at q
 refine I.write (x:=l) (e:=l) (by rw [hH];exact trivial) (.inl rfl) (fun b' u hb hu=>(Heap.get?_update_other s.heap (Obj.mapSeq f) (Ne.symm hb)).trans hu) ⟨_,q⟩ ?_
 exact ⟨hz,its',_,hv,q⟩
theorem Inv.lnew {its:List Value} {t':Nat} (I:Inv X pins σ H s) (hv:Vals ys its) (hz:ys.length≤sizeLine) :
  Inv X pins σ (upd H s.heap.objs.size (.lst ys)) { s with heap:=s.heap.push { cls:=.type "list",data:=.seq its.toArray },toks:=t' } :=
 I.laid (fun _ _ q=>Heap.get?_push_of_some _ q) (Nat.le_refl _) ⟨hz,its,0,hv,Heap.get?_push_size _ rfl⟩
theorem Inv.fresh (I:Inv X pins σ H s):H s.heap.objs.size=none:=I.hok.fresh (Nat.le_refl _)
theorem Inv.lstM (I:Inv X pins σ H s) (hH:H l=some (.lst xs)):xs.length≤sizeLine∧∃(its:List Value) (n:Nat),Vals xs its∧xs.length=its.length∧s.heap.get? l=some { cls:=.type "list",data:=.seq its.toArray n }:=by
 obtain ⟨z,its,n,r,e⟩:=I.hok l _ hH
 exact ⟨z,its,n,r,r.length,e⟩
theorem JH1 {n:Nat} (h:n≤sizeLine):Builtin.List.listTooLong n=false:=by
 unfold Builtin.List.listTooLong
 exact decide_eq_false (by omega)
end
section
variable {X:Cx}
noncomputable def JKy:V→List V→Hp→VK→Prop:=fun x vs H Q=>∃l xs y,x=.ref l∧vs=[y]∧H l=some (.lst xs)∧xs.length<sizeLine∧Q .non (upd H l (.lst (xs++[y])))
theorem JEJ:MtM X "list.append" JKy:=by
 intro pins s σ H x vs v us Q I rx rv h
 obtain ⟨l,xs,y,rfl,rfl,hH,hz,q⟩:=h
 cases rx
 obtain ⟨u,rfl,ru⟩:=rv.one
 obtain ⟨z,its,n,r,hl,e⟩:=I.lstM hH
 refine call_meets F.slot_list_append ⟨_,e,rfl⟩ F.entry_list_append (F.args_list_append_2 _ _) (PySem.list_append l its.toArray n u (by rw [List.size_toArray];omega)) ⟨e,?_⟩
 refine ⟨.non,_,I.lset (its':=its++[u]) hH e (by simp) (r.append (.cons ru .nil)) ?_,rfl,q⟩
 rw [List.length_append,List.length_singleton]
 omega
theorem len_rep {α:Type} (xs:List α) (k:Nat):(List.replicate k xs).flatten.length=k*xs.length:=by
 induction k with
 | zero=>simp
 | succ k ih=>rw [List.replicate_succ,List.flatten_cons,List.length_append,ih,Nat.succ_mul,Nat.add_comm]
end
section
variable {prog:Program} {w:World} {A:Around} {E:Value→Shared→Prop} {s:Shared}
set_option maxRecDepth 100000 in
end
section
variable {X:Cx}
end
end L2
namespace Att
open PySem PySem.W PySem.Calls PyProof.Rows
theorem JCY {P:Params} {h:Heap}:∀(ns:List Int) (vs:List Value),WellAll P h vs (ns.map WData.int)→IntsAre vs ns:=by
 intro ns
 induction ns with
 | nil =>
  intro vs w
  rw [List.map_nil] at w
  cases w
  exact .nil
 | cons n ns ih =>
  intro vs w
  rw [List.map_cons] at w
  cases w with
  | cons a b =>
   cases a
   exact .cons _ _ (ih _ b)
theorem JG6 {l:OpenLaw} {n:Nat} (hn:l.most=some n) {P:Params} {h:Heap} {args:List WData} {vals:List Value}
  (hpre:l.row.toRowW.claim.pre args=true) (hwl:WellAll P h vals args) :
  ∃a vs ns,vals=[Value.ref a]∧args=[WData.list (ns.map WData.int)]∧h.get? a=some { cls:=.type "list",data:=.seq vs.toArray }∧IntsAre vs ns∧ns.length≤n:=by
 have hsh:WShape.hasAll [] args [.list .int]=true:=(pre_splitW hpre).1
 have hc:l.pre.holds [] { args:=args }=true:=(pre_splitW hpre).2
 obtain ⟨d,r,rfl,h1,h2⟩:=hasAllW_cons hsh
 obtain rfl:=hasAllW_nil h2
 obtain ⟨xs,rfl,h3⟩:=hasW_list h1
 obtain ⟨ns,rfl⟩:=items_int h3
 have hlen:ns.length≤n:=by
  unfold OpenLaw.pre at hc
  have h4:(WTm.not (.lt (.lit (.int (n:Int))) (.len (.arg 0)))).holds [] { args:=[.list (ns.map .int)] }=true:=by
    have h4:=(holds_andW hc).1
    rw [hn] at h4
    exact h4
  have h5:=condW_of h4 (w_not (w_lt w_lit (w_len_list (w_arg rfl))))
  rw [List.length_map] at h5
  refine Nat.le_of_not_lt fun q=>?_
  have q':(n:Int)<((ns.length:Nat):Int):=by omega
  first
    |(rw [decide_eq_true q'] at h5;exact absurd h5 (by decide))
    |(simp at h5;omega)
 cases hwl with
 | cons w1 w2 =>
  cases w2
  cases w1 with
  | list ho hall=>exact ⟨_,_,ns,rfl,rfl,ho,JCY ns _ hall,hlen⟩
theorem JGw (l:OpenLaw) (args:List WData):l.row.toRowW.claim.post args (.bool true) args=true :=
 postW_of (r:=l.row.toRowW) (X:=(true==true))
  (show WShape.has [] (.bool true) .bool=true by first | rfl | decide | simp [WShape.has,WShape.arms,WShape.armsAll])
  (show (WTm.eq .res (.lit (.bool true))).value [] { args:=args,res:=some (.bool true),after:=args }=some (.bool (true==true)) from w_eq_bool (w_res rfl) w_lit) rfl
theorem attach_call {l:OpenLaw} {n:Nat} {q:Program} {loose:List Str} {XP:(Str→Option Value)→Heap→Prop} {YP:World→Heap→Prop} {d:DefRec}
  (hn:l.most=some n) (hdf:d.params.defaults=[])
  (call:∀(w:World) (s₀ s₁:Shared) (mg mb:Str→Option Value) (fa:Addr) (o:Obj) (pm cd doc:Value) (a:Addr) (vs:List Value) (ns:List Int),
    Ground q loose [] XP w s₀ mg mb s₁.heap→YP w s₁.heap →
    s₁.heap.get? fa=some o→o.data=.func (docDef d.name d.params d.body d.scope pm cd doc)→s₁.heap.CodeRec cd d.name→mg d.name=some (.ref fa) →
    s₁.heap.get? a=some { cls:=.type "list",data:=.seq vs.toArray }→IntsAre vs ns→ns.length≤n→s₁.gens=#[] →
    codeAny (model l.prog w) callerA (.call (.ref fa) ⟨[.ref a],[]⟩) (fun r s'=>r=.ok (.ret (.bool true))∧OldK s₁.heap s'.heap∧s'.os=s₁.os∧AllBare s'.gens) s₁) :
  WalkO q loose XP YP l.row.toRowW d [] (fun f vs=>PySem.call f vs):=by
 intro w s₀ s₁ mg mb G Y fa o pm cd doc dV kV ho hd hcd hD hmg hg args vals as hpre hlay hrd hwl hlo
 obtain rfl:dV=.none:=Dflts.none hD hdf
 obtain rfl:kV=.none:=Dflts.noKw hD
 obtain ⟨a,vs,ns,rfl,rfl,hobj,hints,hlen⟩:=JG6 hn hpre hwl
 refine enter_call (codeAny_mono (call w s₀ s₁ mg mb fa o pm cd doc a vs ns G Y ho (fd_plain hd) hcd hmg hobj hints hlen hg) fun r s' hq=>?_)
 obtain ⟨rfl,h2,h3,h4⟩:=hq
 exact ⟨.inl ⟨.bool true,.bool true,[],rfl,fun _=>rfl,.bool true,JGw l _,fun _=>⟨List.Pairwise.nil,fun _ hm=>(nomatch hm)⟩⟩,h2,h3,h4⟩
section
variable {prog:Program} {w:World} {A:Around} {E:Value→Shared→Prop} {s:Shared} {K:Frag}
noncomputable def ledger (h:Heap) (L d:Addr):List (Addr×Obj):=(List.range h.objs.size).filterMap fun a=>if a=L∨a=d then none else (h.get? a).map fun o=>(a,o)
end
end Att
namespace L2
open PySem PySem.Spec PyProof.Rows
theorem JCb:∀ {vs:List Value} {ns:List Int},IntsAre vs ns→Vals (ns.map V.int) vs
 | _,_,.nil=>.nil
 | _,_,.cons n t h=>.cons ⟨t,rfl⟩ (JCb h)
noncomputable def Only (H:Hp):Prop:=∀b,H b=none∨∃o xs,H b=some (.frz o (.lst xs))
theorem JIL {P:Program} {w:World} {K:PySem.W.Frag} {mg mb:Str→Option Value} {CX:CXT} {k:Nat} {fa a:Addr} {fd:FuncData} {x:Str} {sp:Sp} {s₁:Shared} {vs:List Value} {ns:List Int}
  (KX:K.In s₁.heap) (hns:s₁.heap.Ns mainGlobals mg) (hb:s₁.heap.Ns builtinsNs mb) (hbb:∀x:Str,x≠"__name__"→mb x=bootBuiltins x) (hlim:s₁.heap.NoLimit) (hg:s₁.gens=#[])
  (ha:s₁.heap.get? a=some { cls:=.type "list",data:=.seq vs.toArray }) (hi:IntsAre vs ns) (hl:ns.length≤sizeLine) (hr:Room k callerA)
  (F:∀base:Heap,K.In base→base.Ns mainGlobals mg→FnOk P w K mg base CX k fa fd [x] sp) (hbind:∀(s:Shared) (u:Value),BindsTo s fd ⟨[u],[]⟩ [(x,u)])
  (hsp:∀H:Hp,Only H→SqL K H a (ns.map V.int)→sp [.ref a] H (fun v _=>v=.bl true) fun _ _ _=>False)
  (hCX:∀H e s',CX [] H s₁ (fun _ _ _=>False) e s'→False) :
  codeAny (model P w) callerA (.call (.ref fa) ⟨[.ref a],[]⟩) (fun r s'=>r=.ok (.ret (.bool true))∧OldK s₁.heap s'.heap∧s'.os=s₁.os∧AllBare s'.gens) s₁:=by
 have rv:=JCb hi
 have lenV:=hi.length
 have core:∀H:Hp,Only H→SqL K H a (ns.map V.int)→HOk P w H s₁.heap→(∀b,H b≠none→b=a)→(H a≠none→K.lookup a=none) →
    codeAny (model P w) callerA (.call (.ref fa) ⟨[.ref a],[]⟩) (fun r s'=>r=.ok (.ret (.bool true))∧OldK s₁.heap s'.heap∧s'.os=s₁.os∧AllBare s'.gens) s₁:=by
  intro H hO hS hok hA hK
  have base_of:∀ {b:Addr} {o:Obj},s₁.heap.get? b=some o→H b=none→(hidT s₁.heap H).get? b=some o:=fun e n=>JFA e n
  have noA:∀ {b:Addr} {o:Obj} {es:Array DictEntry} {ep:Nat},s₁.heap.get? b=some o→o.data=.dict es ep→H b=none:=fun {b o es ep} e d=>by
    cases q:H b with
    | none=>rfl
    | some u =>
     have e':b=a:=hA b (by rw [q];simp)
     subst e'
     rw [ha] at e;cases e
     have d':Data.seq vs.toArray _=Data.dict es ep:=d
     cases d'
  have nsK:∀ {b:Addr} {m:Str→Option Value},s₁.heap.Ns b m→(hidT s₁.heap H).Ns b m:=fun {b m} ⟨o,es,ep,e,d,r⟩=>⟨o,es,ep,base_of e (noA e d),d,r⟩
  have hKb:K.In (hidT s₁.heap H):=fun b o e=>base_of (KX b o e) (by
    cases q:H b with
    | none=>rfl
    | some u =>
     have e':b=a:=hA b (by rw [q];simp)
     subst e'
     rw [hK (by rw [q];simp)] at e;cases e)
  have hM:Mod K mg (hidT s₁.heap H):=⟨hKb,nsK hns,⟨mb,nsK hb,hbb⟩,let ⟨mc,h1,h2⟩:=hlim;⟨mc,nsK h1,h2⟩⟩
  have e0:Env0 P w K mg (hidT s₁.heap H) callerA [] s₁ H:=⟨rfl,hM,fun b o e=>JEi e,Nat.le_of_eq (JDi _ _),trivial,fun b hb=>absurd (show b∈([]:List Addr) from hb) (by simp),hok,.of_eq hg⟩
  refine codeAny_mono ((F _ hKb (nsK hns)).run callerA [] s₁ H ⟨[.ref a],[]⟩ [.ref a] [.ref a] _ _ hr e0 (hbind s₁ (.ref a)) (.cons rfl .nil) (hsp H hO hS)) fun r s' h=>?_
  cases r with
  | error e=>exact (hCX H e s' h).elim
  | ok fl =>
    cases fl with
    | next=>exact False.elim h
    | brk=>exact False.elim h
    | cont=>exact False.elim h
    | ret u =>
     obtain ⟨v,H',os,bare,un,hok',r',q⟩:=h
     have q':v=.bl true:=q
     subst q'
     obtain rfl:u=Value.bool true:=r'
     refine ⟨rfl,OldK.of_keep fun b o e=>?_,os,bare⟩
     cases q:H b with
     | none=>exact un.keep b o e q (by intro z;exact absurd (show b∈([]:List Addr) from z) (by simp)) (by simp)
     | some u =>
      rcases hO b with z | ⟨ob,xs,z⟩
      ·rw [q] at z;cases z
      ·have z2:=un.frzs b ob _ z
       obtain ⟨e1,_⟩:=hok b _ z
       obtain ⟨e2,_⟩:=hok' b _ z2
       rw [e] at e1;cases e1
       exact e2
 cases hk:K.lookup a with
 | some o =>
  have e:=KX a o hk
  rw [ha] at e
  cases e
  refine core (fun _=>none) (fun _=>.inl rfl) (.inr ⟨_,vs.toArray,_,hk,rfl,rfl,rfl,by rw [List.size_toArray,lenV];exact hl,by simpa using rv⟩) (fun b u z=>by have z':(none:Option HO)=some u:=z;cases z') (fun b z=>absurd rfl z) fun z=>absurd rfl z
 | none =>
  refine core (fun b=>if b=a then some (.frz { cls:=.type "list",data:=.seq vs.toArray } (.lst (ns.map V.int))) else none) (fun b=>?_) (.inl (.inr ⟨{ cls:=.type "list",data:=.seq vs.toArray },if_pos rfl⟩)) (fun b u z=>?_) (fun b z=>?_) fun _=>hk
  · by_cases hb:b=a
    ·exact .inr ⟨_,_,if_pos hb⟩
    ·exact .inl (if_neg hb)
  · by_cases hb:b=a
    ·have z':=(if_pos hb).symm.trans z
     cases z'
     subst hb
     exact ⟨ha,by rw [List.length_map];exact hl,vs,_,rv,ha⟩
    ·have z':=(if_neg hb).symm.trans z
     cases z'
  · by_cases hb:b=a
    ·exact hb
    ·exact absurd (if_neg hb) z
end L2
namespace L2
open PySem PySem.Spec PyProof.Rows
noncomputable abbrev KOf {K:PySem.W.Frag} {h:Heap} (_:K.In h):PySem.W.Frag:=K
theorem walk_of {l:PySem.W.OpenLaw} {n k:Nat} {q:Program} {loose:List Str} {XP:(Str→Option Value)→Heap→Prop} {YP:World→Heap→Prop} {d:DefRec} {K:Params→PySem.W.Frag} {CX:World→CXT} {sp:World→Sp} {x:Str}
  (hn:l.most=some n) (hn2:n≤sizeLine) (hdf:d.params.defaults=[]) (hr:Room k callerA)
  (hY:∀(w:World) (h:Heap),YP w h→(K w.params).In h)
  (F:∀(w:World) (mg:Str→Option Value) (fa:Addr) (h:Heap),(K w.params).In h→h.Ns mainGlobals mg→mg d.name=some (.ref fa) →
    ∃fd:FuncData,(∀(s:Shared) (u:Value),BindsTo s fd ⟨[u],[]⟩ [(x,u)]) ∧
     ∀base:Heap,(K w.params).In base→base.Ns mainGlobals mg→FnOk l.prog w (K w.params) mg base (CX w) k fa fd [x] (sp w))
  (hsp:∀(w:World) (H:Hp) (a:Addr) (ns:List Int),ns.length≤n→Only H→SqL (K w.params) H a (ns.map V.int)→sp w [.ref a] H (fun v _=>v=.bl true) fun _ _ _=>False)
  (hCX:∀(w:World) (H:Hp) (s:Shared) (e:Value) (s':Shared),CX w [] H s (fun _ _ _=>False) e s'→False) :
  PySem.W.WalkO q loose XP YP l.row.toRowW d [] (fun f vs=>PySem.call f vs):=by
 refine Att.attach_call hn hdf fun w s₀ s₁ mg mb fa o pm cd doc a vs ns G Y ho hd hcd hmg hobj hints hlen hg=>?_
 have KX:=hY w _ Y
 obtain ⟨fd,hb,hF⟩:=F w mg fa _ KX G.T.g hmg
 exact JIL KX G.T.g G.T.b G.T.builtins G.T.nolimit hg hobj hints (Nat.le_trans hlen hn2) hr hF hb (fun H hO hS=>hsp w H a ns hlen hO hS) fun H e s'=>hCX w H s₁ e s'
end L2
namespace L2
open PySem PySem.Spec PyProof.Rows
noncomputable def JBF (s:Stmt):Arguments:=match s with
 | .FunctionDef _ a _ _ _ _ _ _ _ _=>a
 | _=>{ posonlyargs:=[],args:=[],vararg:=none,kwonlyargs:=[],kw_defaults:=[],kwarg:=none,defaults:=[] }
noncomputable def JAZ (s:Stmt):List Stmt:=match s with
 | .FunctionDef _ _ b _ _ _ _ _ _ _=>b
 | _=>[]
noncomputable def JAC (s:Stmt):Scope:=match s with
 | .FunctionDef _ _ _ _ _ _ sc _ _ _=>sc
 | _=>{ kind:=.function,names:=[],isGenerator:=false,isCoroutine:=false }
noncomputable abbrev CX0:CXT:=fun _ _ _ _ _ _=>False
structure Fun (K:PySem.W.Frag) (x qual:Str) (st:Stmt) (f:Addr) (fd:FuncData):Prop where
 ex:∃(oc:Value) (od:Option Addr) (kV doc pm:Value) (an:Option Addr) (cdv ct:Value) (osl:Array (Option Value)),
  fd=PySem.W.fnOf x qual (JBF st) (JAZ st) (JAC st) .none kV doc pm an cdv ct∧K.lookup f=some ⟨oc,od,.func fd,osl⟩∧PySem.W.codeIn K cdv qual=true
 kp:PySem.W.keepIn K (.ref f)=true
section
variable {P:Program} {w:World} {K:PySem.W.Frag} {mg:Str→Option Value} {base:Heap}
theorem Fun.ok {x qual:Str} {st:Stmt} {f:Addr} {fd:FuncData} {N ps:List Str} {k:Nat} {sp:Sp} (F:Fun K x qual st f fd) (S:FnScope N ps (JAC st)) (len:∀vs H Q E,sp vs H Q E→vs.length=ps.length)
  (hbody:∀(cdv:Value) (A:Around) (outer:List Env) (s:Shared) (H:Hp) (vs:List V) (Q:VK) (E:XK),Room k (A.deeper (envOfC qual (JAC st) s.heap.objs.size f cdv))→sp vs H Q E →
    ∃t,PSs (cxOf CX0 P w K mg base N qual (JAC st) f cdv A outer s H E).nox (JAZ st) t∧t { nx:=fun _ H'=>Q .non H',rt:=Q } (start N vs) H):FnOk P w K mg base CX0 (k+1) f fd ps sp:=by
 obtain ⟨oc,od,kV,doc,pm,an,cdv,ct,osl,rfl,lk,hcd⟩:=F.ex
 refine JMR lk hcd S len fun A outer s H vs Q E hr hsp=>?_
 obtain ⟨t,h,q⟩:=hbody cdv A outer s H vs Q E hr hsp
 exact ⟨t,h.nox,q⟩
theorem Fun.binds {x qual:Str} {st:Stmt} {f:Addr} {fd:FuncData} {ps:List Str} (F:Fun K x qual st f fd)
  (h:∀(kV doc pm:Value) (an:Option Addr) (cdv ct:Value) (us:List Value),us.length=ps.length→bindArgs (PySem.W.fnOf x qual (JBF st) (JAZ st) (JAC st) .none kV doc pm an cdv ct) ⟨us,[]⟩=pure (ps.zip us)):Binds K fd ps []:=by
 obtain ⟨oc,od,kV,doc,pm,an,cdv,ct,osl,rfl,lk,hcd⟩:=F.ex
 exact .all (h kV doc pm an cdv ct)
theorem JEx {x qual:Str} {st:Stmt} {f:Addr} {oc:Value} {od an:Option Addr} {osl:Array (Option Value)} {kV doc pm cdv ct:Value} (l:K.lookup f=some ⟨oc,od,.func (PySem.W.fnOf x qual (JBF st) (JAZ st) (JAC st) .none kV doc pm an cdv ct),osl⟩)
 (c:PySem.W.codeIn K cdv qual=true) (k:PySem.W.keepIn K (.ref f)=true):Fun K x qual st f (PySem.W.fnOf x qual (JBF st) (JAZ st) (JAC st) .none kV doc pm an cdv ct):=⟨⟨oc,od,kV,doc,pm,an,cdv,ct,osl,rfl,l,c⟩,k⟩
end
section
variable {X:Cx}
end
theorem iteF {A B:Prop} (h:B):if false=true then A else B:=by
 rw [if_neg Bool.false_ne_true]
 exact h
theorem iteT {A B:Prop} (h:A):if true=true then A else B:=by
 rw [if_pos rfl]
 exact h
noncomputable def Same (H H':Hp):Prop:=∀b o,H b=some o→H' b=some o
theorem Same.refl (H:Hp):Same H H:=fun _ _ h=>h
theorem Same.trans {H H1 H2:Hp} (a:Same H H1) (b:Same H1 H2):Same H H2:=fun c o h=>b c o (a c o h)
theorem Same.free {H H':Hp} (e:Same H H') {l:Addr} (h:H' l=Option.none):H l=Option.none:=by
 cases q:H l with
 | none=>rfl
 | some o =>
  rw [e l o q] at h
  cases h
theorem Same.seq {K:PySem.W.Frag} {H H':Hp} {a:Addr} {xs:List V} (e:Same H H') (h:SqL K H a xs):SqL K H' a xs:=by
 rcases h with (h | ⟨o,h⟩) | h
 ·exact .inl (.inl (e _ _ h))
 ·exact .inl (.inr ⟨o,e _ _ h⟩)
 ·exact .inr h
end L2
set_option autoImplicit false
section
set_option backward.eqns.nonrecursive false
namespace VI
open PySem
abbrev D:=PyData
noncomputable def excD (c:Nat):D:=.dict [(.none,.int (c:Int))]
inductive R (α:Type) where
 | ok (a:α)
 | exc (c:Nat)
 | bad
@[reducible] def R.bind {α β:Type} (r:R α) (f:α→R β):R β :=
 match r with
 | .ok a=>f a
 | .exc c=>.exc c
 | .bad=>.bad
inductive Ty where
 | int | bool | str | list | tuple | dict | valueError | own (c:Nat)
 deriving DecidableEq
inductive Blt where
 | len | abs | min | all
 deriving DecidableEq
inductive O1 where
 | slice (lo hi:Option Int)
 | toTup | toLst | rev
 deriving DecidableEq
inductive XO where
 | rev | enm | srt | zip | sst
 | dvs | dit | dls | dcp | dnw | din | dni | deq | dne | dtk | sts | dpr
 deriving DecidableEq
inductive E where
 | var (i:Nat)
 | cint (i:Int) | cbl (b:Bool) | cnon | cstr (x:Str)
 | glo (i:Nat)
 | bin (op:Operator) (a b:E)
 | neg (a:E)
 | not (a:E)
 | and (a b:E)
 | or (a b:E)
 | cmp (op:CmpOp) (a b:E)
 | isN (a:E) (neg:Bool)
 | isB (a:E) (b:Bool)
 | ife (c a b:E)
 | nil
 | cons (a r:E)
 | tup (es:E)
 | lst (es:E)
 | idx (a i:E)
 | call (f:Nat) (es:E)
 | blt (b:Blt) (es:E)
 | rng (es:E)
 | isi (a:E) (t:Ty)
 | mcount (o a:E)
 | mindex (o a:E)
 | mget (o a b:E)
 | cmpr (k:Nat) (elt iter cond:E)
 | dct (ks:List Str) (es:E)
 | rep (k:Nat) (es:E)
 | fn1 (o:O1) (a:E)
 | isnB (a:E) (b:Bool)
 | xop (k:XO) (es:E)
inductive Sl where
 | no
 | val (d:D)
 | own (d:D)
noncomputable def Sl.get:Sl→R D
 | .no=>.bad
 | .val d=>.ok d
 | .own (.dict _)=>.bad
 | .own d=>.ok d
noncomputable def Sl.frz:Sl→Sl
 | .own (.dict _)=>.no
 | .own d=>.val d
 | s=>s
noncomputable def Sl.isOwn:Sl→Bool
 | .own _=>true
 | _=>false
abbrev Env:=List Sl
noncomputable def look (δ:Env) (i:Nat):R D:=match δ[i]? with
 | some s=>s.get
 | none=>.bad
structure Cn where
 fn:Nat→List D→R D
 glo:Nat→R D
 sub:Nat→Nat→Bool
noncomputable def truth:D→R Bool
 | .none=>.ok false
 | .bool b=>.ok b
 | .int i=>.ok (i != 0)
 | .str x=>if x.length≤16777216 then .ok ((x.length:Int) != 0) else .bad
 | .list xs=>.ok (!xs.isEmpty)
 | .tuple xs=>.ok (!xs.isEmpty)
 | .dict _=>.bad
open Classical in
noncomputable def binD (op:Operator) (x y:D):R D :=
 match op,x,y with
 | .Add,.int i,.int j=>.ok (.int (i+j))
 | .Sub,.int i,.int j=>.ok (.int (i - j))
 | .Mult,.int i,.int j=>if IntMulOk i j then .ok (.int (i*j)) else .bad
 | .FloorDiv,.int i,.int j=>if j≠0∧Builtin.divisionGoesByPylong i j=false then .ok (.int (i.fdiv j)) else .bad
 | .Mod,.int i,.int j=>if j≠0 then .ok (.int (i.fmod j)) else .bad
 | .Add,.tuple xs,.tuple ys=>if xs.length+ys.length≤16777216 then .ok (.tuple (xs++ys)) else .bad
 | .Add,.list xs,.list ys=>if xs.length+ys.length≤16777216 then .ok (.list (xs++ys)) else .bad
 | .Mult,.tuple xs,.int k=>if 2≤k∧k≤1000∧xs.length≤1000∧xs≠[] then .ok (.tuple (List.replicate k.toNat xs).flatten) else .bad
 | .Mult,.list xs,.int k=>if -(2 ^ 62)≤k∧k<2 ^ 62∧xs.length*k.toNat≤16777216 then .ok (.list (List.replicate k.toNat xs).flatten) else .bad
 | _,_,_=>.bad
noncomputable def shaped (d:D):Bool:=d.canLay0&&decide (d.depth≤64)
noncomputable def JCE (xs:List D) (x:D):Bool:=PyData.canLayAll0 xs&&x.canLay0&&decide (x.depth≤60)
noncomputable def cmpD (op:CmpOp) (x y:D):R D :=
 match op with
 | .Eq=>if (shaped x&&shaped y)=true then .ok (.bool (PyData.eqv x y)) else .bad
 | .NotEq=>if (shaped x&&shaped y)=true then .ok (.bool (!PyData.eqv x y)) else .bad
 | .Lt=>match x,y with | .int i,.int j=>.ok (.bool (decide (i<j))) | _,_=>.bad
 | .LtE=>match x,y with | .int i,.int j=>.ok (.bool (decide (i≤j))) | _,_=>.bad
 | .Gt=>match x,y with | .int i,.int j=>.ok (.bool (decide (j<i))) | _,_=>.bad
 | .GtE=>match x,y with | .int i,.int j=>.ok (.bool (decide (j≤i))) | _,_=>.bad
 | .In=>match y with
  | .list xs=>if JCE xs x=true then .ok (.bool (xs.any fun z=>PyData.eqv z x)) else .bad
  | .tuple xs=>if JCE xs x=true then .ok (.bool (xs.any fun z=>PyData.eqv z x)) else .bad
  | _=>.bad
 | .NotIn=>match y with
  | .list xs=>if JCE xs x=true then .ok (.bool (!xs.any fun z=>PyData.eqv z x)) else .bad
  | .tuple xs=>if JCE xs x=true then .ok (.bool (!xs.any fun z=>PyData.eqv z x)) else .bad
  | _=>.bad
 | _=>.bad
noncomputable def isNone:D→Bool
 | .none=>true
 | _=>false
noncomputable def isBool (b:Bool):D→R Bool
 | .bool c=>.ok (c==b)
 | _=>.bad
noncomputable def ixN (n:Nat) (i:Int):Option Nat:=if 0≤i then (if i<n then some i.toNat else none) else if -(n:Int)≤i then some (i+n).toNat else none
noncomputable def atI {α:Type} (xs:List α) (i:Int):Option α:=(ixN xs.length i).bind fun j=>xs[j]?
noncomputable def optR {α:Type}:Option α→R α
 | some a=>.ok a
 | none=>.bad
noncomputable def getK:List (D×D)→Str→R D
 | [],_=>.bad
 |(.str k,v)::r,x=>if k=x then .ok v else getK r x
 | _::_,_=>.bad
noncomputable def idxD (x i:D):R D :=
 match x,i with
 | .list xs,.int i=>optR (atI xs i)
 | .tuple xs,.int i=>optR (atI xs i)
 | .dict kvs,.str y=>getK kvs y
 | .str x,.int i=>if x.cps.size≤1000 then optR ((atI x.cps.toList i).map fun c=>.str ⟨#[c]⟩) else .bad
 | _,_=>.bad
noncomputable def isiD (sub:Nat→Nat→Bool) (x:D) (t:Ty):R D :=
 match x with
 | .none=>.ok (.bool false)
 | .bool _=>.ok (.bool (t==.int || t==.bool))
 | .int _=>.ok (.bool (t==.int))
 | .str _=>.ok (.bool (t==.str))
 | .list _=>.ok (.bool (t==.list))
 | .tuple _=>.ok (.bool (t==.tuple))
 | .dict [(.none,.int c)]=>if sub c.toNat c.toNat=true then (match t with
  | .own e=>.ok (.bool (sub c.toNat e))
  | .valueError=>.ok (.bool true)
  | _=>.bad) else .bad
 | .dict _=>.bad
noncomputable def lexI:List Int→List Int→Bool
 | [],[]=>false
 | [],_::_=>true
 | _::_,[]=>false
 | a::r,b::t=>if a=b then lexI r t else decide (a<b)
noncomputable def intsOf:List D→Option (List Int)
 | []=>some []
 | .int a::r=>(intsOf r).map (a::·)
 | _=>none
noncomputable def keysOf:List D→Option (List (List Int))
 | []=>some []
 | .tuple a::r=>(intsOf a).bind fun k=>(keysOf r).map (k::·)
 | _=>none
noncomputable def minK:List Int→List (List Int)→List Int
 | k,[]=>k
 | k,b::r=>minK (if lexI b k=true then b else k) r
noncomputable def minD (ds:List D):R D:=match keysOf ds with
 | some (k::ks)=>.ok (.tuple ((minK k ks).map fun i=>.int i))
 | _=>.bad
noncomputable def allD:List D→R D
 | []=>.ok (.bool true)
 | .bool b::r=>(match allD r with
  | .ok (.bool c)=>.ok (.bool (b&&c))
  | _=>.bad)
 | _=>.bad
noncomputable def bltD (b:Blt) (xs:List D):R D :=
 match b,xs with
 | .len,[.list ys]=>.ok (.int ys.length)
 | .len,[.tuple ys]=>.ok (.int ys.length)
 | .abs,[.int i]=>.ok (.int (if i<0 then -i else i))
 | .min,[.list ys]=>minD ys
 | .all,[.list ys]=>allD ys
 | _,_=>.bad
noncomputable def JEM (lo hi:Int):List D:=(List.range (hi - lo).toNat).map fun (k:Nat)=>.int (lo+k)
noncomputable def small (i:Int):Bool:=decide (-(2 ^ 62)≤i)&&decide (i<2 ^ 62)
noncomputable def rngD (xs:List D):R (List D) :=
 match xs with
 | [.int j]=>if small j=true then .ok (JEM 0 j) else .bad
 | [.int i,.int j]=>if (small i&&small j)=true then .ok (JEM i j) else .bad
 | _=>.bad
noncomputable def JAk:D→R (List D)
 | .list xs=>.ok xs
 | .tuple xs=>.ok xs
 | _=>.bad
noncomputable def JDG (x y:D):R D :=
 match x with
 | .list xs=>if JCE xs y=true then .ok (.int (xs.countP fun z=>PyData.eqv z y:Nat)) else .bad
 | _=>.bad
noncomputable def JC6 (x y:D):R D :=
 match x with
 | .list xs=>if JCE xs y=true then
  (match xs.findIdx? fun z=>PyData.eqv z y with
   | some j=>.ok (.int j)
   | none=>.bad) else .bad
 | _=>.bad
noncomputable def getD:List (D×D)→Str→D→R D
 | [],_,z=>.ok z
 |(.str k,v)::r,x,z=>if k=x then .ok v else getD r x z
 | _,_,_=>.bad
noncomputable def JKt (x k z:D):R D :=
 match x,k with
 | .dict kvs,.str y=>getD kvs y z
 | _,_=>.bad
def sI (n d:Nat):Option Int→Nat
 | none=>d
 | some v=>if v<0 then (v+(n:Int)).toNat else min v.toNat n
def cutD {α:Type} (xs:List α) (lo hi:Option Int):List α:=(xs.drop (sI xs.length 0 lo)).take (sI xs.length xs.length hi - sI xs.length 0 lo)
noncomputable def op1D (o:O1) (d:D):R D:=match o,d with
 | .slice lo hi,.tuple xs=>.ok (.tuple (cutD xs lo hi))
 | .slice lo hi,.list xs=>.ok (.list (cutD xs lo hi))
 | .toTup,.tuple xs=>.ok (.tuple xs)
 | .toTup,.list xs=>.ok (.tuple xs)
 | .toLst,.tuple xs=>.ok (.list xs)
 | .toLst,.list xs=>.ok (.list xs)
 | .rev,.list xs=>.ok (.list xs.reverse)
 | _,_=>.bad
noncomputable def enmL:Nat→List D→List D
 | _,[]=>[]
 | i,d::r=>.tuple [.int (i:Nat),d]::enmL (i+1) r
noncomputable def kGo {α:Type} (lt:Nat→Nat→Bool):PySem.W.KasT α→α
 | .ret a=>a
 | .ask i j k=>kGo lt (k (lt i j))
inductive At where
 | i (n:Int) | s (x:Str) | t (k:List Int)
 deriving DecidableEq
noncomputable def At.kd:At→Nat
 | .i _=>0
 | .s _=>1
 | .t _=>2
noncomputable def ltAt:At→At→Bool
 | .i a,.i b=>decide (a<b)
 | .s x,.s y=>decide (x.cps.toList<y.cps.toList)
 | .t a,.t b=>lexI a b
 | _,_=>false
noncomputable def lexA:List At→List At→Bool
 | [],[]=>false
 | [],_::_=>true
 | _::_,[]=>false
 | a::r,b::t=>if a=b then lexA r t else ltAt a b
noncomputable def atOf:D→Option At
 | .int n=>some (.i n)
 | .str x=>some (.s x)
 | .tuple ds=>(intsOf ds).map .t
 | _=>none
noncomputable def JOw:List D→Option (List At)
 | []=>some []
 | d::r=>(atOf d).bind fun a=>(JOw r).map (a::·)
noncomputable def JOg:List D→Option (List (List At))
 | []=>some []
 | .tuple ds::r=>(JOw ds).bind fun k=>(JOg r).map (k::·)
 | _=>none
noncomputable def sortA (ks:List (List At)):List Nat:=(kGo (fun i j=>lexA (ks.getD i []) (ks.getD j [])) (PySem.W.kas_sort ks.length)).toList
noncomputable def sigOk:List (List At)→Bool
 | []=>false
 | k::ks=>!k.isEmpty&&ks.all fun q=>q.map At.kd==k.map At.kd
noncomputable def strsOf:List D→Option (List Str)
 | []=>some []
 | .str x::r=>(strsOf r).map (x::·)
 | _=>none
noncomputable def ltS (x y:Str):Bool:=decide (x.cps.toList<y.cps.toList)
noncomputable def JMg (zs:List Str):List Str:=if zs.length<2 then zs else (kGo (fun i j=>ltS (zs.getD i "") (zs.getD j "")) (PySem.W.kas_sort zs.length)).toList.map fun i=>zs.getD i ""
noncomputable def dedS:List Str→List Str
 | []=>[]
 | x::r=>if x∈dedS r then dedS r else x::dedS r
noncomputable def srtS (ys:List D):R D:=match strsOf ys with
 | some xs=>if xs.length≤7 then .ok (.list ((JMg xs).map .str)) else .bad
 | none=>.bad
noncomputable def sstS (ys:List D):R D:=match strsOf ys with
 | some xs=>if xs.length≤1000∧(dedS xs).length≤7 then .ok (.list ((JMg (dedS xs)).map .str)) else .bad
 | none=>.bad
noncomputable def srtA (ys:List D):R D:=match JOg ys with
 | some ks=>if 2≤ks.length∧ks.length≤5∧sigOk ks=true then .ok (.list ((sortA ks).map fun i=>ys.getD i .none)) else .bad
 | none=>srtS ys
noncomputable def srtD (ys:List D):R D:=if ys.length<2 then .ok (.list ys) else srtA ys
noncomputable def JFm:List (D×D)→Option (List D)
 | []=>some []
 |(.str x,_)::r=>(JFm r).map (.str x::·)
 | _=>none
noncomputable def hasK:List (D×D)→Str→Bool
 | [],_=>false
 |(.str z,_)::r,k=>decide (z=k) || hasK r k
 | _::r,k=>hasK r k
noncomputable def repD:List (D×D)→Str→D→List (D×D)
 | [],_,_=>[]
 |(.str z,v)::r,k,x=>(.str z,if z=k then x else v)::repD r k x
 | p::r,k,x=>p::repD r k x
noncomputable def putD (kvs:List (D×D)) (k:Str) (x:D):List (D×D):=if hasK kvs k=true then repD kvs k x else kvs++[(.str k,x)]
noncomputable def JNC (x y:D):R Bool:=match y,x with
 | .dict kvs,.str k=>(match JFm kvs with
  | some _=>.ok (hasK kvs k)
  | none=>.bad)
 | _,_=>.bad
noncomputable def JOf:D→Bool
 | .dict _=>true
 | _=>false
noncomputable def JJl (kb:List (D×D)):List (D×D)→R Bool
 | []=>.ok true
 |(.str k,v)::r=>(match getK kb k with
  | .ok y=>if (shaped v&&shaped y)=true then (match JJl kb r with
    | .ok b=>.ok (PyData.eqv v y&&b)
    | _=>.bad) else .bad
  | _=>.ok false)
 | _=>.bad
noncomputable def eqD2 (ka kb:List (D×D)):R Bool:=match JFm ka,JFm kb with
 | some _,some _=>if ka.length=kb.length then JJl kb ka else .ok false
 | _,_=>.bad
noncomputable def JMZ:D→D→Option (R Bool)
 | .dict ka,.dict kb=>some (eqD2 ka kb)
 | _,_=>none
noncomputable def keyL (f:List D→R D):D→R D
 | .dict kvs=>(match JFm kvs with
  | some ks=>if ks.length≤1000000 then f ks else .bad
  | none=>.bad)
 | _=>.bad
noncomputable def delK (kvs:List (D×D)) (k:Str):List (D×D):=kvs.filter fun p=>match p.1 with
 | .str z=>!decide (z=k)
 | _=>true
noncomputable def JJs:List D→List (D×D)→Option (List (D×D))
 | [],acc=>some acc
 | .tuple [.str k,v]::r,acc=>JJs r (putD acc k v)
 | _,_=>none
noncomputable def dD (k:XO) (xs:List D):R D:=match k,xs with
 | .dvs,[.dict kvs]=>(match JFm kvs with
  | some _=>.ok (.list (kvs.map Prod.snd))
  | none=>.bad)
 | .dit,[x]=>(match x with
  | .list ys=>.ok (.list ys)
  | .tuple ys=>.ok (.list ys)
  | x=>keyL (fun ks=>.ok (.list ks)) x)
 | .dls,[x]=>(match x with
  | .list ys=>.ok (.list ys)
  | .tuple ys=>.ok (.list ys)
  | x=>keyL (fun ks=>.ok (.list ks)) x)
 | .dcp,[x]=>keyL (fun _=>.ok x) x
 | .dnw,[]=>.ok (.dict [])
 | .sts,[.list ys]=>srtS ys
 | .dpr,[.list ys]=>(match JJs ys [] with
  | some kvs=>.ok (.dict kvs)
  | none=>.bad)
 | .dtk,[x,.int n]=>op1D (.slice none (some n)) x
 | .din,[x,y]=>if JOf y=true then (JNC x y).bind fun b=>.ok (.bool b) else cmpD .In x y
 | .dni,[x,y]=>if JOf y=true then (JNC x y).bind fun b=>.ok (.bool (!b)) else cmpD .NotIn x y
 | .deq,[x,y]=>(match JMZ x y with
  | some r=>r.bind fun b=>.ok (.bool b)
  | none=>cmpD .Eq x y)
 | .dne,[x,y]=>(match JMZ x y with
  | some r=>r.bind fun b=>.ok (.bool (!b))
  | none=>cmpD .NotEq x y)
 | _,_=>.bad
noncomputable def XO.isT:XO→Bool
 | .din=>true
 | .dni=>true
 | .deq=>true
 | .dne=>true
 | _=>false
noncomputable def xD (k:XO) (xs:List D):R D:=match k,xs with
 | .rev,[.list ys]=>.ok (.list ys.reverse)
 | .enm,[.list ys]=>.ok (.list (enmL 0 ys))
 | .srt,[.list ys]=>srtD ys
 | .sst,[.list ys]=>sstS ys
 | .zip,[.list xs,.list ys]=>.ok (.list (List.zipWith (fun a b=>PyData.tuple [a,b]) xs ys))
 | k,xs=>dD k xs
noncomputable def JLD:D→Bool
 | .list _=>true
 | _=>false
noncomputable def JPY:D→Bool
 | .dict []=>true
 | .dict ((.str _,_)::_)=>true
 | _=>false
noncomputable def push (k:Nat) (x:D) (δ:Env):R Env :=
 match k with
 | 0=>.ok (.val x::δ)
 | n+1=>match x with
  | .tuple xs=>if xs.length=n+1 then .ok (xs.map Sl.val++δ) else .bad
  | _=>.bad
noncomputable def JAr (f:D→R (Option D)):List D→R (List D)
 | []=>.ok []
 | x::xs=>match f x with
  | .ok (some y)=>(match JAr f xs with
   | .ok ys=>.ok (y::ys)
   | _=>.bad)
  | .ok none=>JAr f xs
  | _=>.bad
mutual
noncomputable def ev (C:Cn):E→Env→R D
 | .var i,δ=>look δ i
 | .cint i,_=>.ok (.int i)
 | .cbl b,_=>.ok (.bool b)
 | .cnon,_=>.ok .none
 | .cstr x,_=>.ok (.str x)
 | .glo i,_=>C.glo i
 | .bin op a b,δ=>(ev C a δ).bind fun x=>(ev C b δ).bind fun y=>binD op x y
 | .neg a,δ=>(ev C a δ).bind fun x=>match x with | .int i=>.ok (.int (-i)) | _=>.bad
 | .not a,δ=>((ev C a δ).bind truth).bind fun b=>.ok (.bool (!b))
 | .and a b,δ=>(ev C a δ).bind fun x=>match x with | .bool true=>ev C b δ | .bool false=>.ok (.bool false) | _=>.bad
 | .or a b,δ=>(ev C a δ).bind fun x=>match x with | .bool true=>.ok (.bool true) | .bool false=>ev C b δ | _=>.bad
 | .cmp op a b,δ=>(ev C a δ).bind fun x=>(ev C b δ).bind fun y=>cmpD op x y
 | .isN a n,δ=>(ev C a δ).bind fun x=>.ok (.bool (if n=true then !isNone x else isNone x))
 | .isB a b,δ=>(ev C a δ).bind fun x=>(isBool b x).bind fun k=>.ok (.bool k)
 | .ife c a b,δ=>(evT C c δ).bind fun k=>if k=true then ev C a δ else ev C b δ
 | .nil,_=>.bad
 | .cons _ _,_=>.bad
 | .tup es,δ=>(evA C es δ).bind fun xs=>.ok (.tuple xs)
 | .lst es,δ=>(evA C es δ).bind fun xs=>.ok (.list xs)
 | .idx a i,δ=>(ev C a δ).bind fun x=>(ev C i δ).bind fun y=>idxD x y
 | .call f es,δ=>(evA C es δ).bind fun xs=>C.fn f xs
 | .blt b es,δ=>(evA C es δ).bind fun xs=>bltD b xs
 | .rng _,_=>.bad
 | .isi a t,δ=>(ev C a δ).bind fun x=>isiD C.sub x t
 | .mcount o a,δ=>(ev C o δ).bind fun x=>if JLD x=true then (ev C a δ).bind fun y=>JDG x y else .bad
 | .mindex o a,δ=>(ev C o δ).bind fun x=>if JLD x=true then (ev C a δ).bind fun y=>JC6 x y else .bad
 | .mget o a b,δ=>(ev C o δ).bind fun x=>if JPY x=true then (ev C a δ).bind fun y=>(ev C b δ).bind fun z=>JKt x y z else .bad
 | .cmpr k elt iter cond,δ=>(evI C iter δ).bind fun xs=>if xs.length≤16777216 then (JAr (fun x=>(push k x δ).bind fun δ1=>(evT C cond δ1).bind fun t =>
  if t=true then (ev C elt δ1).bind fun y=>.ok (some y) else .ok none) xs).bind fun ys=>.ok (.list ys) else .bad
 | .dct ks es,δ=>(evA C es δ).bind fun xs=>.ok (.dict ((ks.map PyData.str).zip xs))
 | .rep k es,δ=>(evA C es δ).bind fun xs=>.ok (.list (List.replicate k xs).flatten)
 | .fn1 o a,δ=>(ev C a δ).bind fun x=>op1D o x
 | .isnB a b,δ=>(ev C a δ).bind fun x=>(isBool b x).bind fun k=>.ok (.bool (!k))
 | .xop k es,δ=>(evA C es δ).bind (xD k)
noncomputable def evT (C:Cn):E→Env→R Bool
 | .not a,δ=>(evT C a δ).bind fun b=>.ok (!b)
 | .and a b,δ=>(evT C a δ).bind fun x=>if x=true then evT C b δ else .ok false
 | .or a b,δ=>(evT C a δ).bind fun x=>if x=true then .ok true else evT C b δ
 | .var i,δ=>(look δ i).bind truth
 | .cbl b,_=>.ok b
 | .cmp op a b,δ=>((ev C a δ).bind fun x=>(ev C b δ).bind fun y=>cmpD op x y).bind truth
 | .isN a n,δ=>(ev C a δ).bind fun x=>.ok (if n=true then !isNone x else isNone x)
 | .isB a b,δ=>(ev C a δ).bind fun x=>isBool b x
 | .idx a i,δ=>((ev C a δ).bind fun x=>(ev C i δ).bind fun y=>idxD x y).bind truth
 | .call f es,δ=>((evA C es δ).bind fun xs=>C.fn f xs).bind truth
 | .blt b es,δ=>((evA C es δ).bind fun xs=>bltD b xs).bind truth
 | .isi a t,δ=>((ev C a δ).bind fun x=>isiD C.sub x t).bind truth
 | .isnB a b,δ=>(ev C a δ).bind fun x=>(isBool b x).bind fun k=>.ok (!k)
 | .xop k es,δ=>if k.isT=true then ((evA C es δ).bind (xD k)).bind truth else .bad
 | _,_=>.bad
noncomputable def evA (C:Cn):E→Env→R (List D)
 | .nil,_=>.ok []
 | .cons a r,δ=>(ev C a δ).bind fun x=>(evA C r δ).bind fun xs=>.ok (x::xs)
 | _,_=>.bad
noncomputable def evI (C:Cn):E→Env→R (List D)
 | .rng es,δ=>(evA C es δ).bind rngD
 | .var i,δ=>(look δ i).bind JAk
 | .glo i,_=>(C.glo i).bind JAk
 | .idx a i,δ=>((ev C a δ).bind fun x=>(ev C i δ).bind fun y=>idxD x y).bind JAk
 | .call f es,δ=>((evA C es δ).bind fun xs=>C.fn f xs).bind JAk
 | .tup es,δ=>evA C es δ
 | .lst es,δ=>evA C es δ
 | .fn1 o a,δ=>((ev C a δ).bind fun x=>op1D o x).bind JAk
 | .bin op a b,δ=>((ev C a δ).bind fun x=>(ev C b δ).bind fun y=>binD op x y).bind JAk
 | .xop k es,δ=>((evA C es δ).bind (xD k)).bind JAk
 | _,_=>.bad
end
noncomputable def E.uses:E→Nat→Bool
 | .var i,j=>i==j
 | .bin _ a b,j=>a.uses j || b.uses j
 | .neg a,j=>a.uses j
 | .not a,j=>a.uses j
 | .and a b,j=>a.uses j || b.uses j
 | .or a b,j=>a.uses j || b.uses j
 | .cmp _ a b,j=>a.uses j || b.uses j
 | .isN a _,j=>a.uses j
 | .isB a _,j=>a.uses j
 | .ife c a b,j=>c.uses j || a.uses j || b.uses j
 | .cons a r,j=>a.uses j || r.uses j
 | .tup es,j=>es.uses j
 | .lst es,j=>es.uses j
 | .idx a i,j=>a.uses j || i.uses j
 | .call _ es,j=>es.uses j
 | .blt _ es,j=>es.uses j
 | .rng es,j=>es.uses j
 | .isi a _,j=>a.uses j
 | .mcount o a,j=>o.uses j || a.uses j
 | .mindex o a,j=>o.uses j || a.uses j
 | .mget o a b,j=>o.uses j || a.uses j || b.uses j
 | .dct _ es,j=>es.uses j
 | .rep _ es,j=>es.uses j
 | .fn1 _ a,j=>a.uses j
 | .isnB a _,j=>a.uses j
 | .xop _ es,j=>es.uses j
 | .cmpr k elt iter cond,j=>iter.uses j || elt.uses (j+(if k=0 then 1 else k)) || cond.uses (j+(if k=0 then 1 else k))
 | .cint _,_=>false
 | .cbl _,_=>false
 | .cnon,_=>false
 | .cstr _,_=>false
 | .glo _,_=>false
 | .nil,_=>false
noncomputable def E.fresh:E→Bool
 | .lst _=>true
 | .cmpr ..=>true
 | .xop .dcp _=>true
 | .xop .dnw _=>true
 | .xop .dpr _=>true
 | _=>false
mutual
noncomputable def JAS:D→Bool
 | .none=>true
 | .bool _=>true
 | .int _=>true
 | .str _=>true
 | .list _=>false
 | .tuple xs=>JA0 xs
 | .dict [(.none,.int _)]=>true
 | .dict _=>false
noncomputable def JA0:List D→Bool
 | []=>true
 | x::xs=>JAS x&&JA0 xs
end
noncomputable def JAv (e:E):Nat→Env→Env
 | _,[]=>[]
 | i,s::r=>(if e.uses i=true then s.frz else s)::JAv e (i+1) r
noncomputable def JAR (e:E):Nat→Env→Bool
 | _,[]=>false
 | i,s::r=>(e.uses i&&s.isOwn) || JAR e (i+1) r
noncomputable def after (e:E) (d:D) (δ:Env):Env:=if (JAR e 0 δ&&!JAS d)=true then JAv e 0 δ else δ
inductive Fl where
 | nx (δ:Env)
 | rt (d:D)
 | bk (δ:Env)
 | ct (δ:Env)
 | ex (c:Nat)
 | bad
inductive S where
 | nil | cons (s r:S)
 | pass | brk | cnt
 | asg (i:Nat) (e:E)
 | unp (is:List Nat) (e:E)
 | ret (e:E) | retN
 | ife (c:E) (a b:S)
 | app (i:Nat) (e:E)
 | ext (i:Nat) (e:E)
 | ins (i:Nat) (es:E)
 | put (i:Nat) (k v:E)
 | pop (i:Nat) (k:E)
 | frz (i:Nat)
 | drop (e:E)
 | for1 (i:Nat) (e:E) (b:S)
 | forT (is:List Nat) (e:E) (b:S)
 | whl (c:E) (b:S)
 | rais (c:Nat)
 | tryx (b:S) (c:Nat) (i:Nat) (h:S)
@[reducible] def stepR {α:Type} (r:R α) (f:α→Fl):Fl :=
 match r with
 | .ok a=>f a
 | .exc c=>.ex c
 | .bad=>.bad
noncomputable def JCG:List Nat→List D→Env→Env
 | i::is,d::ds,δ=>JCG is ds (δ.set i (.val d))
 | _,_,δ=>δ
noncomputable def JA2 (n:Nat):D→R (List D)
 | .tuple xs=>if xs.length=n then .ok xs else .bad
 | .list xs=>if xs.length=n then .ok xs else .bad
 | _=>.bad
noncomputable def forL (put:D→Env→Option Env) (body:Env→Fl):List D→Env→Fl
 | [],δ=>.nx δ
 | d::ds,δ=>match put d δ with
  | none=>.bad
  | some δ1=>match body δ1 with
   | .nx δ'=>forL put body ds δ'
   | .ct δ'=>forL put body ds δ'
   | .bk δ'=>.nx δ'
   | r=>r
noncomputable def put1 (i:Nat) (d:D) (δ:Env):Option Env:=some (δ.set i (.val d))
noncomputable def putT (is:List Nat) (d:D) (δ:Env):Option Env:=match d with
 | .tuple xs=>if xs.length=is.length then some (JCG is xs δ) else none
 | _=>none
noncomputable def JAg (c:Env→R Bool) (body:Env→Fl):Nat→Env→Fl
 | 0,_=>.bad
 | n+1,δ=>match c δ with
  | .ok true=>(match body δ with
   | .nx δ'=>JAg c body n δ'
   | .ct δ'=>JAg c body n δ'
   | .bk δ'=>.nx δ'
   | r=>r)
  | .ok false=>.nx δ
  | .exc k=>.ex k
  | .bad=>.bad
open Classical in
noncomputable def JBa (c:Env→R Bool) (body:Env→Fl) (δ:Env):Fl :=
 if h:∃n,JAg c body n δ≠.bad then JAg c body h.choose δ else .bad
noncomputable def JAu (i:Nat) (ds:List D) (e:E) (x:D) (δ:Env):Fl :=
 if ds.length<16777216 then (if (JAR e 0 δ&&!JAS x)=true then .bad else .nx (δ.set i (.own (.list (ds++[x]))))) else .bad
noncomputable def JER (i:Nat) (ds:List D) (e:E) (x:D) (δ:Env):Fl :=
 match x with
 | .list zs=>if ds.length+zs.length≤16777216 then (if JAR e 0 δ=true then .bad else .nx (δ.set i (.own (.list (ds++zs))))) else .bad
 | _=>.bad
noncomputable def JLX (i:Nat) (ds:List D) (es:E) (xs:List D) (δ:Env):Fl :=
 match xs with
 | [.int k,y]=>if 0≤k∧k≤ds.length∧ds.length<16777216 then (if (JAR es 0 δ&&!JAS y)=true then .bad else .nx (δ.set i (.own (.list (ds.take k.toNat++y::ds.drop k.toNat))))) else .bad
 | _=>.bad
noncomputable def JLQ (i:Nat) (kvs:List (D×D)) (kd:D) (e:E) (x:D) (δ:Env):Fl :=
 match kd with
 | .str k=>if kvs.length<1000000 then (if (JAR e 0 δ&&!JAS x)=true then .bad else .nx (δ.set i (.own (.dict (putD kvs k x))))) else .bad
 | _=>.bad
noncomputable def JGN:Nat→Env→Env
 | _,[]=>[]
 | 0,.own d::r=>.val d::r
 | 0,.val d::r=>.val d::r
 | 0,.no::r=>.no::r
 | i+1,s::r=>s::JGN i r
noncomputable def exec (C:Cn):S→Env→Fl
 | .nil,δ=>.nx δ
 | .cons s r,δ=>match exec C s δ with
  | .nx δ'=>exec C r δ'
  | f=>f
 | .pass,δ=>.nx δ
 | .brk,δ=>.bk δ
 | .cnt,δ=>.ct δ
 | .asg i e,δ=>stepR (ev C e δ) fun x=>if e.fresh=true then .nx ((after e x δ).set i (.own x)) else .nx ((after e x δ).set i (.val x))
 | .unp is e,δ=>stepR (ev C e δ) fun d=>stepR (JA2 is.length d) fun xs=>.nx (JCG is xs (after e d δ))
 | .ret e,δ=>stepR (ev C e δ) fun x=>.rt x
 | .retN,_=>.rt .none
 | .ife c a b,δ=>stepR (evT C c δ) fun k=>if k=true then exec C a δ else exec C b δ
 | .app i e,δ=>match δ[i]? with
  | some (.own (.list ds))=>stepR (ev C e δ) fun x=>JAu i ds e x δ
  | _=>.bad
 | .ext i e,δ=>match δ[i]? with
  | some (.own (.list ds))=>stepR (ev C e δ) fun x=>JER i ds e x δ
  | _=>.bad
 | .ins i es,δ=>match δ[i]? with
  | some (.own (.list ds))=>stepR (evA C es δ) fun xs=>JLX i ds es xs δ
  | _=>.bad
 | .put i k e,δ=>match δ[i]? with
  | some (.own (.dict kvs))=>stepR (ev C e δ) fun x=>(match ev C k δ with
   | .ok y=>JLQ i kvs y e x δ
   | _=>.bad)
  | _=>.bad
 | .pop i k,δ=>match δ[i]? with
  | some (.own (.dict kvs))=>stepR (ev C k δ) fun y=>(match y with
   | .str x=>if hasK kvs x=true then .nx (δ.set i (.own (.dict (delK kvs x)))) else .bad
   | _=>.bad)
  | _=>.bad
 | .frz i,δ=>.nx (JGN i δ)
 | .drop e,δ=>stepR (ev C e δ) fun x=>.nx (after e x δ)
 | .for1 i e b,δ=>stepR (evI C e δ) fun xs=>forL (put1 i) (exec C b) xs (JAv e 0 δ)
 | .forT is e b,δ=>stepR (evI C e δ) fun xs=>forL (putT is) (exec C b) xs (JAv e 0 δ)
 | .whl c b,δ=>JBa (evT C c) (exec C b) δ
 | .rais c,_=>.ex c
 | .tryx b c i h,δ=>match exec C b δ with
  | .ex k=>if C.sub k c=true then (match exec C h ((δ.map fun _=>Sl.no).set i (.val (excD k))) with
    | .nx δ2=>.nx (δ2.set i .no)
    | .rt d=>.rt d
    | _=>.bad) else .bad
  | f=>f
structure Fd where
 par:Nat
 slots:Nat
 body:S
noncomputable def JEQ (x:Bool) (C:Cn) (f:Fd) (xs:List D):R D :=
 if xs.length=f.par then
  (match exec C f.body (xs.map Sl.val++List.replicate (f.slots - f.par) Sl.no) with
   | .nx _=>.ok .none
   | .rt d=>.ok d
   | .ex c=>if x=true then .exc c else .bad
   | _=>.bad)
 else .bad
noncomputable def run (x:Bool) (tab:Nat→Option Fd) (glo:Nat→R D) (sub:Nat→Nat→Bool):Nat→Nat→List D→R D
 | 0,_,_=>.bad
 | n+1,f,xs=>match tab f with
  | none=>.bad
  | some fd=>JEQ x ⟨run x tab glo sub n,glo,sub⟩ fd xs
end VI
end
section
set_option backward.eqns.nonrecursive false
namespace VI
open PySem
inductive GK where
 | fn (i:Nat) | con (i:Nat) | blt (b:Blt) | ty (t:Ty) | rng | isi | cls (c:Nat) | opt | nam
 deriving DecidableEq
noncomputable def JLo:Blt→Str
 | .len=>"len"
 | .abs=>"abs"
 | .min=>"min"
 | .all=>"all"
noncomputable def JA8:Ty→Option Str
 | .int=>some "int"
 | .bool=>some "bool"
 | .str=>some "str"
 | .list=>some "list"
 | .tuple=>some "tuple"
 | .dict=>some "dict"
 | .valueError=>some "ValueError"
 | .own _=>none
noncomputable def idxOf (x:Str):List Str→Option Nat
 | []=>none
 | y::r=>if (x==y)=true then some 0 else (idxOf x r).map (· + 1)
noncomputable def vis:Option NameKind→Bool
 | some .local=>true
 | some .cell=>true
 | some .free=>true
 | _=>false
noncomputable def JAH (x:Str):Bool:=x=="__debug__" || x=="__classdict__" || x=="__name__"
noncomputable def glob (G:List (Str×GK)) (names:List (Str×NameKind)) (x:Str):Option GK :=
 if JAH x=true then none else if names.lookup x=some .globalImplicit then G.lookup x else none
noncomputable def JAJ (f:Expr→Option E):List Expr→Option E
 | []=>some .nil
 | e::r=>(f e).bind fun a=>(JAJ f r).bind fun b=>some (.cons a b)
noncomputable def JAw (mk:E→E→E) (f:Expr→Option E):List Expr→Option E
 | []=>none
 | [e]=>f e
 | e::r=>(f e).bind fun a=>(JAw mk f r).bind fun b=>some (mk a b)
noncomputable def okBin:Operator→Bool
 | .Add | .Sub | .Mult | .FloorDiv | .Mod=>true
 | _=>false
noncomputable def isSlice:Expr→Bool
 | .Slice ..=>true
 | _=>false
noncomputable def JBM:Expr→Bool
 | .Call _ [] [] _=>true
 | _=>false
noncomputable def JAq (outer:List (Str×NameKind)) (names:List (Str×NameKind)):List (Str×NameKind) :=
 names.map fun (n,k)=>if (k==.free&&true&&outer.lookup n==some .cell)=true then (n,.cell) else (n,k)
noncomputable def dots (i:Nat):Str:=⟨Array.replicate (i+2) 46⟩
noncomputable def mask (xs:List Str):Nat→List Str→List Str
 | _,[]=>[]
 | i,y::r=>(if xs.contains y=true then dots i else y)::mask xs (i+1) r
noncomputable def namesOf:List Expr→Option (List Str)
 | []=>some []
 | .Name x _::r=>(namesOf r).map (x::·)
 | _=>none
noncomputable def JBn:Expr→Option (Nat×List Str)
 | .Name x _=>some (0,[x])
 | .Tuple ts _ _=>(namesOf ts).bind fun xs=>if xs=[] then none else some (xs.length,xs)
 | _=>none
noncomputable def itK (k:Nat) (q:Option (XO×List Expr)) (f:List Expr→Option E) (d:Option E):Option E :=
 if k=0 then d else match q with
  | some q=>(f q.2).map (E.xop q.1)
  | none=>d
noncomputable def JBj (outer names:List (Str×NameKind)) (xs N:List Str):Bool :=
 names.all (fun (n,k)=>k != .cell&&(k != .local || names.lookup n==some .local)&&(k != .free || (outer.lookup n==some .cell || outer.lookup n==some .free)))&&xs.all (fun x=>names.lookup x==some .local)
  && N.all (fun y=>xs.contains y || names.lookup y != some .local)&&(List.range N.length).all (fun i=>!vis ((JAq outer names).lookup (dots i)))&&decide (xs++mask xs 0 N).Nodup
noncomputable def strKeys:List (Option Expr)→Option (List Str)
 | []=>some []
 | some (.Constant (.str k) _ _)::r=>(strKeys r).map (k::·)
 | _=>none
noncomputable def JKl (a:Expr) (op:Operator) (b:Expr):Option (List Expr×Nat):=match a,op,b with
 | .List es _,.Mult,.Constant (.int k) _ _=>if 0≤k∧k≤1000∧es.length≤1000 then some (es,k.toNat) else none
 | _,_,_=>none
noncomputable def JCk:Option Expr→Option (Option Int)
 | none=>some none
 | some (.Constant (.int k) _ _)=>some (some k)
 | some (.UnaryOp .USub (.Constant (.int k) _ _) _)=>some (some (-k))
 | _=>none
noncomputable def sliceOf:Expr→Option (Option Int×Option Int)
 | .Slice lo hi none _=>(JCk lo).bind fun l=>(JCk hi).bind fun h=>some (l,h)
 | _=>none
noncomputable def JNl:Expr→Bool
 | .Slice none none (some (.UnaryOp .USub (.Constant (.int 1) _ _) _)) _=>true
 | _=>false
noncomputable def JMC (a:Expr) (op:Operator) (b:Expr):Option (Int×Int):=match a,op,b with
 | .Constant (.int x) _ _,.Pow,.Constant (.int y) _ _=>if 0≤x∧x≤100∧0≤y∧y≤20 then some (x,y) else none
 | _,_,_=>none
noncomputable def o1Of:Ty→Option O1
 | .tuple=>some .toTup
 | .list=>some .toLst
 | _=>none
noncomputable def XO.flag:XO→Str
 | .rev=>".rev"
 | .enm=>".enm"
 | .srt=>".srt"
 | .zip=>".zip"
 | .sst=>".sst"
 | _=>".-"
noncomputable def JIe (G:List (Str×GK)) (names:List (Str×NameKind)) (f:Str) (a:Expr):Option (XO×List Expr) :=
 if f="sorted"∧glob G names f=some .nam then (match a with
  | .Call (.Name r _) [b] [] _=>if r="set"∧glob G names r=some .nam then some (.sst,[b]) else some (.srt,[a])
  | _=>some (.srt,[a]))
 else none
noncomputable def JGP (G:List (Str×GK)) (names:List (Str×NameKind)) (it:Bool) (f:Str) (a:Expr):Option (XO×List Expr) :=
 if it=true then (if f="reversed"∧glob G names f=some .nam then some (.rev,[a]) else JIe G names f a)
 else if f="list"∧glob G names f=some (.ty .list) then (match a with
  | .Call (.Name r _) [b] [] _=>if r="reversed"∧glob G names r=some .nam then some (.rev,[b]) else none
  | _=>none)
 else JIe G names f a
noncomputable def xRaw (G:List (Str×GK)) (names:List (Str×NameKind)) (it:Bool):Expr→Option (XO×List Expr)
 | .Call (.Name f _) [a] [] _=>JGP G names it f a
 | _=>none
noncomputable def dCmp (op:CmpOp):Option XO:=match op with
 | .In=>some .din
 | .NotIn=>some .dni
 | .Eq=>some .deq
 | .NotEq=>some .dne
 | _=>none
noncomputable def isPrs:Expr→Bool
 | .ListComp ..=>true
 | .BinOp ..=>true
 | _=>false
noncomputable def JNj (G:List (Str×GK)) (names:List (Str×NameKind)) (f:Str) (a:Expr):Option (XO×List Expr) :=
 if f="dict"∧glob G names f=some (.ty .dict) then some (if isPrs a=true then .dpr else .dcp,[a]) else if f="list"∧glob G names f=some (.ty .list) then some (.dls,[a]) else if f="sorted"∧glob G names f=some .nam then some (.sts,[a]) else none
noncomputable def dVal (o:Expr) (m:Str) (ap cp:Pos):Option (XO×List Expr):=if m="values"∧JBM o=false∧(ap.endLine==cp.line)=true then some (.dvs,[o]) else none
noncomputable def dRaw (G:List (Str×GK)) (names:List (Str×NameKind)) (it:Bool) (e:Expr):Option (XO×List Expr):=match it,e with
 | true,.Name x p=>if JAH x=false∧vis (names.lookup x)=true then some (.dit,[.Name x p]) else none
 | true,.Call (.Attribute o m ap) [] [] cp=>dVal o m ap cp
 | false,.Dict [] [] _=>some (.dnw,[])
 | false,.Subscript a (.Slice none (some b) none _) _=>if (JCk (some b)).isNone=true then some (.dtk,[a,b]) else none
 | false,.Compare a [op] [b] _=>if behindInMarks op b=true then none else (dCmp op).map fun k=>(k,[a,b])
 | false,.Call (.Name f _) [a] [] _=>JNj G names f a
 | _,_=>none
noncomputable def dOn (G:List (Str×GK)) (names:List (Str×NameKind)):Bool:=decide (G.lookup (".dict":Str)=some GK.opt)&&names.any fun p=>decide (G.lookup p.1=some GK.opt)
noncomputable def dOf (G:List (Str×GK)) (names:List (Str×NameKind)) (it:Bool) (e:Expr):Option (XO×List Expr):=(dRaw G names it e).bind fun q=>if dOn G names=true then some q else none
noncomputable def xOf (G:List (Str×GK)) (names:List (Str×NameKind)) (it:Bool) (e:Expr):Option (XO×List Expr):=match dOf G names it e with
 | some q=>some q
 | none=>(xRaw G names it e).bind fun q=>if G.lookup q.1.flag=some GK.opt then some q else none
noncomputable def xTgt (G:List (Str×GK)) (names:List (Str×NameKind)):Expr→Option (XO×List Expr)
 | .Call (.Name f _) [a] [] _=>if f="enumerate"∧glob G names f=some .nam then some (.enm,[a]) else none
 | .Call (.Name f _) [a,b] [] _=>if f="zip"∧glob G names f=some .nam then some (.zip,[a,b]) else none
 | _=>none
noncomputable def xT (G:List (Str×GK)) (names:List (Str×NameKind)) (e:Expr):Option (XO×List Expr) :=
 (xTgt G names e).bind fun q=>if G.lookup q.1.flag=some GK.opt then some q else none
noncomputable def JAP (G:List (Str×GK)) (f:Bool→List (Str×NameKind)→List Str→Expr→Option E) (it:Bool) (names:List (Str×NameKind)) (N:List Str) (e:Expr):Option E:=match e with
 | .Name x _=>if JAH x=true then none else if vis (names.lookup x)=true then (idxOf x N).map E.var
   else (match glob G names x with
   | some (.con i)=>some (.glo i)
   | _=>none)
 | .Constant c _ _=>(match it,c with
  | false,.none=>some .cnon
  | false,.bool b=>some (.cbl b)
  | false,.int i=>some (.cint i)
  | false,.str x=>some (.cstr x)
  | _,_=>none)
 | .Tuple es _ _=>if es.length≤1000 then (JAJ (f false names N) es).map E.tup else none
 | .List es _=>if es.length≤1000 then (JAJ (f false names N) es).map E.lst else none
 | .Subscript a i _=>if isSlice i=true then (if JNl i=true then (if G.lookup (".rvs":Str)=some GK.opt then (f false names N a).map (E.fn1 .rev) else none) else (sliceOf i).bind fun q=>(f false names N a).map (E.fn1 (.slice q.1 q.2))) else (f false names N a).bind fun x=>(f false names N i).bind fun y=>some (.idx x y)
 | .Call (.Name g _) args [] _=>(match glob G names g with
   | some (.fn i)=>(match args with
       | _::_=>(JAJ (f false names N) args).map (E.call i)
       | []=>none)
   | some .rng=>if it=true∧g="range" then (match args with
       | [_]=>(JAJ (f false names N) args).map E.rng
       | [_,_]=>(JAJ (f false names N) args).map E.rng
       | _=>none) else none
   | some (.blt b)=>if it=false∧g=JLo b then (match args with
       | _::_=>(JAJ (f false names N) args).map (E.blt b)
       | []=>none) else none
   | some .isi=>if it=false∧g="isinstance" then (match args with
       | [a,.Name t _]=>(match glob G names t with
        | some (.ty y)=>if JA8 y=some t then (f false names N a).map fun x=>.isi x y else none
        | some (.cls c)=>(f false names N a).map fun x=>.isi x (.own c)
        | _=>none)
       | _=>none) else none
   | some (.ty y)=>if it=false∧JA8 y=some g then (o1Of y).bind fun o=>(match args with
       | [a]=>(f false names N a).map (E.fn1 o)
       | _=>none) else none
   | _=>none)
 | .Dict ks vs _=>(match strKeys ks with
  | some xs=>if it=false∧G.lookup (".dct":Str)=some GK.opt∧1≤xs.length∧xs.length≤15∧xs.length=vs.length∧decide xs.Nodup=true then (JAJ (f false names N) vs).map (E.dct xs) else none
  | none=>none)
 | .BinOp a op b _=>match (if it=false∧G.lookup (".rep":Str)=some GK.opt then JKl a op b else none) with
  | some (es,k)=>(JAJ (f false names N) es).map (E.rep k)
  | none=>match JMC a op b with
   | some (x,y)=>if it=false then some (.cint (x ^ y.toNat)) else none
   | none=>if okBin op=true then (f false names N a).bind fun x=>(f false names N b).bind fun y=>some (.bin op x y) else none
 | .UnaryOp op a _=>(match it,op with
  | false,.USub=>(f false names N a).map .neg
  | false,.Not=>(f false names N a).map .not
  | _,_=>none)
 | .BoolOp op es _=>(match it,op with
  | false,.And=>JAw .and (f false names N) es
  | false,.Or=>JAw .or (f false names N) es
  | _,_=>none)
 | .Compare a [op] [b] _=>if it=true then none else (match op with
  | .Is=>(match b with
   | .Constant .none _ _=>(f false names N a).map fun x=>.isN x false
   | .Constant (.bool k) _ _=>(f false names N a).map fun x=>.isB x k
   | _=>none)
  | .IsNot=>(match b with
   | .Constant .none _ _=>(f false names N a).map fun x=>.isN x true
   | .Constant (.bool k) _ _=>(f false names N a).map fun x=>.isnB x k
   | _=>none)
  | _=>if behindInMarks op b=true then none else (f false names N a).bind fun x=>(f false names N b).bind fun y=>some (.cmp op x y))
 | .IfExp c a b _=>if it=true then none else (f false names N c).bind fun z=>(f false names N a).bind fun x=>(f false names N b).bind fun y=>some (.ife z x y)
 | .Call (.Attribute o m ap) [a] [] cp=>if (it=false∧JBM o=false∧(ap.endLine==cp.line)=true)∧G.lookup (".met":Str)=some GK.opt then
   (if m="count" then (f false names N o).bind fun x=>(f false names N a).bind fun y=>some (.mcount x y)
    else if m="index" then (f false names N o).bind fun x=>(f false names N a).bind fun y=>some (.mindex x y) else none) else none
 | .Call (.Attribute o m ap) [a,b] [] cp=>if (it=false∧JBM o=false∧(ap.endLine==cp.line)=true∧m="get")∧G.lookup (".get":Str)=some GK.opt then
   (f false names N o).bind fun x=>(f false names N a).bind fun y=>(f false names N b).bind fun z=>some (.mget x y z) else none
 | .ListComp elt [⟨tg,iter,ifs,as⟩] sc _=>if it=true∨as≠0∨sc.kind≠.function∨(G.lookup (".hot":Str)).isSome=true then none else (match JBn tg with
  | none=>none
  | some (k,xs)=>if JBj names sc.names xs N=true then
     (itK k (xT G names iter) (JAJ (f false names N)) (f true names N iter)).bind fun i =>
     (f false (JAq names sc.names) (xs++mask xs 0 N) elt).bind fun x =>
     (match ifs with
      | []=>some (.cmpr k x i (.cbl true))
      | [c]=>(f false (JAq names sc.names) (xs++mask xs 0 N) c).bind fun y=>some (.cmpr k x i y)
      | _=>none)
   else none)
 | _=>none
noncomputable def JAW (G:List (Str×GK)) (f:Bool→List (Str×NameKind)→List Str→Expr→Option E) (it:Bool) (names:List (Str×NameKind)) (N:List Str) (e:Expr):Option E:=match xOf G names it e with
 | some q=>(JAJ (f false names N) q.2).map (E.xop q.1)
 | none=>JAP G f it names N e
noncomputable def JAN (G:List (Str×GK)):Nat→Bool→List (Str×NameKind)→List Str→Expr→Option E
 | 0,_,_,_,_=>none
 | n+1,it,names,N,e=>JAW G (JAN G n) it names N e
theorem JAD {G:List (Str×GK)} {n:Nat} {it:Bool} {names:List (Str×NameKind)} {N:List Str} {e:Expr} (h:xOf G names it e=none):JAN G (n+1) it names N e=JAP G (JAN G n) it names N e:=by
 unfold JAN JAW;rw [h]
theorem JFJ {G:List (Str×GK)} {n:Nat} {it:Bool} {names:List (Str×NameKind)} {N:List Str} {e:Expr} {q:XO×List Expr} (h:xOf G names it e=some q):JAN G (n+1) it names N e=(JAJ (JAN G n false names N) q.2).map (E.xop q.1):=by
 unfold JAN JAW;rw [h]
theorem JAE {α:Type} {x:α} {P:Prop} (h:(none:Option α)=some x):P:=by cases h
noncomputable def JDb:Option NameKind→Bool
 | some .local=>true
 | some .cell=>true
 | _=>false
noncomputable def slot (names:List (Str×NameKind)) (N:List Str) (x:Str):Option Nat:=if JDb (names.lookup x)=true then idxOf x N else none
noncomputable def slots (names:List (Str×NameKind)) (N:List Str):List Expr→Option (List Nat)
 | []=>some []
 | .Name x _::r=>(slot names N x).bind fun i=>(slots names N r).bind fun is=>some (i::is)
 | _=>none
noncomputable def JAe (f:Stmt→Option S):List Stmt→Option S
 | []=>some .nil
 | s::r=>(f s).bind fun a=>(JAe f r).bind fun b=>some (.cons a b)
noncomputable def JCt:Expr→Bool
 | .ListComp ..=>true
 | _=>false
noncomputable def isTup:Expr→Bool
 | .Tuple ..=>true
 | _=>false
noncomputable def JDM:Expr→Bool
 | .List ..=>true
 | _=>false
noncomputable def JMO (names:List (Str×NameKind)) (t1 t2 e:Expr):Bool:=match t1,t2,e with
 | .Name x px,.Name y py,.Tuple [a,b] _ _=>names.lookup x==some .local&&names.lookup y==some .local&&px.line==py.line&&x != y&&!([a,b].all (foldedForSure 8))&&!([a,b].all (constantsAlone 8))
 | _,_,_=>false
noncomputable def JEI (names:List (Str×NameKind)) (ts:List Expr) (e:Expr):Bool:=match ts with
 | [a,b]=>JMO names a b e
 | _=>false
noncomputable def JLH:Expr→Option (List Expr)
 | .Tuple es _ _=>some es
 | _=>none
noncomputable def JNR:Expr→Bool
 | .List [] _=>true
 | _=>false
noncomputable def three (names:List (Str×NameKind)) (t1 t2 t3:Expr) (es:List Expr):Bool:=match t1,t2,t3 with
 | .Name x px,.Name y py,.Name z pz=>es.length==3&&names.lookup x==some .local&&names.lookup y==some .local&&names.lookup z==some .local&&px.line==py.line&&px.line==pz.line&&x != y&&x != z&&y != z&&!(es.all (foldedForSure 8))&&!(es.all (constantsAlone 8))
 | _,_,_=>false
noncomputable def JOH (names:List (Str×NameKind)):Expr→Bool
 | .Name x _=>names.lookup x==some .cell
 | _=>false
noncomputable def dispN (names:List (Str×NameKind)) (ts es:List Expr):Bool:=match ts with
 | [a,b,c]=>three names a b c es
 | _::_::_::_::_=>ts.length==es.length&&decide (es.length≤1000)
 | _=>false
noncomputable def JJR (names:List (Str×NameKind)) (ts es:List Expr):Bool:=(ts.any (JOH names)&&decide (es.length≤1000)) || dispN names ts es
noncomputable def JMH (f:Expr→Option E):List Expr→List Nat→Option (E×Option Nat)
 | [],_=>some (.nil,none)
 | _::_,[]=>none
 | e::r,i::is=>if JNR e=true then (JAJ f r).bind fun b=>some (.cons .cnon b,some i) else (f e).bind fun a=>(JMH f r is).bind fun q=>some (.cons a q.1,q.2)
noncomputable def unpO (is:List Nat) (x:E):Option Nat→S
 | none=>.unp is (.tup x)
 | some i=>.cons (.unp is (.tup x)) (.asg i (.lst .nil))
noncomputable def JEr (e c:Option Expr):Option Str:=match e,c with
 | some (.Call (.Name x _) [.Constant (.str _) _ _] [] _),none=>some x
 | _,_=>none
noncomputable def handOf:List ExceptHandler→Option (Str×Str×Str)
 | [.ExceptHandler (some (.Name cn _)) (some en) [.Assign [.Name kn _] (.Name en2 _) _] _]=>if en2=en then some (cn,en,kn) else none
 | _=>none
noncomputable def JHf:Expr→Option (Str×Str×Expr)
 | .Call (.Attribute (.Name x _) m ap) [a] [] cp=>if (ap.endLine==cp.line)=true then some (x,m,a) else none
 | _=>none
noncomputable def JLO:Expr→Option (Str×Expr×Expr)
 | .Call (.Attribute (.Name x _) m ap) [a,b] [] cp=>if (ap.endLine==cp.line)=true∧m="insert" then some (x,a,b) else none
 | _=>none
noncomputable def docOf:Expr→Bool
 | .Constant (.str _) _ _=>true
 | _=>false
noncomputable def JFh:List Expr→Option (Sum Str (List Expr))
 | [.Name x _]=>some (.inl x)
 | [.Tuple ts _ _]=>some (.inr ts)
 | _=>none
noncomputable def JLg:List Expr→Option (Str×Expr)
 | [.Subscript (.Name x _) k _]=>if isSlice k=true then none else some (x,k)
 | _=>none
noncomputable def preF (G:List (Str×GK)):List Str→Nat→E→S→S
 | [],_,_,s=>s
 | x::r,i,y,s=>if (G.lookup x=some GK.opt∨G.lookup x=some GK.nam)∧y.uses i=true then .cons (.frz i) (preF G r (i+1) y s) else preF G r (i+1) y s
noncomputable def pre (G:List (Str×GK)) (names:List (Str×NameKind)) (N:List Str) (y:E) (s:S):S:=if dOn G names=true then preF G N 0 y s else s
noncomputable def JM1:XO→Bool
 | .dcp=>true
 | .dnw=>true
 | .dpr=>true
 | _=>false
noncomputable def dFr (G:List (Str×GK)) (names:List (Str×NameKind)) (e:Expr):Option (XO×List Expr):=(dOf G names false e).bind fun q=>if JM1 q.1=true then some q else none
noncomputable def JBw (G:List (Str×GK)) (fE:Bool→List (Str×NameKind)→List Str→Expr→Option E) (fS:Bool→List (Str×NameKind)→List Str→Stmt→Option S) (zz:Bool) (names:List (Str×NameKind)) (N:List Str) (st:Stmt):Option S:=match st with
 | .Pass _=>some .pass
 | .Break _=>some .brk
 | .Continue _=>some .cnt
 | .Return none _=>some .retN
 | .Return (some e) _=>(fE false names N e).map fun y=>pre G names N y (.ret y)
 | .Assign ts e _=>(match JFh ts with
  | some (.inl x)=>(slot names N x).bind fun i=>(match dFr G names e with
   | some q=>(JAJ (fE false names N) q.2).map fun y=>pre G names N (.xop q.1 y) (.asg i (.xop q.1 y))
   | none=>(fE false names N e).bind fun y=>if y.fresh=true∧JDM e=false∧JCt e=false then none else some (pre G names N y (.asg i y)))
  | some (.inr ts)=>(slots names N ts).bind fun is=>if (decide is.Nodup=true∧(isTup e=false∨JEI names ts e=true))∧(G.lookup (".hot":Str)).isSome=false then (fE false names N e).map (S.unp is)
    else (JLH e).bind fun es=>if (decide is.Nodup=true∧JJR names ts es=true)∧G.lookup (".dsp":Str)=some GK.opt then (JMH (fE false names N) es is).map (fun q=>unpO is q.1 q.2) else none
  | none=>(JLg ts).bind fun q=>if dOn G names=true∧JAH q.1=false∧JCt e=false then (slot names N q.1).bind fun i=>(fE false names N e).bind fun y=>(fE false names N q.2).bind fun z=>some (.put i z y) else none)
 | .If c a b _=>(fE false names N c).bind fun z=>(JAe (fS zz names N) a).bind fun x=>(JAe (fS zz names N) b).bind fun y=>some (pre G names N z (.ife z x y))
 | .Expr e _=>(match JHf e with
  | some (x,m,a)=>if JAH x=false then
    (if m="append" then (slot names N x).bind fun i=>(fE false names N a).map (S.app i)
     else if (m="extend"∧JCt a=false)∧G.lookup (".ext":Str)=some GK.opt then (slot names N x).bind fun i=>(fE false names N a).map (S.ext i) else if m="pop"∧dOn G names=true then (slot names N x).bind fun i=>(fE false names N a).map (S.pop i) else none) else none
  | none=>(match JLO e with
   | some (x,a,b)=>if JAH x=false∧G.lookup (".ins":Str)=some GK.opt then (slot names N x).bind fun i=>(JAJ (fE false names N) [a,b]).map (S.ins i) else none
   | none=>if docOf e=true then some .pass else if JCt e=true then none else (fE false names N e).map S.drop))
 | .For tg iter body [] _=>if (G.lookup (".hot":Str)).isSome=true then none else (match JFh [tg] with
  | some (.inl x)=>(slot names N x).bind fun i=>(fE true names N iter).bind fun e=>(JAe (fS zz names N) body).bind fun b=>some (.for1 i e b)
  | some (.inr ts)=>(slots names N ts).bind fun is=>(match xT G names iter with
   | some q=>(JAJ (fE false names N) q.2).map (E.xop q.1)
   | none=>fE true names N iter).bind fun e=>(JAe (fS zz names N) body).bind fun b=>some (.forT is e b)
  | none=>none)
 | .While c body [] _=>(fE false names N c).bind fun z=>(JAe (fS zz names N) body).bind fun b=>some (.whl z b)
 | .Raise e c _=>(JEr e c).bind fun x=>(match glob G names x with
   | some (.cls c)=>if zz=true then some (.rais c) else none
   | _=>none)
 | .Try body hs [] [] _=>(handOf hs).bind fun q =>
   if zz=true∧G.lookup (".try":Str)=some GK.opt∧JAH q.2.1=false∧names.lookup q.2.1=some .local then (match glob G names q.1 with
   | some (.cls c)=>(JAe (fS false names N) body).bind fun b=>(idxOf q.2.1 N).bind fun i=>(slot names N q.2.2).bind fun j =>
      if i=j then none else some (.tryx b c i (.cons (.asg j (.var i)) .nil))
   | _=>none) else none
 | _=>none
noncomputable def JCA (G:List (Str×GK)):Nat→Bool→List (Str×NameKind)→List Str→Stmt→Option S
 | 0,_,_,_,_=>none
 | n+1,zz,names,N,st=>JBw G (JAN G n) (JCA G n) zz names N st
end VI
end
section
namespace VI
open PySem
def JAi (cells:List (Str×Addr)):List (Str×NameKind)→List (Str×Addr)→List (Str×Addr)
 | [],cs=>cs
 |(n,k)::r,cs=>if (k==NameKind.free)=true then JAi cells r ((n,(cells.lookup n).getD 0)::cs) else JAi cells r cs
theorem JBy {env:PySem.Env}:∀(names:List (Str×NameKind)) (cs:List (Str×Addr)),(∀n,(n,NameKind.free)∈names→(env.cells.lookup n).isSome=true) →
  (forIn names cs (fun (x:Str×NameKind) (r:List (Str×Addr))=>if (x.2==NameKind.free)=true then (do let c←cellOf env x.1;pure (ForInStep.yield ((x.1,c)::r))) else pure (ForInStep.yield r)):Sem (List (Str×Addr)))=pure (JAi env.cells names cs)
 | [],cs,_=>rfl
 |(n,k)::r,cs,h=>by
  rw [List.forIn_cons]
  have ih:=fun cs=>JBy (env:=env) r cs fun m hm=>h m (List.mem_cons_of_mem _ hm)
  by_cases hk:(k==NameKind.free)=true
  · have e:k=.free:=eq_of_beq hk
    subst e
    have q:=h n List.mem_cons_self
    obtain ⟨c,hc⟩:=Option.isSome_iff_exists.mp q
    simp only [hk,if_true]
    have e2:cellOf env n=pure c:=by unfold cellOf;rw [hc]
    rw [e2,pure_bind,pure_bind]
    show (forIn r ((n,c)::cs) _:Sem _)=_
    rw [ih]
    show pure (JAi env.cells r ((n,c)::cs))=pure (JAi env.cells ((n,NameKind.free)::r) cs)
    rw [show JAi env.cells ((n,NameKind.free)::r) cs=JAi env.cells r ((n,(env.cells.lookup n).getD 0)::cs) from if_pos rfl,hc]
    rfl
  · rw [if_neg hk,pure_bind]
    show (forIn r cs _:Sem _)=_
    rw [ih]
    show _=pure (JAi env.cells ((n,k)::r) cs)
    rw [show JAi env.cells ((n,k)::r) cs=JAi env.cells r cs from if_neg hk]
theorem JB1 {env:PySem.Env} {sc:Scope} (h:∀n,(n,NameKind.free)∈sc.names→(env.cells.lookup n).isSome=true):closureFor sc env=pure (JAi env.cells sc.names []):=by
 have:=JBy (env:=env) sc.names [] h
 unfold closureFor
 first
  | exact this
  |(simp only [] at this ⊢;rw [show (forIn sc.names [] _:Sem (List (Str×Addr)))=_ from this];rfl)
  |(rw [this];rfl)
theorem JBL {cells:List (Str×Addr)} {x:Str}:∀(names:List (Str×NameKind)) (cs:List (Str×Addr)),(JAi cells names cs).lookup x =
  if (x,NameKind.free)∈names then some ((cells.lookup x).getD 0) else cs.lookup x
 | [],cs=>by simp [JAi]
 |(n,k)::r,cs=>by
  unfold JAi
  by_cases hk:(k==NameKind.free)=true
  · have e:k=.free:=eq_of_beq hk
    subst e
    rw [if_pos hk,JBL r]
    by_cases hr:(x,NameKind.free)∈r
    ·rw [if_pos hr,if_pos (List.mem_cons_of_mem _ hr)]
    ·rw [if_neg hr]
     by_cases hx:x=n
     ·subst hx
      rw [if_pos List.mem_cons_self,List.lookup_cons,beq_self_eq_true]
     ·have hb:(x==n)=false:=beq_eq_false_iff_ne.mpr hx
      rw [List.lookup_cons,hb,if_neg]
      intro hm
      rcases List.mem_cons.mp hm with e | e
      ·exact hx (Prod.mk.inj e).1
      ·exact hr e
  · rw [if_neg hk,JBL r]
    have:((x,NameKind.free)∈(n,k)::r)↔(x,NameKind.free)∈r:=by
     constructor
     ·intro hm
      rcases List.mem_cons.mp hm with e | e
      ·exfalso;apply hk;rw [←(Prod.mk.inj e).2];rfl
      ·exact e
     ·exact List.mem_cons_of_mem _
    simp only [this]
end VI
end
section
namespace VI
open PySem PySem.Spec PyProof.Rows L2
section
variable {X:Cx}
noncomputable def rCat2 (K:PySem.W.Frag):R2:=fun x y H Q=>∃a b xs ys,x=.ref a∧y=.ref b∧SqT K H a xs∧SqT K H b ys∧xs.length+ys.length≤sizeLine ∧
 (xs=[]→Q (.ref b) H)∧(xs≠[]→ys=[]→Q (.ref a) H)∧(xs≠[]→ys≠[]→∀p,H p=none→Q (.ref p) (upd H p (.tup (xs++ys))))
theorem JIl:OpR X (binaryOp .Add) (rCat2 X.K):=by
 intro pins s σ H x y v u Q I rx ry h
 obtain ⟨a,b,xs,ys,e1,e2,ha,hb,hz,q0,q1,q2⟩:=h
 by_cases hx:xs=[]
 ·subst e1 e2
  cases rx
  cases ry
  obtain ⟨its,r1,p1,_⟩:=I.tuple ha
  obtain ⟨its2,r2,p2,_⟩:=I.tuple hb
  obtain ⟨⟨cls,dd,data,sl⟩,ho,hc,n,hd⟩:=id p1
  obtain ⟨⟨cls2,dd2,data2,sl2⟩,ho2,hc2,n2,hd2⟩:=id p2
  simp only at hc hd hc2 hd2
  subst hc hd hc2 hd2
  have hv:its=[]:=r1.nil_iff.mpr hx
  exact concat_meets ⟨_,ho,rfl⟩ ⟨_,ho2,rfl⟩ noFill_tuple_add seq_tuple_add PySem.F.slot_tuple_add PySem.F.entry_tuple_add (PySem.F.args_tuple_add_2 _ _)
   (tuple_addW0 a b its.toArray its2.toArray n n2 dd dd2 sl sl2 (by simp [hv])) ⟨ho,ho2,⟨.ref b,H,I,rfl,q0 hx⟩⟩
 ·exact JL3 pins s σ H x y v u Q I rx ry ⟨a,b,xs,ys,e1,e2,ha,hb,hx,hz,q1 hx,q2 hx⟩
noncomputable def rCatL (K:PySem.W.Frag):R2:=fun x y H Q=>∃a b xs ys,x=.ref a∧y=.ref b∧SqL K H a xs∧SqL K H b ys∧xs.length+ys.length≤sizeLine∧∀p,H p=none→Q (.ref p) (upd H p (.lst (xs++ys)))
theorem JLR:OpR X (binaryOp .Add) (rCatL X.K):=by
 intro pins s σ H x y v u Q I rx ry h
 obtain ⟨a,b,xs,ys,rfl,rfl,ha,hb,hz,q⟩:=h
 cases rx
 cases ry
 obtain ⟨its,r,⟨⟨cls,dd,data,sl⟩,n,ho,hc,hdd,hd⟩,_⟩:=I.list ha
 obtain ⟨its2,r2,⟨⟨cls2,dd2,data2,sl2⟩,n2,ho2,hc2,hdd2,hd2⟩,_⟩:=I.list hb
 simp only at hc hd hc2 hd2
 subst hc hd hc2 hd2
 have e:its.toArray++its2.toArray=(its++its2).toArray:=by simp
 have hl:its.toArray.size+its2.toArray.size≤sizeLine:=by
  rw [List.size_toArray,List.size_toArray,←r.length,←r2.length];exact hz
 refine concat_meets ⟨_,ho,rfl⟩ ⟨_,ho2,rfl⟩ noFill_list_add seq_list_add PySem.F.slot_list_add PySem.F.entry_list_add (PySem.F.args_list_add_2 _ _) (list_addW a b its.toArray its2.toArray n n2 dd dd2 sl sl2 hl) ⟨ho,ho2,?_⟩
 rw [e]
 exact ⟨.ref _,_,I.lnew (t':=s.toks) (r.append r2) (by rw [List.length_append];omega),rfl,q _ I.fresh⟩
noncomputable def rRepL (K:PySem.W.Frag):R2:=fun x y H Q=>∃a k xs,x=.ref a∧y=.int k∧SqL K H a xs∧-(2 ^ 63)≤k∧k<2 ^ 63∧xs.length*k.toNat≤sizeLine∧∀p,H p=none→Q (.ref p) (upd H p (.lst (List.replicate k.toNat xs).flatten))
theorem JLp:OpR X (binaryOp .Mult) (rRepL X.K):=by
 intro pins s σ H x y v u Q I rx ry h
 obtain ⟨a,k,xs,rfl,rfl,ha,h1,h2,hz,q⟩:=h
 cases rx
 obtain ⟨t,rfl⟩:=ry
 obtain ⟨its,r,⟨⟨cls,dd,data,sl⟩,n,ho,hc,hdd,hd⟩,_⟩:=I.list ha
 simp only at hc hd
 subst hc hd
 have hlen:its.toArray.size*k.toNat≤sizeLine:=by rw [List.size_toArray,←r.length];exact hz
 have hcap:¬its.toArray.size*k.toNat > (2 ^ 63 - 1) / 8:=by
  have:(sizeLine:Nat)≤(2 ^ 63 - 1) / 8:=by decide
  omega
 have hfit:¬(!Builtin.List.listFitsIndex k)=true:=by
  rw [fitsIndex_both h1 h2]
  exact Bool.false_ne_true
 have hlong:¬Builtin.List.listTooLong (its.toArray.size*k.toNat)=true:=by
  rw [JH1 hlen]
  exact Bool.false_ne_true
 refine wpAny_binaryOp_repeat_ref (T:="list") (U:="int") (by decide) ⟨_,ho,rfl⟩ (fun s'=>typeIs_int s' k t) noFill_list_mul PySem.F.fills_int_mul PySem.F.slot_int_rmul repeat_list PySem.F.slot_int_index.lookup
  (call_meets PySem.F.slot_int_rmul (typeIs_int s k t) PySem.F.entry_int_rmul (PySem.F.args_int_rmul_2 _ _) (lm_int_rmul_list_any k t a its.toArray n dd sl)
    ⟨ho,rfl,⟨_,ho,rfl⟩,call_meets PySem.F.slot_list_mul ⟨_,ho,rfl⟩ PySem.F.entry_list_mul (PySem.F.args_list_mul_2 _ _) (lm_list_mul_any a its.toArray n dd sl k t hfit hcap hlong) ⟨ho,?_⟩⟩)
 rw [listMul_foldl_if]
 exact ⟨.ref _,_,I.lnew (t':=s.toks) (r.rep k.toNat) (by rw [len_rep,Nat.mul_comm];exact hz),rfl,q _ I.fresh⟩
theorem JCK:fillsNumberSlot (.type "tuple") "mul"=pure false :=
 PySem.fillsNumberSlot_seq (id:="tuple.__mul__") (r:=some (.builtin "tuple.__rmul__")) PySem.F.slot_tuple_mul.lookup (by decide +kernel) PySem.F.slot_tuple_rmul.lookup (by decide +kernel)
theorem JDd:seqRepeat? (.type "tuple")=pure (some (.builtin "tuple.__mul__")):=by
 unfold seqRepeat?
 rw [PySem.seqSlot_of (T:="tuple") (name:="__mul__") (id:="tuple.__mul__") PySem.F.slot_tuple_mul.lookup (by decide +kernel),PySem.seqSlot_of (T:="tuple") (name:="__rmul__") (id:="tuple.__rmul__") PySem.F.slot_tuple_rmul.lookup (by decide +kernel)]
 rfl
theorem JCy (a:Int) (t:Tok) (l:Addr) (items:Array Value) (n:Nat) (d:Option Addr) (sl:Array (Option Value)) :
  Meets (Builtin.«int.__rmul__» ⟨[.int a t,.ref l],[]⟩) (fun _ R s=>s.heap.get? l=some { cls:=.type "tuple",dict:=d,data:=.seq items n,slots:=sl }∧R (.ok (.ret Value.notImplemented)) s) :=
 .of_wp fun prog w A R s h=>by obtain ⟨hp,g,d,tk,os⟩:=s;obtain ⟨hl,h⟩:=h;wp_walk;exact ⟨_,rfl,h⟩
theorem JDV (l:Addr) (items:Array Value) (n:Nat) (d:Option Addr) (sl:Array (Option Value)) (x:Int) (u:Tok) (h1:2≤x) (h2:x≤1000) (h3:items.size≤1000) (h4:items.isEmpty=false) (h5:(List.foldl (fun x1 x2=>x1++x2) #[] (List.replicate x.toNat items)).size≤sizeLine) :
  Meets (Builtin.«tuple.__mul__» ⟨[.ref l,.int x u],[]⟩) (fun _ R s=>s.heap.get? l=some { cls:=.type "tuple",dict:=d,data:=.seq items n,slots:=sl }∧R (.ok (.ret (Value.ref s.heap.objs.size))) { s with heap:=s.heap.push { cls:=Value.type "tuple",data:=Data.seq (List.foldl (fun x1 x2=>x1++x2) #[] (List.replicate x.toNat items)) },toks:=s.toks }) :=
 .of_wp fun prog w A R s h=>by
  obtain ⟨hp,g,d,tk,os⟩:=s;obtain ⟨hl,h⟩:=h
  have c1:(decide (x < -(2 ^ 63)) || decide (x ≥ 2 ^ 63))=false:=by simp;omega
  have c2:(items.isEmpty || x==1)=false:=by rw [h4];simp;omega
  have c3:(decide (x≤0) || items.isEmpty)=false:=by rw [h4];simp;omega
  have c4:((items.size:Int)*x)≤1000*1000:=Int.mul_le_mul (by omega) h2 (by omega) (by omega)
  have c5:¬((items.size:Int)*x > (2 ^ 63 - 1) / 8):=by omega
  have c6:Builtin.Tuple.tupleTooMany ((items.size:Int)*x)=false:=by
   unfold Builtin.Tuple.tupleTooMany
   rw [sizeLine_eq]
   exact decide_eq_false (by omega)
  wp_walk
  rw [if_neg (by rw [c1];decide)]
  wp_walk
  rw [if_neg (by rw [c2];decide)]
  dsimp only
  rw [if_neg (by rw [c3];decide)]
  rw [if_neg c5]
  rw [if_neg (by rw [c6];decide)]
  unfold Builtin.Tuple.tupleExact
  refine wpAny_bind (wpAny_newObj_type (wpAny_pure ⟨_,rfl,h⟩) h5)
noncomputable def rRepT (K:PySem.W.Frag):R2:=fun x y H Q=>∃a k xs,x=.ref a∧y=.int k∧SqT K H a xs∧2≤k∧k≤1000∧xs.length≤1000∧xs≠[]∧∀p,H p=none→Q (.ref p) (upd H p (.tup (List.replicate k.toNat xs).flatten))
theorem JK2:OpR X (binaryOp .Mult) (rRepT X.K):=by
 intro pins s σ H x y v u Q I rx ry h
 obtain ⟨a,k,xs,rfl,rfl,ha,h1,h2,h3,h4,q⟩:=h
 cases rx
 obtain ⟨t,rfl⟩:=ry
 obtain ⟨its,r,⟨⟨cls,dd,data,sl⟩,ho,hc,n,hd⟩,_⟩:=I.tuple ha
 simp only at hc hd
 subst hc hd
 have hl:=r.length
 have he:its.toArray.isEmpty=false:=by
  cases its with
  | nil=>exact absurd (List.length_eq_zero_iff.mp (by simpa using hl)) h4
  | cons _ _=>rfl
 have ef:List.foldl (fun x1 x2=>x1++x2) #[] (List.replicate k.toNat its.toArray)=(List.replicate k.toNat its).flatten.toArray:=by
  have:=listMul_foldl_if its.toArray k.toNat
  rw [he] at this
  simpa using this
 have hz:(List.replicate k.toNat its).flatten.length≤1000000:=by
  rw [len_rep]
  exact Nat.le_trans (Nat.mul_le_mul (show k.toNat≤1000 by omega) (show its.length≤1000 by omega)) (by decide)
 refine wpAny_binaryOp_repeat_ref (T:="tuple") (U:="int") (by decide) ⟨_,ho,rfl⟩ (fun s'=>typeIs_int s' k t) JCK PySem.F.fills_int_mul PySem.F.slot_int_rmul JDd PySem.F.slot_int_index.lookup
  (call_meets PySem.F.slot_int_rmul (typeIs_int s k t) PySem.F.entry_int_rmul (PySem.F.args_int_rmul_2 _ _) (JCy k t a its.toArray n dd sl)
    ⟨ho,rfl,⟨_,ho,rfl⟩,call_meets PySem.F.slot_tuple_mul ⟨_,ho,rfl⟩ PySem.F.entry_tuple_mul (PySem.F.args_tuple_mul_2 _ _) (JDV a its.toArray n dd sl k t h1 h2 (by simp only [List.size_toArray];omega) he (by rw [ef,sizeLine_eq];simp only [List.size_toArray];omega)) ⟨ho,?_⟩⟩)
 rw [ef]
 refine ⟨.ref s.heap.objs.size,upd H s.heap.objs.size (.tup (List.replicate k.toNat xs).flatten),I.laid (t':=s.toks) (fun b u e=>Heap.get?_push_of_some _ e) (Nat.le_refl _) ?_,rfl,q _ I.fresh⟩
 exact ⟨by rw [(r.rep k.toNat).length,sizeLine_eq];omega,_,r.rep k.toNat,⟨_,Heap.get?_push_size _ rfl,rfl,_,rfl⟩⟩
end
section
variable {prog:Program} {w:World} {A:Around} {E:Value→Shared→Prop} {s:Shared}
theorem JBh {t sl:Addr} {items:Array Value} {vl vu:Value} {lo hi:Option Int} {Q:Value→Shared→Prop} (ht:IsTup s.heap t items) (hs:s.heap.IsSliceOf sl vl vu .none) (pl:IsPart vl lo) (pu:IsPart vu hi)
  (hw:HT.sIx items.size 0 lo=0∧HT.sIx items.size items.size hi=items.size) (h:Q (.ref t) s):wpAny (model prog w) A (getItem (.ref t) (.ref sl)) Q E s:=by
 obtain ⟨os,hos,hcs,hds⟩:=id hs
 have hTs:s.TypeIs (.ref sl) "slice":=⟨os,hos,hcs⟩
 unfold getItem
 try with_reducible refine wpAny_holding ?_
 first | refine wpAny_bind (wpAny_pure ?_) | skip
 refine wpAny_bind (wpAny_sequenceKey ht.typeIs (by decide) ?_)
 refine wpAny_bind (wpAny_callSpecial?_slot (name:=Str.ofString "__getitem__") ht.typeIs PyProof.Rows.slot_tuple_getitem
  (wpAny_call_entry PyProof.Rows.slot_tuple_getitem ht.typeIs entry_tuple_getitem ?_ (args_tuple_getitem _ _)))
 show wpAny _ _ (Builtin.Tuple.tupleItemsOf (.ref t) >>= _) _ _ s
 refine wpAny_bind (tupleItemsOf_ ht ?_)
 refine wpAny_bind (wpAny_typeOf hTs ?_)
 rw [if_pos (by decide)]
 refine wpAny_bind (HT.sliceApplied_gen hs pl pu ?_)
 have hyes:(((HT.sIx items.size 0 lo:Nat):Int)==0&&(1:Int)==1&&(HT.sIx items.size items.size hi - HT.sIx items.size 0 lo)==items.size)=true:=by
  rw [hw.1,hw.2];simp
 show wpAny _ _ (if (((HT.sIx items.size 0 lo:Nat):Int)==0&&(1:Int)==1&&(HT.sIx items.size items.size hi - HT.sIx items.size 0 lo)==items.size)=true then _ else _) _ _ s
 rw [if_pos hyes]
 refine wpAny_bind ?_
 unfold Builtin.Tuple.tupleIsExact
 refine wpAny_bind (wpAny_typeOf ht.typeIs (wpAny_pure ?_))
 rw [if_pos (by decide)]
 refine wpAny_bind (wpAny_rule ?_)
 exact wpAny_pure ⟨_,rfl,wpAny_pure h⟩
end
section
variable {X:Cx}
noncomputable def rSlW (K:PySem.W.Frag):V→Option Int→Option Int→Hp→VK→Prop:=fun x lo hi H Q=>∃a xs,x=.ref a∧SqT K H a xs∧(HT.sIx xs.length 0 lo=0∧HT.sIx xs.length xs.length hi=xs.length)∧Q (.ref a) H
theorem JK8:SlR X (rSlW X.K):=by
 intro pins s σ H x v vl vu lo hi sl Q I rx hs pl pu h
 obtain ⟨a,xs,rfl,hx,hw,q⟩:=h
 cases rx
 obtain ⟨its,r,ht,hz⟩:=I.tuple hx
 have hlen:its.toArray.size=xs.length:=by rw [List.size_toArray];exact r.length.symm
 refine ⟨"tuple",_,PyProof.Rows.slot_tuple_getitem.lookup,ht.typeIs,?_⟩
 exact JBh ht hs pl pu (by rw [hlen];exact hw) ⟨.ref a,H,I,rfl,q⟩
end
end VI
end
section
namespace VI
open PySem PySem.Spec PyProof.Rows L2
abbrev St:=L2.St
structure Bs where
 K:PySem.W.Frag
 cl:Nat→Addr
 w:World
noncomputable def ExcAt (a C:Addr) (h:Heap):Prop:=∃o,h.get? a=some o∧o.cls=.ref C
noncomputable def SqDo (K:PySem.W.Frag) (w:World) (H:Hp) (a:Addr) (o:Obj) (xs:List (Key×V)):Prop :=
 H a=some (.frz o (.dK xs))∨∀(P:Program) (h:Heap),K.In h→(a==sysModules)=false∧h.get? a=some o∧∃vs,KV xs vs∧h.DictOf (JBH P w) a vs
noncomputable def SqD (K:PySem.W.Frag) (w:World) (H:Hp) (a:Addr) (xs:List (Key×V)):Prop:=∃o,SqDo K w H a o xs
mutual
noncomputable def Den (B:Bs) (H:Hp):D→V→Prop
 | .none,v=>v=.non
 | .bool b,v=>v=.bl b
 | .int i,v=>v=.int i
 | .str x,v=>v=.str x
 | .tuple ds,v=>∃a xs,v=.ref a∧SqT B.K H a xs∧DenL B H ds xs
 | .list ds,v=>∃a xs,v=.ref a∧SqL B.K H a xs∧DenL B H ds xs
 | .dict kvs,v=>(∃a c,v=.ref a∧kvs=[(.none,.int ((c:Nat):Int))]∧H a=some (.ext (ExcAt a (B.cl c))))∨∃a xs,v=.ref a∧SqD B.K B.w H a xs∧DenK B H kvs xs
noncomputable def DenL (B:Bs) (H:Hp):List D→List V→Prop
 | [],vs=>vs=[]
 | d::ds,vs=>∃v r,vs=v::r∧Den B H d v∧DenL B H ds r
noncomputable def DenK (B:Bs) (H:Hp):List (D×D)→List (Key×V)→Prop
 | [],vs=>vs=[]
 |(k,d)::ds,vs=>∃x v r,vs=(Sum.inr x,v)::r∧k=.str x∧Den B H d v∧DenK B H ds r
end
theorem JIN {K:PySem.W.Frag} {H H':Hp} {a:Addr} {xs:List V} (e:Same H H') (h:SqT K H a xs):SqT K H' a xs:=by
 rcases h with (h | ⟨o,h⟩) | h
 ·exact .inl (.inl (e _ _ h))
 ·exact .inl (.inr ⟨o,e _ _ h⟩)
 ·exact .inr h
theorem JOt {K:PySem.W.Frag} {w:World} {H H':Hp} {a:Addr} {o:Obj} {xs:List (Key×V)} (e:Same H H') (h:SqDo K w H a o xs):SqDo K w H' a o xs:=h.imp (fun h=>e _ _ h) fun h=>h
theorem sameD {K:PySem.W.Frag} {w:World} {H H':Hp} {a:Addr} {xs:List (Key×V)} (e:Same H H') (h:SqD K w H a xs):SqD K w H' a xs:=h.imp fun _ h=>JOt e h
mutual
theorem Den.mono {B:Bs} {H H':Hp} (s:Same H H'):∀(d:D) (v:V),Den B H d v→Den B H' d v
 | .none,_,h=>h
 | .bool _,_,h=>h
 | .int _,_,h=>h
 | .str _,_,h=>h
 | .tuple ds,v,h=>by
  simp only [Den] at h ⊢
  obtain ⟨a,xs,e,q,l⟩:=h
  exact ⟨a,xs,e,JIN s q,DenL.mono s ds xs l⟩
 | .list ds,v,h=>by
  simp only [Den] at h ⊢
  obtain ⟨a,xs,e,q,l⟩:=h
  exact ⟨a,xs,e,s.seq q,DenL.mono s ds xs l⟩
 | .dict kvs,v,h=>by
  simp only [Den] at h ⊢
  rcases h with ⟨a,c,e,k,q⟩ | ⟨a,xs,e,q,l⟩
  ·exact .inl ⟨a,c,e,k,s _ _ q⟩
  ·exact .inr ⟨a,xs,e,sameD s q,DenK.mono s kvs xs l⟩
theorem DenL.mono {B:Bs} {H H':Hp} (s:Same H H'):∀(ds:List D) (vs:List V),DenL B H ds vs→DenL B H' ds vs
 | [],_,h=>h
 | d::ds,vs,h=>by
  simp only [DenL] at h ⊢
  obtain ⟨v,r,e,q,l⟩:=h
  exact ⟨v,r,e,Den.mono s d v q,DenL.mono s ds r l⟩
theorem DenK.mono {B:Bs} {H H':Hp} (s:Same H H'):∀(ds:List (D×D)) (vs:List (Key×V)),DenK B H ds vs→DenK B H' ds vs
 | [],_,h=>h
 |(k,d)::ds,vs,h=>by
  simp only [DenK] at h ⊢
  obtain ⟨x,v,r,e,e',q,l⟩:=h
  exact ⟨x,v,r,e,e',Den.mono s d v q,DenK.mono s ds r l⟩
end
theorem DenL.len {B:Bs} {H:Hp}:∀(ds:List D) (vs:List V),DenL B H ds vs→ds.length=vs.length
 | [],_,h=>by simp only [DenL] at h;subst h;rfl
 | d::ds,vs,h=>by
  simp only [DenL] at h
  obtain ⟨v,r,e,q,l⟩:=h
  subst e
  simp only [List.length_cons,DenL.len ds r l]
theorem DenL.get {B:Bs} {H:Hp}:∀(ds:List D) (vs:List V) (i:Nat) (d:D),DenL B H ds vs→ds[i]? = some d→∃v,vs[i]? = some v∧Den B H d v
 | [],_,_,_,_,e=>by simp at e
 | d::ds,vs,i,x,h,e=>by
  simp only [DenL] at h
  obtain ⟨v,r,e1,q,l⟩:=h
  subst e1
  cases i with
  | zero =>
   simp only [List.getElem?_cons_zero,Option.some.injEq] at e
   subst e
   exact ⟨v,rfl,q⟩
  | succ i =>
   simp only [List.getElem?_cons_succ] at e
   obtain ⟨u,e2,q2⟩:=DenL.get ds r i x l e
   exact ⟨u,by simpa using e2,q2⟩
theorem DenL.append {B:Bs} {H:Hp}:∀(ds es:List D) (vs us:List V),DenL B H ds vs→DenL B H es us→DenL B H (ds++es) (vs++us)
 | [],es,_,us,h,h2=>by simp only [DenL] at h;subst h;exact h2
 | d::ds,es,vs,us,h,h2=>by
  simp only [DenL,List.cons_append] at h ⊢
  obtain ⟨v,r,e,q,l⟩:=h
  subst e
  exact ⟨v,r++us,rfl,q,DenL.append ds es r us l h2⟩
mutual
theorem Den.reads {B:Bs} {X:Cx} {pins:List (Addr×Obj)} {σ:St} {H:Hp} {s:Shared} (hK:X.K=B.K) (I:Inv X pins σ H s) :
  ∀(d:D) (v:V) (u:Value),d.canLay0=true→Den B H d v→RelV v u→∃as,Reads s.heap u d as
 | .none,v,u,_,h,r=>by simp only [Den] at h;subst h;cases r;exact ⟨_,.none⟩
 | .bool b,v,u,_,h,r=>by simp only [Den] at h;subst h;cases r;exact ⟨_,.bool b⟩
 | .int i,v,u,_,h,r=>by simp only [Den] at h;subst h;obtain ⟨t,rfl⟩:=r;exact ⟨_,.int i t⟩
 | .str x,v,u,_,h,r=>by simp only [Den] at h;subst h;obtain ⟨t,rfl⟩:=r;exact ⟨_,.str x t⟩
 | .tuple ds,v,u,c,h,r=>by
  simp only [Den] at h
  obtain ⟨a,xs,e,q,l⟩:=h
  subst e
  cases r
  obtain ⟨its,rv,⟨o,h1,h2,n,h3⟩,_⟩:=I.tuple (hK▸q)
  obtain ⟨as,ra⟩:=DenL.reads hK I ds xs its (by simpa only [PyData.canLay0] using c) l rv
  exact ⟨as,.tuple h1 h2 h3 (by simpa using ra)⟩
 | .list ds,v,u,c,h,r=>by
  simp only [Den] at h
  obtain ⟨a,xs,e,q,l⟩:=h
  subst e
  cases r
  obtain ⟨its,rv,⟨o,n,h1,h2,_,h3⟩,_⟩:=I.list (hK▸q)
  obtain ⟨as,ra⟩:=DenL.reads hK I ds xs its (by simpa only [PyData.canLay0] using c) l rv
  exact ⟨a::as,.list h1 h2 h3 (by simpa using ra)⟩
 | .dict kvs,v,u,c,h,r=>by simp only [PyData.canLay0] at c;cases c
theorem DenL.reads {B:Bs} {X:Cx} {pins:List (Addr×Obj)} {σ:St} {H:Hp} {s:Shared} (hK:X.K=B.K) (I:Inv X pins σ H s) :
  ∀(ds:List D) (vs:List V) (us:List Value),PyData.canLayAll0 ds=true→DenL B H ds vs→Vals vs us→∃as,ReadsAll s.heap us ds as
 | [],vs,us,_,h,r=>by simp only [DenL] at h;subst h;cases r;exact ⟨_,.nil⟩
 | d::ds,vs,us,c,h,r=>by
  simp only [DenL] at h
  obtain ⟨v,t,e,q,l⟩:=h
  subst e
  simp only [PyData.canLayAll0,Bool.and_eq_true] at c
  cases r with
  | cons r1 r2 =>
   obtain ⟨as,h1⟩:=Den.reads hK I d v _ c.1 q r1
   obtain ⟨bs,h2⟩:=DenL.reads hK I ds t _ c.2 l r2
   exact ⟨_,.cons h1 h2⟩
end
noncomputable def KE (B:Bs) (XX:Nat→Hp→Prop) (r:R D) (H:Hp) (Q:VK):Prop:=match r with
 | .ok d=>∀v H',Same H H'→Den B H' d v→Q v H'
 | .exc c=>XX c H
 | .bad=>False
noncomputable def KL (B:Bs) (XX:Nat→Hp→Prop) (r:R (List D)) (H:Hp) (Q:List V→Hp→Prop):Prop:=match r with
 | .ok ds=>∀vs H',Same H H'→DenL B H' ds vs→Q vs H'
 | .exc c=>XX c H
 | .bad=>False
noncomputable def KB (XX:Nat→Hp→Prop) (r:R Bool) (H:Hp) (Q:Bool→Hp→Prop):Prop:=match r with
 | .ok b=>∀H',Same H H'→Q b H'
 | .exc c=>XX c H
 | .bad=>False
noncomputable def Sok (B:Bs) (σ:St) (H:Hp) (δ:Env):Prop:=∀i d,look δ i=.ok d→∃v,σ[i]? = some (some v)∧Den B H d v
theorem Sok.mono {B:Bs} {σ:St} {H H':Hp} {δ:Env} (h:Sok B σ H δ) (s:Same H H'):Sok B σ H' δ:=fun i d e =>
 let ⟨v,e1,q⟩:=h i d e
 ⟨v,e1,Den.mono s d v q⟩
noncomputable def JCq (B:Bs) (n:Nat) (fn:List D→R D):Sp:=fun vs H Q E=>vs.length=n∧∃ds,DenL B H ds vs∧(match fn ds with
 | .ok d=>∀v H',Same H H'→Den B H' d v→Q v H'
 | .exc c=>∀H',Same H H'→E (.ref (B.cl c)) none H'
 | .bad=>False)
noncomputable def EX (B:Bs) (XX:Nat→Hp→Prop):XK:=fun u _ H=>∃c,u=.ref (B.cl c)∧XX c H
class Cool (G:List (Str×GK)):Prop where
 out:G.lookup (".hot":Str)=none
theorem JCS {G:List (Str×GK)} (h:¬(G.lookup (".hot":Str)).isSome=true):Cool G:=⟨by
 cases q:G.lookup (".hot":Str) with
 | none=>rfl
 | some k=>rw [q] at h;exact absurd rfl h⟩
structure Gk (X:Cx) (B:Bs) (C:Cn) (CX:CXT) (XX:Nat→Hp→Prop) (G:List (Str×GK)):Prop where
 K:X.K=B.K
 W:X.w=B.w
 anti:∀c H H',Same H H'→XX c H→XX c H'
 units:X.A.units+200<cLine
 calm:Cool G→X.calm=true
 fn:∀x i,G.lookup x=some (.fn i)→∃f fd ps k,X.mg x=some (.ref f)∧PySem.W.keepIn X.K (.ref f)=true ∧
  FnOk X.prog X.w X.K X.mg X.base CX k f fd ps (JCq B ps.length (C.fn i))∧Room k X.A∧Binds X.K fd ps []∧∀ds,C.fn i ds≠.bad→ds.length=ps.length
 pas:JDH CX X (EX B XX)
 con:∀x i d,G.lookup x=some (.con i)→C.glo i=.ok d→∃u v,X.mg x=some u∧RelV v u∧∀H,Den B H d v
 noexg:∀i c,C.glo i≠.exc c
 blt:∀x b,G.lookup x=some (.blt b)→X.mg x=none
 rng:∀x,G.lookup x=some .rng→X.mg x=none
 isi:∀x,G.lookup x=some .isi→X.mg x=none
 ty:∀x t,G.lookup x=some (.ty t)→X.mg x=none
 cls:∀x c,G.lookup x=some (.cls c)→X.mg x=some (.ref (B.cl c))
 nam:∀x,G.lookup x=some .nam→X.mg x=none
section
variable {X:Cx} {B:Bs} {C:Cn} {CX:CXT} {XX:Nat→Hp→Prop} {G:List (Str×GK)}
noncomputable def RE (B:Bs) (C:Cn) (XX:Nat→Hp→Prop) (e:E):TE:=fun σ H Q=>∃δ,Sok B σ H δ∧KE B XX (ev C e δ) H Q
noncomputable def RT (B:Bs) (C:Cn) (XX:Nat→Hp→Prop) (e:E):TT:=fun σ H Q=>∃δ,Sok B σ H δ∧KB XX (evT C e δ) H Q
noncomputable def RA (B:Bs) (C:Cn) (XX:Nat→Hp→Prop) (e:E):TA:=fun σ H Q=>∃δ,Sok B σ H δ∧KL B XX (evA C e δ) H Q
theorem PE.imp {e:Expr} {t t':TE} (h:PE X e t) (i:∀σ H Q,t' σ H Q→t σ H Q):PE X e t':=fun pins s σ H Q I q=>h pins s σ H Q I (i σ H Q q)
theorem PT.imp {e:Expr} {t t':TT} (h:PT X e t) (i:∀σ H Q,t' σ H Q→t σ H Q):PT X e t':=fun pins s σ H Q I q=>h pins s σ H Q I (i σ H Q q)
theorem PA.imp {e:List Expr} {t t':TA} (h:PA X e t) (i:∀σ H Q,t' σ H Q→t σ H Q):PA X e t':=fun pos pins s σ H Q I q=>h pos pins s σ H Q I (i σ H Q q)
theorem RE.of {e:E} {δ:Env} {σ:St} {H:Hp} {Q:VK} {α:Type} {f:D→R α} {W:R α→Hp→Prop} (ok:Sok B σ H δ)
  (hx:∀c H,W (.exc c) H→XX c H) (hb:∀H,W .bad H→False) (h:W ((ev C e δ).bind f) H)
  (go:∀d v H1,Same H H1→Den B H1 d v→W (f d) H→Q v H1):RE B C XX e σ H Q:=by
 refine ⟨δ,ok,?_⟩
 cases q:ev C e δ with
 | ok d =>
  rw [q] at h
  exact fun v H1 s1 d1=>go d v H1 s1 d1 h
 | exc c =>
  rw [q] at h
  exact hx c H h
 | bad =>
  rw [q] at h
  exact (hb H h).elim
theorem RT.of {e:E} {δ:Env} {σ:St} {H:Hp} {Q:Bool→Hp→Prop} {α:Type} {f:Bool→R α} {W:R α→Hp→Prop} (ok:Sok B σ H δ)
  (hx:∀c H,W (.exc c) H→XX c H) (hb:∀H,W .bad H→False) (h:W ((evT C e δ).bind f) H)
  (go:∀b H1,Same H H1→W (f b) H→Q b H1):RT B C XX e σ H Q:=by
 refine ⟨δ,ok,?_⟩
 cases q:evT C e δ with
 | ok d =>
  rw [q] at h
  exact fun H1 s1=>go d H1 s1 h
 | exc c =>
  rw [q] at h
  exact hx c H h
 | bad =>
  rw [q] at h
  exact (hb H h).elim
theorem RA.of {e:E} {δ:Env} {σ:St} {H:Hp} {Q:List V→Hp→Prop} {α:Type} {f:List D→R α} {W:R α→Hp→Prop} (ok:Sok B σ H δ)
  (hx:∀c H,W (.exc c) H→XX c H) (hb:∀H,W .bad H→False) (h:W ((evA C e δ).bind f) H)
  (go:∀ds vs H1,Same H H1→DenL B H1 ds vs→W (f ds) H→Q vs H1):RA B C XX e σ H Q:=by
 refine ⟨δ,ok,?_⟩
 cases q:evA C e δ with
 | ok d =>
  rw [q] at h
  exact fun v H1 s1 d1=>go d v H1 s1 d1 h
 | exc c =>
  rw [q] at h
  exact hx c H h
 | bad =>
  rw [q] at h
  exact (hb H h).elim
theorem KE.mono (g:Gk X B C CX XX G) {r:R D} {H H':Hp} {Q:VK} (s:Same H H') (h:KE B XX r H Q):KE B XX r H' Q:=by
 cases r with
 | ok d=>exact fun v H2 s2 d2=>h v H2 (s.trans s2) d2
 | exc c=>exact g.anti c H H' s h
 | bad=>exact h
theorem KB.mono (g:Gk X B C CX XX G) {r:R Bool} {H H':Hp} {Q:Bool→Hp→Prop} (s:Same H H') (h:KB XX r H Q):KB XX r H' Q:=by
 cases r with
 | ok d=>exact fun H2 s2=>h H2 (s.trans s2)
 | exc c=>exact g.anti c H H' s h
 | bad=>exact h
theorem KL.mono (g:Gk X B C CX XX G) {r:R (List D)} {H H':Hp} {Q:List V→Hp→Prop} (s:Same H H') (h:KL B XX r H Q):KL B XX r H' Q:=by
 cases r with
 | ok d=>exact fun v H2 s2 d2=>h v H2 (s.trans s2) d2
 | exc c=>exact g.anti c H H' s h
 | bad=>exact h
theorem KE.ok {d:D} {v:V} {H:Hp} {Q:VK} (h:KE B XX (.ok d) H Q) (q:Den B H d v):Q v H:=h v H (Same.refl H) q
theorem two (g:Gk X B C CX XX G) {a b:E} {σ:St} {H:Hp} {Q:VK} {f:D→D→R D} {r:R2}
  (hr:∀x y H dx dy,Den B H dx x→Den B H dy y→KE B XX (f dx dy) H Q→r x y H Q) :
  (∃δ,Sok B σ H δ∧KE B XX ((ev C a δ).bind fun x=>(ev C b δ).bind fun y=>f x y) H Q)→tOp r (RE B C XX a) (RE B C XX b) σ H Q:=by
 rintro ⟨δ,ok,h⟩
 refine RE.of (W:=fun r H=>KE B XX r H Q) ok (fun _ _ z=>z) (fun _ z=>z) h fun dx x H1 s1 d1 h1=>?_
 refine RE.of (W:=fun r H=>KE B XX r H Q) (ok.mono s1) (fun _ _ z=>z) (fun _ z=>z) (KE.mono g s1 h1) fun dy y H2 s2 d2 h2=>?_
 exact hr x y H2 dx dy (Den.mono s2 dx x d1) d2 (KE.mono g s2 h2)
theorem DenL.repN {H:Hp} {ds:List D} {vs:List V} (h:DenL B H ds vs):∀k:Nat,DenL B H (List.replicate k ds).flatten (List.replicate k vs).flatten
 | 0=>by simp only [List.replicate_zero,List.flatten_nil,DenL]
 | k+1=>by
  simp only [List.replicate_succ,List.flatten_cons]
  exact DenL.append _ _ _ _ h (DenL.repN h k)
theorem binOk (g:Gk X B C CX XX G) (op:Operator):OpR X (binaryOp op) (fun x y H Q=>∃dx dy,Den B H dx x∧Den B H dy y∧KE B XX (binD op dx dy) H Q):=by
 intro pins s σ H x y v u Q I rx ry ⟨dx,dy,hx,hy,k⟩
 cases dx<;>cases dy<;>first
  |(exfalso;cases op<;>exact k)
  | skip
 case list.list xs ys =>
  cases op<;>first
   | exact False.elim k
   | skip
  simp only [binD] at k
  split at k
  ·rename_i hz
   simp only [Den] at hx hy
   obtain ⟨a,us,e1,q1,l1⟩:=hx
   obtain ⟨c,ws,e2,q2,l2⟩:=hy
   subst e1;subst e2
   have n1:=DenL.len _ _ l1
   have n2:=DenL.len _ _ l2
   refine JLR pins s σ H _ _ v u Q I rx ry ⟨a,c,us,ws,rfl,rfl,g.K▸q1,g.K▸q2,by rw [sizeLine_eq];omega,fun p hp=>?_⟩
   have sm:Same H (upd H p (.lst (us++ws))):=fun b o e=>by rw [JAL (JAY e hp)];exact e
   refine k _ _ sm ?_
   simp only [Den]
   exact ⟨p,_,rfl,SqL.of JAM,DenL.append _ _ _ _ (DenL.mono sm _ _ l1) (DenL.mono sm _ _ l2)⟩
  ·exact k.elim
 case list.int xs j =>
  cases op<;>first
   | exact False.elim k
   | skip
  simp only [binD] at k
  split at k
  ·rename_i hz
   simp only [Den] at hx hy
   obtain ⟨a,us,e1,q1,l1⟩:=hx
   subst e1;subst hy
   have n1:=DenL.len _ _ l1
   refine JLp pins s σ H _ _ v u Q I rx ry ⟨a,j,us,rfl,rfl,g.K▸q1,by omega,by omega,by rw [sizeLine_eq,←n1];exact hz.2.2,fun p hp=>?_⟩
   have sm:Same H (upd H p (.lst (List.replicate j.toNat us).flatten)):=fun b o e=>by rw [JAL (JAY e hp)];exact e
   refine k _ _ sm ?_
   simp only [Den]
   exact ⟨p,_,rfl,SqL.of JAM,DenL.repN (DenL.mono sm _ _ l1) _⟩
  ·exact k.elim
 case tuple.int xs j =>
  cases op<;>first
   | exact False.elim k
   | skip
  simp only [binD] at k
  split at k
  ·rename_i hz
   simp only [Den] at hx hy
   obtain ⟨a,us,e1,q1,l1⟩:=hx
   subst e1;subst hy
   have n1:=DenL.len _ _ l1
   refine JK2 pins s σ H _ _ v u Q I rx ry ⟨a,j,us,rfl,rfl,g.K▸q1,hz.1,hz.2.1,by omega,fun z=>hz.2.2.2 (by rw [z] at n1;exact List.length_eq_zero_iff.mp n1),fun p hp=>?_⟩
   have sm:Same H (upd H p (.tup (List.replicate j.toNat us).flatten)):=fun b o e=>by rw [JAL (JAY e hp)];exact e
   refine k _ _ sm ?_
   simp only [Den]
   exact ⟨p,_,rfl,SqT.of JAM,DenL.repN (DenL.mono sm _ _ l1) _⟩
  ·exact k.elim
 case tuple.tuple xs ys =>
  cases op<;>first
   | exact False.elim k
   | skip
  simp only [binD] at k
  split at k
  ·rename_i hz
   simp only [Den] at hx hy
   obtain ⟨a,us,e1,q1,l1⟩:=hx
   obtain ⟨c,ws,e2,q2,l2⟩:=hy
   subst e1;subst e2
   have n1:=DenL.len _ _ l1
   have n2:=DenL.len _ _ l2
   refine JIl pins s σ H _ _ v u Q I rx ry ⟨a,c,us,ws,rfl,rfl,g.K▸q1,g.K▸q2,by rw [sizeLine_eq];omega,fun h=>?_,fun h h2=>?_,fun h h2 p hp=>?_⟩
   · have:xs=[]:=by rw [h] at n1;exact List.eq_nil_of_length_eq_zero n1
     subst this
     refine k _ _ (Same.refl H) ?_
     simp only [Den,List.nil_append]
     exact ⟨c,ws,rfl,q2,l2⟩
   · have:ys=[]:=by rw [h2] at n2;exact List.eq_nil_of_length_eq_zero n2
     subst this
     refine k _ _ (Same.refl H) ?_
     simp only [Den,List.append_nil]
     exact ⟨a,us,rfl,q1,l1⟩
   · have sm:Same H (upd H p (.tup (us++ws))):=fun b o e=>by rw [JAL (JAY e hp)];exact e
     refine k _ _ sm ?_
     simp only [Den]
     exact ⟨p,_,rfl,SqT.of JAM,DenL.append _ _ _ _ (DenL.mono sm _ _ l1) (DenL.mono sm _ _ l2)⟩
  ·exact k.elim
 rename_i i j
 simp only [Den] at hx hy
 subst hx;subst hy
 cases op<;>first
  | exact False.elim k
  | skip
 ·exact JNo pins s σ H _ _ v u Q I rx ry ⟨i,j,rfl,rfl,KE.ok k (by simp only [Den])⟩
 ·exact JM4 pins s σ H _ _ v u Q I rx ry ⟨i,j,rfl,rfl,KE.ok k (by simp only [Den])⟩
 ·simp only [binD] at k
  split at k
  ·rename_i hm
   obtain ⟨t,rfl⟩:=rx
   obtain ⟨t',rfl⟩:=ry
   exact mul_int ⟨.int _,H,I.tok _,⟨_,rfl⟩,KE.ok k (by simp only [Den])⟩ hm
  ·exact k.elim
 ·simp only [binD] at k
  split at k
  ·rename_i hm
   exact JLS pins s σ H _ _ v u Q I rx ry ⟨i,j,rfl,rfl,hm,KE.ok k (by simp only [Den])⟩
  ·exact k.elim
 ·simp only [binD] at k
  split at k
  ·rename_i hm
   obtain ⟨t,rfl⟩:=rx
   obtain ⟨t',rfl⟩:=ry
   exact floordiv_int hm.1 ⟨.int _,H,I.tok _,⟨_,rfl⟩,KE.ok k (by simp only [Den])⟩ (.inl hm.2)
  ·exact k.elim
theorem JG4 (g:Gk X B C CX XX G):X.A.units+64<cLine:=by have:=g.units;omega
theorem JOv (g:Gk X B C CX XX G) (op:CmpOp):OpR X (compareOp op) (fun x y H Q=>∃dx dy,Den B H dx x∧Den B H dy y∧KE B XX (cmpD op dx dy) H Q):=by
 intro pins s σ H x y v u Q I rx ry ⟨dx,dy,hx,hy,k⟩
 cases op with
 | Eq =>
  simp only [cmpD] at k
  split at k
  ·rename_i hs
   simp only [Bool.and_eq_true] at hs
   have c1:dx.canLay0=true:=(Bool.and_eq_true_iff.mp hs.1).1
   have c2:dy.canLay0=true:=(Bool.and_eq_true_iff.mp hs.2).1
   obtain ⟨as,ra⟩:=Den.reads g.K I dx x v c1 hx rx
   obtain ⟨bs,rb⟩:=Den.reads g.K I dy y u c2 hy ry
   exact SeqAt.compareEq_shaped ra rb hs.1 hs.2 (JG4 g) ⟨.bl _,H,I,rfl,KE.ok k (by simp only [Den])⟩
  ·exact k.elim
 | NotEq =>
  simp only [cmpD] at k
  split at k
  ·rename_i hs
   simp only [Bool.and_eq_true] at hs
   have c1:dx.canLay0=true:=(Bool.and_eq_true_iff.mp hs.1).1
   have c2:dy.canLay0=true:=(Bool.and_eq_true_iff.mp hs.2).1
   obtain ⟨as,ra⟩:=Den.reads g.K I dx x v c1 hx rx
   obtain ⟨bs,rb⟩:=Den.reads g.K I dy y u c2 hy ry
   exact SeqAt.compareNe_shaped ra rb hs.1 hs.2 (JG4 g) ⟨.bl _,H,I,rfl,KE.ok k (by simp only [Den])⟩
  ·exact k.elim
 | Lt =>
  cases dx<;>cases dy<;>first | exact False.elim k | skip
  rename_i i j
  simp only [Den] at hx hy
  subst hx;subst hy
  exact op_lt pins s σ H _ _ v u Q I rx ry ⟨i,j,rfl,rfl,KE.ok k (by simp only [Den])⟩
 | LtE =>
  cases dx<;>cases dy<;>first | exact False.elim k | skip
  rename_i i j
  simp only [Den] at hx hy
  subst hx;subst hy
  exact op_le pins s σ H _ _ v u Q I rx ry ⟨i,j,rfl,rfl,KE.ok k (by simp only [Den])⟩
 | Gt =>
  cases dx<;>cases dy<;>first | exact False.elim k | skip
  rename_i i j
  simp only [Den] at hx hy
  subst hx;subst hy
  exact op_gt pins s σ H _ _ v u Q I rx ry ⟨i,j,rfl,rfl,KE.ok k (by simp only [Den])⟩
 | GtE =>
  cases dx<;>cases dy<;>first | exact False.elim k | skip
  rename_i i j
  simp only [Den] at hx hy
  subst hx;subst hy
  exact op_ge pins s σ H _ _ v u Q I rx ry ⟨i,j,rfl,rfl,KE.ok k (by simp only [Den])⟩
 | Is=>exact False.elim k
 | IsNot=>exact False.elim k
 | In =>
  cases dy with
  | list ds =>
   simp only [cmpD] at k
   split at k
   ·rename_i hs
    simp only [JCE,Bool.and_eq_true,decide_eq_true_eq] at hs
    obtain ⟨as,ra⟩:=Den.reads g.K I dx x v hs.1.2 hx rx
    obtain ⟨bs,rb⟩:=Den.reads g.K I (.list ds) y u (by simpa only [PyData.canLay0] using hs.1.1) hy ry
    have hu:=g.units
    refine SeqAt.in_list_reads rb ra hs.1.1 hs.1.2 ?_ ⟨.bl _,H,I,rfl,KE.ok k (by simp only [Den])⟩
    have:=Nat.min_le_right (PyData.depthAll ds) dx.depth
    omega
   ·exact k.elim
  | tuple ds =>
   simp only [cmpD] at k
   split at k
   ·rename_i hs
    simp only [JCE,Bool.and_eq_true,decide_eq_true_eq] at hs
    obtain ⟨as,ra⟩:=Den.reads g.K I dx x v hs.1.2 hx rx
    obtain ⟨bs,rb⟩:=Den.reads g.K I (.tuple ds) y u (by simpa only [PyData.canLay0] using hs.1.1) hy ry
    have hu:=g.units
    refine SeqAt.in_tuple_reads rb ra hs.1.1 hs.1.2 ?_ ⟨.bl _,H,I,rfl,KE.ok k (by simp only [Den])⟩
    have:=Nat.min_le_right (PyData.depthAll ds) dx.depth
    omega
   ·exact k.elim
  | _=>exact False.elim k
 | NotIn =>
  cases dy with
  | list ds =>
   simp only [cmpD] at k
   split at k
   ·rename_i hs
    simp only [JCE,Bool.and_eq_true,decide_eq_true_eq] at hs
    obtain ⟨as,ra⟩:=Den.reads g.K I dx x v hs.1.2 hx rx
    obtain ⟨bs,rb⟩:=Den.reads g.K I (.list ds) y u (by simpa only [PyData.canLay0] using hs.1.1) hy ry
    have hu:=g.units
    refine SeqAt.notIn_list_reads rb ra hs.1.1 hs.1.2 ?_ ⟨.bl _,H,I,rfl,KE.ok k (by simp only [Den])⟩
    have:=Nat.min_le_right (PyData.depthAll ds) dx.depth
    omega
   ·exact k.elim
  | tuple ds =>
   simp only [cmpD] at k
   split at k
   ·rename_i hs
    simp only [JCE,Bool.and_eq_true,decide_eq_true_eq] at hs
    obtain ⟨as,ra⟩:=Den.reads g.K I dx x v hs.1.2 hx rx
    obtain ⟨bs,rb⟩:=Den.reads g.K I (.tuple ds) y u (by simpa only [PyData.canLay0] using hs.1.1) hy ry
    have hu:=g.units
    refine SeqAt.notIn_tuple_reads rb ra hs.1.1 hs.1.2 ?_ ⟨.bl _,H,I,rfl,KE.ok k (by simp only [Den])⟩
    have:=Nat.min_le_right (PyData.depthAll ds) dx.depth
    omega
   ·exact k.elim
  | _=>exact False.elim k
end
noncomputable def NewT (B:Bs) (H H2 H3:Hp) (d:D) (x:V):Prop:=∃p xs es,H2 p=none∧H3=upd H2 p (.tup xs)∧x=.ref p∧d=.tuple es∧DenL B H es xs
noncomputable def ItOk (B:Bs) (J:It) (H:Hp) (ds:List D):Prop:=∀H2,Same H H2→∀i:Nat,
 (∀d,ds[i]? = some d→J.go i H2∧∀x H3,J.yld i H2 x H3→(H3=H2∧Den B H d x)∨NewT B H H2 H3 d x)∧(ds.length≤i→J.stop i H2)
noncomputable def KI (B:Bs) (XX:Nat→Hp→Prop) (r:R (List D)) (H:Hp) (Q:It→Hp→Prop):Prop:=match r with
 | .ok ds=>∀J H',Same H H'→ItOk B J H' ds→Q J H'
 | .exc c=>XX c H
 | .bad=>False
noncomputable def RI (B:Bs) (C:Cn) (XX:Nat→Hp→Prop) (e:E):TI:=fun σ H Q=>∃δ,Sok B σ H δ∧KI B XX (evI C e δ) H Q
theorem JHw {δ:Env} {i c:Nat}:look δ i≠.exc c:=by
 unfold look
 cases δ[i]? with
 | none=>intro h;cases h
 | some s=>cases s with
  | own d=>cases d<;>(intro h;cases h)
  | _=>intro h;cases h
theorem JCU:∀ {N:List Str} {x:Str} {i:Nat},idxOf x N=some i→N[i]? = some x
 | [],x,i,h=>by simp [idxOf] at h
 | y::r,x,i,h=>by
  unfold idxOf at h
  split at h
  ·rename_i hy
   cases h
   have:x=y:=eq_of_beq hy
   subst this;rfl
  ·cases q:idxOf x r with
   | none=>rw [q] at h;cases h
   | some j =>
    rw [q] at h
    simp only [Option.map_some,Option.some.injEq] at h
    subst h
    simpa using JCU q
theorem JBA {H:Hp} {p:Addr} {o:HO} (h:H p=none):Same H (upd H p o):=fun b u e=>by rw [JAL (JAY e h)];exact e
theorem JAV {G:List (Str×GK)} {n:Nat} {it:Bool} {names:List (Str×NameKind)} {N:List Str} {e:Expr} {x:E} (h:JAN G n it names N e=some x) (es:List Expr) (env:PySem.Env) :
  starEach (e::es) env=(false,eval e env)::starEach es env:=by
 cases n with
 | zero=>simp [JAN,JAW,JAP] at h
 | succ n=>cases e<;>first | rfl | (simp [JAN,JAW,JAP,xOf,dOf,dRaw,Option.bind_none,ite_self,xRaw] at h)
theorem JBb {G:List (Str×GK)} {n:Nat} {it:Bool} {names:List (Str×NameKind)} {N:List Str} {pos:Pos} {env:PySem.Env}:∀ {es:List Expr} {x:E},JAJ (JAN G n it names N) es=some x →
  (backTo pos (starEach es env)).any (·.1)=false
 | [],_,_=>rfl
 | e::es,x,h=>by
  unfold JAJ at h
  cases h1:JAN G n it names N e with
  | none=>rw [h1] at h;cases h
  | some a =>
    rw [h1] at h
    cases h2:JAJ (JAN G n it names N) es with
    | none=>simp [h2] at h
    | some b =>
     rw [JAV h1 es env]
     show (false || (backTo pos (starEach es env)).any (·.1))=false
     rw [JBb h2];rfl
theorem JK6 {b:Expr} (h:isSlice b=false):JGM b:=by
 intro o i
 cases b<;>first | rfl | cases h
theorem JAF {x:Str} (h:JAH x=false):(x==("__debug__":Str))=false∧(x==("__classdict__":Str))=false∧x≠"__name__":=by
 unfold JAH at h
 simp only [Bool.or_eq_false_iff] at h
 exact ⟨h.1.1,h.1.2,fun e=>by have:=h.2;rw [e] at this;simp at this⟩
noncomputable def cnt:E→Nat
 | .cons _ r=>cnt r+1
 | _=>0
theorem JB8 {C:Cn}:∀(e:E) (δ:Env) (ds:List D),evA C e δ=.ok ds→ds.length=cnt e
 | .nil,δ,ds,h=>by simp only [evA] at h;cases h;rfl
 | .cons a r,δ,ds,h=>by
  simp only [evA] at h
  cases q:ev C a δ with
  | ok d =>
   cases q2:evA C r δ with
   | ok es =>
    rw [q,q2] at h
    cases h
    simp only [List.length_cons,cnt,JB8 r δ es q2]
   | exc c=>rw [q,q2] at h;cases h
   | bad=>rw [q,q2] at h;cases h
  | exc c=>rw [q] at h;cases h
  | bad=>rw [q] at h;cases h
 | .var _,_,_,h | .cint _,_,_,h | .cbl _,_,_,h | .cnon,_,_,h | .cstr _,_,_,h | .glo _,_,_,h | .bin _ _ _,_,_,h | .neg _,_,_,h | .not _,_,_,h | .and _ _,_,_,h | .or _ _,_,_,h | .cmp _ _ _,_,_,h
 | .isN _ _,_,_,h | .isB _ _,_,_,h | .ife _ _ _,_,_,h | .tup _,_,_,h | .lst _,_,_,h | .idx _ _,_,_,h | .call _ _,_,_,h | .blt _ _,_,_,h | .rng _,_,_,h | .isi _ _,_,_,h | .mcount _ _,_,_,h | .mindex _ _,_,_,h | .mget _ _ _,_,_,h | .cmpr _ _ _ _,_,_,h=>by simp only [evA] at h;cases h
theorem JAU {f:Expr→Option E}:∀ {es:List Expr} {x:E},JAJ f es=some x→cnt x=es.length
 | [],x,h=>by unfold JAJ at h;cases h;rfl
 | e::es,x,h=>by
  unfold JAJ at h
  cases h1:f e with
  | none=>rw [h1] at h;cases h
  | some a =>
   cases h2:JAJ f es with
   | none=>simp [h1,h2] at h
   | some b =>
    simp only [h1,h2,Option.bind_some,Option.some.injEq] at h
    subst h
    simp only [cnt,List.length_cons,JAU h2]
section
variable {X:Cx} {B:Bs} {C:Cn} {CX:CXT} {XX:Nat→Hp→Prop} {G:List (Str×GK)} {a b c:Expr} {x y z:E} {pos:Pos}
theorem s_bad {e:Expr} {x:E} (h:∀δ,ev C x δ=.bad):PE X e (RE B C XX x):=fun _ _ _ _ _ _ ⟨δ,_,k⟩=>by rw [h δ] at k;exact k.elim
theorem t_bad {e:Expr} {x:E} (h:∀δ,evT C x δ=.bad):PT X e (RT B C XX x):=fun _ _ _ _ _ _ ⟨δ,_,k⟩=>by rw [h δ] at k;exact k.elim
theorem s_var {i:Nat} {nm:Str} (hN:X.N[i]? = some nm) (hv:Vis X.env.scope nm) (hb:JAH nm=false):PE X (.Name nm pos) (RE B C XX (.var i)) :=
 PE.imp (JD1 hN hv (JAF hb).1 (JAF hb).2.1) fun σ H Q ⟨δ,ok,k⟩=>by
  simp only [ev] at k
  cases q:look δ i with
  | ok d =>
   obtain ⟨v,e,dn⟩:=ok i d q
   rw [q] at k
   exact ⟨v,e,KE.ok k dn⟩
  | exc c=>exact (JHw q).elim
  | bad=>rw [q] at k;exact k.elim
theorem s_int {i:Int} {j:Nat}:PE X (.Constant (.int i) j pos) (RE B C XX (.cint i)):=PE.imp JDy fun σ H Q ⟨δ,ok,k⟩=>KE.ok k (by simp only [Den])
theorem s_bl {i:Bool} {j:Nat}:PE X (.Constant (.bool i) j pos) (RE B C XX (.cbl i)):=PE.imp JGG fun σ H Q ⟨δ,ok,k⟩=>KE.ok k (by simp only [Den])
theorem s_non {j:Nat}:PE X (.Constant .none j pos) (RE B C XX .cnon):=PE.imp JMj fun σ H Q ⟨δ,ok,k⟩=>KE.ok k (by simp only [Den])
theorem s_str {i:Str} {j:Nat}:PE X (.Constant (.str i) j pos) (RE B C XX (.cstr i)):=PE.imp JNB fun σ H Q ⟨δ,ok,k⟩=>KE.ok k (by simp only [Den])
theorem s_glo (g:Gk X B C CX XX G) {i:Nat} {nm:Str} (hg:Gl X nm) (hl:G.lookup nm=some (.con i)) (hb:JAH nm=false):PE X (.Name nm pos) (RE B C XX (.glo i)):=by
 cases q:C.glo i with
 | ok d =>
  obtain ⟨u,v,hm,r,dn⟩:=g.con nm i d hl q
  exact PE.imp (JHQ hg hm r (JAF hb).1) fun σ H Q ⟨δ,ok,k⟩=>by
   simp only [ev] at k
   rw [q] at k
   exact KE.ok k (dn H)
 | exc c=>exact (g.noexg i c q).elim
 | bad=>exact s_bad fun δ=>by simp only [ev];exact q
theorem JMN (g:Gk X B C CX XX G) {op:Operator} (ha:PE X a (RE B C XX x)) (hb:PE X b (RE B C XX y)):PE X (.BinOp a op b pos) (RE B C XX (.bin op x y)) :=
 PE.imp (JMs (binOk g op) ha hb) fun σ H Q ⟨δ,ok,k⟩=>two g (f:=binD op) (fun x y H dx dy h1 h2 k=>⟨dx,dy,h1,h2,k⟩) ⟨δ,ok,by simpa only [ev] using k⟩
theorem s_cmp (g:Gk X B C CX XX G) {op:CmpOp} (ha:PE X a (RE B C XX x)) (hb:PE X b (RE B C XX y)) (hm:behindInMarks op b=false):PE X (.Compare a [op] [b] pos) (RE B C XX (.cmp op x y)) :=
 PE.imp (JEb (JOv g op) ha hb hm) fun σ H Q ⟨δ,ok,k⟩=>two g (f:=cmpD op) (fun x y H dx dy h1 h2 k=>⟨dx,dy,h1,h2,k⟩) ⟨δ,ok,by simpa only [ev] using k⟩
theorem s_neg (g:Gk X B C CX XX G) (ha:PE X a (RE B C XX x)):PE X (.UnaryOp .USub a pos) (RE B C XX (.neg x)) :=
 PE.imp (JMU JKU ha) fun σ H Q ⟨δ,ok,k⟩=>by
  simp only [ev] at k
  refine RE.of (W:=fun r H=>KE B XX r H Q) ok (fun _ _ z=>z) (fun _ z=>z) k fun d v H1 s1 d1 h1=>?_
  have h2:=KE.mono g s1 h1
  cases d<;>first | exact False.elim h2 | skip
  rename_i i
  simp only [Den] at d1
  exact ⟨i,d1,KE.ok h2 (by simp only [Den])⟩
theorem truV {K:PySem.W.Frag} (hK:K=B.K) {d:D} {v:V} {H:Hp} {k:Bool} (h:Den B H d v) (t:truth d=.ok k):TruV K v H k:=by
 subst hK
 cases d with
 | none=>simp only [Den] at h;subst h;simp only [truth] at t;cases t;rfl
 | bool b=>simp only [Den] at h;subst h;simp only [truth] at t;cases t;rfl
 | int i=>simp only [Den] at h;subst h;simp only [truth] at t;cases t;rfl
 | str s =>
  simp only [Den] at h;subst h
  simp only [truth] at t
  split at t
  ·rename_i hl
   cases t
   exact ⟨by rw [sizeLine_eq];exact hl,rfl⟩
  ·cases t
 | list ds =>
  simp only [Den] at h
  obtain ⟨p,xs,e,q,l⟩:=h
  subst e
  simp only [truth] at t;cases t
  refine .inl ⟨xs,q,?_⟩
  have:=DenL.len ds xs l
  cases ds<;>cases xs<;>simp_all
 | tuple ds =>
  simp only [Den] at h
  obtain ⟨p,xs,e,q,l⟩:=h
  subst e
  simp only [truth] at t;cases t
  refine .inr (.inl ⟨xs,q,?_⟩)
  have:=DenL.len ds xs l
  cases ds<;>cases xs<;>simp_all
 | dict kvs=>simp only [truth] at t;cases t
theorem JDf {d:D} {c:Nat}:truth d≠.exc c:=by
 cases d<;>simp only [truth]<;>(try split)<;>(intro h;cases h)
theorem s_not (g:Gk X B C CX XX G) (ha:PE X a (RE B C XX x)):PE X (.UnaryOp .Not a pos) (RE B C XX (.not x)):=by
 intro pins s σ H Q I ⟨δ,ok,k⟩
 refine UnaryOp_ (thn (ha pins s σ H (fun v H1=>∃t,TruV X.K v H1 t∧Q (.bl (!t)) H1) I ?_) fun v s1 ⟨w,H1,I1,r1,t,tv,q⟩=>?_)
 ·refine ⟨δ,ok,?_⟩
  simp only [ev] at k
  cases q:ev C x δ with
  | ok d =>
   rw [q] at k
   cases q2:truth d with
   | ok t =>
    simp only [R.bind,q2] at k
    exact fun v H1 s1 d1=>⟨t,truV g.K d1 q2,k _ H1 s1 (by simp only [Den])⟩
   | exc c=>exact (JDf q2).elim
   | bad=>simp only [R.bind,q2] at k;exact k.elim
  | exc c=>rw [q] at k;exact k
  | bad=>rw [q] at k;exact k.elim
 ·exact not_of (thn (JJo pins s1 σ H1 w v (fun b H=>b=t∧H=H1) I1 r1 ⟨t,tv,rfl,rfl⟩) fun b s2 ⟨H2,I2,e1,e2⟩=>by subst e1;subst e2;exact ⟨.bl (!b),H2,I2,rfl,q⟩)
theorem s_and (g:Gk X B C CX XX G) {rest:List Expr} (ha:PE X a (RE B C XX x)) (hb:PE X (.BoolOp .And (b::rest) pos) (RE B C XX y)):PE X (.BoolOp .And (a::b::rest) pos) (RE B C XX (.and x y)) :=
 PE.imp (JN4 ha hb) fun σ H Q ⟨δ,ok,k⟩=>by
  simp only [ev] at k
  refine RE.of (W:=fun r H=>KE B XX r H Q) ok (fun _ _ z=>z) (fun _ z=>z) k fun d v H1 s1 d1 h1=>?_
  cases d<;>first | exact False.elim h1 | skip
  rename_i t
  simp only [Den] at d1
  refine ⟨t,d1,?_⟩
  cases t with
  | true=>exact iteT ⟨δ,ok.mono s1,KE.mono g s1 h1⟩
  | false=>exact iteF (KE.ok (KE.mono g s1 h1) (by simp only [Den]))
theorem s_or (g:Gk X B C CX XX G) {rest:List Expr} (ha:PE X a (RE B C XX x)) (hb:PE X (.BoolOp .Or (b::rest) pos) (RE B C XX y)):PE X (.BoolOp .Or (a::b::rest) pos) (RE B C XX (.or x y)) :=
 PE.imp (pe_or ha hb) fun σ H Q ⟨δ,ok,k⟩=>by
  simp only [ev] at k
  refine RE.of (W:=fun r H=>KE B XX r H Q) ok (fun _ _ z=>z) (fun _ z=>z) k fun d v H1 s1 d1 h1=>?_
  cases d<;>first | exact False.elim h1 | skip
  rename_i t
  simp only [Den] at d1
  refine ⟨t,d1,?_⟩
  cases t with
  | true=>exact iteT (KE.ok (KE.mono g s1 h1) (by simp only [Den]))
  | false=>exact iteF ⟨δ,ok.mono s1,KE.mono g s1 h1⟩
theorem JCO {d:D} {v:V} {H:Hp} (h:Den B H d v):decide (v=.non)=isNone d:=by
 cases d with
 | none=>simp only [Den] at h;subst h;rfl
 | bool _=>simp only [Den] at h;subst h;rfl
 | int _=>simp only [Den] at h;subst h;rfl
 | str _=>simp only [Den] at h;subst h;rfl
 | list _=>simp only [Den] at h;obtain ⟨p,xs,e,_⟩:=h;subst e;rfl
 | tuple _=>simp only [Den] at h;obtain ⟨p,xs,e,_⟩:=h;subst e;rfl
 | dict _ =>
  simp only [Den] at h
  rcases h with ⟨p,xs,e,_⟩ | ⟨p,xs,e,_⟩
  ·subst e;rfl
  ·subst e;rfl
theorem s_isN (g:Gk X B C CX XX G) {j:Nat} {pos':Pos} (ha:PE X a (RE B C XX x)):PE X (.Compare a [.Is] [.Constant .none j pos'] pos) (RE B C XX (.isN x false)) :=
 PE.imp (JJn (JJr ha)) fun σ H Q ⟨δ,ok,k⟩=>by
  simp only [ev] at k
  refine RE.of (W:=fun r H=>KE B XX r H Q) ok (fun _ _ z=>z) (fun _ z=>z) k fun d v H1 s1 d1 h1=>?_
  rw [JCO d1]
  exact KE.ok (KE.mono g s1 h1) (by simp [Den])
theorem JLL (g:Gk X B C CX XX G) {j:Nat} {pos':Pos} (ha:PE X a (RE B C XX x)):PE X (.Compare a [.IsNot] [.Constant .none j pos'] pos) (RE B C XX (.isN x true)) :=
 PE.imp (JJn (JGi ha)) fun σ H Q ⟨δ,ok,k⟩=>by
  simp only [ev] at k
  refine RE.of (W:=fun r H=>KE B XX r H Q) ok (fun _ _ z=>z) (fun _ z=>z) k fun d v H1 s1 d1 h1=>?_
  rw [JCO d1]
  exact KE.ok (KE.mono g s1 h1) (by simp [Den])
theorem JJu:OpR X (compareOp .Is) (fun v u H Q=>∃c d,v=.bl c∧u=.bl d∧Q (.bl (c==d)) H):=by
 intro pins s σ H v u w t Q I rx ry ⟨c,d,e1,e2,q⟩
 subst e1;subst e2
 cases rx;cases ry
 exact is_bool ⟨.bl _,H,I,rfl,q⟩
theorem s_isB (g:Gk X B C CX XX G) {j:Nat} {pos':Pos} {k:Bool} (ha:PE X a (RE B C XX x)):PE X (.Compare a [.Is] [.Constant (.bool k) j pos'] pos) (RE B C XX (.isB x k)) :=
 PE.imp (JEb JJu ha JGG rfl) fun σ H Q ⟨δ,ok,kk⟩=>by
  simp only [ev] at kk
  refine RE.of (W:=fun r H=>KE B XX r H Q) ok (fun _ _ z=>z) (fun _ z=>z) kk fun d v H1 s1 d1 h1=>?_
  cases d<;>first | exact False.elim h1 | skip
  rename_i t
  simp only [Den] at d1
  exact ⟨t,k,d1,rfl,KE.ok (KE.mono g s1 h1) (by simp only [Den])⟩
theorem s_ife (g:Gk X B C CX XX G) (hc:PT X c (RT B C XX z)) (ha:PE X a (RE B C XX x)) (hb:PE X b (RE B C XX y)):PE X (.IfExp c a b pos) (RE B C XX (.ife z x y)) :=
 PE.imp (JIQ hc ha hb) fun σ H Q ⟨δ,ok,k⟩=>by
  simp only [ev] at k
  refine RT.of (W:=fun r H=>KE B XX r H Q) ok (fun _ _ z=>z) (fun _ z=>z) k fun t H1 s1 h1=>?_
  cases t with
  | true=>exact iteT ⟨δ,ok.mono s1,KE.mono g s1 h1⟩
  | false=>exact iteF ⟨δ,ok.mono s1,KE.mono g s1 h1⟩
theorem a_nil:PA X [] (RA B C XX .nil):=PA.imp JC9 fun σ H Q ⟨δ,ok,k⟩=>k [] H (Same.refl H) (by simp only [DenL])
theorem JPI (g:Gk X B C CX XX G) {es:List Expr} (ha:PE X a (RE B C XX x)) (hr:PA X es (RA B C XX y)) (hs:starEach (a::es) X.env=(false,eval a X.env)::starEach es X.env):PA X (a::es) (RA B C XX (.cons x y)) :=
 PA.imp (JBk ha hr hs) fun σ H Q ⟨δ,ok,k⟩=>by
  simp only [evA] at k
  refine RE.of (W:=fun r H=>KL B XX r H Q) ok (fun _ _ z=>z) (fun _ z=>z) k fun d v H1 s1 d1 h1=>?_
  refine RA.of (W:=fun r H=>KL B XX r H Q) (ok.mono s1) (fun _ _ z=>z) (fun _ z=>z) (KL.mono g s1 h1) fun ds vs H2 s2 d2 h2=>?_
  exact h2 (v::vs) H2 s2 (by simp only [DenL];exact ⟨v,vs,rfl,Den.mono s2 d v d1,d2⟩)
theorem s_tup (g:Gk X B C CX XX G) {es:List Expr} {k2:Nat} (h:PA X es (RA B C XX x)) (hl:cnt x≤1000):PE X (.Tuple es k2 pos) (RE B C XX (.tup x)) :=
 PE.imp (JPP h) fun σ H Q ⟨δ,ok,k⟩=>by
  simp only [ev] at k
  cases q:evA C x δ with
  | ok ds =>
   rw [q] at k
   refine ⟨δ,ok,?_⟩
   rw [q]
   intro vs H1 s1 d1
   have e1:=DenL.len ds vs d1
   have e2:=JB8 x δ ds q
   refine ⟨by rw [sizeLine_eq];omega,fun p hp=>k _ _ (s1.trans (JBA hp)) ?_⟩
   simp only [Den]
   exact ⟨p,vs,rfl,SqT.of JAM,DenL.mono (JBA hp) ds vs d1⟩
  | exc c=>rw [q] at k;exact ⟨δ,ok,by rw [q];exact k⟩
  | bad=>rw [q] at k;exact k.elim
theorem s_lst (g:Gk X B C CX XX G) {es:List Expr} (h:PA X es (RA B C XX x)) (hl:cnt x≤1000):PE X (.List es pos) (RE B C XX (.lst x)) :=
 PE.imp (JJ0 h) fun σ H Q ⟨δ,ok,k⟩=>by
  simp only [ev] at k
  cases q:evA C x δ with
  | ok ds =>
   rw [q] at k
   refine ⟨δ,ok,?_⟩
   rw [q]
   intro vs H1 s1 d1
   have e1:=DenL.len ds vs d1
   have e2:=JB8 x δ ds q
   refine ⟨by rw [sizeLine_eq];omega,fun p hp=>k _ _ (s1.trans (JBA hp)) ?_⟩
   simp only [Den]
   exact ⟨p,vs,rfl,SqL.of JAM,DenL.mono (JBA hp) ds vs d1⟩
  | exc c=>rw [q] at k;exact ⟨δ,ok,by rw [q];exact k⟩
  | bad=>rw [q] at k;exact k.elim
theorem JGt {H:Hp} {ds:List D} {vs:List V} {i:Int} {d:D} (h:DenL B H ds vs) (e:VI.atI ds i=some d):∃v,L2.atI vs i=some v∧Den B H d v:=by
 have hl:=DenL.len ds vs h
 unfold VI.atI at e
 cases q:VI.ixN ds.length i with
 | none=>rw [q] at e;cases e
 | some j =>
  rw [q] at e
  obtain ⟨v,e1,dn⟩:=DenL.get ds vs j d h e
  refine ⟨v,?_,dn⟩
  unfold L2.atI
  have q':L2.ixN vs.length i=some j:=by rw [←hl];exact q
  rw [q']
  exact e1
theorem SqDo.at {pins:List (Addr×Obj)} {σ:St} {H:Hp} {s:Shared} {a:Addr} {o:Obj} {xs:List (Key×V)} (I:Inv X pins σ H s) (h:SqDo X.K X.w H a o xs):(a==sysModules)=false∧s.heap.get? a=some o∧∃vs,KV xs vs∧s.heap.DictOf (JBH X.prog X.w) a vs:=by
 rcases h with h | h
 ·obtain ⟨e,_,h1,h2⟩:=I.hok a _ h
  exact ⟨h1,e,h2⟩
 ·exact h X.prog s.heap I.kIn
theorem SqD.at {pins:List (Addr×Obj)} {σ:St} {H:Hp} {s:Shared} {a:Addr} {xs:List (Key×V)} (I:Inv X pins σ H s) (h:SqD X.K X.w H a xs):(a==sysModules)=false∧∃vs,KV xs vs∧s.heap.DictOf (JBH X.prog X.w) a vs:=by
 obtain ⟨o,h⟩:=h
 obtain ⟨h1,_,h2⟩:=SqDo.at I h
 exact ⟨h1,h2⟩
theorem JLY {ks:List (Key×V)} {vs:List (Key×Value)} {x:Str} (h:KV ks vs):(∀v,(ks.find? fun p=>p.1=Sum.inr x).map (·.2)=some v→∃u,valueAt vs (Sum.inr x:Key)=some u∧RelV v u)∧((ks.find? fun p=>p.1=Sum.inr x).map (·.2)=none→valueAt vs (Sum.inr x:Key)=none):=by
 induction h with
 | nil=>exact ⟨fun v e=>(by simp at e),fun _=>rfl⟩
 | @cons p q ps qs hq t ih =>
  obtain ⟨k,v⟩:=p
  obtain ⟨k',u⟩:=q
  obtain ⟨e1,e2⟩:=hq
  simp only at e1 e2
  subst e1
  unfold valueAt at ih ⊢
  simp only [List.find?_cons]
  by_cases hk:k=Sum.inr x
  ·simp only [hk,decide_true,Option.map_some,Option.some.injEq]
   exact ⟨fun v' e=>⟨u,rfl,e▸e2⟩,fun e=>by cases e⟩
  ·simp only [hk,decide_false]
   exact ih
theorem JLG:IxR X (fun x y H Q=>∃p xs k v,x=.ref p∧y=.str k∧SqD X.K X.w H p xs∧((xs.find? fun p=>p.1=Sum.inr k).map (·.2))=some v∧Q v H):=by
 intro value slice pins s σ H x y v u Q I rx ry h hs
 obtain ⟨p,xs,k,z,rfl,rfl,hq,he,q⟩:=h
 cases rx
 obtain ⟨t,rfl⟩:=ry
 obtain ⟨hsys,vs,kv,dd⟩:=SqD.at I hq
 obtain ⟨u,g1,g2⟩:=(JLY kv).1 z he
 exact subscriptTail_builtinR (x:=u) dd.typeIs slot_dict_getitem.lookup (wpAny_getItem_of (Q:=fun r s'=>r=u∧EP X pins σ Q r s') (JCZ _ _ k t) dd.mapOf g1 ⟨rfl,z,H,I.tok _,g2,q⟩) hs
theorem JDk {H:Hp} {x:Str} {d:D}:∀ {kvs:List (D×D)} {xs:List (Key×V)},DenK B H kvs xs→getK kvs x=.ok d→∃v,(xs.find? fun p=>p.1=Sum.inr x).map (·.2)=some v∧Den B H d v
 | [],xs,h,e=>by cases e
 |(k,b)::r,xs,h,e=>by
  simp only [DenK] at h
  obtain ⟨y,v,r',rfl,rfl,h1,h2⟩:=h
  simp only [getK] at e
  by_cases hk:y=x
  · rw [if_pos hk] at e
    cases e
    exact ⟨v,by simp [List.find?,hk],h1⟩
  · rw [if_neg hk] at e
    obtain ⟨v',e1,e2⟩:=JDk h2 e
    have:¬((Sum.inr y:Key)=Sum.inr x):=fun z=>hk (Sum.inr.inj z)
    exact ⟨v',by simpa [List.find?,this] using e1,e2⟩
theorem JEv {x:Str} {c:Nat}:∀ {kvs:List (D×D)},getK kvs x≠.exc c
 | []=>by intro h;cases h
 |(k,b)::r=>by
  cases k<;>simp only [getK]<;>first | (intro h;cases h;done) | skip
  split
  · intro h;cases h
  · exact JEv
theorem idxOk (g:Gk X B C CX XX G):IxR X (fun v u H Q=>∃dx dy,Den B H dx v∧Den B H dy u∧KE B XX (idxD dx dy) H Q):=by
 intro value slice pins s σ H v u w t Q I rx ry ⟨dx,dy,hx,hy,k⟩ hs
 refine (ix_seq.or JLG) value slice pins s σ H v u w t Q I rx ry ?_ hs
 cases dx with
 | list ds =>
  cases dy<;>first | exact False.elim k | skip
  rename_i i
  simp only [Den] at hx hy
  obtain ⟨p,xs,e,q,l⟩:=hx
  simp only [idxD] at k
  cases qa:VI.atI ds i with
  | none=>rw [qa] at k;exact k.elim
  | some d =>
   rw [qa] at k
   obtain ⟨z,e2,dn⟩:=JGt l qa
   exact .inl (.inl ⟨p,xs,i,z,e,hy,g.K▸q,e2,KE.ok k dn⟩)
 | tuple ds =>
  cases dy<;>first | exact False.elim k | skip
  rename_i i
  simp only [Den] at hx hy
  obtain ⟨p,xs,e,q,l⟩:=hx
  simp only [idxD] at k
  cases qa:VI.atI ds i with
  | none=>rw [qa] at k;exact k.elim
  | some d =>
   rw [qa] at k
   obtain ⟨z,e2,dn⟩:=JGt l qa
   exact .inl (.inr (.inl ⟨p,xs,i,z,e,hy,g.K▸q,e2,KE.ok k dn⟩))
 | dict kvs =>
  cases dy<;>first | exact False.elim k | skip
  rename_i y
  simp only [Den] at hx hy
  simp only [idxD] at k
  rcases hx with ⟨p,c,e1,e2,_⟩ | ⟨p,xs,e1,e2,e3⟩
  ·subst e2;exact False.elim k
  ·cases qg:getK kvs y with
   | ok d =>
    rw [qg] at k
    obtain ⟨z,f1,f2⟩:=JDk e3 qg
    exact .inr ⟨p,xs,y,z,e1,hy,by rw [g.K,g.W];exact e2,f1,KE.ok k f2⟩
   | exc c=>exact (JEv qg).elim
   | bad=>rw [qg] at k;exact k.elim
 | str z =>
  cases dy<;>first | exact False.elim k | skip
  rename_i i
  simp only [Den] at hx hy
  simp only [idxD] at k
  split at k
  ·rename_i hz
   cases qa:VI.atI z.cps.toList i with
   | none=>rw [qa] at k;exact k.elim
   | some c =>
    rw [qa] at k
    exact .inl (.inr (.inr ⟨z,i,c,hx,hy,by rw [sizeLine_eq];exact Nat.le_trans hz (by decide),qa,k _ _ (Same.refl H) (by simp only [Den])⟩))
  ·exact k.elim
 | _=>exact False.elim k
theorem s_idx (g:Gk X B C CX XX G) (ha:PE X a (RE B C XX x)) (hb:PE X b (RE B C XX y)) (hs:isSlice b=false):PE X (.Subscript a b pos) (RE B C XX (.idx x y)) :=
 PE.imp (pe_ix (idxOk g) ha hb (JK6 hs)) fun σ H Q ⟨δ,ok,k⟩=>two g (f:=idxD) (fun x y H dx dy h1 h2 k=>⟨dx,dy,h1,h2,k⟩) ⟨δ,ok,by simpa only [ev] using k⟩
theorem JK4 (g:Gk X B C CX XX G) {n:Nat} {fn:List D→R D} {vs:List V} {ds:List D} {H:Hp} {Q:VK} (hn:fn ds≠.bad→ds.length=n) (dn:DenL B H ds vs) (k:KE B XX (fn ds) H Q):JCq B n fn vs H Q (EX B XX):=by
 have hb:fn ds≠.bad:=fun z=>by rw [z] at k;exact k
 refine ⟨by rw [←DenL.len ds vs dn];exact hn hb,ds,dn,?_⟩
 cases q:fn ds with
 | ok d=>rw [q] at k;exact k
 | exc c=>rw [q] at k;exact fun H' s'=>⟨c,rfl,g.anti c H H' s' k⟩
 | bad=>exact (hb q).elim
end
section
variable {X:Cx} {B:Bs} {C:Cn} {CX:CXT} {XX:Nat→Hp→Prop} {G:List (Str×GK)} {a b c:Expr} {x y z:E} {pos p:Pos}
theorem s_call (g:Gk X B C CX XX G) {i:Nat} {nm:Str} {e:Expr} {r:List Expr} (hg:Gl X nm) (hl:G.lookup nm=some (.fn i)) (hb:JAH nm=false) (ha:PA X (e::r) (RA B C XX x))
  (he:starEach (e::r) X.env=(false,eval e X.env)::starEach r X.env) (hpl:(backTo pos (starEach (e::r) X.env)).any (·.1)=false):PE X (.Call (.Name nm p) (e::r) [] pos) (RE B C XX (.call i x)):=by
 obtain ⟨f,fd,ps,k,hm,hk,F,hr,hbi,hn⟩:=g.fn nm i hl
 refine PE.imp (JLj F hr hg hm hk hbi .nil g.pas ha (JAF hb).1 he ?_) ?_
 ·rw [he] at hpl
  exact hpl
 ·rintro σ H Q ⟨δ,ok,kk⟩
  simp only [ev] at kk
  refine RA.of (W:=fun r H=>KE B XX r H Q) ok (fun _ _ z=>z) (fun _ z=>z) kk fun ds vs H1 s1 d1 h1=>?_
  show JCq B ps.length (C.fn i) (vs++[]) H1 Q (EX B XX)
  rw [List.append_nil]
  exact JK4 g (hn ds) d1 (KE.mono g s1 h1)
theorem JHE (g:Gk X B C CX XX G):CallR X (.builtin "len") (fun vs H Q=>∃ds,DenL B H ds vs∧KE B XX (bltD .len ds) H Q):=by
 intro pins s σ H vs us Q I r ⟨ds,dn,k⟩
 refine JIC pins s σ H vs us Q I r ?_
 match ds,dn,k with
 | [.list ys],dn,k =>
  simp only [DenL,Den] at dn
  obtain ⟨v,r',e,⟨a,xs,e1,q,l⟩,e2⟩:=dn
  subst e2;subst e;subst e1
  exact ⟨_,xs.length,rfl,.inl ⟨xs,g.K▸q,rfl⟩,by rw [←DenL.len ys xs l];exact KE.ok k (by simp only [Den])⟩
 | [.tuple ys],dn,k =>
  simp only [DenL,Den] at dn
  obtain ⟨v,r',e,⟨a,xs,e1,q,l⟩,e2⟩:=dn
  subst e2;subst e;subst e1
  exact ⟨_,xs.length,rfl,.inr ⟨xs,g.K▸q,rfl⟩,by rw [←DenL.len ys xs l];exact KE.ok k (by simp only [Den])⟩
 | [],_,k=>exact False.elim k
 | [.none],_,k=>exact False.elim k
 | [.bool _],_,k=>exact False.elim k
 | [.int _],_,k=>exact False.elim k
 | [.str _],_,k=>exact False.elim k
 | [.dict _],_,k=>exact False.elim k
 | d::_::_,_,k=>cases d<;>exact False.elim k
theorem JG5 (g:Gk X B C CX XX G):CallR X (.builtin "abs") (fun vs H Q=>∃ds,DenL B H ds vs∧KE B XX (bltD .abs ds) H Q):=by
 intro pins s σ H vs us Q I r ⟨ds,dn,k⟩
 refine JHn pins s σ H vs us Q I r ?_
 match ds,dn,k with
 | [.int i],dn,k =>
  simp only [DenL,Den] at dn
  obtain ⟨v,r',e,e1,e2⟩:=dn
  subst e2;subst e;subst e1
  exact ⟨i,rfl,KE.ok k (by simp only [Den])⟩
 | [],_,k=>exact False.elim k
 | [.none],_,k=>exact False.elim k
 | [.bool _],_,k=>exact False.elim k
 | [.list _],_,k=>exact False.elim k
 | [.tuple _],_,k=>exact False.elim k
 | [.str _],_,k=>exact False.elim k
 | [.dict _],_,k=>exact False.elim k
 | d::_::_,_,k=>cases d<;>exact False.elim k
theorem JIf (g:Gk X B C CX XX G) {bl:Blt} {id:String} {nm:Str} {e:Expr} {r:List Expr} (hc:CallR X (.builtin id) (fun vs H Q=>∃ds,DenL B H ds vs∧KE B XX (bltD bl ds) H Q)) (hv:bootBuiltins nm=some (.builtin id))
  (hg:Gl X nm) (hl:G.lookup nm=some (.blt bl)) (hb:JAH nm=false) (ha:PA X (e::r) (RA B C XX x))
  (he:starEach (e::r) X.env=(false,eval e X.env)::starEach r X.env) (hpl:(backTo pos (starEach (e::r) X.env)).any (·.1)=false):PE X (.Call (.Name nm p) (e::r) [] pos) (RE B C XX (.blt bl x)):=by
 refine PE.imp (JFS hc hg (g.blt nm bl hl) hv ha (JAF hb).2.2 (JAF hb).1 he ?_) ?_
 ·rw [he] at hpl
  exact hpl
 ·rintro σ H Q ⟨δ,ok,kk⟩
  simp only [ev] at kk
  refine RA.of (W:=fun r H=>KE B XX r H Q) ok (fun _ _ z=>z) (fun _ z=>z) kk fun ds vs H1 s1 d1 h1=>?_
  exact ⟨ds,d1,KE.mono g s1 h1⟩
theorem JLV (g:Gk X B C CX XX G) (ha:PE X a (RE B C XX x)) (he:∀whole,isTrue a X.env whole=(do let v←whole;standAt a.pos;holding [v] (truthy v))) (ht:∀δ,evT C x δ=(ev C x δ).bind truth):PT X a (RT B C XX x) :=
 PT.imp (JI4 ha he) fun σ H Q ⟨δ,ok,k⟩=>by
  rw [ht] at k
  refine RE.of (W:=fun r H=>KB XX r H Q) ok (fun _ _ z=>z) (fun _ z=>z) k fun d v H1 s1 d1 h1=>?_
  cases q:truth d with
  | ok t=>rw [q] at h1;exact ⟨t,truV g.K d1 q,h1 H1 s1⟩
  | exc c=>exact (JDf q).elim
  | bad=>rw [q] at h1;exact h1.elim
theorem JOE {t:TE} (op:CmpOp) (h:PT X (.Compare a [op] [b] pos) (JPH t)) (ht:∀σ H Q,RE B C XX x σ H Q→t σ H Q) (hb:∀δ,evT C x δ=(ev C x δ).bind truth) (hbool:∀δ d,ev C x δ=.ok d→∃k,d=.bool k):PT X (.Compare a [op] [b] pos) (RT B C XX x) :=
 PT.imp h fun σ H Q ⟨δ,ok,k⟩=>by
  refine ht σ H _ ⟨δ,ok,?_⟩
  rw [hb] at k
  cases q:ev C x δ with
  | ok d =>
   rw [q] at k
   obtain ⟨t',rfl⟩:=hbool δ d q
   intro v H1 s1 d1
   simp only [Den] at d1
   exact ⟨t',d1,k H1 s1⟩
  | exc c=>rw [q] at k;exact k
  | bad=>rw [q] at k;exact k.elim
theorem JH5 (g:Gk X B C CX XX G) (ha:PT X a (RT B C XX x)):PT X (.UnaryOp .Not a pos) (RT B C XX (.not x)) :=
 PT.imp (JNs ha) fun σ H Q ⟨δ,ok,k⟩=>by
  simp only [evT] at k
  exact RT.of (W:=fun r H=>KB XX r H Q) ok (fun _ _ z=>z) (fun _ z=>z) k fun t H1 s1 h1=>h1 H1 s1
theorem w_and (g:Gk X B C CX XX G) {rest:List Expr} (ha:PT X a (RT B C XX x)) (hb:PW X (.BoolOp .And (b::rest) pos) (RT B C XX y)):PW X (.BoolOp .And (a::b::rest) pos) (RT B C XX (.and x y)) :=
 fun wh pins s σ H Q I ⟨δ,ok,k⟩=>JOm ha hb wh pins s σ H Q I (by
  simp only [evT] at k
  refine RT.of (W:=fun r H=>KB XX r H Q) ok (fun _ _ z=>z) (fun _ z=>z) k fun t H1 s1 h1=>?_
  cases t with
  | true=>exact iteT ⟨δ,ok.mono s1,KB.mono g s1 h1⟩
  | false=>exact iteF (h1 H1 s1))
theorem w_or (g:Gk X B C CX XX G) {rest:List Expr} (ha:PT X a (RT B C XX x)) (hb:PW X (.BoolOp .Or (b::rest) pos) (RT B C XX y)):PW X (.BoolOp .Or (a::b::rest) pos) (RT B C XX (.or x y)) :=
 fun wh pins s σ H Q I ⟨δ,ok,k⟩=>pw_or ha hb wh pins s σ H Q I (by
  simp only [evT] at k
  refine RT.of (W:=fun r H=>KB XX r H Q) ok (fun _ _ z=>z) (fun _ z=>z) k fun t H1 s1 h1=>?_
  cases t with
  | true=>exact iteT (h1 H1 s1)
  | false=>exact iteF ⟨δ,ok.mono s1,KB.mono g s1 h1⟩)
end
theorem JC0 {prog:Program} {w:World} {A:Around} {R:Result→Shared→Prop} {s:Shared} {elt target iter:Expr} {ifs:List Expr} {scope:Scope} {pos:Pos} {it acc:Value} {env:PySem.Env} (I:Nat→Shared→Prop)
  (turn:∀n s,I n s→wpAny (model prog w) A (pyNext it) (fun r s₁=>match r with
    | none=>R (.ok .next) s₁
    | some v=>wpAny (model prog w) A (letOwnedTupleGo target it v) (fun _ s₁'=>wpAny (model prog w) A (assign target env v) (fun _ s₂ =>
     wpAny (model prog w) A (forIn ifs true fun c r=>if r=true then do let ok←isTrue c env (eval c env);pure (ForInStep.yield ok) else pure (ForInStep.yield r)) (fun ok s₃ =>
      if ok=true then wpAny (model prog w) A (eval elt env) (fun x s₄ =>
       wpAny (model prog w) A (call (.builtin "list.append") [acc,x]) (fun _ s₅=>∃m,m<n∧I m s₅) (notedBy (model prog w) A env fun e s'=>R (.error e) s') s₄) (notedBy (model prog w) A env fun e s'=>R (.error e) s') s₃
      else ∃m,m<n∧I m s₃) (notedBy (model prog w) A env fun e s'=>R (.error e) s') s₂) (notedBy (model prog w) A env fun e s'=>R (.error e) s') s₁') (notedBy (model prog w) A env fun e s'=>R (.error e) s') s₁) (notedBy (model prog w) A env fun e s'=>R (.error e) s') s)
  (n:Nat) (h:I n s) :
  codeAny (model prog w) A (.compLoop (.ListComp elt [⟨target,iter,ifs,0⟩] scope pos) 0 it acc env) R s:=by
 refine codeAny_loop rfl I (fun n s hI=>?_) n h
 show wpAny _ A ((compTurn (.ListComp elt [⟨target,iter,ifs,0⟩] scope pos) 0 it acc env).onRaise (fun x=>do noteFrame x env;theTreesLotGoes x)) _ _ s
 refine wpAny_noted ?_
 rw [compTurn_list]
 refine wpAny_bind (wpAny_standAt (wpAny_bind (wpAny_mono (turn n s hI) (fun r s₁ h₁=>?_) fun _ _ h'=>h')))
 cases r with
 | none=>exact wpAny_pure h₁
 | some v =>
  refine wpAny_bind (wpAny_mono h₁ (fun _ s₁' h₁'=>?_) fun _ _ h'=>h')
  refine wpAny_bind (wpAny_mono h₁' (fun _ s₂ h₂=>wpAny_bind (wpAny_mono h₂ (fun ok s₃ h₃=>?_) fun _ _ h'=>h')) fun _ _ h'=>h')
  cases ok with
  | false=>exact wpAny_pure ⟨rfl,h₃⟩
  | true =>
    exact wpAny_bind (wpAny_bind (wpAny_mono h₃ (fun x s₄ h₄=>wpAny_bind (wpAny_mono h₄ (fun _ s₅ h₅=>wpAny_pure (wpAny_pure ⟨rfl,h₅⟩)) fun _ _ h'=>h')) fun _ _ h'=>h'))
noncomputable def JAb (X:Cx) (sc:Scope) (Cc:Addr) (N':List Str) (fp:List Addr) (s:Shared) (H:Hp):Cx where
 prog:=X.prog
 w:=X.w
 K:=X.K
 mg:=X.mg
 base:=X.base
 A:=X.A
 N:=N'
 s₀:=s
 H₀:=H
 env:=compEnvC sc (JAi X.env.cells sc.names []) Cc X.env
 outer:=X.stack
 stack:=X.stack
 ex:=fp
 fn:=fun _=>false
 calm:=true
 pn:=[]
 xe:=fun _ _=>False
theorem JAT {X:Cx} {sc:Scope} {Cc:Addr} (hk:X.env.scope.kind=.function):(compEnvC sc (JAi X.env.cells sc.names []) Cc X.env).scope.names=JAq X.env.scope.names sc.names:=by
 show (sc.names.map fun (x:Str×NameKind)=>match x with | (n,k)=>if (k==NameKind.free&&X.env.scope.kind==ScopeKind.function&&X.env.kindOf n==some NameKind.cell)=true then (n,NameKind.cell) else (n,k))=_
 have:(X.env.scope.kind==ScopeKind.function)=true:=by rw [hk];rfl
 simp only [this]
 rfl
theorem JA5 {outer:List (Str×NameKind)}:∀ {names:List (Str×NameKind)} {x:Str},names.lookup x=some .local→(JAq outer names).lookup x=some .local
 | [],x,h=>by simp at h
 |(n,k)::r,x,h=>by
  unfold JAq
  rw [List.map_cons]
  rw [List.lookup_cons] at h
  cases q:x==n with
  | true =>
    rw [q] at h
    cases h
    show List.lookup x ((if (NameKind.local==NameKind.free&&true&&outer.lookup n==some NameKind.cell)=true then (n,NameKind.cell) else (n,NameKind.local))::_)=_
    rw [if_neg (by simp),List.lookup_cons,q]
  | false =>
    rw [q] at h
    have e:∀kk,List.lookup x ((n,kk)::JAq outer r)=List.lookup x (JAq outer r):=fun kk=>by rw [List.lookup_cons,q]
    show List.lookup x ((if (k==NameKind.free&&true&&outer.lookup n==some NameKind.cell)=true then (n,NameKind.cell) else (n,k))::JAq outer r)=_
    split
    ·rw [e];exact JA5 h
    ·rw [e];exact JA5 h
theorem JBQ {outer:List (Str×NameKind)}:∀ {names:List (Str×NameKind)} {x:Str},(∀y∈names,y.2≠.cell)→(JAq outer names).lookup x=some .cell∨(JAq outer names).lookup x=some .free→(x,NameKind.free)∈names
 | [],x,_,h=>by simp [JAq] at h
 |(n,k)::r,x,hc,h=>by
  have hc':∀y∈r,y.2≠.cell:=fun y hy=>hc y (List.mem_cons_of_mem _ hy)
  have hk:k≠.cell:=hc (n,k) List.mem_cons_self
  have e0:JAq outer ((n,k)::r)=(if (k==NameKind.free&&true&&outer.lookup n==some NameKind.cell)=true then (n,NameKind.cell) else (n,k))::JAq outer r:=rfl
  rw [e0] at h
  cases q:x==n with
  | true =>
    have e:x=n:=eq_of_beq q
    subst e
    by_cases hf:k=.free
    ·subst hf;exact List.mem_cons_self
    ·rw [if_neg (by simp [hf]),List.lookup_cons,q] at h
     rcases h with h | h
     ·exact absurd (Option.some.inj h) hk
     ·exact absurd (Option.some.inj h) hf
  | false =>
    have e:∀kk,List.lookup x ((n,kk)::JAq outer r)=List.lookup x (JAq outer r):=fun kk=>by rw [List.lookup_cons,q]
    have h':List.lookup x (JAq outer r)=some .cell∨List.lookup x (JAq outer r)=some .free:=by
     split at h
     ·rw [e] at h;exact h
     ·rw [e] at h;exact h
    exact List.mem_cons_of_mem _ (JBQ hc' h')
section
variable {X:Cx} {B:Bs} {C:Cn} {CX:CXT} {G:List (Str×GK)} {pins:List (Addr×Obj)} {σ:St} {H:Hp} {s:Shared} {sc:Scope} {fp:List Addr} {N':List Str} {Cc:Addr}
structure BlkOk (X:Cx) (sc:Scope) (xs:List Str):Prop where
 kind:sc.kind=.function
 nocell:∀y∈sc.names,y.2≠.cell
 loc:∀y∈sc.names,y.2=.local→sc.names.lookup y.1=some .local
 free:∀n,(n,NameKind.free)∈sc.names→X.env.kindOf n=some .cell∨X.env.kindOf n=some .free
 tg:∀x∈xs,sc.names.lookup x=some .local
 out:∀y∈X.N,y ∉ xs→sc.names.lookup y≠some .local
 dots:∀i,i<X.N.length→Vis (compEnvC sc (JAi X.env.cells sc.names []) 0 X.env).scope (dots i)→False
 nd:(xs++mask xs 0 X.N).Nodup
theorem vis_same {Cc C':Addr} {x:Str}:Vis (compEnvC sc (JAi X.env.cells sc.names []) Cc X.env).scope x↔Vis (compEnvC sc (JAi X.env.cells sc.names []) C' X.env).scope x:=Iff.rfl
theorem BlkOk.clos {xs:List Str} (b:BlkOk X sc xs) (ok:X.Ok):closureFor sc X.env=pure (JAi X.env.cells sc.names []) :=
 JB1 fun n hn=>by
  obtain ⟨c,hc⟩:=ok.has n (b.free n hn)
  rw [hc];rfl
theorem JBK {xs:List Str} (b:BlkOk X sc xs) (ok:X.Ok) {x:Str} {c:Addr}:(JAi X.env.cells sc.names []).lookup x=some c↔(x,NameKind.free)∈sc.names∧X.env.cells.lookup x=some c:=by
 rw [JBL]
 by_cases h:(x,NameKind.free)∈sc.names
 ·rw [if_pos h]
  obtain ⟨d,hd⟩:=ok.has x (b.free x h)
  rw [hd]
  simp [h]
 ·rw [if_neg h]
  simp [h]
theorem JKw {xs:List Str} (b:BlkOk X sc xs) (hcalm:X.calm=true) (I:Inv X pins σ H s) (hf:∀b∈fp,FpOk X pins H b) (hlt:∀b∈fp,b<s.heap.objs.size) (hC:s.heap.objs.size≤Cc):(JAb X sc Cc N' fp s H).Ok where
 mod:=I.mod
 kind:=b.kind
 glob:=I.ok.glob
 blt:=I.ok.blt
 above:=hC
 inj:=fun x y c h1 h2=>I.ok.inj x y c ((JBK b I.ok).mp h1).2 ((JBK b I.ok).mp h2).2
 has:=fun x h=>by
  have e:=JAT (X:=X) (sc:=sc) (Cc:=Cc) I.ok.kind
  have h':(JAq X.env.scope.names sc.names).lookup x=some .cell∨(JAq X.env.scope.names sc.names).lookup x=some .free:=by
   rw [←e];exact h
  have hm:=JBQ b.nocell h'
  obtain ⟨c,hc⟩:=I.ok.has x (b.free x hm)
  exact ⟨c,(JBK b I.ok).mpr ⟨hm,hc⟩⟩
 cab:=fun _ _ z=>by cases z
 hd:=fun _=>I.ok.hd hcalm
 frames:=I.ok.frames
 stk:=.inl rfl
 exf:=fun a ha=>⟨Nat.ne_of_lt (Nat.lt_of_lt_of_le (hlt a ha) hC),fun x c e=>(hf a ha).2.2.2.2.1 x c ((JBK b I.ok).mp e).2⟩
 bs:=I.bs
 bsz:=Nat.le_trans I.ok.bsz I.sz
 noex:=fun a o e ha=>by
  rcases (hf a ha).2.2.2.1 with z | z
  ·exact I.ok.noex a o e z
  ·exact absurd (Nat.lt_of_lt_of_le (Heap.lt_size e) (Nat.le_trans I.ok.bsz z)) (Nat.lt_irrefl _)
 exfs:=fun a ha hm=>by
  rcases List.mem_cons.mp (I.stkSub a hm) with z | z
  ·exact (hf a ha).2.1 z
  ·exact (hf a ha).2.2.1 z
 funs:=I.stack
 frf:=I.stkFree
theorem JFE {xs:List Str}:∀(N:List Str) (i j:Nat) (y:Str),(mask xs i N)[j]? = some y→∃z,N[j]? = some z∧((z ∉ xs∧y=z)∨(z∈xs∧y=dots (i+j)))
 | [],_,_,_,h=>by simp [mask] at h
 | z::r,i,0,y,h=>by
  unfold mask at h
  simp only [List.getElem?_cons_zero,Option.some.injEq] at h
  refine ⟨z,rfl,?_⟩
  split at h
  ·rename_i hc;exact .inr ⟨by simpa using hc,h.symm⟩
  ·rename_i hc;exact .inl ⟨by simpa using hc,h.symm⟩
 | z::r,i,j+1,y,h=>by
  unfold mask at h
  simp only [List.getElem?_cons_succ] at h
  obtain ⟨w,e,q⟩:=JFE r (i+1) j y h
  refine ⟨w,by simpa using e,?_⟩
  rw [show i+(j+1)=i+1+j by omega]
  exact q
theorem JFU {xs:List Str}:∀(N:List Str) (i:Nat),(mask xs i N).length=N.length
 | [],_=>rfl
 | _::r,i=>by simp only [mask,List.length_cons,JFU r]
theorem JFo {xs:List Str} (b:BlkOk X sc xs) (hcalm:X.calm=true) (I:Inv X pins σ H s) (hf:∀b∈fp,FpOk X pins H b) (hlt:∀b∈fp,b<s.heap.objs.size) (hC:s.heap.objs.size≤Cc)
  {h':Heap} {t':Nat} {m:Str→Option Value} (k:∀b o,s.heap.get? b=some o→h'.get? b=some o) (hn:h'.Ns Cc m) :
  Inv (JAb X sc Cc (xs++mask xs 0 X.N) fp s H) [] (xs.map (fun _=>none)++σ) H { s with heap:=h',toks:=t' } where
 ok:=JKw b hcalm I hf hlt hC
 os:=rfl
 bare:=I.bare
 base:=Un.kept k
 loc:=by
  refine ⟨m,hn,fun i y v e1 e2 e3=>?_⟩
  by_cases hi:i<xs.length
  ·rw [List.getElem?_append_left (by simpa using hi)] at e2
   simp [hi] at e2
  ·have hi':xs.length≤i:=by omega
   rw [List.getElem?_append_right (by simpa using hi')] at e2
   simp only [List.length_map] at e2
   have e1':(mask xs 0 X.N)[i - xs.length]? = some y:=by
    have:(xs++mask xs 0 X.N)[i]? = some y:=e1
    rwa [List.getElem?_append_right hi'] at this
   obtain ⟨z,ez,q⟩:=JFE X.N 0 _ y e1'
   rcases q with ⟨hz,rfl⟩ | ⟨hz,rfl⟩
   ·have e3':Vis (compEnvC sc (JAi X.env.cells sc.names []) Cc X.env).scope y:=e3
    have hfree:(y,NameKind.free)∈sc.names:=by
     have en:=JAT (X:=X) (sc:=sc) (Cc:=Cc) I.ok.kind
     unfold Vis at e3'
     rw [en] at e3'
     rcases e3' with e | e | e
     ·exfalso
      refine b.out y (List.mem_of_getElem? ez) hz ?_
      have:∀(names:List (Str×NameKind)),(JAq X.env.scope.names names).lookup y=some .local→names.lookup y=some .local:=by
       intro names
       induction names with
       | nil=>intro h;simp [JAq] at h
       | cons p r ih =>
        obtain ⟨n,kk⟩:=p
        intro h
        have e0:JAq X.env.scope.names ((n,kk)::r)=(if (kk==NameKind.free&&true&&X.env.scope.names.lookup n==some NameKind.cell)=true then (n,NameKind.cell) else (n,kk))::JAq X.env.scope.names r:=rfl
        rw [e0] at h
        rw [List.lookup_cons]
        split at h
        ·rw [List.lookup_cons] at h
         cases q:y==n with
         | true=>rw [q] at h;cases h
         | false=>rw [q] at h;exact ih h
        ·rw [List.lookup_cons] at h
         cases q:y==n with
         | true=>rw [q] at h;exact h
         | false=>rw [q] at h;exact ih h
      exact this sc.names e
     ·exact JBQ b.nocell (.inl e)
     ·exact JBQ b.nocell (.inr e)
    have hvis:Vis X.env.scope y:=by
     rcases b.free y hfree with e | e
     ·exact .inr (.inl e)
     ·exact .inr (.inr e)
    obtain ⟨mm,hmm,hl⟩:=I.loc
    obtain ⟨u,r,l⟩:=hl (i - xs.length) y v ez e2 hvis
    refine ⟨u,r,.inr ⟨?_,?_⟩⟩
    ·have en:=JAT (X:=X) (sc:=sc) (Cc:=Cc) I.ok.kind
     rcases e3' with e | e | e
     ·exfalso
      have e':(JAq X.env.scope.names sc.names).lookup y=some .local:=by rw [←en];exact e
      have hh:=JBQ (outer:=X.env.scope.names) (names:=sc.names) (x:=y) b.nocell
      have:∀(names:List (Str×NameKind)),(JAq X.env.scope.names names).lookup y=some .local→names.lookup y=some .local:=by
       intro names
       induction names with
       | nil=>intro h;simp [JAq] at h
       | cons p r ih =>
        obtain ⟨n,kk⟩:=p
        intro h
        have e0:JAq X.env.scope.names ((n,kk)::r)=(if (kk==NameKind.free&&true&&X.env.scope.names.lookup n==some NameKind.cell)=true then (n,NameKind.cell) else (n,kk))::JAq X.env.scope.names r:=rfl
        rw [e0] at h
        rw [List.lookup_cons]
        split at h
        ·rw [List.lookup_cons] at h
         cases q:y==n with
         | true=>rw [q] at h;cases h
         | false=>rw [q] at h;exact ih h
        ·rw [List.lookup_cons] at h
         cases q:y==n with
         | true=>rw [q] at h;exact h
         | false=>rw [q] at h;exact ih h
      exact b.out y (List.mem_of_getElem? ez) hz (this sc.names e')
     ·exact .inl e
     ·exact .inr e
    ·rcases l with ⟨hk,_⟩ | ⟨_,c,hc,hcell⟩
     ·exfalso
      rcases b.free y hfree with e | e
      ·rw [e] at hk;cases hk
      ·rw [e] at hk;cases hk
     ·refine ⟨c,(JBK b I.ok).mpr ⟨hfree,hc⟩,?_⟩
      obtain ⟨o,ho,hd⟩:=hcell
      exact ⟨o,k _ _ ho,hd⟩
   ·exfalso
    have hlt':i - xs.length<X.N.length:=(List.getElem?_eq_some_iff.mp ez).1
    have:dots (0+(i - xs.length))=dots (i - xs.length):=by rw [Nat.zero_add]
    exact b.dots (i - xs.length) hlt' (by rw [←this];exact vis_same.mp e3)
 cell:=fun x c e=>by
  obtain ⟨v,o,ho,hd⟩:=I.cell x c ((JBK b I.ok).mp e).2
  exact ⟨v,o,k _ _ ho,hd⟩
 free:=I.hok.fresh hC
 freeC:=fun x c e=>I.freeC x c ((JBK b I.ok).mp e).2
 pin:=fun p hp=>absurd (show p∈([]:List (Addr×Obj)) from hp) (by simp)
 hok:=I.hok.kept k
 len:=by
  show (xs.map (fun _=>(none:Option V))++σ).length=(xs++mask xs 0 X.N).length
  rw [List.length_append,List.length_append,List.length_map,JFU,I.len]
end
section
variable {X:Cx} {B:Bs} {C:Cn} {CX:CXT} {XX:Nat→Hp→Prop} {G:List (Str×GK)} {pins:List (Addr×Obj)} {σ:St} {H:Hp} {s:Shared} {sc:Scope} {N':List Str} {Cc:Addr}
abbrev noE:Value→Shared→Prop:=fun _ _=>False
noncomputable def JBf (X':Cx) (B:Bs) (σ:St) (n:Nat) (δ:Env) (target elt:Expr) (ifs:List Expr) (F:D→R (Option D)):Prop :=
 ∀(pins:List (Addr×Obj)) (s:Shared) (pre:St) (H:Hp) (d:D) (o:Option D) (v:V) (u:Value),pre.length=n→F d=.ok o→Inv X' pins (pre++σ) H s→RelV v u→Den B H d v→Sok B σ H δ →
  wpAny (model X'.prog X'.w) X'.A (assign target X'.env u) (fun _ s₂ =>
   wpAny (model X'.prog X'.w) X'.A (forIn ifs true fun c r=>if r=true then do let ok←isTrue c X'.env (eval c X'.env);pure (ForInStep.yield ok) else pure (ForInStep.yield r)) (fun ok s₃ =>
    if ok=true then ∃y,o=some y∧wpAny (model X'.prog X'.w) X'.A (eval elt X'.env) (fun x s₄=>∃pre' H' w,pre'.length=n∧Inv X' pins (pre'++σ) H' s₄∧Same H H'∧RelV w x∧Den B H' y w) noE s₃
    else o=none∧∃pre' H',pre'.length=n∧Inv X' pins (pre'++σ) H' s₃∧Same H H') noE s₂) noE s
theorem JCc {α:Type} {l:List α} {j:Nat} (h:j<l.length):l.drop j=l[j]::l.drop (j+1):=List.drop_eq_getElem_cons h
theorem JHR [Cool G] {elt iter target:Expr} {ifs:List Expr} {pos pos':Pos} {i:E} {δ:Env} {xs:List Str} {ds zs:List D} {F:D→R (Option D)} {use:Option (Value→Sem Unit)} {Q:Value→Shared→Prop}
  (g:Gk X B C CX XX G) (b:BlkOk X sc xs) (hi:PI X target iter (RI B C XX i)) (hs:∀x,foldedSetIterable iter X.env x=pure x)
  (hrun:∀Cc fp s0 H0,JBf (JAb X sc Cc (xs++mask xs 0 X.N) fp s0 H0) B σ xs.length δ target elt ifs F)
  (I:Inv X pins σ H s) (ok:Sok B σ H δ) (hds:evI C i δ=.ok ds) (hlen:ds.length≤16777216) (hz:JAr F ds=.ok zs)
  (fin:∀(D Cc:Addr) (s':Shared) (m:Str→Option Value) (H3:Hp) (yv:List V),s'.heap.Ns Cc m→Inv X pins σ (upd H3 D (.lst yv)) s'→Same H H3→H3 D=none→DenL B H3 zs yv→(upd H3 D (.lst yv)) Cc=none→Cc≠X.env.locals→X.s₀.heap.objs.size≤Cc →
    (∀x c,X.env.cells.lookup x=some c→c≠Cc)→(∀p∈X.pn++pins,p.1≠Cc)→compPost (model X.prog X.w) X.A X.xe use Q (.ref D) Cc (.ok .next) s') :
  wpAny (model X.prog X.w) X.A (comprehension (.ListComp elt [⟨target,iter,ifs,0⟩] sc pos) sc X.env pos' (newList []) false (eval iter X.env) use) Q X.xe s:=by
 refine wpAny_comprehension_free rfl hs (b.clos I.ok) b.kind b.loc (wpAny_mono (hi pins s σ H (fun J H1=>Same H H1∧ItOk B J H1 ds) I ⟨δ,ok,?_⟩) (fun xv s₁ h₁=>wpAny_mono h₁ (fun itv s₂ h₂=>?_) (fun _ _ e=>e)) (fun _ _ e=>e))
 ·rw [hds];exact fun J H' s' io=>⟨s',io⟩
 obtain ⟨it,fp,tn,J,H2,e,I2,T,st2,f2,sm2,io⟩:=h₂
 subst e
 have hlt:∀b∈fp,b<s₂.heap.objs.size:=fun b hb=>by
  obtain ⟨o,ho,_⟩:=T.obj 0 _ st2 b hb
  exact Heap.lt_size ho
 refine wpAny_newObj_type (wpAny_newFunctionEnv b.nocell (by intro y hy;simp at hy) (fun h₁ hns₁ hsb₁=>?_) b.kind)
 dsimp only at hns₁ hsb₁ ⊢
 generalize hH2:s₂.heap.push { cls:=.type "list",dict:=none,data:=.seq ([]:List Value).toArray }=P2 at hns₁ hsb₁ ⊢
 have hC:P2.objs.size=s₂.heap.objs.size+1:=by rw [←hH2,Heap.size_push]
 have hCle:s₂.heap.objs.size≤P2.objs.size:=by rw [hC];exact Nat.le_succ _
 have hDC:s₂.heap.objs.size≠P2.objs.size:=by rw [hC];exact Nat.ne_of_lt (Nat.lt_succ_self _)
 have below:∀b,b<s₂.heap.objs.size→b≠P2.objs.size:=fun b hb=>by rw [hC];exact Nat.ne_of_lt (Nat.lt_succ_of_lt hb)
 have old:∀b o,s₂.heap.get? b=some o→h₁.get? b=some o:=fun b o e=>hsb₁.extBut b o (below b (Heap.lt_size e)) (Heap.get?_push_of_some _ (hH2▸Heap.get?_push_of_some _ e))
 have hacc:h₁.get? s₂.heap.objs.size=some { cls:=.type "list",dict:=none,data:=.seq ([]:List Value).toArray }:=hsb₁.extBut _ _ hDC (Heap.get?_push_of_some _ (hH2▸Heap.get?_push_size _ rfl))
 have I4:=JFo (fp:=fp) (t':=s₂.toks+([]:List (Str×Value)).length) b (g.calm inferInstance) I2 f2 hlt hCle old hns₁
 have st4:tn 0 h₁:=T.keep _ _ _ st2 fun b _ o e=>old b o e
 have hH2D:H2 s₂.heap.objs.size=none:=I2.hok.fresh (Nat.le_refl _)
 have fpX:∀ {ps:List (Addr×Obj)} {H':Hp},(∀b∈fp,H' b=none)→(∀p∈ps,p.1=s₂.heap.objs.size)→∀b∈fp,FpOk (JAb X sc P2.objs.size (xs++mask xs 0 X.N) fp s₂ H2) ps H' b:=fun {ps H'} hn hp a ha=>by
  refine ⟨hn a ha,below a (hlt a ha),I4.ok.exfs a ha,.inl ha,fun x c e=>(I4.ok.exf a ha).2 x c e,fun p hpp=>?_⟩
  have hpp':p∈ps:=hpp
  rw [hp p hpp']
  exact Nat.ne_of_gt (hlt a ha)
 have loop:∀s₃:Shared,s₃={ s₂ with heap:=h₁,toks:=s₂.toks+([]:List (Str×Value)).length } →
    codeAny (model X.prog X.w) X.A (.compLoop (.ListComp elt [⟨target,iter,ifs,0⟩] sc pos) 0 (.ref it) (.ref s₂.heap.objs.size) (JAb X sc P2.objs.size (xs++mask xs 0 X.N) fp s₂ H2).env)
      (compPost (model X.prog X.w) X.A X.xe use Q (.ref s₂.heap.objs.size) P2.objs.size) s₃:=by
  rintro s₃ rfl
  refine JC0 (fun n s'=>∃(j:Nat) (pre:St) (H':Hp) (ys:List D) (yv:List V) (its:List Value) (ep:Nat) (rest:List D),n=ds.length - j∧j≤ds.length∧pre.length=xs.length ∧
    Inv (JAb X sc P2.objs.size (xs++mask xs 0 X.N) fp s₂ H2) [] (pre++σ) H' s'∧tn j s'.heap∧(∀b∈fp,H' b=none)∧Same H2 H'∧H' s₂.heap.objs.size=none ∧
    s'.heap.get? s₂.heap.objs.size=some { cls:=.type "list",data:=.seq its.toArray ep }∧Vals yv its∧DenL B H' ys yv∧ys.length≤j∧JAr F (ds.drop j)=.ok rest∧zs=ys++rest) ?_ ds.length
    ⟨0,xs.map (fun _=>none),H2,[],[],[],0,zs,by simp,Nat.zero_le _,by simp,I4,st4,fun b hb=>(f2 b hb).1,Same.refl _,hH2D,hacc,.nil,by simp only [DenL],Nat.le_refl _,by simpa using hz,rfl⟩
  rintro n s3 ⟨j,pre,H3,ys,yv,its,ep,rest,hn,hj,hpl,I3,st3,fr3,sm3,hD3,ho3,rv3,dn3,hyl,hr3,hzs⟩
  subst hn
  have I3p:Inv (JAb X sc P2.objs.size (xs++mask xs 0 X.N) fp s₂ H2) [(s₂.heap.objs.size,{ cls:=.type "list",data:=.seq its.toArray ep })] (pre++σ) H3 s3:=I3.pins_of fun p hp=>by
    have e:p=(s₂.heap.objs.size,{ cls:=.type "list",data:=.seq its.toArray ep }):=by simpa using hp
    subst e
    refine ⟨ho3,hD3,hDC,fun hm=>?_,fun v z=>?_⟩
    · obtain ⟨_,o,ho,_⟩:=I4.ok.funs.mem hm
      exact absurd (Heap.lt_size ho) (Nat.lt_irrefl _)
    · have z':Data.seq its.toArray ep=Data.cell v:=z
      cases z'
  have sameE:∀(e:Value) (s':Shared),noE e s'→notedBy (model X.prog X.w) X.A (JAb X sc P2.objs.size (xs++mask xs 0 X.N) fp s₂ H2).env (fun e s'=>compPost (model X.prog X.w) X.A X.xe use Q (.ref s₂.heap.objs.size) P2.objs.size (.error e) s') e s':=fun _ _ z=>z.elim
  by_cases hlt3:j<ds.length
  ·
    have hd:ds[j]? = some ds[j]:=by simp [hlt3]
    obtain ⟨go,yl⟩:=(io H3 sm3 j).1 ds[j] hd
    refine wpAny_mono (T.item (JAb X sc P2.objs.size (xs++mask xs 0 X.N) fp s₂ H2) rfl rfl rfl rfl j [(s₂.heap.objs.size,{ cls:=.type "list",data:=.seq its.toArray ep })] s3 (pre++σ) H3 noE I3p (fpX fr3 (fun p hp=>by rw [List.mem_singleton.mp hp])) st3 go) (fun r s4 h4=>?_) sameE
    obtain ⟨u,hu,h4⟩:=h4
    subst hu
    show wpAny _ _ (letOwnedTupleGo target (.ref it) u) _ _ s4
    refine wpAny_mono h4 (fun _ s5 h5=>?_) sameE
    obtain ⟨v,H5,I5,r5,y5,st5,fr5⟩:=h5
    obtain ⟨s35,d5⟩:Same H3 H5∧Den B H5 ds[j] v:=by
      rcases yl v H5 y5 with ⟨e5,d5⟩ | ⟨p,ws,es,hp,e5,ex,ed,dl⟩
      · subst e5;exact ⟨Same.refl _,Den.mono sm3 _ _ d5⟩
      · subst e5;subst ex
        have s35:Same H3 (upd H3 p (.tup ws)):=JBA hp
        refine ⟨s35,?_⟩
        rw [ed]
        simp only [Den]
        exact ⟨p,ws,rfl,SqT.of JAM,DenL.mono (sm3.trans s35) _ _ dl⟩
    replace sm3:=sm3.trans s35
    replace dn3:=DenL.mono s35 ys yv dn3
    have I5p:=I5.pinned (fpX fr5 (fun p hp=>by rw [List.mem_singleton.mp hp])) (T.obj _ _ st5)
    rw [JCc hlt3] at hr3
    unfold JAr at hr3
    have okσ:Sok B σ H5 δ:=(ok.mono sm2).mono sm3
    cases qF:F ds[j] with
    | exc c=>rw [qF] at hr3;cases hr3
    | bad=>rw [qF] at hr3;cases hr3
    | ok o =>
      have hstep:=hrun P2.objs.size fp s₂ H2 _ s5 pre H5 ds[j] o v u hpl qF I5p r5 d5 okσ
      refine wpAny_mono hstep (fun _ s6 h6=>wpAny_mono h6 (fun okb s7 h7=>?_) sameE) sameE
      have back:∀ {σ':St} {H':Hp} {s':Shared},Inv (JAb X sc P2.objs.size (xs++mask xs 0 X.N) fp s₂ H2) ([(s₂.heap.objs.size,{ cls:=.type "list",data:=.seq its.toArray ep })]++JB0 fp s5.heap) σ' H' s' →
         s'.heap.get? s₂.heap.objs.size=some { cls:=.type "list",data:=.seq its.toArray ep }∧H' s₂.heap.objs.size=none∧tn (j+1) s'.heap∧(∀b∈fp,H' b=none):=fun {σ' H' s'} J'=>by
        have p0:=J'.pin (s₂.heap.objs.size,{ cls:=.type "list",data:=.seq its.toArray ep }) (List.mem_append_right _ (List.mem_append_left _ (by simp)))
        refine ⟨p0.1,p0.2.1,T.keep _ _ _ st5 fun a ha o e=>(J'.pin (a,o) (List.mem_append_right _ (List.mem_append_right _ (JA3 ha e)))).1,fun a ha=>?_⟩
        obtain ⟨o,e,_⟩:=T.obj _ _ st5 a ha
        exact (J'.pin (a,o) (List.mem_append_right _ (List.mem_append_right _ (JA3 ha e)))).2.1
      cases okb with
      | false =>
        obtain ⟨eo,pre',H',hp',I',sm'⟩:=h7
        subst eo
        rw [qF] at hr3
        obtain ⟨b1,b2,b3,b4⟩:=back I'
        rw [if_neg Bool.false_ne_true]
        refine ⟨ds.length - (j+1),by omega,j+1,pre',H',ys,yv,its,ep,rest,rfl,hlt3,hp',I'.pins_of (fun p hp=>absurd hp (by simp)),b3,b4,sm3.trans sm',b2,b1,rv3,DenL.mono sm' ys yv dn3,by omega,hr3,hzs⟩
      | true =>
        rw [if_pos rfl] at h7 ⊢
        obtain ⟨y,eo,h7⟩:=h7
        subst eo
        rw [qF] at hr3
        cases qr:JAr F (ds.drop (j+1)) with
        | exc c=>simp only [qr] at hr3;cases hr3
        | bad=>simp only [qr] at hr3;cases hr3
        | ok rs =>
         simp only [qr] at hr3
         have hr3':y::rs=rest:=by injection hr3
         refine wpAny_mono h7 (fun x s8 h8=>?_) sameE
         obtain ⟨pre',H',w',hp',I',sm',rw8,d8⟩:=h8
         obtain ⟨b1,b2,b3,b4⟩:=back I'
         have hsz:its.length≤j:=by rw [←rv3.length,←DenL.len ys yv dn3];exact hyl
         have hlim:its.toArray.size<sizeLine:=by rw [List.size_toArray,sizeLine_eq];omega
         refine call_meets PySem.F.slot_list_append ⟨_,b1,rfl⟩ PySem.F.entry_list_append (PySem.F.args_list_append_2 _ _) (PySem.list_append s₂.heap.objs.size its.toArray ep x (by omega)) ⟨b1,?_⟩
         have q8:=PySem.IsL.update b1 (fun a=>a.push x)
         have q8':(s8.heap.update s₂.heap.objs.size (Obj.mapSeq (fun a=>a.push x))).get? s₂.heap.objs.size=some { cls:=.type "list",data:=.seq (its++[x]).toArray (if (its.toArray.push x).size==its.toArray.size then ep else ep+1) }:=by simpa using q8
         have I0:Inv (JAb X sc P2.objs.size (xs++mask xs 0 X.N) fp s₂ H2) [] (pre'++σ) H' s8:=I'.pins_of (fun p hp=>absurd hp (by simp))
         have I9:=I0.turned (h':=s8.heap.update s₂.heap.objs.size (Obj.mapSeq (fun a=>a.push x))) (t':=s8.toks) (it:=s₂.heap.objs.size) (fun b o hb e=>(Heap.get?_update_other _ _ (Ne.symm hb)).trans e) b2 hDC (.inr (Nat.le_refl _))
          (fun x c e z=>by
            obtain ⟨v',o',ho',_⟩:=I2.cell x c ((JBK b I.ok).mp e).2
            rw [z] at ho'
            exact absurd (Heap.lt_size ho') (Nat.lt_irrefl _)) (fun p hp=>absurd (show p∈([]:List (Addr×Obj)) from hp) (by simp))
         refine ⟨ds.length - (j+1),by omega,j+1,pre',H',ys++[y],yv++[w'],its++[x],_,rs,rfl,hlt3,hp',I9,T.keep _ _ _ b3 fun a ha o e=>(Heap.get?_update_other _ _ (Nat.ne_of_gt (hlt a ha))).trans e,b4,sm3.trans sm',b2,q8',rv3.append (.cons rw8 .nil),
          DenL.append ys [y] yv [w'] (DenL.mono sm' ys yv dn3) (by simp only [DenL];exact ⟨w',[],rfl,d8,rfl⟩),by rw [List.length_append,List.length_singleton];omega,qr,by rw [hzs,←hr3'];simp⟩
  ·
    have ej:j=ds.length:=by omega
    have stop:=(io H3 sm3 j).2 (by omega)
    refine wpAny_mono (T.done (JAb X sc P2.objs.size (xs++mask xs 0 X.N) fp s₂ H2) rfl rfl rfl rfl j [(s₂.heap.objs.size,{ cls:=.type "list",data:=.seq its.toArray ep })] s3 (pre++σ) H3 noE I3p (fpX fr3 (fun p hp=>by rw [List.mem_singleton.mp hp])) st3 stop) (fun r s4 h4=>?_) sameE
    obtain ⟨hr,I5⟩:=h4
    subst hr
    show compPost _ _ _ _ _ _ _ _ s4
    have p0:=I5.pin (s₂.heap.objs.size,{ cls:=.type "list",data:=.seq its.toArray ep }) (List.mem_append_right _ (by simp))
    have hrest:rest=[]:=by
      rw [ej,List.drop_length] at hr3
      unfold JAr at hr3
      injection hr3 with hr3
      exact hr3.symm
    have u0:Un (frs X.stack) fp H2 H3 s₂.heap s4.heap:=I5.base
    have neD:∀b o,s₂.heap.get? b=some o→b≠s₂.heap.objs.size:=fun b o e=>Nat.ne_of_lt (Heap.lt_size e)
    have nD:∀b o,H3 b=some o→b≠s₂.heap.objs.size:=fun b o e z=>by rw [z,hD3] at e;cases e
    have u1:Un (frs X.stack) fp H2 (upd H3 s₂.heap.objs.size (.lst yv)) s₂.heap s4.heap :=
      ⟨u0.keep,u0.slot,fun b o e n hx=>by rw [JAL (neD b o e)];exact u0.free b o e n hx,u0.there,fun b xs' e=>by rw [JAL (nD b _ (u0.tups b xs' e))];exact u0.tups b xs' e,
        fun b o u e=>by rw [JAL (nD b _ (u0.frzs b o u e))];exact u0.frzs b o u e,fun b ps e=>by
         obtain ⟨more,q⟩:=u0.tbls b ps e
         exact ⟨more,by rw [JAL (nD b _ q)];exact q⟩⟩
    have hvl:yv.length≤sizeLine:=by rw [←DenL.len ys yv dn3,sizeLine_eq];omega
    have hok1:HOk X.prog X.w (upd H3 s₂.heap.objs.size (.lst yv)) s4.heap:=fun a u e=>by
      by_cases ha:a=s₂.heap.objs.size
      · subst ha
        rw [JAM] at e;cases e
        exact ⟨hvl,its,ep,rv3,p0.1⟩
      · rw [JAL ha] at e
        exact (I5.hok a u e).stay (fun c w' _ q=>q) (fun c q=>by rw [JAL (nD c _ q)];exact q) fun c xs' q=>by rw [JAL (nD c _ q)];exact q
    have J:=I2.call' (s':=s4) I5.os u1 hok1 I5.bare fun a ha=>⟨(f2 a ha).2.2.2.1,(f2 a ha).2.1,(f2 a ha).2.2.2.2.1,(f2 a ha).2.2.2.2.2⟩
    obtain ⟨m4,hn4,_⟩:=I5.loc
    refine fin s₂.heap.objs.size P2.objs.size s4 m4 H3 yv hn4 J (sm2.trans sm3) hD3 ?_ ?_ ?_ ?_ ?_ ?_
    · rw [hzs,hrest,List.append_nil]
      exact dn3
    · rw [JAL (Ne.symm hDC)];exact I5.free
    · exact Nat.ne_of_gt (Nat.lt_of_lt_of_le I2.lt hCle)
    · exact Nat.le_trans I2.sz hCle
    · intro x c e z
      obtain ⟨v',o',ho',_⟩:=I2.cell x c e
      rw [z] at ho'
      exact absurd (Nat.lt_of_lt_of_le (Heap.lt_size ho') hCle) (Nat.lt_irrefl _)
    · intro p hp z
      exact absurd (Nat.lt_of_lt_of_le (Heap.lt_size (I2.pin p hp).1) (by rw [z];exact hCle)) (Nat.lt_irrefl _)
 exact codeAny_compStart_list (loop _ rfl) (T.self _ _ _ _ _ st4 (loop _ rfl))
end
theorem JHg {B:Bs} {H:Hp} {a:Addr} {ds:List D} {xs:List V} (q:SqL B.K H a xs) (l:DenL B H ds xs):ItOk B (Itl B.K a) H ds:=by
 intro H2 s2 i
 have q2:=s2.seq q
 refine ⟨fun d e=>?_,fun h=>⟨xs,q2,by rw [←DenL.len ds xs l];exact h⟩⟩
 obtain ⟨v,e1,dn⟩:=DenL.get ds xs i d l e
 refine ⟨⟨xs,v,q2,e1⟩,fun x H3 y=>?_⟩
 obtain ⟨e3,y⟩:=y
 have:=y xs q2
 rw [e1] at this
 cases this
 exact .inl ⟨e3,dn⟩
theorem JIo {B:Bs} {H:Hp} {a:Addr} {ds:List D} {xs:List V} (q:SqT B.K H a xs) (l:DenL B H ds xs):ItOk B (Itt B.K a) H ds:=by
 intro H2 s2 i
 have q2:=JIN s2 q
 refine ⟨fun d e=>?_,fun h=>⟨xs,q2,by rw [←DenL.len ds xs l];exact h⟩⟩
 obtain ⟨v,e1,dn⟩:=DenL.get ds xs i d l e
 refine ⟨⟨xs,v,q2,e1⟩,fun x H3 y=>?_⟩
 obtain ⟨e3,y⟩:=y
 have:=y xs q2
 rw [e1] at this
 cases this
 exact .inl ⟨e3,dn⟩
theorem JFX {B:Bs} {H:Hp} {lo hi:Int}:ItOk B (Itr lo (hi - lo).toNat) H (JEM lo hi):=by
 intro H2 s2 i
 unfold JEM
 refine ⟨fun d e=>?_,fun h=>show (hi - lo).toNat≤i by simpa using h⟩
 rw [List.getElem?_map] at e
 by_cases hi':i<(hi - lo).toNat
 ·rw [List.getElem?_range hi'] at e
  simp only [Option.map_some,Option.some.injEq] at e
  refine ⟨hi',fun x H3 y=>?_⟩
  obtain ⟨e3,y⟩:=y
  refine .inl ⟨e3,?_⟩
  rw [←e,y]
  simp only [Den]
 ·rw [List.getElem?_eq_none_iff.mpr (by simpa using hi')] at e
  cases e
section
variable {X:Cx} {B:Bs} {C:Cn} {CX:CXT} {XX:Nat→Hp→Prop} {G:List (Str×GK)} {a b c tg:Expr} {x y z:E} {pos p:Pos}
theorem JEn (g:Gk X B C CX XX G) (ha:PE X a (RE B C XX x)) (hi:∀δ,evI C x δ=(ev C x δ).bind JAk):PI X tg a (RI B C XX x):=by
 intro pins s σ H R I ⟨δ,ok,k⟩
 rw [hi] at k
 cases q:ev C x δ with
 | ok d =>
  rw [q] at k
  cases d with
  | list ds =>
   refine JG2 ha pins s σ H R I ⟨δ,ok,?_⟩
   rw [q]
   intro v H1 s1 d1
   simp only [Den] at d1
   obtain ⟨p,xs,e,hq,l⟩:=d1
   refine ⟨p,e,⟨xs,g.K▸hq⟩,?_⟩
   rw [g.K]
   exact k _ H1 s1 (JHg hq l)
  | tuple ds =>
   refine JPQ ha pins s σ H R I ⟨δ,ok,?_⟩
   rw [q]
   intro v H1 s1 d1
   simp only [Den] at d1
   obtain ⟨p,xs,e,hq,l⟩:=d1
   refine ⟨p,e,⟨xs,g.K▸hq⟩,?_⟩
   rw [g.K]
   exact k _ H1 s1 (JIo hq l)
  | _=>exact False.elim k
 | exc c =>
  rw [q] at k
  refine JG2 ha pins s σ H R I ⟨δ,ok,?_⟩
  rw [q]
  exact k
 | bad=>rw [q] at k;exact k.elim
theorem JCw {i:Int} (h:small i=true):-(2 ^ 62)≤i∧i<2 ^ 62:=by
 unfold small at h
 simp only [Bool.and_eq_true,decide_eq_true_eq] at h
 exact h
theorem JO6 (g:Gk X B C CX XX G) (hg:Gl X "range") (hm:X.mg "range"=none) (ha:PA X [a] (RA B C XX x)) (hc:cnt x=1) (hs:starEach [a] X.env=[(false,eval a X.env)]):PI X tg (.Call (.Name "range" p) [a] [] pos) (RI B C XX (.rng x)):=by
 intro pins s σ H R I ⟨δ,ok,k⟩
 refine JGQ hg hm ha hs pins s σ H R I ?_
 simp only [evI] at k
 refine ⟨δ,ok,?_⟩
 cases q:evA C x δ with
 | ok ds =>
  rw [q] at k
  intro vs H1 s1 d1
  have hl:=JB8 x δ ds q
  rw [hc] at hl
  match ds,hl,k,d1 with
  | [.none],_,k,_=>exact False.elim k
  | [.bool _],_,k,_=>exact False.elim k
  | [.str _],_,k,_=>exact False.elim k
  | [.list _],_,k,_=>exact False.elim k
  | [.tuple _],_,k,_=>exact False.elim k
  | [.dict _],_,k,_=>exact False.elim k
  | [.int j],_,k,d1 =>
   simp only [VI.R.bind,rngD] at k
   split at k
   ·rename_i hsm
    simp only [DenL,Den] at d1
    obtain ⟨v,r,e,e1,e2⟩:=d1
    subst e2;subst e;subst e1
    obtain ⟨b1,b2⟩:=JCw hsm
    refine ⟨j,rfl,b1,b2,?_⟩
    have:=k (Itr 0 (j - 0).toNat) H1 s1 JFX
    simpa using this
   ·exact k.elim
 | exc c=>rw [q] at k;exact k
 | bad=>rw [q] at k;exact k.elim
theorem JNH (g:Gk X B C CX XX G) (hg:Gl X "range") (hm:X.mg "range"=none) (ha:PA X [a,b] (RA B C XX x)) (hc:cnt x=2) (hs:starEach [a,b] X.env=[(false,eval a X.env),(false,eval b X.env)]) (hs2:starEach [b] X.env=[(false,eval b X.env)]) :
  PI X tg (.Call (.Name "range" p) [a,b] [] pos) (RI B C XX (.rng x)):=by
 intro pins s σ H R I ⟨δ,ok,k⟩
 refine JGu hg hm ha hs hs2 pins s σ H R I ?_
 simp only [evI] at k
 refine ⟨δ,ok,?_⟩
 cases q:evA C x δ with
 | ok ds =>
  rw [q] at k
  intro vs H1 s1 d1
  have hl:=JB8 x δ ds q
  rw [hc] at hl
  match ds,hl,k,d1 with
  | [.none,_],_,k,_=>exact False.elim k
  | [.bool _,_],_,k,_=>exact False.elim k
  | [.str _,_],_,k,_=>exact False.elim k
  | [.list _,_],_,k,_=>exact False.elim k
  | [.tuple _,_],_,k,_=>exact False.elim k
  | [.dict _,_],_,k,_=>exact False.elim k
  | [.int _,.none],_,k,_=>exact False.elim k
  | [.int _,.bool _],_,k,_=>exact False.elim k
  | [.int _,.str _],_,k,_=>exact False.elim k
  | [.int _,.list _],_,k,_=>exact False.elim k
  | [.int _,.tuple _],_,k,_=>exact False.elim k
  | [.int _,.dict _],_,k,_=>exact False.elim k
  | [.int i,.int j],_,k,d1 =>
   simp only [VI.R.bind,rngD] at k
   split at k
   ·rename_i hsm
    simp only [Bool.and_eq_true] at hsm
    simp only [DenL,Den] at d1
    obtain ⟨v,r,e,e1,v',r',e',e1',e2⟩:=d1
    subst e2;subst e';subst e;subst e1;subst e1'
    obtain ⟨b1,b2⟩:=JCw hsm.1
    obtain ⟨b3,b4⟩:=JCw hsm.2
    exact ⟨i,j,rfl,⟨b1,b2,b3,b4⟩,k _ H1 s1 JFX⟩
   ·exact k.elim
 | exc c=>rw [q] at k;exact k
 | bad=>rw [q] at k;exact k.elim
end
noncomputable def Ownb:HO→Prop
 | .lst _=>True
 | .dK _=>True
 | _=>False
noncomputable def OwnO (B:Bs) (H:Hp):D→HO→Prop
 | .list ds,.lst xs=>DenL B H ds xs
 | .dict kvs,.dK xs=>DenK B H kvs xs
 | _,_=>False
theorem OwnO.nil {B:Bs} {H:Hp}:OwnO B H (.list []) (.lst []):=by show DenL B H [] [];simp only [DenL]
theorem OwnO.mono {B:Bs} {H H':Hp} (s:Same H H') (d:D) (o:HO) (h:OwnO B H d o):OwnO B H' d o:=by
 cases d<;>cases o<;>first | exact False.elim h | exact DenL.mono s _ _ h | exact DenK.mono s _ _ h
theorem OwnO.b {B:Bs} {H:Hp} {d:D} {o:HO} (h:OwnO B H d o):Ownb o:=by
 cases d<;>cases o<;>first | exact False.elim h | exact trivial
theorem OwnO.den {B:Bs} {H:Hp} {d:List D} {o:HO} {a:Addr} (h:OwnO B H (.list d) o) (e:H a=some o):Den B H (.list d) (.ref a):=by
 cases o<;>first
  | exact False.elim h
  |(simp only [Den];exact ⟨a,_,rfl,SqL.of e,h⟩)
theorem OwnO.nl {B:Bs} {H:Hp} {d:D} {o:HO} (h:OwnO B H d o):JAS d=false:=by
 cases d with
 | list ds=>simp only [JAS]
 | dict kvs =>
  cases o with
  | dK xs =>
   cases kvs with
   | nil=>simp only [JAS]
   | cons p r =>
    obtain ⟨k,w⟩:=p
    have h:DenK B H ((k,w)::r) xs:=h
    simp only [DenK] at h
    obtain ⟨x,v',r',_,ek,_⟩:=h
    subst ek
    simp [JAS]
  | _=>exact False.elim h
 | _=>cases o<;>exact False.elim h
theorem JBZ {G:List (Str×GK)} {n:Nat} {it:Bool} {names:List (Str×NameKind)} {N:List Str} {e:Expr} {x:E} (h:JAN G n it names N e=some x) (env:PySem.Env) (v:Value):foldedSetIterable e env v=pure v:=by
 cases n with
 | zero=>simp [JAN,JAW,JAP] at h
 | succ n=>cases e<;>first | rfl | (simp [JAN,JAW,JAP,xOf,dOf,dRaw,Option.bind_none,ite_self,xRaw] at h)
theorem Gk.nox {X X':Cx} {B:Bs} {C:Cn} {CX:CXT} {XX:Nat→Hp→Prop} {G:List (Str×GK)} (g:Gk X B C CX XX G) (h1:X'.K=X.K) (h2:X'.A=X.A) (h3:X'.mg=X.mg) (h4:X'.prog=X.prog) (h5:X'.w=X.w) (h6:X'.base=X.base) (h7:X'.calm=true)
  (hp:JDH CX X' (EX B fun _ _=>False)):Gk X' B C CX (fun _ _=>False) G where
 K:=h1.trans g.K
 W:=h5.trans g.W
 anti:=fun _ _ _ _ z=>z
 units:=by rw [h2];exact g.units
 calm:=fun _=>h7
 fn:=by rw [h1,h2,h3,h4,h5,h6];exact g.fn
 pas:=hp
 con:=by rw [h3];exact g.con
 noexg:=g.noexg
 blt:=by rw [h3];exact g.blt
 rng:=by rw [h3];exact g.rng
 isi:=by rw [h3];exact g.isi
 ty:=by rw [h3];exact g.ty
 cls:=by rw [h3];exact g.cls
 nam:=by rw [h3];exact g.nam
theorem JBq {f:D→R (Option D)} {c:Nat}:∀ {ds:List D},JAr f ds≠.exc c
 | []=>fun h=>by unfold JAr at h;cases h
 | x::xs=>fun h=>by
  unfold JAr at h
  cases q:f x with
  | ok o =>
   rw [q] at h
   cases o with
   | none=>exact JBq h
   | some y =>
    cases q2:JAr f xs with
    | ok ys=>simp only [q2] at h;cases h
    | exc c=>simp only [q2] at h;cases h
    | bad=>simp only [q2] at h;cases h
  | exc c=>rw [q] at h;cases h
  | bad=>rw [q] at h;cases h
section
variable {X:Cx} {B:Bs} {C:Cn} {CX:CXT} {XX:Nat→Hp→Prop} {G:List (Str×GK)} {a b c tg:Expr} {x y z:E} {pos p:Pos}
noncomputable def itemF (C:Cn) (k:Nat) (x y:E) (δ:Env) (d:D):R (Option D):=(push k d δ).bind fun δ1=>(evT C y δ1).bind fun t=>if t=true then (ev C x δ1).bind fun z=>.ok (some z) else .ok none
theorem JFH {σ:St} {H:Hp} {δ:Env} {d:D} {v:V} (ok:Sok B σ H δ) (dn:Den B H d v):Sok B (some v::σ) H (.val d::δ):=by
 intro i d' e
 cases i with
 | zero =>
  have:d=d':=by
   have e':(R.ok d:R D)=.ok d':=e
   injection e'
  subst this
  exact ⟨v,rfl,dn⟩
 | succ i=>exact ok i d' e
theorem JBp {X':Cx} {nm:Str} {px:Pos} {elt:Expr} {ifs:List Expr} {σ:St} {δ:Env} (hN0:X'.N.Nodup) (hN:X'.N[0]? = some nm) (hloc:X'.env.scope.names.lookup nm=some .local)
  (he:PE X' elt (RE B C (fun _ _=>False) x)) (hc:∀c,ifs=[c]→PT X' c (RT B C (fun _ _=>False) y)) (hifs:ifs=[]∧y=.cbl true∨∃c,ifs=[c]) (hxe:X'.xe=noE) :
  JBf X' B σ 1 δ (.Name nm px) elt ifs (itemF C 0 x y δ):=by
 intro pins s pre H d o v u hpre hF I r dn ok
 obtain ⟨p0,rfl⟩:∃p0,pre=[p0]:=by
  match pre,hpre with
  | [p0],_=>exact ⟨p0,rfl⟩
 have hF':(evT C y (.val d::δ)).bind (fun t=>if t=true then (ev C x (.val d::δ)).bind fun z=>.ok (some z) else .ok none)=.ok o:=hF
 have ok1:=JFH ok dn
 have hst:=JCT (X:=X') (pos:=px) hN0 hN (.inl hloc) (.inr hloc) pins s ([p0]++σ) H v u (fun σ' H'=>σ'=some v::σ∧H'=H) I r ⟨rfl,rfl⟩
 rw [hxe] at hst
 refine thn hst fun _ s2 ⟨σ2,H2,I2,e1,e2⟩=>?_
 subst e1;subst e2
 have elt_go:∀(s3:Shared) (H3:Hp) (t:Bool),Inv X' pins (some v::σ) H3 s3→Same H2 H3→evT C y (.val d::δ)=.ok t →
    (if t=true then ∃z,o=some z∧wpAny (model X'.prog X'.w) X'.A (eval elt X'.env) (fun x s₄=>∃pre' H' w,pre'.length=1∧Inv X' pins (pre'++σ) H' s₄∧Same H2 H'∧RelV w x∧Den B H' z w) noE s3
      else o=none∧∃pre' H',pre'.length=1∧Inv X' pins (pre'++σ) H' s3∧Same H2 H'):=by
  intro s3 H3 t I3 s23 qt
  rw [qt] at hF'
  cases t with
  | true =>
    rw [if_pos rfl]
    simp only [R.bind,if_true] at hF'
    cases qx:ev C x (.val d::δ) with
    | ok z =>
      simp only [qx] at hF'
      have eo:o=some z:=by injection hF' with h;exact h.symm
      refine ⟨z,eo,?_⟩
      have hh:=he pins s3 (some v::σ) H3 (fun w H'=>Same H3 H'∧Den B H' z w) I3 ⟨_,ok1.mono s23,by rw [qx];exact fun w H' s' d'=>⟨s',d'⟩⟩
      rw [hxe] at hh
      exact thn hh fun x' s4 ⟨w,H',I4,rw4,s34,d4⟩=>⟨[some v],H',w,rfl,I4,s23.trans s34,rw4,d4⟩
    | exc c=>simp only [qx] at hF';cases hF'
    | bad=>simp only [qx] at hF';cases hF'
  | false =>
    rw [if_neg Bool.false_ne_true]
    simp only [R.bind,Bool.false_eq_true,if_false] at hF'
    have eo:o=none:=by injection hF' with h;exact h.symm
    exact ⟨eo,[some v],H3,rfl,I3,s23⟩
 rcases hifs with ⟨e1,e2⟩ | ⟨c',e1⟩
 ·subst e1;subst e2
  exact wpAny_tests_nil (elt_go s2 H2 true I2 (Same.refl _) (by simp only [evT]))
 ·subst e1
  refine wpAny_tests_one ?_
  cases qt:evT C y (.val d::δ) with
  | ok t =>
    have hh:=hc c' rfl pins s2 (some v::σ) H2 (fun t' H'=>t'=t∧Same H2 H') I2 ⟨_,ok1,by rw [qt];exact fun H' s'=>⟨rfl,s'⟩⟩
    rw [hxe] at hh
    refine thn hh fun t' s3 ⟨H3,I3,e3,s23⟩=>?_
    subst e3
    exact elt_go s3 H3 t' I3 s23 qt
  | exc c=>rw [qt] at hF';cases hF'
  | bad=>rw [qt] at hF';cases hF'
theorem JCH {e:Expr} {r:List Expr} {xs:List Str} (h:namesOf (e::r)=some xs):∃nm p ys,e=.Name nm p∧namesOf r=some ys∧xs=nm::ys:=by
 unfold namesOf at h
 split at h
 ·rename_i q;cases q
 ·rename_i q
  cases q
  obtain ⟨ys,h1,h2⟩:=Option.map_eq_some_iff.mp h
  exact ⟨_,_,ys,rfl,h1,h2.symm⟩
 ·cases h
theorem JCI {env:PySem.Env}:∀ {ts:List Expr} {xs:List Str},namesOf ts=some xs→(assignEach ts env).findIdx? (·.1)=none∧(assignEach ts env).length=xs.length
 | [],xs,h=>by unfold namesOf at h;cases h;exact ⟨rfl,rfl⟩
 | e::r,xs,h=>by
  obtain ⟨nm,p,ys,rfl,h1,rfl⟩:=JCH h
  obtain ⟨q1,q2⟩:=JCI (env:=env) h1
  refine ⟨?_,by show (assignEach r env).length+1=_;rw [q2];rfl⟩
  show List.findIdx? (·.1) ((false,assign (.Name nm p) env)::assignEach r env)=none
  rw [List.findIdx?_cons]
  simp [q1]
noncomputable def JDa:Nat→List V→St→St
 | _,[],σ=>σ
 | j,v::r,σ=>JDa (j+1) r (σ.set j (some v))
theorem JCP:∀(vs:List V) (a pre σ:St),pre.length=vs.length→JDa a.length vs (a++(pre++σ))=a++(vs.map some++σ)
 | [],a,pre,σ,h=>by
  have:pre=[]:=List.length_eq_zero_iff.mp h
  subst this;rfl
 | v::r,a,[],σ,h=>by cases h
 | v::r,a,p::pre,σ,h=>by
  simp only [JDa]
  have e:(a++(p::pre++σ)).set a.length (some v)=(a++[some v])++(pre++σ):=by
   rw [List.set_append_right _ _ (Nat.le_refl _),Nat.sub_self]
   simp
  rw [e,show a.length+1=(a++[some v]).length by simp,JCP r (a++[some v]) pre σ (by simpa using h)]
  simp
theorem JFM {X':Cx} (hN0:X'.N.Nodup):∀ {ts:List Expr} {xs:List Str} {j:Nat},namesOf ts=some xs→(∀(i:Nat) (nm:Str),xs[i]? = some nm→X'.N[j+i]? = some nm)→(∀nm∈xs,X'.env.scope.names.lookup nm=some .local)→PGs X' ts (fun vs σ H Q=>vs.length=xs.length∧Q (JDa j vs σ) H)
 | [],xs,j,h,_,_=>by
  unfold namesOf at h;cases h
  intro pins s σ H vs us Q I r ⟨e,q⟩
  have ev:vs=[]:=List.length_eq_zero_iff.mp e
  subst ev
  exact JGA pins s σ H [] us Q I r ⟨rfl,q⟩
 | e::r,xs,j,h,hN,hl=>by
  obtain ⟨nm,p,ys,rfl,h1,rfl⟩:=JCH h
  have hx:X'.env.scope.names.lookup nm=some .local:=hl nm (by simp)
  have ih:=JFM hN0 (j:=j+1) h1 (fun i z e=>by have:=hN (i+1) z (by simpa using e);rw [show j+1+i=j+(i+1) by omega];exact this) (fun z hz=>hl z (by simp [hz]))
  intro pins s σ H vs us Q I rv ⟨e,q⟩
  refine JEz (JCT hN0 (hN 0 nm rfl) (.inl hx) (.inr hx)) ih rfl pins s σ H vs us Q I rv ?_
  match vs,e,q with
  | v::vr,e,q=>exact ⟨v,vr,rfl,by simpa using e,q⟩
theorem JDI {σ:St} {H:Hp} {δ:Env}:∀ {ds:List D} {vs:List V},Sok B σ H δ→DenL B H ds vs→Sok B (vs.map some++σ) H (ds.map Sl.val++δ)
 | [],vs,ok,dn=>by simp only [DenL] at dn;subst dn;exact ok
 | d::ds,vs,ok,dn=>by
  simp only [DenL] at dn
  obtain ⟨v,r,rfl,d1,d2⟩:=dn
  exact JFH (JDI ok d2) d1
theorem item_tup {X':Cx} {ts:List Expr} {kt:Nat} {pt:Pos} {xs:List Str} {elt:Expr} {ifs:List Expr} {σ:St} {δ:Env} (hcalm:X'.calm=true) (hK:X'.K=B.K) (hx:namesOf ts=some xs) (hne:xs≠[]) (hN0:X'.N.Nodup) (hN:∀(i:Nat) (nm:Str),xs[i]? = some nm→X'.N[i]? = some nm) (hloc:∀nm∈xs,X'.env.scope.names.lookup nm=some .local)
  (he:PE X' elt (RE B C (fun _ _=>False) x)) (hc:∀c,ifs=[c]→PT X' c (RT B C (fun _ _=>False) y)) (hifs:ifs=[]∧y=.cbl true∨∃c,ifs=[c]) (hxe:X'.xe=noE) :
  JBf X' B σ xs.length δ (.Tuple ts kt pt) elt ifs (itemF C xs.length x y δ):=by
 intro pins s pre H d o v u hpre hF I r dn ok
 obtain ⟨ds,ed,hdl,hF'⟩:∃ds,d=.tuple ds∧ds.length=xs.length∧(evT C y (ds.map Sl.val++δ)).bind (fun t=>if t=true then (ev C x (ds.map Sl.val++δ)).bind fun z=>.ok (some z) else .ok none)=.ok o:=by
  obtain ⟨n,hn⟩:∃n,xs.length=n+1:=⟨xs.length - 1,by have:=List.length_pos_iff.mpr hne;omega⟩
  rw [hn] at hF ⊢
  unfold itemF push at hF
  cases d<;>first | (cases hF;done) | skip
  rename_i ds
  simp only at hF
  split at hF
  · rename_i h;exact ⟨ds,rfl,h,hF⟩
  · cases hF
 subst ed
 simp only [Den] at dn
 obtain ⟨a,vs,rfl,sq,dl⟩:=dn
 have hvl:=DenL.len ds vs dl
 have ok1:=JDI ok dl
 obtain ⟨st1,st2⟩:=JCI (env:=X'.env) hx
 have hst:=JKF (X:=X') (pos:=pt) (k:=kt) hcalm (JFM (j:=0) hN0 hx (fun i nm e=>by rw [Nat.zero_add];exact hN i nm e) hloc) st2 st1 pins s (pre++σ) H (.ref a) u (fun σ' H'=>σ'=vs.map some++σ∧H'=H) I r
  ⟨a,vs,rfl,by rw [hK];exact sq,by omega,by omega,by have:=JCP vs [] pre σ (by omega);simpa using this,rfl⟩
 rw [hxe] at hst
 refine thn hst fun _ s2 ⟨σ2,H2,I2,e1,e2⟩=>?_
 subst e1;subst e2
 have hlen:(vs.map some:St).length=xs.length:=by simp;omega
 generalize (vs.map some:St)=P at *
 generalize ds.map Sl.val++δ=δ1 at *
 have elt_go:∀(s3:Shared) (H3:Hp) (t:Bool),Inv X' pins (P++σ) H3 s3→Same H2 H3→evT C y δ1=.ok t →
    (if t=true then ∃z,o=some z∧wpAny (model X'.prog X'.w) X'.A (eval elt X'.env) (fun x s₄=>∃pre' H' w,pre'.length=xs.length∧Inv X' pins (pre'++σ) H' s₄∧Same H2 H'∧RelV w x∧Den B H' z w) noE s3
      else o=none∧∃pre' H',pre'.length=xs.length∧Inv X' pins (pre'++σ) H' s3∧Same H2 H'):=by
  intro s3 H3 t I3 s23 qt
  rw [qt] at hF'
  cases t with
  | true =>
    rw [if_pos rfl]
    simp only [R.bind,if_true] at hF'
    cases qx:ev C x δ1 with
    | ok z =>
      simp only [qx] at hF'
      have eo:o=some z:=by injection hF' with h;exact h.symm
      refine ⟨z,eo,?_⟩
      have hh:=he pins s3 (P++σ) H3 (fun w H'=>Same H3 H'∧Den B H' z w) I3 ⟨_,ok1.mono s23,by rw [qx];exact fun w H' s' d'=>⟨s',d'⟩⟩
      rw [hxe] at hh
      exact thn hh fun x' s4 ⟨w,H',I4,rw4,s34,d4⟩=>⟨P,H',w,hlen,I4,s23.trans s34,rw4,d4⟩
    | exc c=>simp only [qx] at hF';cases hF'
    | bad=>simp only [qx] at hF';cases hF'
  | false =>
    rw [if_neg Bool.false_ne_true]
    simp only [R.bind,Bool.false_eq_true,if_false] at hF'
    have eo:o=none:=by injection hF' with h;exact h.symm
    exact ⟨eo,P,H3,hlen,I3,s23⟩
 rcases hifs with ⟨e1,e2⟩ | ⟨c',e1⟩
 ·subst e1;subst e2
  exact wpAny_tests_nil (elt_go s2 H2 true I2 (Same.refl _) (by simp only [evT]))
 ·subst e1
  refine wpAny_tests_one ?_
  cases qt:evT C y δ1 with
  | ok t =>
    have hh:=hc c' rfl pins s2 (P++σ) H2 (fun t' H'=>t'=t∧Same H2 H') I2 ⟨_,ok1,by rw [qt];exact fun H' s'=>⟨rfl,s'⟩⟩
    rw [hxe] at hh
    refine thn hh fun t' s3 ⟨H3,I3,e3,s23⟩=>?_
    subst e3
    exact elt_go s3 H3 t' I3 s23 qt
  | exc c=>rw [qt] at hF';cases hF'
  | bad=>rw [qt] at hF';cases hF'
noncomputable def REF (B:Bs) (C:Cn) (XX:Nat→Hp→Prop) (x:E):TE:=fun σ H Q=>∃δ,Sok B σ H δ∧(match ev C x δ with
 | .ok d=>∀D ds xs H1,d=ds→Same H H1→H1 D=none→OwnO B H1 ds xs→Q (.ref D) (upd H1 D xs)
 | .exc c=>XX c H
 | .bad=>False)
theorem REF.of {e:Expr} (h:PE X e (REF B C XX x)) (hl:∀δ d,ev C x δ=.ok d→∃ds,d=.list ds):PE X e (RE B C XX x) :=
 PE.imp h fun σ H Q ⟨δ,ok,k⟩=>by
  refine ⟨δ,ok,?_⟩
  cases q:ev C x δ with
  | ok d =>
   rw [q] at k
   intro D ds xs H1 e s1 hD dn
   refine k _ _ (s1.trans (JBA hD)) ?_
   subst e
   obtain ⟨ys,rfl⟩:=hl δ _ q
   exact (OwnO.mono (JBA hD) _ xs dn).den JAM
  | exc c=>rw [q] at k;exact k
  | bad=>rw [q] at k;exact k
theorem JM0 (g:Gk X B C CX XX G) {es:List Expr} (h:PA X es (RA B C XX x)) (hl:cnt x≤1000):PE X (.List es pos) (REF B C XX (.lst x)) :=
 PE.imp (JJ0 h) fun σ H Q ⟨δ,ok,k⟩=>by
  simp only [ev] at k
  refine ⟨δ,ok,?_⟩
  cases q:evA C x δ with
  | ok ds =>
   rw [q] at k
   intro vs H1 s1 d1
   have e1:=DenL.len ds vs d1
   have e2:=JB8 x δ ds q
   exact ⟨by rw [sizeLine_eq];omega,fun p hp=>k p _ (.lst vs) H1 rfl s1 hp d1⟩
  | exc c=>rw [q] at k;exact k
  | bad=>rw [q] at k;exact k.elim
theorem JFD [Cool G] (g:Gk X B C CX XX G) {elt iter target:Expr} {ifs:List Expr} {sc:Scope} {xs:List Str} {k:Nat} (b:BlkOk X sc xs) (hi:PI X target iter (RI B C XX z)) (hs:∀v,foldedSetIterable iter X.env v=pure v)
  (hrun:∀Cc fp s0 H0 σ δ,JBf (JAb X sc Cc (xs++mask xs 0 X.N) fp s0 H0) B σ xs.length δ target elt ifs (itemF C k x y δ))
  {pins:List (Addr×Obj)} {s:Shared} {σ:St} {H:Hp} {Q:VK} {pos':Pos} {use:Option (Value→Sem Unit)} {Q':Value→Shared→Prop} (I:Inv X pins σ H s) (h:REF B C XX (.cmpr k x z y) σ H Q)
  (fin:∀(D Cc:Addr) (s':Shared) (m:Str→Option Value) (H':Hp),s'.heap.Ns Cc m→Inv X pins σ H' s'→Q (.ref D) H'→H' Cc=none→Cc≠X.env.locals→X.s₀.heap.objs.size≤Cc →
    (∀x c,X.env.cells.lookup x=some c→c≠Cc)→(∀p∈X.pn++pins,p.1≠Cc)→compPost (model X.prog X.w) X.A X.xe use Q' (.ref D) Cc (.ok .next) s') :
  wpAny (model X.prog X.w) X.A (comprehension (.ListComp elt [⟨target,iter,ifs,0⟩] sc pos) sc X.env pos' (newList []) false (eval iter X.env) use) Q' X.xe s:=by
 obtain ⟨δ,ok,kk⟩:=h
 simp only [ev] at kk
 cases q:evI C z δ with
 | ok ds =>
  simp only [q,R.bind] at kk
  split at kk
  · rename_i d hd
    split at hd
    · rename_i hlen
      cases qz:JAr (itemF C k x y δ) ds with
      | ok zs =>
       have qz':=qz
       unfold itemF at qz'
       simp only [R.bind] at qz'
       rw [qz'] at hd
       have hd':PyData.list zs=d:=by injection hd
       refine JHR g b hi hs (fun Cc fp s0 H0=>hrun Cc fp s0 H0 σ δ) I ok q hlen qz ?_
       intro D Cc s' m H3 yv hn J sm hD dn h1 h2 h3 h4 h5
       exact fin D Cc s' m _ hn J (kk D _ (.lst yv) H3 hd'.symm sm hD dn) h1 h2 h3 h4 h5
      | exc c=>exact (JBq qz).elim
      | bad=>unfold itemF at qz;simp only [R.bind] at qz;rw [qz] at hd;cases hd
    · cases hd
  · rename_i c hd
    exfalso
    split at hd
    · cases qz:JAr (itemF C k x y δ) ds with
      | ok zs=>unfold itemF at qz;simp only [R.bind] at qz;rw [qz] at hd;cases hd
      | exc c=>exact (JBq qz).elim
      | bad=>unfold itemF at qz;simp only [R.bind] at qz;rw [qz] at hd;cases hd
    · cases hd
  · exact kk.elim
 | exc c =>
  simp only [q,R.bind] at kk
  refine wpAny_comprehension_free rfl hs (b.clos I.ok) b.kind b.loc (wpAny_mono (hi pins s σ H (fun _ _=>False) I ⟨δ,ok,by rw [q];exact kk⟩) (fun xv s₁ h₁=>wpAny_mono h₁ (fun itv s₂ h₂=>?_) (fun _ _ e=>e)) (fun _ _ e=>e))
  obtain ⟨_,_,_,_,_,_,_,_,_,_,f⟩:=h₂
  exact f.elim
 | bad=>simp only [q,R.bind] at kk
theorem JCa [Cool G] (g:Gk X B C CX XX G) {elt iter target:Expr} {ifs:List Expr} {sc:Scope} {xs:List Str} {k:Nat} (b:BlkOk X sc xs) (hi:PI X target iter (RI B C XX z)) (hs:∀v,foldedSetIterable iter X.env v=pure v)
  (hrun:∀Cc fp s0 H0 σ δ,JBf (JAb X sc Cc (xs++mask xs 0 X.N) fp s0 H0) B σ xs.length δ target elt ifs (itemF C k x y δ)) :
  PE X (.ListComp elt [⟨target,iter,ifs,0⟩] sc pos) (REF B C XX (.cmpr k x z y)):=by
 intro pins s σ H Q I h
 rw [eval_ListComp]
 refine JFD (use:=none) g b hi hs hrun I h ?_
 intro D Cc s' m H' hn J hq h1 h2 h3 h4 h5
 refine ⟨m,hn,fun h' hsb=>?_⟩
 have J':=J.turned (h':=h') (t':=s'.toks) (it:=Cc) (fun b o hb e=>(hsb.2 b hb).trans e) h1 h2 (.inr h3) h4 h5
 exact ⟨.ref D,H',J',rfl,hq⟩
theorem JIA [Cool G] (g:Gk X B C CX XX G) {elt iter target:Expr} {ifs:List Expr} {sc:Scope} {xs:List Str} {k i:Nat} {nm:Str} {px spos:Pos} (b:BlkOk X sc xs) (hi:PI X target iter (RI B C XX z)) (hs:∀v,foldedSetIterable iter X.env v=pure v)
  (hrun:∀Cc fp s0 H0 σ δ,JBf (JAb X sc Cc (xs++mask xs 0 X.N) fp s0 H0) B σ xs.length δ target elt ifs (itemF C k x y δ))
  (hsw:swapsWith (.ListComp elt [⟨target,iter,ifs,0⟩] sc pos) (some (.Name nm px)) spos.line X.env=pure true) (hnd:X.N.Nodup) (hN:X.N[i]? = some nm) (hloc:X.env.scope.names.lookup nm=some .local) :
  PS X (.Assign [.Name nm px] (.ListComp elt [⟨target,iter,ifs,0⟩] sc pos) spos) (tAsg (REF B C XX (.cmpr k x z y)) (JDn i)):=by
 intro pins s σ H D I h
 rw [exec_Assign_Name_used _ _ _ _ hsw]
 refine wpAny_bind (wpAny_standAt (wpAny_bind ?_))
 show wpAny _ _ (do let _←comprehension (.ListComp elt [⟨target,iter,ifs,0⟩] sc pos) sc X.env _ (newList []) false (eval iter X.env) (some (assign (.Name nm px) X.env))) _ _ s
 refine wpAny_bind (wpAny_mono (JFD (use:=some (assign (.Name nm px) X.env)) (Q':=fun _ s'=>SP X pins D .next s') g b hi hs hrun I h ?_) (fun _ s' hq=>wpAny_pure (wpAny_pure hq)) fun _ _ e=>e)
 intro Da Cc s' m H' hn J hq h1 h2 h3 h4 h5
 show wpAny _ _ (assign (.Name nm px) X.env (.ref Da)) _ _ s'
 refine wpAny_assign_Name (JDe J hnd hN (.inl hloc) (v:=.ref Da) rfl (fun s2 J2 hch=>?_) (.inr hloc))
 obtain ⟨a,sb,ha⟩:=hch
 have hne:Cc≠a:=by
  rcases ha with z | z
  · rw [z];exact h2
  · exact fun e=>h4 nm a z e.symm
 refine ⟨m,hn.sameBut sb hne,fun h' hsb=>?_⟩
 exact ⟨_,H',J2.turned (h':=h') (t':=s2.toks) (it:=Cc) (fun b o hb e=>(hsb.2 b hb).trans e) h1 h2 (.inr h3) h4 h5,hq⟩
end
theorem JJ5 {X:Cx} {sc:Scope} {xs:List Str} {names:List (Str×NameKind)} {N:List Str} (hk:X.env.scope.kind=.function) (hn:X.env.scope.names=names) (hN:X.N=N) (hs:sc.kind=.function) (h:JBj names sc.names xs N=true):BlkOk X sc xs:=by
 subst hn;subst hN
 unfold JBj at h
 simp only [Bool.and_eq_true,List.all_eq_true] at h
 obtain ⟨⟨⟨⟨h1,h2⟩,h3⟩,h4⟩,h5⟩:=h
 refine ⟨hs,fun y hy=>?_,fun y hy hl=>?_,fun n hm=>?_,fun x hx=>?_,fun y hy hx=>?_,fun i hi hv=>?_,of_decide_eq_true h5⟩
 ·have:=(h1 y hy).1.1
  intro e;rw [e] at this;simp at this
 ·have:=(h1 y hy).1.2
  rw [hl] at this
  simpa using this
 ·have:=(h1 (n,.free) hm).2
  simpa [PySem.Env.kindOf] using this
 ·simpa using h2 x hx
 ·have:=h3 y hy
  simp only [Bool.or_eq_true,bne_iff_ne,ne_eq] at this
  rcases this with e | e
  ·exact absurd (by simpa using e) hx
  ·exact e
 ·have:=h4 i (List.mem_range.mpr hi)
  unfold Vis at hv
  rw [JAT hk] at hv
  rcases hv with e | e | e<;>(rw [e] at this;simp [vis] at this)
section
variable {X:Cx} {B:Bs} {C:Cn} {CX:CXT} {XX:Nat→Hp→Prop} {G:List (Str×GK)} {pos p:Pos} {names:List (Str×NameKind)} {N:List Str} {n:Nat}
theorem allA (g:Gk X B C CX XX G) (ih:∀e x,JAN G n false names N e=some x→PE X e (RE B C XX x)):∀ {es:List Expr} {x:E},JAJ (JAN G n false names N) es=some x→PA X es (RA B C XX x)
 | [],x,h=>by unfold JAJ at h;cases h;exact a_nil
 | e::es,x,h=>by
  unfold JAJ at h
  obtain ⟨a,h1,h⟩:=Option.bind_eq_some_iff.mp h
  obtain ⟨b,h2,h⟩:=Option.bind_eq_some_iff.mp h
  cases h
  exact JPI g (ih e a h1) (allA g ih h2) (JAV h1 es X.env)
theorem JJ2 (g:Gk X B C CX XX G) (ih:∀e x,JAN G n false names N e=some x→PE X e (RE B C XX x)∧PT X e (RT B C XX x)):∀ {es:List Expr} {x:E},JAw .and (JAN G n false names N) es=some x →
  PE X (.BoolOp .And es pos) (RE B C XX x)∧PW X (.BoolOp .And es pos) (RT B C XX x)
 | [],x,h=>by unfold JAw at h;cases h
 | [e],x,h=>by
  unfold JAw at h
  exact ⟨JJM (ih e x h).1,JLa (ih e x h).2⟩
 | e::e'::es,x,h=>by
  unfold JAw at h
  obtain ⟨a,h1,h⟩:=Option.bind_eq_some_iff.mp h
  obtain ⟨b,h2,h⟩:=Option.bind_eq_some_iff.mp h
  cases h
  obtain ⟨q1,q2⟩:=JJ2 g ih h2
  exact ⟨s_and g (ih e a h1).1 q1,w_and g (ih e a h1).2 q2⟩
theorem JOa (g:Gk X B C CX XX G) (ih:∀e x,JAN G n false names N e=some x→PE X e (RE B C XX x)∧PT X e (RT B C XX x)):∀ {es:List Expr} {x:E},JAw .or (JAN G n false names N) es=some x →
  PE X (.BoolOp .Or es pos) (RE B C XX x)∧PW X (.BoolOp .Or es pos) (RT B C XX x)
 | [],x,h=>by unfold JAw at h;cases h
 | [e],x,h=>by
  unfold JAw at h
  exact ⟨JJM (ih e x h).1,JN9 (ih e x h).2⟩
 | e::e'::es,x,h=>by
  unfold JAw at h
  obtain ⟨a,h1,h⟩:=Option.bind_eq_some_iff.mp h
  obtain ⟨b,h2,h⟩:=Option.bind_eq_some_iff.mp h
  cases h
  obtain ⟨q1,q2⟩:=JOa g ih h2
  exact ⟨s_or g (ih e a h1).1 q1,w_or g (ih e a h1).2 q2⟩
theorem JBN {x:Str} {k:GK} (h:glob G names x=some k):JAH x=false∧names.lookup x=some .globalImplicit∧G.lookup x=some k:=by
 unfold glob at h
 split at h
 ·cases h
 ·rename_i hb
  split at h
  ·rename_i hg
   exact ⟨by simpa using hb,hg,h⟩
  ·cases h
theorem JC5 {x:Str} (hn:X.env.scope.names=names) (h:vis (names.lookup x)=true):Vis X.env.scope x:=by
 unfold Vis
 rw [hn]
 cases q:names.lookup x with
 | none=>rw [q] at h;cases h
 | some k=>cases k<;>simp_all [vis]
theorem JBi {x:Str} (hn:X.env.scope.names=names) (h:names.lookup x=some .globalImplicit):Gl X x:=by
 show X.env.scope.names.lookup x=_
 rw [hn];exact h
theorem JH8 {op:CmpOp} {d d' r:D} (h:cmpD op d d'=.ok r):∃k,r=.bool k:=by
 cases op<;>simp only [cmpD] at h<;>(repeat' split at h)<;>first | (cases h;exact ⟨_,rfl⟩) | cases h
theorem JET {op:CmpOp} {x y:E} {δ:Env} {d:D} (h:ev C (.cmp op x y) δ=.ok d):∃k,d=.bool k:=by
 simp only [ev] at h
 cases q:ev C x δ with
 | ok dx =>
  cases q2:ev C y δ with
  | ok dy=>rw [q,q2] at h;exact JH8 h
  | exc c=>rw [q,q2] at h;cases h
  | bad=>rw [q,q2] at h;cases h
 | exc c=>rw [q] at h;cases h
 | bad=>rw [q] at h;cases h
end
end VI
end
section
namespace VI
open PySem PySem.Spec PyProof.Rows L2
section
variable {X:Cx} {B:Bs} {C:Cn} {CX:CXT} {XX:Nat→Hp→Prop} {G:List (Str×GK)} {a b c:Expr} {x y z:E} {pos p:Pos}
theorem JNN (n d:Nat) (o:Option Int):sI n d o=HT.sIx n d o:=by cases o<;>rfl
theorem JFL {e:Option Expr} {o:Option Int} (h:JCk e=some o):∃t,PO X e t∧∀σ H Q,Q o H→t σ H Q:=by
 unfold JCk at h
 split at h
 ·cases h;exact ⟨_,JK3,fun σ H Q q=>q⟩
 ·cases h;exact ⟨_,JGm JDy,fun σ H Q q=>⟨_,rfl,q⟩⟩
 ·cases h;exact ⟨_,JGm (JMU JKU JDy),fun σ H Q q=>⟨_,rfl,_,rfl,q⟩⟩
 ·cases h
theorem DenL.drop {H:Hp}:∀(n:Nat) (ds:List D) (vs:List V),DenL B H ds vs→DenL B H (ds.drop n) (vs.drop n)
 | 0,ds,vs,h=>h
 | n+1,[],vs,h=>by simp only [DenL] at h;subst h;simp only [List.drop_nil,DenL]
 | n+1,d::ds,vs,h=>by
  simp only [DenL] at h
  obtain ⟨v,r,e,q,l⟩:=h
  subst e
  exact DenL.drop n ds r l
theorem DenL.take {H:Hp}:∀(n:Nat) (ds:List D) (vs:List V),DenL B H ds vs→DenL B H (ds.take n) (vs.take n)
 | 0,ds,vs,h=>by simp only [List.take_zero,DenL]
 | n+1,[],vs,h=>by simp only [DenL] at h;subst h;simp only [List.take_nil,DenL]
 | n+1,d::ds,vs,h=>by
  simp only [DenL] at h
  obtain ⟨v,r,e,q,l⟩:=h
  subst e
  simp only [List.take_succ_cons,DenL]
  exact ⟨v,_,rfl,q,DenL.take n ds r l⟩
theorem DenL.cut {H:Hp} {ds:List D} {vs:List V} (h:DenL B H ds vs) (lo hi:Option Int):DenL B H (cutD ds lo hi) (cutV vs lo hi):=by
 unfold cutD cutV
 have e:=DenL.len _ _ h
 simp only [JNN,e]
 exact DenL.take _ _ _ (DenL.drop _ _ _ h)
theorem JHM {xs:List D} {lo hi:Option Int} (h:HT.sIx xs.length 0 lo=0∧HT.sIx xs.length xs.length hi=xs.length):cutD xs lo hi=xs:=by
 unfold cutD
 simp only [JNN,h.1,h.2]
 simp
theorem JBx {H:Hp} {q:Addr} {o:HO} (h:H q=none):Same H (upd H q o):=fun b u e=>by rw [JAL (JAY e h)];exact e
theorem JL0 (g:Gk X B C CX XX G) {i:Expr} {lo hi:Option Int} (hs:sliceOf i=some (lo,hi)) (ha:PE X a (RE B C XX x)):PE X (.Subscript a i pos) (RE B C XX (.fn1 (.slice lo hi) x)):=by
 unfold sliceOf at hs
 split at hs
 ·rename_i l h p2
  obtain ⟨l',h1,hs⟩:=Option.bind_eq_some_iff.mp hs
  obtain ⟨h',h2,hs⟩:=Option.bind_eq_some_iff.mp hs
  cases hs
  obtain ⟨tl,pl,ql⟩:=JFL (X:=X) h1
  obtain ⟨th,ph,qh⟩:=JFL (X:=X) h2
  refine PE.imp (JI2 (SlR.or (SlR.or JOQ JK8) JMG) ha pl ph) fun σ H Q ⟨δ,ok,k⟩=>?_
  simp only [ev] at k
  refine RE.of (W:=fun r H=>KE B XX r H Q) ok (fun _ _ z=>z) (fun _ z=>z) k fun d v H1 s1 d1 h1=>?_
  refine ql _ _ _ (qh _ _ _ ?_)
  have h1:=KE.mono g s1 h1
  cases d<;>first | exact False.elim h1 | skip
  ·rename_i ds
   simp only [Den] at d1
   obtain ⟨q,vs,e,sq,l⟩:=d1
   refine .inr ⟨q,vs,e,g.K▸sq,fun p' hp=>?_⟩
   have sm:Same H1 (upd H1 p' (.lst (cutV vs lo hi))):=JBx hp
   refine h1 _ _ sm ?_
   simp only [Den]
   exact ⟨p',_,rfl,SqL.of JAM,DenL.mono sm _ _ (DenL.cut l lo hi)⟩
  ·rename_i ds
   simp only [Den] at d1
   obtain ⟨q,vs,e,sq,l⟩:=d1
   have el:=DenL.len _ _ l
   by_cases hw:HT.sIx vs.length 0 lo=0∧HT.sIx vs.length vs.length hi=vs.length
   ·refine .inl (.inr ⟨q,vs,e,g.K▸sq,hw,?_⟩)
    refine h1 _ _ (Same.refl H1) ?_
    rw [JHM (by rw [el];exact hw)]
    subst e
    simp only [Den]
    exact ⟨q,vs,rfl,sq,l⟩
   ·refine .inl (.inl ⟨q,vs,e,g.K▸sq,hw,fun p' hp=>?_⟩)
    have sm:Same H1 (upd H1 p' (.tup (cutV vs lo hi))):=JBx hp
    refine h1 _ _ sm ?_
    simp only [Den]
    exact ⟨p',_,rfl,SqT.of JAM,DenL.mono sm _ _ (DenL.cut l lo hi)⟩
 ·cases hs
theorem JOI (g:Gk X B C CX XX G) {f:Str} {ty:Ty} {o:O1} (ho:o1Of ty=some o) (hf:JA8 ty=some f) (hg:Gl X f) (hl:G.lookup f=some (.ty ty)) (hb:JAH f=false) (ha:PE X a (RE B C XX x))
  (he:starEach [a] X.env=[(false,eval a X.env)]):PE X (.Call (.Name f p) [a] [] pos) (RE B C XX (.fn1 o x)):=by
 have key:∀ {T:String} {r:List V→Hp→VK→Prop},CallR X (.type T) r→bootBuiltins f=some (.type T) →
    (∀d v H Q,Den B H d v→KE B XX (op1D o d) H Q→r [v] H Q)→PE X (.Call (.Name f p) [a] [] pos) (RE B C XX (.fn1 o x)):=fun {T r} hc hv hr=>by
  refine PE.imp (JGS (es:=[]) hc hg (g.ty f ty hl) hv (JBk ha JC9 he) (JAF hb).2.2 (JAF hb).1 he rfl) fun σ H Q ⟨δ,ok,k⟩=>?_
  simp only [ev] at k
  refine RE.of (W:=fun r H=>KE B XX r H Q) ok (fun _ _ z=>z) (fun _ z=>z) k fun d v H1 s1 d1 h1=>?_
  exact hr d v H1 Q d1 (KE.mono g s1 h1)
 cases ty<;>simp only [o1Of,Option.some.injEq,reduceCtorEq] at ho
 ·subst ho
  simp only [JA8,Option.some.injEq] at hf
  subst hf
  refine key JD7 (by decide +kernel) fun d v H Q dn k=>?_
  cases d<;>first | exact False.elim k | skip
  · simp only [Den] at dn
    obtain ⟨q,vs,e,sq,l⟩:=dn
    subst e
    refine ⟨q,vs,rfl,.inl (g.K▸sq),fun p' hp=>?_⟩
    have sm:Same H (upd H p' (.lst vs)):=JBx hp
    refine k _ _ sm ?_
    simp only [Den]
    exact ⟨p',_,rfl,SqL.of JAM,DenL.mono sm _ _ l⟩
  · simp only [Den] at dn
    obtain ⟨q,vs,e,sq,l⟩:=dn
    subst e
    refine ⟨q,vs,rfl,.inr (g.K▸sq),fun p' hp=>?_⟩
    have sm:Same H (upd H p' (.lst vs)):=JBx hp
    refine k _ _ sm ?_
    simp only [Den]
    exact ⟨p',_,rfl,SqL.of JAM,DenL.mono sm _ _ l⟩
 ·subst ho
  simp only [JA8,Option.some.injEq] at hf
  subst hf
  refine key JDQ (by decide +kernel) fun d v H Q dn k=>?_
  cases d<;>first | exact False.elim k | skip
  · simp only [Den] at dn
    obtain ⟨q,vs,e,sq,l⟩:=dn
    subst e
    refine ⟨q,vs,rfl,.inl ⟨g.K▸sq,fun p' hp=>?_⟩⟩
    have sm:Same H (upd H p' (.tup vs)):=JBx hp
    refine k _ _ sm ?_
    simp only [Den]
    exact ⟨p',_,rfl,SqT.of JAM,DenL.mono sm _ _ l⟩
  · have dn':=dn
    simp only [Den] at dn
    obtain ⟨q,vs,e,sq,l⟩:=dn
    subst e
    exact ⟨q,vs,rfl,.inr ⟨g.K▸sq,KE.ok k dn'⟩⟩
theorem s_pow {i j:Nat} {u v:Int} {p1 p2:Pos} (h0:0≤u) (h1:u≤100) (h2:0≤v) (h3:v≤20):PE X (.BinOp (.Constant (.int u) i p1) .Pow (.Constant (.int v) j p2) pos) (RE B C XX (.cint (u ^ v.toNat))) :=
 PE.imp (JMs JNE JDy JDy) fun σ H Q ⟨δ,ok,k⟩=>by
  simp only [ev] at k
  exact ⟨u,v,rfl,rfl,⟨h2,by omega,by omega⟩,KE.ok k (by simp only [Den])⟩
theorem JGJ:OpR X (compareOp .IsNot) (fun v u H Q=>∃c d,v=.bl c∧u=.bl d∧Q (.bl (!(c==d))) H):=by
 intro pins s σ H v u w t Q I rx ry ⟨c,d,e1,e2,q⟩
 subst e1;subst e2
 cases rx;cases ry
 exact isnot_bool ⟨.bl _,H,I,rfl,q⟩
theorem JNK (g:Gk X B C CX XX G) {j:Nat} {pos':Pos} {k:Bool} (ha:PE X a (RE B C XX x)):PE X (.Compare a [.IsNot] [.Constant (.bool k) j pos'] pos) (RE B C XX (.isnB x k)) :=
 PE.imp (JEb JGJ ha JGG rfl) fun σ H Q ⟨δ,ok,kk⟩=>by
  simp only [ev] at kk
  refine RE.of (W:=fun r H=>KE B XX r H Q) ok (fun _ _ z=>z) (fun _ z=>z) kk fun d v H1 s1 d1 h1=>?_
  cases d<;>first | exact False.elim h1 | skip
  rename_i t
  simp only [Den] at d1
  exact ⟨t,k,d1,rfl,KE.ok (KE.mono g s1 h1) (by simp only [Den])⟩
theorem JFG (g:Gk X B C CX XX G) {j:Nat} {pos':Pos} {k:Bool} (ha:PE X a (RE B C XX x)):PT X (.Compare a [.IsNot] [.Constant (.bool k) j pos'] pos) (RT B C XX (.isnB x k)) :=
 PT.imp (JEY JGJ ha JGG rfl) fun σ H Q ⟨δ,ok,kk⟩=>by
  simp only [evT] at kk
  refine RE.of (W:=fun r H=>KB XX r H Q) ok (fun _ _ z=>z) (fun _ z=>z) kk fun d v H1 s1 d1 h1=>?_
  cases d<;>first | exact False.elim h1 | skip
  rename_i t
  simp only [Den] at d1
  exact ⟨t,k,d1,rfl,!(t==k),rfl,h1 H1 s1⟩
theorem JC7:∀ {ys:List D} {d:D},allD ys=.ok d→∃bs:List Bool,ys=bs.map PyData.bool∧d=.bool (bs.all id)
 | [],d,h=>by simp only [allD] at h;cases h;exact ⟨[],rfl,rfl⟩
 | y::r,d,h=>by
  cases y<;>simp only [allD,reduceCtorEq] at h
  rename_i b
  split at h
  ·rename_i c e
   cases h
   obtain ⟨bs,h1,h2⟩:=JC7 e
   refine ⟨b::bs,by rw [h1];rfl,?_⟩
   simp only [PyData.bool.injEq] at h2
   simp only [List.all_cons,id,h2]
  ·cases h
theorem JIO:∀ {ys:List D} {c:Nat},allD ys≠.exc c
 | [],c=>by simp only [allD];intro h;cases h
 | y::r,c=>by
  cases y<;>simp only [allD]<;>first | (intro h;cases h;done) | skip
  split<;>(intro h;cases h)
theorem JDB {H:Hp}:∀ {bs:List Bool} {vs:List V},DenL B H (bs.map PyData.bool) vs→vs=bs.map V.bl
 | [],vs,h=>by simpa only [List.map_nil,DenL] using h
 | b::bs,vs,h=>by
  simp only [List.map_cons,DenL,Den] at h
  obtain ⟨v,r,e,q,l⟩:=h
  subst e;subst q
  rw [JDB l];rfl
theorem JC1:∀ {bs:List Bool} {us:List Value},Vals (bs.map V.bl) us→us=bs.map Value.bool
 | [],us,h=>by cases h;rfl
 | b::bs,us,h=>by
  cases h with
  | cons r1 r2 =>
   cases r1
   rw [JC1 r2];rfl
theorem all_range (bs:List Bool):((List.range bs.length).all fun i=>bs.getD i false)=bs.all id:=by
 rw [Bool.eq_iff_iff]
 simp only [List.all_eq_true,List.mem_range,id]
 constructor
 ·intro h b hb
  obtain ⟨i,hi,e⟩:=List.getElem_of_mem hb
  have:=h i hi
  rw [List.getD_eq_getElem?_getD,List.getElem?_eq_getElem hi] at this
  simpa [e] using this
 ·intro h i hi
  rw [List.getD_eq_getElem?_getD,List.getElem?_eq_getElem hi]
  exact h _ (List.getElem_mem hi)
theorem JGq [Cool G] (g:Gk X B C CX XX G):CallR X (.builtin "all") (fun vs H Q=>∃ds,DenL B H ds vs∧KE B XX (bltD .all ds) H Q):=by
 intro pins s σ H vs us Q I r ⟨ds,dn,k⟩
 match ds,dn,k with
 | [.list ys],dn,k =>
  simp only [DenL,Den] at dn
  obtain ⟨v,r1,e,⟨a,xs,e1,hq,dl⟩,e2⟩:=dn
  subst e2;subst e1;subst e
  cases r with
  | cons ra rb =>
   cases rb
   cases ra
   rw [←g.K] at hq
   obtain ⟨its,rv,p,hz⟩:=I.list hq
   simp only [bltD] at k
   cases hk:allD ys with
   | ok d =>
    rw [hk] at k
    obtain ⟨bs,e1,e2⟩:=JC7 hk
    subst e1;subst e2
    have e3:=JDB dl
    subst e3
    have e4:=JC1 rv
    subst e4
    have hA:X.A.handled=none:=I.ok.hd (g.calm inferInstance)
    have hlt:a<s.heap.objs.size:=by
     obtain ⟨o,n,ho,_⟩:=p
     exact Heap.lt_size ho
    refine call_all_walk (wpAny_pyIter_list p.isList ?_)
    have hne:a≠s.heap.objs.size:=Nat.ne_of_lt hlt
    refine ⟨s.heap.objs.size,_,_,_,_,_,(fun i=>bs.getD i false),rfl,Walks.list (prog:=X.prog) (w:=X.w) (A:=X.A.in1) hA s.heap.objs.size a hne (bs.map Value.bool).toArray,?_,?_,?_⟩
    ·exact ⟨⟨_,Heap.get?_push_size _ rfl,rfl,rfl⟩,p.isList.at fun o e=>Heap.get?_push_of_some _ e⟩
    ·intro i v s' Q' E' hP hQ
     simp only [List.getElem?_toArray,List.getElem?_map] at hP
     obtain ⟨b,hb,rfl⟩:=Option.map_eq_some_iff.mp hP
     refine wpAny_truthy_bool ?_
     have hQ:Q' (bs.getD i false) s':=hQ
     rw [List.getD_eq_getElem?_getD,hb] at hQ
     exact hQ
    ·intro h' tk hk'
     refine ⟨.bl _,H,I.kept fun b o e=>hk' b o ?_ (Heap.get?_push_of_some _ e),rfl,?_⟩
     ·simp only [List.mem_singleton]
      exact Nat.ne_of_lt (Heap.lt_size e)
     ·have:((List.range (bs.map Value.bool).toArray.size).all fun i=>bs.getD i false)=bs.all id:=by
       rw [List.size_toArray,List.length_map];exact all_range bs
      rw [this]
      exact KE.ok k (by simp only [Den])
   | exc c=>exact (JIO hk).elim
   | bad=>rw [hk] at k;exact k.elim
 | [],_,k=>exact False.elim k
 | [.none],_,k=>exact False.elim k
 | [.bool _],_,k=>exact False.elim k
 | [.int _],_,k=>exact False.elim k
 | [.str _],_,k=>exact False.elim k
 | [.tuple _],_,k=>exact False.elim k
 | [.dict _],_,k=>exact False.elim k
 | d1::d2::r,_,k=>cases d1<;>exact False.elim k
end
end VI
end
section
namespace VI
open PySem PySem.Spec PyProof.Rows L2
section
variable {X:Cx} {B:Bs} {C:Cn} {CX:CXT} {XX:Nat→Hp→Prop} {G:List (Str×GK)} {a b c tg:Expr} {x y z:E} {pos p:Pos}
theorem JIm (g:Gk X B C CX XX G) {j:Nat} {pos':Pos} (ha:PE X a (RE B C XX x)):PT X (.Compare a [.Is] [.Constant .none j pos'] pos) (RT B C XX (.isN x false)) :=
 PT.imp (JKM (JJr ha)) fun σ H Q ⟨δ,ok,k⟩=>by
  simp only [evT] at k
  refine RE.of (W:=fun r H=>KB XX r H Q) ok (fun _ _ z=>z) (fun _ z=>z) k fun d v H1 s1 d1 h1=>?_
  exact ⟨isNone d,by rw [JCO d1],by simpa using h1 H1 s1⟩
theorem JLA (g:Gk X B C CX XX G) {j:Nat} {pos':Pos} (ha:PE X a (RE B C XX x)):PT X (.Compare a [.IsNot] [.Constant .none j pos'] pos) (RT B C XX (.isN x true)) :=
 PT.imp (JKM (JGi ha)) fun σ H Q ⟨δ,ok,k⟩=>by
  simp only [evT] at k
  refine RE.of (W:=fun r H=>KB XX r H Q) ok (fun _ _ z=>z) (fun _ z=>z) k fun d v H1 s1 d1 h1=>?_
  exact ⟨!isNone d,by rw [JCO d1],by simpa using h1 H1 s1⟩
theorem JIB (g:Gk X B C CX XX G) {j:Nat} {pos':Pos} {k:Bool} (ha:PE X a (RE B C XX x)):PT X (.Compare a [.Is] [.Constant (.bool k) j pos'] pos) (RT B C XX (.isB x k)) :=
 PT.imp (JEY JJu ha JGG rfl) fun σ H Q ⟨δ,ok,kk⟩=>by
  simp only [evT] at kk
  refine RE.of (W:=fun r H=>KB XX r H Q) ok (fun _ _ z=>z) (fun _ z=>z) kk fun d v H1 s1 d1 h1=>?_
  cases d<;>first | exact False.elim h1 | skip
  rename_i t
  simp only [Den] at d1
  exact ⟨t,k,d1,rfl,t==k,rfl,h1 H1 s1⟩
end
theorem JBs {C:Cn} {k:Nat} {x y z:E} (δ:Env) (d:D) (h:ev C (.cmpr k x z y) δ=.ok d):∃ds,d=.list ds:=by
 simp only [ev] at h
 cases q:evI C z δ with
 | ok xs =>
  simp only [q,R.bind] at h
  split at h
  ·cases qz:JAr (itemF C k x y δ) xs with
   | ok zs=>unfold itemF at qz;simp only [R.bind] at qz;rw [qz] at h;cases h;exact ⟨zs,rfl⟩
   | exc c=>exact (JBq qz).elim
   | bad=>unfold itemF at qz;simp only [R.bind] at qz;rw [qz] at h;cases h
  ·cases h
 | exc c=>simp only [q,R.bind] at h;cases h
 | bad=>simp only [q,R.bind] at h;cases h
theorem JFp {a b:Expr} {op:Operator} {es:List Expr} {k:Nat} (h:JKl a op b=some (es,k)):∃p kk j p2,a=.List es p∧op=.Mult∧b=.Constant (.int kk) j p2∧k=kk.toNat∧0≤kk∧kk≤1000∧es.length≤1000:=by
 unfold JKl at h
 split at h
 ·split at h
  ·rename_i hc
   cases h
   exact ⟨_,_,_,_,rfl,rfl,rfl,rfl,hc.1,hc.2.1,hc.2.2⟩
  ·cases h
 ·cases h
theorem JFv {a b:Expr} {op:Operator} {u v:Int} (h:JMC a op b=some (u,v)):∃i p j p2,a=.Constant (.int u) i p∧op=.Pow∧b=.Constant (.int v) j p2∧0≤u∧u≤100∧0≤v∧v≤20:=by
 unfold JMC at h
 split at h
 ·split at h
  ·rename_i hc
   cases h
   exact ⟨_,_,_,_,rfl,rfl,rfl,hc.1,hc.2.1,hc.2.2.1,hc.2.2.2⟩
  ·cases h
 ·cases h
abbrev Ow:=Nat→Option Addr
open Classical in
noncomputable def hidP (H:Hp) (P:Addr→Prop):Hp:=fun b=>if P b then none else H b
noncomputable def ownP (O:Ow) (b:Addr):Prop:=∃i,O i=some b
noncomputable abbrev hid (H:Hp) (O:Ow):Hp:=hidP H (ownP O)
noncomputable def JAO (B:Bs) (H₀ H:Hp) (O:Ow) (σ:St) (i:Nat):Option Sl→Prop
 | some (.own d)=>∃a ds xs,O i=some a∧d=ds∧σ[i]? = some (some (.ref a))∧H a=some xs∧H₀ a=none∧OwnO B (hid H O) ds xs
 | some (.val d)=>O i=none∧∃v,σ[i]? = some (some v)∧Den B (hid H O) d v
 | _=>O i=none
structure SO (B:Bs) (H₀:Hp) (σ:St) (H:Hp) (δ:Env) (O:Ow):Prop where
 len:σ.length=δ.length
 same:Same H₀ H
 inj:∀i j a,O i=some a→O j=some a→i=j
 slot:∀i,JAO B H₀ H O σ i δ[i]?
noncomputable def JBr (X:Cx) (B:Bs) (XX:Nat→Hp→Prop) (Hb:Hp) (D:Ends):Fl→Prop
 | .nx δ=>∀σ H O,SO B Hb σ H δ O→D.nx σ H
 | .rt d=>∀v H,Same Hb H→Den B H d v→D.rt v H
 | .bk δ=>∀σ H O,SO B Hb σ H δ O→D.bk σ H
 | .ct δ=>∀σ H O,SO B Hb σ H δ O→D.ct σ H
 | .ex c=>XX c Hb
 | .bad=>False
noncomputable def RSt (X:Cx) (B:Bs) (C:Cn) (XX:Nat→Hp→Prop) (t:S):TS:=fun D σ H=>∃δ O Hb,Same X.H₀ Hb∧SO B Hb σ H δ O∧JBr X B XX Hb D (exec C t δ)
section
variable {B:Bs} {C:Cn} {CX:CXT} {G:List (Str×GK)}
structure XOk (B:Bs) (C:Cn) (CX:CXT) (G:List (Str×GK)) (k:XO):Prop where
 val:∀(X:Cx) (XX:Nat→Hp→Prop),Gk X B C CX XX G→∀(e:Expr) (args:List Expr) (y:E),xRaw G X.env.scope.names false e=some (k,args)→PA X args (RA B C XX y)→(∀a∈args,∀es env,starEach (a::es) env=(false,eval a env)::starEach es env)→cnt y=args.length→PE X e (RE B C XX (.xop k y))
 itr:∀(X:Cx) (XX:Nat→Hp→Prop),Gk X B C CX XX G→∀(tg e:Expr) (args:List Expr) (y:E),xRaw G X.env.scope.names true e=some (k,args)→PA X args (RA B C XX y)→(∀a∈args,∀es env,starEach (a::es) env=(false,eval a env)::starEach es env)→cnt y=args.length→PI X tg e (RI B C XX (.xop k y))
 tgt:∀(X:Cx) (XX:Nat→Hp→Prop),Gk X B C CX XX G→∀(ts:List Expr) (kt:Nat) (pt:Pos) (e:Expr) (args:List Expr) (y:E),xTgt G X.env.scope.names e=some (k,args)→PA X args (RA B C XX y)→(∀a∈args,∀es env,starEach (a::es) env=(false,eval a env)::starEach es env)→cnt y=args.length→PI X (.Tuple ts kt pt) e (RI B C XX (.xop k y))
noncomputable def PEs (X:Cx) (B:Bs) (C:Cn) (XX:Nat→Hp→Prop):List Expr→E→Prop
 | [],.nil=>True
 | a::r,.cons x y=>PE X a (RE B C XX x)∧PEs X B C XX r y
 | _,_=>False
structure DOk (B:Bs) (C:Cn) (CX:CXT) (G:List (Str×GK)):Prop where
 val:∀(X:Cx) (XX:Nat→Hp→Prop),Gk X B C CX XX G→∀(e:Expr) (k:XO) (args:List Expr) (y:E),dRaw G X.env.scope.names false e=some (k,args)→PEs X B C XX args y→(∀a∈args,∀es env,starEach (a::es) env=(false,eval a env)::starEach es env)→PE X e (RE B C XX (.xop k y))∧PT X e (RT B C XX (.xop k y))
 itr:∀(X:Cx) (XX:Nat→Hp→Prop),Gk X B C CX XX G→∀(tg e:Expr) (k:XO) (args:List Expr) (y:E),dRaw G X.env.scope.names true e=some (k,args)→PEs X B C XX args y→(∀a∈args,∀es env,starEach (a::es) env=(false,eval a env)::starEach es env)→PI X tg e (RI B C XX (.xop k y))
 own:∀(X:Cx) (XX:Nat→Hp→Prop),Gk X B C CX XX G→∀(e:Expr) (k:XO) (args:List Expr) (y:E),dRaw G X.env.scope.names false e=some (k,args)→JM1 k=true→PEs X B C XX args y→(∀a∈args,∀es env,starEach (a::es) env=(false,eval a env)::starEach es env)→PE X e (REF B C XX (.xop k y))
 frz:∀(X:Cx) (XX:Nat→Hp→Prop),Gk X B C CX XX G→∀(st:Stmt) (t:S) (i:Nat),PS X st (RSt X B C XX t)→PS X st (RSt X B C XX (.cons (.frz i) t))
 put:∀(X:Cx) (XX:Nat→Hp→Prop),Gk X B C CX XX G→∀(nm:Str) (i:Nat) (p1 p2 pos:Pos) (ke v:Expr) (z y:E),X.N[i]? = some nm→Vis X.env.scope nm→JAH nm=false→isSlice ke=false→PE X v (RE B C XX y)→PE X ke (RE B C XX z) →
  (∀t l,swapsWith v t l X.env=pure false)→PS X (.Assign [.Subscript (.Name nm p1) ke p2] v pos) (RSt X B C XX (.put i z y))
 pop:∀(X:Cx) (XX:Nat→Hp→Prop),Gk X B C CX XX G→∀(nm:Str) (i:Nat) (p1 ap cp pos:Pos) (a:Expr) (y:E),X.N[i]? = some nm→Vis X.env.scope nm→JAH nm=false→PE X a (RE B C XX y)→starEach [a] X.env=[(false,eval a X.env)]→(ap.endLine==cp.line)=true →
  PS X (.Expr (.Call (.Attribute (.Name nm p1) "pop" ap) [a] [] cp) pos) (RSt X B C XX (.pop i y))
structure RO (B:Bs) (C:Cn) (CX:CXT) (G:List (Str×GK)):Prop where
 count:G.lookup (".met":Str)=some GK.opt→∀(X:Cx) (XX:Nat→Hp→Prop),Gk X B C CX XX G→∀(o a:Expr) (x y:E) (ap cp:Pos),JBM o=false→(ap.endLine==cp.line)=true→PE X o (RE B C XX x)→PE X a (RE B C XX y)→starEach [a] X.env=[(false,eval a X.env)] →
  PE X (.Call (.Attribute o "count" ap) [a] [] cp) (RE B C XX (.mcount x y))
 index:G.lookup (".met":Str)=some GK.opt→∀(X:Cx) (XX:Nat→Hp→Prop),Gk X B C CX XX G→∀(o a:Expr) (x y:E) (ap cp:Pos),JBM o=false→(ap.endLine==cp.line)=true→PE X o (RE B C XX x)→PE X a (RE B C XX y)→starEach [a] X.env=[(false,eval a X.env)] →
  PE X (.Call (.Attribute o "index" ap) [a] [] cp) (RE B C XX (.mindex x y))
 get:G.lookup (".get":Str)=some GK.opt→∀(X:Cx) (XX:Nat→Hp→Prop),Gk X B C CX XX G→∀(o a b:Expr) (x y z:E) (ap cp:Pos),JBM o=false→(ap.endLine==cp.line)=true→PE X o (RE B C XX x)→PE X a (RE B C XX y)→PE X b (RE B C XX z) →
  starEach [a,b] X.env=[(false,eval a X.env),(false,eval b X.env)]→starEach [b] X.env=[(false,eval b X.env)]→PE X (.Call (.Attribute o "get" ap) [a,b] [] cp) (RE B C XX (.mget x y z))
 all:G.lookup ("all":Str)=some (.blt .all)→∀(X:Cx) (XX:Nat→Hp→Prop),Gk X B C CX XX G→CallR X (.builtin "all") (fun vs H Q=>∃ds,DenL B H ds vs∧KE B XX (bltD .all ds) H Q)
 rvs:G.lookup (".rvs":Str)=some GK.opt→∀(X:Cx) (XX:Nat→Hp→Prop),Gk X B C CX XX G→∀(a i:Expr) (x:E) (pos:Pos),JNl i=true→PE X a (RE B C XX x)→PE X (.Subscript a i pos) (RE B C XX (.fn1 .rev x))
structure Rare (B:Bs) (C:Cn) (CX:CXT) (G:List (Str×GK)):Prop where
 nox:∀outer H s e s',¬CX outer H s (EX B fun _ _=>False) e s'
 isi:∀(X:Cx) (XX:Nat→Hp→Prop),Gk X B C CX XX G→∀(a:Expr) (x:E) (t:Str) (ty:Ty) (p pt pos:Pos),Gl X "isinstance"→Gl X t→G.lookup ("isinstance":Str)=some GK.isi→(G.lookup t=some (.ty ty)∧JA8 ty=some t∨∃c,ty=.own c∧G.lookup t=some (.cls c))→JAH t=false →
  PE X a (RE B C XX x)→starEach [a,.Name t pt] X.env=(false,eval a X.env)::starEach [.Name t pt] X.env→PE X (.Call (.Name "isinstance" p) [a,.Name t pt] [] pos) (RE B C XX (.isi x ty))
 min:G.lookup ("min":Str)=some (.blt .min)→∀(X:Cx) (XX:Nat→Hp→Prop),Gk X B C CX XX G→CallR X (.builtin "min") (fun vs H Q=>∃ds,DenL B H ds vs∧KE B XX (bltD .min ds) H Q)
 dct:G.lookup (".dct":Str)=some GK.opt→∀(X:Cx) (XX:Nat→Hp→Prop),Gk X B C CX XX G→∀(n:Nat) (names:List (Str×NameKind)) (N:List Str) (ks:List (Option Expr)) (vs:List Expr) (xs:List Str) (x:E) (pos:Pos),(∀e x,JAN G n false names N e=some x→PE X e (RE B C XX x)) →
  strKeys ks=some xs→1≤xs.length→xs.length≤15→xs.length=vs.length→xs.Nodup→JAJ (JAN G n false names N) vs=some x→PE X (.Dict ks vs pos) (RE B C XX (.dct xs x))
 rep:G.lookup (".rep":Str)=some GK.opt→∀(X:Cx) (XX:Nat→Hp→Prop),Gk X B C CX XX G→∀(es:List Expr) (x:E) (k:Int) (j:Nat) (p p2 pos:Pos),PA X es (RA B C XX x)→cnt x≤1000→0≤k→k≤1000→PE X (.BinOp (.List es p) .Mult (.Constant (.int k) j p2) pos) (RE B C XX (.rep k.toNat x))
 xop:∀k:XO,G.lookup k.flag=some GK.opt→XOk B C CX G k
 dop:G.lookup (".dict":Str)=some GK.opt→DOk B C CX G
 ro:RO B C CX G
theorem JDY {names:List (Str×NameKind)} {e:Expr} {q:XO×List Expr} (h:xT G names e=some q):xTgt G names e=some q∧G.lookup q.1.flag=some GK.opt:=by
 unfold xT at h
 obtain ⟨r,h1,h2⟩:=Option.bind_eq_some_iff.mp h
 split at h2
 ·cases h2
  exact ⟨h1,by assumption⟩
 ·cases h2
theorem JEh {names:List (Str×NameKind)} {e:Expr} {q:XO×List Expr} (h:xT G names e=some q) (env:PySem.Env) (v:Value):foldedSetIterable e env v=pure v:=by
 obtain ⟨h1,_⟩:=JDY h
 unfold xTgt at h1
 split at h1
 ·rfl
 ·rfl
 ·cases h1
theorem JFR {names:List (Str×NameKind)} (h:dOn G names=true):G.lookup (".dict":Str)=some GK.opt:=of_decide_eq_true (Bool.and_eq_true_iff.mp h).1
theorem JFV {names:List (Str×NameKind)} {it:Bool} {e:Expr} {q:XO×List Expr} (h:dOf G names it e=some q):dRaw G names it e=some q∧G.lookup (".dict":Str)=some GK.opt:=by
 obtain ⟨r,h1,h2⟩:=Option.bind_eq_some_iff.mp h
 split at h2
 ·cases h2
  exact ⟨h1,JFR (by assumption)⟩
 ·cases h2
theorem JEt {names:List (Str×NameKind)} {it:Bool} {e:Expr} {q:XO×List Expr} (h:xOf G names it e=some q):(dRaw G names it e=some q∧G.lookup (".dict":Str)=some GK.opt)∨xRaw G names it e=some q∧G.lookup q.1.flag=some GK.opt:=by
 unfold xOf at h
 cases hd:dOf G names it e with
 | some r =>
  rw [hd] at h
  cases h
  exact .inl (JFV hd)
 | none =>
  rw [hd] at h
  obtain ⟨r,h1,h2⟩:=Option.bind_eq_some_iff.mp h
  split at h2
  ·rename_i hf
   cases h2
   exact .inr ⟨h1,hf⟩
  ·cases h2
theorem JIP {names:List (Str×NameKind)} {it:Bool} {e:Expr} {q:XO×List Expr} (h:xRaw G names it e=some q):q.1.isT=false:=by
 have srt:∀ {f:Str} {a:Expr} {q:XO×List Expr},JIe G names f a=some q→q.1.isT=false:=fun {f a q} h=>by
  unfold JIe at h
  split at h
  ·split at h
   ·split at h<;>(cases h;rfl)
   ·cases h;rfl
  ·cases h
 cases e<;>try exact JAE h
 rename_i f as ks p
 cases f<;>try exact JAE h
 rcases as with _ | ⟨a,_ | ⟨_,_⟩⟩<;>try exact JAE h
 rcases ks with _ | ⟨_,_⟩<;>try exact JAE h
 rename_i f p2
 have h:JGP G names it f a=some q:=h
 unfold JGP at h
 split at h
 ·split at h
  ·cases h;rfl
  ·exact srt h
 ·split at h
  ·split at h
   ·split at h
    ·cases h;rfl
    ·cases h
   ·cases h
  ·exact srt h
theorem JCf {n:Nat} {names:List (Str×NameKind)} {N:List Str}:∀ {es:List Expr} {x:E},JAJ (JAN G n false names N) es=some x→∀a∈es,∀r env,starEach (a::r) env=(false,eval a env)::starEach r env
 | e::es,x,h,a,ha,r,env=>by
  unfold JAJ at h
  obtain ⟨y,h1,h⟩:=Option.bind_eq_some_iff.mp h
  obtain ⟨z,h2,h⟩:=Option.bind_eq_some_iff.mp h
  rcases List.mem_cons.mp ha with z | ha
  ·subst z;exact JAV h1 r env
  ·exact JCf h2 a ha r env
theorem pes {X:Cx} {XX:Nat→Hp→Prop} {n:Nat} {names:List (Str×NameKind)} {N:List Str} (ih:∀e x,JAN G n false names N e=some x→PE X e (RE B C XX x)):∀ {es:List Expr} {x:E},JAJ (JAN G n false names N) es=some x→PEs X B C XX es x
 | [],x,h=>by unfold JAJ at h;cases h;exact trivial
 | e::r,x,h=>by
  unfold JAJ at h
  obtain ⟨y,h1,h⟩:=Option.bind_eq_some_iff.mp h
  obtain ⟨z,h2,h⟩:=Option.bind_eq_some_iff.mp h
  cases h
  exact ⟨ih e y h1,pes ih h2⟩
theorem sound (ra:Rare B C CX G):∀(n:Nat) (X:Cx) (XX:Nat→Hp→Prop) (names:List (Str×NameKind)) (N:List Str),Gk X B C CX XX G→X.env.scope.kind=.function→X.env.scope.names=names→X.N=N→N.Nodup →
  (∀e x,JAN G n false names N e=some x→PE X e (RE B C XX x)∧PT X e (RT B C XX x))∧(∀tg e x,JAN G n true names N e=some x→PI X tg e (RI B C XX x))
 | 0,X,XX,names,N,g,hk,hn,hN,hnd=>⟨fun e x h=>by simp [JAN,JAW,JAP] at h,fun tg e x h=>by simp [JAN,JAW,JAP] at h⟩
 | n+1,X,XX,names,N,g,hk,hn,hN,hnd=>by
  obtain ⟨ih,ihI⟩:=sound ra n X XX names N g hk hn hN hnd
  have ihE:∀e x,JAN G n false names N e=some x→PE X e (RE B C XX x):=fun e x h=>(ih e x h).1
  have truthOf:∀ {e:Expr} {x:E},PE X e (RE B C XX x)→(∀whole,isTrue e X.env whole=(do let v←whole;standAt e.pos;holding [v] (truthy v)))→(∀δ,evT C x δ=(ev C x δ).bind truth)→PE X e (RE B C XX x)∧PT X e (RT B C XX x) :=
    fun h1 h2 h3=>⟨h1,JLV g h1 h2 h3⟩
  have valOnly:∀ {e:Expr} {x:E},PE X e (RE B C XX x)→(∀δ,evT C x δ=.bad)→PE X e (RE B C XX x)∧PT X e (RT B C XX x):=fun h1 h2=>⟨h1,t_bad h2⟩
  have nameE:∀(b:Bool) (x:Str) (p:Pos) (y:E),xOf G names b (.Name x p)=none→JAN G (n+1) b names N (.Name x p)=some y→PE X (.Name x p) (RE B C XX y)∧((∀δ,evT C y δ=(ev C y δ).bind truth)∨∀δ,evT C y δ=.bad)∧∀δ,evI C y δ=(ev C y δ).bind JAk:=by
    intro b x p y hxx h
    rw [JAD hxx] at h;dsimp only [JAP] at h
    split at h
    ·cases h
    ·rename_i hb
     have hb':JAH x=false:=by simpa using hb
     split at h
     · rename_i hv
       obtain ⟨i,hi,e⟩:=Option.map_eq_some_iff.mp h
       subst e
       exact ⟨s_var (by rw [hN];exact JCU hi) (JC5 hn hv) hb',(.inl fun δ=>by simp only [evT,ev]),fun δ=>by simp only [evI,ev]⟩
     · split at h
       ·rename_i i hg
        cases h
        obtain ⟨_,h2,h3⟩:=JBN hg
        exact ⟨s_glo g (JBi hn h2) h3 hb',(.inr fun δ=>by simp only [evT]),fun δ=>by simp only [evI,ev]⟩
       ·cases h
  have callE:∀(b:Bool) (f:Str) (p pos:Pos) (args:List Expr) (y:E),xOf G names b (.Call (.Name f p) args [] pos)=none→JAN G (n+1) b names N (.Call (.Name f p) args [] pos)=some y→(∃i x,y=.call i x∧PE X (.Call (.Name f p) args [] pos) (RE B C XX y)) ∨
     (b=false∧((∃i x,y=.blt i x)∨(∃a t,y=.isi a t)∨∃o a,y=.fn1 o a)∧PE X (.Call (.Name f p) args [] pos) (RE B C XX y))∨(b=true∧∃x,y=.rng x∧∀tg,PI X tg (.Call (.Name f p) args [] pos) (RI B C XX y)):=by
    intro b f p pos args y hxx h
    rw [JAD hxx] at h;dsimp only [JAP] at h
    split at h
    ·rename_i i hg
     obtain ⟨h1,h2,h3⟩:=JBN hg
     split at h
     · rename_i e r
       obtain ⟨x,hx,e'⟩:=Option.map_eq_some_iff.mp h
       subst e'
       obtain ⟨a,ha,hx'⟩:=Option.bind_eq_some_iff.mp (by unfold JAJ at hx;exact hx)
       exact .inl ⟨i,x,rfl,s_call g (JBi hn h2) h3 h1 (allA g ihE hx) (JAV ha r X.env) (JBb hx)⟩
     · cases h
    ·rename_i hg
     obtain ⟨h1,h2,h3⟩:=JBN hg
     split at h
     · rename_i hb
       obtain ⟨hb1,hb2⟩:=hb
       subst hb2
       split at h
       ·rename_i a
        obtain ⟨x,hx,e'⟩:=Option.map_eq_some_iff.mp h
        subst e'
        obtain ⟨a',ha,_⟩:=Option.bind_eq_some_iff.mp (by unfold JAJ at hx;exact hx)
        exact .inr (.inr ⟨hb1,x,rfl,fun tg=>JO6 g (JBi hn h2) (g.rng _ h3) (allA g ihE hx) (JAU hx) (JAV ha [] X.env)⟩)
       ·rename_i a a2
        obtain ⟨x,hx,e'⟩:=Option.map_eq_some_iff.mp h
        subst e'
        obtain ⟨a',ha,hr⟩:=Option.bind_eq_some_iff.mp (by unfold JAJ at hx;exact hx)
        obtain ⟨r',hr',_⟩:=Option.bind_eq_some_iff.mp hr
        obtain ⟨a2',ha2,_⟩:=Option.bind_eq_some_iff.mp (by unfold JAJ at hr';exact hr')
        exact .inr (.inr ⟨hb1,x,rfl,fun tg=>JNH g (JBi hn h2) (g.rng _ h3) (allA g ihE hx) (JAU hx) (by rw [JAV ha [a2] X.env,JAV ha2 [] X.env];rfl) (JAV ha2 [] X.env)⟩)
       ·cases h
     · cases h
    ·rename_i bl hg
     obtain ⟨h1,h2,h3⟩:=JBN hg
     split at h
     · rename_i hb
       obtain ⟨hb1,hb2⟩:=hb
       split at h
       ·rename_i e r
        obtain ⟨x,hx,e'⟩:=Option.map_eq_some_iff.mp h
        subst e'
        obtain ⟨a,ha,hx'⟩:=Option.bind_eq_some_iff.mp (by unfold JAJ at hx;exact hx)
        refine .inr (.inl ⟨hb1,.inl ⟨bl,x,rfl⟩,?_⟩)
        subst hb2
        cases bl with
        | len=>exact JIf g (JHE g) PySem.boot_len (JBi hn h2) h3 h1 (allA g ihE hx) (JAV ha r X.env) (JBb hx)
        | abs=>exact JIf (id:="abs") g (JG5 g) (by decide +kernel) (JBi hn h2) h3 h1 (allA g ihE hx) (JAV ha r X.env) (JBb hx)
        | all=>exact JIf (id:="all") g (ra.ro.all h3 X XX g) (by decide +kernel) (JBi hn h2) h3 h1 (allA g ihE hx) (JAV ha r X.env) (JBb hx)
        | min=>exact JIf (id:="min") g (ra.min h3 X XX g) (by decide +kernel) (JBi hn h2) h3 h1 (allA g ihE hx) (JAV ha r X.env) (JBb hx)
       ·cases h
     · cases h
    ·rename_i hg
     obtain ⟨h1,h2,h3⟩:=JBN hg
     split at h
     · rename_i hb
       obtain ⟨hb1,hb2⟩:=hb
       subst hb2
       split at h
       ·rename_i a t pt
        split at h
        ·rename_i ty hgt
         obtain ⟨t1,t2,t3⟩:=JBN hgt
         split at h
         · rename_i ht
           obtain ⟨x,hx,e'⟩:=Option.map_eq_some_iff.mp h
           subst e'
           exact .inr (.inl ⟨hb1,.inr (.inl ⟨x,ty,rfl⟩),ra.isi X XX g a x t ty p pt pos (JBi hn h2) (JBi hn t2) h3 (.inl ⟨t3,ht⟩) t1 (ihE a x hx) (JAV hx _ X.env)⟩)
         · cases h
        ·rename_i c hgt
         obtain ⟨t1,t2,t3⟩:=JBN hgt
         obtain ⟨x,hx,e'⟩:=Option.map_eq_some_iff.mp h
         subst e'
         exact .inr (.inl ⟨hb1,.inr (.inl ⟨x,.own c,rfl⟩),ra.isi X XX g a x t (.own c) p pt pos (JBi hn h2) (JBi hn t2) h3 (.inr ⟨c,rfl,t3⟩) t1 (ihE a x hx) (JAV hx _ X.env)⟩)
        ·cases h
       ·cases h
     · cases h
    ·rename_i ty hg
     obtain ⟨h1,h2,h3⟩:=JBN hg
     split at h
     · rename_i hb
       obtain ⟨hb1,hb2⟩:=hb
       obtain ⟨o,ho,h⟩:=Option.bind_eq_some_iff.mp h
       match args,h with
       | [a],h =>
        obtain ⟨x,hx,e'⟩:=Option.map_eq_some_iff.mp h
        subst e'
        exact .inr (.inl ⟨hb1,.inr (.inr ⟨o,x,rfl⟩),JOI g ho hb2 (JBi hn h2) h3 h1 (ihE a x hx) (JAV hx [] X.env)⟩)
       | [],h=>cases h
       | _::_::_,h=>cases h
     · cases h
    ·cases h
  have tupE:∀(b:Bool) (es:List Expr) (k:Nat) (p:Pos) (y:E),xOf G names b (.Tuple es k p)=none→JAN G (n+1) b names N (.Tuple es k p)=some y→∃x,y=.tup x∧PE X (.Tuple es k p) (RE B C XX y):=by
    intro b es k p y hxx h
    rw [JAD hxx] at h;dsimp only [JAP] at h
    split at h
    ·rename_i hl
     obtain ⟨x,hx,e'⟩:=Option.map_eq_some_iff.mp h
     subst e'
     exact ⟨x,rfl,s_tup g (allA g ihE hx) (by rw [JAU hx];exact hl)⟩
    ·cases h
  have lstE:∀(b:Bool) (es:List Expr) (p:Pos) (y:E),xOf G names b (.List es p)=none→JAN G (n+1) b names N (.List es p)=some y→∃x,y=.lst x∧PE X (.List es p) (RE B C XX y):=by
    intro b es p y hxx h
    rw [JAD hxx] at h;dsimp only [JAP] at h
    split at h
    ·rename_i hl
     obtain ⟨x,hx,e'⟩:=Option.map_eq_some_iff.mp h
     subst e'
     exact ⟨x,rfl,s_lst g (allA g ihE hx) (by rw [JAU hx];exact hl)⟩
    ·cases h
  have subE:∀(b:Bool) (a i:Expr) (p:Pos) (y:E),xOf G names b (.Subscript a i p)=none→JAN G (n+1) b names N (.Subscript a i p)=some y→((∃x z,y=.idx x z)∨∃o x,y=.fn1 o x)∧PE X (.Subscript a i p) (RE B C XX y):=by
    intro b a i p y hxx h
    rw [JAD hxx] at h;dsimp only [JAP] at h
    split at h
    ·split at h
     · rename_i hr
       split at h
       case isFalse=>cases h
       rename_i hfl
       obtain ⟨x,hx,e'⟩:=Option.map_eq_some_iff.mp h
       subst e'
       exact ⟨.inr ⟨_,x,rfl⟩,ra.ro.rvs hfl X XX g a i x p hr (ihE a x hx)⟩
     · obtain ⟨q,hq,h⟩:=Option.bind_eq_some_iff.mp h
       obtain ⟨x,hx,e'⟩:=Option.map_eq_some_iff.mp h
       subst e'
       exact ⟨.inr ⟨_,x,rfl⟩,JL0 g hq (ihE a x hx)⟩
    ·rename_i hs
     obtain ⟨x,hx,h⟩:=Option.bind_eq_some_iff.mp h
     obtain ⟨z,hz,h⟩:=Option.bind_eq_some_iff.mp h
     cases h
     exact ⟨.inl ⟨x,z,rfl⟩,s_idx g (ihE a x hx) (ihE i z hz) (by simpa using hs)⟩
  constructor
  · intro e x h
    cases hxx:xOf G names false e with
    | some q =>
     rw [JFJ hxx] at h
     obtain ⟨y,hy,e'⟩:=Option.map_eq_some_iff.mp h
     subst e'
     rcases JEt hxx with ⟨q1,q2⟩ | ⟨q1,q2⟩
     · exact (ra.dop q2).val X XX g e q.1 q.2 y (by rw [hn];exact q1) (pes ihE hy) (JCf hy)
     · exact valOnly ((ra.xop q.1 q2).val X XX g e q.2 y (by rw [hn];exact q1) (allA g ihE hy) (JCf hy) (JAU hy)) fun δ=>by simp only [evT,JIP q1,Bool.false_eq_true,if_false]
    | none =>
    cases e with
    | Name nm p =>
     obtain ⟨h1,h2,_⟩:=nameE false nm p x hxx h
     rcases h2 with h2 | h2
     · exact truthOf h1 (fun _=>rfl) h2
     · exact valOnly h1 h2
    | Constant c j p =>
     rw [JAD hxx] at h;dsimp only [JAP] at h
     cases c<;>simp only [Option.some.injEq,reduceCtorEq] at h<;>subst h
     · exact valOnly s_non fun δ=>by simp only [evT]
     · exact truthOf s_bl (fun _=>rfl) fun δ=>by simp only [evT,ev,R.bind,truth]
     · exact valOnly s_int fun δ=>by simp only [evT]
     · exact valOnly s_str fun δ=>by simp only [evT]
    | Tuple es k p =>
     obtain ⟨y,rfl,h1⟩:=tupE false es k p x hxx h
     exact valOnly h1 fun δ=>by simp only [evT]
    | List es p =>
     obtain ⟨y,rfl,h1⟩:=lstE false es p x hxx h
     exact valOnly h1 fun δ=>by simp only [evT]
    | Subscript a i p =>
     obtain ⟨⟨y,z,rfl⟩ | ⟨o,y,rfl⟩,h1⟩:=subE false a i p x hxx h
     · exact truthOf h1 (fun _=>rfl) fun δ=>by simp only [evT,ev]
     · exact valOnly h1 fun δ=>by simp only [evT]
    | Dict ks vs p =>
     rw [JAD hxx] at h;dsimp only [JAP] at h
     split at h
     · rename_i xs hks
       split at h
       ·rename_i hc
        obtain ⟨y,hy,e'⟩:=Option.map_eq_some_iff.mp h
        subst e'
        exact valOnly (ra.dct hc.2.1 X XX g n names N ks vs xs y p ihE hks hc.2.2.1 hc.2.2.2.1 hc.2.2.2.2.1 (of_decide_eq_true hc.2.2.2.2.2) hy) fun δ=>by simp only [evT]
       ·cases h
     · cases h
    | BinOp a op b p =>
     rw [JAD hxx] at h;dsimp only [JAP] at h
     split at h
     · rename_i es k hr
       split at hr
       case isFalse=>cases hr
       rename_i hz
       obtain ⟨p1,kk,j,p2,rfl,rfl,rfl,rfl,hr1,hr2,hr3⟩:=JFp hr
       obtain ⟨y,hy,e'⟩:=Option.map_eq_some_iff.mp h
       subst e'
       exact valOnly (ra.rep hz.2 X XX g es y kk j p1 p2 p (allA g ihE hy) (by rw [JAU hy];exact hr3) hr1 hr2) fun δ=>by simp only [evT]
     · split at h
       ·rename_i u v hp
        obtain ⟨i1,q1,i2,q2,rfl,rfl,rfl,hp1,hp2,hp3,hp4⟩:=JFv hp
        split at h
        case isFalse=>cases h
        cases h
        exact valOnly (s_pow hp1 hp2 hp3 hp4) fun δ=>by simp only [evT]
       ·split at h
        ·rename_i ho
         obtain ⟨y,hy,h⟩:=Option.bind_eq_some_iff.mp h
         obtain ⟨z,hz,h⟩:=Option.bind_eq_some_iff.mp h
         cases h
         exact valOnly (JMN g (ihE a y hy) (ihE b z hz)) fun δ=>by simp only [evT]
        ·cases h
    | UnaryOp op a p =>
     rw [JAD hxx] at h;dsimp only [JAP] at h
     cases op<;>simp only [Option.map_eq_some_iff,reduceCtorEq] at h
     · obtain ⟨y,hy,e'⟩:=h
       subst e'
       exact ⟨s_not g (ihE a y hy),JH5 g (ih a y hy).2⟩
     · obtain ⟨y,hy,e'⟩:=h
       subst e'
       exact valOnly (s_neg g (ihE a y hy)) fun δ=>by simp only [evT]
    | BoolOp op es p =>
     rw [JAD hxx] at h;dsimp only [JAP] at h
     cases op
     · obtain ⟨q1,q2⟩:=JJ2 g ih h
       exact ⟨q1,q2.pt⟩
     · obtain ⟨q1,q2⟩:=JOa g ih h
       exact ⟨q1,q2.pt⟩
    | Compare a ops bs p =>
     match ops,bs,h with
     | [op],[b],h =>
       rw [JAD hxx] at h;dsimp only [JAP] at h;rw [if_neg Bool.false_ne_true] at h
       have cmpd:∀(y z:E),PE X a (RE B C XX y)→PE X b (RE B C XX z)→behindInMarks op b=false→PE X (.Compare a [op] [b] p) (RE B C XX (.cmp op y z))∧PT X (.Compare a [op] [b] p) (RT B C XX (.cmp op y z)):=fun y z h1 h2 hm =>
        ⟨s_cmp g h1 h2 hm,JOE op (JEY (JOv g op) h1 h2 hm) (fun σ H Q ⟨δ,ok,k⟩=>two g (f:=cmpD op) (fun x y H dx dy h1 h2 k=>⟨dx,dy,h1,h2,k⟩) ⟨δ,ok,by simpa only [ev] using k⟩) (fun δ=>by simp only [evT,ev]) fun δ d h=>JET h⟩
       cases op<;>simp only at h<;>first
        |(split at h
          · cases h
          · rename_i hm
            obtain ⟨y,hy,h⟩:=Option.bind_eq_some_iff.mp h
            obtain ⟨z,hz,h⟩:=Option.bind_eq_some_iff.mp h
            cases h
            exact cmpd y z (ihE a y hy) (ihE b z hz) (by simpa using hm))
        | skip
       ·split at h
        ·obtain ⟨y,hy,e'⟩:=Option.map_eq_some_iff.mp h
         subst e'
         exact ⟨s_isN g (ihE a y hy),JIm g (ihE a y hy)⟩
        ·obtain ⟨y,hy,e'⟩:=Option.map_eq_some_iff.mp h
         subst e'
         exact ⟨s_isB g (ihE a y hy),JIB g (ihE a y hy)⟩
        ·cases h
       ·split at h
        ·obtain ⟨y,hy,e'⟩:=Option.map_eq_some_iff.mp h
         subst e'
         exact ⟨JLL g (ihE a y hy),JLA g (ihE a y hy)⟩
        ·obtain ⟨y,hy,e'⟩:=Option.map_eq_some_iff.mp h
         subst e'
         exact ⟨JNK g (ihE a y hy),JFG g (ihE a y hy)⟩
        ·cases h
     | [],_,h=>exact JAE ((JAD hxx).symm.trans h)
     | _::_::_,_,h=>exact JAE ((JAD hxx).symm.trans h)
     | [_],[],h=>exact JAE ((JAD hxx).symm.trans h)
     | [_],_::_::_,h=>exact JAE ((JAD hxx).symm.trans h)
    | IfExp c a b p =>
     rw [JAD hxx] at h;dsimp only [JAP] at h;rw [if_neg Bool.false_ne_true] at h
     obtain ⟨z,hz,h⟩:=Option.bind_eq_some_iff.mp h
     obtain ⟨y,hy,h⟩:=Option.bind_eq_some_iff.mp h
     obtain ⟨w,hw,h⟩:=Option.bind_eq_some_iff.mp h
     cases h
     exact valOnly (s_ife g (ih c z hz).2 (ihE a y hy) (ihE b w hw)) fun δ=>by simp only [evT]
    | Call f args kws p =>
     cases f with
     | Name nm p2 =>
       cases kws with
       | nil =>
        rcases callE false nm p2 p args x hxx h with ⟨i,y,rfl,h1⟩ | ⟨_,hs,h1⟩ | ⟨hb,_⟩
        ·exact truthOf h1 (fun _=>rfl) fun δ=>by simp only [evT,ev]
        ·rcases hs with ⟨i,y,rfl⟩ | ⟨y,t,rfl⟩ | ⟨o,y,rfl⟩
         · exact truthOf h1 (fun _=>rfl) fun δ=>by simp only [evT,ev]
         · exact truthOf h1 (fun _=>rfl) fun δ=>by simp only [evT,ev]
         · exact valOnly h1 fun δ=>by simp only [evT]
        ·cases hb
       | cons k ks=>exact JAE ((JAD hxx).symm.trans h)
     | Attribute o m ap =>
       cases kws with
       | cons k ks=>match args,h with
        | [],h=>exact JAE ((JAD hxx).symm.trans h)
        | [_],h=>exact JAE ((JAD hxx).symm.trans h)
        | [_,_],h=>exact JAE ((JAD hxx).symm.trans h)
        | _::_::_::_,h=>exact JAE ((JAD hxx).symm.trans h)
       | nil=>match args,h with
        | [],h=>exact JAE ((JAD hxx).symm.trans h)
        | _::_::_::_,h=>exact JAE ((JAD hxx).symm.trans h)
        | [a],hh =>
         clear h
         rw [JAD hxx] at hh;dsimp only [JAP] at hh
         split at hh
         · rename_i hc
           split at hh
           · rename_i hm
             subst hm
             obtain ⟨y,hy,hh⟩:=Option.bind_eq_some_iff.mp hh
             obtain ⟨z,hz,hh⟩:=Option.bind_eq_some_iff.mp hh
             cases hh
             exact valOnly (ra.ro.count hc.2 X XX g o a y z ap p hc.1.2.1 hc.1.2.2 (ihE o y hy) (ihE a z hz) (JAV hz [] X.env)) fun δ=>by simp only [evT]
           · split at hh
             ·rename_i hm
              subst hm
              obtain ⟨y,hy,hh⟩:=Option.bind_eq_some_iff.mp hh
              obtain ⟨z,hz,hh⟩:=Option.bind_eq_some_iff.mp hh
              cases hh
              exact valOnly (ra.ro.index hc.2 X XX g o a y z ap p hc.1.2.1 hc.1.2.2 (ihE o y hy) (ihE a z hz) (JAV hz [] X.env)) fun δ=>by simp only [evT]
             ·cases hh
         · cases hh
        | [a,b],hh =>
         clear h
         rw [JAD hxx] at hh;dsimp only [JAP] at hh
         split at hh
         · rename_i hc
           obtain ⟨⟨_,h1,h2,h3⟩,hfl⟩:=hc
           subst h3
           obtain ⟨y,hy,hh⟩:=Option.bind_eq_some_iff.mp hh
           obtain ⟨z,hz,hh⟩:=Option.bind_eq_some_iff.mp hh
           obtain ⟨w,hw,hh⟩:=Option.bind_eq_some_iff.mp hh
           cases hh
           exact valOnly (ra.ro.get hfl X XX g o a b y z w ap p h1 h2 (ihE o y hy) (ihE a z hz) (ihE b w hw) (by rw [JAV hz [b] X.env,JAV hw [] X.env];rfl) (JAV hw [] X.env)) fun δ=>by simp only [evT]
         · cases hh
     | _=>exact JAE ((JAD hxx).symm.trans h)
    | ListComp elt gens sc p =>
     match gens,h with
     | [],h=>exact JAE ((JAD hxx).symm.trans h)
     | ⟨_,_,_,_⟩::_::_,h=>exact JAE ((JAD hxx).symm.trans h)
     | [⟨tg,iter,ifs,as⟩],h =>
       rw [JAD hxx] at h;dsimp only [JAP] at h
       split at h
       ·cases h
       ·rename_i hc
        have hc1:as=0:=Decidable.byContradiction fun z=>hc (.inr (.inl z))
        have hc2:sc.kind=.function:=Decidable.byContradiction fun z=>hc (.inr (.inr (.inl z)))
        haveI:Cool G:=JCS fun z=>hc (.inr (.inr (.inr z)))
        subst hc1
        split at h
        ·cases h
        ·rename_i k xs htg
         split at h
         · rename_i hs
           obtain ⟨i,hi,h⟩:=Option.bind_eq_some_iff.mp h
           obtain ⟨y,hy,h⟩:=Option.bind_eq_some_iff.mp h
           have bk:=JJ5 hk hn hN hc2 hs
           refine valOnly ?_ fun δ=>?_
           · cases tg with
             | Name nm px =>
              simp only [JBn,Option.some.injEq,Prod.mk.injEq] at htg
              obtain ⟨e1,e2⟩:=htg
              subst e1;subst e2
              unfold itK at hi;rw [if_pos rfl] at hi
              have inner:=fun (Cc:Addr) (fp:List Addr) (s0:Shared) (H0:Hp)=>sound ra n (JAb X sc Cc ([nm]++mask [nm] 0 X.N) fp s0 H0) (fun _ _=>False) (JAq names sc.names) ([nm]++mask [nm] 0 N)
               (Gk.nox g rfl rfl rfl rfl rfl rfl rfl fun _ _ _ _ _ _ _ z=>(ra.nox _ _ _ _ _ z).elim) hc2 (by rw [←hn];exact JAT hk) (by rw [←hN];rfl) (by rw [←hN];exact bk.nd)
              have hloc:∀Cc fp s0 H0,(JAb X sc Cc ([nm]++mask [nm] 0 X.N) fp s0 H0).env.scope.names.lookup nm=some .local:=fun Cc fp s0 H0=>by
               show (compEnvC sc (JAi X.env.cells sc.names []) Cc X.env).scope.names.lookup nm=_
               rw [JAT hk]
               exact JA5 (bk.tg nm (by simp))
              match ifs,h with
              | [],h =>
               cases h
               exact REF.of (JCa g bk (ihI _ iter i hi) (JBZ hi X.env) fun Cc fp s0 H0 σ δ=>JBp (by exact bk.nd) rfl (hloc Cc fp s0 H0) ((inner Cc fp s0 H0).1 elt y hy).1 (fun c hc=>by cases hc) (.inl ⟨rfl,rfl⟩) rfl) JBs
              | [c],h =>
               obtain ⟨w,hw,h⟩:=Option.bind_eq_some_iff.mp h
               cases h
               exact REF.of (JCa g bk (ihI _ iter i hi) (JBZ hi X.env) fun Cc fp s0 H0 σ δ=>JBp (by exact bk.nd) rfl (hloc Cc fp s0 H0) ((inner Cc fp s0 H0).1 elt y hy).1 (fun c' hc=>by cases hc;exact ((inner Cc fp s0 H0).1 c w hw).2) (.inr ⟨c,rfl⟩) rfl) JBs
              | _::_::_,h=>cases h
             | Tuple ts kt pt =>
              simp only [JBn] at htg
              obtain ⟨xs',hx,htg⟩:=Option.bind_eq_some_iff.mp htg
              split at htg
              ·cases htg
              ·rename_i hne
               simp only [Option.some.injEq,Prod.mk.injEq] at htg
               obtain ⟨e1,e2⟩:=htg
               subst e2;subst e1
               have hk0:xs'.length≠0:=fun z=>hne (List.length_eq_zero_iff.mp z)
               unfold itK at hi;rw [if_neg hk0] at hi
               have inner:=fun (Cc:Addr) (fp:List Addr) (s0:Shared) (H0:Hp)=>sound ra n (JAb X sc Cc (xs'++mask xs' 0 X.N) fp s0 H0) (fun _ _=>False) (JAq names sc.names) (xs'++mask xs' 0 N)
                 (Gk.nox g rfl rfl rfl rfl rfl rfl rfl fun _ _ _ _ _ _ _ z=>(ra.nox _ _ _ _ _ z).elim) hc2 (by rw [←hn];exact JAT hk) (by rw [←hN];rfl) (by rw [←hN];exact bk.nd)
               have hloc:∀Cc fp s0 H0,∀nm∈xs',(JAb X sc Cc (xs'++mask xs' 0 X.N) fp s0 H0).env.scope.names.lookup nm=some .local:=fun Cc fp s0 H0 nm hnm=>by
                 show (compEnvC sc (JAi X.env.cells sc.names []) Cc X.env).scope.names.lookup nm=_
                 rw [JAT hk]
                 exact JA5 (bk.tg nm hnm)
               have hat:∀Cc fp s0 H0 (i:Nat) (nm:Str),xs'[i]? = some nm→(JAb X sc Cc (xs'++mask xs' 0 X.N) fp s0 H0).N[i]? = some nm:=fun Cc fp s0 H0 i nm e=>by
                 show (xs'++mask xs' 0 X.N)[i]? = some nm
                 rw [List.getElem?_append_left (List.getElem?_eq_some_iff.mp e).1];exact e
               obtain ⟨hpi,hfo⟩:PI X (.Tuple ts kt pt) iter (RI B C XX i)∧∀v,foldedSetIterable iter X.env v=pure v:=by
                 cases hq:xT G names iter with
                 | none=>rw [hq] at hi;exact ⟨ihI _ iter i hi,JBZ hi X.env⟩
                 | some q =>
                   rw [hq] at hi
                   obtain ⟨y',hy',rfl⟩:=Option.map_eq_some_iff.mp hi
                   obtain ⟨q1,q2⟩:=JDY hq
                   exact ⟨(ra.xop q.1 q2).tgt X XX g ts kt pt iter q.2 y' (by rw [hn];exact q1) (allA g ihE hy') (JCf hy') (JAU hy'),JEh hq X.env⟩
               match ifs,h with
               | [],h =>
                 cases h
                 exact REF.of (JCa g bk hpi hfo fun Cc fp s0 H0 σ δ=>item_tup rfl g.K hx hne (by exact bk.nd) (hat Cc fp s0 H0) (hloc Cc fp s0 H0) ((inner Cc fp s0 H0).1 elt y hy).1 (fun c hc=>by cases hc) (.inl ⟨rfl,rfl⟩) rfl) JBs
               | [c],h =>
                 obtain ⟨w,hw,h⟩:=Option.bind_eq_some_iff.mp h
                 cases h
                 exact REF.of (JCa g bk hpi hfo fun Cc fp s0 H0 σ δ=>item_tup rfl g.K hx hne (by exact bk.nd) (hat Cc fp s0 H0) (hloc Cc fp s0 H0) ((inner Cc fp s0 H0).1 elt y hy).1 (fun c' hc=>by cases hc;exact ((inner Cc fp s0 H0).1 c w hw).2) (.inr ⟨c,rfl⟩) rfl) JBs
               | _::_::_,h=>cases h
             | _=>simp [JBn] at htg
           · match ifs,h with
             | [],h=>cases h;simp only [evT]
             | [c],h =>
              obtain ⟨w,hw,h⟩:=Option.bind_eq_some_iff.mp h
              cases h
              simp only [evT]
             | _::_::_,h=>cases h
         · cases h
    | _=>exact JAE ((JAD hxx).symm.trans h)
  · intro tg e x h
    cases hxx:xOf G names true e with
    | some q =>
     rw [JFJ hxx] at h
     obtain ⟨y,hy,e'⟩:=Option.map_eq_some_iff.mp h
     subst e'
     rcases JEt hxx with ⟨q1,q2⟩ | ⟨q1,q2⟩
     · exact (ra.dop q2).itr X XX g tg e q.1 q.2 y (by rw [hn];exact q1) (pes ihE hy) (JCf hy)
     · exact (ra.xop q.1 q2).itr X XX g tg e q.2 y (by rw [hn];exact q1) (allA g ihE hy) (JCf hy) (JAU hy)
    | none =>
    cases e with
    | Name nm p =>
     obtain ⟨h1,_,h3⟩:=nameE true nm p x hxx h
     exact JEn g h1 h3
    | Tuple es k p =>
     obtain ⟨y,rfl,h1⟩:=tupE true es k p x hxx h
     refine JEn g h1 fun δ=>?_
     simp only [evI,ev]
     cases evA C y δ<;>rfl
    | List es p =>
     obtain ⟨y,rfl,h1⟩:=lstE true es p x hxx h
     refine JEn g h1 fun δ=>?_
     simp only [evI,ev]
     cases evA C y δ<;>rfl
    | Subscript a i p =>
     obtain ⟨⟨y,z,rfl⟩ | ⟨o,y,rfl⟩,h1⟩:=subE true a i p x hxx h
     · exact JEn g h1 fun δ=>by simp only [evI,ev]
     · exact JEn g h1 fun δ=>by simp only [evI,ev]
    | Call f args kws p =>
     cases f with
     | Name nm p2 =>
       cases kws with
       | nil =>
        rcases callE true nm p2 p args x hxx h with ⟨i,y,rfl,h1⟩ | ⟨hb,_⟩ | ⟨_,y,rfl,h1⟩
        ·exact JEn g h1 fun δ=>by simp only [evI,ev]
        ·cases hb
        ·exact h1 tg
       | cons k ks=>exact JAE ((JAD hxx).symm.trans h)
     | Attribute o m ap =>
       cases kws with
       | cons k ks=>match args,h with
        | [],h=>exact JAE ((JAD hxx).symm.trans h)
        | [_],h=>exact JAE ((JAD hxx).symm.trans h)
        | [_,_],h=>exact JAE ((JAD hxx).symm.trans h)
        | _::_::_::_,h=>exact JAE ((JAD hxx).symm.trans h)
       | nil=>match args,h with
        | [],h=>exact JAE ((JAD hxx).symm.trans h)
        | [_],h=>exact JAE ((JAD hxx).symm.trans h)
        | [_,_],h=>exact JAE ((JAD hxx).symm.trans h)
        | _::_::_::_,h=>exact JAE ((JAD hxx).symm.trans h)
     | _=>exact JAE ((JAD hxx).symm.trans h)
    | Compare a ops bs p=>match ops,bs,h with
     | [_],[_],h=>exact JAE ((JAD hxx).symm.trans h)
     | [],_,h=>exact JAE ((JAD hxx).symm.trans h)
     | _::_::_,_,h=>exact JAE ((JAD hxx).symm.trans h)
     | [_],[],h=>exact JAE ((JAD hxx).symm.trans h)
     | [_],_::_::_,h=>exact JAE ((JAD hxx).symm.trans h)
    | ListComp elt gens sc p=>match gens,h with
     | [],h=>exact JAE ((JAD hxx).symm.trans h)
     | ⟨_,_,_,_⟩::_::_,h=>exact JAE ((JAD hxx).symm.trans h)
     | [⟨tg,iter,ifs,as⟩],h=>exact JAE ((JAD hxx).symm.trans h)
    | BinOp a op b p =>
     rw [JAD hxx] at h;dsimp only [JAP] at h
     split at h
     · rename_i hr
       simp at hr
     · split at h
       ·simp at h
       ·split at h
        ·obtain ⟨y,hy,h⟩:=Option.bind_eq_some_iff.mp h
         obtain ⟨z,hz,h⟩:=Option.bind_eq_some_iff.mp h
         cases h
         exact JEn g (JMN g (ihE a y hy) (ihE b z hz)) fun δ=>by simp only [evI,ev]
        ·cases h
    | Dict ks vs p =>
     rw [JAD hxx] at h;dsimp only [JAP] at h
     split at h
     · simp at h
     · cases h
    | _=>exact JAE ((JAD hxx).symm.trans h)
theorem JGo (ra:Rare B C CX G) {n:Nat} {X:Cx} {XX:Nat→Hp→Prop} {names:List (Str×NameKind)} {N:List Str} (g:Gk X B C CX XX G) (hk:X.env.scope.kind=.function) (hn:X.env.scope.names=names) (hN:X.N=N) (hnd:N.Nodup)
  {elt:Expr} {gens:List Comprehension} {sc:Scope} {p:Pos} {x:E} (h:JAN G n false names N (.ListComp elt gens sc p)=some x) :
  ∃target iter ifs xs k y z w,gens=[⟨target,iter,ifs,0⟩]∧x=.cmpr k y z w∧BlkOk X sc xs∧PI X target iter (RI B C XX z)∧(∀v,foldedSetIterable iter X.env v=pure v) ∧
   ∀Cc fp s0 H0 σ δ,JBf (JAb X sc Cc (xs++mask xs 0 X.N) fp s0 H0) B σ xs.length δ target elt ifs (itemF C k y w δ):=by
 cases n with
 | zero=>simp [JAN,JAW,JAP,xOf,dOf,dRaw,Option.bind_none,ite_self,xRaw] at h
 | succ n =>
  match gens,h with
  | [],h=>simp [JAN,JAW,JAP,xOf,dOf,dRaw,Option.bind_none,ite_self,xRaw] at h
  | ⟨_,_,_,_⟩::_::_,h=>simp [JAN,JAW,JAP,xOf,dOf,dRaw,Option.bind_none,ite_self,xRaw] at h
  | [⟨tg,iter,ifs,as⟩],h =>
   simp only [JAN,JAW,JAP,xOf,dOf,dRaw,Option.bind_none,ite_self,xRaw,Option.bind_none] at h
   split at h
   ·cases h
   ·rename_i hc
    have hc1:as=0:=Decidable.byContradiction fun z=>hc (.inr (.inl z))
    have hc2:sc.kind=.function:=Decidable.byContradiction fun z=>hc (.inr (.inr (.inl z)))
    haveI:Cool G:=JCS fun z=>hc (.inr (.inr (.inr z)))
    subst hc1
    split at h
    ·cases h
    ·rename_i k xs htg
     split at h
     ·rename_i hs
      obtain ⟨i,hi,h⟩:=Option.bind_eq_some_iff.mp h
      obtain ⟨y,hy,h⟩:=Option.bind_eq_some_iff.mp h
      have bk:=JJ5 hk hn hN hc2 hs
      have ihI:=(sound ra n X XX names N g hk hn hN hnd).2
      cases tg with
      | Name nm px =>
       simp only [JBn,Option.some.injEq,Prod.mk.injEq] at htg
       obtain ⟨e1,e2⟩:=htg
       subst e1;subst e2
       unfold itK at hi;rw [if_pos rfl] at hi
       have inner:=fun (Cc:Addr) (fp:List Addr) (s0:Shared) (H0:Hp)=>sound ra n (JAb X sc Cc ([nm]++mask [nm] 0 X.N) fp s0 H0) (fun _ _=>False) (JAq names sc.names) ([nm]++mask [nm] 0 N)
        (Gk.nox g rfl rfl rfl rfl rfl rfl rfl fun _ _ _ _ _ _ _ z=>(ra.nox _ _ _ _ _ z).elim) hc2 (by rw [←hn];exact JAT hk) (by rw [←hN];rfl) (by rw [←hN];exact bk.nd)
       have hloc:∀Cc fp s0 H0,(JAb X sc Cc ([nm]++mask [nm] 0 X.N) fp s0 H0).env.scope.names.lookup nm=some .local:=fun Cc fp s0 H0=>by
        show (compEnvC sc (JAi X.env.cells sc.names []) Cc X.env).scope.names.lookup nm=_
        rw [JAT hk]
        exact JA5 (bk.tg nm (by simp))
       match ifs,h with
       | [],h =>
        cases h
        exact ⟨_,iter,[],[nm],0,y,i,_,rfl,rfl,bk,ihI _ iter i hi,JBZ hi X.env,fun Cc fp s0 H0 σ δ=>JBp (by exact bk.nd) rfl (hloc Cc fp s0 H0) ((inner Cc fp s0 H0).1 elt y hy).1 (fun c hc=>by cases hc) (.inl ⟨rfl,rfl⟩) rfl⟩
       | [c],h =>
        obtain ⟨w,hw,h⟩:=Option.bind_eq_some_iff.mp h
        cases h
        exact ⟨_,iter,[c],[nm],0,y,i,w,rfl,rfl,bk,ihI _ iter i hi,JBZ hi X.env,fun Cc fp s0 H0 σ δ=>JBp (by exact bk.nd) rfl (hloc Cc fp s0 H0) ((inner Cc fp s0 H0).1 elt y hy).1 (fun c' hc=>by cases hc;exact ((inner Cc fp s0 H0).1 c w hw).2) (.inr ⟨c,rfl⟩) rfl⟩
       | _::_::_,h=>cases h
      | Tuple ts kt pt =>
       simp only [JBn] at htg
       obtain ⟨xs',hx,htg⟩:=Option.bind_eq_some_iff.mp htg
       split at htg
       ·cases htg
       ·rename_i hne
        simp only [Option.some.injEq,Prod.mk.injEq] at htg
        obtain ⟨e1,e2⟩:=htg
        subst e2;subst e1
        have hk0:xs'.length≠0:=fun z=>hne (List.length_eq_zero_iff.mp z)
        unfold itK at hi;rw [if_neg hk0] at hi
        have inner:=fun (Cc:Addr) (fp:List Addr) (s0:Shared) (H0:Hp)=>sound ra n (JAb X sc Cc (xs'++mask xs' 0 X.N) fp s0 H0) (fun _ _=>False) (JAq names sc.names) (xs'++mask xs' 0 N)
          (Gk.nox g rfl rfl rfl rfl rfl rfl rfl fun _ _ _ _ _ _ _ z=>(ra.nox _ _ _ _ _ z).elim) hc2 (by rw [←hn];exact JAT hk) (by rw [←hN];rfl) (by rw [←hN];exact bk.nd)
        have hloc:∀Cc fp s0 H0,∀nm∈xs',(JAb X sc Cc (xs'++mask xs' 0 X.N) fp s0 H0).env.scope.names.lookup nm=some .local:=fun Cc fp s0 H0 nm hnm=>by
          show (compEnvC sc (JAi X.env.cells sc.names []) Cc X.env).scope.names.lookup nm=_
          rw [JAT hk]
          exact JA5 (bk.tg nm hnm)
        have hat:∀Cc fp s0 H0 (i:Nat) (nm:Str),xs'[i]? = some nm→(JAb X sc Cc (xs'++mask xs' 0 X.N) fp s0 H0).N[i]? = some nm:=fun Cc fp s0 H0 i nm e=>by
          show (xs'++mask xs' 0 X.N)[i]? = some nm
          rw [List.getElem?_append_left (List.getElem?_eq_some_iff.mp e).1];exact e
        obtain ⟨hpi,hfo⟩:PI X (.Tuple ts kt pt) iter (RI B C XX i)∧∀v,foldedSetIterable iter X.env v=pure v:=by
          cases hq:xT G names iter with
          | none=>rw [hq] at hi;exact ⟨ihI _ iter i hi,JBZ hi X.env⟩
          | some q =>
            rw [hq] at hi
            obtain ⟨y',hy',rfl⟩:=Option.map_eq_some_iff.mp hi
            obtain ⟨q1,q2⟩:=JDY hq
            exact ⟨(ra.xop q.1 q2).tgt X XX g ts kt pt iter q.2 y' (by rw [hn];exact q1) (allA g (fun e x h=>((sound ra n X XX names N g hk hn hN hnd).1 e x h).1) hy') (JCf hy') (JAU hy'),JEh hq X.env⟩
        match ifs,h with
        | [],h =>
          cases h
          exact ⟨_,iter,[],xs',_,y,i,_,rfl,rfl,bk,hpi,hfo,fun Cc fp s0 H0 σ δ=>item_tup rfl g.K hx hne (by exact bk.nd) (hat Cc fp s0 H0) (hloc Cc fp s0 H0) ((inner Cc fp s0 H0).1 elt y hy).1 (fun c hc=>by cases hc) (.inl ⟨rfl,rfl⟩) rfl⟩
        | [c],h =>
          obtain ⟨w,hw,h⟩:=Option.bind_eq_some_iff.mp h
          cases h
          exact ⟨_,iter,[c],xs',_,y,i,w,rfl,rfl,bk,hpi,hfo,fun Cc fp s0 H0 σ δ=>item_tup rfl g.K hx hne (by exact bk.nd) (hat Cc fp s0 H0) (hloc Cc fp s0 H0) ((inner Cc fp s0 H0).1 elt y hy).1 (fun c' hc=>by cases hc;exact ((inner Cc fp s0 H0).1 c w hw).2) (.inr ⟨c,rfl⟩) rfl⟩
        | _::_::_,h=>cases h
      | _=>simp [JBn] at htg
     ·cases h
theorem JHa {n:Nat} {names:List (Str×NameKind)} {N:List Str} {elt:Expr} {gens:List Comprehension} {sc:Scope} {p:Pos} {x:E} (h:JAN G n false names N (.ListComp elt gens sc p)=some x):Cool G:=by
 cases n with
 | zero=>simp [JAN,JAW,JAP,xOf,dOf,dRaw,Option.bind_none,ite_self,xRaw] at h
 | succ n =>
  match gens,h with
  | [],h=>simp [JAN,JAW,JAP,xOf,dOf,dRaw,Option.bind_none,ite_self,xRaw] at h
  | ⟨_,_,_,_⟩::_::_,h=>simp [JAN,JAW,JAP,xOf,dOf,dRaw,Option.bind_none,ite_self,xRaw] at h
  | [⟨tg,iter,ifs,as⟩],h =>
   simp only [JAN,JAW,JAP,xOf,dOf,dRaw,Option.bind_none,ite_self,xRaw,Option.bind_none] at h
   split at h
   ·cases h
   ·rename_i hc
    exact JCS fun z=>hc (.inr (.inr (.inr z)))
theorem JEE (ra:Rare B C CX G) {n:Nat} {X:Cx} {XX:Nat→Hp→Prop} {names:List (Str×NameKind)} {N:List Str} (g:Gk X B C CX XX G) (hk:X.env.scope.kind=.function) (hn:X.env.scope.names=names) (hN:X.N=N) (hnd:N.Nodup)
  {es:List Expr} {p:Pos} {x:E} (h:JAN G n false names N (.List es p)=some x):PE X (.List es p) (REF B C XX x):=by
 cases n with
 | zero=>simp [JAN,JAW,JAP,xOf,dOf,dRaw,Option.bind_none,ite_self,xRaw] at h
 | succ n =>
  simp only [JAN,JAW,JAP,xOf,dOf,dRaw,Option.bind_none,ite_self,xRaw,Option.bind_none] at h
  split at h
  ·rename_i hl
   obtain ⟨y,hx,e'⟩:=Option.map_eq_some_iff.mp h
   subst e'
   exact JM0 g (allA g (fun e x h=>((sound ra n X XX names N g hk hn hN hnd).1 e x h).1) hx) (by rw [JAU hx];exact hl)
  ·cases h
end
noncomputable def Agr (x:E) (δ δ':Env):Prop:=∀i,x.uses i=true→δ[i]? = δ'[i]?
theorem JIc {δ δ':Env} {i:Nat} (h:δ[i]? = δ'[i]?):look δ i=look δ' i:=by unfold look;rw [h]
theorem JIH {k:Nat} {d:D} {δ δ' δ1:Env} (h:push k d δ=.ok δ1):∃δ1',push k d δ'=.ok δ1'∧∀x:E,(∀i,x.uses (i+(if k=0 then 1 else k))=true→δ[i]? = δ'[i]?)→Agr x δ1 δ1':=by
 cases k with
 | zero =>
  have e:(.val d::δ)=δ1:=by injection h
  subst e
  refine ⟨_,rfl,fun x hx i hi=>?_⟩
  cases i with
  | zero=>rfl
  | succ i=>simpa using hx i hi
 | succ k =>
  unfold push at h ⊢
  cases d<;>first | cases h | skip
  rename_i ds
  simp only at h ⊢
  split at h
  ·rename_i hl
   have e:ds.map Sl.val++δ=δ1:=by injection h
   subst e
   rw [if_pos hl]
   refine ⟨_,rfl,fun x hx i hi=>?_⟩
   by_cases hi2:i<ds.length
   ·rw [List.getElem?_append_left (by simpa using hi2),List.getElem?_append_left (by simpa using hi2)]
   ·rw [List.getElem?_append_right (by simpa using hi2),List.getElem?_append_right (by simpa using hi2)]
    simp only [List.length_map]
    refine hx _ ?_
    rw [if_neg (Nat.succ_ne_zero k),←hl,Nat.sub_add_cancel (by omega)]
    exact hi
  ·cases h
theorem JHv {k:Nat} {d:D} {δ δ':Env} (h:push k d δ=.bad):push k d δ'=.bad:=by
 cases k with
 | zero=>cases h
 | succ k =>
  unfold push at h ⊢
  cases d<;>first | rfl | skip
  simp only at h ⊢
  split at h
  ·cases h
  ·rename_i hl;rw [if_neg hl]
theorem JIZ {k c:Nat} {d:D} {δ:Env}:push k d δ≠.exc c:=by
 cases k with
 | zero=>intro h;cases h
 | succ k =>
  unfold push
  cases d<;>simp only<;>(try split)<;>(intro h;cases h)
theorem ub_l {a b:Bool} (h:a=true):(a || b)=true:=by rw [h];rfl
theorem ub_r {a b:Bool} (h:b=true):(a || b)=true:=by rw [h];exact Bool.or_true a
theorem JAf {a b c:Bool} (h:a=true):(a || b || c)=true:=ub_l (ub_l h)
theorem JAc {a b c:Bool} (h:b=true):(a || b || c)=true:=ub_l (ub_r h)
theorem agree (C:Cn) (x:E):∀(δ δ':Env),Agr x δ δ'→ev C x δ=ev C x δ'∧evT C x δ=evT C x δ'∧evA C x δ=evA C x δ'∧evI C x δ=evI C x δ':=by
 induction x with
 | var i=>intro δ δ' h;simp only [ev,evT,evA,evI,JIc (h i (show (i==i)=true from beq_self_eq_true i)),and_self]
 | cint _ | cbl _ | cnon | cstr _ | glo _ | nil=>intro δ δ' h;simp only [ev,evT,evA,evI,and_self]
 | bin op a b iha ihb =>
  intro δ δ' h
  have ha:=iha δ δ' fun i hi=>h i (by first | exact hi | exact ub_l hi | exact ub_r hi | exact JAf hi | exact JAc hi)
  have hb:=ihb δ δ' fun i hi=>h i (by first | exact hi | exact ub_l hi | exact ub_r hi | exact JAf hi | exact JAc hi)
  simp only [ev,evT,evA,evI,ha.1,hb.1,and_self]
 | neg a iha =>
  intro δ δ' h
  have ha:=iha δ δ' fun i hi=>h i (by first | exact hi | exact ub_l hi | exact ub_r hi | exact JAf hi | exact JAc hi)
  simp only [ev,evT,evA,evI,ha.1,and_self]
 | not a iha =>
  intro δ δ' h
  have ha:=iha δ δ' fun i hi=>h i (by first | exact hi | exact ub_l hi | exact ub_r hi | exact JAf hi | exact JAc hi)
  simp only [ev,evT,evA,evI,ha.1,ha.2.1,and_self]
 | and a b iha ihb =>
  intro δ δ' h
  have ha:=iha δ δ' fun i hi=>h i (by first | exact hi | exact ub_l hi | exact ub_r hi | exact JAf hi | exact JAc hi)
  have hb:=ihb δ δ' fun i hi=>h i (by first | exact hi | exact ub_l hi | exact ub_r hi | exact JAf hi | exact JAc hi)
  simp only [ev,evT,evA,evI,ha.1,hb.1,ha.2.1,hb.2.1,and_self]
 | or a b iha ihb =>
  intro δ δ' h
  have ha:=iha δ δ' fun i hi=>h i (by first | exact hi | exact ub_l hi | exact ub_r hi | exact JAf hi | exact JAc hi)
  have hb:=ihb δ δ' fun i hi=>h i (by first | exact hi | exact ub_l hi | exact ub_r hi | exact JAf hi | exact JAc hi)
  simp only [ev,evT,evA,evI,ha.1,hb.1,ha.2.1,hb.2.1,and_self]
 | cmp op a b iha ihb =>
  intro δ δ' h
  have ha:=iha δ δ' fun i hi=>h i (by first | exact hi | exact ub_l hi | exact ub_r hi | exact JAf hi | exact JAc hi)
  have hb:=ihb δ δ' fun i hi=>h i (by first | exact hi | exact ub_l hi | exact ub_r hi | exact JAf hi | exact JAc hi)
  simp only [ev,evT,evA,evI,ha.1,hb.1,and_self]
 | isN a n iha =>
  intro δ δ' h
  have ha:=iha δ δ' fun i hi=>h i (by first | exact hi | exact ub_l hi | exact ub_r hi | exact JAf hi | exact JAc hi)
  simp only [ev,evT,evA,evI,ha.1,and_self]
 | isB a n iha =>
  intro δ δ' h
  have ha:=iha δ δ' fun i hi=>h i (by first | exact hi | exact ub_l hi | exact ub_r hi | exact JAf hi | exact JAc hi)
  simp only [ev,evT,evA,evI,ha.1,and_self]
 | ife c a b ihc iha ihb =>
  intro δ δ' h
  have hc:=ihc δ δ' fun i hi=>h i (by first | exact hi | exact ub_l hi | exact ub_r hi | exact JAf hi | exact JAc hi)
  have ha:=iha δ δ' fun i hi=>h i (by first | exact hi | exact ub_l hi | exact ub_r hi | exact JAf hi | exact JAc hi)
  have hb:=ihb δ δ' fun i hi=>h i (by first | exact hi | exact ub_l hi | exact ub_r hi | exact JAf hi | exact JAc hi)
  simp only [ev,evT,evA,evI,ha.1,hb.1,hc.2.1,and_self]
 | cons a r iha ihr =>
  intro δ δ' h
  have ha:=iha δ δ' fun i hi=>h i (by first | exact hi | exact ub_l hi | exact ub_r hi | exact JAf hi | exact JAc hi)
  have hr:=ihr δ δ' fun i hi=>h i (by first | exact hi | exact ub_l hi | exact ub_r hi | exact JAf hi | exact JAc hi)
  simp only [ev,evT,evA,evI,ha.1,hr.2.2.1,and_self]
 | tup es ih =>
  intro δ δ' h
  have ha:=ih δ δ' fun i hi=>h i (by first | exact hi | exact ub_l hi | exact ub_r hi | exact JAf hi | exact JAc hi)
  simp only [ev,evT,evA,evI,ha.2.2.1,and_self]
 | lst es ih =>
  intro δ δ' h
  have ha:=ih δ δ' fun i hi=>h i (by first | exact hi | exact ub_l hi | exact ub_r hi | exact JAf hi | exact JAc hi)
  simp only [ev,evT,evA,evI,ha.2.2.1,and_self]
 | fn1 o a iha =>
  intro δ δ' h
  have ha:=iha δ δ' fun i hi=>h i (by first | exact hi | exact ub_l hi | exact ub_r hi | exact JAf hi | exact JAc hi)
  simp only [ev,evT,evA,evI,ha.1,and_self]
 | xop k es ih =>
  intro δ δ' h
  have ha:=ih δ δ' fun i hi=>h i (by first | exact hi | exact ub_l hi | exact ub_r hi | exact JAf hi | exact JAc hi)
  simp only [ev,evT,evA,evI,ha.2.2.1,and_self]
 | isnB a n iha =>
  intro δ δ' h
  have ha:=iha δ δ' fun i hi=>h i (by first | exact hi | exact ub_l hi | exact ub_r hi | exact JAf hi | exact JAc hi)
  simp only [ev,evT,evA,evI,ha.1,and_self]
 | dct ks es ih =>
  intro δ δ' h
  have ha:=ih δ δ' fun i hi=>h i (by first | exact hi | exact ub_l hi | exact ub_r hi | exact JAf hi | exact JAc hi)
  simp only [ev,evT,evA,evI,ha.2.2.1,and_self]
 | rep k es ih =>
  intro δ δ' h
  have ha:=ih δ δ' fun i hi=>h i (by first | exact hi | exact ub_l hi | exact ub_r hi | exact JAf hi | exact JAc hi)
  simp only [ev,evT,evA,evI,ha.2.2.1,and_self]
 | idx a b iha ihb =>
  intro δ δ' h
  have ha:=iha δ δ' fun i hi=>h i (by first | exact hi | exact ub_l hi | exact ub_r hi | exact JAf hi | exact JAc hi)
  have hb:=ihb δ δ' fun i hi=>h i (by first | exact hi | exact ub_l hi | exact ub_r hi | exact JAf hi | exact JAc hi)
  simp only [ev,evT,evA,evI,ha.1,hb.1,and_self]
 | call f es ih =>
  intro δ δ' h
  have ha:=ih δ δ' fun i hi=>h i (by first | exact hi | exact ub_l hi | exact ub_r hi | exact JAf hi | exact JAc hi)
  simp only [ev,evT,evA,evI,ha.2.2.1,and_self]
 | blt b es ih =>
  intro δ δ' h
  have ha:=ih δ δ' fun i hi=>h i (by first | exact hi | exact ub_l hi | exact ub_r hi | exact JAf hi | exact JAc hi)
  simp only [ev,evT,evA,evI,ha.2.2.1,and_self]
 | rng es ih =>
  intro δ δ' h
  have ha:=ih δ δ' fun i hi=>h i (by first | exact hi | exact ub_l hi | exact ub_r hi | exact JAf hi | exact JAc hi)
  simp only [ev,evT,evA,evI,ha.2.2.1,and_self]
 | isi a t iha =>
  intro δ δ' h
  have ha:=iha δ δ' fun i hi=>h i (by first | exact hi | exact ub_l hi | exact ub_r hi | exact JAf hi | exact JAc hi)
  simp only [ev,evT,evA,evI,ha.1,and_self]
 | mcount a b iha ihb =>
  intro δ δ' h
  have ha:=iha δ δ' fun i hi=>h i (by first | exact hi | exact ub_l hi | exact ub_r hi | exact JAf hi | exact JAc hi)
  have hb:=ihb δ δ' fun i hi=>h i (by first | exact hi | exact ub_l hi | exact ub_r hi | exact JAf hi | exact JAc hi)
  simp only [ev,evT,evA,evI,ha.1,hb.1,and_self]
 | mindex a b iha ihb =>
  intro δ δ' h
  have ha:=iha δ δ' fun i hi=>h i (by first | exact hi | exact ub_l hi | exact ub_r hi | exact JAf hi | exact JAc hi)
  have hb:=ihb δ δ' fun i hi=>h i (by first | exact hi | exact ub_l hi | exact ub_r hi | exact JAf hi | exact JAc hi)
  simp only [ev,evT,evA,evI,ha.1,hb.1,and_self]
 | mget a b c iha ihb ihc =>
  intro δ δ' h
  have ha:=iha δ δ' fun i hi=>h i (by first | exact hi | exact ub_l hi | exact ub_r hi | exact JAf hi | exact JAc hi)
  have hb:=ihb δ δ' fun i hi=>h i (by first | exact hi | exact ub_l hi | exact ub_r hi | exact JAf hi | exact JAc hi)
  have hc:=ihc δ δ' fun i hi=>h i (by first | exact hi | exact ub_l hi | exact ub_r hi | exact JAf hi | exact JAc hi)
  simp only [ev,evT,evA,evI,ha.1,hb.1,hc.1,and_self]
 | cmpr k elt iter cond ihe ihi ihc =>
  intro δ δ' h
  have hi:=ihi δ δ' fun i hi=>h i (by first | exact hi | exact ub_l hi | exact ub_r hi | exact JAf hi | exact JAc hi)
  refine ⟨?_,by simp only [evT],by simp only [evA],by simp only [evI]⟩
  simp only [ev,hi.2.2.2]
  congr 1
  funext xs
  congr 2
  congr 1
  funext d
  cases q:push k d δ with
  | ok δ1 =>
   obtain ⟨δ1',q',ag⟩:=JIH (δ':=δ') q
   rw [q']
   have h1:=ihc δ1 δ1' (ag cond fun i hi=>h i (by exact ub_r hi))
   have h2:=ihe δ1 δ1' (ag elt fun i hi=>h i (by exact JAc hi))
   simp only [R.bind,h1.2.1,h2.1]
  | exc c=>exact (JIZ q).elim
  | bad=>rw [JHv (δ':=δ') q]
theorem JBC {H:Hp} {P:Addr→Prop} {b:Addr} (h:P b):hidP H P b=none:=by unfold hidP;rw [if_pos h]
theorem JAI {H:Hp} {P:Addr→Prop} {b:Addr} (h:¬P b):hidP H P b=H b:=by unfold hidP;rw [if_neg h]
theorem JA9 {H:Hp} {P:Addr→Prop} {b:Addr} {o:HO} (h:hidP H P b=some o):¬P b∧H b=some o:=by
 by_cases hp:P b
 ·rw [JBC hp] at h;cases h
 ·rw [JAI hp] at h;exact ⟨hp,h⟩
open Classical in
noncomputable def mixP (H H1:Hp) (P:Addr→Prop):Hp:=fun b=>if P b then H b else H1 b
theorem JBt {H H1:Hp} {P:Addr→Prop} {b:Addr} (h:P b):mixP H H1 P b=H b:=by unfold mixP;rw [if_pos h]
theorem JAQ {H H1:Hp} {P:Addr→Prop} {b:Addr} (h:¬P b):mixP H H1 P b=H1 b:=by unfold mixP;rw [if_neg h]
section
variable {X:Cx} {pins ps:List (Addr×Obj)} {σ:St} {H H1:Hp} {s s1:Shared} {P:Addr→Prop}
theorem JHC (I:Inv X pins σ H s) {a:Addr} {xs:HO} (h:H a=some xs) (h0:X.H₀ a=none):a≠X.env.locals∧a ∉ X.fs:=by
 refine ⟨fun z=>(by rw [z,I.free] at h;cases h),fun z=>?_⟩
 obtain ⟨_,o,ho,_⟩:=I.ok.funs.mem z
 have:=I.base.free a o ho (I.ok.frf a z) fun q=>I.ok.exfs a q z
 rw [h] at this;cases this
theorem JBR (I:Inv X pins σ H s) (hP:∀a,P a→∃xs,H a=some xs∧X.H₀ a=none∧Ownb xs) (hps:∀p∈ps,P p.1∧s.heap.get? p.1=some p.2):Inv X (pins++ps) σ (hidP H P) s where
 ok:=I.ok
 os:=I.os
 bare:=I.bare
 base:=by
  have nP:∀b u,H b=some u→¬Ownb u→¬P b:=fun b u e hu hp=>by
   obtain ⟨xs,h1,_,h3⟩:=hP b hp
   rw [e] at h1;cases h1;exact hu h3
  refine ⟨I.base.keep,I.base.slot,fun b o e n hx=>?_,I.base.there,fun b xs e=>?_,fun b o u e=>?_,fun b t e=>?_⟩
  ·have:=I.base.free b o e n hx
   by_cases hp:P b
   ·exact JBC hp
   ·rw [JAI hp];exact this
  ·have q:=I.base.tups b xs e
   rw [JAI (nP b _ q fun z=>z)];exact q
  ·have q:=I.base.frzs b o u e
   rw [JAI (nP b _ q fun z=>z)];exact q
  ·obtain ⟨m,q⟩:=I.base.tbls b t e
   exact ⟨m,by rw [JAI (nP b _ q fun z=>z)];exact q⟩
 loc:=I.loc
 cell:=I.cell
 free:=by
  by_cases hp:P X.env.locals
  ·exact JBC hp
  ·rw [JAI hp];exact I.free
 freeC:=fun x c e=>by
  by_cases hp:P c
  ·exact JBC hp
  ·rw [JAI hp];exact I.freeC x c e
 pin:=fun p hp=>by
  have old:∀p∈X.pn++pins,s.heap.get? p.1=some p.2∧hidP H P p.1=none∧p.1≠X.env.locals∧p.1 ∉ X.fs∧∀v,p.2.data≠.cell v:=fun p hp=>by
   obtain ⟨h1,h2,h3⟩:=I.pin p hp
   refine ⟨h1,?_,h3⟩
   by_cases hq:P p.1
   ·exact JBC hq
   ·rw [JAI hq];exact h2
  rcases List.mem_append.mp hp with z | z
  ·exact old p (List.mem_append_left _ z)
  ·rcases List.mem_append.mp z with z | z
   ·exact old p (List.mem_append_right _ z)
   ·obtain ⟨hq,ho⟩:=hps p z
    obtain ⟨xs,h1,h0,h9⟩:=hP _ hq
    obtain ⟨n1,n2⟩:=JHC I h1 h0
    refine ⟨ho,JBC hq,n1,n2,fun v e=>?_⟩
    cases xs with
    | lst xs =>
     obtain ⟨_,its,n,_,e2⟩:=I.hok _ _ h1
     rw [ho] at e2
     have e3:p.2={ cls:=.type "list",data:=.seq its.toArray n }:=Option.some.inj e2
     rw [e3] at e
     have e4:Data.seq its.toArray n=Data.cell v:=e
     cases e4
    | dK kvs =>
     obtain ⟨_,_,vs,_,o2,es,ep,e2,_,e3,_⟩:=I.hok _ _ h1
     rw [ho] at e2
     cases e2
     rw [e] at e3
     cases e3
    | _=>exact h9.elim
 hok:=fun b u e=>by
  obtain ⟨hb,e⟩:=JA9 e
  refine (I.hok b u e).stay (fun c w _ q=>q) (fun c q=>?_) fun c xs q=>?_
  ·rw [JAI fun hc=>by obtain ⟨xs,h1,_,h9⟩:=hP c hc;rw [q] at h1;cases h1;exact h9];exact q
  ·rw [JAI fun hc=>by obtain ⟨ys,h1,_,h9⟩:=hP c hc;rw [q] at h1;cases h1;exact h9];exact q
 len:=I.len
theorem JA4 {σ':St} (I:Inv X pins σ H s) (J:Inv X (pins++ps) σ' H1 s1) (hP:∀a,P a→∃xs,H a=some xs∧X.H₀ a=none∧Ownb xs) (hps:∀a,P a→∃o,(a,o)∈ps∧s.heap.get? a=some o) :
  Inv X pins σ' (mixP H H1 P) s1∧∀a,P a→H1 a=none:=by
 have hpin:∀a,P a→∃o,s1.heap.get? a=some o∧H1 a=none∧s.heap.get? a=some o:=fun a ha=>by
  obtain ⟨o,hm,ho⟩:=hps a ha
  obtain ⟨h1,h2,_⟩:=J.pin (a,o) (List.mem_append_right _ (List.mem_append_right _ hm))
  exact ⟨o,h1,h2,ho⟩
 have nP:∀b u,H1 b=some u→¬P b:=fun b u e hp=>by obtain ⟨_,_,h,_⟩:=hpin b hp;rw [e] at h;cases h
 have nS:∀b o,X.s₀.heap.get? b=some o→X.H₀ b=none→b ∉ X.ex→¬P b:=fun b o e n hx hp=>by
  obtain ⟨xs,h1,_⟩:=hP b hp
  have:=I.base.free b o e n hx
  rw [h1] at this;cases this
 refine ⟨⟨J.ok,J.os,J.bare,⟨J.base.keep,J.base.slot,fun b o e n hx=>?_,J.base.there,fun b xs e=>?_,fun b o u e=>?_,fun b t e=>?_⟩,J.loc,J.cell,?_,fun x c e=>?_,fun p hp=>?_,fun b u e=>?_,J.len⟩,fun a ha=>?_⟩
 ·rw [JAQ (nS b o e n hx)];exact J.base.free b o e n hx
 ·have q:=J.base.tups b xs e
  rw [JAQ (nP b _ q)];exact q
 ·have q:=J.base.frzs b o u e
  rw [JAQ (nP b _ q)];exact q
 ·obtain ⟨m,q⟩:=J.base.tbls b t e
  exact ⟨m,by rw [JAQ (nP b _ q)];exact q⟩
 ·rw [JAQ fun hp=>by obtain ⟨xs,h1,_⟩:=hP _ hp;rw [I.free] at h1;cases h1];exact J.free
 ·rw [JAQ fun hp=>by obtain ⟨xs,h1,_⟩:=hP _ hp;rw [I.freeC x c e] at h1;cases h1];exact J.freeC x c e
 ·have hp':p∈X.pn++(pins++ps):=by
   rcases List.mem_append.mp hp with z | z
   ·exact List.mem_append_left _ z
   ·exact List.mem_append_right _ (List.mem_append_left _ z)
  obtain ⟨h1,h2,h3⟩:=J.pin p hp'
  refine ⟨h1,?_,h3⟩
  rw [JAQ fun hq=>by
   obtain ⟨xs,g1,_⟩:=hP _ hq
   have:=(I.pin p hp).2.1
   rw [g1] at this;cases this]
  exact h2
 ·by_cases hb:P b
  ·rw [JBt hb] at e
   obtain ⟨xs,h1,_,h9⟩:=hP b hb
   rw [h1] at e;cases e
   obtain ⟨o,g1,_,g3⟩:=hpin b hb
   cases u with
   | lst xs =>
    obtain ⟨z,its,n,r,e2⟩:=I.hok b _ h1
    rw [g3] at e2;cases e2
    exact ⟨z,its,n,r,g1⟩
   | dK kvs =>
    obtain ⟨z,z2,vs,r,o2,es,ep,e2,z3⟩:=I.hok b _ h1
    rw [g3] at e2;cases e2
    exact ⟨z,z2,vs,r,o,es,ep,g1,z3⟩
   | _=>exact h9.elim
  ·rw [JAQ hb] at e
   refine (J.hok b u e).stay (fun c w _ q=>q) (fun c q=>?_) fun c xs q=>?_
   ·rw [JAQ (nP c _ q)];exact q
   ·rw [JAQ (nP c _ q)];exact q
 ·obtain ⟨_,_,h,_⟩:=hpin a ha;exact h
end
noncomputable def JAa (x:E):Nat→Env→Env
 | _,[]=>[]
 | i,s::r=>(if x.uses i=true then s else if s.isOwn=true then .no else s)::JAa x (i+1) r
theorem JB9 (x:E):∀(δ:Env) (k i:Nat),(JAa x k δ)[i]? = (δ[i]?).map fun s=>if x.uses (k+i)=true then s else if s.isOwn=true then .no else s
 | [],_,_=>by simp [JAa]
 | s::r,k,0=>by simp [JAa]
 | s::r,k,i+1=>by
  have:=JB9 x r (k+1) i
  rw [show k+1+i=k+(i+1) by omega] at this
  simpa [JAa] using this
theorem JDs (x:E):∀(δ:Env) (k i:Nat),(JAv x k δ)[i]? = (δ[i]?).map fun s=>if x.uses (k+i)=true then s.frz else s
 | [],_,_=>by simp [JAv]
 | s::r,k,0=>by simp [JAv]
 | s::r,k,i+1=>by
  have:=JDs x r (k+1) i
  rw [show k+1+i=k+(i+1) by omega] at this
  simpa [JAv] using this
theorem JDc (x:E):∀(δ:Env) (k:Nat),(JAv x k δ).length=δ.length
 | [],_=>rfl
 | s::r,k=>by simp only [JAv,List.length_cons,JDc x r]
theorem JBT (x:E):∀(δ:Env) (k i:Nat) (s:Sl),JAR x k δ=false→δ[i]? = some s→x.uses (k+i)=true→s.isOwn=false
 | [],_,_,_,_,e,_=>by simp at e
 | s::r,k,0,t,h,e,hu=>by
  unfold JAR at h
  simp only [Bool.or_eq_false_iff,Bool.and_eq_false_iff] at h
  simp only [List.getElem?_cons_zero,Option.some.injEq] at e
  subst e
  rcases h.1 with z | z
  ·rw [Nat.add_zero] at hu;rw [hu] at z;cases z
  ·exact z
 | s::r,k,i+1,t,h,e,hu=>by
  unfold JAR at h
  simp only [Bool.or_eq_false_iff] at h
  exact JBT x r (k+1) i t h.2 (by simpa using e) (by rw [show k+1+i=k+(i+1) by omega];exact hu)
mutual
theorem JDC {B:Bs} {H1 H2:Hp} (hk:∀b o,H1 b=some o→¬Ownb o→H2 b=some o):∀(d:D) (v:V),JAS d=true→Den B H1 d v→Den B H2 d v
 | .none,_,_,h=>h
 | .bool _,_,_,h=>h
 | .int _,_,_,h=>h
 | .str _,_,_,h=>h
 | .list _,_,n,_=>by simp only [JAS] at n;cases n
 | .tuple ds,v,n,h=>by
  simp only [Den] at h ⊢
  obtain ⟨a,xs,e,q,l⟩:=h
  refine ⟨a,xs,e,?_,JBl hk ds xs (by simpa only [JAS] using n) l⟩
  rcases q with (q | ⟨o,q⟩) | q
  ·exact .inl (.inl (hk _ _ q fun z=>z))
  ·exact .inl (.inr ⟨o,hk _ _ q fun z=>z⟩)
  ·exact .inr q
 | .dict kvs,v,n,h=>by
  simp only [Den] at h ⊢
  rcases h with ⟨a,c,e,k,q⟩ | ⟨a,xs,e,q,l⟩
  ·exact .inl ⟨a,c,e,k,hk _ _ q fun z=>z⟩
  ·exfalso
   match kvs,n,l with
   | [],n,_=>simp [JAS] at n
   |(k,w)::r,n,l =>
    simp only [DenK] at l
    obtain ⟨x,v',r',_,ek,_⟩:=l
    subst ek
    simp [JAS] at n
theorem JBl {B:Bs} {H1 H2:Hp} (hk:∀b o,H1 b=some o→¬Ownb o→H2 b=some o):∀(ds:List D) (vs:List V),JA0 ds=true→DenL B H1 ds vs→DenL B H2 ds vs
 | [],_,_,h=>h
 | d::ds,vs,n,h=>by
  simp only [DenL] at h ⊢
  simp only [JA0,Bool.and_eq_true] at n
  obtain ⟨v,r,e,q,l⟩:=h
  exact ⟨v,r,e,JDC hk d v n.1 q,JBl hk ds r n.2 l⟩
end
section
variable {X:Cx} {B:Bs} {C:Cn} {CX:CXT} {XX:Nat→Hp→Prop} {G:List (Str×GK)} {pins:List (Addr×Obj)} {σ:St} {H:Hp} {s:Shared} {δ:Env} {O:Ow} {x:E} {Hb:Hp}
noncomputable def unP (x:E) (O:Ow) (b:Addr):Prop:=∃i,O i=some b∧x.uses i=false
theorem SO.own (so:SO B Hb σ H δ O) {i:Nat} {a:Addr} (h:O i=some a):∃ds xs,δ[i]? = some (.own ds)∧σ[i]? = some (some (.ref a))∧H a=some xs∧Hb a=none∧OwnO B (hid H O) ds xs:=by
 have q:=so.slot i
 cases e:δ[i]? with
 | none=>rw [e] at q;simp only [JAO] at q;rw [h] at q;cases q
 | some t =>
  rw [e] at q
  cases t with
  | no=>simp only [JAO] at q;rw [h] at q;cases q
  | val d=>simp only [JAO] at q;rw [h] at q;cases q.1
  | own d =>
   simp only [JAO] at q
   obtain ⟨a',ds,xs,e1,e2,e3,e4,e5,e6⟩:=q
   rw [h] at e1;cases e1
   subst e2
   exact ⟨_,xs,rfl,e3,e4,e5,e6⟩
noncomputable def JBP (x:E) (O:Ow) (n:Nat) (h:Heap):List (Addr×Obj) :=
 (List.range n).filterMap fun i=>match O i with
   | some a=>if x.uses i=true then none else (h.get? a).map fun o=>(a,o)
   | none=>none
theorem JAp (hb:Same X.H₀ Hb) (so:SO B Hb σ H δ O):∀a,unP x O a→∃xs,H a=some xs∧X.H₀ a=none∧Ownb xs:=fun a ⟨i,h,_⟩=>by
 obtain ⟨ds,xs,_,_,e4,e5,e6⟩:=so.own h
 exact ⟨xs,e4,hb.free e5,e6.b⟩
theorem JAs {n:Nat} {h:Heap}:∀p∈JBP x O n h,unP x O p.1∧h.get? p.1=some p.2:=fun p hp=>by
 obtain ⟨i,_,e⟩:=List.mem_filterMap.mp hp
 cases q:O i with
 | none=>rw [q] at e;cases e
 | some a =>
  rw [q] at e
  simp only at e
  split at e
  ·cases e
  ·rename_i hu
   obtain ⟨o,ho,e2⟩:=Option.map_eq_some_iff.mp e
   subst e2
   exact ⟨⟨i,q,by simpa using hu⟩,ho⟩
theorem JAm (I:Inv X pins σ H s) (so:SO B Hb σ H δ O):∀a,unP x O a→∃o,(a,o)∈JBP x O δ.length s.heap∧s.heap.get? a=some o:=fun a ⟨i,h,hu⟩=>by
 obtain ⟨ds,xs,e1,_,e4,_,e9⟩:=so.own h
 obtain ⟨oo,ho⟩:∃oo,s.heap.get? a=some oo:=by
  have h9:=e9.b
  cases xs with
  | lst xs=>obtain ⟨_,its,n,_,ho⟩:=I.hok a _ e4;exact ⟨_,ho⟩
  | dK kvs=>obtain ⟨_,_,vs,_,o2,es,ep,e2,_⟩:=I.hok _ _ e4;exact ⟨_,e2⟩
  | _=>exact h9.elim
 refine ⟨_,List.mem_filterMap.mpr ⟨i,List.mem_range.mpr (List.getElem?_eq_some_iff.mp e1).1,?_⟩,ho⟩
 rw [h]
 simp only [hu,Bool.false_eq_true,if_false,ho,Option.map_some]
theorem JAn (so:SO B Hb σ H δ O):Same Hb (hid H O):=fun b o e=>by
 rw [hid,JAI fun ⟨i,h⟩=>by obtain ⟨_,_,_,_,_,e5,_⟩:=so.own h;rw [e] at e5;cases e5]
 exact so.same b o e
theorem same_un:Same (hid H O) (hidP H (unP x O)):=fun b o e=>by
 obtain ⟨h1,h2⟩:=JA9 e
 rw [JAI fun ⟨i,h,_⟩=>h1 ⟨i,h⟩]
 exact h2
theorem JAl (so:SO B Hb σ H δ O):Sok B σ (hidP H (unP x O)) (JAa x 0 δ):=fun i d e=>by
 unfold look at e
 rw [JB9,Nat.zero_add] at e
 have q:=so.slot i
 cases e1:δ[i]? with
 | none=>rw [e1] at e;cases e
 | some t =>
  rw [e1] at e q
  simp only [Option.map_some] at e
  cases t with
  | no =>
   simp only [Sl.isOwn,Bool.false_eq_true,if_false,ite_self,Sl.get] at e
   cases e
  | val d' =>
   simp only [Sl.isOwn,Bool.false_eq_true,if_false,ite_self,Sl.get] at e
   cases e
   simp only [JAO] at q
   obtain ⟨_,v,e2,dn⟩:=q
   exact ⟨v,e2,Den.mono same_un d v dn⟩
  | own d' =>
   by_cases hu:x.uses i=true
   ·rw [if_pos hu] at e
    simp only [JAO] at q
    obtain ⟨a,ds,xs,q1,q2,q3,q4,q5,q6⟩:=q
    subst q2
    obtain ⟨ys,rfl,rfl⟩:∃ys,d'=.list ys∧d=.list ys:=by
     cases d' with
     | list ys=>simp only [Sl.get] at e;cases e;exact ⟨ys,rfl,rfl⟩
     | dict kvs=>simp only [Sl.get] at e;cases e
     | _=>cases xs<;>exact False.elim q6
    refine ⟨_,q3,(OwnO.mono same_un _ xs q6).den ?_⟩
    rw [JAI fun ⟨j,hj,hu2⟩=>by
     have:=so.inj i j a q1 hj
     subst this
     rw [hu] at hu2;cases hu2]
    exact q4
   ·rw [if_neg hu] at e
    simp only [Sl.isOwn,if_true,Sl.get] at e
    cases e
theorem JBV:Agr x δ (JAa x 0 δ):=fun i hi=>by
 rw [JB9,Nat.zero_add]
 cases δ[i]? with
 | none=>rfl
 | some t=>simp [hi]
theorem JCo (so:SO B Hb σ H δ O) {H1:Hp} (sm:Same (hidP H (unP x O)) H1) (hz:∀a,unP x O a→H1 a=none):SO B Hb σ (mixP H H1 (unP x O)) δ O:=by
 have s1:Same (hid H O) (hid (mixP H H1 (unP x O)) O):=fun b o e=>by
  obtain ⟨h1,h2⟩:=JA9 e
  rw [hid,JAI h1,JAQ fun ⟨i,h,_⟩=>h1 ⟨i,h⟩]
  exact sm b o (by rw [JAI fun ⟨i,h,_⟩=>h1 ⟨i,h⟩];exact h2)
 refine ⟨so.len,fun b o e=>?_,so.inj,fun i=>?_⟩
 ·have e1:=JAn so b o e
  obtain ⟨_,h2⟩:=JA9 (s1 b o e1)
  exact h2
 ·have q:=so.slot i
  cases e1:δ[i]? with
  | none=>rw [e1] at q;exact q
  | some t =>
   rw [e1] at q
   cases t with
   | no=>exact q
   | val d =>
    simp only [JAO] at q ⊢
    obtain ⟨h0,v,e2,dn⟩:=q
    exact ⟨h0,v,e2,Den.mono s1 d v dn⟩
   | own d =>
    simp only [JAO] at q ⊢
    obtain ⟨a,ds,xs,q1,q2,q3,q4,q5,q6⟩:=q
    refine ⟨a,ds,xs,q1,q2,q3,?_,q5,OwnO.mono s1 ds xs q6⟩
    by_cases hp:unP x O a
    ·rw [JBt hp];exact q4
    ·rw [JAQ hp]
     exact sm a _ (by rw [JAI hp];exact q4)
noncomputable def frzO (x:E) (O:Ow):Ow:=fun i=>if x.uses i=true then none else O i
theorem ownP_frz {b:Addr}:ownP (frzO x O) b↔unP x O b:=by
 constructor
 ·rintro ⟨i,h⟩
  unfold frzO at h
  split at h
  ·cases h
  ·rename_i hu;exact ⟨i,h,by simpa using hu⟩
 ·rintro ⟨i,h,hu⟩
  exact ⟨i,by unfold frzO;rw [if_neg (by rw [hu];exact Bool.false_ne_true)];exact h⟩
theorem JA6 {H1:Hp} (hz:∀a,unP x O a→H1 a=none):Same H1 (hid (mixP H H1 (unP x O)) (frzO x O)):=fun b o e=>by
 have hb:¬unP x O b:=fun h=>by rw [hz b h] at e;cases e
 rw [hid,JAI (fun h=>hb (ownP_frz.mp h)),JAQ hb]
 exact e
theorem JFK (so:SO B Hb σ H δ O) {H1:Hp} (sm:Same (hidP H (unP x O)) H1) (hz:∀a,unP x O a→H1 a=none):SO B Hb σ (mixP H H1 (unP x O)) (JAv x 0 δ) (frzO x O):=by
 have s1:Same (hid H O) (hid (mixP H H1 (unP x O)) (frzO x O)):=(same_un.trans sm).trans (JA6 hz)
 have k:=JCo so sm hz
 refine ⟨by rw [JDc];exact so.len,k.same,fun i j a h1 h2=>?_,fun i=>?_⟩
 ·unfold frzO at h1 h2
  split at h1
  ·cases h1
  ·split at h2
   ·cases h2
   ·exact so.inj i j a h1 h2
 ·rw [JDs,Nat.zero_add]
  have q:=so.slot i
  cases e1:δ[i]? with
  | none=>rw [e1] at q;simp only [JAO,Option.map_none] at q ⊢;unfold frzO;split<;>first | rfl | exact q
  | some t =>
   rw [e1] at q
   simp only [Option.map_some]
   cases t with
   | no =>
    simp only [Sl.frz,ite_self,JAO] at q ⊢
    unfold frzO;split<;>first | rfl | exact q
   | val d =>
    simp only [Sl.frz,ite_self,JAO] at q ⊢
    obtain ⟨h0,v,e2,dn⟩:=q
    exact ⟨by unfold frzO;split<;>first | rfl | exact h0,v,e2,Den.mono s1 d v dn⟩
   | own d =>
    by_cases hu:x.uses i=true
    ·rw [if_pos hu]
     have ho:frzO x O i=none:=by unfold frzO;rw [if_pos hu]
     simp only [JAO] at q
     obtain ⟨a,ds,xs,q1,q2,q3,q4,q5,q6⟩:=q
     subst q2
     cases d with
     | dict kvs=>simp only [Sl.frz,JAO];exact ho
     | none=>cases xs<;>exact False.elim q6
     | bool _=>cases xs<;>exact False.elim q6
     | int _=>cases xs<;>exact False.elim q6
     | str _=>cases xs<;>exact False.elim q6
     | tuple _=>cases xs<;>exact False.elim q6
     | list ys =>
     simp only [Sl.frz,JAO]
     refine ⟨ho,_,q3,(OwnO.mono s1 _ xs q6).den ?_⟩
     have hp:¬unP x O a:=fun ⟨j,hj,hu2⟩=>by
      have:=so.inj i j a q1 hj
      subst this
      rw [hu] at hu2;cases hu2
     exact JA6 hz a _ (sm a _ (by rw [JAI hp];exact q4))
    ·rw [if_neg hu]
     simp only [JAO] at q ⊢
     obtain ⟨a,ds,xs,q1,q2,q3,q4,q5,q6⟩:=q
     have hp:unP x O a:=⟨i,q1,by simpa using hu⟩
     refine ⟨a,ds,xs,by unfold frzO;rw [if_neg hu];exact q1,q2,q3,by rw [JBt hp];exact q4,q5,OwnO.mono s1 ds xs q6⟩
theorem JEp (so:SO B Hb σ H δ O) {H1:Hp} {d:D} {v:V} (sm:Same (hidP H (unP x O)) H1) (hz:∀a,unP x O a→H1 a=none) (dn:Den B H1 d v) :
  ∃O',SO B Hb σ (mixP H H1 (unP x O)) (after x d δ) O'∧Den B (hid (mixP H H1 (unP x O)) O') d v:=by
 unfold after
 split
 ·exact ⟨_,JFK so sm hz,Den.mono (JA6 hz) d v dn⟩
 ·rename_i hb
  refine ⟨O,JCo so sm hz,?_⟩
  cases hu:JAR x 0 δ with
  | false =>
   refine Den.mono (fun b o e=>?_) d v dn
   have hb':¬unP x O b:=fun h=>by rw [hz b h] at e;cases e
   have hb2:¬ownP O b:=fun ⟨i,h⟩=>by
    obtain ⟨ds,xs,e1,_⟩:=so.own h
    refine hb' ⟨i,h,?_⟩
    cases q:x.uses i with
    | false=>rfl
    | true =>
     have:=JBT x δ 0 i _ hu e1 (by rw [Nat.zero_add];exact q)
     cases this
   rw [hid,JAI hb2,JAQ hb']
   exact e
  | true =>
   have hl:JAS d=true:=by
    rw [hu] at hb
    cases q:JAS d with
    | true=>rfl
    | false=>rw [q] at hb;exact absurd rfl hb
   refine JDC (fun b o e ho=>?_) d v hl dn
   have hb':¬unP x O b:=fun h=>by rw [hz b h] at e;cases e
   have hb2:¬ownP O b:=fun ⟨i,h⟩=>by
    obtain ⟨ds,xs,_,_,e4,_,e9⟩:=so.own h
    have:=sm b _ (by rw [JAI hb'];exact e4)
    rw [e] at this
    cases this
    exact ho e9.b
   rw [hid,JAI hb2,JAQ hb']
   exact e
noncomputable def RS (X:Cx) (B:Bs) (C:Cn) (XX:Nat→Hp→Prop) (x:E):TE:=fun σ H Q=>∃δ O Hb,Same X.H₀ Hb∧SO B Hb σ H δ O∧(match ev C x δ with
 | .ok d=>∀v H' O',SO B Hb σ H' (after x d δ) O'→Den B (hid H' O') d v→Q v H'
 | .exc c=>XX c Hb
 | .bad=>False)
noncomputable def RTS (X:Cx) (B:Bs) (C:Cn) (XX:Nat→Hp→Prop) (x:E):TT:=fun σ H Q=>∃δ O Hb,Same X.H₀ Hb∧SO B Hb σ H δ O∧(match evT C x δ with
 | .ok b=>∀H',SO B Hb σ H' δ O→Q b H'
 | .exc c=>XX c Hb
 | .bad=>False)
noncomputable def RIS (X:Cx) (B:Bs) (C:Cn) (XX:Nat→Hp→Prop) (x:E):TI:=fun σ H Q=>∃δ O Hb,Same X.H₀ Hb∧SO B Hb σ H δ O∧(match evI C x δ with
 | .ok ds=>∀J H' O',SO B Hb σ H' (JAv x 0 δ) O'→ItOk B J (hid H' O') ds→Q J H'
 | .exc c=>XX c Hb
 | .bad=>False)
theorem JHY (g:Gk X B C CX XX G) {e:Expr} (he:PE X e (RE B C XX x)):PE X e (RS X B C XX x):=by
 intro pins s σ H Q I ⟨δ,O,Hb,hb,so,k⟩
 have J0:=JBR (ps:=JBP x O δ.length s.heap) I (JAp (x:=x) hb so) JAs
 have hev:=(agree C x δ (JAa x 0 δ) JBV).1
 cases q:ev C x δ with
 | ok d =>
  rw [q] at k
  refine thn (he _ s σ _ (fun v H1=>Same (hidP H (unP x O)) H1∧Den B H1 d v) J0 ⟨JAa x 0 δ,JAl so,by rw [←hev,q];exact fun v H1 s1 d1=>⟨s1,d1⟩⟩) fun u s1 ⟨v,H1,J,r,sm,dn⟩=>?_
  obtain ⟨I',hz⟩:=JA4 I J (JAp hb so) (JAm I so)
  obtain ⟨O',so',dn'⟩:=JEp so sm hz dn
  exact ⟨v,_,I',r,k v _ O' so' dn'⟩
 | exc c =>
  rw [q] at k
  exact thn (he _ s σ _ (fun v H1=>False) J0 ⟨JAa x 0 δ,JAl so,by rw [←hev,q];exact g.anti c _ _ ((JAn so).trans same_un) k⟩) fun u s1 ⟨v,H1,J,r,f⟩=>f.elim
 | bad=>rw [q] at k;exact k.elim
theorem JJz (g:Gk X B C CX XX G) {e:Expr} (he:PT X e (RT B C XX x)):PT X e (RTS X B C XX x):=by
 intro pins s σ H Q I ⟨δ,O,Hb,hb,so,k⟩
 have J0:=JBR (ps:=JBP x O δ.length s.heap) I (JAp (x:=x) hb so) JAs
 have hev:=(agree C x δ (JAa x 0 δ) JBV).2.1
 cases q:evT C x δ with
 | ok d =>
  rw [q] at k
  refine thn (he _ s σ _ (fun b H1=>b=d∧Same (hidP H (unP x O)) H1) J0 ⟨JAa x 0 δ,JAl so,by rw [←hev,q];exact fun H1 s1=>⟨rfl,s1⟩⟩) fun u s1 ⟨H1,J,e,sm⟩=>?_
  subst e
  obtain ⟨I',hz⟩:=JA4 I J (JAp hb so) (JAm I so)
  exact ⟨_,I',k _ (JCo so sm hz)⟩
 | exc c =>
  rw [q] at k
  exact thn (he _ s σ _ (fun v H1=>False) J0 ⟨JAa x 0 δ,JAl so,by rw [←hev,q];exact g.anti c _ _ ((JAn so).trans same_un) k⟩) fun u s1 ⟨H1,J,f⟩=>f.elim
 | bad=>rw [q] at k;exact k.elim
theorem JGO (g:Gk X B C CX XX G) {tg e:Expr} (he:PI X tg e (RI B C XX x)):PI X tg e (RIS X B C XX x):=by
 intro pins s σ H Q I ⟨δ,O,Hb,hb,so,k⟩
 have J0:=JBR (ps:=JBP x O δ.length s.heap) I (JAp (x:=x) hb so) JAs
 have hev:=(agree C x δ (JAa x 0 δ) JBV).2.2.2
 cases q:evI C x δ with
 | ok ds =>
  rw [q] at k
  refine thn (he _ s σ _ (fun Jt H1=>Same (hidP H (unP x O)) H1∧ItOk B Jt H1 ds) J0 ⟨JAa x 0 δ,JAl so,by rw [←hev,q];exact fun Jt H1 s1 d1=>⟨s1,d1⟩⟩) fun u s1 h1=>thn h1 fun itv s2 h2=>?_
  obtain ⟨it,fp,tn,Jt,H1,e,J,T,st,f,sm,io⟩:=h2
  obtain ⟨I',hz⟩:=JA4 I J (JAp hb so) (JAm I so)
  refine ⟨it,fp,tn,Jt,_,e,I',T,st,fun b hb=>?_,k Jt _ _ (JFK so sm hz) fun H2 s2 i=>⟨fun d e=>⟨((io H2 ((JA6 hz).trans s2) i).1 d e).1,fun v H3 y=>(((io H2 ((JA6 hz).trans s2) i).1 d e).2 v H3 y).imp (fun q=>⟨q.1,Den.mono (JA6 hz) d v q.2⟩) fun ⟨p,xs,es,z1,z2,z3,z4,z5⟩=>⟨p,xs,es,z1,z2,z3,z4,DenL.mono (JA6 hz) _ _ z5⟩⟩,(io H2 ((JA6 hz).trans s2) i).2⟩⟩
  obtain ⟨f1,f2,f3,f4,f5,f6⟩:=f b hb
  refine ⟨?_,f2,f3,f4,f5,fun p hp=>f6 p ?_⟩
  ·rw [JAQ fun hp=>by
    obtain ⟨o,hm,_⟩:=JAm I so b hp
    exact f6 (b,o) (List.mem_append_right _ (List.mem_append_right _ hm)) rfl]
   exact f1
  ·rcases List.mem_append.mp hp with z | z
   ·exact List.mem_append_left _ z
   ·exact List.mem_append_right _ (List.mem_append_left _ z)
 | exc c =>
  rw [q] at k
  refine thn (he _ s σ _ (fun _ _=>False) J0 ⟨JAa x 0 δ,JAl so,by rw [←hev,q];exact g.anti c _ _ ((JAn so).trans same_un) k⟩) fun u s1 h1=>thn h1 fun itv s2 h2=>?_
  obtain ⟨_,_,_,_,_,_,_,_,_,_,f⟩:=h2
  exact f.elim
 | bad=>rw [q] at k;exact k.elim
end
theorem same_hidP {H:Hp} {P:Addr→Prop}:Same (hidP H P) H:=fun b o e=>(JA9 e).2
section
variable {X:Cx} {B:Bs} {C:Cn} {CX:CXT} {XX:Nat→Hp→Prop} {G:List (Str×GK)} {pins:List (Addr×Obj)} {σ:St} {H:Hp} {s:Shared} {δ:Env} {O:Ow} {x:E} {Hb Hb':Hp}
theorem SO.weak (so:SO B Hb' σ H δ O) (h:Same Hb Hb'):SO B Hb σ H δ O:=by
 refine ⟨so.len,h.trans so.same,so.inj,fun i=>?_⟩
 have q:=so.slot i
 cases e:δ[i]? with
 | none=>rw [e] at q;exact q
 | some t =>
  rw [e] at q
  cases t with
  | no=>exact q
  | val d=>exact q
  | own d =>
   simp only [JAO] at q ⊢
   obtain ⟨a,ds,xs,q1,q2,q3,q4,q5,q6⟩:=q
   exact ⟨a,ds,xs,q1,q2,q3,q4,h.free q5,q6⟩
theorem SO.base (so:SO B Hb σ H δ O):SO B (hid H O) σ H δ O:=by
 refine ⟨so.len,same_hidP,so.inj,fun i=>?_⟩
 have q:=so.slot i
 cases e:δ[i]? with
 | none=>rw [e] at q;exact q
 | some t =>
  rw [e] at q
  cases t with
  | no=>exact q
  | val d=>exact q
  | own d =>
   simp only [JAO] at q ⊢
   obtain ⟨a,ds,xs,q1,q2,q3,q4,q5,q6⟩:=q
   exact ⟨a,ds,xs,q1,q2,q3,q4,JBC ⟨i,q1⟩,q6⟩
noncomputable def setO (O:Ow) (i:Nat) (a:Option Addr):Ow:=fun j=>if j=i then a else O j
theorem JAt {O:Ow} {i:Nat} {a:Option Addr}:setO O i a i=a:=if_pos rfl
theorem JAo {O:Ow} {i j:Nat} {a:Option Addr} (h:j≠i):setO O i a j=O j:=if_neg h
theorem JA7 {i:Nat}:Same (hid H O) (hid H (setO O i none)):=fun b o e=>by
 obtain ⟨h1,h2⟩:=JA9 e
 rw [hid,JAI fun ⟨j,hj⟩=>h1 ⟨j,by
  by_cases hji:j=i
  ·subst hji;rw [JAt] at hj;cases hj
  ·rw [JAo hji] at hj;exact hj⟩]
 exact h2
theorem JED (so:SO B Hb σ H δ O) {i:Nat} {d:D} {v:V} (dn:Den B (hid H O) d v):SO B Hb (σ.set i (some v)) H (δ.set i (.val d)) (setO O i none):=by
 refine ⟨by simpa using so.len,so.same,fun j k a h1 h2=>?_,fun j=>?_⟩
 ·by_cases hj:j=i
  ·subst hj;rw [JAt] at h1;cases h1
  ·by_cases hk:k=i
   ·subst hk;rw [JAt] at h2;cases h2
   ·rw [JAo hj] at h1;rw [JAo hk] at h2
    exact so.inj j k a h1 h2
 ·by_cases hj:j=i
  ·subst hj
   by_cases hl:j<δ.length
   ·rw [List.getElem?_set_self hl]
    simp only [JAO]
    exact ⟨JAt,v,List.getElem?_set_self (by rw [so.len];exact hl),Den.mono JA7 d v dn⟩
   ·rw [List.getElem?_eq_none_iff.mpr (by simpa using hl)]
    exact JAt
  ·rw [List.getElem?_set_ne (Ne.symm hj)]
   have q:=so.slot j
   cases e:δ[j]? with
   | none=>rw [e] at q;simp only [JAO] at q ⊢;rw [JAo hj];exact q
   | some t =>
    rw [e] at q
    cases t with
    | no=>simp only [JAO] at q ⊢;rw [JAo hj];exact q
    | val d' =>
     simp only [JAO] at q ⊢
     rw [JAo hj,List.getElem?_set_ne (Ne.symm hj)]
     obtain ⟨h0,w,e2,dn'⟩:=q
     exact ⟨h0,w,e2,Den.mono JA7 d' w dn'⟩
    | own d' =>
     simp only [JAO] at q ⊢
     rw [JAo hj,List.getElem?_set_ne (Ne.symm hj)]
     obtain ⟨a,ds,xs,q1,q2,q3,q4,q5,q6⟩:=q
     exact ⟨a,ds,xs,q1,q2,q3,q4,q5,OwnO.mono JA7 ds xs q6⟩
theorem JF5 (so:SO B Hb σ H δ O) {Da:Addr} {o:HO} (hD:H Da=none):SO B Hb σ (upd H Da o) δ O:=by
 have own:∀j a,O j=some a→∃xs,H a=some xs:=fun j a h=>by
  have q:=so.slot j
  cases e:δ[j]? with
  | none=>rw [e] at q;simp only [JAO] at q;rw [h] at q;cases q
  | some t =>
   rw [e] at q
   cases t with
   | no=>simp only [JAO] at q;rw [h] at q;cases q
   | val d=>simp only [JAO] at q;rw [h] at q;cases q.1
   | own d =>
    simp only [JAO] at q
    obtain ⟨a',ds',xs',e1,e2,e3,e4,_⟩:=q
    rw [h] at e1;cases e1
    exact ⟨xs',e4⟩
 have s1:Same (hid H O) (hid (upd H Da o) O):=fun b u e=>by
  obtain ⟨h1,h2⟩:=JA9 e
  have hb:b≠Da:=fun z=>by rw [z,hD] at h2;cases h2
  rw [hid,JAI h1,JAL hb]
  exact h2
 refine ⟨so.len,so.same.trans (JBA hD),so.inj,fun j=>?_⟩
 have q:=so.slot j
 cases e:δ[j]? with
 | none=>rw [e] at q;exact q
 | some t =>
  rw [e] at q
  cases t with
  | no=>exact q
  | val d' =>
   simp only [JAO] at q ⊢
   obtain ⟨h0,w,e2,dn'⟩:=q
   exact ⟨h0,w,e2,Den.mono s1 d' w dn'⟩
  | own d' =>
   simp only [JAO] at q ⊢
   obtain ⟨a,ds',xs',q1,q2,q3,q4,q5,q6⟩:=q
   exact ⟨a,ds',xs',q1,q2,q3,by rw [JAL fun z=>by rw [z,hD] at q4;cases q4];exact q4,q5,OwnO.mono s1 ds' xs' q6⟩
theorem JFf (so:SO B Hb σ H δ O) {i:Nat} (hil:i<δ.length) {Da:Addr} {ds:D} {xs:HO} (hD:H Da=none) (dn:OwnO B (hid H O) ds xs):SO B Hb (σ.set i (some (.ref Da))) (upd H Da xs) (δ.set i (.own ds)) (setO O i (some Da)):=by
 have nO:∀j a,O j=some a→a≠Da:=fun j a h z=>by
  subst z
  have q:=so.slot j
  cases e:δ[j]? with
  | none=>rw [e] at q;simp only [JAO] at q;rw [h] at q;cases q
  | some t =>
   rw [e] at q
   cases t with
   | no=>simp only [JAO] at q;rw [h] at q;cases q
   | val d=>simp only [JAO] at q;rw [h] at q;cases q.1
   | own d =>
    simp only [JAO] at q
    obtain ⟨a',ds',xs',e1,e2,e3,e4,_⟩:=q
    rw [h] at e1;cases e1
    rw [hD] at e4;cases e4
 have s1:Same (hid H O) (hid (upd H Da xs) (setO O i (some Da))):=fun b o e=>by
  obtain ⟨h1,h2⟩:=JA9 e
  have hb:b≠Da:=fun z=>by rw [z,hD] at h2;cases h2
  rw [hid,JAI fun ⟨j,hj⟩=>by
   by_cases hji:j=i
   ·subst hji;rw [JAt] at hj;exact hb (Option.some.inj hj).symm
   ·rw [JAo hji] at hj;exact h1 ⟨j,hj⟩,JAL hb]
  exact h2
 refine ⟨by simpa using so.len,so.same.trans (JBA hD),fun j k a h1 h2=>?_,fun j=>?_⟩
 ·by_cases hj:j=i
  ·subst hj
   rw [JAt] at h1
   by_cases hk:k=j
   ·exact hk.symm
   ·rw [JAo hk] at h2
    exact absurd (Option.some.inj h1).symm (nO k a h2)
  ·by_cases hk:k=i
   ·subst hk;rw [JAt] at h2;rw [JAo hj] at h1
    exact absurd (Option.some.inj h2).symm (nO j a h1)
   ·rw [JAo hj] at h1;rw [JAo hk] at h2
    exact so.inj j k a h1 h2
 ·by_cases hj:j=i
  ·subst hj
   by_cases hl:j<δ.length
   ·rw [List.getElem?_set_self hl]
    simp only [JAO]
    exact ⟨Da,ds,xs,JAt,rfl,List.getElem?_set_self (by rw [so.len];exact hl),JAM,so.same.free hD,OwnO.mono s1 ds xs dn⟩
   ·exact absurd hil hl
  ·rw [List.getElem?_set_ne (Ne.symm hj)]
   have q:=so.slot j
   cases e:δ[j]? with
   | none=>rw [e] at q;simp only [JAO] at q ⊢;rw [JAo hj];exact q
   | some t =>
    rw [e] at q
    cases t with
    | no=>simp only [JAO] at q ⊢;rw [JAo hj];exact q
    | val d' =>
     simp only [JAO] at q ⊢
     rw [JAo hj,List.getElem?_set_ne (Ne.symm hj)]
     obtain ⟨h0,w,e2,dn'⟩:=q
     exact ⟨h0,w,e2,Den.mono s1 d' w dn'⟩
    | own d' =>
     simp only [JAO] at q ⊢
     rw [JAo hj,List.getElem?_set_ne (Ne.symm hj)]
     obtain ⟨a,ds',xs',q1,q2,q3,q4,q5,q6⟩:=q
     exact ⟨a,ds',xs',q1,q2,q3,by rw [JAL (nO j a q1)];exact q4,q5,OwnO.mono s1 ds' xs' q6⟩
theorem JEL (so:SO B Hb σ H δ O) {i:Nat} {Da:Addr} {ds:D} {xs:HO} (hD:H Da=none) (dn:OwnO B (hid H O) ds xs):∃O',SO B Hb (σ.set i (some (.ref Da))) (upd H Da xs) (δ.set i (.own ds)) O':=by
 by_cases hi:i<δ.length
 ·exact ⟨_,JFf so hi hD dn⟩
 ·rw [List.set_eq_of_length_le (l:=σ) (by rw [so.len];omega),List.set_eq_of_length_le (l:=δ) (by omega)]
  exact ⟨O,JF5 so hD⟩
theorem JJa (so:SO B Hb σ H δ O) {i:Nat} {a:Addr} {ds:D} {xs:HO} (ha:O i=some a) (dn:OwnO B (hid H O) ds xs):SO B Hb σ (upd H a xs) (δ.set i (.own ds)) O:=by
 have eh:hid (upd H a xs) O=hid H O:=by
  funext b
  by_cases hb:ownP O b
  ·rw [hid,hid,JBC hb,JBC hb]
  ·rw [hid,hid,JAI hb,JAI hb,JAL fun z=>hb ⟨i,by rw [z];exact ha⟩]
 have own:=fun (j:Nat) (b:Addr) (h:O j=some b)=>so.inj i j
 have hq:=so.slot i
 obtain ⟨ds0,xs0,e1,e2,e3,e4⟩:∃ds0 xs0,δ[i]? = some (.own ds0)∧σ[i]? = some (some (.ref a))∧H a=some xs0∧Hb a=none:=by
  cases e:δ[i]? with
  | none=>rw [e] at hq;simp only [JAO] at hq;rw [ha] at hq;cases hq
  | some t =>
   rw [e] at hq
   cases t with
   | no=>simp only [JAO] at hq;rw [ha] at hq;cases hq
   | val d=>simp only [JAO] at hq;rw [ha] at hq;cases hq.1
   | own d =>
    simp only [JAO] at hq
    obtain ⟨a',ds',xs',f1,f2,f3,f4,f5,_⟩:=hq
    rw [ha] at f1;cases f1
    subst f2
    exact ⟨_,xs',rfl,f3,f4,f5⟩
 refine ⟨by simpa using so.len,fun b o e=>?_,so.inj,fun j=>?_⟩
 ·rw [JAL fun z=>by rw [z,e4] at e;cases e]
  exact so.same b o e
 ·by_cases hj:j=i
  ·subst hj
   rw [List.getElem?_set_self (List.getElem?_eq_some_iff.mp e1).1]
   simp only [JAO]
   exact ⟨a,ds,xs,ha,rfl,e2,JAM,e4,by rw [eh];exact dn⟩
  ·rw [List.getElem?_set_ne (Ne.symm hj)]
   have q:=so.slot j
   cases e:δ[j]? with
   | none=>rw [e] at q;exact q
   | some t =>
    rw [e] at q
    cases t with
    | no=>exact q
    | val d' =>
     simp only [JAO] at q ⊢
     rw [eh];exact q
    | own d' =>
     simp only [JAO] at q ⊢
     obtain ⟨a',ds',xs',q1,q2,q3,q4,q5,q6⟩:=q
     refine ⟨a',ds',xs',q1,q2,q3,?_,q5,by rw [eh];exact q6⟩
     rw [JAL fun z=>hj (so.inj j i a (by rw [←z];exact q1) ha)]
     exact q4
noncomputable def RSF (X:Cx) (B:Bs) (C:Cn) (XX:Nat→Hp→Prop) (x:E):TE:=fun σ H Q=>∃δ O Hb,Same X.H₀ Hb∧SO B Hb σ H δ O∧(match ev C x δ with
 | .ok d=>∀Da ds xs H1 O',d=ds→SO B Hb σ H1 (after x d δ) O'→H1 Da=none→OwnO B (hid H1 O') ds xs→Q (.ref Da) (upd H1 Da xs)
 | .exc c=>XX c Hb
 | .bad=>False)
theorem JGZ {H1:Hp} {P:Addr→Prop} {Da:Addr} {o:HO} (h:¬P Da):mixP H (upd H1 Da o) P=upd (mixP H H1 P) Da o:=by
 funext b
 by_cases hb:b=Da
 ·subst hb;rw [JAQ h,JAM,JAM]
 ·rw [JAL hb]
  by_cases hp:P b
  ·rw [JBt hp,JBt hp]
  ·rw [JAQ hp,JAQ hp,JAL hb]
theorem JD5 (so:SO B Hb σ H δ O) {H1:Hp} {ds:D} {xs:HO} (sm:Same (hidP H (unP x O)) H1) (hz:∀a,unP x O a→H1 a=none) (dn:OwnO B H1 ds xs) :
  ∃O',SO B Hb σ (mixP H H1 (unP x O)) (after x ds δ) O'∧OwnO B (hid (mixP H H1 (unP x O)) O') ds xs:=by
 unfold after
 split
 ·exact ⟨_,JFK so sm hz,OwnO.mono (JA6 hz) ds xs dn⟩
 ·rename_i hb
  have hu:JAR x 0 δ=false:=by
   cases q:JAR x 0 δ with
   | false=>rfl
   | true=>rw [q] at hb;exact absurd (by rw [dn.nl];rfl) hb
  refine ⟨O,JCo so sm hz,OwnO.mono (fun b o e=>?_) ds xs dn⟩
  have hb':¬unP x O b:=fun h=>by rw [hz b h] at e;cases e
  have hb2:¬ownP O b:=fun ⟨i,h⟩=>by
   obtain ⟨ds,xs,e1,_⟩:=so.own h
   refine hb' ⟨i,h,?_⟩
   cases q:x.uses i with
   | false=>rfl
   | true =>
    have:=JBT x δ 0 i _ hu e1 (by rw [Nat.zero_add];exact q)
    cases this
  rw [hid,JAI hb2,JAQ hb']
  exact e
theorem JMm (g:Gk X B C CX XX G) {e:Expr} (he:PE X e (REF B C XX x)):PE X e (RSF X B C XX x):=by
 intro pins s σ H Q I ⟨δ,O,Hb,hb,so,k⟩
 have J0:=JBR (ps:=JBP x O δ.length s.heap) I (JAp (x:=x) hb so) JAs
 have hev:=(agree C x δ (JAa x 0 δ) JBV).1
 cases q:ev C x δ with
 | ok d =>
  rw [q] at k
  refine thn (he _ s σ _ (fun v H1=>∃Da ds xs H2,v=.ref Da∧H1=upd H2 Da xs∧d=ds∧Same (hidP H (unP x O)) H2∧H2 Da=none∧OwnO B H2 ds xs) J0
   ⟨JAa x 0 δ,JAl so,by rw [←hev,q];exact fun Da ds xs H1 e s1 hD dn=>⟨Da,ds,xs,H1,rfl,rfl,e,s1,hD,dn⟩⟩) fun u s1 ⟨v,H1,J,r,Da,ds,xs,H2,e1,e2,e3,sm,hD,dn⟩=>?_
  subst e1;subst e2;subst e3
  obtain ⟨I',hz⟩:=JA4 I J (JAp hb so) (JAm I so)
  have nD:¬unP x O Da:=fun h=>by have:=hz Da h;rw [JAM] at this;cases this
  have hz2:∀a,unP x O a→H2 a=none:=fun a h=>by
   have:=hz a h
   rwa [JAL fun z=>nD (by rw [←z];exact h)] at this
  rw [JGZ nD] at I'
  obtain ⟨O',so',dn'⟩:=JD5 so sm hz2 dn
  exact ⟨_,_,I',r,k Da _ xs _ O' rfl so' (by rw [JAQ nD];exact hD) dn'⟩
 | exc c =>
  rw [q] at k
  exact thn (he _ s σ _ (fun v H1=>False) J0 ⟨JAa x 0 δ,JAl so,by rw [←hev,q];exact g.anti c _ _ ((JAn so).trans same_un) k⟩) fun u s1 ⟨v,H1,J,r,f⟩=>f.elim
 | bad=>rw [q] at k;exact k.elim
theorem JMh (g:Gk X B C CX XX G) {st:Stmt} {i:Nat} (he:PS X st (tAsg (REF B C XX x) (JDn i))):PS X st (tAsg (RSF X B C XX x) (JDn i)):=by
 intro pins s σ H D I h
 obtain ⟨δ,O,Hb,hb,so,k⟩:=h
 have J0:=JBR (ps:=JBP x O δ.length s.heap) I (JAp (x:=x) hb so) JAs
 have hev:=(agree C x δ (JAa x 0 δ) JBV).1
 cases q:ev C x δ with
 | ok d =>
  rw [q] at k
  refine thn (he _ s σ _ { nx:=fun σ' H1=>∃Da ds xs H2,σ'=σ.set i (some (.ref Da))∧H1=upd H2 Da xs∧d=ds∧Same (hidP H (unP x O)) H2∧H2 Da=none∧OwnO B H2 ds xs,rt:=fun _ _=>False } J0
   ⟨JAa x 0 δ,JAl so,by rw [←hev,q];exact fun Da ds xs H1 e s1 hD dn=>⟨Da,ds,xs,H1,rfl,rfl,e,s1,hD,dn⟩⟩) fun f s1 hf=>?_
  cases f with
  | next =>
   obtain ⟨σ',H1,J,Da,ds,xs,H2,e1,e2,e3,sm,hD,dn⟩:=hf
   subst e1;subst e2;subst e3
   obtain ⟨I',hz⟩:=JA4 I J (JAp hb so) (JAm I so)
   have nD:¬unP x O Da:=fun h=>by have:=hz Da h;rw [JAM] at this;cases this
   have hz2:∀a,unP x O a→H2 a=none:=fun a h=>by
    have:=hz a h
    rwa [JAL fun z=>nD (by rw [←z];exact h)] at this
   rw [JGZ nD] at I'
   obtain ⟨O',so',dn'⟩:=JD5 so sm hz2 dn
   exact ⟨_,_,I',k Da _ xs _ O' rfl so' (by rw [JAQ nD];exact hD) dn'⟩
  | ret v=>obtain ⟨_,_,_,_,_,f⟩:=hf;exact f.elim
  | brk=>obtain ⟨_,_,_,f⟩:=hf;exact False.elim f
  | cont=>obtain ⟨_,_,_,f⟩:=hf;exact False.elim f
 | exc c =>
  rw [q] at k
  refine thn (he _ s σ _ { nx:=fun _ _=>False,rt:=fun _ _=>False } J0 ⟨JAa x 0 δ,JAl so,by rw [←hev,q];exact g.anti c _ _ ((JAn so).trans same_un) k⟩) fun f s1 hf=>?_
  cases f with
  | next=>obtain ⟨_,_,_,f⟩:=hf;exact f.elim
  | ret v=>obtain ⟨_,_,_,_,_,f⟩:=hf;exact f.elim
  | brk=>obtain ⟨_,_,_,f⟩:=hf;exact False.elim f
  | cont=>obtain ⟨_,_,_,f⟩:=hf;exact False.elim f
 | bad=>rw [q] at k;exact k.elim
end
section
variable {X:Cx} {B:Bs} {C:Cn} {CX:CXT} {XX:Nat→Hp→Prop} {G:List (Str×GK)} {x:E} {pos:Pos}
theorem PS.imp {st:Stmt} {t t':TS} (h:PS X st t) (i:∀D σ H,t' D σ H→t D σ H):PS X st t':=fun pins s σ H D I q=>h pins s σ H D I (i D σ H q)
theorem PSs.imp {st:List Stmt} {t t':TS} (h:PSs X st t) (i:∀D σ H,t' D σ H→t D σ H):PSs X st t':=fun pins s σ H D I q=>h pins s σ H D I (i D σ H q)
theorem JNx:PSs X [] (RSt X B C XX .nil):=PSs.imp JK9 fun D σ H ⟨δ,O,Hb,hb,so,k⟩=>k σ H O so
theorem JLl {st:Stmt} {r:List Stmt} {a b:S} (h1:PS X st (RSt X B C XX a)) (h2:PSs X r (RSt X B C XX b)):PSs X (st::r) (RSt X B C XX (.cons a b)) :=
 PSs.imp (JI6 h1 h2) fun D σ H ⟨δ,O,Hb,hb,so,k⟩=>by
  refine ⟨δ,O,Hb,hb,so,?_⟩
  simp only [exec] at k
  cases q:exec C a δ with
  | nx δ'=>rw [q] at k;exact fun σ' H' O' so'=>⟨δ',O',Hb,hb,so',k⟩
  | rt d=>rw [q] at k;exact k
  | bk d=>rw [q] at k;exact k
  | ct d=>rw [q] at k;exact k
  | ex c=>rw [q] at k;exact k
  | bad=>rw [q] at k;exact k
theorem JLt:PS X (.Pass pos) (RSt X B C XX .pass):=PS.imp JLc fun D σ H ⟨δ,O,Hb,hb,so,k⟩=>k σ H O so
theorem JNZ:PS X (.Break pos) (RSt X B C XX .brk):=PS.imp JH3 fun D σ H ⟨δ,O,Hb,hb,so,k⟩=>k σ H O so
theorem JMc:PS X (.Continue pos) (RSt X B C XX .cnt):=PS.imp JEf fun D σ H ⟨δ,O,Hb,hb,so,k⟩=>k σ H O so
theorem JMw {y:Str} {j:Nat} {pos':Pos}:PS X (.Expr (.Constant (.str y) j pos) pos') (RSt X B C XX .pass):=PS.imp JMb fun D σ H ⟨δ,O,Hb,hb,so,k⟩=>k σ H O so
theorem JMD:PS X (.Return none pos) (RSt X B C XX .retN):=PS.imp JLC fun D σ H ⟨δ,O,Hb,hb,so,k⟩=>k .non H so.same (by simp only [Den])
theorem JMo (g:Gk X B C CX XX G) {e:Expr} (he:PE X e (RE B C XX x)):PS X (.Return (some e) pos) (RSt X B C XX (.ret x)) :=
 PS.imp (JO1 (JHY g he)) fun D σ H ⟨δ,O,Hb,hb,so,k⟩=>by
  refine ⟨δ,O,Hb,hb,so,?_⟩
  simp only [exec] at k
  cases q:ev C x δ with
  | ok d=>rw [q] at k;exact fun v H' O' so' dn=>k v H' so'.same (Den.mono same_hidP d v dn)
  | exc c=>rw [q] at k;exact k
  | bad=>rw [q] at k;exact k
theorem JML (g:Gk X B C CX XX G) {c:Expr} {a b:List Stmt} {s1 s2:S} (hc:PT X c (RT B C XX x)) (ha:PSs X a (RSt X B C XX s1)) (hb:PSs X b (RSt X B C XX s2)):PS X (.If c a b pos) (RSt X B C XX (.ife x s1 s2)) :=
 PS.imp (ps_if (JJz g hc) ha hb) fun D σ H ⟨δ,O,Hb,hb,so,k⟩=>by
  refine ⟨δ,O,Hb,hb,so,?_⟩
  simp only [exec] at k
  cases q:evT C x δ with
  | ok t =>
   rw [q] at k
   intro H' so'
   cases t with
   | true=>exact iteT ⟨δ,O,Hb,hb,so',k⟩
   | false=>exact iteF ⟨δ,O,Hb,hb,so',k⟩
  | exc c=>rw [q] at k;exact k
  | bad=>rw [q] at k;exact k
theorem JME (g:Gk X B C CX XX G) {e:Expr} (he:PE X e (RE B C XX x)) (hs:swapsWith e none pos.line X.env=pure false):PS X (.Expr e pos) (RSt X B C XX (.drop x)) :=
 PS.imp (JGY (JHY g he) hs) fun D σ H ⟨δ,O,Hb,hb,so,k⟩=>by
  refine ⟨δ,O,Hb,hb,so,?_⟩
  simp only [exec] at k
  cases q:ev C x δ with
  | ok d=>rw [q] at k;exact fun v H' O' so' dn=>k σ H' O' so'
  | exc c=>rw [q] at k;exact k
  | bad=>rw [q] at k;exact k
theorem JPV (g:Gk X B C CX XX G) {e:Expr} {i:Nat} {nm:Str} {pos':Pos} (he:PE X e (RE B C XX x)) (hf:x.fresh=false) (hnd:X.N.Nodup) (hN:X.N[i]? = some nm) (hx:Loc X.env.scope nm) (hs:swapsWith e (some (.Name nm pos')) pos.line X.env=pure false)
  (hfn:X.fn nm=true∨X.env.scope.names.lookup nm=some .local):PS X (.Assign [.Name nm pos'] e pos) (RSt X B C XX (.asg i x)) :=
 PS.imp (JJx hnd hN hx (JHY g he) hs hfn) fun D σ H ⟨δ,O,Hb,hb,so,k⟩=>by
  refine ⟨δ,O,Hb,hb,so,?_⟩
  simp only [exec,hf,Bool.false_eq_true,if_false] at k
  cases q:ev C x δ with
  | ok d=>rw [q] at k;exact fun v H' O' so' dn=>k _ H' _ (JED so' dn)
  | exc c=>rw [q] at k;exact k
  | bad=>rw [q] at k;exact k
theorem JDz {i:Nat} (hf:x.fresh=true) {D:Ends} {σ:St} {H:Hp} (h:RSt X B C XX (.asg i x) D σ H):tAsg (RSF X B C XX x) (JDn i) D σ H:=by
 obtain ⟨δ,O,Hb,hb,so,k⟩:=h
 refine ⟨δ,O,Hb,hb,so,?_⟩
 simp only [exec,hf,if_true] at k
 cases q:ev C x δ with
 | ok d =>
  rw [q] at k
  intro Da ds xs H1 O' e so' hD dn
  subst e
  obtain ⟨O2,so2⟩:=JEL (i:=i) so' hD dn
  exact k _ _ O2 so2
 | exc c=>rw [q] at k;exact k
 | bad=>rw [q] at k;exact k
theorem JEm (g:Gk X B C CX XX G) {e:Expr} {i:Nat} {nm:Str} {pos':Pos} (he:PE X e (REF B C XX x)) (hf:x.fresh=true) (hnd:X.N.Nodup) (hN:X.N[i]? = some nm) (hx:Loc X.env.scope nm) (hs:swapsWith e (some (.Name nm pos')) pos.line X.env=pure false)
  (hfn:X.fn nm=true∨X.env.scope.names.lookup nm=some .local):PS X (.Assign [.Name nm pos'] e pos) (RSt X B C XX (.asg i x)) :=
 PS.imp (JJx hnd hN hx (JMm g he) hs hfn) fun D σ H h=>JDz hf h
theorem JKm (g:Gk X B C CX XX G) {st:Stmt} {i:Nat} (h:PS X st (tAsg (REF B C XX x) (JDn i))) (hf:x.fresh=true):PS X st (RSt X B C XX (.asg i x)) :=
 PS.imp (JMh g h) fun D σ H h=>JDz hf h
theorem JPM (g:Gk X B C CX XX G) (hp:PassesOwn (model X.prog X.w) X.A X.env X.xe) {c:Expr} {body:List Stmt} {b:S} (hc:PT X c (RT B C XX x)) (hb:PSs X body (RSt X B C XX b)):PS X (.While c body [] pos) (RSt X B C XX (.whl x b)) :=
 PS.imp (JIj hp (JJz g hc) hb) fun D σ H ⟨δ,O,Hb,hb0,so,k⟩=>by
  simp only [exec] at k
  unfold JBa at k
  split at k
  ·rename_i hex
   refine ⟨fun m σ H=>∃δ O,SO B Hb σ H δ O∧JBr X B XX Hb D (JAg (evT C x) (exec C b) m δ),⟨hex.choose,δ,O,so,k⟩,?_⟩
   rintro m σ H ⟨δ,O,so,k⟩
   cases m with
   | zero=>exact False.elim k
   | succ m =>
    refine ⟨δ,O,Hb,hb0,so,?_⟩
    simp only [JAg] at k
    cases q:evT C x δ with
    | ok t =>
     rw [q] at k
     intro H' so'
     cases t with
     | true =>
      refine iteT ⟨fun σ' H'=>∃δ O,SO B Hb σ' H' δ O∧JBr X B XX Hb D (JAg (evT C x) (exec C b) m δ),fun σ' H' h=>⟨m,Nat.lt_succ_self m,h⟩,δ,O,Hb,hb0,so',?_⟩
      simp only at k
      cases q2:exec C b δ with
      | nx δ'=>rw [q2] at k;exact fun σ2 H2 O2 so2=>⟨δ',O2,so2,k⟩
      | ct δ'=>rw [q2] at k;exact fun σ2 H2 O2 so2=>⟨δ',O2,so2,k⟩
      | bk δ'=>rw [q2] at k;exact k
      | rt d=>rw [q2] at k;exact k
      | ex c=>rw [q2] at k;exact k
      | bad=>rw [q2] at k;exact k
     | false=>exact iteF (k σ H' O so')
    | exc c=>rw [q] at k;exact k
    | bad=>rw [q] at k;exact k
  ·exact False.elim k
theorem JJd (g:Gk X B C CX XX G) {put:D→Env→Option Env} {gt:TG} {tb:TS} {b:S} {De:Ends} {σ:St} {H1:Hp} {J:It} {ds:List D} {δ:Env} {O:Ow} {Hb:Hp} (hb:Same X.H₀ Hb) (so:SO B Hb σ H1 δ O) (io:ItOk B J (hid H1 O) ds)
  (hput:∀(d:D) (v:V) (σ:St) (H:Hp) (δ δ':Env) (O:Ow) (Hb':Hp) (Q:St→Hp→Prop),SO B Hb' σ H δ O→Den B (hid H O) d v→put d δ=some δ'→(∀σ' O',SO B Hb' σ' H δ' O'→Q σ' H)→gt v σ H Q)
  (htb:∀De σ H,RSt X B C XX b De σ H→tb De σ H) (k:JBr X B XX Hb De (forL put (exec C b) ds δ)) :
  ∃W:Nat→Nat→St→Hp→Prop,(∃m,W 0 m σ H1)∧∀i m σ H,W i m σ H→(J.stop i H∧De.nx σ H)∨(J.go i H∧∃N:St→Hp→Prop,(∀σ' H',N σ' H'→∃m',m'<m∧W (i+1) m' σ' H')∧∀x H',J.yld i H x H'→gt x σ H' fun σ2 H2=>tb { De with nx:=N,ct:=N,bk:=De.nx } σ2 H2):=by
 have hb1:Same Hb (hid H1 O):=JAn so
 refine ⟨fun i m σ H=>m=ds.length - i∧i≤ds.length∧∃δ O',SO B (hid H1 O) σ H δ O'∧JBr X B XX Hb De (forL put (exec C b) (ds.drop i) δ),⟨ds.length,by simp,Nat.zero_le _,δ,O,so.base,by simpa using k⟩,?_⟩
 rintro i m σ H ⟨rfl,hi,δ2,O2,so2,k2⟩
 by_cases hlt:i<ds.length
 ·right
  have hd:ds[i]? = some ds[i]:=by simp [hlt]
  obtain ⟨go,yl⟩:=(io H so2.same i).1 ds[i] hd
  refine ⟨go,fun σ' H'=>∃δ O',SO B (hid H1 O) σ' H' δ O'∧JBr X B XX Hb De (forL put (exec C b) (ds.drop (i+1)) δ),fun σ' H' ⟨δ3,O3,so3,k3⟩=>⟨ds.length - (i+1),by omega,rfl,hlt,δ3,O3,so3,k3⟩,fun v H' y=>?_⟩
  obtain ⟨so3',dn2⟩:SO B (hid H1 O) σ H' δ2 O2∧Den B (hid H' O2) ds[i] v:=by
    rcases yl v H' y with ⟨e,dn⟩ | ⟨p,xs,es,hp,e,ex,ed,dl⟩
    ·subst e;exact ⟨so2,Den.mono (JAn so2) _ v dn⟩
    ·subst e;subst ex
     have s3:=JF5 so2 (o:=.tup xs) hp
     refine ⟨s3,?_⟩
     rw [ed]
     simp only [Den]
     refine ⟨p,xs,rfl,SqT.of ?_,DenL.mono (JAn s3) _ _ dl⟩
     rw [hid,JAI fun ⟨j,hj⟩=>by obtain ⟨_,_,_,_,e5,_⟩:=so2.own hj;rw [hp] at e5;cases e5]
     exact JAM
  rw [JCc hlt] at k2
  unfold forL at k2
  cases qp:put ds[i] δ2 with
  | none=>rw [qp] at k2;exact False.elim k2
  | some δ3 =>
    rw [qp] at k2
    refine hput ds[i] v σ H' δ2 δ3 O2 _ _ so3' dn2 qp fun σ3 O3 so3=>?_
    refine htb _ _ _ ⟨δ3,O3,_,hb.trans hb1,so3,?_⟩
    simp only at k2
    cases q2:exec C b δ3 with
    | nx δ'=>rw [q2] at k2;exact fun σ4 H4 O4 so4=>⟨δ',O4,so4,k2⟩
    | ct δ'=>rw [q2] at k2;exact fun σ4 H4 O4 so4=>⟨δ',O4,so4,k2⟩
    | bk δ'=>rw [q2] at k2;exact fun σ4 H4 O4 so4=>k2 σ4 H4 O4 (so4.weak hb1)
    | rt d=>rw [q2] at k2;exact fun v4 H4 s4 d4=>k2 v4 H4 (hb1.trans s4) d4
    | ex c=>rw [q2] at k2;exact g.anti c Hb _ hb1 k2
    | bad=>rw [q2] at k2;exact k2
 ·left
  have ei:i=ds.length:=by omega
  refine ⟨(io H so2.same i).2 (by omega),?_⟩
  rw [ei,List.drop_length] at k2
  exact k2 σ H O2 (so2.weak hb1)
theorem JK0 [Cool G] (g:Gk X B C CX XX G) (hp:PassesOwn (model X.prog X.w) X.A X.env X.xe) {iter:Expr} {body:List Stmt} {b:S} {i:Nat} {nm:Str} {pos':Pos} (hi:PI X (.Name nm pos') iter (RI B C XX x)) (hb:PSs X body (RSt X B C XX b)) (hnd:X.N.Nodup) (hN:X.N[i]? = some nm) (hx:Loc X.env.scope nm)
  (hfn:X.fn nm=true∨X.env.scope.names.lookup nm=some .local) (hs:∀v,foldedSetIterable iter X.env v=pure v):PS X (.For (.Name nm pos') iter body [] pos) (RSt X B C XX (.for1 i x b)) :=
 PS.imp (JKT hp (g.calm inferInstance) (JGO g hi) (JCT hnd hN hx hfn) hb hs) fun De σ H ⟨δ,O,Hb,hb0,so,k⟩=>by
  refine ⟨δ,O,Hb,hb0,so,?_⟩
  simp only [exec] at k
  cases q:evI C x δ with
  | ok ds =>
    rw [q] at k
    intro J H' O' so' io
    refine JJd g hb0 so' io (put:=put1 i) (fun d v σ H δ δ' O Hb' Q so dn e h=>?_) (fun _ _ _ h=>h) k
    have e':δ.set i (.val d)=δ':=Option.some.inj e
    subst e'
    exact h _ _ (JED so dn)
  | exc c=>rw [q] at k;exact k
  | bad=>rw [q] at k;exact k
end
section
variable {prog:Program} {w:World} {A:Around} {E:Value→Shared→Prop}
theorem JDh {it t:Addr} {items:Array Value} (hne:t≠it):∀(n i:Nat) (s:Shared) (Q:List Value→Shared→Prop),s.heap.IsListIter it t i→s.heap.IsList t items→i+n≤items.size →
  (∀h':Heap,h'.IsListIter it t (i+n)→Heap.SameBut it s.heap h'→Q ((items.toList.drop i).take n) { s with heap:=h' })→wpAny (model prog w) A (draw (.ref it) n) Q E s
 | 0,i,s,Q,hit,_,_,hQ=>by
  show wpAny _ _ (pure []) Q E s
  exact wpAny_pure (by simpa using hQ s.heap hit (Heap.SameBut.refl ..))
 | n+1,i,s,Q,hit,ht,hle,hQ=>by
  have hlt:i<items.size:=by omega
  show wpAny _ _ (pyNext (.ref it) >>= _) Q E s
  refine wpAny_bind (wpAny_pyNext_list_item hit ht (x:=items[i]) (by simp [hlt]) fun h₁ hit₁ hs₁=>?_)
  refine wpAny_bind (wpAny_holding (JDh hne n (i+1) _ _ hit₁ (ht.extBut hs₁.extBut hne) (by omega) fun h₂ hit₂ hs₂=>wpAny_pure ?_))
  have hd:items.toList.drop i=items[i]::items.toList.drop (i+1):=by simp [List.drop_eq_getElem_cons,hlt]
  have:=hQ h₂ (by rw [show i+(n+1)=i+1+n by omega];exact hit₂) (hs₁.trans hs₂)
  rw [hd,List.take_succ_cons] at this
  exact this
theorem JCD {s:Shared} {env:PySem.Env} {elts:List Expr} {x1:Nat} {pos:Pos} {t:Addr} {items:Array Value} {Q:Unit→Shared→Prop} (hh:A.handled=none) (ht:s.heap.IsList t items)
  (hn:(assignEach elts env).length=items.size) (hstar:(assignEach elts env).findIdx? (·.1)=none)
  (h:∀h',Heap.ExtBut s.heap.objs.size s.heap h'→wpAny (model prog w) A (assignInOrder ((assignEach elts env).map (·.2)) items.toList) Q E { s with heap:=h' }) :
  wpAny (model prog w) A (assign (.Tuple elts x1 pos) env (.ref t)) Q E s:=by
 have hlt:t≠s.heap.objs.size:=by obtain ⟨o,ho,_⟩:=ht;exact Nat.ne_of_lt (Heap.lt_size ho)
 rw [assign_Tuple]
 refine wpAny_bind (wpAny_standAt ?_)
 unfold unpack
 rw [hn,hstar]
 refine wpAny_bind (wpAny_holding ?_)
 unfold unpackItems
 refine wpAny_bind ?_
 unfold notIterableAtAll
 refine wpAny_bind (wpAny_specialOf ht.typeIs slot_list_iter.lookup ?_)
 refine wpAny_pure ?_
 simp only [Bool.false_eq_true,if_false]
 refine wpAny_bind (wpAny_holding (wpAny_pyIter_list ht ?_))
 refine wpAny_bind (wpAny_holding (JDh hlt items.size 0 _ _ ⟨_,Heap.get?_push_size _ rfl,rfl,rfl⟩ (ht.extBut (fun b o _ e=>Heap.get?_push_of_some _ e) (Nat.ne_of_lt (Nat.lt_succ_of_lt (by obtain ⟨o,ho,_⟩:=ht;exact Heap.lt_size ho)))) (by omega) fun h₁ hit₁ hs₁=>?_))
 have hall:List.take items.size (List.drop 0 items.toList)=items.toList:=by
  rw [List.drop_zero];exact List.take_of_length_le (by simp)
 rw [hall]
 rw [if_neg (by simp)]
 have ht1:h₁.IsList t items:=by
  refine Heap.IsList.extBut ?_ hs₁.extBut hlt
  exact ht.extBut (fun b o _ e=>Heap.get?_push_of_some _ e) hlt
 refine wpAny_bind (wpAny_holding (wpAny_pyNext_list_end hh hit₁ ht1 (by simp) fun h₂ he₂=>?_))
 simp only [Option.isSome_none,Bool.false_eq_true,if_false]
 refine wpAny_pure (h h₂ fun b o hb e=>he₂ b o hb (hs₁.extBut b o hb (Heap.get?_push_of_some _ e)))
end
noncomputable def setV:List Nat→List V→St→St
 | i::is,v::vs,σ=>setV is vs (σ.set i (some v))
 | _,_,σ=>σ
section
variable {X:Cx} {B:Bs} {C:Cn} {CX:CXT} {XX:Nat→Hp→Prop} {G:List (Str×GK)} {x:E} {pos:Pos} {names:List (Str×NameKind)} {N:List Str}
theorem JDl {nm:Str} (hn:X.env.scope.names=names) (h:JDb (names.lookup nm)=true):L2.Loc X.env.scope nm:=by
 unfold L2.Loc
 rw [hn]
 cases q:names.lookup nm with
 | none=>rw [q] at h;cases h
 | some k=>cases k<;>simp_all [JDb]
theorem slot_of {nm:Str} {i:Nat} (hn:X.env.scope.names=names) (hN:X.N=N) (h:slot names N nm=some i):X.N[i]? = some nm∧L2.Loc X.env.scope nm:=by
 unfold slot at h
 split at h
 ·rename_i hb
  exact ⟨by rw [hN];exact JCU h,JDl hn hb⟩
 ·cases h
theorem JDA {e:Expr} {r:List Expr} {is:List Nat} (h:slots names N (e::r)=some is):∃nm p i js,e=.Name nm p∧slot names N nm=some i∧slots names N r=some js∧is=i::js:=by
 unfold slots at h
 split at h
 ·rename_i q;cases q
 ·rename_i q
  cases q
  obtain ⟨i,h1,h⟩:=Option.bind_eq_some_iff.mp h
  obtain ⟨js,h2,h⟩:=Option.bind_eq_some_iff.mp h
  cases h
  exact ⟨_,_,i,js,rfl,h1,h2,rfl⟩
 ·cases h
theorem JB3 {env:PySem.Env}:∀ {ts:List Expr} {is:List Nat},slots names N ts=some is→(assignEach ts env).findIdx? (·.1)=none∧(assignEach ts env).length=is.length
 | [],is,h=>by unfold slots at h;cases h;exact ⟨rfl,rfl⟩
 | e::r,is,h=>by
  obtain ⟨nm,p,i,js,rfl,h1,h2,rfl⟩:=JDA h
  obtain ⟨q1,q2⟩:=JB3 (env:=env) h2
  refine ⟨?_,by show (assignEach r env).length+1=_;rw [q2];rfl⟩
  show List.findIdx? (·.1) ((false,assign (.Name nm p) env)::assignEach r env)=none
  rw [List.findIdx?_cons]
  simp [q1]
theorem JCd (hn:X.env.scope.names=names) (hN:X.N=N) (hnd:N.Nodup) (hfn:∀nm,X.fn nm=true∨X.env.scope.names.lookup nm≠some .cell):∀ {ts:List Expr} {is:List Nat},slots names N ts=some is→PGs X ts (fun vs σ H Q=>vs.length=is.length∧Q (setV is vs σ) H)
 | [],is,h=>by
  unfold slots at h;cases h
  intro pins s σ H vs us Q I r ⟨e,q⟩
  refine JGA pins s σ H vs us Q I r ⟨List.length_eq_zero_iff.mp e,?_⟩
  cases vs<;>exact q
 | e::r,is,h=>by
  obtain ⟨nm,p,i,js,rfl,h1,h2,rfl⟩:=JDA h
  obtain ⟨q1,q2⟩:=slot_of hn hN h1
  have hf:X.fn nm=true∨X.env.scope.names.lookup nm=some .local:=by
   rcases hfn nm with z | z
   ·exact .inl z
   ·rcases q2 with k | k
    ·exact .inr k
    ·exact absurd k z
  intro pins s σ H vs us Q I rv ⟨e,q⟩
  refine JEz (JCT (by rw [hN];exact hnd) q1 q2 hf) (JCd hn hN hnd hfn h2) rfl pins s σ H vs us Q I rv ?_
  match vs,e,q with
  | v::vr,e,q=>exact ⟨v,vr,rfl,by simpa using e,q⟩
theorem JJb [Cool G] (g:Gk X B C CX XX G) {es:List Expr} {k n:Nat} {t:TGs} (h:PGs X es t) (hn:(assignEach es X.env).length=n) (hst:(assignEach es X.env).findIdx? (·.1)=none) :
  PG X (.Tuple es k pos) (fun v σ H Q=>∃a xs,v=.ref a∧(SqT X.K H a xs∨SqL X.K H a xs)∧xs.length=n∧t xs σ H Q):=by
 intro pins s σ H v u Q I r ⟨a,xs,e1,hq,hl,hw⟩
 rcases hq with hq | hq
 ·exact JKF (g.calm inferInstance) h hn hst pins s σ H v u Q I r ⟨a,xs,e1,hq,hl,hw⟩
 ·subst e1
  cases r
  obtain ⟨its,rv,⟨o,m,ho,hc,hd,hs⟩,hz⟩:=I.list hq
  refine JCD (I.ok.hd (g.calm inferInstance)) (items:=its.toArray) ⟨o,ho,hc,m,hs⟩ (by simp [hn,←hl,rv.length]) hst fun h' hx=>?_
  have I1:Inv X pins σ H { s with heap:=h' }:=I.kept (t':=s.toks) fun b o e=>hx b o (Nat.ne_of_lt (Heap.lt_size e)) e
  exact h pins _ σ H xs _ Q I1 (by simpa using rv) hw
theorem JBz:∀(is:List Nat) (ds:List D) (vs:List V) {Hb:Hp} {σ:St} {H:Hp} {δ:Env} {O:Ow},SO B Hb σ H δ O→DenL B (hid H O) ds vs→∃O',SO B Hb (setV is vs σ) H (JCG is ds δ) O'
 | [],ds,vs,_,_,_,_,O,so,dn=>by cases ds<;>cases vs<;>exact ⟨O,so⟩
 | i::is,[],vs,_,_,_,_,O,so,dn=>by
  simp only [DenL] at dn;subst dn
  exact ⟨O,so⟩
 | i::is,d::ds,vs,_,_,_,_,O,so,dn=>by
  simp only [DenL] at dn
  obtain ⟨v,r,e,q,l⟩:=dn
  subst e
  exact JBz is ds r (JED (i:=i) so q) (DenL.mono JA7 ds r l)
theorem JEk {n c:Nat} {d:D}:JA2 n d≠.exc c:=by
 cases d<;>simp only [JA2]<;>(try split)<;>(intro h;cases h)
theorem JNk [Cool G] (g:Gk X B C CX XX G) {e:Expr} {ts:List Expr} {is:List Nat} {k:Nat} {pt:Pos} (he:PE X e (RE B C XX x)) (hn:X.env.scope.names=names) (hN:X.N=N) (hnd:N.Nodup) (hfn:∀nm,X.fn nm=true∨X.env.scope.names.lookup nm≠some .cell)
  (h:slots names N ts=some is) (hs:swapsWithSole [.Tuple ts k pt] e pos.line X.env=pure false) (hw:swappedStores [.Tuple ts k pt] e X.env=pure none):PS X (.Assign [.Tuple ts k pt] e pos) (RSt X B C XX (.unp is x)):=by
 obtain ⟨q1,q2⟩:=JB3 (env:=X.env) h
 refine PS.imp (JM5 (JHY g he) (JJb g (JCd hn hN hnd hfn h) q2 q1) hs hw rfl) fun De σ H ⟨δ,O,Hb,hb,so,kk⟩=>?_
 refine ⟨δ,O,Hb,hb,so,?_⟩
 simp only [exec] at kk
 cases q:ev C x δ with
 | ok d =>
  rw [q] at kk
  intro v H' O' so' dn
  have kk:JBr X B XX Hb De (stepR (JA2 is.length d) fun xs=>Fl.nx (JCG is xs (after x d δ))):=kk
  cases qu:JA2 is.length d with
  | ok ds =>
    rw [qu] at kk
    have hl:ds.length=is.length∧∃a xs,v=.ref a∧(SqT X.K H' a xs∨SqL X.K H' a xs)∧DenL B (hid H' O') ds xs:=by
     cases d with
     | tuple ys =>
      simp only [JA2] at qu
      split at qu
      ·rename_i hy
       cases qu
       simp only [Den] at dn
       obtain ⟨a,xs,e1,e2,e3⟩:=dn
       exact ⟨hy,a,xs,e1,.inl (JIN same_hidP (g.K▸e2)),e3⟩
      ·cases qu
     | list ys =>
      simp only [JA2] at qu
      split at qu
      ·rename_i hy
       cases qu
       simp only [Den] at dn
       obtain ⟨a,xs,e1,e2,e3⟩:=dn
       exact ⟨hy,a,xs,e1,.inr (same_hidP.seq (g.K▸e2)),e3⟩
      ·cases qu
     | _=>simp only [JA2] at qu;cases qu
    obtain ⟨hl1,a,xs,e1,e2,e3⟩:=hl
    have hlx:=DenL.len ds xs e3
    obtain ⟨O2,so2⟩:=JBz is ds xs so' e3
    exact ⟨a,xs,e1,e2,by omega,by omega,kk _ _ O2 so2⟩
  | exc c=>exact (JEk qu).elim
  | bad=>rw [qu] at kk;exact kk.elim
 | exc c=>rw [q] at kk;exact kk
 | bad=>rw [q] at kk;exact kk
theorem JHB [Cool G] (g:Gk X B C CX XX G) (hp:PassesOwn (model X.prog X.w) X.A X.env X.xe) {iter:Expr} {body:List Stmt} {b:S} {ts:List Expr} {is:List Nat} {k:Nat} {pt:Pos} (hi:PI X (.Tuple ts k pt) iter (RI B C XX x)) (hb:PSs X body (RSt X B C XX b)) (hn:X.env.scope.names=names) (hN:X.N=N) (hnd:N.Nodup) (hfn:∀nm,X.fn nm=true∨X.env.scope.names.lookup nm≠some .cell)
  (h:slots names N ts=some is) (hs:∀v,foldedSetIterable iter X.env v=pure v):PS X (.For (.Tuple ts k pt) iter body [] pos) (RSt X B C XX (.forT is x b)):=by
 obtain ⟨q1,q2⟩:=JB3 (env:=X.env) h
 refine PS.imp (JKT hp (g.calm inferInstance) (JGO g hi) (JJb g (JCd hn hN hnd hfn h) q2 q1) hb hs) fun De σ H ⟨δ,O,Hb,hb0,so,kk⟩=>?_
 refine ⟨δ,O,Hb,hb0,so,?_⟩
 simp only [exec] at kk
 cases q:evI C x δ with
 | ok ds =>
  rw [q] at kk
  intro J H' O' so' io
  refine JJd g hb0 so' io (put:=putT is) (gt:=fun v σ H Q=>∃a xs,v=.ref a∧(SqT X.K H a xs∨SqL X.K H a xs)∧xs.length=is.length∧(xs.length=is.length∧Q (setV is xs σ) H)) (fun d v σ H δ δ' O Hb' Q so dn e h=>?_) (fun _ _ _ h=>h) kk
  cases d with
  | tuple ys =>
    simp only [putT] at e
    split at e
    ·rename_i hy
     cases e
     simp only [Den] at dn
     obtain ⟨a,xs,e1,e2,e3⟩:=dn
     have hlx:=DenL.len ys xs e3
     obtain ⟨O2,so2⟩:=JBz is ys xs so e3
     exact ⟨a,xs,e1,.inl (JIN same_hidP (g.K▸e2)),by omega,by omega,h _ O2 so2⟩
    ·cases e
  | _=>simp only [putT] at e;cases e
 | exc c=>rw [q] at kk;exact kk
 | bad=>rw [q] at kk;exact kk
noncomputable def RAS (X:Cx) (B:Bs) (C:Cn) (XX:Nat→Hp→Prop) (x:E):TA:=fun σ H Q=>∃δ O Hb,Same X.H₀ Hb∧SO B Hb σ H δ O∧(match evA C x δ with
 | .ok ds=>∀vs H' O',SO B Hb σ H' (after (.tup x) (.tuple ds) δ) O'→DenL B (hid H' O') ds vs→Q vs H'
 | .exc c=>XX c Hb
 | .bad=>False)
theorem JG0 {Hb:Hp} {σ:St} {H:Hp} {δ:Env} {O:Ow} (so:SO B Hb σ H δ O) {H1:Hp} {ds:List D} {vs:List V} (sm:Same (hidP H (unP x O)) H1) (hz:∀a,unP x O a→H1 a=none) (dn:DenL B H1 ds vs) :
  ∃O',SO B Hb σ (mixP H H1 (unP x O)) (after x (.tuple ds) δ) O'∧DenL B (hid (mixP H H1 (unP x O)) O') ds vs:=by
 unfold after
 split
 ·exact ⟨_,JFK so sm hz,DenL.mono (JA6 hz) ds vs dn⟩
 ·rename_i hb
  refine ⟨O,JCo so sm hz,?_⟩
  cases hu:JAR x 0 δ with
  | false =>
   refine DenL.mono (fun b o e=>?_) ds vs dn
   have hb':¬unP x O b:=fun h=>by rw [hz b h] at e;cases e
   have hb2:¬ownP O b:=fun ⟨i,h⟩=>by
    obtain ⟨ds,xs,e1,_⟩:=so.own h
    refine hb' ⟨i,h,?_⟩
    cases q:x.uses i with
    | false=>rfl
    | true =>
     have:=JBT x δ 0 i _ hu e1 (by rw [Nat.zero_add];exact q)
     cases this
   rw [hid,JAI hb2,JAQ hb']
   exact e
  | true =>
   have hl:JA0 ds=true:=by
    rw [hu] at hb
    cases q:JA0 ds with
    | true=>rfl
    | false=>exact absurd (by simp [JAS,q]) hb
   refine JBl (fun b o e ho=>?_) ds vs hl dn
   have hb':¬unP x O b:=fun h=>by rw [hz b h] at e;cases e
   have hb2:¬ownP O b:=fun ⟨i,h⟩=>by
    obtain ⟨ds,xs,_,_,e4,_,e9⟩:=so.own h
    have:=sm b _ (by rw [JAI hb'];exact e4)
    rw [e] at this
    cases this
    exact ho e9.b
   rw [hid,JAI hb2,JAQ hb']
   exact e
theorem JIi {es:E} {j:Nat}:(E.tup es).uses j=es.uses j:=rfl
theorem JCr:∀(δ:Env) (k:Nat),JAR (.tup x) k δ=JAR x k δ
 | [],_=>rfl
 | s::r,k=>by simp only [JAR,JIi,JCr r]
theorem JEN:∀(δ:Env) (k:Nat),JAv (.tup x) k δ=JAv x k δ
 | [],_=>rfl
 | s::r,k=>by simp only [JAv,JEN r];rfl
theorem JNI (g:Gk X B C CX XX G) {es:List Expr} (he:PA X es (RA B C XX x)):PA X es (RAS X B C XX x):=by
 intro pos pins s σ H Q I ⟨δ,O,Hb,hb,so,k⟩
 have J0:=JBR (ps:=JBP x O δ.length s.heap) I (JAp (x:=x) hb so) JAs
 have hev:=(agree C x δ (JAa x 0 δ) JBV).2.2.1
 cases q:evA C x δ with
 | ok ds =>
  rw [q] at k
  refine thn (he pos _ s σ _ (fun vs H1=>Same (hidP H (unP x O)) H1∧DenL B H1 ds vs) J0 ⟨JAa x 0 δ,JAl so,by rw [←hev,q];exact fun v H1 s1 d1=>⟨s1,d1⟩⟩) fun u s1 ⟨vs,H1,J,r,sm,dn⟩=>?_
  obtain ⟨I',hz⟩:=JA4 I J (JAp hb so) (JAm I so)
  obtain ⟨O',so',dn'⟩:=JG0 so sm hz dn
  refine ⟨vs,_,I',r,k vs _ O' ?_ dn'⟩
  have:after (.tup x) (.tuple ds) δ=after x (.tuple ds) δ:=by unfold after;rw [JCr,JEN]
  rw [this];exact so'
 | exc c =>
  rw [q] at k
  exact thn (he pos _ s σ _ (fun v H1=>False) J0 ⟨JAa x 0 δ,JAl so,by rw [←hev,q];exact g.anti c _ _ ((JAn so).trans same_un) k⟩) fun u s1 ⟨v,H1,J,r,f⟩=>f.elim
 | bad=>rw [q] at k;exact k.elim
theorem JPN [Cool G] (g:Gk X B C CX XX G) {a b:Expr} {i j:Nat} {nx ny:Str} {px py pt pt2:Pos} {kt k2:Nat} (ha:PA X [a,b] (RA B C XX x)) (hnd:X.N.Nodup) (hi:X.N[i]? = some nx) (hj:X.N[j]? = some ny) (hij:i≠j)
  (hx:X.env.scope.names.lookup nx=some .local) (hy:X.env.scope.names.lookup ny=some .local)
  (hw:swappedStores [.Tuple [.Name nx px,.Name ny py] kt pt] (.Tuple [a,b] k2 pt2) X.env=pure (some [nx,ny])):PS X (.Assign [.Tuple [.Name nx px,.Name ny py] kt pt] (.Tuple [a,b] k2 pt2) pos) (RSt X B C XX (.unp [i,j] (.tup x))) :=
 PS.imp (JNO (g.calm inferInstance) hnd hi hj hij hx hy (JNI g ha) hw) fun De σ H ⟨δ,O,Hb,hb,so,kk⟩=>by
  refine ⟨δ,O,Hb,hb,so,?_⟩
  simp only [exec,ev] at kk
  cases q:evA C x δ with
  | ok ds =>
    rw [q] at kk
    intro vs H' O' so' dn
    simp only [R.bind,JA2,List.length_cons,List.length_nil] at kk
    match ds,vs,dn,kk,so' with
    | [d1,d2],vs,dn,kk,so' =>
     obtain ⟨O2,so2⟩:=JBz [i,j] [d1,d2] vs so' dn
     simp only [DenL] at dn
     obtain ⟨v1,r,e,q1,v2,r2,e2,q2,e3⟩:=dn
     subst e3;subst e2;subst e
     exact ⟨v1,v2,rfl,kk _ _ O2 so2⟩
    | [],_,_,kk,_=>exact False.elim kk
    | [_],_,_,kk,_=>exact False.elim kk
    | _::_::_::_,_,_,kk,_=>simp at kk;exact False.elim kk
  | exc c=>rw [q] at kk;exact kk
  | bad=>rw [q] at kk;exact kk
end
section
variable {X:Cx} {B:Bs} {C:Cn} {CX:CXT} {XX:Nat→Hp→Prop} {G:List (Str×GK)} {x:E} {pos:Pos}
theorem SO.slotOwn {Hb:Hp} {σ:St} {H:Hp} {δ:Env} {O:Ow} (so:SO B Hb σ H δ O) {i:Nat} {ds:List D} (h:δ[i]? = some (.own (.list ds))):∃a xs,O i=some a∧σ[i]? = some (some (.ref a))∧H a=some (.lst xs)∧DenL B (hid H O) ds xs:=by
 have q:=so.slot i
 rw [h] at q
 simp only [JAO] at q
 obtain ⟨a,ds',xs,q1,q2,q3,q4,q5,q6⟩:=q
 cases q2
 cases xs with
 | lst xs=>exact ⟨a,xs,q1,q3,q4,q6⟩
 | _=>exact False.elim q6
theorem JPD (g:Gk X B C CX XX G) {a:Expr} {i:Nat} {nm:Str} {p1 ap cp:Pos} (hN:X.N[i]? = some nm) (hv:Vis X.env.scope nm) (hbn:JAH nm=false) (he:PE X a (RE B C XX x)) (hs:starEach [a] X.env=[(false,eval a X.env)]) (hl:(ap.endLine==cp.line)=true) :
  PS X (.Expr (.Call (.Attribute (.Name nm p1) "append" ap) [a] [] cp) pos) (RSt X B C XX (.app i x)):=by
 refine PS.imp (JGY (JNM PySem.F.plainAttrs_list PySem.F.slot_list_append PySem.F.type_list_append JEJ (JD1 hN hv (JAF hbn).1 (JAF hbn).2.1) (JBk (JHY g he) JC9 hs) rfl (by rw [hs];rfl) hl hs rfl) rfl) fun De σ H ⟨δ,O,Hb,hb,so,kk⟩=>?_
 simp only [exec] at kk
 split at kk
 ·rename_i ds hd
  obtain ⟨l,xs,q1,q2,q3,q4⟩:=so.slotOwn hd
  refine ⟨_,q2,.inl ⟨rfl,xs,SqL.of q3⟩,δ,O,Hb,hb,so,?_⟩
  cases q:ev C x δ with
  | ok d =>
   rw [q] at kk
   intro v H' O' so' dn
   have kk:JBr X B XX Hb De (JAu i ds x d δ):=kk
   unfold JAu at kk
   split at kk
   ·rename_i hlen
    split at kk
    ·exact False.elim kk
    ·rename_i hu
     have ea:after x d δ=δ:=by unfold after;rw [if_neg hu]
     rw [ea] at so'
     obtain ⟨l',xs',r1,r2,r3,r4⟩:=so'.slotOwn hd
     rw [q2] at r2
     cases r2
     refine ⟨l,xs',v,rfl,rfl,r3,by rw [←DenL.len ds xs' r4,sizeLine_eq];exact hlen,?_⟩
     exact kk _ _ O' (JJa so' r1 (DenL.append ds [d] xs' [v] r4 (by simp only [DenL];exact ⟨v,[],rfl,dn,rfl⟩)))
   ·exact False.elim kk
  | exc c=>rw [q] at kk;exact kk
  | bad=>rw [q] at kk;exact kk
 ·exact False.elim kk
end
theorem JDS {G:List (Str×GK)} {n:Nat} {it:Bool} {names:List (Str×NameKind)} {N:List Str} {e:Expr} {x:E} (h:JAN G n it names N e=some x) (hc:JCt e=false) (t:Option Expr) (l:Nat) (env:PySem.Env):swapsWith e t l env=pure false:=by
 cases n with
 | zero=>simp [JAN,JAW,JAP] at h
 | succ n=>cases e<;>first | rfl | (simp [JAN,JAW,JAP,xOf,dOf,dRaw,Option.bind_none,ite_self,xRaw] at h;done) | cases hc
theorem JF1 {G:List (Str×GK)} {n:Nat} {it:Bool} {names:List (Str×NameKind)} {N:List Str} {e:Expr} {x:E} (h:JAN G n it names N e=some x) (ts:List Expr) (k:Nat) (p:Pos) (l:Nat) (env:PySem.Env):swapsWithSole [.Tuple ts k p] e l env=pure false:=by
 cases n with
 | zero=>simp [JAN,JAW,JAP] at h
 | succ n=>cases e<;>first | rfl | (simp [JAN,JAW,JAP,xOf,dOf,dRaw,Option.bind_none,ite_self,xRaw] at h)
theorem JD9 {e:Expr} (hc:isTup e=false) (ts:List Expr) (k:Nat) (p:Pos) (env:PySem.Env):swappedStores [.Tuple ts k p] e env=pure none:=by
 cases e<;>first | rfl | cases hc
theorem JCh {P:Prop} (h:false=true):P:=by cases h
theorem JEj {names:List (Str×NameKind)} {ts:List Expr} {e:Expr} (h:JEI names ts e=true):∃nx px ny py a b k2 pt2,ts=[.Name nx px,.Name ny py]∧e=.Tuple [a,b] k2 pt2:=by
 rcases ts with _ | ⟨t1,_ | ⟨t2,_ | ⟨_,_⟩⟩⟩<;>try exact JCh h
 cases t1<;>try exact JCh h
 cases t2<;>try exact JCh h
 cases e<;>try exact JCh h
 rename_i es k p
 rcases es with _ | ⟨a,_ | ⟨b,_ | ⟨_,_⟩⟩⟩<;>try exact JCh h
 exact ⟨_,_,_,_,_,_,_,_,rfl,rfl⟩
theorem JD8 {names:List (Str×NameKind)} {env:PySem.Env} {a b:Expr} {nx ny:Str} {px py pt pt2:Pos} {kt k2:Nat} (hk:env.scope.kind=.function) (hn:env.scope.names=names) (hs:∀es:List Expr,es=[a,b]→(es.any fun | .Starred ..=>true | _=>false)=false)
  (h:JEI names [.Name nx px,.Name ny py] (.Tuple [a,b] k2 pt2)=true) :
  swappedStores [.Tuple [.Name nx px,.Name ny py] kt pt] (.Tuple [a,b] k2 pt2) env=pure (some [nx,ny])∧nx≠ny∧env.scope.names.lookup nx=some .local∧env.scope.names.lookup ny=some .local:=by
 simp only [JEI,JMO,Bool.and_eq_true,beq_iff_eq,Bool.not_eq_true',bne_iff_ne,ne_eq] at h
 obtain ⟨⟨⟨⟨⟨h1,h2⟩,h3⟩,h4⟩,h5⟩,h6⟩:=h
 have hb:env.blockKind=.function:=by unfold PySem.Env.blockKind;rw [hk];rfl
 have e1:env.kindOf nx=some .local:=by show env.scope.names.lookup nx=_;rw [hn];exact h1
 have e2:env.kindOf ny=some .local:=by show env.scope.names.lookup ny=_;rw [hn];exact h2
 refine ⟨?_,h4,e1,e2⟩
 have hst:=hs [a,b] rfl
 unfold swappedStores
 simp only [List.length_cons,List.length_nil,hb,List.head?_cons,Option.map_some,Option.getD_some,List.filterMap_cons,List.filterMap_nil,e1,e2]
 have l1:((Expr.Name nx px).pos).line=px.line:=rfl
 simp only [l1,h3,beq_self_eq_true,Bool.and_self,Bool.true_or,Bool.or_true,Bool.true_and,if_true,bne_self_eq_false,Bool.or_false,Bool.not_true,Bool.false_or,Bool.false_eq_true,if_false,h5,h6,hst]
 have l2:([nx,ny]:List Str).eraseDups.length=2:=by
  have hne:(ny==nx)=false:=beq_eq_false_iff_ne.mpr (Ne.symm h4)
  simp [List.eraseDups_cons,List.filter_cons,hne,bne]
 have hst':∀q:Expr→Bool,([a,b].any q)=false→q a=false∧q b=false:=fun q h=>by simpa using h
 have hab:=hst' _ hst
 simp [l2]
 intro hz
 exfalso
 rcases hz with z | z
 ·have:=hab.1
  cases a<;>first | (cases z;done) | (cases this;done)
 ·have:=hab.2
  cases b<;>first | (cases z;done) | (cases this;done)
theorem JEu {e:Expr} (h:JDM e=true):∃es p,e=.List es p:=by
 cases e<;>first | exact ⟨_,_,rfl⟩ | cases h
theorem JIr {e:Expr} (h:JCt e=true):∃a b c p,e=.ListComp a b c p:=by
 cases e<;>first | exact ⟨_,_,_,_,rfl⟩ | cases h
section
variable {B:Bs} {C:Cn} {CX:CXT} {G:List (Str×GK)}
noncomputable def JJL (X:Cx) (B:Bs) (G:List (Str×GK)) (XX:Nat→Hp→Prop):Prop:=∀(nm:Str) (c:Nat) (m:Str) (j:Nat) (p1 p2 p3 pos:Pos),Gl X nm→JAH nm=false→G.lookup nm=some (.cls c) →
 ∀(pins:List (Addr×Obj)) (s:Shared) (σ:St) (H:Hp) (D:Ends),Inv X pins σ H s→XX c H→wpAny (model X.prog X.w) X.A (PySem.exec (.Raise (some (.Call (.Name nm p1) [.Constant (.str m) j p2] [] p3)) none pos) X.env) (SP X pins D) X.xe s
noncomputable def atX (X:Cx) (A:Around) (pn:List (Addr×Obj)) (xe:Value→Shared→Prop) (calm:Bool):Cx:={ X with A:=A,pn:=pn,xe:=xe,calm:=calm }
noncomputable def Tries (X:Cx) (B:Bs) (C:Cn) (CX:CXT) (G:List (Str×GK)) (XX:Nat→Hp→Prop):Prop:=∀(body:List Stmt) (b:S) (cn en kn:Str) (c i j:Nat) (np p1 p2 p3 hpos pos:Pos),
 (∀(pn:List (Addr×Obj)) (xe:Value→Shared→Prop) (XX':Nat→Hp→Prop),PassesOwn (model X.prog X.w) X.A X.env xe→Gk (atX X X.A pn xe true) B C CX XX' G→PSs (atX X X.A pn xe true) body (RSt (atX X X.A pn xe true) B C XX' b)) →
 Gl X cn→JAH cn=false→JAH en=false→G.lookup cn=some (.cls c)→X.N.Nodup→X.N[i]? = some en→X.env.scope.names.lookup en=some .local→X.N[j]? = some kn→Loc X.env.scope kn→i≠j →
 PS X (.Try body [.ExceptHandler (some (.Name cn np)) (some en) [.Assign [.Name kn p1] (.Name en p2) p3] hpos] [] [] pos) (RSt X B C XX (.tryx b c i (.cons (.asg j (.var i)) .nil)))
theorem JDW {e c:Option Expr} {x:Str} (h:JEr e c=some x):∃p1 m j p2 p3,e=some (.Call (.Name x p1) [.Constant (.str m) j p2] [] p3)∧c=none:=by
 rcases e with _ | e
 ·exact JAE h
 cases e<;>try exact JAE h
 rename_i f as ks p3
 cases f<;>try exact JAE h
 rename_i x' p1
 rcases as with _ | ⟨a,as⟩
 ·exact JAE h
 cases a<;>try exact JAE h
 rename_i k j p2
 cases k<;>try exact JAE h
 rcases as with _ | ⟨_,_⟩<;>try exact JAE h
 rcases ks with _ | ⟨_,_⟩<;>try exact JAE h
 rcases c with _ | c<;>try exact JAE h
 cases h;exact ⟨_,_,_,_,_,rfl,rfl⟩
theorem JEZ {hs:List ExceptHandler} {q:Str×Str×Str} (h:handOf hs=some q):∃np p1 p2 p3 hp,hs=[.ExceptHandler (some (.Name q.1 np)) (some q.2.1) [.Assign [.Name q.2.2 p1] (.Name q.2.1 p2) p3] hp]:=by
 rcases hs with _ | ⟨⟨ty,en,b,hp⟩,hs⟩
 ·exact JAE h
 rcases ty with _ | ty
 ·exact JAE h
 cases ty<;>try exact JAE h
 rename_i cn np
 rcases en with _ | en
 ·exact JAE h
 rcases b with _ | ⟨st,b⟩
 ·exact JAE h
 cases st<;>try exact JAE h
 rename_i ts v p3
 rcases ts with _ | ⟨t1,ts⟩
 ·exact JAE h
 cases t1<;>try exact JAE h
 rcases ts with _ | ⟨_,_⟩<;>try exact JAE h
 cases v<;>try exact JAE h
 rcases b with _ | ⟨_,_⟩<;>try exact JAE h
 rcases hs with _ | ⟨_,_⟩<;>try exact JAE h
 dsimp only [handOf] at h
 split at h
 ·rename_i e
  cases h
  subst e
  exact ⟨_,_,_,_,_,rfl⟩
 ·cases h
theorem JEP {e:Expr} {x m:Str} {a:Expr} (h:JHf e=some (x,m,a)):∃p1 ap cp,e=.Call (.Attribute (.Name x p1) m ap) [a] [] cp∧(ap.endLine==cp.line)=true:=by
 cases e<;>try exact JAE h
 rename_i f as ks cp
 cases f<;>try exact JAE h
 rename_i o m ap
 cases o<;>try exact JAE h
 rcases as with _ | ⟨a,_ | ⟨_,_⟩⟩<;>try exact JAE h
 rcases ks with _ | ⟨_,_⟩<;>try exact JAE h
 dsimp only [JHf] at h
 split at h
 ·rename_i e
  cases h
  exact ⟨_,_,_,rfl,e⟩
 ·cases h
theorem JFw {e:Expr} {x:Str} {a b:Expr} (h:JLO e=some (x,a,b)):∃p1 ap cp,e=.Call (.Attribute (.Name x p1) "insert" ap) [a,b] [] cp∧(ap.endLine==cp.line)=true:=by
 cases e<;>try exact JAE h
 rename_i f as ks cp
 cases f<;>try exact JAE h
 rename_i o m ap
 cases o<;>try exact JAE h
 rcases as with _ | ⟨a,_ | ⟨b,_ | ⟨_,_⟩⟩⟩<;>try exact JAE h
 rcases ks with _ | ⟨_,_⟩<;>try exact JAE h
 dsimp only [JLO] at h
 split at h
 ·rename_i e
  cases h
  obtain ⟨e1,e2⟩:=e
  subst e2
  exact ⟨_,_,_,rfl,e1⟩
 ·cases h
theorem JFc {e:Expr} (h:docOf e=true):∃y j p,e=.Constant (.str y) j p:=by
 unfold docOf at h
 split at h
 ·exact ⟨_,_,_,rfl⟩
 ·cases h
theorem JDj {ts:List Expr} {x:Str} (h:JFh ts=some (.inl x)):∃p,ts=[.Name x p]:=by
 unfold JFh at h
 split at h
 ·cases h;exact ⟨_,rfl⟩
 ·cases h
 ·cases h
theorem JDm {ts us:List Expr} (h:JFh ts=some (.inr us)):∃k p,ts=[.Tuple us k p]:=by
 unfold JFh at h
 split at h
 ·cases h
 ·cases h;exact ⟨_,_,rfl⟩
 ·cases h
theorem JFu {e:Expr} {es:List Expr} (h:JLH e=some es):∃k p,e=.Tuple es k p:=by
 unfold JLH at h
 split at h
 ·cases h;exact ⟨_,_,rfl⟩
 ·cases h
theorem JBe {X:Cx} {XX:Nat→Hp→Prop} {f:Stmt→Option S} (ih:∀st t,f st=some t→PS X st (RSt X B C XX t)):∀ {sts:List Stmt} {t:S},JAe f sts=some t→PSs X sts (RSt X B C XX t)
 | [],t,h=>by unfold JAe at h;cases h;exact JNx
 | st::r,t,h=>by
  unfold JAe at h
  obtain ⟨a,h1,h⟩:=Option.bind_eq_some_iff.mp h
  obtain ⟨b,h2,h⟩:=Option.bind_eq_some_iff.mp h
  cases h
  exact JLl (ih st a h1) (JBe ih h2)
theorem JEX {X:Cx} {XX:Nat→Hp→Prop} (ra:Rare B C CX G) (g:Gk X B C CX XX G) (hf:G.lookup (".dict":Str)=some GK.opt) {st:Stmt} {t:S} (h:PS X st (RSt X B C XX t)):∀(N:List Str) (i:Nat) (y:E),PS X st (RSt X B C XX (preF G N i y t))
 | [],_,_=>h
 | x::r,i,y=>by
  unfold preF
  split
  ·exact (ra.dop hf).frz X XX g st _ i (JEX ra g hf h r (i+1) y)
  ·exact JEX ra g hf h r (i+1) y
theorem JFC {X:Cx} {XX:Nat→Hp→Prop} (ra:Rare B C CX G) (g:Gk X B C CX XX G) {st:Stmt} {t:S} {names:List (Str×NameKind)} {N:List Str} {y:E} (h:PS X st (RSt X B C XX t)):PS X st (RSt X B C XX (pre G names N y t)):=by
 unfold pre
 split
 ·exact JEX ra g (JFR (by assumption)) h N 0 y
 ·exact h
theorem JG9 {names:List (Str×NameKind)} {e:Expr} {q:XO×List Expr} (h:dRaw G names false e=some q) (t:Option Expr) (l:Nat) (env:PySem.Env):swapsWith e t l env=pure false:=by
 cases e<;>first | rfl | exact JAE h
theorem JFe {ts:List Expr} {q:Str×Expr} (h:JLg ts=some q):∃p1 p2,ts=[.Subscript (.Name q.1 p1) q.2 p2]∧isSlice q.2=false:=by
 rcases ts with _ | ⟨t,ts⟩
 ·exact JAE h
 cases t<;>try exact JAE h
 rename_i o k p2
 cases o<;>try exact JAE h
 rcases ts with _ | ⟨_,_⟩<;>try exact JAE h
 dsimp only [JLg] at h
 split at h
 ·cases h
 ·rename_i hs
  cases h
  exact ⟨_,_,rfl,by simpa using hs⟩
structure RareS (B:Bs) (C:Cn) (CX:CXT) (G:List (Str×GK)):Prop where
 dsp:G.lookup (".dsp":Str)=some GK.opt→∀(X:Cx) (XX:Nat→Hp→Prop) (n:Nat) (names:List (Str×NameKind)) (N:List Str),Gk X B C CX XX G→(∀e x,JAN G n false names N e=some x→PE X e (RE B C XX x))→X.env.scope.kind=.function→X.env.scope.names=names→X.N=N→N.Nodup→(∀nm,X.fn nm=true∨X.env.scope.names.lookup nm≠some .cell) →
  ∀(ts es:List Expr) (is:List Nat) (k k2:Nat) (pt pt2 pos:Pos) (q:E×Option Nat),slots names N ts=some is→is.Nodup→JJR names ts es=true→JMH (JAN G n false names N) es is=some q→PS X (.Assign [.Tuple ts k pt] (.Tuple es k2 pt2) pos) (RSt X B C XX (unpO is q.1 q.2))
 ext:G.lookup (".ext":Str)=some GK.opt→∀(X:Cx) (XX:Nat→Hp→Prop),Gk X B C CX XX G→∀(x:E) (a:Expr) (i:Nat) (nm:Str) (p1 ap cp pos:Pos),X.N[i]? = some nm→Vis X.env.scope nm→JAH nm=false→(PE X a (REF B C XX x)∨PE X a (RE B C XX x))→starEach [a] X.env=[(false,eval a X.env)]→(ap.endLine==cp.line)=true →
  PS X (.Expr (.Call (.Attribute (.Name nm p1) "extend" ap) [a] [] cp) pos) (RSt X B C XX (.ext i x))
 ins:G.lookup (".ins":Str)=some GK.opt→∀(X:Cx) (XX:Nat→Hp→Prop),Gk X B C CX XX G→∀(x:E) (a b:Expr) (i:Nat) (nm:Str) (p1 ap cp pos:Pos),X.N[i]? = some nm→Vis X.env.scope nm→JAH nm=false→PA X [a,b] (RA B C XX x)→starEach [a,b] X.env=[(false,eval a X.env),(false,eval b X.env)]→starEach [b] X.env=[(false,eval b X.env)]→(ap.endLine==cp.line)=true →
  PS X (.Expr (.Call (.Attribute (.Name nm p1) "insert" ap) [a,b] [] cp) pos) (RSt X B C XX (.ins i x))
theorem JDp (ra:Rare B C CX G) (rr:RareS B C CX G):∀(n:Nat) (X:Cx) (XX:Nat→Hp→Prop) (names:List (Str×NameKind)) (N:List Str) (zz:Bool),Gk X B C CX XX G→X.env.scope.kind=.function→X.env.scope.names=names→X.N=N→N.Nodup →
  PassesOwn (model X.prog X.w) X.A X.env X.xe→(∀nm,X.fn nm=true)→(zz=true→JJL X B G XX)→(zz=true→G.lookup (".try":Str)=some GK.opt→Tries X B C CX G XX)→∀(st:Stmt) (t:S),JCA G n zz names N st=some t→PS X st (RSt X B C XX t)
 | 0,X,XX,names,N,zz,g,hk,hn,hN,hnd,hpo,hfn,hr,ht,st,t,h=>JAE h
 | n+1,X,XX,names,N,zz,g,hk,hn,hN,hnd,hpo,hfn,hr,ht,st,t,h=>by
  have ih:=JDp ra rr n X XX names N zz g hk hn hN hnd hpo hfn hr ht
  obtain ⟨ihE,ihI⟩:=sound ra n X XX names N g hk hn hN hnd
  cases st with
  | Pass p=>cases h;exact JLt
  | Break p=>cases h;exact JNZ
  | Continue p=>cases h;exact JMc
  | Return e p =>
   cases e with
   | none=>cases h;exact JMD
   | some e =>
    dsimp only [JCA,JBw] at h
    obtain ⟨x,hx,e'⟩:=Option.map_eq_some_iff.mp h
    subst e'
    exact JFC ra g (JMo g (ihE e x hx).1)
  | If c a b p =>
   dsimp only [JCA,JBw] at h
   obtain ⟨z,hz,h⟩:=Option.bind_eq_some_iff.mp h
   obtain ⟨x,hx,h⟩:=Option.bind_eq_some_iff.mp h
   obtain ⟨y,hy,h⟩:=Option.bind_eq_some_iff.mp h
   cases h
   exact JFC ra g (JML g (ihE c z hz).2 (JBe ih hx) (JBe ih hy))
  | While c body orelse p =>
   cases orelse with
   | cons a b=>exact JAE h
   | nil =>
    dsimp only [JCA,JBw] at h
    obtain ⟨z,hz,h⟩:=Option.bind_eq_some_iff.mp h
    obtain ⟨x,hx,h⟩:=Option.bind_eq_some_iff.mp h
    cases h
    exact JPM g hpo (ihE c z hz).2 (JBe ih hx)
  | For tg iter body orelse p =>
   cases orelse with
   | cons a b=>exact JAE h
   | nil =>
    dsimp only [JCA,JBw] at h
    split at h
    case isTrue=>cases h
    rename_i hcool
    haveI:Cool G:=JCS hcool
    split at h
    ·rename_i nm ht
     obtain ⟨p2,e2⟩:=JDj ht
     cases e2
     obtain ⟨i,hi,h⟩:=Option.bind_eq_some_iff.mp h
     obtain ⟨x,hx,h⟩:=Option.bind_eq_some_iff.mp h
     obtain ⟨b,hb,h⟩:=Option.bind_eq_some_iff.mp h
     cases h
     obtain ⟨q1,q2⟩:=slot_of hn hN hi
     exact JK0 g hpo (ihI _ iter x hx) (JBe ih hb) (by rw [hN];exact hnd) q1 q2 (.inl (hfn nm)) (JBZ hx X.env)
    ·rename_i ts ht
     obtain ⟨k,p2,e2⟩:=JDm ht
     cases e2
     obtain ⟨is,hi,h⟩:=Option.bind_eq_some_iff.mp h
     obtain ⟨x,hx,h⟩:=Option.bind_eq_some_iff.mp h
     obtain ⟨b,hb,h⟩:=Option.bind_eq_some_iff.mp h
     cases h
     cases hxx:xT G names iter with
     | none =>
      rw [hxx] at hx
      exact JHB g hpo (ihI _ iter x hx) (JBe ih hb) hn hN hnd (fun nm=>.inl (hfn nm)) hi (JBZ hx X.env)
     | some q =>
      rw [hxx] at hx
      obtain ⟨y,hy,rfl⟩:=Option.map_eq_some_iff.mp hx
      obtain ⟨q1,q2⟩:=JDY hxx
      exact JHB g hpo ((ra.xop q.1 q2).tgt X XX g ts k p2 iter q.2 y (by rw [hn];exact q1) (allA g (fun a x h=>(ihE a x h).1) hy) (JCf hy) (JAU hy)) (JBe ih hb) hn hN hnd (fun nm=>.inl (hfn nm)) hi (JEh hxx X.env)
    ·cases h
  | Raise exc cause p =>
   dsimp only [JCA,JBw] at h
   obtain ⟨nm,hr0,h9⟩:=Option.bind_eq_some_iff.mp h
   clear h
   obtain ⟨p1,m,j,p2,p3,rfl,rfl⟩:=JDW hr0
   have h:=h9
   clear h9
   split at h
   ·rename_i c hg
    split at h
    case isFalse=>cases h
    rename_i hz
    cases h
    obtain ⟨g1,g2,g3⟩:=JBN hg
    intro pins s σ H D I ⟨δ,O,Hb,hb,so,k⟩
    simp only [exec] at k
    exact hr hz nm c m j p1 p2 p3 p (JBi hn g2) g1 g3 pins s σ H D I (g.anti c Hb H so.same k)
   ·cases h
  | Assign ts e p =>
   have hfn':∀nm,X.fn nm=true∨X.env.scope.names.lookup nm=some .local:=fun nm=>.inl (hfn nm)
   dsimp only [JCA,JBw] at h
   split at h
   ·rename_i nm ht
    obtain ⟨p1,rfl⟩:=JDj ht
    obtain ⟨i,hi,h⟩:=Option.bind_eq_some_iff.mp h
    cases hd:dFr G names e with
    | some q =>
     rw [hd] at h
     obtain ⟨y,hy,rfl⟩:=Option.map_eq_some_iff.mp h
     obtain ⟨r,hd1,hd2⟩:=Option.bind_eq_some_iff.mp hd
     split at hd2
     case isFalse=>cases hd2
     rename_i hk2
     cases hd2
     obtain ⟨hd1,hfl⟩:=JFV hd1
     obtain ⟨q1,q2⟩:=slot_of hn hN hi
     refine JFC ra g ?_
     exact JEm g ((ra.dop hfl).own X XX g e _ _ y (by rw [hn];exact hd1) hk2 (pes (fun a x h=>(ihE a x h).1) hy) (JCf hy)) (by cases hk3:q.1<;>rw [hk3] at hk2<;>first | rfl | cases hk2) (by rw [hN];exact hnd) q1 q2 (JG9 hd1 _ _ _) (hfn' nm)
    | none =>
    rw [hd] at h
    obtain ⟨y,hy,h⟩:=Option.bind_eq_some_iff.mp h
    split at h
    ·cases h
    ·rename_i hc
     cases h
     refine JFC ra g ?_
     obtain ⟨q1,q2⟩:=slot_of hn hN hi
     have hnd':X.N.Nodup:=by rw [hN];exact hnd
     by_cases h1:JDM e=true
     ·obtain ⟨es,p2,rfl⟩:=JEu h1
      have hf:y.fresh=true:=by
       cases n with
       | zero=>simp [JAN,JAW,JAP] at hy
       | succ n =>
        simp only [JAN,JAW,JAP,xOf,dOf,dRaw,Option.bind_none,ite_self,xRaw,Option.bind_none] at hy
        split at hy
        ·obtain ⟨z,_,e'⟩:=Option.map_eq_some_iff.mp hy
         subst e';rfl
        ·cases hy
      exact JEm g (JEE ra g hk hn hN hnd hy) hf hnd' q1 q2 rfl (hfn' nm)
     ·by_cases h2:JCt e=true
      ·obtain ⟨elt,gens,sc,p2,rfl⟩:=JIr h2
       haveI:Cool G:=JHa hy
       obtain ⟨target,iter,ifs,xs,k,y1,z1,w1,e1,e2,bk,hi2,hs2,hrun⟩:=JGo ra g hk hn hN hnd hy
       subst e1;subst e2
       cases hb:(X.env.blockKind==.function&&X.env.kindOf nm==some .local&&p1.line==(Expr.ListComp elt [⟨target,iter,ifs,0⟩] sc p2).pos.line&&!(sc.names.any fun (n,k)=>n==nm&&(k==.local || k==.cell))) with
       | true =>
        have hsw:swapsWith (.ListComp elt [⟨target,iter,ifs,0⟩] sc p2) (some (.Name nm p1)) p.line X.env=pure true:=by rw [←hb];rfl
        have hloc:X.env.scope.names.lookup nm=some .local:=by
         simp only [Bool.and_eq_true,beq_iff_eq] at hb
         exact hb.1.1.2
        exact JKm g (JIA g bk hi2 hs2 hrun hsw hnd' q1 hloc) rfl
       | false =>
        have hsw:swapsWith (.ListComp elt [⟨target,iter,ifs,0⟩] sc p2) (some (.Name nm p1)) p.line X.env=pure false:=by rw [←hb];rfl
        exact JEm g (JCa g bk hi2 hs2 hrun) rfl hnd' q1 q2 hsw (hfn' nm)
      ·have hf:y.fresh=false:=by
        cases hz:y.fresh with
        | false=>rfl
        | true=>exact absurd ⟨hz,by simpa using h1,by simpa using h2⟩ hc
       exact JPV g (ihE e y hy).1 hf hnd' q1 q2 (JDS hy (by simpa using h2) _ _ _) (hfn' nm)
   ·rename_i ts ht
    obtain ⟨k,pt,rfl⟩:=JDm ht
    obtain ⟨is,hi,h⟩:=Option.bind_eq_some_iff.mp h
    split at h
    ·rename_i hc0
     obtain ⟨hc,hcool⟩:=hc0
     haveI:Cool G:=JCS (by rw [hcool];decide)
     obtain ⟨y,hy,e'⟩:=Option.map_eq_some_iff.mp h
     subst e'
     by_cases ht:isTup e=true
     ·have hp:JEI names ts e=true:=by
       rcases hc.2 with z | z
       ·rw [ht] at z;cases z
       ·exact z
      obtain ⟨nx,px,ny,py,a,b,k2,pt2,e7,e8⟩:=JEj hp
      subst e7;subst e8
      ·skip
       obtain ⟨w1,w2,w3,w4⟩:=JD8 (env:=X.env) (kt:=k) (pt:=pt) hk hn (fun es e=>by
        subst e
        cases n with
        | zero=>simp [JAN,JAW,JAP] at hy
        | succ n =>
         simp only [JAN,JAW,JAP,xOf,dOf,dRaw,Option.bind_none,ite_self,xRaw,Option.bind_none] at hy
         split at hy
         ·obtain ⟨z,hz,_⟩:=Option.map_eq_some_iff.mp hy
          unfold JAJ at hz
          obtain ⟨z1,hz1,hz⟩:=Option.bind_eq_some_iff.mp hz
          obtain ⟨z2,hz2,hz⟩:=Option.bind_eq_some_iff.mp hz
          unfold JAJ at hz2
          obtain ⟨z3,hz3,hz2⟩:=Option.bind_eq_some_iff.mp hz2
          have t1:∀ {e:Expr} {x:E},JAN G n false names N e=some x→(match e with | .Starred ..=>true | _=>false)=false:=by
           intro e x h
           cases e<;>first | rfl | (cases n<;>simp [JAN,JAW,JAP,xOf,dOf,dRaw,Option.bind_none,ite_self,xRaw] at h)
          simp only [List.any_cons,List.any_nil,t1 hz1,t1 hz3,Bool.or_self,Bool.or_false]
         ·cases hy) hp
       simp only [slots] at hi
       obtain ⟨i,hi1,hi⟩:=Option.bind_eq_some_iff.mp hi
       obtain ⟨js,hi2,hi⟩:=Option.bind_eq_some_iff.mp hi
       obtain ⟨j,hi3,hi2⟩:=Option.bind_eq_some_iff.mp hi2
       simp only [Option.bind_some,Option.some.injEq] at hi2
       subst hi2
       cases hi
       have hy':=hy
       cases n with
       | zero=>simp [JAN,JAW,JAP] at hy
       | succ n =>
        simp only [JAN,JAW,JAP,xOf,dOf,dRaw,Option.bind_none,ite_self,xRaw,Option.bind_none] at hy
        split at hy
        ·obtain ⟨z,hz,e'⟩:=Option.map_eq_some_iff.mp hy
         subst e'
         have hij:i≠j:=by
          have:=of_decide_eq_true hc.1
          simp at this
          exact this
         exact JPN g (allA g (fun e x h=>((sound ra n X XX names N g hk hn hN hnd).1 e x h).1) hz) (by rw [hN];exact hnd) (slot_of hn hN hi1).1 (slot_of hn hN hi3).1 hij w3 w4 w1
        ·cases hy
     ·exact JNk g (ihE e y hy).1 hn hN hnd (fun nm=>.inl (hfn nm)) hi (JF1 hy _ _ _ _ _) (JD9 (by simpa using ht) _ _ _ _)
    ·obtain ⟨es,he,h9⟩:=Option.bind_eq_some_iff.mp h
     clear h
     obtain ⟨k2,pt2,rfl⟩:=JFu he
     split at h9
     case isFalse=>cases h9
     rename_i hc
     obtain ⟨q,hq,rfl⟩:=Option.map_eq_some_iff.mp h9
     exact rr.dsp hc.2 X XX n names N g (fun e x h=>((sound ra n X XX names N g hk hn hN hnd).1 e x h).1) hk hn hN hnd (fun nm=>.inl (hfn nm)) ts es is k k2 pt pt2 p q hi (of_decide_eq_true hc.1.1) hc.1.2 hq
   ·obtain ⟨q,hq,h9⟩:=Option.bind_eq_some_iff.mp h
    clear h
    split at h9
    case isFalse=>cases h9
    rename_i hc
    obtain ⟨p1,p2,hts,hsl⟩:=JFe hq
    subst hts
    obtain ⟨i,hi,h9⟩:=Option.bind_eq_some_iff.mp h9
    obtain ⟨y,hy,h9⟩:=Option.bind_eq_some_iff.mp h9
    obtain ⟨z,hz,h9⟩:=Option.bind_eq_some_iff.mp h9
    cases h9
    obtain ⟨q1,q2⟩:=slot_of hn hN hi
    exact (ra.dop (JFR hc.1)).put X XX g q.1 i p1 p2 p q.2 e z y q1 (by
     rcases q2 with k | k
     ·exact .inl k
     ·exact .inr (.inl k)) hc.2.1 hsl (ihE e y hy).1 (ihE q.2 z hz).1 fun t l=>JDS hy hc.2.2 t l X.env
  | Expr e p =>
   dsimp only [JCA,JBw] at h
   split at h
   ·rename_i nm m a hm
    obtain ⟨p1,ap,cp,rfl,hc1⟩:=JEP hm
    split at h
    ·rename_i hc2
     have JC5:∀ {i},slot names N nm=some i→Vis X.env.scope nm:=fun hi=>by
      rcases (slot_of hn hN hi).2 with k | k
      ·exact .inl k
      ·exact .inr (.inl k)
     split at h
     ·rename_i hm
      subst hm
      obtain ⟨i,hi,h⟩:=Option.bind_eq_some_iff.mp h
      obtain ⟨y,hy,e'⟩:=Option.map_eq_some_iff.mp h
      subst e'
      exact JPD g (slot_of hn hN hi).1 (JC5 hi) hc2 (ihE a y hy).1 (JAV hy [] _) hc1
     ·split at h
      ·rename_i hm
       obtain ⟨⟨hm,hl⟩,hfl⟩:=hm
       subst hm
       obtain ⟨i,hi,h⟩:=Option.bind_eq_some_iff.mp h
       obtain ⟨y,hy,e'⟩:=Option.map_eq_some_iff.mp h
       subst e'
       by_cases hl2:JDM a=true
       ·obtain ⟨es,p2,rfl⟩:=JEu hl2
        exact rr.ext hfl X XX g y _ i nm p1 ap cp p (slot_of hn hN hi).1 (JC5 hi) hc2 (.inl (JEE ra g hk hn hN hnd hy)) (JAV hy [] _) hc1
       ·exact rr.ext hfl X XX g y a i nm p1 ap cp p (slot_of hn hN hi).1 (JC5 hi) hc2 (.inr (ihE a y hy).1) (JAV hy [] _) hc1
      ·split at h
       ·rename_i hm
        obtain ⟨hm,hfl⟩:=hm
        subst hm
        obtain ⟨i,hi,h⟩:=Option.bind_eq_some_iff.mp h
        obtain ⟨y,hy,e'⟩:=Option.map_eq_some_iff.mp h
        subst e'
        exact (ra.dop (JFR hfl)).pop X XX g nm i p1 ap cp p a y (slot_of hn hN hi).1 (JC5 hi) hc2 (ihE a y hy).1 (JAV hy [] _) hc1
       ·cases h
    ·cases h
   ·split at h
    ·rename_i nm a b hm
     obtain ⟨p1,ap,cp,rfl,hc1⟩:=JFw hm
     split at h
     ·rename_i hc2
      obtain ⟨i,hi,h⟩:=Option.bind_eq_some_iff.mp h
      obtain ⟨y,hy,e'⟩:=Option.map_eq_some_iff.mp h
      subst e'
      have vs:Vis X.env.scope nm:=by
       rcases (slot_of hn hN hi).2 with k | k
       ·exact .inl k
       ·exact .inr (.inl k)
      have s1:=JCf hy a (by simp) [b] X.env
      have s2:=JCf hy b (by simp) [] X.env
      have s3:starEach ([]:List Expr) X.env=[]:=rfl
      rw [s3] at s2
      rw [s2] at s1
      exact rr.ins hc2.2 X XX g y a b i nm p1 ap cp p (slot_of hn hN hi).1 vs hc2.1 (allA g (fun e x h=>((sound ra n X XX names N g hk hn hN hnd).1 e x h).1) hy) s1 s2 hc1
     ·cases h
    ·split at h
     ·rename_i hd
      obtain ⟨y,j,p2,rfl⟩:=JFc hd
      cases h
      exact JMw
     ·split at h
      ·cases h
      ·rename_i hc
       obtain ⟨y,hy,e'⟩:=Option.map_eq_some_iff.mp h
       subst e'
       exact JME g (ihE e y hy).1 (JDS hy (by simpa using hc) _ _ _)
  | Try body hs orelse fin p =>
   cases orelse with
   | cons a b=>exact JAE h
   | nil =>
    cases fin with
    | cons a b=>exact JAE h
    | nil =>
     dsimp only [JCA,JBw] at h
     obtain ⟨⟨cn,en,kn⟩,hq,h9⟩:=Option.bind_eq_some_iff.mp h
     clear h
     obtain ⟨np,p1,p2,p3,hp,rfl⟩:=JEZ hq
     have h:=h9
     clear h9 hq
     simp only at h ⊢
     split at h
     case isFalse=>cases h
     rename_i hc
     obtain ⟨hz,ho,hb,hl⟩:=hc
     split at h
     case h_2=>cases h
     rename_i c hg
     obtain ⟨b,hbb,h⟩:=Option.bind_eq_some_iff.mp h
     obtain ⟨i,hi,h⟩:=Option.bind_eq_some_iff.mp h
     obtain ⟨j,hj,h⟩:=Option.bind_eq_some_iff.mp h
     split at h
     case isTrue=>cases h
     rename_i hij
     cases h
     obtain ⟨g1,g2,g3⟩:=JBN hg
     have hie:slot names N en=some i:=by unfold slot;rw [hl];exact hi
     refine ht hz ho _ _ _ _ _ _ _ _ _ _ _ _ _ _ (fun pn xe XX' po gk=>?_) (JBi hn g2) g1 hb g3 (by rw [hN];exact hnd) (slot_of hn hN hie).1 (by rw [hn];exact hl) (slot_of hn hN hj).1 (slot_of hn hN hj).2 hij
     exact JBe (JDp ra rr n (atX X X.A pn xe true) XX' names N false gk hk hn hN hnd po hfn (fun z=>by cases z) (fun z=>by cases z)) hbb
  | _=>exact JAE h
end
structure Turned (G:List (Str×GK)) (st:Stmt) (N ps:List Str) (fd:Fd):Prop where
 comp:JAe (JCA G 60 true (JAC st).names N) (JAZ st)=some fd.body
 sc:FnScope N ps (JAC st)
 par:fd.par=ps.length
 slots:fd.slots=N.length
structure DefAt (K:PySem.W.Frag) (mg:Str→Option Value) (G:List (Str×GK)) (x:Str) (fd:Fd):Prop where
 ex:∃f fo st N ps,mg x=some (.ref f)∧Fun K x x st f fo∧Binds K fo ps []∧Turned G st N ps fd
theorem JB4 {N:List Str} {ds:List D} {vs:List V} {B:Bs} {H:Hp} {m:Nat} (h:DenL B H ds vs) (hl:N.length=m) (hv:vs.length≤m):SO B H (start N vs) H (ds.map Sl.val++List.replicate (m - ds.length) Sl.no) (fun _=>none):=by
 have hlen:=DenL.len ds vs h
 refine ⟨?_,Same.refl H,(fun i j a e=>by cases e),fun i=>?_⟩
 ·simp only [L2.start,List.length_append,List.length_map,List.length_replicate];omega
 ·have hh:hid H (fun _=>none)=H:=by
   funext b
   unfold hid hidP
   rw [if_neg]
   rintro ⟨i,e⟩
   cases e
  by_cases hi:i<ds.length
  ·rw [List.getElem?_append_left (by simpa using hi),List.getElem?_map]
   obtain ⟨d,hd⟩:∃d,ds[i]? = some d:=⟨_,List.getElem?_eq_getElem hi⟩
   obtain ⟨v,hv,dn⟩:=DenL.get ds vs i d h hd
   rw [hd]
   refine ⟨rfl,v,?_,by rw [hh];exact dn⟩
   unfold L2.start
   rw [List.getElem?_append_left (by rw [List.length_map];omega),List.getElem?_map,hv]
   rfl
  ·rw [List.getElem?_append_right (by simpa using hi),List.getElem?_replicate]
   split
   ·rfl
   ·rfl
section
variable {B:Bs} {G:List (Str×GK)} {tab:Nat→Option Fd} {glo:Nat→R D} {sub:Nat→Nat→Bool}
theorem JMA {x:Bool} {n i:Nat} {ds:List D} (h:run x tab glo sub n i ds≠.bad):∃fd,tab i=some fd∧ds.length=fd.par:=by
 cases n with
 | zero=>exact absurd rfl h
 | succ n =>
  unfold run at h
  cases e:tab i with
  | none=>rw [e] at h;exact absurd rfl h
  | some fd =>
   have h:JEQ x ⟨run x tab glo sub n,glo,sub⟩ fd ds≠.bad:=by rw [e] at h;exact h
   refine ⟨fd,rfl,?_⟩
   unfold JEQ at h
   by_cases hl:ds.length=fd.par
   ·exact hl
   ·rw [if_neg hl] at h
    exact absurd rfl h
theorem JE4 {H:Hp}:∀ns:List Int,DenL B H (ns.map fun i=>PyData.int i) (ns.map V.int)
 | []=>by simp only [List.map_nil,DenL]
 | n::ns=>by
  simp only [List.map_cons,DenL]
  exact ⟨_,_,rfl,by simp only [Den],JE4 ns⟩
end
structure FnIn (K:PySem.W.Frag) (x:Str) (st:Stmt):Prop where
 ex:∃(f:Addr) (oc:Value) (od an:Option Addr) (sl:Array (Option Value)) (kV dc pm cd ct:Value),PySem.W.nsIn K mainGlobals x=some (some (.ref f)) ∧
  K.lookup f=some ⟨oc,od,.func (PySem.W.fnOf x x (JBF st) (JAZ st) (JAC st) .none kV dc pm an cd ct),sl⟩∧PySem.W.codeIn K cd x=true∧PySem.W.keepIn K (.ref f)=true
theorem fn_in {K:PySem.W.Frag} {x:Str} {st:Stmt} {f:Addr} {oc:Value} {od an:Option Addr} {sl:Array (Option Value)} {kV dc pm cd ct:Value} (a:PySem.W.nsIn K mainGlobals x=some (some (.ref f)))
  (l:K.lookup f=some ⟨oc,od,.func (PySem.W.fnOf x x (JBF st) (JAZ st) (JAC st) .none kV dc pm an cd ct),sl⟩) (c:PySem.W.codeIn K cd x=true) (k:PySem.W.keepIn K (.ref f)=true):FnIn K x st :=
 ⟨f,oc,od,an,sl,kV,dc,pm,cd,ct,a,l,c,k⟩
noncomputable def JAK (x:Str) (st:Stmt) (ps:List Str):Prop:=∀(kV doc pm:Value) (an:Option Addr) (cdv ct:Value) (us:List Value),us.length=ps.length→bindArgs (PySem.W.fnOf x x (JBF st) (JAZ st) (JAC st) .none kV doc pm an cdv ct) ⟨us,[]⟩=pure (ps.zip us)
theorem FnIn.at {K:PySem.W.Frag} {h:Heap} {mg:Str→Option Value} {G:List (Str×GK)} {x:Str} {st:Stmt} {N ps:List Str} {fd:Fd} (F:FnIn K x st) (X:K.In h) (Gm:h.Ns mainGlobals mg) (b:JAK x st ps) (T:Turned G st N ps fd):DefAt K mg G x fd:=by
 obtain ⟨f,oc,od,an,sl,kV,dc,pm,cd,ct,a,l,c,k⟩:=F.ex
 have Fn:=JEx (st:=st) l c k
 exact ⟨f,_,st,N,ps,PySem.W.mg_of X Gm a,Fn,Fn.binds b,T⟩
noncomputable def AllP (P:Str→GK→Prop):List (Str×GK)→Prop
 | []=>True
 |(x,k)::r=>P x k∧AllP P r
theorem AllP.get {P:Str→GK→Prop}:∀ {G:List (Str×GK)} {x:Str} {k:GK},AllP P G→G.lookup x=some k→P x k
 | [],x,k,_,h=>by cases h
 |(y,j)::r,x,k,⟨h1,h2⟩,h=>by
  rw [List.lookup_cons] at h
  by_cases e:(x==y)=true
  · rw [e] at h
    have e':x=y:=by simpa using e
    cases h
    subst e'
    exact h1
  · have e':(x==y)=false:=by simpa using e
    rw [e'] at h
    exact AllP.get h2 h
theorem JGl {o:Expr} (h:JBM o=false) (nm:Str) (env:PySem.Env) (m:Sem Value):attributeBase o nm env m=m:=by
 cases o with
 | Call f as ks p =>
  cases as with
  | nil =>
   cases ks with
   | nil=>cases h
   | cons k ks=>cases f<;>rfl
  | cons a as=>cases f<;>rfl
 | _=>rfl
section
variable {X:Cx} {B:Bs} {C:Cn} {CX:CXT} {XX:Nat→Hp→Prop} {G:List (Str×GK)}
noncomputable def JNp (B:Bs) (XX:Nat→Hp→Prop):V→List V→Hp→VK→Prop:=fun v vs H Q=>∃dx dy u,Den B H dx v∧vs=[u]∧Den B H dy u∧KE B XX (JDG dx dy) H Q
noncomputable def JOZ (B:Bs) (XX:Nat→Hp→Prop):V→List V→Hp→VK→Prop:=fun v vs H Q=>∃dx dy u,Den B H dx v∧vs=[u]∧Den B H dy u∧KE B XX (JC6 dx dy) H Q
theorem JII (g:Gk X B C CX XX G):MtR X "list.count" (JNp B XX):=by
 intro pins s σ H v vs vv us Q I rv rs ⟨dx,dy,u,hx,e,hy,k⟩
 subst e
 obtain ⟨w,rfl,rw'⟩:=rs.one
 cases dx with
 | list ds =>
  simp only [JDG] at k
  split at k
  ·rename_i hs
   simp only [JCE,Bool.and_eq_true,decide_eq_true_eq] at hs
   obtain ⟨bs,rb⟩:=Den.reads g.K I dy u w hs.1.2 hy rw'
   obtain ⟨as,ra⟩:=Den.reads g.K I (.list ds) v vv (by simpa only [PyData.canLay0] using hs.1.1) hx rv
   have hu:=g.units
   have hm:=Nat.min_le_right (PyData.depthAll ds) dy.depth
   cases ra with
   | list h1 h2 h3 h4 =>
    rename_i l o items n as'
    obtain ⟨oc,od,oD,os⟩:=o
    simp only at h2 h3
    subst h2;subst h3
    refine call_meets PySem.F.slot_list_count ⟨_,h1,rfl⟩ PySem.F.entry_list_count (PySem.F.args_list_count_2 _ _) (SeqAt.list_countAt l items n od os w _) ⟨h1,SeqAt.items_eqAt h4 rb hs.1.1 hs.1.2 (by omega),?_⟩
    refine ⟨.int _,H,I.tok _,⟨_,rfl⟩,KE.ok k ?_⟩
    simp only [Den]
    congr 2
    rw [←SeqAt.readsAll_map ds _ _ hs.1.1 h4,List.countP_map]
    rfl
  ·exact k.elim
 | _=>exact False.elim k
theorem JIE (g:Gk X B C CX XX G):MtR X "list.index" (JOZ B XX):=by
 intro pins s σ H v vs vv us Q I rv rs ⟨dx,dy,u,hx,e,hy,k⟩
 subst e
 obtain ⟨w,rfl,rw'⟩:=rs.one
 cases dx with
 | list ds =>
  simp only [JC6] at k
  split at k
  ·rename_i hs
   simp only [JCE,Bool.and_eq_true,decide_eq_true_eq] at hs
   obtain ⟨bs,rb⟩:=Den.reads g.K I dy u w hs.1.2 hy rw'
   obtain ⟨as,ra⟩:=Den.reads g.K I (.list ds) v vv (by simpa only [PyData.canLay0] using hs.1.1) hx rv
   have hu:=g.units
   have hm:=Nat.min_le_right (PyData.depthAll ds) dy.depth
   split at k
   ·rename_i j hj
    have hz:ds.length≤sizeLine:=by
     simp only [Den] at hx
     obtain ⟨a,xs,e1,q,l⟩:=hx
     obtain ⟨_,_,_,z⟩:=I.list (g.K▸q)
     rw [DenL.len ds xs l];exact z
    cases ra with
    | list h1 h2 h3 h4 =>
     rename_i l o items n as'
     obtain ⟨oc,od,oD,os⟩:=o
     simp only at h2 h3
     subst h2;subst h3
     have hmap:=SeqAt.readsAll_map ds _ _ hs.1.1 h4
     have hlen:items.size=ds.length:=by rw [←hmap,List.length_map,Array.length_toList]
     obtain ⟨q1,q2,q3⟩:=List.findIdx?_eq_some_iff_getElem.mp hj
     have get:∀m (hm:m<items.size),SeqAt.readOf s.heap items[m]=ds[m]'(by omega):=fun m hm=>by
      have:(items.toList.map (SeqAt.readOf s.heap))[m]'(by simpa using hm)=ds[m]'(by omega):=by simp only [hmap]
      simpa using this
     refine call_meets PySem.F.slot_list_index ⟨_,h1,rfl⟩ PySem.F.entry_list_index (PySem.F.args_list_index_2 _ _) (SeqAt.list_indexAt l items n od os w (fun y=>PyData.eqv (SeqAt.readOf s.heap y) dy) j (by omega) ?_ ?_ ?_) ⟨h1,SeqAt.items_eqAt h4 rb hs.1.1 hs.1.2 (by omega),?_⟩
     ·have:(sizeLine:Int)<2 ^ 63 - 1:=by decide
      omega
     ·simp only [get j (by omega)];exact q2
     ·intro m hm hmj
      simp only [get m hm]
      have:=q3 m hmj
      simpa using this
     ·refine ⟨.int _,H,I.tok _,⟨_,rfl⟩,KE.ok k ?_⟩
      simp only [Den]
   ·exact False.elim k
  ·exact k.elim
 | _=>exact False.elim k
theorem few1 {a:Expr} {cp:Pos} (hs:starEach [a] X.env=[(false,eval a X.env)]):((backTo cp (starEach [a] X.env)).all (fun x=>!x.1)&&(backToKw cp (keywordEach [] X.env)).all (fun x=>x.1.isSome)
  && decide (([a]:List Expr).length+([]:List Keyword).length+(if ([]:List Keyword).isEmpty then 0 else 1)<30))=true:=by
 rw [hs];rfl
theorem JMV (g:Gk X B C CX XX G) {o a:Expr} {x y:E} {ap cp:Pos} {m:Str} {id:String} {f:D→D→R D} (slot:Slot "list" m id) (hty:typeOf (.builtin id)=pure (.type "method_descriptor"))
  (hm:MtR X id (fun v vs H Q=>∃dx dy u,Den B H dx v∧vs=[u]∧Den B H dy u∧KE B XX (f dx dy) H Q)) (ho:JBM o=false) (hl:(ap.endLine==cp.line)=true) (hx:PE X o (RE B C XX x)) (hy:PE X a (RE B C XX y)) (hs:starEach [a] X.env=[(false,eval a X.env)]) {z:E}
  (hz:∀δ,ev C z δ=(ev C x δ).bind fun x=>if JLD x=true then (ev C y δ).bind fun y=>f x y else .bad):PE X (.Call (.Attribute o m ap) [a] [] cp) (RE B C XX z):=by
 refine PE.imp (JNM PySem.F.plainAttrs_list slot hty hm hx (JBk hy JC9 hs) (JGl ho _ _ _) (few1 hs) hl hs rfl) fun σ H Q ⟨δ,ok,h⟩=>?_
 rw [hz] at h
 refine RE.of (W:=fun r H=>KE B XX r H Q) ok (fun _ _ z=>z) (fun _ z=>z) h fun dx v H1 s1 d1 h1=>?_
 cases dx with
 | list ds =>
  have d1':=d1
  simp only [Den] at d1'
  obtain ⟨l,xs,e,q,dl⟩:=d1'
  subst e
  refine ⟨.inl ⟨rfl,xs,by rw [g.K];exact q⟩,?_⟩
  refine RE.of (W:=fun r H=>KE B XX r H Q) (ok.mono s1) (fun _ _ z=>z) (fun _ z=>z) (KE.mono g s1 h1) fun dy u H2 s2 d2 h2=>?_
  exact ⟨_,_,_,Den.mono s2 _ _ d1,rfl,d2,KE.mono g s2 h2⟩
 | _=>exact False.elim h1
theorem JHT (g:Gk X B C CX XX G) (o a:Expr) (x y:E) (ap cp:Pos) (ho:JBM o=false) (hl:(ap.endLine==cp.line)=true) (hx:PE X o (RE B C XX x)) (hy:PE X a (RE B C XX y)) (hs:starEach [a] X.env=[(false,eval a X.env)]) :
  PE X (.Call (.Attribute o "count" ap) [a] [] cp) (RE B C XX (.mcount x y)) :=
 JMV g PySem.F.slot_list_count PySem.F.type_list_count (JII g) ho hl hx hy hs fun δ=>by simp only [ev]
theorem JHF (g:Gk X B C CX XX G) (o a:Expr) (x y:E) (ap cp:Pos) (ho:JBM o=false) (hl:(ap.endLine==cp.line)=true) (hx:PE X o (RE B C XX x)) (hy:PE X a (RE B C XX y)) (hs:starEach [a] X.env=[(false,eval a X.env)]) :
  PE X (.Call (.Attribute o "index" ap) [a] [] cp) (RE B C XX (.mindex x y)) :=
 JMV g PySem.F.slot_list_index PySem.F.type_list_index (JIE g) ho hl hx hy hs fun δ=>by simp only [ev]
end
noncomputable def TrAt (h:Heap) (e T:Addr) (cls:Value):Prop:=∃oe vs a0 oT ts,h.get? e=some oe∧(oe.cls=cls∧vs[0]? = some a0)∧oe.data=.fields vs∧vs[1]? = some (.ref T)∧T≠e∧h.get? T=some oT∧oT.data=.fields ts∧ts[3]? = some .none
noncomputable def CXV (P:Program) (w:World) (B:Bs):CXT:=fun outer H s E e s'=>∃(ea T:Addr) (c:Nat) (H':Hp),e=.ref ea∧s'.os=s.os∧AllBare s'.gens∧Un (frs outer) [] H H' s.heap s'.heap∧HOk P w H' s'.heap ∧
 TrAt s'.heap ea T (.ref (B.cl c))∧(s.heap.get? ea=none∧H' ea=none)∧(s.heap.get? T=none∧H' T=none)∧E (.ref (B.cl c)) none H'
theorem JE2 {P:Program} {w:World} {H:Hp} {h:Heap} {a:Addr} {o:HO} (x:HOk P w H h) (q:H a=some o):∃u,h.get? a=some u:=by
 have:=x a o q
 cases o with
 | lst xs=>obtain ⟨_,_,_,_,e⟩:=this;exact ⟨_,e⟩
 | tup xs=>obtain ⟨_,_,_,_,e,_⟩:=this;exact ⟨_,e⟩
 | dK kvs=>obtain ⟨_,_,_,_,_,_,_,e,_⟩:=this;exact ⟨_,e⟩
 | dT kvs=>obtain ⟨_,_,_,_,_,_,_,e,_⟩:=this;exact ⟨_,e⟩
 | set S n=>obtain ⟨_,_,_,_,e,_⟩:=this;exact ⟨_,e⟩
 | ins C dx fs=>obtain ⟨_,_,_,e,_⟩:=this;exact ⟨_,e⟩
 | own y=>exact this
 | xd fs=>obtain ⟨_,⟨_,_,_,e,_⟩,_⟩:=this;exact ⟨_,e⟩
 | rng lo hi=>obtain ⟨_,_,_,e⟩:=this;exact ⟨_,e⟩
 | frz ob u=>exact ⟨_,this.1⟩
 | tbl ps=>exact ⟨_,this⟩
 | met f y=>exact ⟨_,this⟩
 | ext φ=>exact this.2.1
theorem JIU {P:Program} {w:World} {H:Hp} {h:Heap} {a:Addr} (x:HOk P w H h) (q:h.get? a=none):H a=none:=by
 cases z:H a with
 | none=>rfl
 | some o =>
  obtain ⟨u,e⟩:=JE2 x z
  rw [q] at e;cases e
section
variable {X:Cx} {pins:List (Addr×Obj)} {σ:St} {H':Hp} {s1:Shared} {h2:Heap}
theorem JC3 (I:Inv X pins σ H' s1) (up:s1.heap.UpToSlots h2) {b:Addr} (hb:b∈frs X.stack):∃o,h2.get? b=some o∧∀vs,o.data≠.fields vs:=by
 obtain ⟨_,o,ho,hd⟩:=I.stack.mem hb
 obtain ⟨sl,hs⟩:=up b o ho hd
 exact ⟨_,hs,hd⟩
theorem JEw (I:Inv X pins σ H' s1) (hex:X.ex=[]) {as:List Addr} (has:∀b∈as,b∈frs X.stack∨(X.s₀.heap.get? b=none∧H' b=none)) {ea:Addr} {cls a0:Value} {l:List PySem.Env}
  (fl:Heap.FlyingW (PySem.W.hideAll s1.heap as) l ea cls a0 h2) (up:s1.heap.UpToSlots h2) :
  Un X.fs [] X.H₀ H' X.s₀.heap h2∧HOk X.prog X.w H' h2∧∃T,TrAt h2 ea T cls∧X.s₀.heap.get? T=none∧H' T=none:=by
 obtain ⟨st,fe,ff,oe,vs,T,oT,ts,q1,q2,q3,q4,q5,q6,q7,q8,q9⟩:=fl
 have U:=I.base
 rw [hex] at U
 have sub:∀b∈X.fs,b∈frs X.stack:=fun b hb=>by
  rcases I.ok.stk with e | ⟨e,hf⟩
  · rw [e];exact hb
  · rw [e]
    unfold frs
    rw [List.filterMap_cons,hf]
    exact List.mem_cons_of_mem _ hb
 have loc:∀b o,X.s₀.heap.get? b=some o→b ∉ X.fs→b ∉ frs X.stack:=fun b o e n z=>by
  rcases List.mem_cons.mp (I.stkSub b z) with q | q
  · rw [q] at e
    exact absurd (Heap.lt_size e) (Nat.not_lt.mpr I.ok.above)
  · exact n q
 have out:∀b o,X.s₀.heap.get? b=some o→b ∉ frs X.stack→b ∉ as:=fun b o e n z=>by
  rcases has b z with q | ⟨q,_⟩
  · exact n q
  · rw [q] at e;cases e
 have keep:∀b o,s1.heap.get? b=some o→b ∉ as→h2.get? b=some o:=fun b o e n=>st b o (PySem.W.hideAll_get _ e n)
 have trk:∀b o,H' b=some o→b ∉ as:=fun b o e z=>by
  rcases has b z with q | ⟨_,q⟩
  · rw [I.stkFree b q] at e;cases e
  · rw [q] at e;cases e
 refine ⟨⟨fun b o e n hf hx=>keep b o (U.keep b o e n hf hx) (out b o e (loc b o e hf)),fun b o e n hf hx=>?_,U.free,fun b o e hx=>?_,U.tups,U.frzs,U.tbls⟩,fun a o e=>?_,T,⟨oe,vs,a0,oT,ts,q1,q2,q3,q4,q6,q7,q8,q9⟩,?_,?_⟩
 ·obtain ⟨sl,e1⟩:=U.slot b o e n hf hx
  obtain ⟨_,o',ho',hd'⟩:=I.stack.mem (sub b hf)
  rw [e1] at ho'
  cases ho'
  obtain ⟨sl',e2⟩:=up b _ e1 hd'
  exact ⟨sl',e2⟩
 ·obtain ⟨o',e1⟩:=U.there b o e hx
  by_cases hb:b∈frs X.stack
  · obtain ⟨o2,e2,_⟩:=JC3 I up hb
    exact ⟨o2,e2⟩
  · exact ⟨o',keep b o' e1 (out b o e hb)⟩
 ·refine (I.hok a o e).stay (fun b u hb eb=>keep b u eb ?_) (fun _ q=>q) fun _ _ q=>q
  rcases hb with rfl | hb
  · exact trk _ _ e
  · exact trk _ _ hb
 ·cases q:X.s₀.heap.get? T with
  | none=>rfl
  | some o =>
    exfalso
    obtain ⟨o',e1⟩:=U.there T o q (by simp)
    by_cases hb:T∈frs X.stack
    ·obtain ⟨o2,e2,hd⟩:=JC3 I up hb
     rw [q7] at e2;cases e2
     exact hd _ q8
    ·have:=PySem.W.hideAll_get as e1 (out T o q hb)
     rw [q5] at this;cases this
 ·cases q:H' T with
  | none=>rfl
  | some o =>
    exfalso
    have hl:=(I.hok T o q).lt
    have hn:=trk T o q
    obtain ⟨u,e⟩:=JE2 I.hok q
    have:=PySem.W.hideAll_get as e hn
    rw [q5] at this;cases this
end
section
variable {P:Program} {w:World} {B:Bs} {mg:Str→Option Value} {base:Heap} {N:List Str} {qual:Str} {scope:Scope} {f:Addr} {cd:Value} {A:Around} {outer:List PySem.Env} {s:Shared} {H:Hp} {E:XK}
abbrev XXd (B:Bs) (E:XK):Nat→Hp→Prop:=fun c H1=>∀H',Same H1 H'→E (.ref (B.cl c)) none H'
theorem JLU:JDH (CXV P w B) (cxOf (CXV P w B) P w B.K mg base N qual scope f cd A outer s H E) (EX B (XXd B E)):=by
 intro pins σ H1 s1 e s' I ⟨ea,T,c,H',e1,os,bare,un,hok,tr,⟨f1,f2⟩,⟨f3,f4⟩,⟨c',ec,hE⟩⟩
 subst e1
 have I':=I.call' (ch:=[]) os un hok bare (fun b hb=>by simp at hb)
 obtain ⟨oe,vs,a0,oT,ts,q1,q2,q3,q4,q6,q7,q8,q9⟩:=id tr
 have fr0:∀b,s1.heap.get? b=none→s.heap.get? b=none:=fun b q=>by
  cases z:s.heap.get? b with
  | none=>rfl
  | some o =>
   obtain ⟨o',e2⟩:=I.base.there b o z (by simp [cxOf])
   rw [q] at e2;cases e2
 have has:∀b∈(ea::T::frs (cxOf (CXV P w B) P w B.K mg base N qual scope f cd A outer s H E).stack),b∈frs (cxOf (CXV P w B) P w B.K mg base N qual scope f cd A outer s H E).stack∨(s.heap.get? b=none∧H' b=none):=fun b hb=>by
  rcases List.mem_cons.mp hb with rfl | hb
  ·exact .inr ⟨fr0 _ f1,f2⟩
  ·rcases List.mem_cons.mp hb with rfl | hb
   ·exact .inr ⟨fr0 _ f3,f4⟩
   ·exact .inl hb
 refine PySem.wpAny_leaves_onW (base:=PySem.W.hideAll s'.heap (ea::T::frs (cxOf (CXV P w B) P w B.K mg base N qual scope f cd A outer s H E).stack)) (outer:=outer) (cls:=.ref (B.cl c)) (a0:=a0) I'.ok.frames rfl
  ⟨fun b o q=>PySem.W.of_hideAll _ q,PySem.W.hideAll_none _ (by simp),PySem.W.funFrames_hide I'.stack (fun env he a hf=>List.mem_cons_of_mem _ (List.mem_cons_of_mem _ (List.mem_filterMap.mpr ⟨env,he,hf⟩))),oe,vs,T,oT,ts,q1,q2,q3,q4,PySem.W.hideAll_none _ (by simp),q6,q7,q8,q9⟩ fun h2 fl up=>?_
 obtain ⟨u2,hok2,T2,tr2,t1,t2⟩:=JEw I' rfl has fl up
 refine ⟨ea,T2,c,H',rfl,?_,bare,u2,hok2,tr2,⟨fr0 _ f1,f2⟩,⟨t1,t2⟩,?_⟩
 ·exact os.trans I.os
 ·rw [ec];exact hE H' (Same.refl H')
theorem JEc:∀(outer:List PySem.Env) (H:Hp) (s:Shared) (e:Value) (s':Shared),¬CXV P w B outer H s (EX B fun _ _=>False) e s':=by
 rintro outer H s e s' ⟨ea,T,c,H',_,_,_,_,_,_,_,_,c',_,z⟩
 exact z
end
abbrev bmV:List Value:=[.type "ValueError",.type "Exception",.type "BaseException",.type "object"]
theorem JLF {K:PySem.W.Frag} {h:Heap} {C:Addr} {bmB:List Value} {newId:String} (X:K.In h) (q:PySem.W.excIn K C bmB newId=true) :
  ∃(bm:List Value) (N:Addr) (nm qn:Str) (bs:List Value) (hdct:Bool) (sn:List Str) (sub:List Value) (ab:Bool) (col:Option Bool) (dd:Option Addr) (k0 k1 k2 k3 k5:Option Value) (mN:Str→Option Value),
   h.get? C=some (excClassObj nm qn C N bs bm hdct sn sub ab col dd k0 k1 k2 k3 k5 newId)∧h.Ns N mN∧mN "__init__"=none∧OwnTail h bmB bm:=by
 unfold PySem.W.excIn at q
 split at q
 case h_2=>cases q
 rename_i od cdat slots hlook
 split at q
 case h_2=>cases q
 rename_i C2 tl a0 a1 a2 a3 idn a5 hmro hsl
 simp only [Bool.and_eq_true,beq_iff_eq,Bool.not_eq_true'] at q
 obtain ⟨⟨⟨⟨⟨e1,e2⟩,e3⟩,e4⟩,e5⟩,e6⟩:=q
 subst e1;subst e2
 cases cdat with
 | mk nm bs mro ns qn hd sn sub ab col del =>
  simp only at hmro e3 e5 e6
  subst hmro;subst e3
  cases slots with
  | mk l =>
   simp only at hsl
   subst hsl
   exact ⟨tl,ns,nm,qn,bs,hd,sn,sub,ab,col,od,a0,a1,a2,a3,a5,_,X _ _ hlook,.of_isNs (PySem.W.isNs_of_in X e5),PySem.W.nsMap_none_of_in X e5 e6,PySem.W.tail_of_in X e4⟩
section
variable {P:Program} {w:World} {B:Bs} {mg:Str→Option Value} {base:Heap} {N:List Str} {qual:Str} {scope:Scope} {f:Addr} {cd:Value} {A:Around} {outer:List PySem.Env} {s:Shared} {H:Hp} {E:XK} {G:List (Str×GK)}
structure Cl (mg:Str→Option Value) (B:Bs) (G:List (Str×GK)):Prop where
 mgc:∀x c,G.lookup x=some (.cls c)→mg x=some (.ref (B.cl c))
 exc:∀x c,G.lookup x=some (.cls c)→∃Bn inN bmN newId,ExcBaseFacts Bn newId inN bmN∧bmV.contains (.type Bn)=true∧PySem.W.excIn B.K (B.cl c) bmV newId=true
theorem JFj (cl:Cl mg B G) (hA:A.handled=none):JJL (cxOf (CXV P w B) P w B.K mg base N qual scope f cd A outer s H E) B G (XXd B E):=by
 intro nm c m j p1 p2 p3 pos hg hb hl pins s1 σ H1 D I hx
 obtain ⟨Bn,inN,bmN,newId,Fn,hBn,q⟩:=cl.exc nm c hl
 obtain ⟨bm,N',nm',qn,bs,hdct,sn,sub,ab,col,dd,k0,k1,k2,k3,k5,mN,hC,hN,hni,TL⟩:=JLF I.kIn q
 refine wpAny_Raise_call_subU (C:=B.cl c) (nm:=nm') (q:=qn) (N:=N') (bs:=bs) (bm:=bm) (hdct:=hdct) (sn:=sn) (sub:=sub) (ab:=ab) (col:=col) (dd:=dd) (k0:=k0) (k1:=k1) (k2:=k2) (k3:=k3) (k5:=k5)
  Fn hBn PySem.F.excBase_ValueError (mN:=mN) (TL.hasType PySem.F.excBase_ValueError.hasBase) hA rfl hni (JB7 I hg (cl.mgc nm c hl) ⟨rfl,?_⟩ (JAF hb).1)
 refine Calls.evalArgs_plain (Calls.spliced_cons (Calls.Constant_str (k:=j) (pos:=p2) (Calls.spliced_nil ⟨rfl,(show (1:Nat)≤sizeLine by decide),hC,hN,TL,fun h' e hx'=>?_⟩)))
 have none0:s.heap.get? e=none:=by
  cases z:s.heap.get? e with
  | none=>rfl
  | some o =>
    obtain ⟨o',e2⟩:=I.base.there e o z (by simp [cxOf])
    have:=hx'.new
    rw [e2] at this;cases this
 refine PySem.wpAny_leaves_madeW (base:=PySem.W.hideAll s1.heap (frs (cxOf (CXV P w B) P w B.K mg base N qual scope f cd A outer s H E).stack)) (outer:=outer) I.ok.frames rfl (fun b o q=>PySem.W.of_hideAll _ q)
  (PySem.W.funFrames_hide I.stack (fun env he a hf=>List.mem_filterMap.mpr ⟨env,he,hf⟩)) hx' fun h2 t x1 x2 x3 x4=>?_
 obtain ⟨u2,hok2,T2,tr2,t1,t2⟩:=JEw I rfl (fun b hb=>.inl hb) x1 ((Heap.UpToSlots.of_keeps hx'.keeps).trans x4)
 exact ⟨e,T2,c,H1,rfl,I.os,I.bare,u2,hok2,tr2,⟨none0,JIU I.hok hx'.new⟩,⟨t1,t2⟩,hx H1 (Same.refl H1)⟩
end
section
variable {X:Cx} {pins pins' pn:List (Addr×Obj)} {σ:St} {H:Hp} {s:Shared} {A:Around} {xe:Value→Shared→Prop} {calm:Bool} {h2:Heap}
theorem JFB (I:Inv X pins σ H s) (hA:A.frames=X.A.frames) (hc:calm=true→A.handled=none) (hp:∀p∈pn++pins',p∈X.pn++pins):Inv (atX X A pn xe calm) pins' σ H s :=
 let ok:=I.ok
 ⟨⟨ok.mod,ok.kind,ok.glob,ok.blt,ok.above,ok.inj,ok.has,ok.cab,hc,hA.trans ok.frames,ok.stk,ok.exf,ok.bs,ok.bsz,ok.noex,ok.exfs,ok.funs,ok.frf⟩,I.os,I.bare,I.base,I.loc,I.cell,I.free,I.freeC,fun p q=>I.pin p (hp p q),I.hok,I.len⟩
theorem JKB (I:Inv (atX X A pn xe calm) pins' σ H s) (hA:X.A.frames=A.frames) (hc:X.calm=true→X.A.handled=none) (hp:∀p∈X.pn++pins,p∈pn++pins'):Inv X pins σ H s :=
 let ok:=I.ok
 ⟨⟨ok.mod,ok.kind,ok.glob,ok.blt,ok.above,ok.inj,ok.has,ok.cab,hc,hA.trans ok.frames,ok.stk,ok.exf,ok.bs,ok.bsz,ok.noex,ok.exfs,ok.funs,ok.frf⟩,I.os,I.bare,I.base,I.loc,I.cell,I.free,I.freeC,fun p q=>I.pin p (hp p q),I.hok,I.len⟩
theorem JF9 (I:Inv X pins σ H s) (hex:X.ex=[]) {as:List Addr} (has:∀b∈as,b∈frs X.stack∨(X.s₀.heap.get? b=none∧H b=none)) (hpin:∀p∈X.pn++pins,p.1 ∉ as) {ea:Addr} {cls a0:Value} {l:List PySem.Env}
  (fl:Heap.FlyingW (PySem.W.hideAll s.heap as) l ea cls a0 h2) (up:s.heap.UpToSlots h2) (t:Nat):Inv X pins σ H { s with heap:=h2,toks:=t }:=by
 obtain ⟨u2,hok2,_⟩:=JEw I hex has fl up
 obtain ⟨m,hn,hl⟩:=id I.loc
 have cell:∀ {c:Addr} {v:Option Value},s.heap.IsCell c v→h2.IsCell c v:=fun {c v} ⟨o,ho,hd⟩=>by
  obtain ⟨sl,e⟩:=up c o ho (fun vs q=>by rw [hd] at q;cases q)
  exact ⟨_,e,hd⟩
 refine ⟨I.ok,I.os,I.bare,by rw [hex];exact u2,⟨m,up.ns hn,fun i x v e1 e2 e3=>?_⟩,fun x c e=>?_,I.free,I.freeC,fun p hp=>?_,hok2,I.len⟩
 ·obtain ⟨u,r,q⟩:=hl i x v e1 e2 e3
  refine ⟨u,r,?_⟩
  rcases q with q | ⟨k,c,e,z⟩
  · exact .inl q
  · exact .inr ⟨k,c,e,cell z⟩
 ·obtain ⟨v,z⟩:=I.cell x c e
  exact ⟨v,cell z⟩
 ·obtain ⟨e,n,ne,nf,d⟩:=I.pin p hp
  exact ⟨fl.1 _ _ (PySem.W.hideAll_get _ e (hpin p hp)),n,ne,nf,d⟩
theorem JG8 (I:Inv X pins σ H s) {ea C:Addr} {oe:Obj} {vs:Array Value} (he:s.heap.get? ea=some oe) (hc:oe.cls=.ref C) (hd:oe.data=.fields vs) (h0:X.s₀.heap.get? ea=none) (hn:H ea=none) (hpin:∀p∈X.pn++pins,p.1≠ea) :
  Inv X pins σ (upd H ea (.ext (ExcAt ea C))) s:=by
 have hloc:ea≠X.env.locals:=fun z=>by
  obtain ⟨m,⟨o,es,ep,ho,hdo,_⟩,_⟩:=I.loc
  rw [←z,he] at ho
  cases ho
  rw [hd] at hdo;cases hdo
 have hcell:∀x c,X.env.cells.lookup x=some c→c≠ea:=fun x c e z=>by
  obtain ⟨v,o,ho,hdo⟩:=I.cell x c e
  rw [z,he] at ho
  cases ho
  rw [hd] at hdo;cases hdo
 have U:=I.base
 refine ⟨I.ok,I.os,I.bare,⟨U.keep,U.slot,fun b o e n hx=>?_,U.there,fun b xs e=>?_,fun b o u e=>?_,fun b ps e=>?_⟩,I.loc,I.cell,?_,fun x c e=>?_,fun p hp=>?_,fun a o e=>?_,I.len⟩
 ·rw [JAL fun z=>by rw [z,h0] at e;cases e]
  exact U.free b o e n hx
 ·have q:=U.tups b xs e
  rw [JAL fun z=>by rw [z,hn] at q;cases q]
  exact q
 ·have q:=U.frzs b o u e
  rw [JAL fun z=>by rw [z,hn] at q;cases q]
  exact q
 ·obtain ⟨more,q⟩:=U.tbls b ps e
  exact ⟨more,by rw [JAL fun z=>by rw [z,hn] at q;cases q];exact q⟩
 ·rw [JAL hloc.symm];exact I.free
 ·rw [JAL (hcell x c e)];exact I.freeC x c e
 ·obtain ⟨e,n,ne,nf,d⟩:=I.pin p hp
  exact ⟨e,by rw [JAL (hpin p hp)];exact n,ne,nf,d⟩
 ·by_cases ha:a=ea
  ·subst ha
   rw [JAM] at e
   cases e
   refine ⟨⟨oe,he,hc⟩,⟨oe,he⟩,fun h1 h2 ⟨o1,q1,q2⟩ k=>⟨o1,k o1 q1,q2⟩⟩
  ·rw [JAL ha] at e
   have ne:∀b o,H b=some o→b≠ea:=fun b o q z=>by rw [z,hn] at q;cases q
   exact (I.hok a o e).stay (fun b u _ q=>q) (fun b q=>by rw [JAL (ne b _ q)];exact q) fun b xs q=>by rw [JAL (ne b _ q)];exact q
theorem JHj {M:Model} {A:Around} {E:Value→Shared→Prop} {i:Nat} {x:Str} {v:V} {Q:Unit→Shared→Prop} (I:Inv X pins σ H s) (hN:X.N.Nodup) (hi:X.N[i]? = some x) (hx:X.env.scope.names.lookup x=some .local) (hv:σ[i]? = some (some v))
  (h:∀s',Inv X pins (σ.set i none) H s'→Q () s'):wpAny M A (unbindName X.env x) Q E s:=by
 obtain ⟨m,hn,hl⟩:=id I.loc
 obtain ⟨u,r,q⟩:=hl i x v hi hv (.inl hx)
 have hm:m x=some u:=by
  rcases q with ⟨_,q⟩ | ⟨k,_⟩
  · exact q
  · have hk:X.env.kindOf x=some .local:=hx
    rcases k with k | k<;>rw [hk] at k<;>cases k
 have hcls:(X.env.scope.kind==.class || (X.env.scope.kind==.module&&X.env.locals != X.env.globals))=false:=by rw [I.ok.kind];rfl
 refine wpAny_unbindName_local hx hn hm hcls fun h' u' hn' hs=>h _ ?_
 obtain ⟨oL,_,_,hoL,_⟩:=id hn
 have old:∀b o,X.s₀.heap.get? b=some o→h'.get? b=s.heap.get? b:=fun b o e=>hs.2 b (Nat.ne_of_lt (Nat.lt_of_lt_of_le (Heap.lt_size e) I.ok.above))
 have trk:∀b o,H b=some o→b≠X.env.locals:=fun b o e z=>by rw [z,I.free] at e;cases e
 have U:=I.base
 refine ⟨I.ok,I.os,I.bare,⟨fun b o e n hb hx=>(old b o e).trans (U.keep b o e n hb hx),fun b o e n hb hx=>?_,U.free,fun b o e hx=>?_,U.tups,U.frzs,U.tbls⟩,⟨_,hn',fun j y v' e1 e2 e3=>?_⟩,fun y c e=>?_,I.free,I.freeC,fun p hp=>?_,fun a o e=>?_,by simpa using I.len⟩
 ·obtain ⟨sl,q⟩:=U.slot b o e n hb hx
  exact ⟨sl,(old b o e).trans q⟩
 ·obtain ⟨o',q⟩:=U.there b o e hx
  exact ⟨o',(old b o e).trans q⟩
 ·have hj:j≠i:=fun z=>by
    subst z
    have:j<σ.length:=(List.getElem?_eq_some_iff.mp hv).1
    rw [List.getElem?_set_self this] at e2;cases e2
  rw [List.getElem?_set_ne (Ne.symm hj)] at e2
  obtain ⟨w,r',q⟩:=hl j y v' e1 e2 e3
  have hne:y≠x:=fun e=>hj (JDU hN e1 (e▸hi))
  refine ⟨w,r',?_⟩
  rcases q with ⟨k,e⟩ | ⟨k,c,e,z⟩
  · exact .inl ⟨k,by simp [hne,e]⟩
  · exact .inr ⟨k,c,e,z.sameBut hs (I.cne y c e)⟩
 ·obtain ⟨w,z⟩:=I.cell y c e
  exact ⟨w,z.sameBut hs (I.cne y c e)⟩
 ·obtain ⟨e,n,ne,nf,d⟩:=I.pin p hp
  exact ⟨(hs.2 p.1 ne).trans e,n,ne,nf,d⟩
 ·refine (I.hok a o e).stay (fun b w hb q=>(hs.2 b ?_).trans q) (fun _ q=>q) fun _ _ q=>q
  rcases hb with rfl | hb
  · exact trk _ _ e
  · exact trk _ _ hb
end
section
variable {X:Cx} {B:Bs} {C:Cn} {XX:Nat→Hp→Prop} {G:List (Str×GK)}
noncomputable def TryOk (B:Bs) (C:Cn) (G:List (Str×GK)):Prop:=∀(X:Cx) (XX:Nat→Hp→Prop),Gk X B C (CXV X.prog X.w B) XX G→X.stack=X.env::X.outer→X.env.frame=some X.env.locals→X.ex=[]→X.N.Nodup→(∀nm,X.fn nm=true)→X.A.handled=none →
 ∀(body:List Stmt) (b:S) (cn en kn:Str) (c i j:Nat) (np p1 p2 p3 hpos pos:Pos),(∀(pn:List (Addr×Obj)) (xe:Value→Shared→Prop) (XX':Nat→Hp→Prop),PassesOwn (model X.prog X.w) X.A X.env xe→Gk (atX X X.A pn xe true) B C (CXV X.prog X.w B) XX' G→PSs (atX X X.A pn xe true) body (RSt (atX X X.A pn xe true) B C XX' b)) →
 Gl X cn→X.mg cn=some (.ref (B.cl c))→JAH cn=false→JAH en=false→(∀k,C.sub k c=true→PySem.W.exmOne B.K (.ref (B.cl k)) (.ref (B.cl c))=some true)→X.N[i]? = some en→X.env.scope.names.lookup en=some .local→X.N[j]? = some kn→Loc X.env.scope kn→i≠j →
 PS X (.Try body [.ExceptHandler (some (.Name cn np)) (some en) [.Assign [.Name kn p1] (.Name en p2) p3] hpos] [] [] pos) (RSt X B C XX (.tryx b c i (.cons (.asg j (.var i)) .nil)))
end
section
variable {B:Bs} {G:List (Str×GK)} {tab:Nat→Option Fd} {glo:Nat→R D} {sub:Nat→Nat→Bool}
structure Mo (mg:Str→Option Value) (B:Bs) (G:List (Str×GK)) (tab:Nat→Option Fd) (glo:Nat→R D) (sub:Nat→Nat→Bool):Prop where
 fn:∀x i,G.lookup x=some (.fn i)→∃fd,tab i=some fd∧DefAt B.K mg G x fd
 con:∀x i d,G.lookup x=some (.con i)→glo i=.ok d→∃u v,mg x=some u∧RelV v u∧∀H,Den B H d v
 noexg:∀i c,glo i≠.exc c
 blt:∀x b,G.lookup x=some (.blt b)→mg x=none
 rng:∀x,G.lookup x=some .rng→mg x=none
 isi:∀x,G.lookup x=some .isi→mg x=none
 ty:∀x t,G.lookup x=some (.ty t)→mg x=none
 nam:∀x,G.lookup x=some .nam→mg x=none
 cl:Cl mg B G
 exm:∀x c,G.lookup x=some (.cls c)→∀k,sub k c=true→PySem.W.exmOne B.K (.ref (B.cl k)) (.ref (B.cl c))=some true
structure Ra3 (B:Bs) (C:Cn) (G:List (Str×GK)) (P:Program) (w:World):Prop where
 ra:Rare B C (CXV P w B) G
 rr:RareS B C (CXV P w B) G
 tr:G.lookup (".try":Str)=some GK.opt→TryOk B C G
theorem fn_at [Cool G] {P:Program} {w:World} (hw:w=B.w) {mg:Str→Option Value} {base:Heap} (M:Mo mg B G tab glo sub) (ra:∀n,Ra3 B ⟨run true tab glo sub n,glo,sub⟩ G P w) {n i:Nat} {x:Str} {f:Addr} {fo:FuncData} {st:Stmt} {N ps:List Str} {fd:Fd}
  (ih:∀(y:Str) (j:Nat),G.lookup y=some (.fn j)→∃f fd ps,mg y=some (.ref f)∧PySem.W.keepIn B.K (.ref f)=true∧FnOk P w B.K mg base (CXV P w B) n f fd ps (JCq B ps.length (run true tab glo sub n j))∧Binds B.K fd ps []∧∀ds,run true tab glo sub n j ds≠.bad→ds.length=ps.length)
  (F:Fun B.K x x st f fo) (T:Turned G st N ps fd) (ht:tab i=some fd):FnOk P w B.K mg base (CXV P w B) (n+1) f fo ps (JCq B ps.length (run true tab glo sub (n+1) i)):=by
 obtain ⟨oc,od,kV,doc,pm,an,cdv,ct,osl,rfl,lk,hcd⟩:=F.ex
 refine JMR lk hcd T.sc (fun vs H Q E q=>q.1) fun A outer s H vs Q E hr q=>?_
 obtain ⟨hl,ds,dn,q⟩:=q
 have hA:A.handled=none:=hr.hd
 have g:Gk (cxOf (CXV P w B) P w B.K mg base N x (JAC st) f cdv A outer s H E) B ⟨run true tab glo sub n,glo,sub⟩ (CXV P w B) (XXd B E) G:={
  K:=rfl
  W:=hw
  anti:=fun c H1 H2 sm z H' s'=>z H' (sm.trans s')
  units:=by have:=hr.un;show (A.deeper _).units+200<_;omega
  calm:=fun _=>rfl
  fn:=fun y j hy=>by
    obtain ⟨f',fd',ps',w1,w2,w3,w4,w5⟩:=ih y j hy
    exact ⟨f',fd',ps',n,w1,w2,w3,hr,w4,w5⟩
  pas:=JLU
  con:=M.con
  noexg:=M.noexg
  blt:=M.blt
  rng:=M.rng
  isi:=M.isi
  ty:=M.ty
  cls:=M.cl.mgc
  nam:=M.nam }
 have hs:=JDp (ra n).ra (ra n).rr 60 _ _ _ _ true g T.sc.kind rfl rfl T.sc.nd PassesOwn.leaving (fun _=>rfl) (fun _=>JFj M.cl hA)
  (fun _ hfl body b cn en kn c i j np p1 p2 p3 hpos pos hbody hgl hbn hben hlk hnd hi hle hj hlj hij =>
    (ra n).tr hfl _ _ g rfl rfl rfl hnd (fun _=>rfl) hA body b cn en kn c i j np p1 p2 p3 hpos pos hbody hgl (M.cl.mgc cn c hlk) hbn hben (fun k hk=>M.exm cn c hlk k hk) hi hle hj hlj hij)
 refine ⟨_,JBe hs T.comp,?_⟩
 have hlen:=DenL.len ds vs dn
 have hN:N.length=fd.slots:=T.slots.symm
 have hpl:ps.length≤N.length:=by have:=congrArg List.length T.sc.pre;rw [List.length_take] at this;omega
 refine ⟨_,_,H,Same.refl H,JB4 dn rfl (by omega),?_⟩
 unfold run at q
 rw [ht] at q
 simp only [JEQ] at q
 rw [if_pos (by rw [T.par];omega)] at q
 rw [show fd.slots - fd.par=N.length - ds.length by rw [T.slots,T.par];omega] at q
 split at q
 ·rename_i r d hd
  split at hd
  · rename_i δ he
    cases hd
    rw [he]
    exact fun σ' H' O' so'=>q .non H' so'.same (by simp only [Den])
  · rename_i d' he
    cases hd
    rw [he]
    exact fun v H' sm dn'=>q v H' sm dn'
  · simp at hd
  · cases hd
 ·rename_i r c hd
  split at hd
  · cases hd
  · cases hd
  · rename_i c' he
    simp only [if_true,R.exc.injEq] at hd
    subst hd
    rw [he]
    exact q
  · cases hd
 ·exact q.elim
theorem fns [Cool G] {P:Program} {w:World} (hw:w=B.w) {mg:Str→Option Value} {base:Heap} (M:Mo mg B G tab glo sub) (ra:∀n,Ra3 B ⟨run true tab glo sub n,glo,sub⟩ G P w):∀(n:Nat) (x:Str) (i:Nat),G.lookup x=some (.fn i) →
  ∃f fd ps,mg x=some (.ref f)∧PySem.W.keepIn B.K (.ref f)=true∧FnOk P w B.K mg base (CXV P w B) n f fd ps (JCq B ps.length (run true tab glo sub n i))∧Binds B.K fd ps []∧∀ds,run true tab glo sub n i ds≠.bad→ds.length=ps.length
 | 0,x,i,h=>by
  obtain ⟨fd,ht,⟨f,fo,st,N,ps,e1,F,bi,T⟩⟩:=M.fn x i h
  refine ⟨f,fo,ps,e1,F.kp,⟨fun vs H Q E q=>q.1,fun A outer s H args us vs Q E hr he hb hv ⟨_,ds,_,q⟩=>?_⟩,bi,fun ds q=>absurd rfl q⟩
  exact False.elim q
 | n+1,x,i,h=>by
  obtain ⟨fd,ht,⟨f,fo,st,N,ps,e1,F,bi,T⟩⟩:=M.fn x i h
  refine ⟨f,fo,ps,e1,F.kp,fn_at hw M ra (fns hw M ra n) F T ht,bi,fun ds q=>?_⟩
  obtain ⟨fd',h1,h2⟩:=JMA q
  rw [ht] at h1
  cases h1
  rw [h2,T.par]
end
end VI
end
section
namespace VI
open PySem PySem.Spec PyProof.Rows L2 Builtin Builtin.ObjectAttr Builtin.Getset_descriptor
structure ExcK (K:PySem.W.Frag) (C:Addr):Prop where
 ga:PySem.W.findIn K (.ref C) "__getattribute__"=some (some (.builtin "BaseException.__getattribute__"))
 gh:PySem.W.findIn K (.ref C) "__getattr__"=some none
 cl:PySem.W.findIn K (.ref C) "__class__"=some (some (.builtin "object.__class__"))
 ob:PySem.W.mroIn K C (.type "object")=some true
 bx:PySem.W.mroIn K C (.type "BaseException")=some true
 gt:PySem.W.specialIn K (.builtin "object.__class__") "__get__"=some (some (.builtin "getset_descriptor.__get__"))
 st:PySem.W.takesIn K (.builtin "object.__class__")=some true
section
variable {K:PySem.W.Frag} {a C:Addr} {prog:Program} {w:World} {A:Around} {s:Shared}
theorem JCM {M:Model} {h:Heap} (p:ExcAt a C h):PySem.W.Looks M h (typeOf (.ref a)) (.ref C):=by
 obtain ⟨o,h1,h2⟩:=p
 rw [←h2]
 exact (PySem.W.Looks.ld h1).andThen .now
theorem JGs {M:Model} {h:Heap} {nm:Str} {d g:Value} (X:K.In h) (h1:PySem.W.findIn K (.ref C) nm=some (some d)) (h2:PySem.W.specialIn K d "__get__"=some (some g)) (h3:PySem.W.takesIn K d=some true) :
   PySem.W.Looks M h (find (.ref a) (.ref C) nm) (.bind g d) :=
 (PySem.W.looks_findIn X h1).andThen ((show PySem.W.Looks M h (getOf (some d)) (some g) from PySem.W.looks_specialIn X h2).andThen
   ((show PySem.W.Looks M h (dataDescriptor? (some d) (some g)) (some (g,d)) from (PySem.W.looks_takesIn X h3).andThen .now).andThen (PySem.W.Looks.tag .now)))
theorem JKp {R:Result→Shared→Prop} {tp:Value} (X:K.In s.heap) (p:ExcAt a C s.heap) (hm:PySem.W.mroIn K C (.type "object")=some true) (h:R (.ok (.ret (.ref C))) s) :
  codeAny (model prog w) A (.call (.builtin "getset_descriptor.__get__") ⟨[.builtin "object.__class__",.ref a,tp],[]⟩) R s:=by
 obtain ⟨hp,gs,dn,tk,os⟩:=s
 have q0:=JCM (M:=model prog w) p
 have q1:=PySem.W.looks_mroIn (M:=model prog w) X hm
 refine codeAny_call_builtin PySem.W.KF.slot_gs.plain PySem.W.KF.entry_gs (PySem.W.KF.slot_gs.check _ _ _ _ _ _ _ _ PySem.W.KF.type_class (PySem.W.KF.args_gs _ _ _) ?_)
 unfold Builtin.«getset_descriptor.__get__» descrGet;rw [PySem.W.dga_obj];refine wpAny_bind (wpAny_pure ?_)
 unfold descrGetter descrCheckInstance descrNameAndClass isInstance;simp only [PySem.W.KF.owner_class];repeat lk
 refine ⟨Code.quiet_builtin _ (by decide +kernel),codeAny_builtin PySem.W.KF.entry_class ?_⟩
 unfold Builtin.«object.__class__» shownTypeOf;repeat lk
 exact h
theorem JIu {nameV:Value} {E:Value→Shared→Prop} {Q:Unit→Shared→Prop} (F:ExcK K C) (X:K.In s.heap) (p:ExcAt a C s.heap) (h:Q () s):wpAny (model prog w) A (checkBuiltinCall "BaseException.__getattribute__" ⟨[.ref a,nameV],[]⟩) Q E s:=by
 obtain ⟨hp,gs,dn,tk,os⟩:=s
 have q:PySem.W.Looks (model prog w) hp (isInstance (.ref a) (.type "BaseException")) true:=(JCM p).andThen (PySem.W.looks_mroIn X F.bx)
 have k1:builtinKind "BaseException.__getattribute__"=some .slot:=by decide +kernel
 have k2:splitId "BaseException.__getattribute__"=some ("BaseException","__getattribute__"):=by decide +kernel
 have ha:=PySem.F.args_bexc_ga (.ref a) nameV
 simp only [checkBuiltinCall,k1,k2]
 refine wpAny_bind (q.at ?_)
 repeat (first | exact h | wp_step)
theorem JGx {E:Value→Shared→Prop} {Q:Option Value→Shared→Prop} (F:ExcK K C) (X:K.In s.heap) (p:ExcAt a C s.heap) (h:Q (some (.ref C)) { s with toks:=s.toks+1 }) :
  wpAny (model prog w) A (getAttr? (.ref a) "__class__") Q E s:=by
 obtain ⟨hp,gs,dn,tk,os⟩:=s
 have q0:=JCM (M:=model prog w) p
 have q1:=PySem.W.looks_findIn (M:=model prog w) X F.ga
 have q2:=PySem.W.looks_findIn (M:=model prog w) X F.gh
 have q3:=JGs (M:=model prog w) (a:=a) X F.cl F.gt F.st
 have B:=PySem.F.attr_ValueError.ga
 unfold getAttr? getAttrBy? getAttrBy
 refine wpAny_bind (wpAny_mkText (wpAny_bind (wpAny_attempt (wpAny_holding (wpAny_bind (q0.at (wpAny_bind (q1.at ?_))))))))
 show wpAny _ _ (getAttrByItsOwn _ _ _ _ _ _) _ _ _
 refine wpAny_bind (q2.at (wpAny_bind (wpAny_attempt (wpAny_holding ?_))))
 show wpAny _ _ (boundAndCalled _ _ _) _ _ _
 unfold boundAndCalled
 rw [B.bind]
 refine wpAny_bind (wpAny_pure (wpAny_call (codeAny_call_builtin B.plain PySem.F.entry_bexc_ga (JIu F X p ?_))))
 refine wpAny_bind (wpAny_pure (wpAny_bind (wpAny_pure (wpAny_bind (q0.at (wpAny_bind (q3.at ?_)))))))
 show wpAny _ _ (holding [Value.builtin "object.__class__"] (call (.builtin "getset_descriptor.__get__") [Value.builtin "object.__class__",.ref a,.ref C]) >>= ret) _ _ _
 refine wpAny_bind (wpAny_holding (wpAny_call (JKp X p F.ob (wpAny_pure ?_))))
 show wpAny _ _ (handedOut (.ref C)) _ _ _
 exact PySem.W.handed_on rfl (wpAny_pure h)
theorem JE6 (F:ExcK K C):PySem.W.KitX K (.ref a) (.ref C) (ExcAt a C) where
 ty:=fun M h _ p=>JCM p
 it:=fun M h X _=>by
  obtain ⟨cd,e1,_⟩:=Option.bind_eq_some_iff.mp F.ob
  unfold PySem.W.clsIn at e1
  split at e1
  ·rename_i ho
   intro A' Q' E' s' k q
   unfold isType loadHead
   exact wpAny_bind (wpAny_loadPart (k _ _ (X _ _ ho)) (wpAny_pure q))
  ·cases e1
 ne:=fun h tp dd its n sl X ht=>by
  obtain ⟨cd,e1,_⟩:=Option.bind_eq_some_iff.mp F.ob
  refine Bool.eq_false_iff.mpr fun q=>?_
  have e:C=tp:=Value.ref.inj (beq_iff_eq.mp q)
  subst e
  unfold PySem.W.clsIn at e1
  split at e1
  ·rename_i ho
   have z:=(X _ _ ho).symm.trans ht
   cases z
  ·cases e1
 ca:=fun X p k=>JGx F X p k
end
noncomputable def nmOf:Ty→String
 | .int=>"int"
 | .bool=>"bool"
 | .str=>"str"
 | .list=>"list"
 | .tuple=>"tuple"
 | .dict=>"dict"
 | .valueError=>"ValueError"
 | .own _=>""
theorem JLz {ty:Ty} {t:Str} (h:JA8 ty=some t):bootBuiltins t=some (.type (nmOf ty)):=by
 cases ty<;>simp only [JA8,Option.some.injEq,reduceCtorEq] at h<;>subst h<;>boot_by_name
section
variable {K:PySem.W.Frag}
theorem JOh {ty:Ty} (h:(JA8 ty).isSome=true):PySem.W.kitOne K (.type "NoneType") (.type (nmOf ty))=some false:=by
 cases ty<;>first | (cases h;done) | kernel_rfl
theorem JKs {ty:Ty} (h:(JA8 ty).isSome=true):PySem.W.kitOne K (.type "bool") (.type (nmOf ty))=some (ty==.int || ty==.bool):=by
 cases ty<;>first | (cases h;done) | kernel_rfl
theorem JMe {ty:Ty} (h:(JA8 ty).isSome=true):PySem.W.kitOne K (.type "int") (.type (nmOf ty))=some (ty==.int):=by
 cases ty<;>first | (cases h;done) | kernel_rfl
theorem JO2 {ty:Ty} (h:(JA8 ty).isSome=true):PySem.W.kitOne K (.type "str") (.type (nmOf ty))=some (ty==.str):=by
 cases ty<;>first | (cases h;done) | kernel_rfl
theorem JLK {ty:Ty} (h:(JA8 ty).isSome=true):PySem.W.kitOne K (.type "list") (.type (nmOf ty))=some (ty==.list):=by
 cases ty<;>first | (cases h;done) | kernel_rfl
theorem JI7 {ty:Ty} (h:(JA8 ty).isSome=true):PySem.W.kitOne K (.type "tuple") (.type (nmOf ty))=some (ty==.tuple):=by
 cases ty<;>first | (cases h;done) | kernel_rfl
theorem ko_of {C:Addr} {T:String} (h:PySem.W.kitOne K (.type "NoneType") (.ref C)=some false) (hs:PySem.W.subIn K (.type T) (.ref C)=some false):PySem.W.kitOne K (.type T) (.ref C)=some false:=by
 have n1:∀T:String,((Value.type T)==Value.ref C)=false:=fun T=>rfl
 unfold PySem.W.kitOne PySem.W.kitCls at h ⊢
 rw [n1] at h ⊢
 simp only [Bool.false_eq_true,if_false] at h ⊢
 split at h
 ·rename_i z
  rw [if_pos z];exact hs
 ·cases h
theorem JLy {C:Addr}:PySem.W.subIn K (.type "bool") (.ref C)=some false:=by kernel_rfl
theorem JOr {C:Addr}:PySem.W.subIn K (.type "int") (.ref C)=some false:=by kernel_rfl
theorem JPZ {C:Addr}:PySem.W.subIn K (.type "str") (.ref C)=some false:=by kernel_rfl
theorem JKn {C:Addr}:PySem.W.subIn K (.type "list") (.ref C)=some false:=by kernel_rfl
theorem JH6 {C:Addr}:PySem.W.subIn K (.type "tuple") (.ref C)=some false:=by kernel_rfl
end
structure Isi (B:Bs) (G:List (Str×GK)) (sub:Nat→Nat→Bool):Prop where
 own:∀x c,G.lookup x=some (.cls c)→PySem.W.kitOne B.K (.type "NoneType") (.ref (B.cl c))=some false
 exc:∀k,sub k k=true→ExcK B.K (B.cl k)∧PySem.W.kitOne B.K (.ref (B.cl k)) (.type "ValueError")=some true
 rel:∀k,sub k k=true→∀x c,G.lookup x=some (.cls c)→PySem.W.kitOne B.K (.ref (B.cl k)) (.ref (B.cl c))=some (sub k c)
section
variable {X:Cx} {B:Bs} {C:Cn} {CX:CXT} {XX:Nat→Hp→Prop} {G:List (Str×GK)}
noncomputable def TyV (B:Bs) (G:List (Str×GK)) (ty:Ty) (v:V):Prop:=((JA8 ty).isSome=true∧v=.ty (nmOf ty))∨∃x c,ty=.own c∧G.lookup x=some (.cls c)∧v=.ref (B.cl c)
theorem JIh (I0:Isi B G C.sub) (g:Gk X B C CX XX G) (ty:Ty):CallR X (.builtin "isinstance") (fun vs H Q=>∃d v1 v2,vs=[v1,v2]∧Den B H d v1∧TyV B G ty v2∧KE B XX (isiD C.sub d ty) H Q):=by
 intro pins s σ H vs us Q I r ⟨d,v1,v2,e,dn,tv,k⟩
 subst e
 obtain ⟨u1,us',rfl,r1,rs⟩:∃u1 us',us=u1::us'∧RelV v1 u1∧Vals [v2] us':=by cases r;exact ⟨_,_,rfl,‹_›,‹_›⟩
 obtain ⟨u2,rfl,r2⟩:=rs.one
 have KI:B.K.In s.heap:=g.K▸I.kIn
 have fin:∀ {x t:Value} {Hh:Heap→Prop} {b:Bool},PySem.W.KitX B.K x t Hh→Hh s.heap→isiD C.sub d ty=.ok (.bool b)→x=u1→x≠.builtin "__main__.__loader__#opaque"→PySem.W.kitOne B.K t u2=some b→wpAny (model X.prog X.w) X.A (call (.builtin "isinstance") [u1,u2]) (EP X pins σ Q) X.xe s:=by
  intro x t Hh b Z p e hx hne e2
  subst hx
  rw [e] at k
  exact PySem.W.kia_one Z KI p e2 hne fun tk=>⟨.bl b,H,I.tok tk,rfl,KE.ok k (by simp only [Den])⟩
 have u2e:∀(T:String) (f:Ty→Bool),((JA8 ty).isSome=true→PySem.W.kitOne B.K (.type T) (.type (nmOf ty))=some (f ty))→(∀c,f (.own c)=false)→(∀c,PySem.W.subIn B.K (.type T) (.ref c)=some false)→PySem.W.kitOne B.K (.type T) u2=some (f ty):=by
  intro T f h1 h2 h3
  rcases tv with ⟨t1,rfl⟩ | ⟨x,c,rfl,hl,rfl⟩
  ·cases r2
   exact h1 t1
  ·cases r2
   rw [h2]
   exact ko_of (I0.own x c hl) (h3 _)
 cases d with
 | none =>
  simp only [Den] at dn
  subst dn;cases r1
  refine fin PySem.W.kitx_none trivial rfl rfl (by intro q;cases q) (u2e "NoneType" (fun _=>false) (fun h=>JOh h) (fun _=>rfl) fun c=>?_)
  kernel_rfl
 | bool b =>
  simp only [Den] at dn
  subst dn;cases r1
  exact fin PySem.W.kitx_bool trivial rfl rfl (by intro q;cases q) (u2e "bool" (fun ty=>ty==.int || ty==.bool) (fun h=>JKs h) (fun _=>rfl) fun c=>JLy)
 | int b =>
  simp only [Den] at dn
  subst dn;obtain ⟨t,rfl⟩:=r1
  exact fin PySem.W.kitx_int trivial rfl rfl (by intro q;cases q) (u2e "int" (fun ty=>ty==.int) (fun h=>JMe h) (fun _=>rfl) fun c=>JOr)
 | str b =>
  simp only [Den] at dn
  subst dn;obtain ⟨t,rfl⟩:=r1
  exact fin PySem.W.kitx_str trivial rfl rfl (by intro q;cases q) (u2e "str" (fun ty=>ty==.str) (fun h=>JO2 h) (fun _=>rfl) fun c=>JPZ)
 | list b =>
  simp only [Den] at dn
  obtain ⟨l,xs,rfl,q,_⟩:=dn
  cases r1
  obtain ⟨its,_,⟨o,n,e1,e2,_⟩,_⟩:=I.list (g.K▸q)
  exact fin PySem.W.kitx_list ⟨o,e1,e2⟩ rfl rfl (by intro q;cases q) (u2e "list" (fun ty=>ty==.list) (fun h=>JLK h) (fun _=>rfl) fun c=>JKn)
 | tuple b =>
  simp only [Den] at dn
  obtain ⟨l,xs,rfl,q,_⟩:=dn
  cases r1
  obtain ⟨its,_,⟨o,e1,e2,_⟩,_⟩:=I.tuple (g.K▸q)
  exact fin PySem.W.kitx_tuple ⟨o,e1,e2⟩ rfl rfl (by intro q;cases q) (u2e "tuple" (fun ty=>ty==.tuple) (fun h=>JI7 h) (fun _=>rfl) fun c=>JH6)
 | dict kvs =>
  simp only [Den] at dn
  rcases dn with ⟨l,c,rfl,rfl,q⟩ | ⟨l,xs,rfl,q,dk⟩
  ·cases r1
   simp only [isiD,Int.toNat_natCast] at k fin
   by_cases hk:C.sub c c=true
   ·rw [if_pos hk] at k fin
    have p:ExcAt l (B.cl c) s.heap:=by
     have:=I.hok l _ q
     exact this.1
    rcases tv with ⟨t1,rfl⟩ | ⟨x,e,rfl,hl,rfl⟩
    ·cases r2
     cases ty with
     | valueError=>exact fin (JE6 (I0.exc c hk).1) p rfl rfl (by intro q;cases q) (I0.exc c hk).2
     | own e=>cases t1
     | _=>exact False.elim k
    ·cases r2
     exact fin (JE6 (I0.exc c hk).1) p rfl rfl (by intro q;cases q) (I0.rel c hk x e hl)
   ·rw [if_neg hk] at k
    exact False.elim k
  ·cases kvs with
   | nil=>exact False.elim k
   | cons p r =>
    obtain ⟨p1,p2⟩:=p
    simp only [DenK] at dk
    obtain ⟨_,_,_,_,rfl,_⟩:=dk
    exact False.elim k
theorem r_isi (I0:Isi B G C.sub) (g:Gk X B C CX XX G) (a:Expr) (x:E) (t:Str) (ty:Ty) (p pt pos:Pos) (h1:Gl X "isinstance") (h2:Gl X t) (h3:G.lookup ("isinstance":Str)=some GK.isi)
  (h4:G.lookup t=some (.ty ty)∧JA8 ty=some t∨∃c,ty=.own c∧G.lookup t=some (.cls c)) (h5:JAH t=false) (ha:PE X a (RE B C XX x)) (hs:starEach [a,.Name t pt] X.env=(false,eval a X.env)::starEach [.Name t pt] X.env) :
  PE X (.Call (.Name "isinstance" p) [a,.Name t pt] [] pos) (RE B C XX (.isi x ty)):=by
 have hst:starEach [.Name t pt] X.env=[(false,eval (.Name t pt) X.env)]:=rfl
 obtain ⟨v2,tv,hn⟩:∃v2,TyV B G ty v2∧PE X (.Name t pt) (tC v2):=by
  rcases h4 with ⟨e1,e2⟩ | ⟨c,rfl,e1⟩
  · exact ⟨_,.inl ⟨by rw [e2];rfl,rfl⟩,JLr h2 (g.ty t ty e1) (JLz e2) rfl (JAF h5).2.2 (JAF h5).1⟩
  · exact ⟨_,.inr ⟨t,c,rfl,e1,rfl⟩,JHQ h2 (g.cls t c e1) rfl (JAF h5).1⟩
 refine PE.imp (JFS (JIh I0 g ty) h1 (g.isi _ h3) (by boot_by_name) (JBk ha (JBk hn JC9 hst) hs) (by decide) (by decide) hs (by rw [hst];rfl)) ?_
 rintro σ H Q ⟨δ,ok,kk⟩
 simp only [ev] at kk
 refine RE.of (W:=fun r H=>KE B XX r H Q) ok (fun _ _ z=>z) (fun _ z=>z) kk fun d v H1 s1 d1 h1=>?_
 exact ⟨d,v,v2,rfl,d1,tv,KE.mono g s1 h1⟩
end
end VI
end
section
namespace VI
open PySem PySem.Spec PyProof.Rows L2
theorem JKv {B:Bs} {C:Cn} {G:List (Str×GK)} {P:Program} {w:World} (I0:Isi B G C.sub)
  (mn:G.lookup ("min":Str)=some (.blt .min)→∀(X:Cx) (XX:Nat→Hp→Prop),Gk X B C (CXV P w B) XX G→CallR X (.builtin "min") (fun vs H Q=>∃ds,DenL B H ds vs∧KE B XX (bltD .min ds) H Q))
  (dc:G.lookup (".dct":Str)=some GK.opt→∀(X:Cx) (XX:Nat→Hp→Prop),Gk X B C (CXV P w B) XX G→∀(n:Nat) (names:List (Str×NameKind)) (N:List Str) (ks:List (Option Expr)) (vs:List Expr) (xs:List Str) (x:E) (pos:Pos),(∀e x,JAN G n false names N e=some x→PE X e (RE B C XX x)) →
    strKeys ks=some xs→1≤xs.length→xs.length≤15→xs.length=vs.length→xs.Nodup→JAJ (JAN G n false names N) vs=some x→PE X (.Dict ks vs pos) (RE B C XX (.dct xs x)))
  (xo:∀k:XO,G.lookup k.flag=some GK.opt→XOk B C (CXV P w B) G k)
  (rp:G.lookup (".rep":Str)=some GK.opt→∀(X:Cx) (XX:Nat→Hp→Prop),Gk X B C (CXV P w B) XX G→∀(es:List Expr) (x:E) (k:Int) (j:Nat) (p p2 pos:Pos),PA X es (RA B C XX x)→cnt x≤1000→0≤k→k≤1000→PE X (.BinOp (.List es p) .Mult (.Constant (.int k) j p2) pos) (RE B C XX (.rep k.toNat x))) (dp:G.lookup (".dict":Str)=some GK.opt→DOk B C (CXV P w B) G) (ro:RO B C (CXV P w B) G):Rare B C (CXV P w B) G where
 nox:=fun outer H s e s'=>JEc outer H s e s'
 isi:=fun X XX g a x t ty p pt pos h1 h2 h3 h4 h5 h6 h7=>r_isi I0 g a x t ty p pt pos h1 h2 h3 h4 h5 h6 h7
 min:=mn
 dct:=dc
 rep:=rp
 xop:=xo
 dop:=dp
 ro:=ro
theorem nofl {P:Prop} {l:Option GK} {x:GK} (h:l=none) (z:l=some x):P:=by rw [h] at z;cases z
section
variable {B:Bs} {C:Cn} {CX:CXT} {G:List (Str×GK)}
theorem JOX [Cool G] (_:G.lookup ("all":Str)=some (.blt .all)) (X:Cx) (XX:Nat→Hp→Prop) (g:Gk X B C CX XX G):CallR X (.builtin "all") (fun vs H Q=>∃ds,DenL B H ds vs∧KE B XX (bltD .all ds) H Q):=JGq g
end
theorem x_no {B:Bs} {C:Cn} {CX:CXT} {G:List (Str×GK)} {k:XO} (h:G.lookup k.flag=none) (z:G.lookup k.flag=some GK.opt):XOk B C CX G k:=by rw [h] at z;cases z
theorem JGy {B:Bs} {C:Cn} {G:List (Str×GK)} {P:Program} {w:World} (I0:Isi B G C.sub) (h1:G.lookup ("min":Str)=none) (h2:G.lookup (".dct":Str)=none) (h3:G.lookup (".rep":Str)=none) (dp:G.lookup (".dict":Str)=some GK.opt→DOk B C (CXV P w B) G) (xo:∀k:XO,G.lookup k.flag=some GK.opt→XOk B C (CXV P w B) G k) (ro:RO B C (CXV P w B) G):Rare B C (CXV P w B) G :=
 JKv I0 (fun z=>by rw [h1] at z;cases z) (fun z=>by rw [h2] at z;cases z) xo (fun z=>by rw [h3] at z;cases z) dp ro
theorem d_no {B:Bs} {C:Cn} {CX:CXT} {G:List (Str×GK)} (h:G.lookup (".dict":Str)=none) (z:G.lookup (".dict":Str)=some GK.opt):DOk B C CX G:=by rw [h] at z;cases z
theorem JDt:∀ {xs:List Str},xs.Nodup→(xs.map fun x=>(Sum.inr x:Key)).Nodup
 | [],_=>List.nodup_nil
 | x::xs,h=>by
  rw [List.map_cons,List.nodup_cons] at *
  refine ⟨fun z=>?_,JDt h.2⟩
  obtain ⟨y,hy,e⟩:=List.mem_map.mp z
  exact h.1 (Sum.inr.inj e▸hy)
noncomputable def allN:Nat→(List Value→Prop)→Prop
 | 0,P=>P []
 | n+1,P=>∀a,allN n fun r=>P (a::r)
theorem JHL:∀ {n:Nat} {P:List Value→Prop},allN n P→∀us:List Value,us.length=n→P us
 | 0,P,h,us,e=>by rw [List.length_eq_zero_iff.mp e];exact h
 | n+1,P,h,us,e=>by
  cases us with
  | nil=>cases e
  | cons a r=>exact JHL (h a) r (by simpa using e)
theorem bOk {x:Str} {st:Stmt} {ps:List Str} (h:allN ps.length fun us=>∀(kV doc pm:Value) (an:Option Addr) (cdv ct:Value),bindArgs (PySem.W.fnOf x x (JBF st) (JAZ st) (JAC st) .none kV doc pm an cdv ct) ⟨us,[]⟩=pure (ps.zip us)):JAK x st ps :=
 fun kV doc pm an cdv ct us hl=>JHL h us hl kV doc pm an cdv ct
theorem fnI {K:PySem.W.Frag} {x:Str} {st:Stmt} (f c:Addr) (pm:Value) (a:PySem.W.nsIn K mainGlobals x=some (some (.ref f)):=by kernel_rfl)
 (l:K.lookup f=some ⟨.type "function",none,.func (PySem.W.fnOf x x (JBF st) (JAZ st) (JAC st) .none .none .none pm none (.ref c) .none),#[]⟩:=by kernel_rfl) (cc:PySem.W.codeIn K (.ref c) x=true:=by kernel_rfl) (k:PySem.W.keepIn K (.ref f)=true:=by kernel_rfl):FnIn K x st:=fn_in a l cc k
theorem tuI {G:List (Str×GK)} {st:Stmt} {N ps:List Str} {fd:Fd} (c:JAe (JCA G 60 true (JAC st).names N) (JAZ st)=some fd.body:=by kernel_rfl)
 (s:FnScope N ps (JAC st):=by exact ⟨rfl,rfl,rfl,by decide +kernel,rfl,by decide +kernel,by decide +kernel⟩) (p:fd.par=ps.length:=by rfl) (l:fd.slots=N.length:=by rfl):Turned G st N ps fd:=⟨c,s,p,l⟩
noncomputable def JES (rs:List (Nat×List Nat)) (k c:Nat):Bool:=match rs.lookup k with
 | some l=>l.contains c
 | none=>false
noncomputable def AllR (P:Nat→List Nat→Prop):List (Nat×List Nat)→Prop
 | []=>True
 |(k,l)::r=>P k l∧AllR P r
theorem AllR.get {P:Nat→List Nat→Prop}:∀ {rs:List (Nat×List Nat)} {k:Nat} {l:List Nat},AllR P rs→rs.lookup k=some l→P k l
 | [],k,l,_,h=>by cases h
 |(j,m)::r,k,l,⟨h1,h2⟩,h=>by
  rw [List.lookup_cons] at h
  by_cases e:(k==j)=true
  · rw [e] at h
    have e':k=j:=by simpa using e
    cases h
    subst e'
    exact h1
  · have e':(k==j)=false:=by simpa using e
    rw [e'] at h
    exact AllR.get h2 h
structure ClIn (K:PySem.W.Frag) (x:Str) (C:Addr):Prop where
 ns:PySem.W.nsIn K mainGlobals x=some (some (.ref C))
 ex:PySem.W.excIn K C bmV "ValueError.__new__"=true
 ty:PySem.W.kitOne K (.type "NoneType") (.ref C)=some false
structure RaIn (K:PySem.W.Frag) (C:Addr):Prop where
 k:ExcK K C
 v:PySem.W.kitOne K (.ref C) (.type "ValueError")=some true
noncomputable def JHz (K:PySem.W.Frag) (C D:Addr) (b:Bool):Prop:=PySem.W.kitOne K (.ref C) (.ref D)=some b∧(b=true→PySem.W.exmOne K (.ref C) (.ref D)=some true)
theorem JPA {K:PySem.W.Frag} {C D:Addr} (h:PySem.W.kitOne K (.ref C) (.ref D)=some true) (h2:PySem.W.exmOne K (.ref C) (.ref D)=some true):JHz K C D true:=⟨h,fun _=>h2⟩
theorem JEd {K:PySem.W.Frag} {C D:Addr} (h:PySem.W.kitOne K (.ref C) (.ref D)=some false):JHz K C D false:=⟨h,fun z=>by cases z⟩
section
variable {B:Bs} {G:List (Str×GK)} {tab:Nat→Option Fd} {glo:Nat→R D} {rs:List (Nat×List Nat)} {mg:Str→Option Value}
noncomputable def MoP (mg:Str→Option Value) (B:Bs) (G:List (Str×GK)) (tab:Nat→Option Fd) (glo:Nat→R D) (x:Str):GK→Prop
 | .fn i=>∃fd,tab i=some fd∧DefAt B.K mg G x fd
 | .con i=>∀d,glo i=.ok d→∃u v,mg x=some u∧RelV v u∧∀H,Den B H d v
 | .blt _=>mg x=none
 | .rng=>mg x=none
 | .isi=>mg x=none
 | .ty _=>mg x=none
 | .nam=>mg x=none
 | .cls c=>ClIn B.K x (B.cl c)∧mg x=some (.ref (B.cl c))
 | .opt=>True
noncomputable def RaP (B:Bs) (G:List (Str×GK)) (k:Nat) (l:List Nat):Prop:=RaIn B.K (B.cl k)∧AllP (fun _ gk=>match gk with
 | .cls c=>JHz B.K (B.cl k) (B.cl c) (l.contains c)
 | _=>True) G
theorem JCC {k c:Nat} (h:JES rs k c=true):∃l,rs.lookup k=some l∧l.contains c=true:=by
 unfold JES at h
 split at h
 ·rename_i l e
  exact ⟨l,e,h⟩
 ·cases h
theorem JJF (hr:AllR (RaP B G) rs) {x:Str} {k c:Nat} {l:List Nat} (hx:G.lookup x=some (.cls c)) (hk:rs.lookup k=some l):JHz B.K (B.cl k) (B.cl c) (l.contains c):=(hr.get hk).2.get hx
theorem JKE (h:AllP (MoP mg B G tab glo) G) (hr:AllR (RaP B G) rs):Isi B G (JES rs) where
 own:=fun x c e=>(h.get e).1.ty
 exc:=fun k hk=>by
  obtain ⟨l,e,_⟩:=JCC hk
  exact ⟨(hr.get e).1.k,(hr.get e).1.v⟩
 rel:=fun k hk x c e=>by
  obtain ⟨l,el,_⟩:=JCC hk
  have:JES rs k c=l.contains c:=by unfold JES;rw [el]
  rw [this]
  exact (JJF hr e el).1
theorem mo_of (h:AllP (MoP mg B G tab glo) G) (hr:AllR (RaP B G) rs) (hg:∀i c,glo i≠.exc c):Mo mg B G tab glo (JES rs) where
 fn:=fun x i e=>h.get e
 con:=fun x i d e q=>h.get e d q
 noexg:=hg
 blt:=fun x b e=>h.get e
 rng:=fun x e=>h.get e
 isi:=fun x e=>h.get e
 ty:=fun x t e=>h.get e
 nam:=fun x e=>h.get e
 cl:=⟨fun x c e=>(h.get e).2,fun x c e=>⟨_,_,_,_,PySem.F.excBase_ValueError,by decide,(h.get e).1.ex⟩⟩
 exm:=fun x c e k hk=>by
  obtain ⟨l,el,hc⟩:=JCC hk
  exact (JJF hr e el).2 hc
end
noncomputable def conV:Value→Option D
 | .none=>some .none
 | .bool b=>some (.bool b)
 | .int i _=>some (.int i)
 | .str x _=>some (.str x)
 | _=>none
theorem JHp {B:Bs} {u:Value} {d:D} (h:conV u=some d):∃v,RelV v u∧∀H,Den B H d v:=by
 cases u<;>simp only [conV,Option.some.injEq,reduceCtorEq] at h<;>subst h
 ·exact ⟨.non,rfl,fun H=>by simp only [Den]⟩
 ·exact ⟨.bl _,rfl,fun H=>by simp only [Den]⟩
 ·exact ⟨.int _,⟨_,rfl⟩,fun H=>by simp only [Den]⟩
 ·exact ⟨.str _,⟨_,rfl⟩,fun H=>by simp only [Den]⟩
inductive EntOk (B:Bs) (w:World):List DictEntry→List (D×D)→Prop
 | nil:EntOk B w [] []
 | cons {en:DictEntry} {x:Str} {t:Tok} {d:D} {es:List DictEntry} {kvs:List (D×D)}:en.key=.str x t→en.hash=hashStr w x→(∃v,RelV v en.val∧∀H,Den B H d v)→EntOk B w es kvs→EntOk B w (en::es) ((.str x,d)::kvs)
theorem EntOk.den {B:Bs} {w:World} {es:List DictEntry} {kvs:List (D×D)} (h:EntOk B w es kvs):∃ks:List (Key×V),(∀H,DenK B H kvs ks)∧∀P:Program,∃rs:List (Key×Value),KV ks rs∧Pairs (JBH P w) es rs∧(∀e∈es,∃k,(JBH P w).is k e.key=true∧e.hash=(JBH P w).hash k)∧rs.map (·.1)=kvs.filterMap (fun p=>match p.1 with | .str x=>some (Sum.inr x:Key) | _=>none):=by
 induction h with
 | nil=>exact ⟨[],fun H=>by simp only [DenK],fun P=>⟨[],.nil,.nil,fun e he=>(by simp at he),rfl⟩⟩
 | @cons en x t d es kvs h1 h2 h3 _ ih =>
  obtain ⟨ks,b,ih⟩:=ih
  obtain ⟨v,r,q⟩:=h3
  refine ⟨(Sum.inr x,v)::ks,fun H=>?_,fun P=>?_⟩
  ·simp only [DenK]
   exact ⟨x,v,ks,rfl,rfl,q H,b H⟩
  ·obtain ⟨rs,a,c,e,f⟩:=ih P
   have hk:(JBH P w).is (Sum.inr x) en.key=true:=by rw [h1];exact JCZ P w x t
   refine ⟨(Sum.inr x,en.val)::rs,.cons ⟨rfl,r⟩ a,.cons hk rfl c,fun e' he=>?_,by simp only [List.map_cons,f];rfl⟩
   rcases List.mem_cons.mp he with rfl | he
   ·exact ⟨Sum.inr x,hk,h2⟩
   ·exact e e' he
theorem JMB {K:PySem.W.Frag} {cl:Nat→Addr} {w:World} {h:Heap} {mg:Str→Option Value} {x:Str} {a:Addr} {es:Array DictEntry} {ep:Nat} {kvs:List (D×D)} (X:K.In h) (Gm:h.Ns mainGlobals mg)
  (e:PySem.W.nsIn K mainGlobals x=some (some (.ref a))) (l:K.lookup a=some ⟨.type "dict",none,.dict es ep,#[]⟩) (hs:(a==sysModules)=false) (hc:EntOk ⟨K,cl,w⟩ w es.toList kvs)
  (hn:(kvs.filterMap (fun p=>match p.1 with | .str x=>some x | _=>none)).Nodup) {glo:Nat→R D} {i:Nat} (hg:glo i=.ok (.dict kvs)) :
  ∀d,glo i=.ok d→∃u v,mg x=some u∧RelV v u∧∀H,Den ⟨K,cl,w⟩ H d v:=by
 intro d hd
 rw [hg] at hd
 cases hd
 obtain ⟨ks,b,key⟩:=hc.den
 refine ⟨.ref a,.ref a,PySem.W.mg_of X Gm e,rfl,fun H=>?_⟩
 simp only [Den]
 refine .inr ⟨a,ks,rfl,⟨_,.inr fun P h' X'=>⟨hs,X' _ _ l,?_⟩⟩,b H⟩
 obtain ⟨rs,k1,k2,k3,k4⟩:=key P
 refine ⟨rs,k1,_,es,ep,X' _ _ l,⟨rfl,rfl,rfl⟩,rfl,fun e' he=>k3 e' (by simpa using he),k2,?_⟩
 have e2:rs.map (·.1)=(kvs.filterMap (fun p=>match p.1 with | .str x=>some x | _=>none)).map fun x=>(Sum.inr x:Key):=by
  rw [k4,List.map_filterMap]
  congr 1
  funext p
  cases p.1<;>rfl
 rw [e2]
 exact JDt hn
end VI
namespace VI
open PySem PySem.Spec PyProof.Rows L2
mutual
noncomputable def conK (K:PySem.W.Frag):Nat→Value→Option D
 | 0,_=>none
 | n+1,u=>match u with
  | .ref a=>(match K.lookup a with
   | some ⟨.type "tuple",_,.seq its 0,_⟩=>if its.size≤1000 then (JFi K n its.toList).map PyData.tuple else none
   | _=>none)
  | u=>conV u
noncomputable def JFi (K:PySem.W.Frag):Nat→List Value→Option (List D)
 | 0,_=>none
 | _,[]=>some []
 | n+1,u::us=>(conK K n u).bind fun d=>(JFi K n us).map (d::·)
end
mutual
theorem JBD {B:Bs}:∀ {n:Nat} {u:Value} {d:D},conK B.K n u=some d→∃v,RelV v u∧∀H,Den B H d v
 | 0,u,d,h=>by simp [conK] at h
 | n+1,u,d,h=>by
  unfold conK at h
  split at h
  ·rename_i a
   split at h
   ·rename_i od its sl l
    split at h
    ·rename_i hz
     obtain ⟨ds,h1,e⟩:=Option.map_eq_some_iff.mp h
     subst e
     obtain ⟨vs,r,q⟩:=JEH h1
     refine ⟨.ref a,rfl,fun H=>?_⟩
     simp only [Den]
     exact ⟨a,vs,rfl,.inr ⟨_,its,_,l,rfl,rfl,by rw [sizeLine_eq];omega,r⟩,q H⟩
    ·cases h
   ·cases h
  ·exact JHp h
theorem JEH {B:Bs}:∀ {n:Nat} {us:List Value} {ds:List D},JFi B.K n us=some ds→∃vs,Vals vs us∧∀H,DenL B H ds vs
 | 0,us,ds,h=>by simp [JFi] at h
 | n+1,[],ds,h=>by
  simp only [JFi,Option.some.injEq] at h
  subst h
  exact ⟨[],.nil,fun H=>by simp only [DenL]⟩
 | n+1,u::us,ds,h=>by
  unfold JFi at h
  obtain ⟨d,h1,h⟩:=Option.bind_eq_some_iff.mp h
  obtain ⟨r,h2,e⟩:=Option.map_eq_some_iff.mp h
  subst e
  obtain ⟨v,r1,q1⟩:=JBD h1
  obtain ⟨vs,r2,q2⟩:=JEH h2
  exact ⟨v::vs,.cons r1 r2,fun H=>by simp only [DenL];exact ⟨v,vs,rfl,q1 H,q2 H⟩⟩
end
theorem JA1 {K:PySem.W.Frag} {cl:Nat→Addr} {w:World} {h:Heap} {mg:Str→Option Value} {x:Str} {d0:D} (X:K.In h) (Gm:h.Ns mainGlobals mg)
  (e:((PySem.W.nsIn K mainGlobals x).bind fun o=>o.bind fun u=>conK K 64 u)=some d0) {glo:Nat→R D} {i:Nat} (hg:glo i=.ok d0) :
  ∀d,glo i=.ok d→∃u v,mg x=some u∧RelV v u∧∀H,Den ⟨K,cl,w⟩ H d v:=by
 intro d hd
 rw [hg] at hd
 cases hd
 obtain ⟨o,h1,h2⟩:=Option.bind_eq_some_iff.mp e
 obtain ⟨u,h3,h4⟩:=Option.bind_eq_some_iff.mp h2
 subst h3
 obtain ⟨v,r,q⟩:=JBD (B:=⟨K,cl,w⟩) h4
 exact ⟨u,v,PySem.W.mg_of X Gm h1,r,q⟩
end VI
end
section
namespace Fr
theorem JBS {a g:Int} (h:g ∣ a):a.fdiv g=a / g:=Int.fdiv_eq_ediv_of_dvd h
theorem JCN (up down:Int) (h:down≠0):up.fdiv (if down<0 then -((up.gcd down:Nat):Int) else ((up.gcd down:Nat):Int))=(Rat.divInt up down).num:=by
 have hg:((up.gcd down:Nat):Int) ∣ up:=Int.gcd_dvd_left ..
 rw [Rat.num_divInt,Int.gcd_comm down up]
 by_cases hd:down<0
 ·rw [if_pos hd,JBS (Int.neg_dvd.mpr hg),Int.sign_eq_neg_one_of_neg hd,Int.neg_one_mul,Int.ediv_neg,Int.neg_ediv_of_dvd hg]
 ·rw [if_neg hd,JBS hg,Int.sign_eq_one_of_pos (by omega),Int.one_mul]
theorem JDX (up down:Int) (h:down≠0):down.fdiv (if down<0 then -((up.gcd down:Nat):Int) else ((up.gcd down:Nat):Int))=((Rat.divInt up down).den:Int):=by
 have hg:((up.gcd down:Nat):Int) ∣ down:=Int.gcd_dvd_right ..
 rw [Rat.den_divInt,if_neg h,Int.gcd_comm down up]
 by_cases hd:down<0
 ·rw [if_pos hd,JBS (Int.neg_dvd.mpr hg),Int.ediv_neg,Int.natCast_ediv,←Int.neg_ediv_of_dvd hg]
  congr 1
  omega
 ·rw [if_neg hd,JBS hg,Int.natCast_ediv]
  congr 1
  omega
theorem den_pos (q:Rat):(0:Int)<(q.den:Int):=by have:=q.den_pos;omega
theorem JAh (q:Rat):(q.den:Int)≠0:=by have:=den_pos q;omega
theorem JGf (a b:Rat):Rat.divInt (a.num*b.den+b.num*a.den) ((a.den:Int)*b.den)=a+b:=by
 conv=>rhs;rw [←Rat.num_divInt_den a,←Rat.num_divInt_den b]
 rw [Rat.divInt_add_divInt _ _ (JAh a) (JAh b)]
theorem JKe (a b:Rat):Rat.divInt (a.num*b.den - b.num*a.den) ((a.den:Int)*b.den)=a - b:=by
 conv=>rhs;rw [←Rat.num_divInt_den a,←Rat.num_divInt_den b]
 rw [Rat.divInt_sub_divInt _ _ (JAh a) (JAh b)]
theorem JJy (a b:Rat):Rat.divInt (a.num*b.num) ((a.den:Int)*b.den)=a*b:=by
 conv=>rhs;rw [←Rat.num_divInt_den a,←Rat.num_divInt_den b]
 rw [Rat.divInt_mul_divInt]
theorem JJh (a b:Rat):Rat.divInt (a.num*b.den) ((a.den:Int)*b.num)=a / b:=by
 rw [Rat.div_def,Rat.inv_def]
 conv=>rhs;rw [←Rat.num_divInt_den a]
 rw [Rat.divInt_mul_divInt]
theorem JLT (q:Rat):q.num.gcd (q.den:Int)=1:=by
 have:=q.reduced
 unfold Nat.Coprime at this
 unfold Int.gcd
 simpa using this
theorem JFQ (a b:Int):b.gcd (a.fmod b)=a.gcd b:=by
 have h:=Int.mul_fdiv_add_fmod a b
 have e:a.fmod b=a - b*a.fdiv b:=by omega
 rw [e,Int.gcd_comm a b]
 apply Nat.dvd_antisymm
 ·apply Int.dvd_gcd
  ·exact Int.gcd_dvd_left ..
  ·have h1:((b.gcd (a - b*a.fdiv b):Nat):Int) ∣ b:=Int.gcd_dvd_left ..
   have h2:((b.gcd (a - b*a.fdiv b):Nat):Int) ∣ a - b*a.fdiv b:=Int.gcd_dvd_right ..
   have h3:=Int.dvd_add h2 (Int.dvd_mul_of_dvd_left (c:=a.fdiv b) h1)
   have e2:a - b*a.fdiv b+b*a.fdiv b=a:=by omega
   rwa [e2] at h3
 ·apply Int.dvd_gcd
  ·exact Int.gcd_dvd_left ..
  ·exact Int.dvd_sub (Int.gcd_dvd_right ..) (Int.dvd_mul_of_dvd_left (Int.gcd_dvd_left ..))
theorem JHH (a b:Int) (h:b≠0):(a.fmod b).natAbs<b.natAbs:=by
 by_cases hb:0<b
 ·have h1:=Int.fmod_nonneg_of_pos a hb
  have h2:=Int.fmod_lt_of_pos a hb
  omega
 ·have hb':b<0:=by omega
  have h1:=Int.mul_fdiv_add_fmod a b
  rw [Int.fmod_eq_emod]
  have h2:=Int.emod_nonneg a h
  have h3:=Int.emod_lt a h
  split
  ·rename_i q
   rcases q with q | q
   ·omega
   ·have:=Int.emod_eq_zero_of_dvd q
    omega
  ·rename_i q
   have h4:a % b≠0:=fun z=>q (.inr (Int.dvd_of_emod_eq_zero z))
   omega
end Fr
end
section
namespace VI.VP
open PySem
theorem JAB {x:Bool} {tab:Nat→Option Fd} {glo:Nat→R D} {sub:Nat→Nat→Bool} {n f:Nat} {xs:List D} {fd:Fd} (h:tab f=some fd):run x tab glo sub (n+1) f xs=JEQ x ⟨run x tab glo sub n,glo,sub⟩ fd xs:=by
 rw [run,h]
@[simp] theorem look_zero (s:Sl) (δ:Env):look (s::δ) 0=s.get:=rfl
@[simp] theorem look_succ (s:Sl) (δ:Env) (i:Nat):look (s::δ) (i+1)=look δ i:=rfl
@[simp] theorem get_val (d:D):(Sl.val d).get=.ok d:=rfl
@[simp] theorem get_own (d:List D):(Sl.own (.list d)).get=.ok (.list d):=rfl
@[simp] theorem bind_ok {α β:Type} (a:α) (f:α→R β):(R.ok a).bind f=f a:=rfl
@[simp] theorem bind_exc {α β:Type} (c:Nat) (f:α→R β):(R.exc c).bind f=.exc c:=rfl
@[simp] theorem stepR_ok {α:Type} (a:α) (f:α→Fl):stepR (.ok a) f=f a:=rfl
@[simp] theorem stepR_exc {α:Type} (c:Nat) (f:α→Fl):stepR (.exc c) f=.ex c:=rfl
theorem JCe (e:E) (i:Nat) (d:D) (r:Env):JAR e i (.val d::r)=JAR e (i+1) r:=by simp [JAR,Sl.isOwn]
theorem JDE (e:E) (i:Nat) (r:Env):JAR e i (.no::r)=JAR e (i+1) r:=by simp [JAR,Sl.isOwn]
theorem JBG (e:E) (i:Nat) (d:D) (r:Env):JAR e i (.own d::r)=(e.uses i || JAR e (i+1) r):=by simp [JAR,Sl.isOwn]
theorem JCW (e:E) (i:Nat):JAR e i []=false:=rfl
theorem JAx (e:E) (i:Nat) (d:D) (r:Env):JAv e i (.val d::r)=.val d::JAv e (i+1) r:=by simp [JAv,Sl.frz]
theorem JBJ (e:E) (i:Nat) (r:Env):JAv e i (.no::r)=.no::JAv e (i+1) r:=by simp [JAv,Sl.frz]
theorem JCi (e:E) (i:Nat) (d:List D) (r:Env):JAv e i (.own (.list d)::r)=(if e.uses i=true then .val (.list d) else .own (.list d))::JAv e (i+1) r:=by
 simp only [JAv,Sl.frz]
theorem JAy (e:E) (i:Nat):JAv e i []=[]:=rfl
theorem JEs (e:E) (d:D) (δ:Env):after e d δ=if (JAR e 0 δ&&!JAS d)=true then JAv e 0 δ else δ:=rfl
noncomputable def JID (x:Bool):Fl→R D
 | .nx _=>.ok .none
 | .rt d=>.ok d
 | .ex c=>if x=true then .exc c else .bad
 | _=>.bad
theorem JAA {x:Bool} {C:Cn} {f:Fd} {xs:List D} (h:xs.length=f.par):JEQ x C f xs=JID x (exec C f.body (xs.map Sl.val++List.replicate (f.slots - f.par) Sl.no)):=by
 unfold JEQ
 rw [if_pos h]
 cases exec C f.body (xs.map Sl.val++List.replicate (f.slots - f.par) Sl.no)<;>rfl
section
variable {c:Env→R Bool} {b:Env→Fl}
theorem JBm:∀(n:Nat) (δ:Env),JAg c b n δ≠.bad→JAg c b (n+1) δ=JAg c b n δ
 | 0,δ,h=>absurd rfl h
 | n+1,δ,h=>by
  unfold JAg at h ⊢
  cases hc:c δ with
  | ok k =>
   cases k with
   | true =>
    rw [hc] at h
    simp only at h ⊢
    cases hb:b δ with
    | nx δ'=>rw [hb] at h;exact JBm n δ' h
    | ct δ'=>rw [hb] at h;exact JBm n δ' h
    | bk δ'=>rfl
    | rt d=>rfl
    | ex k=>rfl
    | bad=>rfl
   | false=>rfl
  | exc k=>rfl
  | bad=>rfl
theorem JEO {n m:Nat} {δ:Env} (h:JAg c b n δ≠.bad) (hm:n≤m):JAg c b m δ=JAg c b n δ:=by
 induction hm with
 | refl=>rfl
 | step _ ih=>rw [JBm _ _ (by rw [ih];exact h),ih]
theorem JCl {n:Nat} {δ:Env} (h:JAg c b n δ≠.bad):JBa c b δ=JAg c b n δ:=by
 unfold JBa
 have hx:∃n,JAg c b n δ≠.bad:=⟨n,h⟩
 rw [dif_pos hx]
 have h2:=hx.choose_spec
 rcases Nat.le_total n hx.choose with l | l
 ·exact JEO h l
 ·exact (JEO h2 l).symm
theorem JCV {δ:Env} (hc:c δ=.ok false):JBa c b δ=.nx δ:=by
 have:JAg c b 1 δ=.nx δ:=by unfold JAg;rw [hc]
 rw [JCl (n:=1) (by rw [this];intro h;cases h),this]
theorem JCp {δ δ':Env} (hc:c δ=.ok true) (hb:b δ=.nx δ'):JBa c b δ=JBa c b δ':=by
 have hs:∀n,JAg c b (n+1) δ=JAg c b n δ':=fun n=>by
  conv=>lhs;unfold JAg
  rw [hc];simp only;rw [hb]
 by_cases h:∃n,JAg c b n δ'≠.bad
 ·obtain ⟨n,h⟩:=h
  rw [JCl h,JCl (n:=n+1) (by rw [hs];exact h),hs]
 ·have h1:JBa c b δ'=.bad:=by unfold JBa;rw [dif_neg h]
  have h2:¬ ∃n,JAg c b n δ≠.bad:=by
   rintro ⟨n,q⟩
   cases n with
   | zero=>exact q rfl
   | succ n=>exact h ⟨n,by rw [←hs];exact q⟩
  rw [h1]
  unfold JBa
  rw [dif_neg h2]
end
theorem JBc {i:Int} {k:Nat} (h:i.natAbs<2 ^ k):Builtin.Int.intBits i≤k:=by
 unfold Builtin.Int.intBits
 split
 ·omega
 ·rename_i hz
  have hn:i.natAbs≠0:=by simpa using hz
  have:=(Nat.log2_lt hn).mpr h
  omega
theorem JGC {i j:Int} (h:j.natAbs<2 ^ 9000):Builtin.divisionGoesByPylong i j=false:=by
 unfold Builtin.divisionGoesByPylong
 simp only [Bool.and_eq_false_iff,decide_eq_false_iff_not]
 left
 split
 ·omega
 ·rename_i hz
  have hn:j.natAbs≠0:=by simpa using hz
  have:=(Nat.log2_lt hn).mpr h
  omega
end VI.VP
end
section
namespace VI.VP
open PySem Fr
noncomputable def L (i:Int):Prop:=i.natAbs<2 ^ 4000
theorem L.of {i:Int} {k:Nat} (h:i.natAbs<2 ^ k) (hk:k≤4000):L i:=Nat.lt_of_lt_of_le h (Nat.pow_le_pow_right (by omega) hk)
theorem JM3 {i j:Int} (hi:L i) (hj:L j):IntMulOk i j:=by
 have h1:=JBc hi
 have h2:=JBc hj
 unfold IntMulOk
 intro h
 simp only [Bool.and_eq_true,decide_eq_true_eq] at h
 have h3:=h.2
 unfold Builtin.Int.intTooBig at h3
 have:(bitsLine:Int) ≥ 8000:=by decide
 simp only [decide_eq_true_eq] at h3
 omega
theorem pyl {i j:Int} (hj:L j):Builtin.divisionGoesByPylong i j=false:=JGC (Nat.lt_of_lt_of_le hj (Nat.pow_le_pow_right (by omega) (by omega)))
theorem JBd {i j:Int} (hi:L i) (hj:L j):binD .Mult (.int i) (.int j)=.ok (.int (i*j)):=by
 simp only [binD,if_pos (JM3 hi hj)]
theorem JE9 {i j:Int} (hj:j.natAbs<2 ^ 64):binD .Mult (.int i) (.int j)=.ok (.int (i*j)):=by
 simp only [binD,if_pos (IntMulOk.of_right (a:=i) (JBc hj))]
theorem JE5 {i j:Int} (hj:i.natAbs<2 ^ 64):binD .Mult (.int i) (.int j)=.ok (.int (i*j)):=by
 simp only [binD,if_pos (IntMulOk.of_left (b:=j) (JBc hj))]
theorem JLE {i j:Int}:binD .Add (.int i) (.int j)=.ok (.int (i+j)):=rfl
theorem JNf {i j:Int}:binD .Sub (.int i) (.int j)=.ok (.int (i - j)):=rfl
theorem JG1 {i j:Int} (h:j≠0) (hj:L j):binD .FloorDiv (.int i) (.int j)=.ok (.int (i.fdiv j)):=by
 simp only [binD,if_pos (And.intro h (pyl (i:=i) hj))]
theorem JEB {i j:Int} (h:j≠0):binD .Mod (.int i) (.int j)=.ok (.int (i.fmod j)):=by
 simp only [binD,if_pos h]
noncomputable def F (q:Rat):D:=.tuple [.int q.num,.int q.den]
theorem JHr (p q:Rat):PyData.eqv (F p) (F q)=decide (p=q):=by
 simp only [F,PyData.eqv,PyData.eqvAll,Bool.and_true]
 by_cases h:p=q
 ·subst h;simp
 ·rw [decide_eq_false h]
  simp only [Bool.and_eq_false_iff,beq_eq_false_iff_ne,ne_eq]
  by_cases hn:p.num=q.num
  ·right
   intro hd
   exact h (Rat.ext hn (by omega))
  ·left;exact hn
theorem JE1 (q:Rat):shaped (F q)=true:=by
 simp only [shaped,F,PyData.canLay0,PyData.canLayAll0,PyData.depth,PyData.depthAll,Bool.and_true,Bool.true_and]
 decide
theorem JJj (q:Rat):idxD (F q) (.int 0)=.ok (.int q.num):=rfl
theorem JJ4 (q:Rat):idxD (F q) (.int 1)=.ok (.int q.den):=rfl
theorem F_ne (p q:Rat):cmpD .NotEq (F p) (F q)=.ok (.bool (!decide (p=q))):=by
 simp only [cmpD,JE1,Bool.and_self,if_true,JHr]
theorem F_eq (p q:Rat):cmpD .Eq (F p) (F q)=.ok (.bool (decide (p=q))):=by
 simp only [cmpD,JE1,Bool.and_self,if_true,JHr]
theorem i_ne (i j:Int):cmpD .NotEq (.int i) (.int j)=.ok (.bool (!decide (i=j))):=by
 have:PyData.eqv (.int i) (.int j)=decide (i=j):=by simp only [PyData.eqv];rfl
 simp only [cmpD,shaped,PyData.canLay0,PyData.depth,this]
 rfl
theorem i_eq (i j:Int):cmpD .Eq (.int i) (.int j)=.ok (.bool (decide (i=j))):=by
 have:PyData.eqv (.int i) (.int j)=decide (i=j):=by simp only [PyData.eqv];rfl
 simp only [cmpD,shaped,PyData.canLay0,PyData.depth,this]
 rfl
theorem i_lt (i j:Int):cmpD .Lt (.int i) (.int j)=.ok (.bool (decide (i<j))):=rfl
theorem i_gt (i j:Int):cmpD .Gt (.int i) (.int j)=.ok (.bool (decide (j<i))):=rfl
theorem i_le (i j:Int):cmpD .LtE (.int i) (.int j)=.ok (.bool (decide (i≤j))):=rfl
theorem i_ge (i j:Int):cmpD .GtE (.int i) (.int j)=.ok (.bool (decide (j≤i))):=rfl
theorem JJV (u d:Int) (h:d≠0):(Rat.divInt u d).num.natAbs≤u.natAbs:=by
 rw [←JCN u d h]
 have hg:((u.gcd d:Nat):Int) ∣ u:=Int.gcd_dvd_left ..
 have key:∀g:Int,g ∣ u→(u.fdiv g).natAbs≤u.natAbs:=fun g hg=>by
  rw [JBS hg]
  obtain ⟨k,rfl⟩:=hg
  by_cases hz:g=0
  ·subst hz;simp
  ·rw [Int.mul_ediv_cancel_left _ hz,Int.natAbs_mul]
   have:0<g.natAbs:=by omega
   exact Nat.le_mul_of_pos_left _ this
 split
 ·exact key _ (Int.neg_dvd.mpr hg)
 ·exact key _ hg
theorem JJc (u d:Int) (h:d≠0):(Rat.divInt u d).den≤d.natAbs:=by
 rw [Rat.den_divInt,if_neg h]
 exact Nat.div_le_self _ _
noncomputable def Sz (k:Nat) (q:Rat):Prop:=q.num.natAbs<2 ^ k∧q.den<2 ^ k
theorem Sz.mono {i k:Nat} {q:Rat} (h:Sz i q) (hk:i≤k):Sz k q:=⟨Nat.lt_of_lt_of_le h.1 (Nat.pow_le_pow_right (by omega) hk),Nat.lt_of_lt_of_le h.2 (Nat.pow_le_pow_right (by omega) hk)⟩
theorem Sz.of {u d:Int} {k:Nat} (h:d≠0) (hu:u.natAbs<2 ^ k) (hd:d.natAbs<2 ^ k):Sz k (Rat.divInt u d):=⟨Nat.lt_of_le_of_lt (JJV u d h) hu,Nat.lt_of_le_of_lt (JJc u d h) hd⟩
theorem Sz.n {k:Nat} {q:Rat} (h:Sz k q):q.num.natAbs<2 ^ k:=h.1
theorem Sz.d {k:Nat} {q:Rat} (h:Sz k q):(q.den:Int).natAbs<2 ^ k:=by simpa using h.2
theorem JAj {a b:Int} {i j:Nat} (h1:a.natAbs<2 ^ i) (h2:b.natAbs<2 ^ j):(a*b).natAbs<2 ^ (i+j):=by
 rw [Int.natAbs_mul,Nat.pow_add]
 exact Nat.mul_lt_mul'' h1 h2
theorem JNw {a b:Int} {i:Nat} (h1:a.natAbs<2 ^ i) (h2:b.natAbs<2 ^ i):(a+b).natAbs<2 ^ (i+1):=by
 have:=Int.natAbs_add_le a b
 rw [Nat.pow_succ]
 omega
theorem JMS {a b:Int} {i:Nat} (h1:a.natAbs<2 ^ i) (h2:b.natAbs<2 ^ i):(a - b).natAbs<2 ^ (i+1):=by
 have:=Int.natAbs_sub_le a b
 rw [Nat.pow_succ]
 omega
theorem JD0 {a:Int} {i k:Nat} (h:a.natAbs<2 ^ i) (hk:i≤k):a.natAbs<2 ^ k:=Nat.lt_of_lt_of_le h (Nat.pow_le_pow_right (by omega) hk)
section
variable {i j k:Nat} {p q:Rat}
theorem Sz.add (hp:Sz i p) (hq:Sz j q) (hk:i+j+1≤k):Sz k (p+q):=by
 rw [←JGf]
 have h1:=JAj hp.n hq.d
 have h2:=JAj hq.n hp.d
 rw [Nat.add_comm j i] at h2
 refine Sz.of (Int.mul_ne_zero (JAh p) (JAh q)) (JD0 (JNw h1 h2) hk) (JD0 (JAj hp.d hq.d) (by omega))
theorem Sz.sub (hp:Sz i p) (hq:Sz j q) (hk:i+j+1≤k):Sz k (p - q):=by
 rw [←JKe]
 have h1:=JAj hp.n hq.d
 have h2:=JAj hq.n hp.d
 rw [Nat.add_comm j i] at h2
 refine Sz.of (Int.mul_ne_zero (JAh p) (JAh q)) (JD0 (JMS h1 h2) hk) (JD0 (JAj hp.d hq.d) (by omega))
theorem Sz.mul (hp:Sz i p) (hq:Sz j q) (hk:i+j≤k):Sz k (p*q):=by
 rw [←JJy]
 exact Sz.of (Int.mul_ne_zero (JAh p) (JAh q)) (JD0 (JAj hp.n hq.n) hk) (JD0 (JAj hp.d hq.d) hk)
theorem Sz.div (hp:Sz i p) (hq:Sz j q) (h0:q≠0) (hk:i+j≤k):Sz k (p / q):=by
 rw [←JJh]
 have:q.num≠0:=fun z=>h0 (Rat.num_eq_zero.mp z)
 exact Sz.of (Int.mul_ne_zero (JAh p) this) (JD0 (JAj hp.n hq.d) hk) (JD0 (JAj hp.d hq.n) hk)
end
abbrev Q (q:Rat):Prop:=Sz 1500 q
theorem Sz.Ln {k:Nat} {q:Rat} (h:Sz k q) (hk:k≤4000):L q.num:=L.of h.n hk
theorem Sz.Ld {k:Nat} {q:Rat} (h:Sz k q) (hk:k≤4000):L (q.den:Int):=L.of h.d hk
end VI.VP
end
section
namespace VI.VP
open PySem
section
variable {C:Cn} {δ:Env} {a b c e es o i r:E} {x y z d:D} {xs:List D}
noncomputable def bin1 (op:Operator):R D→R D→R D
 | .ok x,.ok y=>binD op x y
 | .ok _,r=>r
 | r,_=>r
noncomputable def neg1:R D→R D
 | .ok (.int i)=>.ok (.int (-i))
 | .exc c=>.exc c
 | _=>.bad
noncomputable def not1:R Bool→R D
 | .ok b=>.ok (.bool (!b))
 | .exc c=>.exc c
 | .bad=>.bad
noncomputable def tr1:R D→R Bool
 | .ok d=>truth d
 | .exc c=>.exc c
 | .bad=>.bad
noncomputable def and1 (C:Cn) (b:E) (δ:Env):R D→R D
 | .ok (.bool true)=>ev C b δ
 | .ok (.bool false)=>.ok (.bool false)
 | .exc c=>.exc c
 | _=>.bad
noncomputable def or1 (C:Cn) (b:E) (δ:Env):R D→R D
 | .ok (.bool true)=>.ok (.bool true)
 | .ok (.bool false)=>ev C b δ
 | .exc c=>.exc c
 | _=>.bad
noncomputable def cmp1 (op:CmpOp):R D→R D→R D
 | .ok x,.ok y=>cmpD op x y
 | .ok _,r=>r
 | r,_=>r
noncomputable def isN1 (n:Bool):R D→R D
 | .ok x=>.ok (.bool (if n=true then !isNone x else isNone x))
 | r=>r
noncomputable def isB1 (b:Bool):R D→R D
 | .ok (.bool c)=>.ok (.bool (c==b))
 | .exc c=>.exc c
 | _=>.bad
noncomputable def ife1 (C:Cn) (a b:E) (δ:Env):R Bool→R D
 | .ok true=>ev C a δ
 | .ok false=>ev C b δ
 | .exc c=>.exc c
 | .bad=>.bad
noncomputable def tup1:R (List D)→R D
 | .ok xs=>.ok (.tuple xs)
 | .exc c=>.exc c
 | .bad=>.bad
noncomputable def lst1:R (List D)→R D
 | .ok xs=>.ok (.list xs)
 | .exc c=>.exc c
 | .bad=>.bad
noncomputable def idx1:R D→R D→R D
 | .ok x,.ok y=>idxD x y
 | .ok _,r=>r
 | r,_=>r
noncomputable def JGT (C:Cn) (f:Nat):R (List D)→R D
 | .ok xs=>C.fn f xs
 | .exc c=>.exc c
 | .bad=>.bad
noncomputable def blt1 (b:Blt):R (List D)→R D
 | .ok xs=>bltD b xs
 | .exc c=>.exc c
 | .bad=>.bad
noncomputable def isi1 (C:Cn) (t:Ty):R D→R D
 | .ok x=>isiD C.sub x t
 | r=>r
noncomputable def JKd:R D→R D→R D
 | .ok (.list xs),.ok y=>JDG (.list xs) y
 | .ok (.list _),r=>r
 | .exc c,_=>.exc c
 | _,_=>.bad
noncomputable def JKR:R D→R D→R D
 | .ok (.list xs),.ok y=>JC6 (.list xs) y
 | .ok (.list _),r=>r
 | .exc c,_=>.exc c
 | _,_=>.bad
noncomputable def get1:R D→R D→R D→R D
 | .ok x,r1,r2=>if JPY x=true then (r1.bind fun y=>r2.bind fun z=>JKt x y z) else .bad
 | .exc c,_,_=>.exc c
 | _,_,_=>.bad
noncomputable def JIk:R D→R (List D)→R (List D)
 | .ok x,.ok xs=>.ok (x::xs)
 | .ok _,r=>r
 | .exc c,_=>.exc c
 | .bad,_=>.bad
noncomputable def JEo (C:Cn) (k:Nat) (elt cond:E) (δ:Env) (x:D):R (Option D):=(push k x δ).bind fun δ1=>(evT C cond δ1).bind fun t=>if t=true then (ev C elt δ1).bind fun y=>.ok (some y) else .ok none
noncomputable def JCJ (C:Cn) (k:Nat) (elt cond:E) (δ:Env):R (List D)→R D
 | .ok xs=>if xs.length≤16777216 then (JAr (JEo C k elt cond δ) xs).bind fun ys=>.ok (.list ys) else .bad
 | .exc c=>.exc c
 | .bad=>.bad
noncomputable def its1:R D→R (List D)
 | .ok d=>JAk d
 | .exc c=>.exc c
 | .bad=>.bad
noncomputable def rng1:R (List D)→R (List D)
 | .ok d=>rngD d
 | r=>r
theorem JCm (r:R D):r.bind truth=tr1 r:=by cases r<;>rfl
theorem JBv (r:R D):r.bind JAk=its1 r:=by cases r<;>rfl
theorem v_var {j:Nat}:ev C (.var j) δ=look δ j:=by simp only [ev]
theorem JNr {j:Int}:ev C (.cint j) δ=.ok (.int j):=by simp only [ev]
theorem v_bl {j:Bool}:ev C (.cbl j) δ=.ok (.bool j):=by simp only [ev]
theorem JMl:ev C .cnon δ=.ok .none:=by simp only [ev]
theorem JOy {j:Str}:ev C (.cstr j) δ=.ok (.str j):=by simp only [ev]
theorem JNV {j:Nat}:ev C (.glo j) δ=C.glo j:=by simp only [ev]
theorem JOA {op:Operator}:ev C (.bin op a b) δ=bin1 op (ev C a δ) (ev C b δ):=by
 simp only [ev]
 cases ev C a δ<;>cases ev C b δ<;>rfl
theorem JOP:ev C (.neg a) δ=neg1 (ev C a δ):=by
 simp only [ev]
 cases h:ev C a δ with
 | ok d=>cases d<;>rfl
 | exc c=>rfl
 | bad=>rfl
theorem v_not:ev C (.not a) δ=not1 (tr1 (ev C a δ)):=by
 simp only [ev]
 cases h:ev C a δ with
 | ok d=>simp only [R.bind,tr1];cases truth d<;>rfl
 | exc c=>rfl
 | bad=>rfl
theorem v_and:ev C (.and a b) δ=and1 C b δ (ev C a δ):=by
 simp only [ev]
 cases h:ev C a δ with
 | ok d =>
  cases d with
  | bool k=>cases k<;>rfl
  | _=>rfl
 | exc c=>rfl
 | bad=>rfl
theorem v_or:ev C (.or a b) δ=or1 C b δ (ev C a δ):=by
 simp only [ev]
 cases h:ev C a δ with
 | ok d =>
  cases d with
  | bool k=>cases k<;>rfl
  | _=>rfl
 | exc c=>rfl
 | bad=>rfl
theorem JPJ {op:CmpOp}:ev C (.cmp op a b) δ=cmp1 op (ev C a δ) (ev C b δ):=by
 simp only [ev]
 cases ev C a δ<;>cases ev C b δ<;>rfl
theorem JMP {k:Bool}:ev C (.isN a k) δ=isN1 k (ev C a δ):=by
 simp only [ev]
 cases ev C a δ<;>rfl
theorem JMf {k:Bool}:ev C (.isB a k) δ=isB1 k (ev C a δ):=by
 simp only [ev]
 cases h:ev C a δ with
 | ok d=>cases d<;>rfl
 | exc c=>rfl
 | bad=>rfl
theorem JMa:ev C (.ife c a b) δ=ife1 C a b δ (evT C c δ):=by
 simp only [ev]
 cases h:evT C c δ with
 | ok k=>cases k<;>rfl
 | exc c=>rfl
 | bad=>rfl
theorem JN8:ev C (.tup es) δ=tup1 (evA C es δ):=by simp only [ev];cases evA C es δ<;>rfl
theorem JNF:ev C (.lst es) δ=lst1 (evA C es δ):=by simp only [ev];cases evA C es δ<;>rfl
theorem JNA:ev C (.idx a i) δ=idx1 (ev C a δ) (ev C i δ):=by
 simp only [ev]
 cases ev C a δ<;>cases ev C i δ<;>rfl
theorem JKh {f:Nat}:ev C (.call f es) δ=JGT C f (evA C es δ):=by simp only [ev];cases evA C es δ<;>rfl
theorem JOO {f:Blt}:ev C (.blt f es) δ=blt1 f (evA C es δ):=by simp only [ev];cases evA C es δ<;>rfl
theorem JPB {t:Ty}:ev C (.isi a t) δ=isi1 C t (ev C a δ):=by simp only [ev];cases ev C a δ<;>rfl
theorem v_count:ev C (.mcount o a) δ=JKd (ev C o δ) (ev C a δ):=by
 simp only [ev]
 cases ev C o δ with
 | ok d=>cases d<;>cases ev C a δ<;>rfl
 | exc c=>rfl
 | bad=>rfl
theorem JHU:ev C (.mindex o a) δ=JKR (ev C o δ) (ev C a δ):=by
 simp only [ev]
 cases ev C o δ with
 | ok d=>cases d<;>cases ev C a δ<;>rfl
 | exc c=>rfl
 | bad=>rfl
theorem v_get:ev C (.mget o a b) δ=get1 (ev C o δ) (ev C a δ) (ev C b δ):=by
 simp only [ev]
 cases ev C o δ with
 | ok d=>rfl
 | exc c=>rfl
 | bad=>rfl
theorem JJk {k:Nat}:ev C (.cmpr k e i c) δ=JCJ C k e c δ (evI C i δ):=by
 simp only [ev]
 cases evI C i δ<;>rfl
noncomputable def dct1 (ks:List Str):R (List D)→R D
 | .ok xs=>.ok (.dict ((ks.map PyData.str).zip xs))
 | .exc c=>.exc c
 | .bad=>.bad
noncomputable def rep1 (k:Nat):R (List D)→R D
 | .ok xs=>.ok (.list (List.replicate k xs).flatten)
 | .exc c=>.exc c
 | .bad=>.bad
theorem JOq {ks:List Str}:ev C (.dct ks es) δ=dct1 ks (evA C es δ):=by simp only [ev];cases evA C es δ<;>rfl
theorem JMz {k:Nat}:ev C (.rep k es) δ=rep1 k (evA C es δ):=by simp only [ev];cases evA C es δ<;>rfl
noncomputable def fn11 (o:O1):R D→R D
 | .ok x=>op1D o x
 | r=>r
noncomputable def JLq (b:Bool):R D→R D
 | .ok (.bool c)=>.ok (.bool (!(c==b)))
 | .exc c=>.exc c
 | _=>.bad
theorem JN7 {o1:O1}:ev C (.fn1 o1 a) δ=fn11 o1 (ev C a δ):=by simp only [ev];cases ev C a δ<;>rfl
theorem JKJ {k:Bool}:ev C (.isnB a k) δ=JLq k (ev C a δ):=by
 simp only [ev]
 cases h:ev C a δ with
 | ok d=>cases d<;>rfl
 | exc c=>rfl
 | bad=>rfl
theorem JFG {k:Bool}:evT C (.isnB a k) δ=tr1 (JLq k (ev C a δ)):=by
 simp only [evT]
 cases h:ev C a δ with
 | ok d=>cases d<;>rfl
 | exc c=>rfl
 | bad=>rfl
noncomputable def xop1 (k:XO):R (List D)→R D
 | .ok xs=>xD k xs
 | .exc c=>.exc c
 | .bad=>.bad
theorem JNm {k:XO}:ev C (.xop k es) δ=xop1 k (evA C es δ):=by simp only [ev];cases evA C es δ<;>rfl
theorem JNn {k:XO}:evI C (.xop k es) δ=its1 (xop1 k (evA C es δ)):=by simp only [evI,JBv];cases evA C es δ<;>rfl
theorem JPK {o1:O1}:evI C (.fn1 o1 a) δ=its1 (fn11 o1 (ev C a δ)):=by simp only [evI,JBv];cases ev C a δ<;>rfl
theorem JOG {op:Operator}:evI C (.bin op a b) δ=its1 (bin1 op (ev C a δ) (ev C b δ)):=by
 simp only [evI,JBv]
 cases ev C a δ<;>cases ev C b δ<;>rfl
theorem JKW:evA C .nil δ=.ok []:=by simp only [evA]
theorem JGr:evA C (.cons a r) δ=JIk (ev C a δ) (evA C r δ):=by
 simp only [evA]
 cases ev C a δ<;>cases evA C r δ<;>rfl
theorem JH5:evT C (.not a) δ=tr1 (not1 (evT C a δ)):=by
 simp only [evT]
 cases evT C a δ<;>rfl
noncomputable def andT (C:Cn) (b:E) (δ:Env):R Bool→R Bool
 | .ok true=>evT C b δ
 | r=>r
noncomputable def orT (C:Cn) (b:E) (δ:Env):R Bool→R Bool
 | .ok false=>evT C b δ
 | r=>r
theorem JOJ:evT C (.and a b) δ=andT C b δ (evT C a δ):=by
 simp only [evT]
 cases h:evT C a δ with
 | ok k=>cases k<;>rfl
 | exc c=>rfl
 | bad=>rfl
theorem t_or:evT C (.or a b) δ=orT C b δ (evT C a δ):=by
 simp only [evT]
 cases h:evT C a δ with
 | ok k=>cases k<;>rfl
 | exc c=>rfl
 | bad=>rfl
theorem JOi {j:Nat}:evT C (.var j) δ=tr1 (look δ j):=by simp only [evT];cases look δ j<;>rfl
theorem t_bl {j:Bool}:evT C (.cbl j) δ=.ok j:=by simp only [evT]
theorem JPT {op:CmpOp}:evT C (.cmp op a b) δ=tr1 (cmp1 op (ev C a δ) (ev C b δ)):=by
 simp only [evT,JCm]
 cases ev C a δ<;>cases ev C b δ<;>rfl
theorem JIm {k:Bool}:evT C (.isN a k) δ=tr1 (isN1 k (ev C a δ)):=by simp only [evT];cases ev C a δ<;>rfl
theorem JIB {k:Bool}:evT C (.isB a k) δ=tr1 (isB1 k (ev C a δ)):=by
 simp only [evT]
 cases h:ev C a δ with
 | ok d=>cases d<;>rfl
 | exc c=>rfl
 | bad=>rfl
theorem JPe:evT C (.idx a i) δ=tr1 (idx1 (ev C a δ) (ev C i δ)):=by
 simp only [evT,JCm]
 cases ev C a δ<;>cases ev C i δ<;>rfl
theorem JJU {f:Nat}:evT C (.call f es) δ=tr1 (JGT C f (evA C es δ)):=by simp only [evT,JCm];cases evA C es δ<;>rfl
theorem JND {f:Blt}:evT C (.blt f es) δ=tr1 (blt1 f (evA C es δ)):=by simp only [evT,JCm];cases evA C es δ<;>rfl
theorem JOU {t:Ty}:evT C (.isi a t) δ=tr1 (isi1 C t (ev C a δ)):=by simp only [evT,JCm];cases ev C a δ<;>rfl
theorem JOR:evI C (.rng es) δ=rng1 (evA C es δ):=by simp only [evI];cases evA C es δ<;>rfl
theorem JPW {j:Nat}:evI C (.var j) δ=its1 (look δ j):=by simp only [evI];cases look δ j<;>rfl
theorem JOK {j:Nat}:evI C (.glo j) δ=its1 (C.glo j):=by simp only [evI];cases C.glo j<;>rfl
theorem l_idx:evI C (.idx a i) δ=its1 (idx1 (ev C a δ) (ev C i δ)):=by
 simp only [evI,JBv]
 cases ev C a δ<;>cases ev C i δ<;>rfl
theorem JJm {f:Nat}:evI C (.call f es) δ=its1 (JGT C f (evA C es δ)):=by simp only [evI,JBv];cases evA C es δ<;>rfl
theorem JOV:evI C (.tup es) δ=evA C es δ:=by simp only [evI]
theorem JM8:evI C (.lst es) δ=evA C es δ:=by simp only [evI]
noncomputable def seq1 (C:Cn) (r:S):Fl→Fl
 | .nx δ=>exec C r δ
 | f=>f
noncomputable def asg1 (i:Nat) (e:E) (δ:Env):R D→Fl
 | .ok x=>if e.fresh=true then .nx ((after e x δ).set i (.own x)) else .nx ((after e x δ).set i (.val x))
 | .exc c=>.ex c
 | .bad=>.bad
noncomputable def unp2 (is:List Nat) (δ:Env):R (List D)→Fl
 | .ok xs=>.nx (JCG is xs δ)
 | .exc c=>.ex c
 | .bad=>.bad
noncomputable def unp1 (is:List Nat) (e:E) (δ:Env):R D→Fl
 | .ok d=>unp2 is (after e d δ) (JA2 is.length d)
 | .exc c=>.ex c
 | .bad=>.bad
noncomputable def ret1:R D→Fl
 | .ok d=>.rt d
 | .exc c=>.ex c
 | .bad=>.bad
noncomputable def ifs1 (C:Cn) (a b:S) (δ:Env):R Bool→Fl
 | .ok true=>exec C a δ
 | .ok false=>exec C b δ
 | .exc c=>.ex c
 | .bad=>.bad
noncomputable def app1 (i:Nat) (e:E) (δ:Env) (r:R D):Option Sl→Fl
 | some (.own (.list ds))=>(match r with
  | .ok x=>JAu i ds e x δ
  | .exc c=>.ex c
  | .bad=>.bad)
 | _=>.bad
noncomputable def ext1 (i:Nat) (e:E) (δ:Env) (r:R D):Option Sl→Fl
 | some (.own (.list ds))=>(match r with
  | .ok x=>JER i ds e x δ
  | .exc c=>.ex c
  | .bad=>.bad)
 | _=>.bad
noncomputable def JLd (e:E) (δ:Env):R D→Fl
 | .ok x=>.nx (after e x δ)
 | .exc c=>.ex c
 | .bad=>.bad
noncomputable def for2 (C:Cn) (i:Nat) (b:S):List D→Env→Fl:=forL (put1 i) (exec C b)
noncomputable def for1 (C:Cn) (i:Nat) (e:E) (b:S) (δ:Env):R (List D)→Fl
 | .ok xs=>for2 C i b xs (JAv e 0 δ)
 | .exc c=>.ex c
 | .bad=>.bad
noncomputable def whl1 (C:Cn) (c:E) (b:S) (δ:Env):Fl:=JBa (evT C c) (exec C b) δ
noncomputable def try1 (C:Cn) (c i:Nat) (h:S) (δ:Env):Fl→Fl
 | .ex k=>if C.sub k c=true then (match exec C h ((δ.map fun _=>Sl.no).set i (.val (excD k))) with
  | .nx δ2=>.nx (δ2.set i .no)
  | .rt d=>.rt d
  | _=>.bad) else .bad
 | f=>f
variable {s t h:S} {j k:Nat}
theorem JO9:exec C .nil δ=.nx δ:=by simp only [exec]
theorem JJq:exec C (.cons s t) δ=seq1 C t (exec C s δ):=by simp only [exec];cases exec C s δ<;>rfl
theorem JKc:exec C .pass δ=.nx δ:=by simp only [exec]
theorem JMT:exec C .brk δ=.bk δ:=by simp only [exec]
theorem JOW:exec C .cnt δ=.ct δ:=by simp only [exec]
theorem JMX:exec C (.asg j e) δ=asg1 j e δ (ev C e δ):=by simp only [exec];cases ev C e δ<;>rfl
theorem JPb {is:List Nat}:exec C (.unp is e) δ=unp1 is e δ (ev C e δ):=by
 simp only [exec]
 cases ev C e δ with
 | ok d=>simp only [stepR,unp1];cases JA2 is.length d<;>rfl
 | exc c=>rfl
 | bad=>rfl
theorem JMt:exec C (.ret e) δ=ret1 (ev C e δ):=by simp only [exec];cases ev C e δ<;>rfl
theorem JJi:exec C .retN δ=.rt .none:=by simp only [exec]
theorem JOo:exec C (.ife c s t) δ=ifs1 C s t δ (evT C c δ):=by
 simp only [exec]
 cases h:evT C c δ with
 | ok k=>cases k<;>rfl
 | exc c=>rfl
 | bad=>rfl
theorem JM9:exec C (.app j e) δ=app1 j e δ (ev C e δ) δ[j]?:=by
 simp only [exec]
 cases h:δ[j]? with
 | none=>rfl
 | some u =>
  cases u with
  | own d =>
   cases d with
   | list ds=>simp only [app1];cases ev C e δ<;>rfl
   | _=>rfl
  | _=>rfl
theorem JMr:exec C (.ext j e) δ=ext1 j e δ (ev C e δ) δ[j]?:=by
 simp only [exec]
 cases h:δ[j]? with
 | none=>rfl
 | some u =>
  cases u with
  | own d =>
   cases d with
   | list ds=>simp only [ext1];cases ev C e δ<;>rfl
   | _=>rfl
  | _=>rfl
theorem JJB:exec C (.drop e) δ=JLd e δ (ev C e δ):=by simp only [exec];cases ev C e δ<;>rfl
theorem JKZ:exec C (.for1 j e s) δ=for1 C j e s δ (evI C e δ):=by simp only [exec];cases evI C e δ<;>rfl
theorem JNq:exec C (.whl c s) δ=whl1 C c s δ:=by simp only [exec];rfl
theorem JKD:exec C (.rais k) δ=.ex k:=by simp only [exec]
theorem JKX:exec C (.tryx s k j h) δ=try1 C k j h δ (exec C s δ):=by simp only [exec];cases exec C s δ<;>rfl
noncomputable def forN (C:Cn) (i:Nat) (b:S) (ds:List D):Fl→Fl
 | .nx δ'=>for2 C i b ds δ'
 | .ct δ'=>for2 C i b ds δ'
 | .bk δ'=>.nx δ'
 | r=>r
theorem JF0:for2 C j s [] δ=.nx δ:=rfl
theorem JBu:for2 C j s (d::xs) δ=forN C j s xs (exec C s (δ.set j (.val d))):=by
 unfold for2 forL
 simp only [put1]
 cases exec C s (δ.set j (.val d))<;>rfl
noncomputable def pushc:R (Option D)→R (List D)→R (List D)
 | .ok (some y),.ok ys=>.ok (y::ys)
 | .ok none,r=>r
 | _,_=>.bad
noncomputable def mkl:R (List D)→R D
 | .ok ys=>.ok (.list ys)
 | .exc c=>.exc c
 | .bad=>.bad
theorem JBX {k:Nat} (hl:xs.length≤16777216):JCJ C k e c δ (.ok xs)=mkl (JAr (JEo C k e c δ) xs):=by
 simp only [JCJ,if_pos hl]
 cases JAr (JEo C k e c δ) xs<;>rfl
theorem JNY {f:D→R (Option D)}:JAr f []=.ok []:=rfl
theorem JMI {f:D→R (Option D)} (hf:∀c,f d≠.exc c):JAr f (d::xs)=pushc (f d) (JAr f xs):=by
 conv=>lhs;unfold JAr
 cases h:f d with
 | ok o =>
  cases o with
  | none=>rfl
  | some y =>
   simp only
   cases JAr f xs<;>rfl
 | exc c=>exact absurd h (hf c)
 | bad=>cases JAr f xs<;>rfl
theorem JCs {f:D→R (Option D)} {g:D→D}:∀ {xs:List D},(∀x∈xs,f x=.ok (some (g x)))→JAr f xs=.ok (xs.map g)
 | [],_=>rfl
 | x::xs,h=>by
  unfold JAr
  rw [h x (by simp),JCs fun y hy=>h y (by simp [hy])]
  rfl
theorem JDw {f:D→R (Option D)} {p:D→Bool} {g:D→D}:∀ {xs:List D},(∀x∈xs,f x=.ok (if p x=true then some (g x) else none))→JAr f xs=.ok ((xs.filter p).map g)
 | [],_=>rfl
 | x::xs,h=>by
  unfold JAr
  rw [h x (by simp)]
  have ih:=JDw (xs:=xs) fun y hy=>h y (by simp [hy])
  cases hp:p x
  ·simp only [Bool.false_eq_true,if_false]
   rw [ih,List.filter_cons_of_neg (by simp [hp])]
  ·simp only [if_true]
   rw [ih,List.filter_cons_of_pos hp]
   rfl
noncomputable def opt1 (b:Bool):R D→R (Option D)
 | .ok y=>.ok (some y)
 | .exc c=>.exc c
 | .bad=>.bad
noncomputable def JFg (C:Cn) (e:E) (δ:Env):R Bool→R (Option D)
 | .ok true=>opt1 true (ev C e δ)
 | .ok false=>.ok none
 | .exc c=>.exc c
 | .bad=>.bad
theorem JBU:JEo C 0 e c δ x=JFg C e (.val x::δ) (evT C c (.val x::δ)):=by
 unfold JEo
 simp only [push,R.bind]
 cases h:evT C c (.val x::δ) with
 | ok k =>
  cases k
  ·rfl
  ·simp only [if_true,JFg]
   cases ev C e (.val x::δ)<;>rfl
 | exc c=>rfl
 | bad=>rfl
theorem item_eqT {n:Nat} {ys:List D} (h:ys.length=n+1):JEo C (n+1) e c δ (.tuple ys)=JFg C e (ys.map Sl.val++δ) (evT C c (ys.map Sl.val++δ)):=by
 have hp:push (n+1) (.tuple ys) δ=.ok (ys.map Sl.val++δ):=by unfold push;simp only [h,if_true]
 unfold JEo
 rw [hp]
 generalize ys.map Sl.val++δ=δ1
 simp only [R.bind]
 cases h:evT C c δ1 with
 | ok k =>
  cases k
  ·rfl
  ·simp only [if_true,JFg]
   cases ev C e δ1<;>rfl
 | exc c=>rfl
 | bad=>rfl
end
theorem JJv {i:Nat} {e:E} {δ:Env} {d:D}:asg1 i e δ (.ok d)=.nx ((after e d δ).set i (if e.fresh=true then .own d else .val d)):=by
 simp only [asg1]
 split<;>rfl
theorem JEG (s:Sl) (δ:Env):(s::δ)[0]? = some s:=rfl
theorem JEA (s:Sl) (δ:Env) (i:Nat):(s::δ)[i+1]? = δ[i]?:=rfl
theorem JGH (b:Bool):tr1 (.ok (.bool b))=.ok b:=rfl
theorem if_tt {α:Sort _} (a b:α):(if true=true then a else b)=a:=rfl
theorem if_ff {α:Sort _} (a b:α):(if false=true then a else b)=b:=rfl
theorem JMy {op:Operator} {x y:D}:bin1 op (.ok x) (.ok y)=binD op x y:=rfl
theorem JNz {i:Int}:neg1 (.ok (.int i))=.ok (.int (-i)):=rfl
theorem JNa {b:Bool}:not1 (.ok b)=.ok (.bool (!b)):=rfl
theorem JKP {C:Cn} {b:E} {δ:Env}:and1 C b δ (.ok (.bool true))=ev C b δ:=rfl
theorem JJg {C:Cn} {b:E} {δ:Env}:and1 C b δ (.ok (.bool false))=.ok (.bool false):=rfl
theorem JNb {C:Cn} {b:E} {δ:Env}:or1 C b δ (.ok (.bool true))=.ok (.bool true):=rfl
theorem JNg {C:Cn} {b:E} {δ:Env}:or1 C b δ (.ok (.bool false))=ev C b δ:=rfl
theorem JNv {op:CmpOp} {x y:D}:cmp1 op (.ok x) (.ok y)=cmpD op x y:=rfl
theorem JO5 {n:Bool} {x:D}:isN1 n (.ok x)=.ok (.bool (if n=true then !isNone x else isNone x)):=rfl
theorem JMp {b c:Bool}:isB1 b (.ok (.bool c))=.ok (.bool (c==b)):=rfl
theorem JJE {C:Cn} {a b:E} {δ:Env}:ife1 C a b δ (.ok true)=ev C a δ:=rfl
theorem JKG {C:Cn} {a b:E} {δ:Env}:ife1 C a b δ (.ok false)=ev C b δ:=rfl
theorem JNt {xs:List D}:tup1 (.ok xs)=.ok (.tuple xs):=rfl
theorem JNy {ks:List Str} {xs:List D}:dct1 ks (.ok xs)=.ok (.dict ((ks.map PyData.str).zip xs)):=rfl
theorem JOn {k:Nat} {xs:List D}:rep1 k (.ok xs)=.ok (.list (List.replicate k xs).flatten):=rfl
theorem JNc {o:O1} {x:D}:fn11 o (.ok x)=op1D o x:=rfl
theorem JOF {k:XO} {xs:List D}:xop1 k (.ok xs)=xD k xs:=rfl
theorem k_rev {xs:List D}:xD .rev [.list xs]=.ok (.list xs.reverse):=rfl
theorem us_xop {k:XO} {es:E} {j:Nat}:(E.xop k es).uses j=es.uses j:=rfl
theorem JKV {b c:Bool}:JLq b (.ok (.bool c))=.ok (.bool (!(c==b))):=rfl
theorem JNP {lo hi:Option Int} {xs:List D}:op1D (.slice lo hi) (.tuple xs)=.ok (.tuple (cutD xs lo hi)):=rfl
theorem JOz {lo hi:Option Int} {xs:List D}:op1D (.slice lo hi) (.list xs)=.ok (.list (cutD xs lo hi)):=rfl
theorem k_tt {xs:List D}:op1D .toTup (.tuple xs)=.ok (.tuple xs):=rfl
theorem k_tl {xs:List D}:op1D .toTup (.list xs)=.ok (.tuple xs):=rfl
theorem k_lt {xs:List D}:op1D .toLst (.tuple xs)=.ok (.list xs):=rfl
theorem k_ll {xs:List D}:op1D .toLst (.list xs)=.ok (.list xs):=rfl
theorem JHd {e:E} {δ:Env} {c:Nat}:JLd e δ (.exc c)=.ex c:=rfl
theorem JMM {xs:List D}:lst1 (.ok xs)=.ok (.list xs):=rfl
theorem JMW {x y:D}:idx1 (.ok x) (.ok y)=idxD x y:=rfl
theorem JJK {C:Cn} {f:Nat} {xs:List D}:JGT C f (.ok xs)=C.fn f xs:=rfl
theorem JPO {b:Blt} {xs:List D}:blt1 b (.ok xs)=bltD b xs:=rfl
theorem JPL {C:Cn} {t:Ty} {x:D}:isi1 C t (.ok x)=isiD C.sub x t:=rfl
theorem JHS {x:List D} {y:D}:JKd (.ok (.list x)) (.ok y)=JDG (.list x) y:=rfl
theorem JHA {x:List D} {y:D}:JKR (.ok (.list x)) (.ok y)=JC6 (.list x) y:=rfl
theorem JMY {k:Str} {v:D} {x:List (D×D)} {y z:D}:get1 (.ok (.dict ((.str k,v)::x))) (.ok y) (.ok z)=JKt (.dict ((.str k,v)::x)) y z:=rfl
theorem JKg {x:D} {xs:List D}:JIk (.ok x) (.ok xs)=.ok (x::xs):=rfl
theorem JHI {C:Cn} {b:E} {δ:Env}:andT C b δ (.ok true)=evT C b δ:=rfl
theorem JGd {C:Cn} {b:E} {δ:Env}:andT C b δ (.ok false)=.ok false:=rfl
theorem JJ1 {C:Cn} {b:E} {δ:Env}:orT C b δ (.ok true)=.ok true:=rfl
theorem JJ3 {C:Cn} {b:E} {δ:Env}:orT C b δ (.ok false)=evT C b δ:=rfl
theorem JNJ {d:D}:its1 (.ok d)=JAk d:=rfl
theorem JPf {d:List D}:rng1 (.ok d)=rngD d:=rfl
theorem JOT {C:Cn} {r:S} {δ:Env}:seq1 C r (.nx δ)=exec C r δ:=rfl
theorem JJS {C:Cn} {r:S} {d:D}:seq1 C r (.rt d)=.rt d:=rfl
theorem JJZ {C:Cn} {r:S} {c:Nat}:seq1 C r (.ex c)=.ex c:=rfl
theorem JJX {C:Cn} {r:S} {δ:Env}:seq1 C r (.bk δ)=.bk δ:=rfl
theorem JKj {C:Cn} {r:S} {δ:Env}:seq1 C r (.ct δ)=.ct δ:=rfl
theorem JJN {i:Nat} {e:E} {δ:Env} {c:Nat}:asg1 i e δ (.exc c)=.ex c:=rfl
theorem JPa {is:List Nat} {e:E} {δ:Env} {d:D}:unp1 is e δ (.ok d)=unp2 is (after e d δ) (JA2 is.length d):=rfl
theorem JKC {is:List Nat} {δ:Env} {xs:List D}:unp2 is δ (.ok xs)=.nx (JCG is xs δ):=rfl
theorem JM7 {d:D}:ret1 (.ok d)=.rt d:=rfl
theorem JJG {c:Nat}:ret1 (.exc c)=.ex c:=rfl
theorem JKH {C:Cn} {a b:S} {δ:Env}:ifs1 C a b δ (.ok true)=exec C a δ:=rfl
theorem JKL {C:Cn} {a b:S} {δ:Env}:ifs1 C a b δ (.ok false)=exec C b δ:=rfl
theorem JJJ {C:Cn} {a b:S} {δ:Env} {c:Nat}:ifs1 C a b δ (.exc c)=.ex c:=rfl
theorem JO3 {i:Nat} {e:E} {δ:Env} {x:D} {ds:List D}:app1 i e δ (.ok x) (some (.own (.list ds)))=JAu i ds e x δ:=rfl
theorem JOL {i:Nat} {e:E} {δ:Env} {x:D} {ds:List D}:ext1 i e δ (.ok x) (some (.own (.list ds)))=JER i ds e x δ:=rfl
theorem JJf {e:E} {δ:Env} {x:D}:JLd e δ (.ok x)=.nx (after e x δ):=rfl
theorem JNU {C:Cn} {i:Nat} {e:E} {b:S} {δ:Env} {xs:List D}:for1 C i e b δ (.ok xs)=for2 C i b xs (JAv e 0 δ):=rfl
theorem JFW {C:Cn} {i:Nat} {b:S} {ds:List D} {δ:Env}:forN C i b ds (.nx δ)=for2 C i b ds δ:=rfl
theorem JKK {C:Cn} {i:Nat} {b:S} {ds:List D} {δ:Env}:forN C i b ds (.ct δ)=for2 C i b ds δ:=rfl
theorem JKf {C:Cn} {i:Nat} {b:S} {ds:List D} {δ:Env}:forN C i b ds (.bk δ)=.nx δ:=rfl
theorem JJH {C:Cn} {i:Nat} {b:S} {ds:List D} {d:D}:forN C i b ds (.rt d)=.rt d:=rfl
theorem JJI {C:Cn} {i:Nat} {b:S} {ds:List D} {c:Nat}:forN C i b ds (.ex c)=.ex c:=rfl
theorem JJO {x:Bool} {δ:Env}:JID x (.nx δ)=.ok .none:=rfl
theorem JJW {x:Bool} {d:D}:JID x (.rt d)=.ok d:=rfl
theorem JKQ {c:Nat}:JID true (.ex c)=.exc c:=rfl
theorem JKY {C:Cn} {c i:Nat} {h:S} {δ δ':Env}:try1 C c i h δ (.nx δ')=.nx δ':=rfl
theorem JKa {C:Cn} {c i:Nat} {h:S} {δ:Env} {d:D}:try1 C c i h δ (.rt d)=.rt d:=rfl
theorem JJQ {C:Cn} {e:E} {δ:Env}:JFg C e δ (.ok true)=opt1 true (ev C e δ):=rfl
theorem JGE {C:Cn} {e:E} {δ:Env}:JFg C e δ (.ok false)=.ok none:=rfl
theorem JNi {b:Bool} {y:D}:opt1 b (.ok y)=.ok (some y):=rfl
theorem JGL {C:Cn} {f c:Nat}:JGT C f (.exc c)=.exc c:=rfl
theorem JG3 {c:Nat} {r:R (List D)}:JIk (.exc c) r=.exc c:=rfl
theorem JFF {x:D} {c:Nat}:JIk (.ok x) (.exc c)=.exc c:=rfl
theorem JOs {xs:List D}:bltD .len [.list xs]=.ok (.int xs.length):=rfl
theorem JKN {xs:List D}:bltD .len [.tuple xs]=.ok (.int xs.length):=rfl
theorem JPc {i:Int}:bltD .abs [.int i]=.ok (.int (if i<0 then -i else i)):=rfl
theorem JO0 {xs:List D}:bltD .min [.list xs]=minD xs:=rfl
theorem JHh {i j:Nat}:(E.var i).uses j=(i==j):=rfl
theorem JHV {j:Nat}:E.nil.uses j=false:=rfl
theorem JEV {a r:E} {j:Nat}:(E.cons a r).uses j=(a.uses j || r.uses j):=rfl
theorem JOM {a:E} {j:Nat}:(E.lst a).uses j=a.uses j:=rfl
theorem JPX {a:E} {j:Nat}:(E.tup a).uses j=a.uses j:=rfl
theorem JMx {a:E} {t:Ty} {j:Nat}:(E.isi a t).uses j=a.uses j:=rfl
theorem JKr {a:E} {f:Nat} {j:Nat}:(E.call f a).uses j=a.uses j:=rfl
theorem JGk {a:E} {f:Blt} {j:Nat}:(E.blt f a).uses j=a.uses j:=rfl
theorem JM2 {a b:E} {j:Nat}:(E.idx a b).uses j=(a.uses j || b.uses j):=rfl
theorem JPF {a b:E} {o:Operator} {j:Nat}:(E.bin o a b).uses j=(a.uses j || b.uses j):=rfl
theorem JLP {k:Nat} {a b c:E} {j:Nat}:(E.cmpr k a b c).uses j=(b.uses j || a.uses (j+(if k=0 then 1 else k)) || c.uses (j+(if k=0 then 1 else k))):=rfl
theorem us_fn1 {o:O1} {a:E} {j:Nat}:(E.fn1 o a).uses j=a.uses j:=rfl
theorem us_isnB {a:E} {b:Bool} {j:Nat}:(E.isnB a b).uses j=a.uses j:=rfl
theorem JGX {i:Int} {j:Nat}:(E.cint i).uses j=false:=rfl
theorem us_bl {i:Bool} {j:Nat}:(E.cbl i).uses j=false:=rfl
theorem JOY {i:Str} {j:Nat}:(E.cstr i).uses j=false:=rfl
end VI.VP
end
local macro_rules | `(tactic| dsimp! [$ts,*])=>`(tactic| simp only [VI.VP.v_var,VI.VP.JNr,VI.VP.v_bl,VI.VP.JMl,VI.VP.JOy,VI.VP.JNV,VI.VP.JOA,VI.VP.JOP,VI.VP.v_not,VI.VP.v_and,VI.VP.v_or,VI.VP.JPJ,VI.VP.JMP,VI.VP.JMf,VI.VP.JMa,VI.VP.JN8,VI.VP.JNF,VI.VP.JNA,VI.VP.JKh,VI.VP.JOO,VI.VP.JPB,
 VI.VP.v_count,VI.VP.JHU,VI.VP.v_get,VI.VP.JJk,VI.VP.JOq,VI.VP.JMz,VI.VP.JN7,VI.VP.JNm,VI.VP.JNn,VI.VP.JOF,VI.VP.JKJ,VI.VP.JFG,VI.VP.JPK,VI.VP.JOG,VI.VP.JNc,VI.VP.JKV,VI.VP.JNP,VI.VP.JOz,VI.VP.k_tt,VI.VP.k_tl,VI.VP.k_lt,VI.VP.k_ll,VI.VP.JKW,VI.VP.JGr,VI.VP.JH5,VI.VP.JOJ,VI.VP.t_or,VI.VP.JOi,VI.VP.t_bl,VI.VP.JPT,VI.VP.JIm,VI.VP.JIB,VI.VP.JPe,VI.VP.JJU,VI.VP.JND,VI.VP.JOU,VI.VP.JOR,VI.VP.JPW,VI.VP.JOK,VI.VP.l_idx,VI.VP.JJm,VI.VP.JOV,VI.VP.JM8,
 VI.VP.JO9,VI.VP.JJq,VI.VP.JKc,VI.VP.JMT,VI.VP.JOW,VI.VP.JMX,VI.VP.JPb,VI.VP.JMt,VI.VP.JJi,VI.VP.JOo,VI.VP.JM9,VI.VP.JMr,VI.VP.JJB,VI.VP.JKZ,VI.VP.JNq,VI.VP.JKD,VI.VP.JKX,
 VI.VP.JGH,VI.VP.JJv,VI.VP.JMy,VI.VP.JNz,VI.VP.JNa,VI.VP.JKP,VI.VP.JJg,VI.VP.JNb,VI.VP.JNg,VI.VP.JNv,VI.VP.JO5,VI.VP.JMp,VI.VP.JJE,VI.VP.JKG,VI.VP.JNt,VI.VP.JMM,VI.VP.JMW,VI.VP.JJK,VI.VP.JPO,VI.VP.JPL,VI.VP.JHS,VI.VP.JHA,VI.VP.JMY,VI.VP.JKg,VI.VP.JHI,VI.VP.JGd,VI.VP.JJ1,VI.VP.JJ3,VI.VP.JNJ,VI.VP.JPf,VI.VP.JOT,VI.VP.JJS,VI.VP.JJZ,VI.VP.JJX,VI.VP.JKj,VI.VP.JJN,VI.VP.JPa,VI.VP.JKC,VI.VP.JM7,VI.VP.JJG,VI.VP.JKH,VI.VP.JKL,VI.VP.JJJ,VI.VP.JO3,VI.VP.JOL,VI.VP.JJf,VI.VP.JNU,VI.VP.JFW,VI.VP.JKK,VI.VP.JKf,VI.VP.JJH,VI.VP.JJI,VI.VP.JJO,VI.VP.JJW,VI.VP.JKQ,VI.VP.JKY,VI.VP.JKa,VI.VP.JJQ,VI.VP.JGE,VI.VP.JNi,VI.VP.JGL,VI.VP.JG3,VI.VP.JFF,VI.VP.JOs,VI.VP.JKN,VI.VP.JPc,VI.VP.JO0,VI.VP.JNy,VI.VP.JOn,VI.VP.JHd,
 VI.VP.look_zero,VI.VP.look_succ,VI.VP.get_val,VI.VP.get_own,VI.VP.JEG,VI.VP.JEA,List.map_cons,List.map_nil,List.cons_append,List.nil_append,
 List.replicate_succ,List.replicate_zero,Nat.reduceSub,List.set_cons_zero,List.set_cons_succ,VI.E.fresh,VI.VP.JEs,VI.VP.JCe,VI.VP.JDE,VI.VP.JCW,Bool.false_and,Bool.false_eq_true,eq_self,if_true,if_false,VI.VP.i_ne,VI.VP.i_eq,VI.VP.i_lt,VI.VP.i_gt,VI.VP.i_le,VI.VP.i_ge,
 VI.VP.F_ne,VI.VP.F_eq,VI.VP.JJj,VI.VP.JJ4,VI.VP.JLE,VI.VP.JNf,$ts,*])
section
namespace VI.VP
noncomputable def b_0:S:=(.cons (.asg 2 (.blt .abs (.cons (.var 0) .nil))) (.cons (.asg 3 (.blt .abs (.cons (.var 1) .nil))) (.cons (.whl (.cmp .NotEq (.var 3) (.cint 0)) (.cons (.asg 4 (.bin .Mod (.var 2) (.var 3))) (.cons (.asg 2 (.var 3)) (.cons (.asg 3 (.var 4)) .nil)))) (.cons (.ret (.var 2)) .nil))))
noncomputable def d_0:Fd:=⟨2,5,b_0⟩
noncomputable def b_1:S:=(.cons (.ife (.cmp .Eq (.var 1) (.cint 0)) (.cons (.rais 1) .nil) .nil) (.cons (.asg 2 (.call 0 (.cons (.var 0) (.cons (.var 1) .nil)))) (.cons (.ife (.cmp .Lt (.var 1) (.cint 0)) (.cons (.asg 2 (.neg (.var 2))) .nil) .nil) (.cons (.ret (.tup (.cons (.bin .FloorDiv (.var 0) (.var 2)) (.cons (.bin .FloorDiv (.var 1) (.var 2)) .nil)))) .nil))))
noncomputable def d_1:Fd:=⟨2,3,b_1⟩
noncomputable def b_2:S:=(.cons (.ret (.tup (.cons (.var 0) (.cons (.cint 1) .nil)))) .nil)
noncomputable def d_2:Fd:=⟨1,1,b_2⟩
noncomputable def b_3:S:=(.cons (.ret (.call 1 (.cons (.bin .Add (.bin .Mult (.idx (.var 0) (.cint 0)) (.idx (.var 1) (.cint 1))) (.bin .Mult (.idx (.var 1) (.cint 0)) (.idx (.var 0) (.cint 1)))) (.cons (.bin .Mult (.idx (.var 0) (.cint 1)) (.idx (.var 1) (.cint 1))) .nil)))) .nil)
noncomputable def d_3:Fd:=⟨2,2,b_3⟩
noncomputable def b_4:S:=(.cons (.ret (.call 1 (.cons (.bin .Sub (.bin .Mult (.idx (.var 0) (.cint 0)) (.idx (.var 1) (.cint 1))) (.bin .Mult (.idx (.var 1) (.cint 0)) (.idx (.var 0) (.cint 1)))) (.cons (.bin .Mult (.idx (.var 0) (.cint 1)) (.idx (.var 1) (.cint 1))) .nil)))) .nil)
noncomputable def d_4:Fd:=⟨2,2,b_4⟩
noncomputable def b_5:S:=(.cons (.ret (.call 1 (.cons (.bin .Mult (.idx (.var 0) (.cint 0)) (.idx (.var 1) (.cint 0))) (.cons (.bin .Mult (.idx (.var 0) (.cint 1)) (.idx (.var 1) (.cint 1))) .nil)))) .nil)
noncomputable def d_5:Fd:=⟨2,2,b_5⟩
noncomputable def b_6:S:=(.cons (.ret (.cmp .Lt (.bin .Mult (.idx (.var 0) (.cint 0)) (.idx (.var 1) (.cint 1))) (.bin .Mult (.idx (.var 1) (.cint 0)) (.idx (.var 0) (.cint 1))))) .nil)
noncomputable def d_6:Fd:=⟨2,2,b_6⟩
noncomputable def b_7:S:=(.cons (.asg 1 (.idx (.var 0) (.cint 0))) (.cons (.for1 2 (.var 0) (.cons (.ife (.call 6 (.cons (.var 2) (.cons (.var 1) .nil))) (.cons (.asg 1 (.var 2)) .nil) .nil) .nil)) (.cons (.ret (.var 1)) .nil)))
noncomputable def d_7:Fd:=⟨1,3,b_7⟩
noncomputable def b_8:S:=(.cons (.asg 1 (.idx (.var 0) (.cint 0))) (.cons (.for1 2 (.var 0) (.cons (.ife (.call 6 (.cons (.var 1) (.cons (.var 2) .nil))) (.cons (.asg 1 (.var 2)) .nil) .nil) .nil)) (.cons (.ret (.var 1)) .nil)))
noncomputable def d_8:Fd:=⟨1,3,b_8⟩
noncomputable def b_9:S:=(.cons (.ret (.bin .FloorDiv (.bin .Add (.bin .Mult (.cint 2) (.idx (.var 0) (.cint 0))) (.idx (.var 0) (.cint 1))) (.bin .Mult (.cint 2) (.idx (.var 0) (.cint 1))))) .nil)
noncomputable def d_9:Fd:=⟨1,1,b_9⟩
noncomputable def b_10:S:=(.cons (.ret (.call 3 (.cons (.var 0) (.cons (.call 5 (.cons (.var 2) (.cons (.call 4 (.cons (.var 1) (.cons (.var 0) .nil))) .nil))) .nil)))) .nil)
noncomputable def d_10:Fd:=⟨3,3,b_10⟩
noncomputable def b_11:S:=(.cons (.ife (.cmp .Lt (.var 1) (.blt .len (.cons (.var 0) .nil))) (.cons (.ret (.idx (.var 0) (.var 1))) .nil) .nil) (.cons (.ife (.cmp .Eq (.var 0) (.lst .nil)) (.cons (.ret (.cint 0)) .nil) .nil) (.cons (.ret (.bin .Add (.bin .Mult (.idx (.var 0) (.bin .Mod (.var 1) (.blt .len (.cons (.var 0) .nil)))) (.cint 31)) (.var 1))) .nil)))
noncomputable def d_11:Fd:=⟨2,2,b_11⟩
noncomputable def b_12:S:=(.cons (.asg 3 (.bin .Mod (.bin .Mult (.bin .Add (.call 11 (.cons (.var 0) (.cons (.var 1) .nil))) (.bin .Mult (.cint 6151) (.bin .Add (.var 1) (.cint 1)))) (.cint 40692)) (.cint 2147483399))) (.cons (.ret (.bin .Mod (.bin .Mod (.bin .Add (.bin .Mult (.var 3) (.var 3)) (.bin .FloorDiv (.var 3) (.cint 31))) (.cint 2147483629)) (.var 2))) .nil))
noncomputable def d_12:Fd:=⟨3,4,b_12⟩
noncomputable def b_13:S:=(.cons (.whl (.cmp .NotEq (.var 1) (.cint 0)) (.cons (.unp [0,1] (.tup (.cons (.var 1) (.cons (.bin .Mod (.var 0) (.var 1)) .nil)))) .nil)) (.cons (.ret (.blt .abs (.cons (.var 0) .nil))) .nil))
noncomputable def d_13:Fd:=⟨2,2,b_13⟩
noncomputable def b_14:S:=(.cons (.asg 2 (.bin .Mult (.call 13 (.cons (.var 0) (.cons (.var 1) .nil))) (.ife (.cmp .Gt (.var 1) (.cint 0)) (.cint 1) (.neg (.cint 1))))) (.cons (.ret (.tup (.cons (.bin .FloorDiv (.var 0) (.var 2)) (.cons (.bin .FloorDiv (.var 1) (.var 2)) .nil)))) .nil))
noncomputable def d_14:Fd:=⟨2,3,b_14⟩
noncomputable def b_15:S:=(.cons (.asg 2 (.bin .Add (.cint 1) (.call 12 (.cons (.var 0) (.cons (.var 1) (.cons (.cint 4) .nil)))))) (.cons (.ret (.call 14 (.cons (.bin .Sub (.call 12 (.cons (.var 0) (.cons (.bin .Add (.var 1) (.cint 1)) (.cons (.bin .Add (.bin .Mult (.cint 12) (.var 2)) (.cint 1)) .nil)))) (.bin .Mult (.cint 6) (.var 2))) (.cons (.var 2) .nil)))) .nil))
noncomputable def d_15:Fd:=⟨2,3,b_15⟩
noncomputable def b_16:S:=(.cons (.asg 2 (.bin .Add (.cint 1) (.call 12 (.cons (.var 0) (.cons (.var 1) (.cons (.cint 3) .nil)))))) (.cons (.ret (.call 14 (.cons (.bin .Add (.cint 1) (.call 12 (.cons (.var 0) (.cons (.bin .Add (.var 1) (.cint 1)) (.cons (.bin .Mult (.cint 6) (.var 2)) .nil))))) (.cons (.var 2) .nil)))) .nil))
noncomputable def d_16:Fd:=⟨2,3,b_16⟩
noncomputable def b_17:S:=(.cons (.ret (.call 14 (.cons (.bin .Add (.bin .Mult (.idx (.var 0) (.cint 0)) (.idx (.var 1) (.cint 1))) (.bin .Mult (.idx (.var 1) (.cint 0)) (.idx (.var 0) (.cint 1)))) (.cons (.bin .Mult (.idx (.var 0) (.cint 1)) (.idx (.var 1) (.cint 1))) .nil)))) .nil)
noncomputable def d_17:Fd:=⟨2,2,b_17⟩
noncomputable def b_18:S:=(.cons (.ret (.call 14 (.cons (.bin .Sub (.bin .Mult (.idx (.var 0) (.cint 0)) (.idx (.var 1) (.cint 1))) (.bin .Mult (.idx (.var 1) (.cint 0)) (.idx (.var 0) (.cint 1)))) (.cons (.bin .Mult (.idx (.var 0) (.cint 1)) (.idx (.var 1) (.cint 1))) .nil)))) .nil)
noncomputable def d_18:Fd:=⟨2,2,b_18⟩
noncomputable def b_19:S:=(.cons (.ret (.call 14 (.cons (.bin .Mult (.idx (.var 0) (.cint 0)) (.idx (.var 1) (.cint 0))) (.cons (.bin .Mult (.idx (.var 0) (.cint 1)) (.idx (.var 1) (.cint 1))) .nil)))) .nil)
noncomputable def d_19:Fd:=⟨2,2,b_19⟩
noncomputable def b_20:S:=(.cons (.ret (.call 14 (.cons (.bin .Mult (.idx (.var 0) (.cint 0)) (.idx (.var 1) (.cint 1))) (.cons (.bin .Mult (.idx (.var 0) (.cint 1)) (.idx (.var 1) (.cint 0))) .nil)))) .nil)
noncomputable def d_20:Fd:=⟨2,2,b_20⟩
noncomputable def b_21:S:=(.cons (.ret (.cmp .Lt (.bin .Mult (.idx (.var 0) (.cint 0)) (.idx (.var 1) (.cint 1))) (.bin .Mult (.idx (.var 1) (.cint 0)) (.idx (.var 0) (.cint 1))))) .nil)
noncomputable def d_21:Fd:=⟨2,2,b_21⟩
end VI.VP
end
section
namespace VI.VP
open PySem Fr
structure TabF (tab:Nat→Option Fd):Prop where
 h0:tab 0=some d_0
 h1:tab 1=some d_1
 h2:tab 2=some d_2
 h3:tab 3=some d_3
 h4:tab 4=some d_4
 h5:tab 5=some d_5
 h6:tab 6=some d_6
section
variable {x:Bool} {tab:Nat→Option Fd} {glo:Nat→R D} {sub:Nat→Nat→Bool} {n:Nat}
theorem JHq {C:Cn} (one other:D):∀(m:Nat) (a b:Int) (z:Sl),z.isOwn=false→0≤a→0≤b→b.natAbs=m→∃z',whl1 C (.cmp .NotEq (.var 3) (.cint 0)) (.cons (.asg 4 (.bin .Mod (.var 2) (.var 3))) (.cons (.asg 2 (.var 3)) (.cons (.asg 3 (.var 4)) .nil)))
  [.val one,.val other,.val (.int a),.val (.int b),z]=.nx [.val one,.val other,.val (.int (a.gcd b)),.val (.int 0),z']:=by
 intro m
 induction m using Nat.strongRecOn with
 | ind m ih =>
  intro a b z hz ha hb hm
  by_cases h0:b=0
  ·subst h0
   refine ⟨z,?_⟩
   have e:((a.gcd 0:Nat):Int)=a:=by simp;omega
   rw [e]
   exact JCV (by dsimp! [];simp)
  ·have hf:=JHH a b h0
   obtain ⟨z',h⟩:=ih (a.fmod b).natAbs (by omega) b (a.fmod b) (.val (.int (a.fmod b))) rfl hb (Int.fmod_nonneg_of_pos a (by omega)) rfl
   refine ⟨z',?_⟩
   rw [JFQ] at h
   rw [←h]
   refine JCp (by dsimp! [];simp [h0]) ?_
   cases z with
   | own d=>cases hz
   | no=>dsimp! [JEB h0]
   | val d=>dsimp! [JEB h0]
theorem JLB (a b:Int):((if a<0 then -a else a).gcd (if b<0 then -b else b))=a.gcd b:=by
 split<;>split<;>simp
theorem JIW (T:TabF tab) (a b:Int):run x tab glo sub (n+1) 0 [.int a,.int b]=.ok (.int (a.gcd b)):=by
 rw [JAB T.h0,JAA rfl]
 obtain ⟨z',h⟩:=JHq (C:=⟨run x tab glo sub n,glo,sub⟩) (.int a) (.int b) _ (if a<0 then -a else a) (if b<0 then -b else b) .no rfl (by split<;>omega) (by split<;>omega) rfl
 rw [JLB] at h
 dsimp! [d_0,b_0,h]
theorem JCv (T:TabF tab) (a b:Int) (hb:b≠0) (lb:L b):run x tab glo sub (n+2) 1 [.int a,.int b]=.ok (F (Rat.divInt a b)):=by
 rw [JAB T.h1,JAA rfl]
 have hg:a.gcd b≠0:=by
  intro z
  exact hb (Int.gcd_eq_zero_iff.mp z).2
 have lg:(a.gcd b)≤b.natAbs:=Int.gcd_le_natAbs_right _ hb
 unfold L at lb
 have q1:=JCN a b hb
 have q2:=JDX a b hb
 by_cases h:b<0
 ·rw [if_pos h] at q1 q2
  dsimp! [d_1,b_1,JIW T,hb,h,decide_true,decide_false,JG1 (j:=-((a.gcd b:Nat):Int)) (by omega) (by unfold L;omega),q1,q2,F]
 ·rw [if_neg h] at q1 q2
  dsimp! [d_1,b_1,JIW T,hb,h,decide_true,decide_false,JG1 (j:=((a.gcd b:Nat):Int)) (by omega) (by unfold L;omega),q1,q2,F]
theorem JLm (T:TabF tab) {p q:Rat} (hp:Q p) (hq:Q q):run x tab glo sub (n+3) 3 [F p,F q]=.ok (F (p+q)):=by
 rw [JAB T.h3,JAA rfl]
 dsimp! [d_3,b_3,JBd (hp.Ln (by omega)) (hq.Ld (by omega)),JBd (hq.Ln (by omega)) (hp.Ld (by omega)),JBd (hp.Ld (by omega)) (hq.Ld (by omega)),
  JCv T _ _ (Int.mul_ne_zero (JAh p) (JAh q)) (L.of (JAj hp.d hq.d) (by omega)),JGf]
theorem JDT (T:TabF tab) {p q:Rat} (hp:Q p) (hq:Q q):run x tab glo sub (n+3) 4 [F p,F q]=.ok (F (p - q)):=by
 rw [JAB T.h4,JAA rfl]
 dsimp! [d_4,b_4,JBd (hp.Ln (by omega)) (hq.Ld (by omega)),JBd (hq.Ln (by omega)) (hp.Ld (by omega)),JBd (hp.Ld (by omega)) (hq.Ld (by omega)),
  JCv T _ _ (Int.mul_ne_zero (JAh p) (JAh q)) (L.of (JAj hp.d hq.d) (by omega)),JKe]
theorem JCL (T:TabF tab) {p q:Rat} (hp:Q p) (hq:Q q):run x tab glo sub (n+3) 5 [F p,F q]=.ok (F (p*q)):=by
 rw [JAB T.h5,JAA rfl]
 dsimp! [d_5,b_5,JBd (hp.Ln (by omega)) (hq.Ln (by omega)),JBd (hp.Ld (by omega)) (hq.Ld (by omega)),
  JCv T _ _ (Int.mul_ne_zero (JAh p) (JAh q)) (L.of (JAj hp.d hq.d) (by omega)),JJy]
theorem lt_iff (p q:Rat):p.num*q.den<q.num*p.den↔p<q:=(Rat.lt_iff p q).symm
theorem JCX (T:TabF tab) {p q:Rat} (hp:Q p) (hq:Q q):run x tab glo sub (n+1) 6 [F p,F q]=.ok (.bool (decide (p<q))):=by
 rw [JAB T.h6,JAA rfl]
 dsimp! [d_6,b_6,JBd (hp.Ln (by omega)) (hq.Ld (by omega)),JBd (hq.Ln (by omega)) (hp.Ld (by omega)),lt_iff]
theorem JDO (T:TabF tab) (i:Int):run x tab glo sub (n+1) 2 [.int i]=.ok (.tuple [.int i,.int 1]):=by
 rw [JAB T.h2,JAA rfl]
 dsimp! [d_2,b_2]
structure TabL (tab:Nat→Option Fd):Prop where
 h11:tab 11=some d_11
 h12:tab 12=some d_12
 h13:tab 13=some d_13
 h14:tab 14=some d_14
 h15:tab 15=some d_15
 h16:tab 16=some d_16
 h17:tab 17=some d_17
 h18:tab 18=some d_18
 h19:tab 19=some d_19
 h20:tab 20=some d_20
 h21:tab 21=some d_21
theorem JHs {C:Cn}:∀(m:Nat) (a b:Int),b.natAbs=m→∃g:Int,g.natAbs=a.gcd b∧whl1 C (.cmp .NotEq (.var 1) (.cint 0)) (.cons (.unp [0,1] (.tup (.cons (.var 1) (.cons (.bin .Mod (.var 0) (.var 1)) .nil)))) .nil) [.val (.int a),.val (.int b)]=.nx [.val (.int g),.val (.int 0)]:=by
 intro m
 induction m using Nat.strongRecOn with
 | ind m ih =>
  intro a b hm
  by_cases h0:b=0
  ·subst h0
   exact ⟨a,by simp,JCV (by dsimp! [];simp)⟩
  ·have hf:=JHH a b h0
   obtain ⟨g,h1,h2⟩:=ih (a.fmod b).natAbs (by omega) b (a.fmod b) rfl
   refine ⟨g,by rw [h1,JFQ],?_⟩
   rw [←h2]
   refine JCp (by dsimp! [];simp [h0]) ?_
   dsimp! [JEB h0,JA2,JCG,List.length_cons,List.length_nil]
theorem JDD (T:TabL tab) (a b:Int):run x tab glo sub (n+1) 13 [.int a,.int b]=.ok (.int (a.gcd b)):=by
 rw [JAB T.h13,JAA rfl]
 obtain ⟨g,h1,h2⟩:=JHs (C:=⟨run x tab glo sub n,glo,sub⟩) _ a b rfl
 dsimp! [d_13,b_13,h2]
 congr 2
 split<;>omega
theorem JHi (T:TabL tab) (a b:Int) (hb:b≠0) (lb:L b):run x tab glo sub (n+2) 14 [.int a,.int b]=.ok (F (Rat.divInt a b)):=by
 rw [JAB T.h14,JAA rfl]
 have hg:a.gcd b≠0:=by
  intro z
  exact hb (Int.gcd_eq_zero_iff.mp z).2
 have lg:(a.gcd b)≤b.natAbs:=Int.gcd_le_natAbs_right _ hb
 unfold L at lb
 have q1:=JCN a b hb
 have q2:=JDX a b hb
 by_cases h:b<0
 ·rw [if_pos h] at q1 q2
  have h':¬0<b:=by omega
  dsimp! [d_14,b_14,JDD T,h',decide_true,decide_false,JE9 (i:=((a.gcd b:Nat):Int)) (j:=-1) (by decide),Int.mul_neg_one,JG1 (j:=-((a.gcd b:Nat):Int)) (by omega) (by unfold L;omega),q1,q2,F]
 ·rw [if_neg h] at q1 q2
  have h':0<b:=by omega
  dsimp! [d_14,b_14,JDD T,h',decide_true,decide_false,JE9 (i:=((a.gcd b:Nat):Int)) (j:=1) (by decide),Int.mul_one,JG1 (j:=((a.gcd b:Nat):Int)) (by omega) (by unfold L;omega),q1,q2,F]
theorem JIX (T:TabL tab) {p q:Rat} (hp:Q p) (hq:Q q):run x tab glo sub (n+3) 17 [F p,F q]=.ok (F (p+q)):=by
 rw [JAB T.h17,JAA rfl]
 dsimp! [d_17,b_17,JBd (hp.Ln (by omega)) (hq.Ld (by omega)),JBd (hq.Ln (by omega)) (hp.Ld (by omega)),JBd (hp.Ld (by omega)) (hq.Ld (by omega)),
  JHi T _ _ (Int.mul_ne_zero (JAh p) (JAh q)) (L.of (JAj hp.d hq.d) (by omega)),JGf]
abbrev sc (ns:List Int):D:=.list (ns.map fun i=>.int i)
theorem JDq (ns:List Int):shaped (sc ns)=true:=by
 have h1:∀ns:List Int,PyData.canLayAll0 (ns.map fun i=>PyData.int i)=true:=fun ns=>by
  induction ns with
  | nil=>rfl
  | cons a r ih=>simp only [List.map_cons,PyData.canLayAll0,PyData.canLay0,ih,Bool.and_self]
 have h2:∀ns:List Int,PyData.depthAll (ns.map fun i=>PyData.int i)=0:=fun ns=>by
  induction ns with
  | nil=>rfl
  | cons a r ih=>simp only [List.map_cons,PyData.depthAll,PyData.depth,ih];rfl
 simp only [shaped,PyData.canLay0,h1,PyData.depth,h2]
 decide
theorem JD3 (ns:List Int):cmpD .Eq (sc ns) (.list [])=.ok (.bool ns.isEmpty):=by
 have:shaped (.list [])=true:=JDq []
 simp only [cmpD,JDq,this,Bool.and_self,if_true]
 cases ns<;>simp [PyData.eqv,PyData.eqvAll]
theorem JKi (ns:List Int) (k:Int) (h0:0≤k) (h1:k<ns.length):∃i,idxD (sc ns) (.int k)=.ok (.int i):=by
 refine ⟨ns[k.toNat]'(by omega),?_⟩
 simp only [sc,idxD,atI,ixN,List.length_map,if_pos h0,if_pos h1,Option.bind_some]
 rw [List.getElem?_map,List.getElem?_eq_getElem (by omega)]
 rfl
theorem JKq (T:TabL tab) (ns:List Int) (k:Int) (hk:0≤k):∃i,run x tab glo sub (n+1) 11 [sc ns,.int k]=.ok (.int i):=by
 rw [JAB T.h11,JAA rfl]
 by_cases h:k<ns.length
 ·obtain ⟨i,hi⟩:=JKi ns k hk h
  refine ⟨i,?_⟩
  dsimp! [d_11,b_11,List.length_map,h,decide_true,hi]
 ·have hd:decide (k<(ns.length:Int))=false:=decide_eq_false h
  by_cases hn:ns=[]
  ·refine ⟨0,?_⟩
   have e:cmpD .Eq (sc ns) (.list [])=.ok (.bool true):=by rw [JD3,hn];rfl
   dsimp! [d_11,b_11,List.length_map,hd,e]
  ·have hl:0<(ns.length:Int):=by
    have:=List.length_pos_iff.mpr hn
    omega
   obtain ⟨i,hi⟩:=JKi ns (k.fmod ns.length) (Int.fmod_nonneg_of_pos k hl) (Int.fmod_lt_of_pos k hl)
   refine ⟨i*31+k,?_⟩
   have e:cmpD .Eq (sc ns) (.list [])=.ok (.bool false):=by rw [JD3];cases ns<;>simp at hn ⊢
   dsimp! [d_11,b_11,List.length_map,hd,e,JEB (i:=k) (j:=(ns.length:Int)) (by omega),hi,JE9 (i:=i) (j:=31) (by decide)]
theorem JEa (T:TabL tab) (ns:List Int) (k m:Int) (hk:0≤k) (hk2:k<2000000) (hm:0<m):∃i,0≤i∧i<m∧run x tab glo sub (n+2) 12 [sc ns,.int k,.int m]=.ok (.int i):=by
 rw [JAB T.h12,JAA rfl]
 obtain ⟨c,hc⟩:=JKq (x:=x) (glo:=glo) (sub:=sub) (n:=n) T ns k hk
 obtain ⟨d,hd⟩:∃d,d=((c+6151*(k+1))*40692).fmod 2147483399:=⟨_,rfl⟩
 have hd0:0≤d:=by rw [hd];exact Int.fmod_nonneg_of_pos _ (by decide)
 have hd1:d<2147483399:=by rw [hd];exact Int.fmod_lt_of_pos _ (by decide)
 have hm1:binD .Mod (.int ((c+6151*(k+1))*40692)) (.int 2147483399)=.ok (.int d):=by rw [JEB (by decide),hd]
 refine ⟨((d*d+d.fdiv 31).fmod 2147483629).fmod m,Int.fmod_nonneg_of_pos _ hm,Int.fmod_lt_of_pos _ hm,?_⟩
 dsimp! [d_12,b_12,hc,JE5 (i:=6151) (j:=k+1) (by decide),JE9 (i:=c+6151*(k+1)) (j:=40692) (by decide),hm1,JE5 (i:=d) (j:=d) (by omega),JG1 (i:=d) (j:=31) (by decide) (L.of (k:=10) (by decide) (by omega)),
  JEB (j:=2147483629) (by decide),JEB (j:=m) (show m≠0 by omega)]
structure Small (q:Rat):Prop where
 n:q.num.natAbs≤24
 d:q.den≤4
 w:q.num.natAbs≤6*q.den
theorem Small.sz {q:Rat} (h:Small q):Sz 5 q:=⟨by have:=h.n;omega,by have:=h.d;omega⟩
theorem Small.Q {q:Rat} (h:Small q):Q q:=h.sz.mono (by omega)
theorem JEC (a b:Int) (hb:0<b):∃g:Int,0<g∧a=(Rat.divInt a b).num*g∧b=((Rat.divInt a b).den:Int)*g:=by
 have hg:a.gcd b≠0:=by
  intro z
  have:=(Int.gcd_eq_zero_iff.mp z).2
  omega
 have q1:=JCN a b (by omega)
 have q2:=JDX a b (by omega)
 rw [if_neg (by omega)] at q1 q2
 refine ⟨((a.gcd b:Nat):Int),by omega,?_,?_⟩
 ·rw [←q1,JBS (Int.gcd_dvd_left ..),Int.ediv_mul_cancel (Int.gcd_dvd_left ..)]
 ·rw [←q2,JBS (Int.gcd_dvd_right ..),Int.ediv_mul_cancel (Int.gcd_dvd_right ..)]
theorem JGI (a b m:Int) (hb:0<b) (h1:-(m*b)≤a) (h2:a≤m*b):-(m*(Rat.divInt a b).den)≤(Rat.divInt a b).num∧(Rat.divInt a b).num≤m*(Rat.divInt a b).den:=by
 obtain ⟨g,hg,e1,e2⟩:=JEC a b hb
 generalize (Rat.divInt a b).num=u at *
 generalize ((Rat.divInt a b).den:Int)=d at *
 subst e1;subst e2
 rw [←Int.mul_assoc] at h1 h2
 constructor
 ·rw [←Int.neg_mul] at h1
  exact Int.le_of_mul_le_mul_right h1 hg
 ·exact Int.le_of_mul_le_mul_right h2 hg
theorem JIt (T:TabL tab) (ns:List Int) (k:Int) (hk:0≤k) (hk2:k<1000000):∃q,Small q∧run x tab glo sub (n+3) 15 [sc ns,.int k]=.ok (F q):=by
 rw [JAB T.h15,JAA rfl]
 obtain ⟨i,i0,i1,hi⟩:=JEa (x:=x) (glo:=glo) (sub:=sub) (n:=n) T ns k 4 hk (by omega) (by decide)
 obtain ⟨j,j0,j1,hj⟩:=JEa (x:=x) (glo:=glo) (sub:=sub) (n:=n) T ns (k+1) (12*(1+i)+1) (by omega) (by omega) (by omega)
 refine ⟨Rat.divInt (j - 6*(1+i)) (1+i),?_,?_⟩
 ·have h1:=JGI (j - 6*(1+i)) (1+i) 6 (by omega) (by omega) (by omega)
  have h2:=JJV (j - 6*(1+i)) (1+i) (by omega)
  have h3:=JJc (j - 6*(1+i)) (1+i) (by omega)
  exact ⟨by omega,by omega,by omega⟩
 ·dsimp! [d_15,b_15,hi,JE5 (i:=12) (j:=1+i) (by decide),JE5 (i:=6) (j:=1+i) (by decide),hj,JHi T (j - 6*(1+i)) (1+i) (by omega) (L.of (k:=10) (by omega) (by omega))]
end
end VI.VP
end
section
namespace VI
open PySem PySem.Spec PyProof.Rows L2
section
variable {P:Program} {w:World} {B:Bs} {mg:Str→Option Value} {base:Heap}
noncomputable def JDL (P:Program) (w:World) (B:Bs) (mg:Str→Option Value) (base:Heap) (N:List Str) (qual:Str) (sc:Scope) (f:Addr) (cd:Value) (cl:List (Str×Addr)) (A:Around) (outer:List PySem.Env) (s:Shared) (H:Hp) (E:XK):Cx where
 prog:=P
 w:=w
 K:=B.K
 mg:=mg
 base:=base
 A:=A.deeper (PySem.W.envX qual sc s.heap.objs.size f cd cl)
 N:=N
 s₀:=s
 H₀:=H
 env:=PySem.W.envX qual sc s.heap.objs.size f cd cl
 outer:=outer
 stack:=PySem.W.envX qual sc s.heap.objs.size f cd cl::outer
 ex:=[]
 calm:=true
 fn:=fun _=>false
 pn:=[]
 xe:=fun e s'=>wpAny (model P w) (A.deeper (PySem.W.envX qual sc s.heap.objs.size f cd cl)) (leaving (PySem.W.envX qual sc s.heap.objs.size f cd cl) e) (fun _ s''=>CXV P w B outer H s E e s'') (fun e' s''=>CXV P w B outer H s E e' s'') s'
variable {N:List Str} {qual:Str} {sc:Scope} {f:Addr} {cd:Value} {cl:List (Str×Addr)} {A:Around} {outer:List PySem.Env} {s:Shared} {H:Hp} {E:XK}
theorem JL1:JDH (CXV P w B) (JDL P w B mg base N qual sc f cd cl A outer s H E) (EX B (XXd B E)):=by
 intro pins σ H1 s1 e s' I ⟨ea,T,c,H',e1,os,bare,un,hok,tr,⟨f1,f2⟩,⟨f3,f4⟩,⟨c',ec,hE⟩⟩
 subst e1
 have I':=I.call' (ch:=[]) os un hok bare (fun b hb=>by simp at hb)
 obtain ⟨oe,vs,a0,oT,ts,q1,q2,q3,q4,q6,q7,q8,q9⟩:=id tr
 have fr0:∀b,s1.heap.get? b=none→s.heap.get? b=none:=fun b q=>by
  cases z:s.heap.get? b with
  | none=>rfl
  | some o =>
   obtain ⟨o',e2⟩:=I.base.there b o z (by simp [JDL])
   rw [q] at e2;cases e2
 have has:∀b∈(ea::T::frs (JDL P w B mg base N qual sc f cd cl A outer s H E).stack),b∈frs (JDL P w B mg base N qual sc f cd cl A outer s H E).stack∨(s.heap.get? b=none∧H' b=none):=fun b hb=>by
  rcases List.mem_cons.mp hb with rfl | hb
  ·exact .inr ⟨fr0 _ f1,f2⟩
  ·rcases List.mem_cons.mp hb with rfl | hb
   ·exact .inr ⟨fr0 _ f3,f4⟩
   ·exact .inl hb
 refine PySem.wpAny_leaves_onW (base:=PySem.W.hideAll s'.heap (ea::T::frs (JDL P w B mg base N qual sc f cd cl A outer s H E).stack)) (outer:=outer) (cls:=.ref (B.cl c)) (a0:=a0) I'.ok.frames rfl
  ⟨fun b o q=>PySem.W.of_hideAll _ q,PySem.W.hideAll_none _ (by simp),PySem.W.funFrames_hide I'.stack (fun env he a hf=>List.mem_cons_of_mem _ (List.mem_cons_of_mem _ (List.mem_filterMap.mpr ⟨env,he,hf⟩))),oe,vs,T,oT,ts,q1,q2,q3,q4,PySem.W.hideAll_none _ (by simp),q6,q7,q8,q9⟩ fun h2 fl up=>?_
 obtain ⟨u2,hok2,T2,tr2,t1,t2⟩:=JEw I' rfl has fl up
 refine ⟨ea,T2,c,H',rfl,?_,bare,u2,hok2,tr2,⟨fr0 _ f1,f2⟩,⟨t1,t2⟩,?_⟩
 ·exact os.trans I.os
 ·rw [ec];exact hE H' (Same.refl H')
structure LamSc (sc:Scope):Prop where
 kind:sc.kind=.function
 co:sc.isCoroutine=false
 gen:sc.isGenerator=false
 free:∀y∈sc.names,y.2≠.local∧y.2≠.cell
theorem JLk (S:LamSc sc) (hd:A.handled=none) (e0:Env0 P w B.K mg base A outer s H) {σ:St} (hl:σ.length=N.length)
  (hcl:∀x,sc.names.lookup x=some .free→∃c,cl.lookup x=some c) (hin:∀x y c,cl.lookup x=some c→cl.lookup y=some c→x=y)
  (hce:∀x c,cl.lookup x=some c→(∃v,s.heap.IsCell c v)∧H c=none)
  (hval:∀(i:Nat) (x:Str) (v:V),N[i]? = some x→σ[i]? = some (some v)→sc.names.lookup x=some .free→∃u c,RelV v u∧cl.lookup x=some c∧s.heap.IsCell c (some u))
  {h1:Heap} {m:Str→Option Value} {tk:Nat} (hns:h1.Ns s.heap.objs.size m) (hk:∀b o,s.heap.get? b=some o→h1.get? b=some o) :
  Inv (JDL P w B mg base N qual sc f cd cl A outer s H E) [] σ H { s with heap:=h1,toks:=tk }:=by
 have noA:∀b:Addr,b ∉ (JDL P w B mg base N qual sc f cd cl A outer s H E).ex:=fun b z=>absurd (show b∈([]:List Addr) from z) (by simp)
 have look:∀ {y:Str} {k:NameKind},sc.names.lookup y=some k→k≠.local∧k≠.cell:=fun {y k} h=>S.free _ (PySem.mem_of_lookup h)
 have cell:∀ {c:Addr} {v:Option Value},s.heap.IsCell c v→h1.IsCell c v:=fun {c v} ⟨o,ho,hd⟩=>⟨o,hk _ _ ho,hd⟩
 refine ⟨⟨e0.mod,S.kind,rfl,rfl,Nat.le_refl _,fun y z c h1 h2=>hin y z c h1 h2,fun y hy=>?_,fun y c h _=>(by cases h),fun _=>hd,Around.frames_deeper e0.frames,.inr ⟨rfl,rfl⟩,fun b z=>absurd z (noA b),e0.bs,e0.bsz,fun b _ _=>noA b,fun b z=>absurd z (noA b),e0.funs,e0.frf⟩,
  rfl,e0.bare,Un.kept hk,⟨m,hns,fun i y v h1 h2 h3=>?_⟩,fun y c h=>?_,e0.hok.fresh (Nat.le_refl _),fun y c h=>(hce y c h).2,fun p hp=>absurd (show p∈([]:List (Addr×Obj)) from hp) (by simp),e0.hok.kept hk,hl⟩
 ·have hy:sc.names.lookup y=some .cell∨sc.names.lookup y=some .free:=hy
  rcases hy with hy | hy
  · exact absurd rfl (look hy).2
  · exact hcl y hy
 ·have h3:Vis sc y:=h3
  rcases h3 with h3 | h3 | h3
  · exact absurd rfl (look h3).1
  · exact absurd rfl (look h3).2
  · obtain ⟨u,c,r,e,z⟩:=hval i y v h1 h2 h3
    exact ⟨u,r,.inr ⟨.inr h3,c,e,cell z⟩⟩
 ·obtain ⟨⟨v,z⟩,_⟩:=hce y c h
  exact ⟨v,cell z⟩
theorem JIF {G:List (Str×GK)} {C:Cn} {name pm ctv:Value} {params:Arguments} {body:Expr} {c':Addr} {x:VI.E} {σ:St} {δ:Env} {Q:VK} {nm:Str}
  (hroom:A.depth<recursionLimit) (S:LamSc sc) (hd:A.handled=none) (e0:Env0 P w B.K mg base A outer s H) (hl:σ.length=N.length)
  (hcl:∀x,sc.names.lookup x=some .free→∃c,cl.lookup x=some c) (hin:∀x y c,cl.lookup x=some c→cl.lookup y=some c→x=y)
  (hce:∀x c,cl.lookup x=some c→(∃v,s.heap.IsCell c v)∧H c=none)
  (hval:∀(i:Nat) (x:Str) (v:V),N[i]? = some x→σ[i]? = some (some v)→sc.names.lookup x=some .free→∃u c,RelV v u∧cl.lookup x=some c∧s.heap.IsCell c (some u))
  (ho:s.heap.get? f=some (PySem.W.kla_obj nm qual params body sc cl pm c' ctv)) (hcd:s.heap.CodeRec (.ref c') qual)
  (hbind:bindArgs (PySem.W.kla_fn nm qual params body sc cl pm (.ref c') ctv) ⟨[],[]⟩=pure [])
  (hb:PE (JDL P w B mg base N qual sc f (.ref c') cl A outer s H E) body (RE B C (XXd B E) x)) (ok:Sok B σ H δ) (hq:KE B (XXd B E) (ev C x δ) H Q) :
  codeAny (model P w) A (.call (.ref f) ⟨[],[]⟩) (CR (CXV P w B) outer P w H s Q E) s:=by
 have lim:s.heap.NoLimit:=e0.mod.nolimit.keeps fun b o e=>(e0.bs b o e).1
 refine PySem.W.kla_callFunE hroom ho rfl S.co S.gen rfl hcd ?_
 rw [hbind]
 refine wpAny_pure (wpAny_newFunctionEnv (fun y hy=>(S.free y hy).2) (by intro y hy;simp at hy) (fun h1 hns hsb=>?_) S.kind)
 have hk:∀b o,s.heap.get? b=some o→h1.get? b=some o:=fun b o e=>hsb.extBut b o (Nat.ne_of_lt (Heap.lt_size e)) (Heap.get?_push_of_some _ e)
 refine ⟨lim.fresh _ hsb,?_⟩
 show codeAny _ _ (.expr body (PySem.W.envX qual sc s.heap.objs.size f (.ref c') cl)) _ _
 have I:=JLk (P:=P) (w:=w) (B:=B) (mg:=mg) (base:=base) (N:=N) (qual:=qual) (f:=f) (cd:=.ref c') (E:=E) (tk:=s.toks+([]:List (Str×Value)).length) S hd e0 hl hcl hin hce hval hns hk
 refine PySem.W.kla_codeExpr (wpAny_mono (hb [] _ σ H Q I ⟨δ,ok,hq⟩) (fun u s' ⟨v,H',J,r,q⟩=>?_) fun _ _ z=>z)
 exact ⟨v,H',J.os,J.bare,J.base,J.hok,r,q⟩
end
end VI
end
section
namespace VI
open PySem PySem.Spec PyProof.Rows L2
noncomputable def TabP (P:Addr) (q:Str) (p0:Array Value) (tp:List (Addr×Obj)):Prop:=∃ps:Array Value,(P,PySem.W.tabObj ps)∈tp∧(∃more,ps=p0++more)∧TriplesOk ps.toList ∧
 ∀pos v,codeAmong pos ps.toList=some v→∃(c:Addr) (oc:Obj) (vs:Array Value) (t:Tok),v=.ref c∧(c,oc)∈tp∧oc.data=.fields vs∧vs[1]? = some (.str q t)
theorem JGb {pos:Pos} {v:Value} {l:List Value} {a b:Int} {c:Value} (h:TriplesOk l) (e:codeAmong pos (l++[rawInt a,rawInt b,c])=some v):codeAmong pos l=some v∨v=c:=by
 fun_induction TriplesOk l with
 | case1 =>
  simp only [List.nil_append,codeAmong,rawInt] at e
  split at e
  ·cases e;exact .inr rfl
  ·simp at e
 | case2 a' t b' u x rest ih =>
  simp only [List.cons_append,codeAmong] at e ⊢
  split at e
  ·rename_i hc;rw [if_pos hc];exact .inl e
  ·rename_i hc;rw [if_neg hc];exact ih h e
 | case3 l h1 h2=>exact h.elim
section
variable {X:Cx} {pins pins':List (Addr×Obj)} {σ:St} {H:Hp} {s:Shared} {P:Addr} {p0:Array Value} {h2:Heap}
theorem JF6 (I:Inv X pins σ H s) (hex:P∈X.ex) (hPn:H P=none) (k:∀b o,b≠P→s.heap.get? b=some o→h2.get? b=some o)
  (hp:∀p∈X.pn++pins',h2.get? p.1=some p.2∧H p.1=none∧p.1≠X.env.locals∧p.1 ∉ X.fs∧∀v,p.2.data≠.cell v) (tk:Nat):Inv X pins' σ H { s with heap:=h2,toks:=tk }:=by
 obtain ⟨e1,e2⟩:=I.ok.exf P hex
 have U:=I.base
 obtain ⟨m,⟨oL,es,ep,hoL,r⟩,hl⟩:=id I.loc
 have cell:∀ {x:Str} {c:Addr} {v:Option Value},X.env.cells.lookup x=some c→s.heap.IsCell c v→h2.IsCell c v:=fun {x c v} e ⟨o,ho,hd⟩=>⟨o,k _ _ (e2 x c e) ho,hd⟩
 have nP:∀b,b ∉ X.ex→b≠P:=fun b hb z=>hb (z▸hex)
 refine ⟨I.ok,I.os,I.bare,⟨fun b o e n hf hx=>k b o (nP b hx) (U.keep b o e n hf hx),fun b o e n hf hx=>?_,U.free,fun b o e hx=>?_,U.tups,U.frzs,U.tbls⟩,⟨m,⟨oL,es,ep,k _ _ (Ne.symm e1) hoL,r⟩,fun i y v h1 h2' h3=>?_⟩,fun x c e=>?_,I.free,I.freeC,hp,fun a o e=>?_,I.len⟩
 ·obtain ⟨sl,q⟩:=U.slot b o e n hf hx
  exact ⟨sl,k _ _ (nP b hx) q⟩
 ·obtain ⟨o',q⟩:=U.there b o e hx
  exact ⟨o',k _ _ (nP b hx) q⟩
 ·obtain ⟨u,ru,q⟩:=hl i y v h1 h2' h3
  refine ⟨u,ru,?_⟩
  rcases q with q | ⟨kk,c,e,z⟩
  · exact .inl q
  · exact .inr ⟨kk,c,e,cell e z⟩
 ·obtain ⟨v,z⟩:=I.cell x c e
  exact ⟨v,cell e z⟩
 ·refine (I.hok a o e).stay (fun b u hb q=>k b u (fun z=>?_) q) (fun _ q=>q) fun _ _ q=>q
  subst z
  rcases hb with rfl | hb
  · rw [hPn] at e;cases e
  · rw [hPn] at hb;cases hb
theorem JI9 {tp:List (Addr×Obj)} {c:Addr} {q:Str} {params:Arguments} {body:Expr} {sc:Scope} {pos:Pos} {R:Value→Shared→Prop} (I:Inv X (pins++tp) σ H s) (hT:TabP P q p0 tp) (hpn:∀p∈X.pn++pins,p.1≠P) (hex:P∈X.ex) (hcode:X.env.code=.ref c) (hC:PySem.W.CodeHd X.base c P)
  (hB:X.base.BuiltinsAt X.mg P) (hq:X.env.qual++"<lambda>"=q) (hdef:defaultsOf params X.env=([],[])) (hfree:∀n,(n,NameKind.free)∈sc.names→X.env.kindOf n=some .cell∨X.env.kindOf n=some .free)
  (h:∀(f c':Addr) (ctv:Value) (tp':List (Addr×Obj)) (s':Shared),TabP P q p0 tp'→Inv X (pins++tp') σ H s'→(f,PySem.W.kla_obj "<lambda>" q params body sc (JAi X.env.cells sc.names []) ((X.mg "__name__").getD .none) c' ctv)∈tp' →
    (∃(oc:Obj) (vs:Array Value) (t:Tok),(c',oc)∈tp'∧oc.data=.fields vs∧vs[1]? = some (.str q t))→(∀y∈tp',(∃z∈tp,z.1=y.1)∨s.heap.objs.size≤y.1)→R (.ref f) s') :
  wpAny (model X.prog X.w) X.A (eval (.Lambda params body sc pos) X.env) R X.xe s:=by
 obtain ⟨ps,hP,⟨mo,hmo⟩,ht,hcs⟩:=hT
 have inTp:∀ {p:Addr×Obj},p∈tp→p∈X.pn++(pins++tp):=fun hp=>List.mem_append_right _ (List.mem_append_right _ hp)
 obtain ⟨gP,nP,lP,fP,dP⟩:=I.pin _ (inTp hP)
 have hcl:closureFor sc X.env=pure (JAi X.env.cells sc.names []):=JB1 fun n hn=>by
  obtain ⟨c,e⟩:=I.ok.has n (hfree n hn)
  rw [e];rfl
 have hg:s.heap.Ns mainGlobals X.mg:=I.mod.glob.keeps I.bk
 have hgP:mainGlobals≠P:=fun z=>by
  obtain ⟨o,es,ep,e,_⟩:=I.mod.glob
  exact I.ok.noex _ _ e (z▸hex)
 have hBs:s.heap.BuiltinsAt X.mg P:=by
  obtain ⟨bm,ob,b1,b2,b3,b4,b5,b6⟩:=hB
  exact ⟨bm,ob,b1,b2,b3,b4,I.bk _ _ b5,b6⟩
 have newp:∀ {b:Addr} {o:Obj} {h2:Heap},s.heap.objs.size≤b→h2.get? b=some o→(∀v,o.data≠.cell v)→h2.get? b=some o∧H b=none∧b≠X.env.locals∧b ∉ X.fs∧∀v,o.data≠.cell v:=fun {b o h2} hb e d =>
  ⟨e,I.hok.fresh hb,Nat.ne_of_gt (Nat.lt_of_lt_of_le I.lt hb),I.nofs hb,d⟩
 refine PySem.W.kla_eval hdef ?_
 rw [hq]
 cases hf:codeAmong pos ps.toList with
 | none =>
  refine PySem.W.kla_makeFunction (mg:=X.mg) hcl I.ok.glob hg hcode (hC.keeps I.bk) gP ht hf hgP hBs fun c' ctv h' tk hx hge hlt hrec htb=>?_
  obtain ⟨c2,oc,vs,t,e2,hoc,hd,hv⟩:=hrec
  cases e2
  have kp:∀b o,b≠P→s.heap.get? b=some o→(h'.push (PySem.W.kla_obj "<lambda>" q params body sc (JAi X.env.cells sc.names []) ((X.mg "__name__").getD .none) c' ctv)).get? b=some o:=fun b o hb e=>Heap.get?_push_of_some _ (hx b o hb e)
  have hle:s.heap.objs.size≤h'.objs.size:=Nat.le_trans hge (Nat.le_of_lt hlt)
  refine h h'.objs.size c' ctv ((P,PySem.W.tabObj (ps++#[rawInt pos.line,rawInt pos.col,.ref c']))::(c',oc)::(h'.objs.size,PySem.W.kla_obj "<lambda>" q params body sc (JAi X.env.cells sc.names []) ((X.mg "__name__").getD .none) c' ctv)::tp.filter fun p=>p.1 != P) _ ?_ (JF6 I hex nP kp (fun p hp=>?_) tk) (by simp) ⟨oc,vs,t,by simp,hd,hv⟩ (fun y hy=>by
    rcases List.mem_cons.mp hy with rfl | hy
    · exact .inl ⟨_,hP,rfl⟩
    · rcases List.mem_cons.mp hy with rfl | hy
      ·exact .inr hge
      ·rcases List.mem_cons.mp hy with rfl | hy
       ·exact .inr hle
       ·exact .inl ⟨y,(List.mem_filter.mp hy).1,rfl⟩)
  · refine ⟨_,List.mem_cons_self,⟨mo++#[rawInt pos.line,rawInt pos.col,.ref c'],by rw [hmo,Array.append_assoc]⟩,by rw [Array.toList_append];exact TriplesOk_snoc _ _ _ _ ht,fun p2 v e=>?_⟩
    rw [Array.toList_append] at e
    rcases JGb ht e with e | e
    · obtain ⟨c3,oc3,vs3,t3,z1,z2,z3,z4⟩:=hcs p2 v e
      refine ⟨c3,oc3,vs3,t3,z1,?_,z3,z4⟩
      refine List.mem_cons_of_mem _ (List.mem_cons_of_mem _ (List.mem_cons_of_mem _ (List.mem_filter.mpr ⟨z2,?_⟩)))
      simp only [bne_iff_ne,ne_eq]
      intro z
      have a1:=(I.pin _ (inTp z2)).1
      rw [show c3=P from z,gP] at a1
      cases a1
      have z3:Data.fields ps=Data.fields vs3:=z3
      cases z3
      have hl1:ps.toList[1]? = some (.str q t3):=by rw [←z4];simp
      cases hl:ps.toList with
      | nil=>rw [hl] at hl1;simp at hl1
      | cons x1 r1 =>
       cases r1 with
       | nil=>rw [hl] at hl1;simp at hl1
       | cons x2 r2 =>
        rw [hl] at hl1 ht
        simp only [List.getElem?_cons_succ,List.getElem?_cons_zero,Option.some.injEq] at hl1
        subst hl1
        cases x1<;>simp [TriplesOk] at ht
    · exact ⟨c',oc,vs,t,e,by simp,hd,hv⟩
  · rcases List.mem_append.mp hp with hp | hp
    · obtain ⟨a1,a2,a3,a4,a5⟩:=I.pin p (List.mem_append_left _ hp)
      exact ⟨kp _ _ (hpn p (List.mem_append_left _ hp)) a1,a2,a3,a4,a5⟩
    · rcases List.mem_append.mp hp with hp | hp
      ·obtain ⟨a1,a2,a3,a4,a5⟩:=I.pin p (List.mem_append_right _ (List.mem_append_left _ hp))
       exact ⟨kp _ _ (hpn p (List.mem_append_right _ hp)) a1,a2,a3,a4,a5⟩
      ·rcases List.mem_cons.mp hp with rfl | hp
       ·exact ⟨Heap.get?_push_of_some _ htb,nP,lP,fP,by intro v z;cases z⟩
       ·rcases List.mem_cons.mp hp with rfl | hp
        ·exact newp hge (Heap.get?_push_of_some _ hoc) (by intro v z;rw [hd] at z;cases z)
        ·rcases List.mem_cons.mp hp with rfl | hp
         ·exact newp hle (Heap.get?_push_size _ rfl) (by intro v z;cases z)
         ·obtain ⟨hp,hne⟩:=List.mem_filter.mp hp
          obtain ⟨a1,a2,a3,a4,a5⟩:=I.pin p (inTp hp)
          exact ⟨kp _ _ (by simpa using hne) a1,a2,a3,a4,a5⟩
 | some v =>
  obtain ⟨c',oc,vs,t,rfl,hm,hd,hv⟩:=hcs pos v hf
  refine PySem.W.kla_makeFunctionHit (mg:=X.mg) hcl I.ok.glob hg hcode (hC.keeps I.bk) gP ht hf hBs fun ctv h' tk hk hle=>?_
  have kp:∀b o,s.heap.get? b=some o→(h'.push (PySem.W.kla_obj "<lambda>" q params body sc (JAi X.env.cells sc.names []) ((X.mg "__name__").getD .none) c' ctv)).get? b=some o:=fun b o e=>Heap.get?_push_of_some _ (hk b o e)
  refine h h'.objs.size c' ctv ((h'.objs.size,PySem.W.kla_obj "<lambda>" q params body sc (JAi X.env.cells sc.names []) ((X.mg "__name__").getD .none) c' ctv)::tp) _ ?_ (JF6 I hex nP (fun b o _ e=>kp b o e) (fun p hp=>?_) tk) (by simp) ⟨oc,vs,t,List.mem_cons_of_mem _ hm,hd,hv⟩ (fun y hy=>by
    rcases List.mem_cons.mp hy with rfl | hy
    · exact .inr hle
    · exact .inl ⟨y,hy,rfl⟩)
  · exact ⟨ps,List.mem_cons_of_mem _ hP,⟨mo,hmo⟩,ht,fun p2 v e=>by
      obtain ⟨c3,oc3,vs3,t3,z1,z2,z3⟩:=hcs p2 v e
      exact ⟨c3,oc3,vs3,t3,z1,List.mem_cons_of_mem _ z2,z3⟩⟩
  · have old:∀p∈X.pn++(pins++tp),(h'.push (PySem.W.kla_obj "<lambda>" q params body sc (JAi X.env.cells sc.names []) ((X.mg "__name__").getD .none) c' ctv)).get? p.1=some p.2∧H p.1=none∧p.1≠X.env.locals∧p.1 ∉ X.fs∧∀v,p.2.data≠.cell v:=fun p hp=>by
      obtain ⟨a1,a2,a3,a4,a5⟩:=I.pin p hp
      exact ⟨kp _ _ a1,a2,a3,a4,a5⟩
    rcases List.mem_append.mp hp with hp | hp
    · exact old p (List.mem_append_left _ hp)
    · rcases List.mem_append.mp hp with hp | hp
      ·exact old p (List.mem_append_right _ (List.mem_append_left _ hp))
      ·rcases List.mem_cons.mp hp with rfl | hp
       ·exact newp hle (Heap.get?_push_size _ rfl) (by intro v z;cases z)
       ·exact old p (inTp hp)
end
end VI
end
section
namespace VI
open PySem PySem.Spec PyProof.Rows L2
section
variable {B:Bs} {C:Cn} {G Gh:List (Str×GK)}
structure HotG (G Gh:List (Str×GK)):Prop where
 sub:∀x k,Gh.lookup x=some k→k=.opt∨G.lookup x=some k
 nofn:∀x i,Gh.lookup x≠some (.fn i)
 hot:Gh.lookup (".hot":Str)=some .opt
 notry:Gh.lookup (".try":Str)=none
theorem HotG.at (h:HotG G Gh) {x:Str} {k:GK} (e:Gh.lookup x=some k) (hk:k≠.opt):G.lookup x=some k:=(h.sub x k e).resolve_left hk
theorem JOD {X X3:Cx} {XX:Nat→Hp→Prop} (g:Gk X B C (CXV X.prog X.w B) XX G) (hg:HotG G Gh) (h1:X3.K=X.K) (h2:X3.mg=X.mg) (h3:X3.prog=X.prog) (h4:X3.w=X.w) (hu:X3.A.units+200<cLine):Gk X3 B C (CXV X3.prog X3.w B) (fun _ _=>False) Gh where
 K:=h1.trans g.K
 W:=h4.trans g.W
 anti:=fun _ _ _ _ z=>z
 units:=hu
 calm:=fun c=>by have:=c.out;rw [hg.hot] at this;cases this
 fn:=fun x i e=>absurd e (hg.nofn x i)
 pas:=fun _ _ _ _ _ _ _ z=>(JEc _ _ _ _ _ z).elim
 con:=fun x i d e q=>by rw [h2];exact g.con x i d (hg.at e (by intro z;cases z)) q
 noexg:=g.noexg
 blt:=fun x b e=>by rw [h2];exact g.blt x b (hg.at e (by intro z;cases z))
 rng:=fun x e=>by rw [h2];exact g.rng x (hg.at e (by intro z;cases z))
 isi:=fun x e=>by rw [h2];exact g.isi x (hg.at e (by intro z;cases z))
 ty:=fun x t e=>by rw [h2];exact g.ty x t (hg.at e (by intro z;cases z))
 cls:=fun x c e=>by rw [h2];exact g.cls x c (hg.at e (by intro z;cases z))
 nam:=fun x e=>by rw [h2];exact g.nam x (hg.at e (by intro z;cases z))
theorem JIv {X X1:Cx} {XX:Nat→Hp→Prop} {pins:List (Addr×Obj)} {σ:St} {H:Hp} {s:Shared} {x:Str} {st:Stmt} {fc:Addr} {fo:FuncData} {N ps:List Str} {fd:Fd} {ds:List D} {vs:List V} {us:List Value} {d:D} {Q:VK} {E:Value→Shared→Prop}
  (I:Inv X1 pins σ H s) (g:Gk X B C (CXV X.prog X.w B) XX G) (hg:HotG G Gh) (h1:X1.K=X.K) (h2:X1.mg=X.mg) (h3:X1.prog=X.prog) (h4:X1.w=X.w)
  (hroom:X1.A.depth<recursionLimit) (hu:X1.A.units+203<cLine) (F:Fun X1.K x x st fc fo) (T:Turned Gh st N ps fd) (hb:Binds X1.K fo ps []) (ra:Rare B C (CXV X1.prog X1.w B) Gh) (rr:RareS B C (CXV X1.prog X1.w B) Gh)
  (dn:DenL B H ds vs) (r:Vals vs us) (hl:ds.length=ps.length) (hx:exec C fd.body (ds.map Sl.val++List.replicate (N.length - ds.length) Sl.no)=.rt d) (hQ:∀v H',Same H H'→Den B H' d v→Q v H') :
  wpAny (model X1.prog X1.w) X1.A (call (.ref fc) us) (EP X1 pins σ Q) E s:=by
 obtain ⟨oc,od,kV,doc,pm,an,cdv,ct,osl,rfl,lk,hcd⟩:=F.ex
 have e0:=I.env0
 have KX:X1.K.In s.heap:=I.kIn
 have lvs:=DenL.len ds vs dn
 have lus:=r.length
 have hlu:(us++([]:List Value)).length=ps.length:=by simp;omega
 have hbs:=hb s us KX hlu
 simp only [List.append_nil] at hbs hlu
 have hkind:∀y∈ps.zip us,(JAC st).names.lookup y.1=some .local∨((JAC st).names.lookup y.1=some .cell∧((cellsFrom (s.heap.objs.size+1) (JAC st).names []).lookup y.1).isSome=true):=fun ⟨n,v⟩ hy=>by
  rcases T.sc.par n (List.of_mem_zip hy).1 with q | q
  · exact .inl q
  · exact .inr ⟨q,PySem.W.cellsFrom_some _ _ _ (.inl q)⟩
 refine wpAny_call (codeAny_mono (R:=fun r s'=>match r with | .ok (.ret u)=>CE X1.stack X1.prog X1.w H s Q u s' | .ok _=>False | .error _=>False) ?_ fun r s' hq=>?_)
 ·refine codeAny_call_function hroom (KX _ _ lk) rfl T.sc.co T.sc.gen rfl (PySem.W.codeRec_of KX hcd) (hbs _ _ _ _ ?_)
  refine wpAny_newFunctionEnv_cells T.sc.kind hkind fun env he s1 xx=>?_
  subst he
  refine ⟨I.nolimit.keeps xx.toInCall.keep,codeAny_func ?_⟩
  have e00:Env0 X1.prog X1.w X1.K X1.mg X1.base { X1.A with handled:=none } X1.stack s H:=⟨e0.frames,e0.mod,e0.bs,e0.bsz,e0.funs,e0.frf,e0.hok,e0.bare⟩
  have I0:=JBo (CX:=CXV X1.prog X1.w B) (E:=fun _ _ _=>False) T.sc rfl e00 (by omega:vs.length=ps.length) r xx
  have I3:Inv (atX (cxOf (CXV X1.prog X1.w B) X1.prog X1.w X1.K X1.mg X1.base N x (JAC st) fc cdv { X1.A with handled:=none } X1.stack s H (fun _ _ _=>False)) (X1.A.deeper (envOfC x (JAC st) s.heap.objs.size fc cdv)) [] (fun _ _=>False) false) [] (start N vs) H s1:=by
    refine JFB I0 ?_ (fun z=>by cases z) (fun p hp=>by simp at hp)
    show (X1.A.deeper _).frames=(Around.deeper { X1.A with handled:=none } _).frames
    rw [Around.frames_deeper e0.frames,Around.frames_deeper (A:={ X1.A with handled:=none }) e00.frames]
  have g3:=JOD (X3:=atX (cxOf (CXV X1.prog X1.w B) X1.prog X1.w X1.K X1.mg X1.base N x (JAC st) fc cdv { X1.A with handled:=none } X1.stack s H (fun _ _ _=>False)) (X1.A.deeper (envOfC x (JAC st) s.heap.objs.size fc cdv)) [] (fun _ _=>False) false) g hg h1 h2 h3 h4 (by show X1.A.units+3+200<_;omega)
  have hs:=JDp ra rr 60 _ _ _ _ true g3 T.sc.kind rfl rfl T.sc.nd PassesOwn.never (fun _=>rfl) (fun _ nm c m j p1 p2 p3 pos a1 a2 a3 pins s σ H D I z=>z.elim) (fun _ z=>by rw [hg.notry] at z;cases z)
  have hpl:ps.length≤N.length:=by have:=congrArg List.length T.sc.pre;rw [List.length_take] at this;omega
  refine wpAny_mono (JBe hs T.comp [] s1 (start N vs) H { nx:=fun _ _=>False,rt:=Q } I3 ⟨_,_,H,Same.refl H,JB4 dn rfl (by omega),by rw [hx];exact fun v H' sm dn'=>hQ v H' sm dn'⟩) (fun fl s' hs=>?_) fun e s' z=>z.elim
  cases fl with
  | ret u =>
    obtain ⟨v,σ',H',J,rv,q⟩:=hs
    exact ⟨v,H',J.os,J.bare,J.base,J.hok,rv,q⟩
  | next=>obtain ⟨_,_,_,z⟩:=hs;exact z.elim
  | brk=>obtain ⟨_,_,_,z⟩:=hs;exact z.elim
  | cont=>obtain ⟨_,_,_,z⟩:=hs;exact z.elim
 ·cases r with
  | error e=>exact False.elim hq
  | ok fl =>
    cases fl with
    | ret u=>exact I.after hq
    | next=>exact False.elim hq
    | brk=>exact False.elim hq
    | cont=>exact False.elim hq
end
end VI
end
section
namespace VI
open PySem PySem.Spec PyProof.Rows L2
structure ToldD (st:Stmt) (d en gn cn:Str):Prop where
 body:∃p1 p2 p3 p4 p5 p6 p7 p8 p9 p10,JAZ st=[.Try [.Return (some (.Call (.Name d p1) [] [] p2)) p3] [.ExceptHandler (some (.Name gn p4)) (some en) [.Return (some (.Call (.Name cn p5) [.Name en p6] [] p7)) p8] p9] [] [] p10]
 sc:FnScope [d,en] [d] (JAC st)
 ld:(JAC st).names.lookup d=some .local
 le:(JAC st).names.lookup en=some .local
 lg:(JAC st).names.lookup gn=some .globalImplicit
 lc:(JAC st).names.lookup cn=some .globalImplicit
 bd:JAH d=false
 be:JAH en=false
 bg:JAH gn=false
 bc:JAH cn=false
section
variable {X:Cx} {B:Bs} {C:Cn} {XX:Nat→Hp→Prop} {G Gh:List (Str×GK)} {pins:List (Addr×Obj)} {σ:St} {H:Hp} {s:Shared}
structure ToldT (X:Cx) (B:Bs) (C:Cn) (G Gh:List (Str×GK)) (ft fc:Addr) (tn:Str) (stt:Stmt) (cg:Nat) (fdc:Fd):Prop where
 ex:∃(d en gn cn:Str) (fot foc:FuncData) (stc:Stmt) (Nc psc:List Str),ToldD stt d en gn cn∧Fun X.K tn tn stt ft fot∧Binds X.K fot [d] []∧X.mg gn=some (.ref (B.cl cg))∧X.mg cn=some (.ref fc)∧PySem.W.keepIn X.K (.ref fc)=true∧Fun X.K cn cn stc fc foc∧Turned Gh stc Nc psc fdc∧Binds X.K foc psc []∧psc.length=1∧Nc.length=fdc.slots
 hot:HotG G Gh
 ra:Rare B C (CXV X.prog X.w B) Gh
 rr:RareS B C (CXV X.prog X.w B) Gh
 exm:∀k,C.sub k cg=true→PySem.W.exmOne B.K (.ref (B.cl k)) (.ref (B.cl cg))=some true
noncomputable def JBE (C:Cn) (cg:Nat) (fdc:Fd) (r:R D):R D:=match r with
 | .ok d=>.ok d
 | .exc c=>if C.sub c cg=true then (match exec C fdc.body ([Sl.val (excD c)]++List.replicate (fdc.slots - 1) Sl.no) with
  | .rt d=>.ok d
  | _=>.bad) else .bad
 | .bad=>.bad
theorem JGV {ft fc f:Addr} {tn:Str} {stt:Stmt} {cg:Nat} {fdc:Fd} {r:R D} {Q:VK}
  (I:Inv X pins σ H s) (g:Gk X B C (CXV X.prog X.w B) XX G) (W:ToldT X B C G Gh ft fc tn stt cg fdc) (hst:X.stack=X.env::X.outer) (hh:X.A.handled=none) (hroom:X.A.depth+3<recursionLimit) (hu:X.A.units+220<cLine)
  (hf:∃o fd,s.heap.get? f=some o∧o.data=.func fd∧H f=none∧f ∉ frs X.stack)
  (hdeed:∀(A:Around) (env:PySem.Env) (s1:Shared) (E:XK) (Q:VK),A.handled=none→A.depth=X.A.depth+1→A.units=X.A.units+3→Env0 X.prog X.w B.K X.mg X.base A (env::X.stack) s1 H→(∀b o,s.heap.get? b=some o→H b=none→b ∉ frs X.stack→s1.heap.get? b=some o)→KE B (XXd B E) r H Q →
    codeAny (model X.prog X.w) A (.call (.ref f) ⟨[],[]⟩) (CR (CXV X.prog X.w B) (env::X.stack) X.prog X.w H s1 Q E) s1)
  (hq:KE B (fun _ _=>False) (JBE C cg fdc r) H Q):wpAny (model X.prog X.w) X.A (call (.ref ft) [.ref f]) (EP X pins σ Q) X.xe s:=by
 obtain ⟨d,en,gn,cn,fot,foc,stc,Nc,psc,TD,Ft,bt,mgg,mgc,kic,Fc,Tc,bc,lpc,lNc⟩:=W.ex
 obtain ⟨p1,p2,p3,p4,p5,p6,p7,p8,p9,p10,hbody⟩:=TD.body
 obtain ⟨oc,od,kV,doc,pm,an,cdv,ct,osl,rfl,lk,hcd⟩:=Ft.ex
 have e0:=I.env0
 have KX:X.K.In s.heap:=I.kIn
 have hbs:=bt s [.ref f] KX rfl
 simp only [List.append_nil] at hbs
 have hkind:∀y∈[d].zip [Value.ref f],(JAC stt).names.lookup y.1=some .local∨((JAC stt).names.lookup y.1=some .cell∧((cellsFrom (s.heap.objs.size+1) (JAC stt).names []).lookup y.1).isSome=true):=fun ⟨n,v⟩ hy=>by
  simp only [List.zip_cons_cons,List.zip_nil_right,List.mem_singleton,Prod.mk.injEq] at hy
  exact .inl (hy.1▸TD.ld)
 refine wpAny_call (codeAny_mono (R:=fun r s'=>match r with | .ok (.ret u)=>CE X.stack X.prog X.w H s Q u s' | .ok _=>False | .error _=>False) ?_ fun r s' hq=>?_)
 case refine_2 =>
  cases r with
  | error e=>exact False.elim hq
  | ok fl =>
    cases fl with
    | ret u=>exact I.after hq
    | next=>exact False.elim hq
    | brk=>exact False.elim hq
    | cont=>exact False.elim hq
 refine codeAny_call_function (by omega) (KX _ _ lk) rfl TD.sc.co TD.sc.gen rfl (PySem.W.codeRec_of KX hcd) (hbs _ _ _ _ ?_)
 refine wpAny_newFunctionEnv_cells TD.sc.kind hkind fun env he s1 xx=>?_
 subst he
 refine ⟨I.nolimit.keeps xx.toInCall.keep,codeAny_func ?_⟩
 have I1:=JBo (CX:=CXV X.prog X.w B) (E:=fun _ _ _=>False) TD.sc hh e0 (by rfl:[V.ref f].length=[d].length) (.cons rfl .nil) xx
 obtain ⟨X1,hX1⟩:∃X1,X1=cxOf (CXV X.prog X.w B) X.prog X.w X.K X.mg X.base [d,en] tn (JAC stt) ft cdv X.A X.stack s H (fun _ _ _=>False):=⟨_,rfl⟩
 rw [←hX1] at I1
 have eEnv:X1.env=envOfC tn (JAC stt) s.heap.objs.size ft cdv:=by rw [hX1];rfl
 have eA:X1.A=X.A.deeper (envOfC tn (JAC stt) s.heap.objs.size ft cdv):=by rw [hX1];rfl
 have eSt:X1.stack=X1.env::X.stack:=by rw [hX1];rfl
 have eOu:X1.outer=X.stack:=by rw [hX1];rfl
 have eEx:X1.ex=[]:=by rw [hX1];rfl
 have ePn:X1.pn=[]:=by rw [hX1];rfl
 have eS0:X1.s₀=s:=by rw [hX1];rfl
 have eH0:X1.H₀=H:=by rw [hX1];rfl
 have eN:X1.N=[d,en]:=by rw [hX1];rfl
 have eFr:X1.env.frame=some X1.env.locals:=by rw [hX1];rfl
 have eSc:X1.env.scope=JAC stt:=by rw [hX1];rfl
 have eK:X1.K=X.K:=by rw [hX1];rfl
 have eMg:X1.mg=X.mg:=by rw [hX1];rfl
 have eP:X1.prog=X.prog:=by rw [hX1];rfl
 have eW:X1.w=X.w:=by rw [hX1];rfl
 have eB:X1.base=X.base:=by rw [hX1];rfl
 have eHd:X1.A.handled=none:=by rw [hX1];exact hh
 have eDp:X1.A.depth=X.A.depth+1:=by rw [hX1];rfl
 have eUn:X1.A.units=X.A.units+3:=by rw [hX1];rfl
 have eCa:X1.calm=true:=by rw [hX1];rfl
 have eFn:∀nm,X1.fn nm=true:=by rw [hX1];exact fun _=>rfl
 have ceOf:∀ {X':Cx} {pins':List (Addr×Obj)} {σ':St} {u:Value} {s':Shared},X'.prog=X.prog→X'.w=X.w→X'.fs=frs X.stack→X'.ex=[]→X'.s₀=s→X'.H₀=H→EP X' pins' σ' Q u s'→CE X.stack X.prog X.w H s Q u s':=fun {X' pins' σ' u s'} a1 a2 a3 a4 a5 a6 ⟨v,H',J,r,q⟩=>by
  refine ⟨v,H',by rw [J.os,a5],J.bare,?_,by rw [←a1,←a2];exact J.hok,r,q⟩
  have:=J.base
  rw [a3,a4,a5,a6] at this
  exact this
 refine wpAny_mono (Q:=fun fl s'=>∃u,fl=Flow.ret u∧CE X.stack X.prog X.w H s Q u s') (E:=fun _ _=>False) ?_ (fun fl s' ⟨u,e,q⟩=>by subst e;exact q) fun _ _ z=>z.elim
 show wpAny (model X.prog X.w) (X.A.deeper (envOfC tn (JAC stt) s.heap.objs.size ft cdv)) (execs (JAZ stt) (envOfC tn (JAC stt) s.heap.objs.size ft cdv)) _ _ s1
 rw [←eA,←eEnv,hbody,←eP,←eW]
 refine wpAny_execs_cons (wpAny_Try_except ?_)
 obtain ⟨hx,hhx⟩:∃hx:Value→Shared→Prop,hx=fun e s₁=>wpAny (model X1.prog X1.w) X1.A (noteFrame e X1.env) (fun _ s₂=>wpAny (model X1.prog X1.w) X1.A (setFlight e none) (fun _ s₃=>wpAny (model X1.prog X1.w) X1.A (handleBy e X1.env [.ExceptHandler (some (.Name gn p4)) (some en) [.Return (some (.Call (.Name cn p5) [.Name en p6] [] p7)) p8] p9]) (fun f s'=>match f with | .next=>wpAny (model X1.prog X1.w) X1.A (execs [] X1.env) (fun fl s'=>∃u,fl=Flow.ret u∧CE X.stack X1.prog X1.w H s Q u s') (fun _ _=>False) s' | f=>∃u,f=Flow.ret u∧CE X.stack X1.prog X1.w H s Q u s') (fun _ _=>False) s₃) (fun _ _=>False) s₂) (fun _ _=>False) s₁:=⟨_,rfl⟩
 show wpAny (model X1.prog X1.w) X1.A _ _ _ s1
 refine wpAny_mono (Q:=fun fl s'=>∃u,fl=Flow.ret u∧CE X.stack X1.prog X1.w H s Q u s') (E:=hx) ?_ (fun fl s' ⟨u,e,q⟩=>by subst e;exact ⟨u,rfl,q⟩) (fun e s' z=>by rw [hhx] at z;exact z)
 refine wpAny_execs_cons ?_
 have hnd:X1.N.Nodup:=by rw [eN];exact TD.sc.nd
 have hi:X1.N[1]? = some en:=by rw [eN];rfl
 have h0:X1.N[0]? = some d:=by rw [eN];rfl
 have hle:X1.env.scope.names.lookup en=some .local:=by rw [eSc];exact TD.le
 have hld:X1.env.scope.names.lookup d=some .local:=by rw [eSc];exact TD.ld
 have hgl:Gl X1 gn:=by show X1.env.scope.names.lookup gn=_;rw [eSc];exact TD.lg
 have hgc:Gl X1 cn:=by show X1.env.scope.names.lookup cn=_;rw [eSc];exact TD.lc
 have hcal:X1.calm=true→X1.A.handled=none:=fun _=>eHd
 have I2:Inv (atX X1 X1.A [] hx true) [] (start [d,en] [V.ref f]) H s1:=JFB I1 rfl (fun _=>eHd) (fun p hp=>by simp at hp)
 refine wpAny_Return_some (wpAny_Call_Name_kw (thn (JD1 (X:=atX X1 X1.A [] hx true) (i:=0) h0 (.inl hld) (JAF TD.bd).1 (JAF TD.bd).2.1 [] s1 _ H (fun v H1=>v=.ref f∧H1=H) I2 ⟨.ref f,rfl,rfl,rfl⟩) fun u s2 ⟨v,H1,I3,rv,hv,hH⟩=>?_))
 subst hv;subst hH
 have ru:u=.ref f:=rv
 subst ru
 have I3':Inv X1 [] (start [d,en] [V.ref f]) H1 s2:=JKB I3 rfl hcal (fun p hp=>by rw [ePn] at hp;simpa using hp)
 have kp:∀b o,s.heap.get? b=some o→H1 b=none→b ∉ frs X.stack→s2.heap.get? b=some o:=fun b o q1 q2 q3=>by
  have:=I3'.base.keep b o
  rw [eS0,eH0,eEx] at this
  refine this q1 q2 (fun z=>?_) (by simp)
  have e:X1.fs=frs X.stack:=by rw [hX1];rfl
  rw [e] at z;exact q3 z
 obtain ⟨fo,ffd,fe,fdd,fH,fst⟩:=hf
 rw [←eP,←eW] at hdeed
 refine callWith_meth0 fdd (kp _ _ fe fH fst) (wpAny_call (codeAny_mono (hdeed X1.A X1.env s2 (fun u n H'=>∃c,u=.ref (B.cl c)∧r=.exc c∧Same H1 H') Q eHd eDp eUn ?_ kp ?_) fun rr s3 hr=>?_))
 ·have:=I3'.env0
  rw [eK,eMg,eB,eSt,g.K] at this
  exact this
 ·cases r with
  | ok dd=>exact hq
  | exc c=>exact fun H' sm=>⟨c,rfl,rfl,sm⟩
  | bad=>exact hq
 cases rr with
 | ok fl =>
  cases fl with
  | ret u =>
    refine ⟨u,rfl,?_⟩
    have hr':CE X1.stack X1.prog X1.w H1 s2 Q u s3:=by rw [eSt];exact hr
    rw [eP,eW]
    exact ceOf (X':=X1) eP eW (by rw [hX1];rfl) eEx eS0 eH0 (I3'.after hr')
  | next=>exact False.elim hr
  | brk=>exact False.elim hr
  | cont=>exact False.elim hr
 | error e =>
  obtain ⟨ea,T,c',H',ee,os,bare,un,hok,tr,⟨f1,f2⟩,⟨f3,f4⟩,⟨c2,ec,hr,sm⟩⟩:=hr
  subst ee;subst hr
  rw [hhx]
  unfold JBE at hq
  split at hq
  case h_1 e=>cases e
  case h_3 e=>cases e
  rename_i c3 e3
  cases e3
  split at hq
  case isFalse=>exact False.elim hq
  rename_i hs1
  split at hq
  case h_2=>exact False.elim hq
  rename_i dd hdd
  rw [←eSt] at un
  have J0:Inv X1 [] (start [d,en] [V.ref f]) H' s3:=I3'.call' (ch:=[]) os un hok bare (fun b hb=>by simp at hb)
  obtain ⟨oe,vs,a0,oT,ts,q1,q2,q3,q4,q6,q7,q8,q9⟩:=id tr
  have fr0:∀b,s2.heap.get? b=none→X1.s₀.heap.get? b=none:=fun b q=>by
    cases z:X1.s₀.heap.get? b with
    | none=>rfl
    | some o =>
     obtain ⟨o',e2⟩:=I3'.base.there b o z (by rw [eEx];simp)
     rw [q] at e2;cases e2
  have has:∀b∈(ea::T::frs X1.stack),b∈frs X1.stack∨(X1.s₀.heap.get? b=none∧H' b=none):=fun b hb=>by
    rcases List.mem_cons.mp hb with rfl | hb
    ·exact .inr ⟨fr0 _ f1,f2⟩
    ·rcases List.mem_cons.mp hb with rfl | hb
     ·exact .inr ⟨fr0 _ f3,f4⟩
     ·exact .inl hb
  have hpin:∀p∈X1.pn++[],p.1 ∉ (ea::T::frs X1.stack):=fun p hp hm=>by rw [ePn] at hp;simp at hp
  have stk:=J0.stack
  have fl0:Heap.FlyingW (PySem.W.hideAll s3.heap (ea::T::frs X1.stack)) X1.stack ea (.ref (B.cl c')) a0 s3.heap :=
    ⟨fun b o q=>PySem.W.of_hideAll _ q,PySem.W.hideAll_none _ (by simp),PySem.W.funFrames_hide stk (fun env he a hf=>List.mem_cons_of_mem _ (List.mem_cons_of_mem _ (List.mem_filterMap.mpr ⟨env,he,hf⟩))),oe,vs,T,oT,ts,q1,q2,q3,q4,PySem.W.hideAll_none _ (by simp),q6,q7,q8,q9⟩
  have eSt':X1.stack=X1.env::X1.outer:=by rw [eSt,eOu]
  refine PySem.wpAny_looks_onW (base:=PySem.W.hideAll s3.heap (ea::T::frs X1.stack)) (outer:=X1.outer) (cls:=.ref (B.cl c')) (a0:=a0) (J0.ok.frames.trans (congrArg some eSt')) eFr (by rw [←eSt'];exact fl0) fun h4 held4 up4=>?_
  refine PySem.wpAny_landsW held4 fun h5 fl5 up5'=>?_
  have up5:=up4.trans up5'
  have J5:Inv X1 [] (start [d,en] [V.ref f]) H' { s3 with heap:=h5 }:=JF9 J0 eEx has hpin fl5 up5 s3.toks
  have J5m:Inv (atX X1 (X1.A.mark (some (.ref ea))) X1.pn (fun _ _=>False) false) [] (start [d,en] [V.ref f]) H' { s3 with heap:=h5 }:=JFB J5 rfl (fun z=>by cases z) (fun p hp=>hp)
  refine wpAny_handleBy_cons (codeAny_handlers_test (JB7 J5m hgl (eMg▸mgg) ?_ (JAF TD.bg).1)) (by intro q;cases q)
  obtain ⟨ob,hob,hoc⟩:=fl5.there
  have LT:PySem.W.Looks (model X1.prog X1.w) h5 (typeOf (.ref ea)) (.ref (B.cl c')):=by
    rw [←hoc]
    exact (PySem.W.Looks.ld hob).andThen .now
  have hex1:PySem.W.exmOne X1.K (.ref (B.cl c')) (.ref (B.cl cg))=some true:=by
    rw [eK,g.K,show Value.ref (B.cl c')=Value.ref (B.cl c2) from ec]
    exact W.exm c2 hs1
  refine (PySem.W.exm_one J5.kIn LT hex1).here (s:={ s3 with heap:=h5 }) (codeAny_handlers_suite_as ?_)
  refine lands_againW (s:={ s3 with heap:=h5 }) fl5 fun h6 fl6 up6=>?_
  have J6:Inv X1 [] (start [d,en] [V.ref f]) H' { s3 with heap:=h6 }:=JF9 J0 eEx has hpin fl6 (up5.trans up6) s3.toks
  obtain ⟨_,_,_,oe6,vs6,T6,oT6,ts6,w1,⟨w2,_⟩,w3,_⟩:=id fl6
  have ecl:B.cl c'=B.cl c2:=by
    have:=ec
    injection this
  have J7:=JG8 J6 w1 (by rw [w2,ecl]) w3 (fr0 _ f1) f2 (fun p hp z=>hpin p hp (by rw [z];simp))
  refine JBY J7 hnd hi (.inl hle) (v:=.ref ea) rfl (fun s8 J8'=>?_) (.inr hle)
  have J8:Inv (atX X1 (X1.A.mark (some (.ref ea))) X1.pn (fun _ _=>False) false) [] ((start [d,en] [V.ref f]).set 1 (some (.ref ea))) (upd H' ea (.ext (ExcAt ea (B.cl c2)))) s8:=JFB J8' rfl (fun z=>by cases z) (fun p hp=>hp)
  have gC:Gl (atX X1 (X1.A.mark (some (.ref ea))) X1.pn (fun _ _=>False) false) cn:=hgc
  obtain ⟨H6,hH6⟩:∃H6,H6=upd H' ea (.ext (ExcAt ea (B.cl c2))):=⟨_,rfl⟩
  rw [←hH6] at J8
  have sm6:Same H1 H6:=sm.trans fun b o e=>by
    rw [hH6,JAL fun z=>by rw [z,f2] at e;cases e]
    exact e
  have den6:Den B H6 (excD c2) (.ref ea):=by
    unfold excD
    simp only [Den]
    exact .inl ⟨ea,c2,rfl,rfl,by rw [hH6];exact JAM⟩
  obtain ⟨σ8,hσ8⟩:∃σ8,σ8=(start [d,en] [V.ref f]).set 1 (some (.ref ea)):=⟨_,rfl⟩
  have hσ1:σ8[1]? = some (some (.ref ea)):=by rw [hσ8];rfl
  rw [←hσ8] at J8
  obtain ⟨X3,hX3⟩:∃X3,X3=atX X1 (X1.A.mark (some (.ref ea))) X1.pn (fun _ _=>False) false:=⟨_,rfl⟩
  rw [←hX3] at J8 gC
  have a3:X3.A=X1.A.mark (some (.ref ea)):=by rw [hX3];rfl
  have n3:X3.env=X1.env:=by rw [hX3];rfl
  have p3':X3.prog=X1.prog:=by rw [hX3];rfl
  have w3':X3.w=X1.w:=by rw [hX3];rfl
  have m3:X3.mg=X.mg:=by rw [hX3];exact eMg
  have k3:X3.K=X.K:=by rw [hX3];exact eK
  have N3:X3.N=X1.N:=by rw [hX3];rfl
  refine wpAny_mono (Q:=fun fl s9=>∃u,fl=Flow.ret u∧EP X3 [] σ8 (fun v H9=>Same H6 H9∧Den B H9 dd v) u s9) (E:=fun _ _=>False) ?_ (fun fl s9 h9=>?_) fun _ _ z=>z.elim
  · rw [←a3,←n3,←p3',←w3']
    have hPA:PA X3 [.Name en p6] (JO4 (tVar 1) tNil):=JBk (JD1 (i:=1) (by rw [N3];exact hi) (.inl (by rw [n3];exact hle)) (JAF TD.be).1 (JAF TD.be).2.1) JC9
    have x3:X3.xe=fun _ _=>False:=by rw [hX3];rfl
    have hPA':=hPA p7 [] s8 σ8 H6 (fun vs H9=>vs=[V.ref ea]∧H9=H6) J8 ⟨.ref ea,hσ1,rfl,rfl⟩
    rw [x3] at hPA'
    refine wpAny_execs_cons (wpAny_Return_some (wpAny_Call_Name_kw (JB7 J8 gC (by rw [m3];exact mgc) ?_ (JAF TD.bc).1)))
    refine PySem.W.callWith_K (K:=X3.K) (h₀:=X3.base) J8.ok.mod.kin (by rw [k3];exact kic) (thn hPA' fun us s9 ⟨vs,H9,J9,rvs,hvs,hH9⟩=>⟨J9.kIn,?_⟩) rfl rfl
    subst hvs;subst hH9
    refine thn (JIv (X:=X) (X1:=X3) (Q:=fun v H10=>Same H9 H10∧Den B H10 dd v) (ds:=[excD c2]) (vs:=[V.ref ea]) (E:=fun _ _=>False) J9 g W.hot k3 m3 (p3'.trans eP) (w3'.trans eW) (by rw [a3];show X1.A.depth<_;omega) (by rw [a3];show X1.A.units+203<_;omega) (by rw [k3];exact Fc) Tc (by rw [k3];exact bc) (by rw [p3',w3',eP,eW];exact W.ra) (by rw [p3',w3',eP,eW];exact W.rr) (⟨_,_,rfl,den6,rfl⟩) rvs lpc.symm (by rw [lNc];exact hdd) fun v H10 a b=>⟨a,b⟩) fun u s10 h10=>⟨u,rfl,h10⟩
  obtain ⟨u,rfl,v,H9,J9,rv,sm9,dn9⟩:=h9
  rw [hX3] at J9
  have J9':Inv X1 [] σ8 H9 s9:=JKB J9 rfl hcal (fun p hp=>by rw [ePn] at hp;simpa using hp)
  show wpAny (model X1.prog X1.w) X1.A (do bindName X1.env en .none;unbindBehindTheSuite X1.env en p9) (fun _ s₃=>∃w,Flow.ret u=Flow.ret w∧CE X.stack X1.prog X1.w H1 s Q w s₃) (fun _ _=>False) s9
  refine wpAny_bind (wpAny_bindName (JBY J9' hnd hi (.inl hle) (v:=.non) rfl (fun s10 J10=>?_) (.inr hle)))
  unfold unbindBehindTheSuite
  have hv:(σ8.set 1 (some V.non))[1]? = some (some V.non):=by
    refine List.getElem?_set_self ?_
    have:=List.getElem?_eq_some_iff.mp hσ1
    exact this.1
  refine wpAny_onRaise (JHj J10 hnd hi hle hv fun s11 J11=>⟨u,rfl,?_⟩)
  rw [eP,eW]
  exact ceOf (X':=X1) eP eW (by rw [hX1];rfl) eEx eS0 eH0 ⟨v,H9,J11,rv,hq v H9 (sm6.trans sm9) dn9⟩
end
end VI
end
section
namespace VI
open PySem PySem.Spec PyProof.Rows L2
section
variable {X:Cx} {B:Bs} {C:Cn} {XX:Nat→Hp→Prop} {G Gh:List (Str×GK)} {P:Addr} {q:Str} {p0:Array Value}
noncomputable def Apart (X:Cx) (pins tp:List (Addr×Obj)):Prop:=∀p∈X.pn++pins,∀y∈tp,p.1≠y.1
noncomputable def PE2 (X:Cx) (P:Addr) (q:Str) (p0:Array Value) (e:Expr) (t:TE):Prop:=∀(pins tp:List (Addr×Obj)) (s:Shared) (σ:St) (H:Hp) (Q:VK),Apart X pins tp→TabP P q p0 tp→Inv X (pins++tp) σ H s→t σ H Q →
 wpAny (model X.prog X.w) X.A (eval e X.env) (fun u s'=>∃tp',Apart X pins tp'∧TabP P q p0 tp'∧EP X (pins++tp') σ Q u s') X.xe s
structure LamOk (X:Cx) (P:Addr) (q:Str):Prop where
 ex:P∈X.ex
 code:∃c,X.env.code=.ref c∧PySem.W.CodeHd X.base c P
 blt:X.base.BuiltinsAt X.mg P
 qual:X.env.qual++"<lambda>"=q
structure DeepFn (X:Cx) (B:Bs) (C:Cn) (G:List (Str×GK)):Prop where
 fn:∀x i,G.lookup x=some (.fn i)→∃f fd ps k,X.mg x=some (.ref f)∧PySem.W.keepIn X.K (.ref f)=true ∧
  FnOk X.prog X.w X.K X.mg X.base (CXV X.prog X.w B) k f fd ps (JCq B ps.length (C.fn i))∧(X.A.depth+2+3*k+5<recursionLimit∧X.A.units+6+16*k+200<cLine)∧Binds X.K fd ps []∧∀ds,C.fn i ds≠.bad→ds.length=ps.length
noncomputable def REt (B:Bs) (C:Cn) (cg:Nat) (fdc:Fd) (x:VI.E):TE:=fun σ H Q=>∃δ,Sok B σ H δ∧KE B (fun _ _=>False) (JBE C cg fdc (ev C x δ)) H Q
theorem JN2 {E:XK} {N:List Str} {qual:Str} {sc:Scope} {f:Addr} {cd:Value} {cl:List (Str×Addr)} {A:Around} {outer:List PySem.Env} {s:Shared} {H:Hp} (g:Gk X B C (CXV X.prog X.w B) XX G) (D:DeepFn X B C G) (hh:A.handled=none) (h1:A.depth=X.A.depth+1) (h2:A.units=X.A.units+3) (hu:X.A.units+220<cLine) :
  Gk (JDL X.prog X.w B X.mg X.base N qual sc f cd cl A outer s H E) B C (CXV X.prog X.w B) (XXd B E) G where
 K:=rfl
 W:=g.W
 anti:=fun c H H' sm z H'' s2=>z H'' (sm.trans s2)
 units:=by show A.units+3+200<_;omega
 calm:=fun _=>rfl
 fn:=fun x i e=>by
  obtain ⟨f,fd,ps,k,a1,a2,a3,⟨a4,a5⟩,a6,a7⟩:=D.fn x i e
  rw [g.K] at a2 a3 a6
  exact ⟨f,fd,ps,k,a1,a2,a3,⟨hh,by show A.depth+1+3*k+5<_;omega,by show A.units+3+16*k+200<_;omega⟩,a6,a7⟩
 pas:=JL1
 con:=g.con
 noexg:=g.noexg
 blt:=g.blt
 rng:=g.rng
 isi:=g.isi
 ty:=g.ty
 cls:=g.cls
 nam:=g.nam
theorem JLi {ft fc:Addr} {tn:Str} {stt:Stmt} {cg n:Nat} {fdc:Fd} {params:Arguments} {body:Expr} {sc:Scope} {x:VI.E} {p lp pos:Pos}
  (L:LamOk X P q) (g:Gk X B C (CXV X.prog X.w B) XX G) (D:DeepFn X B C G) (W:ToldT X B C G Gh ft fc tn stt cg fdc) (ra:Rare B C (CXV X.prog X.w B) G) (hst:X.stack=X.env::X.outer) (hh:X.A.handled=none) (hroom:X.A.depth+3<recursionLimit) (hu:X.A.units+220<cLine)
  (hgt:Gl X tn) (hmt:X.mg tn=some (.ref ft)) (hkt:PySem.W.keepIn X.K (.ref ft)=true) (hbt:JAH tn=false)
  (S:LamSc sc) (hdef:defaultsOf params X.env=([],[])) (hfree:∀n,(n,NameKind.free)∈sc.names→X.env.kindOf n=some .cell∨X.env.kindOf n=some .free)
  (hbind:∀(pm ctv:Value) (c':Addr) (cl:List (Str×Addr)),bindArgs (PySem.W.kla_fn "<lambda>" q params body sc cl pm (.ref c') ctv) ⟨[],[]⟩=pure []) (hnd:X.N.Nodup) (hfn:∀nm,X.fn nm=true) (hcomp:JAN G n false sc.names X.N body=some x) :
  PE2 X P q p0 (.Call (.Name tn p) [.Lambda params body sc lp] [] pos) (REt B C cg fdc x):=by
 intro pins tp s σ H Q hp hT I ⟨δ,ok,k⟩
 obtain ⟨c,hc1,hc2⟩:=L.code
 refine wpAny_Call_Name_kw (JB7 I hgt hmt ?_ (JAF hbt).1)
 refine PySem.W.callWith_K (K:=X.K) (h₀:=X.base) I.ok.mod.kin hkt ?_ rfl rfl
 show wpAny _ _ (spliced ((false,eval (.Lambda params body sc lp) X.env)::backTo pos (starEach [] X.env))) _ _ s
 refine Calls.spliced_cons (JI9 I hT (fun p hm=>by obtain ⟨ps,hP,_⟩:=hT;exact hp p hm _ hP) L.ex hc1 hc2 L.blt L.qual hdef hfree fun f c' ctv tp' s1 hT' I1 hf hcd hnew=>?_)
 refine Calls.spliced_nil ⟨I1.kIn,?_⟩
 have pin:=fun {y:Addr×Obj} (hy:y∈tp')=>I1.pin y (List.mem_append_right _ (List.mem_append_right _ hy))
 have hap:Apart X pins tp':=fun p hm y hy z=>by
  rcases hnew y hy with ⟨w,hw,e⟩ | h
  · exact hp p hm w hw (z.trans e.symm)
  · have hlt:=Heap.lt_size (I.pin p (by rcases List.mem_append.mp hm with a | a;exact List.mem_append_left _ a;exact List.mem_append_right _ (List.mem_append_left _ a))).1
    rw [z] at hlt
    exact absurd (Nat.lt_of_lt_of_le hlt h) (Nat.lt_irrefl _)
 obtain ⟨oc,vs,t,hoc,hd,hv⟩:=hcd
 have fstk:∀ {y:Addr×Obj},y∈tp'→y.1 ∉ frs X.stack:=fun {y} hy z=>by
  obtain ⟨a1,a2,a3,a4,a5⟩:=pin hy
  rcases List.mem_cons.mp (I1.stkSub _ z) with z | z
  · exact a3 z
  · exact a4 z
 refine thn (JGV (r:=ev C x δ) I1 g W hst hh hroom hu ⟨_,_,(pin hf).1,rfl,(pin hf).2.1,fstk hf⟩ (fun A env s2 E Q2 b1 b2 b3 e0 kp hq=>?_) k) fun u s' h=>⟨tp',hap,hT',h⟩
 have cg':∀ {y:Str} {c:Addr},(JAi X.env.cells sc.names []).lookup y=some c↔(y,NameKind.free)∈sc.names∧X.env.cells.lookup y=some c:=fun {y c}=>by
  rw [JBL]
  by_cases h:(y,NameKind.free)∈sc.names
  · rw [if_pos h]
    obtain ⟨d,hd⟩:=I1.ok.has y (hfree y h)
    rw [hd]
    simp [h]
  · rw [if_neg h]
    simp [h]
 have cellOk:∀ {y:Str} {c:Addr} {v:Option Value},X.env.cells.lookup y=some c→s1.heap.IsCell c v→s2.heap.IsCell c v:=fun {y c v} e ⟨o,ho,hd⟩=>⟨o,kp _ _ ho (I1.freeC y c e) fun z=>by
  rcases List.mem_cons.mp (I1.stkSub _ z) with z | z
  · exact I1.cne y c e z
  · obtain ⟨_,o',ho',_⟩:=I1.ok.funs.mem z
    exact absurd (Nat.lt_of_lt_of_le (Heap.lt_size ho') (I1.ok.cab y c (hfn y) e)) (Nat.lt_irrefl _),hd⟩
 refine JIF (name:=.none) (G:=G) (N:=X.N) (σ:=σ) (δ:=δ) (x:=x) (by omega) S b1 e0 I1.len (fun y hy=>?_) (fun y z c h1 h2=>I1.ok.inj y z c (cg'.mp h1).2 (cg'.mp h2).2) (fun y c h=>?_) (fun i y v hi hv hy=>?_) (kp _ _ (pin hf).1 (pin hf).2.1 (fstk hf)) ?_ (hbind _ _ _ _) ?_ ok hq
 ·have hm:=PySem.mem_of_lookup hy
  obtain ⟨c,hc⟩:=I1.ok.has y (hfree y hm)
  exact ⟨c,cg'.mpr ⟨hm,hc⟩⟩
 ·have hc:=(cg'.mp h).2
  obtain ⟨v,z⟩:=I1.cell y c hc
  exact ⟨⟨v,cellOk hc z⟩,I1.freeC y c hc⟩
 ·have hm:=PySem.mem_of_lookup hy
  obtain ⟨m,hn,hl⟩:=I1.loc
  obtain ⟨u,r,lk⟩:=hl i y v hi hv (.inr (hfree y hm))
  rcases lk with ⟨lk,_⟩ | ⟨_,c,hc,z⟩
  · rcases hfree y hm with z | z
    ·rw [show X.env.kindOf y=_ from lk] at z;cases z
    ·rw [show X.env.kindOf y=_ from lk] at z;cases z
  · exact ⟨u,c,r,cg'.mpr ⟨hm,hc⟩,cellOk hc z⟩
 ·exact ⟨c',oc,vs,t,rfl,kp _ _ (pin hoc).1 (pin hoc).2.1 (fstk hoc),hd,hv⟩
 ·have gl:=JN2 (N:=X.N) (qual:=q) (sc:=sc) (f:=f) (cd:=.ref c') (cl:=JAi X.env.cells sc.names []) (outer:=env::X.stack) (s:=s2) (H:=H) (E:=E) g D b1 b2 b3 hu
  exact ((sound ra n _ _ _ _ gl S.kind rfl rfl hnd).1 _ _ hcomp).1
end
end VI
end
section
namespace VI
open PySem PySem.Spec PyProof.Rows L2
section
variable {X:Cx} {B:Bs} {C:Cn} {CX:CXT} {XX:Nat→Hp→Prop} {G Gh:List (Str×GK)} {P:Addr} {q:Str} {p0:Array Value} {st:Stmt} {rest:List Stmt} {t u:TS} {pos:Pos} {x:VI.E}
noncomputable def PS2 (X:Cx) (P:Addr) (q:Str) (p0:Array Value) (st:Stmt) (t:TS):Prop:=∀(pins tp:List (Addr×Obj)) (s:Shared) (σ:St) (H:Hp) (D:Ends),Apart X pins tp→TabP P q p0 tp→Inv X (pins++tp) σ H s→t D σ H →
 wpAny (model X.prog X.w) X.A (PySem.exec st X.env) (fun fl s'=>∃tp',Apart X pins tp'∧TabP P q p0 tp'∧SP X (pins++tp') D fl s') X.xe s
noncomputable def PSs2 (X:Cx) (P:Addr) (q:Str) (p0:Array Value) (st:List Stmt) (t:TS):Prop:=∀(pins tp:List (Addr×Obj)) (s:Shared) (σ:St) (H:Hp) (D:Ends),Apart X pins tp→TabP P q p0 tp→Inv X (pins++tp) σ H s→t D σ H →
 wpAny (model X.prog X.w) X.A (execs st X.env) (fun fl s'=>∃tp',Apart X pins tp'∧TabP P q p0 tp'∧SP X (pins++tp') D fl s') X.xe s
theorem PS2.imp {t t':TS} (h:PS2 X P q p0 st t) (i:∀D σ H,t' D σ H→t D σ H):PS2 X P q p0 st t':=fun pins tp s σ H D a b I z=>h pins tp s σ H D a b I (i D σ H z)
theorem PSs2.imp {t t':TS} (h:PSs2 X P q p0 rest t) (i:∀D σ H,t' D σ H→t D σ H):PSs2 X P q p0 rest t':=fun pins tp s σ H D a b I z=>h pins tp s σ H D a b I (i D σ H z)
theorem JNT (h:PS X st t):PS2 X P q p0 st t:=fun pins tp s σ H D a b I z=>thn (h _ s σ H D I z) fun f s' z=>⟨tp,a,b,z⟩
theorem JHy:PSs2 X P q p0 [] JIY:=fun pins tp s σ H D a b I h=>wpAny_execs_nil ⟨tp,a,b,σ,H,I,h⟩
theorem JHK (h1:PS2 X P q p0 st t) (h2:PSs2 X P q p0 rest u):PSs2 X P q p0 (st::rest) (tSeq t u):=by
 intro pins tp s σ H D a b I h
 refine wpAny_execs_cons (thn (h1 pins tp s σ H { D with nx:=u D } a b I h) fun f s1 q=>?_)
 obtain ⟨tp1,a1,b1,q⟩:=q
 cases f with
 | next =>
  obtain ⟨σ',H',I',q⟩:=q
  exact h2 pins tp1 s1 σ' H' D a1 b1 I' q
 | ret v=>exact ⟨tp1,a1,b1,q⟩
 | brk=>exact ⟨tp1,a1,b1,q⟩
 | cont=>exact ⟨tp1,a1,b1,q⟩
theorem JGe {i:Nat} {y:Str} {e:Expr} {te:TE} {pos':Pos} (hN:X.N.Nodup) (hi:X.N[i]? = some y) (hx:Loc X.env.scope y) (he:PE2 X P q p0 e te) (hs:swapsWith e (some (.Name y pos')) pos.line X.env=pure false) (hf:X.fn y=true∨X.env.scope.names.lookup y=some .local) :
  PS2 X P q p0 (.Assign [.Name y pos'] e pos) (tAsg te (JDn i)):=by
 intro pins tp s σ H D a b I h
 refine wpAny_Assign_Name (thn (he pins tp s σ H _ a b I h) fun v s1 ⟨tp1,a1,b1,y,H1,I1,r1,q1⟩=>?_) hs
 exact JBY I1 hN hi hx r1 (fun s2 I2=>⟨tp1,a1,b1,_,H1,I2,q1⟩) hf
theorem JL4 {tg iter:Expr} {body:List Stmt} {wi:TI} {g:TG} {tb:TS} {pos:Pos} (hp:PassesOwn (model X.prog X.w) X.A X.env X.xe) (hc:X.calm=true) (hi:PI X tg iter wi) (hg:PG X tg g) (hb:PSs2 X P q p0 body tb)
  (hs:∀x,foldedSetIterable iter X.env x=pure x:=by intro _;rfl):PS2 X P q p0 (.For tg iter body [] pos) (tFor wi g tb):=by
 intro pins tp s σ H D ha hT I h
 refine wpAny_For (thn (hi (pins++tp) s σ H _ I h) fun v s1 h1=>thn h1 fun itv s2 h2=>?_) hs
 obtain ⟨it,fp,tn,J,H2,e,I2,T,st2,f2,W,⟨m0,w0⟩,turn⟩:=h2
 subst e
 have stat:∀ {H':Hp} {tp':List (Addr×Obj)},(∀b∈fp,H' b=none)→(∀b∈fp,∀y∈tp',y.1≠b)→∀b∈fp,FpOk X (pins++tp') H' b:=fun {H' tp'} hn hy b hb=>by
  obtain ⟨_,a2,a3,a4,a5,a6⟩:=f2 b hb
  refine ⟨hn b hb,a2,a3,a4,a5,fun p hp=>?_⟩
  rcases List.mem_append.mp hp with z | z
  · exact a6 p (List.mem_append_left _ z)
  · rcases List.mem_append.mp z with z | z
    ·exact a6 p (List.mem_append_right _ (List.mem_append_left _ z))
    ·exact hy b hb p z
 have hy0:∀b∈fp,∀y∈tp,y.1≠b:=fun b hb y hy=>(f2 b hb).2.2.2.2.2 y (List.mem_append_right _ (List.mem_append_right _ hy))
 refine codeAny_forLoop_any (fun n s'=>∃tp' i σ' H',Apart X pins tp'∧TabP P q p0 tp'∧(∀b∈fp,∀y∈tp',y.1≠b)∧Inv X (pins++tp') σ' H' s'∧tn i s'.heap∧(∀b∈fp,H' b=none)∧W i n σ' H') ?_ m0 ⟨tp,0,σ,H2,ha,hT,hy0,I2,st2,fun b hb=>(f2 b hb).1,w0⟩
 rintro n s3 ⟨tp3,i,σ3,H3,ha3,hT3,hy3,I3,st3,fr3,w3⟩
 rcases turn i n σ3 H3 w3 with ⟨stop,qn⟩ | ⟨go,N,hN,step⟩
 ·refine wpAny_passesOwn hp (thn (T.done X rfl rfl rfl hc i (pins++tp3) s3 σ3 H3 X.xe I3 (stat fr3 hy3) st3 stop) fun r s4 ⟨hr,I4⟩=>?_)
  subst hr
  exact wpAny_execs_nil ⟨tp3,ha3,hT3,σ3,H3,I4,qn⟩
 ·refine wpAny_passesOwn hp (thn (T.item X rfl rfl rfl hc i (pins++tp3) s3 σ3 H3 X.xe I3 (stat fr3 hy3) st3 go) fun r s4 ⟨u,hr,h4⟩=>?_)
  subst hr
  refine wpAny_passesOwn hp (thn h4 fun _ s5 ⟨x,H5,I5,r5,y5,st5,fr5⟩=>?_)
  have I5':Inv X ((pins++JB0 fp s5.heap)++tp3) σ3 H5 s5:=(I5.pinned (stat fr5 hy3) (T.obj _ _ st5)).pins_of fun p hp=>(I5.pinned (stat fr5 hy3) (T.obj _ _ st5)).pin p (List.mem_append_right _ (by
    rcases List.mem_append.mp hp with z | z
    ·rcases List.mem_append.mp z with z | z
     ·exact List.mem_append_left _ (List.mem_append_left _ z)
     ·exact List.mem_append_right _ z
    ·exact List.mem_append_left _ (List.mem_append_right _ z)))
  have ha5:Apart X (pins++JB0 fp s5.heap) tp3:=fun p hp y hy z=>by
    rcases List.mem_append.mp hp with w | w
    ·exact ha3 p (List.mem_append_left _ w) y hy z
    ·rcases List.mem_append.mp w with w | w
     ·exact ha3 p (List.mem_append_right _ w) y hy z
     ·exact hy3 p.1 (JEF w).1 y hy z.symm
  refine wpAny_passesOwn hp (thn (hg _ s5 σ3 H5 x u _ I5' r5 (step x H5 y5)) fun _ s6 ⟨σ6,H6,I6,q6⟩=>?_)
  refine wpAny_passesOwn hp (thn (hb _ tp3 s6 σ6 H6 _ ha5 hT3 I6 q6) fun f s7 q7=>?_)
  obtain ⟨tp7,ha7,hT7,q7⟩:=q7
  have un7:∀ {σ7:St} {H7:Hp},Inv X ((pins++JB0 fp s5.heap)++tp7) σ7 H7 s7→Inv X (pins++tp7) σ7 H7 s7:=fun {σ7 H7} I7=>I7.pins_of fun p hp=>I7.pin p (List.mem_append_right _ (by
    rcases List.mem_append.mp hp with z | z
    ·exact List.mem_append_left _ (List.mem_append_left _ z)
    ·exact List.mem_append_right _ z))
  have hap7:Apart X pins tp7:=fun p hp y hy=>ha7 p (by
    rcases List.mem_append.mp hp with w | w
    ·exact List.mem_append_left _ w
    ·exact List.mem_append_right _ (List.mem_append_left _ w)) y hy
  have again:∀ {σ7:St} {H7:Hp},Inv X ((pins++JB0 fp s5.heap)++tp7) σ7 H7 s7→N σ7 H7→∃m,m<n∧∃tp' i σ' H',Apart X pins tp'∧TabP P q p0 tp'∧(∀b∈fp,∀y∈tp',y.1≠b)∧Inv X (pins++tp') σ' H' s7∧tn i s7.heap∧(∀b∈fp,H' b=none)∧W i m σ' H':=fun {σ7 H7} I7 n7=>by
    obtain ⟨m',hm,w7⟩:=hN σ7 H7 n7
    refine ⟨m',hm,tp7,i+1,σ7,H7,hap7,hT7,fun b hb y hy z=>?_,un7 I7,T.keep _ _ _ st5 fun b hb o e=>(I7.pin (b,o) (List.mem_append_right _ (List.mem_append_left _ (List.mem_append_right _ (JA3 hb e))))).1,fun b hb=>?_,w7⟩
    ·obtain ⟨o,e,d⟩:=T.obj _ _ st5 b hb
     exact ha7 (b,o) (List.mem_append_right _ (List.mem_append_right _ (JA3 hb e))) y hy z.symm
    obtain ⟨o,e,d⟩:=T.obj _ _ st5 b hb
    exact (I7.pin (b,o) (List.mem_append_right _ (List.mem_append_left _ (List.mem_append_right _ (JA3 hb e))))).2.1
  cases f with
  | next=>obtain ⟨σ7,H7,I7,n7⟩:=q7;exact again I7 n7
  | cont=>obtain ⟨σ7,H7,I7,n7⟩:=q7;exact again I7 n7
  | brk=>obtain ⟨σ7,H7,I7,q7⟩:=q7;exact ⟨tp7,hap7,hT7,σ7,H7,un7 I7,q7⟩
  | ret v=>obtain ⟨x7,σ7,H7,I7,r7,q7⟩:=q7;exact ⟨tp7,hap7,hT7,x7,σ7,H7,un7 I7,r7,q7⟩
noncomputable def RSf (X:Cx) (B:Bs) (XX:Nat→Hp→Prop) (f:Env→Fl):TS:=fun D σ H=>∃δ O Hb,Same X.H₀ Hb∧SO B Hb σ H δ O∧JBr X B XX Hb D (f δ)
theorem JKz (g:Gk X B C CX XX G) {put:D→Env→Option Env} {gt:TG} {tb:TS} {f:Env→Fl} {De:Ends} {σ:St} {H1:Hp} {J:It} {ds:List D} {δ:Env} {O:Ow} {Hb:Hp} (hb:Same X.H₀ Hb) (so:SO B Hb σ H1 δ O) (io:ItOk B J (hid H1 O) ds)
  (hput:∀(d:D) (v:V) (σ:St) (H:Hp) (δ δ':Env) (O:Ow) (Hb':Hp) (Q:St→Hp→Prop),SO B Hb' σ H δ O→Den B (hid H O) d v→put d δ=some δ'→(∀σ' O',SO B Hb' σ' H δ' O'→Q σ' H)→gt v σ H Q)
  (htb:∀De σ H,RSf X B XX f De σ H→tb De σ H) (k:JBr X B XX Hb De (forL put (f) ds δ)) :
  ∃W:Nat→Nat→St→Hp→Prop,(∃m,W 0 m σ H1)∧∀i m σ H,W i m σ H→(J.stop i H∧De.nx σ H)∨(J.go i H∧∃N:St→Hp→Prop,(∀σ' H',N σ' H'→∃m',m'<m∧W (i+1) m' σ' H')∧∀x H',J.yld i H x H'→gt x σ H' fun σ2 H2=>tb { De with nx:=N,ct:=N,bk:=De.nx } σ2 H2):=by
 have hb1:Same Hb (hid H1 O):=JAn so
 refine ⟨fun i m σ H=>m=ds.length - i∧i≤ds.length∧∃δ O',SO B (hid H1 O) σ H δ O'∧JBr X B XX Hb De (forL put (f) (ds.drop i) δ),⟨ds.length,by simp,Nat.zero_le _,δ,O,so.base,by simpa using k⟩,?_⟩
 rintro i m σ H ⟨rfl,hi,δ2,O2,so2,k2⟩
 by_cases hlt:i<ds.length
 ·right
  have hd:ds[i]? = some ds[i]:=by simp [hlt]
  obtain ⟨go,yl⟩:=(io H so2.same i).1 ds[i] hd
  refine ⟨go,fun σ' H'=>∃δ O',SO B (hid H1 O) σ' H' δ O'∧JBr X B XX Hb De (forL put (f) (ds.drop (i+1)) δ),fun σ' H' ⟨δ3,O3,so3,k3⟩=>⟨ds.length - (i+1),by omega,rfl,hlt,δ3,O3,so3,k3⟩,fun v H' y=>?_⟩
  obtain ⟨so3',dn2⟩:SO B (hid H1 O) σ H' δ2 O2∧Den B (hid H' O2) ds[i] v:=by
    rcases yl v H' y with ⟨e,dn⟩ | ⟨p,xs,es,hp,e,ex,ed,dl⟩
    ·subst e;exact ⟨so2,Den.mono (JAn so2) _ v dn⟩
    ·subst e;subst ex
     have s3:=JF5 so2 (o:=.tup xs) hp
     refine ⟨s3,?_⟩
     rw [ed]
     simp only [Den]
     refine ⟨p,xs,rfl,SqT.of ?_,DenL.mono (JAn s3) _ _ dl⟩
     rw [hid,JAI fun ⟨j,hj⟩=>by obtain ⟨_,_,_,_,e5,_⟩:=so2.own hj;rw [hp] at e5;cases e5]
     exact JAM
  rw [JCc hlt] at k2
  unfold forL at k2
  cases qp:put ds[i] δ2 with
  | none=>rw [qp] at k2;exact False.elim k2
  | some δ3 =>
    rw [qp] at k2
    refine hput ds[i] v σ H' δ2 δ3 O2 _ _ so3' dn2 qp fun σ3 O3 so3=>?_
    refine htb _ _ _ ⟨δ3,O3,_,hb.trans hb1,so3,?_⟩
    simp only at k2
    cases q2:f δ3 with
    | nx δ'=>rw [q2] at k2;exact fun σ4 H4 O4 so4=>⟨δ',O4,so4,k2⟩
    | ct δ'=>rw [q2] at k2;exact fun σ4 H4 O4 so4=>⟨δ',O4,so4,k2⟩
    | bk δ'=>rw [q2] at k2;exact fun σ4 H4 O4 so4=>k2 σ4 H4 O4 (so4.weak hb1)
    | rt d=>rw [q2] at k2;exact fun v4 H4 s4 d4=>k2 v4 H4 (hb1.trans s4) d4
    | ex c=>rw [q2] at k2;exact g.anti c Hb _ hb1 k2
    | bad=>rw [q2] at k2;exact k2
 ·left
  have ei:i=ds.length:=by omega
  refine ⟨(io H so2.same i).2 (by omega),?_⟩
  rw [ei,List.drop_length] at k2
  exact k2 σ H O2 (so2.weak hb1)
end
end VI
end
section
namespace VI
open PySem PySem.Spec PyProof.Rows L2
section
variable {X:Cx} {B:Bs} {C:Cn} {CX:CXT} {XX:Nat→Hp→Prop} {G Gh:List (Str×GK)} {P:Addr} {q:Str} {p0:Array Value} {pos:Pos} {x:VI.E} {cg:Nat} {fdc:Fd} {e:Expr}
noncomputable def RSo (X:Cx) (B:Bs) (C:Cn) (cg:Nat) (fdc:Fd) (x:VI.E):TE:=fun σ H Q=>∃δ O Hb,Same X.H₀ Hb∧SO B Hb σ H δ O∧(match JBE C cg fdc (ev C x δ) with
 | .ok d=>∀v H' O',SO B Hb σ H' (after x d δ) O'→Den B (hid H' O') d v→Q v H'
 | .exc _=>False
 | .bad=>False)
theorem JB6 {r:R D} {c:Nat} (qq:JBE C cg fdc r=.exc c):False:=by
 revert qq
 unfold JBE
 split
 ·intro z;cases z
 ·split
  ·split
   ·intro z;cases z
   ·intro z;cases z
  ·intro z;cases z
 ·intro z;cases z
theorem JHJ (he:PE2 X P q p0 e (REt B C cg fdc x)):PE2 X P q p0 e (RSo X B C cg fdc x):=by
 intro pins tp s σ H Q ha hT I ⟨δ,O,Hb,hb,so,k⟩
 have J0:=JBR (ps:=JBP x O δ.length s.heap) I (JAp (x:=x) hb so) JAs
 have hev:=(agree C x δ (JAa x 0 δ) JBV).1
 have J1:Inv X ((pins++JBP x O δ.length s.heap)++tp) σ (hidP H (unP x O)) s:=J0.pins_of fun p hp=>J0.pin p (List.mem_append_right _ (by
  rcases List.mem_append.mp hp with z | z
  ·rcases List.mem_append.mp z with z | z
   ·exact List.mem_append_left _ (List.mem_append_left _ z)
   ·exact List.mem_append_right _ z
  ·exact List.mem_append_left _ (List.mem_append_right _ z)))
 have ha1:Apart X (pins++JBP x O δ.length s.heap) tp:=fun p hp y hy z=>by
  rcases List.mem_append.mp hp with w | w
  ·exact ha p (List.mem_append_left _ w) y hy z
  ·rcases List.mem_append.mp w with w | w
   ·exact ha p (List.mem_append_right _ w) y hy z
   ·obtain ⟨xs,h1,_⟩:=JAp (x:=x) hb so p.1 (JAs p w).1
    rw [z,(I.pin y (List.mem_append_right _ (List.mem_append_right _ hy))).2.1] at h1
    cases h1
 cases qq:JBE C cg fdc (ev C x δ) with
 | ok d =>
  rw [qq] at k
  refine thn (he _ tp s σ _ (fun v H1=>Same (hidP H (unP x O)) H1∧Den B H1 d v) ha1 hT J1 ⟨JAa x 0 δ,JAl so,by rw [←hev,qq];exact fun v H1 s1 d1=>⟨s1,d1⟩⟩) fun u s1 ⟨tp1,a1,t1,v,H1,J,r,sm,dn⟩=>?_
  have J2:Inv X ([]++JBP x O δ.length s.heap) σ H1 s1:=J.pins_of fun p hp=>J.pin p (List.mem_append_right _ (List.mem_append_left _ (List.mem_append_right _ (by simpa using hp))))
  have I0:Inv X [] σ H s:=I.pins_of fun p hp=>by simp at hp
  obtain ⟨I',hz⟩:=JA4 I0 J2 (JAp hb so) (JAm I so)
  obtain ⟨O',so',dn'⟩:=JEp so sm hz dn
  have I2:Inv X (pins++tp1) σ (mixP H H1 (unP x O)) s1:=I'.pins_of fun p hp=>by
   have hJ:p∈X.pn++((pins++JBP x O δ.length s.heap)++tp1):=List.mem_append_right _ (by
    rcases List.mem_append.mp hp with z | z
    ·exact List.mem_append_left _ (List.mem_append_left _ z)
    ·exact List.mem_append_right _ z)
   obtain ⟨b1,b2,b3,b4,b5⟩:=J.pin p hJ
   refine ⟨b1,?_,b3,b4,b5⟩
   have nu:¬unP x O p.1:=fun hu=>by
    rcases List.mem_append.mp hp with z | z
    ·obtain ⟨xs,h1,_⟩:=JAp (x:=x) hb so p.1 hu
     rw [(I.pin p (List.mem_append_right _ (List.mem_append_left _ z))).2.1] at h1
     cases h1
    ·obtain ⟨o,ho,_⟩:=JAm I so p.1 hu
     exact a1 _ (List.mem_append_right _ (List.mem_append_right _ ho)) p z rfl
   rw [JAQ nu]
   exact b2
  exact ⟨tp1,fun p hp y hy=>a1 p (by
   rcases List.mem_append.mp hp with w | w
   ·exact List.mem_append_left _ w
   ·exact List.mem_append_right _ (List.mem_append_left _ w)) y hy,t1,v,_,I2,r,k v _ O' so' dn'⟩
 | exc c=>rw [qq] at k;exact k.elim
 | bad=>rw [qq] at k;exact k.elim
theorem JN0 {i:Nat} {nm:Str} {pos':Pos} (he:PE2 X P q p0 e (REt B C cg fdc x)) (hnd:X.N.Nodup) (hN:X.N[i]? = some nm) (hx:Loc X.env.scope nm) (hs:swapsWith e (some (.Name nm pos')) pos.line X.env=pure false)
  (hfn:X.fn nm=true∨X.env.scope.names.lookup nm=some .local):PS2 X P q p0 (.Assign [.Name nm pos'] e pos) (RSf X B XX fun δ=>stepR (JBE C cg fdc (ev C x δ)) fun d=>.nx ((after x d δ).set i (.val d))) :=
 PS2.imp (JGe hnd hN hx (JHJ he) hs hfn) fun D σ H ⟨δ,O,Hb,hb,so,k⟩=>by
  refine ⟨δ,O,Hb,hb,so,?_⟩
  simp only at k
  cases qq:JBE C cg fdc (ev C x δ) with
  | ok d =>
    rw [qq] at k
    intro v H' O' so' dn
    exact k _ _ _ (JED so' dn)
  | exc c=>exact (JB6 qq).elim
  | bad=>rw [qq] at k;exact k
theorem JHx {te:TE} (he:PE2 X P q p0 e te) (hs:starEach [e] X.env=[(false,eval e X.env)]):PE2 X P q p0 (.List [e] pos) (fun σ H Q=>te σ H fun v H1=>∀p,H1 p=none→Q (.ref p) (upd H1 p (.lst [v]))):=by
 intro pins tp s σ H Q ha hT I h
 refine wpAny_List_spliced ?_
 rw [hs]
 show wpAny _ _ (spliced ((false,eval e X.env)::backTo pos [])) _ _ s
 refine Calls.spliced_cons (thn (he pins tp s σ H _ ha hT I h) fun u s1 ⟨tp1,a1,t1,v,H1,I1,r1,q1⟩=>Calls.spliced_nil ⟨by simp [sizeLine_eq],?_⟩)
 have hf:H1 s1.heap.objs.size=none:=I1.hok.fresh (Nat.le_refl _)
 refine ⟨tp1,a1,t1,.ref s1.heap.objs.size,upd H1 s1.heap.objs.size (.lst [v]),I1.laid (t':=s1.toks) (fun b u e=>Heap.get?_push_of_some _ e) (Nat.le_refl _) ?_,rfl,q1 _ hf⟩
 exact ⟨by simp [sizeLine_eq],[u],0,.cons r1 .nil,Heap.get?_push_size _ rfl⟩
theorem JMv {i:Nat} {nm:Str} {pos' lp:Pos} (he:PE2 X P q p0 e (REt B C cg fdc x)) (hs1:starEach [e] X.env=[(false,eval e X.env)]) (hnd:X.N.Nodup) (hN:X.N[i]? = some nm) (hx:Loc X.env.scope nm) (hs:swapsWith (.List [e] lp) (some (.Name nm pos')) pos.line X.env=pure false)
  (hfn:X.fn nm=true∨X.env.scope.names.lookup nm=some .local):PS2 X P q p0 (.Assign [.Name nm pos'] (.List [e] lp) pos) (RSf X B XX fun δ=>stepR (JBE C cg fdc (ev C x δ)) fun d=>.nx ((after x d δ).set i (.own (.list [d])))) :=
 PS2.imp (JGe hnd hN hx (JHx (JHJ he) hs1) hs hfn) fun D σ H ⟨δ,O,Hb,hb,so,k⟩=>by
  refine ⟨δ,O,Hb,hb,so,?_⟩
  simp only at k
  cases qq:JBE C cg fdc (ev C x δ) with
  | ok d =>
    rw [qq] at k
    intro v H' O' so' dn p hp
    obtain ⟨O2,so2⟩:=JEL (i:=i) (ds:=.list [d]) (xs:=.lst [v]) so' hp (by
     simp only [OwnO,DenL]
     exact ⟨v,[],rfl,dn,rfl⟩)
    exact k _ _ O2 so2
  | exc c=>exact (JB6 qq).elim
  | bad=>rw [qq] at k;exact k
theorem JN3 {i:Nat} {nm:Str} {p1 ap cp:Pos} (hN:X.N[i]? = some nm) (hv:Vis X.env.scope nm) (hbn:JAH nm=false) (he:PE2 X P q p0 e (REt B C cg fdc x)) (hs:starEach [e] X.env=[(false,eval e X.env)]) (hl:(ap.endLine==cp.line)=true) :
  PS2 X P q p0 (.Expr (.Call (.Attribute (.Name nm p1) "append" ap) [e] [] cp) pos) (RSf X B XX fun δ=>match δ[i]? with
   | some (.own (.list ds))=>stepR (JBE C cg fdc (ev C x δ)) fun d=>JAu i ds x d δ
   | _=>.bad):=by
 intro pins tp s σ H De ha hT I ⟨δ,O,Hb,hb,so,kk⟩
 dsimp only at kk
 split at kk
 case h_2=>exact False.elim kk
 rename_i ds hd
 obtain ⟨l,xs,q1,q2,q3,q4⟩:=so.slotOwn hd
 refine wpAny_Expr_any ?_ I.quiet (by rfl)
 refine wpAny_Call_method_late rfl (by rw [hs];rfl) hl rfl (thn (JD1 hN hv (JAF hbn).1 (JAF hbn).2.1 _ s σ H (fun v H1=>v=.ref l∧H1=H) I ⟨_,q2,rfl,rfl⟩) fun v s1 ⟨y,H1,I1,r1,e1,e2⟩=>?_)
 subst e1;subst e2
 obtain ⟨h1,h2⟩:=JJ6 (T:="list") I1 r1 (.inl ⟨rfl,xs,SqL.of q3⟩)
 refine ⟨"list","list.append",PySem.F.plainAttrs_list,PySem.F.slot_list_append,PySem.F.type_list_append,h1,h2,?_⟩
 rw [hs]
 refine Calls.callWith_builtin rfl (Calls.evalArgs_plain ?_)
 show wpAny _ _ (spliced ((false,eval e X.env)::backTo cp [])) _ _ s1
 have k2:RSo X B C cg fdc x σ H1 (fun v H'=>∃xs',H' l=some (.lst xs')∧xs'.length<sizeLine∧De.nx σ (upd H' l (.lst (xs'++[v])))):=by
  refine ⟨δ,O,Hb,hb,so,?_⟩
  cases qq:JBE C cg fdc (ev C x δ) with
  | ok d =>
   rw [qq] at kk
   intro v H' O' so' dn
   have kk:JBr X B XX Hb De (JAu i ds x d δ):=kk
   unfold JAu at kk
   split at kk
   ·rename_i hlen
    split at kk
    ·exact False.elim kk
    ·rename_i hu
     have ea:after x d δ=δ:=by unfold after;rw [if_neg hu]
     rw [ea] at so'
     obtain ⟨l',xs',r1,r2,r3,r4⟩:=so'.slotOwn hd
     rw [q2] at r2
     cases r2
     refine ⟨xs',r3,by rw [←DenL.len ds xs' r4,sizeLine_eq];exact hlen,?_⟩
     exact kk _ _ O' (JJa so' r1 (DenL.append ds [d] xs' [v] r4 (by simp only [DenL];exact ⟨v,[],rfl,dn,rfl⟩)))
   ·exact False.elim kk
  | exc c=>exact (JB6 qq).elim
  | bad=>rw [qq] at kk;exact kk
 refine Calls.spliced_cons (thn (JHJ he pins tp s1 σ H1 _ ha hT I1 k2) fun u s2 ⟨tp2,a2,t2,v2,H2,I2,r2,xs',m1,m2,m3⟩=>Calls.spliced_nil ?_)
 refine thn (JEJ (pins++tp2) s2 σ H2 (.ref l) [v2] v [u] (fun _ H'=>De.nx σ H') I2 r1 (.cons r2 .nil) ⟨l,xs',v2,rfl,rfl,m1,m2,m3⟩) fun w s3 ⟨z,H3,I3,r3,q3⟩=>⟨tp2,a2,t2,σ,H3,I3,q3⟩
end
end VI
end
section
namespace VI
open PySem PySem.Spec PyProof.Rows L2
inductive S2 where
 | nil | cons (a r:S2)
 | st (s:S)
 | tld (i:Nat) (e:VI.E) | tll (i:Nat) (e:VI.E) | tla (i:Nat) (e:VI.E)
 | for1 (i:Nat) (e:VI.E) (b:S2)
noncomputable def JAX (C:Cn) (cg:Nat) (fdc:Fd):S2→Env→Fl
 | .nil,δ=>.nx δ
 | .cons a r,δ=>match JAX C cg fdc a δ with
  | .nx δ'=>JAX C cg fdc r δ'
  | f=>f
 | .st s,δ=>exec C s δ
 | .tld i e,δ=>stepR (JBE C cg fdc (ev C e δ)) fun d=>.nx ((after e d δ).set i (.val d))
 | .tll i e,δ=>stepR (JBE C cg fdc (ev C e δ)) fun d=>.nx ((after e d δ).set i (.own (.list [d])))
 | .tla i e,δ=>match δ[i]? with
  | some (.own (.list ds))=>stepR (JBE C cg fdc (ev C e δ)) fun d=>JAu i ds e d δ
  | _=>.bad
 | .for1 i e b,δ=>stepR (evI C e δ) fun xs=>forL (put1 i) (JAX C cg fdc b) xs (JAv e 0 δ)
noncomputable def toldOf (tn:Str):Expr→Option (Arguments×Expr×Scope)
 | .Call (.Name t _) [.Lambda params body sc _] [] _=>if t=tn then some (params,body,sc) else none
 | _=>none
noncomputable def noArgs (a:Arguments):Bool:=a.posonlyargs.isEmpty&&a.args.isEmpty&&a.vararg.isNone&&a.kwonlyargs.isEmpty&&a.kw_defaults.isEmpty&&a.kwarg.isNone&&a.defaults.isEmpty
noncomputable def JMK (outer:List (Str×NameKind)) (params:Arguments) (sc:Scope):Bool :=
 noArgs params&&(sc.kind==.function)&&!sc.isCoroutine&&!sc.isGenerator&&sc.names.all fun y=>y.2 != .local&&y.2 != .cell&&(y.2 != .free || (outer.lookup y.1==some .cell || outer.lookup y.1==some .free))
noncomputable def JI0 (G:List (Str×GK)) (tn:Str) (n:Nat) (names:List (Str×NameKind)) (N:List Str) (e:Expr):Option VI.E :=
 (toldOf tn e).bind fun q=>if JMK names q.1 q.2.2=true∧names.lookup tn=some .globalImplicit then JAN G n false q.2.2.names N q.2.1 else none
noncomputable def JOx:Stmt→Option (Str×Expr)
 | .Assign [.Name y _] e _=>some (y,e)
 | _=>none
noncomputable def oneOf:Expr→Option Expr
 | .List [a] _=>some a
 | _=>none
noncomputable def JMu:Stmt→Option (Str×Expr)
 | .Expr (.Call (.Attribute (.Name y _) m ap) [a] [] cp) _=>if m="append"∧(ap.endLine==cp.line)=true then some (y,a) else none
 | _=>none
noncomputable def JPU:Stmt→Option (Str×Expr×List Stmt)
 | .For (.Name y _) it body [] _=>some (y,it,body)
 | _=>none
noncomputable def JCF (f:Stmt→Option S2):List Stmt→Option S2
 | []=>some .nil
 | st::r=>(f st).bind fun a=>(JCF f r).map (S2.cons a)
noncomputable def JCQ (G:List (Str×GK)) (tn:Str):Nat→List (Str×NameKind)→List Str→Stmt→Option S2
 | 0,_,_,_=>none
 | n+1,names,N,st=>match JCA G n false names N st with
  | some s=>some (.st s)
  | none=>match JOx st with
   | some q=>(slot names N q.1).bind fun i=>(match JI0 G tn n names N q.2 with
    | some x=>some (.tld i x)
    | none=>(oneOf q.2).bind fun a=>(JI0 G tn n names N a).map (S2.tll i))
   | none=>match JMu st with
    | some q=>if JAH q.1=false then (slot names N q.1).bind fun i=>(JI0 G tn n names N q.2).map (S2.tla i) else none
    | none=>(JPU st).bind fun q=>(slot names N q.1).bind fun i=>(JAN G n true names N q.2.1).bind fun e=>(JCF (JCQ G tn n names N) q.2.2).map (S2.for1 i e)
section
variable {X:Cx} {B:Bs} {C:Cn} {XX:Nat→Hp→Prop} {G Gh:List (Str×GK)} {P:Addr} {q:Str} {p0:Array Value} {tn:Str} {cg:Nat} {fdc:Fd} {ft fc:Addr} {stt:Stmt}
theorem JGK {a:Arguments} (h:noArgs a=true):a={ posonlyargs:=[],args:=[],vararg:=none,kwonlyargs:=[],kw_defaults:=[],kwarg:=none,defaults:=[] }:=by
 obtain ⟨a1,a2,a3,a4,a5,a6,a7⟩:=a
 simp only [noArgs,Bool.and_eq_true,List.isEmpty_iff,Option.isNone_iff_eq_none] at h
 obtain ⟨⟨⟨⟨⟨⟨rfl,rfl⟩,rfl⟩,rfl⟩,rfl⟩,rfl⟩,rfl⟩:=h
 rfl
structure Lm (X:Cx) (B:Bs) (C:Cn) (XX:Nat→Hp→Prop) (G Gh:List (Str×GK)) (P:Addr) (q tn:Str) (ft fc:Addr) (stt:Stmt) (cg:Nat) (fdc:Fd):Prop where
 L:LamOk X P q
 g:Gk X B C (CXV X.prog X.w B) XX G
 D:DeepFn X B C G
 W:ToldT X B C G Gh ft fc tn stt cg fdc
 ra:Rare B C (CXV X.prog X.w B) G
 rr:RareS B C (CXV X.prog X.w B) G
 st:X.stack=X.env::X.outer
 hh:X.A.handled=none
 room:X.A.depth+3<recursionLimit
 un:X.A.units+220<cLine
 mt:X.mg tn=some (.ref ft)
 kt:PySem.W.keepIn X.K (.ref ft)=true
 bt:JAH tn=false
 nd:X.N.Nodup
 fn:∀nm,X.fn nm=true
 cool:Cool G
 kind:X.env.scope.kind=.function
 own:PassesOwn (model X.prog X.w) X.A X.env X.xe
theorem JDZ (m:Lm X B C XX G Gh P q tn ft fc stt cg fdc) {n:Nat} {e:Expr} {x:VI.E} (h:JI0 G tn n X.env.scope.names X.N e=some x):PE2 X P q p0 e (REt B C cg fdc x)∧(∀es env,starEach (e::es) env=(false,eval e env)::starEach es env)∧(∀t l env,swapsWith e t l env=pure false):=by
 obtain ⟨q1,h1,h⟩:=Option.bind_eq_some_iff.mp h
 split at h
 case isFalse=>cases h
 rename_i hc
 obtain ⟨hl,hg⟩:=hc
 unfold toldOf at h1
 split at h1
 case h_2=>cases h1
 rename_i t p params body sc lp pos
 split at h1
 case isFalse=>cases h1
 rename_i e1
 subst e1
 cases h1
 simp only [JMK,Bool.and_eq_true,List.all_eq_true,beq_iff_eq,bne_iff_ne,Bool.not_eq_true',Bool.or_eq_true] at hl
 obtain ⟨⟨⟨⟨ha,hk⟩,hco⟩,hge⟩,hn⟩:=hl
 have ha:=JGK ha
 subst ha
 refine ⟨JLi m.L m.g m.D m.W m.ra m.st m.hh m.room m.un hg m.mt m.kt m.bt ⟨hk,hco,hge,fun y hy=>⟨(hn y hy).1.1,(hn y hy).1.2⟩⟩ rfl (fun y hy=>?_) (fun pm ctv c' cl=>?_) m.nd m.fn h,fun _ _=>rfl,fun _ _ _=>?_⟩
 ·rcases (hn _ hy).2 with z | z
  ·exact absurd rfl z
  ·exact z
 ·rfl
 ·rfl
theorem JLw:PSs2 X P q p0 [] (RSf X B XX (JAX C cg fdc .nil)):=PSs2.imp JHy fun D σ H ⟨δ,O,Hb,hb,so,k⟩=>k σ H O so
theorem JIn {st:Stmt} {r:List Stmt} {a b:S2} (h1:PS2 X P q p0 st (RSf X B XX (JAX C cg fdc a))) (h2:PSs2 X P q p0 r (RSf X B XX (JAX C cg fdc b))):PSs2 X P q p0 (st::r) (RSf X B XX (JAX C cg fdc (.cons a b))) :=
 PSs2.imp (JHK h1 h2) fun D σ H ⟨δ,O,Hb,hb,so,k⟩=>by
  refine ⟨δ,O,Hb,hb,so,?_⟩
  simp only [JAX] at k
  cases qq:JAX C cg fdc a δ with
  | nx δ'=>rw [qq] at k;exact fun σ' H' O' so'=>⟨δ',O',Hb,hb,so',k⟩
  | rt d=>rw [qq] at k;exact k
  | bk d=>rw [qq] at k;exact k
  | ct d=>rw [qq] at k;exact k
  | ex c=>rw [qq] at k;exact k
  | bad=>rw [qq] at k;exact k
theorem JGg {f:Stmt→Option S2} (ih:∀st t,f st=some t→PS2 X P q p0 st (RSf X B XX (JAX C cg fdc t))):∀ {sts:List Stmt} {t:S2},JCF f sts=some t→PSs2 X P q p0 sts (RSf X B XX (JAX C cg fdc t))
 | [],t,h=>by unfold JCF at h;cases h;exact JLw
 | st::r,t,h=>by
  unfold JCF at h
  obtain ⟨a,ha,h⟩:=Option.bind_eq_some_iff.mp h
  obtain ⟨b,hb,rfl⟩:=Option.map_eq_some_iff.mp h
  exact JIn (ih st a ha) (JGg ih hb)
theorem JLh (m:Lm X B C XX G Gh P q tn ft fc stt cg fdc) {x:VI.E} {iter:Expr} {body:List Stmt} {b:S2} {i:Nat} {nm:Str} {pos' pos:Pos} (hi:PI X (.Name nm pos') iter (RI B C XX x)) (hb:PSs2 X P q p0 body (RSf X B XX (JAX C cg fdc b))) (hN:X.N[i]? = some nm) (hx:Loc X.env.scope nm)
  (hs:∀v,foldedSetIterable iter X.env v=pure v):PS2 X P q p0 (.For (.Name nm pos') iter body [] pos) (RSf X B XX (JAX C cg fdc (.for1 i x b))) :=
 PS2.imp (JL4 m.own (m.g.calm m.cool) (JGO m.g hi) (JCT m.nd hN hx (.inl (m.fn nm))) hb hs) fun De σ H ⟨δ,O,Hb,hb0,so,k⟩=>by
  refine ⟨δ,O,Hb,hb0,so,?_⟩
  simp only [JAX] at k
  cases qq:evI C x δ with
  | ok ds =>
    rw [qq] at k
    intro J H' O' so' io
    refine JKz m.g hb0 so' io (put:=put1 i) (fun d v σ H δ δ' O Hb' Q so dn e h=>?_) (fun _ _ _ h=>h) k
    have e':δ.set i (.val d)=δ':=Option.some.inj e
    subst e'
    exact h _ _ (JED so dn)
  | exc c=>rw [qq] at k;exact k
  | bad=>rw [qq] at k;exact k
theorem JKO (m:Lm X B C XX G Gh P q tn ft fc stt cg fdc):∀(n:Nat) (st:Stmt) (t:S2),JCQ G tn n X.env.scope.names X.N st=some t→PS2 X P q p0 st (RSf X B XX (JAX C cg fdc t))
 | 0,st,t,h=>by unfold JCQ at h;cases h
 | n+1,st,t,h=>by
  have ih:=JKO m n
  unfold JCQ at h
  split at h
  ·rename_i s hs
   cases h
   exact PS2.imp (JNT (JDp m.ra m.rr n X XX _ _ false m.g m.kind rfl rfl m.nd m.own m.fn (fun z=>by cases z) (fun z=>by cases z) st s hs)) fun D σ H ⟨δ,O,Hb,hb,so,k⟩=>⟨δ,O,Hb,hb,so,by simpa only [JAX] using k⟩
  ·split at h
   ·rename_i q1 hq
    obtain ⟨i,hi,h⟩:=Option.bind_eq_some_iff.mp h
    obtain ⟨q2,q3⟩:=slot_of rfl rfl hi
    unfold JOx at hq
    split at hq
    case h_2=>cases hq
    rename_i y p1 e p2 _xx
    cases hq
    split at h
    ·rename_i x hx
     cases h
     obtain ⟨a1,a2,a3⟩:=JDZ (p0:=p0) m hx
     exact PS2.imp (JN0 a1 m.nd q2 q3 (a3 _ _ _) (.inl (m.fn _))) fun D σ H ⟨δ,O,Hb,hb,so,k⟩=>⟨δ,O,Hb,hb,so,by simpa only [JAX] using k⟩
    ·obtain ⟨a,ha,h⟩:=Option.bind_eq_some_iff.mp h
     obtain ⟨x,hx,rfl⟩:=Option.map_eq_some_iff.mp h
     obtain ⟨a1,a2,a3⟩:=JDZ (p0:=p0) m hx
     have ha:oneOf e=some a:=ha
     unfold oneOf at ha
     split at ha
     case h_2=>cases ha
     cases ha
     exact PS2.imp (JMv a1 (a2 _ _) m.nd q2 q3 rfl (.inl (m.fn _))) fun D σ H ⟨δ,O,Hb,hb,so,k⟩=>⟨δ,O,Hb,hb,so,by simpa only [JAX] using k⟩
   ·split at h
    ·rename_i q1 hq
     split at h
     case isFalse=>cases h
     rename_i hbn
     obtain ⟨i,hi,h⟩:=Option.bind_eq_some_iff.mp h
     obtain ⟨x,hx,rfl⟩:=Option.map_eq_some_iff.mp h
     obtain ⟨a1,a2,a3⟩:=JDZ (p0:=p0) m hx
     obtain ⟨q2,q3⟩:=slot_of rfl rfl hi
     unfold JMu at hq
     split at hq
     case h_2=>cases hq
     rename_i y p1 mm ap a cp p2
     split at hq
     case isFalse=>cases hq
     rename_i hm
     obtain ⟨hm,hl⟩:=hm
     subst hm
     cases hq
     exact PS2.imp (JN3 q2 (Or.imp_right Or.inl q3) hbn a1 (a2 _ _) hl) fun D σ H ⟨δ,O,Hb,hb,so,k⟩=>⟨δ,O,Hb,hb,so,by simp only [JAX] at k;exact k⟩
    ·obtain ⟨q1,hq,h⟩:=Option.bind_eq_some_iff.mp h
     obtain ⟨i,hi,h⟩:=Option.bind_eq_some_iff.mp h
     obtain ⟨x,hx,h⟩:=Option.bind_eq_some_iff.mp h
     obtain ⟨b,hb,rfl⟩:=Option.map_eq_some_iff.mp h
     obtain ⟨q2,q3⟩:=slot_of rfl rfl hi
     unfold JPU at hq
     split at hq
     case h_2=>cases hq
     cases hq
     exact JLh m ((sound m.ra n X XX _ _ m.g m.kind rfl rfl m.nd).2 _ _ x hx) (JGg ih hb) q2 q3 (JBZ hx X.env)
end
end VI
end
section
namespace VI
open PySem PySem.Spec PyProof.Rows L2
noncomputable def cxT (X:Cx) (P:Addr):Cx:={ X with ex:=[P],xe:=fun _ _=>False }
section
variable {X:Cx} {σ:St} {H:Hp} {s:Shared} {P0:Addr} {tp:List (Addr×Obj)}
theorem JPR (I:Inv X [] σ H s) (hex:X.ex=[]) (hb:X.base.get? P0=none) (hlt:P0<X.s₀.heap.objs.size) (hfn:∀nm,X.fn nm=true) (hfs:X.fs=[]) (hp:∀p∈tp,s.heap.get? p.1=some p.2∧H p.1=none∧p.1<X.s₀.heap.objs.size∧∀v,p.2.data≠.cell v) (hpn:X.pn=[]):Inv (cxT X P0) tp σ H s:=by
 have ok:=I.ok
 have mem:∀ {b:Addr},b∈(cxT X P0).ex→b=P0:=fun {b} z=>by simpa [cxT] using z
 refine ⟨⟨ok.mod,ok.kind,ok.glob,ok.blt,ok.above,ok.inj,ok.has,ok.cab,ok.hd,ok.frames,ok.stk,fun b z=>?_,ok.bs,ok.bsz,fun b o e z=>?_,fun b z=>?_,ok.funs,ok.frf⟩,I.os,I.bare,I.base.mono (fun _ z=>z) (fun b z=>?_),I.loc,I.cell,I.free,I.freeC,fun p hm=>?_,I.hok,I.len⟩
 ·cases mem z
  exact ⟨fun e=>absurd (Nat.lt_of_lt_of_le hlt ok.above) (by rw [e];exact Nat.lt_irrefl _),fun x c e e2=>absurd (Nat.lt_of_lt_of_le hlt (ok.cab x c (hfn x) e)) (by rw [e2];exact Nat.lt_irrefl _)⟩
 ·cases mem z
  have e:X.base.get? P0=some o:=e
  rw [hb] at e;cases e
 ·show b ∉ X.fs
  rw [hfs];simp
 ·rw [hex] at z;simp at z
 ·have hm:p∈X.pn++tp:=hm
  rw [hpn] at hm
  obtain ⟨a1,a2,a3,a4⟩:=hp p (by simpa using hm)
  refine ⟨a1,a2,fun e=>?_,?_,a4⟩
  ·have e:p.1=X.env.locals:=e
   exact absurd (Nat.lt_of_lt_of_le a3 ok.above) (by rw [e];exact Nat.lt_irrefl _)
  ·show p.1 ∉ X.fs
   rw [hfs];simp
end
structure Turned2 (G:List (Str×GK)) (tn:Str) (st:Stmt) (N ps:List Str) (t:S2):Prop where
 comp:JCF (JCQ G tn 60 (JAC st).names N) (JAZ st)=some t
 sc:FnScope N ps (JAC st)
section
variable {B:Bs} {G Gh:List (Str×GK)} {tab:Nat→Option Fd} {glo:Nat→R D} {sub:Nat→Nat→Bool}
theorem JHm [Cool G] {P:Program} {w:World} (hw:w=B.w) {mg mb:Str→Option Value} {n:Nat} {fa a P0 c0 ft fc:Addr} {x tn:Str} {s₁:Shared} {vs:List Value} {ns:List Int} {st stt:Stmt} {fo:FuncData} {N:List Str} {t:S2} {cg:Nat} {fdc:Fd}
  (KX:B.K.In s₁.heap) (hK0:B.K.lookup P0=none) (hT0:s₁.heap.get? P0=some (PySem.W.tabObj #[])) (hns:s₁.heap.Ns mainGlobals mg) (hb:s₁.heap.Ns builtinsNs mb) (hbb:∀x:Str,x≠"__name__"→mb x=bootBuiltins x) (hlim:s₁.heap.NoLimit) (hg:s₁.gens=#[])
  (ha:s₁.heap.get? a=some { cls:=.type "list",data:=.seq vs.toArray }) (hi:IntsAre vs ns) (hl:ns.length≤63) (hr:Room (n+1) callerA) (hn1:1≤n)
  (M:Mo mg B G tab glo sub) (ra:∀n,Ra3 B ⟨run true tab glo sub n,glo,sub⟩ G P w) (F:Fun B.K "law" "law" st fa fo) (T:Turned2 G tn st N [x] t) (hbind:∀(s:Shared) (u:Value),BindsTo s fo ⟨[u],[]⟩ [(x,u)])
  (hcode:fo.code=.ref c0) (hC:∀base:Heap,B.K.In base→PySem.W.CodeHd base c0 P0) (hBl:∀base:Heap,B.K.In base→base.BuiltinsAt mg P0)
  (W:∀X:Cx,X.K=B.K→X.mg=mg→X.prog=P→X.w=w→ToldT X B ⟨run true tab glo sub n,glo,sub⟩ G Gh ft fc tn stt cg fdc) (hmt:mg tn=some (.ref ft)) (hkt:PySem.W.keepIn B.K (.ref ft)=true) (hbt:JAH tn=false)
  (ok:JAX ⟨run true tab glo sub n,glo,sub⟩ cg fdc t ([Sl.val (.list (ns.map fun i=>PyData.int i))]++List.replicate (N.length - 1) Sl.no)=.rt (.bool true)) :
  codeAny (model P w) callerA (.call (.ref fa) ⟨[.ref a],[]⟩) (fun r s'=>r=.ok (.ret (.bool true))∧OldK s₁.heap s'.heap∧s'.os=s₁.os∧AllBare s'.gens) s₁:=by
 have rv:=JCb hi
 have lenV:=hi.length
 have core:∀H:Hp,Only H→SqL B.K H a (ns.map V.int)→HOk P w H s₁.heap→(∀b,H b≠none→b=a)→(H a≠none→B.K.lookup a=none) →
    codeAny (model P w) callerA (.call (.ref fa) ⟨[.ref a],[]⟩) (fun r s'=>r=.ok (.ret (.bool true))∧OldK s₁.heap s'.heap∧s'.os=s₁.os∧AllBare s'.gens) s₁:=by
  intro H hO hS hok hA hK
  have hPa:P0≠a:=fun z=>by
    rw [←z,hT0] at ha
    have:=congrArg (·.data) (Option.some.inj ha)
    cases this
  have hHP:H P0=none:=by
    cases q:H P0 with
    | none=>rfl
    | some u=>exact absurd (hA P0 (by rw [q];simp)) hPa
  obtain ⟨Hx,hHx⟩:∃Hx:Hp,Hx=upd H P0 (.tbl #[]):=⟨_,rfl⟩
  have nx:∀ {b:Addr},b≠P0→Hx b=H b:=fun {b} hb=>by rw [hHx,JAL hb]
  have base_of:∀ {b:Addr} {o:Obj},s₁.heap.get? b=some o→H b=none→b≠P0→(hidT s₁.heap Hx).get? b=some o:=fun {b o} e n hb=>JFA e (by rw [nx hb];exact n)
  have noA:∀ {b:Addr} {o:Obj} {es:Array DictEntry} {ep:Nat},s₁.heap.get? b=some o→o.data=.dict es ep→H b=none∧b≠P0:=fun {b o es ep} e d=>by
    refine ⟨?_,fun z=>?_⟩
    ·cases q:H b with
     | none=>rfl
     | some u =>
      have e':b=a:=hA b (by rw [q];simp)
      subst e'
      rw [ha] at e;cases e
      have d':Data.seq vs.toArray _=Data.dict es ep:=d
      cases d'
    ·subst z
     rw [hT0] at e;cases e
     cases d
  have nsK:∀ {b:Addr} {m:Str→Option Value},s₁.heap.Ns b m→(hidT s₁.heap Hx).Ns b m:=fun {b m} ⟨o,es,ep,e,d,r⟩=>⟨o,es,ep,base_of e (noA e d).1 (noA e d).2,d,r⟩
  have hKb:B.K.In (hidT s₁.heap Hx):=fun b o e=>base_of (KX b o e) (by
    cases q:H b with
    | none=>rfl
    | some u =>
     have e':b=a:=hA b (by rw [q];simp)
     subst e'
     rw [hK (by rw [q];simp)] at e;cases e) fun z=>by rw [z,hK0] at e;cases e
  have hM:Mod B.K mg (hidT s₁.heap Hx):=⟨hKb,nsK hns,⟨mb,nsK hb,hbb⟩,let ⟨mc,h1,h2⟩:=hlim;⟨mc,nsK h1,h2⟩⟩
  have ofb:∀ {b:Addr} {o:Obj},(hidT s₁.heap Hx).get? b=some o→s₁.heap.get? b=some o∧H b=none:=fun {b o} e=>by
    obtain ⟨e1,e2⟩:=JEi e
    refine ⟨e1,?_⟩
    by_cases hb:b=P0
    ·rw [hb,hHx,JAM] at e2;cases e2
    ·rwa [nx hb] at e2
  have hbP:(hidT s₁.heap Hx).get? P0=none:=by
    cases q:(hidT s₁.heap Hx).get? P0 with
    | none=>rfl
    | some o =>
     have:=(JEi q).2
     rw [hHx,JAM] at this;cases this
  have e0:Env0 P w B.K mg (hidT s₁.heap Hx) callerA [] s₁ H:=⟨rfl,hM,fun b o e=>ofb e,Nat.le_of_eq (JDi _ _),trivial,fun b hb=>absurd (show b∈([]:List Addr) from hb) (by simp),hok,.of_eq hg⟩
  obtain ⟨oc,od,kV,doc,pm,an,cdv,ct,osl,rfl,lk,hcd⟩:=F.ex
  have hcv:cdv=.ref c0:=hcode
  have hkind:∀y∈[x].zip [Value.ref a],(JAC st).names.lookup y.1=some .local∨((JAC st).names.lookup y.1=some .cell∧((cellsFrom (s₁.heap.objs.size+1) (JAC st).names []).lookup y.1).isSome=true):=fun ⟨n,v⟩ hy=>by
    rcases T.sc.par n (List.of_mem_zip hy).1 with q | q
    ·exact .inl q
    ·exact .inr ⟨q,PySem.W.cellsFrom_some _ _ _ (.inl q)⟩
  refine codeAny_call_function hr.depth (KX _ _ lk) rfl T.sc.co T.sc.gen rfl (PySem.W.codeRec_of KX hcd) (hbind s₁ (.ref a) _ _ _ _ ?_)
  refine wpAny_newFunctionEnv_cells T.sc.kind hkind fun env he s1 xx=>?_
  subst he
  refine ⟨hlim.keeps xx.toInCall.keep,codeAny_func ?_⟩
  have I0:=JBo (CX:=CXV P w B) (E:=fun _ _ _=>False) T.sc hr.hd e0 (by rfl:[V.ref a].length=[x].length) (.cons rfl .nil) xx
  obtain ⟨X0,hX0⟩:∃X0,X0=cxOf (CXV P w B) P w B.K mg (hidT s₁.heap Hx) N "law" (JAC st) fa cdv callerA [] s₁ H (fun _ _ _=>False):=⟨_,rfl⟩
  have I1:Inv (cxT X0 P0) [(P0,PySem.W.tabObj #[])] (start N [V.ref a]) H s1:=by
    subst hX0
    refine JPR I0 rfl hbP (Heap.lt_size hT0) (fun _=>rfl) rfl (fun p hp=>?_) rfl
    cases List.mem_singleton.mp hp
    exact ⟨xx.toInCall.keep _ _ hT0,hHP,Heap.lt_size hT0,by intro v z;cases z⟩
  have m:Lm (cxT X0 P0) B ⟨run true tab glo sub n,glo,sub⟩ (fun _ _=>False) G Gh P0 ("law"++".<locals>."++"<lambda>") tn ft fc stt cg fdc:=by
    subst hX0
    have dp:callerA.depth+3*(n+1)+5<recursionLimit:=hr.dp
    have un:callerA.units+16*(n+1)+200<cLine:=hr.un
    have fs:=fns (P:=P) (base:=hidT s₁.heap Hx) hw M ra n
    exact {
     L:=⟨List.mem_singleton.mpr rfl,⟨c0,hcv,hC _ hKb⟩,hBl _ hKb,rfl⟩
     g:={
      K:=rfl
      W:=hw
      anti:=fun _ _ _ _ z=>z
      units:=by show callerA.units+3+200<_;omega
      calm:=fun _=>rfl
      fn:=fun y j hy=>by
       obtain ⟨f',fd',ps',w1,w2,w3,w4,w5⟩:=fs y j hy
       exact ⟨f',fd',ps',n,w1,w2,w3,hr.deeper _,w4,w5⟩
      pas:=fun _ _ _ _ _ _ _ z=>(JEc _ _ _ _ _ z).elim
      con:=M.con
      noexg:=M.noexg
      blt:=M.blt
      rng:=M.rng
      isi:=M.isi
      ty:=M.ty
      cls:=M.cl.mgc
      nam:=M.nam }
     D:=⟨fun y j hy=>by
      obtain ⟨f',fd',ps',w1,w2,w3,w4,w5⟩:=fs y j hy
      exact ⟨f',fd',ps',n,w1,w2,w3,⟨by show callerA.depth+1+2+3*n+5<_;omega,by show callerA.units+3+6+16*n+200<_;omega⟩,w4,w5⟩⟩
     W:=W _ rfl rfl rfl rfl
     ra:=(ra n).ra
     rr:=(ra n).rr
     st:=rfl
     hh:=hr.hd
     room:=by show callerA.depth+1+3<_;omega
     un:=by show callerA.units+3+220<_;omega
     mt:=hmt
     kt:=hkt
     bt:=hbt
     nd:=T.sc.nd
     fn:=fun _=>rfl
     cool:=inferInstance
     kind:=T.sc.kind
     own:=PassesOwn.never }
  have cp:JCF (JCQ G tn 60 (cxT X0 P0).env.scope.names (cxT X0 P0).N) (JAZ st)=some t:=by subst hX0;exact T.comp
  have bl:=JGg (p0:=#[]) (JKO (p0:=#[]) m 60) cp
  have hpl:1≤N.length:=by have:=congrArg List.length T.sc.pre;rw [List.length_take] at this;simp at this;omega
  have H0:(cxT X0 P0).H₀=H:=by rw [hX0];rfl
  have den:DenL B H [.list (ns.map fun i=>PyData.int i)] [V.ref a]:=by
    simp only [DenL]
    exact ⟨_,_,rfl,by simp only [Den];exact ⟨a,_,rfl,hS,JE4 ns⟩,rfl⟩
  have run:=bl [] [(P0,PySem.W.tabObj #[])] s1 (start N [V.ref a]) H { nx:=fun _ _=>False,rt:=fun v _=>v=.bl true } (fun p hp=>by subst hX0;simp [cxT,cxOf] at hp) ⟨#[],List.mem_singleton.mpr rfl,⟨#[],rfl⟩,trivial,fun p v z=>by simp [codeAmong] at z⟩ I1
    ⟨_,_,H,by rw [H0];exact Same.refl H,JB4 den rfl (by simpa using hpl),by
     show JBr _ _ _ _ _ (JAX _ _ _ _ ([Sl.val (.list (ns.map fun i=>PyData.int i))]++List.replicate (N.length - 1) Sl.no))
     rw [ok]
     intro v H' sm dn
     simp only [Den] at dn
     exact dn⟩
  subst hX0
  refine wpAny_mono run (fun fl s' hs=>?_) fun e s' z=>z.elim
  obtain ⟨tp',_,hT',hs⟩:=hs
  cases fl with
  | next=>obtain ⟨_,_,_,z⟩:=hs;exact z.elim
  | brk=>obtain ⟨_,_,_,z⟩:=hs;exact z.elim
  | cont=>obtain ⟨_,_,_,z⟩:=hs;exact z.elim
  | ret u =>
    obtain ⟨v,σ',H',J,r',q⟩:=hs
    have q':v=.bl true:=q
    subst q'
    obtain rfl:u=Value.bool true:=r'
    have U:Un [] [P0] H H' s₁.heap s'.heap:=J.base
    obtain ⟨ps,hP,⟨more,hm⟩,_⟩:=hT'
    have gP:s'.heap.get? P0=some (PySem.W.tabObj ps):=(J.pin _ (List.mem_append_right _ (List.mem_append_right _ hP))).1
    refine ⟨rfl,⟨fun b o e=>?_,fun b o e=>?_⟩,J.os,J.bare⟩
    ·by_cases hb:b=P0
     ·subst hb
      rw [hT0] at e
      cases e
      obtain ⟨oc0,vs0,_,_,_,_,_,_,_,h1,h2,h3,h4,_⟩:=hC _ hKb
      exact .inr (.inl ⟨⟨c0,oc0,vs0,(ofb h1).1,h2,h3,h4⟩,rfl,#[],more,rfl,by rw [gP,hm]⟩)
     ·refine .inl ?_
      cases q:H b with
      | none=>exact U.keep b o e q (by simp) (by simpa using hb)
      | some u =>
       rcases hO b with z | ⟨ob,xs,z⟩
       ·rw [q] at z;cases z
       ·have z2:=U.frzs b ob _ z
        obtain ⟨e1,_⟩:=hok b _ z
        obtain ⟨e2,_⟩:=J.hok b _ z2
        rw [e] at e1;cases e1
        exact e2
    ·by_cases hb:b=P0
     ·subst hb
      exact ⟨_,gP⟩
     ·exact U.there b o e (by simpa using hb)
 cases hk:B.K.lookup a with
 | some o =>
  have e:=KX a o hk
  rw [ha] at e
  cases e
  refine core (fun _=>none) (fun _=>.inl rfl) (.inr ⟨_,vs.toArray,_,hk,rfl,rfl,rfl,by rw [List.size_toArray,lenV,sizeLine_eq];omega,by simpa using rv⟩) (fun b u z=>by have z':(none:Option HO)=some u:=z;cases z') (fun b z=>absurd rfl z) fun z=>absurd rfl z
 | none =>
  refine core (fun b=>if b=a then some (.frz { cls:=.type "list",data:=.seq vs.toArray } (.lst (ns.map V.int))) else none) (fun b=>?_) (.inl (.inr ⟨{ cls:=.type "list",data:=.seq vs.toArray },if_pos rfl⟩)) (fun b u z=>?_) (fun b z=>?_) fun _=>hk
  · by_cases hb:b=a
    ·exact .inr ⟨_,_,if_pos hb⟩
    ·exact .inl (if_neg hb)
  · by_cases hb:b=a
    ·have z':=(if_pos hb).symm.trans z
     cases z'
     subst hb
     exact ⟨ha,by rw [List.length_map,sizeLine_eq];omega,vs,_,rv,ha⟩
    ·have z':=(if_neg hb).symm.trans z
     cases z'
  · by_cases hb:b=a
    ·exact hb
    ·exact absurd (if_neg hb) z
end
end VI
end
section
namespace VI
open PySem PySem.Spec PyProof.Rows L2
noncomputable def hotK:GK→Bool
 | .fn _=>false
 | .blt _=>false
 | _=>true
noncomputable def JDK (G:List (Str×GK)):List (Str×GK):=((".hot":Str),GK.opt)::G.filter fun p=>hotK p.2&&p.1 != (".try":Str)
theorem JB2 {α:Type}:∀ {l:List (Str×α)} {x:Str} {k:α},(l.map (·.1)).Nodup→(x,k)∈l→l.lookup x=some k
 | [],_,_,_,h=>by simp at h
 |(y,j)::r,x,k,hn,h=>by
  rw [List.map_cons,List.nodup_cons] at hn
  rw [List.lookup_cons]
  rcases List.mem_cons.mp h with e | e
  · cases e
    rw [beq_self_eq_true]
  · have hx:x≠y:=fun z=>hn.1 (z▸List.mem_map.mpr ⟨_,e,rfl⟩)
    rw [beq_eq_false_iff_ne.mpr hx]
    exact JB2 hn.2 e
theorem JJD {G:List (Str×GK)} (hn:(G.map (·.1)).Nodup):HotG G (JDK G):=by
 have get:∀ {x:Str} {k:GK},(JDK G).lookup x=some k→(x=".hot"∧k=.opt)∨((x,k)∈G∧hotK k=true∧x≠".try"):=fun {x k} h=>by
  rcases List.mem_cons.mp (PySem.mem_of_lookup h) with e | e
  ·cases e;exact .inl ⟨rfl,rfl⟩
  ·obtain ⟨e1,e2⟩:=List.mem_filter.mp e
   simp only [Bool.and_eq_true,bne_iff_ne] at e2
   exact .inr ⟨e1,e2.1,e2.2⟩
 refine ⟨fun x k h=>?_,fun x i h=>?_,?_,?_⟩
 ·rcases get h with ⟨_,e⟩ | ⟨e,_⟩
  ·exact .inl e
  ·exact .inr (JB2 hn e)
 ·rcases get h with ⟨_,e⟩ | ⟨_,e,_⟩
  ·cases e
  ·cases e
 ·unfold JDK
  rw [List.lookup_cons,beq_self_eq_true]
 ·cases q:(JDK G).lookup (".try":Str) with
  | none=>rfl
  | some k =>
   rcases get q with ⟨e,_⟩ | ⟨_,_,e⟩
   ·exact absurd e (by decide)
   ·exact absurd rfl e
section
variable {B:Bs} {G:List (Str×GK)}
theorem JLM {sub:Nat→Nat→Bool} (hg:HotG G (JDK G)) (I:Isi B G sub):Isi B (JDK G) sub:=⟨fun x c e=>I.own x c (hg.at e (by intro z;cases z)),I.exc,fun k hk x c e=>I.rel k hk x c (hg.at e (by intro z;cases z))⟩
end
noncomputable def JBB (P0:Addr) (K:PySem.W.Frag):PySem.W.Frag:=K.filter fun p=>p.1 != P0
theorem JEq {α:Type}:∀ {l:List (Addr×α)} {a:Addr} {o:α},l.lookup a=some o→(a,o)∈l
 | [],_,_,h=>by cases h
 |(b,u)::r,a,o,h=>by
  rw [List.lookup_cons] at h
  split at h
  · rename_i e
    have e:a=b:=by simpa using e
    cases h
    rw [e]
    exact List.mem_cons_self
  · exact List.mem_cons_of_mem _ (JEq h)
theorem JC2 {P0:Addr} {K:PySem.W.Frag}:(JBB P0 K).lookup P0=none:=by
 cases q:(JBB P0 K).lookup P0 with
 | none=>rfl
 | some o =>
  unfold JBB at q
  have:=(List.mem_filter.mp (JEq q)).2
  simp at this
theorem JB5 {P0:Addr}:∀ {K:PySem.W.Frag} {a:Addr} {o:Obj},(JBB P0 K).lookup a=some o→K.lookup a=some o
 | [],a,o,h=>by cases h
 |(b,u)::r,a,o,h=>by
  unfold JBB at h
  rw [List.filter_cons] at h
  split at h
  · rw [List.lookup_cons] at h ⊢
    split at h
    ·exact h
    ·exact JB5 h
  · rename_i hb
    have hb:b=P0:=by simpa using hb
    rw [List.lookup_cons]
    have ha:a≠P0:=fun z=>by
     rw [z] at h
     have:=JC2 (P0:=P0) (K:=r)
     unfold JBB at this
     rw [this] at h;cases h
    rw [show (a==b)=false from beq_eq_false_iff_ne.mpr fun z=>ha (z.trans hb)]
    exact JB5 h
theorem JH9 {P0:Addr} {K:PySem.W.Frag} {h:Heap} (x:K.In h):(JBB P0 K).In h:=fun a o e=>x a o (JB5 e)
theorem JF7 {K:PySem.W.Frag} {c P:Addr} {od:Option Addr} {vs:Array Value} {sl:Array (Option Value)} {file text:_} {tf tg tt:Tok} {flags:Int} {inF:Bool} (l:K.lookup c=some ⟨.type "code",od,.fields vs,sl⟩) (e1:vs[11]? = some (.ref P)) (e2:vs.getD 11 .none=.ref P) (e3:vs.getD 18 .none=.str file tf) (e4:vs.getD 7 .none=.int flags tg) (e5:vs.getD 9 .none=.bool inF) (e6:vs.getD 10 .none=.int text tt) (e7:c≠P) (base:Heap) (x:K.In base):PySem.W.CodeHd base c P :=
 ⟨_,vs,file,tf,flags,tg,inF,text,tt,x _ _ l,rfl,rfl,e1,e2,e3,e4,e5,e6,e7⟩
theorem JON {K:PySem.W.Frag} {h:Heap} {mg:Str→Option Value} {bm P:Addr} {sl:Array (Option Value)} (X:K.In h) (Gm:h.Ns mainGlobals mg) (e:PySem.W.nsIn K mainGlobals "__builtins__"=some (some (.ref bm))) (n1:bm≠builtinsNs) (n2:bm≠mainGlobals) (n3:bm≠P) (l:K.lookup bm=some ⟨.type "module",some builtinsNs,.plain,sl⟩) (base:Heap) (x:K.In base):base.BuiltinsAt mg P :=
 ⟨bm,_,PySem.W.mg_of X Gm e,n1,n2,n3,x _ _ l,rfl,rfl,rfl⟩
structure LawIn (K:PySem.W.Frag) (st:Stmt) (f c:Addr):Prop where
 ex:∃pm:Value,PySem.W.nsIn K mainGlobals "law"=some (some (.ref f))∧K.lookup f=some ⟨.type "function",none,.func (PySem.W.fnOf "law" "law" (JBF st) (JAZ st) (JAC st) .none .none .none pm none (.ref c) .none),#[]⟩∧PySem.W.codeIn K (.ref c) "law"=true∧PySem.W.keepIn K (.ref f)=true
theorem lawI {K:PySem.W.Frag} {st:Stmt} (f c:Addr) (pm:Value) (a:PySem.W.nsIn K mainGlobals "law"=some (some (.ref f)):=by kernel_rfl)
 (l:K.lookup f=some ⟨.type "function",none,.func (PySem.W.fnOf "law" "law" (JBF st) (JAZ st) (JAC st) .none .none .none pm none (.ref c) .none),#[]⟩:=by kernel_rfl) (cc:PySem.W.codeIn K (.ref c) "law"=true:=by kernel_rfl) (k:PySem.W.keepIn K (.ref f)=true:=by kernel_rfl):LawIn K st f c:=⟨pm,a,l,cc,k⟩
noncomputable def JOp (d en gn cn:Str):List Stmt→Bool
 | [.Try [.Return (some (.Call (.Name d' _) [] [] _)) _] [.ExceptHandler (some (.Name g' _)) (some e') [.Return (some (.Call (.Name c' _) [.Name e2 _] [] _)) _] _] [] [] _]=>d'==d&&g'==gn&&e'==en&&c'==cn&&e2==en
 | _=>false
theorem toldI {st:Stmt} {d en gn cn:Str} (h:JOp d en gn cn (JAZ st)=true:=by kernel_rfl) (sc:FnScope [d,en] [d] (JAC st):=by exact ⟨rfl,rfl,rfl,by decide +kernel,rfl,by decide +kernel,by decide +kernel⟩)
  (ld:(JAC st).names.lookup d=some .local:=by kernel_rfl) (le:(JAC st).names.lookup en=some .local:=by kernel_rfl) (lg:(JAC st).names.lookup gn=some .globalImplicit:=by kernel_rfl) (lc:(JAC st).names.lookup cn=some .globalImplicit:=by kernel_rfl)
  (bd:JAH d=false:=by kernel_rfl) (be:JAH en=false:=by kernel_rfl) (bg:JAH gn=false:=by kernel_rfl) (bc:JAH cn=false:=by kernel_rfl):ToldD st d en gn cn:=by
 refine ⟨?_,sc,ld,le,lg,lc,bd,be,bg,bc⟩
 unfold JOp at h
 split at h
 ·rename_i e
  simp only [Bool.and_eq_true,beq_iff_eq] at h
  obtain ⟨⟨⟨⟨rfl,rfl⟩,rfl⟩,rfl⟩,rfl⟩:=h
  exact ⟨_,_,_,_,_,_,_,_,_,_,e⟩
 ·cases h
theorem tu2 {G:List (Str×GK)} {tn:Str} {st:Stmt} {N ps:List Str} {t:S2} (c:JCF (JCQ G tn 60 (JAC st).names N) (JAZ st)=some t:=by kernel_rfl) (s:FnScope N ps (JAC st):=by exact ⟨rfl,rfl,rfl,by decide +kernel,rfl,by decide +kernel,by decide +kernel⟩):Turned2 G tn st N ps t:=⟨c,s⟩
section
variable {G:List (Str×GK)} {tab:Nat→Option Fd} {glo:Nat→R D} {sub:Nat→Nat→Bool}
theorem JHP [Cool G] {l:PySem.W.OpenLaw} {view:Program} {loose:List Str} {XP:(Str→Option Value)→Heap→Prop} {YP:World→Heap→Prop} {d:DefRec} {K0:Params→PySem.W.Frag} {cl:Nat→Addr} {P0 c0 fa0:Addr} {n cg:Nat} {tn cn gn dn en xk x:Str} {st stt stc:Stmt} {N Nc:List Str} {t:S2} {fdc:Fd}
  (hn:l.most=some 63) (hname:d.name="law") (hdf:d.params.defaults=[]) (hr:Room (n+1) callerA) (hn1:1≤n) (hY:∀(w:World) (h:Heap),YP w h→(K0 w.params).In h) (hT0:∀P,(K0 P).lookup P0=some (PySem.W.tabObj #[]))
  (L:∀P,LawIn (JBB P0 (K0 P)) st fa0 c0) (T:Turned2 G tn st N [x] t) (hbind:JAK "law" st [x]) (hC:∀(P:Params) (base:Heap),(JBB P0 (K0 P)).In base→PySem.W.CodeHd base c0 P0)
  (hBl:∀(w:World) (h:Heap) (mg:Str→Option Value),(JBB P0 (K0 w.params)).In h→h.Ns mainGlobals mg→∀base:Heap,(JBB P0 (K0 w.params)).In base→base.BuiltinsAt mg P0)
  (Ft:∀P,FnIn (JBB P0 (K0 P)) tn stt) (bt:JAK tn stt [dn]) (TD:ToldD stt dn en gn cn) (Fc:∀P,FnIn (JBB P0 (K0 P)) cn stc) (bc:JAK cn stc [xk]) (Tc:Turned (JDK G) stc Nc [xk] fdc) (hgc:G.lookup gn=some (.cls cg)) (hbt:JAH tn=false) (hnd:(G.map (·.1)).Nodup)
  (M:∀(w:World) (h:Heap) (mg:Str→Option Value),(JBB P0 (K0 w.params)).In h→h.Ns mainGlobals mg→Mo mg ⟨JBB P0 (K0 w.params),cl,w⟩ G tab glo sub)
  (ra:∀(w:World) (h:Heap) (mg:Str→Option Value),(JBB P0 (K0 w.params)).In h→h.Ns mainGlobals mg→∀n,Ra3 ⟨JBB P0 (K0 w.params),cl,w⟩ ⟨run true tab glo sub n,glo,sub⟩ G l.prog w)
  (rah:∀(w:World) (h:Heap) (mg:Str→Option Value),(JBB P0 (K0 w.params)).In h→h.Ns mainGlobals mg→∀n,Ra3 ⟨JBB P0 (K0 w.params),cl,w⟩ ⟨run true tab glo sub n,glo,sub⟩ (JDK G) l.prog w)
  (ok:∀ns:List Int,ns.length≤63→JAX ⟨run true tab glo sub n,glo,sub⟩ cg fdc t ([Sl.val (.list (ns.map fun i=>PyData.int i))]++List.replicate (N.length - 1) Sl.no)=.rt (.bool true)) :
  PySem.W.WalkO view loose XP YP l.row.toRowW d [] (fun f vs=>PySem.call f vs):=by
 refine Att.attach_call hn hdf fun w s₀ s₁ mg mb fa o pm cd doc a vs ns Gr Y ho hdd hcd hmg hobj hints hlen hg=>?_
 have KX0:=hY w _ Y
 have KX:(JBB P0 (K0 w.params)).In s₁.heap:=JH9 KX0
 have Gm:=Gr.T.g
 obtain ⟨pm',a1,a2,a3,a4⟩:=(L w.params).ex
 rw [hname] at hmg
 have e:=hmg.symm.trans (PySem.W.mg_of KX Gm a1)
 cases e
 obtain ⟨ft,oc,od,an,sl,kV,dc,pm2,cd2,ct,b1,b2,b3,b4⟩:=(Ft w.params).ex
 have Fn:=JEx (st:=stt) b2 b3 b4
 obtain ⟨fc,oc',od',an',sl',kV',dc',pm3,cd3,ct',c1,c2,c3,c4⟩:=(Fc w.params).ex
 have Fn':=JEx (st:=stc) c2 c3 c4
 have Mm:=M w _ mg KX Gm
 have hot:=JJD hnd
 refine JHm (B:=⟨JBB P0 (K0 w.params),cl,w⟩) (Gh:=JDK G) (ft:=ft) (fc:=fc) (stt:=stt) (N:=N) (t:=t) rfl KX JC2 (KX0 _ _ (hT0 w.params)) Gm Gr.T.b Gr.T.builtins Gr.T.nolimit hg hobj hints hlen hr hn1 Mm (ra w _ mg KX Gm) (JEx (st:=st) a2 a3 a4) T (fun s u=>.of_eq (hbind _ _ _ _ _ _ [u] rfl)) rfl (hC w.params) (hBl w _ mg KX Gm) (fun X e1 e2 e3 e4=>?_) (PySem.W.mg_of KX Gm b1) b4 hbt (ok ns hlen)
 have eB:(⟨JBB P0 (K0 w.params),cl,w⟩:Bs).K=JBB P0 (K0 w.params):=rfl
 refine ⟨⟨dn,en,gn,cn,_,_,stc,Nc,[xk],TD,by rw [e1];exact Fn,by rw [e1];exact Fn.binds bt,by rw [e2];exact Mm.cl.mgc gn cg hgc,by rw [e2];exact PySem.W.mg_of KX Gm c1,by rw [e1];exact c4,by rw [e1];exact Fn',Tc,by rw [e1];exact Fn'.binds bc,rfl,Tc.slots.symm⟩,hot,?_,?_,Mm.exm gn cg hgc⟩
 ·rw [e3,e4];exact (rah w _ mg KX Gm n).ra
 ·rw [e3,e4];exact (rah w _ mg KX Gm n).rr
end
end VI
end
section
namespace VI.VP
open PySem Fr
structure TabM (tab:Nat→Option Fd):Prop where
 h7:tab 7=some d_7
 h8:tab 8=some d_8
 h9:tab 9=some d_9
 h10:tab 10=some d_10
section
variable {x:Bool} {tab:Nat→Option Fd} {glo:Nat→R D} {sub:Nat→Nat→Bool} {n:Nat}
theorem JCB (T:TabF tab) (some':D):∀(qs:List Rat) (m:Rat) (z:Sl),z.isOwn=false→Q m→(∀q∈qs,Q q)→∃m' z',(m'=m∨m'∈qs)∧m'≤m∧(∀q∈qs,m'≤q)∧Q m' ∧
  for2 ⟨run x tab glo sub (n+1),glo,sub⟩ 2 (.cons (.ife (.call 6 (.cons (.var 2) (.cons (.var 1) .nil))) (.cons (.asg 1 (.var 2)) .nil) .nil) .nil) (qs.map F) [.val some',.val (F m),z]=.nx [.val some',.val (F m'),z']
 | [],m,z,hz,hm,hq=>⟨m,z,.inl rfl,Rat.le_refl,by simp,hm,rfl⟩
 | q::qs,m,z,hz,hm,hq=>by
  have hq0:Q q:=hq q (by simp)
  rw [List.map_cons,JBu]
  by_cases h:q<m
  ·obtain ⟨m',z',h1,h2,h3,h4,h5⟩:=JCB T some' qs q (.val (F q)) rfl hq0 (fun q hq'=>hq q (by simp [hq']))
   refine ⟨m',z',?_,?_,?_,h4,?_⟩
   ·rcases h1 with h1 | h1
    ·exact .inr (by simp [h1])
    ·exact .inr (by simp [h1])
   ·grind
   ·intro r hr
    rcases List.mem_cons.mp hr with e | e
    ·subst e;exact h2
    ·exact h3 r e
   ·dsimp! [JCX T hq0 hm,h,decide_true]
    exact h5
  ·obtain ⟨m',z',h1,h2,h3,h4,h5⟩:=JCB T some' qs m (.val (F q)) rfl hm (fun q hq'=>hq q (by simp [hq']))
   refine ⟨m',z',?_,h2,?_,h4,?_⟩
   ·rcases h1 with h1 | h1
    ·exact .inl h1
    ·exact .inr (by simp [h1])
   ·intro r hr
    rcases List.mem_cons.mp hr with e | e
    ·subst e;grind
    ·exact h3 r e
   ·dsimp! [JCX T hq0 hm,h,decide_false]
    exact h5
theorem JCR (T:TabF tab) (some':D):∀(qs:List Rat) (m:Rat) (z:Sl),z.isOwn=false→Q m→(∀q∈qs,Q q)→∃m' z',(m'=m∨m'∈qs)∧m≤m'∧(∀q∈qs,q≤m')∧Q m' ∧
  for2 ⟨run x tab glo sub (n+1),glo,sub⟩ 2 (.cons (.ife (.call 6 (.cons (.var 1) (.cons (.var 2) .nil))) (.cons (.asg 1 (.var 2)) .nil) .nil) .nil) (qs.map F) [.val some',.val (F m),z]=.nx [.val some',.val (F m'),z']
 | [],m,z,hz,hm,hq=>⟨m,z,.inl rfl,Rat.le_refl,by simp,hm,rfl⟩
 | q::qs,m,z,hz,hm,hq=>by
  have hq0:Q q:=hq q (by simp)
  rw [List.map_cons,JBu]
  by_cases h:m<q
  ·obtain ⟨m',z',h1,h2,h3,h4,h5⟩:=JCR T some' qs q (.val (F q)) rfl hq0 (fun q hq'=>hq q (by simp [hq']))
   refine ⟨m',z',?_,?_,?_,h4,?_⟩
   ·rcases h1 with h1 | h1
    ·exact .inr (by simp [h1])
    ·exact .inr (by simp [h1])
   ·grind
   ·intro r hr
    rcases List.mem_cons.mp hr with e | e
    ·subst e;exact h2
    ·exact h3 r e
   ·dsimp! [JCX T hm hq0,h,decide_true]
    exact h5
  ·obtain ⟨m',z',h1,h2,h3,h4,h5⟩:=JCR T some' qs m (.val (F q)) rfl hm (fun q hq'=>hq q (by simp [hq']))
   refine ⟨m',z',?_,h2,?_,h4,?_⟩
   ·rcases h1 with h1 | h1
    ·exact .inl h1
    ·exact .inr (by simp [h1])
   ·intro r hr
    rcases List.mem_cons.mp hr with e | e
    ·subst e;grind
    ·exact h3 r e
   ·dsimp! [JCX T hm hq0,h,decide_false]
    exact h5
theorem JJt (a:D) (r:List D):idxD (.list (a::r)) (.int 0)=.ok a:=by
 simp [idxD,atI,ixN,optR]
theorem JDR (T:TabF tab) (M:TabM tab) (p:Rat) (qs:List Rat) (hq:∀q∈p::qs,Q q):∃m,m∈p::qs∧(∀q∈p::qs,m≤q)∧Q m∧run x tab glo sub (n+2) 7 [.list ((p::qs).map F)]=.ok (F m):=by
 rw [JAB M.h7,JAA rfl]
 obtain ⟨m,z,h1,h2,h3,h4,h5⟩:=JCB (x:=x) (glo:=glo) (sub:=sub) (n:=n) T (.list ((p::qs).map F)) (p::qs) p .no rfl (hq p (by simp)) hq
 refine ⟨m,?_,h3,h4,?_⟩
 ·rcases h1 with h1 | h1
  ·simp [h1]
  ·exact h1
 ·simp only [List.map_cons] at h5 ⊢
  dsimp! [d_7,b_7,JJt,JAk,JAx,JBJ,JAy,h5]
theorem JEU (T:TabF tab) (M:TabM tab) (p:Rat) (qs:List Rat) (hq:∀q∈p::qs,Q q):∃m,m∈p::qs∧(∀q∈p::qs,q≤m)∧Q m∧run x tab glo sub (n+2) 8 [.list ((p::qs).map F)]=.ok (F m):=by
 rw [JAB M.h8,JAA rfl]
 obtain ⟨m,z,h1,h2,h3,h4,h5⟩:=JCR (x:=x) (glo:=glo) (sub:=sub) (n:=n) T (.list ((p::qs).map F)) (p::qs) p .no rfl (hq p (by simp)) hq
 refine ⟨m,?_,h3,h4,?_⟩
 ·rcases h1 with h1 | h1
  ·simp [h1]
  ·exact h1
 ·simp only [List.map_cons] at h5 ⊢
  dsimp! [d_8,b_8,JJt,JAk,JAx,JBJ,JAy,h5]
end
end VI.VP
end
section
namespace VI.VP
open PySem Fr
theorem JMn (p:Rat):(F p).canLay0=true:=by
 simp only [F,PyData.canLayAll0,PyData.canLay0,Bool.and_self]
theorem JHW (p:Rat):(F p).depth=1:=by
 simp only [F,PyData.depth,PyData.depthAll];rfl
section
variable {x:Bool} {tab:Nat→Option Fd} {glo:Nat→R D} {sub:Nat→Nat→Bool} {n:Nat}
end
end VI.VP
end
section
namespace VI.VP
noncomputable def b_23:S:=(.cons (.ret (.and (.isi (.var 0) .int) (.not (.isi (.var 0) .bool)))) .nil)
noncomputable def d_23:Fd:=⟨1,1,b_23⟩
noncomputable def b_24:S:=(.cons (.ife (.or (.not (.isi (.var 0) .tuple)) (.cmp .NotEq (.blt .len (.cons (.var 0) .nil)) (.cint 2))) (.cons (.ret (.cbl false)) .nil) .nil) (.cons (.asg 1 (.idx (.var 0) (.cint 0))) (.cons (.asg 2 (.idx (.var 0) (.cint 1))) (.cons (.ife (.or (.not (.call 23 (.cons (.var 1) .nil))) (.not (.call 23 (.cons (.var 2) .nil)))) (.cons (.ret (.cbl false)) .nil) .nil) (.cons (.ret (.and (.cmp .Gt (.var 2) (.cint 0)) (.cmp .Eq (.call 0 (.cons (.var 1) (.cons (.var 2) .nil))) (.cint 1)))) .nil)))))
noncomputable def d_24:Fd:=⟨1,3,b_24⟩
noncomputable def b_25:S:=(.cons (.ret (.call 1 (.cons (.bin .Mult (.idx (.var 0) (.cint 0)) (.idx (.var 1) (.cint 1))) (.cons (.bin .Mult (.idx (.var 0) (.cint 1)) (.idx (.var 1) (.cint 0))) .nil)))) .nil)
noncomputable def d_25:Fd:=⟨2,2,b_25⟩
noncomputable def b_26:S:=(.cons (.asg 1 (.lst (.cons (.isi (.var 0) (.own 1)) (.cons (.isi (.var 0) (.own 2)) (.cons (.isi (.var 0) (.own 6)) (.cons (.isi (.var 0) (.own 3)) .nil)))))) (.cons (.ext 1 (.lst (.cons (.isi (.var 0) (.own 7)) (.cons (.isi (.var 0) (.own 5)) (.cons (.isi (.var 0) (.own 4)) .nil))))) (.cons (.ife (.or (.cmp .NotEq (.mcount (.var 1) (.cbl true)) (.cint 1)) (.not (.isi (.var 0) .valueError))) (.cons (.ret (.cstr "wrong")) .nil) .nil) (.cons (.ret (.idx (.lst (.cons (.cstr "no frac") (.cons (.cstr "no kind") (.cons (.cstr "no name") (.cons (.cstr "no plan") (.cons (.cstr "no text") (.cons (.cstr "no time") (.cons (.cstr "no track") .nil)))))))) (.mindex (.var 1) (.cbl true)))) .nil))))
noncomputable def d_26:Fd:=⟨1,2,b_26⟩
noncomputable def b_27:S:=(.cons (.asg 3 .cnon) (.cons (.asg 4 .cnon) (.cons (.tryx (.cons (.asg 4 (.ife (.cmp .Eq (.var 0) (.cint 0)) (.call 1 (.cons (.var 1) (.cons (.var 2) .nil))) (.call 25 (.cons (.var 1) (.cons (.var 2) .nil))))) .nil) 0 5 (.cons (.asg 3 (.var 5)) .nil)) (.cons (.ife (.isN (.var 3) false) (.cons (.ret (.var 4)) .nil) .nil) (.cons (.ret (.call 26 (.cons (.var 3) .nil))) .nil)))))
noncomputable def d_27:Fd:=⟨3,6,b_27⟩
end VI.VP
end
section
namespace VI.VP
open PySem Fr
structure SubOk (sub:Nat→Nat→Bool) (k:Nat):Prop where
 h0:sub k 0=true
 h1:sub k 1=decide (k=1)
 h2:sub k 2=decide (k=2)
 h3:sub k 3=decide (k=3)
 h4:sub k 4=decide (k=4)
 h5:sub k 5=decide (k=5)
 h6:sub k 6=decide (k=6)
 h7:sub k 7=decide (k=7)
 me:sub k k=true
theorem JLN {sub:Nat→Nat→Bool} {k c:Nat} (h:sub k k=true):isiD sub (excD k) (.own c)=.ok (.bool (sub k c)):=by
 simp only [isiD,excD,Int.toNat_natCast,h,if_true]
theorem JL7 {sub:Nat→Nat→Bool} {k:Nat} (h:sub k k=true):isiD sub (excD k) .valueError=.ok (.bool true):=by
 simp only [isiD,excD,Int.toNat_natCast,h,if_true]
section
variable {x:Bool} {tab:Nat→Option Fd} {glo:Nat→R D} {sub:Nat→Nat→Bool} {n:Nat}
structure TabI (tab:Nat→Option Fd):Prop where
 h23:tab 23=some d_23
 h24:tab 24=some d_24
 h25:tab 25=some d_25
noncomputable def isW:D→Bool
 | .int _=>true
 | _=>false
theorem JBO (T:TabI tab) (d:D) {b1 b2:Bool} (h1:isiD sub d .int=.ok (.bool b1)) (h2:isiD sub d .bool=.ok (.bool b2)):run x tab glo sub (n+1) 23 [d]=.ok (.bool (b1&&!b2)):=by
 rw [JAB T.h23,JAA rfl]
 cases b1
 ·dsimp! [d_23,b_23,h1,h2]
 ·dsimp! [d_23,b_23,h1,h2,Bool.true_and]
theorem JHZ (T:TabI tab) (d:D) (h:∀k,d≠.dict k):run x tab glo sub (n+1) 23 [d]=.ok (.bool (isW d)):=by
 cases d with
 | dict k=>exact absurd rfl (h k)
 | none=>exact JBO (b1:=false) (b2:=false) T _ rfl rfl
 | bool k=>exact JBO (b1:=true) (b2:=true) T _ rfl rfl
 | int k=>exact JBO (b1:=true) (b2:=false) T _ rfl rfl
 | str k=>exact JBO (b1:=false) (b2:=false) T _ rfl rfl
 | list k=>exact JBO (b1:=false) (b2:=false) T _ rfl rfl
 | tuple k=>exact JBO (b1:=false) (b2:=false) T _ rfl rfl
theorem JE0 (T:TabF tab) (I:TabI tab) (a b:Int):run x tab glo sub (n+2) 24 [.tuple [.int a,.int b]]=.ok (.bool (decide (0<b)&&decide (a.gcd b=1))):=by
 have w:=fun (d:D) (h:∀k,d≠.dict k)=>JHZ (x:=x) (glo:=glo) (sub:=sub) (n:=n) I d h
 have e0:idxD (.tuple [.int a,.int b]) (.int 0)=.ok (.int a):=rfl
 have e1:idxD (.tuple [.int a,.int b]) (.int 1)=.ok (.int b):=rfl
 have e2:isiD sub (.tuple [.int a,.int b]) .tuple=.ok (.bool true):=rfl
 have e3:(2:Int)=(((0+1+1:Nat)):Int):=rfl
 have e4:((((a.gcd b:Nat):Int))=1)=(a.gcd b=1):=by apply propext;omega
 rw [JAB I.h24,JAA rfl]
 by_cases hb:0<b
 ·dsimp! [d_24,b_24,e0,e1,e2,e3,w (.int a) (fun k h=>by cases h),w (.int b) (fun k h=>by cases h),isW,List.length_cons,List.length_nil,Nat.reduceAdd,Bool.not_true,hb,decide_true,JIW T,Bool.true_and,e4]
 ·dsimp! [d_24,b_24,e0,e1,e2,e3,w (.int a) (fun k h=>by cases h),w (.int b) (fun k h=>by cases h),isW,List.length_cons,List.length_nil,Nat.reduceAdd,Bool.not_true,hb,decide_true,decide_false,JIW T,Bool.true_and,e4]
theorem isf_F (T:TabF tab) (I:TabI tab) (p:Rat):run x tab glo sub (n+2) 24 [F p]=.ok (.bool true):=by
 rw [F,JE0 T I,JLT]
 have:=den_pos p
 rw [decide_eq_true this]
 rfl
theorem JL2 (T:TabF tab) (I:TabI tab) (d:D) (h:isiD sub d .tuple=.ok (.bool false)):run x tab glo sub (n+2) 24 [d]=.ok (.bool false):=by
 rw [JAB I.h24,JAA rfl]
 dsimp! [d_24,b_24,h,Bool.not_false]
end
end VI.VP
end
section
namespace VI.VP
noncomputable def b_29:S:=(.cons (.ret (.cmp .In (.var 0) (.glo 41))) .nil)
noncomputable def d_29:Fd:=⟨1,1,b_29⟩
noncomputable def b_30:S:=(.cons (.ife (.not (.call 29 (.cons (.var 0) .nil))) (.cons (.rais 2) .nil) .nil) .nil)
noncomputable def d_30:Fd:=⟨1,1,b_30⟩
noncomputable def b_31:S:=(.cons (.ret (.call 8 (.cons (.lst (.cons (.glo 39) (.cons (.call 7 (.cons (.lst (.cons (.glo 40) (.cons (.var 0) .nil))) .nil)) .nil))) .nil))) .nil)
noncomputable def d_31:Fd:=⟨1,1,b_31⟩
noncomputable def b_32:S:=(.cons (.drop (.call 30 (.cons (.var 0) .nil))) (.cons (.asg 2 (.call 31 (.cons (.var 1) .nil))) (.cons (.ife (.cmp .Eq (.var 0) (.cstr "even")) (.cons (.ret (.var 2)) .nil) .nil) (.cons (.ife (.cmp .Eq (.var 0) (.cstr "in")) (.cons (.ret (.call 5 (.cons (.var 2) (.cons (.var 2) .nil)))) .nil) .nil) (.cons (.ife (.cmp .Eq (.var 0) (.cstr "out")) (.cons (.ret (.call 4 (.cons (.call 5 (.cons (.call 2 (.cons (.cint 2) .nil)) (.cons (.var 2) .nil))) (.cons (.call 5 (.cons (.var 2) (.cons (.var 2) .nil))) .nil)))) .nil) .nil) (.cons (.ife (.cmp .Eq (.var 0) (.cstr "both")) (.cons (.ret (.call 5 (.cons (.call 5 (.cons (.var 2) (.cons (.var 2) .nil))) (.cons (.call 4 (.cons (.call 2 (.cons (.cint 3) .nil)) (.cons (.call 5 (.cons (.call 2 (.cons (.cint 2) .nil)) (.cons (.var 2) .nil))) .nil))) .nil)))) .nil) .nil) (.cons (.ife (.cmp .Eq (.var 0) (.cstr "hold")) (.cons (.ret (.ife (.cmp .Eq (.var 2) (.glo 40)) (.glo 40) (.glo 39))) .nil) .nil) (.cons (.ret (.ife (.cmp .Eq (.var 2) (.glo 39)) (.glo 39) (.glo 40))) .nil))))))))
noncomputable def d_32:Fd:=⟨2,3,b_32⟩
noncomputable def b_33:S:=(.cons (.drop (.call 30 (.cons (.var 0) .nil))) (.cons (.ret (.mget (.glo 42) (.var 0) (.var 0))) .nil))
noncomputable def d_33:Fd:=⟨1,1,b_33⟩
noncomputable def b_34:S:=(.cons (.drop (.call 30 (.cons (.var 0) .nil))) (.cons (.ife (.cmp .Lt (.var 1) (.cint 1)) (.cons (.ret (.lst .nil)) .nil) .nil) (.cons (.ret (.cmpr 0 (.call 32 (.cons (.var 1) (.cons (.call 1 (.cons (.var 0) (.cons (.var 2) .nil))) .nil))) (.rng (.cons (.bin .Add (.var 1) (.cint 1)) .nil)) (.cbl true))) .nil)))
noncomputable def d_34:Fd:=⟨2,2,b_34⟩
noncomputable def b_35:S:=(.cons (.ret (.idx (.lst (.cons (.cstr "even") (.cons (.cstr "in") (.cons (.cstr "out") (.cons (.cstr "both") (.cons (.cstr "hold") (.cons (.cstr "jump") .nil))))))) (.call 12 (.cons (.var 0) (.cons (.var 1) (.cons (.cint 6) .nil)))))) .nil)
noncomputable def d_35:Fd:=⟨2,2,b_35⟩
noncomputable def b_36:S:=(.cons (.ife (.cmp .LtE (.idx (.var 1) (.cint 0)) (.cint 0)) (.cons (.ret (.tup (.cons (.cint 0) (.cons (.cint 1) .nil)))) .nil) .nil) (.cons (.ife (.cmp .GtE (.idx (.var 1) (.cint 0)) (.idx (.var 1) (.cint 1))) (.cons (.ret (.tup (.cons (.cint 1) (.cons (.cint 1) .nil)))) .nil) .nil) (.cons (.ife (.cmp .In (.var 0) (.tup (.cons (.cstr "hold") (.cons (.cstr "jump") .nil)))) (.cons (.ret (.ife (.cmp .Eq (.var 0) (.cstr "hold")) (.tup (.cons (.cint 0) (.cons (.cint 1) .nil))) (.tup (.cons (.cint 1) (.cons (.cint 1) .nil))))) .nil) .nil) (.cons (.unp [2,3] (.var 1)) (.cons (.ife (.cmp .Eq (.var 0) (.cstr "even")) (.cons (.ret (.var 1)) .nil) .nil) (.cons (.ife (.cmp .Eq (.var 0) (.cstr "in")) (.cons (.ret (.call 14 (.cons (.bin .Mult (.var 2) (.var 2)) (.cons (.bin .Mult (.var 3) (.var 3)) .nil)))) .nil) .nil) (.cons (.ife (.cmp .Eq (.var 0) (.cstr "out")) (.cons (.ret (.call 14 (.cons (.bin .Sub (.bin .Mult (.bin .Mult (.cint 2) (.var 2)) (.var 3)) (.bin .Mult (.var 2) (.var 2))) (.cons (.bin .Mult (.var 3) (.var 3)) .nil)))) .nil) .nil) (.cons (.ret (.call 14 (.cons (.bin .Sub (.bin .Mult (.bin .Mult (.bin .Mult (.cint 3) (.var 2)) (.var 2)) (.var 3)) (.bin .Mult (.bin .Mult (.bin .Mult (.cint 2) (.var 2)) (.var 2)) (.var 2))) (.cons (.bin .Mult (.bin .Mult (.var 3) (.var 3)) (.var 3)) .nil)))) .nil))))))))
noncomputable def d_36:Fd:=⟨2,4,b_36⟩
noncomputable def b_37:S:=(.cons (.asg 2 .cnon) (.cons (.asg 3 .cnon) (.cons (.tryx (.cons (.asg 3 (.ife (.cmp .Eq (.var 0) (.cint 0)) (.call 32 (.cons (.var 1) (.cons (.tup (.cons (.cint 1) (.cons (.cint 2) .nil))) .nil))) (.call 33 (.cons (.var 1) .nil)))) .nil) 0 4 (.cons (.asg 2 (.var 4)) .nil)) (.cons (.ife (.isN (.var 2) false) (.cons (.ret (.var 3)) .nil) .nil) (.cons (.ret (.call 26 (.cons (.var 2) .nil))) .nil)))))
noncomputable def d_37:Fd:=⟨2,5,b_37⟩
end VI.VP
end
section
namespace VI.VP
open PySem Fr
inductive Kd where
 | even | inn | out | both | hold | jump
 deriving DecidableEq
noncomputable def Kd.str:Kd→Str
 | .even=>"even"
 | .inn=>"in"
 | .out=>"out"
 | .both=>"both"
 | .hold=>"hold"
 | .jump=>"jump"
noncomputable def Kd.turn:Kd→Kd
 | .inn=>.out
 | .out=>.inn
 | .hold=>.jump
 | .jump=>.hold
 | k=>k
noncomputable def JBI (r:Rat):Rat:=if r≤0 then 0 else if 1≤r then 1 else r
noncomputable def ez (k:Kd) (p:Rat):Rat:=match k with
 | .even=>p
 | .inn=>p*p
 | .out=>2*p - p*p
 | .both=>p*p*(3 - 2*p)
 | .hold=>if p=1 then 1 else 0
 | .jump=>if p=0 then 0 else 1
noncomputable def kinds:D:=.tuple [.str "even",.str "in",.str "out",.str "both",.str "hold",.str "jump"]
noncomputable def turned:D:=.dict [(.str "in",.str "out"),(.str "out",.str "in"),(.str "hold",.str "jump"),(.str "jump",.str "hold")]
structure GloK (glo:Nat→R D):Prop where
 zero:glo 39=.ok (F 0)
 one:glo 40=.ok (F 1)
 kinds:glo 41=.ok VP.kinds
 turned:glo 42=.ok VP.turned
structure TabK (tab:Nat→Option Fd):Prop where
 h29:tab 29=some d_29
 h30:tab 30=some d_30
 h31:tab 31=some d_31
 h32:tab 32=some d_32
 h33:tab 33=some d_33
section
variable {x:Bool} {tab:Nat→Option Fd} {glo:Nat→R D} {sub:Nat→Nat→Bool} {n:Nat}
theorem JJ9 (g:GloK glo) (T:TabK tab) (d:D) {b:Bool} (h:cmpD .In d VP.kinds=.ok (.bool b)):run x tab glo sub (n+1) 29 [d]=.ok (.bool b):=by
 rw [JAB T.h29,JAA rfl]
 dsimp! [d_29,b_29,g.kinds,h]
theorem JFI (k:Kd):cmpD .In (.str k.str) VP.kinds=.ok (.bool true):=by
 have h:JCE [.str "even",.str "in",.str "out",.str "both",.str "hold",.str "jump"] (.str k.str)=true:=by cases k<;>decide +kernel
 have h2:([.str "even",.str "in",.str "out",.str "both",.str "hold",.str "jump"]:List D).any (fun z=>PyData.eqv z (.str k.str))=true:=by cases k<;>decide +kernel
 simp only [cmpD,VP.kinds,h,if_true,h2]
theorem JL8 (g:GloK glo) (T:TabK tab) (k:Kd):run x tab glo sub (n+2) 30 [.str k.str]=.ok .none:=by
 rw [JAB T.h30,JAA rfl]
 dsimp! [d_30,b_30,JJ9 g T _ (JFI k),Bool.not_true]
theorem JE8 {k:Nat} {r:Rat} (hk:1≤k) (h:Sz k r):Sz k (JBI r):=by
 unfold JBI
 have h0:Sz 1 (0:Rat):=⟨by decide,by decide⟩
 have h1:Sz 1 (1:Rat):=⟨by decide,by decide⟩
 split
 ·exact h0.mono hk
 ·split
  ·exact h1.mono hk
  ·exact h
theorem JG7 (g:GloK glo) (F0:TabF tab) (M:TabM tab) (T:TabK tab) {r:Rat} (hr:Q r):run x tab glo sub (n+3) 31 [F r]=.ok (F (JBI r)):=by
 have h0:Q (0:Rat):=⟨by decide +kernel,by decide +kernel⟩
 have h1:Q (1:Rat):=⟨by decide +kernel,by decide +kernel⟩
 obtain ⟨a,a1,a2,a3,a4⟩:=JDR (x:=x) (glo:=glo) (sub:=sub) (n:=n) F0 M 1 [r] (by simp [h1,hr])
 obtain ⟨b,b1,b2,b3,b4⟩:=JEU (x:=x) (glo:=glo) (sub:=sub) (n:=n) F0 M 0 [a] (by simp [h0,a3])
 simp only [List.map_cons,List.map_nil] at a4 b4
 have e:b=JBI r:=by
  have q1:=a2 1 (by simp)
  have q2:=a2 r (by simp)
  have q3:=b2 0 (by simp)
  have q4:=b2 a (by simp)
  simp only [List.mem_cons,List.not_mem_nil,or_false] at a1 b1
  unfold JBI
  grind
 subst e
 rw [JAB T.h31,JAA rfl]
 dsimp! [d_31,b_31,g.zero,g.one,a4,b4]
theorem JF2 {a b:Str} (ha:shaped (.str a)=true) (hb:shaped (.str b)=true):cmpD .Eq (.str a) (.str b)=.ok (.bool (a==b)):=by
 simp only [cmpD,ha,hb,Bool.and_self,if_true,PyData.eqv]
theorem JCg (k:Kd):shaped (.str k.str)=true:=by cases k<;>decide +kernel
theorem kd_eq (k j:Kd):cmpD .Eq (.str k.str) (.str j.str)=.ok (.bool (decide (k=j))):=by
 rw [JF2 (JCg k) (JCg j)]
 have:(k.str==j.str)=decide (k=j):=by cases k<;>cases j<;>decide +kernel
 rw [this]
theorem W2:PyData.tuple [.int 2,.int 1]=F 2:=rfl
theorem JIG (g:GloK glo) (F0:TabF tab) (M:TabM tab) (T:TabK tab) (k:Kd) {r:Rat} (hr:Sz 200 r):run x tab glo sub (n+4) 32 [.str k.str,F r]=.ok (F (ez k (JBI r))):=by
 have hp:Sz 200 (JBI r):=JE8 (by omega) hr
 obtain ⟨p,e⟩:∃p,p=JBI r:=⟨_,rfl⟩
 have kp:run x tab glo sub (n+3) 31 [F r]=.ok (F p):=by rw [e];exact JG7 g F0 M T (hr.mono (by omega))
 rw [←e] at hp ⊢
 have z2:Sz 2 (2:Rat):=⟨by decide,by decide⟩
 have z3:Sz 2 (3:Rat):=⟨by decide,by decide⟩
 have z1:Sz 2 (1:Rat):=⟨by decide,by decide⟩
 have z0:Sz 2 (0:Rat):=⟨by decide,by decide⟩
 have pp:Sz 400 (p*p):=hp.mul hp (by omega)
 have p2:Sz 202 (2*p):=z2.mul hp (by omega)
 have q3:Sz 205 (3 - 2*p):=z3.sub p2 (by omega)
 obtain ⟨ks,hk⟩:∃ks,ks=k.str:=⟨_,rfl⟩
 have nk:run x tab glo sub (n+3) 30 [.str ks]=.ok .none:=by rw [hk];exact JL8 g T k
 have c:∀j:Kd,cmpD .Eq (.str ks) (.str j.str)=.ok (.bool (decide (k=j))):=by rw [hk];exact kd_eq k
 rw [←hk]
 clear hk
 have c1:=c .even
 have c2:=c .inn
 have c3:=c .out
 have c4:=c .both
 have c5:=c .hold
 simp only [Kd.str] at c1 c2 c3 c4 c5
 rw [JAB T.h32,JAA rfl]
 have w2:run x tab glo sub (n+3) 2 [.int 2]=.ok (F 2):=JDO F0 2
 have w3:run x tab glo sub (n+3) 2 [.int 3]=.ok (F 3):=JDO F0 3
 have m1:run x tab glo sub (n+3) 5 [F p,F p]=.ok (F (p*p)):=JCL F0 (hp.mono (by omega)) (hp.mono (by omega))
 have m2:run x tab glo sub (n+3) 5 [F 2,F p]=.ok (F (2*p)):=JCL F0 (z2.mono (by omega)) (hp.mono (by omega))
 have m3:run x tab glo sub (n+3) 4 [F (2*p),F (p*p)]=.ok (F (2*p - p*p)):=JDT F0 (p2.mono (by omega)) (pp.mono (by omega))
 have m4:run x tab glo sub (n+3) 4 [F 3,F (2*p)]=.ok (F (3 - 2*p)):=JDT F0 (z3.mono (by omega)) (p2.mono (by omega))
 have m5:run x tab glo sub (n+3) 5 [F (p*p),F (3 - 2*p)]=.ok (F (p*p*(3 - 2*p))):=JCL F0 (pp.mono (by omega)) (q3.mono (by omega))
 cases k
 case hold =>
  by_cases h:p=1<;>dsimp! [d_32,b_32,nk,JAS,kp,c1,c2,c3,c4,c5,reduceCtorEq,decide_true,decide_false,ez,h,g.zero,g.one]
 case jump =>
  by_cases h:p=0<;>dsimp! [d_32,b_32,nk,JAS,kp,c1,c2,c3,c4,c5,reduceCtorEq,decide_true,decide_false,ez,h,g.zero,g.one]
 all_goals dsimp! [d_32,b_32,nk,JAS,kp,c1,c2,c3,c4,c5,w2,w3,m1,m2,m3,m4,m5,reduceCtorEq,decide_true,decide_false,ez,g.zero,g.one]
end
theorem ez1 (k:Kd):ez k 1=1:=by cases k<;>decide +kernel
section
variable {x:Bool} {tab:Nat→Option Fd} {glo:Nat→R D} {sub:Nat→Nat→Bool} {n:Nat}
end
noncomputable def e8 (k:Kd) (s:Int):Rat:=ez k (JBI (Rat.divInt s 8))
section
variable {x:Bool} {tab:Nat→Option Fd} {glo:Nat→R D} {sub:Nat→Nat→Bool} {n:Nat}
noncomputable def parts (k:Kd) (m:Int):List Rat:=(List.range (m+1).toNat).map fun j:Nat=>ez k (JBI (Rat.divInt (j:Int) m))
end
end VI.VP
end
section
namespace VI.VP
noncomputable def b_43:S:=(.cons (.drop (.call 30 (.cons (.var 0) .nil))) (.cons (.ife (.or (.call 6 (.cons (.var 1) (.cons (.glo 39) .nil))) (.call 6 (.cons (.glo 40) (.cons (.var 1) .nil)))) (.cons (.ret (.glo 39)) .nil) .nil) (.cons (.ife (.cmp .Eq (.var 0) (.cstr "even")) (.cons (.ret (.glo 40)) .nil) .nil) (.cons (.ife (.cmp .Eq (.var 0) (.cstr "in")) (.cons (.ret (.call 5 (.cons (.call 2 (.cons (.cint 2) .nil)) (.cons (.var 1) .nil)))) .nil) .nil) (.cons (.ife (.cmp .Eq (.var 0) (.cstr "out")) (.cons (.ret (.call 4 (.cons (.call 2 (.cons (.cint 2) .nil)) (.cons (.call 5 (.cons (.call 2 (.cons (.cint 2) .nil)) (.cons (.var 1) .nil))) .nil)))) .nil) .nil) (.cons (.ife (.cmp .Eq (.var 0) (.cstr "both")) (.cons (.ret (.call 5 (.cons (.call 2 (.cons (.cint 6) .nil)) (.cons (.call 4 (.cons (.var 1) (.cons (.call 5 (.cons (.var 1) (.cons (.var 1) .nil))) .nil))) .nil)))) .nil) .nil) (.cons (.ret (.glo 39)) .nil)))))))
noncomputable def d_43:Fd:=⟨2,2,b_43⟩
noncomputable def b_44:S:=(.cons (.asg 1 .cnon) (.cons (.tryx (.cons (.drop (.call 43 (.cons (.var 0) (.cons (.tup (.cons (.cint 1) (.cons (.cint 2) .nil))) .nil)))) .nil) 0 2 (.cons (.asg 1 (.var 2)) .nil)) (.cons (.ret (.isi (.var 1) (.own 2))) .nil)))
noncomputable def d_44:Fd:=⟨1,3,b_44⟩
end VI.VP
end
section
namespace VI.VP
open PySem Fr
noncomputable def slm (k:Kd) (r:Rat):Rat:=match k with
 | .even=>1
 | .inn=>2*r
 | .out=>2 - 2*r
 | .both=>6*(r - r*r)
 | .hold=>0
 | .jump=>0
noncomputable def sl (k:Kd) (r:Rat):Rat:=if r<0∨1<r then 0 else slm k r
section
variable {x:Bool} {tab:Nat→Option Fd} {glo:Nat→R D} {sub:Nat→Nat→Bool} {n:Nat}
end
end VI.VP
end
section
namespace VI.VP
open PySem Fr
class Z (k:outParam Nat) (q:Rat):Prop where
 h:Sz k q
theorem Z.le {k:Nat} {q:Rat} (z:Z k q) {n:Nat} (h:k≤n):Sz n q:=z.h.mono h
section
variable {i j:Nat} {p q:Rat}
instance [a:Z i p] [b:Z j q]:Z (i+j+1) (p+q):=⟨a.h.add b.h (Nat.le_refl _)⟩
instance [a:Z i p] [b:Z j q]:Z (i+j+1) (p - q):=⟨a.h.sub b.h (Nat.le_refl _)⟩
instance [a:Z i p] [b:Z j q]:Z (i+j) (p*q):=⟨a.h.mul b.h (Nat.le_refl _)⟩
instance [a:Z i p] [b:Z j q]:Z (i+j+1) (p / q):=⟨by
 by_cases h:q=0
 ·subst h
  rw [show p / (0:Rat)=0 by rw [Rat.div_def];simp]
  exact ⟨Nat.pow_pos (by omega),Nat.lt_of_lt_of_le (by decide:(0:Rat).den<2 ^ 1) (Nat.pow_le_pow_right (by omega) (by omega))⟩
 ·exact a.h.div b.h h (by omega)⟩
instance:Z 3 (1:Rat):=⟨⟨by decide,by decide⟩⟩
instance:Z 3 (2:Rat):=⟨⟨by decide,by decide⟩⟩
instance:Z 3 (3:Rat):=⟨⟨by decide,by decide⟩⟩
instance [a:Z i q]:Z (i+1) (JBI q):=⟨JE8 (by omega) (a.h.mono (by omega))⟩
theorem sz01 {n:Nat} (h:1≤n):Sz n (0:Rat)∧Sz n (1:Rat):=⟨Sz.mono (i:=1) ⟨by decide,by decide⟩ h,Sz.mono (i:=1) ⟨by decide,by decide⟩ h⟩
instance [a:Z i p] {k:Kd}:Z (4*i+10) (ez k p):=⟨by
 have z2:Z 3 (2:Rat):=inferInstance
 have h1:Z (i+i) (p*p):=inferInstance
 have h2:Z ((3+i)+(i+i)+1) (2*p - p*p):=inferInstance
 have h3:Z ((i+i)+(3+(3+i)+1)) (p*p*(3 - 2*p)):=inferInstance
 cases k
 ·exact a.le (by omega)
 ·exact h1.le (by omega)
 ·exact h2.le (by omega)
 ·exact h3.le (by omega)
 ·show Sz _ (if p=1 then 1 else 0);split<;>first | exact (sz01 (by omega)).1 | exact (sz01 (by omega)).2
 ·show Sz _ (if p=0 then 0 else 1);split<;>first | exact (sz01 (by omega)).1 | exact (sz01 (by omega)).2⟩
end
theorem nd (q:Rat):q*((q.den:Int):Rat)=(q.num:Rat):=by
 have z:((q.den:Int):Rat)≠0:=by exact_mod_cast JAh q
 conv=>lhs;lhs;rw [←Rat.num_divInt_den q,Rat.divInt_eq_div,Rat.div_def]
 rw [Rat.mul_assoc,Rat.inv_mul_cancel _ z,Rat.mul_one]
theorem JOu {K:Rat} {N D:Int} (h:K*(D:Rat)=(N:Rat)) (hD:D≠0):K=Rat.divInt N D:=by
 rw [Rat.divInt_eq_div,Rat.div_def,←h,Rat.mul_assoc,Rat.mul_inv_cancel _ (by exact_mod_cast hD),Rat.mul_one]
theorem pw_le {x i j:Nat} (h:x<2 ^ i) (e:i≤j):x<2 ^ j:=Nat.lt_of_lt_of_le h (Nat.pow_le_pow_right (by omega) e)
theorem pw1 (i:Nat):2 ^ (i+1)=2*2 ^ i∧2 ^ (i+2)=4*2 ^ i∧2 ^ (i+3)=8*2 ^ i∧2 ^ (i+4)=16*2 ^ i:=by
 refine ⟨?_,?_,?_,?_⟩<;>(rw [Nat.pow_add];omega)
section
variable {a c i i4 i5 i6:Nat} {s g l u v q:Rat}
theorem JN5 {b c:Nat} {e:Rat} (hs:Sz a s) (hg:Sz b g) (he:Sz c e):Sz (a+b+c+2) (s+e*(g - s)):=by
 have d1:=JAh s
 have d2:=JAh g
 have d3:=JAh e
 rw [JOu (K:=s+e*(g - s)) (N:=s.num*g.den*e.den+(e.num*g.num*s.den - e.num*s.num*g.den)) (D:=s.den*g.den*e.den) ?_ (Int.mul_ne_zero (Int.mul_ne_zero d1 d2) d3)]
 ·have P1:=JAj (JAj hs.n hg.d) he.d
  have P2:=JAj (JAj he.n hg.n) hs.d
  have P3:=JAj (JAj he.n hs.n) hg.d
  rw [show c+b+a=a+b+c by omega] at P2
  rw [show c+a+b=a+b+c by omega] at P3
  have E:=(pw1 (a+b+c)).2.1
  exact Sz.of (Int.mul_ne_zero (Int.mul_ne_zero d1 d2) d3) (by omega) (pw_le (JAj (JAj hs.d hg.d) he.d) (by omega))
 ·have e1:=nd s
  have e2:=nd g
  have e3:=nd e
  simp only [Rat.intCast_add,Rat.intCast_mul,Rat.intCast_sub]
  rw [←e1,←e2,←e3]
  grind
end
instance (priority:=high) {i j k:Nat} {s g e:Rat} [a:Z i s] [b:Z j g] [c:Z k e]:Z (i+j+k+2) (s+e*(g - s)):=⟨JN5 a.h b.h c.h⟩
section
variable {j:Nat} {p:Rat} [a:Z j p]
instance (priority:=high):Z (3*j+8) (p*p*p - 2*(p*p)+p):=⟨by
 rw [show p*p*p - 2*(p*p)+p=p*((1 - p)*(1 - p)) by grind]
 exact (inferInstance:Z _ (p*((1 - p)*(1 - p)))).le (by omega)⟩
instance (priority:=high):Z (3*j+4) (p*p*p - p*p):=⟨by
 rw [show p*p*p - p*p=p*p*(p - 1) by grind]
 exact (inferInstance:Z _ (p*p*(p - 1))).le (by omega)⟩
end
end VI.VP
end
section
namespace VI.VP
noncomputable def b_46:S:=(.cons (.ret (.call 25 (.cons (.call 4 (.cons (.var 1) (.cons (.idx (.var 0) (.glo 57)) .nil))) (.cons (.idx (.var 0) (.glo 58)) .nil)))) .nil)
noncomputable def d_46:Fd:=⟨2,2,b_46⟩
noncomputable def b_47:S:=(.cons (.asg 1 (.lst (.cons (.idx (.var 0) (.glo 55)) (.cons (.idx (.var 0) (.glo 56)) .nil)))) (.cons (.ret (.tup (.cons (.call 7 (.cons (.var 1) .nil)) (.cons (.call 8 (.cons (.var 1) .nil)) .nil)))) .nil))
noncomputable def d_47:Fd:=⟨1,2,b_47⟩
noncomputable def b_48:S:=(.cons (.asg 2 (.call 46 (.cons (.var 0) (.cons (.var 1) .nil)))) (.cons (.ife (.cmp .Eq (.idx (.var 0) (.glo 59)) (.glo 61)) (.cons (.ret (.call 49 (.cons (.var 0) (.cons (.call 31 (.cons (.var 2) .nil)) .nil)))) .nil) .nil) (.cons (.ret (.call 10 (.cons (.idx (.var 0) (.glo 55)) (.cons (.idx (.var 0) (.glo 56)) (.cons (.call 32 (.cons (.idx (.var 0) (.glo 59)) (.cons (.var 2) .nil))) .nil))))) .nil)))
noncomputable def d_48:Fd:=⟨2,3,b_48⟩
noncomputable def b_49:S:=(.cons (.asg 2 (.call 5 (.cons (.var 1) (.cons (.var 1) .nil)))) (.cons (.asg 3 (.call 5 (.cons (.var 2) (.cons (.var 1) .nil)))) (.cons (.asg 4 (.call 5 (.cons (.idx (.idx (.var 0) (.glo 60)) (.cint 0)) (.cons (.call 3 (.cons (.call 4 (.cons (.var 3) (.cons (.call 5 (.cons (.call 2 (.cons (.cint 2) .nil)) (.cons (.var 2) .nil))) .nil))) (.cons (.var 1) .nil))) .nil)))) (.cons (.asg 5 (.call 5 (.cons (.idx (.idx (.var 0) (.glo 60)) (.cint 1)) (.cons (.call 4 (.cons (.var 3) (.cons (.var 2) .nil))) .nil)))) (.cons (.asg 6 (.call 5 (.cons (.idx (.var 0) (.glo 58)) (.cons (.call 3 (.cons (.var 4) (.cons (.var 5) .nil))) .nil)))) (.cons (.ret (.call 3 (.cons (.call 10 (.cons (.idx (.var 0) (.glo 55)) (.cons (.idx (.var 0) (.glo 56)) (.cons (.call 32 (.cons (.cstr "both") (.cons (.var 1) .nil))) .nil)))) (.cons (.var 6) .nil)))) .nil))))))
noncomputable def d_49:Fd:=⟨2,7,b_49⟩
noncomputable def b_68:S:=(.cons (.ret (.and (.call 24 (.cons (.var 0) .nil)) (.cmp .Gt (.idx (.var 0) (.cint 0)) (.cint 0)))) .nil)
noncomputable def d_68:Fd:=⟨1,1,b_68⟩
noncomputable def b_69:S:=(.cons (.ret (.and (.isi (.var 0) .tuple) (.and (.cmp .Eq (.blt .len (.cons (.var 0) .nil)) (.cint 2)) (.and (.call 24 (.cons (.idx (.var 0) (.cint 0)) .nil)) (.call 24 (.cons (.idx (.var 0) (.cint 1)) .nil)))))) .nil)
noncomputable def d_69:Fd:=⟨1,1,b_69⟩
noncomputable def b_70:S:=(.cons (.ret (.or (.cmp .Eq (.var 0) (.glo 61)) (.and (.call 29 (.cons (.var 0) .nil)) (.cmp .Eq (.var 1) (.glo 77))))) .nil)
noncomputable def d_70:Fd:=⟨2,2,b_70⟩
noncomputable def b_71:S:=(.cons (.ife (.or (.not (.isi (.var 0) .tuple)) (.cmp .NotEq (.blt .len (.cons (.var 0) .nil)) (.cint 6))) (.cons (.ret (.cbl false)) .nil) .nil) (.cons (.ife (.or (.not (.call 24 (.cons (.idx (.var 0) (.glo 55)) .nil))) (.or (.not (.call 24 (.cons (.idx (.var 0) (.glo 56)) .nil))) (.not (.call 24 (.cons (.idx (.var 0) (.glo 57)) .nil))))) (.cons (.ret (.cbl false)) .nil) .nil) (.cons (.ret (.and (.call 68 (.cons (.idx (.var 0) (.glo 58)) .nil)) (.and (.call 69 (.cons (.idx (.var 0) (.glo 60)) .nil)) (.call 70 (.cons (.idx (.var 0) (.glo 59)) (.cons (.idx (.var 0) (.glo 60)) .nil)))))) .nil)))
noncomputable def d_71:Fd:=⟨1,1,b_71⟩
noncomputable def b_72:S:=(.cons (.ret (.call 3 (.cons (.idx (.var 0) (.glo 57)) (.cons (.idx (.var 0) (.glo 58)) .nil)))) .nil)
noncomputable def d_72:Fd:=⟨1,1,b_72⟩
noncomputable def b_81:S:=(.cons (.ife (.or (.not (.isi (.var 0) .tuple)) (.cmp .NotEq (.blt .len (.cons (.var 0) .nil)) (.cint 2))) (.cons (.ret (.cbl false)) .nil) .nil) (.cons (.ife (.or (.not (.call 24 (.cons (.idx (.var 0) (.glo 93)) .nil))) (.not (.isi (.idx (.var 0) (.glo 94)) .tuple))) (.cons (.ret (.cbl false)) .nil) .nil) (.cons (.ret (.and (.blt .all (.cons (.cmpr 0 (.call 71 (.cons (.var 0) .nil)) (.idx (.var 0) (.glo 94)) (.cbl true)) .nil)) (.call 82 (.cons (.idx (.var 0) (.glo 94)) .nil)))) .nil)))
noncomputable def d_81:Fd:=⟨1,1,b_81⟩
noncomputable def b_82:S:=(.cons (.for1 1 (.rng (.cons (.cint 1) (.cons (.blt .len (.cons (.var 0) .nil)) .nil))) (.cons (.ife (.call 6 (.cons (.idx (.idx (.var 0) (.var 1)) (.glo 57)) (.cons (.call 72 (.cons (.idx (.var 0) (.bin .Sub (.var 1) (.cint 1))) .nil)) .nil))) (.cons (.ret (.cbl false)) .nil) .nil) .nil)) (.cons (.ret (.cbl true)) .nil))
noncomputable def d_82:Fd:=⟨1,2,b_82⟩
noncomputable def b_85:S:=(.cons (.ife (.not (.call 81 (.cons (.var 0) .nil))) (.cons (.rais 4) .nil) .nil) .nil)
noncomputable def d_85:Fd:=⟨1,1,b_85⟩
noncomputable def b_96:S:=(.cons (.ret (.cmpr 0 (.var 0) (.idx (.var 0) (.glo 94)) (.not (.call 6 (.cons (.var 2) (.cons (.idx (.var 0) (.glo 57)) .nil)))))) .nil)
noncomputable def d_96:Fd:=⟨2,2,b_96⟩
noncomputable def b_97:S:=(.cons (.asg 2 (.call 96 (.cons (.var 0) (.cons (.var 1) .nil)))) (.cons (.ife (.cmp .Eq (.blt .len (.cons (.var 2) .nil)) (.cint 0)) (.cons (.ret (.idx (.var 0) (.glo 93))) .nil) .nil) (.cons (.ret (.call 48 (.cons (.idx (.var 2) (.neg (.cint 1))) (.cons (.var 1) .nil)))) .nil)))
noncomputable def d_97:Fd:=⟨2,3,b_97⟩
noncomputable def JId:S:=(.cons (.asg 1 (.glo 39)) (.cons (.for1 2 (.var 0) (.cons (.asg 1 (.call 3 (.cons (.var 1) (.cons (.var 2) .nil)))) .nil)) (.cons (.ret (.var 1)) .nil)))
noncomputable def JH4:Fd:=⟨1,3,JId⟩
noncomputable def JIK:S:=(.cons (.asg 1 (.idx (.var 0) (.glo 58))) (.cons (.asg 2 (.call 5 (.cons (.var 1) (.cons (.idx (.var 0) (.glo 55)) .nil)))) (.cons (.asg 3 (.call 5 (.cons (.call 5 (.cons (.var 1) (.cons (.call 4 (.cons (.idx (.var 0) (.glo 56)) (.cons (.idx (.var 0) (.glo 55)) .nil))) .nil))) (.cons (.idx (.glo 192) (.idx (.var 0) (.glo 59))) .nil)))) (.cons (.ret (.call 3 (.cons (.call 3 (.cons (.var 2) (.cons (.var 3) .nil))) (.cons (.call 189 (.cons (.var 0) .nil)) .nil)))) .nil))))
noncomputable def JIV:Fd:=⟨1,4,JIK⟩
noncomputable def JIp:S:=(.cons (.asg 1 (.idx (.var 0) (.glo 58))) (.cons (.asg 2 (.call 4 (.cons (.idx (.idx (.var 0) (.glo 60)) (.cint 0)) (.cons (.idx (.idx (.var 0) (.glo 60)) (.cint 1)) .nil)))) (.cons (.ret (.call 5 (.cons (.call 5 (.cons (.call 1 (.cons (.cint 1) (.cons (.cint 12) .nil))) (.cons (.call 5 (.cons (.var 1) (.cons (.var 1) .nil))) .nil))) (.cons (.var 2) .nil)))) .nil)))
noncomputable def JIs:Fd:=⟨1,3,JIp⟩
noncomputable def JGB:S:=(.cons (.drop (.call 85 (.cons (.var 0) .nil))) (.cons (.asg 1 (.call 179 (.cons (.cmpr 0 (.call 188 (.cons (.var 0) .nil)) (.idx (.var 0) (.glo 94)) (.cbl true)) .nil))) (.cons (.asg 2 (.call 179 (.cons (.cmpr 0 (.call 194 (.cons (.var 1) (.cons (.var 0) .nil))) (.call 195 (.cons (.var 0) .nil)) (.cbl true)) .nil))) (.cons (.ret (.call 3 (.cons (.var 1) (.cons (.var 2) .nil)))) .nil))))
noncomputable def JFb:Fd:=⟨1,3,JGB⟩
noncomputable def JIg:S:=(.cons (.ret (.call 5 (.cons (.call 4 (.cons (.idx (.var 1) (.cint 1)) (.cons (.idx (.var 1) (.cint 0)) .nil))) (.cons (.call 97 (.cons (.var 0) (.cons (.idx (.var 1) (.cint 0)) .nil))) .nil)))) .nil)
noncomputable def JIx:Fd:=⟨2,2,JIg⟩
noncomputable def JCx:S:=(.cons (.drop (.call 85 (.cons (.var 0) .nil))) (.cons (.asg 1 (.idx (.var 0) (.glo 94))) (.cons (.asg 2 (.lst .nil)) (.cons (.for1 3 (.rng (.cons (.cint 1) (.cons (.blt .len (.cons (.var 1) .nil)) .nil))) (.cons (.asg 4 (.call 72 (.cons (.idx (.var 1) (.bin .Sub (.var 3) (.cint 1))) .nil))) (.cons (.asg 5 (.idx (.idx (.var 1) (.var 3)) (.glo 57))) (.cons (.ife (.call 6 (.cons (.var 4) (.cons (.var 5) .nil))) (.cons (.app 2 (.tup (.cons (.var 4) (.cons (.var 5) .nil)))) .nil) .nil) .nil)))) (.cons (.ret (.var 2)) .nil)))))
noncomputable def JEW:Fd:=⟨1,6,JCx⟩
noncomputable def JGW:S:=(.cons (.drop (.call 85 (.cons (.var 0) .nil))) (.cons (.ret (.call 179 (.cons (.cmpr 0 (.idx (.var 0) (.glo 58)) (.idx (.var 0) (.glo 94)) (.cbl true)) .nil))) .nil))
noncomputable def JFl:Fd:=⟨1,1,JGW⟩
noncomputable def JGD:S:=(.cons (.drop (.call 85 (.cons (.var 0) .nil))) (.cons (.ret (.call 179 (.cons (.cmpr 0 (.call 198 (.cons (.var 0) .nil)) (.idx (.var 0) (.glo 94)) (.cbl true)) .nil))) .nil))
noncomputable def JFq:Fd:=⟨1,1,JGD⟩
noncomputable def JIR:S:=(.cons (.asg 1 (.call 47 (.cons (.var 0) .nil))) (.cons (.ret (.call 4 (.cons (.idx (.var 1) (.cint 1)) (.cons (.idx (.var 1) (.cint 0)) .nil)))) .nil))
noncomputable def JHu:Fd:=⟨1,2,JIR⟩
noncomputable def JHe:S:=(.cons (.drop (.call 85 (.cons (.var 0) .nil))) (.cons (.asg 1 (.idx (.var 0) (.glo 94))) (.cons (.asg 2 (.bin .Add (.bin .Add (.lst (.cons (.idx (.var 0) (.glo 93)) .nil)) (.cmpr 0 (.idx (.var 0) (.glo 55)) (.var 1) (.cbl true))) (.cmpr 0 (.idx (.var 0) (.glo 56)) (.var 1) (.cbl true)))) (.cons (.ret (.tup (.cons (.call 7 (.cons (.var 2) .nil)) (.cons (.call 8 (.cons (.var 2) .nil)) .nil)))) .nil))))
noncomputable def JFz:Fd:=⟨1,3,JHe⟩
noncomputable def tabA (i:Nat):Option Fd:=match i with
 | 0=>some d_0
 | 1=>some d_1
 | 2=>some d_2
 | 3=>some d_3
 | 4=>some d_4
 | 5=>some d_5
 | 6=>some d_6
 | 7=>some d_7
 | 8=>some d_8
 | 9=>some d_9
 | 10=>some d_10
 | 11=>some d_11
 | 12=>some d_12
 | 13=>some d_13
 | 14=>some d_14
 | 15=>some d_15
 | 16=>some d_16
 | 17=>some d_17
 | 18=>some d_18
 | 19=>some d_19
 | 20=>some d_20
 | 21=>some d_21
 | 23=>some d_23
 | 24=>some d_24
 | 25=>some d_25
 | 26=>some d_26
 | 27=>some d_27
 | 29=>some d_29
 | 30=>some d_30
 | 31=>some d_31
 | 32=>some d_32
 | 33=>some d_33
 | 34=>some d_34
 | 35=>some d_35
 | 36=>some d_36
 | 37=>some d_37
 | 43=>some d_43
 | 44=>some d_44
 | 46=>some d_46
 | 47=>some d_47
 | 48=>some d_48
 | 49=>some d_49
 | 68=>some d_68
 | 69=>some d_69
 | 70=>some d_70
 | 71=>some d_71
 | 72=>some d_72
 | 81=>some d_81
 | 82=>some d_82
 | 85=>some d_85
 | 96=>some d_96
 | 97=>some d_97
 | 179=>some JH4
 | 188=>some JIV
 | 189=>some JIs
 | 193=>some JFb
 | 194=>some JIx
 | 195=>some JEW
 | 196=>some JFl
 | 197=>some JFq
 | 198=>some JHu
 | 199=>some JFz
 | _=>none
noncomputable def gloA (i:Nat):R D:=match i with
 | 39=>.ok (F 0)
 | 40=>.ok (F 1)
 | 41=>.ok (VI.VP.kinds)
 | 42=>.ok (VI.VP.turned)
 | 55=>.ok (.int 0)
 | 56=>.ok (.int 1)
 | 57=>.ok (.int 2)
 | 58=>.ok (.int 3)
 | 59=>.ok (.int 4)
 | 60=>.ok (.int 5)
 | 61=>.ok (.str "kept")
 | 77=>.ok (.tuple [F 0,F 0])
 | 93=>.ok (.int 0)
 | 94=>.ok (.int 1)
 | 128=>.ok (.int 0)
 | 129=>.ok (.int 1)
 | 151=>.ok (.int 5)
 | 152=>.ok (.int 4)
 | 192=>.ok (.dict [(.str "even",.tuple [.int 1,.int 2]),(.str "both",.tuple [.int 1,.int 2]),(.str "kept",.tuple [.int 1,.int 2]),(.str "in",.tuple [.int 1,.int 3]),(.str "out",.tuple [.int 2,.int 3]),(.str "hold",.tuple [.int 0,.int 1]),(.str "jump",.tuple [.int 1,.int 1])])
 | 226=>.ok (.int 1)
 | _=>.bad
end VI.VP
end
section
namespace VI.VP
open PySem Fr
theorem tF:TabF tabA:=⟨rfl,rfl,rfl,rfl,rfl,rfl,rfl⟩
theorem tL:TabL tabA:=⟨rfl,rfl,rfl,rfl,rfl,rfl,rfl,rfl,rfl,rfl,rfl⟩
theorem tM:TabM tabA:=⟨rfl,rfl,rfl,rfl⟩
theorem tK:TabK tabA:=⟨rfl,rfl,rfl,rfl,rfl⟩
theorem gK:GloK gloA:=⟨rfl,rfl,rfl,rfl⟩
theorem G39:gloA 39=.ok (F 0):=rfl
theorem G40:gloA 40=.ok (F 1):=rfl
theorem G55:gloA 55=.ok (.int 0):=rfl
theorem G56:gloA 56=.ok (.int 1):=rfl
theorem G57:gloA 57=.ok (.int 2):=rfl
theorem G58:gloA 58=.ok (.int 3):=rfl
theorem G59:gloA 59=.ok (.int 4):=rfl
theorem G60:gloA 60=.ok (.int 5):=rfl
theorem G61:gloA 61=.ok (.str "kept"):=rfl
section
variable {x:Bool} {sub:Nat→Nat→Bool} {m i j:Nat} {p q:Rat}
theorem JAG {k:Nat} (h:k≤m):∃n,m=n+k:=⟨m - k,by omega⟩
theorem JJ7 [a:Z i p] [b:Z j q] (hi:i≤1500) (hj:j≤1500) (hm:3≤m):run x tabA gloA sub m 3 [F p,F q]=.ok (F (p+q)):=by
 obtain ⟨n,rfl⟩:=JAG hm
 exact JLm tF (a.le hi) (b.le hj)
theorem JHD [a:Z i p] [b:Z j q] (hi:i≤1500) (hj:j≤1500) (hm:3≤m):run x tabA gloA sub m 4 [F p,F q]=.ok (F (p - q)):=by
 obtain ⟨n,rfl⟩:=JAG hm
 exact JDT tF (a.le hi) (b.le hj)
theorem JHc [a:Z i p] [b:Z j q] (hi:i≤1500) (hj:j≤1500) (hm:3≤m):run x tabA gloA sub m 5 [F p,F q]=.ok (F (p*q)):=by
 obtain ⟨n,rfl⟩:=JAG hm
 exact JCL tF (a.le hi) (b.le hj)
theorem q_less [a:Z i p] [b:Z j q] (hi:i≤1500) (hj:j≤1500) (hm:1≤m):run x tabA gloA sub m 6 [F p,F q]=.ok (.bool (decide (p<q))):=by
 obtain ⟨n,rfl⟩:=JAG hm
 exact JCX tF (a.le hi) (b.le hj)
theorem JPS [a:Z i p] [b:Z j q] (h0:q≠0) (hi:i≤1500) (hj:j≤1500) (hm:3≤m):run x tabA gloA sub m 25 [F p,F q]=.ok (F (p / q)):=by
 obtain ⟨n,rfl⟩:=JAG hm
 have hp:=a.le hi
 have hq:=b.le hj
 have hz:q.num≠0:=fun z=>h0 (Rat.num_eq_zero.mp z)
 rw [JAB (n:=n+2) (show tabA 25=some d_25 from rfl),JAA rfl]
 dsimp! [d_25,b_25,JBd (hp.Ln (by omega)) (hq.Ld (by omega)),JBd (hp.Ld (by omega)) (hq.Ln (by omega)),JCv (n:=n) tF _ _ (Int.mul_ne_zero (JAh p) hz) (L.of (JAj hp.d hq.n) (by omega)),JJh]
theorem JLs (k:Int) (hm:1≤m):run x tabA gloA sub m 2 [.int k]=.ok (.tuple [.int k,.int 1]):=by
 obtain ⟨n,rfl⟩:=JAG hm
 exact JDO tF k
theorem JHG {r:Rat} {k:Nat} [a:Z i p] [b:Z j q] [c:Z k r] (hi:i≤1500) (hj:j≤1500) (hk:i+j+k≤1498) (hm:4≤m):run x tabA gloA sub m 10 [F p,F q,F r]=.ok (F (p+r*(q - p))):=by
 obtain ⟨n,rfl⟩:=JAG hm
 have z1:Z (j+i+1) (q - p):=inferInstance
 have z2:Z (k+(j+i+1)) (r*(q - p)):=inferInstance
 rw [JAB (n:=n+3) (show tabA 10=some d_10 from rfl),JAA rfl]
 dsimp! [d_10,b_10,JHD (x:=x) (sub:=sub) (m:=n+3) (p:=q) (q:=p) (by omega) (by omega) (by omega),JHc (x:=x) (sub:=sub) (m:=n+3) (p:=r) (q:=q - p) (by omega) (by omega) (by omega),JJ7 (x:=x) (sub:=sub) (m:=n+3) (p:=p) (q:=r*(q - p)) (by omega) (by omega) (by omega)]
theorem JOB [a:Z i p] (hi:i≤1500) (hm:3≤m):run x tabA gloA sub m 31 [F p]=.ok (F (JBI p)):=by
 obtain ⟨n,rfl⟩:=JAG hm
 exact JG7 gK tF tM tK (a.le hi)
theorem JGU {k:Kd} [a:Z i p] (hi:i≤200) (hm:4≤m):run x tabA gloA sub m 32 [.str k.str,F p]=.ok (F (ez k (JBI p))):=by
 obtain ⟨n,rfl⟩:=JAG hm
 exact JIG gK tF tM tK k (a.le hi)
theorem JKI [a:Z i p] [b:Z j q] (hi:i≤1500) (hj:j≤1500) (hm:3≤m):run x tabA gloA sub m 17 [F p,F q]=.ok (F (p+q)):=by
 obtain ⟨n,rfl⟩:=JAG hm
 exact JIX tL (a.le hi) (b.le hj)
theorem JOC (ns:List Int) (k c:Int) (hm:2≤m) (hk:0≤k) (hk2:k<2000000) (hc:0<c):∃i,0≤i∧i<c∧run x tabA gloA sub m 12 [sc ns,.int k,.int c]=.ok (.int i):=by
 obtain ⟨n,rfl⟩:=JAG hm
 exact JEa tL ns k c hk hk2 hc
theorem JPC (ns:List Int) (k:Int) (hm:3≤m) (hk:0≤k) (hk2:k<1000000):∃q,Small q∧run x tabA gloA sub m 15 [sc ns,.int k]=.ok (F q):=by
 obtain ⟨n,rfl⟩:=JAG hm
 exact JIt tL ns k hk hk2
end
end VI.VP
end
local macro_rules | `(tactic| dsimp?! [$ts,*])=>`(tactic| simp (disch:=first | omega | assumption) only [VI.VP.v_var,VI.VP.JNr,VI.VP.v_bl,VI.VP.JMl,VI.VP.JOy,VI.VP.JNV,VI.VP.JOA,VI.VP.JOP,VI.VP.v_not,VI.VP.v_and,VI.VP.v_or,VI.VP.JPJ,VI.VP.JMP,VI.VP.JMf,VI.VP.JMa,VI.VP.JN8,VI.VP.JNF,VI.VP.JNA,VI.VP.JKh,VI.VP.JOO,VI.VP.JPB,
 VI.VP.v_count,VI.VP.JHU,VI.VP.v_get,VI.VP.JJk,VI.VP.JOq,VI.VP.JMz,VI.VP.JN7,VI.VP.JNm,VI.VP.JNn,VI.VP.JOF,VI.VP.JKJ,VI.VP.JFG,VI.VP.JPK,VI.VP.JOG,VI.VP.JNc,VI.VP.JKV,VI.VP.JNP,VI.VP.JOz,VI.VP.k_tt,VI.VP.k_tl,VI.VP.k_lt,VI.VP.k_ll,VI.VP.JKW,VI.VP.JGr,VI.VP.JH5,VI.VP.JOJ,VI.VP.t_or,VI.VP.JOi,VI.VP.t_bl,VI.VP.JPT,VI.VP.JIm,VI.VP.JIB,VI.VP.JPe,VI.VP.JJU,VI.VP.JND,VI.VP.JOU,VI.VP.JOR,VI.VP.JPW,VI.VP.JOK,VI.VP.l_idx,VI.VP.JJm,VI.VP.JOV,VI.VP.JM8,
 VI.VP.JO9,VI.VP.JJq,VI.VP.JKc,VI.VP.JMT,VI.VP.JOW,VI.VP.JMX,VI.VP.JPb,VI.VP.JMt,VI.VP.JJi,VI.VP.JOo,VI.VP.JM9,VI.VP.JMr,VI.VP.JJB,VI.VP.JKZ,VI.VP.JNq,VI.VP.JKD,VI.VP.JKX,
 VI.VP.JGH,VI.VP.JJv,VI.VP.JMy,VI.VP.JNz,VI.VP.JNa,VI.VP.JKP,VI.VP.JJg,VI.VP.JNb,VI.VP.JNg,VI.VP.JNv,VI.VP.JO5,VI.VP.JMp,VI.VP.JJE,VI.VP.JKG,VI.VP.JNt,VI.VP.JMM,VI.VP.JMW,VI.VP.JJK,VI.VP.JPO,VI.VP.JPL,VI.VP.JHS,VI.VP.JHA,VI.VP.JMY,VI.VP.JKg,VI.VP.JHI,VI.VP.JGd,VI.VP.JJ1,VI.VP.JJ3,VI.VP.JNJ,VI.VP.JPf,VI.VP.JOT,VI.VP.JJS,VI.VP.JJZ,VI.VP.JJX,VI.VP.JKj,VI.VP.JJN,VI.VP.JPa,VI.VP.JKC,VI.VP.JM7,VI.VP.JJG,VI.VP.JKH,VI.VP.JKL,VI.VP.JJJ,VI.VP.JO3,VI.VP.JOL,VI.VP.JJf,VI.VP.JNU,VI.VP.JFW,VI.VP.JKK,VI.VP.JKf,VI.VP.JJH,VI.VP.JJI,VI.VP.JJO,VI.VP.JJW,VI.VP.JKQ,VI.VP.JKY,VI.VP.JKa,VI.VP.JJQ,VI.VP.JGE,VI.VP.JNi,VI.VP.JGL,VI.VP.JG3,VI.VP.JFF,VI.VP.JOs,VI.VP.JKN,VI.VP.JPc,VI.VP.JO0,VI.VP.JNy,VI.VP.JOn,VI.VP.JHd,
 VI.VP.look_zero,VI.VP.look_succ,VI.VP.get_val,VI.VP.get_own,VI.VP.JEG,VI.VP.JEA,List.map_cons,List.map_nil,List.cons_append,List.nil_append,
 List.replicate_succ,List.replicate_zero,Nat.reduceSub,List.set_cons_zero,List.set_cons_succ,VI.E.fresh,VI.VP.JEs,VI.VP.JCe,VI.VP.JDE,VI.VP.JCW,Bool.false_and,Bool.false_eq_true,eq_self,if_true,if_false,VI.VP.i_ne,VI.VP.i_eq,VI.VP.i_lt,VI.VP.i_gt,VI.VP.i_le,VI.VP.i_ge,
 VI.VP.F_ne,VI.VP.F_eq,VI.VP.JJj,VI.VP.JJ4,VI.VP.JLE,VI.VP.JNf,
 VI.VP.G39,VI.VP.G40,VI.VP.G55,VI.VP.G56,VI.VP.G57,VI.VP.G58,VI.VP.G59,VI.VP.G60,VI.VP.G61,VI.VP.JJ7,VI.VP.JHD,VI.VP.JHc,VI.VP.q_less,VI.VP.JPS,VI.VP.JLs,VI.VP.JHG,VI.VP.JOB,VI.VP.JGU,VI.VP.JKI,$ts,*])
section
namespace VI.VP
open PySem Fr
noncomputable def kst:Option Kd→Str
 | some k=>k.str
 | none=>"kept"
noncomputable def mo (s g b l:Rat) (k:Option Kd) (u v:Rat):D:=.tuple [F s,F g,F b,F l,.str (kst k),.tuple [F u,F v]]
noncomputable def kw (s g l u v p:Rat):Rat:=s+ez .both (JBI p)*(g - s)+l*(u*(p*p*p - 2*(p*p)+p)+v*(p*p*p - p*p))
noncomputable def wo (s g b l:Rat) (k:Option Kd) (u v t:Rat):Rat:=match k with
 | some k=>s+ez k (JBI ((t - b) / l))*(g - s)
 | none=>kw s g l u v (JBI ((t - b) / l))
noncomputable def ks (s g l u v p:Rat):Rat:=(g - s) / l*sl .both p+(u*(3*(p*p) - 4*p+1)+v*(3*(p*p) - 2*p))
noncomputable def sd (s g b l:Rat) (k:Option Kd) (u v t:Rat):Rat:=match k with
 | some k=>(g - s) / l*sl k ((t - b) / l)
 | none=>if (t - b) / l<0∨1<(t - b) / l then 0 else ks s g l u v ((t - b) / l)
theorem JFk (k:Option Kd):shaped (.str (kst k))=true:=by
 cases k with
 | none=>decide +kernel
 | some k=>exact JCg k
theorem JI8 (k:Option Kd):(kst k=="kept")=k.isNone:=by
 cases k with
 | none=>decide +kernel
 | some k=>cases k<;>decide +kernel
theorem JGa (k:Option Kd):cmpD .Eq (.str (kst k)) (.str "kept")=.ok (.bool k.isNone):=by
 rw [JF2 (JFk k) (by decide +kernel),JI8]
theorem JGv (k:Kd):cmpD .Eq (.str k.str) (.str "kept")=.ok (.bool false):=JGa (some k)
section
variable {s g b l u v:Rat} {k:Option Kd}
theorem mo0:idxD (mo s g b l k u v) (.int 0)=.ok (F s):=rfl
theorem mo1:idxD (mo s g b l k u v) (.int 1)=.ok (F g):=rfl
theorem mo2:idxD (mo s g b l k u v) (.int 2)=.ok (F b):=rfl
theorem mo3:idxD (mo s g b l k u v) (.int 3)=.ok (F l):=rfl
theorem mo4:idxD (mo s g b l k u v) (.int 4)=.ok (.str (kst k)):=rfl
theorem mo5:idxD (mo s g b l k u v) (.int 5)=.ok (.tuple [F u,F v]):=rfl
theorem tp0 {a c:D}:idxD (.tuple [a,c]) (.int 0)=.ok a:=rfl
theorem tp1 {a c:D}:idxD (.tuple [a,c]) (.int 1)=.ok c:=rfl
theorem JIw:JAS (mo s g b l k u v)=true:=rfl
end
section
variable {x:Bool} {sub:Nat→Nat→Bool} {m i1 i2 i3 i4 i5 i6 j:Nat} {s g b l u v t p:Rat}
theorem JJC {k:Option Kd} [Z i3 b] [Z i4 l] [Z j t] (hl:l≠0) (h3:i3≤400) (h4:i4≤400) (hj:j≤400) (hm:4≤m):run x tabA gloA sub m 46 [mo s g b l k u v,F t]=.ok (F ((t - b) / l)):=by
 obtain ⟨n,rfl⟩:=JAG hm
 rw [JAB (n:=n+3) (show tabA 46=some d_46 from rfl),JAA rfl]
 dsimp?! [d_46,b_46,mo2,mo3]
theorem m_kw [Z i1 s] [Z i2 g] [Z i4 l] [Z i5 u] [Z i6 v] [Z j p] {k:Option Kd} (h1:i1+i2+4*j≤1470) (h2:i4+i5+i6+6*j≤1480) (hj:j≤190) (hm:5≤m):run x tabA gloA sub m 49 [mo s g b l k u v,F p]=.ok (F (kw s g l u v p)):=by
 obtain ⟨n,rfl⟩:=JAG hm
 rw [JAB (n:=n+4) (show tabA 49=some d_49 from rfl),JAA rfl]
 have eb:run x tabA gloA sub (n+4) 32 [.str "both",F p]=.ok (F (ez .both (JBI p))):=JGU (k:=.both) (by omega) (by omega)
 dsimp?! [d_49,b_49,mo0,mo1,mo2,mo3,mo4,mo5,tp0,tp1,W2,eb,kw]
theorem JIS [Z i1 s] [Z i2 g] [Z i3 b] [Z i4 l] [Z i5 u] [Z i6 v] [Z j t] {k:Option Kd} (hl:l≠0) (h1:i1+i2+4*(j+i3+i4)≤1430) (h2:i4+i5+i6+6*(j+i3+i4)≤1450) (h3:j+i3+i4≤180) (hm:6≤m) :
  run x tabA gloA sub m 48 [mo s g b l k u v,F t]=.ok (F (wo s g b l k u v t)):=by
 obtain ⟨n,rfl⟩:=JAG hm
 rw [JAB (n:=n+5) (show tabA 48=some d_48 from rfl),JAA rfl]
 cases k with
 | none=>dsimp?! [d_48,b_48,JJC,mo0,mo1,mo4,JGa,Option.isNone_none,m_kw,wo]
 | some k=>dsimp?! [d_48,b_48,JJC,mo0,mo1,mo4,JGv,kst,wo]
end
end VI.VP
end
section
namespace VI.VP
open PySem Fr
section
variable {s g b l u v t:Rat} {k:Option Kd} {i1 i2 i3 i4 i5 i6 j:Nat}
end
section
variable {x:Bool} {sub:Nat→Nat→Bool} {m i1 i2 i3 i4 i5 i6 j:Nat} {s g b l u v t p:Rat}
theorem kw1 {s g l u v:Rat}:kw s g l u v 1=g:=by
 have:ez .both (JBI 1)=1:=by decide +kernel
 unfold kw;rw [this];grind
end
noncomputable def Vs (z:Sl):Prop:=z.isOwn=false
theorem Vs.own {z:Sl} (h:Vs z) (e:E) (i:Nat) (r:Env):JAR e i (z::r)=JAR e (i+1) r:=by
 unfold Vs at h
 cases z<;>first | (cases h;done) | simp [JAR,Sl.isOwn]
theorem JNu (p q p' q':Rat):cmpD .NotEq (.tuple [F p,F q]) (.tuple [F p',F q'])=.ok (.bool (!(decide (p=p')&&decide (q=q')))):=by
 have h:∀p q,shaped (.tuple [F p,F q])=true:=fun p q=>by
  unfold shaped
  rw [Bool.and_eq_true]
  refine ⟨by simp only [PyData.canLay0,PyData.canLayAll0,JMn,Bool.and_self],decide_eq_true ?_⟩
  simp only [PyData.depth,PyData.depthAll,JHW]
  decide
 simp only [cmpD,h,Bool.and_self,if_true,PyData.eqv,PyData.eqvAll,JHr,Bool.and_true]
theorem JLZ (p q p' q':Rat):cmpD .Eq (.tuple [F p,F q]) (.tuple [F p',F q'])=.ok (.bool (decide (p=p')&&decide (q=q'))):=by
 have h:∀p q,shaped (.tuple [F p,F q])=true:=fun p q=>by
  unfold shaped
  rw [Bool.and_eq_true]
  refine ⟨by simp only [PyData.canLay0,PyData.canLayAll0,JMn,Bool.and_self],decide_eq_true ?_⟩
  simp only [PyData.depth,PyData.depthAll,JHW]
  decide
 simp only [cmpD,h,Bool.and_self,if_true,PyData.eqv,PyData.eqvAll,JHr,Bool.and_true]
end VI.VP
end
section
namespace VI.VP
open PySem Fr
theorem tI:TabI tabA:=⟨rfl,rfl,rfl⟩
theorem G77:gloA 77=.ok (.tuple [F 0,F 0]):=rfl
theorem JKx {p:Rat}:(0<p.num)=(0<p):=by
 apply propext
 rw [Rat.lt_iff]
 simp
theorem JGz {sub:Nat→Nat→Bool} (ds:List D):isiD sub (.tuple ds) .tuple=.ok (.bool true):=rfl
theorem JOS {sub:Nat→Nat→Bool} (s g b l:Rat) (k:Option Kd) (u v:Rat):isiD sub (mo s g b l k u v) .tuple=.ok (.bool true):=rfl
theorem len2 {a c:D}:(([a,c].length:Nat):Int)=2:=rfl
theorem JOj (s g b l:Rat) (k:Option Kd) (u v:Rat):bltD .len [mo s g b l k u v]=.ok (.int 6):=rfl
section
variable {x:Bool} {sub:Nat→Nat→Bool} {m i1 i2 i3 i4 i5 i6 j:Nat} {s g b l u v t p:Rat}
theorem JGj (hm:2≤m):run x tabA gloA sub m 24 [F p]=.ok (.bool true):=by
 obtain ⟨n,rfl⟩:=JAG hm
 exact isf_F tF tI p
theorem q_isz (hm:3≤m):run x tabA gloA sub m 68 [F p]=.ok (.bool (decide (0<p))):=by
 obtain ⟨n,rfl⟩:=JAG hm
 rw [JAB (n:=n+2) (show tabA 68=some d_68 from rfl),JAA rfl]
 dsimp?! [d_68,b_68,JGj,JKx]
theorem JH7 (hm:3≤m):run x tabA gloA sub m 69 [.tuple [F u,F v]]=.ok (.bool true):=by
 obtain ⟨n,rfl⟩:=JAG hm
 rw [JAB (n:=n+2) (show tabA 69=some d_69 from rfl),JAA rfl]
 dsimp?! [d_69,b_69,JGz,len2,tp0,tp1,JGj,decide_true]
theorem q_isk {k:Kd} (hm:1≤m):run x tabA gloA sub m 29 [.str k.str]=.ok (.bool true):=by
 obtain ⟨n,rfl⟩:=JAG hm
 exact JJ9 gK tK _ (JFI k)
theorem JFs {k:Option Kd} (hu:k≠none→u=0∧v=0) (hm:2≤m):run x tabA gloA sub m 70 [.str (kst k),.tuple [F u,F v]]=.ok (.bool true):=by
 obtain ⟨n,rfl⟩:=JAG hm
 rw [JAB (n:=n+1) (show tabA 70=some d_70 from rfl),JAA rfl]
 cases k with
 | none=>dsimp?! [d_70,b_70,JGa,Option.isNone_none]
 | some k =>
  obtain ⟨rfl,rfl⟩:=hu (by simp)
  dsimp?! [d_70,b_70,JGv,kst,q_isk,G77,JLZ,decide_true,Bool.and_self]
theorem q_ismo {k:Option Kd} (hl:0<l) (hu:k≠none→u=0∧v=0) (hm:4≤m):run x tabA gloA sub m 71 [mo s g b l k u v]=.ok (.bool true):=by
 obtain ⟨n,rfl⟩:=JAG hm
 rw [JAB (n:=n+3) (show tabA 71=some d_71 from rfl),JAA rfl]
 dsimp?! [d_71,b_71,JOS,JOj,Bool.not_true,mo0,mo1,mo2,mo3,mo4,mo5,JGj,q_isz,hl,decide_true,JH7,JFs hu]
theorem q_end [Z i3 b] [Z i4 l] {k:Option Kd} (h3:i3≤400) (h4:i4≤400) (hm:4≤m):run x tabA gloA sub m 72 [mo s g b l k u v]=.ok (F (b+l)):=by
 obtain ⟨n,rfl⟩:=JAG hm
 rw [JAB (n:=n+3) (show tabA 72=some d_72 from rfl),JAA rfl]
 dsimp?! [d_72,b_72,mo2,mo3]
end
end VI.VP
end
section
namespace VI.VP
open PySem Fr
noncomputable def sdp (s g l:Rat) (k:Option Kd) (u v p:Rat):Rat:=match k with
 | some k=>(g - s) / l*sl k p
 | none=>if p<0∨1<p then 0 else ks s g l u v p
noncomputable def wop (s g l:Rat) (k:Option Kd) (u v p:Rat):Rat:=match k with
 | some k=>s+ez k (JBI p)*(g - s)
 | none=>kw s g l u v (JBI p)
theorem wo_p {s g b l u v t p:Rat} {k:Option Kd} (h:(t - b) / l=p):wo s g b l k u v t=wop s g l k u v p:=by subst h;cases k<;>rfl
theorem JFN {p:Rat} (h:1≤p):JBI p=1:=by unfold JBI;grind
theorem JNW {s g l u v p:Rat} (k:Option Kd) (h:1≤p):wop s g l k u v p=g:=by
 cases k with
 | none=>simp only [wop,JFN h,kw1]
 | some k=>simp only [wop,JFN h,ez1];grind
end VI.VP
end
section
namespace VI.VP
open PySem Fr
noncomputable def sh:Option Kd→Rat
 | none=>1 / 2
 | some .even=>1 / 2
 | some .both=>1 / 2
 | some .inn=>1 / 3
 | some .out=>2 / 3
 | some .hold=>0
 | some .jump=>1
noncomputable def ar (s g l:Rat) (k:Option Kd) (u v:Rat):Rat:=l*s+l*(g - s)*sh k+1 / 12*(l*l)*(u - v)
noncomputable def JJe:D:=.dict [(.str "even",.tuple [.int 1,.int 2]),(.str "both",.tuple [.int 1,.int 2]),(.str "kept",.tuple [.int 1,.int 2]),(.str "in",.tuple [.int 1,.int 3]),(.str "out",.tuple [.int 2,.int 3]),(.str "hold",.tuple [.int 0,.int 1]),(.str "jump",.tuple [.int 1,.int 1])]
theorem G192:gloA 192=.ok JJe:=rfl
theorem Fh:F (1 / 2)=.tuple [.int 1,.int 2]:=by
 have h1:(1 / 2:Rat).num=1:=by decide +kernel
 have h2:(1 / 2:Rat).den=2:=by decide +kernel
 unfold F;rw [h1,h2];rfl
theorem Ft:F (1 / 3)=.tuple [.int 1,.int 3]:=by
 have h1:(1 / 3:Rat).num=1:=by decide +kernel
 have h2:(1 / 3:Rat).den=3:=by decide +kernel
 unfold F;rw [h1,h2];rfl
theorem Ft2:F (2 / 3)=.tuple [.int 2,.int 3]:=by
 have h1:(2 / 3:Rat).num=2:=by decide +kernel
 have h2:(2 / 3:Rat).den=3:=by decide +kernel
 unfold F;rw [h1,h2];rfl
theorem sh_ok (k:Option Kd):idxD JJe (.str (kst k))=.ok (F (sh k)):=by
 have e:∀(a:Str) (v:D) (r:List (D×D)) (x:Str),getK ((.str a,v)::r) x=if a=x then .ok v else getK r x:=fun _ _ _ _=>rfl
 show getK _ _=_
 cases k with
 | none =>
  simp only [kst,sh,Fh]
  rw [e,if_neg (by decide +kernel),e,if_neg (by decide +kernel),e,if_pos (by decide +kernel)]
 | some k =>
  cases k<;>simp only [kst,sh,Fh,Ft,Ft2,Kd.str]
  ·rw [e,if_pos (by decide +kernel)]
  ·rw [e,if_neg (by decide +kernel),e,if_neg (by decide +kernel),e,if_neg (by decide +kernel),e,if_pos (by decide +kernel)]
  ·rw [e,if_neg (by decide +kernel),e,if_neg (by decide +kernel),e,if_neg (by decide +kernel),e,if_neg (by decide +kernel),e,if_pos (by decide +kernel)]
  ·rw [e,if_neg (by decide +kernel),e,if_pos (by decide +kernel)]
  ·rw [e,if_neg (by decide +kernel),e,if_neg (by decide +kernel),e,if_neg (by decide +kernel),e,if_neg (by decide +kernel),e,if_neg (by decide +kernel),e,if_pos (by decide +kernel)];rfl
  ·rw [e,if_neg (by decide +kernel),e,if_neg (by decide +kernel),e,if_neg (by decide +kernel),e,if_neg (by decide +kernel),e,if_neg (by decide +kernel),e,if_neg (by decide +kernel),e,if_pos (by decide +kernel)];rfl
theorem z12:Sz 4 (1 / 12:Rat):=⟨by decide +kernel,by decide +kernel⟩
theorem zsh (k:Option Kd):Sz 3 (sh k):=by
 cases k with
 | none=>exact ⟨by decide +kernel,by decide +kernel⟩
 | some k=>cases k<;>exact ⟨by decide +kernel,by decide +kernel⟩
section
variable {x:Bool} {sub:Nat→Nat→Bool} {m i1 i2 i4 i5 i6:Nat} {s g b l u v:Rat} {k:Option Kd}
theorem q_12 (hm:2≤m):run x tabA gloA sub m 1 [.int 1,.int 12]=.ok (F (1 / 12)):=by
 obtain ⟨n,rfl⟩:=JAG hm
 have:=JCv (x:=x) (glo:=gloA) (sub:=sub) (n:=n) tF 1 12 (by decide) (L.of (k:=10) (by decide) (by omega))
 rw [this,show Rat.divInt 1 12=1 / 12 by decide +kernel]
theorem JLe [Z i4 l] [Z i5 u] [Z i6 v] (h:i4+i5+i6≤300) (hm:4≤m):run x tabA gloA sub m 189 [mo s g b l k u v]=.ok (F (1 / 12*(l*l)*(u - v))):=by
 obtain ⟨n,rfl⟩:=JAG hm
 rw [JAB (n:=n+3) (show tabA 189=some JIs from rfl),JAA rfl]
 have e:=q_12 (x:=x) (sub:=sub) (m:=n+3) (by omega)
 have zz:Z 4 (1 / 12:Rat):=⟨z12⟩
 generalize (1 / 12:Rat)=c at *
 dsimp?! [JIs,JIp,mo3,mo5,tp0,tp1,e]
theorem JNX [Z i1 s] [Z i2 g] [Z i4 l] [Z i5 u] [Z i6 v] (h:i1+i2+i4+i5+i6≤200) (hm:5≤m):run x tabA gloA sub m 188 [mo s g b l k u v]=.ok (F (ar s g l k u v)):=by
 obtain ⟨n,rfl⟩:=JAG hm
 rw [JAB (n:=n+4) (show tabA 188=some JIV from rfl),JAA rfl]
 have e:=JLe (x:=x) (sub:=sub) (m:=n+4) (s:=s) (g:=g) (b:=b) (l:=l) (k:=k) (u:=u) (v:=v) (by omega) (by omega)
 have zz:Z 4 (1 / 12:Rat):=⟨z12⟩
 have zk:Z 3 (sh k):=⟨zsh k⟩
 have hs:=sh_ok k
 unfold ar
 generalize (1 / 12:Rat)=c at *
 generalize sh k=h0 at *
 dsimp?! [JIV,JIK,mo0,mo1,mo3,mo4,G192,hs,e]
instance [Z i1 s] [Z i2 g] [Z i4 l] [Z i5 u] [Z i6 v]:Z (2*i1+i2+4*i4+i5+i6+20) (ar s g l k u v):=⟨by
 have zz:Z 4 (1 / 12:Rat):=⟨z12⟩
 have zk:Z 3 (sh k):=⟨zsh k⟩
 unfold ar
 exact (inferInstance:Z _ (l*s+l*(g - s)*sh k+1 / 12*(l*l)*(u - v))).le (by omega)⟩
end
section
variable {s g l u v y:Rat} {k:Option Kd}
end
end VI.VP
end
section
namespace VI.VP
open PySem Fr
structure Mv where
 s:Rat
 g:Rat
 b:Rat
 l:Rat
 k:Option Kd
 u:Rat
 v:Rat
noncomputable def Mv.d (m:Mv):D:=mo m.s m.g m.b m.l m.k m.u m.v
structure Mv.Ok (m:Mv):Prop where
 l0:0<m.l
 uv:m.k≠none→m.u=0∧m.v=0
 b:Sz 200 m.b
 l:Sz 20 m.l
 sg:∃i j,Sz i m.s∧Sz j m.g∧i+j≤1180
 us:∃i j,Sz i m.u∧Sz j m.v∧i+j≤900
theorem Mv.Ok.of {m:Mv} (l0:0<m.l) (uv:m.k≠none→m.u=0∧m.v=0) (s:Sz 20 m.s) (g:Sz 20 m.g) (b:Sz 200 m.b) (l:Sz 20 m.l) (u:Sz 20 m.u) (v:Sz 20 m.v):m.Ok :=
 ⟨l0,uv,b,l,⟨20,20,s,g,by omega⟩,⟨20,20,u,v,by omega⟩⟩
noncomputable def Mv.e (m:Mv):Rat:=m.b+m.l
noncomputable def tr (w:Rat) (ms:List Mv):D:=.tuple [F w,.tuple (ms.map Mv.d)]
noncomputable def nov:List Mv→Bool
 | []=>true
 | [_]=>true
 | a::c::r=>!decide (c.b<a.e)&&nov (c::r)
theorem G93:gloA 93=.ok (.int 0):=rfl
theorem G94:gloA 94=.ok (.int 1):=rfl
theorem k_all {xs:List D}:bltD .all [.list xs]=allD xs:=rfl
theorem JLu {α:Type} {ms:List α} {p:α→Bool}:allD (ms.map fun m=>.bool (p m))=.ok (.bool (ms.all p)):=by
 induction ms with
 | nil=>rfl
 | cons m r ih=>simp only [List.map_cons,allD,ih,List.all_cons]
theorem JIy {ms:List Mv} {m:Mv}:idxD (.tuple ((ms++[m]).map Mv.d)) (.int (-1))=.ok m.d:=by
 simp only [idxD,atI,ixN,List.length_map,List.length_append,List.length_cons,List.length_nil]
 rw [if_neg (by omega),if_pos (by omega)]
 simp only [Option.bind_some]
 rw [show (-1+(((ms.length+(0+1):Nat)):Int)).toNat=ms.length by omega]
 simp [optR]
theorem JGp {ms:List Mv} {m:Mv}:idxD (.list ((ms++[m]).map Mv.d)) (.int (-1))=.ok m.d:=JIy
theorem JFP {ms:List Mv} {m:Mv} {j:Nat} {i:Int} (hi:i=j) (h:ms[j]? = some m):idxD (.tuple (ms.map Mv.d)) (.int i)=.ok m.d:=by
 subst hi
 obtain ⟨hl,_⟩:=List.getElem?_eq_some_iff.mp h
 simp only [idxD,atI,ixN,List.length_map]
 rw [if_pos (by omega),if_pos (by omega)]
 simp only [Option.bind_some,Int.toNat_natCast,List.getElem?_map,h]
 rfl
noncomputable def JDF:S:=match b_82 with
 | .cons (.for1 _ _ b) _=>b
 | _=>.nil
section
variable {x:Bool} {sub:Nat→Nat→Bool} {m n:Nat} {w:Rat} {w':D} {ms:List Mv}
theorem Mv.q_ismo {a:Mv} (h:a.Ok) (hm:4≤m):run x tabA gloA sub m 71 [a.d]=.ok (.bool true):=VP.q_ismo h.l0 h.uv hm
theorem Mv.q_end {a:Mv} (h:a.Ok) (hm:4≤m):run x tabA gloA sub m 72 [a.d]=.ok (F a.e):=by
 have:Z 200 a.b:=⟨h.b⟩
 have:Z 20 a.l:=⟨h.l⟩
 exact VP.q_end (by omega) (by omega) hm
theorem Mv.q_less {a c:Mv} (h:a.Ok) (hc:c.Ok) (hm:1≤m):run x tabA gloA sub m 6 [F c.b,F a.e]=.ok (.bool (decide (c.b<a.e))):=by
 have:Z 200 a.b:=⟨h.b⟩
 have:Z 200 c.b:=⟨hc.b⟩
 have:Z 20 a.l:=⟨h.l⟩
 have:Z 221 a.e:=⟨(inferInstance:Z (200+20+1) (a.b+a.l)).h⟩
 exact VP.q_less (by omega) (by omega) hm
theorem JDo (hok:∀a∈ms,a.Ok):∀(r:List Mv) (pre:List Mv) (a:Mv) (y:Sl),ms=pre++a::r→Vs y →
  (nov (a::r)=true→∃z,Vs z∧for2 ⟨run x tabA gloA sub (n+4),gloA,sub⟩ 1 JDF ((List.range' (pre.length+1) r.length).map fun j=>.int (j:Nat)) [.val (.tuple (ms.map Mv.d)),y]=.nx [.val (.tuple (ms.map Mv.d)),z]) ∧
  (nov (a::r)=false→for2 ⟨run x tabA gloA sub (n+4),gloA,sub⟩ 1 JDF ((List.range' (pre.length+1) r.length).map fun j=>.int (j:Nat)) [.val (.tuple (ms.map Mv.d)),y]=.rt (.bool false))
 | [],pre,a,y,_,v=>⟨fun _=>⟨y,v,rfl⟩,fun h=>by cases h⟩
 | c::r,pre,a,y,e,v=>by
  have ia:idxD (.tuple (ms.map Mv.d)) (.int (((pre.length+1:Nat):Int) - 1))=.ok a.d:=JFP (j:=pre.length) (by omega) (by rw [e];simp)
  have ic:idxD (.tuple (ms.map Mv.d)) (.int ((pre.length+1:Nat):Int))=.ok c.d:=JFP (j:=pre.length+1) rfl (by rw [e];simp [List.getElem?_append])
  have oa:a.Ok:=hok a (by rw [e];simp)
  have oc:c.Ok:=hok c (by rw [e];simp)
  have e1:run x tabA gloA sub (n+4) 72 [a.d]=.ok (F a.e):=Mv.q_end oa (by omega)
  have e2:run x tabA gloA sub (n+4) 6 [F c.b,F a.e]=.ok (.bool (decide (c.b<a.e))):=Mv.q_less oa oc (by omega)
  have m2:idxD c.d (.int 2)=.ok (F c.b):=rfl
  simp only [List.length_cons,List.range'_succ,List.map_cons]
  generalize hC:(Cn.mk (run x tabA gloA sub (n+4)) gloA sub)=C
  have fn:C.fn=run x tabA gloA sub (n+4):=by rw [←hC]
  have fg:C.glo=gloA:=by rw [←hC]
  have ih:=JDo hok r (pre++[a]) c (.val (.int ((pre.length+1:Nat):Int))) (by rw [e];simp) rfl
  rw [hC,List.length_append,List.length_cons,List.length_nil] at ih
  rw [JBu]
  by_cases o:c.b<a.e
  · have en:nov (a::c::r)=false:=by simp [nov,o]
    refine ⟨fun h=>(by rw [en] at h;cases h),fun _=>?_⟩
    dsimp?! [JDF,b_82,fn,fg,ia,ic,e1,e2,m2,o,decide_true]
  · have en:nov (a::c::r)=nov (c::r):=by simp [nov,o]
    have ex:exec C JDF [.val (.tuple (ms.map Mv.d)),.val (.int ((pre.length+1:Nat):Int))]=.nx [.val (.tuple (ms.map Mv.d)),.val (.int ((pre.length+1:Nat):Int))]:=by
     dsimp?! [JDF,b_82,fn,fg,ia,ic,e1,e2,m2,o,decide_false]
    rw [List.set_cons_succ,List.set_cons_zero,ex,JFW,en]
    exact ih
theorem JD2 {j:Nat} (h:j≤1000):small ((j:Nat):Int)=true:=by
 unfold small
 simp only [Bool.and_eq_true,decide_eq_true_eq]
 omega
theorem JNL {j:Nat} (h:j≤1000):rngD [.int 1,.int (j:Int)]=.ok ((List.range' 1 (j - 1)).map fun j=>.int (j:Nat)):=by
 have h1:small 1=true:=JD2 (j:=1) (by omega)
 simp only [rngD,h1,JD2 h,Bool.and_self,if_true,JEM]
 congr 1
 rw [List.range'_eq_map_range,List.map_map]
 rw [show ((j:Int) - 1).toNat=j - 1 by omega]
 refine List.map_congr_left fun k _=>?_
 simp
theorem JEg (hok:∀a∈ms,a.Ok) (hl:ms.length≤1000) (hm:5≤m):run x tabA gloA sub m 82 [.tuple (ms.map Mv.d)]=.ok (.bool (nov ms)):=by
 obtain ⟨n,rfl⟩:=JAG hm
 rw [JAB (n:=n+4) (show tabA 82=some d_82 from rfl),JAA rfl]
 have rg:=JNL hl
 cases ms with
 | nil =>
  simp only [List.length_nil,Nat.zero_sub,List.range'_zero] at rg
  dsimp?! [d_82,b_82,List.length_nil,rg,JF0,JAx,JBJ,JAy,nov]
 | cons a r =>
  have lp:=JDo (x:=x) (sub:=sub) (n:=n) hok r [] a .no rfl rfl
  have el:((a::r).map Mv.d).length=(a::r).length:=by simp
  generalize (a::r).map Mv.d=ds at *
  simp only [List.length_nil,Nat.zero_add,JDF,b_82] at lp
  have ec:(a::r).length - 1=r.length:=by simp
  rw [ec,←el] at rg
  generalize (List.range' 1 r.length).map (fun j=>(PyData.int (j:Nat):D))=js at *
  cases h:nov (a::r)
  ·have lp:=lp.2 h
   dsimp?! [d_82,b_82,rg,lp,JAx,JBJ,JAy]
  ·obtain ⟨z,v,lp⟩:=lp.1 h
   dsimp?! [d_82,b_82,rg,lp,JAx,JBJ,JAy]
theorem JMd:isiD sub (tr w ms) .tuple=.ok (.bool true):=rfl
theorem JMq:bltD .len [tr w ms]=.ok (.int 2):=rfl
theorem tri0:idxD (tr w ms) (.int 0)=.ok (F w):=rfl
theorem JJp (hok:∀a∈ms,a.Ok) (hl:ms.length≤1000) (hm:6≤m):run x tabA gloA sub m 81 [tr w ms]=.ok (.bool (nov ms)):=by
 obtain ⟨n,rfl⟩:=JAG hm
 rw [JAB (n:=n+5) (show tabA 81=some d_81 from rfl),JAA rfl]
 have e1:run x tabA gloA sub (n+5) 82 [.tuple (ms.map Mv.d)]=.ok (.bool (nov ms)):=JEg hok hl (by omega)
 obtain ⟨C,hC⟩:∃C:Cn,C=⟨run x tabA gloA sub (n+5),gloA,sub⟩:=⟨_,rfl⟩
 have fn:C.fn=run x tabA gloA sub (n+5):=by rw [hC]
 have fg:C.glo=gloA:=by rw [hC]
 have fs:C.sub=sub:=by rw [hC]
 rw [←hC]
 have cp:∀δ,JCJ C 0 (.call 71 (.cons (.var 0) .nil)) (.cbl true) δ (.ok (ms.map Mv.d))=.ok (.list (ms.map fun _=>.bool true)):=by
  intro δ
  rw [JBX (by rw [List.length_map];omega),JCs (g:=fun _=>.bool true) (fun y hy=>?_)]
  ·simp only [mkl,List.map_map];rfl
  ·obtain ⟨a,ha,rfl⟩:=List.mem_map.mp hy
   have e:run x tabA gloA sub (n+5) 71 [a.d]=.ok (.bool true):=Mv.q_ismo (hok a ha) (by omega)
   rw [JBU]
   dsimp?! [fn,e]
 have al:allD (ms.map fun _=>.bool true)=.ok (.bool true):=by
  rw [JLu (p:=fun _=>true)]
  simp
 have it:JAk (.tuple (ms.map Mv.d))=.ok (ms.map Mv.d):=rfl
 have s1:run x tabA gloA sub (n+5) 24 [F w]=.ok (.bool true):=JGj (by omega)
 have t1:idxD (tr w ms) (.int 1)=.ok (.tuple (ms.map Mv.d)):=rfl
 generalize ms.map Mv.d=ds at *
 dsimp?! [d_81,b_81,fn,fg,fs,JMd,JMq,Bool.not_true,decide_true,G93,G94,tri0,t1,s1,JGz,it,cp,k_all,al,e1]
theorem JFd {ms:List Mv} (h:ms≠[]):∃r m,ms=r++[m]:=⟨ms.dropLast,ms.getLast h,(List.dropLast_concat_getLast h).symm⟩
theorem JIb {ms:List Mv} {a:Mv}:(((ms++[a]).map Mv.d).length:Int)=ms.length+1:=by simp
theorem JIa (h:run x tabA gloA sub (m - 1) 81 [w']=.ok (.bool true)) (hm:1≤m):run x tabA gloA sub m 85 [w']=.ok .none:=by
 obtain ⟨n,rfl⟩:=JAG hm
 rw [JAB (n:=n) (show tabA 85=some d_85 from rfl),JAA rfl]
 simp only [Nat.add_sub_cancel] at h
 dsimp?! [d_85,b_85,h,Bool.not_true]
theorem JHl (h:run true tabA gloA sub (m - 1) 81 [w']=.ok (.bool false)) (hm:1≤m):run true tabA gloA sub m 85 [w']=.exc 4:=by
 obtain ⟨n,rfl⟩:=JAG hm
 rw [JAB (n:=n) (show tabA 85=some d_85 from rfl),JAA rfl]
 simp only [Nat.add_sub_cancel] at h
 dsimp?! [d_85,b_85,h,Bool.not_false]
theorem noF {p:Rat}:JAS (F p)=true:=rfl
section
variable {g b l:Rat} {k:Kd} {i:Nat}
end
end
end VI.VP
end
section
namespace VI.VP
open PySem Fr
theorem JFO {C:Cn} {i:Nat} {b:S} {Inv:List D→Env→Prop} (hb:∀d ds δ,Inv (d::ds) δ→∃δ',(exec C b (δ.set i (.val d))=.nx δ'∨exec C b (δ.set i (.val d))=.ct δ')∧Inv ds δ'):∀ {ds:List D} {δ},Inv ds δ→∃δ',for2 C i b ds δ=.nx δ'∧Inv [] δ'
 | [],δ,h=>⟨δ,rfl,h⟩
 | d::ds,δ,h=>by
  obtain ⟨δ1,e,h1⟩:=hb d ds δ h
  obtain ⟨δ2,e2,h2⟩:=JFO hb h1
  refine ⟨δ2,?_,h2⟩
  rw [JBu]
  rcases e with e | e<;>(rw [e];exact e2)
def Tw (B:Nat) (q:Rat):Prop:=∃z:Int,z.natAbs≤B∧q=Rat.divInt z 12
theorem Tw.mono {A B:Nat} {p:Rat} (h:Tw A p) (e:A≤B):Tw B p:=by
 obtain ⟨z,hz,rfl⟩:=h
 exact ⟨z,by omega,rfl⟩
theorem Tw.sz {B:Nat} {p:Rat} (h:Tw B p) (e:B<1024):Sz 10 p:=by
 obtain ⟨z,hz,rfl⟩:=h
 exact Sz.of (by decide) (by omega) (by decide)
section
variable {x:Bool} {sub:Nat→Nat→Bool} {m n:Nat} {w t:Rat} {ms:List Mv} {ns:List Int}
theorem JKS {a:E} {j:Nat}:(E.rng a).uses j=a.uses j:=rfl
end
end VI.VP
end
section
namespace VI.VP
open PySem Fr
noncomputable def Mv.w (m:Mv) (t:Rat):Rat:=wo m.s m.g m.b m.l m.k m.u m.v t
noncomputable def Mv.sp (m:Mv) (t:Rat):Rat:=sd m.s m.g m.b m.l m.k m.u m.v t
noncomputable def bg (t:Rat) (ms:List Mv):List Mv:=ms.filter fun m=>!decide (t<m.b)
noncomputable def wOf (w:Rat) (ms:List Mv) (t:Rat):Rat:=match (bg t ms).getLast? with
 | none=>w
 | some m=>m.w t
structure Ti (i j:Nat) (ms:List Mv):Prop where
 ok:∀a∈ms,a.Ok
 b:∀a∈ms,Sz i a.b
 l:∀a∈ms,Sz j a.l
theorem JE3 {α:Type} {f:D→R (Option D)} {c g:α→D} {p:α→Bool}:∀ {xs:List α},(∀a∈xs,f (c a)=.ok (if p a=true then some (g a) else none))→JAr f (xs.map c)=.ok ((xs.filter p).map g)
 | [],_=>rfl
 | a::xs,h=>by
  simp only [List.map_cons]
  unfold JAr
  rw [h a (by simp)]
  have ih:=JE3 (xs:=xs) fun y hy=>h y (by simp [hy])
  cases hp:p a
  ·simp only [Bool.false_eq_true,if_false]
   rw [ih,List.filter_cons_of_neg (by simp [hp])]
  ·simp only [if_true]
   rw [ih,List.filter_cons_of_pos hp]
   rfl
theorem JF3 {ms:List Mv} {a:Mv}:bltD .len [.list ((ms++[a]).map Mv.d)]=.ok (.int (ms.length+1)):=by
 show R.ok _=_
 rw [JIb]
theorem JFa (ms:List Mv):ms=[]∨∃r m,ms=r++[m]:=by
 by_cases h:ms=[]
 ·exact .inl h
 ·exact .inr (JFd h)
theorem JCn {r:List Mv} {m:Mv}:(r++[m]).getLast? = some m:=by simp
section
variable {x:Bool} {sub:Nat→Nat→Bool} {m n i3 i4 j:Nat} {w t:Rat} {ms:List Mv}
theorem Mv.q_w {a:Mv} (h:a.Ok) (hb:Sz i3 a.b) (hl:Sz i4 a.l) [Z j t] (h3:i3≤30) (h4:i4≤20) (hj:j+i3+i4≤56) (hm:6≤m):run x tabA gloA sub m 48 [a.d,F t]=.ok (F (a.w t)):=by
 obtain ⟨i1,i2,hs,hg,h12⟩:=h.sg
 obtain ⟨i5,i6,hu,hv,h56⟩:=h.us
 have:=(⟨hs⟩:Z i1 a.s)
 have:=(⟨hg⟩:Z i2 a.g)
 have:=(⟨hb⟩:Z i3 a.b)
 have:=(⟨hl⟩:Z i4 a.l)
 have:=(⟨hu⟩:Z i5 a.u)
 have:=(⟨hv⟩:Z i6 a.v)
 have h0:=h.l0
 exact JIS (by grind) (by omega) (by omega) (by omega) hm
theorem q_bg (hok:∀a∈ms,a.Ok) [Z j t] (hj:j≤1500) (hl:ms.length≤1000) (hm:2≤m):run x tabA gloA sub m 96 [tr w ms,F t]=.ok (.list ((bg t ms).map Mv.d)):=by
 obtain ⟨n,rfl⟩:=JAG hm
 rw [JAB (n:=n+1) (show tabA 96=some d_96 from rfl),JAA rfl]
 obtain ⟨C,hC⟩:∃C:Cn,C=⟨run x tabA gloA sub (n+1),gloA,sub⟩:=⟨_,rfl⟩
 have fn:C.fn=run x tabA gloA sub (n+1):=by rw [hC]
 have fg:C.glo=gloA:=by rw [hC]
 rw [←hC]
 have t1:idxD (tr w ms) (.int 1)=.ok (.tuple (ms.map Mv.d)):=rfl
 have it:JAk (.tuple (ms.map Mv.d))=.ok (ms.map Mv.d):=rfl
 have cp:JCJ C 0 (.var 0) (.not (.call 6 (.cons (.var 2) (.cons (.idx (.var 0) (.glo 57)) .nil)))) [.val (tr w ms),.val (F t)] (.ok (ms.map Mv.d))=.ok (.list ((bg t ms).map Mv.d)):=by
  rw [JBX (by rw [List.length_map];omega),JE3 (p:=fun m=>!decide (t<m.b)) (g:=Mv.d) (fun a ha=>?_)]
  ·rfl
  ·have zb:Z 200 a.b:=⟨(hok a ha).b⟩
   have m2:idxD a.d (.int 2)=.ok (F a.b):=rfl
   rw [JBU]
   by_cases o:t<a.b
   ·dsimp?! [fn,fg,m2,o,decide_true,Bool.not_true]
   ·dsimp?! [fn,fg,m2,o,decide_false,Bool.not_false]
 generalize (bg t ms).map Mv.d=bs at *
 generalize ms.map Mv.d=ds at *
 dsimp?! [d_96,b_96,fn,fg,G94,t1,it,cp]
theorem JL6:bltD .len [.list (([]:List Mv).map Mv.d)]=.ok (.int 0):=rfl
theorem q_wof (T:Ti i3 i4 ms) [Z j t] (h3:i3≤30) (h4:i4≤20) (hj:j+i3+i4≤56) (hl:ms.length≤1000) (hm:7≤m):run x tabA gloA sub m 97 [tr w ms,F t]=.ok (F (wOf w ms t)):=by
 obtain ⟨n,rfl⟩:=JAG hm
 rw [JAB (n:=n+6) (show tabA 97=some d_97 from rfl),JAA rfl]
 have e1:run x tabA gloA sub (n+6) 96 [tr w ms,F t]=.ok (.list ((bg t ms).map Mv.d)):=q_bg T.ok (by omega) hl (by omega)
 have t0:idxD (tr w ms) (.int 0)=.ok (F w):=rfl
 unfold wOf
 rcases JFa (bg t ms) with h | ⟨r,a,h⟩
 ·rw [h] at e1 ⊢
  have nl:=JL6
  simp only [List.map_nil,List.getLast?_nil] at e1 nl ⊢
  generalize tr w ms=T at *
  dsimp?! [d_97,b_97,e1,nl,decide_true,G93,t0]
 ·have ha:a∈ms:=(List.mem_filter.mp (show a∈bg t ms by rw [h];simp)).1
  have e2:run x tabA gloA sub (n+6) 48 [a.d,F t]=.ok (F (a.w t)):=Mv.q_w (T.ok a ha) (T.b a ha) (T.l a ha) h3 h4 hj (by omega)
  rw [h] at e1 ⊢
  rw [JCn]
  have il:=JGp (ms:=r) (m:=a)
  have ll:=JF3 (ms:=r) (a:=a)
  have t4:¬((r.length:Int)+1=0):=by omega
  generalize (r++[a]).map Mv.d=ds at *
  generalize tr w ms=T at *
  dsimp?! [d_97,b_97,e1,il,ll,t4,decide_false,e2]
end
end VI.VP
end
section
namespace VI.VP
open PySem Fr
section
variable {x:Bool} {sub:Nat→Nat→Bool} {m n i3 i4 j:Nat} {w t:Rat} {ms:List Mv}
noncomputable def Mv.sl (y:Rat) (a:Mv):Mv:={ a with b:=a.b*y,l:=a.l*y,u:=a.u / y,v:=a.v / y }
end
end VI.VP
end
section
namespace VI.VP
open PySem Fr
section
variable {y t:Rat} {a:Mv} {ms:List Mv} {w:Rat}
end
end VI.VP
end
section
namespace VI.VP
open PySem Fr
noncomputable def tt:List Rat→Rat→Rat
 | [],s=>s
 | q::r,s=>tt r (s+q)
theorem JJY:∀(a b:List Rat) (s:Rat),tt (a++b) s=tt b (tt a s)
 | [],_,_=>rfl
 | _::a,b,s=>JJY a b _
theorem JH2 {k:Nat}:∀(a:List Rat) (s:Rat) (j:Nat),(∀q∈a,Sz k q)→Sz j s→Sz (j+a.length*(k+1)) (tt a s)
 | [],s,j,_,h=>by simpa [tt] using h
 | q::a,s,j,ha,h=>by
  have:=JH2 a (s+q) (j+k+1) (fun q h=>ha q (by simp [h])) (h.add (ha q (by simp)) (Nat.le_refl _))
  refine this.mono ?_
  simp only [List.length_cons,Nat.add_mul]
  omega
noncomputable def JDN:S:=.cons (.asg 1 (.call 3 (.cons (.var 1) (.cons (.var 2) .nil)))) .nil
section
variable {x:Bool} {sub:Nat→Nat→Bool} {m n k:Nat} {w:Rat} {ms:List Mv}
theorem JHo (qs:List Rat) (hq:∀q∈qs,Sz k q) (hl:qs.length*(k+1)≤1400) (hk:k≤1400) (hm:4≤m):run x tabA gloA sub m 179 [.list (qs.map F)]=.ok (F (tt qs 0)):=by
 obtain ⟨n,rfl⟩:=JAG hm
 rw [JAB (n:=n+3) (show tabA 179=some JH4 from rfl),JAA rfl]
 obtain ⟨C,hC⟩:∃C:Cn,C=⟨run x tabA gloA sub (n+3),gloA,sub⟩:=⟨_,rfl⟩
 have fn:C.fn=run x tabA gloA sub (n+3):=by rw [hC]
 have fg:C.glo=gloA:=by rw [hC]
 rw [←hC]
 have it:JAk (.list (qs.map F))=.ok (qs.map F):=rfl
 generalize hds:qs.map F=ds at *
 obtain ⟨δ',lp,a,r,y2,er,ea,v2,eδ⟩:=JFO (C:=C) (i:=2) (b:=JDN)
  (Inv:=fun es δ=>∃(a r:List Rat) (y2:Sl),es=r.map F∧qs=a++r∧Vs y2∧δ=[.val (.list ds),.val (F (tt a 0)),y2])
  (fun d es δ ⟨a,r,y2,er,ea,v2,e⟩=>by
    subst e
    cases r with
    | nil=>cases er
    | cons q r =>
     simp only [List.map_cons,List.cons.injEq] at er
     obtain ⟨rfl,rfl⟩:=er
     have hll:a.length*(k+1)≤1400:=Nat.le_trans (Nat.mul_le_mul_right _ (by rw [ea];simp)) hl
     have z1:Z 1410 (tt a 0):=⟨(JH2 a 0 3 (fun q h=>hq q (by rw [ea];simp [h])) (sz01 (by omega)).1).mono (by omega)⟩
     have z2:Z k q:=⟨hq q (by rw [ea];simp)⟩
     have et:tt (a++[q]) 0=tt a 0+q:=by rw [JJY];rfl
     refine ⟨[.val (.list ds),.val (F (tt (a++[q]) 0)),.val (F q)],.inl ?_,a++[q],r,.val (F q),rfl,by rw [ea];simp,rfl,rfl⟩
     rw [et]
     generalize tt a 0=s at *
     dsimp?! [JDN,fn,fg])
  (ds:=ds) (δ:=[.val (.list ds),.val (F 0),.no])
  ⟨[],qs,.no,hds.symm,rfl,rfl,rfl⟩
 subst eδ
 cases r with
 | cons q r=>cases er
 | nil =>
  rw [List.append_nil] at ea
  subst ea
  simp only [JDN] at lp
  generalize tt qs 0=T at *
  dsimp?! [JH4,JId,fn,fg,it,lp,G39,JAx,JBJ,JAy,v2.own]
structure Fit (a:Mv):Prop where
 ok:a.Ok
 s:Sz 5 a.s
 g:Sz 5 a.g
 b:Sz 16 a.b
 l:Sz 10 a.l
 u:Sz 11 a.u
 v:Sz 11 a.v
noncomputable def Mv.ar (a:Mv):Rat:=VP.ar a.s a.g a.l a.k a.u a.v
theorem Fit.arz {a:Mv} (h:Fit a):Sz 97 a.ar:=by
 have z1:Z 5 a.s:=⟨h.s⟩
 have z2:Z 5 a.g:=⟨h.g⟩
 have z3:Z 10 a.l:=⟨h.l⟩
 have z4:Z 11 a.u:=⟨h.u⟩
 have z5:Z 11 a.v:=⟨h.v⟩
 exact (inferInstance:Z (2*5+5+4*10+11+11+20) (VP.ar a.s a.g a.l a.k a.u a.v)).le (by omega)
theorem Fit.q_ar {a:Mv} (h:Fit a) (hm:5≤m):run x tabA gloA sub m 188 [a.d]=.ok (F a.ar):=by
 have z1:Z 5 a.s:=⟨h.s⟩
 have z2:Z 5 a.g:=⟨h.g⟩
 have z3:Z 10 a.l:=⟨h.l⟩
 have z4:Z 11 a.u:=⟨h.u⟩
 have z5:Z 11 a.v:=⟨h.v⟩
 exact JNX (by omega) hm
theorem Fit.ez {a:Mv} (h:Fit a):Sz 27 a.e:=by
 have z1:Z 16 a.b:=⟨h.b⟩
 have z2:Z 10 a.l:=⟨h.l⟩
 exact (inferInstance:Z (16+10+1) (a.b+a.l)).h
noncomputable def gp (p:Rat×Rat):D:=.tuple [F p.1,F p.2]
noncomputable def rs:List Mv→List (Rat×Rat)
 | []=>[]
 | [_]=>[]
 | a::c::r=>(if a.e<c.b then [(a.e,c.b)] else [])++rs (c::r)
noncomputable def JCj:S:=match JCx with
 | .cons _ (.cons _ (.cons _ (.cons (.for1 _ _ b) _)))=>b
 | _=>.nil
theorem JPG {δ:Env} {i:Nat} {ds:List D} {x:D} {e:E} (h:ds.length<1000) (hn:JAS x=true):JAu i ds e x δ=.nx (δ.set i (.own (.list (ds++[x])))):=by
 unfold JAu
 rw [if_pos (by omega),hn]
 simp
theorem JJP:∀ms:List Mv,(rs ms).length≤ms.length
 | []=>Nat.le_refl _
 | [_]=>by simp [rs]
 | a::c::r=>by
  have:=JJP (c::r)
  simp only [rs,List.length_append,List.length_cons] at this ⊢
  split<;>simp<;>omega
theorem JGF (T:D) (hok:∀a∈ms,Fit a) (hlm:ms.length≤400):∀(r:List Mv) (pre:List Mv) (a:Mv) (acc:List (Rat×Rat)) (y3 y4 y5:Sl),ms=pre++a::r→acc.length≤pre.length→Vs y3→Vs y4→Vs y5 →
  ∃z3 z4 z5,Vs z3∧Vs z4∧Vs z5∧for2 ⟨run x tabA gloA sub (n+6),gloA,sub⟩ 3 JCj ((List.range' (pre.length+1) r.length).map fun j=>.int (j:Nat)) [.val T,.val (.tuple (ms.map Mv.d)),.own (.list (acc.map gp)),y3,y4,y5]
   = .nx [.val T,.val (.tuple (ms.map Mv.d)),.own (.list ((acc++rs (a::r)).map gp)),z3,z4,z5]
 | [],pre,a,acc,y3,y4,y5,_,_,v3,v4,v5=>⟨y3,y4,y5,v3,v4,v5,by simp only [rs,List.append_nil];rfl⟩
 | c::r,pre,a,acc,y3,y4,y5,e,hl,v3,v4,v5=>by
  have ia:idxD (.tuple (ms.map Mv.d)) (.int (((pre.length+1:Nat):Int) - 1))=.ok a.d:=JFP (j:=pre.length) (by omega) (by rw [e];simp)
  have ic:idxD (.tuple (ms.map Mv.d)) (.int ((pre.length+1:Nat):Int))=.ok c.d:=JFP (j:=pre.length+1) rfl (by rw [e];simp [List.getElem?_append])
  have oa:Fit a:=hok a (by rw [e];simp)
  have oc:Fit c:=hok c (by rw [e];simp)
  have e1:run x tabA gloA sub (n+6) 72 [a.d]=.ok (F a.e):=Mv.q_end oa.ok (by omega)
  have z1:Z 27 a.e:=⟨oa.ez⟩
  have z2:Z 16 c.b:=⟨oc.b⟩
  have m2:idxD c.d (.int 2)=.ok (F c.b):=rfl
  have hpl:pre.length<400:=by rw [e] at hlm;simp at hlm;omega
  simp only [List.length_cons,List.range'_succ,List.map_cons]
  generalize hC:(Cn.mk (run x tabA gloA sub (n+6)) gloA sub)=C
  have fn:C.fn=run x tabA gloA sub (n+6):=by rw [←hC]
  have fg:C.glo=gloA:=by rw [←hC]
  have ih:=JGF T hok hlm r (pre++[a]) c (acc++(if a.e<c.b then [(a.e,c.b)] else [])) (.val (.int ((pre.length+1:Nat):Int))) (.val (F a.e)) (.val (F c.b)) (by rw [e];simp) (by simp only [List.length_append,List.length_cons,List.length_nil];split<;>simp<;>omega) rfl rfl rfl
  rw [hC,List.length_append,List.length_cons,List.length_nil] at ih
  obtain ⟨w3,w4,w5,u3,u4,u5,ih⟩:=ih
  refine ⟨w3,w4,w5,u3,u4,u5,?_⟩
  rw [JBu]
  have er:acc++rs (a::c::r)=acc++(if a.e<c.b then [(a.e,c.b)] else [])++rs (c::r):=by simp only [rs,List.append_assoc]
  rw [er]
  have ex:exec C JCj [.val T,.val (.tuple (ms.map Mv.d)),.own (.list (acc.map gp)),.val (.int ((pre.length+1:Nat):Int)),y4,y5]
    = .nx [.val T,.val (.tuple (ms.map Mv.d)),.own (.list ((acc++(if a.e<c.b then [(a.e,c.b)] else [])).map gp)),.val (.int ((pre.length+1:Nat):Int)),.val (F a.e),.val (F c.b)]:=by
   have nd:JAS a.d=true:=JIw
   have nc:JAS c.d=true:=JIw
   by_cases o:a.e<c.b
   ·have ap:∀(δ:Env) (e:E),JAu 2 (acc.map gp) e (.tuple [F a.e,F c.b]) δ=.nx (δ.set 2 (.own (.list (acc.map gp++[.tuple [F a.e,F c.b]])))):=fun δ e=>JPG (by rw [List.length_map];omega) rfl
    have em:(acc++(if a.e<c.b then [(a.e,c.b)] else [])).map gp=acc.map gp++[.tuple [F a.e,F c.b]]:=by rw [if_pos o,List.map_append];rfl
    rw [em]
    generalize acc.map gp=ds at *
    generalize ms.map Mv.d=es at *
    generalize a.e=ae at *
    dsimp?! [JCj,JCx,fn,fg,ia,ic,e1,m2,o,decide_true,ap,v4.own,v5.own,JBG,JAS,JA0,noF,Bool.not_true,Bool.and_false,G57,Bool.and_self]
   ·have em:(acc++(if a.e<c.b then [(a.e,c.b)] else [])).map gp=acc.map gp:=by rw [if_neg o,List.append_nil]
    rw [em]
    generalize acc.map gp=ds at *
    generalize ms.map Mv.d=es at *
    generalize a.e=ae at *
    dsimp?! [JCj,JCx,fn,fg,ia,ic,e1,m2,o,decide_false,v4.own,v5.own,JBG,JAS,JA0,noF,Bool.not_true,Bool.and_false,G57,Bool.and_self]
  rw [List.set_cons_succ,List.set_cons_succ,List.set_cons_succ,List.set_cons_zero,ex,JFW]
  exact ih
theorem JDv (hok:∀a∈ms,Fit a) (hn:nov ms=true) (hl:ms.length≤400) (hm:7≤m):run x tabA gloA sub m 85 [tr w ms]=.ok .none:=by
 refine JIa ?_ (by omega)
 rw [JJp (fun a h=>(hok a h).ok) (by omega) (by omega),hn]
theorem JF4 (hok:∀a∈ms,Fit a) (hn:nov ms=true) (hl:ms.length≤400) (hm:8≤m):run x tabA gloA sub m 195 [tr w ms]=.ok (.list ((rs ms).map gp)):=by
 obtain ⟨n,rfl⟩:=JAG hm
 rw [JAB (n:=n+7) (show tabA 195=some JEW from rfl),JAA rfl]
 have e0:run x tabA gloA sub (n+7) 85 [tr w ms]=.ok .none:=JDv hok hn hl (by omega)
 have t1:idxD (tr w ms) (.int 1)=.ok (.tuple (ms.map Mv.d)):=rfl
 have rg:=JNL (j:=ms.length) (by omega)
 have nt:JAS (.tuple (ms.map Mv.d))=true:=by
  simp only [JAS]
  clear hok hn hl e0 t1 rg
  induction ms with
  | nil=>rfl
  | cons a r ih=>simp only [List.map_cons,JA0,ih,Bool.and_true];exact JIw
 generalize htr:tr w ms=TR at *
 cases ms with
 | nil =>
  simp only [List.length_nil,Nat.zero_sub,List.range'_zero] at rg
  simp only [List.map_nil] at t1 nt
  dsimp?! [JEW,JCx,e0,t1,G94,List.length_nil,rg,JF0,JAx,JBJ,JCi,JAy,rs,JHh,JHV,JEV,JKS,JGX,JGk,Nat.reduceAdd,Nat.reduceBEq,Bool.or_false,Bool.or_self,JAS,JA0,Bool.not_true,Bool.and_false,JBG]
 | cons a r =>
  obtain ⟨z3,z4,z5,v3,v4,v5,lp⟩:=JGF (x:=x) (sub:=sub) (n:=n+1) TR hok hl r [] a [] .no .no .no rfl (Nat.le_refl _) rfl rfl rfl
  have el:((a::r).map Mv.d).length=(a::r).length:=by simp
  have ec:(a::r).length - 1=r.length:=by simp
  rw [ec,←el] at rg
  simp only [List.length_nil,Nat.zero_add,JCj,JCx,List.nil_append,List.map_nil] at lp
  generalize (a::r).map Mv.d=ds at *
  generalize (rs (a::r)).map gp=gs at *
  generalize (List.range' 1 r.length).map (fun j=>(PyData.int (j:Nat):D))=js at *
  dsimp?! [JEW,JCx,e0,t1,G94,rg,lp,JAx,JBJ,JCi,JAy,JHh,JHV,JEV,JKS,JGX,JGk,Nat.reduceAdd,Nat.reduceBEq,Bool.or_false,Bool.or_self,JAS,JA0,Bool.not_true,Bool.and_false,JBG,v3.own,v4.own,v5.own,nt]
end
end VI.VP
end
section
namespace VI.VP
open PySem Fr
theorem JBW {α:Type} {f:D→R (Option D)} {c g:α→D}:∀ {xs:List α},(∀a∈xs,f (c a)=.ok (some (g a)))→JAr f (xs.map c)=.ok (xs.map g)
 | [],_=>rfl
 | a::xs,h=>by
  simp only [List.map_cons]
  unfold JAr
  rw [h a (by simp),JBW fun y hy=>h y (by simp [hy])]
theorem JHb {a:Mv}:∀ {r:List Mv},(∀c∈a::r,c.Ok)→nov (a::r)=true→∀c∈r,a.e≤c.b
 | [],_,_,c,h=>by cases h
 | d::r,hok,hn,c,hc=>by
  simp only [nov,Bool.and_eq_true,Bool.not_eq_true',decide_eq_false_iff_not] at hn
  have h1:a.e≤d.b:=by grind
  rcases List.mem_cons.mp hc with rfl | hc
  ·exact h1
  ·have:=JHb (a:=d) (fun c h=>hok c (by simp at h ⊢;right;exact h)) hn.2 c hc
   have l0:=(hok d (by simp)).l0
   have:d.b≤d.e:=by simp only [Mv.e];grind
   grind
theorem JEy {a:Mv} {r:List Mv} (h:nov (a::r)=true):nov r=true:=by
 cases r with
 | nil=>rfl
 | cons c r=>simp only [nov,Bool.and_eq_true] at h;exact h.2
theorem JGh:∀ {pre r:List Mv} {a:Mv},(∀c∈pre++a::r,c.Ok)→nov (pre++a::r)=true→(∀c∈pre,c.b≤a.b)∧nov (a::r)=true
 | [],r,a,_,hn=>⟨(fun c h=>nomatch h),hn⟩
 | d::pre,r,a,hok,hn=>by
  have h1:=JGh (pre:=pre) (r:=r) (a:=a) (fun c h=>hok c (by simp at h ⊢;right;exact h)) (JEy hn)
  refine ⟨fun c hc=>?_,h1.2⟩
  rcases List.mem_cons.mp hc with rfl | hc
  ·have:=JHb (a:=c) (r:=pre++a::r) hok hn a (by simp)
   have l0:=(hok c (by simp)).l0
   have:c.b≤c.e:=by simp only [Mv.e];grind
   grind
  ·exact h1.1 c hc
theorem JKu {w:Rat} {pre r:List Mv} {a c:Mv} (hok:∀d∈pre++a::c::r,d.Ok) (hn:nov (pre++a::c::r)=true) (h:a.e<c.b):wOf w (pre++a::c::r) a.e=a.g:=by
 obtain ⟨h1,h2⟩:=JGh hok hn
 have la:=(hok a (by simp)).l0
 have hab:a.b<a.e:=by simp only [Mv.e];grind
 have h3:=JHb (a:=c) (r:=r) (fun d h=>hok d (by simp at h ⊢;right;right;exact h)) (JEy h2)
 have lc:=(hok c (by simp)).l0
 have hc2:c.b<c.e:=by simp only [Mv.e];grind
 have eb:bg a.e (pre++a::c::r)=pre++[a]:=by
  unfold bg
  rw [List.filter_append]
  congr 1
  ·refine List.filter_eq_self.mpr fun d hd=>?_
   have:=h1 d hd
   simp;grind
  ·rw [List.filter_cons_of_pos (by simp;grind)]
   congr 1
   refine List.filter_eq_nil_iff.mpr fun d hd=>?_
   rcases List.mem_cons.mp hd with rfl | hd
   ·simp;exact h
   ·have:=h3 d hd
    simp;grind
 unfold wOf
 rw [eb,JCn]
 have:a.w a.e=wop a.s a.g a.l a.k a.u a.v 1:=by
  unfold Mv.w
  refine wo_p ?_
  unfold Mv.e
  rw [show a.b+a.l - a.b=a.l by grind,Rat.div_def,Rat.mul_inv_cancel _ (by grind)]
 simp only [this]
 exact JNW _ (by grind)
noncomputable def ra (w:Rat) (ms:List Mv) (p:Rat×Rat):Rat:=(p.2 - p.1)*wOf w ms p.1
theorem JJ8:∀ {ms:List Mv} {p:Rat×Rat},p∈rs ms→∃pre a c r,ms=pre++a::c::r∧p=(a.e,c.b)∧a.e<c.b
 | [],p,h=>by simp [rs] at h
 | [_],p,h=>by simp [rs] at h
 | a::c::r,p,h=>by
  simp only [rs,List.mem_append] at h
  rcases h with h | h
  ·split at h
   ·rename_i o
    simp only [List.mem_cons,List.not_mem_nil,or_false] at h
    exact ⟨[],a,c,r,rfl,h,o⟩
   ·cases h
  ·obtain ⟨pre,a',c',r',e,ep,o⟩:=JJ8 h
   exact ⟨a::pre,a',c',r',by rw [e];rfl,ep,o⟩
section
variable {x:Bool} {sub:Nat→Nat→Bool} {m n k:Nat} {w:Rat} {ms:List Mv}
theorem JO7 (hok:∀a∈ms,Fit a):Ti 16 10 ms:=⟨fun a h=>(hok a h).ok,fun a h=>(hok a h).b,fun a h=>(hok a h).l⟩
theorem JLW (hok:∀a∈ms,Fit a) (hn:nov ms=true) {p:Rat×Rat} (h:p∈rs ms):Sz 27 p.1∧Sz 16 p.2∧Sz 5 (wOf w ms p.1):=by
 obtain ⟨pre,a,c,r,e,rfl,o⟩:=JJ8 h
 have fa:Fit a:=hok a (by rw [e];simp)
 have fc:Fit c:=hok c (by rw [e];simp)
 refine ⟨fa.ez,fc.b,?_⟩
 subst e
 rw [JKu (fun d h=>(hok d h).ok) hn o]
 exact fa.g
theorem ra_sz (hok:∀a∈ms,Fit a) (hn:nov ms=true) {p:Rat×Rat} (h:p∈rs ms):Sz 60 (ra w ms p):=by
 obtain ⟨h1,h2,h3⟩:=JLW (w:=w) hok hn h
 have z1:Z 27 p.1:=⟨h1⟩
 have z2:Z 16 p.2:=⟨h2⟩
 have z3:Z 5 (wOf w ms p.1):=⟨h3⟩
 unfold ra
 generalize wOf w ms p.1=W at *
 exact (inferInstance:Z (16+27+1+5) ((p.2 - p.1)*W)).le (by omega)
theorem JOb (hok:∀a∈ms,Fit a) (hn:nov ms=true) (hl:ms.length≤400) {p:Rat×Rat} (h:p∈rs ms) (hm:7≤m):run x tabA gloA sub m 97 [tr w ms,F p.1]=.ok (F (wOf w ms p.1)):=by
 obtain ⟨h1,h2,h3⟩:=JLW (w:=w) hok hn h
 have z1:Z 27 p.1:=⟨h1⟩
 exact q_wof (JO7 hok) (by omega) (by omega) (by omega) (by omega) hm
theorem q_ra (hok:∀a∈ms,Fit a) (hn:nov ms=true) (hl:ms.length≤400) {p:Rat×Rat} (h:p∈rs ms) (hm:8≤m):run x tabA gloA sub m 194 [tr w ms,gp p]=.ok (F (ra w ms p)):=by
 obtain ⟨n,rfl⟩:=JAG hm
 rw [JAB (n:=n+7) (show tabA 194=some JIx from rfl),JAA rfl]
 obtain ⟨h1,h2,h3⟩:=JLW (w:=w) hok hn h
 have e1:=JOb (x:=x) (sub:=sub) (w:=w) (m:=n+7) hok hn hl h (by omega)
 have z1:Z 27 p.1:=⟨h1⟩
 have z2:Z 16 p.2:=⟨h2⟩
 have z3:Z 5 (wOf w ms p.1):=⟨h3⟩
 unfold ra gp
 generalize wOf w ms p.1=W at *
 generalize tr w ms=TR at *
 clear h h1 h2 h3
 obtain ⟨p,q⟩:=p
 simp only at *
 dsimp?! [JIx,JIg,tp0,tp1,e1]
noncomputable def tA (w:Rat) (ms:List Mv):Rat:=tt (ms.map Mv.ar) 0+tt ((rs ms).map (ra w ms)) 0
theorem JHk (hok:∀a∈ms,Fit a) (hn:nov ms=true) (hl:ms.length≤3) (hm:9≤m):run x tabA gloA sub m 193 [tr w ms]=.ok (F (tA w ms)):=by
 obtain ⟨n,rfl⟩:=JAG hm
 rw [JAB (n:=n+8) (show tabA 193=some JFb from rfl),JAA rfl]
 obtain ⟨C,hC⟩:∃C:Cn,C=⟨run x tabA gloA sub (n+8),gloA,sub⟩:=⟨_,rfl⟩
 have fn:C.fn=run x tabA gloA sub (n+8):=by rw [hC]
 have fg:C.glo=gloA:=by rw [hC]
 rw [←hC]
 have e0:run x tabA gloA sub (n+8) 85 [tr w ms]=.ok .none:=JDv hok hn (by omega) (by omega)
 have e1:run x tabA gloA sub (n+8) 195 [tr w ms]=.ok (.list ((rs ms).map gp)):=JF4 hok hn (by omega) (by omega)
 have h2:∀q∈ms.map Mv.ar,Sz 97 q:=fun q h=>by obtain ⟨a,ha,rfl⟩:=List.mem_map.mp h;exact (hok a ha).arz
 have h3:∀q∈(rs ms).map (ra w ms),Sz 60 q:=fun q h=>by obtain ⟨a,ha,rfl⟩:=List.mem_map.mp h;exact ra_sz hok hn ha
 have hl2:=JJP ms
 have e2:=JHo (x:=x) (sub:=sub) (m:=n+8) (ms.map Mv.ar) h2 (by rw [List.length_map];omega) (by omega) (by omega)
 have e3:=JHo (x:=x) (sub:=sub) (m:=n+8) ((rs ms).map (ra w ms)) h3 (by rw [List.length_map];omega) (by omega) (by omega)
 have z2:Z 400 (tt (ms.map Mv.ar) 0):=⟨(JH2 _ 0 3 h2 (sz01 (by omega)).1).mono (by rw [List.length_map];omega)⟩
 have z3:Z 400 (tt ((rs ms).map (ra w ms)) 0):=⟨(JH2 _ 0 3 h3 (sz01 (by omega)).1).mono (by rw [List.length_map];omega)⟩
 have t1:idxD (tr w ms) (.int 1)=.ok (.tuple (ms.map Mv.d)):=rfl
 have i1:JAk (.tuple (ms.map Mv.d))=.ok (ms.map Mv.d):=rfl
 have i2:JAk (.list ((rs ms).map gp))=.ok ((rs ms).map gp):=rfl
 have c1:∀δ,JCJ C 0 (.call 188 (.cons (.var 0) .nil)) (.cbl true) δ (.ok (ms.map Mv.d))=.ok (.list ((ms.map Mv.ar).map F)):=by
  intro δ
  rw [JBX (by rw [List.length_map];omega),JBW (g:=fun a=>F a.ar) (fun a ha=>?_),List.map_map]
  ·rfl
  ·have e:=(hok a ha).q_ar (x:=x) (sub:=sub) (m:=n+8) (by omega)
   rw [JBU]
   generalize a.d=ad at *
   dsimp?! [fn,fg,e]
 have c2:∀y1 y2,JCJ C 0 (.call 194 (.cons (.var 1) (.cons (.var 0) .nil))) (.cbl true) [.val (tr w ms),y1,y2] (.ok ((rs ms).map gp))=.ok (.list (((rs ms).map (ra w ms)).map F)):=by
  intro y1 y2
  rw [JBX (by rw [List.length_map];omega),JBW (g:=fun a=>F (ra w ms a)) (fun a ha=>?_),List.map_map]
  ·rfl
  ·have e:=q_ra (x:=x) (sub:=sub) (w:=w) (m:=n+8) hok hn (by omega) ha (by omega)
   rw [JBU]
   generalize gp a=ad at *
   generalize tr w ms=TR at *
   dsimp?! [fn,fg,e]
 unfold tA
 clear h2 h3
 generalize tt (ms.map Mv.ar) 0=S1 at *
 generalize tt ((rs ms).map (ra w ms)) 0=S2 at *
 generalize (ms.map Mv.ar).map F=l1 at *
 generalize ((rs ms).map (ra w ms)).map F=l2 at *
 generalize (rs ms).map gp=gs at *
 generalize ms.map Mv.d=ds at *
 generalize tr w ms=TR at *
 dsimp?! [JFb,JGB,fn,fg,e0,e1,e2,e3,t1,i1,i2,c1,c2,G94]
theorem JKA (hok:∀a∈ms,Fit a) (hn:nov ms=true) (hl:ms.length≤3) (hm:8≤m):run x tabA gloA sub m 196 [tr w ms]=.ok (F (tt (ms.map Mv.l) 0)):=by
 obtain ⟨n,rfl⟩:=JAG hm
 rw [JAB (n:=n+7) (show tabA 196=some JFl from rfl),JAA rfl]
 obtain ⟨C,hC⟩:∃C:Cn,C=⟨run x tabA gloA sub (n+7),gloA,sub⟩:=⟨_,rfl⟩
 have fn:C.fn=run x tabA gloA sub (n+7):=by rw [hC]
 have fg:C.glo=gloA:=by rw [hC]
 rw [←hC]
 have e0:run x tabA gloA sub (n+7) 85 [tr w ms]=.ok .none:=JDv hok hn (by omega) (by omega)
 have h2:∀q∈ms.map Mv.l,Sz 10 q:=fun q h=>by obtain ⟨a,ha,rfl⟩:=List.mem_map.mp h;exact (hok a ha).l
 have e2:=JHo (x:=x) (sub:=sub) (m:=n+7) (ms.map Mv.l) h2 (by rw [List.length_map];omega) (by omega) (by omega)
 have t1:idxD (tr w ms) (.int 1)=.ok (.tuple (ms.map Mv.d)):=rfl
 have i1:JAk (.tuple (ms.map Mv.d))=.ok (ms.map Mv.d):=rfl
 have c1:∀δ,JCJ C 0 (.idx (.var 0) (.glo 58)) (.cbl true) δ (.ok (ms.map Mv.d))=.ok (.list ((ms.map Mv.l).map F)):=by
  intro δ
  rw [JBX (by rw [List.length_map];omega),JBW (g:=fun a=>F a.l) (fun a ha=>?_),List.map_map]
  ·rfl
  ·have e:idxD a.d (.int 3)=.ok (F a.l):=rfl
   rw [JBU]
   generalize a.d=ad at *
   dsimp?! [fn,fg,e,G58]
 clear h2
 generalize tt (ms.map Mv.l) 0=S1 at *
 generalize (ms.map Mv.l).map F=l1 at *
 generalize ms.map Mv.d=ds at *
 generalize tr w ms=TR at *
 dsimp?! [JFl,JGW,fn,fg,e0,e2,t1,i1,c1,G94]
noncomputable def rab (q:Rat):Rat:=if q<0 then -q else q
noncomputable def Mv.way (a:Mv):Rat:=rab (a.g - a.s)
theorem JPh {k:Nat} {q:Rat} (h:Sz k q):Sz k (rab q):=by
 unfold rab
 split
 ·exact ⟨by rw [Rat.neg_num,Int.natAbs_neg];exact h.1,by rw [Rat.neg_den];exact h.2⟩
 ·exact h
theorem Fit.wayz {a:Mv} (h:Fit a):Sz 11 a.way:=JPh (h.g.sub h.s (by omega))
theorem Fit.q_way {a:Mv} (h:Fit a) (hm:5≤m):run x tabA gloA sub m 198 [a.d]=.ok (F a.way):=by
 obtain ⟨n,rfl⟩:=JAG hm
 have z1:Z 5 a.s:=⟨h.s⟩
 have z2:Z 5 a.g:=⟨h.g⟩
 have hq:∀q∈[a.s,a.g],Q q:=by
  intro q hq
  simp only [List.mem_cons,List.not_mem_nil,or_false] at hq
  rcases hq with rfl | rfl
  ·exact z1.le (by omega)
  ·exact z2.le (by omega)
 obtain ⟨lo,l1,l2,l3,l4⟩:=JDR (x:=x) (glo:=gloA) (sub:=sub) (n:=n+1) tF tM a.s [a.g] hq
 obtain ⟨hi,m1,m2,m3,m4⟩:=JEU (x:=x) (glo:=gloA) (sub:=sub) (n:=n+1) tF tM a.s [a.g] hq
 simp only [List.map_cons,List.map_nil] at l4 m4
 simp only [List.mem_cons,List.not_mem_nil,or_false] at l1 m1
 have zl:Z 5 lo:=⟨by rcases l1 with rfl | rfl<;>first | exact h.s | exact h.g⟩
 have zh:Z 5 hi:=⟨by rcases m1 with rfl | rfl<;>first | exact h.s | exact h.g⟩
 have l5:=l2 a.s (by simp)
 have l6:=l2 a.g (by simp)
 have m5:=m2 a.s (by simp)
 have m6:=m2 a.g (by simp)
 have ew:a.way=hi - lo:=by
  unfold Mv.way rab
  split<;>rcases l1 with rfl | rfl<;>rcases m1 with rfl | rfl<;>grind
 rw [ew]
 have e1:run x tabA gloA sub (n+4) 47 [a.d]=.ok (.tuple [F lo,F hi]):=by
  rw [JAB (n:=n+3) (show tabA 47=some d_47 from rfl),JAA rfl]
  unfold Mv.d
  dsimp?! [d_47,b_47,mo0,mo1,l4,m4]
 clear hq l1 l2 l3 l4 l5 l6 m1 m2 m3 m4 m5 m6 ew
 rw [JAB (n:=n+4) (show tabA 198=some JHu from rfl),JAA rfl]
 generalize a.d=ad at *
 dsimp?! [JHu,JIR,e1,tp0,tp1]
theorem JI3 (hok:∀a∈ms,Fit a) (hn:nov ms=true) (hl:ms.length≤3) (hm:8≤m):run x tabA gloA sub m 197 [tr w ms]=.ok (F (tt (ms.map Mv.way) 0)):=by
 obtain ⟨n,rfl⟩:=JAG hm
 rw [JAB (n:=n+7) (show tabA 197=some JFq from rfl),JAA rfl]
 obtain ⟨C,hC⟩:∃C:Cn,C=⟨run x tabA gloA sub (n+7),gloA,sub⟩:=⟨_,rfl⟩
 have fn:C.fn=run x tabA gloA sub (n+7):=by rw [hC]
 have fg:C.glo=gloA:=by rw [hC]
 rw [←hC]
 have e0:run x tabA gloA sub (n+7) 85 [tr w ms]=.ok .none:=JDv hok hn (by omega) (by omega)
 have h2:∀q∈ms.map Mv.way,Sz 11 q:=fun q h=>by obtain ⟨a,ha,rfl⟩:=List.mem_map.mp h;exact (hok a ha).wayz
 have e2:=JHo (x:=x) (sub:=sub) (m:=n+7) (ms.map Mv.way) h2 (by rw [List.length_map];omega) (by omega) (by omega)
 have t1:idxD (tr w ms) (.int 1)=.ok (.tuple (ms.map Mv.d)):=rfl
 have i1:JAk (.tuple (ms.map Mv.d))=.ok (ms.map Mv.d):=rfl
 have c1:∀δ,JCJ C 0 (.call 198 (.cons (.var 0) .nil)) (.cbl true) δ (.ok (ms.map Mv.d))=.ok (.list ((ms.map Mv.way).map F)):=by
  intro δ
  rw [JBX (by rw [List.length_map];omega),JBW (g:=fun a=>F a.way) (fun a ha=>?_),List.map_map]
  ·rfl
  ·have e:=(hok a ha).q_way (x:=x) (sub:=sub) (m:=n+7) (by omega)
   rw [JBU]
   generalize a.d=ad at *
   dsimp?! [fn,fg,e]
 clear h2
 generalize tt (ms.map Mv.way) 0=S1 at *
 generalize (ms.map Mv.way).map F=l1 at *
 generalize ms.map Mv.d=ds at *
 generalize tr w ms=TR at *
 dsimp?! [JFq,JGD,fn,fg,e0,e2,t1,i1,c1,G94]
noncomputable def wsOf (w:Rat) (ms:List Mv):List Rat:=w::(ms.map Mv.s++ms.map Mv.g)
structure Lo (q:Rat) (qs:List Rat):Prop where
 mem:q∈qs
 le:∀p∈qs,q≤p
structure Hi (q:Rat) (qs:List Rat):Prop where
 mem:q∈qs
 le:∀p∈qs,p≤q
theorem JMF (hw:Sz 5 w) (hok:∀a∈ms,Fit a) (hn:nov ms=true) (hl:ms.length≤3) (hm:8≤m):∃lo hi,Lo lo (wsOf w ms)∧Hi hi (wsOf w ms)∧run x tabA gloA sub m 199 [tr w ms]=.ok (.tuple [F lo,F hi]):=by
 obtain ⟨n,rfl⟩:=JAG hm
 have hq:∀q∈w::(ms.map Mv.s++ms.map Mv.g),Q q:=by
  intro q hq
  rcases List.mem_cons.mp hq with rfl | hq
  ·exact hw.mono (by omega)
  ·rcases List.mem_append.mp hq with h | h
   ·obtain ⟨a,ha,rfl⟩:=List.mem_map.mp h;exact (hok a ha).s.mono (by omega)
   ·obtain ⟨a,ha,rfl⟩:=List.mem_map.mp h;exact (hok a ha).g.mono (by omega)
 obtain ⟨lo,l1,l2,l3,l4⟩:=JDR (x:=x) (glo:=gloA) (sub:=sub) (n:=n+5) tF tM w (ms.map Mv.s++ms.map Mv.g) hq
 obtain ⟨hi,m1,m2,m3,m4⟩:=JEU (x:=x) (glo:=gloA) (sub:=sub) (n:=n+5) tF tM w (ms.map Mv.s++ms.map Mv.g) hq
 refine ⟨lo,hi,⟨l1,l2⟩,⟨m1,m2⟩,?_⟩
 clear l1 l2 l3 m1 m2 m3 hq
 rw [JAB (n:=n+7) (show tabA 199=some JFz from rfl),JAA rfl]
 obtain ⟨C,hC⟩:∃C:Cn,C=⟨run x tabA gloA sub (n+7),gloA,sub⟩:=⟨_,rfl⟩
 have fn:C.fn=run x tabA gloA sub (n+7):=by rw [hC]
 have fg:C.glo=gloA:=by rw [hC]
 rw [←hC]
 have e0:run x tabA gloA sub (n+7) 85 [tr w ms]=.ok .none:=JDv hok hn (by omega) (by omega)
 have t0:idxD (tr w ms) (.int 0)=.ok (F w):=rfl
 have t1:idxD (tr w ms) (.int 1)=.ok (.tuple (ms.map Mv.d)):=rfl
 have i1:JAk (.tuple (ms.map Mv.d))=.ok (ms.map Mv.d):=rfl
 have c1:∀δ,JCJ C 0 (.idx (.var 0) (.glo 55)) (.cbl true) δ (.ok (ms.map Mv.d))=.ok (.list ((ms.map Mv.s).map F)):=by
  intro δ
  rw [JBX (by rw [List.length_map];omega),JBW (g:=fun a=>F a.s) (fun a ha=>?_),List.map_map]
  ·rfl
  ·have e:idxD a.d (.int 0)=.ok (F a.s):=rfl
   rw [JBU]
   generalize a.d=ad at *
   dsimp?! [fn,fg,e,G55]
 have c2:∀δ,JCJ C 0 (.idx (.var 0) (.glo 56)) (.cbl true) δ (.ok (ms.map Mv.d))=.ok (.list ((ms.map Mv.g).map F)):=by
  intro δ
  rw [JBX (by rw [List.length_map];omega),JBW (g:=fun a=>F a.g) (fun a ha=>?_),List.map_map]
  ·rfl
  ·have e:idxD a.d (.int 1)=.ok (F a.g):=rfl
   rw [JBU]
   generalize a.d=ad at *
   dsimp?! [fn,fg,e,G56]
 have a1:binD .Add (.list [F w]) (.list ((ms.map Mv.s).map F))=.ok (.list ([F w]++(ms.map Mv.s).map F)):=by
  simp only [binD];rw [if_pos (by simp only [List.length_cons,List.length_nil,List.length_map];omega)]
 have a2:binD .Add (.list ([F w]++(ms.map Mv.s).map F)) (.list ((ms.map Mv.g).map F))=.ok (.list ((w::(ms.map Mv.s++ms.map Mv.g)).map F)):=by
  simp only [binD];rw [if_pos (by simp only [List.length_cons,List.length_nil,List.length_map,List.length_append];omega)]
  simp
 generalize (w::(ms.map Mv.s++ms.map Mv.g)).map F=al at *
 generalize [F w]++(ms.map Mv.s).map F=al1 at *
 generalize (ms.map Mv.s).map F=ls at *
 generalize (ms.map Mv.g).map F=lg at *
 have nt:JAS (.tuple (ms.map Mv.d))=true:=by
  simp only [JAS]
  clear hok hn hl e0 t0 t1 i1 c1 c2
  induction ms with
  | nil=>rfl
  | cons a r ih=>simp only [List.map_cons,JA0,ih,Bool.and_true];exact JIw
 generalize ms.map Mv.d=ds at *
 generalize tr w ms=TR at *
 dsimp?! [JFz,JHe,fn,fg,e0,t0,t1,i1,c1,c2,a1,a2,l4,m4,G93,G94]
end
end VI.VP
end
section
namespace VI.VP
open PySem Fr
section
variable {x:Bool} {sub:Nat→Nat→Bool} {m n:Nat} {w t:Rat} {ms:List Mv} {ns:List Int}
noncomputable def early:Mv:=⟨0,1, -99,1,some .even,0,0⟩
theorem JHN {a c:Mv} (h:c.b<a.e):∀ms:List Mv,nov (ms++[a,c])=false
 | []=>by simp only [List.nil_append,nov,h,decide_true,Bool.not_true,Bool.false_and]
 | [d]=>by simp only [List.cons_append,List.nil_append,nov,h,decide_true,Bool.not_true,Bool.false_and,Bool.and_false]
 | d::e::r=>by
  have:=JHN h (e::r)
  simp only [List.cons_append] at this ⊢
  simp only [nov,this,Bool.and_false]
theorem JK5 (hm:1≤m):run x tabA gloA sub m 71 [.none]=.ok (.bool false):=by
 obtain ⟨n,rfl⟩:=JAG hm
 have h:isiD sub .none .tuple=.ok (.bool false):=rfl
 rw [JAB (n:=n) (show tabA 71=some d_71 from rfl),JAA rfl]
 dsimp?! [d_71,b_71,h,Bool.not_false]
end
end VI.VP
end
section
namespace VI.VP
open PySem Fr
section
variable {x:Bool} {sub:Nat→Nat→Bool} {m n:Nat} {w h:Rat} {ns:List Int}
noncomputable def gm (h:Rat):Mv:=⟨h,1,0,2,some .even,0,0⟩
theorem z0:Sz 5 (0:Rat):=⟨by decide,by decide⟩
theorem z1:Sz 5 (1:Rat):=⟨by decide,by decide⟩
theorem z2:Sz 5 (2:Rat):=⟨by decide,by decide⟩
theorem JMJ (hs:Sz 5 h):(gm h).Ok:=.of (show (0:Rat)<2 by decide) (fun _=>⟨rfl,rfl⟩) (hs.mono (by omega)) (z1.mono (by omega)) (z0.mono (by omega)) (z2.mono (by omega)) (z0.mono (by omega)) (z0.mono (by omega))
theorem JNd (hs:Sz 5 h):Fit (gm h):=⟨JMJ hs,hs,z1,z0.mono (by omega),z2.mono (by omega),z0.mono (by omega),z0.mono (by omega)⟩
noncomputable def JAz (h:Rat):List D:=[.none,.tuple [],.tuple [F h],.tuple [F h,.list []],.tuple [.tuple [.int 1,.int 0],.tuple []],.tuple [.int 1,.tuple []],.tuple [F h,.tuple [.none]],tr h [gm h,gm h],.str "track",.int 5]
theorem JIq (i:Int) (h0:0≤i) (h1:i<10):∃d∈JAz w,idxD (.list (JAz w)) (.int i)=.ok d:=by
 have hl:i.toNat<(JAz w).length:=by show i.toNat<10;omega
 refine ⟨(JAz w)[i.toNat],List.getElem_mem hl,?_⟩
 simp only [idxD,atI,ixN,if_pos h0]
 rw [if_pos (show i<((JAz w).length:Int) from h1)]
 simp only [Option.bind_some,List.getElem?_eq_getElem hl]
 rfl
theorem JIJ (hs:Sz 5 h) (hm:6≤m):∀d∈JAz h,run x tabA gloA sub m 81 [d]=.ok (.bool false):=by
 obtain ⟨n,rfl⟩:=JAG hm
 have hn:=JJp (x:=x) (sub:=sub) (w:=h) (m:=n+6) (ms:=[gm h,gm h]) (fun a ha=>by
  simp only [List.mem_cons,List.not_mem_nil,or_false,or_self] at ha
  exact ha▸JMJ hs) (by simp) (by omega)
 rw [show nov [gm h,gm h]=false from JHN (a:=gm h) (c:=gm h) (by show (0:Rat)<0+2;decide +kernel) []] at hn
 intro d hd
 simp only [JAz,List.mem_cons,List.not_mem_nil,or_false] at hd
 have tt:∀ds:List D,isiD sub (.tuple ds) .tuple=.ok (.bool true):=fun _=>rfl
 have tl:∀ds:List D,isiD sub (.list ds) .tuple=.ok (.bool false):=fun _=>rfl
 have tn:isiD sub .none .tuple=.ok (.bool false):=rfl
 have ts:∀y:Str,isiD sub (.str y) .tuple=.ok (.bool false):=fun _=>rfl
 have ti:∀y:Int,isiD sub (.int y) .tuple=.ok (.bool false):=fun _=>rfl
 have sf:run x tabA gloA sub (n+5) 24 [F h]=.ok (.bool true):=JGj (by omega)
 have s1:run x tabA gloA sub (n+5) 24 [.int 1]=.ok (.bool false):=JL2 (n:=n+3) tF tI _ rfl
 have s2:run x tabA gloA sub (n+5) 24 [.tuple [.int 1,.int 0]]=.ok (.bool false):=(JE0 (n:=n+3) tF tI 1 0).trans (by simp)
 have mn:run x tabA gloA sub (n+5) 71 [.none]=.ok (.bool false):=JK5 (by omega)
 have e02:((0:Int)=2)=False:=by simp
 have e12:((1:Int)=2)=False:=by simp
 have l0:bltD .len [.tuple []]=.ok (.int 0):=rfl
 have l1:∀a:D,bltD .len [.tuple [a]]=.ok (.int 1):=fun _=>rfl
 have l2:∀a b:D,bltD .len [.tuple [a,b]]=.ok (.int 2):=fun _ _=>rfl
 rcases hd with rfl | rfl | rfl | rfl | rfl | rfl | rfl | rfl | rfl | rfl
 all_goals first | exact hn | rw [JAB (n:=n+5) (show tabA 81=some d_81 from rfl),JAA rfl]
 ·dsimp?! [d_81,b_81,tn,Bool.not_true,Bool.not_false,decide_false]
 ·dsimp?! [d_81,b_81,tt,l0,e02,Bool.not_true,Bool.not_false,decide_false]
 ·dsimp?! [d_81,b_81,tt,l1,e12,Bool.not_true,Bool.not_false,decide_false]
 ·dsimp?! [d_81,b_81,tt,tl,l2,decide_true,Bool.not_true,Bool.not_false,decide_false,G93,G94,tp0,tp1,sf]
 ·dsimp?! [d_81,b_81,tt,l2,decide_true,Bool.not_true,Bool.not_false,decide_false,G93,G94,tp0,tp1,s2]
 ·dsimp?! [d_81,b_81,tt,l2,decide_true,Bool.not_true,Bool.not_false,decide_false,G93,G94,tp0,tp1,s1]
 ·obtain ⟨C,hC⟩:∃C:Cn,C=⟨run x tabA gloA sub (n+5),gloA,sub⟩:=⟨_,rfl⟩
  have fn:C.fn=run x tabA gloA sub (n+5):=by rw [hC]
  have fg:C.glo=gloA:=by rw [hC]
  have fs:C.sub=sub:=by rw [hC]
  rw [←hC]
  have cp:∀δ,JCJ C 0 (.call 71 (.cons (.var 0) .nil)) (.cbl true) δ (.ok [.none])=.ok (.list [.bool false]):=by
   intro δ
   rw [JBX (by decide),JCs (g:=fun _=>.bool false) (fun y hy=>?_)]
   ·rfl
   ·simp only [List.mem_cons,List.not_mem_nil,or_false] at hy
    subst hy
    rw [JBU]
    dsimp?! [fn,mn]
  have it:JAk (.tuple [.none])=.ok [.none]:=rfl
  have al:allD [.bool false]=.ok (.bool false):=rfl
  dsimp?! [d_81,b_81,fn,fg,fs,tt,l2,Bool.not_true,decide_true,G93,G94,tp0,tp1,sf,it,cp,k_all,al]
 ·dsimp?! [d_81,b_81,ts,Bool.not_true,Bool.not_false,decide_false]
 ·dsimp?! [d_81,b_81,ti,Bool.not_true,Bool.not_false,decide_false]
theorem JGR (hs:Sz 5 h) (hm:8≤m) {d:D} (hd:d∈JAz h):run true tabA gloA sub m 193 [d]=.exc 4∧run true tabA gloA sub m 195 [d]=.exc 4∧run true tabA gloA sub m 196 [d]=.exc 4∧run true tabA gloA sub m 197 [d]=.exc 4∧run true tabA gloA sub m 199 [d]=.exc 4:=by
 obtain ⟨n,rfl⟩:=JAG hm
 have e:run true tabA gloA sub (n+7) 85 [d]=.exc 4:=JHl (m:=n+7) (JIJ hs (by omega) d hd) (by omega)
 refine ⟨?_,?_,?_,?_,?_⟩
 ·rw [JAB (n:=n+7) (show tabA 193=some JFb from rfl),JAA rfl]
  dsimp?! [JFb,JGB,e]
 ·rw [JAB (n:=n+7) (show tabA 195=some JEW from rfl),JAA rfl]
  dsimp?! [JEW,JCx,e]
 ·rw [JAB (n:=n+7) (show tabA 196=some JFl from rfl),JAA rfl]
  dsimp?! [JFl,JGW,e]
 ·rw [JAB (n:=n+7) (show tabA 197=some JFq from rfl),JAA rfl]
  dsimp?! [JFq,JGD,e]
 ·rw [JAB (n:=n+7) (show tabA 199=some JFz from rfl),JAA rfl]
  dsimp?! [JFz,JHe,e]
theorem tr34:tr h []=.tuple [F h,.tuple []]:=rfl
theorem JNQ (hm:9≤m):run x tabA gloA sub m 193 [.tuple [F h,.tuple []]]=.ok (F 0):=by
 rw [←tr34,JHk (fun a ha=>by simp at ha) rfl (by simp) hm]
 show R.ok (F (0+0))=_
 rw [show (0:Rat)+0=0 by decide +kernel]
theorem JMQ (hm:8≤m):run x tabA gloA sub m 196 [.tuple [F h,.tuple []]]=.ok (F 0):=by
 rw [←tr34,JKA (fun a ha=>by simp at ha) rfl (by simp) hm]
 rfl
theorem JIT (hm:8≤m):run x tabA gloA sub m 197 [.tuple [F h,.tuple []]]=.ok (F 0):=by
 rw [←tr34,JI3 (fun a ha=>by simp at ha) rfl (by simp) hm]
 rfl
theorem JL9 (hs:Sz 5 h) (hm:8≤m):run x tabA gloA sub m 199 [.tuple [F h,.tuple []]]=.ok (.tuple [F h,F h]):=by
 obtain ⟨lo,hi,a,b,e⟩:=JMF (x:=x) (sub:=sub) (m:=m) (w:=h) (ms:=[]) hs (fun a ha=>by simp at ha) rfl (by simp) hm
 rw [←tr34,e]
 have ha:lo=h:=by simpa [wsOf] using a.mem
 have hb:hi=h:=by simpa [wsOf] using b.mem
 rw [ha,hb]
theorem JLI (hs:Sz 5 h):∀a∈[gm h],Fit a:=fun a ha=>by
 simp only [List.mem_cons,List.not_mem_nil,or_false] at ha
 exact ha▸JNd hs
theorem JPd (hs:Sz 5 h) (hm:9≤m):run x tabA gloA sub m 193 [tr h [gm h]]=.ok (F (h+1)):=by
 rw [JHk (JLI hs) rfl (by simp) hm]
 congr 2
 simp only [tA,rs,List.map_cons,List.map_nil,tt,Mv.ar,gm,ar,sh]
 grind
theorem JOe (hs:Sz 5 h) (hm:8≤m):run x tabA gloA sub m 196 [tr h [gm h]]=.ok (F 2):=by
 rw [JKA (JLI hs) rfl (by simp) hm]
 show R.ok (F (0+2))=_
 rw [show (0:Rat)+2=2 by decide +kernel]
theorem JLb (hs:Sz 5 h) (hm:8≤m):run x tabA gloA sub m 195 [tr h [gm h]]=.ok (.list []):=by
 rw [JF4 (JLI hs) rfl (by simp) hm]
 rfl
end
end VI.VP
end
section
namespace VI.VP
open PySem Fr
noncomputable def JLJ:S:=(.cons (.asg 1 (.lst (.cons (.isi (.var 0) (.own 8)) (.cons (.isi (.var 0) (.own 1)) (.cons (.isi (.var 0) (.own 2)) (.cons (.isi (.var 0) (.own 6)) .nil)))))) (.cons (.asg 1 (.bin .Add (.var 1) (.lst (.cons (.isi (.var 0) (.own 3)) (.cons (.isi (.var 0) (.own 7)) (.cons (.isi (.var 0) (.own 5)) .nil)))))) (.cons (.asg 1 (.bin .Add (.var 1) (.lst (.cons (.isi (.var 0) (.own 4)) .nil)))) (.cons (.ife (.or (.cmp .NotEq (.mcount (.var 1) (.cbl true)) (.cint 1)) (.not (.isi (.var 0) .valueError))) (.cons (.ret (.cstr "wrong")) .nil) .nil) (.cons (.ret (.idx (.lst (.cons (.cstr "no back") (.cons (.cstr "no frac") (.cons (.cstr "no kind") (.cons (.cstr "no name") (.cons (.cstr "no plan") (.cons (.cstr "no text") (.cons (.cstr "no time") (.cons (.cstr "no track") .nil))))))))) (.mindex (.var 1) (.cbl true)))) .nil)))))
noncomputable def d_252:Fd:=⟨1,2,JLJ⟩
noncomputable def JFx:S2:=(.cons (.st (.unp [1,2] (.tup (.cons (.tup (.cons (.tup (.cons (.cint 0) (.cons (.cint 1) .nil))) (.cons (.tup (.cons (.cint 0) (.cons (.cint 1) .nil))) .nil))) (.cons (.call 15 (.cons (.var 0) (.cons (.cint 10) .nil))) .nil))))) (.cons (.st (.asg 3 (.tup (.cons (.var 2) (.cons (.tup (.cons (.tup (.cons (.var 2) (.cons (.tup (.cons (.cint 1) (.cons (.cint 1) .nil))) (.cons (.tup (.cons (.cint 0) (.cons (.cint 1) .nil))) (.cons (.tup (.cons (.cint 2) (.cons (.cint 1) .nil))) (.cons (.cstr "even") (.cons (.var 1) .nil))))))) .nil)) .nil))))) (.cons (.st (.asg 4 (.lst (.cons .cnon (.cons (.tup .nil) (.cons (.tup (.cons (.var 2) .nil)) (.cons (.tup (.cons (.var 2) (.cons (.lst .nil) .nil))) (.cons (.tup (.cons (.tup (.cons (.cint 1) (.cons (.cint 0) .nil))) (.cons (.tup .nil) .nil))) (.cons (.tup (.cons (.cint 1) (.cons (.tup .nil) .nil))) (.cons (.tup (.cons (.var 2) (.cons (.tup (.cons .cnon .nil)) .nil))) (.cons (.tup (.cons (.var 2) (.cons (.bin .Mult (.idx (.var 3) (.cint 1)) (.cint 2)) .nil))) (.cons (.cstr "track") (.cons (.cint 5) .nil))))))))))))) (.cons (.for1 5 (.rng (.cons (.cint 4) .nil)) (.cons (.st (.asg 6 (.idx (.var 4) (.bin .Mod (.bin .Add (.call 12 (.cons (.var 0) (.cons (.cint 0) (.cons (.cint 10) .nil)))) (.bin .Mult (.cint 3) (.var 5))) (.cint 10))))) (.cons (.tll 7 (.call 193 (.cons (.var 6) .nil))) (.cons (.tla 7 (.call 195 (.cons (.var 6) .nil))) (.cons (.tla 7 (.call 196 (.cons (.var 6) .nil))) (.cons (.tla 7 (.call 197 (.cons (.var 6) .nil))) (.cons (.tla 7 (.call 199 (.cons (.var 6) .nil))) (.cons (.st (.ife (.cmp .NotEq (.var 7) (.bin .Mult (.lst (.cons (.cstr "no track") .nil)) (.cint 5))) (.cons (.ret (.cbl false)) .nil) .nil)) .nil)))))))) (.cons (.st (.asg 8 (.tup (.cons (.var 2) (.cons (.tup .nil) .nil))))) (.cons (.st (.ife (.or (.cmp .NotEq (.tup (.cons (.call 193 (.cons (.var 8) .nil)) (.cons (.call 196 (.cons (.var 8) .nil)) (.cons (.call 197 (.cons (.var 8) .nil)) .nil)))) (.bin .Mult (.tup (.cons (.tup (.cons (.cint 0) (.cons (.cint 1) .nil))) .nil)) (.cint 3))) (.cmp .NotEq (.call 199 (.cons (.var 8) .nil)) (.tup (.cons (.var 2) (.cons (.var 2) .nil))))) (.cons (.ret (.cbl false)) .nil) .nil)) (.cons (.st (.ret (.and (.cmp .Eq (.call 193 (.cons (.var 3) .nil)) (.call 17 (.cons (.var 2) (.cons (.tup (.cons (.cint 1) (.cons (.cint 1) .nil))) .nil)))) (.and (.cmp .Eq (.call 196 (.cons (.var 3) .nil)) (.tup (.cons (.cint 2) (.cons (.cint 1) .nil)))) (.cmp .Eq (.call 195 (.cons (.var 3) .nil)) (.lst .nil)))))) .nil)))))))
theorem cnt8:JDG (.list [.bool false,.bool false,.bool false,.bool false,.bool false,.bool false,.bool false,.bool true]) (.bool true)=.ok (.int 1):=by rfl
theorem ix8:JC6 (.list [.bool false,.bool false,.bool false,.bool false,.bool false,.bool false,.bool false,.bool true]) (.bool true)=.ok (.int 7):=by rfl
section
variable {sub:Nat→Nat→Bool} {n:Nat} {C:Cn} {h:Rat} {ns:List Int}
theorem cls4 (hC:C.sub=sub) (s:SubOk sub 4) (s8:sub 4 8=false):exec C d_252.body ([Sl.val (excD 4)]++List.replicate (d_252.slots - 1) Sl.no)=.rt (.str "no track"):=by
 have w:idxD (.list [.str "no back",.str "no frac",.str "no kind",.str "no name",.str "no plan",.str "no text",.str "no time",.str "no track"]) (.int 7)=.ok (.str "no track"):=rfl
 have a1:binD .Add (.list [.bool false,.bool false,.bool false,.bool false]) (.list [.bool false,.bool false,.bool false])=.ok (.list [.bool false,.bool false,.bool false,.bool false,.bool false,.bool false,.bool false]):=by simp only [binD];rw [if_pos (by simp)];rfl
 have a2:binD .Add (.list [.bool false,.bool false,.bool false,.bool false,.bool false,.bool false,.bool false]) (.list [.bool true])=.ok (.list [.bool false,.bool false,.bool false,.bool false,.bool false,.bool false,.bool false,.bool true]):=by simp only [binD];rw [if_pos (by simp)];rfl
 subst hC
 show exec C JLJ [.val (excD 4),.no]=_
 dsimp! [JLJ,a1,a2,JAx,JCi,JAy,Bool.or_true,Bool.true_or,Bool.not_false,Bool.and_self,Bool.true_and,JLN s.me,JL7 s.me,s8,s.h1,s.h2,s.h3,s.h4,s.h5,s.h6,s.h7,Nat.reduceEqDiff,decide_true,decide_false,JBG,JHh,JHV,JEV,JOM,JPX,JMx,JKr,JGk,JM2,JPF,JLP,JGX,us_bl,JOY,List.length_cons,List.length_nil,Nat.reduceAdd,Nat.reduceLeDiff,Nat.reduceBEq,Bool.or_false,Bool.not_true,cnt8,ix8,JAS,JA0,w]
theorem told4 (hC:C.sub=sub) (s:SubOk sub 4) (s8:sub 4 8=false):JBE C 0 d_252 (.exc 4)=.ok (.str "no track"):=by
 unfold JBE
 simp only [hC,s.h0,if_true,cls4 hC s s8]
theorem sq2 {cg:Nat} {fd:Fd} {a r:S2} {δ δ':Env} (h:JAX C cg fd a δ=.nx δ'):JAX C cg fd (.cons a r) δ=JAX C cg fd r δ':=by
 rw [JAX,h]
theorem sqR {cg:Nat} {fd:Fd} {a r:S2} {δ:Env} {d:D} (h:JAX C cg fd a δ=.rt d):JAX C cg fd (.cons a r) δ=.rt d:=by
 rw [JAX,h]
theorem e_st {cg:Nat} {fd:Fd} {s:S} {δ:Env}:JAX C cg fd (.st s) δ=exec C s δ:=by rw [JAX]
theorem ev_c1 {δ:Env} {i f:Nat} {d:D} (hδ:δ[i]? = some (.val d)) (hf:C.fn f [d]=.exc 4):ev C (.call f (.cons (.var i) .nil)) δ=.exc 4:=by
 simp only [ev,evA,look,hδ,Sl.get,R.bind,hf]
theorem aft {e:E} {w:D} {δ:Env} (hn:JAS w=true):after e w δ=δ:=by
 unfold after
 rw [hn]
 simp
theorem x_tll {cg i:Nat} {fd:Fd} {e:E} {δ:Env} {w:D} (T:JBE C cg fd (ev C e δ)=.ok w) (hn:JAS w=true):JAX C cg fd (.tll i e) δ=.nx (δ.set i (.own (.list [w]))):=by
 rw [JAX,T]
 show Fl.nx _=_
 rw [aft hn]
theorem JJA {cg i:Nat} {fd:Fd} {e:E} {δ:Env} {w:D} {ds:List D} (hδ:δ[i]? = some (.own (.list ds))) (T:JBE C cg fd (ev C e δ)=.ok w) (hn:JAS w=true) (hl:ds.length<1000):JAX C cg fd (.tla i e) δ=.nx (δ.set i (.own (.list (ds++[w])))):=by
 rw [JAX,hδ]
 show stepR (JBE C cg fd (ev C e δ)) _=_
 rw [T]
 show JAu i ds e w δ=_
 unfold JAu
 rw [if_pos (by omega),hn]
 simp
noncomputable def JDJ:S2:=match JFx with
 | .cons _ (.cons _ (.cons _ (.cons (.for1 _ _ b) _)))=>b
 | _=>.nil
noncomputable def five:List D:=[.str "no track",.str "no track",.str "no track",.str "no track",.str "no track"]
theorem JI5:binD .Mult (.list [.str "no track"]) (.int 5)=.ok (.list five):=by
 simp only [binD]
 rw [if_pos (by simp)]
 rfl
theorem JJT {d:D} (h:shaped d=true) (e:PyData.eqv d d=true):cmpD .NotEq d d=.ok (.bool false):=by
 simp only [cmpD,h,Bool.and_self,if_true,e];rfl
theorem JKo:cmpD .NotEq (.list five) (.list five)=.ok (.bool false):=by
 unfold five
 exact JJT (by decide +kernel) (by decide +kernel)
noncomputable def e34:E:=.idx (.var 4) (.bin .Mod (.bin .Add (.call 12 (.cons (.var 0) (.cons (.cint 0) (.cons (.cint 10) .nil)))) (.bin .Mult (.cint 3) (.var 5))) (.cint 10))
theorem asg34 {y4 y6 y7:Sl} {st g d:D} {k i j:Int} (hk:0≤k∧k<4) (fn12:C.fn 12 [sc ns,.int 0,.int 10]=.ok (.int i)) (hj:(i+3*k).fmod 10=j) (hd:idxD (.list (JAz h)) (.int j)=.ok d) (h4:y4=.own (.list (JAz h))∨y4=.val (.list (JAz h))) :
  ∃y4',(y4'=.own (.list (JAz h))∨y4'=.val (.list (JAz h)))∧exec C (.asg 6 e34) [.val (sc ns),.val st,.val (F h),.val g,y4,.val (.int k),y6,y7,.no]=.nx [.val (sc ns),.val st,.val (F h),.val g,y4',.val (.int k),.val d,y7,.no]:=by
 have bm:binD .Mult (.int 3) (.int k)=.ok (.int (3*k)):=JBd (L.of (k:=10) (by omega) (by omega)) (L.of (k:=10) (by omega) (by omega))
 have bd:binD .Mod (.int (i+3*k)) (.int 10)=.ok (.int j):=by rw [JEB (by decide),hj]
 have e1:ev C e34 [.val (sc ns),.val st,.val (F h),.val g,y4,.val (.int k),y6,y7,.no]=.ok d:=by
  rcases h4 with rfl | rfl<;>simp only [e34,ev,evA,look,List.getElem?_cons_zero,List.getElem?_cons_succ,Sl.get,R.bind,fn12,bm,bd,hd,JLE]
 have e2:exec C (.asg 6 e34) [.val (sc ns),.val st,.val (F h),.val g,y4,.val (.int k),y6,y7,.no]=.nx ((after e34 d [.val (sc ns),.val st,.val (F h),.val g,y4,.val (.int k),y6,y7,.no]).set 6 (.val d)):=by
  rw [exec,e1]
  rfl
 rw [e2]
 unfold after
 split
 ·refine ⟨.val (.list (JAz h)),.inr rfl,?_⟩
  rcases h4 with rfl | rfl<;>rfl
 ·exact ⟨y4,h4,rfl⟩
theorem JNe {y4 y6 y7:Sl} {st g d:D} {k i j:Int} (T:JBE C 0 d_252 (.exc 4)=.ok (.str "no track")) (fx:C.fn 193 [d]=.exc 4∧C.fn 195 [d]=.exc 4∧C.fn 196 [d]=.exc 4∧C.fn 197 [d]=.exc 4∧C.fn 199 [d]=.exc 4)
  (hk:0≤k∧k<4) (fn12:C.fn 12 [sc ns,.int 0,.int 10]=.ok (.int i)) (hj:(i+3*k).fmod 10=j) (hd:idxD (.list (JAz h)) (.int j)=.ok d) (h4:y4=.own (.list (JAz h))∨y4=.val (.list (JAz h))) :
  ∃y4',(y4'=.own (.list (JAz h))∨y4'=.val (.list (JAz h)))∧JAX C 0 d_252 JDJ [.val (sc ns),.val st,.val (F h),.val g,y4,.val (.int k),y6,y7,.no]=.nx [.val (sc ns),.val st,.val (F h),.val g,y4',.val (.int k),.val d,.own (.list five),.no]:=by
 obtain ⟨y4',h4',e1⟩:=asg34 (C:=C) (y6:=y6) (y7:=y7) (st:=st) (g:=g) hk fn12 hj hd h4
 refine ⟨y4',h4',?_⟩
 have ld:∀y7:Sl,([.val (sc ns),.val st,.val (F h),.val g,y4',.val (.int k),.val d,y7,.no]:Env)[6]? = some (.val d):=fun _=>rfl
 have nl:JAS (PyData.str "no track":D)=true:=rfl
 have tl:∀ {f:Nat} {y7:Sl},C.fn f [d]=.exc 4→JBE C 0 d_252 (ev C (.call f (.cons (.var 6) .nil)) [.val (sc ns),.val st,.val (F h),.val g,y4',.val (.int k),.val d,y7,.no])=.ok (.str "no track"):=fun {f y7} hf=>by rw [ev_c1 (ld y7) hf,T]
 unfold JDJ JFx
 refine (sq2 (by rw [e_st];exact e1)).trans ?_
 refine (sq2 (x_tll (tl fx.1) nl)).trans ?_
 refine (sq2 (JJA rfl (tl fx.2.1) nl (by simp))).trans ?_
 refine (sq2 (JJA rfl (tl fx.2.2.1) nl (by simp))).trans ?_
 refine (sq2 (JJA rfl (tl fx.2.2.2.1) nl (by simp))).trans ?_
 refine (sq2 (JJA rfl (tl fx.2.2.2.2) nl (by simp))).trans ?_
 refine (sq2 (δ':=[.val (sc ns),.val st,.val (F h),.val g,y4',.val (.int k),.val d,.own (.list five),.no]) ?_).trans (by rw [JAX])
 rw [e_st]
 show exec C _ [.val (sc ns),.val st,.val (F h),.val g,y4',.val (.int k),.val d,.own (.list five),.no]=_
 have c1:evT C (.cmp .NotEq (.var 7) (.bin .Mult (.lst (.cons (.cstr "no track") .nil)) (.cint 5))) [.val (sc ns),.val st,.val (F h),.val g,y4',.val (.int k),.val d,.own (.list five),.no]=.ok false:=by
  simp only [evT,ev,evA,look,List.getElem?_cons_zero,List.getElem?_cons_succ,Sl.get,R.bind,JI5,JKo,truth]
 rw [exec,c1]
 show exec C .nil _=_
 rw [exec]
noncomputable def JCz:D:=.tuple [.tuple [.int 0,.int 1],.tuple [.int 0,.int 1]]
theorem JKb {st g:D} {i:Int} (T:JBE C 0 d_252 (.exc 4)=.ok (.str "no track")) (fx:∀d∈JAz h,C.fn 193 [d]=.exc 4∧C.fn 195 [d]=.exc 4∧C.fn 196 [d]=.exc 4∧C.fn 197 [d]=.exc 4∧C.fn 199 [d]=.exc 4)
  (fn12:C.fn 12 [sc ns,.int 0,.int 10]=.ok (.int i)):∀ks:List Int,(∀k∈ks,0≤k∧k<4)→∀y4 y5 y6 y7:Sl,(y4=.own (.list (JAz h))∨y4=.val (.list (JAz h))) →
  ∃y4' y5' y6' y7',forL (put1 5) (JAX C 0 d_252 JDJ) (ks.map PyData.int) [.val (sc ns),.val st,.val (F h),.val g,y4,y5,y6,y7,.no]=.nx [.val (sc ns),.val st,.val (F h),.val g,y4',y5',y6',y7',.no]
 | [],_,y4,y5,y6,y7,_=>⟨y4,y5,y6,y7,rfl⟩
 | k::ks,hk,y4,y5,y6,y7,h4=>by
  have b:=hk k (by simp)
  have j0:0≤(i+3*k).fmod 10:=Int.fmod_nonneg_of_pos _ (by decide)
  have j1:(i+3*k).fmod 10<10:=Int.fmod_lt_of_pos _ (by decide)
  obtain ⟨d,hd,ed⟩:=JIq (w:=h) _ j0 j1
  obtain ⟨y4',h4',e⟩:=JNe (C:=C) (ns:=ns) (y6:=y6) (y7:=y7) (st:=st) (g:=g) T (fx d hd) b fn12 rfl ed h4
  obtain ⟨z4,z5,z6,z7,f⟩:=JKb T fx fn12 ks (fun q hq=>hk q (by simp [hq])) y4' (.val (.int k)) (.val d) (.own (.list five)) h4'
  refine ⟨z4,z5,z6,z7,?_⟩
  rw [List.map_cons,forL]
  show (match JAX C 0 d_252 JDJ [.val (sc ns),.val st,.val (F h),.val g,y4,.val (.int k),y6,y7,.no] with
    | .nx δ'=>forL (put1 5) (JAX C 0 d_252 JDJ) (ks.map PyData.int) δ'
    | .ct δ'=>forL (put1 5) (JAX C 0 d_252 JDJ) (ks.map PyData.int) δ'
    | .bk δ'=>.nx δ'
    | r=>r)=_
  rw [e]
  exact f
theorem JIM (s:SubOk sub 4) (s8:sub 4 8=false) (ns:List Int):JAX ⟨run true tabA gloA sub (n+10),gloA,sub⟩ 0 d_252 JFx ([Sl.val (.list (ns.map fun i=>PyData.int i))]++List.replicate 8 Sl.no)=.rt (.bool true):=by
 obtain ⟨h,sm,eh⟩:=JPC (x:=true) (sub:=sub) (m:=n+10) ns 10 (by omega) (by omega) (by omega)
 obtain ⟨i,i0,i1,ei⟩:=JOC (x:=true) (sub:=sub) (m:=n+10) ns 0 10 (by omega) (by omega) (by omega) (by omega)
 have hs:Sz 5 h:=sm.sz
 obtain ⟨C,hC⟩:∃C:Cn,C=⟨run true tabA gloA sub (n+10),gloA,sub⟩:=⟨_,rfl⟩
 have fn:C.fn=run true tabA gloA sub (n+10):=by rw [hC]
 have fs:C.sub=sub:=by rw [hC]
 rw [←hC]
 have T:=told4 (C:=C) fs s s8
 have fx:∀d∈JAz h,C.fn 193 [d]=.exc 4∧C.fn 195 [d]=.exc 4∧C.fn 196 [d]=.exc 4∧C.fn 197 [d]=.exc 4∧C.fn 199 [d]=.exc 4:=fun d hd=>by rw [fn];exact JGR hs (by omega) hd
 have f12:C.fn 12 [sc ns,.int 0,.int 10]=.ok (.int i):=by rw [fn];exact ei
 have f15:C.fn 15 [sc ns,.int 10]=.ok (F h):=by rw [fn];exact eh
 have zh:Z 5 h:=⟨hs⟩
 have a1:C.fn 193 [.tuple [F h,.tuple []]]=.ok (F 0):=by rw [fn];exact JNQ (by omega)
 have a2:C.fn 196 [.tuple [F h,.tuple []]]=.ok (F 0):=by rw [fn];exact JMQ (by omega)
 have a3:C.fn 197 [.tuple [F h,.tuple []]]=.ok (F 0):=by rw [fn];exact JIT (by omega)
 have a4:C.fn 199 [.tuple [F h,.tuple []]]=.ok (.tuple [F h,F h]):=by rw [fn];exact JL9 hs (by omega)
 have b1:C.fn 193 [tr h [gm h]]=.ok (F (h+1)):=by rw [fn];exact JPd hs (by omega)
 have b2:C.fn 196 [tr h [gm h]]=.ok (F 2):=by rw [fn];exact JOe hs (by omega)
 have b3:C.fn 195 [tr h [gm h]]=.ok (.list []):=by rw [fn];exact JLb hs (by omega)
 have b4:C.fn 17 [F h,F 1]=.ok (F (h+1)):=by rw [fn];exact JKI (by omega) (by omega) (by omega)
 show JAX C 0 d_252 JFx [.val (sc ns),.no,.no,.no,.no,.no,.no,.no,.no]=_
 obtain ⟨y4,y5,y6,y7,lp⟩:=JKb (C:=C) (h:=h) (ns:=ns) (st:=JCz) (g:=tr h [gm h]) T fx f12 [0,1,2,3] (by decide) (.own (.list (JAz h))) .no .no .no (.inl rfl)
 have gd:tr h [gm h]=.tuple [F h,.tuple [.tuple [F h,.tuple [.int 1,.int 1],.tuple [.int 0,.int 1],.tuple [.int 2,.int 1],.str "even",JCz]]]:=rfl
 have od:PyData.list (JAz h)=.list [.none,.tuple [],.tuple [F h],.tuple [F h,.list []],.tuple [.tuple [.int 1,.int 0],.tuple []],.tuple [.int 1,.tuple []],.tuple [F h,.tuple [.none]],.tuple [F h,.tuple [(gm h).d,(gm h).d]],.str "track",.int 5]:=rfl
 have mu:binD .Mult (.tuple [(gm h).d]) (.int 2)=.ok (.tuple [(gm h).d,(gm h).d]):=by simp only [binD];rw [if_pos (by simp)];rfl
 have gx:idxD (tr h [gm h]) (.int 1)=.ok (.tuple [(gm h).d]):=rfl
 unfold JFx
 refine (sq2 (δ':=[.val (sc ns),.val JCz,.val (F h),.no,.no,.no,.no,.no,.no]) ?_).trans ?_
 ·rw [e_st,exec]
  simp only [ev,evA,look,List.getElem?_cons_zero,List.getElem?_cons_succ,Sl.get,R.bind,f15]
  rfl
 refine (sq2 (δ':=[.val (sc ns),.val JCz,.val (F h),.val (tr h [gm h]),.no,.no,.no,.no,.no]) ?_).trans ?_
 ·rw [e_st,exec]
  simp only [ev,evA,look,List.getElem?_cons_zero,List.getElem?_cons_succ,Sl.get,R.bind]
  rfl
 refine (sq2 (δ':=[.val (sc ns),.val JCz,.val (F h),.val (tr h [gm h]),.own (.list (JAz h)),.no,.no,.no,.no]) ?_).trans ?_
 ·rw [e_st,exec]
  simp only [ev,evA,look,List.getElem?_cons_zero,List.getElem?_cons_succ,Sl.get,R.bind,gx,mu]
  rfl
 refine (sq2 (δ':=[.val (sc ns),.val JCz,.val (F h),.val (tr h [gm h]),y4,y5,y6,y7,.no]) ?_).trans ?_
 ·rw [JAX]
  have rg:evI C (.rng (.cons (.cint 4) .nil)) [.val (sc ns),.val JCz,.val (F h),.val (tr h [gm h]),.own (.list (JAz h)),.no,.no,.no,.no]=.ok ([0,1,2,3].map PyData.int):=rfl
  rw [rg]
  exact lp
 refine (sq2 (δ':=[.val (sc ns),.val JCz,.val (F h),.val (tr h [gm h]),y4,y5,y6,y7,.val (.tuple [F h,.tuple []])]) ?_).trans ?_
 ·rw [e_st,exec]
  simp only [ev,evA,look,List.getElem?_cons_zero,List.getElem?_cons_succ,Sl.get,R.bind]
  rfl
 refine (sq2 (δ':=[.val (sc ns),.val JCz,.val (F h),.val (tr h [gm h]),y4,y5,y6,y7,.val (.tuple [F h,.tuple []])]) ?_).trans ?_
 ·have m3:binD .Mult (.tuple [.tuple [.int 0,.int 1]]) (.int 3)=.ok (.tuple [F 0,F 0,F 0]):=by simp only [binD];rw [if_pos (by simp)];rfl
  have n3:cmpD .NotEq (.tuple [F 0,F 0,F 0]) (.tuple [F 0,F 0,F 0])=.ok (.bool false):=JJT (by decide +kernel) (by decide +kernel)
  have n2:cmpD .NotEq (.tuple [F h,F h]) (.tuple [F h,F h])=.ok (.bool false):=by rw [JNu];simp
  have c1:evT C (.or (.cmp .NotEq (.tup (.cons (.call 193 (.cons (.var 8) .nil)) (.cons (.call 196 (.cons (.var 8) .nil)) (.cons (.call 197 (.cons (.var 8) .nil)) .nil)))) (.bin .Mult (.tup (.cons (.tup (.cons (.cint 0) (.cons (.cint 1) .nil))) .nil)) (.cint 3))) (.cmp .NotEq (.call 199 (.cons (.var 8) .nil)) (.tup (.cons (.var 2) (.cons (.var 2) .nil))))) [.val (sc ns),.val JCz,.val (F h),.val (tr h [gm h]),y4,y5,y6,y7,.val (.tuple [F h,.tuple []])]=.ok false:=by
   simp only [evT,ev,evA,look,List.getElem?_cons_zero,List.getElem?_cons_succ,Sl.get,R.bind,a1,a2,a3,a4,m3,n3,n2,truth]
   try rfl
  rw [e_st,exec,c1]
  show exec C .nil _=_
  rw [exec]
 refine sqR ?_
 have p1:cmpD .Eq (F (h+1)) (F (h+1))=.ok (.bool true):=by rw [F_eq];simp
 have p2:cmpD .Eq (F 2) (.tuple [.int 2,.int 1])=.ok (.bool true):=by rw [W2,F_eq];simp
 have p3:cmpD .Eq (.list []) (.list [])=.ok (.bool true):=rfl
 have b4':C.fn 17 [F h,.tuple [.int 1,.int 1]]=.ok (F (h+1)):=b4
 rw [e_st,exec]
 simp only [ev,evT,evA,look,List.getElem?_cons_zero,List.getElem?_cons_succ,Sl.get,R.bind,b1,b2,b3,b4',p1,p2,p3,truth]
 try rfl
end
end VI.VP
end
section
namespace VH
open PySem PySem.W
noncomputable def rP:Pos:=⟨0,0,0,0⟩
noncomputable def dName:Stmt→Str
 | .FunctionDef n _ _ _ _ _ _ _ _ _=>n
 | _=>"?"
noncomputable def dArgs:Stmt→Arguments
 | .FunctionDef _ a _ _ _ _ _ _ _ _=>a
 | _=>⟨[],[],none,[],[],none,[]⟩
noncomputable def JPg:Stmt→List Stmt
 | .FunctionDef _ _ b _ _ _ _ _ _ _=>b
 | _=>[]
noncomputable def JJw:Stmt→Scope
 | .FunctionDef _ _ _ _ _ _ s _ _ _=>s
 | _=>default
noncomputable def tO (xs:List Value):Obj:=⟨.type "tuple",none,.seq xs.toArray 0,#[]⟩
noncomputable def fO (xs:List Value):Obj:=⟨.none,none,.fields xs.toArray,#[]⟩
noncomputable def sqs:Nat→List Str→List Value
 | _,[]=>[]
 | t,x::r=>.str x t::sqs (t+1) r
noncomputable def f1 (st:Stmt):Obj:=⟨.none,none,.func { name:=dName st,qualname:=dName st,params:=dArgs st,body:=.stmts (JPg st),scope:=JJw st,globals:=0,closure:=[],defaults:=.none,kwdefaults:=.none },#[]⟩
noncomputable def f2 (st:Stmt) (pm:Value) (cd:Addr):Obj:=⟨.type "function",none,.func { name:=dName st,qualname:=dName st,params:=dArgs st,body:=.stmts (JPg st),scope:=JJw st,globals:=mainNs,closure:=[],defaults:=.none,kwdefaults:=.none,pyModule:=pm,code:=.ref cd },#[]⟩
noncomputable def cO (x:Str) (t l k loc a:Nat) (b:Bool) (u t2:Nat):Obj :=
 ⟨.type "code",none,.fields #[.str x t,.str x (t+1),.str "/claim/cut.py" (t+2),.int l 0,.int k 0,.int 0 0,.int 0 0,.int loc 0,.ref a,.bool b,.int 181 0,.ref (a+1),.none,.ref (a+2),.ref (a+3),.ref (a+4),.int t2 0,.int u 0,.str "/claim/cut.py" (t2+1)],#[]⟩
noncomputable def ent (P:Params) (x:Str) (t:Nat) (v:Value):DictEntry:=⟨PyData.keyHash P x,.str x t,v⟩
noncomputable def dO (es:List DictEntry) (n:Nat):Obj:=⟨.type "dict",none,.dict es.toArray n,#[]⟩
def alt:Bool→List Obj→List Obj
 | _,[]=>[]
 | true,o::r=>o::alt false r
 | false,_::r=>alt true r
def bt:Nat→List Obj→BT
 | 0,_=>.nil
 | _,[]=>.nil
 | n+1,o::r=>.node o (bt n (alt true r)) (bt n (alt false r))
def put:Nat→Obj→List Obj→List Obj
 | _,_,[]=>[]
 | 0,o,_::r=>o::r
 | n+1,o,x::r=>x::put n o r
noncomputable def sT (l:List Obj) (n k:Nat) (os:OsState):SharedT:=⟨bt 12 l,n,{},#[],{},k,os⟩
noncomputable def sH (l:List Obj) (k:Nat) (os:OsState):Shared:=⟨⟨l.toArray,{}⟩,#[],{},k,os⟩
noncomputable def envOf (p:Program):PySem.Env:={ scope:=p.main.scope,locals:=mainNs,globals:=mainNs,cells:=[],code:=.ref 13,frame:=some 14 }
noncomputable def cdOf (p:Program):Code:=.body (behindTheImports p) (envOf p)
end VH
end
section
set_option Elab.async false
set_option maxHeartbeats 0
namespace V34
open PySem PySem.W VH L2 VI VI.VP
noncomputable abbrev prog:Program:=PySem.Challenge.pw_glideways_k34_areas_refused
noncomputable def top (i:Nat):Stmt:=prog.main.body.getD i (.Pass ⟨0,0,0,0⟩)
noncomputable def mainE (P:Params):List DictEntry:=[ent P "__name__" 165 (.str "law_glideways_k34_areas_refused" 740),ent P "__doc__" 166 (.none),ent P "__package__" 167 (.none),ent P "__loader__" 168 (.builtin "__main__.__loader__#opaque"),ent P "__spec__" 169 (.none),ent P "__annotations__" 170 (.ref 6),ent P "__builtins__" 171 (.ref 4),ent P "__file__" 173 (.str "/claim/cut.py" 172),ent P "__cached__" 174 (.none),ent P "GlideError" 206 (.ref 24),ent P "NoFrac" 222 (.ref 37),ent P "NoKind" 238 (.ref 49),ent P "NoPlan" 254 (.ref 61),ent P "NoTrack" 270 (.ref 73),ent P "NoTime" 286 (.ref 85),ent P "NoName" 302 (.ref 97),ent P "NoText" 318 (.ref 109),ent P "NoBack" 334 (.ref 121),ent P "ZERO" 339 (.ref 124),ent P "ONE" 342 (.ref 125),ent P "is_whole" 349 (.ref 132),ent P "common_divisor" 360 (.ref 139),ent P "is_frac" 369 (.ref 146),ent P "is_size" 376 (.ref 153),ent P "frac" 385 (.ref 160),ent P "whole" 392 (.ref 167),ent P "plus" 400 (.ref 174),ent P "minus" 408 (.ref 181),ent P "times" 416 (.ref 188),ent P "over" 424 (.ref 195),ent P "all_plus" 433 (.ref 202),ent P "is_less" 441 (.ref 209),ent P "least_frac" 450 (.ref 216),ent P "most_frac" 459 (.ref 223),ent P "between" 468 (.ref 230),ent P "KINDS" 477 (.ref 231),ent P "is_kind" 484 (.ref 238),ent P "need_kind" 491 (.ref 245),ent P "kept_within" 498 (.ref 252),ent P "eased" 507 (.ref 259),ent P "START" 511 (.int 0 510),ent P "GOAL" 513 (.int 1 512),ent P "BEGIN" 515 (.int 2 514),ent P "LONG" 517 (.int 3 516),ent P "KIND" 519 (.int 4 518),ent P "SPEEDS" 521 (.int 5 520),ent P "KEPT" 523 (.str "kept" 522),ent P "NO_SPEEDS" 528 (.ref 262),ent P "are_speeds" 535 (.ref 269),ent P "go_together" 543 (.ref 276),ent P "is_motion" 550 (.ref 283),ent P "end_of" 557 (.ref 290),ent P "part_at" 565 (.ref 297),ent P "ends_between" 573 (.ref 304),ent P "worth_at" 582 (.ref 311),ent P "kept_worth" 595 (.ref 318),ent P "FIRST" 599 (.int 0 598),ent P "MOTIONS" 601 (.int 1 600),ent P "is_track" 607 (.ref 323),ent P "none_overlap" 615 (.ref 330),ent P "begun_by" 621 (.ref 335),ent P "worth_of" 630 (.ref 342),ent P "need_track" 637 (.ref 349),ent P "SHARES" 668 (.ref 350),ent P "area" 678 (.ref 364),ent P "speeds_area" 687 (.ref 371),ent P "track_area" 693 (.ref 376),ent P "rest_area" 701 (.ref 383),ent P "rests" 713 (.ref 390),ent P "busy" 719 (.ref 395),ent P "travel" 725 (.ref 400),ent P "way_of" 733 (.ref 407),ent P "reach" 739 (.ref 412),ent P "_law_cell" 749 (.ref 419),ent P "_law_pick" 759 (.ref 426),ent P "_law_divisor" 767 (.ref 433),ent P "_law_made" 776 (.ref 440),ent P "_law_frac" 785 (.ref 447),ent P "_law_size" 794 (.ref 454),ent P "_law_plus" 802 (.ref 461),ent P "_law_minus" 810 (.ref 468),ent P "_law_times" 818 (.ref 475),ent P "_law_over" 826 (.ref 482),ent P "_law_less" 834 (.ref 489),ent P "_law_class" 842 (.ref 496),ent P "_law_told" 850 (.ref 503),ent P "law" 865 (.ref 510)]
noncomputable def mainN:Value:=.str "law_glideways_k34_areas_refused" 740
noncomputable def JBg (P:Params) (m k:Nat) (v:Value):Obj:=dO (ent P "__name__" 165 v::((mainE P).take m).drop 1) k
noncomputable def twelve:List Value:=[.int 2 0,.int 0 0,.ref 20,.int 4 0,.int 0 0,.ref 33,.int 6 0,.int 0 0,.ref 45,.int 8 0,.int 0 0,.ref 57,.int 10 0,.int 0 0,.ref 69,.int 12 0,.int 0 0,.ref 81,.int 14 0,.int 0 0,.ref 93,.int 16 0,.int 0 0,.ref 105,.int 18 0,.int 0 0,.ref 117,.int 23 0,.int 0 0,.ref 131,.int 25 0,.int 0 0,.ref 138,.int 33 0,.int 0 0,.ref 145,.int 41 0,.int 0 0,.ref 152,.int 43 0,.int 0 0,.ref 159,.int 50 0,.int 0 0,.ref 166,.int 52 0,.int 0 0,.ref 173,.int 54 0,.int 0 0,.ref 180,.int 56 0,.int 0 0,.ref 187,.int 58 0,.int 0 0,.ref 194,.int 60 0,.int 0 0,.ref 201,.int 65 0,.int 0 0,.ref 208,.int 67 0,.int 0 0,.ref 215,.int 73 0,.int 0 0,.ref 222,.int 79 0,.int 0 0,.ref 229,.int 83 0,.int 0 0,.ref 237,.int 85 0,.int 0 0,.ref 244,.int 88 0,.int 0 0,.ref 251,.int 90 0,.int 0 0,.ref 258,.int 113 0,.int 0 0,.ref 268,.int 115 0,.int 0 0,.ref 275,.int 117 0,.int 0 0,.ref 282,.int 123 0,.int 0 0,.ref 289,.int 125 0,.int 0 0,.ref 296,.int 127 0,.int 0 0,.ref 303,.int 130 0,.int 0 0,.ref 310,.int 135 0,.int 0 0,.ref 317,.int 145 0,.int 0 0,.ref 322,.int 151 0,.int 0 0,.ref 329,.int 156 0,.int 0 0,.ref 334,.int 158 0,.int 0 0,.ref 341,.int 163 0,.int 0 0,.ref 348,.int 168 0,.int 0 0,.ref 363,.int 173 0,.int 0 0,.ref 370,.int 177 0,.int 0 0,.ref 375,.int 182 0,.int 0 0,.ref 382,.int 184 0,.int 0 0,.ref 389,.int 194 0,.int 0 0,.ref 394,.int 197 0,.int 0 0,.ref 399,.int 200 0,.int 0 0,.ref 406,.int 203 0,.int 0 0,.ref 411,.int 209 0,.int 0 0,.ref 418,.int 215 0,.int 0 0,.ref 425,.int 218 0,.int 0 0,.ref 432,.int 222 0,.int 0 0,.ref 439,.int 225 0,.int 0 0,.ref 446,.int 228 0,.int 0 0,.ref 453,.int 231 0,.int 0 0,.ref 460,.int 233 0,.int 0 0,.ref 467,.int 235 0,.int 0 0,.ref 474,.int 237 0,.int 0 0,.ref 481,.int 239 0,.int 0 0,.ref 488,.int 241 0,.int 0 0,.ref 495,.int 248 0,.int 0 0,.ref 502,.int 253 0,.int 0 0,.ref 509]
noncomputable def ob (P:Params):List Obj:=[
 boot_o_0 P,
 boot_o_1 P,
 boot_o_2 P,
 JBg P 87 87 mainN,
 boot_o_4 P,
 boot_o_5 P,
 boot_o_6 P,
 boot_o_7 P,
 boot_o_8 P,
 boot_o_9 P,
 boot_o_10 P,
 tO [],
 fO twelve,
 ⟨.type "code",none,.fields #[.str "<module>" 182,.str "<module>" 183,.str "/claim/cut.py" 184,.int 1 0,.int 0 0,.int 0 0,.int 0 0,.int 0 0,.ref 11,.bool false,.int 181 0,.ref 12,.none,.none,.none,.none,.int 185 0,.int 1 0,.str "/claim/cut.py" 186],#[]⟩,
 ⟨.type "frame",none,.plain,#[some (.ref 13),some (.ref 3),some (.ref 3),none,some (.str "__main__" 164),none,some (.ref 0)]⟩,
 tO [.type "ValueError"],
 ⟨.type "builtin_function_or_method",none,.fields #[.builtin "type.__prepare__",.type "type"],#[]⟩,
 dO [ent P "__module__" 196 (.str "glideways.errors" 187),ent P "__qualname__" 198 (.str "GlideError" 197),ent P "__firstlineno__" 200 (.int 2 199),ent P "__static_attributes__" 201 (.ref 22)] 4,
 tO [],
 fO [],
 ⟨.type "code",none,.fields #[.str "GlideError" 191,.str "GlideError" 192,.str "/claim/cut.py" 193,.int 2 0,.int 0 0,.int 0 0,.int 0 0,.int 0 0,.ref 18,.bool false,.int 181 0,.ref 19,.none,.none,.none,.none,.int 194 0,.int 2 0,.str "/claim/cut.py" 195],#[]⟩,
 ⟨.type "frame",none,.plain,#[some (.ref 20),some (.ref 3),some (.ref 17),none,some (.str "glideways.errors" 187),none,some (.ref 0)]⟩,
 tO [],
 dO [ent P "__module__" 196 (.str "glideways.errors" 187),ent P "__firstlineno__" 200 (.int 2 199),ent P "__static_attributes__" 201 (.ref 22),ent P "__weakref__" 203 (.ref 25),ent P "__doc__" 204 (.none)] 3,
 ⟨.type "type",none,.cls { name:="GlideError",bases:=[.type "ValueError"],mro:=[.ref 24,.type "ValueError",.type "Exception",.type "BaseException",.type "object"],ns:=23,qualname:="GlideError",hasDict:=true,slotNames:=[],subclasses:=[.ref 37,.ref 49,.ref 61,.ref 73,.ref 85,.ref 97,.ref 109,.ref 121],abstract:=false,hasDel:=false },#[some (.ref 15),none,some (.str "GlideError" 189),some (.str "GlideError" 197),some (.builtin "ValueError.__new__"),some (.bool true)]⟩,
 ⟨.type "getset_descriptor",none,.fields #[.str "__weakref__" 202,.ref 24,.builtin "ExceptionGroup.__weakref__",.none],#[]⟩,
 ⟨.type "super",none,.fields #[.ref 24,.ref 24,.ref 24],#[]⟩,
 ⟨.type "builtin_function_or_method",none,.fields #[.builtin "object.__init_subclass__",.ref 24],#[]⟩,
 tO [.ref 24],
 ⟨.type "builtin_function_or_method",none,.fields #[.builtin "type.__prepare__",.type "type"],#[]⟩,
 dO [ent P "__module__" 214 (.str "glideways.errors" 187),ent P "__qualname__" 216 (.str "NoFrac" 215),ent P "__firstlineno__" 218 (.int 4 217),ent P "__static_attributes__" 219 (.ref 35)] 4,
 tO [],
 fO [],
 ⟨.type "code",none,.fields #[.str "NoFrac" 209,.str "NoFrac" 210,.str "/claim/cut.py" 211,.int 4 0,.int 0 0,.int 0 0,.int 0 0,.int 0 0,.ref 31,.bool false,.int 181 0,.ref 32,.none,.none,.none,.none,.int 212 0,.int 4 0,.str "/claim/cut.py" 213],#[]⟩,
 ⟨.type "frame",none,.plain,#[some (.ref 33),some (.ref 3),some (.ref 30),none,some (.str "glideways.errors" 187),none,some (.ref 0)]⟩,
 tO [],
 dO [ent P "__module__" 214 (.str "glideways.errors" 187),ent P "__firstlineno__" 218 (.int 4 217),ent P "__static_attributes__" 219 (.ref 35),ent P "__doc__" 220 (.none)] 2,
 ⟨.type "type",none,.cls { name:="NoFrac",bases:=[.ref 24],mro:=[.ref 37,.ref 24,.type "ValueError",.type "Exception",.type "BaseException",.type "object"],ns:=36,qualname:="NoFrac",hasDict:=true,slotNames:=[],subclasses:=[],abstract:=false,hasDel:=false },#[some (.ref 28),none,some (.str "NoFrac" 207),some (.str "NoFrac" 215),some (.builtin "ValueError.__new__"),some (.bool true)]⟩,
 ⟨.type "super",none,.fields #[.ref 37,.ref 37,.ref 37],#[]⟩,
 ⟨.type "builtin_function_or_method",none,.fields #[.builtin "object.__init_subclass__",.ref 37],#[]⟩,
 tO [.ref 24],
 ⟨.type "builtin_function_or_method",none,.fields #[.builtin "type.__prepare__",.type "type"],#[]⟩,
 dO [ent P "__module__" 230 (.str "glideways.errors" 187),ent P "__qualname__" 232 (.str "NoKind" 231),ent P "__firstlineno__" 234 (.int 6 233),ent P "__static_attributes__" 235 (.ref 47)] 4,
 tO [],
 fO [],
 ⟨.type "code",none,.fields #[.str "NoKind" 225,.str "NoKind" 226,.str "/claim/cut.py" 227,.int 6 0,.int 0 0,.int 0 0,.int 0 0,.int 0 0,.ref 43,.bool false,.int 181 0,.ref 44,.none,.none,.none,.none,.int 228 0,.int 6 0,.str "/claim/cut.py" 229],#[]⟩,
 ⟨.type "frame",none,.plain,#[some (.ref 45),some (.ref 3),some (.ref 42),none,some (.str "glideways.errors" 187),none,some (.ref 0)]⟩,
 tO [],
 dO [ent P "__module__" 230 (.str "glideways.errors" 187),ent P "__firstlineno__" 234 (.int 6 233),ent P "__static_attributes__" 235 (.ref 47),ent P "__doc__" 236 (.none)] 2,
 ⟨.type "type",none,.cls { name:="NoKind",bases:=[.ref 24],mro:=[.ref 49,.ref 24,.type "ValueError",.type "Exception",.type "BaseException",.type "object"],ns:=48,qualname:="NoKind",hasDict:=true,slotNames:=[],subclasses:=[],abstract:=false,hasDel:=false },#[some (.ref 40),none,some (.str "NoKind" 223),some (.str "NoKind" 231),some (.builtin "ValueError.__new__"),some (.bool true)]⟩,
 ⟨.type "super",none,.fields #[.ref 49,.ref 49,.ref 49],#[]⟩,
 ⟨.type "builtin_function_or_method",none,.fields #[.builtin "object.__init_subclass__",.ref 49],#[]⟩,
 tO [.ref 24],
 ⟨.type "builtin_function_or_method",none,.fields #[.builtin "type.__prepare__",.type "type"],#[]⟩,
 dO [ent P "__module__" 246 (.str "glideways.errors" 187),ent P "__qualname__" 248 (.str "NoPlan" 247),ent P "__firstlineno__" 250 (.int 8 249),ent P "__static_attributes__" 251 (.ref 59)] 4,
 tO [],
 fO [],
 ⟨.type "code",none,.fields #[.str "NoPlan" 241,.str "NoPlan" 242,.str "/claim/cut.py" 243,.int 8 0,.int 0 0,.int 0 0,.int 0 0,.int 0 0,.ref 55,.bool false,.int 181 0,.ref 56,.none,.none,.none,.none,.int 244 0,.int 8 0,.str "/claim/cut.py" 245],#[]⟩,
 ⟨.type "frame",none,.plain,#[some (.ref 57),some (.ref 3),some (.ref 54),none,some (.str "glideways.errors" 187),none,some (.ref 0)]⟩,
 tO [],
 dO [ent P "__module__" 246 (.str "glideways.errors" 187),ent P "__firstlineno__" 250 (.int 8 249),ent P "__static_attributes__" 251 (.ref 59),ent P "__doc__" 252 (.none)] 2,
 ⟨.type "type",none,.cls { name:="NoPlan",bases:=[.ref 24],mro:=[.ref 61,.ref 24,.type "ValueError",.type "Exception",.type "BaseException",.type "object"],ns:=60,qualname:="NoPlan",hasDict:=true,slotNames:=[],subclasses:=[],abstract:=false,hasDel:=false },#[some (.ref 52),none,some (.str "NoPlan" 239),some (.str "NoPlan" 247),some (.builtin "ValueError.__new__"),some (.bool true)]⟩,
 ⟨.type "super",none,.fields #[.ref 61,.ref 61,.ref 61],#[]⟩,
 ⟨.type "builtin_function_or_method",none,.fields #[.builtin "object.__init_subclass__",.ref 61],#[]⟩,
 tO [.ref 24],
 ⟨.type "builtin_function_or_method",none,.fields #[.builtin "type.__prepare__",.type "type"],#[]⟩,
 dO [ent P "__module__" 262 (.str "glideways.errors" 187),ent P "__qualname__" 264 (.str "NoTrack" 263),ent P "__firstlineno__" 266 (.int 10 265),ent P "__static_attributes__" 267 (.ref 71)] 4,
 tO [],
 fO [],
 ⟨.type "code",none,.fields #[.str "NoTrack" 257,.str "NoTrack" 258,.str "/claim/cut.py" 259,.int 10 0,.int 0 0,.int 0 0,.int 0 0,.int 0 0,.ref 67,.bool false,.int 181 0,.ref 68,.none,.none,.none,.none,.int 260 0,.int 10 0,.str "/claim/cut.py" 261],#[]⟩,
 ⟨.type "frame",none,.plain,#[some (.ref 69),some (.ref 3),some (.ref 66),none,some (.str "glideways.errors" 187),none,some (.ref 0)]⟩,
 tO [],
 dO [ent P "__module__" 262 (.str "glideways.errors" 187),ent P "__firstlineno__" 266 (.int 10 265),ent P "__static_attributes__" 267 (.ref 71),ent P "__doc__" 268 (.none)] 2,
 ⟨.type "type",none,.cls { name:="NoTrack",bases:=[.ref 24],mro:=[.ref 73,.ref 24,.type "ValueError",.type "Exception",.type "BaseException",.type "object"],ns:=72,qualname:="NoTrack",hasDict:=true,slotNames:=[],subclasses:=[],abstract:=false,hasDel:=false },#[some (.ref 64),none,some (.str "NoTrack" 255),some (.str "NoTrack" 263),some (.builtin "ValueError.__new__"),some (.bool true)]⟩,
 ⟨.type "super",none,.fields #[.ref 73,.ref 73,.ref 73],#[]⟩,
 ⟨.type "builtin_function_or_method",none,.fields #[.builtin "object.__init_subclass__",.ref 73],#[]⟩,
 tO [.ref 24],
 ⟨.type "builtin_function_or_method",none,.fields #[.builtin "type.__prepare__",.type "type"],#[]⟩,
 dO [ent P "__module__" 278 (.str "glideways.errors" 187),ent P "__qualname__" 280 (.str "NoTime" 279),ent P "__firstlineno__" 282 (.int 12 281),ent P "__static_attributes__" 283 (.ref 83)] 4,
 tO [],
 fO [],
 ⟨.type "code",none,.fields #[.str "NoTime" 273,.str "NoTime" 274,.str "/claim/cut.py" 275,.int 12 0,.int 0 0,.int 0 0,.int 0 0,.int 0 0,.ref 79,.bool false,.int 181 0,.ref 80,.none,.none,.none,.none,.int 276 0,.int 12 0,.str "/claim/cut.py" 277],#[]⟩,
 ⟨.type "frame",none,.plain,#[some (.ref 81),some (.ref 3),some (.ref 78),none,some (.str "glideways.errors" 187),none,some (.ref 0)]⟩,
 tO [],
 dO [ent P "__module__" 278 (.str "glideways.errors" 187),ent P "__firstlineno__" 282 (.int 12 281),ent P "__static_attributes__" 283 (.ref 83),ent P "__doc__" 284 (.none)] 2,
 ⟨.type "type",none,.cls { name:="NoTime",bases:=[.ref 24],mro:=[.ref 85,.ref 24,.type "ValueError",.type "Exception",.type "BaseException",.type "object"],ns:=84,qualname:="NoTime",hasDict:=true,slotNames:=[],subclasses:=[],abstract:=false,hasDel:=false },#[some (.ref 76),none,some (.str "NoTime" 271),some (.str "NoTime" 279),some (.builtin "ValueError.__new__"),some (.bool true)]⟩,
 ⟨.type "super",none,.fields #[.ref 85,.ref 85,.ref 85],#[]⟩,
 ⟨.type "builtin_function_or_method",none,.fields #[.builtin "object.__init_subclass__",.ref 85],#[]⟩,
 tO [.ref 24],
 ⟨.type "builtin_function_or_method",none,.fields #[.builtin "type.__prepare__",.type "type"],#[]⟩,
 dO [ent P "__module__" 294 (.str "glideways.errors" 187),ent P "__qualname__" 296 (.str "NoName" 295),ent P "__firstlineno__" 298 (.int 14 297),ent P "__static_attributes__" 299 (.ref 95)] 4,
 tO [],
 fO [],
 ⟨.type "code",none,.fields #[.str "NoName" 289,.str "NoName" 290,.str "/claim/cut.py" 291,.int 14 0,.int 0 0,.int 0 0,.int 0 0,.int 0 0,.ref 91,.bool false,.int 181 0,.ref 92,.none,.none,.none,.none,.int 292 0,.int 14 0,.str "/claim/cut.py" 293],#[]⟩,
 ⟨.type "frame",none,.plain,#[some (.ref 93),some (.ref 3),some (.ref 90),none,some (.str "glideways.errors" 187),none,some (.ref 0)]⟩,
 tO [],
 dO [ent P "__module__" 294 (.str "glideways.errors" 187),ent P "__firstlineno__" 298 (.int 14 297),ent P "__static_attributes__" 299 (.ref 95),ent P "__doc__" 300 (.none)] 2,
 ⟨.type "type",none,.cls { name:="NoName",bases:=[.ref 24],mro:=[.ref 97,.ref 24,.type "ValueError",.type "Exception",.type "BaseException",.type "object"],ns:=96,qualname:="NoName",hasDict:=true,slotNames:=[],subclasses:=[],abstract:=false,hasDel:=false },#[some (.ref 88),none,some (.str "NoName" 287),some (.str "NoName" 295),some (.builtin "ValueError.__new__"),some (.bool true)]⟩,
 ⟨.type "super",none,.fields #[.ref 97,.ref 97,.ref 97],#[]⟩,
 ⟨.type "builtin_function_or_method",none,.fields #[.builtin "object.__init_subclass__",.ref 97],#[]⟩,
 tO [.ref 24],
 ⟨.type "builtin_function_or_method",none,.fields #[.builtin "type.__prepare__",.type "type"],#[]⟩,
 dO [ent P "__module__" 310 (.str "glideways.errors" 187),ent P "__qualname__" 312 (.str "NoText" 311),ent P "__firstlineno__" 314 (.int 16 313),ent P "__static_attributes__" 315 (.ref 107)] 4,
 tO [],
 fO [],
 ⟨.type "code",none,.fields #[.str "NoText" 305,.str "NoText" 306,.str "/claim/cut.py" 307,.int 16 0,.int 0 0,.int 0 0,.int 0 0,.int 0 0,.ref 103,.bool false,.int 181 0,.ref 104,.none,.none,.none,.none,.int 308 0,.int 16 0,.str "/claim/cut.py" 309],#[]⟩,
 ⟨.type "frame",none,.plain,#[some (.ref 105),some (.ref 3),some (.ref 102),none,some (.str "glideways.errors" 187),none,some (.ref 0)]⟩,
 tO [],
 dO [ent P "__module__" 310 (.str "glideways.errors" 187),ent P "__firstlineno__" 314 (.int 16 313),ent P "__static_attributes__" 315 (.ref 107),ent P "__doc__" 316 (.none)] 2,
 ⟨.type "type",none,.cls { name:="NoText",bases:=[.ref 24],mro:=[.ref 109,.ref 24,.type "ValueError",.type "Exception",.type "BaseException",.type "object"],ns:=108,qualname:="NoText",hasDict:=true,slotNames:=[],subclasses:=[],abstract:=false,hasDel:=false },#[some (.ref 100),none,some (.str "NoText" 303),some (.str "NoText" 311),some (.builtin "ValueError.__new__"),some (.bool true)]⟩,
 ⟨.type "super",none,.fields #[.ref 109,.ref 109,.ref 109],#[]⟩,
 ⟨.type "builtin_function_or_method",none,.fields #[.builtin "object.__init_subclass__",.ref 109],#[]⟩,
 tO [.ref 24],
 ⟨.type "builtin_function_or_method",none,.fields #[.builtin "type.__prepare__",.type "type"],#[]⟩,
 dO [ent P "__module__" 326 (.str "glideways.errors" 187),ent P "__qualname__" 328 (.str "NoBack" 327),ent P "__firstlineno__" 330 (.int 18 329),ent P "__static_attributes__" 331 (.ref 119)] 4,
 tO [],
 fO [],
 ⟨.type "code",none,.fields #[.str "NoBack" 321,.str "NoBack" 322,.str "/claim/cut.py" 323,.int 18 0,.int 0 0,.int 0 0,.int 0 0,.int 0 0,.ref 115,.bool false,.int 181 0,.ref 116,.none,.none,.none,.none,.int 324 0,.int 18 0,.str "/claim/cut.py" 325],#[]⟩,
 ⟨.type "frame",none,.plain,#[some (.ref 117),some (.ref 3),some (.ref 114),none,some (.str "glideways.errors" 187),none,some (.ref 0)]⟩,
 tO [],
 dO [ent P "__module__" 326 (.str "glideways.errors" 187),ent P "__firstlineno__" 330 (.int 18 329),ent P "__static_attributes__" 331 (.ref 119),ent P "__doc__" 332 (.none)] 2,
 ⟨.type "type",none,.cls { name:="NoBack",bases:=[.ref 24],mro:=[.ref 121,.ref 24,.type "ValueError",.type "Exception",.type "BaseException",.type "object"],ns:=120,qualname:="NoBack",hasDict:=true,slotNames:=[],subclasses:=[],abstract:=false,hasDel:=false },#[some (.ref 112),none,some (.str "NoBack" 319),some (.str "NoBack" 327),some (.builtin "ValueError.__new__"),some (.bool true)]⟩,
 ⟨.type "super",none,.fields #[.ref 121,.ref 121,.ref 121],#[]⟩,
 ⟨.type "builtin_function_or_method",none,.fields #[.builtin "object.__init_subclass__",.ref 121],#[]⟩,
 tO [.int 0 337,.int 1 338],
 tO [.int 1 340,.int 1 341],
 tO [],
 fO [],
 tO (sqs 346 ["thing"]),
 tO [],
 f1 (top 13),
 cO "is_whole" 343 23 1 3 126 true 23 347,
 f2 (top 13) (.str "glideways.fracs" 335) 131,
 tO [],
 fO [],
 tO (sqs 353 ["one","other","found","rest","left"]),
 tO [],
 f1 (top 14),
 cO "common_divisor" 350 25 2 3 133 true 25 358,
 f2 (top 14) (.str "glideways.fracs" 335) 138,
 tO [],
 fO [],
 tO (sqs 364 ["thing","up","down"]),
 tO [],
 f1 (top 15),
 cO "is_frac" 361 33 1 3 140 true 33 367,
 f2 (top 15) (.str "glideways.fracs" 335) 145,
 tO [],
 fO [],
 tO (sqs 373 ["thing"]),
 tO [],
 f1 (top 16),
 cO "is_size" 370 41 1 3 147 true 41 374,
 f2 (top 16) (.str "glideways.fracs" 335) 152,
 tO [],
 fO [],
 tO (sqs 380 ["up","down","divisor"]),
 tO [],
 f1 (top 17),
 cO "frac" 377 43 2 3 154 true 43 383,
 f2 (top 17) (.str "glideways.fracs" 335) 159,
 tO [],
 fO [],
 tO (sqs 389 ["number"]),
 tO [],
 f1 (top 18),
 cO "whole" 386 50 1 3 161 true 50 390,
 f2 (top 18) (.str "glideways.fracs" 335) 166,
 tO [],
 fO [],
 tO (sqs 396 ["one","other"]),
 tO [],
 f1 (top 19),
 cO "plus" 393 52 2 3 168 true 52 398,
 f2 (top 19) (.str "glideways.fracs" 335) 173,
 tO [],
 fO [],
 tO (sqs 404 ["one","other"]),
 tO [],
 f1 (top 20),
 cO "minus" 401 54 2 3 175 true 54 406,
 f2 (top 20) (.str "glideways.fracs" 335) 180,
 tO [],
 fO [],
 tO (sqs 412 ["one","other"]),
 tO [],
 f1 (top 21),
 cO "times" 409 56 2 3 182 true 56 414,
 f2 (top 21) (.str "glideways.fracs" 335) 187,
 tO [],
 fO [],
 tO (sqs 420 ["one","other"]),
 tO [],
 f1 (top 22),
 cO "over" 417 58 2 3 189 true 58 422,
 f2 (top 22) (.str "glideways.fracs" 335) 194,
 tO [],
 fO [],
 tO (sqs 428 ["some","together","one"]),
 tO [],
 f1 (top 23),
 cO "all_plus" 425 60 1 3 196 true 60 431,
 f2 (top 23) (.str "glideways.fracs" 335) 201,
 tO [],
 fO [],
 tO (sqs 437 ["one","other"]),
 tO [],
 f1 (top 24),
 cO "is_less" 434 65 2 3 203 true 65 439,
 f2 (top 24) (.str "glideways.fracs" 335) 208,
 tO [],
 fO [],
 tO (sqs 445 ["some","least","one"]),
 tO [],
 f1 (top 25),
 cO "least_frac" 442 67 1 3 210 true 67 448,
 f2 (top 25) (.str "glideways.fracs" 335) 215,
 tO [],
 fO [],
 tO (sqs 454 ["some","most","one"]),
 tO [],
 f1 (top 26),
 cO "most_frac" 451 73 1 3 217 true 73 457,
 f2 (top 26) (.str "glideways.fracs" 335) 222,
 tO [],
 fO [],
 tO (sqs 463 ["one","other","part"]),
 tO [],
 f1 (top 27),
 cO "between" 460 79 3 3 224 true 79 466,
 f2 (top 27) (.str "glideways.fracs" 335) 229,
 tO (sqs 471 ["even","in","out","both","hold","jump"]),
 tO [],
 fO [],
 tO (sqs 481 ["thing"]),
 tO [],
 f1 (top 30),
 cO "is_kind" 478 83 1 3 232 true 83 482,
 f2 (top 30) (.str "glideways.kinds" 469) 237,
 tO [],
 fO [],
 tO (sqs 488 ["kind"]),
 tO [],
 f1 (top 31),
 cO "need_kind" 485 85 1 3 239 true 85 489,
 f2 (top 31) (.str "glideways.kinds" 469) 244,
 tO [],
 fO [],
 tO (sqs 495 ["part"]),
 tO [],
 f1 (top 32),
 cO "kept_within" 492 88 1 3 246 true 88 496,
 f2 (top 32) (.str "glideways.kinds" 469) 251,
 tO [],
 fO [],
 tO (sqs 502 ["kind","part","p"]),
 tO [],
 f1 (top 33),
 cO "eased" 499 90 2 3 253 true 90 505,
 f2 (top 33) (.str "glideways.kinds" 469) 258,
 tO [.int 0 524,.int 1 525],
 tO [.int 0 526,.int 1 527],
 tO [.ref 260,.ref 261],
 tO [],
 fO [],
 tO (sqs 532 ["thing"]),
 tO [],
 f1 (top 43),
 cO "are_speeds" 529 113 1 3 263 true 113 533,
 f2 (top 43) (.str "glideways.motions" 508) 268,
 tO [],
 fO [],
 tO (sqs 539 ["kind","speeds"]),
 tO [],
 f1 (top 44),
 cO "go_together" 536 115 2 3 270 true 115 541,
 f2 (top 44) (.str "glideways.motions" 508) 275,
 tO [],
 fO [],
 tO (sqs 547 ["thing"]),
 tO [],
 f1 (top 45),
 cO "is_motion" 544 117 1 3 277 true 117 548,
 f2 (top 45) (.str "glideways.motions" 508) 282,
 tO [],
 fO [],
 tO (sqs 554 ["motion"]),
 tO [],
 f1 (top 46),
 cO "end_of" 551 123 1 3 284 true 123 555,
 f2 (top 46) (.str "glideways.motions" 508) 289,
 tO [],
 fO [],
 tO (sqs 561 ["motion","time"]),
 tO [],
 f1 (top 47),
 cO "part_at" 558 125 2 3 291 true 125 563,
 f2 (top 47) (.str "glideways.motions" 508) 296,
 tO [],
 fO [],
 tO (sqs 569 ["motion","ends"]),
 tO [],
 f1 (top 48),
 cO "ends_between" 566 127 1 3 298 true 127 571,
 f2 (top 48) (.str "glideways.motions" 508) 303,
 tO [],
 fO [],
 tO (sqs 577 ["motion","time","part"]),
 tO [],
 f1 (top 49),
 cO "worth_at" 574 130 2 3 305 true 130 580,
 f2 (top 49) (.str "glideways.motions" 508) 310,
 tO [],
 fO [],
 tO (sqs 586 ["motion","p","square","cube","by_first","by_last","by_speeds"]),
 tO [],
 f1 (top 50),
 cO "kept_worth" 583 135 2 3 312 true 135 593,
 f2 (top 50) (.str "glideways.motions" 508) 317,
 tO [],
 fO [],
 f1 (top 54),
 ⟨.type "code",none,.fields #[.str "is_track" 602,.str "is_track" 603,.str "/claim/cut.py" 604,.int 145 0,.int 1 0,.int 0 0,.int 0 0,.int 3 0,.ref 319,.bool true,.int 181 0,.ref 320,.none,.none,.none,.ref 321,.int 605 0,.int 145 0,.str "/claim/cut.py" 606],#[]⟩,
 f2 (top 54) (.str "glideways.tracks" 596) 322,
 tO [],
 fO [],
 tO (sqs 611 ["motions","number"]),
 tO [],
 f1 (top 55),
 cO "none_overlap" 608 151 1 3 324 true 151 613,
 f2 (top 55) (.str "glideways.tracks" 596) 329,
 tO [],
 fO [],
 f1 (top 56),
 ⟨.type "code",none,.fields #[.str "begun_by" 616,.str "begun_by" 617,.str "/claim/cut.py" 618,.int 156 0,.int 2 0,.int 0 0,.int 0 0,.int 3 0,.ref 331,.bool true,.int 181 0,.ref 332,.none,.none,.none,.ref 333,.int 619 0,.int 156 0,.str "/claim/cut.py" 620],#[]⟩,
 f2 (top 56) (.str "glideways.tracks" 596) 334,
 tO [],
 fO [],
 tO (sqs 625 ["track","time","begun"]),
 tO [],
 f1 (top 57),
 cO "worth_of" 622 158 2 3 336 true 158 628,
 f2 (top 57) (.str "glideways.tracks" 596) 341,
 tO [],
 fO [],
 tO (sqs 634 ["track"]),
 tO [],
 f1 (top 58),
 cO "need_track" 631 163 1 3 343 true 163 635,
 f2 (top 58) (.str "glideways.tracks" 596) 348,
 dO [ent P "even" 640 (.ref 351),ent P "both" 643 (.ref 352),ent P "kept" 646 (.ref 353),ent P "in" 649 (.ref 354),ent P "out" 652 (.ref 355),ent P "hold" 655 (.ref 356),ent P "jump" 658 (.ref 357)] 7,
 tO [.int 1 641,.int 2 642],
 tO [.int 1 644,.int 2 645],
 tO [.int 1 647,.int 2 648],
 tO [.int 1 650,.int 3 651],
 tO [.int 2 653,.int 3 654],
 tO [.int 0 656,.int 1 657],
 tO [.int 1 659,.int 1 660],
 tO [],
 fO [],
 tO (sqs 672 ["motion","long","by_start","by_way"]),
 tO [],
 f1 (top 61),
 cO "area" 669 168 1 3 358 true 168 676,
 f2 (top 61) (.str "glideways.areas" 638) 363,
 tO [],
 fO [],
 tO (sqs 682 ["motion","long","more"]),
 tO [],
 f1 (top 62),
 cO "speeds_area" 679 173 1 3 365 true 173 685,
 f2 (top 62) (.str "glideways.areas" 638) 370,
 tO [],
 fO [],
 f1 (top 63),
 ⟨.type "code",none,.fields #[.str "track_area" 688,.str "track_area" 689,.str "/claim/cut.py" 690,.int 177 0,.int 1 0,.int 0 0,.int 0 0,.int 3 0,.ref 372,.bool true,.int 181 0,.ref 373,.none,.none,.none,.ref 374,.int 691 0,.int 177 0,.str "/claim/cut.py" 692],#[]⟩,
 f2 (top 63) (.str "glideways.areas" 638) 375,
 tO [],
 fO [],
 tO (sqs 697 ["track","rest"]),
 tO [],
 f1 (top 64),
 cO "rest_area" 694 182 2 3 377 true 182 699,
 f2 (top 64) (.str "glideways.areas" 638) 382,
 tO [],
 fO [],
 tO (sqs 705 ["track","motions","found","number","end","begin"]),
 tO [],
 f1 (top 65),
 cO "rests" 702 184 1 3 384 true 184 711,
 f2 (top 65) (.str "glideways.areas" 638) 389,
 tO [],
 fO [],
 f1 (top 66),
 ⟨.type "code",none,.fields #[.str "busy" 714,.str "busy" 715,.str "/claim/cut.py" 716,.int 194 0,.int 1 0,.int 0 0,.int 0 0,.int 3 0,.ref 391,.bool true,.int 181 0,.ref 392,.none,.none,.none,.ref 393,.int 717 0,.int 194 0,.str "/claim/cut.py" 718],#[]⟩,
 f2 (top 66) (.str "glideways.areas" 638) 394,
 tO [],
 fO [],
 f1 (top 67),
 ⟨.type "code",none,.fields #[.str "travel" 720,.str "travel" 721,.str "/claim/cut.py" 722,.int 197 0,.int 1 0,.int 0 0,.int 0 0,.int 3 0,.ref 396,.bool true,.int 181 0,.ref 397,.none,.none,.none,.ref 398,.int 723 0,.int 197 0,.str "/claim/cut.py" 724],#[]⟩,
 f2 (top 67) (.str "glideways.areas" 638) 399,
 tO [],
 fO [],
 tO (sqs 729 ["motion","ends"]),
 tO [],
 f1 (top 68),
 cO "way_of" 726 200 1 3 401 true 200 731,
 f2 (top 68) (.str "glideways.areas" 638) 406,
 tO [],
 fO [],
 f1 (top 69),
 ⟨.type "code",none,.fields #[.str "reach" 734,.str "reach" 735,.str "/claim/cut.py" 736,.int 203 0,.int 1 0,.int 0 0,.int 0 0,.int 3 0,.ref 408,.bool true,.int 181 0,.ref 409,.none,.none,.none,.ref 410,.int 737 0,.int 203 0,.str "/claim/cut.py" 738],#[]⟩,
 f2 (top 69) (.str "glideways.areas" 638) 411,
 tO [],
 fO [],
 tO (sqs 745 ["_law_script","_law_k"]),
 tO [],
 f1 (top 71),
 cO "_law_cell" 742 209 2 3 413 true 209 747,
 f2 (top 71) (.str "law_glideways_k34_areas_refused" 740) 418,
 tO [],
 fO [],
 tO (sqs 753 ["_law_script","_law_k","_law_many","_law_drawn"]),
 tO [],
 f1 (top 72),
 cO "_law_pick" 750 215 3 3 420 true 215 757,
 f2 (top 72) (.str "law_glideways_k34_areas_refused" 740) 425,
 tO [],
 fO [],
 tO (sqs 763 ["_law_one","_law_other"]),
 tO [],
 f1 (top 73),
 cO "_law_divisor" 760 218 2 3 427 true 218 765,
 f2 (top 73) (.str "law_glideways_k34_areas_refused" 740) 432,
 tO [],
 fO [],
 tO (sqs 771 ["_law_up","_law_down","_law_size_here"]),
 tO [],
 f1 (top 74),
 cO "_law_made" 768 222 2 3 434 true 222 774,
 f2 (top 74) (.str "law_glideways_k34_areas_refused" 740) 439,
 tO [],
 fO [],
 tO (sqs 780 ["_law_script","_law_at","_law_down"]),
 tO [],
 f1 (top 75),
 cO "_law_frac" 777 225 2 3 441 true 225 783,
 f2 (top 75) (.str "law_glideways_k34_areas_refused" 740) 446,
 tO [],
 fO [],
 tO (sqs 789 ["_law_script","_law_at","_law_down"]),
 tO [],
 f1 (top 76),
 cO "_law_size" 786 228 2 3 448 true 228 792,
 f2 (top 76) (.str "law_glideways_k34_areas_refused" 740) 453,
 tO [],
 fO [],
 tO (sqs 798 ["_law_one","_law_other"]),
 tO [],
 f1 (top 77),
 cO "_law_plus" 795 231 2 3 455 true 231 800,
 f2 (top 77) (.str "law_glideways_k34_areas_refused" 740) 460,
 tO [],
 fO [],
 tO (sqs 806 ["_law_one","_law_other"]),
 tO [],
 f1 (top 78),
 cO "_law_minus" 803 233 2 3 462 true 233 808,
 f2 (top 78) (.str "law_glideways_k34_areas_refused" 740) 467,
 tO [],
 fO [],
 tO (sqs 814 ["_law_one","_law_other"]),
 tO [],
 f1 (top 79),
 cO "_law_times" 811 235 2 3 469 true 235 816,
 f2 (top 79) (.str "law_glideways_k34_areas_refused" 740) 474,
 tO [],
 fO [],
 tO (sqs 822 ["_law_one","_law_other"]),
 tO [],
 f1 (top 80),
 cO "_law_over" 819 237 2 3 476 true 237 824,
 f2 (top 80) (.str "law_glideways_k34_areas_refused" 740) 481,
 tO [],
 fO [],
 tO (sqs 830 ["_law_one","_law_other"]),
 tO [],
 f1 (top 81),
 cO "_law_less" 827 239 2 3 483 true 239 832,
 f2 (top 81) (.str "law_glideways_k34_areas_refused" 740) 488,
 tO [],
 fO [],
 tO (sqs 838 ["_law_kept","_law_kinds"]),
 tO [],
 f1 (top 82),
 cO "_law_class" 835 241 1 3 490 true 241 840,
 f2 (top 82) (.str "law_glideways_k34_areas_refused" 740) 495,
 tO [],
 fO [],
 tO (sqs 846 ["_law_deed","e"]),
 tO [],
 f1 (top 83),
 cO "_law_told" 843 248 1 3 497 true 248 848,
 f2 (top 83) (.str "law_glideways_k34_areas_refused" 740) 502,
 tO [],
 fO [],
 tO (sqs 854 ["_law_script","_law_still","_law_here","_law_good","_law_odd","_law_k","_law_told_here","_law_empty"]),
 tO (sqs 862 ["_law_thing"]),
 f1 (top 84),
 cO "law" 851 253 1 3 504 true 253 863,
 f2 (top 84) (.str "law_glideways_k34_areas_refused" 740) 509]
noncomputable def l0 (P:Params):List Obj:=put 12 (fO (twelve.take 0)) (put 3 (JBg P 9 9 (.str "__main__" 164)) ((ob P).take 15))
noncomputable def l1 (P:Params):List Obj:=put 24 (⟨.type "type",none,.cls { name:="GlideError",bases:=[.type "ValueError"],mro:=[.ref 24,.type "ValueError",.type "Exception",.type "BaseException",.type "object"],ns:=23,qualname:="GlideError",hasDict:=true,slotNames:=[],subclasses:=[.ref 37],abstract:=false,hasDel:=false },#[some (.ref 15),none,some (.str "GlideError" 189),some (.str "GlideError" 197),some (.builtin "ValueError.__new__"),some (.bool true)]⟩) (put 12 (fO (twelve.take 6)) (put 3 (JBg P 11 11 (.str "glideways.errors" 187)) ((ob P).take 40)))
theorem p0:∀(w:World) (os:OsState),segRunT treeTable prog w 11 (some (.ref 6)) 1 409 (sT (l0 w.params) 15 187 os) (piecesOf ((prog.main.body.drop 0).take 3) (envOf prog) (cdOf prog) ⟨0,0,0,0⟩ [topFrame rP])=some (.next,sT (l1 w.params) 40 223 os,cdOf prog,⟨4,0,5,8⟩):=fun w os=>by kernel_rfl
noncomputable def l2 (P:Params):List Obj:=put 24 (⟨.type "type",none,.cls { name:="GlideError",bases:=[.type "ValueError"],mro:=[.ref 24,.type "ValueError",.type "Exception",.type "BaseException",.type "object"],ns:=23,qualname:="GlideError",hasDict:=true,slotNames:=[],subclasses:=[.ref 37,.ref 49],abstract:=false,hasDel:=false },#[some (.ref 15),none,some (.str "GlideError" 189),some (.str "GlideError" 197),some (.builtin "ValueError.__new__"),some (.bool true)]⟩) (put 12 (fO (twelve.take 9)) (put 3 (JBg P 12 12 (.str "glideways.errors" 187)) ((ob P).take 52)))
theorem p1:∀(w:World) (os:OsState),segRunT treeTable prog w 11 (some (.ref 6)) 1 214 (sT (l1 w.params) 40 223 os) (piecesOf ((prog.main.body.drop 3).take 1) (envOf prog) (cdOf prog) ⟨4,0,5,8⟩ [topFrame rP])=some (.next,sT (l2 w.params) 52 239 os,cdOf prog,⟨6,0,7,8⟩):=fun w os=>by kernel_rfl
noncomputable def l3 (P:Params):List Obj:=put 24 (⟨.type "type",none,.cls { name:="GlideError",bases:=[.type "ValueError"],mro:=[.ref 24,.type "ValueError",.type "Exception",.type "BaseException",.type "object"],ns:=23,qualname:="GlideError",hasDict:=true,slotNames:=[],subclasses:=[.ref 37,.ref 49,.ref 61],abstract:=false,hasDel:=false },#[some (.ref 15),none,some (.str "GlideError" 189),some (.str "GlideError" 197),some (.builtin "ValueError.__new__"),some (.bool true)]⟩) (put 12 (fO (twelve.take 12)) (put 3 (JBg P 13 13 (.str "glideways.errors" 187)) ((ob P).take 64)))
theorem p2:∀(w:World) (os:OsState),segRunT treeTable prog w 11 (some (.ref 6)) 1 214 (sT (l2 w.params) 52 239 os) (piecesOf ((prog.main.body.drop 4).take 1) (envOf prog) (cdOf prog) ⟨6,0,7,8⟩ [topFrame rP])=some (.next,sT (l3 w.params) 64 255 os,cdOf prog,⟨8,0,9,8⟩):=fun w os=>by kernel_rfl
noncomputable def l4 (P:Params):List Obj:=put 24 (⟨.type "type",none,.cls { name:="GlideError",bases:=[.type "ValueError"],mro:=[.ref 24,.type "ValueError",.type "Exception",.type "BaseException",.type "object"],ns:=23,qualname:="GlideError",hasDict:=true,slotNames:=[],subclasses:=[.ref 37,.ref 49,.ref 61,.ref 73],abstract:=false,hasDel:=false },#[some (.ref 15),none,some (.str "GlideError" 189),some (.str "GlideError" 197),some (.builtin "ValueError.__new__"),some (.bool true)]⟩) (put 12 (fO (twelve.take 15)) (put 3 (JBg P 14 14 (.str "glideways.errors" 187)) ((ob P).take 76)))
theorem p3:∀(w:World) (os:OsState),segRunT treeTable prog w 11 (some (.ref 6)) 1 214 (sT (l3 w.params) 64 255 os) (piecesOf ((prog.main.body.drop 5).take 1) (envOf prog) (cdOf prog) ⟨8,0,9,8⟩ [topFrame rP])=some (.next,sT (l4 w.params) 76 271 os,cdOf prog,⟨10,0,11,8⟩):=fun w os=>by kernel_rfl
noncomputable def l5 (P:Params):List Obj:=put 24 (⟨.type "type",none,.cls { name:="GlideError",bases:=[.type "ValueError"],mro:=[.ref 24,.type "ValueError",.type "Exception",.type "BaseException",.type "object"],ns:=23,qualname:="GlideError",hasDict:=true,slotNames:=[],subclasses:=[.ref 37,.ref 49,.ref 61,.ref 73,.ref 85],abstract:=false,hasDel:=false },#[some (.ref 15),none,some (.str "GlideError" 189),some (.str "GlideError" 197),some (.builtin "ValueError.__new__"),some (.bool true)]⟩) (put 12 (fO (twelve.take 18)) (put 3 (JBg P 15 15 (.str "glideways.errors" 187)) ((ob P).take 88)))
theorem p4:∀(w:World) (os:OsState),segRunT treeTable prog w 11 (some (.ref 6)) 1 214 (sT (l4 w.params) 76 271 os) (piecesOf ((prog.main.body.drop 6).take 1) (envOf prog) (cdOf prog) ⟨10,0,11,8⟩ [topFrame rP])=some (.next,sT (l5 w.params) 88 287 os,cdOf prog,⟨12,0,13,8⟩):=fun w os=>by kernel_rfl
noncomputable def l6 (P:Params):List Obj:=put 24 (⟨.type "type",none,.cls { name:="GlideError",bases:=[.type "ValueError"],mro:=[.ref 24,.type "ValueError",.type "Exception",.type "BaseException",.type "object"],ns:=23,qualname:="GlideError",hasDict:=true,slotNames:=[],subclasses:=[.ref 37,.ref 49,.ref 61,.ref 73,.ref 85,.ref 97],abstract:=false,hasDel:=false },#[some (.ref 15),none,some (.str "GlideError" 189),some (.str "GlideError" 197),some (.builtin "ValueError.__new__"),some (.bool true)]⟩) (put 12 (fO (twelve.take 21)) (put 3 (JBg P 16 16 (.str "glideways.errors" 187)) ((ob P).take 100)))
theorem p5:∀(w:World) (os:OsState),segRunT treeTable prog w 11 (some (.ref 6)) 1 214 (sT (l5 w.params) 88 287 os) (piecesOf ((prog.main.body.drop 7).take 1) (envOf prog) (cdOf prog) ⟨12,0,13,8⟩ [topFrame rP])=some (.next,sT (l6 w.params) 100 303 os,cdOf prog,⟨14,0,15,8⟩):=fun w os=>by kernel_rfl
noncomputable def l7 (P:Params):List Obj:=put 24 (⟨.type "type",none,.cls { name:="GlideError",bases:=[.type "ValueError"],mro:=[.ref 24,.type "ValueError",.type "Exception",.type "BaseException",.type "object"],ns:=23,qualname:="GlideError",hasDict:=true,slotNames:=[],subclasses:=[.ref 37,.ref 49,.ref 61,.ref 73,.ref 85,.ref 97,.ref 109],abstract:=false,hasDel:=false },#[some (.ref 15),none,some (.str "GlideError" 189),some (.str "GlideError" 197),some (.builtin "ValueError.__new__"),some (.bool true)]⟩) (put 12 (fO (twelve.take 24)) (put 3 (JBg P 17 17 (.str "glideways.errors" 187)) ((ob P).take 112)))
theorem p6:∀(w:World) (os:OsState),segRunT treeTable prog w 11 (some (.ref 6)) 1 214 (sT (l6 w.params) 100 303 os) (piecesOf ((prog.main.body.drop 8).take 1) (envOf prog) (cdOf prog) ⟨14,0,15,8⟩ [topFrame rP])=some (.next,sT (l7 w.params) 112 319 os,cdOf prog,⟨16,0,17,8⟩):=fun w os=>by kernel_rfl
noncomputable def l8 (P:Params):List Obj:=put 12 (fO (twelve.take 42)) (put 3 (JBg P 25 25 (.str "glideways.fracs" 335)) ((ob P).take 161))
theorem p7:∀(w:World) (os:OsState),segRunT treeTable prog w 11 (some (.ref 6)) 1 400 (sT (l7 w.params) 112 319 os) (piecesOf ((prog.main.body.drop 9).take 9) (envOf prog) (cdOf prog) ⟨16,0,17,8⟩ [topFrame rP])=some (.next,sT (l8 w.params) 161 386 os,cdOf prog,⟨43,0,49,43⟩):=fun w os=>by kernel_rfl
noncomputable def l9 (P:Params):List Obj:=put 12 (fO (twelve.take 81)) (put 3 (JBg P 39 39 (.str "glideways.kinds" 469)) ((ob P).take 253))
theorem p8:∀(w:World) (os:OsState),segRunT treeTable prog w 11 (some (.ref 6)) 1 416 (sT (l8 w.params) 161 386 os) (piecesOf ((prog.main.body.drop 18).take 15) (envOf prog) (cdOf prog) ⟨43,0,49,43⟩ [topFrame rP])=some (.next,sT (l9 w.params) 253 499 os,cdOf prog,⟨88,0,89,53⟩):=fun w os=>by kernel_rfl
noncomputable def l10 (P:Params):List Obj:=put 12 (fO (twelve.take 111)) (put 3 (JBg P 59 59 (.str "glideways.tracks" 596)) ((ob P).take 324))
theorem p9:∀(w:World) (os:OsState),segRunT treeTable prog w 11 (some (.ref 6)) 1 418 (sT (l9 w.params) 253 499 os) (piecesOf ((prog.main.body.drop 33).take 22) (envOf prog) (cdOf prog) ⟨88,0,89,53⟩ [topFrame rP])=some (.next,sT (l10 w.params) 324 608 os,cdOf prog,⟨145,0,150,91⟩):=fun w os=>by kernel_rfl
noncomputable def l11 (P:Params):List Obj:=put 12 (fO (twelve.take 123)) (put 3 (JBg P 63 63 (.str "glideways.areas" 638)) ((ob P).take 350))
theorem p10:∀(w:World) (os:OsState),segRunT treeTable prog w 11 (some (.ref 6)) 1 126 (sT (l10 w.params) 324 608 os) (piecesOf ((prog.main.body.drop 55).take 5) (envOf prog) (cdOf prog) ⟨145,0,150,91⟩ [topFrame rP])=some (.next,sT (l11 w.params) 350 640 os,cdOf prog,⟨166,0,166,8⟩):=fun w os=>by kernel_rfl
noncomputable def l12 (P:Params):List Obj:=put 12 (fO (twelve.take 123)) (put 3 (JBg P 64 64 (.str "glideways.areas" 638)) ((ob P).take 358))
theorem p11:∀(w:World) (os:OsState),segRunT treeTable prog w 11 (some (.ref 6)) 1 137 (sT (l11 w.params) 350 640 os) (piecesOf ((prog.main.body.drop 60).take 1) (envOf prog) (cdOf prog) ⟨166,0,166,8⟩ [topFrame rP])=some (.next,sT (l12 w.params) 358 669 os,cdOf prog,⟨167,0,167,6⟩):=byRow2 "special-get-raises" (P:=fun w=>∀os:OsState,segRunT treeTable prog w 11 (some (.ref 6)) 1 137 (sT (l11 w.params) 350 640 os) (piecesOf ((prog.main.body.drop 60).take 1) (envOf prog) (cdOf prog) ⟨166,0,166,8⟩ [topFrame rP])=some (.next,sT (l12 w.params) 358 669 os,cdOf prog,⟨167,0,167,6⟩)) (fun w os=>by kernel_rfl) (fun w os=>by kernel_rfl)
noncomputable def l13 (P:Params):List Obj:=put 12 (fO (twelve.take 162)) (put 3 (JBg P 77 77 (.str "law_glideways_k34_areas_refused" 740)) ((ob P).take 441))
theorem p12:∀(w:World) (os:OsState),segRunT treeTable prog w 11 (some (.ref 6)) 1 394 (sT (l12 w.params) 358 669 os) (piecesOf ((prog.main.body.drop 61).take 14) (envOf prog) (cdOf prog) ⟨167,0,167,6⟩ [topFrame rP])=some (.next,sT (l13 w.params) 441 777 os,cdOf prog,⟨222,0,224,67⟩):=fun w os=>by kernel_rfl
noncomputable def l14 (P:Params):List Obj:=ob P
theorem p13:∀(w:World) (os:OsState),segRunT treeTable prog w 11 (some (.ref 6)) 1 310 (sT (l13 w.params) 441 777 os) (piecesOf ((prog.main.body.drop 75).take 10) (envOf prog) (cdOf prog) ⟨222,0,224,67⟩ [topFrame rP])=some (.next,sT (l14 w.params) 511 866 os,cdOf prog,⟨253,0,269,123⟩):=fun w os=>by kernel_rfl
theorem pre (w:World) (os:OsState):topGo treeTable prog w 11 (some (.ref 6)) 12 ⟨boot_heap w.params,Array.mk [],boot_drawn,boot_toks,os⟩ (topStub prog)=some (sH (l0 w.params) 187 os,⟨denote treeTable (cdOf prog),cdOf prog,⟨0,0,0,0⟩,[topFrame rP]⟩):=by kernel_rfl
theorem blk (w:World) (os:OsState):segRun treeTable prog w 11 (some (.ref 6)) 1 1 (sH (l0 w.params) 187 os) (blockOf (behindTheImports prog) (envOf prog) (cdOf prog) ⟨0,0,0,0⟩ [topFrame rP])=some (.next,(sT (l0 w.params) 15 187 os).abs,cdOf prog,⟨0,0,0,0⟩):=by kernel_rfl
theorem fin (w:World) (os:OsState):topRun treeTable prog w 11 (some (.ref 6)) 2 (sT (l14 w.params) 511 866 os).abs ⟨doneF .next,cdOf prog,⟨253,0,269,123⟩,[topFrame rP]⟩=some (sH (l14 w.params) 866 os):=by kernel_rfl
theorem body:behindTheImports prog=(((prog.main.body.drop 0).take 3)++(((prog.main.body.drop 3).take 1)++(((prog.main.body.drop 4).take 1)++(((prog.main.body.drop 5).take 1)++(((prog.main.body.drop 6).take 1)++(((prog.main.body.drop 7).take 1)++(((prog.main.body.drop 8).take 1)++(((prog.main.body.drop 9).take 9)++(((prog.main.body.drop 18).take 15)++(((prog.main.body.drop 33).take 22)++(((prog.main.body.drop 55).take 5)++(((prog.main.body.drop 60).take 1)++(((prog.main.body.drop 61).take 14)++(((prog.main.body.drop 75).take 10)++[])))))))))))))):=by kernel_rfl
theorem rn (w:World) (os:OsState):topRun treeTable prog w 11 (some (.ref 6)) (12+(1+(409+(214+(214+(214+(214+(214+(214+(400+(416+(418+(126+(137+(394+(310+2)))))))))))))))) ⟨boot_heap w.params,Array.mk [],boot_drawn,boot_toks,os⟩ (topStub prog)=some (sH (l14 w.params) 866 os) :=
 go_top (pre w os) (piece_block (blk w os) (body▸(piece_app (segRun_of (p0 w os)) (piece_app (segRun_of (p1 w os)) (piece_app (segRun_of (p2 w os)) (piece_app (segRun_of (p3 w os)) (piece_app (segRun_of (p4 w os)) (piece_app (segRun_of (p5 w os)) (piece_app (segRun_of (p6 w os)) (piece_app (segRun_of (p7 w os)) (piece_app (segRun_of (p8 w os)) (piece_app (segRun_of (p9 w os)) (piece_app (segRun_of (p10 w os)) (piece_app (segRun_of (p11 w os)) (piece_app (segRun_of (p12 w os)) (piece_app (segRun_of (p13 w os)) (piece_nil (fin w os))))))))))))))))))
noncomputable def ktok:Nat:=866
noncomputable def view:Program:={ prog with main:={ prog.main with body:=[top 84] } }
noncomputable def loose:List Str:=(["GlideError","NoFrac","NoKind","NoPlan","NoTrack","NoTime","NoName","NoText","NoBack","ZERO","ONE","is_whole","common_divisor","is_frac","is_size","frac","whole","plus","minus","times","over","all_plus","is_less","least_frac","most_frac","between","KINDS","is_kind","need_kind","kept_within","eased","START","GOAL","BEGIN","LONG","KIND","SPEEDS","KEPT","NO_SPEEDS","are_speeds","go_together","is_motion","end_of","part_at","ends_between","worth_at","kept_worth","FIRST","MOTIONS","is_track","none_overlap","begun_by","worth_of","need_track","SHARES","area","speeds_area","track_area","rest_area","rests","busy","travel","way_of","reach","_law_cell","_law_pick","_law_divisor","_law_made","_law_frac","_law_size","_law_plus","_law_minus","_law_times","_law_over","_law_less","_law_class","_law_told"]:List String).map Str.ofString
noncomputable def K0 (P:Params):Frag:=(List.range 511).zip (ob P)
noncomputable def K (P:Params):Frag:=JBB 505 (K0 P)
noncomputable def hk:Hook:=kHook K0 (List.range 511) (fun _=>by kernel_rfl)
theorem left:LeftO prog view loose (fun s=>xlAt view [] s&&recOk (RowW.records PySem.Challenge.rw_glideways_k34_areas_refused.row.toRowW) s) hk.obs hk.val 8486 true :=
 LeftO.of_pieces (H₀:=boot_heap) (H₁:=fun P=>⟨(l14 P).toArray,{}⟩) (gs₀:=Array.mk []) (gs₁:=#[]) (d₀:=boot_drawn) (d₁:={}) (k₀:=boot_toks) (k₁:=ktok) (m₀:=11) (ann:=some (.ref 6))
  (boot_open (by kernel_rfl) (by decide) (fun s=>by kernel_rfl)) (fun w=>by kernel_rfl) (fun w os=>rn w os) (by decide +kernel) (fun w=>by kernel_rfl)
noncomputable def G:List (Str×GK):=[(("is_whole":Str),GK.fn 23),(("common_divisor":Str),GK.fn 0),(("is_frac":Str),GK.fn 24),(("is_size":Str),GK.fn 68),(("frac":Str),GK.fn 1),(("whole":Str),GK.fn 2),(("plus":Str),GK.fn 3),(("minus":Str),GK.fn 4),(("times":Str),GK.fn 5),(("over":Str),GK.fn 25),(("all_plus":Str),GK.fn 179),(("is_less":Str),GK.fn 6),(("least_frac":Str),GK.fn 7),(("most_frac":Str),GK.fn 8),(("between":Str),GK.fn 10),(("is_kind":Str),GK.fn 29),(("need_kind":Str),GK.fn 30),(("kept_within":Str),GK.fn 31),(("eased":Str),GK.fn 32),(("are_speeds":Str),GK.fn 69),(("go_together":Str),GK.fn 70),(("is_motion":Str),GK.fn 71),(("end_of":Str),GK.fn 72),(("part_at":Str),GK.fn 46),(("ends_between":Str),GK.fn 47),(("worth_at":Str),GK.fn 48),(("kept_worth":Str),GK.fn 49),(("is_track":Str),GK.fn 81),(("none_overlap":Str),GK.fn 82),(("begun_by":Str),GK.fn 96),(("worth_of":Str),GK.fn 97),(("need_track":Str),GK.fn 85),(("area":Str),GK.fn 188),(("speeds_area":Str),GK.fn 189),(("track_area":Str),GK.fn 193),(("rest_area":Str),GK.fn 194),(("rests":Str),GK.fn 195),(("busy":Str),GK.fn 196),(("travel":Str),GK.fn 197),(("way_of":Str),GK.fn 198),(("reach":Str),GK.fn 199),(("_law_cell":Str),GK.fn 11),(("_law_pick":Str),GK.fn 12),(("_law_divisor":Str),GK.fn 13),(("_law_made":Str),GK.fn 14),(("_law_frac":Str),GK.fn 15),(("_law_plus":Str),GK.fn 17),(("ZERO":Str),GK.con 39),(("ONE":Str),GK.con 40),(("KINDS":Str),GK.con 41),(("START":Str),GK.con 55),(("GOAL":Str),GK.con 56),(("BEGIN":Str),GK.con 57),(("LONG":Str),GK.con 58),(("KIND":Str),GK.con 59),(("SPEEDS":Str),GK.con 60),(("KEPT":Str),GK.con 61),(("NO_SPEEDS":Str),GK.con 77),(("FIRST":Str),GK.con 93),(("MOTIONS":Str),GK.con 94),(("SHARES":Str),GK.con 192),(("GlideError":Str),GK.cls 0),(("NoFrac":Str),GK.cls 1),(("NoKind":Str),GK.cls 2),(("NoPlan":Str),GK.cls 3),(("NoTrack":Str),GK.cls 4),(("NoTime":Str),GK.cls 5),(("NoName":Str),GK.cls 6),(("NoText":Str),GK.cls 7),(("NoBack":Str),GK.cls 8),(("len":Str),GK.blt Blt.len),(("abs":Str),GK.blt Blt.abs),(("all":Str),GK.blt Blt.all),(("range":Str),GK.rng),(("isinstance":Str),GK.isi),(("int":Str),GK.ty Ty.int),(("bool":Str),GK.ty Ty.bool),(("tuple":Str),GK.ty Ty.tuple),(("ValueError":Str),GK.ty Ty.valueError),((".met":Str),GK.opt)]
instance:Cool G:=⟨by kernel_rfl⟩
noncomputable abbrev tab:Nat→Option Fd:=tabA
noncomputable abbrev glo:Nat→R D:=gloA
theorem JF8:∀i c,glo i≠.exc c:=by
 intro i c h
 unfold glo gloA at h
 split at h<;>cases h
noncomputable def rs:List (Nat×List Nat):=[(4,[0,4])]
noncomputable def cl (k:Nat):Addr:=match k with | 0=>24 | 1=>37 | 2=>49 | 3=>61 | 4=>73 | 5=>85 | 6=>97 | 7=>109 | 8=>121 | _=>0
theorem t_23:Turned G (top 13) ["thing"] ["thing"] d_23:=tuI
theorem b_23:JAK "is_whole" (top 13) ["thing"]:=bOk fun _ _ _ _ _ _ _=>rfl
theorem f_23 (P:Params):FnIn (K P) "is_whole" (top 13):=fnI 132 131 (.str "glideways.fracs" 335)
theorem t_0:Turned G (top 14) ["one","other","found","rest","left"] ["one","other"] d_0:=tuI
theorem b_0:JAK "common_divisor" (top 14) ["one","other"]:=bOk fun _ _ _ _ _ _ _ _=>rfl
theorem f_0 (P:Params):FnIn (K P) "common_divisor" (top 14):=fnI 139 138 (.str "glideways.fracs" 335)
theorem t_24:Turned G (top 15) ["thing","up","down"] ["thing"] d_24:=tuI
theorem b_24:JAK "is_frac" (top 15) ["thing"]:=bOk fun _ _ _ _ _ _ _=>rfl
theorem f_24 (P:Params):FnIn (K P) "is_frac" (top 15):=fnI 146 145 (.str "glideways.fracs" 335)
theorem t_68:Turned G (top 16) ["thing"] ["thing"] d_68:=tuI
theorem b_68:JAK "is_size" (top 16) ["thing"]:=bOk fun _ _ _ _ _ _ _=>rfl
theorem f_68 (P:Params):FnIn (K P) "is_size" (top 16):=fnI 153 152 (.str "glideways.fracs" 335)
theorem t_1:Turned G (top 17) ["up","down","divisor"] ["up","down"] d_1:=tuI
theorem b_1:JAK "frac" (top 17) ["up","down"]:=bOk fun _ _ _ _ _ _ _ _=>rfl
theorem f_1 (P:Params):FnIn (K P) "frac" (top 17):=fnI 160 159 (.str "glideways.fracs" 335)
theorem t_2:Turned G (top 18) ["number"] ["number"] d_2:=tuI
theorem b_2:JAK "whole" (top 18) ["number"]:=bOk fun _ _ _ _ _ _ _=>rfl
theorem f_2 (P:Params):FnIn (K P) "whole" (top 18):=fnI 167 166 (.str "glideways.fracs" 335)
theorem t_3:Turned G (top 19) ["one","other"] ["one","other"] d_3:=tuI
theorem b_3:JAK "plus" (top 19) ["one","other"]:=bOk fun _ _ _ _ _ _ _ _=>rfl
theorem f_3 (P:Params):FnIn (K P) "plus" (top 19):=fnI 174 173 (.str "glideways.fracs" 335)
theorem t_4:Turned G (top 20) ["one","other"] ["one","other"] d_4:=tuI
theorem b_4:JAK "minus" (top 20) ["one","other"]:=bOk fun _ _ _ _ _ _ _ _=>rfl
theorem f_4 (P:Params):FnIn (K P) "minus" (top 20):=fnI 181 180 (.str "glideways.fracs" 335)
theorem t_5:Turned G (top 21) ["one","other"] ["one","other"] d_5:=tuI
theorem b_5:JAK "times" (top 21) ["one","other"]:=bOk fun _ _ _ _ _ _ _ _=>rfl
theorem f_5 (P:Params):FnIn (K P) "times" (top 21):=fnI 188 187 (.str "glideways.fracs" 335)
theorem t_25:Turned G (top 22) ["one","other"] ["one","other"] d_25:=tuI
theorem b_25:JAK "over" (top 22) ["one","other"]:=bOk fun _ _ _ _ _ _ _ _=>rfl
theorem f_25 (P:Params):FnIn (K P) "over" (top 22):=fnI 195 194 (.str "glideways.fracs" 335)
theorem t_179:Turned G (top 23) ["some","together","one"] ["some"] JH4:=tuI
theorem JId:JAK "all_plus" (top 23) ["some"]:=bOk fun _ _ _ _ _ _ _=>rfl
theorem f_179 (P:Params):FnIn (K P) "all_plus" (top 23):=fnI 202 201 (.str "glideways.fracs" 335)
theorem t_6:Turned G (top 24) ["one","other"] ["one","other"] d_6:=tuI
theorem b_6:JAK "is_less" (top 24) ["one","other"]:=bOk fun _ _ _ _ _ _ _ _=>rfl
theorem f_6 (P:Params):FnIn (K P) "is_less" (top 24):=fnI 209 208 (.str "glideways.fracs" 335)
theorem t_7:Turned G (top 25) ["some","least","one"] ["some"] d_7:=tuI
theorem b_7:JAK "least_frac" (top 25) ["some"]:=bOk fun _ _ _ _ _ _ _=>rfl
theorem f_7 (P:Params):FnIn (K P) "least_frac" (top 25):=fnI 216 215 (.str "glideways.fracs" 335)
theorem t_8:Turned G (top 26) ["some","most","one"] ["some"] d_8:=tuI
theorem b_8:JAK "most_frac" (top 26) ["some"]:=bOk fun _ _ _ _ _ _ _=>rfl
theorem f_8 (P:Params):FnIn (K P) "most_frac" (top 26):=fnI 223 222 (.str "glideways.fracs" 335)
theorem t_10:Turned G (top 27) ["one","other","part"] ["one","other","part"] d_10:=tuI
theorem b_10:JAK "between" (top 27) ["one","other","part"]:=bOk fun _ _ _ _ _ _ _ _ _=>rfl
theorem f_10 (P:Params):FnIn (K P) "between" (top 27):=fnI 230 229 (.str "glideways.fracs" 335)
theorem t_29:Turned G (top 30) ["thing"] ["thing"] d_29:=tuI
theorem b_29:JAK "is_kind" (top 30) ["thing"]:=bOk fun _ _ _ _ _ _ _=>rfl
theorem f_29 (P:Params):FnIn (K P) "is_kind" (top 30):=fnI 238 237 (.str "glideways.kinds" 469)
theorem t_30:Turned G (top 31) ["kind"] ["kind"] d_30:=tuI
theorem b_30:JAK "need_kind" (top 31) ["kind"]:=bOk fun _ _ _ _ _ _ _=>rfl
theorem f_30 (P:Params):FnIn (K P) "need_kind" (top 31):=fnI 245 244 (.str "glideways.kinds" 469)
theorem t_31:Turned G (top 32) ["part"] ["part"] d_31:=tuI
theorem b_31:JAK "kept_within" (top 32) ["part"]:=bOk fun _ _ _ _ _ _ _=>rfl
theorem f_31 (P:Params):FnIn (K P) "kept_within" (top 32):=fnI 252 251 (.str "glideways.kinds" 469)
theorem t_32:Turned G (top 33) ["kind","part","p"] ["kind","part"] d_32:=tuI
theorem b_32:JAK "eased" (top 33) ["kind","part"]:=bOk fun _ _ _ _ _ _ _ _=>rfl
theorem f_32 (P:Params):FnIn (K P) "eased" (top 33):=fnI 259 258 (.str "glideways.kinds" 469)
theorem t_69:Turned G (top 43) ["thing"] ["thing"] d_69:=tuI
theorem b_69:JAK "are_speeds" (top 43) ["thing"]:=bOk fun _ _ _ _ _ _ _=>rfl
theorem f_69 (P:Params):FnIn (K P) "are_speeds" (top 43):=fnI 269 268 (.str "glideways.motions" 508)
theorem t_70:Turned G (top 44) ["kind","speeds"] ["kind","speeds"] d_70:=tuI
theorem b_70:JAK "go_together" (top 44) ["kind","speeds"]:=bOk fun _ _ _ _ _ _ _ _=>rfl
theorem f_70 (P:Params):FnIn (K P) "go_together" (top 44):=fnI 276 275 (.str "glideways.motions" 508)
theorem t_71:Turned G (top 45) ["thing"] ["thing"] d_71:=tuI
theorem b_71:JAK "is_motion" (top 45) ["thing"]:=bOk fun _ _ _ _ _ _ _=>rfl
theorem f_71 (P:Params):FnIn (K P) "is_motion" (top 45):=fnI 283 282 (.str "glideways.motions" 508)
theorem t_72:Turned G (top 46) ["motion"] ["motion"] d_72:=tuI
theorem b_72:JAK "end_of" (top 46) ["motion"]:=bOk fun _ _ _ _ _ _ _=>rfl
theorem f_72 (P:Params):FnIn (K P) "end_of" (top 46):=fnI 290 289 (.str "glideways.motions" 508)
theorem t_46:Turned G (top 47) ["motion","time"] ["motion","time"] d_46:=tuI
theorem b_46:JAK "part_at" (top 47) ["motion","time"]:=bOk fun _ _ _ _ _ _ _ _=>rfl
theorem f_46 (P:Params):FnIn (K P) "part_at" (top 47):=fnI 297 296 (.str "glideways.motions" 508)
theorem t_47:Turned G (top 48) ["motion","ends"] ["motion"] d_47:=tuI
theorem b_47:JAK "ends_between" (top 48) ["motion"]:=bOk fun _ _ _ _ _ _ _=>rfl
theorem f_47 (P:Params):FnIn (K P) "ends_between" (top 48):=fnI 304 303 (.str "glideways.motions" 508)
theorem t_48:Turned G (top 49) ["motion","time","part"] ["motion","time"] d_48:=tuI
theorem b_48:JAK "worth_at" (top 49) ["motion","time"]:=bOk fun _ _ _ _ _ _ _ _=>rfl
theorem f_48 (P:Params):FnIn (K P) "worth_at" (top 49):=fnI 311 310 (.str "glideways.motions" 508)
theorem t_49:Turned G (top 50) ["motion","p","square","cube","by_first","by_last","by_speeds"] ["motion","p"] d_49:=tuI
theorem b_49:JAK "kept_worth" (top 50) ["motion","p"]:=bOk fun _ _ _ _ _ _ _ _=>rfl
theorem f_49 (P:Params):FnIn (K P) "kept_worth" (top 50):=fnI 318 317 (.str "glideways.motions" 508)
theorem t_81:Turned G (top 54) ["thing"] ["thing"] d_81:=tuI
theorem b_81:JAK "is_track" (top 54) ["thing"]:=bOk fun _ _ _ _ _ _ _=>rfl
theorem f_81 (P:Params):FnIn (K P) "is_track" (top 54):=fnI 323 322 (.str "glideways.tracks" 596)
theorem t_82:Turned G (top 55) ["motions","number"] ["motions"] d_82:=tuI
theorem b_82:JAK "none_overlap" (top 55) ["motions"]:=bOk fun _ _ _ _ _ _ _=>rfl
theorem f_82 (P:Params):FnIn (K P) "none_overlap" (top 55):=fnI 330 329 (.str "glideways.tracks" 596)
theorem t_96:Turned G (top 56) ["track","time"] ["track","time"] d_96:=tuI
theorem b_96:JAK "begun_by" (top 56) ["track","time"]:=bOk fun _ _ _ _ _ _ _ _=>rfl
theorem f_96 (P:Params):FnIn (K P) "begun_by" (top 56):=fnI 335 334 (.str "glideways.tracks" 596)
theorem t_97:Turned G (top 57) ["track","time","begun"] ["track","time"] d_97:=tuI
theorem b_97:JAK "worth_of" (top 57) ["track","time"]:=bOk fun _ _ _ _ _ _ _ _=>rfl
theorem f_97 (P:Params):FnIn (K P) "worth_of" (top 57):=fnI 342 341 (.str "glideways.tracks" 596)
theorem t_85:Turned G (top 58) ["track"] ["track"] d_85:=tuI
theorem b_85:JAK "need_track" (top 58) ["track"]:=bOk fun _ _ _ _ _ _ _=>rfl
theorem f_85 (P:Params):FnIn (K P) "need_track" (top 58):=fnI 349 348 (.str "glideways.tracks" 596)
theorem t_188:Turned G (top 61) ["motion","long","by_start","by_way"] ["motion"] JIV:=tuI
theorem JIK:JAK "area" (top 61) ["motion"]:=bOk fun _ _ _ _ _ _ _=>rfl
theorem f_188 (P:Params):FnIn (K P) "area" (top 61):=fnI 364 363 (.str "glideways.areas" 638)
theorem t_189:Turned G (top 62) ["motion","long","more"] ["motion"] JIs:=tuI
theorem JIp:JAK "speeds_area" (top 62) ["motion"]:=bOk fun _ _ _ _ _ _ _=>rfl
theorem f_189 (P:Params):FnIn (K P) "speeds_area" (top 62):=fnI 371 370 (.str "glideways.areas" 638)
theorem t_193:Turned G (top 63) ["track","moving","resting"] ["track"] JFb:=tuI
theorem JGB:JAK "track_area" (top 63) ["track"]:=bOk fun _ _ _ _ _ _ _=>rfl
theorem f_193 (P:Params):FnIn (K P) "track_area" (top 63):=fnI 376 375 (.str "glideways.areas" 638)
theorem t_194:Turned G (top 64) ["track","rest"] ["track","rest"] JIx:=tuI
theorem JIg:JAK "rest_area" (top 64) ["track","rest"]:=bOk fun _ _ _ _ _ _ _ _=>rfl
theorem f_194 (P:Params):FnIn (K P) "rest_area" (top 64):=fnI 383 382 (.str "glideways.areas" 638)
theorem t_195:Turned G (top 65) ["track","motions","found","number","end","begin"] ["track"] JEW:=tuI
theorem JCx:JAK "rests" (top 65) ["track"]:=bOk fun _ _ _ _ _ _ _=>rfl
theorem f_195 (P:Params):FnIn (K P) "rests" (top 65):=fnI 390 389 (.str "glideways.areas" 638)
theorem t_196:Turned G (top 66) ["track"] ["track"] JFl:=tuI
theorem JGW:JAK "busy" (top 66) ["track"]:=bOk fun _ _ _ _ _ _ _=>rfl
theorem f_196 (P:Params):FnIn (K P) "busy" (top 66):=fnI 395 394 (.str "glideways.areas" 638)
theorem t_197:Turned G (top 67) ["track"] ["track"] JFq:=tuI
theorem JGD:JAK "travel" (top 67) ["track"]:=bOk fun _ _ _ _ _ _ _=>rfl
theorem f_197 (P:Params):FnIn (K P) "travel" (top 67):=fnI 400 399 (.str "glideways.areas" 638)
theorem t_198:Turned G (top 68) ["motion","ends"] ["motion"] JHu:=tuI
theorem JIR:JAK "way_of" (top 68) ["motion"]:=bOk fun _ _ _ _ _ _ _=>rfl
theorem f_198 (P:Params):FnIn (K P) "way_of" (top 68):=fnI 407 406 (.str "glideways.areas" 638)
theorem t_199:Turned G (top 69) ["track","motions","worths"] ["track"] JFz:=tuI
theorem JHe:JAK "reach" (top 69) ["track"]:=bOk fun _ _ _ _ _ _ _=>rfl
theorem f_199 (P:Params):FnIn (K P) "reach" (top 69):=fnI 412 411 (.str "glideways.areas" 638)
theorem t_11:Turned G (top 71) ["_law_script","_law_k"] ["_law_script","_law_k"] d_11:=tuI
theorem b_11:JAK "_law_cell" (top 71) ["_law_script","_law_k"]:=bOk fun _ _ _ _ _ _ _ _=>rfl
theorem f_11 (P:Params):FnIn (K P) "_law_cell" (top 71):=fnI 419 418 (.str "law_glideways_k34_areas_refused" 740)
theorem t_12:Turned G (top 72) ["_law_script","_law_k","_law_many","_law_drawn"] ["_law_script","_law_k","_law_many"] d_12:=tuI
theorem b_12:JAK "_law_pick" (top 72) ["_law_script","_law_k","_law_many"]:=bOk fun _ _ _ _ _ _ _ _ _=>rfl
theorem f_12 (P:Params):FnIn (K P) "_law_pick" (top 72):=fnI 426 425 (.str "law_glideways_k34_areas_refused" 740)
theorem t_13:Turned G (top 73) ["_law_one","_law_other"] ["_law_one","_law_other"] d_13:=tuI
theorem b_13:JAK "_law_divisor" (top 73) ["_law_one","_law_other"]:=bOk fun _ _ _ _ _ _ _ _=>rfl
theorem f_13 (P:Params):FnIn (K P) "_law_divisor" (top 73):=fnI 433 432 (.str "law_glideways_k34_areas_refused" 740)
theorem t_14:Turned G (top 74) ["_law_up","_law_down","_law_size_here"] ["_law_up","_law_down"] d_14:=tuI
theorem b_14:JAK "_law_made" (top 74) ["_law_up","_law_down"]:=bOk fun _ _ _ _ _ _ _ _=>rfl
theorem f_14 (P:Params):FnIn (K P) "_law_made" (top 74):=fnI 440 439 (.str "law_glideways_k34_areas_refused" 740)
theorem t_15:Turned G (top 75) ["_law_script","_law_at","_law_down"] ["_law_script","_law_at"] d_15:=tuI
theorem b_15:JAK "_law_frac" (top 75) ["_law_script","_law_at"]:=bOk fun _ _ _ _ _ _ _ _=>rfl
theorem f_15 (P:Params):FnIn (K P) "_law_frac" (top 75):=fnI 447 446 (.str "law_glideways_k34_areas_refused" 740)
theorem t_17:Turned G (top 77) ["_law_one","_law_other"] ["_law_one","_law_other"] d_17:=tuI
theorem b_17:JAK "_law_plus" (top 77) ["_law_one","_law_other"]:=bOk fun _ _ _ _ _ _ _ _=>rfl
theorem f_17 (P:Params):FnIn (K P) "_law_plus" (top 77):=fnI 461 460 (.str "law_glideways_k34_areas_refused" 740)
theorem JOl {w:World} {h:Heap} {mg:Str→Option Value} (X:(K w.params).In h) (Gm:h.Ns mainGlobals mg):∀d,glo 39=.ok d→∃u v,mg "ZERO"=some u∧RelV v u∧∀H,Den ⟨K w.params,cl,w⟩ H d v:=JA1 X Gm (by kernel_rfl) rfl
theorem k_ONE {w:World} {h:Heap} {mg:Str→Option Value} (X:(K w.params).In h) (Gm:h.Ns mainGlobals mg):∀d,glo 40=.ok d→∃u v,mg "ONE"=some u∧RelV v u∧∀H,Den ⟨K w.params,cl,w⟩ H d v:=JA1 X Gm (by kernel_rfl) rfl
theorem JLv {w:World} {h:Heap} {mg:Str→Option Value} (X:(K w.params).In h) (Gm:h.Ns mainGlobals mg):∀d,glo 41=.ok d→∃u v,mg "KINDS"=some u∧RelV v u∧∀H,Den ⟨K w.params,cl,w⟩ H d v:=JA1 X Gm (by kernel_rfl) rfl
theorem JK7 {w:World} {h:Heap} {mg:Str→Option Value} (X:(K w.params).In h) (Gm:h.Ns mainGlobals mg):∀d,glo 55=.ok d→∃u v,mg "START"=some u∧RelV v u∧∀H,Den ⟨K w.params,cl,w⟩ H d v:=JA1 X Gm (by kernel_rfl) rfl
theorem JMk {w:World} {h:Heap} {mg:Str→Option Value} (X:(K w.params).In h) (Gm:h.Ns mainGlobals mg):∀d,glo 56=.ok d→∃u v,mg "GOAL"=some u∧RelV v u∧∀H,Den ⟨K w.params,cl,w⟩ H d v:=JA1 X Gm (by kernel_rfl) rfl
theorem JK1 {w:World} {h:Heap} {mg:Str→Option Value} (X:(K w.params).In h) (Gm:h.Ns mainGlobals mg):∀d,glo 57=.ok d→∃u v,mg "BEGIN"=some u∧RelV v u∧∀H,Den ⟨K w.params,cl,w⟩ H d v:=JA1 X Gm (by kernel_rfl) rfl
theorem JPE {w:World} {h:Heap} {mg:Str→Option Value} (X:(K w.params).In h) (Gm:h.Ns mainGlobals mg):∀d,glo 58=.ok d→∃u v,mg "LONG"=some u∧RelV v u∧∀H,Den ⟨K w.params,cl,w⟩ H d v:=JA1 X Gm (by kernel_rfl) rfl
theorem JOk {w:World} {h:Heap} {mg:Str→Option Value} (X:(K w.params).In h) (Gm:h.Ns mainGlobals mg):∀d,glo 59=.ok d→∃u v,mg "KIND"=some u∧RelV v u∧∀H,Den ⟨K w.params,cl,w⟩ H d v:=JA1 X Gm (by kernel_rfl) rfl
theorem JHt {w:World} {h:Heap} {mg:Str→Option Value} (X:(K w.params).In h) (Gm:h.Ns mainGlobals mg):∀d,glo 60=.ok d→∃u v,mg "SPEEDS"=some u∧RelV v u∧∀H,Den ⟨K w.params,cl,w⟩ H d v:=JA1 X Gm (by kernel_rfl) rfl
theorem JOd {w:World} {h:Heap} {mg:Str→Option Value} (X:(K w.params).In h) (Gm:h.Ns mainGlobals mg):∀d,glo 61=.ok d→∃u v,mg "KEPT"=some u∧RelV v u∧∀H,Den ⟨K w.params,cl,w⟩ H d v:=JA1 X Gm (by kernel_rfl) rfl
theorem JEe {w:World} {h:Heap} {mg:Str→Option Value} (X:(K w.params).In h) (Gm:h.Ns mainGlobals mg):∀d,glo 77=.ok d→∃u v,mg "NO_SPEEDS"=some u∧RelV v u∧∀H,Den ⟨K w.params,cl,w⟩ H d v:=JA1 X Gm (by kernel_rfl) rfl
theorem JLn {w:World} {h:Heap} {mg:Str→Option Value} (X:(K w.params).In h) (Gm:h.Ns mainGlobals mg):∀d,glo 93=.ok d→∃u v,mg "FIRST"=some u∧RelV v u∧∀H,Den ⟨K w.params,cl,w⟩ H d v:=JA1 X Gm (by kernel_rfl) rfl
theorem JGc {w:World} {h:Heap} {mg:Str→Option Value} (X:(K w.params).In h) (Gm:h.Ns mainGlobals mg):∀d,glo 94=.ok d→∃u v,mg "MOTIONS"=some u∧RelV v u∧∀H,Den ⟨K w.params,cl,w⟩ H d v:=JA1 X Gm (by kernel_rfl) rfl
theorem JH0 {w:World} {h:Heap} {mg:Str→Option Value} (X:(K w.params).In h) (Gm:h.Ns mainGlobals mg):∀d,glo 192=.ok d→∃u v,mg "SHARES"=some u∧RelV v u∧∀H,Den ⟨K w.params,cl,w⟩ H d v:=JMB X Gm (a:=350) (es:=([ent w.params "even" 640 (.ref 351),ent w.params "both" 643 (.ref 352),ent w.params "kept" 646 (.ref 353),ent w.params "in" 649 (.ref 354),ent w.params "out" 652 (.ref 355),ent w.params "hold" 655 (.ref 356),ent w.params "jump" 658 (.ref 357)]:List DictEntry).toArray) (ep:=7) (by kernel_rfl) (by kernel_rfl) (by decide) (show EntOk ⟨K w.params,cl,w⟩ w ([ent w.params "even" 640 (.ref 351),ent w.params "both" 643 (.ref 352),ent w.params "kept" 646 (.ref 353),ent w.params "in" 649 (.ref 354),ent w.params "out" 652 (.ref 355),ent w.params "hold" 655 (.ref 356),ent w.params "jump" 658 (.ref 357)]:List DictEntry) _ from .cons (x:="even") (t:=640) (d:=.tuple [.int 1,.int 2]) rfl rfl (JBD (B:=⟨K w.params,cl,w⟩) (n:=8) (by kernel_rfl)) (.cons (x:="both") (t:=643) (d:=.tuple [.int 1,.int 2]) rfl rfl (JBD (B:=⟨K w.params,cl,w⟩) (n:=8) (by kernel_rfl)) (.cons (x:="kept") (t:=646) (d:=.tuple [.int 1,.int 2]) rfl rfl (JBD (B:=⟨K w.params,cl,w⟩) (n:=8) (by kernel_rfl)) (.cons (x:="in") (t:=649) (d:=.tuple [.int 1,.int 3]) rfl rfl (JBD (B:=⟨K w.params,cl,w⟩) (n:=8) (by kernel_rfl)) (.cons (x:="out") (t:=652) (d:=.tuple [.int 2,.int 3]) rfl rfl (JBD (B:=⟨K w.params,cl,w⟩) (n:=8) (by kernel_rfl)) (.cons (x:="hold") (t:=655) (d:=.tuple [.int 0,.int 1]) rfl rfl (JBD (B:=⟨K w.params,cl,w⟩) (n:=8) (by kernel_rfl)) (.cons (x:="jump") (t:=658) (d:=.tuple [.int 1,.int 1]) rfl rfl (JBD (B:=⟨K w.params,cl,w⟩) (n:=8) (by kernel_rfl)) (.nil)))))))) (by decide +kernel) rfl
theorem mo (w:World) {h:Heap} {mg:Str→Option Value} (X:(K w.params).In h) (Gm:h.Ns mainGlobals mg):AllP (MoP mg ⟨K w.params,cl,w⟩ G tab glo) G :=
 ⟨⟨_,rfl,(f_23 w.params).at X Gm b_23 t_23⟩,⟨_,rfl,(f_0 w.params).at X Gm b_0 t_0⟩,⟨_,rfl,(f_24 w.params).at X Gm b_24 t_24⟩,⟨_,rfl,(f_68 w.params).at X Gm b_68 t_68⟩,⟨_,rfl,(f_1 w.params).at X Gm b_1 t_1⟩,⟨_,rfl,(f_2 w.params).at X Gm b_2 t_2⟩,⟨_,rfl,(f_3 w.params).at X Gm b_3 t_3⟩,⟨_,rfl,(f_4 w.params).at X Gm b_4 t_4⟩,⟨_,rfl,(f_5 w.params).at X Gm b_5 t_5⟩,⟨_,rfl,(f_25 w.params).at X Gm b_25 t_25⟩,⟨_,rfl,(f_179 w.params).at X Gm JId t_179⟩,⟨_,rfl,(f_6 w.params).at X Gm b_6 t_6⟩,⟨_,rfl,(f_7 w.params).at X Gm b_7 t_7⟩,⟨_,rfl,(f_8 w.params).at X Gm b_8 t_8⟩,⟨_,rfl,(f_10 w.params).at X Gm b_10 t_10⟩,⟨_,rfl,(f_29 w.params).at X Gm b_29 t_29⟩,⟨_,rfl,(f_30 w.params).at X Gm b_30 t_30⟩,⟨_,rfl,(f_31 w.params).at X Gm b_31 t_31⟩,⟨_,rfl,(f_32 w.params).at X Gm b_32 t_32⟩,⟨_,rfl,(f_69 w.params).at X Gm b_69 t_69⟩,⟨_,rfl,(f_70 w.params).at X Gm b_70 t_70⟩,⟨_,rfl,(f_71 w.params).at X Gm b_71 t_71⟩,⟨_,rfl,(f_72 w.params).at X Gm b_72 t_72⟩,⟨_,rfl,(f_46 w.params).at X Gm b_46 t_46⟩,⟨_,rfl,(f_47 w.params).at X Gm b_47 t_47⟩,⟨_,rfl,(f_48 w.params).at X Gm b_48 t_48⟩,⟨_,rfl,(f_49 w.params).at X Gm b_49 t_49⟩,⟨_,rfl,(f_81 w.params).at X Gm b_81 t_81⟩,⟨_,rfl,(f_82 w.params).at X Gm b_82 t_82⟩,⟨_,rfl,(f_96 w.params).at X Gm b_96 t_96⟩,⟨_,rfl,(f_97 w.params).at X Gm b_97 t_97⟩,⟨_,rfl,(f_85 w.params).at X Gm b_85 t_85⟩,⟨_,rfl,(f_188 w.params).at X Gm JIK t_188⟩,⟨_,rfl,(f_189 w.params).at X Gm JIp t_189⟩,⟨_,rfl,(f_193 w.params).at X Gm JGB t_193⟩,⟨_,rfl,(f_194 w.params).at X Gm JIg t_194⟩,⟨_,rfl,(f_195 w.params).at X Gm JCx t_195⟩,⟨_,rfl,(f_196 w.params).at X Gm JGW t_196⟩,⟨_,rfl,(f_197 w.params).at X Gm JGD t_197⟩,⟨_,rfl,(f_198 w.params).at X Gm JIR t_198⟩,⟨_,rfl,(f_199 w.params).at X Gm JHe t_199⟩,⟨_,rfl,(f_11 w.params).at X Gm b_11 t_11⟩,⟨_,rfl,(f_12 w.params).at X Gm b_12 t_12⟩,⟨_,rfl,(f_13 w.params).at X Gm b_13 t_13⟩,⟨_,rfl,(f_14 w.params).at X Gm b_14 t_14⟩,⟨_,rfl,(f_15 w.params).at X Gm b_15 t_15⟩,⟨_,rfl,(f_17 w.params).at X Gm b_17 t_17⟩,JOl X Gm,k_ONE X Gm,JLv X Gm,JK7 X Gm,JMk X Gm,JK1 X Gm,JPE X Gm,JOk X Gm,JHt X Gm,JOd X Gm,JEe X Gm,JLn X Gm,JGc X Gm,JH0 X Gm,⟨⟨by kernel_rfl,by kernel_rfl,by kernel_rfl⟩,mg_of X Gm (by kernel_rfl)⟩,⟨⟨by kernel_rfl,by kernel_rfl,by kernel_rfl⟩,mg_of X Gm (by kernel_rfl)⟩,⟨⟨by kernel_rfl,by kernel_rfl,by kernel_rfl⟩,mg_of X Gm (by kernel_rfl)⟩,⟨⟨by kernel_rfl,by kernel_rfl,by kernel_rfl⟩,mg_of X Gm (by kernel_rfl)⟩,⟨⟨by kernel_rfl,by kernel_rfl,by kernel_rfl⟩,mg_of X Gm (by kernel_rfl)⟩,⟨⟨by kernel_rfl,by kernel_rfl,by kernel_rfl⟩,mg_of X Gm (by kernel_rfl)⟩,⟨⟨by kernel_rfl,by kernel_rfl,by kernel_rfl⟩,mg_of X Gm (by kernel_rfl)⟩,⟨⟨by kernel_rfl,by kernel_rfl,by kernel_rfl⟩,mg_of X Gm (by kernel_rfl)⟩,⟨⟨by kernel_rfl,by kernel_rfl,by kernel_rfl⟩,mg_of X Gm (by kernel_rfl)⟩,mg_none_of X Gm (by kernel_rfl),mg_none_of X Gm (by kernel_rfl),mg_none_of X Gm (by kernel_rfl),mg_none_of X Gm (by kernel_rfl),mg_none_of X Gm (by kernel_rfl),mg_none_of X Gm (by kernel_rfl),mg_none_of X Gm (by kernel_rfl),mg_none_of X Gm (by kernel_rfl),mg_none_of X Gm (by kernel_rfl),trivial,trivial⟩
theorem ra (w:World):AllR (RaP ⟨K w.params,cl,w⟩ G) rs :=
 ⟨⟨⟨⟨by kernel_rfl,by kernel_rfl,by kernel_rfl,by kernel_rfl,by kernel_rfl,by kernel_rfl,by kernel_rfl⟩,by kernel_rfl⟩,trivial,trivial,trivial,trivial,trivial,trivial,trivial,trivial,trivial,trivial,trivial,trivial,trivial,trivial,trivial,trivial,trivial,trivial,trivial,trivial,trivial,trivial,trivial,trivial,trivial,trivial,trivial,trivial,trivial,trivial,trivial,trivial,trivial,trivial,trivial,trivial,trivial,trivial,trivial,trivial,trivial,trivial,trivial,trivial,trivial,trivial,trivial,trivial,trivial,trivial,trivial,trivial,trivial,trivial,trivial,trivial,trivial,trivial,trivial,trivial,trivial,JPA (by kernel_rfl) (by kernel_rfl),JEd (by kernel_rfl),JEd (by kernel_rfl),JEd (by kernel_rfl),JPA (by kernel_rfl) (by kernel_rfl),JEd (by kernel_rfl),JEd (by kernel_rfl),JEd (by kernel_rfl),JEd (by kernel_rfl),trivial,trivial,trivial,trivial,trivial,trivial,trivial,trivial,trivial,trivial,trivial⟩,trivial⟩
end V34
end
section
set_option Elab.async false
set_option maxHeartbeats 0
namespace V34
open PySem PySem.W VH L2 VI VI.VP
theorem gnd:(G.map (·.1)).Nodup:=by decide +kernel
theorem walk {d:DefRec} (hd:d.name="law") (hdf:d.params.defaults=[]):WalkO view loose (XL view []) hk.says PySem.Challenge.rw_glideways_k34_areas_refused.row.toRowW d [] (fun f vs=>PySem.call f vs) :=
 JHP (l:=PySem.Challenge.rw_glideways_k34_areas_refused) (K0:=K0) (P0:=505) (c0:=509) (fa0:=510) (n:=10) (cg:=0) (cl:=cl) (tab:=tab) (glo:=glo) (sub:=JES rs) (G:=G) (tn:="_law_told") (cn:="_law_class") (gn:="GlideError") (dn:="_law_deed") (en:="e") (xk:="_law_kept") (x:="_law_script") (st:=top 84) (stt:=top 83) (stc:=top 82) (N:=["_law_script","_law_still","_law_here","_law_good","_law_odd","_law_k","_law_thing","_law_told_here","_law_empty"]) (Nc:=["_law_kept","_law_kinds"]) (t:=JFx) (fdc:=d_252)
  rfl hd hdf ⟨rfl,by decide,by decide⟩ (by decide) (fun w h Y=>kIn_of Y) (fun P=>by kernel_rfl) (fun P=>lawI 510 509 (.str "law_glideways_k34_areas_refused" 740)) tu2 (bOk fun _ _ _ _ _ _ _=>rfl)
  (fun P base x=>JF7 (od:=none) (sl:=#[]) (vs:=#[.str "law" 851,.str "law" 852,.str "/claim/cut.py" 853,.int 253 0,.int 1 0,.int 0 0,.int 0 0,.int 3 0,.ref 504,.bool true,.int 181 0,.ref 505,.none,.ref 506,.ref 507,.ref 508,.int 863 0,.int 253 0,.str "/claim/cut.py" 864]) (by kernel_rfl) rfl rfl rfl rfl rfl rfl (by decide) base x) (fun w h mg X Gm base x=>JON (bm:=4) (sl:=#[]) X Gm (by kernel_rfl) (by decide) (by decide) (by decide) (by kernel_rfl) base x)
  (fun P=>fnI 503 502 (.str "law_glideways_k34_areas_refused" 740)) (bOk fun _ _ _ _ _ _ _=>rfl) toldI (fun P=>fnI 496 495 (.str "law_glideways_k34_areas_refused" 740)) (bOk fun _ _ _ _ _ _ _=>rfl) tuI (by kernel_rfl) (by kernel_rfl) gnd
  (fun w h mg KX Gm=>mo_of (mo w KX Gm) (ra w) JF8) (fun w h mg KX Gm n=>⟨JGy (JKE (mo w KX Gm) (ra w)) (by kernel_rfl) (by kernel_rfl) (by kernel_rfl) (d_no (by kernel_rfl)) (fun k z=>by cases k with | rev=>exact x_no (by kernel_rfl) z | enm=>exact x_no (by kernel_rfl) z | srt=>exact x_no (by kernel_rfl) z | zip=>exact x_no (by kernel_rfl) z | sst=>exact x_no (by kernel_rfl) z | dvs=>exact x_no (by kernel_rfl) z | dit=>exact x_no (by kernel_rfl) z | dls=>exact x_no (by kernel_rfl) z | dcp=>exact x_no (by kernel_rfl) z | dnw=>exact x_no (by kernel_rfl) z | din=>exact x_no (by kernel_rfl) z | dni=>exact x_no (by kernel_rfl) z | deq=>exact x_no (by kernel_rfl) z | dne=>exact x_no (by kernel_rfl) z | dtk=>exact x_no (by kernel_rfl) z | sts=>exact x_no (by kernel_rfl) z | dpr=>exact x_no (by kernel_rfl) z) ⟨fun _ X XX g=>JHT g,fun _ X XX g=>JHF g,nofl (by kernel_rfl),JOX,nofl (by kernel_rfl)⟩,⟨nofl (by kernel_rfl),nofl (by kernel_rfl),nofl (by kernel_rfl)⟩,nofl (by kernel_rfl)⟩)
  (fun w h mg KX Gm n=>⟨JGy (JLM (JJD gnd) (JKE (mo w KX Gm) (ra w))) (by kernel_rfl) (by kernel_rfl) (by kernel_rfl) (d_no (by kernel_rfl)) (fun k z=>by cases k with | rev=>exact x_no (by kernel_rfl) z | enm=>exact x_no (by kernel_rfl) z | srt=>exact x_no (by kernel_rfl) z | zip=>exact x_no (by kernel_rfl) z | sst=>exact x_no (by kernel_rfl) z | dvs=>exact x_no (by kernel_rfl) z | dit=>exact x_no (by kernel_rfl) z | dls=>exact x_no (by kernel_rfl) z | dcp=>exact x_no (by kernel_rfl) z | dnw=>exact x_no (by kernel_rfl) z | din=>exact x_no (by kernel_rfl) z | dni=>exact x_no (by kernel_rfl) z | deq=>exact x_no (by kernel_rfl) z | dne=>exact x_no (by kernel_rfl) z | dtk=>exact x_no (by kernel_rfl) z | sts=>exact x_no (by kernel_rfl) z | dpr=>exact x_no (by kernel_rfl) z) ⟨fun _ X XX g=>JHT g,fun _ X XX g=>JHF g,nofl (by kernel_rfl),nofl (by kernel_rfl),nofl (by kernel_rfl)⟩,⟨nofl (by kernel_rfl),nofl (by kernel_rfl),nofl (by kernel_rfl)⟩,nofl (by kernel_rfl)⟩)
  (fun ns hl=>JIM (n:=0) ⟨rfl,rfl,rfl,rfl,rfl,rfl,rfl,rfl,rfl⟩ rfl ns)
end V34
open PySem PySem.W PyProof.Rows
set_option maxRecDepth 100000 in
set_option maxHeartbeats 0 in
theorem PySem.Challenge.cw_glideways_k34_areas_refused_holds : PySem.Challenge.rw_glideways_k34_areas_refused.Holds := by
 w_on
 refine holds_law V34.said fun said=>?_
 refine holds_open (q:=V34.view) (loose:=V34.loose) (XP:=XL V34.view []) (Yf:=V34.hk.obs) (Ya:=V34.hk.val) (YP:=V34.hk.says) V34.left V34.hk.of V34.hk.keeps (fun s e=>xl_of s (Bool.and_eq_true_iff.mp e).1) XL.keeps (by rfl) (by rfl) (by rfl) (fun s e=>recFacts_of (Bool.and_eq_true_iff.mp e).2) (by rfl) (by first | assumption | decide +kernel) (by decide +kernel) ⟨rfl,rfl,rfl,rfl,rfl,by decide +kernel⟩ ?hw (V34.walk rfl rfl)
 case hw=>w_witness2
end
