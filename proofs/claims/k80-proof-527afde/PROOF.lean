import PyProof.Rows.All
import Wide.All
import OpenK.AllK
import Wide.FinOn
import Lean
import PyProof.EqAt
import PyProof.EqKinds
import PyProof.TupleCall
import KE.KIntText
import KE.KIsAll
import KE.KSortTup
import KE.KTryMore
import OpenK.KRaise
import PyProof.CompFree
import PyProof.ConsumeWalk
import PyProof.ExcAttrAll.ValueError
import PyProof.FString
import PyProof.FactsAll.list_3
import PyProof.FactsAll.tuple_2
import PyProof.Fits
import PyProof.Lay0
import PyProof.MeetsStr
import PyProof.P3Statements
import PyProof.Rows.StrNews
import PyProof.Rows.StrNews2
import PyProof.StrBlock2
import PyProof.StrCalls
import PyProof.StrCalls2
import PyProof.StrLawsIn
import PyProof.StrLawsOcc
import PyProof.StrWalks
import PySem.Eval
import PySem.Challenge.RW_glideways_k80_whole_texts
theorem fF{p:Prop}(h:False):p:=h.elim
set_option Elab.async false
set_option compiler.extract_closed false
set_option bootstrap.genMatcherCode false
set_option maxRecDepth 100000 in set_option maxHeartbeats 0 in theorem V80.said:PySem.Challenge.rw_glideways_k80_whole_texts.wellSaid=true:=by kernel_rfl
set_option maxRecDepth 100000
set_option Elab.async false
set_option linter.all false
abbrev Pq:=List (PySem.Addr×PySem.Obj)
abbrev Nq:=List (PySem.Str×PySem.NameKind)
abbrev Mq:=PySem.Str->Option PySem.Value
abbrev Vq:=PySem.Value->PySem.Shared->Prop
abbrev Kq:=PySem.W.Frag
namespace L2
open PySem PySem.Spec PyProof.Rows
noncomputable abbrev Key:=Sum Int Str
noncomputable def JJ5:Key→Value→Bool
 |.inl k,v=>Value.isInt k v
 |.inr x,v=>Value.isStrOf x v
noncomputable def keyH(w:World):Key→Int
 |.inl k=>hashInt k
 |.inr x=>hashStr w x
theorem JAe:∀ {k:Key}{v:Value},JJ5 k v=true→(∃i t,k=Sum.inl i∧v=Value.int i t)∨(∃x t,k=Sum.inr x∧v=Value.str x t)
 |.inl i,v,h=>by
  obtain⟨t,e⟩:=Value.isInt_shape (k:=i) (v:=v) h;exact .inl ⟨i,t,rfl,e⟩
 |.inr x,v,h=>by
  obtain⟨t,e⟩:=Value.isStrOf_shape (x:=x) (v:=v) h;exact .inr ⟨x,t,rfl,e⟩
theorem JIH(x:Str)(t:Tok):JJ5 (.inr x) (.str x t)=true:=by simp[JJ5,Value.isStrOf]
theorem JQF(a b:Int):decide ((Sum.inl a:Key)=Sum.inl b)=(a==b):=by
 by_cases e:a=b
 ·subst e;simp
 ·have h:¬(Sum.inl a:Key)=Sum.inl b:=λq=>e (Sum.inl.inj q);rw[decide_eq_false h];exact(beq_eq_false_iff_ne.mpr e).symm
theorem JOg(a b:Str):decide ((Sum.inr a:Key)=Sum.inr b)=decide (a=b):=by
 by_cases e:a=b
 ·subst e;simp
 ·have h:¬(Sum.inr a:Key)=Sum.inr b:=λq=>e (Sum.inr.inj q);rw[decide_eq_false h,decide_eq_false e]
theorem JQm(a:Int)(b:Str):decide ((Sum.inl a:Key)=Sum.inr b)=false:=decide_eq_false (λq=>nomatch q)
theorem JO6(a:Str)(b:Int):decide ((Sum.inr a:Key)=Sum.inl b)=false:=decide_eq_false (λq=>nomatch q)
noncomputable def JBO(prog:Program)(w:World):PySem.KeyKind prog w Key where
 is:=JJ5
 hash:=keyH w
 inj:=λv a b ha hb=>by
  rcases JAe ha with ⟨i,t,rfl,rfl⟩|⟨x,t,rfl,rfl⟩
  ·rcases JAe hb with ⟨j,u,rfl,e⟩|⟨y,u,rfl,e⟩
   ·injection e with e1 _;rw[e1]
   ·exact nomatch e
  ·rcases JAe hb with ⟨j,u,rfl,e⟩|⟨y,u,rfl,e⟩
   ·exact nomatch e
   ·injection e with e1 _;rw[e1]
 byValue:=λk v h=>by
  rcases JAe h with ⟨i,t,rfl,rfl⟩|⟨x,t,rfl,rfl⟩<;>rfl
 pyHash:=λhv h=>by
  rcases JAe hv with ⟨i,t,rfl,rfl⟩|⟨x,t,rfl,rfl⟩
  ·exact wpAny_pyHash_int h
  ·exact wpAny_pyHash_str h
 eqBool:=λhu hv h=>by
  rcases JAe hu with ⟨i,t,rfl,rfl⟩|⟨x,t,rfl,rfl⟩
  ·rcases JAe hv with ⟨j,u,rfl,rfl⟩|⟨y,u,rfl,rfl⟩
   ·rw[JQF]at h;exact wpAny_eqBool_int h
   ·rw[JQm]at h;exact SeqAt.EqAt.int_str i t y u _ _ _ _ h
  ·rcases JAe hv with ⟨j,u,rfl,rfl⟩|⟨y,u,rfl,rfl⟩
   ·rw[JO6]at h;exact SeqAt.EqAt.str_int x t j u _ _ _ _ h
   ·rw[JOg]at h;exact wpAny_eqBool_str h
 «strs»:=λk x t v h=>by
  rcases JAe h with ⟨i,u,rfl,e⟩|⟨y,u,rfl,e⟩
  ·exact nomatch e
  ·injection e with e1 _
   subst e1;cases v<;>rfl
theorem JCx(prog:Program)(w:World)(x:Str)(t:Tok):(JBO prog w).is (.inr x) (.str x t)=true:=JIH x t
end L2
namespace L2
open PySem PySem.Spec PyProof.Rows
inductive V where
 |non|bl (b:Bool)|int (i:Int)|str (x:Str)|byt (b:Array UInt8)|flt (b:UInt64)|ref (a:Addr)|ty (n:String)
 deriving DecidableEq
def RelV:V→Value→Prop
 |.non,u=>u=Value.none
 |.bl b,u=>u=Value.bool b
 |.int i,u=>∃t,u=Value.int i t
 |.str x,u=>∃t,u=Value.str x t
 |.byt b,u=>∃t,u=Value.bytes b t
 |.flt b,u=>∃t,u=Value.float b t
 |.ref a,u=>u=Value.ref a
 |.ty n,u=>u=Value.type n
abbrev Vals:List V→List Value→Prop:=Paired RelV
theorem Vals.length{xs:List V}{us:List Value}(r:Vals xs us):xs.length=us.length:=Paired.length r
theorem Vals.get:∀ {xs:List V}{us:List Value}{i:Nat}{x:V},Vals xs us→xs[i]? = some x→∃u,us[i]? = some u∧RelV x u
 |_,_,_,_,.nil,e=>by simp at e
 |_,_,0,_,.cons r _,e=>by simp at e;subst e;exact⟨_,rfl,r⟩
 |_,_,i+1,x,.cons _ t,e=>by
  obtain⟨u,h1,h2⟩:=Vals.get (i:=i) (x:=x) t (by simpa using e)
  exact⟨u,by simpa using h1,h2⟩
theorem Vals.append:∀ {xs ys:List V}{us ws:List Value},Vals xs us→Vals ys ws→Vals (xs++ys) (us++ws)
 |_,_,_,_,.nil,s=>s
 |_,_,_,_,.cons r t,s=>.cons r (Vals.append t s)
theorem Vals.take:∀ {xs:List V}{us:List Value}(n:Nat),Vals xs us→Vals (xs.take n) (us.take n)
 |_,_,0,_=>.nil
 |_,_,_+1,.nil=>.nil
 |_,_,n+1,.cons r t=>.cons r (Vals.take n t)
theorem Vals.drop:∀ {xs:List V}{us:List Value}(n:Nat),Vals xs us→Vals (xs.drop n) (us.drop n)
 |_,_,0,r=>r
 |_,_,_+1,.nil=>.nil
 |_,_,n+1,.cons _ t=>Vals.drop n t
def RelO:Option V→Option Value→Prop
 |some v,some u=>RelV v u
 |none,none=>True
 |_,_=>False
def KV{κ:Type}:List (κ×V)→List (κ×Value)→Prop:=Paired λ(p:κ×V) (q:κ×Value)=>p.1=q.1∧RelV p.2 q.2
noncomputable def kV:Key→V
 |.inl i=>.int i
 |.inr x=>.str x
inductive HO where
 |lst (xs:List V)
 |tup (xs:List V)
 |dK (kvs:List (Key×V))|dT (kvs:List (List Key×V))
 |set (S:Int→Bool) (n:Nat)
 |ins (C dx:Addr) (fs:List (Str×V))
 |own (x:Addr)
 |xd (fs:List (Str×V))
 |met (f x:Addr)
 |rng (lo hi:Int)
 |frz (o:Obj) (u:HO)
 |tbl (ps:Array Value)
 |ext (φ:Heap→Prop)
noncomputable abbrev Hp:=Addr→Option HO
noncomputable def upd(H:Hp)(a:Addr)(o:HO):Hp:=λb=>if b=a then some o else H b
theorem JAK{H:Hp}{a:Addr}{o:HO}:upd H a o a=some o:=by unfold upd;rw[if_pos rfl]
theorem JAI{H:Hp}{a b:Addr}{o:HO}(h:b≠a):upd H a o b=H b:=by unfold upd;rw[if_neg h]
theorem JAY{H:Hp}{a b:Addr}{o:HO}(h:H a=some o)(h':H b=none):a≠b:=by
 intro e;subst e;rw[h]at h';cases h'
section
variable(P:Program)(w:World)
def ObjOk(H:Hp)(h:Heap)(a:Addr):HO→Prop
 |.lst xs=>xs.length≤sizeLine∧∃(its:List Value) (n:Nat),Vals xs its∧h.get? a=some { cls:=.type "list",data:=.seq its.toArray n }
 |.tup xs=>xs.length≤sizeLine∧∃its:List Value,Vals xs its∧IsTup h a its.toArray
 |.dK kvs=>kvs.length≤sizeLine∧(a==sysModules)=false∧∃vs,KV kvs vs∧h.DictOf (JBO P w) a vs
 |.dT kvs=>kvs.length≤sizeLine∧(a==sysModules)=false∧∃xs:List (List Key×Addr×Value),
  Paired (λ(p:List Key×V) (q:List Key×Addr×Value)=>p.1=q.1∧H q.2.1=some (.tup (p.1.map kV))∧RelV p.2 q.2.2) kvs xs ∧
  ∃o es ep,h.get? a=some o∧o.ExactDict∧o.data=.dict es ep∧es.toList=xs.map (entryOfKey (tupleKind (JBO P w)))∧(xs.map (·.1)).Nodup
 |.set S n=>h.SetOf (intKind P w) a S n
 |.ins C dx fs=>H dx=some (.own a)∧fs.length≤1000∧dx≠a∧h.get? a=some (PySem.W.instObj C dx) ∧
  ∃mA,h.Ns1 dx mA∧(∀f,RelO (fs.lookup f) (mA f))∧PySem.Within mA (fs.map (·.1))
 |.own _=>∃o,h.get? a=some o
 |.xd fs=>∃mA,h.Ns1 a mA∧∀f,RelO (fs.lookup f) (mA f)
 |.rng lo hi=>∃t u v,h.get? a=some { cls:=.type "range",data:=.fields #[.int lo t,.int hi u,.int 1 v] }
 |.frz o u=>h.get? a=some o∧ObjOk H h a u
 |.tbl ps=>h.get? a=some { cls:=.none,data:=.fields ps }
 |.met f x=>h.get? a=some (PySem.W.methodObj (.ref f) (.ref x))
 |.ext φ=>φ h∧(∃o,h.get? a=some o)∧∀h1 h2:Heap,φ h1→(∀o,h1.get? a=some o→h2.get? a=some o)→φ h2
def HOk(H:Hp)(h:Heap):Prop:=∀a o,H a=some o→ObjOk P w H h a o
end
section
variable{P:Program}{w:World}{H H':Hp}{h h':Heap}{a:Addr}{o:HO}
theorem ObjOk.lt(x:ObjOk P w H h a o):a<h.objs.size:=by
 cases o with
 |lst xs=>obtain⟨_,_,_,_,e⟩:=x;exact Heap.lt_size e
 |tup xs=>obtain⟨_,_,_,p⟩:=x;exact p.lt
 |dK kvs=>obtain⟨_,_,_,_,o,_,_,e,_⟩:=x;exact Heap.lt_size e
 |dT kvs=>obtain⟨_,_,_,_,o,_,_,e,_⟩:=x;exact Heap.lt_size e
 |set S n=>obtain⟨o,_,_,_,e,_⟩:=x;exact Heap.lt_size e
 |ins C dx fs=>obtain⟨_,_,_,e,_⟩:=x;exact Heap.lt_size e
 |own y=>obtain⟨_,e⟩:=x;exact Heap.lt_size e
 |xd fs=>obtain⟨_,⟨_,_,_,e,_⟩,_⟩:=x;exact Heap.lt_size e
 |rng lo hi=>obtain⟨_,_,_,e⟩:=x;exact Heap.lt_size e
 |frz ob u=>obtain⟨e,_⟩:=x;exact Heap.lt_size e
 |tbl ps=>exact Heap.lt_size (show h.get? a=some _ from x)
 |met f y=>exact Heap.lt_size (show h.get? a=some _ from x)
 |ext φ=>obtain⟨_,⟨_,e⟩,_⟩:=x;exact Heap.lt_size e
theorem Paired.mapP{α β:Type}{F G:α→β→Prop}:∀ {l₁:List α}{l₂:List β},Paired F l₁ l₂→(∀a b,F a b→G a b)→Paired G l₁ l₂
 |_,_,.nil,_=>.nil
 |_,_,.cons r t,f=>.cons (f _ _ r) (Paired.mapP t f)
theorem ObjOk.stay(x:ObjOk P w H h a o)(k:∀b u,(b=a∨H b=some (.own a))→h.get? b=some u→h'.get? b=some u)
  (ho:∀b,H b=some (.own a)→H' b=some (.own a)) (ht:∀b xs,H b=some (.tup xs)→H' b=some (.tup xs)):ObjOk P w H' h' a o:=by
 induction o with
 |lst xs=>obtain⟨z,its,n,r,e⟩:=x;exact⟨z,its,n,r,k _ _ (.inl rfl) e⟩
 |tup xs=>obtain⟨z,its,r,ob,e,c⟩:=x;exact⟨z,its,r,ob,k _ _ (.inl rfl) e,c⟩
 |dK kvs=>obtain⟨z,y,vs,r,ob,es,ep,e,c⟩:=x;exact⟨z,y,vs,r,ob,es,ep,k _ _ (.inl rfl) e,c⟩
 |dT kvs =>
  obtain⟨z,y,xs,r,ob,es,ep,e,c⟩:=x;exact⟨z,y,xs,Paired.mapP r λp q z=>⟨z.1,ht _ _ z.2.1,z.2.2⟩,ob,es,ep,k _ _ (.inl rfl) e,c⟩
 |set S n=>obtain⟨ob,es,ep,t,e,c⟩:=x;exact⟨ob,es,ep,t,k _ _ (.inl rfl) e,c⟩
 |ins C dx fs =>
  obtain⟨d,z,ne,e,mA,⟨od,es,ep,e2,c⟩,r⟩:=x;exact⟨ho _ d,z,ne,k _ _ (.inl rfl) e,mA,⟨od,es,ep,k _ _ (.inr d) e2,c⟩,r⟩
 |own y=>obtain⟨ob,e⟩:=x;exact⟨ob,k _ _ (.inl rfl) e⟩
 |xd fs=>obtain⟨mA,⟨od,es,ep,e,c⟩,r⟩:=x;exact⟨mA,⟨od,es,ep,k _ _ (.inl rfl) e,c⟩,r⟩
 |rng lo hi=>obtain⟨t,u,v,e⟩:=x;exact⟨t,u,v,k _ _ (.inl rfl) e⟩
 |frz ob u ih=>obtain⟨e,q⟩:=x;exact⟨k _ _ (.inl rfl) e,ih q⟩
 |tbl ps =>
  have e:h.get? a=some { cls:=.none,data:=.fields ps }:=x;show h'.get? a=some { cls:=.none,data:=.fields ps };exact k a _ (.inl rfl) e
 |met f y =>
  have e:h.get? a=some (PySem.W.methodObj (.ref f) (.ref y)):=x;show h'.get? a=some (PySem.W.methodObj (.ref f) (.ref y));exact k a _ (.inl rfl) e
 |ext φ=>obtain⟨p,⟨o,e⟩,st⟩:=x;exact⟨st _ _ p λo q=>k _ _ (.inl rfl) q,⟨o,k _ _ (.inl rfl) e⟩,st⟩
theorem HOk.lt(x:HOk P w H h)(e:H a=some o):a<h.objs.size:=(x a o e).lt
theorem HOk.fresh(x:HOk P w H h)(e:h.objs.size≤a):H a=none:=by
 cases q:H a with
 |none=>rfl
 |some u=>exact absurd (Nat.lt_of_lt_of_le (x.lt q) e) (Nat.lt_irrefl _)
theorem HOk.kept(x:HOk P w H h)(k:∀b u,h.get? b=some u→h'.get? b=some u):HOk P w H h':=λa o e =>
 (x a o e).stay (λb u _ q=>k b u q) (λ_ q=>q) λ_ _ q=>q
theorem HOk.laid(x:HOk P w H h)(k:∀b u,h.get? b=some u→h'.get? b=some u)(hp:h.objs.size≤a)(new:ObjOk P w (upd H a o) h' a o):HOk P w (upd H a o) h':=λb u e=>by
 have hn:=x.fresh hp
 by_cases hb:b=a
 ·subst hb;rw[JAK]at e;cases e;exact new
 ·rw[JAI hb]at e;exact(x b u e).stay (λc v _ q=>k c v q) (λc q=>by rw[JAI (JAY q hn)];exact q) λc xs q=>by rw[JAI (JAY q hn)];exact q
end
def Rd(H:Hp)(a:Addr)(u:HO):Prop:=H a=some u∨∃o,H a=some (.frz o u)
theorem Rd.of{H:Hp}{a:Addr}{u:HO}(h:H a=some u):Rd H a u:=.inl h
theorem Rd.ok{P:Program}{w:World}{H:Hp}{h:Heap}{a:Addr}{u:HO}(r:Rd H a u)(x:HOk P w H h):ObjOk P w H h a u:=by
 rcases r with r|⟨o,r⟩
 ·exact x a u r
 ·obtain⟨_,q⟩:=x a _ r;exact q
def Mut:Option HO→Prop
 |some (.lst _)=>True
 |some (.dK _)=>True
 |some (.dT _)=>True
 |some (.set _ _)=>True
 |some (.ins _ _ _)=>True
 |some (.ext _)=>True
 |_=>False
section
variable{P:Program}{w:World}{H:Hp}{h h':Heap}{x e:Addr}{o':HO}
theorem HOk.write(ok:HOk P w H h)(mu:Mut (H x))(he:e=x∨H e=some (.own x))(k:∀b u,b≠e→h.get? b=some u→h'.get? b=some u)(heo:∃u,h'.get? e=some u)
  (new:ObjOk P w (upd H x o') h' x o'):HOk P w (upd H x o') h':=λb u q=>by
 have nown:∀c y,H c=some (.own y)→c≠x:=λc y r z=>by subst z;rw[r]at mu;exact mu
 have ntup:∀c xs,H c=some (.tup xs)→c≠x:=λc xs r z=>by subst z;rw[r]at mu;exact mu
 by_cases hb:b=x
 ·subst hb;rw[JAK]at q;cases q;exact new
 ·rw[JAI hb]at q
  by_cases hbe:b=e
  · have q':H b=some (.own x):=by
     rcases he with z|z
     ·exact absurd (hbe.trans z) hb
     ·rw[hbe];exact z
    rw[q]at q';cases q';obtain⟨v,hv⟩:=heo;exact⟨v,by rw[hbe];exact hv⟩
  · refine(ok b u q).stay (λc v hc r=>k c v ?_ r) (λc r=>by rw[JAI (nown c b r)];exact r) λc xs r=>by rw[JAI (ntup c xs r)];exact r
    rcases hc with rfl|hc
    ·exact hbe
    ·rintro rfl;rcases he with z|z
     ·exact nown c b hc z
     ·rw[hc]at z;cases z;exact hb rfl
end
structure Un(fs ex:List Addr)(H H':Hp)(h h':Heap):Prop where
 keep:∀b o,h.get? b=some o→H b=none→b ∉ fs→b ∉ ex→h'.get? b=some o
 slot:∀b o,h.get? b=some o→H b=none→b∈fs→b ∉ ex→∃sl,h'.get? b=some { o with slots:=sl }
 free:∀b o,h.get? b=some o→H b=none→b ∉ ex→H' b=none
 there:∀b o,h.get? b=some o→b ∉ ex→∃o',h'.get? b=some o'
 tups:∀b xs,H b=some (.tup xs)→H' b=some (.tup xs)
 frzs:∀b o u,H b=some (.frz o u)→H' b=some (.frz o u)
 tbls:∀b ps,H b=some (.tbl ps)→∃more,H' b=some (.tbl (ps++more))
section
variable{fs fs' ex ex':List Addr}{H H1 H2:Hp}{h h1 h2 h':Heap}{a x e:Addr}{o:HO}
theorem Un.any(u:Un fs ex H H1 h h1){b:Addr}{ob:Obj}(q:h.get? b=some ob)(n:H b=none)(hx:b ∉ ex):∃sl,h1.get? b=some { ob with slots:=sl }:=by
 by_cases hb:b∈fs
 ·exact u.slot b ob q n hb hx
 ·exact⟨ob.slots,u.keep b ob q n hb hx⟩
theorem Un.kept(k:∀b u,h.get? b=some u→h'.get? b=some u):Un fs ex H H h h' :=
 ⟨λb ob q _ _ _=>k b ob q,λb ob q _ _ _=>⟨ob.slots,k b ob q⟩,λ_ _ _ n _=>n,λb ob q _=>⟨ob,k b ob q⟩,λ_ _ q=>q,λ_ _ _ q=>q,λ_ ps q=>⟨#[],by rw[q];simp⟩⟩
theorem Un.refl:Un fs ex H H h h:=Un.kept λ_ _ q=>q
theorem Un.laid(k:∀b u,h.get? b=some u→h'.get? b=some u)(hp:h.objs.size≤a)(hn:H a=none):Un fs ex H (upd H a o) h h' where
 keep:=λb u q _ _ _=>k b u q
 slot:=λb u q _ _ _=>⟨u.slots,k b u q⟩
 free:=λb u q n _=>by rw[JAI (Nat.ne_of_lt (Nat.lt_of_lt_of_le (Heap.lt_size q) hp))];exact n
 there:=λb u q _=>⟨u,k b u q⟩
 tups:=λb xs q=>by rw[JAI (JAY q hn)];exact q
 frzs:=λb u xs q=>by rw[JAI (JAY q hn)];exact q
 tbls:=λb ps q=>⟨#[],by rw[JAI (JAY q hn),q];simp⟩
theorem Un.write(mu:Mut (H x))(he:e=x∨H e=some (.own x))(k:∀b u,b≠e→h.get? b=some u→h'.get? b=some u)(heo:∃u,h'.get? e=some u):Un fs ex H (upd H x o) h h':=by
 have hx:∀b,H b=none→b≠x:=λb n z=>by subst z;rw[n]at mu;exact mu
 have hb:∀b,H b=none→b≠e:=λb n z=>by
  subst z;rcases he with r|r
  ·exact hx b n r
  ·rw[n]at r;cases r
 have hm:∀b u,H b=some u→¬Mut (some u)→b≠x:=λb u q nm z=>by subst z;rw[q]at mu;exact nm mu
 refine⟨λb u q n _ _=>k b u (hb b n) q,λb u q n _ _=>⟨u.slots,k b u (hb b n) q⟩,λb u q n _=>by rw[JAI (hx b n)];exact n,λb u q _=>?_,
  λb xs q=>by rw[JAI (hm b _ q λz=>z)];exact q,λb u xs q=>by rw[JAI (hm b _ q λz=>z)];exact q,λb ps q=>⟨#[],by rw[JAI (hm b _ q λz=>z),q];simp⟩⟩
 by_cases hbe:b=e
 ·subst hbe;exact heo
 ·exact⟨u,k b u hbe q⟩
theorem Un.mono(u:Un fs ex H H1 h h1)(hs:∀b∈fs,b∈fs')(hx:∀b∈ex,b∈ex'):Un fs' ex' H H1 h h1 :=
 ⟨λb ob q n hb he=>u.keep b ob q n (λz=>hb (hs b z)) λz=>he (hx b z),λ_ _ q n _ he=>u.any q n λz=>he (hx _ z),λb ob q n he=>u.free b ob q n λz=>he (hx b z),λb ob q he=>u.there b ob q λz=>he (hx b z),u.tups,u.frzs,u.tbls⟩
end
noncomputable def trk(h:Heap)(H:Hp):List Addr:=(List.range h.objs.size).filter λa=>(H a).isSome
noncomputable def hidT(h:Heap)(H:Hp):Heap:=PySem.W.hideAll h (trk h H)
theorem JIO(h:Heap)(H:Hp):(hidT h H).objs.size=h.objs.size:=PySem.W.hideAll_size _ _
theorem JKI{h:Heap}{H:Hp}{b:Addr}{o:Obj}(e:h.get? b=some o)(n:H b=none):(hidT h H).get? b=some o :=
 PySem.W.hideAll_get _ e λhm=>by
  have q:(H b).isSome=true:=(List.mem_filter.mp hm).2;rw[n]at q;simp at q
theorem JMw{h:Heap}{H:Hp}{b:Addr}{o:Obj}(e:(hidT h H).get? b=some o):h.get? b=some o∧H b=none:=by
 have e':h.get? b=some o:=PySem.W.of_hideAll (trk h H) e;refine⟨e',?_⟩;cases q:H b with
 |none=>rfl
 |some x =>
  have hm:b∈trk h H:=List.mem_filter.mpr ⟨List.mem_range.mpr (Heap.lt_size e'),by simp[q]⟩
  have z:(hidT h H).get? b=none:=PySem.W.hideAll_none (trk h H) hm;rw[z]at e;cases e
noncomputable def JMq(g h:Heap)(L:Addr):Pq:=(List.range h.objs.size).filterMap λa=>if a=L∨(g.get? a).isSome=true then none else (h.get? a).map λo=>(a,o)
noncomputable def rest(g h:Heap)(L d:Addr):Pq:=(JMq g h L).filter λp=>decide (p.1≠d)
end L2
namespace L2
open PySem PySem.Spec PyProof.Rows
structure Mod(K:Kq)(mg:Str→Option Value)(base:Heap):Prop where
 kin:K.In base
 glob:base.Ns mainGlobals mg
 blt:∃mb,base.Ns builtinsNs mb∧∀x:Str,x≠"__name__"→mb x=bootBuiltins x
 nolimit:base.NoLimit
structure Cx where
 prog:Program
 w:World
 K:Kq
 mg:Str→Option Value
 base:Heap
 A:Around
 N:List Str
 s₀:Shared
 H₀:Hp
 env:Env
 outer:List Env
 stack:List Env
 ex:List Addr
 fn:Str→Bool
 calm:Bool
 pn:Pq
 xe:Value→Shared→Prop
noncomputable def frs(l:List Env):List Addr:=l.filterMap (·.frame)
noncomputable abbrev Cx.fs(X:Cx):List Addr:=frs X.outer
def Vis(sc:Scope)(x:Str):Prop:=sc.names.lookup x=some .local∨sc.names.lookup x=some .cell∨sc.names.lookup x=some .free
def Loc(sc:Scope)(x:Str):Prop:=sc.names.lookup x=some .local∨sc.names.lookup x=some .cell
def Look(env:Env)(h:Heap)(m:Str→Option Value)(x:Str)(u:Value):Prop :=
 (env.kindOf x=some .local∧m x=some u)∨((env.kindOf x=some .cell∨env.kindOf x=some .free)∧∃c,env.cells.lookup x=some c∧h.IsCell c (some u))
structure Cx.Ok(X:Cx):Prop where
 mod:Mod X.K X.mg X.base
 kind:X.env.scope.kind=.function
 glob:X.env.globals=mainGlobals
 blt:X.env.builtins=builtinsNs
 above:X.s₀.heap.objs.size≤X.env.locals
 inj:∀x y c,X.env.cells.lookup x=some c→X.env.cells.lookup y=some c→x=y
 has:∀x,(X.env.kindOf x=some .cell∨X.env.kindOf x=some .free)→∃c,X.env.cells.lookup x=some c
 cab:∀x c,X.fn x=true→X.env.cells.lookup x=some c→X.s₀.heap.objs.size≤c
 hd:X.calm=true→X.A.handled=none
 frames:X.A.frames=some X.stack
 stk:X.stack=X.outer∨(X.stack=X.env::X.outer∧X.env.frame=some X.env.locals)
 exf:∀b∈X.ex,b≠X.env.locals∧∀x c,X.env.cells.lookup x=some c→c≠b
 bs:∀b o,X.base.get? b=some o→X.s₀.heap.get? b=some o∧X.H₀ b=none
 bsz:X.base.objs.size≤X.s₀.heap.objs.size
 noex:∀b o,X.base.get? b=some o→b ∉ X.ex
 exfs:∀b∈X.ex,b ∉ X.fs
 funs:X.s₀.heap.FunFrames X.base X.outer
 frf:∀b∈X.fs,X.H₀ b=none
structure Inv(X:Cx)(pins:Pq)(σ:List (Option V))(H:Hp)(s:Shared):Prop where
 ok:X.Ok
 os:s.os=X.s₀.os
 bare:AllBare s.gens
 base:Un X.fs X.ex X.H₀ H X.s₀.heap s.heap
 loc:∃m,s.heap.Ns X.env.locals m∧∀(i:Nat) (x:Str) (v:V),X.N[i]? = some x→σ[i]? = some (some v)→Vis X.env.scope x→∃u,RelV v u∧Look X.env s.heap m x u
 cell:∀x c,X.env.cells.lookup x=some c→∃v,s.heap.IsCell c v
 free:H X.env.locals=none
 freeC:∀x c,X.env.cells.lookup x=some c→H c=none
 pin:∀p∈X.pn++pins,s.heap.get? p.1=some p.2∧H p.1=none∧p.1≠X.env.locals∧p.1 ∉ X.fs∧∀v,p.2.data≠.cell v
 hok:HOk X.prog X.w H s.heap
 len:σ.length=X.N.length
section
variable{X:Cx}{pins:Pq}{σ:List (Option V)}{H H':Hp}{s:Shared}{h':Heap}
theorem Cx.Ok.nofr(ok:X.Ok){b:Addr}{o:Obj}(e:X.base.get? b=some o):b ∉ X.fs:=λhb=>by
 have:=(ok.funs.mem hb).1;rw[e]at this;cases this
theorem Inv.bs(I:Inv X pins σ H s):∀b o,X.base.get? b=some o→s.heap.get? b=some o∧H b=none:=λb o e =>
 ⟨I.base.keep b o (I.ok.bs b o e).1 (I.ok.bs b o e).2 (I.ok.nofr e) (I.ok.noex b o e),I.base.free b o (I.ok.bs b o e).1 (I.ok.bs b o e).2 (I.ok.noex b o e)⟩
theorem Inv.bk(I:Inv X pins σ H s):∀b o,X.base.get? b=some o→s.heap.get? b=some o:=λb o e=>(I.bs b o e).1
theorem Inv.mod(I:Inv X pins σ H s):Mod X.K X.mg X.base:=I.ok.mod
theorem Inv.kIn(I:Inv X pins σ H s):X.K.In s.heap:=I.ok.mod.kin.keeps I.bk
theorem Inv.lt(I:Inv X pins σ H s):X.env.locals<s.heap.objs.size:=let ⟨_,hn,_⟩:=I.loc;hn.lt
theorem Inv.sz(I:Inv X pins σ H s):X.s₀.heap.objs.size≤s.heap.objs.size:=Nat.le_trans I.ok.above (Nat.le_of_lt I.lt)
theorem Inv.nofs(I:Inv X pins σ H s){a:Addr}(h:s.heap.objs.size≤a):a ∉ X.fs:=λhb=>by
 obtain⟨_,o,ho,_⟩:=I.ok.funs.mem hb;exact absurd (Nat.lt_of_lt_of_le (Heap.lt_size ho) (Nat.le_trans I.sz h)) (Nat.lt_irrefl _)
theorem Inv.cne(I:Inv X pins σ H s):∀x c,X.env.cells.lookup x=some c→c≠X.env.locals:=λx c e z=>by
 obtain⟨v,o,ho,hd⟩:=I.cell x c e;obtain⟨m,⟨o',es,ep,ho',hd',_⟩,_⟩:=I.loc;rw[z,ho']at ho;cases ho;rw[hd']at hd;cases hd
theorem Inv.funs(I:Inv X pins σ H s):s.heap.FunFrames X.base X.outer:=by
 have all:∀(l:List Env),(∀b∈frs l,b∈X.fs)→X.s₀.heap.FunFrames X.base l→s.heap.FunFrames X.base l:=by
  intro l
  induction l with
  |nil=>intro _ _;trivial
  |cons env r ih =>
   intro hs hl;obtain⟨hk,⟨L,o,hf,hn,ho,hd⟩,hr⟩:=hl;have hL:L∈X.fs:=hs L (by unfold frs;rw[List.filterMap_cons,hf];exact List.mem_cons_self)
   obtain⟨sl,e⟩:=I.base.slot L o ho (I.ok.frf L hL) hL λz=>I.ok.exfs L z hL;exact⟨hk,⟨L,_,hf,hn,e,hd⟩,ih (λb hb=>hs b (by unfold frs;rw[List.filterMap_cons,hf];exact List.mem_cons_of_mem _ hb)) hr⟩
 exact all X.outer (λ_ hb=>hb) I.ok.funs
theorem Inv.stack(I:Inv X pins σ H s):s.heap.FunFrames X.base X.stack:=by
 rcases I.ok.stk with e|⟨e,hf⟩
 ·rw[e];exact I.funs
 ·rw[e];obtain⟨m,hn,_⟩:=I.loc;refine .cons (by rw[I.ok.kind];decide) hf hn ?_ I.funs
  exact Heap.get?_none_of_le (Nat.le_trans I.ok.bsz I.ok.above)
theorem Inv.stkSub(I:Inv X pins σ H s):∀b∈frs X.stack,b∈X.env.locals::X.fs:=λb hb=>by
 rcases I.ok.stk with e|⟨e,hf⟩
 ·rw[e]at hb;exact List.mem_cons_of_mem _ hb
 ·rw[e]at hb;unfold frs at hb;rw[List.filterMap_cons,hf]at hb;exact hb
theorem Inv.stkFree(I:Inv X pins σ H s):∀b∈frs X.stack,H b=none:=λb hb=>by
 rcases List.mem_cons.mp (I.stkSub b hb) with e|hb
 ·rw[e];exact I.free
 ·obtain⟨_,o,ho,_⟩:=I.ok.funs.mem hb;exact I.base.free b o ho (I.ok.frf b hb) λz=>I.ok.exfs b z hb
theorem Inv.step{g':Array GenState}{t':Nat}{d':Drawn}{ch:List Addr}(I:Inv X pins σ H s)
  (hch:∀b∈ch,(b∈X.ex∨X.s₀.heap.objs.size≤b)∧b≠X.env.locals∧(∀x c,X.env.cells.lookup x=some c→c≠b)∧∀p∈X.pn++pins,p.1≠b)
  (keep:∀b o,b≠X.env.locals→b ∉ X.fs→b ∉ ch→s.heap.get? b=some o→H b=none→h'.get? b=some o)
  (slot:∀b o,b≠X.env.locals→b∈X.fs→b ∉ ch→s.heap.get? b=some o→H b=none→∃sl,h'.get? b=some { o with slots:=sl }) (free:∀b o,b ∉ ch→s.heap.get? b=some o→H b=none→H' b=none)
  (there:∀b o,b ∉ ch→s.heap.get? b=some o→∃o',h'.get? b=some o')
  (tups:∀b xs,H b=some (.tup xs)→H' b=some (.tup xs)) (frzs:∀b o u,H b=some (.frz o u)→H' b=some (.frz o u)) (tbls:∀b ps,H b=some (.tbl ps)→∃more,H' b=some (.tbl (ps++more)))
  (ns:∀m,s.heap.Ns X.env.locals m→h'.Ns X.env.locals m) (hok:HOk X.prog X.w H' h') (hg:AllBare g') :
  Inv X pins σ H' { s with heap:=h',gens:=g',drawn:=d',toks:=t' }:=by
 have neL:∀b o,X.s₀.heap.get? b=some o→b≠X.env.locals:=λb o e=>Nat.ne_of_lt (Nat.lt_of_lt_of_le (Heap.lt_size e) I.ok.above);have neC:∀b o,X.s₀.heap.get? b=some o→b ∉ X.ex→b ∉ ch:=λb o e hx hb=>by
  rcases(hch b hb).1 with z|z
  · exact hx z
  · exact absurd (Nat.lt_of_lt_of_le (Heap.lt_size e) z) (Nat.lt_irrefl _)
 have cellK:∀x c,X.env.cells.lookup x=some c→∀v,s.heap.IsCell c v→h'.IsCell c v:=λx c e v h_=>by
  obtain⟨o,ho,hd⟩:=h_;have nch:c ∉ ch:=λz=>(hch c z).2.2.1 x c e rfl
  by_cases hc:c∈X.fs
  · obtain⟨sl,q⟩:=slot c o (I.cne x c e) hc nch ho (I.freeC x c e)
    exact⟨_,q,hd⟩
  · exact⟨o,keep c o (I.cne x c e) hc nch ho (I.freeC x c e),hd⟩
 refine⟨I.ok,I.os,hg,⟨λb o e n hb hx=>?_,λb o e n hb hx=>?_,λb o e n hx=>?_,λb o e hx=>?_,λb xs e=>tups b xs (I.base.tups b xs e),λb o xs e=>frzs b o xs (I.base.frzs b o xs e),λb ps e=>?_⟩,?_,λx c e=>?_,?_,λx c e=>?_,λp hp=>?_,hok,I.len⟩
 ·exact keep b o (neL b o e) hb (neC b o e hx) (I.base.keep b o e n hb hx) (I.base.free b o e n hx)
 ·obtain⟨sl,e1⟩:=I.base.slot b o e n hb hx;obtain⟨sl',e2⟩:=slot b _ (neL b o e) hb (neC b o e hx) e1 (I.base.free b o e n hx);exact⟨sl',e2⟩
 ·obtain⟨o',e1⟩:=I.base.there b o e hx;exact free b o' (neC b o e hx) e1 (I.base.free b o e n hx)
 ·obtain⟨o',e1⟩:=I.base.there b o e hx;exact there b o' (neC b o e hx) e1
 ·obtain⟨m1,e1⟩:=I.base.tbls b ps e;obtain⟨m2,e2⟩:=tbls b _ e1;exact⟨m1++m2,by rw[e2,Array.append_assoc]⟩
 ·obtain⟨m,hn,hl⟩:=I.loc;refine⟨m,ns m hn,λi x v e1 e2 e3=>?_⟩;obtain⟨u,r,l⟩:=hl i x v e1 e2 e3;refine⟨u,r,?_⟩;rcases l with l|⟨k,c,e,z⟩
  · exact .inl l
  · exact .inr ⟨k,c,e,cellK x c e _ z⟩
 ·obtain⟨v,z⟩:=I.cell x c e;exact⟨v,cellK x c e v z⟩
 ·obtain⟨m,⟨o,_,_,ho,_⟩,_⟩:=I.loc;exact free _ o (λz=>(hch _ z).2.1 rfl) ho I.free
 ·obtain⟨v,o,ho,hd⟩:=I.cell x c e;exact free c o (λz=>(hch c z).2.2.1 x c e rfl) ho (I.freeC x c e)
 ·obtain⟨e,n,ne,nf,d⟩:=I.pin p hp;have nch:p.1 ∉ ch:=λz=>(hch p.1 z).2.2.2 p hp rfl;exact⟨keep p.1 p.2 ne nf nch e n,free p.1 p.2 nch e n,ne,nf,d⟩
theorem Inv.un{t':Nat}(I:Inv X pins σ H s)(u:Un X.fs [] H H' s.heap h')(hok:HOk X.prog X.w H' h'):Inv X pins σ H' { s with heap:=h',toks:=t' }:=by
 obtain⟨m,⟨o,es,ep,ho,r⟩,_⟩:=id I.loc;obtain⟨sl,hL⟩:=u.any ho I.free (by simp)
 exact I.step (g':=s.gens) (d':=s.drawn) (ch:=[]) (λ_ z=>nomatch z) (λb o _ hb _ e n=>u.keep b o e n hb (by simp)) (λb o _ hb _ e n=>u.slot b o e n hb (by simp)) (λb o _ e n=>u.free b o e n (by simp)) (λb o _ e=>u.there b o e (by simp)) u.tups u.frzs u.tbls (λm' hm=>by
  obtain⟨o',es',ep',ho',r'⟩:=hm;rw[ho]at ho';cases ho';exact⟨_,es',ep',hL,r'⟩) hok I.bare
theorem Inv.call{g':Array GenState}{t':Nat}{d':Drawn}{ch:List Addr}(I:Inv X pins σ H s)(u:Un (frs X.stack) ch H H' s.heap h')(hok:HOk X.prog X.w H' h')(hg:AllBare g')
  (hch:∀b∈ch,(b∈X.ex∨X.s₀.heap.objs.size≤b)∧b≠X.env.locals∧(∀x c,X.env.cells.lookup x=some c→c≠b)∧∀p∈X.pn++pins,p.1≠b) :
  Inv X pins σ H' { s with heap:=h',gens:=g',drawn:=d',toks:=t' }:=by
 obtain⟨m,⟨o,es,ep,ho,r⟩,_⟩:=id I.loc;obtain⟨sl,hL⟩:=u.any ho I.free λz=>(hch _ z).2.1 rfl;exact I.step (ch:=ch) hch (λb o hL hb hc e n=>u.keep b o e n (λz=>(List.mem_cons.mp (I.stkSub b z)).elim hL hb) hc) (λb o _ _ hc e n=>u.any e n hc) (λb o hc e n=>u.free b o e n hc) (λb o hc e=>u.there b o e hc) u.tups u.frzs u.tbls (λm' hm=>by
  obtain⟨o',es',ep',ho',r'⟩:=hm;rw[ho]at ho';cases ho';exact⟨_,es',ep',hL,r'⟩) hok hg
theorem Inv.turned{t':Nat}{it:Addr}(I:Inv X pins σ H s)(k:∀b o,b≠it→s.heap.get? b=some o→h'.get? b=some o)(hn:H it=none)(hL:it≠X.env.locals)
  (h1:it∈X.ex∨X.s₀.heap.objs.size≤it) (h2:∀x c,X.env.cells.lookup x=some c→c≠it) (h3:∀p∈X.pn++pins,p.1≠it):Inv X pins σ H { s with heap:=h',toks:=t' }:=by
 have nit:∀b u,H b=some u→b≠it:=λb u e z=>by rw[z,hn]at e;cases e
 refine I.step (g':=s.gens) (d':=s.drawn) (ch:=[it]) (λb hb=>?_) (λb o _ _ hc e _=>k b o (λz=>hc (by simp[z])) e) (λb o _ _ hc e _=>⟨o.slots,k b o (λz=>hc (by simp[z])) e⟩) (λ_ _ _ _ n=>n)
  (λb o hc e=>⟨o,k b o (λz=>hc (by simp[z])) e⟩) (λ_ _ e=>e) (λ_ _ _ e=>e) (λb ps e=>⟨#[],by rw[e];simp⟩) (λm hm=>?_) (λb u e=>?_) I.bare
 ·have e:b=it:=by simpa using hb
  subst e;exact⟨h1,hL,h2,h3⟩
 ·obtain⟨o,es,ep,ho,r⟩:=hm;exact⟨o,es,ep,k _ o (Ne.symm hL) ho,r⟩
 ·refine(I.hok b u e).stay (λc v hc q=>k c v ?_ q) (λ_ q=>q) λ_ _ q=>q;rcases hc with z|z
  · rw[z];exact nit b u e
  · exact nit c _ z
theorem Inv.tok(I:Inv X pins σ H s)(t:Nat):Inv X pins σ H { s with toks:=t }:=I.un (h':=s.heap) (t':=t) Un.refl I.hok
theorem Inv.kept{t':Nat}(I:Inv X pins σ H s)(k:∀b u,s.heap.get? b=some u→h'.get? b=some u):Inv X pins σ H { s with heap:=h',toks:=t' }:=I.un (Un.kept k) (I.hok.kept k)
theorem Inv.laid{a:Addr}{o:HO}{t':Nat}(I:Inv X pins σ H s)(k:∀b u,s.heap.get? b=some u→h'.get? b=some u)(hp:s.heap.objs.size≤a)(new:ObjOk X.prog X.w (upd H a o) h' a o) :
 Inv X pins σ (upd H a o) { s with heap:=h',toks:=t' }:=I.un (Un.laid k hp (I.hok.fresh hp)) (I.hok.laid k hp new)
theorem Inv.write{x e:Addr}{o:HO}{t':Nat}(I:Inv X pins σ H s)(mu:Mut (H x))(he:e=x∨H e=some (.own x))(k:∀b u,b≠e→s.heap.get? b=some u→h'.get? b=some u)(heo:∃u,h'.get? e=some u)
 (new:ObjOk X.prog X.w (upd H x o) h' x o):Inv X pins σ (upd H x o) { s with heap:=h',toks:=t' }:=I.un (Un.write mu he k heo) (I.hok.write mu he k heo new)
theorem Inv.pins_of{pins':Pq}(I:Inv X pins σ H s)(h:∀p∈pins',s.heap.get? p.1=some p.2∧H p.1=none∧p.1≠X.env.locals∧p.1 ∉ X.fs∧∀v,p.2.data≠.cell v):Inv X pins' σ H s :=
 ⟨I.ok,I.os,I.bare,I.base,I.loc,I.cell,I.free,I.freeC,λp hp=>(List.mem_append.mp hp).elim (λz=>I.pin p (List.mem_append_left _ z)) (h p),I.hok,I.len⟩
theorem JEE{N:List Str}(hN:N.Nodup){i j:Nat}{x:Str}(a:N[i]? = some x)(b:N[j]? = some x):i=j:=by
 obtain⟨h1,e1⟩:=List.getElem?_eq_some_iff.mp a;obtain⟨h2,e2⟩:=List.getElem?_eq_some_iff.mp b;exact(List.getElem_inj hN).mp (e1.trans e2.symm)
theorem JFS{M:Model}{A:Around}{E:Value→Shared→Prop}{i:Nat}{x:Str}{v:V}{u:Value}{Q:Unit→Shared→Prop}(I:Inv X pins σ H s)(hN:X.N.Nodup)(hi:X.N[i]? = some x)(hx:Loc X.env.scope x)(r:RelV v u)
  (h:∀s',Inv X pins (σ.set i (some v)) H s'→(∃a,Heap.SameBut a s.heap s'.heap∧(a=X.env.locals∨X.env.cells.lookup x=some a))→Q () s') (hf:X.fn x=true∨X.env.scope.names.lookup x=some .local:=by first|exact .inl rfl|exact .inr rfl|assumption):wpAny M A (storeName X.env x u) Q E s:=by
 obtain⟨m,hn,hl⟩:=id I.loc;have hcls:(X.env.scope.kind==.class || (X.env.scope.kind==.module&&X.env.locals != X.env.globals))=false:=by rw[I.ok.kind];rfl
 have hiσ:i<σ.length:=by rw[I.len];exact(List.getElem?_eq_some_iff.mp hi).1
 have cne:=I.cne;have tracked:∀ {a:Addr}{h':Heap},(∃o,s.heap.get? a=some o∧H a=none)→Heap.SameBut a s.heap h'→HOk X.prog X.w H h':=λ{a h'} ha hs b ob e=>by
  obtain⟨_,_,hfree⟩:=ha;refine(I.hok b ob e).stay (λc w' hc q=>(hs.2 c ?_).trans q) (λ_ q=>q) λ_ _ q=>q;rintro rfl;rcases hc with rfl|hc
  · rw[hfree]at e;cases e
  · rw[hfree]at hc;cases hc
 rcases hx with hk|hk
 ·refine wpAny_storeName_local hk hn (λh' hn' hs=>?_) hcls;obtain⟨oL,_,_,hoL,_⟩:=id hn;refine h _ ⟨I.ok,I.os,I.bare,⟨λb o e n hb hx=>?_,λb o e n hb hx=>?_,I.base.free,λb o e hx=>?_,I.base.tups,I.base.frzs,I.base.tbls⟩,⟨_,hn',λj y v' e1 e2 e3=>?_⟩,λy c e=>?_,I.free,I.freeC,λp hp=>?_,tracked ⟨oL,hoL,I.free⟩ hs,by simpa using I.len⟩ ⟨_,hs,.inl rfl⟩
  · exact(hs.2 b (Nat.ne_of_lt (Nat.lt_of_lt_of_le (Heap.lt_size e) I.ok.above))).trans (I.base.keep b o e n hb hx)
  · obtain⟨sl,e1⟩:=I.base.slot b o e n hb hx
    exact⟨sl,(hs.2 b (Nat.ne_of_lt (Nat.lt_of_lt_of_le (Heap.lt_size e) I.ok.above))).trans e1⟩
  · obtain⟨o',e1⟩:=I.base.there b o e hx
    exact⟨o',(hs.2 b (Nat.ne_of_lt (Nat.lt_of_lt_of_le (Heap.lt_size e) I.ok.above))).trans e1⟩
  · by_cases hj:j=i
    ·subst hj;rw[hi]at e1;cases e1;rw[List.getElem?_set_self hiσ]at e2;cases e2;exact⟨u,r,.inl ⟨hk,by simp⟩⟩
    ·rw[List.getElem?_set_ne (Ne.symm hj)]at e2;obtain⟨u',r',q⟩:=hl j y v' e1 e2 e3;refine⟨u',r',?_⟩;rcases q with ⟨k,e⟩|⟨k,c,e,z⟩
     ·refine .inl ⟨k,?_⟩;have:y≠x:=λe=>hj (JEE hN e1 (e▸hi));simp[this,e]
     ·exact .inr ⟨k,c,e,z.sameBut hs (cne y c e)⟩
  · obtain⟨w',z⟩:=I.cell y c e
    exact⟨w',z.sameBut hs (cne y c e)⟩
  · obtain⟨e,n,ne,nf,d⟩:=I.pin p hp
    exact⟨(hs.2 p.1 ne).trans e,n,ne,nf,d⟩
 ·have hfn:X.fn x=true:=by
    rcases hf with z|z
    ·exact z
    ·rw[z]at hk;cases hk
  obtain⟨c,hc⟩:=I.ok.has x (.inl hk);obtain⟨w',z⟩:=I.cell x c hc;refine wpAny_storeName_cell I.ok.kind hk hc z (λh' hc' hs=>?_);obtain⟨oc,hoc,hocd⟩:=id z;refine h { s with heap:=h' } ⟨I.ok,I.os,I.bare,⟨λb o e n hb hx=>?_,λb o e n hb hx=>?_,I.base.free,λb o e hx=>?_,I.base.tups,I.base.frzs,I.base.tbls⟩,⟨m,hn.sameBut hs (Ne.symm (cne x c hc)),λj y v' e1 e2 e3=>?_⟩,λy c' e=>?_,I.free,I.freeC,λp hp=>?_,tracked ⟨oc,hoc,I.freeC x c hc⟩ hs,by simpa using I.len⟩ ⟨c,hs,.inr hc⟩
  · exact(hs.2 b (Nat.ne_of_lt (Nat.lt_of_lt_of_le (Heap.lt_size e) (I.ok.cab x c hfn hc)))).trans (I.base.keep b o e n hb hx)
  · obtain⟨sl,e1⟩:=I.base.slot b o e n hb hx
    exact⟨sl,(hs.2 b (Nat.ne_of_lt (Nat.lt_of_lt_of_le (Heap.lt_size e) (I.ok.cab x c hfn hc)))).trans e1⟩
  · obtain⟨o',e1⟩:=I.base.there b o e hx
    exact⟨o',(hs.2 b (Nat.ne_of_lt (Nat.lt_of_lt_of_le (Heap.lt_size e) (I.ok.cab x c hfn hc)))).trans e1⟩
  · by_cases hj:j=i
    ·subst hj;rw[hi]at e1;cases e1;rw[List.getElem?_set_self hiσ]at e2;cases e2;exact⟨u,r,.inr ⟨.inl hk,c,hc,hc'⟩⟩
    ·rw[List.getElem?_set_ne (Ne.symm hj)]at e2;obtain⟨u',r',q⟩:=hl j y v' e1 e2 e3;refine⟨u',r',?_⟩;rcases q with q|⟨k,c',e,z'⟩
     ·exact .inl q
     ·refine .inr ⟨k,c',e,z'.sameBut hs ?_⟩;rintro rfl;exact hj (JEE hN e1 (I.ok.inj _ _ _ e hc▸hi))
  · by_cases hcc:c'=c
    ·subst hcc;exact⟨_,hc'⟩
    ·obtain⟨w2,z2⟩:=I.cell y c' e;exact⟨w2,z2.sameBut hs hcc⟩
  · obtain⟨e,n,ne,nf,d⟩:=I.pin p hp
    refine⟨(hs.2 p.1 ?_).trans e,n,ne,nf,d⟩;intro q;rw[q,hoc]at e;have q':oc=p.2:=Option.some.inj e;exact d w' (by rw[←q'];exact hocd)
theorem JBu{M:Model}{A:Around}{E:Value→Shared→Prop}{i:Nat}{x:Str}{v:V}{u:Value}{Q:Unit→Shared→Prop}(I:Inv X pins σ H s)(hN:X.N.Nodup)(hi:X.N[i]? = some x)(hx:Loc X.env.scope x)(r:RelV v u)
  (h:∀s',Inv X pins (σ.set i (some v)) H s'→Q () s') (hf:X.fn x=true∨X.env.scope.names.lookup x=some .local:=by first|exact .inl rfl|exact .inr rfl|assumption):wpAny M A (storeName X.env x u) Q E s :=
 JFS I hN hi hx r (λs' I' _=>h s' I') hf
theorem Inv.call'{s':Shared}{ch:List Addr}(I:Inv X pins σ H s)(ho:s'.os=s.os)(u:Un (frs X.stack) ch H H' s.heap s'.heap)(hok:HOk X.prog X.w H' s'.heap)(hg:AllBare s'.gens)
  (hch:∀b∈ch,(b∈X.ex∨X.s₀.heap.objs.size≤b)∧b≠X.env.locals∧(∀x c,X.env.cells.lookup x=some c→c≠b)∧∀p∈X.pn++pins,p.1≠b):Inv X pins σ H' s':=by
 obtain⟨h',g',d',t',o'⟩:=s';have e:o'=s.os:=ho;subst e;exact I.call (g':=g') (t':=t') (d':=d') u hok hg hch
end
noncomputable abbrev XK:=Value→Option Addr→Hp→Prop
noncomputable abbrev St:=List (Option V)
noncomputable abbrev VK:=V→Hp→Prop
noncomputable abbrev TE:=St→Hp→VK→Prop
noncomputable abbrev TT:=St→Hp→(Bool→Hp→Prop)→Prop
noncomputable abbrev TA:=St→Hp→(List V→Hp→Prop)→Prop
structure Ends where
 nx:St→Hp→Prop
 rt:VK
 bk:St→Hp→Prop:=λ_ _=>False
 ct:St→Hp→Prop:=λ_ _=>False
noncomputable abbrev TS:=Ends→St→Hp→Prop
def EP(X:Cx)(pins:Pq)(σ:St)(Q:VK)(u:Value)(s':Shared):Prop:=∃v H',Inv X pins σ H' s'∧RelV v u∧Q v H'
def TP(X:Cx)(pins:Pq)(σ:St)(Q:Bool→Hp→Prop)(b:Bool)(s':Shared):Prop:=∃H',Inv X pins σ H' s'∧Q b H'
def AP(X:Cx)(pins:Pq)(σ:St)(Q:List V→Hp→Prop)(us:List Value)(s':Shared):Prop:=∃vs H',Inv X pins σ H' s'∧Vals vs us∧Q vs H'
def SP(X:Cx)(pins:Pq)(D:Ends)(f:Flow)(s':Shared):Prop :=
 match f with
 |.next=>∃σ' H',Inv X pins σ' H' s'∧D.nx σ' H'
 |.brk=>∃σ' H',Inv X pins σ' H' s'∧D.bk σ' H'
 |.cont=>∃σ' H',Inv X pins σ' H' s'∧D.ct σ' H'
 |.ret u=>∃v σ' H',Inv X pins σ' H' s'∧RelV v u∧D.rt v H'
def PE(X:Cx)(e:Expr)(t:TE):Prop :=
 ∀(pins:Pq) (s:Shared) (σ:St) (H:Hp) (Q:VK),Inv X pins σ H s→t σ H Q→wpAny (model X.prog X.w) X.A (eval e X.env) (EP X pins σ Q) X.xe s
def PT(X:Cx)(e:Expr)(t:TT):Prop :=
 ∀(pins:Pq) (s:Shared) (σ:St) (H:Hp) (Q:Bool→Hp→Prop),Inv X pins σ H s→t σ H Q→wpAny (model X.prog X.w) X.A (isTrue e X.env (eval e X.env)) (TP X pins σ Q) X.xe s
def PW(X:Cx)(e:Expr)(t:TT):Prop :=
 ∀(whole:Sem Value) (pins:Pq) (s:Shared) (σ:St) (H:Hp) (Q:Bool→Hp→Prop),Inv X pins σ H s→t σ H Q→wpAny (model X.prog X.w) X.A (isTrue e X.env whole) (TP X pins σ Q) X.xe s
theorem PW.pt{X:Cx}{e:Expr}{t:TT}(h:PW X e t):PT X e t:=h _
def PA(X:Cx)(es:List Expr)(t:TA):Prop :=
 ∀(pos:Pos) (pins:Pq) (s:Shared) (σ:St) (H:Hp) (Q:List V→Hp→Prop),Inv X pins σ H s→t σ H Q→wpAny (model X.prog X.w) X.A (spliced (backTo pos (starEach es X.env))) (AP X pins σ Q) X.xe s
def PS(X:Cx)(st:Stmt)(t:TS):Prop :=
 ∀(pins:Pq) (s:Shared) (σ:St) (H:Hp) (D:Ends),Inv X pins σ H s→t D σ H→wpAny (model X.prog X.w) X.A (exec st X.env) (SP X pins D) X.xe s
def PSs(X:Cx)(st:List Stmt)(t:TS):Prop :=
 ∀(pins:Pq) (s:Shared) (σ:St) (H:Hp) (D:Ends),Inv X pins σ H s→t D σ H→wpAny (model X.prog X.w) X.A (execs st X.env) (SP X pins D) X.xe s
theorem thn{α:Type}{t:Sem α}{Q Q':α→Shared→Prop}{M:Model}{A:Around}{E:Value→Shared→Prop}{s:Shared}(h:wpAny M A t Q E s)(hQ:∀a s,Q a s→Q' a s):wpAny M A t Q' E s:=wpAny_mono h hQ λ_ _ x=>x
end L2
namespace L2
open PySem PySem.Spec PyProof.Rows
section
variable{X:Cx}
def tVar(i:Nat):TE:=λσ H Q=>∃v,σ[i]? = some (some v)∧Q v H
def tC(v:V):TE:=λ_ H Q=>Q v H
theorem JAh{i:Nat}{x:Str}{pos:Pos}(hN:X.N[i]? = some x)(hv:Vis X.env.scope x)(hd:(x==("__debug__":Str))=false:=by decide)(hcd:(x==("__classdict__":Str))=false:=by decide):PE X (.Name x pos) (tVar i):=by
 intro pins s σ H Q I h;obtain⟨v,e,h⟩:=h;obtain⟨m,hn,hl⟩:=I.loc;obtain⟨u,r,l⟩:=hl i x v hN e hv;have fin:EP X pins σ Q u s:=⟨v,H,I,r,h⟩;rcases l with ⟨hk,hm⟩|⟨hk,c,hc,hcell⟩
 ·exact wpAny_Name (wpAny_loadName_local I.ok.kind hk hn hm fin) hd
 ·rcases hk with hk|hk
  ·exact wpAny_Name (wpAny_loadName_cell I.ok.kind hk hc hcell fin) hd
  ·exact wpAny_Name (wpAny_loadName_free I.ok.kind hk hc hcell fin hcd) hd
theorem JCH{i j pos}:PE X (.Constant (.int i) j pos) (tC (.int i)):=λ_ _ _ H _ I h=>wpAny_Constant_int ⟨.int i,H,I.tok _,⟨_,rfl⟩,h⟩
theorem JIX{b j pos}:PE X (.Constant (.bool b) j pos) (tC (.bl b)):=λ_ _ _ H _ I h=>Constant_bool ⟨.bl b,H,I,rfl,h⟩
theorem JQ1{j pos}:PE X (.Constant .none j pos) (tC .non):=λ_ _ _ H _ I h=>Constant_none ⟨.non,H,I,rfl,h⟩
theorem JCg{x j pos}:PE X (.Constant (.str x) j pos) (tC (.str x)):=λ_ _ _ H _ I h=>Calls.Constant_str ⟨.str x,H,I.tok _,⟨_,rfl⟩,h⟩
def Gl(X:Cx)(x:Str):Prop:=X.env.kindOf x=some .globalImplicit
theorem JEL{E:Value→Shared→Prop}{pins:Pq}{s:Shared}{σ:St}{H:Hp}{x:Str}{u:Value}{pos:Pos}{Q:Value→Shared→Prop}(I:Inv X pins σ H s)(hg:Gl X x)(hm:X.mg x=some u)(h:Q u s)
  (hd:(x==("__debug__":Str))=false:=by decide):wpAny (model X.prog X.w) X.A (eval (.Name x pos) X.env) Q E s :=
 Calls.Name_function_global I.ok.kind hg (Calls.loadGlobal_global (by rw[I.ok.glob];exact I.mod.glob.keeps I.bk) hm h) hd
theorem JEc{E:Value→Shared→Prop}{pins:Pq}{s:Shared}{σ:St}{H:Hp}{x:Str}{u:Value}{pos:Pos}{Q:Value→Shared→Prop}(I:Inv X pins σ H s)(hg:Gl X x)(hm:X.mg x=none)(hv:bootBuiltins x=some u)(h:Q u s)
  (hn:x≠"__name__":=by decide) (hd:(x==("__debug__":Str))=false:=by decide):wpAny (model X.prog X.w) X.A (eval (.Name x pos) X.env) Q E s:=by
 obtain⟨mb,h1,h2⟩:=I.mod.blt;exact Calls.Name_function_global I.ok.kind hg (Calls.loadGlobal_builtin (by rw[I.ok.glob];exact I.mod.glob.keeps I.bk) hm (by rw[I.ok.blt];exact h1.keeps I.bk) ((h2 x hn).trans hv) h) hd
theorem JFr{x:Str}{v:V}{u:Value}{pos:Pos}(hg:Gl X x)(hm:X.mg x=some u)(r:RelV v u)(hd:(x==("__debug__":Str))=false:=by decide):PE X (.Name x pos) (tC v) :=
 λ_ _ _ H _ I h=>JEL I hg hm ⟨v,H,I,r,h⟩ hd
theorem JMf{x:Str}{v:V}{u:Value}{pos:Pos}(hg:Gl X x)(hm:X.mg x=none)(hv:bootBuiltins x=some u)(r:RelV v u)(hn:x≠"__name__":=by decide)(hd:(x==("__debug__":Str))=false:=by decide):PE X (.Name x pos) (tC v) :=
 λ_ _ _ H _ I h=>JEc I hg hm hv ⟨v,H,I,r,h⟩ hn hd
variable{a b:Expr}{ta tb:TE}{pos:Pos}
def PC(X:Cx)(op:CmpOp)(a b:Expr)(t:TE):Prop :=
 ∀(pins:Pq) (s:Shared) (σ:St) (H:Hp) (Q:VK),Inv X pins σ H s→t σ H Q →
  wpAny (model X.prog X.w) X.A (eval a X.env) (λv s₁=>wpAny (model X.prog X.w) X.A (eval b X.env) (λu s₂=>wpAny (model X.prog X.w) X.A (compareOp op v u) (EP X pins σ Q) X.xe s₂) X.xe s₁) X.xe s
theorem JF9(b:Expr){op:CmpOp}(h:op≠.In)(h2:op≠.NotIn):behindInMarks op b=false:=by
 have e1:(op==CmpOp.In)=false:=by cases op<;>first|rfl|exact absurd rfl h
 have e2:(op==CmpOp.NotIn)=false:=by cases op<;>first|rfl|exact absurd rfl h2
 cases b<;>simp[behindInMarks,e1,e2]
def tIsN(ta:TE):TE:=λσ H Q=>ta σ H λx H1=>Q (.bl (decide (x=.non))) H1
def tNotN(ta:TE):TE:=λσ H Q=>ta σ H λx H1=>Q (.bl (!decide (x=.non))) H1
theorem RelV.none_iff{x:V}{v:Value}(r:RelV x v):(v==Value.none)=decide (x=.non):=by
 cases x with
 |non=>cases r;rfl
 |bl _=>cases r;rfl
 |int _=>obtain⟨t,rfl⟩:=r;rfl
 |str _=>obtain⟨t,rfl⟩:=r;rfl
 |byt _=>obtain⟨t,rfl⟩:=r;rfl
 |flt _=>obtain⟨t,rfl⟩:=r;rfl
 |ref _=>cases r;rfl
 |ty _=>cases r;rfl
theorem JLG{j pos'}(ha:PE X a ta):PC X .Is a (.Constant .none j pos') (tIsN ta):=by
 intro pins s σ H Q I h;refine thn (ha pins s σ H _ I h) λv s1 h_=>?_;obtain⟨x,H1,I1,r1,q1⟩:=h_;exact Constant_none (is_none_gen ⟨.bl _,H1,I1,by rw[r1.none_iff];rfl,q1⟩)
theorem JHo{j pos'}(ha:PE X a ta):PC X .IsNot a (.Constant .none j pos') (tNotN ta):=by
 intro pins s σ H Q I h;refine thn (ha pins s σ H _ I h) λv s1 h_=>?_;obtain⟨x,H1,I1,r1,q1⟩:=h_;exact Constant_none (isnot_none_gen ⟨.bl _,H1,I1,by rw[r1.none_iff];rfl,q1⟩)
def tB(t:TE):TT:=λσ H Q=>t σ H λx H1=>∃c,x=.bl c∧Q c H1
theorem JKo{op:CmpOp}{t:TE}(h:PC X op a b t)(h1:behindInMarks op b=false:=by first|exact JF9 _ (by decide) (by decide)|rfl):PE X (.Compare a [op] [b] pos) t:=λpins s σ H Q I hw=>wpAny_Compare1 (h pins s σ H Q I hw) h1
theorem JK8{op:CmpOp}{t:TE}(h:PC X op a b t)(h1:behindInMarks op b=false:=by first|exact JF9 _ (by decide) (by decide)|rfl):PT X (.Compare a [op] [b] pos) (tB t):=by
 intro pins s σ H Q I hw;refine wpAny_isTrue_Compare1 (thn (h pins s σ H _ I hw) λv s1 h1=>thn h1 λu s2 h2=>thn h2 λc s3 ⟨x,H1,I1,r1,q1⟩=>?_) h1;obtain⟨d,rfl,q⟩:=q1;cases r1;exact wpAny_truthy_bool ⟨H1,I1,q⟩
variable{tA tB':TT}{rest:List Expr}
def tAnd(t u:TT):TT:=λσ H Q=>t σ H λc H1=>if c=true then u σ H1 Q else Q false H1
def tOr(t u:TT):TT:=λσ H Q=>t σ H λc H1=>if c=true then Q true H1 else u σ H1 Q
def tNot(t:TT):TT:=λσ H Q=>t σ H λc H1=>Q (!c) H1
theorem JNE(ha:PT X a tA):PW X (.BoolOp .And [a] pos) tA:=by
 intro wh pins s σ H Q I h;refine isTrue_and (thn (ha pins s σ H Q I h) λc s1 e=>?_);cases c with
 |true=>exact isTrue_and_nil e
 |false=>exact e
theorem JRC(ha:PT X a tA):PW X (.BoolOp .Or [a] pos) tA:=by
 intro wh pins s σ H Q I h;refine isTrue_or (thn (ha pins s σ H Q I h) λc s1 e=>?_);cases c with
 |false=>exact isTrue_or_nil e
 |true=>exact e
theorem JQ9(ha:PT X a tA)(hb:PW X (.BoolOp .And (b::rest) pos) tB'):PW X (.BoolOp .And (a::b::rest) pos) (tAnd tA tB'):=by
 intro wh pins s σ H Q I h;refine isTrue_and (thn (ha pins s σ H _ I h) λc s1 h_=>?_);obtain⟨H1,I1,q1⟩:=h_;cases c with
 |true=>exact hb wh pins s1 σ H1 Q I1 q1
 |false=>exact⟨H1,I1,q1⟩
theorem pw_or(ha:PT X a tA)(hb:PW X (.BoolOp .Or (b::rest) pos) tB'):PW X (.BoolOp .Or (a::b::rest) pos) (tOr tA tB'):=by
 intro wh pins s σ H Q I h;refine isTrue_or (thn (ha pins s σ H _ I h) λc s1 h_=>?_);obtain⟨H1,I1,q1⟩:=h_;cases c with
 |true=>exact⟨H1,I1,q1⟩
 |false=>exact hb wh pins s1 σ H1 Q I1 q1
theorem JQl(ha:PT X a tA):PT X (.UnaryOp .Not a pos) (tNot tA):=by
 intro pins s σ H Q I h;exact isTrue_not (ha pins s σ H (λc H1=>Q (!c) H1) I h)
def tAndV(ta tb:TE):TE:=λσ H Q=>ta σ H λx H1=>∃c,x=.bl c∧if c=true then tb σ H1 Q else Q (.bl false) H1
def tOrV(ta tb:TE):TE:=λσ H Q=>ta σ H λx H1=>∃c,x=.bl c∧if c=true then Q (.bl true) H1 else tb σ H1 Q
theorem JLA{op}{t:TE}(h:PE X a t):PE X (.BoolOp op [a] pos) t:=λpins s σ H Q I hw=>BoolOp_one (h pins s σ H Q I hw)
theorem JOn(ha:PE X a ta)(hb:PE X (.BoolOp .And (b::rest) pos) tb):PE X (.BoolOp .And (a::b::rest) pos) (tAndV ta tb):=by
 intro pins s σ H Q I h;refine BoolOp_and (thn (ha pins s σ H _ I h) λv s1 h_=>?_);obtain⟨x,H1,I1,r1,q1⟩:=h_;obtain⟨c,rfl,q1⟩:=q1;cases r1;refine wpAny_truthy_bool ?_;cases c with
 |true=>exact hb pins s1 σ H1 Q I1 q1
 |false=>exact⟨.bl false,H1,I1,rfl,q1⟩
theorem pe_or(ha:PE X a ta)(hb:PE X (.BoolOp .Or (b::rest) pos) tb):PE X (.BoolOp .Or (a::b::rest) pos) (tOrV ta tb):=by
 intro pins s σ H Q I h;refine BoolOp_or (thn (ha pins s σ H _ I h) λv s1 h_=>?_);obtain⟨x,H1,I1,r1,q1⟩:=h_;obtain⟨c,rfl,q1⟩:=q1;cases r1;refine wpAny_truthy_bool ?_;cases c with
 |false=>exact hb pins s1 σ H1 Q I1 q1
 |true=>exact⟨.bl true,H1,I1,rfl,q1⟩
def tIf(t:TT)(ta tb:TE):TE:=λσ H Q=>t σ H λc H1=>if c=true then ta σ H1 Q else tb σ H1 Q
theorem JJq{c:Expr}(hc:PT X c tA)(ha:PE X a ta)(hb:PE X b tb):PE X (.IfExp c a b pos) (tIf tA ta tb):=by
 intro pins s σ H Q I h;refine wpAny_IfExp (thn (hc pins s σ H _ I h) λd s1 h_=>?_);obtain⟨H1,I1,q1⟩:=h_;cases d with
 |true=>exact ha pins s1 σ H1 Q I1 q1
 |false=>exact hb pins s1 σ H1 Q I1 q1
end
end L2
namespace L2
open PySem PySem.Spec PyProof.Rows
def SqL(K:Kq)(H:Hp)(a:Addr)(xs:List V):Prop :=
 Rd H a (.lst xs) ∨
  ∃(o:Obj) (its:Array Value) (n:Nat),K.lookup a=some o∧o.cls=.type "list"∧o.dict=none∧o.data=.seq its n∧its.size≤sizeLine∧Vals xs its.toList
def SqT(K:Kq)(H:Hp)(a:Addr)(xs:List V):Prop :=
 Rd H a (.tup xs) ∨
  ∃(o:Obj) (its:Array Value) (n:Nat),K.lookup a=some o∧o.cls=.type "tuple"∧o.data=.seq its n∧its.size≤sizeLine∧Vals xs its.toList
noncomputable def absV:Value→Option V
 |.none=>some .non
 |.bool b=>some (.bl b)
 |.int i _=>some (.int i)
 |.str x _=>some (.str x)
 |.bytes b _=>some (.byt b)
 |.float b _=>some (.flt b)
 |.ref a=>some (.ref a)
 |.type n=>some (.ty n)
 |_=>none
theorem RelV.abs{x:V}{u:Value}(r:RelV x u):absV u=some x:=by
 cases x with
 |non=>cases r;rfl
 |bl _=>cases r;rfl
 |int _=>obtain⟨t,rfl⟩:=r;rfl
 |str _=>obtain⟨t,rfl⟩:=r;rfl
 |byt _=>obtain⟨t,rfl⟩:=r;rfl
 |flt _=>obtain⟨t,rfl⟩:=r;rfl
 |ref _=>cases r;rfl
 |ty _=>cases r;rfl
theorem RelV.inj{x y:V}{u:Value}(r:RelV x u)(q:RelV y u):x=y:=Option.some.inj (r.abs.symm.trans q.abs)
theorem Vals.inj:∀ {xs ys:List V}{us:List Value},Vals xs us→Vals ys us→xs=ys
 |_,_,_,.nil,.nil=>rfl
 |_,_,_,.cons r t,.cons r' t'=>by rw[r.inj r',Vals.inj t t']
section
variable{X:Cx}{pins:Pq}{σ:St}{H:Hp}{s:Shared}{a:Addr}{xs ys:List V}
theorem SqL.of{K:Kq}(h:H a=some (.lst xs)):SqL K H a xs:=.inl (.inl h)
theorem SqT.of{K:Kq}(h:H a=some (.tup xs)):SqT K H a xs:=.inl (.inl h)
theorem Inv.list(I:Inv X pins σ H s)(h:SqL X.K H a xs):∃its:List Value,Vals xs its∧PlainL s.heap a its.toArray∧xs.length≤sizeLine:=by
 rcases h with h|⟨o,its,n,hk,hc,hd,hs,hz,r⟩
 ·obtain⟨z,its,n,r,e⟩:=h.ok I.hok;exact⟨its,r,⟨_,n,e,rfl,rfl,rfl⟩,z⟩
 ·refine⟨its.toList,r,⟨o,n,I.kIn a o hk,hc,hd,by simpa using hs⟩,?_⟩
  have e:=r.length;simp only[Array.length_toList]at e;omega
theorem Inv.tuple(I:Inv X pins σ H s)(h:SqT X.K H a xs):∃its:List Value,Vals xs its∧IsTup s.heap a its.toArray∧xs.length≤sizeLine:=by
 rcases h with h|⟨o,its,n,hk,hc,hs,hz,r⟩
 ·obtain⟨z,its,r,p⟩:=h.ok I.hok;exact⟨its,r,p,z⟩
 ·refine⟨its.toList,r,⟨o,I.kIn a o hk,hc,n,by simpa using hs⟩,?_⟩
  have e:=r.length;simp only[Array.length_toList]at e;omega
theorem Inv.list_inj(I:Inv X pins σ H s)(h:SqL X.K H a xs)(h':SqL X.K H a ys):xs=ys:=by
 obtain⟨its,r,⟨o,n,e,_,_,d⟩,_⟩:=I.list h;obtain⟨its',r',⟨o',n',e',_,_,d'⟩,_⟩:=I.list h';rw[e]at e';cases e';rw[d]at d';injection d' with d1 _
 have:its=its':=by simpa using congrArg Array.toList d1
 subst this;exact r.inj r'
theorem Inv.tuple_inj(I:Inv X pins σ H s)(h:SqT X.K H a xs)(h':SqT X.K H a ys):xs=ys:=by
 obtain⟨its,r,⟨o,e,_,n,d⟩,_⟩:=I.tuple h;obtain⟨its',r',⟨o',e',_,n',d'⟩,_⟩:=I.tuple h';rw[e]at e';cases e';rw[d]at d';injection d' with d1 _
 have:its=its':=by simpa using congrArg Array.toList d1
 subst this;exact r.inj r'
end
noncomputable abbrev Cx.wish(X:Cx)(E:Value→Shared→Prop):Cx:={ X with xe:=E }
noncomputable abbrev Cx.nox(X:Cx):Cx:=X.wish λ_ _=>False
theorem Cx.Ok.wish{X:Cx}(ok:X.Ok)(E:Value→Shared→Prop):(X.wish E).Ok :=
 ⟨ok.mod,ok.kind,ok.glob,ok.blt,ok.above,ok.inj,ok.has,ok.cab,ok.hd,ok.frames,ok.stk,ok.exf,ok.bs,ok.bsz,ok.noex,ok.exfs,ok.funs,ok.frf⟩
theorem Cx.Ok.unwish{X:Cx}{E:Value→Shared→Prop}(ok:(X.wish E).Ok):X.Ok :=
 ⟨ok.mod,ok.kind,ok.glob,ok.blt,ok.above,ok.inj,ok.has,ok.cab,ok.hd,ok.frames,ok.stk,ok.exf,ok.bs,ok.bsz,ok.noex,ok.exfs,ok.funs,ok.frf⟩
section
variable{X:Cx}{pins:Pq}{σ:St}{H:Hp}{s:Shared}{E:Value→Shared→Prop}
theorem Inv.wish(I:Inv X pins σ H s)(E:Value→Shared→Prop):Inv (X.wish E) pins σ H s:=⟨I.ok.wish E,I.os,I.bare,I.base,I.loc,I.cell,I.free,I.freeC,I.pin,I.hok,I.len⟩
theorem Inv.unwish(I:Inv (X.wish E) pins σ H s):Inv X pins σ H s:=⟨I.ok.unwish,I.os,I.bare,I.base,I.loc,I.cell,I.free,I.freeC,I.pin,I.hok,I.len⟩
theorem SP.unwish{D:Ends}{f:Flow}{s':Shared}(h:SP (X.wish E) pins D f s'):SP X pins D f s':=by
 cases f with
 |next=>obtain⟨σ',H',I,q⟩:=h;exact⟨σ',H',I.unwish,q⟩
 |brk=>obtain⟨σ',H',I,q⟩:=h;exact⟨σ',H',I.unwish,q⟩
 |cont=>obtain⟨σ',H',I,q⟩:=h;exact⟨σ',H',I.unwish,q⟩
 |ret u=>obtain⟨v,σ',H',I,r,q⟩:=h;exact⟨v,σ',H',I.unwish,r,q⟩
theorem PE.nox{e:Expr}{t:TE}(h:PE X.nox e t):PE X e t:=λpins s σ H Q I hw =>
 wpAny_mono (h pins s σ H Q (I.wish _) hw) (λ_ _ ⟨v,H',I',r,q⟩=>⟨v,H',I'.unwish,r,q⟩) λ_ _ z=>fF z
theorem PT.nox{e:Expr}{t:TT}(h:PT X.nox e t):PT X e t:=λpins s σ H Q I hw =>
 wpAny_mono (h pins s σ H Q (I.wish _) hw) (λ_ _ ⟨H',I',q⟩=>⟨H',I'.unwish,q⟩) λ_ _ z=>fF z
theorem PSs.nox{st:List Stmt}{t:TS}(h:PSs X.nox st t):PSs X st t:=λpins s σ H D I hw =>
 wpAny_mono (h pins s σ H D (I.wish _) hw) (λ_ _ q=>q.unwish) λ_ _ z=>fF z
end
section
variable{X:Cx}{st:Stmt}{rest:List Stmt}{t u:TS}{e:Expr}{te:TE}{pos:Pos}
def JMm:TS:=λD σ H=>D.nx σ H
def tSeq(t u:TS):TS:=λD σ H=>t { D with nx:=u D } σ H
theorem JCa:PSs X [] JMm:=λ_ _ σ H _ I h=>wpAny_execs_nil ⟨σ,H,I,h⟩
theorem JAz(h1:PS X st t)(h2:PSs X rest u):PSs X (st::rest) (tSeq t u):=by
 intro pins s σ H D I h;refine wpAny_execs_cons (thn (h1 pins s σ H { D with nx:=u D } I h) λf s1 q=>?_)
 cases f with
 |next =>
  obtain⟨σ',H',I',q⟩:=q;exact h2 pins s1 σ' H' D I' q
 |ret v=>exact q
 |brk=>exact q
 |cont=>exact q
theorem JBf(h1:PS X st t):PSs X [st] t:=by
 intro pins s σ H D I h;refine wpAny_execs_cons (thn (h1 pins s σ H D I h) λf s1 q=>?_);cases f with
 |next=>exact wpAny_execs_nil q
 |ret v=>exact q
 |brk=>exact q
 |cont=>exact q
def JRS:TS:=λD σ H=>D.bk σ H
def tCont:TS:=λD σ H=>D.ct σ H
theorem JNQ:PS X (.Pass pos) JMm:=λ_ _ σ H _ I h=>wpAny_Pass ⟨σ,H,I,h⟩
theorem JJ0:PS X (.Break pos) JRS:=λ_ _ σ H _ I h=>wpAny_Break ⟨σ,H,I,h⟩
theorem JFi:PS X (.Continue pos) tCont:=λ_ _ σ H _ I h=>wpAny_Continue ⟨σ,H,I,h⟩
theorem Inv.quiet{pins:Pq}{σ:St}{H:Hp}{s:Shared}(I:Inv X pins σ H s):interactive X.env=false:=by simp[interactive,I.ok.kind]
theorem JP1{x j pos pos'}:PS X (.Expr (.Constant (.str x) j pos) pos') JMm:=λ_ s σ H _ I h=>wpAny_Expr (Calls.Constant_str (show SP X _ _ .next { s with toks:=s.toks+1 } from⟨σ,H,I.tok _,h⟩)) I.quiet
def tDrop(te:TE):TS:=λD σ H=>te σ H λ_ H1=>D.nx σ H1
theorem JEU(he:PE X e te)(hs:swapsWith e none pos.line X.env=pure false:=by rfl):PS X (.Expr e pos) (tDrop te):=by
 intro pins s σ H D I h;exact wpAny_Expr_any (thn (he pins s σ H _ I h) λv s1 ⟨x,H1,I1,r1,q1⟩=>⟨σ,H1,I1,q1⟩) I.quiet hs
def tRet(te:TE):TS:=λD σ H=>te σ H D.rt
theorem JDN(he:PE X e te):PS X (.Return (some e) pos) (tRet te):=by
 intro pins s σ H D I h;exact wpAny_Return_some (thn (he pins s σ H _ I h) λv s1 ⟨x,H1,I1,r1,q1⟩=>⟨x,σ,H1,I1,r1,q1⟩)
def tRetN:TS:=λD _ H=>D.rt .non H
theorem JNc:PS X (.Return none pos) tRetN:=λ_ _ σ H _ I h=>wpAny_Return_none ⟨.non,σ,H,I,rfl,h⟩
def tIfS(c:TT)(t u:TS):TS:=λD σ H=>c σ H λb H1=>if b=true then t D σ H1 else u D σ H1
theorem JHP{c:Expr}{a b:List Stmt}{tc:TT}(hc:PT X c tc)(ha:PSs X a t)(hb:PSs X b u):PS X (.If c a b pos) (tIfS tc t u):=by
 intro pins s σ H D I h;refine wpAny_If (thn (hc pins s σ H _ I h) λd s1 h_=>?_);obtain⟨H1,I1,q1⟩:=h_;cases d with
 |true=>exact ha pins s1 σ H1 D I1 q1
 |false=>exact hb pins s1 σ H1 D I1 q1
end
noncomputable abbrev TG:=V→St→Hp→(St→Hp→Prop)→Prop
noncomputable abbrev TGs:=List V→St→Hp→(St→Hp→Prop)→Prop
def PG(X:Cx)(target:Expr)(t:TG):Prop :=
 ∀(pins:Pq) (s:Shared) (σ:St) (H:Hp) (v:V) (u:Value) (Q:St→Hp→Prop),Inv X pins σ H s→RelV v u→t v σ H Q →
  wpAny (model X.prog X.w) X.A (assign target X.env u) (λ_ s'=>∃σ' H',Inv X pins σ' H' s'∧Q σ' H') X.xe s
def PGs(X:Cx)(ts:List Expr)(t:TGs):Prop :=
 ∀(pins:Pq) (s:Shared) (σ:St) (H:Hp) (vs:List V) (us:List Value) (Q:St→Hp→Prop),Inv X pins σ H s→Vals vs us→t vs σ H Q →
  wpAny (model X.prog X.w) X.A (assignInOrder ((assignEach ts X.env).map (·.2)) us) (λ_ s'=>∃σ' H',Inv X pins σ' H' s'∧Q σ' H') X.xe s
section
variable{X:Cx}{pos:Pos}
def JFc(i:Nat):TG:=λv σ H Q=>Q (σ.set i (some v)) H
theorem JEN{i:Nat}{x:Str}(hN:X.N.Nodup)(hi:X.N[i]? = some x)(hx:Loc X.env.scope x)(hf:X.fn x=true∨X.env.scope.names.lookup x=some .local:=by first|exact .inl rfl|exact .inr rfl|assumption):PG X (.Name x pos) (JFc i):=by
 intro pins s σ H v u Q I r h;exact wpAny_assign_Name (JBu I hN hi hx r (λs' I'=>⟨_,H,I',h⟩) hf)
noncomputable def gNil:TGs:=λvs σ H Q=>vs=[]∧Q σ H
noncomputable def gCons(t:TG)(u:TGs):TGs:=λvs σ H Q=>∃v r,vs=v::r∧t v σ H λσ' H'=>u r σ' H' Q
theorem JIU:PGs X [] gNil:=by
 intro pins s σ H vs us Q I r h;obtain⟨e,h⟩:=h;subst e;cases r;exact assignInOrder_nil ⟨σ,H,I,h⟩
theorem JF7{e:Expr}{es:List Expr}{t:TG}{u:TGs}(h1:PG X e t)(h2:PGs X es u)
  (hs:(assignEach (e::es) X.env).map (·.2)=assign e X.env::(assignEach es X.env).map (·.2):=by rfl):PGs X (e::es) (gCons t u):=by
 intro pins s σ H vs us Q I r h;obtain⟨v,vr,e1,h⟩:=h;subst e1;cases r with
 |cons r rr =>
  rw[hs];refine assignInOrder_cons (thn (h1 pins s σ H _ _ _ I r h) λ_ s1 h_=>?_);obtain⟨σ1,H1,I1,q1⟩:=h_;exact h2 pins s1 σ1 H1 _ _ Q I1 rr q1
def gTup(K:Kq)(n:Nat)(t:TGs):TG:=λv σ H Q=>∃a xs,v=.ref a∧SqT K H a xs∧xs.length=n∧t xs σ H Q
theorem JKu{es:List Expr}{k:Nat}{t:TGs}{n:Nat}(hc:X.calm=true)(h:PGs X es t)
  (hn:(assignEach es X.env).length=n:=by rfl) (hst:(assignEach es X.env).findIdx? (·.1)=none:=by rfl):PG X (.Tuple es k pos) (gTup X.K n t):=by
 intro pins s σ H v u Q I r hw;obtain⟨a,xs,e1,hq,hl,hw⟩:=hw;subst e1;cases r;obtain⟨its,rv,ht,hz⟩:=I.tuple hq;refine assign_Tuple_tuple (I.ok.hd hc) ht (by simp[hn,←hl,rv.length]) hst λh' hx=>?_
 have I1:Inv X pins σ H { s with heap:=h' }:=I.kept (t':=s.toks) λb o e=>hx b o (Nat.ne_of_lt (Heap.lt_size e)) e
 exact h pins _ σ H xs _ Q I1 (by simpa using rv) hw
def tAsg(te:TE)(g:TG):TS:=λD σ H=>te σ H λx H1=>g x σ H1 D.nx
theorem JRT{tg e:Expr}{te:TE}{g:TG}(he:PE X e te)(hg:PG X tg g)(hs:swapsWithSole [tg] e pos.line X.env=pure false:=by rfl)(hw:swappedStores [tg] e X.env=pure none:=by rfl)
  (h1:(assignEach [tg] X.env).map (·.2)=[assign tg X.env]:=by rfl):PS X (.Assign [tg] e pos) (tAsg te g):=by
 intro pins s σ H D I h;refine wpAny_Assign_stores (thn (he pins s σ H _ I h) λv s1 ⟨x,H1,I1,r1,q1⟩=>?_) hs hw;rw[h1];exact thn (hg pins s1 σ H1 x v _ I1 r1 q1) λ_ s2 q=>q
theorem JCh{i:Nat}{x:Str}{e:Expr}{te:TE}{pos':Pos}(hN:X.N.Nodup)(hi:X.N[i]? = some x)(hx:Loc X.env.scope x)(he:PE X e te)(hs:swapsWith e (some (.Name x pos')) pos.line X.env=pure false:=by rfl)(hf:X.fn x=true∨X.env.scope.names.lookup x=some .local:=by first|exact .inl rfl|exact .inr rfl|assumption) :
  PS X (.Assign [.Name x pos'] e pos) (tAsg te (JFc i)):=by
 intro pins s σ H D I h;refine wpAny_Assign_Name (thn (he pins s σ H _ I h) λv s1 ⟨y,H1,I1,r1,q1⟩=>?_) hs;exact JBu I1 hN hi hx r1 (λs2 I2=>⟨_,H1,I2,q1⟩) hf
def tPar(i j:Nat)(ta:TA):TS:=λD σ H=>ta σ H λvs H1=>∃v w,vs=[v,w]∧D.nx ((σ.set i (some v)).set j (some w)) H1
theorem JQ7{i j:Nat}{x y:Str}{a b:Expr}{ta:TA}{px py pt:Pos}{kt k2 pt2}(hc:X.calm=true)(hN:X.N.Nodup)(hi:X.N[i]? = some x)(hj:X.N[j]? = some y)(hij:i≠j)
  (hx:X.env.scope.names.lookup x=some .local) (hy:X.env.scope.names.lookup y=some .local) (ha:PA X [a,b] ta)
  (hw:swappedStores [.Tuple [.Name x px,.Name y py] kt pt] (.Tuple [a,b] k2 pt2) X.env=pure (some [x,y]))
  (hs:swapsWithSole [.Tuple [.Name x px,.Name y py] kt pt] (.Tuple [a,b] k2 pt2) pos.line X.env=pure false:=by rfl) :
  PS X (.Assign [.Tuple [.Name x px,.Name y py] kt pt] (.Tuple [a,b] k2 pt2) pos) (tPar i j ta):=by
 intro pins s σ H D I h;rw[exec_Assign_arm];refine wpAny_bind (wpAny_standAt ?_);rw[hs];refine wpAny_bind (wpAny_pure ?_);rw[if_neg (by decide)]
 refine wpAny_bind (Tuple_ (thn (ha _ pins s σ H _ I h) λus s1 h_=>?_));obtain⟨vs,H1,I1,r1,q1⟩:=h_;obtain⟨v,w,e1,q1⟩:=q1;subst e1;obtain⟨u1,u2,rfl,rv,rw'⟩:∃u1 u2,us=[u1,u2]∧RelV v u1∧RelV w u2:=by
  cases r1 with
  |cons p q =>
    cases q with
    |cons p' q' =>
     cases q';exact⟨_,_,rfl,p,p'⟩
 refine wpAny_newObj_type ?_ (by show 2≤sizeLine;decide)
 have I2:Inv X pins σ H1 { s1 with heap:=s1.heap.push { cls:=.type "tuple",data:=.seq [u1,u2].toArray } }:=I1.kept (t':=s1.toks) λb o e=>Heap.get?_push_of_some _ e
 rw[hw];refine wpAny_bind (wpAny_pure ?_);show wpAny (model X.prog X.w) X.A (do rule "assign.swapped-stores";let items←unpackItems (.ref s1.heap.objs.size) 2 none;assignInOrder [λv=>bindName X.env y v,λv=>bindName X.env x v] items.reverse;pure Flow.next) _ _ _
 refine wpAny_bind (wpAny_rule (wpAny_bind (unpackItems_tuple (items:=#[u1,u2]) (I.ok.hd hc) (IsTup.new s1.heap _) λh' hx'=>?_)));have I3:=I2.kept (h':=h') (t':=s1.toks) λb o e=>hx' b o (Nat.ne_of_lt (Heap.lt_size e)) e;show wpAny _ _ (assignInOrder [λv=>bindName X.env y v,λv=>bindName X.env x v] [u2,u1] >>= λ_=>pure Flow.next) _ _ _;refine wpAny_bind (assignInOrder_cons (wpAny_bindName (JBu I3 hN hj (.inl hy) rw' (λs2 I4=>?_) (.inr hy))));refine assignInOrder_cons (wpAny_bindName (JBu I4 hN hi (.inl hx) rv (λs3 I5=>assignInOrder_nil (wpAny_pure ?_)) (.inr hx)));rw[List.set_comm _ _ (Ne.symm hij)]at I5;exact⟨_,H1,I5,q1⟩
end
section
variable{X:Cx}{pos:Pos}
def JPv(c:TT)(tb:TS):TS:=λD σ H=>∃W:Nat→St→Hp→Prop,(∃m,W m σ H)∧∀m σ H,W m σ H →
 c σ H λb H1=>if b=true then ∃N:St→Hp→Prop,(∀σ' H',N σ' H'→∃m',m'<m∧W m' σ' H')∧tb { D with nx:=N,ct:=N,bk:=D.nx } σ H1 else D.nx σ H1
theorem JKV{c:Expr}{body:List Stmt}{tc:TT}{tb:TS}(hp:PassesOwn (model X.prog X.w) X.A X.env X.xe)(hc:PT X c tc)(hb:PSs X body tb):PS X (.While c body [] pos) (JPv tc tb):=by
 intro pins s σ H D I h;obtain⟨W,⟨m0,w0⟩,turn⟩:=h;refine wpAny_While (codeAny_whileLoop (λn s'=>∃σ' H',Inv X pins σ' H' s'∧W n σ' H') ?_ m0 ⟨σ,H,I,w0⟩);rintro n s1 ⟨σ1,H1,I1,w1⟩;refine wpAny_passesOwn hp (thn (hc pins s1 σ1 H1 _ I1 (turn n σ1 H1 w1)) λb s2 h_=>?_);obtain⟨H2,I2,q2⟩:=h_;cases b with
 |true =>
  obtain⟨N,hN,q2⟩:=q2;rw[if_pos rfl];refine wpAny_passesOwn hp (thn (hb pins s2 σ1 H2 _ I2 q2) λf s3 q3=>?_);cases f with
  |next =>
   obtain⟨σ3,H3,I3,n3⟩:=q3;obtain⟨m',hm,w3⟩:=hN σ3 H3 n3;exact⟨m',hm,σ3,H3,I3,w3⟩
  |cont =>
   obtain⟨σ3,H3,I3,n3⟩:=q3;obtain⟨m',hm,w3⟩:=hN σ3 H3 n3;exact⟨m',hm,σ3,H3,I3,w3⟩
  |brk=>exact q3
  |ret v=>exact q3
 |false =>
  rw[if_neg Bool.false_ne_true];exact wpAny_execs_nil ⟨σ1,H2,I2,q2⟩
end
structure It where
 go:Nat→Hp→Prop
 yld:Nat→Hp→V→Hp→Prop
 stop:Nat→Hp→Prop
def FpOk(X:Cx)(pins:Pq)(H:Hp)(b:Addr):Prop :=
 H b=none∧b≠X.env.locals∧b ∉ X.fs∧(b∈X.ex∨X.s₀.heap.objs.size≤b)∧(∀x c,X.env.cells.lookup x=some c→c≠b)∧∀p∈X.pn++pins,p.1≠b
theorem Inv.fpOk{X:Cx}{pins:Pq}{σ:St}{H H':Hp}{s:Shared}{b:Addr}(I:Inv X pins σ H s)(hb:s.heap.objs.size≤b)(hn:H' b=none):FpOk X pins H' b:=by
 refine⟨hn,Nat.ne_of_gt (Nat.lt_of_lt_of_le I.lt hb),I.nofs hb,.inr (Nat.le_trans I.sz hb),λx c e z=>?_,λp hp z=>?_⟩
 ·obtain⟨v,q⟩:=I.cell x c e;exact absurd (Nat.lt_of_lt_of_le q.lt (by rw[z];exact hb)) (Nat.lt_irrefl _)
 ·exact absurd (Nat.lt_of_lt_of_le (Heap.lt_size (I.pin p hp).1) (by rw[z];exact hb)) (Nat.lt_irrefl _)
structure Turn(P:Program)(w:World)(K:Kq)(tg:Expr)(J:It)(fp:List Addr)(it:Addr)(tn:Nat→Heap→Prop):Prop where
 mem:it∈fp
 obj:∀i h,tn i h→∀b∈fp,∃o,h.get? b=some o∧∀v,o.data≠.cell v
 keep:∀i h h',tn i h→(∀b∈fp,∀o,h.get? b=some o→h'.get? b=some o)→tn i h'
 item:∀(X:Cx),X.prog=P→X.w=w→X.K=K→X.calm=true→∀(i:Nat) (pins:Pq) (s:Shared) (σ:St) (H:Hp) (E:Value→Shared→Prop),Inv X pins σ H s→(∀b∈fp,FpOk X pins H b)→tn i s.heap→J.go i H →
  wpAny (model P w) X.A (pyNext (.ref it)) (λr s1=>∃u,r=some u ∧
   wpAny (model P w) X.A (letOwnedTupleGo tg (.ref it) u) (λ_ s2=>∃x H',Inv X pins σ H' s2∧RelV x u∧J.yld i H x H'∧tn (i+1) s2.heap∧∀b∈fp,H' b=none) E s1) E s
 done:∀(X:Cx),X.prog=P→X.w=w→X.K=K→X.calm=true→∀(i:Nat) (pins:Pq) (s:Shared) (σ:St) (H:Hp) (E:Value→Shared→Prop),Inv X pins σ H s→(∀b∈fp,FpOk X pins H b)→tn i s.heap→J.stop i H →
  wpAny (model P w) X.A (pyNext (.ref it)) (λr s1=>r=none∧Inv X pins σ H s1) E s
 self:∀(A:Around) (i:Nat) (s:Shared) (Q:Value→Shared→Prop) (E:Value→Shared→Prop),tn i s.heap→Q (.ref it) s→wpAny (model P w) A (pyIter (.ref it)) Q E s
noncomputable abbrev TI:=St→Hp→(It→Hp→Prop)→Prop
def PIE(X:Cx)(pins:Pq)(σ:St)(tg:Expr)(R:It→Hp→Prop)(itv:Value)(s2:Shared):Prop :=
 ∃(it:Addr) (fp:List Addr) (tn:Nat→Heap→Prop) (J:It) (H':Hp),itv=.ref it∧Inv X pins σ H' s2∧Turn X.prog X.w X.K tg J fp it tn∧tn 0 s2.heap∧(∀b∈fp,FpOk X pins H' b)∧R J H'
def PI(X:Cx)(tg iter:Expr)(wi:TI):Prop :=
 ∀(pins:Pq) (s:Shared) (σ:St) (H:Hp) (R:It→Hp→Prop),Inv X pins σ H s→wi σ H R →
  wpAny (model X.prog X.w) X.A (eval iter X.env) (λv s1=>wpAny (model X.prog X.w) X.A (pyIter v) (PIE X pins σ tg R) X.xe s1) X.xe s
theorem JKN{M:Model}{A:Around}{E:Value→Shared→Prop}{s:Shared}{tg:Expr}{it:Addr}{u:Value}{o:Obj}{n:String}{vs:Array Value}{Q:Unit→Shared→Prop}(ho:s.heap.get? it=some o)(hc:o.cls=.type n)(hd:o.data=.fields vs)
  (hn:["enumerate","zip","dict_itemiterator","dict_reverseitemiterator","odict_iterator","itertools.zip_longest","itertools.pairwise"].contains n=false) (hQ:Q () s):wpAny M A (letOwnedTupleGo tg (.ref it) u) Q E s:=by
 unfold letOwnedTupleGo;cases tg<;>first
  |exact wpAny_pure hQ
  |(cases u<;>first
      |exact wpAny_pure hQ
      |(refine wpAny_bind (wpAny_load ho ?_)
        rw[hc,hd];show wpAny M A (if (["enumerate","zip","dict_itemiterator","dict_reverseitemiterator","odict_iterator","itertools.zip_longest","itertools.pairwise"].contains n&&vs[0]? == some (rawInt _))=true then _ else _) Q E s;rw[if_neg (by intro h;rw[hn,Bool.false_and]at h;cases h)]
        exact wpAny_pure hQ))
noncomputable def Itl(K:Kq)(a:Addr):It :=
 ⟨λi H=>∃xs x,SqL K H a xs∧xs[i]? = some x,λi H x H'=>H'=H∧∀xs,SqL K H a xs→xs[i]? = some x,λi H=>∃xs,SqL K H a xs∧xs.length≤i⟩
noncomputable def Itt(K:Kq)(a:Addr):It :=
 ⟨λi H=>∃xs x,SqT K H a xs∧xs[i]? = some x,λi H x H'=>H'=H∧∀xs,SqT K H a xs→xs[i]? = some x,λi H=>∃xs,SqT K H a xs∧xs.length≤i⟩
noncomputable def Itr(lo:Int)(n:Nat):It:=⟨λi _=>i<n,λi H x H'=>H'=H∧x=.int (lo+i),λi _=>n≤i⟩
theorem JIe{P:Program}{w:World}{K:Kq}{tg:Expr}(a it:Addr):Turn P w K tg (Itl K a) [it] it (λi h=>h.IsListIter it a i) where
 mem:=by simp
 obj:=λi h st b hb=>by
  have e:b=it:=by simpa using hb
  subst e;obtain⟨o,e,c,d⟩:=st;exact⟨o,e,λv z=>by rw[d]at z;cases z⟩
 keep:=λi h h' st k=>st.at λo e=>k it (by simp) o e
 item:=by
  intro X hP hw hK hc i pins s σ H E I hf st hg;subst hP hw hK;obtain⟨xs,x,hq,hx⟩:=hg;obtain⟨its,rv,p,hz⟩:=I.list hq;obtain⟨u,hu,ru⟩:=rv.get hx;obtain⟨f0,f1,f2,f3,f4,f5⟩:=hf it (by simp)
  refine wpAny_pyNext_list_item st p.isList (x:=u) (by simpa using hu) λh' st' sb=>?_
  have I1:Inv X pins σ H { s with heap:=h' }:=I.turned (t':=s.toks) (λb o hb e=>(sb.2 b hb).trans e) f0 f1 f3 f4 f5
  obtain⟨o,e,c,d⟩:=id st';exact⟨u,rfl,JKN (s:={ s with heap:=h' }) e c d (by decide) ⟨x,H,I1,ru,⟨rfl,λys hy=>by rw[I.list_inj hy hq];exact hx⟩,st',λb hb=>(hf b hb).1⟩⟩
 done:=by
  intro X hP hw hK hc i pins s σ H E I hf st hg;subst hP hw hK;obtain⟨xs,hq,hx⟩:=hg;obtain⟨its,rv,p,hz⟩:=I.list hq;obtain⟨f0,f1,f2,f3,f4,f5⟩:=hf it (by simp)
  have hl:=rv.length;exact wpAny_pyNext_list_end (I.ok.hd hc) st p.isList (by simp;omega) λh' eb=>⟨rfl,I.turned (t':=s.toks) (λb o hb e=>eb b o hb e) f0 f1 f3 f4 f5⟩
 self:=λ_ _ _ _ _ st h=>wpAny_pyIter_listiter st h
theorem JHA{P:Program}{w:World}{K:Kq}{tg:Expr}(a it:Addr):Turn P w K tg (Itt K a) [it] it (λi h=>h.IsTupleIter it a i) where
 mem:=by simp
 obj:=λi h st b hb=>by
  have e:b=it:=by simpa using hb
  subst e;obtain⟨o,e,c,d⟩:=st;exact⟨o,e,λv z=>by rw[d]at z;cases z⟩
 keep:=λi h h' st k=>st.at λo e=>k it (by simp) o e
 item:=by
  intro X hP hw hK hc i pins s σ H E I hf st hg;subst hP hw hK;obtain⟨xs,x,hq,hx⟩:=hg;obtain⟨its,rv,p,hz⟩:=I.tuple hq;obtain⟨u,hu,ru⟩:=rv.get hx;obtain⟨f0,f1,f2,f3,f4,f5⟩:=hf it (by simp)
  refine wpAny_pyNext_tuple_item st (show s.heap.IsTuple a its.toArray from p) (x:=u) (by simpa using hu) λh' st' sb=>?_
  have I1:Inv X pins σ H { s with heap:=h' }:=I.turned (t':=s.toks) (λb o hb e=>(sb.2 b hb).trans e) f0 f1 f3 f4 f5
  obtain⟨o,e,c,d⟩:=id st';exact⟨u,rfl,JKN (s:={ s with heap:=h' }) e c d (by decide) ⟨x,H,I1,ru,⟨rfl,λys hy=>by rw[I.tuple_inj hy hq];exact hx⟩,st',λb hb=>(hf b hb).1⟩⟩
 done:=by
  intro X hP hw hK hc i pins s σ H E I hf st hg;subst hP hw hK;obtain⟨xs,hq,hx⟩:=hg;obtain⟨its,rv,p,hz⟩:=I.tuple hq;obtain⟨f0,f1,f2,f3,f4,f5⟩:=hf it (by simp)
  have hl:=rv.length;exact wpAny_pyNext_tuple_end (I.ok.hd hc) st (show s.heap.IsTuple a its.toArray from p) (by simp;omega) λh' eb=>⟨rfl,I.turned (t':=s.toks) (λb o hb e=>eb b o hb e) f0 f1 f3 f4 f5⟩
 self:=λ_ _ _ _ _ st h=>wpAny_pyIter_tupleiter st h
theorem JHI{P:Program}{w:World}{K:Kq}{tg:Expr}(it:Addr)(lo:Int)(n:Nat):Turn P w K tg (Itr lo n) [it] it (λi h=>IsRangeIter h it (lo+(i:Nat)*1) ((n:Int) - (i:Nat)) 1) where
 mem:=by simp
 obj:=λi h st b hb=>by
  have e:b=it:=by simpa using hb
  subst e;exact⟨_,st,λv z=>by
   have z':Data.fields _=Data.cell v:=z;cases z'⟩
 keep:=λi h h' st k=>k it (by simp) _ st
 item:=by
  intro X hP hw hK hc i pins s σ H E I hf st hg;subst hP hw hK;obtain⟨f0,f1,f2,f3,f4,f5⟩:=hf it (by simp)
  have W:=Walks.range (prog:=X.prog) (w:=X.w) (I.ok.hd hc) it lo 1 n;refine W.item i s _ _ hg st λv h' tk hv st' kk=>?_;obtain⟨t,rfl⟩:=hv;have I1:Inv X pins σ H { s with heap:=h',toks:=tk }:=I.turned (λb o hb e=>kk b o (by simpa using hb) e) f0 f1 f3 f4 f5
  refine⟨_,rfl,JKN (s:={ s with heap:=h',toks:=tk }) (n:="range_iterator") st' rfl rfl (by decide) ⟨.int (lo+i),H,I1,⟨t,?_⟩,⟨rfl,rfl⟩,st',λb hb=>(hf b hb).1⟩⟩
  rw[Int.mul_one]
 done:=by
  intro X hP hw hK hc i pins s σ H E I hf st hg;subst hP hw hK;obtain⟨f0,f1,f2,f3,f4,f5⟩:=hf it (by simp)
  exact wpAny_pyNext_range_end (I.ok.hd hc) st (by have:n≤i:=hg;omega) λh' eb=>⟨rfl,I.turned (t':=s.toks) (λb o hb e=>eb b o hb e) f0 f1 f3 f4 f5⟩
 self:=λ_ _ _ _ _ st h=>wpAny_pyIter_rangeiter st h
end L2
namespace L2
open PySem PySem.Spec PyProof.Rows
section
variable{X:Cx}{tg:Expr}
def iList(K:Kq)(tl:TE):TI:=λσ H R=>tl σ H λx H1=>∃a,x=.ref a∧(∃xs,SqL K H1 a xs)∧R (Itl K a) H1
def iTup(K:Kq)(tl:TE):TI:=λσ H R=>tl σ H λx H1=>∃a,x=.ref a∧(∃xs,SqT K H1 a xs)∧R (Itt K a) H1
theorem JH7{l:Expr}{tl:TE}(hl:PE X l tl):PI X tg l (iList X.K tl):=by
 intro pins s σ H R I h;refine thn (hl pins s σ H _ I h) λv s1 h_=>?_;obtain⟨x,H1,I1,r1,q1⟩:=h_;obtain⟨a,e,⟨xs,hq⟩,q⟩:=q1;subst e;cases r1;obtain⟨its,rv,p,hz⟩:=I1.list hq;refine wpAny_pyIter_list p.isList ?_;refine⟨s1.heap.objs.size,[s1.heap.objs.size],_,_,H1,rfl,I1.kept (t':=s1.toks) λb o e=>Heap.get?_push_of_some _ e,JIe a _,⟨_,Heap.get?_push_size _ rfl,rfl,rfl⟩,λb hb=>?_,q⟩;have e:b=s1.heap.objs.size:=by simpa using hb
 subst e;exact I1.fpOk (Nat.le_refl _) (I1.hok.fresh (Nat.le_refl _))
theorem JPx{l:Expr}{tl:TE}(hl:PE X l tl):PI X tg l (iTup X.K tl):=by
 intro pins s σ H R I h;refine thn (hl pins s σ H _ I h) λv s1 h_=>?_;obtain⟨x,H1,I1,r1,q1⟩:=h_;obtain⟨a,e,⟨xs,hq⟩,q⟩:=q1;subst e;cases r1;obtain⟨its,rv,p,hz⟩:=I1.tuple hq;refine wpAny_pyIter_tuple (show s1.heap.IsTuple a its.toArray from p) ?_;refine⟨s1.heap.objs.size,[s1.heap.objs.size],_,_,H1,rfl,I1.kept (t':=s1.toks) λb o e=>Heap.get?_push_of_some _ e,JHA a _,⟨_,Heap.get?_push_size _ rfl,rfl,rfl⟩,λb hb=>?_,q⟩;have e:b=s1.heap.objs.size:=by simpa using hb
 subst e;exact I1.fpOk (Nat.le_refl _) (I1.hok.fresh (Nat.le_refl _))
theorem JGz{pins:Pq}{σ:St}{H:Hp}{s:Shared}{R:It→Hp→Prop}{E:Value→Shared→Prop}{lo hi:Int}{t u v:Tok}{tk:Nat}(I:Inv X pins σ H s)(h1:-(2 ^ 62)≤lo)(h2:lo<2 ^ 62)(h3:-(2 ^ 62)≤hi)(h4:hi<2 ^ 62)
  (q:R (Itr lo (hi - lo).toNat) H):wpAny (model X.prog X.w) X.A (pyIter (.ref s.heap.objs.size)) (PIE X pins σ tg R) E { s with heap:=s.heap.push { cls:=.type "range",data:=.fields #[.int lo t,.int hi u,.int 1 v] },toks:=tk }:=by
 refine wpAny_pyIter_range (IsRange.new ..) (small_one h1 h2 h3 h4) ?_;have I1:Inv X pins σ H { s with heap:=s.heap.push { cls:=.type "range",data:=.fields #[.int lo t,.int hi u,.int 1 v] },toks:=tk }:=I.kept λb o e=>Heap.get?_push_of_some _ e
 refine⟨(s.heap.push { cls:=.type "range",data:=.fields #[.int lo t,.int hi u,.int 1 v] }).objs.size,[(s.heap.push { cls:=.type "range",data:=.fields #[.int lo t,.int hi u,.int 1 v] }).objs.size],_,_,H,rfl,
  I1.kept (t':=tk) λb o e=>Heap.get?_push_of_some _ e,JHI _ lo (hi - lo).toNat,?_,λb hb=>?_,q⟩
 ·have e1:lo+((0:Nat):Int)*1=lo:=by simp
  have e2:(((hi - lo).toNat:Nat):Int) - ((0:Nat):Int)=Builtin.Range.rangeSize lo hi 1:=by rw[rangeSize_one];split<;>omega
  show IsRangeIter _ _ (lo+((0:Nat):Int)*1) ((((hi - lo).toNat:Nat):Int) - ((0:Nat):Int)) 1;rw[e1,e2];exact Heap.get?_push_size _ rfl
 ·have e:b=(s.heap.push { cls:=.type "range",data:=.fields #[.int lo t,.int hi u,.int 1 v] }).objs.size:=by simpa using hb
  subst e;exact I1.fpOk (Nat.le_refl _) (I1.hok.fresh (Nat.le_refl _))
def iRng1(ta:TA):TI:=λσ H R=>ta σ H λvs H1=>∃j:Int,vs=[.int j]∧-(2 ^ 62)≤j∧j<2 ^ 62∧R (Itr 0 j.toNat) H1
def iRng2(ta:TA):TI:=λσ H R=>ta σ H λvs H1=>∃i j:Int,vs=[.int i,.int j]∧(-(2 ^ 62)≤i∧i<2 ^ 62∧-(2 ^ 62)≤j∧j<2 ^ 62)∧R (Itr i (j - i).toNat) H1
theorem JHw{a:Expr}{ta:TA}{p pos:Pos}(hg:Gl X "range")(hm:X.mg "range"=none)(ha:PA X [a] ta)(hs:starEach [a] X.env=[(false,eval a X.env)]:=by rfl):PI X tg (.Call (.Name "range" p) [a] [] pos) (iRng1 ta):=by
 intro pins s σ H R I h;refine Call_ (JEc I hg hm boot_range (PyProof.Rows.callWith_type1 (thn (ha pos pins s σ H _ I h) λus s1 ⟨vs,H1,I1,r1,q1⟩=>?_) hs rfl));obtain⟨j,e,q1,q2,q⟩:=q1;subst e;cases r1 with
 |cons r rr =>
  cases rr;obtain⟨t,rfl⟩:=r;exact call_range_1 (JGz I1 (by omega) (by omega) q1 q2 (by simpa using q))
theorem JHX{a b:Expr}{ta:TA}{p pos:Pos}(hg:Gl X "range")(hm:X.mg "range"=none)(ha:PA X [a,b] ta)(hs:starEach [a,b] X.env=[(false,eval a X.env),(false,eval b X.env)]:=by rfl)(hs2:starEach [b] X.env=[(false,eval b X.env)]:=by rfl) :
  PI X tg (.Call (.Name "range" p) [a,b] [] pos) (iRng2 ta):=by
 intro pins s σ H R I h;refine Call_ (JEc I hg hm boot_range (PyProof.Rows.callWith_type1 (thn (ha pos pins s σ H _ I h) λus s1 ⟨vs,H1,I1,r1,q1⟩=>?_) (by rw[hs,hs2]) (by rw[hs2];rfl)))
 obtain⟨i,j,e,⟨q1,q2,q3,q4⟩,q⟩:=q1;subst e;cases r1 with
 |cons r rr =>
  cases rr with
  |cons r' rr =>
   cases rr;obtain⟨t,rfl⟩:=r;obtain⟨t',rfl⟩:=r';exact call_range_2 (JGz I1 q1 q2 q3 q4 q)
def tFor(wi:TI)(g:TG)(tb:TS):TS:=λD σ H=>wi σ H λJ H1=>∃W:Nat→Nat→St→Hp→Prop,(∃m,W 0 m σ H1)∧∀i m σ H,W i m σ H →
 (J.stop i H∧D.nx σ H)∨(J.go i H∧∃N:St→Hp→Prop,(∀σ' H',N σ' H'→∃m',m'<m∧W (i+1) m' σ' H')∧∀x H',J.yld i H x H'→g x σ H' λσ2 H2=>tb { D with nx:=N,ct:=N,bk:=D.nx } σ2 H2)
noncomputable def JFb(fp:List Addr)(h:Heap):Pq:=fp.filterMap λb=>(h.get? b).map λo=>(b,o)
theorem JBv{fp:List Addr}{h:Heap}{b:Addr}{o:Obj}(hb:b∈fp)(e:h.get? b=some o):(b,o)∈JFb fp h:=List.mem_filterMap.mpr ⟨b,hb,by rw[e];rfl⟩
theorem JI8{fp:List Addr}{h:Heap}{p:Addr×Obj}(hp:p∈JFb fp h):p.1∈fp∧h.get? p.1=some p.2:=by
 obtain⟨b,hb,e⟩:=List.mem_filterMap.mp hp;cases q:h.get? b with
 |none=>rw[q]at e;cases e
 |some o =>
  rw[q]at e;have e':(b,o)=p:=Option.some.inj e;subst e';exact⟨hb,q⟩
theorem Inv.pinned{pins:Pq}{σ:St}{H:Hp}{s:Shared}{fp:List Addr}(I:Inv X pins σ H s)(hf:∀b∈fp,FpOk X pins H b)(ho:∀b∈fp,∃o,s.heap.get? b=some o∧∀v,o.data≠.cell v):Inv X (pins++JFb fp s.heap) σ H s :=
 I.pins_of λp hp=>(List.mem_append.mp hp).elim (λz=>I.pin p (List.mem_append_right _ z)) λz=>by
  obtain⟨hb,e⟩:=JI8 z;obtain⟨f0,f1,f2,_⟩:=hf p.1 hb;obtain⟨o,e',d⟩:=ho p.1 hb;rw[e]at e';cases e';exact⟨e,f0,f1,f2,d⟩
theorem Inv.unpinned{pins pl:Pq}{σ:St}{H:Hp}{s:Shared}(I:Inv X (pins++pl) σ H s):Inv X pins σ H s:=I.pins_of λp hp=>I.pin p (List.mem_append_right _ (List.mem_append_left _ hp))
theorem JLn{iter:Expr}{body:List Stmt}{wi:TI}{g:TG}{tb:TS}{pos:Pos}(hp:PassesOwn (model X.prog X.w) X.A X.env X.xe)(hc:X.calm=true)(hi:PI X tg iter wi)(hg:PG X tg g)(hb:PSs X body tb)
  (hs:∀x,foldedSetIterable iter X.env x=pure x:=by intro _;rfl):PS X (.For tg iter body [] pos) (tFor wi g tb):=by
 intro pins s σ H D I h;refine wpAny_For (thn (hi pins s σ H _ I h) λv s1 h1=>thn h1 λitv s2 h2=>?_) hs;obtain⟨it,fp,tn,J,H2,e,I2,T,st2,f2,W,⟨m0,w0⟩,turn⟩:=h2;subst e;have stat:∀ {H':Hp},(∀b∈fp,H' b=none)→∀b∈fp,FpOk X pins H' b:=λhn b hb=>⟨hn b hb,(f2 b hb).2⟩;refine codeAny_forLoop_any (λn s'=>∃i σ' H',Inv X pins σ' H' s'∧tn i s'.heap∧(∀b∈fp,H' b=none)∧W i n σ' H') ?_ m0 ⟨0,σ,H2,I2,st2,λb hb=>(f2 b hb).1,w0⟩;rintro n s3 ⟨i,σ3,H3,I3,st3,fr3,w3⟩;rcases turn i n σ3 H3 w3 with ⟨stop,qn⟩|⟨go,N,hN,step⟩
 ·refine wpAny_passesOwn hp (thn (T.done X rfl rfl rfl hc i pins s3 σ3 H3 X.xe I3 (stat fr3) st3 stop) λr s4 h_=>?_);obtain⟨hr,I4⟩:=h_;subst hr;exact wpAny_execs_nil ⟨σ3,H3,I4,qn⟩
 ·refine wpAny_passesOwn hp (thn (T.item X rfl rfl rfl hc i pins s3 σ3 H3 X.xe I3 (stat fr3) st3 go) λr s4 h_=>?_);obtain⟨u,hr,h4⟩:=h_;subst hr;refine wpAny_passesOwn hp (thn h4 λ_ s5 h_=>?_);obtain⟨x,H5,I5,r5,y5,st5,fr5⟩:=h_;have I5':=I5.pinned (stat fr5) (T.obj _ _ st5);refine wpAny_passesOwn hp (thn (hg _ s5 σ3 H5 x u _ I5' r5 (step x H5 y5)) λ_ s6 h_=>?_);obtain⟨σ6,H6,I6,q6⟩:=h_;refine wpAny_passesOwn hp (thn (hb _ s6 σ6 H6 _ I6 q6) λf s7 q7=>?_);have again:∀ {σ7:St}{H7:Hp},Inv X (pins++JFb fp s5.heap) σ7 H7 s7→N σ7 H7→∃m,m<n∧∃i σ' H',Inv X pins σ' H' s7∧tn i s7.heap∧(∀b∈fp,H' b=none)∧W i m σ' H':=λ{σ7 H7} I7 n7=>by
    obtain⟨m',hm,w7⟩:=hN σ7 H7 n7;refine⟨m',hm,i+1,σ7,H7,I7.unpinned,T.keep _ _ _ st5 λb hb o e=>(I7.pin (b,o) (List.mem_append_right _ (List.mem_append_right _ (JBv hb e)))).1,λb hb=>?_,w7⟩;obtain⟨o,e,d⟩:=T.obj _ _ st5 b hb;exact(I7.pin (b,o) (List.mem_append_right _ (List.mem_append_right _ (JBv hb e)))).2.1
  cases f with
  |next=>obtain⟨σ7,H7,I7,n7⟩:=q7;exact again I7 n7
  |cont=>obtain⟨σ7,H7,I7,n7⟩:=q7;exact again I7 n7
  |brk=>obtain⟨σ7,H7,I7,q7⟩:=q7;exact⟨σ7,H7,I7.unpinned,q7⟩
  |ret v=>obtain⟨x7,σ7,H7,I7,r7,q7⟩:=q7;exact⟨x7,σ7,H7,I7.unpinned,r7,q7⟩
end
end L2
namespace L2
open PySem PySem.Spec PyProof.Rows
noncomputable abbrev R2:=V→V→Hp→VK→Prop
def OpR(X:Cx)(f:Value→Value→Sem Value)(r:R2):Prop :=
 ∀(pins:Pq) (s:Shared) (σ:St) (H:Hp) (x y:V) (v u:Value) (Q:VK),Inv X pins σ H s→RelV x v→RelV y u→r x y H Q →
  wpAny (model X.prog X.w) X.A (f v u) (EP X pins σ Q) X.xe s
def UnR(X:Cx)(f:Value→Sem Value)(r:V→Hp→VK→Prop):Prop :=
 ∀(pins:Pq) (s:Shared) (σ:St) (H:Hp) (x:V) (v:Value) (Q:VK),Inv X pins σ H s→RelV x v→r x H Q →
  wpAny (model X.prog X.w) X.A (f v) (EP X pins σ Q) X.xe s
def CallR(X:Cx)(f:Value)(r:List V→Hp→VK→Prop):Prop :=
 ∀(pins:Pq) (s:Shared) (σ:St) (H:Hp) (xs:List V) (us:List Value) (Q:VK),Inv X pins σ H s→Vals xs us→r xs H Q →
  wpAny (model X.prog X.w) X.A (call f us) (EP X pins σ Q) X.xe s
def TruR(X:Cx)(r:V→Hp→(Bool→Hp→Prop)→Prop):Prop :=
 ∀(pins:Pq) (s:Shared) (σ:St) (H:Hp) (x:V) (v:Value) (Q:Bool→Hp→Prop),Inv X pins σ H s→RelV x v→r x H Q →
  wpAny (model X.prog X.w) X.A (truthy v) (TP X pins σ Q) X.xe s
def tOp(r:R2)(ta tb:TE):TE:=λσ H Q=>ta σ H λx H1=>tb σ H1 λy H2=>r x y H2 Q
def tUn(r:V→Hp→VK→Prop)(ta:TE):TE:=λσ H Q=>ta σ H λx H1=>r x H1 Q
noncomputable def rI(C:Int→Int→Prop)(g:Int→Int→V):R2:=λx y H Q=>∃i j,x=.int i∧y=.int j∧C i j∧Q (g i j) H
noncomputable def rI0(g:Int→Int→V):R2:=λx y H Q=>∃i j,x=.int i∧y=.int j∧Q (g i j) H
def rU(g:Int→V):V→Hp→VK→Prop:=λx H Q=>∃i,x=.int i∧Q (g i) H
section
variable{X:Cx}{a b c:Expr}{ta tb tc:TE}{pos:Pos}
theorem binT(ha:PE X a ta)(hb:PE X b tb){pins:Pq}{s:Shared}{σ:St}{H:Hp}{R:V→V→Hp→Prop}(I:Inv X pins σ H s)
  (h:ta σ H λx H1=>tb σ H1 λy H2=>R x y H2) {Q:Value→Shared→Prop}{f:Value→Value→Sem Value}
  (hf:∀v u s2 x y H2,Inv X pins σ H2 s2→RelV x v→RelV y u→R x y H2→wpAny (model X.prog X.w) X.A (f v u) Q X.xe s2) :
  wpAny (model X.prog X.w) X.A (eval a X.env) (λv s₁=>wpAny (model X.prog X.w) X.A (eval b X.env) (λu s₂=>wpAny (model X.prog X.w) X.A (f v u) Q X.xe s₂) X.xe s₁) X.xe s:=by
 refine thn (ha pins s σ H _ I h) λv s1 h_=>?_;obtain⟨x,H1,I1,r1,q1⟩:=h_;refine thn (hb pins s1 σ H1 _ I1 q1) λu s2 h_=>?_;obtain⟨y,H2,I2,r2,q2⟩:=h_;exact hf v u s2 x y H2 I2 r1 r2 q2
theorem JNZ{op:Operator}{r:R2}(ho:OpR X (binaryOp op) r)(ha:PE X a ta)(hb:PE X b tb):PE X (.BinOp a op b pos) (tOp r ta tb):=by
 intro pins s σ H Q I h;exact wpAny_BinOp (binT ha hb I h λv u s2 x y H2 I2 rx ry q=>ho pins s2 σ H2 x y v u Q I2 rx ry q)
theorem JOC{op:UnaryOp}{r:V→Hp→VK→Prop}(ho:UnR X (unaryOp op) r)(ha:PE X a ta):PE X (.UnaryOp op a pos) (tUn r ta):=by
 intro pins s σ H Q I h;exact UnaryOp_ (thn (ha pins s σ H _ I h) λv s1 ⟨x,H1,I1,r1,q1⟩=>ho pins s1 σ H1 x v Q I1 r1 q1)
theorem opI{f:Value→Value→Sem Value}{C:Int→Int→Prop}{g:Int→Int→Int}
  (rule:∀(i j:Int) (t u:Tok) (s:Shared) (Q:Value→Shared→Prop) (E:Value→Shared→Prop),C i j→Q (.int (g i j) s.toks) { s with toks:=s.toks+1 }→wpAny (model X.prog X.w) X.A (f (.int i t) (.int j u)) Q E s) :
  OpR X f (rI C λi j=>.int (g i j)):=by
 intro pins s σ H x y v u Q I rx ry h;obtain⟨i,j,rfl,rfl,hc,q⟩:=h;obtain⟨t,rfl⟩:=rx;obtain⟨t',rfl⟩:=ry;exact rule i j t t' s _ _ hc ⟨.int (g i j),H,I.tok _,⟨_,rfl⟩,q⟩
theorem opI0{f:Value→Value→Sem Value}{g:Int→Int→Int}
  (rule:∀(i j:Int) (t u:Tok) (s:Shared) (Q:Value→Shared→Prop) (E:Value→Shared→Prop),Q (.int (g i j) s.toks) { s with toks:=s.toks+1 }→wpAny (model X.prog X.w) X.A (f (.int i t) (.int j u)) Q E s) :
  OpR X f (rI0 λi j=>.int (g i j)):=by
 intro pins s σ H x y v u Q I rx ry h;obtain⟨i,j,rfl,rfl,q⟩:=h;obtain⟨t,rfl⟩:=rx;obtain⟨t',rfl⟩:=ry;exact rule i j t t' s _ _ ⟨.int (g i j),H,I.tok _,⟨_,rfl⟩,q⟩
theorem opB0{f:Value→Value→Sem Value}{g:Int→Int→Bool}
  (rule:∀(i j:Int) (t u:Tok) (s:Shared) (Q:Value→Shared→Prop) (E:Value→Shared→Prop),Q (.bool (g i j)) s→wpAny (model X.prog X.w) X.A (f (.int i t) (.int j u)) Q E s) :
  OpR X f (rI0 λi j=>.bl (g i j)):=by
 intro pins s σ H x y v u Q I rx ry h;obtain⟨i,j,rfl,rfl,q⟩:=h;obtain⟨t,rfl⟩:=rx;obtain⟨t',rfl⟩:=ry;exact rule i j t t' s _ _ ⟨.bl (g i j),H,I,rfl,q⟩
def CPow(i j:Int):Prop:=0≤j∧j≤1000000∧i.natAbs<2 ^ 64
def CMul(i j:Int):Prop:=(-(2 ^ 64)<i∧i<2 ^ 64)∨(-(2 ^ 64)<j∧j<2 ^ 64)
theorem CMul.ok{i j:Int}(h:CMul i j):IntMulOk i j:=by
 rcases h with ⟨h1,h2⟩|⟨h1,h2⟩
 ·exact .of_left (intBits_le_64 h1 h2)
 ·exact .of_right (intBits_le_64 h1 h2)
theorem JPA:OpR X (binaryOp .Add) (rI0 λi j=>.int (i+j)):=opI0 λ_ _ _ _ _ _ _ q=>add_int q
theorem JKx:OpR X (binaryOp .Sub) (rI0 λi j=>.int (i - j)):=opI0 λ_ _ _ _ _ _ _ q=>sub_int q
theorem JNL:OpR X (binaryOp .Mod) (rI (λ_ j=>j≠0) λi j=>.int (i.fmod j)):=opI λ_ _ _ _ _ _ _ hc q=>mod_int' hc q
theorem JQf:OpR X (binaryOp .Pow) (rI CPow λi j=>.int (i ^ j.toNat)):=opI λ_ _ _ _ _ _ _ hc q=>pow_int_small hc.1 hc.2.1 hc.2.2 q
theorem unI{f:Value→Sem Value}{g:Int→Int}
  (rule:∀(i:Int) (t:Tok) (s:Shared) (Q:Value→Shared→Prop) (E:Value→Shared→Prop),Q (.int (g i) s.toks) { s with toks:=s.toks+1 }→wpAny (model X.prog X.w) X.A (f (.int i t)) Q E s) :
  UnR X f (rU λi=>.int (g i)):=by
 intro pins s σ H x v Q I rx h;obtain⟨i,rfl,q⟩:=h;obtain⟨t,rfl⟩:=rx;exact rule i t s _ _ ⟨.int (g i),H,I.tok _,⟨_,rfl⟩,q⟩
theorem JLe:UnR X (unaryOp .USub) (rU λi=>.int (-i)):=unI λ_ _ _ _ _ q=>neg_int q
end
noncomputable def scal:V→V→Bool
 |.non,.non=>true|.non,.int _=>true|.int _,.non=>true|.non,.bl _=>true|.bl _,.non=>true|.non,.str _=>true|.str _,.non=>true
 |.int _,.int _=>true|.bl _,.bl _=>true|.str _,.str _=>true|.byt _,.byt _=>true
 |.int _,.str _=>true|.str _,.int _=>true|.bl _,.str _=>true|.str _,.bl _=>true
 |_,_=>false
noncomputable def rEq:R2:=λx y H Q=>scal x y=true∧Q (.bl (decide (x=y))) H
theorem JNR{i j:Int}:decide (V.int i=V.int j)=(i==j):=by
 rw[Bool.eq_iff_iff];simp
theorem JOv{i j:Bool}:decide (V.bl i=V.bl j)=(i==j):=by
 rw[Bool.eq_iff_iff];simp
theorem JMY{i j:Str}:decide (V.str i=V.str j)=(i==j):=by
 rw[Bool.eq_iff_iff];simp
theorem JMd{i j:Array UInt8}:decide (V.byt i=V.byt j)=(i.toList==j.toList):=by
 rw[Bool.eq_iff_iff];cases i;cases j;simp
section
variable{X:Cx}{a b c:Expr}{ta tb tc:TE}{pos:Pos}
theorem JBG{pins:Pq}{σ:St}{H:Hp}{s:Shared}{Q:VK}{k k':Bool}(I:Inv X pins σ H s)(q:Q (.bl k) H)(e:k=k'):EP X pins σ Q (.bool k') s:=by
 subst e;exact⟨.bl k,H,I,rfl,q⟩
theorem JIi:OpR X (compareOp .Eq) rEq:=by
 intro pins s σ H x y v u Q I rx ry h;obtain⟨hs,q⟩:=h;cases x with
 |non =>
  cases rx;cases y with
  |non=>cases ry;exact PySem.EqNone.eq_none_none (JBG I q (by simp))
  |bl j=>cases ry;exact PySem.EqNone.eq_none_bool (JBG I q (by simp))
  |int j=>obtain⟨t',rfl⟩:=ry;exact PySem.EqNone.eq_none_int (JBG I q (by simp))
  |str j=>obtain⟨t',rfl⟩:=ry;exact PySem.EqNone.eq_none_str (JBG I q (by simp))
  |_=>exact absurd (show false=true from hs) Bool.false_ne_true
 |bl i =>
  cases rx;cases y with
  |non=>cases ry;exact PySem.EqNone.eq_bool_none (JBG I q (by simp))
  |bl j=>cases ry;exact eq_bool (JBG I q JOv)
  |str j=>obtain⟨t',rfl⟩:=ry;exact PySem.EqMixed.eq_bool_str (JBG I q (by simp))
  |_=>exact absurd (show false=true from hs) Bool.false_ne_true
 |int i =>
  obtain⟨t,rfl⟩:=rx;cases y with
  |non=>cases ry;exact PySem.EqNone.eq_int_none (JBG I q (by simp))
  |int j=>obtain⟨t',rfl⟩:=ry;exact eq_int (JBG I q JNR)
  |str j=>obtain⟨t',rfl⟩:=ry;exact PySem.EqMixed.eq_int_str (JBG I q (by simp))
  |_=>exact absurd (show false=true from hs) Bool.false_ne_true
 |str i =>
  obtain⟨t,rfl⟩:=rx;cases y with
  |non=>cases ry;exact PySem.EqNone.eq_str_none (JBG I q (by simp))
  |bl j=>cases ry;exact PySem.EqMixed.eq_str_bool (JBG I q (by simp))
  |int j=>obtain⟨t',rfl⟩:=ry;exact PySem.EqMixed.eq_str_int (JBG I q (by simp))
  |str j=>obtain⟨t',rfl⟩:=ry;exact eq_str (JBG I q JMY)
  |_=>exact absurd (show false=true from hs) Bool.false_ne_true
 |byt i =>
  obtain⟨t,rfl⟩:=rx;cases y with
  |byt j=>obtain⟨t',rfl⟩:=ry;exact PySem.W.eq_bytes (JBG I q JMd)
  |_=>exact absurd (show false=true from hs) Bool.false_ne_true
 |_=>cases y<;>exact absurd (show false=true from hs) Bool.false_ne_true
theorem op_lt:OpR X (compareOp .Lt) (rI0 λi j=>.bl (decide (i<j))):=opB0 λ_ _ _ _ _ _ _ q=>lt_int q
theorem op_le:OpR X (compareOp .LtE) (rI0 λi j=>.bl (decide (i≤j))):=opB0 λ_ _ _ _ _ _ _ q=>le_int q
theorem op_gt:OpR X (compareOp .Gt) (rI0 λi j=>.bl (decide (j<i))):=opB0 λ_ _ _ _ _ _ _ q=>gt_int q
theorem op_ge:OpR X (compareOp .GtE) (rI0 λi j=>.bl (decide (j≤i))):=opB0 λ_ _ _ _ _ _ _ q=>ge_int q
theorem JIY:OpR X (compareOp .In) (λx y H Q=>∃i j,x=.str i∧y=.str j∧Q (.bl (!(Builtin.Str.occurrences j i 0 j.length 1).isEmpty)) H):=by
 intro pins s σ H x y v u Q I rx ry h;obtain⟨i,j,rfl,rfl,q⟩:=h;obtain⟨t,rfl⟩:=rx;obtain⟨t',rfl⟩:=ry;exact in_str (JBG I q rfl)
theorem OpR.or{f:Value→Value→Sem Value}{r r':R2}(h:OpR X f r)(h':OpR X f r'):OpR X f (λx y H Q=>r x y H Q∨r' x y H Q):=by
 intro pins s σ H x y v u Q I rx ry q;rcases q with q|q
 ·exact h pins s σ H x y v u Q I rx ry q
 ·exact h' pins s σ H x y v u Q I rx ry q
theorem JFz{op:CmpOp}{r:R2}(ho:OpR X (compareOp op) r)(ha:PE X a ta)(hb:PE X b tb)(hm:behindInMarks op b=false):PE X (.Compare a [op] [b] pos) (tOp r ta tb):=by
 intro pins s σ H Q I h;exact wpAny_Compare1 (binT ha hb I h λv u s2 x y H2 I2 rx ry q=>ho pins s2 σ H2 x y v u Q I2 rx ry q) hm
def JOm(t:TE):TT:=λσ H Q=>t σ H λx H'=>∃k,x=.bl k∧Q k H'
theorem JBr{op:CmpOp}{r:R2}(ho:OpR X (compareOp op) r)(ha:PE X a ta)(hb:PE X b tb)(hm:behindInMarks op b=false):PT X (.Compare a [op] [b] pos) (JOm (tOp r ta tb)):=by
 intro pins s σ H Q I h;refine wpAny_isTrue_Compare1 (thn (ha pins s σ H _ I h) λv s1 ⟨x,H1,I1,r1,q1⟩=>thn (hb pins s1 σ H1 _ I1 q1) λu s2 ⟨y,H2,I2,r2,q2⟩ =>
  thn (ho pins s2 σ H2 x y v u _ I2 r1 r2 q2) λc s3 ⟨z,H3,I3,r3,k,e,q3⟩=>?_) hm
 subst e;cases r3;exact wpAny_truthy_bool ⟨H3,I3,q3⟩
def TruV(K:Kq)(x:V)(H:Hp)(k:Bool):Prop :=
 match x with
 |.non=>k=false
 |.bl b=>k=b
 |.int i=>k=(i != 0)
 |.str y=>y.length≤sizeLine∧k=((y.length:Int) != 0)
 |.byt y=>y.size≤sizeLine∧k=((y.size:Int) != 0)
 |.ref p=>(∃xs,SqL K H p xs∧k=!xs.isEmpty)∨(∃xs,SqT K H p xs∧k=!xs.isEmpty)∨∃kvs,H p=some (.dK kvs)∧k=!kvs.isEmpty
 |_=>False
theorem JHR{κ:Type}{kvs:List (κ×V)}{vs:List (κ×Value)}(r:KV kvs vs):(!vs.isEmpty)=!kvs.isEmpty:=by
 cases r<;>rfl
theorem JDr{xs:List V}{its:List Value}(r:Vals xs its):(!its.toArray.isEmpty)=!xs.isEmpty:=by
 cases r<;>simp
theorem JDF:(sizeLine:Nat)<2 ^ 63:=by rw[sizeLine_eq];decide
theorem JLo:TruR X (λx H Q=>∃k,TruV X.K x H k∧Q k H):=by
 intro pins s σ H x v Q I rx h;obtain⟨k,e,q⟩:=h;have hl:=JDF;have hs:sizeLine=16777216:=sizeLine_eq;cases x with
 |non =>
  cases rx;have e':k=false:=e;subst e';exact truthy_none ⟨H,I,q⟩
 |bl b =>
  cases rx;have e':k=b:=e;subst e';exact wpAny_truthy_bool ⟨H,I,q⟩
 |int i =>
  obtain⟨t,rfl⟩:=rx;have e':k=(i != 0):=e;subst e';exact PySem.P.truthy_int ⟨H,I,q⟩
 |str y =>
  obtain⟨t,rfl⟩:=rx;obtain⟨hy,e'⟩:y.length≤sizeLine∧k=((y.length:Int) != 0):=e;subst e';exact PySem.P.truthy_str (by omega) ⟨H,I.tok _,q⟩
 |byt y =>
  obtain⟨t,rfl⟩:=rx;obtain⟨hy,e'⟩:y.size≤sizeLine∧k=((y.size:Int) != 0):=e;subst e';exact PySem.W.truthy_bytes (by omega) ⟨H,I.tok _,q⟩
 |ref p =>
  cases rx;have e':(∃xs,SqL X.K H p xs∧k=!xs.isEmpty)∨(∃xs,SqT X.K H p xs∧k=!xs.isEmpty)∨∃kvs,H p=some (.dK kvs)∧k=!kvs.isEmpty:=e;rcases e' with ⟨xs,hx,e'⟩|⟨xs,hx,e'⟩|⟨kvs,hx,e'⟩
  ·subst e';obtain⟨its,r,pl,hz⟩:=I.list hx;have hlen:=r.length;exact wpAny_truthy_list pl.isList (by simp only[List.size_toArray];omega) ⟨H,I.tok _,by rw[JDr r];exact q⟩
  ·subst e';obtain⟨its,r,pl,hz⟩:=I.tuple hx;have hlen:=r.length;exact truthy_tuple pl (by simp only[List.size_toArray];omega) ⟨H,I.tok _,by rw[JDr r];exact q⟩
  ·subst e';obtain⟨hz,hS,vs,r,m⟩:kvs.length≤sizeLine∧(p==sysModules)=false∧∃vs,KV kvs vs∧s.heap.DictOf (JBO X.prog X.w) p vs:=I.hok p _ hx;have hlen:kvs.length=vs.length:=Paired.length r;exact wpAny_truthy_dict hS m (by omega) ⟨H,I.tok _,by rw[JHR r];exact q⟩
 |_=>exact(show False from e).elim
theorem JKh(ha:PE X a ta)(he:∀whole,isTrue a X.env whole=(do let v←whole;standAt a.pos;holding [v] (truthy v))) :
  PT X a (λσ H Q=>ta σ H λx H'=>∃k,TruV X.K x H' k∧Q k H'):=by
 intro pins s σ H Q I h;exact isTrue_plain (thn (ha pins s σ H _ I h) λv s1 ⟨x,H1,I1,r1,q1⟩=>JLo pins s1 σ H1 x v Q I1 r1 q1) (he _)
theorem JHE:OpR X (binaryOp .Add) (λx y H Q=>∃i j,x=.str i∧y=.str j∧i.length+j.length≤sizeLine∧Q (.str (i++j)) H):=by
 intro pins s σ H x y v u Q I rx ry h;obtain⟨i,j,rfl,rfl,hz,q⟩:=h;obtain⟨t,rfl⟩:=rx;obtain⟨t',rfl⟩:=ry;exact add_str (λt' tk=>⟨.str (i++j),H,I.tok _,⟨_,rfl⟩,q⟩) hz
theorem vals1{x:V}{us:List Value}(r:Vals [x] us):∃u,us=[u]∧RelV x u:=by
 cases r with
 |cons r1 r2=>cases r2;exact⟨_,rfl,r1⟩
theorem JJ3:CallR X (.builtin "abs") (λxs H Q=>∃i,xs=[.int i]∧Q (.int (if i<0 then -i else i)) H):=by
 intro pins s σ H xs us Q I r h;obtain⟨i,rfl,q⟩:=h;obtain⟨u,rfl,t,rfl⟩:=vals1 r;exact call_abs_int λu tk=>⟨.int (if i<0 then -i else i),H,I.tok _,⟨_,rfl⟩,q⟩
theorem JE6:CallR X (.type "str") (λxs H Q=>∃i,xs=[.int i]∧i.natAbs.log2<1920∧Q (.str (toString i)) H):=by
 intro pins s σ H xs us Q I r h;obtain⟨i,rfl,hz,q⟩:=h;obtain⟨u,rfl,t,rfl⟩:=vals1 r;exact PySem.P.str_of_int hz ⟨.str _,H,I.tok _,⟨_,rfl⟩,q⟩
def LenV(K:Kq)(x:V)(H:Hp)(n:Nat):Prop :=
 match x with
 |.str y=>y.length≤sizeLine∧n=y.length
 |.byt y=>y.size≤sizeLine∧n=y.size
 |.ref p=>(∃xs,SqL K H p xs∧n=xs.length)∨∃xs,SqT K H p xs∧n=xs.length
 |_=>False
theorem JGC:CallR X (.builtin "len") (λxs H Q=>∃x n,xs=[x]∧LenV X.K x H n∧Q (.int n) H):=by
 intro pins s σ H xs us Q I r h;obtain⟨x,n,rfl,e,q⟩:=h;obtain⟨u,rfl,rx⟩:=vals1 r;have hl:=JDF;have hs:sizeLine=16777216:=sizeLine_eq;cases x with
 |str y =>
  obtain⟨t,rfl⟩:=rx;obtain⟨hy,e'⟩:y.length≤sizeLine∧n=y.length:=e;subst e';exact len_str (by omega) ⟨.int _,H,I.tok _,⟨_,rfl⟩,q⟩
 |byt y =>
  obtain⟨t,rfl⟩:=rx;obtain⟨hy,e'⟩:y.size≤sizeLine∧n=y.size:=e;subst e';exact PySem.W.len_bytes (by omega) ⟨.int _,H,I.tok _,⟨_,rfl⟩,q⟩
 |ref p =>
  cases rx;have e':(∃xs,SqL X.K H p xs∧n=xs.length)∨∃xs,SqT X.K H p xs∧n=xs.length:=e;rcases e' with ⟨xs,hx,e'⟩|⟨xs,hx,e'⟩
  ·subst e';obtain⟨its,r',pl,hz⟩:=I.list hx;have hlen:=r'.length;exact Calls.call_len_list pl.isList (by simp only[List.size_toArray];omega) ⟨.int xs.length,H,I.tok _,⟨_,by simp only[List.size_toArray];rw[hlen]⟩,q⟩
  ·subst e';obtain⟨its,r',pl,hz⟩:=I.tuple hx;have hlen:=r'.length;exact len_tuple pl (by simp only[List.size_toArray];omega) ⟨.int xs.length,H,I.tok _,⟨_,by simp only[List.size_toArray];rw[hlen]⟩,q⟩
 |_=>exact(show False from e).elim
end
end L2
namespace L2
open PySem PySem.Spec PyProof.Rows
structure ObjM(h:Heap)(x dx C:Addr)(mA:Str→Option Value):Prop where
 obj:h.get? x=some (PySem.W.instObj C dx)
 ns:h.Ns1 dx mA
 ne:dx≠x
section
variable{prog:Program}{w:World}{A:Around}{E:Value→Shared→Prop}{s:Shared}{K:Kq}{x dx C f:Addr}{mA:Str→Option Value}{name:Str}{v:Value}
end
section
variable{P:Program}{w:World}{H H':Hp}{h h':Heap}{a C dx:Addr}{fs fs':List (Str×V)}
end
structure Cls(K:Kq)(C:Addr):Prop where
 pg:PySem.W.plainGet K C Str.empty=true
 hd:PySem.W.hasDictIn K C=true
 po:PySem.W.plainOver K C=true
 sa:PySem.W.findIn K (.ref C) "__setattr__"=some (some (.builtin "object.__setattr__"))
theorem Cls.get{K:Kq}{C:Addr}(c:Cls K C)(f:Str):PySem.W.plainGet K C f=true:=c.pg
section
variable{X:Cx}{pins:Pq}{σ:St}{H:Hp}{s:Shared}{a C dx:Addr}{fs:List (Str×V)}{f:Str}{v:V}{A:Around}{E:Value→Shared→Prop}
end
section
variable{X:Cx}{o e value:Expr}{f:Str}{pos pos' tpos:Pos}{ta tv:TE}
end
section
variable{X:Cx}{pins:Pq}{σ:St}{H:Hp}{s:Shared}{A:Around}{E:Value→Shared→Prop}{Q:Value→Shared→Prop}{c:Value}{b:Bool}
end
end L2
namespace L2
open PySem PySem.Spec PyProof.Rows
structure Room(k:Nat)(A:Around):Prop where
 hd:A.handled=none
 dp:A.depth+3*k+5<recursionLimit
 un:A.units+16*k+200<cLine
theorem Room.mono{j k:Nat}{A:Around}(r:Room k A)(h:j≤k):Room j A:=⟨r.hd,by have:=r.dp;omega,by have:=r.un;omega⟩
theorem Room.deeper{k:Nat}{A:Around}(r:Room (k+1) A)(env:Env):Room k (A.deeper env) :=
 ⟨r.hd,by have:=r.dp;show A.depth+1+3*k+5<_;omega,by have:=r.un;show A.units+3+16*k+200<_;omega⟩
theorem Room.depth{k:Nat}{A:Around}(r:Room k A):A.depth<recursionLimit:=by have:=r.dp;omega
def tNil:TA:=λ_ H Q=>Q [] H
def JC9(ta:TE)(tr:TA):TA:=λσ H Q=>ta σ H λx H1=>tr σ H1 λxs H2=>Q (x::xs) H2
section
variable{X:Cx}{e:Expr}{es:List Expr}{te:TE}{t:TA}{pos:Pos}
theorem JAi:PA X [] tNil:=λ_ _ _ _ H Q I h=>Calls.spliced_nil ⟨[],H,I,.nil,h⟩
theorem JAM(ha:PE X e te)(hr:PA X es t)(hs:starEach (e::es) X.env=(false,eval e X.env)::starEach es X.env:=by rfl):PA X (e::es) (JC9 te t):=by
 intro pos pins s σ H Q I h;rw[hs];show wpAny _ _ (spliced ((false,eval e X.env)::backTo pos (starEach es X.env))) _ _ s;refine Calls.spliced_cons (thn (ha pins s σ H _ I h) λu s1 h_=>?_);obtain⟨x,H1,I1,r1,q1⟩:=h_;exact thn (hr pos pins s1 σ H1 _ I1 q1) λus s2 ⟨xs,H2,I2,r2,q2⟩=>⟨x::xs,H2,I2,.cons r1 r2,q2⟩
def tTup(t:TA):TE:=λσ H Q=>t σ H λxs H1=>xs.length≤sizeLine∧∀p,H1 p=none→Q (.ref p) (upd H1 p (.tup xs))
def tLst(t:TA):TE:=λσ H Q=>t σ H λxs H1=>xs.length≤sizeLine∧∀p,H1 p=none→Q (.ref p) (upd H1 p (.lst xs))
theorem JFa{x1}(h:PA X es t):PE X (.Tuple es x1 pos) (tTup t):=by
 intro pins s σ H Q I hq;refine wpAny_Tuple_spliced (thn (h pos pins s σ H _ I hq) λus s1 ⟨xs,H1,I1,r,z,q⟩=>⟨by rw[←r.length];exact z,?_⟩)
 have hf:H1 s1.heap.objs.size=none:=I1.hok.fresh (Nat.le_refl _);refine⟨.ref s1.heap.objs.size,upd H1 s1.heap.objs.size (.tup xs),I1.laid (t':=s1.toks) (λb u e=>Heap.get?_push_of_some _ e) (Nat.le_refl _) ?_,rfl,q _ hf⟩;exact⟨z,us,r,⟨_,Heap.get?_push_size _ rfl,rfl,_,rfl⟩⟩
theorem JLP(h:PA X es t):PE X (.List es pos) (tLst t):=by
 intro pins s σ H Q I hq;refine wpAny_List_spliced (thn (h pos pins s σ H _ I hq) λus s1 ⟨xs,H1,I1,r,z,q⟩=>⟨by rw[←r.length];exact z,?_⟩)
 have hf:H1 s1.heap.objs.size=none:=I1.hok.fresh (Nat.le_refl _);refine⟨.ref s1.heap.objs.size,upd H1 s1.heap.objs.size (.lst xs),I1.laid (t':=s1.toks) (λb u e=>Heap.get?_push_of_some _ e) (Nat.le_refl _) ?_,rfl,q _ hf⟩;exact⟨z,us,0,r,Heap.get?_push_size _ rfl⟩
end
noncomputable abbrev Sp:=List V→Hp→VK→XK→Prop
noncomputable abbrev CXT:=List Env→Hp→Shared→XK→Value→Shared→Prop
structure Env0(P:Program)(w:World)(K:Kq)(mg:Str→Option Value)(base:Heap)(A:Around)(outer:List Env)(s:Shared)(H:Hp):Prop where
 frames:A.frames=some outer
 mod:Mod K mg base
 bs:∀b o,base.get? b=some o→s.heap.get? b=some o∧H b=none
 bsz:base.objs.size≤s.heap.objs.size
 funs:s.heap.FunFrames base outer
 frf:∀b∈frs outer,H b=none
 hok:HOk P w H s.heap
 bare:AllBare s.gens
def CE(outer:List Env)(P:Program)(w:World)(H:Hp)(s:Shared)(Q:VK)(u:Value)(s':Shared):Prop :=
 ∃v H',s'.os=s.os∧AllBare s'.gens∧Un (frs outer) [] H H' s.heap s'.heap∧HOk P w H' s'.heap∧RelV v u∧Q v H'
def CR(CX:CXT)(outer:List Env)(P:Program)(w:World)(H:Hp)(s:Shared)(Q:VK)(E:XK)(r:Result)(s':Shared):Prop :=
 match r with
 |.ok (.ret u)=>CE outer P w H s Q u s'
 |.ok _=>False
 |.error e=>CX outer H s E e s'
structure FnOk(P:Program)(w:World)(K:Kq)(mg:Str→Option Value)(base:Heap)(CX:CXT)(k:Nat)(f:Addr)(fd:FuncData)(ps:List Str)(sp:Sp):Prop where
 len:∀vs H Q E,sp vs H Q E→vs.length=ps.length
 run:∀(A:Around) (outer:List Env) (s:Shared) (H:Hp) (args:Args) (us:List Value) (vs:List V) (Q:VK) (E:XK),Room k A→Env0 P w K mg base A outer s H→BindsTo s fd args (ps.zip us)→Vals vs us→sp vs H Q E →
  codeAny (model P w) A (.call (.ref f) args) (CR CX outer P w H s Q E) s
theorem FnOk.mono{P:Program}{w:World}{K:Kq}{mg:Str→Option Value}{base:Heap}{CX:CXT}{j k:Nat}{f:Addr}{fd:FuncData}{ps:List Str}{sp:Sp}(F:FnOk P w K mg base CX j f fd ps sp)(h:j≤k) :
 FnOk P w K mg base CX k f fd ps sp:=⟨F.len,λA outer s H args us vs Q E hr=>F.run A outer s H args us vs Q E (hr.mono h)⟩
theorem FnOk.imp{P:Program}{w:World}{K:Kq}{mg:Str→Option Value}{base:Heap}{CX:CXT}{k:Nat}{f:Addr}{fd:FuncData}{ps:List Str}{sp sp':Sp}(F:FnOk P w K mg base CX k f fd ps sp)
  (h:∀vs H Q E,sp' vs H Q E→sp vs H Q E):FnOk P w K mg base CX k f fd ps sp' :=
 ⟨λvs H Q E q=>F.len vs H Q E (h _ _ _ _ q),λA outer s H args us vs Q E hr he hb hv hs=>F.run A outer s H args us vs Q E hr he hb hv (h _ _ _ _ hs)⟩
section
variable{X:Cx}{pins:Pq}{σ:St}{H:Hp}{s s':Shared}
theorem Inv.env0(I:Inv X pins σ H s):Env0 X.prog X.w X.K X.mg X.base X.A X.stack s H :=
 ⟨I.ok.frames,I.ok.mod,I.bs,Nat.le_trans I.ok.bsz I.sz,I.stack,I.stkFree,I.hok,I.bare⟩
theorem Inv.after{Q:VK}{u:Value}(I:Inv X pins σ H s)(h:CE X.stack X.prog X.w H s Q u s'):EP X pins σ Q u s':=by
 obtain⟨v,H',os,bare,un,hok,r,q⟩:=h;obtain⟨hh,g,d,t,os'⟩:=s';obtain rfl:os'=s.os:=os;exact⟨v,H',I.call (h':=hh) (g':=g) (d':=d) (t':=t) (ch:=[]) un hok bare (λb z=>absurd z (by simp)),r,q⟩
end
def JDS(sp:Sp)(dvs:List V)(E:XK)(t:TA):TE:=λσ H Q=>t σ H λvs H1=>sp (vs++dvs) H1 Q E
def Binds(K:Kq)(fd:FuncData)(ps:List Str)(ds:List Value):Prop :=
 ∀(s:Shared) (us:List Value),K.In s.heap→(us++ds).length=ps.length→BindsTo s fd ⟨us,[]⟩ (ps.zip (us++ds))
theorem Binds.all{K:Kq}{fd:FuncData}{ps:List Str}(h:∀us:List Value,us.length=ps.length→bindArgs fd ⟨us,[]⟩=pure (ps.zip us)):Binds K fd ps []:=λs us _ hl=>by
 rw[List.append_nil]at hl ⊢;exact .of_eq (h us hl)
def JDo(CX:CXT)(X:Cx)(E:XK):Prop:=∀(pins:Pq) (σ:St) (H:Hp) (s:Shared) (e:Value) (s':Shared),Inv X pins σ H s→CX X.stack H s E e s'→X.xe e s'
section
variable{X:Cx}{CX:CXT}{k:Nat}{f C:Addr}{fd:FuncData}{ps:List Str}{sp:Sp}{dvs:List V}{ds:List Value}{E:XK}{x m:Str}{p pos apos:Pos}{e o:Expr}{es:List Expr}{ta:TE}{t:TA}
theorem JPW{pins:Pq}{σ:St}{H:Hp}{s:Shared}{Q:VK}{us:List Value}{vs:List V}(F:FnOk X.prog X.w X.K X.mg X.base CX k f fd ps sp)(hr:Room k X.A)(hb:Binds X.K fd ps ds)(hd:Vals dvs ds)(hx:JDo CX X E)
  (I:Inv X pins σ H s) (r:Vals vs us) (h:sp (vs++dvs) H Q E):wpAny (model X.prog X.w) X.A (call (.ref f) us) (EP X pins σ Q) X.xe s:=by
 have r2:Vals (vs++dvs) (us++ds):=r.append hd;have hl:(us++ds).length=ps.length:=by rw[←r2.length];exact F.len _ _ _ _ h
 refine wpAny_call (codeAny_mono (F.run X.A X.stack s H ⟨us,[]⟩ (us++ds) (vs++dvs) Q E hr I.env0 (hb s us I.kIn hl) r2 h) λr s' hq=>?_);cases r with
 |error e=>exact hx pins σ H s e s' I hq
 |ok fl =>
  cases fl with
  |ret u=>exact I.after hq
  |next=>exact fF hq
  |brk=>exact fF hq
  |cont=>exact fF hq
theorem JBh(F:FnOk X.prog X.w X.K X.mg X.base CX k f fd ps sp)(hr:Room k X.A)(hg:Gl X x)(hm:X.mg x=some (.ref f))(hk:PySem.W.keepIn X.K (.ref f)=true)(hb:Binds X.K fd ps ds)(hd:Vals dvs ds)(hx:JDo CX X E)
  (ha:PA X (e::es) t) (hdb:(x==("__debug__":Str))=false:=by decide) (he:starEach (e::es) X.env=(false,eval e X.env)::starEach es X.env:=by rfl) (hpl:(backTo pos (starEach es X.env)).any (·.1)=false:=by rfl) :
  PE X (.Call (.Name x p) (e::es) [] pos) (JDS sp dvs E t):=by
 intro pins s σ H Q I h;refine wpAny_Call_Name_kw (JEL I hg hm ?_ hdb);refine PySem.W.callWith_K (h₀:=X.base) I.ok.mod.kin hk (thn (ha pos pins s σ H _ I h) λus s1 ⟨vs,H1,I1,r,q⟩=>⟨I1.kIn,?_⟩) he hpl;exact JPW F hr hb hd hx I1 r q
end
section
variable{X:Cx}{CX:CXT}{k:Nat}{f C:Addr}{fd:FuncData}{ps ks:List Str}{sp:Sp}{E:XK}{x m:Str}{p pos apos kpos:Pos}{e o:Expr}{es:List Expr}{kws:List Keyword}{te ta:TE}{t tk:TA}{nm:Option Str}
variable{g:List Value→List Value→List Value}{gV:List V→List V→List V}
end
structure FnScope(N P:List Str)(sc:Scope):Prop where
 kind:sc.kind=.function
 co:sc.isCoroutine=false
 gen:sc.isGenerator=false
 nd:N.Nodup
 pre:N.take P.length=P
 par:∀x∈P,sc.names.lookup x=some .local∨sc.names.lookup x=some .cell
 nofree:∀y∈sc.names,y.2≠.free
theorem JFR{kindOf:Str→Option NameKind}{x:Str}:∀ {binds:List (Str×Value)}{m:Str→Option Value},(∀v,(x,v) ∉ binds)→bindL kindOf binds m x=m x
 | [],_,_=>rfl
 |(n,v)::r,m,h=>by
  unfold bindL;rw[JFR λw hw=>h w (List.mem_cons_of_mem _ hw)]
  split
  · have:x≠n:=by rintro rfl;exact h v List.mem_cons_self
    simp[this]
  · rfl
theorem JE7{kindOf:Str→Option NameKind}{x:Str}:∀ {binds:List (Str×Value)}{m:Str→Option Value},(∀v,(x,v) ∉ binds)→bindC kindOf binds m x=m x
 | [],_,_=>rfl
 |(n,v)::r,m,h=>by
  unfold bindC;rw[JE7 λw hw=>h w (List.mem_cons_of_mem _ hw)]
  split
  · rfl
  · have:x≠n:=by rintro rfl;exact h v List.mem_cons_self
    simp[this]
theorem JFA{kindOf:Str→Option NameKind}{x:Str}{v:Value}:∀ {P:List Str}{vs:List Value}{i:Nat}{m:Str→Option Value},P.Nodup→P[i]? = some x→vs[i]? = some v→kindOf x=some .local →
  bindL kindOf (P.zip vs) m x=some v
 | [],_,_,_,_,h,_,_=>by simp at h
 |_::_,[],_,_,_,_,h,_=>by simp at h
 |p::P,w::vs,0,m,nd,h1,h2,hk=>by
  simp at h1 h2;subst h1;subst h2;show bindL kindOf ((p,w)::P.zip vs) m p=_;unfold bindL;rw[JFR λv hv=>(List.nodup_cons.mp nd).1 (List.of_mem_zip hv).1,if_pos hk];simp
 |p::P,w::vs,i+1,m,nd,h1,h2,hk=>by
  show bindL kindOf ((p,w)::P.zip vs) m x=_;unfold bindL;exact JFA (i:=i) (List.nodup_cons.mp nd).2 (by simpa using h1) (by simpa using h2) hk
theorem JE5{kindOf:Str→Option NameKind}{x:Str}{v:Value}:∀ {P:List Str}{vs:List Value}{i:Nat}{m:Str→Option Value},P.Nodup→P[i]? = some x→vs[i]? = some v→kindOf x≠some .local →
  bindC kindOf (P.zip vs) m x=some v
 | [],_,_,_,_,h,_,_=>by simp at h
 |_::_,[],_,_,_,_,h,_=>by simp at h
 |p::P,w::vs,0,m,nd,h1,h2,hk=>by
  simp at h1 h2;subst h1;subst h2;show bindC kindOf ((p,w)::P.zip vs) m p=_;unfold bindC;rw[JE7 λv hv=>(List.nodup_cons.mp nd).1 (List.of_mem_zip hv).1,if_neg hk];simp
 |p::P,w::vs,i+1,m,nd,h1,h2,hk=>by
  show bindC kindOf ((p,w)::P.zip vs) m x=_;unfold bindC;exact JE5 (i:=i) (List.nodup_cons.mp nd).2 (by simpa using h1) (by simpa using h2) hk
noncomputable def start(N:List Str)(vs:List V):St:=vs.map some++List.replicate (N.length - vs.length) none
noncomputable def cxOf(CX:CXT)(P:Program)(w:World)(K:Kq)(mg:Str→Option Value)(base:Heap)(N:List Str)(qual:Str)(scope:Scope)(f:Addr)(cd:Value)(A:Around)(outer:List Env)(s:Shared)(H:Hp)(E:XK):Cx where
 prog:=P
 w:=w
 K:=K
 mg:=mg
 base:=base
 A:=A.deeper (envOfC qual scope s.heap.objs.size f cd)
 N:=N
 s₀:=s
 H₀:=H
 env:=envOfC qual scope s.heap.objs.size f cd
 outer:=outer
 stack:=envOfC qual scope s.heap.objs.size f cd::outer
 ex:=[]
 calm:=true
 fn:=λ_=>true
 pn:=[]
 xe:=λe s'=>wpAny (model P w) (A.deeper (envOfC qual scope s.heap.objs.size f cd)) (leaving (envOfC qual scope s.heap.objs.size f cd) e) (λ_ s''=>CX outer H s E e s'') (λe' s''=>CX outer H s E e' s'') s'
theorem JGt{sc:Scope}{n:Nat}{x:Str}(h:sc.names.lookup x=some .cell):∃c,(cellsFrom n sc.names []).lookup x=some c:=by
 have q:=PySem.W.cellsFrom_some sc.names n [] (.inl h);exact Option.isSome_iff_exists.mp q
theorem JH9{CX:CXT}{P:Program}{w:World}{K:Kq}{mg:Str→Option Value}{base:Heap}{N ps:List Str}{qual:Str}{scope:Scope}{f:Addr}{cd:Value}{A:Around}{outer:List Env}{s s1:Shared}{H:Hp}{E:XK}{us:List Value}{vs:List V}
  (S:FnScope N ps scope) (hd:A.handled=none) (e0:Env0 P w K mg base A outer s H) (hl:vs.length=ps.length) (r:Vals vs us)
  (x:InCallC s s.heap.objs.size (bindL (envOfC qual scope s.heap.objs.size f cd).kindOf (ps.zip us) λ_=>none) (cellsFrom (s.heap.objs.size+1) scope.names []) (bindC (envOfC qual scope s.heap.objs.size f cd).kindOf (ps.zip us) λ_=>none) s1) :
  Inv (cxOf CX P w K mg base N qual scope f cd A outer s H E) [] (start N vs) H s1:=by
 have hpl:ps.length≤N.length:=by have:=congrArg List.length S.pre;rw[List.length_take]at this;omega
 obtain⟨h1,tk,rfl,hk⟩:=x.done;have noA:∀b:Addr,b ∉ (cxOf CX P w K mg base N qual scope f cd A outer s H E).ex:=λb z=>absurd (show b∈([]:List Addr) from z) (by simp)
 refine⟨⟨e0.mod,S.kind,rfl,rfl,Nat.le_refl _,λy z c h1 h2=>?_,λy hy=>?_,λy c _ h=>?_,λ_=>hd,Around.frames_deeper e0.frames,.inr ⟨rfl,rfl⟩,λb z=>absurd z (noA b),e0.bs,e0.bsz,λb _ _=>noA b,λb z=>absurd z (noA b),e0.funs,e0.frf⟩,
  rfl,e0.bare,Un.kept hk,⟨_,x.toInCall.ns,λi y v h1 h2 h3=>?_⟩,λy c h=>⟨_,x.cell y c h⟩,e0.hok.fresh (Nat.le_refl _),λy c h=>?_,λp hp=>absurd (show p∈([]:Pq) from hp) (by simp),e0.hok.kept hk,?_⟩
 ·exact name_of_addr x.apart (PySem.mem_of_lookup h1) (PySem.mem_of_lookup h2)
 ·have hy:scope.names.lookup y=some .cell∨scope.names.lookup y=some .free:=hy;rcases hy with hy|hy
  · exact JGt hy
  · exact absurd rfl (S.nofree _ (PySem.mem_of_lookup hy))
 ·exact Nat.le_of_lt (x.above y c (PySem.mem_of_lookup h))
 ·have hi:i<vs.length:=by
    unfold start at h2
    by_cases hi:i<vs.length
    ·exact hi
    ·rw[List.getElem?_append_right (by simpa using hi)]at h2
     rw[List.getElem?_replicate]at h2
     split at h2<;>cases h2
  have ha:vs[i]? = some v:=by
    unfold start at h2;rw[List.getElem?_append_left (by simpa using hi),List.getElem?_map]at h2
    cases e:vs[i]? with
    |none=>rw[e]at h2;cases h2
    |some a=>rw[e]at h2;cases h2;rfl
  obtain⟨u,hu,rv⟩:=r.get ha;have hp:ps[i]? = some y:=by
    rw[←S.pre,List.getElem?_take_of_lt (by omega)];exact h1
  have ndP:ps.Nodup:=by rw[←S.pre];exact S.nd.sublist (List.take_sublist _ _)
  refine⟨u,rv,?_⟩;rcases S.par y (List.mem_of_getElem? hp) with k|k
  · exact .inl ⟨k,JFA ndP hp hu k⟩
  · obtain⟨c,e⟩:=JGt (n:=s.heap.objs.size+1) k
    refine .inr ⟨.inl k,c,e,?_⟩;have q:=x.cell y c e;rw[JE5 ndP hp hu (by show scope.names.lookup y≠_;rw[k];decide)]at q
    exact q
 ·exact e0.hok.fresh (Nat.le_of_lt (x.above y c (PySem.mem_of_lookup h)))
 ·unfold start;show _=N.length;rw[List.length_append,List.length_map,List.length_replicate];omega
theorem JIh{CX:CXT}{P:Program}{w:World}{K:Kq}{mg:Str→Option Value}{base:Heap}{k:Nat}{f:Addr}{name qual:Str}{params:Arguments}{body:List Stmt}{scope:Scope}{dV kV doc pm cdv ct oc:Value}{an od:Option Addr}
  {osl:Array (Option Value)}{N ps:List Str}{sp:Sp}(lk:K.lookup f=some ⟨oc,od,.func (PySem.W.fnOf name qual params body scope dV kV doc pm an cdv ct),osl⟩) (hcd:PySem.W.codeIn K cdv qual=true) (S:FnScope N ps scope)
  (len:∀vs H Q E,sp vs H Q E→vs.length=ps.length)
  (hbody:∀(A:Around) (outer:List Env) (s:Shared) (H:Hp) (vs:List V) (Q:VK) (E:XK),Room k (A.deeper (envOfC qual scope s.heap.objs.size f cdv))→sp vs H Q E →
    ∃t,PSs (cxOf CX P w K mg base N qual scope f cdv A outer s H E) body t∧t { nx:=λ_ H'=>Q .non H',rt:=Q } (start N vs) H) :
  FnOk P w K mg base CX (k+1) f (PySem.W.fnOf name qual params body scope dV kV doc pm an cdv ct) ps sp:=by
 refine⟨len,λA outer s H args us vs Q E hr e0 hb r hsp=>?_⟩;have hl:=len _ _ _ _ hsp;have KX:K.In s.heap:=e0.mod.kin.keeps λb o e=>(e0.bs b o e).1;have lim:s.heap.NoLimit:=e0.mod.nolimit.keeps λb o e=>(e0.bs b o e).1;have hkind:∀y∈ps.zip us,scope.names.lookup y.1=some .local∨(scope.names.lookup y.1=some .cell∧((cellsFrom (s.heap.objs.size+1) scope.names []).lookup y.1).isSome=true):=λ⟨n,v⟩ hy=>by
  rcases S.par n (List.of_mem_zip hy).1 with q|q
  · exact .inl q
  · exact .inr ⟨q,PySem.W.cellsFrom_some _ _ _ (.inl q)⟩
 refine codeAny_call_function hr.depth (KX _ _ lk) rfl S.co S.gen rfl (PySem.W.codeRec_of KX hcd) (hb _ _ _ _ ?_);refine wpAny_newFunctionEnv_cells S.kind hkind λenv he s1 x=>?_;subst he;refine⟨lim.keeps x.toInCall.keep,codeAny_func ?_⟩;obtain⟨t,ht,hq⟩:=hbody A outer s H vs Q E (hr.deeper _) hsp;have I:Inv (cxOf CX P w K mg base N qual scope f cdv A outer s H E) [] (start N vs) H s1:=JH9 S hr.hd e0 hl r x;refine wpAny_mono (ht [] s1 (start N vs) H _ I hq) (λfl s' hs=>?_) λe s' hs=>hs;have fin:∀ {σ':St}{H':Hp}{v:V}{u:Value},Inv (cxOf CX P w K mg base N qual scope f cdv A outer s H E) [] σ' H' s'→RelV v u→Q v H'→CE outer P w H s Q u s' :=
  λ{σ' H' v u} J rv q=>⟨v,H',J.os,J.bare,J.base,J.hok,rv,q⟩
 cases fl with
 |ret u =>
  obtain⟨v,σ',H',J,rv,q⟩:=hs;exact fin J rv q
 |next =>
  obtain⟨σ',H',J,q⟩:=hs;exact fin (v:=V.non) (u:=Value.none) J rfl q
 |brk =>
  obtain⟨_,_,_,q⟩:=hs;exact fF q
 |cont =>
  obtain⟨_,_,_,q⟩:=hs;exact fF q
end L2
namespace L2
open PySem PySem.Spec PyProof.Rows
section
variable{X:Cx}{x:Str}{p pos:Pos}{e:Expr}{es:List Expr}{t:TA}{id T:String}{r:List V→Hp→VK→Prop}
def tCB(r:List V→Hp→VK→Prop)(t:TA):TE:=λσ H Q=>t σ H λvs H1=>r vs H1 Q
theorem JEQ(hc:CallR X (.builtin id) r)(hg:Gl X x)(hm:X.mg x=none)(hv:bootBuiltins x=some (.builtin id))(ha:PA X (e::es) t)(hn:x≠"__name__":=by decide)(hdb:(x==("__debug__":Str))=false:=by decide)
  (he:starEach (e::es) X.env=(false,eval e X.env)::starEach es X.env:=by rfl) (hpl:(backTo pos (starEach es X.env)).any (·.1)=false:=by rfl):PE X (.Call (.Name x p) (e::es) [] pos) (tCB r t):=by
 intro pins s σ H Q I h;refine wpAny_Call_Name_kw (JEc I hg hm hv ?_ hn hdb);exact PyProof.Rows.callWith_builtin1 (thn (ha pos pins s σ H _ I h) λus s1 ⟨vs,H1,I1,r1,q1⟩=>hc pins s1 σ H1 vs us Q I1 r1 q1) he hpl
theorem JDC(hc:CallR X (.type T) r)(hg:Gl X x)(hm:X.mg x=none)(hv:bootBuiltins x=some (.type T))(ha:PA X (e::es) t)(hn:x≠"__name__":=by decide)(hdb:(x==("__debug__":Str))=false:=by decide)
  (he:starEach (e::es) X.env=(false,eval e X.env)::starEach es X.env:=by rfl) (hpl:(backTo pos (starEach es X.env)).any (·.1)=false:=by rfl):PE X (.Call (.Name x p) (e::es) [] pos) (tCB r t):=by
 intro pins s σ H Q I h;refine wpAny_Call_Name_kw (JEc I hg hm hv ?_ hn hdb);exact PyProof.Rows.callWith_type1 (thn (ha pos pins s σ H _ I h) λus s1 ⟨vs,H1,I1,r1,q1⟩=>hc pins s1 σ H1 vs us Q I1 r1 q1) he hpl
end
end L2
namespace HT
open PySem PyProof.Rows
section
open PySem.SeqAt
open PySem.AutoSeq1 (wpAny_loadPart')
open PySem.MeetsSeq PySem.MeetsSeq2 PySem.MeetsSeq3
end
section
variable{prog:Program}{w:World}{A:Around}{E:Value→Shared→Prop}{s:Shared}
theorem cat_tup{t b:Addr}{vs ws:List Value}{Q:Value→Shared→Prop}(ht:IsTup s.heap t vs.toArray)(hb:IsTup s.heap b ws.toArray)(hv:vs≠[])
  (h1:ws=[]→Q (.ref t) s) (h2:ws≠[]→Q (.ref s.heap.objs.size) { s with heap:=s.heap.push { cls:=.type "tuple",data:=.seq (vs++ws).toArray } })
  (hsz:vs.length+ws.length≤sizeLine):wpAny (model prog w) A (binaryOp .Add (.ref t) (.ref b)) Q E s:=by
 obtain⟨⟨cls,dd,data,sl⟩,ho,hc,n,hd⟩:=id ht;obtain⟨⟨cls2,dd2,data2,sl2⟩,ho2,hc2,n2,hd2⟩:=id hb;simp only at hc hd hc2 hd2;subst hc hd hc2 hd2;have e:vs.toArray++ws.toArray=(vs++ws).toArray:=by simp
 by_cases hw:ws=[]
 ·exact concat_meets ⟨_,ho,rfl⟩ ⟨_,ho2,rfl⟩ noFill_tuple_add seq_tuple_add PySem.F.slot_tuple_add PySem.F.entry_tuple_add (PySem.F.args_tuple_add_2 _ _)
    (tuple_addW1 t b vs.toArray ws.toArray n n2 dd dd2 sl sl2 (by simpa using hv) (by simp[hw])) ⟨ho,ho2,h1 hw⟩
 ·refine concat_meets ⟨_,ho,rfl⟩ ⟨_,ho2,rfl⟩ noFill_tuple_add seq_tuple_add PySem.F.slot_tuple_add PySem.F.entry_tuple_add (PySem.F.args_tuple_add_2 _ _)
    (tuple_addW2 t b vs.toArray ws.toArray n n2 dd dd2 sl sl2 (by simpa using hv) (by simpa using hw) (by rw[List.size_toArray,List.size_toArray];exact hsz)) ⟨ho,ho2,?_⟩
  rw[e];exact h2 hw
noncomputable def sIx(n d:Nat):Option Int→Nat
 |none=>d
 |some v=>if v<0 then (v+(n:Int)).toNat else min v.toNat n
theorem JOz(n d:Nat)(hd:d≤n)(o:Option Int):sIx n d o≤n:=by
 cases o with
 |none=>exact hd
 |some v =>
  show(if v<0 then (v+(n:Int)).toNat else min v.toNat n)≤n
  by_cases hv:v<0
  ·rw[if_pos hv];omega
  ·rw[if_neg hv];exact Nat.min_le_right _ _
theorem JII(v:Int)(n d:Nat):(if v<0 then max (v+(n:Int)) 0 else min v (n:Int))=((sIx n d (some v):Nat):Int):=by
 show(if v<0 then max (v+(n:Int)) 0 else min v (n:Int))=(((if v<0 then (v+(n:Int)).toNat else min v.toNat n):Nat):Int)
 by_cases hv:v<0
 ·simp only[if_pos hv];omega
 ·simp only[if_neg hv];omega
theorem JHQ(lo hi:Option Int)(n:Nat):Builtin.Slice.sliceAdjust lo hi 1 (n:Int)=(((sIx n 0 lo:Nat):Int),((sIx n n hi:Nat):Int)):=by
 have h1:¬((1:Int)<0):=by omega
 unfold Builtin.Slice.sliceAdjust;simp only[h1,if_false];refine Prod.ext ?_ ?_
 ·cases lo with
  |none=>rfl
  |some v=>exact JII v n 0
 ·cases hi with
  |none=>rfl
  |some v=>exact JII v n n
theorem JHH(i j:Nat):Builtin.Slice.slicePlaces (i:Int) (j:Int) 1=j - i:=by
 unfold Builtin.Slice.slicePlaces;have h1:(1:Int) > 0:=by omega
 simp only[h1,if_true,Int.ediv_one]
 split<;>omega
theorem JDn{v:Value}{o:Option Int}{Q:Option Int→Shared→Prop}(p:IsPart v o)(h:Q o s):wpAny (model prog w) A (Builtin.Slice.slicePartIndex v) Q E s:=by
 cases p with
 |none=>exact slicePart_none h
 |int i t=>exact slicePart_int h
theorem sliceApplied_gen{sl:Addr}{vl vu:Value}{lo hi:Option Int}{n:Nat}{Q:Int×Int×Nat→Shared→Prop}(hs:s.heap.IsSliceOf sl vl vu .none)(pl:IsPart vl lo)(pu:IsPart vu hi)
  (h:Q (((sIx n 0 lo:Nat):Int),1,sIx n n hi - sIx n 0 lo) s):wpAny (model prog w) A (Builtin.Slice.sliceApplied (.ref sl) (pure (n:Int))) Q E s:=by
 obtain⟨os,hos,hcs,hds⟩:=id hs;unfold Builtin.Slice.sliceApplied Builtin.Slice.sliceFields;refine wpAny_bind (wpAny_bind (wpAny_field hos hds (x:=vl) rfl (wpAny_bind (wpAny_field hos hds (x:=vu) rfl (wpAny_bind (wpAny_field hos hds (x:=.none) rfl (wpAny_pure ?_)))))));refine wpAny_bind (slicePart_none ?_);show wpAny _ _ (if ((1:Int)==0)=true then _ else _) _ _ s;rw[if_neg (by decide)]
 refine wpAny_bind (JDn pl (wpAny_bind (JDn pu (wpAny_bind (wpAny_pure ?_)))));show wpAny _ _ (match Builtin.Slice.sliceAdjust lo hi 1 (n:Int) with|(lo,hi)=>pure (lo,(1:Int),Builtin.Slice.slicePlaces lo hi 1)) _ _ s
 rw[JHQ lo hi n];show wpAny _ _ (pure (((sIx n 0 lo:Nat):Int),(1:Int),Builtin.Slice.slicePlaces ((sIx n 0 lo:Nat):Int) ((sIx n n hi:Nat):Int) 1)) _ _ s;rw[JHH];exact wpAny_pure h
theorem JKG(xs:Array Value)(i k:Nat):((List.range k).filterMap λ(m:Nat)=>xs[((i:Int)+(m:Int)*1).toNat]?).toArray=((xs.toList.drop i).take k).toArray:=by
 have e:(λ(m:Nat)=>xs[((i:Int)+(m:Int)*1).toNat]?)=λm=>xs[i+m]?:=by
  funext m
  have:((i:Int)+(m:Int)*1).toNat=i+m:=by omega
  rw[this]
 rw[e];have:=pick_run xs i k;rw[List.filterMap_map]at this;have e2:((λx=>xs[x]?) ∘ λx=>i+x)=λm=>xs[i+m]?:=rfl;rw[e2]at this;rw[this]
theorem getItem_tuple_cut{t sl:Addr}{items:Array Value}{vl vu:Value}{lo hi:Option Int}{Q:Value→Shared→Prop}(ht:IsTup s.heap t items)(hs:s.heap.IsSliceOf sl vl vu .none)(pl:IsPart vl lo)(pu:IsPart vu hi)
  (hw:¬(sIx items.size 0 lo=0∧sIx items.size items.size hi=items.size))
  (h:Q (.ref s.heap.objs.size) { s with heap:=s.heap.push { cls:=.type "tuple",data:=.seq ((items.toList.drop (sIx items.size 0 lo)).take (sIx items.size items.size hi - sIx items.size 0 lo)).toArray } })
  (hsz:items.size≤sizeLine):wpAny (model prog w) A (getItem (.ref t) (.ref sl)) Q E s:=by
 have htake:sizeOk (.seq ((items.toList.drop (sIx items.size 0 lo)).take (sIx items.size items.size hi - sIx items.size 0 lo)).toArray):=by
  show((items.toList.drop (sIx items.size 0 lo)).take (sIx items.size items.size hi - sIx items.size 0 lo)).toArray.size≤sizeLine;rw[List.size_toArray,List.length_take,List.length_drop,Array.length_toList];omega
 have hj:sIx items.size items.size hi≤items.size:=JOz _ _ (Nat.le_refl _) hi;obtain⟨os,hos,hcs,hds⟩:=id hs;have hTs:s.TypeIs (.ref sl) "slice":=⟨os,hos,hcs⟩;unfold getItem
 try with_reducible refine wpAny_holding ?_
 first|refine wpAny_bind (wpAny_pure ?_)|skip
 refine wpAny_bind (wpAny_sequenceKey ht.typeIs (by decide) ?_)
 refine wpAny_bind (wpAny_callSpecial?_slot (name:=Str.ofString "__getitem__") ht.typeIs PyProof.Rows.slot_tuple_getitem
  (wpAny_call_entry PyProof.Rows.slot_tuple_getitem ht.typeIs entry_tuple_getitem ?_ (args_tuple_getitem _ _)))
 show wpAny _ _ (Builtin.Tuple.tupleItemsOf (.ref t) >>= _) _ _ s;refine wpAny_bind (tupleItemsOf_ ht ?_);refine wpAny_bind (wpAny_typeOf hTs ?_);rw[if_pos (by decide)]
 refine wpAny_bind (sliceApplied_gen hs pl pu ?_);have hno:¬((((sIx items.size 0 lo:Nat):Int)==0&&(1:Int)==1&&(sIx items.size items.size hi - sIx items.size 0 lo)==items.size)=true):=by
  intro q;rw[Bool.and_eq_true,Bool.and_eq_true]at q;have q1:((sIx items.size 0 lo:Nat):Int)=0:=eq_of_beq q.1.1;have q2:sIx items.size items.size hi - sIx items.size 0 lo=items.size:=eq_of_beq q.2;exact hw ⟨by omega,by omega⟩
 show wpAny _ _ (if (((sIx items.size 0 lo:Nat):Int)==0&&(1:Int)==1&&(sIx items.size items.size hi - sIx items.size 0 lo)==items.size)=true then _ else _) _ _ s;rw[if_neg hno,JKG]
 first
  |exact wpAny_bind (m:=Builtin.Tuple.tupleExact _) (wpAny_newObj_type (wpAny_pure ⟨_,rfl,wpAny_pure h⟩) htake)
  |exact wpAny_bind (m:=Builtin.Tuple.tupleExact _) (wpAny_newObj_type (wpAny_bind (wpAny_pure (wpAny_pure ⟨_,rfl,wpAny_pure h⟩))) htake)
  |exact wpAny_bind (wpAny_bind (m:=Builtin.Tuple.tupleExact _) (wpAny_newObj_type (wpAny_pure (wpAny_pure ⟨_,rfl,wpAny_pure h⟩)) htake))
  |exact wpAny_bind (wpAny_bind (m:=Builtin.Tuple.tupleExact _) (wpAny_newObj_type (wpAny_pure ⟨_,rfl,wpAny_pure h⟩) htake))
end
end HT
namespace L2
open PySem PySem.Spec PyProof.Rows
noncomputable abbrev TO:=St→Hp→(Option Int→Hp→Prop)→Prop
def PO(X:Cx)(e:Option Expr)(t:TO):Prop :=
 ∀(pins:Pq) (s:Shared) (σ:St) (H:Hp) (Q:Option Int→Hp→Prop),Inv X pins σ H s→t σ H Q →
  wpAny (model X.prog X.w) X.A (evalPart e X.env) (λu s'=>∃o H',Inv X pins σ H' s'∧IsPart u o∧Q o H') X.xe s
noncomputable def JNm:TO:=λ_ H Q=>Q none H
noncomputable def tPart(t:TE):TO:=λσ H Q=>t σ H λx H1=>∃i,x=.int i∧Q (some i) H1
section
variable{X:Cx}{e:Expr}{te:TE}{lo hi:Option Expr}{tl th:TO}{pos p2:Pos}
theorem JFl:PO X none JNm:=by
 intro pins s σ H Q I h;rw[evalPart_none];exact wpAny_pure ⟨none,H,I,.none,h⟩
theorem JER(h:PE X e te):PO X (some e) (tPart te):=by
 intro pins s σ H Q I hw;rw[evalPart_some];refine thn (h pins s σ H _ I hw) λu s1 h_=>?_;obtain⟨x,H1,I1,r1,q1⟩:=h_;obtain⟨i,rfl,q⟩:=q1;obtain⟨t,rfl⟩:=r1;exact⟨some i,H1,I1,.int i t,q⟩
def SlR(X:Cx)(r:V→Option Int→Option Int→Hp→VK→Prop):Prop :=
 ∀(pins:Pq) (s:Shared) (σ:St) (H:Hp) (x:V) (v vl vu:Value) (lo hi:Option Int) (sl:Addr) (Q:VK),Inv X pins σ H s→RelV x v→s.heap.IsSliceOf sl vl vu .none→IsPart vl lo→IsPart vu hi→r x lo hi H Q →
  ∃T id,typeLookup (.type T) "__getitem__"=pure (some (.builtin id))∧s.TypeIs v T∧wpAny (model X.prog X.w) X.A (getItem v (.ref sl)) (EP X pins σ Q) X.xe s
theorem SlR.or{r r':V→Option Int→Option Int→Hp→VK→Prop}(h:SlR X r)(h':SlR X r'):SlR X (λx lo hi H Q=>r x lo hi H Q∨r' x lo hi H Q):=by
 intro pins s σ H x v vl vu lo hi sl Q I rx hs pl pu q;rcases q with q|q
 ·exact h pins s σ H x v vl vu lo hi sl Q I rx hs pl pu q
 ·exact h' pins s σ H x v vl vu lo hi sl Q I rx hs pl pu q
def tSl(r:V→Option Int→Option Int→Hp→VK→Prop)(te:TE)(tl th:TO):TE:=λσ H Q=>te σ H λx H1=>tl σ H1 λl H2=>th σ H2 λu H3=>r x l u H3 Q
theorem JD2{r:V→Option Int→Option Int→Hp→VK→Prop}(hr:SlR X r)(he:PE X e te)(hl:PO X lo tl)(hu:PO X hi th):PE X (.Subscript e (.Slice lo hi none p2) pos) (tSl r te tl th):=by
 intro pins s σ H Q I h;refine Subscript_ (thn (he pins s σ H _ I h) λv s1 h_=>?_);obtain⟨x,H1,I1,r1,q1⟩:=h_;refine wpAny_Slice (thn (hl pins s1 σ H1 _ I1 q1) λvl s2 ⟨l,H2,I2,pl,q2⟩=>thn (hu pins s2 σ H2 _ I2 q2) λvu s3 h_=>?_);obtain⟨u,H3,I3,pu,q3⟩:=h_;rw[evalPart_none];refine wpAny_pure ?_;have I4:Inv X pins σ H3 { s3 with heap:=s3.heap.push { cls:=.type "slice",data:=.fields #[vl,vu,.none] } }:=I3.kept (t':=s3.toks) λb ob q=>Heap.get?_push_of_some _ q
 obtain⟨T,id,hT,ht,hg⟩:=hr pins { s3 with heap:=s3.heap.push { cls:=.type "slice",data:=.fields #[vl,vu,.none] } } σ H3 x v vl vu l u s3.heap.objs.size Q I4 r1 (Heap.IsSliceOf.new ..) pl pu q3
 show wpAny (model X.prog X.w) X.A (subscriptTail e (.Slice lo hi none p2) v (.ref s3.heap.objs.size)) (EP X pins σ Q) X.xe { s3 with heap:=s3.heap.push { cls:=.type "slice",data:=.fields #[vl,vu,.none] } }
 exact tail_any (ops:=[.ref s3.heap.objs.size,v]) ht hT hg (by with_unfolding_all rfl)
noncomputable def cutV(xs:List V)(lo hi:Option Int):List V:=(xs.drop (HT.sIx xs.length 0 lo)).take (HT.sIx xs.length xs.length hi - HT.sIx xs.length 0 lo)
theorem JC0(xs:List V)(lo hi:Option Int):(cutV xs lo hi).length≤xs.length:=by
 unfold cutV;rw[List.length_take,List.length_drop];omega
def rSlT(K:Kq):V→Option Int→Option Int→Hp→VK→Prop:=λx lo hi H Q=>∃a xs,x=.ref a∧SqT K H a xs ∧
 ¬(HT.sIx xs.length 0 lo=0∧HT.sIx xs.length xs.length hi=xs.length)∧∀p,H p=none→Q (.ref p) (upd H p (.tup (cutV xs lo hi)))
theorem JQG:SlR X (rSlT X.K):=by
 intro pins s σ H x v vl vu lo hi sl Q I rx hs pl pu h;obtain⟨a,xs,rfl,hx,hw,q⟩:=h;cases rx;obtain⟨its,r,ht,hz⟩:=I.tuple hx;have hlen:its.toArray.size=xs.length:=by rw[List.size_toArray];exact r.length.symm
 refine⟨"tuple",_,PyProof.Rows.slot_tuple_getitem.lookup,ht.typeIs,?_⟩;refine HT.getItem_tuple_cut ht hs pl pu (by rw[hlen];exact hw) ?_ (by rw[hlen];exact hz)
 rw[hlen];refine⟨.ref s.heap.objs.size,_,I.laid (t':=s.toks) (o:=.tup (cutV xs lo hi)) (λb ob q=>Heap.get?_push_of_some _ q) (Nat.le_refl _) ?_,rfl,q _ (I.hok.fresh (Nat.le_refl _))⟩;exact⟨Nat.le_trans (JC0 xs lo hi) hz,_,(r.drop (HT.sIx xs.length 0 lo)).take (HT.sIx xs.length xs.length hi - HT.sIx xs.length 0 lo),IsTup.new _ _⟩
noncomputable def rCatT(K:Kq):R2:=λx y H Q=>∃a b xs ys,x=.ref a∧y=.ref b∧SqT K H a xs∧SqT K H b ys∧xs≠[]∧xs.length+ys.length≤sizeLine ∧
 (ys=[]→Q (.ref a) H)∧(ys≠[]→∀p,H p=none→Q (.ref p) (upd H p (.tup (xs++ys))))
theorem Vals.nil_iff{xs:List V}{us:List Value}(r:Vals xs us):us=[]↔xs=[]:=by
 cases r with
 |nil=>simp
 |cons _ _=>simp
theorem JMU:OpR X (binaryOp .Add) (rCatT X.K):=by
 intro pins s σ H x y v u Q I rx ry h;obtain⟨a,b,xs,ys,rfl,rfl,ha,hb,hx,hz,q1,q2⟩:=h;cases rx;cases ry;obtain⟨its,r1,p1,_⟩:=I.tuple ha;obtain⟨its2,r2,p2,_⟩:=I.tuple hb;refine HT.cat_tup p1 p2 (λz=>hx (r1.nil_iff.mp z)) (λz=>⟨.ref a,H,I,rfl,q1 (r2.nil_iff.mp z)⟩) (λz=>?_) (by rw[←r1.length,←r2.length];exact hz)
 refine⟨.ref s.heap.objs.size,_,I.laid (t':=s.toks) (o:=.tup (xs++ys)) (λb ob q=>Heap.get?_push_of_some _ q) (Nat.le_refl _) ?_,rfl,q2 (λw=>z (r2.nil_iff.mpr w)) _ (I.hok.fresh (Nat.le_refl _))⟩;exact⟨by rw[List.length_append];exact hz,_,r1.append r2,IsTup.new _ _⟩
end
end L2
namespace L2
open PySem PySem.Spec PyProof.Rows
noncomputable def ixN(n:Nat)(i:Int):Option Nat:=if 0≤i then (if i<n then some i.toNat else none) else if -(n:Int)≤i then some (i+n).toNat else none
noncomputable def atI{α:Type}(xs:List α)(i:Int):Option α:=(ixN xs.length i).bind λj=>xs[j]?
theorem JM5{n:Nat}{i:Int}{j:Nat}(h:ixN n i=some j):seqIndex? i n=some j∧j<n∧-(n:Int)≤i∧i<n:=by
 unfold ixN at h
 by_cases h0:0≤i
 ·rw[if_pos h0]at h
  by_cases h1:i<n
  ·rw[if_pos h1]at h;have e:i.toNat=j:=Option.some.inj h;exact⟨by rw[seqIndex_of h0 h1,e],by omega,by omega,h1⟩
  ·rw[if_neg h1]at h;cases h
 ·rw[if_neg h0]at h
  by_cases h1:-(n:Int)≤i
  ·rw[if_pos h1]at h;have e:(i+n).toNat=j:=Option.some.inj h;exact⟨by rw[seqIndex_neg (by omega) h1,e],by omega,h1,by omega⟩
  ·rw[if_neg h1]at h;cases h
theorem JFp{α:Type}{xs:List α}{i:Int}{v:α}(h:atI xs i=some v):∃j,seqIndex? i xs.length=some j∧xs[j]? = some v∧j<xs.length∧-(xs.length:Int)≤i∧i<xs.length:=by
 unfold atI at h;cases e:ixN xs.length i with
 |none=>rw[e]at h;cases h
 |some j =>
  rw[e]at h;obtain⟨h1,h2,h3,h4⟩:=JM5 e;exact⟨j,h1,h,h2,h3,h4⟩
def JH3(b:Expr):Prop:=∀o i,subscripted b false o i=operate [o,i] (getItem o i)
def IxR(X:Cx)(r:R2):Prop :=
 ∀(value slice:Expr) (pins:Pq) (s:Shared) (σ:St) (H:Hp) (x y:V) (v u:Value) (Q:VK),Inv X pins σ H s→RelV x v→RelV y u→r x y H Q →
  subscripted slice false v u=operate [v,u] (getItem v u)→wpAny (model X.prog X.w) X.A (subscriptTail value slice v u) (EP X pins σ Q) X.xe s
def MtR(X:Cx)(id:String)(r:V→List V→Hp→VK→Prop):Prop :=
 ∀(pins:Pq) (s:Shared) (σ:St) (H:Hp) (x:V) (xs:List V) (v:Value) (us:List Value) (Q:VK),Inv X pins σ H s→RelV x v→Vals xs us→r x xs H Q →
  wpAny (model X.prog X.w) X.A (call (.builtin id) (v::us)) (EP X pins σ Q) X.xe s
section
variable{X:Cx}{a b:Expr}{ta tb:TE}{pos:Pos}
theorem IxR.or{r r':R2}(h:IxR X r)(h':IxR X r'):IxR X (λx y H Q=>r x y H Q∨r' x y H Q):=by
 intro value slice pins s σ H x y v u Q I rx ry q hs;rcases q with q|q
 ·exact h value slice pins s σ H x y v u Q I rx ry q hs
 ·exact h' value slice pins s σ H x y v u Q I rx ry q hs
theorem MtR.or{id:String}{r r':V→List V→Hp→VK→Prop}(h:MtR X id r)(h':MtR X id r'):MtR X id (λx xs H Q=>r x xs H Q∨r' x xs H Q):=by
 intro pins s σ H x xs v us Q I rx rs q;rcases q with q|q
 ·exact h pins s σ H x xs v us Q I rx rs q
 ·exact h' pins s σ H x xs v us Q I rx rs q
theorem pe_ix{r:R2}(hr:IxR X r)(ha:PE X a ta)(hb:PE X b tb)(hs:JH3 b):PE X (.Subscript a b pos) (tOp r ta tb):=by
 intro pins s σ H Q I h;exact Subscript_ (binT ha hb I h λv u s2 x y H2 I2 rx ry q=>hr a b pins s2 σ H2 x y v u Q I2 rx ry q (hs _ _))
noncomputable def rIxL(K:Kq):R2:=λx y H Q=>∃p xs i v,x=.ref p∧y=.int i∧SqL K H p xs∧atI xs i=some v∧Q v H
noncomputable def rIxT(K:Kq):R2:=λx y H Q=>∃p xs i v,x=.ref p∧y=.int i∧SqT K H p xs∧atI xs i=some v∧Q v H
noncomputable def rIxS:R2:=λx y H Q=>∃z i c,x=.str z∧y=.int i∧z.length≤sizeLine∧atI z.cps.toList i=some c∧Q (.str ⟨#[c]⟩) H
theorem ix_list:IxR X (rIxL X.K):=by
 intro value slice pins s σ H x y v u Q I rx ry h hs;obtain⟨p,xs,i,z,rfl,rfl,hq,he,q⟩:=h;cases rx;obtain⟨t,rfl⟩:=ry;obtain⟨its,r,pl,hz⟩:=I.list hq;obtain⟨j,h1,h2,h3,h4,h5⟩:=JFp he;obtain⟨w,ew,rw'⟩:=r.get h2;have hl:=r.length;have hn:=JDF;have fin:EP X pins σ Q w s:=⟨z,H,I,rw',q⟩
 by_cases h0:0≤i
 ·have hj:i.toNat=j:=by
   rw[seqIndex_of h0 h5]at h1;exact Option.some.inj h1
  exact item_listR pl.isList h0 (by omega) (by rw[hj];simpa using ew) fin hs
 ·have hj:(i+(its.toArray.size:Int)).toNat=j:=by
   rw[seqIndex_neg (by omega) h4]at h1
   rw[List.size_toArray,←hl];exact Option.some.inj h1
  exact subscriptTail_builtinR (x:=w) pl.isList.typeIs slot_list_getitem.lookup
   (wpAny_getItem_list_neg (Q:=λr s'=>r=w∧EP X pins σ Q r s') pl.isList (by omega) (by rw[List.size_toArray]<;>omega) (by omega) (by rw[hj];simpa using ew) ⟨rfl,fin⟩) hs
theorem ix_tup:IxR X (rIxT X.K):=by
 intro value slice pins s σ H x y v u Q I rx ry h hs;obtain⟨p,xs,i,z,rfl,rfl,hq,he,q⟩:=h;cases rx;obtain⟨t,rfl⟩:=ry;obtain⟨its,r,pl,hz⟩:=I.tuple hq;obtain⟨j,h1,h2,h3,h4,h5⟩:=JFp he;obtain⟨w,ew,rw'⟩:=r.get h2;have hl:=r.length;have hn:=JDF;have fin:EP X pins σ Q w s:=⟨z,H,I,rw',q⟩;exact subscriptTail_builtinR (x:=w) pl.typeIs slot_tuple_getitem.lookup
  (getItem_tuple (j:=j) (Q:=λr s'=>r=w∧EP X pins σ Q r s') pl (by omega) (by omega) (by rw[List.size_toArray,←hl];exact h1) (by simpa using ew) ⟨rfl,fin⟩) hs
theorem JOp:IxR X rIxS:=by
 intro value slice pins s σ H x y v u Q I rx ry h hs;obtain⟨z,i,c,rfl,rfl,hz,he,q⟩:=h;obtain⟨t,rfl⟩:=rx;obtain⟨t',rfl⟩:=ry;obtain⟨j,h1,h2,h3,h4,h5⟩:=JFp he;have hl:z.cps.toList.length=z.length:=by simp[Str.length]
 rw[hl]at h1 h4 h5;have hn:=JDF;exact tail_any (typeIs_str s z t) slot_str_getitem.lookup (getItem_str (c:=c) (by
  have e1:decide (i < -(2 ^ 63:Int))=false:=decide_eq_false (by omega)
  have e2:decide (i ≥ 2 ^ 63)=false:=decide_eq_false (by omega)
  rw[e1,e2,Bool.or_false]) (by rw[h1];simpa using h2) ⟨.str ⟨#[c]⟩,H,I.tok _,⟨_,rfl⟩,q⟩) hs
noncomputable def rIx(K:Kq):R2:=λx y H Q=>rIxL K x y H Q∨rIxT K x y H Q∨rIxS x y H Q
theorem ix_seq:IxR X (rIx X.K):=ix_list.or (ix_tup.or JOp)
theorem Inv.lst{pins:Pq}{σ:St}{H:Hp}{s:Shared}{p:Addr}{xs:List V}(I:Inv X pins σ H s)(h:H p=some (.lst xs)) :
  ∃(its:List Value) (n:Nat),Vals xs its∧s.heap.get? p=some { cls:=.type "list",data:=.seq its.toArray n }∧xs.length≤sizeLine:=by
 obtain⟨z,its,n,r,e⟩:=I.hok p _ h;exact⟨its,n,r,e,z⟩
theorem JFf(lo hi:Option Int)(n:Nat):(sliceBounds lo hi none n).1=((HT.sIx n 0 lo:Nat):Int)∧(sliceBounds lo hi none n).2.1=((HT.sIx n n hi:Nat):Int)∧(sliceBounds lo hi none n).2.2=1:=by
 refine⟨?_,?_,rfl⟩
 ·cases lo with
  |none=>simp[sliceBounds,HT.sIx]
  |some i =>
   simp only[sliceBounds,HT.sIx,Option.getD_none,show(1:Int) > 0 by decide,if_true]
   by_cases h:i<0
   ·simp only[h,if_true]<;>omega
   ·simp only[h,if_false]<;>omega
 ·cases hi with
  |none=>simp[sliceBounds,HT.sIx]
  |some i =>
   simp only[sliceBounds,HT.sIx,Option.getD_none,show(1:Int) > 0 by decide,if_true]
   by_cases h:i<0
   ·simp only[h,if_true]<;>omega
   ·simp only[h,if_false]<;>omega
theorem JD9(its:List Value)(lo hi:Option Int):slicePick its.toArray lo hi none=((its.drop (HT.sIx its.length 0 lo)).take (HT.sIx its.length its.length hi - HT.sIx its.length 0 lo)).toArray:=by
 obtain⟨h1,h2,h3⟩:=JFf lo hi its.toArray.size;unfold slicePick;rw[h1,h2,h3];simp only[sliceRange_one,pick_run,List.size_toArray]<;>rfl
def rSlL(K:Kq):V→Option Int→Option Int→Hp→VK→Prop:=λx lo hi H Q=>∃a xs,x=.ref a∧SqL K H a xs∧∀p,H p=none→Q (.ref p) (upd H p (.lst (cutV xs lo hi)))
theorem JNh:SlR X (rSlL X.K):=by
 intro pins s σ H x v vl vu lo hi sl Q I rx hs pl pu h;obtain⟨a,xs,rfl,hx,q⟩:=h;cases rx;obtain⟨its,r,ht,hz⟩:=I.list hx;have hlen:=r.length;refine⟨"list",_,slot_list_getitem.lookup,ht.isList.typeIs,?_⟩;refine wpAny_getItem_list_slice ht.isList hs pl pu .none (by simp) ?_ (by rw[List.size_toArray]<;>omega)
 rw[JD9,←hlen];refine⟨.ref s.heap.objs.size,_,I.laid (t':=s.toks) (o:=.lst (cutV xs lo hi)) (λb ob q=>Heap.get?_push_of_some _ q) (Nat.le_refl _) ?_,rfl,q _ (I.hok.fresh (Nat.le_refl _))⟩;exact⟨Nat.le_trans (JC0 xs lo hi) hz,_,0,(r.drop (HT.sIx xs.length 0 lo)).take (HT.sIx xs.length xs.length hi - HT.sIx xs.length 0 lo),Heap.get?_push_size _ rfl⟩
theorem JE0:CallR X (.builtin "len") (λxs H Q=>∃p ys,xs=[.ref p]∧(SqL X.K H p ys∨SqT X.K H p ys)∧Q (.int ys.length) H):=by
 intro pins s σ H xs us Q I r h;obtain⟨p,ys,rfl,hq,q⟩:=h;obtain⟨u,rfl,rx⟩:=vals1 r;cases rx;have hn:=JDF;rcases hq with hq|hq
 ·obtain⟨its,r',pl,hz⟩:=I.list hq;have hlen:=r'.length;exact Calls.call_len_list pl.isList (by simp only[List.size_toArray]<;>omega) ⟨.int ys.length,H,I.tok _,⟨s.toks+1,by rw[List.size_toArray,hlen]⟩,q⟩
 ·obtain⟨its,r',pl,hz⟩:=I.tuple hq;have hlen:=r'.length;exact len_tuple pl (by simp only[List.size_toArray]<;>omega) ⟨.int ys.length,H,I.tok _,⟨s.toks+1,by rw[List.size_toArray,hlen]⟩,q⟩
theorem JEs:CallR X (.builtin "len") (λxs H Q=>∃z,xs=[.str z]∧z.length≤sizeLine∧Q (.int z.length) H):=by
 intro pins s σ H xs us Q I r h;obtain⟨z,rfl,hz,q⟩:=h;obtain⟨u,rfl,t,rfl⟩:=vals1 r;have hn:=JDF;exact len_str (by omega) ⟨.int z.length,H,I.tok _,⟨_,rfl⟩,q⟩
theorem CallR.or{f:Value}{r r':List V→Hp→VK→Prop}(h:CallR X f r)(h':CallR X f r'):CallR X f (λxs H Q=>r xs H Q∨r' xs H Q):=by
 intro pins s σ H xs us Q I rs q;rcases q with q|q
 ·exact h pins s σ H xs us Q I rs q
 ·exact h' pins s σ H xs us Q I rs q
theorem JEn:CallR X (.type "list") (λxs H Q=>∃p ys,xs=[.ref p]∧(SqL X.K H p ys∨SqT X.K H p ys)∧∀l,H l=none→Q (.ref l) (upd H l (.lst ys))):=by
 intro pins s σ H xs us Q I r h;obtain⟨p,ys,rfl,hq,q⟩:=h;obtain⟨u,rfl,rx⟩:=vals1 r;cases rx;have fin:∀(its:List Value),Vals ys its→ys.length≤sizeLine→∀(h':Heap) (c':Nat),(∀b o',s.heap.get? b=some o'→h'.get? b=some o') →
   h'.get? s.heap.objs.size=some { cls:=.type "list",dict:=none,data:=.seq its.toArray c',slots:=#[] }→EP X pins σ Q (.ref s.heap.objs.size) { s with heap:=h' }:=λits r' hz h' c' kp e =>
  ⟨.ref s.heap.objs.size,_,I.laid (t':=s.toks) kp (Nat.le_refl _) (show ObjOk X.prog X.w _ h' _ (.lst ys) from⟨hz,its,c',r',e⟩),rfl,q _ (I.hok.fresh (Nat.le_refl _))⟩
 rcases hq with hq|hq
 ·obtain⟨its,r',pl,hz⟩:=I.list hq;have hlen:=r'.length;obtain⟨o,ho,hc,n,hd⟩:=pl.isList;exact call_list_seq p (.inl rfl) ho hc hd (λh' c' kp e=>fin its r' hz h' c' kp e) (by simp only[List.size_toArray]<;>omega)
 ·obtain⟨its,r',pl,hz⟩:=I.tuple hq;have hlen:=r'.length;obtain⟨o,ho,hc,n,hd⟩:=pl;exact call_list_seq p (.inr rfl) ho hc hd (λh' c' kp e=>fin its r' hz h' c' kp e) (by simp only[List.size_toArray]<;>omega)
theorem JD1:CallR X (.type "tuple") (λxs H Q=>∃p ys,xs=[.ref p]∧((SqL X.K H p ys∧∀l,H l=none→Q (.ref l) (upd H l (.tup ys)))∨(SqT X.K H p ys∧Q (.ref p) H))):=by
 intro pins s σ H xs us Q I r h;obtain⟨p,ys,rfl,h⟩:=h;obtain⟨u,rfl,rx⟩:=vals1 r;cases rx;rcases h with ⟨hq,q⟩|⟨hq,q⟩
 ·obtain⟨its,r',pl,hz⟩:=I.list hq;have hlen:=r'.length;refine call_tuple_list pl.isList (λh' kp=>?_) (by simp only[List.size_toArray]<;>omega)
  have I1:Inv X pins σ H { s with heap:=h' }:=I.kept (t':=s.toks) kp
  have I2:Inv X pins σ (upd H h'.objs.size (.tup ys)) { s with heap:=h'.push { cls:=.type "tuple",data:=.seq its.toArray } } :=
   I1.laid (t':=s.toks) (λb o e=>Heap.get?_push_of_some _ e) (Nat.le_refl _) (show ObjOk X.prog X.w _ _ _ (.tup ys) from⟨hz,its,r',IsTup.new _ _⟩)
  exact⟨.ref h'.objs.size,_,I2,rfl,q _ (I1.hok.fresh (Nat.le_refl _))⟩
 ·obtain⟨its,r',pl,hz⟩:=I.tuple hq;exact call_tuple_same pl ⟨.ref p,H,I,rfl,q⟩
def tyV(K:Kq)(T:String)(x:V)(H:Hp):Prop:=match x with
 |.str _=>T="str"
 |.int _=>T="int"
 |.ref p=>(T="list"∧∃xs,SqL K H p xs)∨(T="tuple"∧∃o,K.lookup p=some o∧o.cls=.type "tuple"∧o.dict=none) ∨
  (T="dict"∧((∃kvs,H p=some (.dK kvs))∨∃kvs,H p=some (.dT kvs)))∨(T="set"∧∃S n,H p=some (.set S n))
 |_=>False
theorem JPC{pins:Pq}{σ:St}{H:Hp}{s:Shared}{T:String}{x:V}{v:Value}(I:Inv X pins σ H s)(r:RelV x v)(ty:tyV X.K T x H) :
  s.TypeIs v T∧∀a,v=.ref a→∃ob,s.heap.get? a=some ob∧ob.dict=none:=by
 cases x with
 |str z =>
  obtain⟨t,rfl⟩:=r;cases(show T="str" from ty);exact⟨typeIs_str s z t,λ_ e=>nomatch e⟩
 |int i =>
  obtain⟨t,rfl⟩:=r;cases(show T="int" from ty);exact⟨typeIs_int s i t,λ_ e=>nomatch e⟩
 |ref p =>
  cases r;rcases ty with ⟨rfl,xs,hq⟩|⟨rfl,o,hk,hc,hd⟩|⟨rfl,hk⟩|⟨rfl,S,n,hk⟩
  ·obtain⟨its,_,pl,_⟩:=I.list hq;refine⟨pl.isList.typeIs,λa e=>?_⟩;cases e;obtain⟨o,n,e,c,hd,_⟩:=pl;exact⟨o,e,hd⟩
  ·refine⟨⟨o,I.kIn p o hk,hc⟩,λa e=>?_⟩;cases e;exact⟨o,I.kIn _ o hk,hd⟩
  ·have z:∃o,s.heap.get? p=some o∧o.ExactDict:=by
    rcases hk with ⟨kvs,hk⟩|⟨kvs,hk⟩
    ·obtain⟨_,_,_,_,o,_,_,e,ex,_⟩:=I.hok p _ hk;exact⟨o,e,ex⟩
    ·obtain⟨_,_,_,_,o,_,_,e,ex,_⟩:=I.hok p _ hk;exact⟨o,e,ex⟩
   obtain⟨o,e,ex⟩:=z;refine⟨⟨o,e,ex.1⟩,λa e2=>?_⟩;cases e2;exact⟨o,e,ex.2.1⟩
  ·obtain⟨o,_,_,_,e,ex,_⟩:=I.hok p _ hk;refine⟨⟨o,e,ex.1⟩,λa e2=>?_⟩;cases e2;exact⟨o,e,ex.2.1⟩
 |_=>exact fF ty
def tBM(K:Kq)(T:String)(r:V→List V→Hp→VK→Prop)(to:TE)(t:TA):TE:=λσ H Q=>to σ H λx H1=>tyV K T x H1∧t σ H1 λxs H2=>r x xs H2 Q
variable{o e:Expr}{es:List Expr}{to:TE}{t:TA}{name:Str}{apos cpos:Pos}{T id:String}{r:V→List V→Hp→VK→Prop}
theorem JEo(pa:PlainAttrs T)(slot:Slot T name id)(hty:typeOf (.builtin id)=pure (.type "method_descriptor"))(hm:MtR X id r)(ho:PE X o to)(ha:PA X (e::es) t)
  (hbase:attributeBase o name X.env (eval o X.env)=eval o X.env:=by rfl)
  (hfew:((backTo cpos (starEach (e::es) X.env)).all (λx=>!x.1)&&(backToKw cpos (keywordEach [] X.env)).all (λx=>x.1.isSome)
    && decide ((e::es).length+([]:List Keyword).length+(if ([]:List Keyword).isEmpty then 0 else 1)<30))=true:=by rfl)
  (hline:(apos.endLine==cpos.line)=true:=by rfl) (hs:starEach (e::es) X.env=(false,eval e X.env)::starEach es X.env:=by rfl) (hplain:(backTo cpos (starEach es X.env)).any (·.1)=false:=by rfl) :
  PE X (.Call (.Attribute o name apos) (e::es) [] cpos) (tBM X.K T r to t):=by
 intro pins s σ H Q I h;refine wpAny_Call_method_late hbase hfew hline rfl (thn (ho pins s σ H _ I h) λv s1 h_=>?_);obtain⟨x,H1,I1,r1,ty,q1⟩:=h_;obtain⟨h1,h2⟩:=JPC I1 r1 ty;refine⟨T,id,pa,slot,hty,h1,h2,?_⟩;have hA:=ha cpos pins s1 σ H1 _ I1 q1;rw[hs]at hA ⊢;refine Calls.callWith_builtin (by show(false || (backTo cpos (starEach es X.env)).any (·.1))=false;rw[hplain]<;>rfl) (Calls.evalArgs_plain ?_)
 exact thn hA λus s2 ⟨vs,H2,I2,r2,q2⟩=>hm pins s2 σ H2 x vs v us Q I2 r1 r2 q2
end
end L2
namespace L2
open PySem PySem.Spec PyProof.Rows
def MtM(X:Cx)(id:String)(r:V→List V→Hp→VK→Prop):Prop :=
 ∀(pins:Pq) (s:Shared) (σ:St) (H:Hp) (x:V) (xs:List V) (v:Value) (us:List Value) (Q:VK),Inv X pins σ H s→RelV x v→Vals xs us→r x xs H Q →
  wpAny (model X.prog X.w) X.A (call (.builtin id) (v::us)) (EP X pins σ Q) X.xe s
theorem Vals.one:∀ {x:V}{us:List Value},Vals [x] us→∃u,us=[u]∧RelV x u
 |_,_,.cons r .nil=>⟨_,rfl,r⟩
theorem Vals.two:∀ {x y:V}{us:List Value},Vals [x,y] us→∃u v,us=[u,v]∧RelV x u∧RelV y v
 |_,_,_,.cons r (.cons q .nil)=>⟨_,_,rfl,r,q⟩
theorem Vals.eraseIdx:∀ {xs:List V}{us:List Value}(i:Nat),Vals xs us→Vals (xs.eraseIdx i) (us.eraseIdx i)
 |_,_,_,.nil=>.nil
 |_,_,0,.cons _ t=>t
 |_,_,i+1,.cons r t=>.cons r (Vals.eraseIdx i t)
theorem Vals.rep{xs:List V}{us:List Value}(h:Vals xs us):∀k:Nat,Vals (List.replicate k xs).flatten (List.replicate k us).flatten
 |0=>.nil
 |k+1=>by
  rw[List.replicate_succ,List.replicate_succ,List.flatten_cons,List.flatten_cons];exact Vals.append h (Vals.rep h k)
theorem JEm{α:Type}:∀(l:List α) (i:Nat),(l.eraseIdx i).length≤l.length
 | [],_=>Nat.le_refl _
 |_::_,0=>Nat.le_succ _
 |_::r,i+1=>Nat.succ_le_succ (JEm r i)
section
variable{X:Cx}{pins:Pq}{σ:St}{H:Hp}{s:Shared}{l b:Addr}{xs ys zs:List V}
theorem Inv.lset{its its':List Value}{n:Nat}{f:Array Value→Array Value}{t':Nat}(I:Inv X pins σ H s)(hH:H l=some (.lst xs))
  (e:s.heap.get? l=some { cls:=.type "list",data:=.seq its.toArray n }) (hf:f its.toArray=its'.toArray) (hv:Vals ys its') (hz:ys.length≤sizeLine) :
  Inv X pins σ (upd H l (.lst ys)) { s with heap:=s.heap.update l (Obj.mapSeq f),toks:=t' }:=by
 have q:=PySem.IsL.update e f;rw[hf]at q;refine I.write (x:=l) (e:=l) (by rw[hH];exact trivial) (.inl rfl) (λb' u hb hu=>(Heap.get?_update_other s.heap (Obj.mapSeq f) (Ne.symm hb)).trans hu) ⟨_,q⟩ ?_
 exact⟨hz,its',_,hv,q⟩
theorem Inv.lnew{its:List Value}{t':Nat}(I:Inv X pins σ H s)(hv:Vals ys its)(hz:ys.length≤sizeLine) :
  Inv X pins σ (upd H s.heap.objs.size (.lst ys)) { s with heap:=s.heap.push { cls:=.type "list",data:=.seq its.toArray },toks:=t' } :=
 I.laid (λ_ _ q=>Heap.get?_push_of_some _ q) (Nat.le_refl _) ⟨hz,its,0,hv,Heap.get?_push_size _ rfl⟩
theorem Inv.fresh(I:Inv X pins σ H s):H s.heap.objs.size=none:=I.hok.fresh (Nat.le_refl _)
theorem Inv.lstM(I:Inv X pins σ H s)(hH:H l=some (.lst xs)):xs.length≤sizeLine∧∃(its:List Value) (n:Nat),Vals xs its∧xs.length=its.length∧s.heap.get? l=some { cls:=.type "list",data:=.seq its.toArray n }:=by
 obtain⟨z,its,n,r,e⟩:=I.hok l _ hH;exact⟨z,its,n,r,r.length,e⟩
theorem JEO{n:Nat}(h:n≤sizeLine):Builtin.List.listTooLong n=false:=by
 unfold Builtin.List.listTooLong;exact decide_eq_false (by omega)
end
section
variable{X:Cx}
def JMt:V→List V→Hp→VK→Prop:=λx vs H Q=>∃l xs y,x=.ref l∧vs=[y]∧H l=some (.lst xs)∧xs.length<sizeLine∧Q .non (upd H l (.lst (xs++[y])))
theorem JJK:MtM X "list.append" JMt:=by
 intro pins s σ H x vs v us Q I rx rv h;obtain⟨l,xs,y,rfl,rfl,hH,hz,q⟩:=h;cases rx;obtain⟨u,rfl,ru⟩:=rv.one;obtain⟨z,its,n,r,hl,e⟩:=I.lstM hH;refine call_meets F.slot_list_append ⟨_,e,rfl⟩ F.entry_list_append (F.args_list_append_2 _ _) (PySem.list_append l its.toArray n u (by rw[List.size_toArray];omega)) ⟨e,?_⟩
 refine⟨.non,_,I.lset (its':=its++[u]) hH e (by simp) (r.append (.cons ru .nil)) ?_,rfl,q⟩
 rw[List.length_append,List.length_singleton];omega
def JNB:V→List V→Hp→VK→Prop:=λx vs H Q=>∃l b xs zs,x=.ref l∧vs=[.ref b]∧H l=some (.lst xs)∧H b=some (.lst zs)∧xs.length+zs.length≤sizeLine∧Q .non (upd H l (.lst (xs++zs)))
theorem JIc:MtM X "list.extend" JNB:=by
 intro pins s σ H x vs v us Q I rx rv h;obtain⟨l,b,xs,zs,rfl,rfl,hH,hB,hz,q⟩:=h;cases rx;obtain⟨u,rfl,ru⟩:=rv.one;cases ru;obtain⟨z,its,n,r,hl,e⟩:=I.lstM hH;obtain⟨z2,its2,n2,r2,hl2,e2⟩:=I.lstM hB;have hsz:its.toArray.size+its2.toArray.size≤sizeLine:=by rw[List.size_toArray,List.size_toArray];omega
 have hlong:¬(!its.toArray.isEmpty&&Builtin.List.listTooLong (its.toArray.size+its2.toArray.size))=true:=by
  rw[JEO hsz,Bool.and_false];exact Bool.false_ne_true
 refine call_meets F.slot_list_extend ⟨_,e,rfl⟩ F.entry_list_extend (F.args_list_extend_2 _ _)
  (AutoSeq1.list_extend_list_list_0 l its.toArray n b its2.toArray n2 hlong (by rw[List.size_toArray];omega) (by omega)) ⟨e,e2,?_⟩
 refine⟨.non,_,I.lset (its':=its++its2) hH e (by simp) (r.append r2) ?_,rfl,q⟩
 rw[List.length_append];omega
def JPp:V→List V→Hp→VK→Prop:=λx vs H Q=>∃l xs i k y,x=.ref l∧vs=[.int i]∧H l=some (.lst xs)∧-(2 ^ 63)≤i∧i<2 ^ 63∧seqIndex? i xs.length=some k∧xs[k]? = some y∧Q y (upd H l (.lst (xs.eraseIdx k)))
theorem JJ9:MtM X "list.pop" JPp:=by
 intro pins s σ H x vs v us Q I rx rv h;obtain⟨l,xs,i,k,y,rfl,rfl,hH,h1,h2,hk,hy,q⟩:=h;cases rx;obtain⟨u,rfl,ru⟩:=rv.one;obtain⟨t,rfl⟩:=ru;obtain⟨z,its,n,r,hl,e⟩:=I.lstM hH;obtain⟨w,hw,rw'⟩:=r.get hy;refine call_meets F.slot_list_pop ⟨_,e,rfl⟩ F.entry_list_pop (F.args_list_pop_2 _ _)
  (MeetsSeq.list_pop_at l its.toArray n i t k w (fitsIndex_both h1 h2) (by rw[List.size_toArray,←hl];exact hk) (by rw[←Array.getElem?_toList];exact hw) (by rw[List.size_toArray];omega)) ⟨e,?_⟩
 refine⟨y,_,I.lset (its':=its.eraseIdx k) hH e ?_ (r.eraseIdx k) ?_,rw',q⟩
 ·show its.toArray.eraseIdxIfInBounds k=(its.eraseIdx k).toArray;rw[List.eraseIdxIfInBounds_toArray]
 ·have:=JEm xs k;omega
theorem len_rep{α:Type}(xs:List α)(k:Nat):(List.replicate k xs).flatten.length=k*xs.length:=by
 induction k with
 |zero=>simp
 |succ k ih=>rw[List.replicate_succ,List.flatten_cons,List.length_append,ih,Nat.succ_mul,Nat.add_comm]
end
section
variable{prog:Program}{w:World}{A:Around}{E:Value→Shared→Prop}{s:Shared}
set_option maxRecDepth 100000 in
end
section
variable{X:Cx}
end
end L2
namespace Att
open PySem PySem.W PySem.Calls PyProof.Rows
theorem JC4{P:Params}{h:Heap}:∀(ns:List Int) (vs:List Value),WellAll P h vs (ns.map WData.int)→IntsAre vs ns:=by
 intro ns
 induction ns with
 |nil =>
  intro vs w;rw[List.map_nil]at w;cases w;exact .nil
 |cons n ns ih =>
  intro vs w;rw[List.map_cons]at w;cases w with
  |cons a b =>
   cases a;exact .cons _ _ (ih _ b)
theorem JJC{l:OpenLaw}{n:Nat}(hn:l.most=some n){P:Params}{h:Heap}{args:List WData}{vals:List Value}
  (hpre:l.row.toRowW.claim.pre args=true) (hwl:WellAll P h vals args) :
  ∃a vs ns,vals=[Value.ref a]∧args=[WData.list (ns.map WData.int)]∧h.get? a=some { cls:=.type "list",data:=.seq vs.toArray }∧IntsAre vs ns∧ns.length≤n:=by
 have hsh:WShape.hasAll [] args [.list .int]=true:=(pre_splitW hpre).1;have hc:l.pre.holds [] { args:=args }=true:=(pre_splitW hpre).2;obtain⟨d,r,rfl,h1,h2⟩:=hasAllW_cons hsh;obtain rfl:=hasAllW_nil h2;obtain⟨xs,rfl,h3⟩:=hasW_list h1;obtain⟨ns,rfl⟩:=items_int h3;have hlen:ns.length≤n:=by
  unfold OpenLaw.pre at hc;have h4:(WTm.not (.lt (.lit (.int (n:Int))) (.len (.arg 0)))).holds [] { args:=[.list (ns.map .int)] }=true:=by
    have h4:=(holds_andW hc).1;rw[hn]at h4;exact h4
  have h5:=condW_of h4 (w_not (w_lt w_lit (w_len_list (w_arg rfl))));rw[List.length_map]at h5;refine Nat.le_of_not_lt λq=>?_;have q':(n:Int)<((ns.length:Nat):Int):=by omega
  first
    |(rw[decide_eq_true q']at h5;exact absurd h5 (by decide))
    |(simp at h5;omega)
 cases hwl with
 |cons w1 w2 =>
  cases w2;cases w1 with
  |list ho hall=>exact⟨_,_,ns,rfl,rfl,ho,JC4 ns _ hall,hlen⟩
theorem JJM(l:OpenLaw)(args:List WData):l.row.toRowW.claim.post args (.bool true) args=true :=
 postW_of (r:=l.row.toRowW) (X:=(true==true))
  (show WShape.has [] (.bool true) .bool=true by first|rfl|decide|simp[WShape.has,WShape.arms,WShape.armsAll])
  (show(WTm.eq .res (.lit (.bool true))).value [] { args:=args,res:=some (.bool true),after:=args }=some (.bool (true==true)) from w_eq_bool (w_res rfl) w_lit) rfl
theorem attach_call{l:OpenLaw}{n:Nat}{q:Program}{loose:List Str}{XP:(Str→Option Value)→Heap→Prop}{YP:World→Heap→Prop}{d:DefRec}
  (hn:l.most=some n) (hdf:d.params.defaults=[])
  (call:∀(w:World) (s₀ s₁:Shared) (mg mb:Str→Option Value) (fa:Addr) (o:Obj) (pm cd doc:Value) (a:Addr) (vs:List Value) (ns:List Int),
    Ground q loose [] XP w s₀ mg mb s₁.heap→YP w s₁.heap →
    s₁.heap.get? fa=some o→o.data=.func (docDef d.name d.params d.body d.scope pm cd doc)→s₁.heap.CodeRec cd d.name→mg d.name=some (.ref fa) →
    s₁.heap.get? a=some { cls:=.type "list",data:=.seq vs.toArray }→IntsAre vs ns→ns.length≤n→s₁.gens=#[] →
    codeAny (model l.prog w) callerA (.call (.ref fa) ⟨[.ref a],[]⟩) (λr s'=>r=.ok (.ret (.bool true))∧OldK s₁.heap s'.heap∧s'.os=s₁.os∧AllBare s'.gens) s₁) :
  WalkO q loose XP YP l.row.toRowW d [] (λf vs=>PySem.call f vs):=by
 intro w s₀ s₁ mg mb G Y fa o pm cd doc dV kV ho hd hcd hD hmg hg args vals as hpre hlay hrd hwl hlo;obtain rfl:dV=.none:=Dflts.none hD hdf;obtain rfl:kV=.none:=Dflts.noKw hD;obtain⟨a,vs,ns,rfl,rfl,hobj,hints,hlen⟩:=JJC hn hpre hwl;refine enter_call (codeAny_mono (call w s₀ s₁ mg mb fa o pm cd doc a vs ns G Y ho (fd_plain hd) hcd hmg hobj hints hlen hg) λr s' hq=>?_);obtain⟨rfl,h2,h3,h4⟩:=hq;exact⟨.inl ⟨.bool true,.bool true,[],rfl,λ_=>rfl,.bool true,JJM l _,λ_=>⟨List.Pairwise.nil,λ_ hm=>(nomatch hm)⟩⟩,h2,h3,h4⟩
section
variable{prog:Program}{w:World}{A:Around}{E:Value→Shared→Prop}{s:Shared}{K:Frag}
noncomputable def ledger(h:Heap)(L d:Addr):Pq:=(List.range h.objs.size).filterMap λa=>if a=L∨a=d then none else (h.get? a).map λo=>(a,o)
end
end Att
namespace L2
open PySem PySem.Spec PyProof.Rows
theorem JEt:∀ {vs:List Value}{ns:List Int},IntsAre vs ns→Vals (ns.map V.int) vs
 |_,_,.nil=>.nil
 |_,_,.cons n t h=>.cons ⟨t,rfl⟩ (JEt h)
def Only(H:Hp):Prop:=∀b,H b=none∨∃o xs,H b=some (.frz o (.lst xs))
theorem JJQ{P:Program}{w:World}{K:Kq}{mg mb:Str→Option Value}{CX:CXT}{k:Nat}{fa a:Addr}{fd:FuncData}{x:Str}{sp:Sp}{s₁:Shared}{vs:List Value}{ns:List Int}
  (KX:K.In s₁.heap) (hns:s₁.heap.Ns mainGlobals mg) (hb:s₁.heap.Ns builtinsNs mb) (hbb:∀x:Str,x≠"__name__"→mb x=bootBuiltins x) (hlim:s₁.heap.NoLimit) (hg:s₁.gens=#[])
  (ha:s₁.heap.get? a=some { cls:=.type "list",data:=.seq vs.toArray }) (hi:IntsAre vs ns) (hl:ns.length≤sizeLine) (hr:Room k callerA)
  (F:∀base:Heap,K.In base→base.Ns mainGlobals mg→FnOk P w K mg base CX k fa fd [x] sp) (hbind:∀(s:Shared) (u:Value),BindsTo s fd ⟨[u],[]⟩ [(x,u)])
  (hsp:∀H:Hp,Only H→SqL K H a (ns.map V.int)→sp [.ref a] H (λv _=>v=.bl true) λ_ _ _=>False)
  (hCX:∀H e s',CX [] H s₁ (λ_ _ _=>False) e s'→False) :
  codeAny (model P w) callerA (.call (.ref fa) ⟨[.ref a],[]⟩) (λr s'=>r=.ok (.ret (.bool true))∧OldK s₁.heap s'.heap∧s'.os=s₁.os∧AllBare s'.gens) s₁:=by
 have rv:=JEt hi;have lenV:=hi.length;have core:∀H:Hp,Only H→SqL K H a (ns.map V.int)→HOk P w H s₁.heap→(∀b,H b≠none→b=a)→(H a≠none→K.lookup a=none) →
    codeAny (model P w) callerA (.call (.ref fa) ⟨[.ref a],[]⟩) (λr s'=>r=.ok (.ret (.bool true))∧OldK s₁.heap s'.heap∧s'.os=s₁.os∧AllBare s'.gens) s₁:=by
  intro H hO hS hok hA hK;have base_of:∀ {b:Addr}{o:Obj},s₁.heap.get? b=some o→H b=none→(hidT s₁.heap H).get? b=some o:=λe n=>JKI e n;have noA:∀ {b:Addr}{o:Obj}{es:Array DictEntry}{ep:Nat},s₁.heap.get? b=some o→o.data=.dict es ep→H b=none:=λ{b o es ep} e d=>by
    cases q:H b with
    |none=>rfl
    |some u =>
     have e':b=a:=hA b (by rw[q];simp)
     subst e';rw[ha]at e;cases e;have d':Data.seq vs.toArray _=Data.dict es ep:=d;cases d'
  have nsK:∀ {b:Addr}{m:Str→Option Value},s₁.heap.Ns b m→(hidT s₁.heap H).Ns b m:=λ{b m} ⟨o,es,ep,e,d,r⟩=>⟨o,es,ep,base_of e (noA e d),d,r⟩;have hKb:K.In (hidT s₁.heap H):=λb o e=>base_of (KX b o e) (by
    cases q:H b with
    |none=>rfl
    |some u =>
     have e':b=a:=hA b (by rw[q];simp)
     subst e';rw[hK (by rw[q];simp)]at e;cases e)
  have hM:Mod K mg (hidT s₁.heap H):=⟨hKb,nsK hns,⟨mb,nsK hb,hbb⟩,let ⟨mc,h1,h2⟩:=hlim;⟨mc,nsK h1,h2⟩⟩
  have e0:Env0 P w K mg (hidT s₁.heap H) callerA [] s₁ H:=⟨rfl,hM,λb o e=>JMw e,Nat.le_of_eq (JIO _ _),trivial,λb hb=>absurd (show b∈([]:List Addr) from hb) (by simp),hok,.of_eq hg⟩
  refine codeAny_mono ((F _ hKb (nsK hns)).run callerA [] s₁ H ⟨[.ref a],[]⟩ [.ref a] [.ref a] _ _ hr e0 (hbind s₁ (.ref a)) (.cons rfl .nil) (hsp H hO hS)) λr s' h=>?_;cases r with
  |error e=>exact(hCX H e s' h).elim
  |ok fl =>
    cases fl with
    |next=>exact fF h
    |brk=>exact fF h
    |cont=>exact fF h
    |ret u =>
     obtain⟨v,H',os,bare,un,hok',r',q⟩:=h;have q':v=.bl true:=q;subst q';obtain rfl:u=Value.bool true:=r';refine⟨rfl,OldK.of_keep λb o e=>?_,os,bare⟩;cases q:H b with
     |none=>exact un.keep b o e q (by intro z;exact absurd (show b∈([]:List Addr) from z) (by simp)) (by simp)
     |some u =>
      rcases hO b with z|⟨ob,xs,z⟩
      ·rw[q]at z;cases z
      ·have z2:=un.frzs b ob _ z;obtain⟨e1,_⟩:=hok b _ z;obtain⟨e2,_⟩:=hok' b _ z2;rw[e]at e1;cases e1;exact e2
 cases hk:K.lookup a with
 |some o =>
  have e:=KX a o hk;rw[ha]at e;cases e;refine core (λ_=>none) (λ_=>.inl rfl) (.inr ⟨_,vs.toArray,_,hk,rfl,rfl,rfl,by rw[List.size_toArray,lenV];exact hl,by simpa using rv⟩) (λb u z=>by have z':(none:Option HO)=some u:=z;cases z') (λb z=>absurd rfl z) λz=>absurd rfl z
 |none =>
  refine core (λb=>if b=a then some (.frz { cls:=.type "list",data:=.seq vs.toArray } (.lst (ns.map V.int))) else none) (λb=>?_) (.inl (.inr ⟨{ cls:=.type "list",data:=.seq vs.toArray },if_pos rfl⟩)) (λb u z=>?_) (λb z=>?_) λ_=>hk
  · by_cases hb:b=a
    ·exact .inr ⟨_,_,if_pos hb⟩
    ·exact .inl (if_neg hb)
  · by_cases hb:b=a
    ·have z':=(if_pos hb).symm.trans z;cases z';subst hb;exact⟨ha,by rw[List.length_map];exact hl,vs,_,rv,ha⟩
    ·have z':=(if_neg hb).symm.trans z;cases z'
  · by_cases hb:b=a
    ·exact hb
    ·exact absurd (if_neg hb) z
end L2
namespace L2
open PySem PySem.Spec PyProof.Rows
noncomputable abbrev KOf{K:Kq}{h:Heap}(_:K.In h):Kq:=K
theorem walk_of{l:PySem.W.OpenLaw}{n k:Nat}{q:Program}{loose:List Str}{XP:(Str→Option Value)→Heap→Prop}{YP:World→Heap→Prop}{d:DefRec}{K:Params→Kq}{CX:World→CXT}{sp:World→Sp}{x:Str}
  (hn:l.most=some n) (hn2:n≤sizeLine) (hdf:d.params.defaults=[]) (hr:Room k callerA)
  (hY:∀(w:World) (h:Heap),YP w h→(K w.params).In h)
  (F:∀(w:World) (mg:Str→Option Value) (fa:Addr) (h:Heap),(K w.params).In h→h.Ns mainGlobals mg→mg d.name=some (.ref fa) →
    ∃fd:FuncData,(∀(s:Shared) (u:Value),BindsTo s fd ⟨[u],[]⟩ [(x,u)]) ∧
     ∀base:Heap,(K w.params).In base→base.Ns mainGlobals mg→FnOk l.prog w (K w.params) mg base (CX w) k fa fd [x] (sp w))
  (hsp:∀(w:World) (H:Hp) (a:Addr) (ns:List Int),ns.length≤n→Only H→SqL (K w.params) H a (ns.map V.int)→sp w [.ref a] H (λv _=>v=.bl true) λ_ _ _=>False)
  (hCX:∀(w:World) (H:Hp) (s:Shared) (e:Value) (s':Shared),CX w [] H s (λ_ _ _=>False) e s'→False) :
  PySem.W.WalkO q loose XP YP l.row.toRowW d [] (λf vs=>PySem.call f vs):=by
 refine Att.attach_call hn hdf λw s₀ s₁ mg mb fa o pm cd doc a vs ns G Y ho hd hcd hmg hobj hints hlen hg=>?_;have KX:=hY w _ Y;obtain⟨fd,hb,hF⟩:=F w mg fa _ KX G.T.g hmg;exact JJQ KX G.T.g G.T.b G.T.builtins G.T.nolimit hg hobj hints (Nat.le_trans hlen hn2) hr hF hb (λH hO hS=>hsp w H a ns hlen hO hS) λH e s'=>hCX w H s₁ e s'
end L2
namespace L2
open PySem PySem.Spec PyProof.Rows
noncomputable def JA3(s:Stmt):Arguments:=match s with
 |.FunctionDef _ a _ _ _ _ _ _ _ _=>a
 |_=>{ posonlyargs:=[],args:=[],vararg:=none,kwonlyargs:=[],kw_defaults:=[],kwarg:=none,defaults:=[] }
noncomputable def JAa(s:Stmt):List Stmt:=match s with
 |.FunctionDef _ _ b _ _ _ _ _ _ _=>b
 |_=>[]
noncomputable def JAB(s:Stmt):Scope:=match s with
 |.FunctionDef _ _ _ _ _ _ sc _ _ _=>sc
 |_=>{ kind:=.function,names:=[],isGenerator:=false,isCoroutine:=false }
noncomputable abbrev CX0:CXT:=λ_ _ _ _ _ _=>False
structure Fun(K:Kq)(x qual:Str)(st:Stmt)(f:Addr)(fd:FuncData):Prop where
 ex:∃(oc:Value) (od:Option Addr) (kV doc pm:Value) (an:Option Addr) (cdv ct:Value) (osl:Array (Option Value)),
  fd=PySem.W.fnOf x qual (JA3 st) (JAa st) (JAB st) .none kV doc pm an cdv ct∧K.lookup f=some ⟨oc,od,.func fd,osl⟩∧PySem.W.codeIn K cdv qual=true
 kp:PySem.W.keepIn K (.ref f)=true
section
variable{P:Program}{w:World}{K:Kq}{mg:Str→Option Value}{base:Heap}
theorem Fun.ok{x qual:Str}{st:Stmt}{f:Addr}{fd:FuncData}{N ps:List Str}{k:Nat}{sp:Sp}(F:Fun K x qual st f fd)(S:FnScope N ps (JAB st))(len:∀vs H Q E,sp vs H Q E→vs.length=ps.length)
  (hbody:∀(cdv:Value) (A:Around) (outer:List Env) (s:Shared) (H:Hp) (vs:List V) (Q:VK) (E:XK),Room k (A.deeper (envOfC qual (JAB st) s.heap.objs.size f cdv))→sp vs H Q E →
    ∃t,PSs (cxOf CX0 P w K mg base N qual (JAB st) f cdv A outer s H E).nox (JAa st) t∧t { nx:=λ_ H'=>Q .non H',rt:=Q } (start N vs) H):FnOk P w K mg base CX0 (k+1) f fd ps sp:=by
 obtain⟨oc,od,kV,doc,pm,an,cdv,ct,osl,rfl,lk,hcd⟩:=F.ex;refine JIh lk hcd S len λA outer s H vs Q E hr hsp=>?_;obtain⟨t,h,q⟩:=hbody cdv A outer s H vs Q E hr hsp;exact⟨t,h.nox,q⟩
theorem Fun.binds{x qual:Str}{st:Stmt}{f:Addr}{fd:FuncData}{ps:List Str}(F:Fun K x qual st f fd)
  (h:∀(kV doc pm:Value) (an:Option Addr) (cdv ct:Value) (us:List Value),us.length=ps.length→bindArgs (PySem.W.fnOf x qual (JA3 st) (JAa st) (JAB st) .none kV doc pm an cdv ct) ⟨us,[]⟩=pure (ps.zip us)):Binds K fd ps []:=by
 obtain⟨oc,od,kV,doc,pm,an,cdv,ct,osl,rfl,lk,hcd⟩:=F.ex;exact .all (h kV doc pm an cdv ct)
theorem JI7{x qual:Str}{st:Stmt}{f:Addr}{oc:Value}{od an:Option Addr}{osl:Array (Option Value)}{kV doc pm cdv ct:Value}(l:K.lookup f=some ⟨oc,od,.func (PySem.W.fnOf x qual (JA3 st) (JAa st) (JAB st) .none kV doc pm an cdv ct),osl⟩)
 (c:PySem.W.codeIn K cdv qual=true) (k:PySem.W.keepIn K (.ref f)=true):Fun K x qual st f (PySem.W.fnOf x qual (JA3 st) (JAa st) (JAB st) .none kV doc pm an cdv ct):=⟨⟨oc,od,kV,doc,pm,an,cdv,ct,osl,rfl,l,c⟩,k⟩
end
section
variable{X:Cx}
end
theorem iteF{A B:Prop}(h:B):if false=true then A else B:=by
 rw[if_neg Bool.false_ne_true];exact h
theorem iteT{A B:Prop}(h:A):if true=true then A else B:=by
 rw[if_pos rfl];exact h
def Same(H H':Hp):Prop:=∀b o,H b=some o→H' b=some o
theorem Same.refl(H:Hp):Same H H:=λ_ _ h=>h
theorem Same.trans{H H1 H2:Hp}(a:Same H H1)(b:Same H1 H2):Same H H2:=λc o h=>b c o (a c o h)
theorem Same.free{H H':Hp}(e:Same H H'){l:Addr}(h:H' l=Option.none):H l=Option.none:=by
 cases q:H l with
 |none=>rfl
 |some o =>
  rw[e l o q]at h;cases h
theorem Same.seq{K:Kq}{H H':Hp}{a:Addr}{xs:List V}(e:Same H H')(h:SqL K H a xs):SqL K H' a xs:=by
 rcases h with (h|⟨o,h⟩)|h
 ·exact .inl (.inl (e _ _ h))
 ·exact .inl (.inr ⟨o,e _ _ h⟩)
 ·exact .inr h
end L2
set_option autoImplicit false
section
namespace VI.VP
open PySem PySem.W PySem.NumText PyProof.Rows PySem.Builtin PySem.Builtin.Str
def one(c:Nat):Str:=⟨#[c]⟩
def tx(n:Int):Str:=Str.ofString (toString n)
def JBp(x:Str):Bool:=x.cps.toList.all λc=>decide (48≤c∧c≤57)
noncomputable def JAb(x:Str):Option Int :=
 let f:=if Txt.startswith x (one 45)=true then Txt.slice x (some 1) none else x
 if f.length=0∨9<f.length∨JBp f=false then none else PySem.intText? x
noncomputable def JBe(u d:Int):Str:=if d=1 then tx u else tx u++one 47++tx d
noncomputable def JA0(P:Int→Int→Bool)(x:Str):Option (Int×Int) :=
 (JAb (Txt.partition x (one 47)).1).bind λu=>(if (Txt.partition x (one 47)).2.1=Str.empty then some 1 else JAb (Txt.partition x (one 47)).2.2).bind λd =>
   if P u d=true∧JBe u d=x then some (u,d) else none
noncomputable def takeD(P:Int→Int→Bool):Nat→List Str→Option (PyData×List Str)
 |0,_=>none
 |_,[]=>none
 |n+1,w::r =>
  if w="then" then (takeD P n r).bind λp=>(takeD P n p.2).map λq=>(.tuple [.str w,p.1,q.1],q.2)
  else if w="again" then (match r with
   | []=>none
   |m::r=>(JAb m).bind λk=>(takeD P n r).map λp=>(.tuple [.str w,.int k,p.1],p.2))
  else if w="wait" then (match r with
   | []=>none
   |x::r=>(JA0 P x).map λq=>(.tuple [.str w,.tuple [.int q.1,.int q.2]],r))
  else (match r with
   |x::y::z::r=>(JA0 P x).bind λq=>(JA0 P y).map λs=>(.tuple [.str w,.tuple [.int q.1,.int q.2],.tuple [.int s.1,.int s.2],.str z],r)
   |_=>none)
def isF(u d:Int):Bool:=decide (0<d∧u.gcd d=1)
end VI.VP
end
section
set_option backward.eqns.nonrecursive false
namespace VI
open PySem
abbrev D:=PyData
noncomputable def excD(c:Nat):D:=.dict [(.none,.int (c:Int))]
inductive R(α:Type) where
 |ok (a:α)
 |exc (c:Nat)
 |bad
@[reducible] def R.bind {α β:Type}(r:R α) (f:α→R β):R β :=
 match r with
 |.ok a=>f a
 |.exc c=>.exc c
 |.bad=>.bad
inductive Ty where
 |int|bool|str|list|tuple|dict|valueError|own (c:Nat)
 deriving DecidableEq
inductive Blt where
 |len|abs|min|all
 deriving DecidableEq
inductive O1 where
 |slice (lo hi:Option Int)
 |toTup|toLst|rev
 deriving DecidableEq
inductive XO where
 |rev|enm|srt|zip|sst
 |dvs|dit|dls|dcp|dnw|din|dni|deq|dne|dtk|sts|dpr|mx2
 |txi|tfr|jn|stw|prt|tin|tcf|tct|tkp|tkd
 deriving DecidableEq
inductive E where
 |var (i:Nat)
 |cint (i:Int)|cbl (b:Bool)|cnon|cstr (x:Str)
 |glo (i:Nat)
 |bin (op:Operator) (a b:E)
 |neg (a:E)
 |not (a:E)
 |and (a b:E)
 |or (a b:E)
 |cmp (op:CmpOp) (a b:E)
 |isN (a:E) (neg:Bool)
 |isB (a:E) (b:Bool)
 |ife (c a b:E)
 |nil
 |cons (a r:E)
 |tup (es:E)
 |lst (es:E)
 |idx (a i:E)
 |call (f:Nat) (es:E)
 |blt (b:Blt) (es:E)
 |rng (es:E)
 |isi (a:E) (t:Ty)
 |mcount (o a:E)
 |mindex (o a:E)
 |mget (o a b:E)
 |cmpr (k:Nat) (elt iter cond:E)
 |dct (ks:List Str) (es:E)
 |rep (k:Nat) (es:E)
 |fn1 (o:O1) (a:E)
 |isnB (a:E) (b:Bool)
 |xop (k:XO) (es:E)
inductive Sl where
 |no
 |val (d:D)
 |own (d:D)
noncomputable def Sl.get:Sl→R D
 |.no=>.bad
 |.val d=>.ok d
 |.own (.dict _)=>.bad
 |.own d=>.ok d
noncomputable def Sl.frz:Sl→Sl
 |.own (.dict _)=>.no
 |.own d=>.val d
 |s=>s
noncomputable def Sl.isOwn:Sl→Bool
 |.own _=>true
 |_=>false
abbrev Env:=List Sl
noncomputable def look(δ:Env)(i:Nat):R D:=match δ[i]? with
 |some s=>s.get
 |none=>.bad
structure Cn where
 fn:Nat→List D→R D
 glo:Nat→R D
 sub:Nat→Nat→Bool
noncomputable def truth:D→R Bool
 |.none=>.ok false
 |.bool b=>.ok b
 |.int i=>.ok (i != 0)
 |.str x=>if x.length≤16777216 then .ok ((x.length:Int) != 0) else .bad
 |.list xs=>.ok (!xs.isEmpty)
 |.tuple xs=>.ok (!xs.isEmpty)
 |.dict _=>.bad
open Classical in
noncomputable def binD(op:Operator)(x y:D):R D :=
 match op,x,y with
 |.Add,.int i,.int j=>.ok (.int (i+j))
 |.Sub,.int i,.int j=>.ok (.int (i - j))
 |.Mult,.int i,.int j=>if IntMulOk i j then .ok (.int (i*j)) else .bad
 |.FloorDiv,.int i,.int j=>if j≠0∧Builtin.divisionGoesByPylong i j=false then .ok (.int (i.fdiv j)) else .bad
 |.Mod,.int i,.int j=>if j≠0 then .ok (.int (i.fmod j)) else .bad
 |.Add,.tuple xs,.tuple ys=>if xs.length+ys.length≤16777216 then .ok (.tuple (xs++ys)) else .bad
 |.Add,.list xs,.list ys=>if xs.length+ys.length≤16777216 then .ok (.list (xs++ys)) else .bad
 |.Add,.str a,.str b=>if a.length+b.length≤16777216 then .ok (.str (a++b)) else .bad
 |.Mult,.str a,.int n=>if 0≤n∧n<1000∧a.length≤1000 then .ok (.str (Txt.mul a n)) else .bad
 |.Mult,.tuple xs,.int k=>if 2≤k∧k≤1000∧xs.length≤1000∧xs≠[] then .ok (.tuple (List.replicate k.toNat xs).flatten) else .bad
 |.Mult,.list xs,.int k=>if -(2 ^ 62)≤k∧k<2 ^ 62∧xs.length*k.toNat≤16777216 then .ok (.list (List.replicate k.toNat xs).flatten) else .bad
 |_,_,_=>.bad
noncomputable def shaped(d:D):Bool:=d.canLay0&&decide (d.depth≤64)
noncomputable def JB5(xs:List D)(x:D):Bool:=PyData.canLayAll0 xs&&x.canLay0&&decide (x.depth≤60)
noncomputable def cmpD(op:CmpOp)(x y:D):R D :=
 match op with
 |.Eq=>if (shaped x&&shaped y)=true then .ok (.bool (PyData.eqv x y)) else .bad
 |.NotEq=>if (shaped x&&shaped y)=true then .ok (.bool (!PyData.eqv x y)) else .bad
 |.Lt=>match x,y with|.int i,.int j=>.ok (.bool (decide (i<j)))|_,_=>.bad
 |.LtE=>match x,y with|.int i,.int j=>.ok (.bool (decide (i≤j)))|_,_=>.bad
 |.Gt=>match x,y with|.int i,.int j=>.ok (.bool (decide (j<i)))|_,_=>.bad
 |.GtE=>match x,y with|.int i,.int j=>.ok (.bool (decide (j≤i)))|_,_=>.bad
 |.In=>match y with
  |.list xs=>if JB5 xs x=true then .ok (.bool (xs.any λz=>PyData.eqv z x)) else .bad
  |.tuple xs=>if JB5 xs x=true then .ok (.bool (xs.any λz=>PyData.eqv z x)) else .bad
  |.str j=>(match x with
   |.str i=>.ok (.bool (!(Builtin.Str.occurrences j i 0 j.length 1).isEmpty))
   |_=>.bad)
  |_=>.bad
 |.NotIn=>match y with
  |.list xs=>if JB5 xs x=true then .ok (.bool (!xs.any λz=>PyData.eqv z x)) else .bad
  |.tuple xs=>if JB5 xs x=true then .ok (.bool (!xs.any λz=>PyData.eqv z x)) else .bad
  |_=>.bad
 |_=>.bad
noncomputable def isNone:D→Bool
 |.none=>true
 |_=>false
noncomputable def isBool(b:Bool):D→R Bool
 |.bool c=>.ok (c==b)
 |_=>.bad
noncomputable def ixN(n:Nat)(i:Int):Option Nat:=if 0≤i then (if i<n then some i.toNat else none) else if -(n:Int)≤i then some (i+n).toNat else none
noncomputable def atI{α:Type}(xs:List α)(i:Int):Option α:=(ixN xs.length i).bind λj=>xs[j]?
noncomputable def optR{α:Type}:Option α→R α
 |some a=>.ok a
 |none=>.bad
noncomputable def getK:List (D×D)→Str→R D
 | [],_=>.bad
 |(.str k,v)::r,x=>if k=x then .ok v else getK r x
 |_::_,_=>.bad
noncomputable def idxD(x i:D):R D :=
 match x,i with
 |.list xs,.int i=>optR (atI xs i)
 |.tuple xs,.int i=>optR (atI xs i)
 |.dict kvs,.str y=>getK kvs y
 |.str x,.int i=>if x.cps.size≤1000 then optR ((atI x.cps.toList i).map λc=>.str ⟨#[c]⟩) else .bad
 |_,_=>.bad
noncomputable def isiD(sub:Nat→Nat→Bool)(x:D)(t:Ty):R D :=
 match x with
 |.none=>.ok (.bool false)
 |.bool _=>.ok (.bool (t==.int || t==.bool))
 |.int _=>.ok (.bool (t==.int))
 |.str _=>.ok (.bool (t==.str))
 |.list _=>.ok (.bool (t==.list))
 |.tuple _=>.ok (.bool (t==.tuple))
 |.dict [(.none,.int c)]=>if sub c.toNat c.toNat=true then (match t with
  |.own e=>.ok (.bool (sub c.toNat e))
  |.valueError=>.ok (.bool true)
  |_=>.bad) else .bad
 |.dict _=>.bad
noncomputable def lexI:List Int→List Int→Bool
 | [],[]=>false
 | [],_::_=>true
 |_::_,[]=>false
 |a::r,b::t=>if a=b then lexI r t else decide (a<b)
noncomputable def intsOf:List D→Option (List Int)
 | []=>some []
 |.int a::r=>(intsOf r).map (a::·)
 |_=>none
noncomputable def keysOf:List D→Option (List (List Int))
 | []=>some []
 |.tuple a::r=>(intsOf a).bind λk=>(keysOf r).map (k::·)
 |_=>none
noncomputable def minK:List Int→List (List Int)→List Int
 |k,[]=>k
 |k,b::r=>minK (if lexI b k=true then b else k) r
noncomputable def minD(ds:List D):R D:=match keysOf ds with
 |some (k::ks)=>.ok (.tuple ((minK k ks).map λi=>.int i))
 |_=>.bad
noncomputable def allD:List D→R D
 | []=>.ok (.bool true)
 |.bool b::r=>(match allD r with
  |.ok (.bool c)=>.ok (.bool (b&&c))
  |_=>.bad)
 |_=>.bad
noncomputable def bltD(b:Blt)(xs:List D):R D :=
 match b,xs with
 |.len,[.list ys]=>.ok (.int ys.length)
 |.len,[.tuple ys]=>.ok (.int ys.length)
 |.len,[.str x]=>if x.length≤16777216 then .ok (.int x.length) else .bad
 |.abs,[.int i]=>.ok (.int (if i<0 then -i else i))
 |.min,[.list ys]=>minD ys
 |.all,[.list ys]=>allD ys
 |_,_=>.bad
noncomputable def JGM(lo hi:Int):List D:=(List.range (hi - lo).toNat).map λ(k:Nat)=>.int (lo+k)
noncomputable def small(i:Int):Bool:=decide (-(2 ^ 62)≤i)&&decide (i<2 ^ 62)
noncomputable def rngD(xs:List D):R (List D) :=
 match xs with
 | [.int j]=>if small j=true then .ok (JGM 0 j) else .bad
 | [.int i,.int j]=>if (small i&&small j)=true then .ok (JGM i j) else .bad
 |_=>.bad
noncomputable def JBQ:D→R (List D)
 |.list xs=>.ok xs
 |.tuple xs=>.ok xs
 |.str x=>if x.cps.all (· < 128)=true then .ok (x.cps.toList.map λc=>.str ⟨#[c]⟩) else .bad
 |_=>.bad
noncomputable def JDu(x y:D):R D :=
 match x with
 |.list xs=>if JB5 xs y=true then .ok (.int (xs.countP λz=>PyData.eqv z y:Nat)) else .bad
 |_=>.bad
noncomputable def JDh(x y:D):R D :=
 match x with
 |.list xs=>if JB5 xs y=true then
  (match xs.findIdx? λz=>PyData.eqv z y with
   |some j=>.ok (.int j)
   |none=>.bad) else .bad
 |_=>.bad
noncomputable def getD:List (D×D)→Str→D→R D
 | [],_,z=>.ok z
 |(.str k,v)::r,x,z=>if k=x then .ok v else getD r x z
 |_,_,_=>.bad
noncomputable def JM2(x k z:D):R D :=
 match x,k with
 |.dict kvs,.str y=>getD kvs y z
 |_,_=>.bad
def sI(n d:Nat):Option Int→Nat
 |none=>d
 |some v=>if v<0 then (v+(n:Int)).toNat else min v.toNat n
def cutD{α:Type}(xs:List α)(lo hi:Option Int):List α:=(xs.drop (sI xs.length 0 lo)).take (sI xs.length xs.length hi - sI xs.length 0 lo)
noncomputable def op1D(o:O1)(d:D):R D:=match o,d with
 |.slice lo hi,.tuple xs=>.ok (.tuple (cutD xs lo hi))
 |.slice lo hi,.list xs=>.ok (.list (cutD xs lo hi))
 |.toTup,.tuple xs=>.ok (.tuple xs)
 |.toTup,.list xs=>.ok (.tuple xs)
 |.toLst,.tuple xs=>.ok (.list xs)
 |.toLst,.list xs=>.ok (.list xs)
 |.rev,.list xs=>.ok (.list xs.reverse)
 |_,_=>.bad
noncomputable def enmL:Nat→List D→List D
 |_,[]=>[]
 |i,d::r=>.tuple [.int (i:Nat),d]::enmL (i+1) r
noncomputable def kGo{α:Type}(lt:Nat→Nat→Bool):PySem.W.KasT α→α
 |.ret a=>a
 |.ask i j k=>kGo lt (k (lt i j))
inductive At where
 |i (n:Int)|s (x:Str)|t (k:List Int)
 deriving DecidableEq
noncomputable def At.kd:At→Nat
 |.i _=>0
 |.s _=>1
 |.t _=>2
noncomputable def ltAt:At→At→Bool
 |.i a,.i b=>decide (a<b)
 |.s x,.s y=>decide (x.cps.toList<y.cps.toList)
 |.t a,.t b=>lexI a b
 |_,_=>false
noncomputable def lexA:List At→List At→Bool
 | [],[]=>false
 | [],_::_=>true
 |_::_,[]=>false
 |a::r,b::t=>if a=b then lexA r t else ltAt a b
noncomputable def atOf:D→Option At
 |.int n=>some (.i n)
 |.str x=>some (.s x)
 |.tuple ds=>(intsOf ds).map .t
 |_=>none
noncomputable def JPe:List D→Option (List At)
 | []=>some []
 |d::r=>(atOf d).bind λa=>(JPe r).map (a::·)
noncomputable def JP4:List D→Option (List (List At))
 | []=>some []
 |.tuple ds::r=>(JPe ds).bind λk=>(JP4 r).map (k::·)
 |_=>none
noncomputable def sortA(ks:List (List At)):List Nat:=(kGo (λi j=>lexA (ks.getD i []) (ks.getD j [])) (PySem.W.kas_sort ks.length)).toList
noncomputable def sigOk:List (List At)→Bool
 | []=>false
 |k::ks=>!k.isEmpty&&ks.all λq=>q.map At.kd==k.map At.kd
noncomputable def strsOf:List D→Option (List Str)
 | []=>some []
 |.str x::r=>(strsOf r).map (x::·)
 |_=>none
noncomputable def ltS(x y:Str):Bool:=decide (x.cps.toList<y.cps.toList)
noncomputable def JOL(zs:List Str):List Str:=if zs.length<2 then zs else (kGo (λi j=>ltS (zs.getD i "") (zs.getD j "")) (PySem.W.kas_sort zs.length)).toList.map λi=>zs.getD i ""
noncomputable def dedS:List Str→List Str
 | []=>[]
 |x::r=>if x∈dedS r then dedS r else x::dedS r
noncomputable def srtS(ys:List D):R D:=match strsOf ys with
 |some xs=>if xs.length≤7 then .ok (.list ((JOL xs).map .str)) else .bad
 |none=>.bad
noncomputable def sstS(ys:List D):R D:=match strsOf ys with
 |some xs=>if xs.length≤1000∧(dedS xs).length≤7 then .ok (.list ((JOL (dedS xs)).map .str)) else .bad
 |none=>.bad
noncomputable def srtA(ys:List D):R D:=match JP4 ys with
 |some ks=>if 2≤ks.length∧ks.length≤5∧sigOk ks=true then .ok (.list ((sortA ks).map λi=>ys.getD i .none)) else .bad
 |none=>srtS ys
noncomputable def srtD(ys:List D):R D:=if ys.length<2 then .ok (.list ys) else srtA ys
noncomputable def JHS:List (D×D)→Option (List D)
 | []=>some []
 |(.str x,_)::r=>(JHS r).map (.str x::·)
 |_=>none
noncomputable def hasK:List (D×D)→Str→Bool
 | [],_=>false
 |(.str z,_)::r,k=>decide (z=k) || hasK r k
 |_::r,k=>hasK r k
noncomputable def repD:List (D×D)→Str→D→List (D×D)
 | [],_,_=>[]
 |(.str z,v)::r,k,x=>(.str z,if z=k then x else v)::repD r k x
 |p::r,k,x=>p::repD r k x
noncomputable def putD(kvs:List (D×D))(k:Str)(x:D):List (D×D):=if hasK kvs k=true then repD kvs k x else kvs++[(.str k,x)]
noncomputable def JQb(x y:D):R Bool:=match y,x with
 |.dict kvs,.str k=>(match JHS kvs with
  |some _=>.ok (hasK kvs k)
  |none=>.bad)
 |_,_=>.bad
noncomputable def JQQ:D→Bool
 |.dict _=>true
 |_=>false
noncomputable def JLI(kb:List (D×D)):List (D×D)→R Bool
 | []=>.ok true
 |(.str k,v)::r=>(match getK kb k with
  |.ok y=>if (shaped v&&shaped y)=true then (match JLI kb r with
    |.ok b=>.ok (PyData.eqv v y&&b)
    |_=>.bad) else .bad
  |_=>.ok false)
 |_=>.bad
noncomputable def eqD2(ka kb:List (D×D)):R Bool:=match JHS ka,JHS kb with
 |some _,some _=>if ka.length=kb.length then JLI kb ka else .ok false
 |_,_=>.bad
noncomputable def JQS:D→D→Option (R Bool)
 |.dict ka,.dict kb=>some (eqD2 ka kb)
 |_,_=>none
noncomputable def keyL(f:List D→R D):D→R D
 |.dict kvs=>(match JHS kvs with
  |some ks=>if ks.length≤1000000 then f ks else .bad
  |none=>.bad)
 |_=>.bad
noncomputable def delK(kvs:List (D×D))(k:Str):List (D×D):=kvs.filter λp=>match p.1 with
 |.str z=>!decide (z=k)
 |_=>true
noncomputable def JL3:List D→List (D×D)→Option (List (D×D))
 | [],acc=>some acc
 |.tuple [.str k,v]::r,acc=>JL3 r (putD acc k v)
 |_,_=>none
noncomputable def dD(k:XO)(xs:List D):R D:=match k,xs with
 |.dvs,[.dict kvs]=>(match JHS kvs with
  |some _=>.ok (.list (kvs.map Prod.snd))
  |none=>.bad)
 |.dit,[x]=>(match x with
  |.list ys=>.ok (.list ys)
  |.tuple ys=>.ok (.list ys)
  |x=>keyL (λks=>.ok (.list ks)) x)
 |.dls,[x]=>(match x with
  |.list ys=>.ok (.list ys)
  |.tuple ys=>.ok (.list ys)
  |x=>keyL (λks=>.ok (.list ks)) x)
 |.dcp,[x]=>keyL (λ_=>.ok x) x
 |.dnw,[]=>.ok (.dict [])
 |.sts,[.list ys]=>srtS ys
 |.dpr,[.list ys]=>(match JL3 ys [] with
  |some kvs=>.ok (.dict kvs)
  |none=>.bad)
 |.dtk,[x,.int n]=>op1D (.slice none (some n)) x
 |.din,[x,y]=>if JQQ y=true then (JQb x y).bind λb=>.ok (.bool b) else cmpD .In x y
 |.dni,[x,y]=>if JQQ y=true then (JQb x y).bind λb=>.ok (.bool (!b)) else cmpD .NotIn x y
 |.deq,[x,y]=>(match JQS x y with
  |some r=>r.bind λb=>.ok (.bool b)
  |none=>cmpD .Eq x y)
 |.dne,[x,y]=>(match JQS x y with
  |some r=>r.bind λb=>.ok (.bool (!b))
  |none=>cmpD .NotEq x y)
 |_,_=>.bad
noncomputable def XO.isT:XO→Bool
 |.din=>true
 |.dni=>true
 |.deq=>true
 |.dne=>true
 |.stw=>true
 |_=>false
noncomputable def xD(k:XO)(xs:List D):R D:=match k,xs with
 |.rev,[.list ys]=>.ok (.list ys.reverse)
 |.enm,[.list ys]=>.ok (.list (enmL 0 ys))
 |.srt,[.list ys]=>srtD ys
 |.sst,[.list ys]=>sstS ys
 |.zip,[.list xs,.list ys]=>.ok (.list (List.zipWith (λa b=>PyData.tuple [a,b]) xs ys))
 |.mx2,[.int i,.int j]=>.ok (.int (if j > i then j else i))
 |k,xs=>dD k xs
noncomputable def XO.isX:XO→Bool
 |.txi=>true
 |.tfr=>true
 |.jn=>true
 |.stw=>true
 |.prt=>true
 |.tin=>true
 |.tcf=>true
 |.tct=>true
 |.tkd=>true
 |_=>false
noncomputable def jnD(a:Str)(ys:List D):R D:=match strsOf ys with
 |some zs=>if JoinOk a zs=true then .ok (.str (Txt.join a zs)) else .bad
 |none=>.bad
noncomputable def tinD(a:Str):R D:=match intText? a with
 |some n=>if a.length≤640 then .ok (.int n) else .bad
 |none=>.bad
noncomputable def tkD(x:Str)(c:Nat):R D:=if x.cps.all (· < 128)=true∧x.length≤10000000 then (match VP.takeD VP.isF 5 (Txt.split x " ") with
 |some p=>.ok p.1
 |none=>.exc c) else .bad
noncomputable def tD(k:XO)(xs:List D):R D:=match k,xs with
 |.txi,[.int i]=>if i.natAbs.log2<1920 then .ok (.str (VP.tx i)) else .bad
 |.tfr,[.int i,.int j]=>if i.natAbs.log2<1920∧j.natAbs.log2<1920∧(VP.tx i++"/"++VP.tx j).length≤16777216 then .ok (.str (VP.tx i++"/"++VP.tx j)) else .bad
 |.jn,[.list ys]=>jnD " " ys
 |.stw,[.str a]=>.ok (.bool (Txt.startswith a "-"))
 |.prt,[.str a]=>if a.length≤16777216 then .ok (.tuple [.str (Txt.partition a "/").1,.str (Txt.partition a "/").2.1,.str (Txt.partition a "/").2.2]) else .bad
 |.tin,[.str a]=>tinD a
 |.tkd,[.str a,.int c]=>tkD a c.toNat
 |.tcf,[.str a,.int i]=>if a.length≤16777216 then .ok (.str (Txt.slice a (some i) none)) else .bad
 |.tct,[.str a,.int i]=>if a.length≤16777216 then .ok (.str (Txt.slice a none (some i))) else .bad
 |_,_=>.bad
noncomputable def xE(C:Cn)(k:XO)(xs:List D):R D:=if k=.tkp then C.fn 900 xs else if k.isX=true then tD k xs else xD k xs
noncomputable def JNa:D→Bool
 |.list _=>true
 |_=>false
noncomputable def JRd:D→Bool
 |.dict []=>true
 |.dict ((.str _,_)::_)=>true
 |_=>false
noncomputable def push(k:Nat)(x:D)(δ:Env):R Env :=
 match k with
 |0=>.ok (.val x::δ)
 |n+1=>match x with
  |.tuple xs=>if xs.length=n+1 then .ok (xs.map Sl.val++δ) else .bad
  |_=>.bad
noncomputable def JAt(f:D→R (Option D)):List D→R (List D)
 | []=>.ok []
 |x::xs=>match f x with
  |.ok (some y)=>(match JAt f xs with
   |.ok ys=>.ok (y::ys)
   |_=>.bad)
  |.ok none=>JAt f xs
  |_=>.bad
mutual
noncomputable def ev(C:Cn):E→Env→R D
 |.var i,δ=>look δ i
 |.cint i,_=>.ok (.int i)
 |.cbl b,_=>.ok (.bool b)
 |.cnon,_=>.ok .none
 |.cstr x,_=>.ok (.str x)
 |.glo i,_=>C.glo i
 |.bin op a b,δ=>(ev C a δ).bind λx=>(ev C b δ).bind λy=>binD op x y
 |.neg a,δ=>(ev C a δ).bind λx=>match x with|.int i=>.ok (.int (-i))|_=>.bad
 |.not a,δ=>((ev C a δ).bind truth).bind λb=>.ok (.bool (!b))
 |.and a b,δ=>(ev C a δ).bind λx=>match x with|.bool true=>ev C b δ|.bool false=>.ok (.bool false)|_=>.bad
 |.or a b,δ=>(ev C a δ).bind λx=>match x with|.bool true=>.ok (.bool true)|.bool false=>ev C b δ|_=>.bad
 |.cmp op a b,δ=>(ev C a δ).bind λx=>(ev C b δ).bind λy=>cmpD op x y
 |.isN a n,δ=>(ev C a δ).bind λx=>.ok (.bool (if n=true then !isNone x else isNone x))
 |.isB a b,δ=>(ev C a δ).bind λx=>(isBool b x).bind λk=>.ok (.bool k)
 |.ife c a b,δ=>(evT C c δ).bind λk=>if k=true then ev C a δ else ev C b δ
 |.nil,_=>.bad
 |.cons _ _,_=>.bad
 |.tup es,δ=>(evA C es δ).bind λxs=>.ok (.tuple xs)
 |.lst es,δ=>(evA C es δ).bind λxs=>.ok (.list xs)
 |.idx a i,δ=>(ev C a δ).bind λx=>(ev C i δ).bind λy=>idxD x y
 |.call f es,δ=>(evA C es δ).bind λxs=>C.fn f xs
 |.blt b es,δ=>(evA C es δ).bind λxs=>bltD b xs
 |.rng _,_=>.bad
 |.isi a t,δ=>(ev C a δ).bind λx=>isiD C.sub x t
 |.mcount o a,δ=>(ev C o δ).bind λx=>if JNa x=true then (ev C a δ).bind λy=>JDu x y else .bad
 |.mindex o a,δ=>(ev C o δ).bind λx=>if JNa x=true then (ev C a δ).bind λy=>JDh x y else .bad
 |.mget o a b,δ=>(ev C o δ).bind λx=>if JRd x=true then (ev C a δ).bind λy=>(ev C b δ).bind λz=>JM2 x y z else .bad
 |.cmpr k elt iter cond,δ=>(evI C iter δ).bind λxs=>if xs.length≤16777216 then (JAt (λx=>(push k x δ).bind λδ1=>(evT C cond δ1).bind λt =>
  if t=true then (ev C elt δ1).bind λy=>.ok (some y) else .ok none) xs).bind λys=>.ok (.list ys) else .bad
 |.dct ks es,δ=>(evA C es δ).bind λxs=>.ok (.dict ((ks.map PyData.str).zip xs))
 |.rep k es,δ=>(evA C es δ).bind λxs=>.ok (.list (List.replicate k xs).flatten)
 |.fn1 o a,δ=>(ev C a δ).bind λx=>op1D o x
 |.isnB a b,δ=>(ev C a δ).bind λx=>(isBool b x).bind λk=>.ok (.bool (!k))
 |.xop k es,δ=>(evA C es δ).bind (xE C k)
noncomputable def evT(C:Cn):E→Env→R Bool
 |.not a,δ=>(evT C a δ).bind λb=>.ok (!b)
 |.and a b,δ=>(evT C a δ).bind λx=>if x=true then evT C b δ else .ok false
 |.or a b,δ=>(evT C a δ).bind λx=>if x=true then .ok true else evT C b δ
 |.var i,δ=>(look δ i).bind truth
 |.cbl b,_=>.ok b
 |.cmp op a b,δ=>((ev C a δ).bind λx=>(ev C b δ).bind λy=>cmpD op x y).bind truth
 |.isN a n,δ=>(ev C a δ).bind λx=>.ok (if n=true then !isNone x else isNone x)
 |.isB a b,δ=>(ev C a δ).bind λx=>isBool b x
 |.idx a i,δ=>((ev C a δ).bind λx=>(ev C i δ).bind λy=>idxD x y).bind truth
 |.call f es,δ=>((evA C es δ).bind λxs=>C.fn f xs).bind truth
 |.blt b es,δ=>((evA C es δ).bind λxs=>bltD b xs).bind truth
 |.isi a t,δ=>((ev C a δ).bind λx=>isiD C.sub x t).bind truth
 |.isnB a b,δ=>(ev C a δ).bind λx=>(isBool b x).bind λk=>.ok (!k)
 |.xop k es,δ=>if k.isT=true then ((evA C es δ).bind (xE C k)).bind truth else .bad
 |_,_=>.bad
noncomputable def evA(C:Cn):E→Env→R (List D)
 |.nil,_=>.ok []
 |.cons a r,δ=>(ev C a δ).bind λx=>(evA C r δ).bind λxs=>.ok (x::xs)
 |_,_=>.bad
noncomputable def evI(C:Cn):E→Env→R (List D)
 |.rng es,δ=>(evA C es δ).bind rngD
 |.var i,δ=>(look δ i).bind JBQ
 |.glo i,_=>(C.glo i).bind JBQ
 |.idx a i,δ=>((ev C a δ).bind λx=>(ev C i δ).bind λy=>idxD x y).bind JBQ
 |.call f es,δ=>((evA C es δ).bind λxs=>C.fn f xs).bind JBQ
 |.tup es,δ=>evA C es δ
 |.lst es,δ=>evA C es δ
 |.fn1 o a,δ=>((ev C a δ).bind λx=>op1D o x).bind JBQ
 |.bin op a b,δ=>((ev C a δ).bind λx=>(ev C b δ).bind λy=>binD op x y).bind JBQ
 |.xop k es,δ=>((evA C es δ).bind (xE C k)).bind JBQ
 |_,_=>.bad
end
noncomputable def E.uses:E→Nat→Bool
 |.var i,j=>i==j
 |.bin _ a b,j=>a.uses j || b.uses j
 |.neg a,j=>a.uses j
 |.not a,j=>a.uses j
 |.and a b,j=>a.uses j || b.uses j
 |.or a b,j=>a.uses j || b.uses j
 |.cmp _ a b,j=>a.uses j || b.uses j
 |.isN a _,j=>a.uses j
 |.isB a _,j=>a.uses j
 |.ife c a b,j=>c.uses j || a.uses j || b.uses j
 |.cons a r,j=>a.uses j || r.uses j
 |.tup es,j=>es.uses j
 |.lst es,j=>es.uses j
 |.idx a i,j=>a.uses j || i.uses j
 |.call _ es,j=>es.uses j
 |.blt _ es,j=>es.uses j
 |.rng es,j=>es.uses j
 |.isi a _,j=>a.uses j
 |.mcount o a,j=>o.uses j || a.uses j
 |.mindex o a,j=>o.uses j || a.uses j
 |.mget o a b,j=>o.uses j || a.uses j || b.uses j
 |.dct _ es,j=>es.uses j
 |.rep _ es,j=>es.uses j
 |.fn1 _ a,j=>a.uses j
 |.isnB a _,j=>a.uses j
 |.xop _ es,j=>es.uses j
 |.cmpr k elt iter cond,j=>iter.uses j || elt.uses (j+(if k=0 then 1 else k)) || cond.uses (j+(if k=0 then 1 else k))
 |.cint _,_=>false
 |.cbl _,_=>false
 |.cnon,_=>false
 |.cstr _,_=>false
 |.glo _,_=>false
 |.nil,_=>false
noncomputable def E.fresh:E→Bool
 |.lst _=>true
 |.cmpr ..=>true
 |.xop .dcp _=>true
 |.xop .dnw _=>true
 |.xop .dpr _=>true
 |_=>false
mutual
noncomputable def JAW:D→Bool
 |.none=>true
 |.bool _=>true
 |.int _=>true
 |.str _=>true
 |.list _=>false
 |.tuple xs=>JBN xs
 |.dict [(.none,.int _)]=>true
 |.dict _=>false
noncomputable def JBN:List D→Bool
 | []=>true
 |x::xs=>JAW x&&JBN xs
end
noncomputable def JA1(e:E):Nat→Env→Env
 |_,[]=>[]
 |i,s::r=>(if e.uses i=true then s.frz else s)::JA1 e (i+1) r
noncomputable def JAS(e:E):Nat→Env→Bool
 |_,[]=>false
 |i,s::r=>(e.uses i&&s.isOwn) || JAS e (i+1) r
noncomputable def after(e:E)(d:D)(δ:Env):Env:=if (JAS e 0 δ&&!JAW d)=true then JA1 e 0 δ else δ
inductive Fl where
 |nx (δ:Env)
 |rt (d:D)
 |bk (δ:Env)
 |ct (δ:Env)
 |ex (c:Nat)
 |bad
inductive S where
 |nil|cons (s r:S)
 |pass|brk|cnt
 |asg (i:Nat) (e:E)
 |unp (is:List Nat) (e:E)
 |ret (e:E)|retN
 |ife (c:E) (a b:S)
 |app (i:Nat) (e:E)
 |ext (i:Nat) (e:E)
 |ins (i:Nat) (es:E)
 |put (i:Nat) (k v:E)
 |pop (i:Nat) (k:E)
 |frz (i:Nat)
 |drop (e:E)
 |for1 (i:Nat) (e:E) (b:S)
 |forT (is:List Nat) (e:E) (b:S)
 |whl (c:E) (b:S)
 |rais (c:Nat)
 |tryx (b:S) (c:Nat) (i:Nat) (h:S)
@[reducible] def stepR {α:Type}(r:R α) (f:α→Fl):Fl :=
 match r with
 |.ok a=>f a
 |.exc c=>.ex c
 |.bad=>.bad
noncomputable def JCj:List Nat→List D→Env→Env
 |i::is,d::ds,δ=>JCj is ds (δ.set i (.val d))
 |_,_,δ=>δ
noncomputable def JA5(n:Nat):D→R (List D)
 |.tuple xs=>if xs.length=n then .ok xs else .bad
 |.list xs=>if xs.length=n then .ok xs else .bad
 |_=>.bad
noncomputable def forL(put:D→Env→Option Env)(body:Env→Fl):List D→Env→Fl
 | [],δ=>.nx δ
 |d::ds,δ=>match put d δ with
  |none=>.bad
  |some δ1=>match body δ1 with
   |.nx δ'=>forL put body ds δ'
   |.ct δ'=>forL put body ds δ'
   |.bk δ'=>.nx δ'
   |r=>r
noncomputable def put1(i:Nat)(d:D)(δ:Env):Option Env:=some (δ.set i (.val d))
noncomputable def putT(is:List Nat)(d:D)(δ:Env):Option Env:=match d with
 |.tuple xs=>if xs.length=is.length then some (JCj is xs δ) else none
 |_=>none
noncomputable def JAj(c:Env→R Bool)(body:Env→Fl):Nat→Env→Fl
 |0,_=>.bad
 |n+1,δ=>match c δ with
  |.ok true=>(match body δ with
   |.nx δ'=>JAj c body n δ'
   |.ct δ'=>JAj c body n δ'
   |.bk δ'=>.nx δ'
   |r=>r)
  |.ok false=>.nx δ
  |.exc k=>.ex k
  |.bad=>.bad
open Classical in
noncomputable def JBm(c:Env→R Bool)(body:Env→Fl)(δ:Env):Fl :=
 if h:∃n,JAj c body n δ≠.bad then JAj c body h.choose δ else .bad
noncomputable def JDP(i:Nat)(ds:List D)(e:E)(x:D)(δ:Env):Fl :=
 if ds.length<16777216 then (if (JAS e 0 δ&&!JAW x)=true then .bad else .nx (δ.set i (.own (.list (ds++[x]))))) else .bad
noncomputable def JBY(i:Nat)(ds:List D)(e:E)(x:D)(δ:Env):Fl :=
 match x with
 |.list zs=>if ds.length+zs.length≤16777216 then (if JAS e 0 δ=true then .bad else .nx (δ.set i (.own (.list (ds++zs))))) else .bad
 |_=>.bad
noncomputable def JNW(i:Nat)(ds:List D)(es:E)(xs:List D)(δ:Env):Fl :=
 match xs with
 | [.int k,y]=>if 0≤k∧k≤ds.length∧ds.length<16777216 then (if (JAS es 0 δ&&!JAW y)=true then .bad else .nx (δ.set i (.own (.list (ds.take k.toNat++y::ds.drop k.toNat))))) else .bad
 |_=>.bad
noncomputable def JNA(i:Nat)(kvs:List (D×D))(kd:D)(e:E)(x:D)(δ:Env):Fl :=
 match kd with
 |.str k=>if kvs.length<1000000 then (if (JAS e 0 δ&&!JAW x)=true then .bad else .nx (δ.set i (.own (.dict (putD kvs k x))))) else .bad
 |_=>.bad
noncomputable def JHz:Nat→Env→Env
 |_,[]=>[]
 |0,.own d::r=>.val d::r
 |0,.val d::r=>.val d::r
 |0,.no::r=>.no::r
 |i+1,s::r=>s::JHz i r
noncomputable def exec(C:Cn):S→Env→Fl
 |.nil,δ=>.nx δ
 |.cons s r,δ=>match exec C s δ with
  |.nx δ'=>exec C r δ'
  |f=>f
 |.pass,δ=>.nx δ
 |.brk,δ=>.bk δ
 |.cnt,δ=>.ct δ
 |.asg i e,δ=>stepR (ev C e δ) λx=>if e.fresh=true then .nx ((after e x δ).set i (.own x)) else .nx ((after e x δ).set i (.val x))
 |.unp is e,δ=>stepR (ev C e δ) λd=>stepR (JA5 is.length d) λxs=>.nx (JCj is xs (after e d δ))
 |.ret e,δ=>stepR (ev C e δ) λx=>.rt x
 |.retN,_=>.rt .none
 |.ife c a b,δ=>stepR (evT C c δ) λk=>if k=true then exec C a δ else exec C b δ
 |.app i e,δ=>match δ[i]? with
  |some (.own (.list ds))=>stepR (ev C e δ) λx=>JDP i ds e x δ
  |_=>.bad
 |.ext i e,δ=>match δ[i]? with
  |some (.own (.list ds))=>stepR (ev C e δ) λx=>JBY i ds e x δ
  |_=>.bad
 |.ins i es,δ=>match δ[i]? with
  |some (.own (.list ds))=>stepR (evA C es δ) λxs=>JNW i ds es xs δ
  |_=>.bad
 |.put i k e,δ=>match δ[i]? with
  |some (.own (.dict kvs))=>stepR (ev C e δ) λx=>(match ev C k δ with
   |.ok y=>JNA i kvs y e x δ
   |_=>.bad)
  |_=>.bad
 |.pop i k,δ=>match δ[i]? with
  |some (.own (.dict kvs))=>stepR (ev C k δ) λy=>(match y with
   |.str x=>if hasK kvs x=true then .nx (δ.set i (.own (.dict (delK kvs x)))) else .bad
   |_=>.bad)
  |_=>.bad
 |.frz i,δ=>.nx (JHz i δ)
 |.drop e,δ=>stepR (ev C e δ) λx=>.nx (after e x δ)
 |.for1 i e b,δ=>stepR (evI C e δ) λxs=>forL (put1 i) (exec C b) xs (JA1 e 0 δ)
 |.forT is e b,δ=>stepR (evI C e δ) λxs=>forL (putT is) (exec C b) xs (JA1 e 0 δ)
 |.whl c b,δ=>JBm (evT C c) (exec C b) δ
 |.rais c,_=>.ex c
 |.tryx b c i h,δ=>match exec C b δ with
  |.ex k=>if C.sub k c=true then (match exec C h ((δ.map λ_=>Sl.no).set i (.val (excD k))) with
    |.nx δ2=>.nx (δ2.set i .no)
    |.rt d=>.rt d
    |_=>.bad) else .bad
  |f=>f
structure Fd where
 par:Nat
 slots:Nat
 body:S
noncomputable def JF0(x:Bool)(C:Cn)(f:Fd)(xs:List D):R D :=
 if xs.length=f.par then
  (match exec C f.body (xs.map Sl.val++List.replicate (f.slots - f.par) Sl.no) with
   |.nx _=>.ok .none
   |.rt d=>.ok d
   |.ex c=>if x=true then .exc c else .bad
   |_=>.bad)
 else .bad
noncomputable def run(x:Bool)(tab:Nat→Option Fd)(glo:Nat→R D)(sub:Nat→Nat→Bool):Nat→Nat→List D→R D
 |0,_,_=>.bad
 |n+1,f,xs=>match tab f with
  |none=>.bad
  |some fd=>JF0 x ⟨run x tab glo sub n,glo,sub⟩ fd xs
end VI
end
section
set_option backward.eqns.nonrecursive false
namespace VI
open PySem
inductive GK where
 |fn (i:Nat)|con (i:Nat)|blt (b:Blt)|ty (t:Ty)|rng|isi|cls (c:Nat)|opt|nam
 deriving DecidableEq
noncomputable def JNN:Blt→Str
 |.len=>"len"
 |.abs=>"abs"
 |.min=>"min"
 |.all=>"all"
noncomputable def JBD:Ty→Option Str
 |.int=>some "int"
 |.bool=>some "bool"
 |.str=>some "str"
 |.list=>some "list"
 |.tuple=>some "tuple"
 |.dict=>some "dict"
 |.valueError=>some "ValueError"
 |.own _=>none
noncomputable def idxOf(x:Str):List Str→Option Nat
 | []=>none
 |y::r=>if (x==y)=true then some 0 else (idxOf x r).map (· + 1)
noncomputable def vis:Option NameKind→Bool
 |some .local=>true
 |some .cell=>true
 |some .free=>true
 |_=>false
noncomputable def JAQ(x:Str):Bool:=x=="__debug__" || x=="__classdict__" || x=="__name__"
noncomputable def glob(G:List (Str×GK))(names:Nq)(x:Str):Option GK :=
 if JAQ x=true then none else if names.lookup x=some .globalImplicit then G.lookup x else none
noncomputable def JAH(f:Expr→Option E):List Expr→Option E
 | []=>some .nil
 |e::r=>(f e).bind λa=>(JAH f r).bind λb=>some (.cons a b)
noncomputable def JAw(mk:E→E→E)(f:Expr→Option E):List Expr→Option E
 | []=>none
 | [e]=>f e
 |e::r=>(f e).bind λa=>(JAw mk f r).bind λb=>some (mk a b)
noncomputable def okBin:Operator→Bool
 |.Add|.Sub|.Mult|.FloorDiv|.Mod=>true
 |_=>false
noncomputable def isSlice:Expr→Bool
 |.Slice ..=>true
 |_=>false
noncomputable def JAk:Expr→Bool
 |.Call _ [] [] _=>true
 |_=>false
noncomputable def JAo(outer:Nq)(names:Nq):Nq :=
 names.map λ(n,k)=>if (k==.free&&true&&outer.lookup n==some .cell)=true then (n,.cell) else (n,k)
noncomputable def dots(i:Nat):Str:=⟨Array.replicate (i+2) 46⟩
noncomputable def mask(xs:List Str):Nat→List Str→List Str
 |_,[]=>[]
 |i,y::r=>(if xs.contains y=true then dots i else y)::mask xs (i+1) r
noncomputable def namesOf:List Expr→Option (List Str)
 | []=>some []
 |.Name x _::r=>(namesOf r).map (x::·)
 |_=>none
noncomputable def JB2:Expr→Option (Nat×List Str)
 |.Name x _=>some (0,[x])
 |.Tuple ts _ _=>(namesOf ts).bind λxs=>if xs=[] then none else some (xs.length,xs)
 |_=>none
noncomputable def itK(k:Nat)(q:Option (XO×List Expr))(f:List Expr→Option E)(d:Option E):Option E :=
 if k=0 then d else match q with
  |some q=>(f q.2).map (E.xop q.1)
  |none=>d
noncomputable def JCA(outer names:Nq)(xs N:List Str):Bool :=
 names.all (λ(n,k)=>k != .cell&&(k != .local || names.lookup n==some .local)&&(k != .free || (outer.lookup n==some .cell || outer.lookup n==some .free)))&&xs.all (λx=>names.lookup x==some .local)
  && N.all (λy=>xs.contains y || names.lookup y != some .local)&&(List.range N.length).all (λi=>!vis ((JAo outer names).lookup (dots i)))&&decide (xs++mask xs 0 N).Nodup
noncomputable def strKeys:List (Option Expr)→Option (List Str)
 | []=>some []
 |some (.Constant (.str k) _ _)::r=>(strKeys r).map (k::·)
 |_=>none
noncomputable def JMx(a:Expr)(op:Operator)(b:Expr):Option (List Expr×Nat):=match a,op,b with
 |.List es _,.Mult,.Constant (.int k) _ _=>if 0≤k∧k≤1000∧es.length≤1000 then some (es,k.toNat) else none
 |_,_,_=>none
noncomputable def JCb:Option Expr→Option (Option Int)
 |none=>some none
 |some (.Constant (.int k) _ _)=>some (some k)
 |some (.UnaryOp .USub (.Constant (.int k) _ _) _)=>some (some (-k))
 |_=>none
noncomputable def sliceOf:Expr→Option (Option Int×Option Int)
 |.Slice lo hi none _=>(JCb lo).bind λl=>(JCb hi).bind λh=>some (l,h)
 |_=>none
noncomputable def JQe:Expr→Bool
 |.Slice none none (some (.UnaryOp .USub (.Constant (.int 1) _ _) _)) _=>true
 |_=>false
noncomputable def JMu(a:Expr)(op:Operator)(b:Expr):Option (Int×Int):=match a,op,b with
 |.Constant (.int x) _ _,.Pow,.Constant (.int y) _ _=>if 0≤x∧x≤100∧0≤y∧y≤20 then some (x,y) else none
 |_,_,_=>none
noncomputable def o1Of:Ty→Option O1
 |.tuple=>some .toTup
 |.list=>some .toLst
 |_=>none
noncomputable def XO.flag:XO→Str
 |.rev=>".rev"
 |.enm=>".enm"
 |.srt=>".srt"
 |.zip=>".zip"
 |.sst=>".sst"
 |.dtk=>".dtk"
 |.mx2=>".mx2"
 |_=>".-"
noncomputable def JJr(G:List (Str×GK))(names:Nq)(f:Str)(a:Expr):Option (XO×List Expr) :=
 if f="sorted"∧glob G names f=some .nam then (match a with
  |.Call (.Name r _) [b] [] _=>if r="set"∧glob G names r=some .nam then some (.sst,[b]) else some (.srt,[a])
  |_=>some (.srt,[a]))
 else none
noncomputable def JKz(G:List (Str×GK))(names:Nq)(it:Bool)(f:Str)(a:Expr):Option (XO×List Expr) :=
 if it=true then (if f="reversed"∧glob G names f=some .nam then some (.rev,[a]) else JJr G names f a)
 else if f="list"∧glob G names f=some (.ty .list) then (match a with
  |.Call (.Name r _) [b] [] _=>if r="reversed"∧glob G names r=some .nam then some (.rev,[b]) else none
  |_=>none)
 else JJr G names f a
noncomputable def xRaw(G:List (Str×GK))(names:Nq)(it:Bool):Expr→Option (XO×List Expr)
 |.Call (.Name f _) [a] [] _=>JKz G names it f a
 |.Call (.Name f _) [a,b] [] _=>if it=false∧f="max"∧glob G names f=some .nam then some (.mx2,[a,b]) else none
 |.Subscript a (.Slice none (some b) none _) _=>if it=false∧(JCb (some b)).isNone=true then some (.dtk,[a,b]) else none
 |_=>none
noncomputable def dCmp(op:CmpOp):Option XO:=match op with
 |.In=>some .din
 |.NotIn=>some .dni
 |.Eq=>some .deq
 |.NotEq=>some .dne
 |_=>none
noncomputable def isPrs:Expr→Bool
 |.ListComp ..=>true
 |.BinOp ..=>true
 |_=>false
noncomputable def JN9(G:List (Str×GK))(names:Nq)(f:Str)(a:Expr):Option (XO×List Expr) :=
 if f="dict"∧glob G names f=some (.ty .dict) then some (if isPrs a=true then .dpr else .dcp,[a]) else if f="list"∧glob G names f=some (.ty .list) then some (.dls,[a]) else if f="sorted"∧glob G names f=some .nam then some (.sts,[a]) else none
noncomputable def dVal(o:Expr)(m:Str)(ap cp:Pos):Option (XO×List Expr):=if m="values"∧JAk o=false∧(ap.endLine==cp.line)=true then some (.dvs,[o]) else none
noncomputable def dRaw(G:List (Str×GK))(names:Nq)(it:Bool)(e:Expr):Option (XO×List Expr):=match it,e with
 |true,.Name x p=>if JAQ x=false∧vis (names.lookup x)=true then some (.dit,[.Name x p]) else none
 |true,.Call (.Attribute o m ap) [] [] cp=>dVal o m ap cp
 |false,.Dict [] [] _=>some (.dnw,[])
 |false,.Subscript a (.Slice none (some b) none _) _=>if (JCb (some b)).isNone=true then some (.dtk,[a,b]) else none
 |false,.Compare a [op] [b] _=>if behindInMarks op b=true then none else (dCmp op).map λk=>(k,[a,b])
 |false,.Call (.Name f _) [a] [] _=>JN9 G names f a
 |_,_=>none
noncomputable def dOn(G:List (Str×GK))(names:Nq):Bool:=decide (G.lookup (".dict":Str)=some GK.opt)&&names.any λp=>decide (G.lookup p.1=some GK.opt)
noncomputable def dOf(G:List (Str×GK))(names:Nq)(it:Bool)(e:Expr):Option (XO×List Expr):=(dRaw G names it e).bind λq=>if dOn G names=true then some q else none
noncomputable def isS(x:Str):Expr→Bool
 |.Constant (.str s) _ _=>decide (s=x)
 |_=>false
noncomputable def tM(o:Expr)(m:Str)(a:Expr)(ap cp:Pos):Option (XO×List Expr):=if (ap.endLine==cp.line)=true then (if m="join"∧isS " " o=true then some (.jn,[a]) else if JAk o=false∧m="startswith"∧isS "-" a=true then some (.stw,[o]) else if JAk o=false∧m="partition"∧isS "/" a=true then some (.prt,[o]) else none) else none
noncomputable def tC1(G:List (Str×GK))(names:Nq)(f:Str)(a:Expr):Option (XO×List Expr):=if f="str"∧glob G names f=some (.ty .str) then some (.txi,[a]) else if f="int"∧glob G names f=some (.ty .int) then some (.tin,[a]) else none
noncomputable def spOf:Expr→Option Expr
 |.Call (.Attribute o m ap) [a] [] cp=>if JAk o=false∧(ap.endLine==cp.line)=true∧m="split"∧isS " " a=true then some o else none
 |_=>none
noncomputable def isDp(G:List (Str×GK))(names:Nq):Expr→Bool
 |.Name x _=>decide (x="DEEPEST")&&(glob G names x).isSome
 |_=>false
noncomputable def fvOf:Expr→Option Expr
 |.FormattedValue e k none _=>if k=-1 then some e else none
 |_=>none
noncomputable def isNm:Expr→Bool
 |.Name _ _=>true
 |_=>false
noncomputable def tRaw(G:List (Str×GK))(names:Nq):Expr→Option (XO×List Expr)
 |.Call (.Name f _) [a] [] _=>tC1 G names f a
 |.Call (.Name f _) [a,b] [] _=>if f="take_plan"∧glob G names f=some .opt∧isDp G names b=true then (spOf a).map λo=>(.tkp,[o]) else none
 |.Call (.Attribute o m ap) [a] [] cp=>tM o m a ap cp
 |.JoinedStr [a] _=>(fvOf a).map λe=>(.txi,[e])
 |.JoinedStr [a,b,c] _=>(fvOf a).bind λe=>(fvOf c).bind λd=>if isS "/" b=true∧isNm d=true then some (.tfr,[e,d]) else none
 |.Subscript a (.Slice none (some b) none _) _=>some (.tct,[a,b])
 |.Subscript a (.Slice (some b) none none _) _=>some (.tcf,[a,b])
 |_=>none
noncomputable def tOf(G:List (Str×GK))(names:Nq)(it:Bool)(e:Expr):Option (XO×List Expr):=if it=false∧G.lookup (".txt":Str)=some GK.opt then tRaw G names e else none
noncomputable def xOf(G:List (Str×GK))(names:Nq)(it:Bool)(e:Expr):Option (XO×List Expr):=match dOf G names it e with
 |some q=>some q
 |none=>match tOf G names it e with
  |some q=>some q
  |none=>(xRaw G names it e).bind λq=>if G.lookup q.1.flag=some GK.opt then some q else none
noncomputable def xTgt(G:List (Str×GK))(names:Nq):Expr→Option (XO×List Expr)
 |.Call (.Name f _) [a] [] _=>if f="enumerate"∧glob G names f=some .nam then some (.enm,[a]) else none
 |.Call (.Name f _) [a,b] [] _=>if f="zip"∧glob G names f=some .nam then some (.zip,[a,b]) else none
 |_=>none
noncomputable def xT(G:List (Str×GK))(names:Nq)(e:Expr):Option (XO×List Expr) :=
 (xTgt G names e).bind λq=>if G.lookup q.1.flag=some GK.opt then some q else none
noncomputable def JAO(G:List (Str×GK))(f:Bool→Nq→List Str→Expr→Option E)(it:Bool)(names:Nq)(N:List Str)(e:Expr):Option E:=match e with
 |.Name x _=>if JAQ x=true then none else if vis (names.lookup x)=true then (idxOf x N).map E.var
   else (match glob G names x with
   |some (.con i)=>some (.glo i)
   |_=>none)
 |.Constant c _ _=>(match it,c with
  |false,.none=>some .cnon
  |false,.bool b=>some (.cbl b)
  |false,.int i=>some (.cint i)
  |false,.str x=>some (.cstr x)
  |_,_=>none)
 |.Tuple es _ _=>if es.length≤1000 then (JAH (f false names N) es).map E.tup else none
 |.List es _=>if es.length≤1000 then (JAH (f false names N) es).map E.lst else none
 |.Subscript a i _=>if isSlice i=true then (if JQe i=true then (if G.lookup (".rvs":Str)=some GK.opt then (f false names N a).map (E.fn1 .rev) else none) else (sliceOf i).bind λq=>(f false names N a).map (E.fn1 (.slice q.1 q.2))) else (f false names N a).bind λx=>(f false names N i).bind λy=>some (.idx x y)
 |.Call (.Name g _) args [] _=>(match glob G names g with
   |some (.fn i)=>(match args with
       |_::_=>(JAH (f false names N) args).map (E.call i)
       | []=>none)
   |some .rng=>if it=true∧g="range" then (match args with
       | [_]=>(JAH (f false names N) args).map E.rng
       | [_,_]=>(JAH (f false names N) args).map E.rng
       |_=>none) else none
   |some (.blt b)=>if it=false∧g=JNN b then (match args with
       |_::_=>(JAH (f false names N) args).map (E.blt b)
       | []=>none) else none
   |some .isi=>if it=false∧g="isinstance" then (match args with
       | [a,.Name t _]=>(match glob G names t with
        |some (.ty y)=>if JBD y=some t then (f false names N a).map λx=>.isi x y else none
        |some (.cls c)=>(f false names N a).map λx=>.isi x (.own c)
        |_=>none)
       |_=>none) else none
   |some (.ty y)=>if it=false∧JBD y=some g then (o1Of y).bind λo=>(match args with
       | [a]=>(f false names N a).map (E.fn1 o)
       |_=>none) else none
   |_=>none)
 |.Dict ks vs _=>(match strKeys ks with
  |some xs=>if it=false∧G.lookup (".dct":Str)=some GK.opt∧1≤xs.length∧xs.length≤15∧xs.length=vs.length∧decide xs.Nodup=true then (JAH (f false names N) vs).map (E.dct xs) else none
  |none=>none)
 |.BinOp a op b _=>match (if it=false∧G.lookup (".rep":Str)=some GK.opt then JMx a op b else none) with
  |some (es,k)=>(JAH (f false names N) es).map (E.rep k)
  |none=>match JMu a op b with
   |some (x,y)=>if it=false then some (.cint (x ^ y.toNat)) else none
   |none=>if okBin op=true then (f false names N a).bind λx=>(f false names N b).bind λy=>some (.bin op x y) else none
 |.UnaryOp op a _=>(match it,op with
  |false,.USub=>(f false names N a).map .neg
  |false,.Not=>(f false names N a).map .not
  |_,_=>none)
 |.BoolOp op es _=>(match it,op with
  |false,.And=>JAw .and (f false names N) es
  |false,.Or=>JAw .or (f false names N) es
  |_,_=>none)
 |.Compare a [op] [b] _=>if it=true then none else (match op with
  |.Is=>(match b with
   |.Constant .none _ _=>(f false names N a).map λx=>.isN x false
   |.Constant (.bool k) _ _=>(f false names N a).map λx=>.isB x k
   |_=>none)
  |.IsNot=>(match b with
   |.Constant .none _ _=>(f false names N a).map λx=>.isN x true
   |.Constant (.bool k) _ _=>(f false names N a).map λx=>.isnB x k
   |_=>none)
  |_=>if behindInMarks op b=true then none else (f false names N a).bind λx=>(f false names N b).bind λy=>some (.cmp op x y))
 |.IfExp c a b _=>if it=true then none else (f false names N c).bind λz=>(f false names N a).bind λx=>(f false names N b).bind λy=>some (.ife z x y)
 |.Call (.Attribute o m ap) [a] [] cp=>if (it=false∧JAk o=false∧(ap.endLine==cp.line)=true)∧G.lookup (".met":Str)=some GK.opt then
   (if m="count" then (f false names N o).bind λx=>(f false names N a).bind λy=>some (.mcount x y)
    else if m="index" then (f false names N o).bind λx=>(f false names N a).bind λy=>some (.mindex x y) else none) else none
 |.Call (.Attribute o m ap) [a,b] [] cp=>if (it=false∧JAk o=false∧(ap.endLine==cp.line)=true∧m="get")∧G.lookup (".get":Str)=some GK.opt then
   (f false names N o).bind λx=>(f false names N a).bind λy=>(f false names N b).bind λz=>some (.mget x y z) else none
 |.ListComp elt [⟨tg,iter,ifs,as⟩] sc _=>if it=true∨as≠0∨sc.kind≠.function∨(G.lookup (".hot":Str)).isSome=true then none else (match JB2 tg with
  |none=>none
  |some (k,xs)=>if JCA names sc.names xs N=true then
     (itK k (xT G names iter) (JAH (f false names N)) (f true names N iter)).bind λi =>
     (f false (JAo names sc.names) (xs++mask xs 0 N) elt).bind λx =>
     (match ifs with
      | []=>some (.cmpr k x i (.cbl true))
      | [c]=>(f false (JAo names sc.names) (xs++mask xs 0 N) c).bind λy=>some (.cmpr k x i y)
      |_=>none)
   else none)
 |_=>none
noncomputable def JAX(G:List (Str×GK))(f:Bool→Nq→List Str→Expr→Option E)(it:Bool)(names:Nq)(N:List Str)(e:Expr):Option E:=match xOf G names it e with
 |some q=>(JAH (f false names N) q.2).map (E.xop q.1)
 |none=>JAO G f it names N e
noncomputable def JAN(G:List (Str×GK)):Nat→Bool→Nq→List Str→Expr→Option E
 |0,_,_,_,_=>none
 |n+1,it,names,N,e=>JAX G (JAN G n) it names N e
theorem JAA{G:List (Str×GK)}{n:Nat}{it:Bool}{names:Nq}{N:List Str}{e:Expr}(h:xOf G names it e=none):JAN G (n+1) it names N e=JAO G (JAN G n) it names N e:=by
 unfold JAN JAX;rw[h]
theorem JGh{G:List (Str×GK)}{n:Nat}{it:Bool}{names:Nq}{N:List Str}{e:Expr}{q:XO×List Expr}(h:xOf G names it e=some q):JAN G (n+1) it names N e=(JAH (JAN G n false names N) q.2).map (E.xop q.1):=by
 unfold JAN JAX;rw[h]
theorem JAE{α:Type}{x:α}{P:Prop}(h:(none:Option α)=some x):P:=by cases h
noncomputable def JEA:Option NameKind→Bool
 |some .local=>true
 |some .cell=>true
 |_=>false
noncomputable def slot(names:Nq)(N:List Str)(x:Str):Option Nat:=if JEA (names.lookup x)=true then idxOf x N else none
noncomputable def slots(names:Nq)(N:List Str):List Expr→Option (List Nat)
 | []=>some []
 |.Name x _::r=>(slot names N x).bind λi=>(slots names N r).bind λis=>some (i::is)
 |_=>none
noncomputable def JAZ(f:Stmt→Option S):List Stmt→Option S
 | []=>some .nil
 |s::r=>(f s).bind λa=>(JAZ f r).bind λb=>some (.cons a b)
noncomputable def JDL:Expr→Bool
 |.ListComp ..=>true
 |_=>false
noncomputable def isTup:Expr→Bool
 |.Tuple ..=>true
 |_=>false
noncomputable def JD0:Expr→Bool
 |.List ..=>true
 |_=>false
noncomputable def JOQ(names:Nq)(t1 t2 e:Expr):Bool:=match t1,t2,e with
 |.Name x px,.Name y py,.Tuple [a,b] _ _=>names.lookup x==some .local&&names.lookup y==some .local&&px.line==py.line&&x != y&&!([a,b].all (foldedForSure 8))&&!([a,b].all (constantsAlone 8))
 |_,_,_=>false
noncomputable def JFD(names:Nq)(ts:List Expr)(e:Expr):Bool:=match ts with
 | [a,b]=>JOQ names a b e
 |_=>false
noncomputable def JMS:Expr→Option (List Expr)
 |.Tuple es _ _=>some es
 |_=>none
noncomputable def JOb:Expr→Bool
 |.List [] _=>true
 |_=>false
noncomputable def three(names:Nq)(t1 t2 t3:Expr)(es:List Expr):Bool:=match t1,t2,t3 with
 |.Name x px,.Name y py,.Name z pz=>es.length==3&&names.lookup x==some .local&&names.lookup y==some .local&&names.lookup z==some .local&&px.line==py.line&&px.line==pz.line&&x != y&&x != z&&y != z&&!(es.all (foldedForSure 8))&&!(es.all (constantsAlone 8))
 |_,_,_=>false
noncomputable def JQ6(names:Nq):Expr→Bool
 |.Name x _=>names.lookup x==some .cell
 |_=>false
noncomputable def dispN(names:Nq)(ts es:List Expr):Bool:=match ts with
 | [a,b,c]=>three names a b c es
 |_::_::_::_::_=>ts.length==es.length&&decide (es.length≤1000)
 |_=>false
noncomputable def JKw(names:Nq)(ts es:List Expr):Bool:=(ts.any (JQ6 names)&&decide (es.length≤1000)) || dispN names ts es
noncomputable def JMK(f:Expr→Option E):List Expr→List Nat→Option (E×Option Nat)
 | [],_=>some (.nil,none)
 |_::_,[]=>none
 |e::r,i::is=>if JOb e=true then (JAH f r).bind λb=>some (.cons .cnon b,some i) else (f e).bind λa=>(JMK f r is).bind λq=>some (.cons a q.1,q.2)
noncomputable def unpO(is:List Nat)(x:E):Option Nat→S
 |none=>.unp is (.tup x)
 |some i=>.cons (.unp is (.tup x)) (.asg i (.lst .nil))
noncomputable def JGE(e c:Option Expr):Option Str:=match e,c with
 |some (.Call (.Name x _) [.Constant (.str _) _ _] [] _),none=>some x
 |_,_=>none
noncomputable def handOf:List ExceptHandler→Option (Str×Str×Str)
 | [.ExceptHandler (some (.Name cn _)) (some en) [.Assign [.Name kn _] (.Name en2 _) _] _]=>if en2=en then some (cn,en,kn) else none
 |_=>none
noncomputable def JI1:Expr→Option (Str×Str×Expr)
 |.Call (.Attribute (.Name x _) m ap) [a] [] cp=>if (ap.endLine==cp.line)=true then some (x,m,a) else none
 |_=>none
noncomputable def JMH:Expr→Option (Str×Expr×Expr)
 |.Call (.Attribute (.Name x _) m ap) [a,b] [] cp=>if (ap.endLine==cp.line)=true∧m="insert" then some (x,a,b) else none
 |_=>none
noncomputable def docOf:Expr→Bool
 |.Constant (.str _) _ _=>true
 |_=>false
noncomputable def JHK:List Expr→Option (Sum Str (List Expr))
 | [.Name x _]=>some (.inl x)
 | [.Tuple ts _ _]=>some (.inr ts)
 |_=>none
noncomputable def JM8:List Expr→Option (Str×Expr)
 | [.Subscript (.Name x _) k _]=>if isSlice k=true then none else some (x,k)
 |_=>none
noncomputable def preF(G:List (Str×GK)):List Str→Nat→E→S→S
 | [],_,_,s=>s
 |x::r,i,y,s=>if (G.lookup x=some GK.opt∨G.lookup x=some GK.nam)∧y.uses i=true then .cons (.frz i) (preF G r (i+1) y s) else preF G r (i+1) y s
noncomputable def pre(G:List (Str×GK))(names:Nq)(N:List Str)(y:E)(s:S):S:=if dOn G names=true then preF G N 0 y s else s
noncomputable def JO8:XO→Bool
 |.dcp=>true
 |.dnw=>true
 |.dpr=>true
 |_=>false
noncomputable def dFr(G:List (Str×GK))(names:Nq)(e:Expr):Option (XO×List Expr):=(dOf G names false e).bind λq=>if JO8 q.1=true then some q else none
noncomputable def JCF(G:List (Str×GK))(fE:Bool→Nq→List Str→Expr→Option E)(fS:Bool→Nq→List Str→Stmt→Option S)(zz:Bool)(names:Nq)(N:List Str)(st:Stmt):Option S:=match st with
 |.Pass _=>some .pass
 |.Break _=>some .brk
 |.Continue _=>some .cnt
 |.Return none _=>some .retN
 |.Return (some e) _=>(fE false names N e).map λy=>pre G names N y (.ret y)
 |.Assign ts e _=>(match JHK ts with
  |some (.inl x)=>(slot names N x).bind λi=>(match dFr G names e with
   |some q=>(JAH (fE false names N) q.2).map λy=>pre G names N (.xop q.1 y) (.asg i (.xop q.1 y))
   |none=>(fE false names N e).bind λy=>if y.fresh=true∧JD0 e=false∧JDL e=false then none else some (pre G names N y (.asg i y)))
  |some (.inr ts)=>(slots names N ts).bind λis=>if (decide is.Nodup=true∧(isTup e=false∨JFD names ts e=true))∧(G.lookup (".hot":Str)).isSome=false then (fE false names N e).map (S.unp is)
    else (JMS e).bind λes=>if (decide is.Nodup=true∧JKw names ts es=true)∧G.lookup (".dsp":Str)=some GK.opt then (JMK (fE false names N) es is).map (λq=>unpO is q.1 q.2) else none
  |none=>(JM8 ts).bind λq=>if dOn G names=true∧JAQ q.1=false∧JDL e=false then (slot names N q.1).bind λi=>(fE false names N e).bind λy=>(fE false names N q.2).bind λz=>some (.put i z y) else none)
 |.If c a b _=>(fE false names N c).bind λz=>(JAZ (fS zz names N) a).bind λx=>(JAZ (fS zz names N) b).bind λy=>some (pre G names N z (.ife z x y))
 |.Expr e _=>(match JI1 e with
  |some (x,m,a)=>if JAQ x=false then
    (if m="append" then (slot names N x).bind λi=>(fE false names N a).map (S.app i)
     else if (m="extend"∧JDL a=false)∧G.lookup (".ext":Str)=some GK.opt then (slot names N x).bind λi=>(fE false names N a).map (S.ext i) else if m="pop"∧dOn G names=true then (slot names N x).bind λi=>(fE false names N a).map (S.pop i) else none) else none
  |none=>(match JMH e with
   |some (x,a,b)=>if JAQ x=false∧G.lookup (".ins":Str)=some GK.opt then (slot names N x).bind λi=>(JAH (fE false names N) [a,b]).map (S.ins i) else none
   |none=>if docOf e=true then some .pass else if JDL e=true then none else (fE false names N e).map S.drop))
 |.For tg iter body [] _=>if (G.lookup (".hot":Str)).isSome=true then none else (match JHK [tg] with
  |some (.inl x)=>(slot names N x).bind λi=>(fE true names N iter).bind λe=>(JAZ (fS zz names N) body).bind λb=>some (.for1 i e b)
  |some (.inr ts)=>(slots names N ts).bind λis=>(match xT G names iter with
   |some q=>(JAH (fE false names N) q.2).map (E.xop q.1)
   |none=>fE true names N iter).bind λe=>(JAZ (fS zz names N) body).bind λb=>some (.forT is e b)
  |none=>none)
 |.While c body [] _=>(fE false names N c).bind λz=>(JAZ (fS zz names N) body).bind λb=>some (.whl z b)
 |.Raise e c _=>(JGE e c).bind λx=>(match glob G names x with
   |some (.cls c)=>if zz=true then some (.rais c) else none
   |_=>none)
 |.Try body hs [] [] _=>(handOf hs).bind λq =>
   if zz=true∧G.lookup (".try":Str)=some GK.opt∧JAQ q.2.1=false∧names.lookup q.2.1=some .local then (match glob G names q.1 with
   |some (.cls c)=>(JAZ (fS false names N) body).bind λb=>(idxOf q.2.1 N).bind λi=>(slot names N q.2.2).bind λj =>
      if i=j then none else some (.tryx b c i (.cons (.asg j (.var i)) .nil))
   |_=>none) else none
 |_=>none
noncomputable def JCQ(G:List (Str×GK)):Nat→Bool→Nq→List Str→Stmt→Option S
 |0,_,_,_,_=>none
 |n+1,zz,names,N,st=>JCF G (JAN G n) (JCQ G n) zz names N st
end VI
end
section
namespace VI
open PySem
def JBB(cells:List (Str×Addr)):Nq→List (Str×Addr)→List (Str×Addr)
 | [],cs=>cs
 |(n,k)::r,cs=>if (k==NameKind.free)=true then JBB cells r ((n,(cells.lookup n).getD 0)::cs) else JBB cells r cs
theorem JCP{env:PySem.Env}:∀(names:Nq) (cs:List (Str×Addr)),(∀n,(n,NameKind.free)∈names→(env.cells.lookup n).isSome=true) →
  (forIn names cs (λ(x:Str×NameKind) (r:List (Str×Addr))=>if (x.2==NameKind.free)=true then (do let c←cellOf env x.1;pure (ForInStep.yield ((x.1,c)::r))) else pure (ForInStep.yield r)):Sem (List (Str×Addr)))=pure (JBB env.cells names cs)
 | [],cs,_=>rfl
 |(n,k)::r,cs,h=>by
  rw[List.forIn_cons];have ih:=λcs=>JCP (env:=env) r cs λm hm=>h m (List.mem_cons_of_mem _ hm)
  by_cases hk:(k==NameKind.free)=true
  · have e:k=.free:=eq_of_beq hk
    subst e;have q:=h n List.mem_cons_self;obtain⟨c,hc⟩:=Option.isSome_iff_exists.mp q;simp only[hk,if_true];have e2:cellOf env n=pure c:=by unfold cellOf;rw[hc]
    rw[e2,pure_bind,pure_bind];show(forIn r ((n,c)::cs) _:Sem _)=_;rw[ih];show pure (JBB env.cells r ((n,c)::cs))=pure (JBB env.cells ((n,NameKind.free)::r) cs);rw[show JBB env.cells ((n,NameKind.free)::r) cs=JBB env.cells r ((n,(env.cells.lookup n).getD 0)::cs) from if_pos rfl,hc];rfl
  · rw[if_neg hk,pure_bind]
    show(forIn r cs _:Sem _)=_;rw[ih];show _=pure (JBB env.cells ((n,k)::r) cs);rw[show JBB env.cells ((n,k)::r) cs=JBB env.cells r cs from if_neg hk]
theorem JEF{env:PySem.Env}{sc:Scope}(h:∀n,(n,NameKind.free)∈sc.names→(env.cells.lookup n).isSome=true):closureFor sc env=pure (JBB env.cells sc.names []):=by
 have:=JCP (env:=env) sc.names [] h;unfold closureFor
 first
  |exact this
  |(simp only[]at this ⊢;rw[show(forIn sc.names [] _:Sem (List (Str×Addr)))=_ from this];rfl)
  |(rw[this];rfl)
theorem JBq{cells:List (Str×Addr)}{x:Str}:∀(names:Nq) (cs:List (Str×Addr)),(JBB cells names cs).lookup x =
  if (x,NameKind.free)∈names then some ((cells.lookup x).getD 0) else cs.lookup x
 | [],cs=>by simp[JBB]
 |(n,k)::r,cs=>by
  unfold JBB
  by_cases hk:(k==NameKind.free)=true
  · have e:k=.free:=eq_of_beq hk
    subst e;rw[if_pos hk,JBq r]
    by_cases hr:(x,NameKind.free)∈r
    ·rw[if_pos hr,if_pos (List.mem_cons_of_mem _ hr)]
    ·rw[if_neg hr]
     by_cases hx:x=n
     ·subst hx;rw[if_pos List.mem_cons_self,List.lookup_cons,beq_self_eq_true]
     ·have hb:(x==n)=false:=beq_eq_false_iff_ne.mpr hx;rw[List.lookup_cons,hb,if_neg];intro hm;rcases List.mem_cons.mp hm with e|e
      ·exact hx (Prod.mk.inj e).1
      ·exact hr e
  · rw[if_neg hk,JBq r]
    have:((x,NameKind.free)∈(n,k)::r)↔(x,NameKind.free)∈r:=by
     constructor
     ·intro hm;rcases List.mem_cons.mp hm with e|e
      ·exfalso;apply hk;rw[←(Prod.mk.inj e).2];rfl
      ·exact e
     ·exact List.mem_cons_of_mem _
    simp only[this]
end VI
end
section
namespace VI
open PySem PySem.Spec PyProof.Rows L2
section
variable{X:Cx}
noncomputable def rCat2(K:Kq):R2:=λx y H Q=>∃a b xs ys,x=.ref a∧y=.ref b∧SqT K H a xs∧SqT K H b ys∧xs.length+ys.length≤sizeLine ∧
 (xs=[]→Q (.ref b) H)∧(xs≠[]→ys=[]→Q (.ref a) H)∧(xs≠[]→ys≠[]→∀p,H p=none→Q (.ref p) (upd H p (.tup (xs++ys))))
theorem JJa:OpR X (binaryOp .Add) (rCat2 X.K):=by
 intro pins s σ H x y v u Q I rx ry h;obtain⟨a,b,xs,ys,e1,e2,ha,hb,hz,q0,q1,q2⟩:=h
 by_cases hx:xs=[]
 ·subst e1 e2;cases rx;cases ry;obtain⟨its,r1,p1,_⟩:=I.tuple ha;obtain⟨its2,r2,p2,_⟩:=I.tuple hb;obtain⟨⟨cls,dd,data,sl⟩,ho,hc,n,hd⟩:=id p1;obtain⟨⟨cls2,dd2,data2,sl2⟩,ho2,hc2,n2,hd2⟩:=id p2;simp only at hc hd hc2 hd2;subst hc hd hc2 hd2;have hv:its=[]:=r1.nil_iff.mpr hx;exact concat_meets ⟨_,ho,rfl⟩ ⟨_,ho2,rfl⟩ noFill_tuple_add seq_tuple_add PySem.F.slot_tuple_add PySem.F.entry_tuple_add (PySem.F.args_tuple_add_2 _ _)
   (tuple_addW0 a b its.toArray its2.toArray n n2 dd dd2 sl sl2 (by simp[hv])) ⟨ho,ho2,⟨.ref b,H,I,rfl,q0 hx⟩⟩
 ·exact JMU pins s σ H x y v u Q I rx ry ⟨a,b,xs,ys,e1,e2,ha,hb,hx,hz,q1 hx,q2 hx⟩
noncomputable def rCatL(K:Kq):R2:=λx y H Q=>∃a b xs ys,x=.ref a∧y=.ref b∧SqL K H a xs∧SqL K H b ys∧xs.length+ys.length≤sizeLine∧∀p,H p=none→Q (.ref p) (upd H p (.lst (xs++ys)))
theorem JNn:OpR X (binaryOp .Add) (rCatL X.K):=by
 intro pins s σ H x y v u Q I rx ry h;obtain⟨a,b,xs,ys,rfl,rfl,ha,hb,hz,q⟩:=h;cases rx;cases ry;obtain⟨its,r,⟨⟨cls,dd,data,sl⟩,n,ho,hc,hdd,hd⟩,_⟩:=I.list ha;obtain⟨its2,r2,⟨⟨cls2,dd2,data2,sl2⟩,n2,ho2,hc2,hdd2,hd2⟩,_⟩:=I.list hb;simp only at hc hd hc2 hd2;subst hc hd hc2 hd2;have e:its.toArray++its2.toArray=(its++its2).toArray:=by simp
 have hl:its.toArray.size+its2.toArray.size≤sizeLine:=by
  rw[List.size_toArray,List.size_toArray,←r.length,←r2.length];exact hz
 refine concat_meets ⟨_,ho,rfl⟩ ⟨_,ho2,rfl⟩ noFill_list_add seq_list_add PySem.F.slot_list_add PySem.F.entry_list_add (PySem.F.args_list_add_2 _ _) (list_addW a b its.toArray its2.toArray n n2 dd dd2 sl sl2 hl) ⟨ho,ho2,?_⟩;rw[e];exact⟨.ref _,_,I.lnew (t':=s.toks) (r.append r2) (by rw[List.length_append];omega),rfl,q _ I.fresh⟩
noncomputable def rRepL(K:Kq):R2:=λx y H Q=>∃a k xs,x=.ref a∧y=.int k∧SqL K H a xs∧-(2 ^ 63)≤k∧k<2 ^ 63∧xs.length*k.toNat≤sizeLine∧∀p,H p=none→Q (.ref p) (upd H p (.lst (List.replicate k.toNat xs).flatten))
theorem JMP:OpR X (binaryOp .Mult) (rRepL X.K):=by
 intro pins s σ H x y v u Q I rx ry h;obtain⟨a,k,xs,rfl,rfl,ha,h1,h2,hz,q⟩:=h;cases rx;obtain⟨t,rfl⟩:=ry;obtain⟨its,r,⟨⟨cls,dd,data,sl⟩,n,ho,hc,hdd,hd⟩,_⟩:=I.list ha;simp only at hc hd;subst hc hd;have hlen:its.toArray.size*k.toNat≤sizeLine:=by rw[List.size_toArray,←r.length];exact hz
 have hcap:¬its.toArray.size*k.toNat > (2 ^ 63 - 1) / 8:=by
  have:(sizeLine:Nat)≤(2 ^ 63 - 1) / 8:=by decide
  omega
 have hfit:¬(!Builtin.List.listFitsIndex k)=true:=by
  rw[fitsIndex_both h1 h2];exact Bool.false_ne_true
 have hlong:¬Builtin.List.listTooLong (its.toArray.size*k.toNat)=true:=by
  rw[JEO hlen];exact Bool.false_ne_true
 refine wpAny_binaryOp_repeat_ref (T:="list") (U:="int") (by decide) ⟨_,ho,rfl⟩ (λs'=>typeIs_int s' k t) noFill_list_mul PySem.F.fills_int_mul PySem.F.slot_int_rmul repeat_list PySem.F.slot_int_index.lookup
  (call_meets PySem.F.slot_int_rmul (typeIs_int s k t) PySem.F.entry_int_rmul (PySem.F.args_int_rmul_2 _ _) (lm_int_rmul_list_any k t a its.toArray n dd sl)
    ⟨ho,rfl,⟨_,ho,rfl⟩,call_meets PySem.F.slot_list_mul ⟨_,ho,rfl⟩ PySem.F.entry_list_mul (PySem.F.args_list_mul_2 _ _) (lm_list_mul_any a its.toArray n dd sl k t hfit hcap hlong) ⟨ho,?_⟩⟩)
 rw[listMul_foldl_if];exact⟨.ref _,_,I.lnew (t':=s.toks) (r.rep k.toNat) (by rw[len_rep,Nat.mul_comm];exact hz),rfl,q _ I.fresh⟩
theorem JCo:fillsNumberSlot (.type "tuple") "mul"=pure false :=
 PySem.fillsNumberSlot_seq (id:="tuple.__mul__") (r:=some (.builtin "tuple.__rmul__")) PySem.F.slot_tuple_mul.lookup (by decide +kernel) PySem.F.slot_tuple_rmul.lookup (by decide +kernel)
theorem JEY:seqRepeat? (.type "tuple")=pure (some (.builtin "tuple.__mul__")):=by
 unfold seqRepeat?;rw[PySem.seqSlot_of (T:="tuple") (name:="__mul__") (id:="tuple.__mul__") PySem.F.slot_tuple_mul.lookup (by decide +kernel),PySem.seqSlot_of (T:="tuple") (name:="__rmul__") (id:="tuple.__rmul__") PySem.F.slot_tuple_rmul.lookup (by decide +kernel)]
 rfl
theorem JDW(a:Int)(t:Tok)(l:Addr)(items:Array Value)(n:Nat)(d:Option Addr)(sl:Array (Option Value)) :
  Meets (Builtin.«int.__rmul__» ⟨[.int a t,.ref l],[]⟩) (λ_ R s=>s.heap.get? l=some { cls:=.type "tuple",dict:=d,data:=.seq items n,slots:=sl }∧R (.ok (.ret Value.notImplemented)) s) :=
 .of_wp λprog w A R s h=>by obtain⟨hp,g,d,tk,os⟩:=s;obtain⟨hl,h⟩:=h;wp_walk;exact⟨_,rfl,h⟩
theorem JEM(l:Addr)(items:Array Value)(n:Nat)(d:Option Addr)(sl:Array (Option Value))(x:Int)(u:Tok)(h1:2≤x)(h2:x≤1000)(h3:items.size≤1000)(h4:items.isEmpty=false)(h5:(List.foldl (λx1 x2=>x1++x2) #[] (List.replicate x.toNat items)).size≤sizeLine) :
  Meets (Builtin.«tuple.__mul__» ⟨[.ref l,.int x u],[]⟩) (λ_ R s=>s.heap.get? l=some { cls:=.type "tuple",dict:=d,data:=.seq items n,slots:=sl }∧R (.ok (.ret (Value.ref s.heap.objs.size))) { s with heap:=s.heap.push { cls:=Value.type "tuple",data:=Data.seq (List.foldl (λx1 x2=>x1++x2) #[] (List.replicate x.toNat items)) },toks:=s.toks }) :=
 .of_wp λprog w A R s h=>by
  obtain⟨hp,g,d,tk,os⟩:=s;obtain⟨hl,h⟩:=h;have c1:(decide (x < -(2 ^ 63)) || decide (x ≥ 2 ^ 63))=false:=by simp;omega
  have c2:(items.isEmpty || x==1)=false:=by rw[h4];simp;omega
  have c3:(decide (x≤0) || items.isEmpty)=false:=by rw[h4];simp;omega
  have c4:((items.size:Int)*x)≤1000*1000:=Int.mul_le_mul (by omega) h2 (by omega) (by omega)
  have c5:¬((items.size:Int)*x > (2 ^ 63 - 1) / 8):=by omega
  have c6:Builtin.Tuple.tupleTooMany ((items.size:Int)*x)=false:=by
   unfold Builtin.Tuple.tupleTooMany;rw[sizeLine_eq];exact decide_eq_false (by omega)
  wp_walk
  rw[if_neg (by rw[c1];decide)]
  wp_walk
  rw[if_neg (by rw[c2];decide)]
  dsimp only
  rw[if_neg (by rw[c3];decide)]
  rw[if_neg c5];rw[if_neg (by rw[c6];decide)]
  unfold Builtin.Tuple.tupleExact;refine wpAny_bind (wpAny_newObj_type (wpAny_pure ⟨_,rfl,h⟩) h5)
noncomputable def rRepT(K:Kq):R2:=λx y H Q=>∃a k xs,x=.ref a∧y=.int k∧SqT K H a xs∧2≤k∧k≤1000∧xs.length≤1000∧xs≠[]∧∀p,H p=none→Q (.ref p) (upd H p (.tup (List.replicate k.toNat xs).flatten))
theorem JME:OpR X (binaryOp .Mult) (rRepT X.K):=by
 intro pins s σ H x y v u Q I rx ry h;obtain⟨a,k,xs,rfl,rfl,ha,h1,h2,h3,h4,q⟩:=h;cases rx;obtain⟨t,rfl⟩:=ry;obtain⟨its,r,⟨⟨cls,dd,data,sl⟩,ho,hc,n,hd⟩,_⟩:=I.tuple ha;simp only at hc hd;subst hc hd;have hl:=r.length;have he:its.toArray.isEmpty=false:=by
  cases its with
  |nil=>exact absurd (List.length_eq_zero_iff.mp (by simpa using hl)) h4
  |cons _ _=>rfl
 have ef:List.foldl (λx1 x2=>x1++x2) #[] (List.replicate k.toNat its.toArray)=(List.replicate k.toNat its).flatten.toArray:=by
  have:=listMul_foldl_if its.toArray k.toNat;rw[he]at this;simpa using this
 have hz:(List.replicate k.toNat its).flatten.length≤1000000:=by
  rw[len_rep];exact Nat.le_trans (Nat.mul_le_mul (show k.toNat≤1000 by omega) (show its.length≤1000 by omega)) (by decide)
 refine wpAny_binaryOp_repeat_ref (T:="tuple") (U:="int") (by decide) ⟨_,ho,rfl⟩ (λs'=>typeIs_int s' k t) JCo PySem.F.fills_int_mul PySem.F.slot_int_rmul JEY PySem.F.slot_int_index.lookup
  (call_meets PySem.F.slot_int_rmul (typeIs_int s k t) PySem.F.entry_int_rmul (PySem.F.args_int_rmul_2 _ _) (JDW k t a its.toArray n dd sl)
    ⟨ho,rfl,⟨_,ho,rfl⟩,call_meets PySem.F.slot_tuple_mul ⟨_,ho,rfl⟩ PySem.F.entry_tuple_mul (PySem.F.args_tuple_mul_2 _ _) (JEM a its.toArray n dd sl k t h1 h2 (by simp only[List.size_toArray];omega) he (by rw[ef,sizeLine_eq];simp only[List.size_toArray];omega)) ⟨ho,?_⟩⟩)
 rw[ef];refine⟨.ref s.heap.objs.size,upd H s.heap.objs.size (.tup (List.replicate k.toNat xs).flatten),I.laid (t':=s.toks) (λb u e=>Heap.get?_push_of_some _ e) (Nat.le_refl _) ?_,rfl,q _ I.fresh⟩;exact⟨by rw[(r.rep k.toNat).length,sizeLine_eq];omega,_,r.rep k.toNat,⟨_,Heap.get?_push_size _ rfl,rfl,_,rfl⟩⟩
theorem JEg(l b:Addr)(is js:Array Value)(n m:Nat)(sl:Array (Option Value))(h0:¬(!is.isEmpty&&Builtin.List.listTooLong (is.size+js.size))=true)(h1:is.size≤sizeLine)(h2:is.size+js.size≤sizeLine+1) :
  Meets (Builtin.«list.extend» ⟨[.ref l,.ref b],[]⟩) (λ_ R s=>s.heap.get? l=some ⟨.type "list",none,.seq is n,#[]⟩∧s.heap.get? b=some ⟨.type "list",none,.seq js m,sl⟩∧R (.ok (.ret Value.none)) { s with heap:=s.heap.update l (Obj.mapSeq λx=>x++js),toks:=s.toks }) :=
 .of_wp λprog w A R s h=>by
  obtain⟨hp,g,d,tk,os⟩:=s;obtain⟨hl,hb,h⟩:=h;have f1:=AutoSeq1.sub_list_list;have f2:=AutoSeq1.sub_list_tuple;have hz':(is++js).size≤sizeLine+1:=by rw[Array.size_append];exact h2
  wp_walk using(wpAny_updateSeq hl rfl (hz:=h1) (_hz':=hz')),AutoSeq1.wpAny_loadPart' hl,AutoSeq1.wpAny_loadPart' hb
  exact⟨_,rfl,h⟩
def rExtL(K:Kq):V→List V→Hp→VK→Prop:=λx vs H Q=>∃l b xs zs,x=.ref l∧vs=[.ref b]∧H l=some (.lst xs)∧SqL K H b zs∧xs.length+zs.length≤sizeLine∧Q .non (upd H l (.lst (xs++zs)))
theorem JMF:MtM X "list.extend" (rExtL X.K):=by
 intro pins s σ H x vs v us Q I rx rv h;obtain⟨l,b,xs,zs,rfl,rfl,hH,hB,hz,q⟩:=h;cases rx;obtain⟨u,rfl,ru⟩:=rv.one;cases ru;obtain⟨z,its,n,r,hl,e⟩:=I.lstM hH;obtain⟨its2,r2,⟨⟨cls,dd,data,sl⟩,m,ho,hc,hdd,hd⟩,_⟩:=I.list hB;simp only at hc hdd hd;subst hc hdd hd;have l2:=r2.length;have hsz:its.toArray.size+its2.toArray.size≤sizeLine:=by rw[List.size_toArray,List.size_toArray];omega
 have hlong:¬(!its.toArray.isEmpty&&Builtin.List.listTooLong (its.toArray.size+its2.toArray.size))=true:=by
  rw[JEO hsz,Bool.and_false];exact Bool.false_ne_true
 refine call_meets PySem.F.slot_list_extend ⟨_,e,rfl⟩ PySem.F.entry_list_extend (PySem.F.args_list_extend_2 _ _)
  (JEg l b its.toArray its2.toArray n m sl hlong (by rw[List.size_toArray];omega) (by omega)) ⟨e,ho,?_⟩
 refine⟨.non,_,I.lset (its':=its++its2) hH e (by simp) (r.append r2) ?_,rfl,q⟩
 rw[List.length_append];omega
end
section
variable{prog:Program}{w:World}{A:Around}{E:Value→Shared→Prop}{s:Shared}
theorem JCB{t sl:Addr}{items:Array Value}{vl vu:Value}{lo hi:Option Int}{Q:Value→Shared→Prop}(ht:IsTup s.heap t items)(hs:s.heap.IsSliceOf sl vl vu .none)(pl:IsPart vl lo)(pu:IsPart vu hi)
  (hw:HT.sIx items.size 0 lo=0∧HT.sIx items.size items.size hi=items.size) (h:Q (.ref t) s):wpAny (model prog w) A (getItem (.ref t) (.ref sl)) Q E s:=by
 obtain⟨os,hos,hcs,hds⟩:=id hs;have hTs:s.TypeIs (.ref sl) "slice":=⟨os,hos,hcs⟩;unfold getItem
 try with_reducible refine wpAny_holding ?_
 first|refine wpAny_bind (wpAny_pure ?_)|skip
 refine wpAny_bind (wpAny_sequenceKey ht.typeIs (by decide) ?_)
 refine wpAny_bind (wpAny_callSpecial?_slot (name:=Str.ofString "__getitem__") ht.typeIs PyProof.Rows.slot_tuple_getitem
  (wpAny_call_entry PyProof.Rows.slot_tuple_getitem ht.typeIs entry_tuple_getitem ?_ (args_tuple_getitem _ _)))
 show wpAny _ _ (Builtin.Tuple.tupleItemsOf (.ref t) >>= _) _ _ s;refine wpAny_bind (tupleItemsOf_ ht ?_);refine wpAny_bind (wpAny_typeOf hTs ?_);rw[if_pos (by decide)]
 refine wpAny_bind (HT.sliceApplied_gen hs pl pu ?_);have hyes:(((HT.sIx items.size 0 lo:Nat):Int)==0&&(1:Int)==1&&(HT.sIx items.size items.size hi - HT.sIx items.size 0 lo)==items.size)=true:=by
  rw[hw.1,hw.2];simp
 show wpAny _ _ (if (((HT.sIx items.size 0 lo:Nat):Int)==0&&(1:Int)==1&&(HT.sIx items.size items.size hi - HT.sIx items.size 0 lo)==items.size)=true then _ else _) _ _ s;rw[if_pos hyes];refine wpAny_bind ?_;unfold Builtin.Tuple.tupleIsExact;refine wpAny_bind (wpAny_typeOf ht.typeIs (wpAny_pure ?_));rw[if_pos (by decide)]
 refine wpAny_bind (wpAny_rule ?_);exact wpAny_pure ⟨_,rfl,wpAny_pure h⟩
end
section
variable{X:Cx}
def rSlW(K:Kq):V→Option Int→Option Int→Hp→VK→Prop:=λx lo hi H Q=>∃a xs,x=.ref a∧SqT K H a xs∧(HT.sIx xs.length 0 lo=0∧HT.sIx xs.length xs.length hi=xs.length)∧Q (.ref a) H
theorem JNy:SlR X (rSlW X.K):=by
 intro pins s σ H x v vl vu lo hi sl Q I rx hs pl pu h;obtain⟨a,xs,rfl,hx,hw,q⟩:=h;cases rx;obtain⟨its,r,ht,hz⟩:=I.tuple hx;have hlen:its.toArray.size=xs.length:=by rw[List.size_toArray];exact r.length.symm
 refine⟨"tuple",_,PyProof.Rows.slot_tuple_getitem.lookup,ht.typeIs,?_⟩;exact JCB ht hs pl pu (by rw[hlen];exact hw) ⟨.ref a,H,I,rfl,q⟩
end
end VI
end
section
namespace VI
open PySem PySem.Spec PyProof.Rows L2
abbrev St:=L2.St
structure Bs where
 K:Kq
 cl:Nat→Addr
 w:World
def ExcAt(a C:Addr)(h:Heap):Prop:=∃o,h.get? a=some o∧o.cls=.ref C
def SqDo(K:Kq)(w:World)(H:Hp)(a:Addr)(o:Obj)(xs:List (Key×V)):Prop :=
 H a=some (.frz o (.dK xs))∨∀(P:Program) (h:Heap),K.In h→(a==sysModules)=false∧h.get? a=some o∧∃vs,KV xs vs∧h.DictOf (JBO P w) a vs
def SqD(K:Kq)(w:World)(H:Hp)(a:Addr)(xs:List (Key×V)):Prop:=∃o,SqDo K w H a o xs
mutual
def Den(B:Bs)(H:Hp):D→V→Prop
 |.none,v=>v=.non
 |.bool b,v=>v=.bl b
 |.int i,v=>v=.int i
 |.str x,v=>v=.str x
 |.tuple ds,v=>∃a xs,v=.ref a∧SqT B.K H a xs∧DenL B H ds xs
 |.list ds,v=>∃a xs,v=.ref a∧SqL B.K H a xs∧DenL B H ds xs
 |.dict kvs,v=>(∃a c,v=.ref a∧kvs=[(.none,.int ((c:Nat):Int))]∧H a=some (.ext (ExcAt a (B.cl c))))∨∃a xs,v=.ref a∧SqD B.K B.w H a xs∧DenK B H kvs xs
def DenL(B:Bs)(H:Hp):List D→List V→Prop
 | [],vs=>vs=[]
 |d::ds,vs=>∃v r,vs=v::r∧Den B H d v∧DenL B H ds r
def DenK(B:Bs)(H:Hp):List (D×D)→List (Key×V)→Prop
 | [],vs=>vs=[]
 |(k,d)::ds,vs=>∃x v r,vs=(Sum.inr x,v)::r∧k=.str x∧Den B H d v∧DenK B H ds r
end
theorem JJ2{K:Kq}{H H':Hp}{a:Addr}{xs:List V}(e:Same H H')(h:SqT K H a xs):SqT K H' a xs:=by
 rcases h with (h|⟨o,h⟩)|h
 ·exact .inl (.inl (e _ _ h))
 ·exact .inl (.inr ⟨o,e _ _ h⟩)
 ·exact .inr h
theorem JPy{K:Kq}{w:World}{H H':Hp}{a:Addr}{o:Obj}{xs:List (Key×V)}(e:Same H H')(h:SqDo K w H a o xs):SqDo K w H' a o xs:=h.imp (λh=>e _ _ h) λh=>h
theorem sameD{K:Kq}{w:World}{H H':Hp}{a:Addr}{xs:List (Key×V)}(e:Same H H')(h:SqD K w H a xs):SqD K w H' a xs:=h.imp λ_ h=>JPy e h
mutual
theorem Den.mono{B:Bs}{H H':Hp}(s:Same H H'):∀(d:D) (v:V),Den B H d v→Den B H' d v
 |.none,_,h=>h
 |.bool _,_,h=>h
 |.int _,_,h=>h
 |.str _,_,h=>h
 |.tuple ds,v,h=>by
  simp only[Den]at h ⊢;obtain⟨a,xs,e,q,l⟩:=h;exact⟨a,xs,e,JJ2 s q,DenL.mono s ds xs l⟩
 |.list ds,v,h=>by
  simp only[Den]at h ⊢;obtain⟨a,xs,e,q,l⟩:=h;exact⟨a,xs,e,s.seq q,DenL.mono s ds xs l⟩
 |.dict kvs,v,h=>by
  simp only[Den]at h ⊢;rcases h with ⟨a,c,e,k,q⟩|⟨a,xs,e,q,l⟩
  ·exact .inl ⟨a,c,e,k,s _ _ q⟩
  ·exact .inr ⟨a,xs,e,sameD s q,DenK.mono s kvs xs l⟩
theorem DenL.mono{B:Bs}{H H':Hp}(s:Same H H'):∀(ds:List D) (vs:List V),DenL B H ds vs→DenL B H' ds vs
 | [],_,h=>h
 |d::ds,vs,h=>by
  simp only[DenL]at h ⊢;obtain⟨v,r,e,q,l⟩:=h;exact⟨v,r,e,Den.mono s d v q,DenL.mono s ds r l⟩
theorem DenK.mono{B:Bs}{H H':Hp}(s:Same H H'):∀(ds:List (D×D)) (vs:List (Key×V)),DenK B H ds vs→DenK B H' ds vs
 | [],_,h=>h
 |(k,d)::ds,vs,h=>by
  simp only[DenK]at h ⊢;obtain⟨x,v,r,e,e',q,l⟩:=h;exact⟨x,v,r,e,e',Den.mono s d v q,DenK.mono s ds r l⟩
end
theorem DenL.len{B:Bs}{H:Hp}:∀(ds:List D) (vs:List V),DenL B H ds vs→ds.length=vs.length
 | [],_,h=>by simp only[DenL]at h;subst h;rfl
 |d::ds,vs,h=>by
  simp only[DenL]at h;obtain⟨v,r,e,q,l⟩:=h;subst e;simp only[List.length_cons,DenL.len ds r l]
theorem DenL.get{B:Bs}{H:Hp}:∀(ds:List D) (vs:List V) (i:Nat) (d:D),DenL B H ds vs→ds[i]? = some d→∃v,vs[i]? = some v∧Den B H d v
 | [],_,_,_,_,e=>by simp at e
 |d::ds,vs,i,x,h,e=>by
  simp only[DenL]at h;obtain⟨v,r,e1,q,l⟩:=h;subst e1;cases i with
  |zero =>
   simp only[List.getElem?_cons_zero,Option.some.injEq]at e;subst e;exact⟨v,rfl,q⟩
  |succ i =>
   simp only[List.getElem?_cons_succ]at e;obtain⟨u,e2,q2⟩:=DenL.get ds r i x l e;exact⟨u,by simpa using e2,q2⟩
theorem DenL.append{B:Bs}{H:Hp}:∀(ds es:List D) (vs us:List V),DenL B H ds vs→DenL B H es us→DenL B H (ds++es) (vs++us)
 | [],es,_,us,h,h2=>by simp only[DenL]at h;subst h;exact h2
 |d::ds,es,vs,us,h,h2=>by
  simp only[DenL,List.cons_append]at h ⊢;obtain⟨v,r,e,q,l⟩:=h;subst e;exact⟨v,r++us,rfl,q,DenL.append ds es r us l h2⟩
mutual
theorem Den.reads{B:Bs}{X:Cx}{pins:Pq}{σ:St}{H:Hp}{s:Shared}(hK:X.K=B.K)(I:Inv X pins σ H s) :
  ∀(d:D) (v:V) (u:Value),d.canLay0=true→Den B H d v→RelV v u→∃as,Reads s.heap u d as
 |.none,v,u,_,h,r=>by simp only[Den]at h;subst h;cases r;exact⟨_,.none⟩
 |.bool b,v,u,_,h,r=>by simp only[Den]at h;subst h;cases r;exact⟨_,.bool b⟩
 |.int i,v,u,_,h,r=>by simp only[Den]at h;subst h;obtain⟨t,rfl⟩:=r;exact⟨_,.int i t⟩
 |.str x,v,u,_,h,r=>by simp only[Den]at h;subst h;obtain⟨t,rfl⟩:=r;exact⟨_,.str x t⟩
 |.tuple ds,v,u,c,h,r=>by
  simp only[Den]at h;obtain⟨a,xs,e,q,l⟩:=h;subst e;cases r;obtain⟨its,rv,⟨o,h1,h2,n,h3⟩,_⟩:=I.tuple (hK▸q);obtain⟨as,ra⟩:=DenL.reads hK I ds xs its (by simpa only[PyData.canLay0] using c) l rv
  exact⟨as,.tuple h1 h2 h3 (by simpa using ra)⟩
 |.list ds,v,u,c,h,r=>by
  simp only[Den]at h;obtain⟨a,xs,e,q,l⟩:=h;subst e;cases r;obtain⟨its,rv,⟨o,n,h1,h2,_,h3⟩,_⟩:=I.list (hK▸q);obtain⟨as,ra⟩:=DenL.reads hK I ds xs its (by simpa only[PyData.canLay0] using c) l rv
  exact⟨a::as,.list h1 h2 h3 (by simpa using ra)⟩
 |.dict kvs,v,u,c,h,r=>by simp only[PyData.canLay0]at c;cases c
theorem DenL.reads{B:Bs}{X:Cx}{pins:Pq}{σ:St}{H:Hp}{s:Shared}(hK:X.K=B.K)(I:Inv X pins σ H s) :
  ∀(ds:List D) (vs:List V) (us:List Value),PyData.canLayAll0 ds=true→DenL B H ds vs→Vals vs us→∃as,ReadsAll s.heap us ds as
 | [],vs,us,_,h,r=>by simp only[DenL]at h;subst h;cases r;exact⟨_,.nil⟩
 |d::ds,vs,us,c,h,r=>by
  simp only[DenL]at h;obtain⟨v,t,e,q,l⟩:=h;subst e;simp only[PyData.canLayAll0,Bool.and_eq_true]at c;cases r with
  |cons r1 r2 =>
   obtain⟨as,h1⟩:=Den.reads hK I d v _ c.1 q r1;obtain⟨bs,h2⟩:=DenL.reads hK I ds t _ c.2 l r2;exact⟨_,.cons h1 h2⟩
end
def KE(B:Bs)(XX:Nat→Hp→Prop)(r:R D)(H:Hp)(Q:VK):Prop:=match r with
 |.ok d=>∀v H',Same H H'→Den B H' d v→Q v H'
 |.exc c=>XX c H
 |.bad=>False
def KL(B:Bs)(XX:Nat→Hp→Prop)(r:R (List D))(H:Hp)(Q:List V→Hp→Prop):Prop:=match r with
 |.ok ds=>∀vs H',Same H H'→DenL B H' ds vs→Q vs H'
 |.exc c=>XX c H
 |.bad=>False
def KB(XX:Nat→Hp→Prop)(r:R Bool)(H:Hp)(Q:Bool→Hp→Prop):Prop:=match r with
 |.ok b=>∀H',Same H H'→Q b H'
 |.exc c=>XX c H
 |.bad=>False
def Sok(B:Bs)(σ:St)(H:Hp)(δ:Env):Prop:=∀i d,look δ i=.ok d→∃v,σ[i]? = some (some v)∧Den B H d v
theorem Sok.mono{B:Bs}{σ:St}{H H':Hp}{δ:Env}(h:Sok B σ H δ)(s:Same H H'):Sok B σ H' δ:=λi d e =>
 let ⟨v,e1,q⟩:=h i d e
 ⟨v,e1,Den.mono s d v q⟩
noncomputable def JBF(B:Bs)(n:Nat)(fn:List D→R D):Sp:=λvs H Q E=>vs.length=n∧∃ds,DenL B H ds vs∧(match fn ds with
 |.ok d=>∀v H',Same H H'→Den B H' d v→Q v H'
 |.exc c=>∀H',Same H H'→E (.ref (B.cl c)) none H'
 |.bad=>False)
noncomputable def EX(B:Bs)(XX:Nat→Hp→Prop):XK:=λu _ H=>∃c,u=.ref (B.cl c)∧XX c H
class Cool (G:List (Str×GK)):Prop where
 out:G.lookup (".hot":Str)=none
theorem JCz{G:List (Str×GK)}(h:¬(G.lookup (".hot":Str)).isSome=true):Cool G:=⟨by
 cases q:G.lookup (".hot":Str) with
 |none=>rfl
 |some k=>rw[q]at h;exact absurd rfl h⟩
section
variable{X:Cx}
theorem JG5:OpR X (binaryOp .Mult) (λx y H Q=>∃a n,x=.str a∧y=.int n∧MulOk a n∧Q (.str (Txt.mul a n)) H):=by
 rintro pins s σ H x y v u Q I rx ry ⟨a,n,rfl,rfl,ok,q⟩;obtain⟨t,rfl⟩:=rx;obtain⟨t2,rfl⟩:=ry;exact SB.mul ok λt' k=>⟨.str _,H,I.tok k,⟨t',rfl⟩,q⟩
theorem mulOk_of{a:Str}{n:Int}(h1:0≤n)(h2:n<1000)(h3:a.length≤1000):MulOk a n:=by
 refine⟨?_,λh _=>?_,λh _=>?_⟩
 ·rw[decide_eq_false (by omega),decide_eq_false (by omega)];rfl
 ·intro z;have hn:0<n:=by omega
  have:=(Int.le_ediv_iff_mul_le hn (a:=1000) (b:=2 ^ 63 - 1)).mpr (by omega)
  omega
 ·have:a.length*n.toNat≤1000*1000:=Nat.mul_le_mul h3 (by omega)
  unfold Builtin.Str.tooLong;exact decide_eq_false (by have:=sizeLine_eq;omega)
end
noncomputable def tkSp(B:Bs)(fn:List D→R D):Sp:=λvs H Q E=>∃l x,vs=[.ref l,.int 5]∧H l=some (.lst ((Txt.split x " ").map V.str))∧(match fn [.str x] with
 |.ok d=>∀v H',Same (λb=>if b=l then none else H b) H'→Den B H' d v→Q v H'
 |.exc c=>∀H',Same (λb=>if b=l then none else H b) H'→E (.ref (B.cl c)) none H'
 |.bad=>False)
def TkP(X:Cx)(B:Bs)(fn:List D→R D)(CX:CXT):Prop:=(∃t,X.mg "DEEPEST"=some (.int 5 t))∧(∀x,fn [.str x]≠.bad→x.length≤10000000)∧(∀ds,fn ds≠.bad→∃x,ds=[.str x])∧∃f fd ps k,X.mg "take_plan"=some (.ref f)∧PySem.W.keepIn X.K (.ref f)=true∧FnOk X.prog X.w X.K X.mg X.base CX k f fd ps (tkSp B fn)∧Room k X.A∧Binds X.K fd ps []
structure Gk(X:Cx)(B:Bs)(C:Cn)(CX:CXT)(XX:Nat→Hp→Prop)(G:List (Str×GK)):Prop where
 K:X.K=B.K
 W:X.w=B.w
 anti:∀c H H',Same H H'→XX c H→XX c H'
 units:X.A.units+200<cLine
 calm:Cool G→X.calm=true
 fn:∀x i,G.lookup x=some (.fn i)→∃f fd ps k,X.mg x=some (.ref f)∧PySem.W.keepIn X.K (.ref f)=true ∧
  FnOk X.prog X.w X.K X.mg X.base CX k f fd ps (JBF B ps.length (C.fn i))∧Room k X.A∧Binds X.K fd ps []∧∀ds,C.fn i ds≠.bad→ds.length=ps.length
 pas:JDo CX X (EX B XX)
 con:∀x i d,G.lookup x=some (.con i)→C.glo i=.ok d→∃u v,X.mg x=some u∧RelV v u∧∀H,Den B H d v
 noexg:∀i c,C.glo i≠.exc c
 blt:∀x b,G.lookup x=some (.blt b)→X.mg x=none
 rng:∀x,G.lookup x=some .rng→X.mg x=none
 isi:∀x,G.lookup x=some .isi→X.mg x=none
 ty:∀x t,G.lookup x=some (.ty t)→X.mg x=none
 cls:∀x c,G.lookup x=some (.cls c)→X.mg x=some (.ref (B.cl c))
 nam:∀x,G.lookup x=some .nam→X.mg x=none
 tk:G.lookup ("take_plan":Str)=some GK.opt→TkP X B (C.fn 900) CX
section
variable{X:Cx}{B:Bs}{C:Cn}{CX:CXT}{XX:Nat→Hp→Prop}{G:List (Str×GK)}
def RE(B:Bs)(C:Cn)(XX:Nat→Hp→Prop)(e:E):TE:=λσ H Q=>∃δ,Sok B σ H δ∧KE B XX (ev C e δ) H Q
def RT(B:Bs)(C:Cn)(XX:Nat→Hp→Prop)(e:E):TT:=λσ H Q=>∃δ,Sok B σ H δ∧KB XX (evT C e δ) H Q
def RA(B:Bs)(C:Cn)(XX:Nat→Hp→Prop)(e:E):TA:=λσ H Q=>∃δ,Sok B σ H δ∧KL B XX (evA C e δ) H Q
theorem PE.imp{e:Expr}{t t':TE}(h:PE X e t)(i:∀σ H Q,t' σ H Q→t σ H Q):PE X e t':=λpins s σ H Q I q=>h pins s σ H Q I (i σ H Q q)
theorem PT.imp{e:Expr}{t t':TT}(h:PT X e t)(i:∀σ H Q,t' σ H Q→t σ H Q):PT X e t':=λpins s σ H Q I q=>h pins s σ H Q I (i σ H Q q)
theorem PA.imp{e:List Expr}{t t':TA}(h:PA X e t)(i:∀σ H Q,t' σ H Q→t σ H Q):PA X e t':=λpos pins s σ H Q I q=>h pos pins s σ H Q I (i σ H Q q)
theorem RE.of{e:E}{δ:Env}{σ:St}{H:Hp}{Q:VK}{α:Type}{f:D→R α}{W:R α→Hp→Prop}(ok:Sok B σ H δ)
  (hx:∀c H,W (.exc c) H→XX c H) (hb:∀H,W .bad H→False) (h:W ((ev C e δ).bind f) H)
  (go:∀d v H1,Same H H1→Den B H1 d v→W (f d) H→Q v H1):RE B C XX e σ H Q:=by
 refine⟨δ,ok,?_⟩;cases q:ev C e δ with
 |ok d =>
  rw[q]at h;exact λv H1 s1 d1=>go d v H1 s1 d1 h
 |exc c =>
  rw[q]at h;exact hx c H h
 |bad =>
  rw[q]at h;exact(hb H h).elim
theorem RT.of{e:E}{δ:Env}{σ:St}{H:Hp}{Q:Bool→Hp→Prop}{α:Type}{f:Bool→R α}{W:R α→Hp→Prop}(ok:Sok B σ H δ)
  (hx:∀c H,W (.exc c) H→XX c H) (hb:∀H,W .bad H→False) (h:W ((evT C e δ).bind f) H)
  (go:∀b H1,Same H H1→W (f b) H→Q b H1):RT B C XX e σ H Q:=by
 refine⟨δ,ok,?_⟩;cases q:evT C e δ with
 |ok d =>
  rw[q]at h;exact λH1 s1=>go d H1 s1 h
 |exc c =>
  rw[q]at h;exact hx c H h
 |bad =>
  rw[q]at h;exact(hb H h).elim
theorem RA.of{e:E}{δ:Env}{σ:St}{H:Hp}{Q:List V→Hp→Prop}{α:Type}{f:List D→R α}{W:R α→Hp→Prop}(ok:Sok B σ H δ)
  (hx:∀c H,W (.exc c) H→XX c H) (hb:∀H,W .bad H→False) (h:W ((evA C e δ).bind f) H)
  (go:∀ds vs H1,Same H H1→DenL B H1 ds vs→W (f ds) H→Q vs H1):RA B C XX e σ H Q:=by
 refine⟨δ,ok,?_⟩;cases q:evA C e δ with
 |ok d =>
  rw[q]at h;exact λv H1 s1 d1=>go d v H1 s1 d1 h
 |exc c =>
  rw[q]at h;exact hx c H h
 |bad =>
  rw[q]at h;exact(hb H h).elim
theorem KE.mono(g:Gk X B C CX XX G){r:R D}{H H':Hp}{Q:VK}(s:Same H H')(h:KE B XX r H Q):KE B XX r H' Q:=by
 cases r with
 |ok d=>exact λv H2 s2 d2=>h v H2 (s.trans s2) d2
 |exc c=>exact g.anti c H H' s h
 |bad=>exact h
theorem KB.mono(g:Gk X B C CX XX G){r:R Bool}{H H':Hp}{Q:Bool→Hp→Prop}(s:Same H H')(h:KB XX r H Q):KB XX r H' Q:=by
 cases r with
 |ok d=>exact λH2 s2=>h H2 (s.trans s2)
 |exc c=>exact g.anti c H H' s h
 |bad=>exact h
theorem KL.mono(g:Gk X B C CX XX G){r:R (List D)}{H H':Hp}{Q:List V→Hp→Prop}(s:Same H H')(h:KL B XX r H Q):KL B XX r H' Q:=by
 cases r with
 |ok d=>exact λv H2 s2 d2=>h v H2 (s.trans s2) d2
 |exc c=>exact g.anti c H H' s h
 |bad=>exact h
theorem KE.ok{d:D}{v:V}{H:Hp}{Q:VK}(h:KE B XX (.ok d) H Q)(q:Den B H d v):Q v H:=h v H (Same.refl H) q
theorem two(g:Gk X B C CX XX G){a b:E}{σ:St}{H:Hp}{Q:VK}{f:D→D→R D}{r:R2}
  (hr:∀x y H dx dy,Den B H dx x→Den B H dy y→KE B XX (f dx dy) H Q→r x y H Q) :
  (∃δ,Sok B σ H δ∧KE B XX ((ev C a δ).bind λx=>(ev C b δ).bind λy=>f x y) H Q)→tOp r (RE B C XX a) (RE B C XX b) σ H Q:=by
 rintro⟨δ,ok,h⟩;refine RE.of (W:=λr H=>KE B XX r H Q) ok (λ_ _ z=>z) (λ_ z=>z) h λdx x H1 s1 d1 h1=>?_;refine RE.of (W:=λr H=>KE B XX r H Q) (ok.mono s1) (λ_ _ z=>z) (λ_ z=>z) (KE.mono g s1 h1) λdy y H2 s2 d2 h2=>?_;exact hr x y H2 dx dy (Den.mono s2 dx x d1) d2 (KE.mono g s2 h2)
theorem DenL.repN{H:Hp}{ds:List D}{vs:List V}(h:DenL B H ds vs):∀k:Nat,DenL B H (List.replicate k ds).flatten (List.replicate k vs).flatten
 |0=>by simp only[List.replicate_zero,List.flatten_nil,DenL]
 |k+1=>by
  simp only[List.replicate_succ,List.flatten_cons];exact DenL.append _ _ _ _ h (DenL.repN h k)
theorem binOk(g:Gk X B C CX XX G)(op:Operator):OpR X (binaryOp op) (λx y H Q=>∃dx dy,Den B H dx x∧Den B H dy y∧KE B XX (binD op dx dy) H Q):=by
 intro pins s σ H x y v u Q I rx ry ⟨dx,dy,hx,hy,k⟩;cases dx<;>cases dy<;>first
  |(exfalso;cases op<;>exact k)
  |skip
 case str.str xs ys =>
  cases op<;>first
   |exact fF k
   |skip
  simp only[binD]at k
  split at k
  ·rename_i hz;simp only[Den]at hx hy;subst hx;subst hy;exact JHE pins s σ H _ _ v u Q I rx ry ⟨xs,ys,rfl,rfl,by rw[sizeLine_eq];exact hz,KE.ok k (by simp only[Den])⟩
  ·exact k.elim
 case str.int xs j =>
  cases op<;>first
   |exact fF k
   |skip
  simp only[binD]at k
  split at k
  ·rename_i hz;simp only[Den]at hx hy;subst hx;subst hy;exact JG5 pins s σ H _ _ v u Q I rx ry ⟨xs,j,rfl,rfl,mulOk_of hz.1 hz.2.1 hz.2.2,KE.ok k (by simp only[Den])⟩
  ·exact k.elim
 case list.list xs ys =>
  cases op<;>first
   |exact fF k
   |skip
  simp only[binD]at k
  split at k
  ·rename_i hz;simp only[Den]at hx hy;obtain⟨a,us,e1,q1,l1⟩:=hx;obtain⟨c,ws,e2,q2,l2⟩:=hy;subst e1;subst e2;have n1:=DenL.len _ _ l1;have n2:=DenL.len _ _ l2;refine JNn pins s σ H _ _ v u Q I rx ry ⟨a,c,us,ws,rfl,rfl,g.K▸q1,g.K▸q2,by rw[sizeLine_eq];omega,λp hp=>?_⟩
   have sm:Same H (upd H p (.lst (us++ws))):=λb o e=>by rw[JAI (JAY e hp)];exact e
   refine k _ _ sm ?_;simp only[Den];exact⟨p,_,rfl,SqL.of JAK,DenL.append _ _ _ _ (DenL.mono sm _ _ l1) (DenL.mono sm _ _ l2)⟩
  ·exact k.elim
 case list.int xs j =>
  cases op<;>first
   |exact fF k
   |skip
  simp only[binD]at k
  split at k
  ·rename_i hz;simp only[Den]at hx hy;obtain⟨a,us,e1,q1,l1⟩:=hx;subst e1;subst hy;have n1:=DenL.len _ _ l1;refine JMP pins s σ H _ _ v u Q I rx ry ⟨a,j,us,rfl,rfl,g.K▸q1,by omega,by omega,by rw[sizeLine_eq,←n1];exact hz.2.2,λp hp=>?_⟩
   have sm:Same H (upd H p (.lst (List.replicate j.toNat us).flatten)):=λb o e=>by rw[JAI (JAY e hp)];exact e
   refine k _ _ sm ?_;simp only[Den];exact⟨p,_,rfl,SqL.of JAK,DenL.repN (DenL.mono sm _ _ l1) _⟩
  ·exact k.elim
 case tuple.int xs j =>
  cases op<;>first
   |exact fF k
   |skip
  simp only[binD]at k
  split at k
  ·rename_i hz;simp only[Den]at hx hy;obtain⟨a,us,e1,q1,l1⟩:=hx;subst e1;subst hy;have n1:=DenL.len _ _ l1;refine JME pins s σ H _ _ v u Q I rx ry ⟨a,j,us,rfl,rfl,g.K▸q1,hz.1,hz.2.1,by omega,λz=>hz.2.2.2 (by rw[z]at n1;exact List.length_eq_zero_iff.mp n1),λp hp=>?_⟩
   have sm:Same H (upd H p (.tup (List.replicate j.toNat us).flatten)):=λb o e=>by rw[JAI (JAY e hp)];exact e
   refine k _ _ sm ?_;simp only[Den];exact⟨p,_,rfl,SqT.of JAK,DenL.repN (DenL.mono sm _ _ l1) _⟩
  ·exact k.elim
 case tuple.tuple xs ys =>
  cases op<;>first
   |exact fF k
   |skip
  simp only[binD]at k
  split at k
  ·rename_i hz;simp only[Den]at hx hy;obtain⟨a,us,e1,q1,l1⟩:=hx;obtain⟨c,ws,e2,q2,l2⟩:=hy;subst e1;subst e2;have n1:=DenL.len _ _ l1;have n2:=DenL.len _ _ l2;refine JJa pins s σ H _ _ v u Q I rx ry ⟨a,c,us,ws,rfl,rfl,g.K▸q1,g.K▸q2,by rw[sizeLine_eq];omega,λh=>?_,λh h2=>?_,λh h2 p hp=>?_⟩
   · have:xs=[]:=by rw[h]at n1;exact List.eq_nil_of_length_eq_zero n1
     subst this;refine k _ _ (Same.refl H) ?_;simp only[Den,List.nil_append];exact⟨c,ws,rfl,q2,l2⟩
   · have:ys=[]:=by rw[h2]at n2;exact List.eq_nil_of_length_eq_zero n2
     subst this;refine k _ _ (Same.refl H) ?_;simp only[Den,List.append_nil];exact⟨a,us,rfl,q1,l1⟩
   · have sm:Same H (upd H p (.tup (us++ws))):=λb o e=>by rw[JAI (JAY e hp)];exact e
     refine k _ _ sm ?_;simp only[Den];exact⟨p,_,rfl,SqT.of JAK,DenL.append _ _ _ _ (DenL.mono sm _ _ l1) (DenL.mono sm _ _ l2)⟩
  ·exact k.elim
 rename_i i j;simp only[Den]at hx hy;subst hx;subst hy;cases op<;>first
  |exact fF k
  |skip
 ·exact JPA pins s σ H _ _ v u Q I rx ry ⟨i,j,rfl,rfl,KE.ok k (by simp only[Den])⟩
 ·exact JKx pins s σ H _ _ v u Q I rx ry ⟨i,j,rfl,rfl,KE.ok k (by simp only[Den])⟩
 ·simp only[binD]at k
  split at k
  ·rename_i hm;obtain⟨t,rfl⟩:=rx;obtain⟨t',rfl⟩:=ry;exact mul_int ⟨.int _,H,I.tok _,⟨_,rfl⟩,KE.ok k (by simp only[Den])⟩ hm
  ·exact k.elim
 ·simp only[binD]at k
  split at k
  ·rename_i hm;exact JNL pins s σ H _ _ v u Q I rx ry ⟨i,j,rfl,rfl,hm,KE.ok k (by simp only[Den])⟩
  ·exact k.elim
 ·simp only[binD]at k
  split at k
  ·rename_i hm;obtain⟨t,rfl⟩:=rx;obtain⟨t',rfl⟩:=ry;exact floordiv_int hm.1 ⟨.int _,H,I.tok _,⟨_,rfl⟩,KE.ok k (by simp only[Den])⟩ (.inl hm.2)
  ·exact k.elim
theorem JIS(g:Gk X B C CX XX G):X.A.units+64<cLine:=by have:=g.units;omega
theorem JP9(g:Gk X B C CX XX G)(op:CmpOp):OpR X (compareOp op) (λx y H Q=>∃dx dy,Den B H dx x∧Den B H dy y∧KE B XX (cmpD op dx dy) H Q):=by
 intro pins s σ H x y v u Q I rx ry ⟨dx,dy,hx,hy,k⟩;cases op with
 |Eq =>
  simp only[cmpD]at k
  split at k
  ·rename_i hs;simp only[Bool.and_eq_true]at hs;have c1:dx.canLay0=true:=(Bool.and_eq_true_iff.mp hs.1).1;have c2:dy.canLay0=true:=(Bool.and_eq_true_iff.mp hs.2).1;obtain⟨as,ra⟩:=Den.reads g.K I dx x v c1 hx rx;obtain⟨bs,rb⟩:=Den.reads g.K I dy y u c2 hy ry;exact SeqAt.compareEq_shaped ra rb hs.1 hs.2 (JIS g) ⟨.bl _,H,I,rfl,KE.ok k (by simp only[Den])⟩
  ·exact k.elim
 |NotEq =>
  simp only[cmpD]at k
  split at k
  ·rename_i hs;simp only[Bool.and_eq_true]at hs;have c1:dx.canLay0=true:=(Bool.and_eq_true_iff.mp hs.1).1;have c2:dy.canLay0=true:=(Bool.and_eq_true_iff.mp hs.2).1;obtain⟨as,ra⟩:=Den.reads g.K I dx x v c1 hx rx;obtain⟨bs,rb⟩:=Den.reads g.K I dy y u c2 hy ry;exact SeqAt.compareNe_shaped ra rb hs.1 hs.2 (JIS g) ⟨.bl _,H,I,rfl,KE.ok k (by simp only[Den])⟩
  ·exact k.elim
 |Lt =>
  cases dx<;>cases dy<;>first|exact fF k|skip
  rename_i i j;simp only[Den]at hx hy;subst hx;subst hy;exact op_lt pins s σ H _ _ v u Q I rx ry ⟨i,j,rfl,rfl,KE.ok k (by simp only[Den])⟩
 |LtE =>
  cases dx<;>cases dy<;>first|exact fF k|skip
  rename_i i j;simp only[Den]at hx hy;subst hx;subst hy;exact op_le pins s σ H _ _ v u Q I rx ry ⟨i,j,rfl,rfl,KE.ok k (by simp only[Den])⟩
 |Gt =>
  cases dx<;>cases dy<;>first|exact fF k|skip
  rename_i i j;simp only[Den]at hx hy;subst hx;subst hy;exact op_gt pins s σ H _ _ v u Q I rx ry ⟨i,j,rfl,rfl,KE.ok k (by simp only[Den])⟩
 |GtE =>
  cases dx<;>cases dy<;>first|exact fF k|skip
  rename_i i j;simp only[Den]at hx hy;subst hx;subst hy;exact op_ge pins s σ H _ _ v u Q I rx ry ⟨i,j,rfl,rfl,KE.ok k (by simp only[Den])⟩
 |Is=>exact fF k
 |IsNot=>exact fF k
 |In =>
  cases dy with
  |list ds =>
   simp only[cmpD]at k
   split at k
   ·rename_i hs;simp only[JB5,Bool.and_eq_true,decide_eq_true_eq]at hs;obtain⟨as,ra⟩:=Den.reads g.K I dx x v hs.1.2 hx rx;obtain⟨bs,rb⟩:=Den.reads g.K I (.list ds) y u (by simpa only[PyData.canLay0] using hs.1.1) hy ry
    have hu:=g.units;refine SeqAt.in_list_reads rb ra hs.1.1 hs.1.2 ?_ ⟨.bl _,H,I,rfl,KE.ok k (by simp only[Den])⟩
    have:=Nat.min_le_right (PyData.depthAll ds) dx.depth;omega
   ·exact k.elim
  |tuple ds =>
   simp only[cmpD]at k
   split at k
   ·rename_i hs;simp only[JB5,Bool.and_eq_true,decide_eq_true_eq]at hs;obtain⟨as,ra⟩:=Den.reads g.K I dx x v hs.1.2 hx rx;obtain⟨bs,rb⟩:=Den.reads g.K I (.tuple ds) y u (by simpa only[PyData.canLay0] using hs.1.1) hy ry
    have hu:=g.units;refine SeqAt.in_tuple_reads rb ra hs.1.1 hs.1.2 ?_ ⟨.bl _,H,I,rfl,KE.ok k (by simp only[Den])⟩
    have:=Nat.min_le_right (PyData.depthAll ds) dx.depth;omega
   ·exact k.elim
  |str j =>
   cases dx<;>first|exact fF k|skip
   simp only[Den]at hx hy;subst hx;subst hy;exact JIY pins s σ H _ _ v u Q I rx ry ⟨_,_,rfl,rfl,KE.ok k (by simp only[Den])⟩
  |_=>exact fF k
 |NotIn =>
  cases dy with
  |list ds =>
   simp only[cmpD]at k
   split at k
   ·rename_i hs;simp only[JB5,Bool.and_eq_true,decide_eq_true_eq]at hs;obtain⟨as,ra⟩:=Den.reads g.K I dx x v hs.1.2 hx rx;obtain⟨bs,rb⟩:=Den.reads g.K I (.list ds) y u (by simpa only[PyData.canLay0] using hs.1.1) hy ry
    have hu:=g.units;refine SeqAt.notIn_list_reads rb ra hs.1.1 hs.1.2 ?_ ⟨.bl _,H,I,rfl,KE.ok k (by simp only[Den])⟩
    have:=Nat.min_le_right (PyData.depthAll ds) dx.depth;omega
   ·exact k.elim
  |tuple ds =>
   simp only[cmpD]at k
   split at k
   ·rename_i hs;simp only[JB5,Bool.and_eq_true,decide_eq_true_eq]at hs;obtain⟨as,ra⟩:=Den.reads g.K I dx x v hs.1.2 hx rx;obtain⟨bs,rb⟩:=Den.reads g.K I (.tuple ds) y u (by simpa only[PyData.canLay0] using hs.1.1) hy ry
    have hu:=g.units;refine SeqAt.notIn_tuple_reads rb ra hs.1.1 hs.1.2 ?_ ⟨.bl _,H,I,rfl,KE.ok k (by simp only[Den])⟩
    have:=Nat.min_le_right (PyData.depthAll ds) dx.depth;omega
   ·exact k.elim
  |_=>exact fF k
end
def NewT(B:Bs)(H H2 H3:Hp)(d:D)(x:V):Prop:=∃p xs es,H2 p=none∧H3=upd H2 p (.tup xs)∧x=.ref p∧d=.tuple es∧DenL B H es xs
def ItOk(B:Bs)(J:It)(H:Hp)(ds:List D):Prop:=∀H2,Same H H2→∀i:Nat,
 (∀d,ds[i]? = some d→J.go i H2∧∀x H3,J.yld i H2 x H3→(H3=H2∧Den B H d x)∨NewT B H H2 H3 d x)∧(ds.length≤i→J.stop i H2)
def KI(B:Bs)(XX:Nat→Hp→Prop)(r:R (List D))(H:Hp)(Q:It→Hp→Prop):Prop:=match r with
 |.ok ds=>∀J H',Same H H'→ItOk B J H' ds→Q J H'
 |.exc c=>XX c H
 |.bad=>False
def RI(B:Bs)(C:Cn)(XX:Nat→Hp→Prop)(e:E):TI:=λσ H Q=>∃δ,Sok B σ H δ∧KI B XX (evI C e δ) H Q
theorem JKg{δ:Env}{i c:Nat}:look δ i≠.exc c:=by
 unfold look;cases δ[i]? with
 |none=>intro h;cases h
 |some s=>cases s with
  |own d=>cases d<;>(intro h;cases h)
  |_=>intro h;cases h
theorem JC2:∀ {N:List Str}{x:Str}{i:Nat},idxOf x N=some i→N[i]? = some x
 | [],x,i,h=>by simp[idxOf]at h
 |y::r,x,i,h=>by
  unfold idxOf at h
  split at h
  ·rename_i hy;cases h;have:x=y:=eq_of_beq hy;subst this;rfl
  ·cases q:idxOf x r with
   |none=>rw[q]at h;cases h
   |some j =>
    rw[q]at h;simp only[Option.map_some,Option.some.injEq]at h;subst h;simpa using JC2 q
theorem JBH{H:Hp}{p:Addr}{o:HO}(h:H p=none):Same H (upd H p o):=λb u e=>by rw[JAI (JAY e h)];exact e
theorem JAV{G:List (Str×GK)}{n:Nat}{it:Bool}{names:Nq}{N:List Str}{e:Expr}{x:E}(h:JAN G n it names N e=some x)(es:List Expr)(env:PySem.Env) :
  starEach (e::es) env=(false,eval e env)::starEach es env:=by
 cases n with
 |zero=>simp[JAN,JAX,JAO]at h
 |succ n=>cases e<;>first|rfl|(cases it<;>simp[JAN,JAX,JAO,xOf,tOf,tRaw,dOf,dRaw,Option.bind_none,ite_self,xRaw]at h)
theorem JBz{G:List (Str×GK)}{n:Nat}{it:Bool}{names:Nq}{N:List Str}{pos:Pos}{env:PySem.Env}:∀ {es:List Expr}{x:E},JAH (JAN G n it names N) es=some x →
  (backTo pos (starEach es env)).any (·.1)=false
 | [],_,_=>rfl
 |e::es,x,h=>by
  unfold JAH at h;cases h1:JAN G n it names N e with
  |none=>rw[h1]at h;cases h
  |some a =>
    rw[h1]at h;cases h2:JAH (JAN G n it names N) es with
    |none=>simp[h2]at h
    |some b =>
     rw[JAV h1 es env];show(false || (backTo pos (starEach es env)).any (·.1))=false
     rw[JBz h2];rfl
theorem JMM{b:Expr}(h:isSlice b=false):JH3 b:=by
 intro o i;cases b<;>first|rfl|cases h
theorem JAF{x:Str}(h:JAQ x=false):(x==("__debug__":Str))=false∧(x==("__classdict__":Str))=false∧x≠"__name__":=by
 unfold JAQ at h;simp only[Bool.or_eq_false_iff]at h;exact⟨h.1.1,h.1.2,λe=>by have:=h.2;rw[e]at this;simp at this⟩
noncomputable def cnt:E→Nat
 |.cons _ r=>cnt r+1
 |_=>0
theorem JCU{C:Cn}:∀(e:E) (δ:Env) (ds:List D),evA C e δ=.ok ds→ds.length=cnt e
 |.nil,δ,ds,h=>by simp only[evA]at h;cases h;rfl
 |.cons a r,δ,ds,h=>by
  simp only[evA]at h;cases q:ev C a δ with
  |ok d =>
   cases q2:evA C r δ with
   |ok es =>
    rw[q,q2]at h;cases h;simp only[List.length_cons,cnt,JCU r δ es q2]
   |exc c=>rw[q,q2]at h;cases h
   |bad=>rw[q,q2]at h;cases h
  |exc c=>rw[q]at h;cases h
  |bad=>rw[q]at h;cases h
 |.var _,_,_,h|.cint _,_,_,h|.cbl _,_,_,h|.cnon,_,_,h|.cstr _,_,_,h|.glo _,_,_,h|.bin _ _ _,_,_,h|.neg _,_,_,h|.not _,_,_,h|.and _ _,_,_,h|.or _ _,_,_,h|.cmp _ _ _,_,_,h
 |.isN _ _,_,_,h|.isB _ _,_,_,h|.ife _ _ _,_,_,h|.tup _,_,_,h|.lst _,_,_,h|.idx _ _,_,_,h|.call _ _,_,_,h|.blt _ _,_,_,h|.rng _,_,_,h|.isi _ _,_,_,h|.mcount _ _,_,_,h|.mindex _ _,_,_,h|.mget _ _ _,_,_,h|.cmpr _ _ _ _,_,_,h=>by simp only[evA]at h;cases h
theorem JAT{f:Expr→Option E}:∀ {es:List Expr}{x:E},JAH f es=some x→cnt x=es.length
 | [],x,h=>by unfold JAH at h;cases h;rfl
 |e::es,x,h=>by
  unfold JAH at h;cases h1:f e with
  |none=>rw[h1]at h;cases h
  |some a =>
   cases h2:JAH f es with
   |none=>simp[h1,h2]at h
   |some b =>
    simp only[h1,h2,Option.bind_some,Option.some.injEq]at h;subst h;simp only[cnt,List.length_cons,JAT h2]
section
variable{X:Cx}{B:Bs}{C:Cn}{CX:CXT}{XX:Nat→Hp→Prop}{G:List (Str×GK)}{a b c:Expr}{x y z:E}{pos:Pos}
theorem s_bad{e:Expr}{x:E}(h:∀δ,ev C x δ=.bad):PE X e (RE B C XX x):=λ_ _ _ _ _ _ ⟨δ,_,k⟩=>by rw[h δ]at k;exact k.elim
theorem JQB{e:Expr}{x:E}(h:∀δ,evT C x δ=.bad):PT X e (RT B C XX x):=λ_ _ _ _ _ _ ⟨δ,_,k⟩=>by rw[h δ]at k;exact k.elim
theorem s_var{i:Nat}{nm:Str}(hN:X.N[i]? = some nm)(hv:Vis X.env.scope nm)(hb:JAQ nm=false):PE X (.Name nm pos) (RE B C XX (.var i)) :=
 PE.imp (JAh hN hv (JAF hb).1 (JAF hb).2.1) λσ H Q ⟨δ,ok,k⟩=>by
  simp only[ev]at k;cases q:look δ i with
  |ok d =>
   obtain⟨v,e,dn⟩:=ok i d q;rw[q]at k;exact⟨v,e,KE.ok k dn⟩
  |exc c=>exact(JKg q).elim
  |bad=>rw[q]at k;exact k.elim
theorem s_int{i:Int}{j:Nat}:PE X (.Constant (.int i) j pos) (RE B C XX (.cint i)):=PE.imp JCH λσ H Q ⟨δ,ok,k⟩=>KE.ok k (by simp only[Den])
theorem s_bl{i:Bool}{j:Nat}:PE X (.Constant (.bool i) j pos) (RE B C XX (.cbl i)):=PE.imp JIX λσ H Q ⟨δ,ok,k⟩=>KE.ok k (by simp only[Den])
theorem s_non{j:Nat}:PE X (.Constant .none j pos) (RE B C XX .cnon):=PE.imp JQ1 λσ H Q ⟨δ,ok,k⟩=>KE.ok k (by simp only[Den])
theorem s_str{i:Str}{j:Nat}:PE X (.Constant (.str i) j pos) (RE B C XX (.cstr i)):=PE.imp JCg λσ H Q ⟨δ,ok,k⟩=>KE.ok k (by simp only[Den])
theorem s_glo(g:Gk X B C CX XX G){i:Nat}{nm:Str}(hg:Gl X nm)(hl:G.lookup nm=some (.con i))(hb:JAQ nm=false):PE X (.Name nm pos) (RE B C XX (.glo i)):=by
 cases q:C.glo i with
 |ok d =>
  obtain⟨u,v,hm,r,dn⟩:=g.con nm i d hl q;exact PE.imp (JFr hg hm r (JAF hb).1) λσ H Q ⟨δ,ok,k⟩=>by
   simp only[ev]at k;rw[q]at k;exact KE.ok k (dn H)
 |exc c=>exact(g.noexg i c q).elim
 |bad=>exact s_bad λδ=>by simp only[ev];exact q
theorem JQZ(g:Gk X B C CX XX G){op:Operator}(ha:PE X a (RE B C XX x))(hb:PE X b (RE B C XX y)):PE X (.BinOp a op b pos) (RE B C XX (.bin op x y)) :=
 PE.imp (JNZ (binOk g op) ha hb) λσ H Q ⟨δ,ok,k⟩=>two g (f:=binD op) (λx y H dx dy h1 h2 k=>⟨dx,dy,h1,h2,k⟩) ⟨δ,ok,by simpa only[ev] using k⟩
theorem JAv(g:Gk X B C CX XX G){op:CmpOp}(ha:PE X a (RE B C XX x))(hb:PE X b (RE B C XX y))(hm:behindInMarks op b=false):PE X (.Compare a [op] [b] pos) (RE B C XX (.cmp op x y)) :=
 PE.imp (JFz (JP9 g op) ha hb hm) λσ H Q ⟨δ,ok,k⟩=>two g (f:=cmpD op) (λx y H dx dy h1 h2 k=>⟨dx,dy,h1,h2,k⟩) ⟨δ,ok,by simpa only[ev] using k⟩
theorem s_neg(g:Gk X B C CX XX G)(ha:PE X a (RE B C XX x)):PE X (.UnaryOp .USub a pos) (RE B C XX (.neg x)) :=
 PE.imp (JOC JLe ha) λσ H Q ⟨δ,ok,k⟩=>by
  simp only[ev]at k;refine RE.of (W:=λr H=>KE B XX r H Q) ok (λ_ _ z=>z) (λ_ z=>z) k λd v H1 s1 d1 h1=>?_;have h2:=KE.mono g s1 h1;cases d<;>first|exact fF h2|skip
  rename_i i;simp only[Den]at d1;exact⟨i,d1,KE.ok h2 (by simp only[Den])⟩
theorem truV{K:Kq}(hK:K=B.K){d:D}{v:V}{H:Hp}{k:Bool}(h:Den B H d v)(t:truth d=.ok k):TruV K v H k:=by
 subst hK;cases d with
 |none=>simp only[Den]at h;subst h;simp only[truth]at t;cases t;rfl
 |bool b=>simp only[Den]at h;subst h;simp only[truth]at t;cases t;rfl
 |int i=>simp only[Den]at h;subst h;simp only[truth]at t;cases t;rfl
 |str s =>
  simp only[Den]at h;subst h;simp only[truth]at t
  split at t
  ·rename_i hl;cases t;exact⟨by rw[sizeLine_eq];exact hl,rfl⟩
  ·cases t
 |list ds =>
  simp only[Den]at h;obtain⟨p,xs,e,q,l⟩:=h;subst e;simp only[truth]at t;cases t;refine .inl ⟨xs,q,?_⟩;have:=DenL.len ds xs l;cases ds<;>cases xs<;>simp_all
 |tuple ds =>
  simp only[Den]at h;obtain⟨p,xs,e,q,l⟩:=h;subst e;simp only[truth]at t;cases t;refine .inr (.inl ⟨xs,q,?_⟩);have:=DenL.len ds xs l;cases ds<;>cases xs<;>simp_all
 |dict kvs=>simp only[truth]at t;cases t
theorem JEZ{d:D}{c:Nat}:truth d≠.exc c:=by
 cases d<;>simp only[truth]<;>(try split)<;>(intro h;cases h)
theorem s_not(g:Gk X B C CX XX G)(ha:PE X a (RE B C XX x)):PE X (.UnaryOp .Not a pos) (RE B C XX (.not x)):=by
 intro pins s σ H Q I ⟨δ,ok,k⟩;refine UnaryOp_ (thn (ha pins s σ H (λv H1=>∃t,TruV X.K v H1 t∧Q (.bl (!t)) H1) I ?_) λv s1 ⟨w,H1,I1,r1,t,tv,q⟩=>?_)
 ·refine⟨δ,ok,?_⟩;simp only[ev]at k;cases q:ev C x δ with
  |ok d =>
   rw[q]at k;cases q2:truth d with
   |ok t =>
    simp only[R.bind,q2]at k;exact λv H1 s1 d1=>⟨t,truV g.K d1 q2,k _ H1 s1 (by simp only[Den])⟩
   |exc c=>exact(JEZ q2).elim
   |bad=>simp only[R.bind,q2]at k;exact k.elim
  |exc c=>rw[q]at k;exact k
  |bad=>rw[q]at k;exact k.elim
 ·exact not_of (thn (JLo pins s1 σ H1 w v (λb H=>b=t∧H=H1) I1 r1 ⟨t,tv,rfl,rfl⟩) λb s2 ⟨H2,I2,e1,e2⟩=>by subst e1;subst e2;exact⟨.bl (!b),H2,I2,rfl,q⟩)
theorem s_and(g:Gk X B C CX XX G){rest:List Expr}(ha:PE X a (RE B C XX x))(hb:PE X (.BoolOp .And (b::rest) pos) (RE B C XX y)):PE X (.BoolOp .And (a::b::rest) pos) (RE B C XX (.and x y)) :=
 PE.imp (JOn ha hb) λσ H Q ⟨δ,ok,k⟩=>by
  simp only[ev]at k;refine RE.of (W:=λr H=>KE B XX r H Q) ok (λ_ _ z=>z) (λ_ z=>z) k λd v H1 s1 d1 h1=>?_;cases d<;>first|exact fF h1|skip
  rename_i t;simp only[Den]at d1;refine⟨t,d1,?_⟩;cases t with
  |true=>exact iteT ⟨δ,ok.mono s1,KE.mono g s1 h1⟩
  |false=>exact iteF (KE.ok (KE.mono g s1 h1) (by simp only[Den]))
theorem s_or(g:Gk X B C CX XX G){rest:List Expr}(ha:PE X a (RE B C XX x))(hb:PE X (.BoolOp .Or (b::rest) pos) (RE B C XX y)):PE X (.BoolOp .Or (a::b::rest) pos) (RE B C XX (.or x y)) :=
 PE.imp (pe_or ha hb) λσ H Q ⟨δ,ok,k⟩=>by
  simp only[ev]at k;refine RE.of (W:=λr H=>KE B XX r H Q) ok (λ_ _ z=>z) (λ_ z=>z) k λd v H1 s1 d1 h1=>?_;cases d<;>first|exact fF h1|skip
  rename_i t;simp only[Den]at d1;refine⟨t,d1,?_⟩;cases t with
  |true=>exact iteT (KE.ok (KE.mono g s1 h1) (by simp only[Den]))
  |false=>exact iteF ⟨δ,ok.mono s1,KE.mono g s1 h1⟩
theorem JCq{d:D}{v:V}{H:Hp}(h:Den B H d v):decide (v=.non)=isNone d:=by
 cases d with
 |none=>simp only[Den]at h;subst h;rfl
 |bool _=>simp only[Den]at h;subst h;rfl
 |int _=>simp only[Den]at h;subst h;rfl
 |str _=>simp only[Den]at h;subst h;rfl
 |list _=>simp only[Den]at h;obtain⟨p,xs,e,_⟩:=h;subst e;rfl
 |tuple _=>simp only[Den]at h;obtain⟨p,xs,e,_⟩:=h;subst e;rfl
 |dict _ =>
  simp only[Den]at h;rcases h with ⟨p,xs,e,_⟩|⟨p,xs,e,_⟩
  ·subst e;rfl
  ·subst e;rfl
theorem s_isN(g:Gk X B C CX XX G){j:Nat}{pos':Pos}(ha:PE X a (RE B C XX x)):PE X (.Compare a [.Is] [.Constant .none j pos'] pos) (RE B C XX (.isN x false)) :=
 PE.imp (JKo (JLG ha)) λσ H Q ⟨δ,ok,k⟩=>by
  simp only[ev]at k;refine RE.of (W:=λr H=>KE B XX r H Q) ok (λ_ _ z=>z) (λ_ z=>z) k λd v H1 s1 d1 h1=>?_;rw[JCq d1];exact KE.ok (KE.mono g s1 h1) (by simp[Den])
theorem JMb(g:Gk X B C CX XX G){j:Nat}{pos':Pos}(ha:PE X a (RE B C XX x)):PE X (.Compare a [.IsNot] [.Constant .none j pos'] pos) (RE B C XX (.isN x true)) :=
 PE.imp (JKo (JHo ha)) λσ H Q ⟨δ,ok,k⟩=>by
  simp only[ev]at k;refine RE.of (W:=λr H=>KE B XX r H Q) ok (λ_ _ z=>z) (λ_ z=>z) k λd v H1 s1 d1 h1=>?_;rw[JCq d1];exact KE.ok (KE.mono g s1 h1) (by simp[Den])
theorem JL4:OpR X (compareOp .Is) (λv u H Q=>∃c d,v=.bl c∧u=.bl d∧Q (.bl (c==d)) H):=by
 intro pins s σ H v u w t Q I rx ry ⟨c,d,e1,e2,q⟩;subst e1;subst e2;cases rx;cases ry;exact is_bool ⟨.bl _,H,I,rfl,q⟩
theorem s_isB(g:Gk X B C CX XX G){j:Nat}{pos':Pos}{k:Bool}(ha:PE X a (RE B C XX x)):PE X (.Compare a [.Is] [.Constant (.bool k) j pos'] pos) (RE B C XX (.isB x k)) :=
 PE.imp (JFz JL4 ha JIX rfl) λσ H Q ⟨δ,ok,kk⟩=>by
  simp only[ev]at kk;refine RE.of (W:=λr H=>KE B XX r H Q) ok (λ_ _ z=>z) (λ_ z=>z) kk λd v H1 s1 d1 h1=>?_;cases d<;>first|exact fF h1|skip
  rename_i t;simp only[Den]at d1;exact⟨t,k,d1,rfl,KE.ok (KE.mono g s1 h1) (by simp only[Den])⟩
theorem s_ife(g:Gk X B C CX XX G)(hc:PT X c (RT B C XX z))(ha:PE X a (RE B C XX x))(hb:PE X b (RE B C XX y)):PE X (.IfExp c a b pos) (RE B C XX (.ife z x y)) :=
 PE.imp (JJq hc ha hb) λσ H Q ⟨δ,ok,k⟩=>by
  simp only[ev]at k;refine RT.of (W:=λr H=>KE B XX r H Q) ok (λ_ _ z=>z) (λ_ z=>z) k λt H1 s1 h1=>?_;cases t with
  |true=>exact iteT ⟨δ,ok.mono s1,KE.mono g s1 h1⟩
  |false=>exact iteF ⟨δ,ok.mono s1,KE.mono g s1 h1⟩
theorem a_nil:PA X [] (RA B C XX .nil):=PA.imp JAi λσ H Q ⟨δ,ok,k⟩=>k [] H (Same.refl H) (by simp only[DenL])
theorem JPa(g:Gk X B C CX XX G){es:List Expr}(ha:PE X a (RE B C XX x))(hr:PA X es (RA B C XX y))(hs:starEach (a::es) X.env=(false,eval a X.env)::starEach es X.env):PA X (a::es) (RA B C XX (.cons x y)) :=
 PA.imp (JAM ha hr hs) λσ H Q ⟨δ,ok,k⟩=>by
  simp only[evA]at k;refine RE.of (W:=λr H=>KL B XX r H Q) ok (λ_ _ z=>z) (λ_ z=>z) k λd v H1 s1 d1 h1=>?_;refine RA.of (W:=λr H=>KL B XX r H Q) (ok.mono s1) (λ_ _ z=>z) (λ_ z=>z) (KL.mono g s1 h1) λds vs H2 s2 d2 h2=>?_;exact h2 (v::vs) H2 s2 (by simp only[DenL];exact⟨v,vs,rfl,Den.mono s2 d v d1,d2⟩)
theorem s_tup(g:Gk X B C CX XX G){es:List Expr}{k2:Nat}(h:PA X es (RA B C XX x))(hl:cnt x≤1000):PE X (.Tuple es k2 pos) (RE B C XX (.tup x)) :=
 PE.imp (JFa h) λσ H Q ⟨δ,ok,k⟩=>by
  simp only[ev]at k;cases q:evA C x δ with
  |ok ds =>
   rw[q]at k;refine⟨δ,ok,?_⟩;rw[q];intro vs H1 s1 d1;have e1:=DenL.len ds vs d1;have e2:=JCU x δ ds q;refine⟨by rw[sizeLine_eq];omega,λp hp=>k _ _ (s1.trans (JBH hp)) ?_⟩
   simp only[Den];exact⟨p,vs,rfl,SqT.of JAK,DenL.mono (JBH hp) ds vs d1⟩
  |exc c=>rw[q]at k;exact⟨δ,ok,by rw[q];exact k⟩
  |bad=>rw[q]at k;exact k.elim
theorem s_lst(g:Gk X B C CX XX G){es:List Expr}(h:PA X es (RA B C XX x))(hl:cnt x≤1000):PE X (.List es pos) (RE B C XX (.lst x)) :=
 PE.imp (JLP h) λσ H Q ⟨δ,ok,k⟩=>by
  simp only[ev]at k;cases q:evA C x δ with
  |ok ds =>
   rw[q]at k;refine⟨δ,ok,?_⟩;rw[q];intro vs H1 s1 d1;have e1:=DenL.len ds vs d1;have e2:=JCU x δ ds q;refine⟨by rw[sizeLine_eq];omega,λp hp=>k _ _ (s1.trans (JBH hp)) ?_⟩
   simp only[Den];exact⟨p,vs,rfl,SqL.of JAK,DenL.mono (JBH hp) ds vs d1⟩
  |exc c=>rw[q]at k;exact⟨δ,ok,by rw[q];exact k⟩
  |bad=>rw[q]at k;exact k.elim
theorem JH2{H:Hp}{ds:List D}{vs:List V}{i:Int}{d:D}(h:DenL B H ds vs)(e:VI.atI ds i=some d):∃v,L2.atI vs i=some v∧Den B H d v:=by
 have hl:=DenL.len ds vs h;unfold VI.atI at e;cases q:VI.ixN ds.length i with
 |none=>rw[q]at e;cases e
 |some j =>
  rw[q]at e;obtain⟨v,e1,dn⟩:=DenL.get ds vs j d h e;refine⟨v,?_,dn⟩;unfold L2.atI;have q':L2.ixN vs.length i=some j:=by rw[←hl];exact q
  rw[q'];exact e1
theorem SqDo.at{pins:Pq}{σ:St}{H:Hp}{s:Shared}{a:Addr}{o:Obj}{xs:List (Key×V)}(I:Inv X pins σ H s)(h:SqDo X.K X.w H a o xs):(a==sysModules)=false∧s.heap.get? a=some o∧∃vs,KV xs vs∧s.heap.DictOf (JBO X.prog X.w) a vs:=by
 rcases h with h|h
 ·obtain⟨e,_,h1,h2⟩:=I.hok a _ h;exact⟨h1,e,h2⟩
 ·exact h X.prog s.heap I.kIn
theorem SqD.at{pins:Pq}{σ:St}{H:Hp}{s:Shared}{a:Addr}{xs:List (Key×V)}(I:Inv X pins σ H s)(h:SqD X.K X.w H a xs):(a==sysModules)=false∧∃vs,KV xs vs∧s.heap.DictOf (JBO X.prog X.w) a vs:=by
 obtain⟨o,h⟩:=h;obtain⟨h1,_,h2⟩:=SqDo.at I h;exact⟨h1,h2⟩
theorem JMl{ks:List (Key×V)}{vs:List (Key×Value)}{x:Str}(h:KV ks vs):(∀v,(ks.find? λp=>p.1=Sum.inr x).map (·.2)=some v→∃u,valueAt vs (Sum.inr x:Key)=some u∧RelV v u)∧((ks.find? λp=>p.1=Sum.inr x).map (·.2)=none→valueAt vs (Sum.inr x:Key)=none):=by
 induction h with
 |nil=>exact⟨λv e=>(by simp at e),λ_=>rfl⟩
 | @cons p q ps qs hq t ih =>
  obtain⟨k,v⟩:=p;obtain⟨k',u⟩:=q;obtain⟨e1,e2⟩:=hq;simp only at e1 e2;subst e1;unfold valueAt at ih ⊢;simp only[List.find?_cons]
  by_cases hk:k=Sum.inr x
  ·simp only[hk,decide_true,Option.map_some,Option.some.injEq];exact⟨λv' e=>⟨u,rfl,e▸e2⟩,λe=>by cases e⟩
  ·simp only[hk,decide_false];exact ih
theorem JNt:IxR X (λx y H Q=>∃p xs k v,x=.ref p∧y=.str k∧SqD X.K X.w H p xs∧((xs.find? λp=>p.1=Sum.inr k).map (·.2))=some v∧Q v H):=by
 intro value slice pins s σ H x y v u Q I rx ry h hs;obtain⟨p,xs,k,z,rfl,rfl,hq,he,q⟩:=h;cases rx;obtain⟨t,rfl⟩:=ry;obtain⟨hsys,vs,kv,dd⟩:=SqD.at I hq;obtain⟨u,g1,g2⟩:=(JMl kv).1 z he;exact subscriptTail_builtinR (x:=u) dd.typeIs slot_dict_getitem.lookup (wpAny_getItem_of (Q:=λr s'=>r=u∧EP X pins σ Q r s') (JCx _ _ k t) dd.mapOf g1 ⟨rfl,z,H,I.tok _,g2,q⟩) hs
theorem JFG{H:Hp}{x:Str}{d:D}:∀ {kvs:List (D×D)}{xs:List (Key×V)},DenK B H kvs xs→getK kvs x=.ok d→∃v,(xs.find? λp=>p.1=Sum.inr x).map (·.2)=some v∧Den B H d v
 | [],xs,h,e=>by cases e
 |(k,b)::r,xs,h,e=>by
  simp only[DenK]at h;obtain⟨y,v,r',rfl,rfl,h1,h2⟩:=h;simp only[getK]at e
  by_cases hk:y=x
  · rw[if_pos hk]at e
    cases e;exact⟨v,by simp[List.find?,hk],h1⟩
  · rw[if_neg hk]at e
    obtain⟨v',e1,e2⟩:=JFG h2 e;have:¬((Sum.inr y:Key)=Sum.inr x):=λz=>hk (Sum.inr.inj z);exact⟨v',by simpa[List.find?,this] using e1,e2⟩
theorem JG0{x:Str}{c:Nat}:∀ {kvs:List (D×D)},getK kvs x≠.exc c
 | []=>by intro h;cases h
 |(k,b)::r=>by
  cases k<;>simp only[getK]<;>first|(intro h;cases h;done)|skip
  split
  · intro h;cases h
  · exact JG0
theorem idxOk(g:Gk X B C CX XX G):IxR X (λv u H Q=>∃dx dy,Den B H dx v∧Den B H dy u∧KE B XX (idxD dx dy) H Q):=by
 intro value slice pins s σ H v u w t Q I rx ry ⟨dx,dy,hx,hy,k⟩ hs;refine(ix_seq.or JNt) value slice pins s σ H v u w t Q I rx ry ?_ hs;cases dx with
 |list ds =>
  cases dy<;>first|exact fF k|skip
  rename_i i;simp only[Den]at hx hy;obtain⟨p,xs,e,q,l⟩:=hx;simp only[idxD]at k;cases qa:VI.atI ds i with
  |none=>rw[qa]at k;exact k.elim
  |some d =>
   rw[qa]at k;obtain⟨z,e2,dn⟩:=JH2 l qa;exact .inl (.inl ⟨p,xs,i,z,e,hy,g.K▸q,e2,KE.ok k dn⟩)
 |tuple ds =>
  cases dy<;>first|exact fF k|skip
  rename_i i;simp only[Den]at hx hy;obtain⟨p,xs,e,q,l⟩:=hx;simp only[idxD]at k;cases qa:VI.atI ds i with
  |none=>rw[qa]at k;exact k.elim
  |some d =>
   rw[qa]at k;obtain⟨z,e2,dn⟩:=JH2 l qa;exact .inl (.inr (.inl ⟨p,xs,i,z,e,hy,g.K▸q,e2,KE.ok k dn⟩))
 |dict kvs =>
  cases dy<;>first|exact fF k|skip
  rename_i y;simp only[Den]at hx hy;simp only[idxD]at k;rcases hx with ⟨p,c,e1,e2,_⟩|⟨p,xs,e1,e2,e3⟩
  ·subst e2;exact fF k
  ·cases qg:getK kvs y with
   |ok d =>
    rw[qg]at k;obtain⟨z,f1,f2⟩:=JFG e3 qg;exact .inr ⟨p,xs,y,z,e1,hy,by rw[g.K,g.W];exact e2,f1,KE.ok k f2⟩
   |exc c=>exact(JG0 qg).elim
   |bad=>rw[qg]at k;exact k.elim
 |str z =>
  cases dy<;>first|exact fF k|skip
  rename_i i;simp only[Den]at hx hy;simp only[idxD]at k
  split at k
  ·rename_i hz;cases qa:VI.atI z.cps.toList i with
   |none=>rw[qa]at k;exact k.elim
   |some c =>
    rw[qa]at k;exact .inl (.inr (.inr ⟨z,i,c,hx,hy,by rw[sizeLine_eq];exact Nat.le_trans hz (by decide),qa,k _ _ (Same.refl H) (by simp only[Den])⟩))
  ·exact k.elim
 |_=>exact fF k
theorem s_idx(g:Gk X B C CX XX G)(ha:PE X a (RE B C XX x))(hb:PE X b (RE B C XX y))(hs:isSlice b=false):PE X (.Subscript a b pos) (RE B C XX (.idx x y)) :=
 PE.imp (pe_ix (idxOk g) ha hb (JMM hs)) λσ H Q ⟨δ,ok,k⟩=>two g (f:=idxD) (λx y H dx dy h1 h2 k=>⟨dx,dy,h1,h2,k⟩) ⟨δ,ok,by simpa only[ev] using k⟩
theorem JN6(g:Gk X B C CX XX G){n:Nat}{fn:List D→R D}{vs:List V}{ds:List D}{H:Hp}{Q:VK}(hn:fn ds≠.bad→ds.length=n)(dn:DenL B H ds vs)(k:KE B XX (fn ds) H Q):JBF B n fn vs H Q (EX B XX):=by
 have hb:fn ds≠.bad:=λz=>by rw[z]at k;exact k
 refine⟨by rw[←DenL.len ds vs dn];exact hn hb,ds,dn,?_⟩
 cases q:fn ds with
 |ok d=>rw[q]at k;exact k
 |exc c=>rw[q]at k;exact λH' s'=>⟨c,rfl,g.anti c H H' s' k⟩
 |bad=>exact(hb q).elim
end
section
variable{X:Cx}{B:Bs}{C:Cn}{CX:CXT}{XX:Nat→Hp→Prop}{G:List (Str×GK)}{a b c:Expr}{x y z:E}{pos p:Pos}
theorem s_call(g:Gk X B C CX XX G){i:Nat}{nm:Str}{e:Expr}{r:List Expr}(hg:Gl X nm)(hl:G.lookup nm=some (.fn i))(hb:JAQ nm=false)(ha:PA X (e::r) (RA B C XX x))
  (he:starEach (e::r) X.env=(false,eval e X.env)::starEach r X.env) (hpl:(backTo pos (starEach (e::r) X.env)).any (·.1)=false):PE X (.Call (.Name nm p) (e::r) [] pos) (RE B C XX (.call i x)):=by
 obtain⟨f,fd,ps,k,hm,hk,F,hr,hbi,hn⟩:=g.fn nm i hl;refine PE.imp (JBh F hr hg hm hk hbi .nil g.pas ha (JAF hb).1 he ?_) ?_
 ·rw[he]at hpl;exact hpl
 ·rintro σ H Q ⟨δ,ok,kk⟩;simp only[ev]at kk;refine RA.of (W:=λr H=>KE B XX r H Q) ok (λ_ _ z=>z) (λ_ z=>z) kk λds vs H1 s1 d1 h1=>?_;show JBF B ps.length (C.fn i) (vs++[]) H1 Q (EX B XX);rw[List.append_nil];exact JN6 g (hn ds) d1 (KE.mono g s1 h1)
theorem JJI(g:Gk X B C CX XX G):CallR X (.builtin "len") (λvs H Q=>∃ds,DenL B H ds vs∧KE B XX (bltD .len ds) H Q):=by
 intro pins s σ H vs us Q I r ⟨ds,dn,k⟩
 match ds,dn,k with
 | [.str x],dn,k =>
  simp only[DenL,Den]at dn;obtain⟨v,r',e,e1,e2⟩:=dn;subst e2;subst e;subst e1;simp only[bltD]at k
  split at k
  ·rename_i hl;exact JEs pins s σ H _ us Q I r ⟨x,rfl,by rw[sizeLine_eq];exact hl,KE.ok k (by simp only[Den])⟩
  ·exact k.elim
 | [.list ys],dn,k =>
  simp only[DenL,Den]at dn;obtain⟨v,r',e,⟨a,xs,e1,q,l⟩,e2⟩:=dn;subst e2;subst e;subst e1;exact JGC pins s σ H _ us Q I r ⟨_,xs.length,rfl,.inl ⟨xs,g.K▸q,rfl⟩,by rw[←DenL.len ys xs l];exact KE.ok k (by simp only[Den])⟩
 | [.tuple ys],dn,k =>
  simp only[DenL,Den]at dn;obtain⟨v,r',e,⟨a,xs,e1,q,l⟩,e2⟩:=dn;subst e2;subst e;subst e1;exact JGC pins s σ H _ us Q I r ⟨_,xs.length,rfl,.inr ⟨xs,g.K▸q,rfl⟩,by rw[←DenL.len ys xs l];exact KE.ok k (by simp only[Den])⟩
 | [],_,k=>exact fF k
 | [.none],_,k=>exact fF k
 | [.bool _],_,k=>exact fF k
 | [.int _],_,k=>exact fF k
 | [.dict _],_,k=>exact fF k
 |d::_::_,_,k=>cases d<;>exact fF k
theorem JID(g:Gk X B C CX XX G):CallR X (.builtin "abs") (λvs H Q=>∃ds,DenL B H ds vs∧KE B XX (bltD .abs ds) H Q):=by
 intro pins s σ H vs us Q I r ⟨ds,dn,k⟩;refine JJ3 pins s σ H vs us Q I r ?_
 match ds,dn,k with
 | [.int i],dn,k =>
  simp only[DenL,Den]at dn;obtain⟨v,r',e,e1,e2⟩:=dn;subst e2;subst e;subst e1;exact⟨i,rfl,KE.ok k (by simp only[Den])⟩
 | [],_,k=>exact fF k
 | [.none],_,k=>exact fF k
 | [.bool _],_,k=>exact fF k
 | [.list _],_,k=>exact fF k
 | [.tuple _],_,k=>exact fF k
 | [.str _],_,k=>exact fF k
 | [.dict _],_,k=>exact fF k
 |d::_::_,_,k=>cases d<;>exact fF k
theorem JJt(g:Gk X B C CX XX G){bl:Blt}{id:String}{nm:Str}{e:Expr}{r:List Expr}(hc:CallR X (.builtin id) (λvs H Q=>∃ds,DenL B H ds vs∧KE B XX (bltD bl ds) H Q))(hv:bootBuiltins nm=some (.builtin id))
  (hg:Gl X nm) (hl:G.lookup nm=some (.blt bl)) (hb:JAQ nm=false) (ha:PA X (e::r) (RA B C XX x))
  (he:starEach (e::r) X.env=(false,eval e X.env)::starEach r X.env) (hpl:(backTo pos (starEach (e::r) X.env)).any (·.1)=false):PE X (.Call (.Name nm p) (e::r) [] pos) (RE B C XX (.blt bl x)):=by
 refine PE.imp (JEQ hc hg (g.blt nm bl hl) hv ha (JAF hb).2.2 (JAF hb).1 he ?_) ?_
 ·rw[he]at hpl;exact hpl
 ·rintro σ H Q ⟨δ,ok,kk⟩;simp only[ev]at kk;refine RA.of (W:=λr H=>KE B XX r H Q) ok (λ_ _ z=>z) (λ_ z=>z) kk λds vs H1 s1 d1 h1=>?_;exact⟨ds,d1,KE.mono g s1 h1⟩
theorem JI5(g:Gk X B C CX XX G)(ha:PE X a (RE B C XX x))(he:∀whole,isTrue a X.env whole=(do let v←whole;standAt a.pos;holding [v] (truthy v)))(ht:∀δ,evT C x δ=(ev C x δ).bind truth):PT X a (RT B C XX x) :=
 PT.imp (JKh ha he) λσ H Q ⟨δ,ok,k⟩=>by
  rw[ht]at k;refine RE.of (W:=λr H=>KB XX r H Q) ok (λ_ _ z=>z) (λ_ z=>z) k λd v H1 s1 d1 h1=>?_;cases q:truth d with
  |ok t=>rw[q]at h1;exact⟨t,truV g.K d1 q,h1 H1 s1⟩
  |exc c=>exact(JEZ q).elim
  |bad=>rw[q]at h1;exact h1.elim
theorem JQN{t:TE}(op:CmpOp)(h:PT X (.Compare a [op] [b] pos) (JOm t))(ht:∀σ H Q,RE B C XX x σ H Q→t σ H Q)(hb:∀δ,evT C x δ=(ev C x δ).bind truth)(hbool:∀δ d,ev C x δ=.ok d→∃k,d=.bool k):PT X (.Compare a [op] [b] pos) (RT B C XX x) :=
 PT.imp h λσ H Q ⟨δ,ok,k⟩=>by
  refine ht σ H _ ⟨δ,ok,?_⟩;rw[hb]at k;cases q:ev C x δ with
  |ok d =>
   rw[q]at k;obtain⟨t',rfl⟩:=hbool δ d q;intro v H1 s1 d1;simp only[Den]at d1;exact⟨t',d1,k H1 s1⟩
  |exc c=>rw[q]at k;exact k
  |bad=>rw[q]at k;exact k.elim
theorem JJU(g:Gk X B C CX XX G)(ha:PT X a (RT B C XX x)):PT X (.UnaryOp .Not a pos) (RT B C XX (.not x)) :=
 PT.imp (JQl ha) λσ H Q ⟨δ,ok,k⟩=>by
  simp only[evT]at k;exact RT.of (W:=λr H=>KB XX r H Q) ok (λ_ _ z=>z) (λ_ z=>z) k λt H1 s1 h1=>h1 H1 s1
theorem w_and(g:Gk X B C CX XX G){rest:List Expr}(ha:PT X a (RT B C XX x))(hb:PW X (.BoolOp .And (b::rest) pos) (RT B C XX y)):PW X (.BoolOp .And (a::b::rest) pos) (RT B C XX (.and x y)) :=
 λwh pins s σ H Q I ⟨δ,ok,k⟩=>JQ9 ha hb wh pins s σ H Q I (by
  simp only[evT]at k;refine RT.of (W:=λr H=>KB XX r H Q) ok (λ_ _ z=>z) (λ_ z=>z) k λt H1 s1 h1=>?_;cases t with
  |true=>exact iteT ⟨δ,ok.mono s1,KB.mono g s1 h1⟩
  |false=>exact iteF (h1 H1 s1))
theorem w_or(g:Gk X B C CX XX G){rest:List Expr}(ha:PT X a (RT B C XX x))(hb:PW X (.BoolOp .Or (b::rest) pos) (RT B C XX y)):PW X (.BoolOp .Or (a::b::rest) pos) (RT B C XX (.or x y)) :=
 λwh pins s σ H Q I ⟨δ,ok,k⟩=>pw_or ha hb wh pins s σ H Q I (by
  simp only[evT]at k;refine RT.of (W:=λr H=>KB XX r H Q) ok (λ_ _ z=>z) (λ_ z=>z) k λt H1 s1 h1=>?_;cases t with
  |true=>exact iteT (h1 H1 s1)
  |false=>exact iteF ⟨δ,ok.mono s1,KB.mono g s1 h1⟩)
end
theorem JDT{prog:Program}{w:World}{A:Around}{R:Result→Shared→Prop}{s:Shared}{elt target iter:Expr}{ifs:List Expr}{scope:Scope}{pos:Pos}{it acc:Value}{env:PySem.Env}(I:Nat→Shared→Prop)
  (turn:∀n s,I n s→wpAny (model prog w) A (pyNext it) (λr s₁=>match r with
    |none=>R (.ok .next) s₁
    |some v=>wpAny (model prog w) A (letOwnedTupleGo target it v) (λ_ s₁'=>wpAny (model prog w) A (assign target env v) (λ_ s₂ =>
     wpAny (model prog w) A (forIn ifs true λc r=>if r=true then do let ok←isTrue c env (eval c env);pure (ForInStep.yield ok) else pure (ForInStep.yield r)) (λok s₃ =>
      if ok=true then wpAny (model prog w) A (eval elt env) (λx s₄ =>
       wpAny (model prog w) A (call (.builtin "list.append") [acc,x]) (λ_ s₅=>∃m,m<n∧I m s₅) (notedBy (model prog w) A env λe s'=>R (.error e) s') s₄) (notedBy (model prog w) A env λe s'=>R (.error e) s') s₃
      else ∃m,m<n∧I m s₃) (notedBy (model prog w) A env λe s'=>R (.error e) s') s₂) (notedBy (model prog w) A env λe s'=>R (.error e) s') s₁') (notedBy (model prog w) A env λe s'=>R (.error e) s') s₁) (notedBy (model prog w) A env λe s'=>R (.error e) s') s)
  (n:Nat) (h:I n s) :
  codeAny (model prog w) A (.compLoop (.ListComp elt [⟨target,iter,ifs,0⟩] scope pos) 0 it acc env) R s:=by
 refine codeAny_loop rfl I (λn s hI=>?_) n h;show wpAny _ A ((compTurn (.ListComp elt [⟨target,iter,ifs,0⟩] scope pos) 0 it acc env).onRaise (λx=>do noteFrame x env;theTreesLotGoes x)) _ _ s
 refine wpAny_noted ?_;rw[compTurn_list];refine wpAny_bind (wpAny_standAt (wpAny_bind (wpAny_mono (turn n s hI) (λr s₁ h₁=>?_) λ_ _ h'=>h')));cases r with
 |none=>exact wpAny_pure h₁
 |some v =>
  refine wpAny_bind (wpAny_mono h₁ (λ_ s₁' h₁'=>?_) λ_ _ h'=>h');refine wpAny_bind (wpAny_mono h₁' (λ_ s₂ h₂=>wpAny_bind (wpAny_mono h₂ (λok s₃ h₃=>?_) λ_ _ h'=>h')) λ_ _ h'=>h');cases ok with
  |false=>exact wpAny_pure ⟨rfl,h₃⟩
  |true =>
    exact wpAny_bind (wpAny_bind (wpAny_mono h₃ (λx s₄ h₄=>wpAny_bind (wpAny_mono h₄ (λ_ s₅ h₅=>wpAny_pure (wpAny_pure ⟨rfl,h₅⟩)) λ_ _ h'=>h')) λ_ _ h'=>h'))
noncomputable def JAc(X:Cx)(sc:Scope)(Cc:Addr)(N':List Str)(fp:List Addr)(s:Shared)(H:Hp):Cx where
 prog:=X.prog
 w:=X.w
 K:=X.K
 mg:=X.mg
 base:=X.base
 A:=X.A
 N:=N'
 s₀:=s
 H₀:=H
 env:=compEnvC sc (JBB X.env.cells sc.names []) Cc X.env
 outer:=X.stack
 stack:=X.stack
 ex:=fp
 fn:=λ_=>false
 calm:=true
 pn:=[]
 xe:=λ_ _=>False
theorem JAU{X:Cx}{sc:Scope}{Cc:Addr}(hk:X.env.scope.kind=.function):(compEnvC sc (JBB X.env.cells sc.names []) Cc X.env).scope.names=JAo X.env.scope.names sc.names:=by
 show(sc.names.map λ(x:Str×NameKind)=>match x with|(n,k)=>if (k==NameKind.free&&X.env.scope.kind==ScopeKind.function&&X.env.kindOf n==some NameKind.cell)=true then (n,NameKind.cell) else (n,k))=_
 have:(X.env.scope.kind==ScopeKind.function)=true:=by rw[hk];rfl
 simp only[this];rfl
theorem JA2{outer:Nq}:∀ {names:Nq}{x:Str},names.lookup x=some .local→(JAo outer names).lookup x=some .local
 | [],x,h=>by simp at h
 |(n,k)::r,x,h=>by
  unfold JAo;rw[List.map_cons];rw[List.lookup_cons]at h;cases q:x==n with
  |true =>
    rw[q]at h;cases h;show List.lookup x ((if (NameKind.local==NameKind.free&&true&&outer.lookup n==some NameKind.cell)=true then (n,NameKind.cell) else (n,NameKind.local))::_)=_;rw[if_neg (by simp),List.lookup_cons,q]
  |false =>
    rw[q]at h;have e:∀kk,List.lookup x ((n,kk)::JAo outer r)=List.lookup x (JAo outer r):=λkk=>by rw[List.lookup_cons,q]
    show List.lookup x ((if (k==NameKind.free&&true&&outer.lookup n==some NameKind.cell)=true then (n,NameKind.cell) else (n,k))::JAo outer r)=_
    split
    ·rw[e];exact JA2 h
    ·rw[e];exact JA2 h
theorem JBW{outer:Nq}:∀ {names:Nq}{x:Str},(∀y∈names,y.2≠.cell)→(JAo outer names).lookup x=some .cell∨(JAo outer names).lookup x=some .free→(x,NameKind.free)∈names
 | [],x,_,h=>by simp[JAo]at h
 |(n,k)::r,x,hc,h=>by
  have hc':∀y∈r,y.2≠.cell:=λy hy=>hc y (List.mem_cons_of_mem _ hy);have hk:k≠.cell:=hc (n,k) List.mem_cons_self;have e0:JAo outer ((n,k)::r)=(if (k==NameKind.free&&true&&outer.lookup n==some NameKind.cell)=true then (n,NameKind.cell) else (n,k))::JAo outer r:=rfl;rw[e0]at h;cases q:x==n with
  |true =>
    have e:x=n:=eq_of_beq q;subst e
    by_cases hf:k=.free
    ·subst hf;exact List.mem_cons_self
    ·rw[if_neg (by simp[hf]),List.lookup_cons,q]at h
     rcases h with h|h
     ·exact absurd (Option.some.inj h) hk
     ·exact absurd (Option.some.inj h) hf
  |false =>
    have e:∀kk,List.lookup x ((n,kk)::JAo outer r)=List.lookup x (JAo outer r):=λkk=>by rw[List.lookup_cons,q]
    have h':List.lookup x (JAo outer r)=some .cell∨List.lookup x (JAo outer r)=some .free:=by
     split at h
     ·rw[e]at h;exact h
     ·rw[e]at h;exact h
    exact List.mem_cons_of_mem _ (JBW hc' h')
section
variable{X:Cx}{B:Bs}{C:Cn}{CX:CXT}{G:List (Str×GK)}{pins:Pq}{σ:St}{H:Hp}{s:Shared}{sc:Scope}{fp:List Addr}{N':List Str}{Cc:Addr}
structure BlkOk(X:Cx)(sc:Scope)(xs:List Str):Prop where
 kind:sc.kind=.function
 nocell:∀y∈sc.names,y.2≠.cell
 loc:∀y∈sc.names,y.2=.local→sc.names.lookup y.1=some .local
 free:∀n,(n,NameKind.free)∈sc.names→X.env.kindOf n=some .cell∨X.env.kindOf n=some .free
 tg:∀x∈xs,sc.names.lookup x=some .local
 out:∀y∈X.N,y ∉ xs→sc.names.lookup y≠some .local
 dots:∀i,i<X.N.length→Vis (compEnvC sc (JBB X.env.cells sc.names []) 0 X.env).scope (dots i)→False
 nd:(xs++mask xs 0 X.N).Nodup
theorem vis_same{Cc C':Addr}{x:Str}:Vis (compEnvC sc (JBB X.env.cells sc.names []) Cc X.env).scope x↔Vis (compEnvC sc (JBB X.env.cells sc.names []) C' X.env).scope x:=Iff.rfl
theorem BlkOk.clos{xs:List Str}(b:BlkOk X sc xs)(ok:X.Ok):closureFor sc X.env=pure (JBB X.env.cells sc.names []) :=
 JEF λn hn=>by
  obtain⟨c,hc⟩:=ok.has n (b.free n hn);rw[hc];rfl
theorem JBU{xs:List Str}(b:BlkOk X sc xs)(ok:X.Ok){x:Str}{c:Addr}:(JBB X.env.cells sc.names []).lookup x=some c↔(x,NameKind.free)∈sc.names∧X.env.cells.lookup x=some c:=by
 rw[JBq]
 by_cases h:(x,NameKind.free)∈sc.names
 ·rw[if_pos h];obtain⟨d,hd⟩:=ok.has x (b.free x h);rw[hd];simp[h]
 ·rw[if_neg h];simp[h]
theorem JMZ{xs:List Str}(b:BlkOk X sc xs)(hcalm:X.calm=true)(I:Inv X pins σ H s)(hf:∀b∈fp,FpOk X pins H b)(hlt:∀b∈fp,b<s.heap.objs.size)(hC:s.heap.objs.size≤Cc):(JAc X sc Cc N' fp s H).Ok where
 mod:=I.mod
 kind:=b.kind
 glob:=I.ok.glob
 blt:=I.ok.blt
 above:=hC
 inj:=λx y c h1 h2=>I.ok.inj x y c ((JBU b I.ok).mp h1).2 ((JBU b I.ok).mp h2).2
 has:=λx h=>by
  have e:=JAU (X:=X) (sc:=sc) (Cc:=Cc) I.ok.kind;have h':(JAo X.env.scope.names sc.names).lookup x=some .cell∨(JAo X.env.scope.names sc.names).lookup x=some .free:=by
   rw[←e];exact h
  have hm:=JBW b.nocell h';obtain⟨c,hc⟩:=I.ok.has x (b.free x hm);exact⟨c,(JBU b I.ok).mpr ⟨hm,hc⟩⟩
 cab:=λ_ _ z=>by cases z
 hd:=λ_=>I.ok.hd hcalm
 frames:=I.ok.frames
 stk:=.inl rfl
 exf:=λa ha=>⟨Nat.ne_of_lt (Nat.lt_of_lt_of_le (hlt a ha) hC),λx c e=>(hf a ha).2.2.2.2.1 x c ((JBU b I.ok).mp e).2⟩
 bs:=I.bs
 bsz:=Nat.le_trans I.ok.bsz I.sz
 noex:=λa o e ha=>by
  rcases(hf a ha).2.2.2.1 with z|z
  ·exact I.ok.noex a o e z
  ·exact absurd (Nat.lt_of_lt_of_le (Heap.lt_size e) (Nat.le_trans I.ok.bsz z)) (Nat.lt_irrefl _)
 exfs:=λa ha hm=>by
  rcases List.mem_cons.mp (I.stkSub a hm) with z|z
  ·exact(hf a ha).2.1 z
  ·exact(hf a ha).2.2.1 z
 funs:=I.stack
 frf:=I.stkFree
theorem JGn{xs:List Str}:∀(N:List Str) (i j:Nat) (y:Str),(mask xs i N)[j]? = some y→∃z,N[j]? = some z∧((z ∉ xs∧y=z)∨(z∈xs∧y=dots (i+j)))
 | [],_,_,_,h=>by simp[mask]at h
 |z::r,i,0,y,h=>by
  unfold mask at h;simp only[List.getElem?_cons_zero,Option.some.injEq]at h;refine⟨z,rfl,?_⟩
  split at h
  ·rename_i hc;exact .inr ⟨by simpa using hc,h.symm⟩
  ·rename_i hc;exact .inl ⟨by simpa using hc,h.symm⟩
 |z::r,i,j+1,y,h=>by
  unfold mask at h;simp only[List.getElem?_cons_succ]at h;obtain⟨w,e,q⟩:=JGn r (i+1) j y h;refine⟨w,by simpa using e,?_⟩
  rw[show i+(j+1)=i+1+j by omega]
  exact q
theorem JGI{xs:List Str}:∀(N:List Str) (i:Nat),(mask xs i N).length=N.length
 | [],_=>rfl
 |_::r,i=>by simp only[mask,List.length_cons,JGI r]
theorem JHT{xs:List Str}(b:BlkOk X sc xs)(hcalm:X.calm=true)(I:Inv X pins σ H s)(hf:∀b∈fp,FpOk X pins H b)(hlt:∀b∈fp,b<s.heap.objs.size)(hC:s.heap.objs.size≤Cc)
  {h':Heap}{t':Nat}{m:Str→Option Value}(k:∀b o,s.heap.get? b=some o→h'.get? b=some o) (hn:h'.Ns Cc m) :
  Inv (JAc X sc Cc (xs++mask xs 0 X.N) fp s H) [] (xs.map (λ_=>none)++σ) H { s with heap:=h',toks:=t' } where
 ok:=JMZ b hcalm I hf hlt hC
 os:=rfl
 bare:=I.bare
 base:=Un.kept k
 loc:=by
  refine⟨m,hn,λi y v e1 e2 e3=>?_⟩
  by_cases hi:i<xs.length
  ·rw[List.getElem?_append_left (by simpa using hi)]at e2
   simp[hi]at e2
  ·have hi':xs.length≤i:=by omega
   rw[List.getElem?_append_right (by simpa using hi')]at e2
   simp only[List.length_map]at e2;have e1':(mask xs 0 X.N)[i - xs.length]? = some y:=by
    have:(xs++mask xs 0 X.N)[i]? = some y:=e1
    rwa [List.getElem?_append_right hi']at this
   obtain⟨z,ez,q⟩:=JGn X.N 0 _ y e1';rcases q with ⟨hz,rfl⟩|⟨hz,rfl⟩
   ·have e3':Vis (compEnvC sc (JBB X.env.cells sc.names []) Cc X.env).scope y:=e3;have hfree:(y,NameKind.free)∈sc.names:=by
     have en:=JAU (X:=X) (sc:=sc) (Cc:=Cc) I.ok.kind;unfold Vis at e3';rw[en]at e3';rcases e3' with e|e|e
     ·exfalso;refine b.out y (List.mem_of_getElem? ez) hz ?_;have:∀(names:Nq),(JAo X.env.scope.names names).lookup y=some .local→names.lookup y=some .local:=by
       intro names
       induction names with
       |nil=>intro h;simp[JAo]at h
       |cons p r ih =>
        obtain⟨n,kk⟩:=p;intro h;have e0:JAo X.env.scope.names ((n,kk)::r)=(if (kk==NameKind.free&&true&&X.env.scope.names.lookup n==some NameKind.cell)=true then (n,NameKind.cell) else (n,kk))::JAo X.env.scope.names r:=rfl;rw[e0]at h;rw[List.lookup_cons]
        split at h
        ·rw[List.lookup_cons]at h;cases q:y==n with
         |true=>rw[q]at h;cases h
         |false=>rw[q]at h;exact ih h
        ·rw[List.lookup_cons]at h;cases q:y==n with
         |true=>rw[q]at h;exact h
         |false=>rw[q]at h;exact ih h
      exact this sc.names e
     ·exact JBW b.nocell (.inl e)
     ·exact JBW b.nocell (.inr e)
    have hvis:Vis X.env.scope y:=by
     rcases b.free y hfree with e|e
     ·exact .inr (.inl e)
     ·exact .inr (.inr e)
    obtain⟨mm,hmm,hl⟩:=I.loc;obtain⟨u,r,l⟩:=hl (i - xs.length) y v ez e2 hvis;refine⟨u,r,.inr ⟨?_,?_⟩⟩
    ·have en:=JAU (X:=X) (sc:=sc) (Cc:=Cc) I.ok.kind;rcases e3' with e|e|e
     ·exfalso;have e':(JAo X.env.scope.names sc.names).lookup y=some .local:=by rw[←en];exact e
      have hh:=JBW (outer:=X.env.scope.names) (names:=sc.names) (x:=y) b.nocell;have:∀(names:Nq),(JAo X.env.scope.names names).lookup y=some .local→names.lookup y=some .local:=by
       intro names
       induction names with
       |nil=>intro h;simp[JAo]at h
       |cons p r ih =>
        obtain⟨n,kk⟩:=p;intro h;have e0:JAo X.env.scope.names ((n,kk)::r)=(if (kk==NameKind.free&&true&&X.env.scope.names.lookup n==some NameKind.cell)=true then (n,NameKind.cell) else (n,kk))::JAo X.env.scope.names r:=rfl;rw[e0]at h;rw[List.lookup_cons]
        split at h
        ·rw[List.lookup_cons]at h;cases q:y==n with
         |true=>rw[q]at h;cases h
         |false=>rw[q]at h;exact ih h
        ·rw[List.lookup_cons]at h;cases q:y==n with
         |true=>rw[q]at h;exact h
         |false=>rw[q]at h;exact ih h
      exact b.out y (List.mem_of_getElem? ez) hz (this sc.names e')
     ·exact .inl e
     ·exact .inr e
    ·rcases l with ⟨hk,_⟩|⟨_,c,hc,hcell⟩
     ·exfalso;rcases b.free y hfree with e|e
      ·rw[e]at hk;cases hk
      ·rw[e]at hk;cases hk
     ·refine⟨c,(JBU b I.ok).mpr ⟨hfree,hc⟩,?_⟩;obtain⟨o,ho,hd⟩:=hcell;exact⟨o,k _ _ ho,hd⟩
   ·exfalso;have hlt':i - xs.length<X.N.length:=(List.getElem?_eq_some_iff.mp ez).1;have:dots (0+(i - xs.length))=dots (i - xs.length):=by rw[Nat.zero_add]
    exact b.dots (i - xs.length) hlt' (by rw[←this];exact vis_same.mp e3)
 cell:=λx c e=>by
  obtain⟨v,o,ho,hd⟩:=I.cell x c ((JBU b I.ok).mp e).2;exact⟨v,o,k _ _ ho,hd⟩
 free:=I.hok.fresh hC
 freeC:=λx c e=>I.freeC x c ((JBU b I.ok).mp e).2
 pin:=λp hp=>absurd (show p∈([]:Pq) from hp) (by simp)
 hok:=I.hok.kept k
 len:=by
  show(xs.map (λ_=>(none:Option V))++σ).length=(xs++mask xs 0 X.N).length;rw[List.length_append,List.length_append,List.length_map,JGI,I.len]
end
section
variable{X:Cx}{B:Bs}{C:Cn}{CX:CXT}{XX:Nat→Hp→Prop}{G:List (Str×GK)}{pins:Pq}{σ:St}{H:Hp}{s:Shared}{sc:Scope}{N':List Str}{Cc:Addr}
abbrev noE:Value→Shared→Prop:=λ_ _=>False
def JB9(X':Cx)(B:Bs)(σ:St)(n:Nat)(δ:Env)(target elt:Expr)(ifs:List Expr)(F:D→R (Option D)):Prop :=
 ∀(pins:Pq) (s:Shared) (pre:St) (H:Hp) (d:D) (o:Option D) (v:V) (u:Value),pre.length=n→F d=.ok o→Inv X' pins (pre++σ) H s→RelV v u→Den B H d v→Sok B σ H δ →
  wpAny (model X'.prog X'.w) X'.A (assign target X'.env u) (λ_ s₂ =>
   wpAny (model X'.prog X'.w) X'.A (forIn ifs true λc r=>if r=true then do let ok←isTrue c X'.env (eval c X'.env);pure (ForInStep.yield ok) else pure (ForInStep.yield r)) (λok s₃ =>
    if ok=true then ∃y,o=some y∧wpAny (model X'.prog X'.w) X'.A (eval elt X'.env) (λx s₄=>∃pre' H' w,pre'.length=n∧Inv X' pins (pre'++σ) H' s₄∧Same H H'∧RelV w x∧Den B H' y w) noE s₃
    else o=none∧∃pre' H',pre'.length=n∧Inv X' pins (pre'++σ) H' s₃∧Same H H') noE s₂) noE s
theorem JFQ{α:Type}{l:List α}{j:Nat}(h:j<l.length):l.drop j=l[j]::l.drop (j+1):=List.drop_eq_getElem_cons h
theorem JIN[Cool G]{elt iter target:Expr}{ifs:List Expr}{pos pos':Pos}{i:E}{δ:Env}{xs:List Str}{ds zs:List D}{F:D→R (Option D)}{use:Option (Value→Sem Unit)}{Q:Value→Shared→Prop}
  (g:Gk X B C CX XX G) (b:BlkOk X sc xs) (hi:PI X target iter (RI B C XX i)) (hs:∀x,foldedSetIterable iter X.env x=pure x)
  (hrun:∀Cc fp s0 H0,JB9 (JAc X sc Cc (xs++mask xs 0 X.N) fp s0 H0) B σ xs.length δ target elt ifs F)
  (I:Inv X pins σ H s) (ok:Sok B σ H δ) (hds:evI C i δ=.ok ds) (hlen:ds.length≤16777216) (hz:JAt F ds=.ok zs)
  (fin:∀(D Cc:Addr) (s':Shared) (m:Str→Option Value) (H3:Hp) (yv:List V),s'.heap.Ns Cc m→Inv X pins σ (upd H3 D (.lst yv)) s'→Same H H3→H3 D=none→DenL B H3 zs yv→(upd H3 D (.lst yv)) Cc=none→Cc≠X.env.locals→X.s₀.heap.objs.size≤Cc →
    (∀x c,X.env.cells.lookup x=some c→c≠Cc)→(∀p∈X.pn++pins,p.1≠Cc)→compPost (model X.prog X.w) X.A X.xe use Q (.ref D) Cc (.ok .next) s') :
  wpAny (model X.prog X.w) X.A (comprehension (.ListComp elt [⟨target,iter,ifs,0⟩] sc pos) sc X.env pos' (newList []) false (eval iter X.env) use) Q X.xe s:=by
 refine wpAny_comprehension_free rfl hs (b.clos I.ok) b.kind b.loc (wpAny_mono (hi pins s σ H (λJ H1=>Same H H1∧ItOk B J H1 ds) I ⟨δ,ok,?_⟩) (λxv s₁ h₁=>wpAny_mono h₁ (λitv s₂ h₂=>?_) (λ_ _ e=>e)) (λ_ _ e=>e))
 ·rw[hds];exact λJ H' s' io=>⟨s',io⟩
 obtain⟨it,fp,tn,J,H2,e,I2,T,st2,f2,sm2,io⟩:=h₂;subst e;have hlt:∀b∈fp,b<s₂.heap.objs.size:=λb hb=>by
  obtain⟨o,ho,_⟩:=T.obj 0 _ st2 b hb;exact Heap.lt_size ho
 refine wpAny_newObj_type (wpAny_newFunctionEnv b.nocell (by intro y hy;simp at hy) (λh₁ hns₁ hsb₁=>?_) b.kind)
 dsimp only at hns₁ hsb₁ ⊢
 generalize hH2:s₂.heap.push { cls:=.type "list",dict:=none,data:=.seq ([]:List Value).toArray }=P2 at hns₁ hsb₁ ⊢;have hC:P2.objs.size=s₂.heap.objs.size+1:=by rw[←hH2,Heap.size_push]
 have hCle:s₂.heap.objs.size≤P2.objs.size:=by rw[hC];exact Nat.le_succ _
 have hDC:s₂.heap.objs.size≠P2.objs.size:=by rw[hC];exact Nat.ne_of_lt (Nat.lt_succ_self _)
 have below:∀b,b<s₂.heap.objs.size→b≠P2.objs.size:=λb hb=>by rw[hC];exact Nat.ne_of_lt (Nat.lt_succ_of_lt hb)
 have old:∀b o,s₂.heap.get? b=some o→h₁.get? b=some o:=λb o e=>hsb₁.extBut b o (below b (Heap.lt_size e)) (Heap.get?_push_of_some _ (hH2▸Heap.get?_push_of_some _ e));have hacc:h₁.get? s₂.heap.objs.size=some { cls:=.type "list",dict:=none,data:=.seq ([]:List Value).toArray }:=hsb₁.extBut _ _ hDC (Heap.get?_push_of_some _ (hH2▸Heap.get?_push_size _ rfl));have I4:=JHT (fp:=fp) (t':=s₂.toks+([]:List (Str×Value)).length) b (g.calm inferInstance) I2 f2 hlt hCle old hns₁;have st4:tn 0 h₁:=T.keep _ _ _ st2 λb _ o e=>old b o e;have hH2D:H2 s₂.heap.objs.size=none:=I2.hok.fresh (Nat.le_refl _);have fpX:∀ {ps:Pq}{H':Hp},(∀b∈fp,H' b=none)→(∀p∈ps,p.1=s₂.heap.objs.size)→∀b∈fp,FpOk (JAc X sc P2.objs.size (xs++mask xs 0 X.N) fp s₂ H2) ps H' b:=λ{ps H'} hn hp a ha=>by
  refine⟨hn a ha,below a (hlt a ha),I4.ok.exfs a ha,.inl ha,λx c e=>(I4.ok.exf a ha).2 x c e,λp hpp=>?_⟩;have hpp':p∈ps:=hpp;rw[hp p hpp'];exact Nat.ne_of_gt (hlt a ha)
 have loop:∀s₃:Shared,s₃={ s₂ with heap:=h₁,toks:=s₂.toks+([]:List (Str×Value)).length } →
    codeAny (model X.prog X.w) X.A (.compLoop (.ListComp elt [⟨target,iter,ifs,0⟩] sc pos) 0 (.ref it) (.ref s₂.heap.objs.size) (JAc X sc P2.objs.size (xs++mask xs 0 X.N) fp s₂ H2).env)
      (compPost (model X.prog X.w) X.A X.xe use Q (.ref s₂.heap.objs.size) P2.objs.size) s₃:=by
  rintro s₃ rfl;refine JDT (λn s'=>∃(j:Nat) (pre:St) (H':Hp) (ys:List D) (yv:List V) (its:List Value) (ep:Nat) (rest:List D),n=ds.length - j∧j≤ds.length∧pre.length=xs.length ∧
    Inv (JAc X sc P2.objs.size (xs++mask xs 0 X.N) fp s₂ H2) [] (pre++σ) H' s'∧tn j s'.heap∧(∀b∈fp,H' b=none)∧Same H2 H'∧H' s₂.heap.objs.size=none ∧
    s'.heap.get? s₂.heap.objs.size=some { cls:=.type "list",data:=.seq its.toArray ep }∧Vals yv its∧DenL B H' ys yv∧ys.length≤j∧JAt F (ds.drop j)=.ok rest∧zs=ys++rest) ?_ ds.length
    ⟨0,xs.map (λ_=>none),H2,[],[],[],0,zs,by simp,Nat.zero_le _,by simp,I4,st4,λb hb=>(f2 b hb).1,Same.refl _,hH2D,hacc,.nil,by simp only[DenL],Nat.le_refl _,by simpa using hz,rfl⟩
  rintro n s3 ⟨j,pre,H3,ys,yv,its,ep,rest,hn,hj,hpl,I3,st3,fr3,sm3,hD3,ho3,rv3,dn3,hyl,hr3,hzs⟩;subst hn;have I3p:Inv (JAc X sc P2.objs.size (xs++mask xs 0 X.N) fp s₂ H2) [(s₂.heap.objs.size,{ cls:=.type "list",data:=.seq its.toArray ep })] (pre++σ) H3 s3:=I3.pins_of λp hp=>by
    have e:p=(s₂.heap.objs.size,{ cls:=.type "list",data:=.seq its.toArray ep }):=by simpa using hp
    subst e;refine⟨ho3,hD3,hDC,λhm=>?_,λv z=>?_⟩
    · obtain⟨_,o,ho,_⟩:=I4.ok.funs.mem hm
      exact absurd (Heap.lt_size ho) (Nat.lt_irrefl _)
    · have z':Data.seq its.toArray ep=Data.cell v:=z
      cases z'
  have sameE:∀(e:Value) (s':Shared),noE e s'→notedBy (model X.prog X.w) X.A (JAc X sc P2.objs.size (xs++mask xs 0 X.N) fp s₂ H2).env (λe s'=>compPost (model X.prog X.w) X.A X.xe use Q (.ref s₂.heap.objs.size) P2.objs.size (.error e) s') e s':=λ_ _ z=>z.elim
  by_cases hlt3:j<ds.length
  ·
    have hd:ds[j]? = some ds[j]:=by simp[hlt3]
    obtain⟨go,yl⟩:=(io H3 sm3 j).1 ds[j] hd;refine wpAny_mono (T.item (JAc X sc P2.objs.size (xs++mask xs 0 X.N) fp s₂ H2) rfl rfl rfl rfl j [(s₂.heap.objs.size,{ cls:=.type "list",data:=.seq its.toArray ep })] s3 (pre++σ) H3 noE I3p (fpX fr3 (λp hp=>by rw[List.mem_singleton.mp hp])) st3 go) (λr s4 h4=>?_) sameE
    obtain⟨u,hu,h4⟩:=h4;subst hu;show wpAny _ _ (letOwnedTupleGo target (.ref it) u) _ _ s4;refine wpAny_mono h4 (λ_ s5 h5=>?_) sameE;obtain⟨v,H5,I5,r5,y5,st5,fr5⟩:=h5;obtain⟨s35,d5⟩:Same H3 H5∧Den B H5 ds[j] v:=by
      rcases yl v H5 y5 with ⟨e5,d5⟩|⟨p,ws,es,hp,e5,ex,ed,dl⟩
      · subst e5;exact⟨Same.refl _,Den.mono sm3 _ _ d5⟩
      · subst e5;subst ex
        have s35:Same H3 (upd H3 p (.tup ws)):=JBH hp;refine⟨s35,?_⟩;rw[ed];simp only[Den];exact⟨p,ws,rfl,SqT.of JAK,DenL.mono (sm3.trans s35) _ _ dl⟩
    replace sm3:=sm3.trans s35
    replace dn3:=DenL.mono s35 ys yv dn3
    have I5p:=I5.pinned (fpX fr5 (λp hp=>by rw[List.mem_singleton.mp hp])) (T.obj _ _ st5)
    rw[JFQ hlt3]at hr3;unfold JAt at hr3;have okσ:Sok B σ H5 δ:=(ok.mono sm2).mono sm3;cases qF:F ds[j] with
    |exc c=>rw[qF]at hr3;cases hr3
    |bad=>rw[qF]at hr3;cases hr3
    |ok o =>
      have hstep:=hrun P2.objs.size fp s₂ H2 _ s5 pre H5 ds[j] o v u hpl qF I5p r5 d5 okσ;refine wpAny_mono hstep (λ_ s6 h6=>wpAny_mono h6 (λokb s7 h7=>?_) sameE) sameE;have back:∀ {σ':St}{H':Hp}{s':Shared},Inv (JAc X sc P2.objs.size (xs++mask xs 0 X.N) fp s₂ H2) ([(s₂.heap.objs.size,{ cls:=.type "list",data:=.seq its.toArray ep })]++JFb fp s5.heap) σ' H' s' →
         s'.heap.get? s₂.heap.objs.size=some { cls:=.type "list",data:=.seq its.toArray ep }∧H' s₂.heap.objs.size=none∧tn (j+1) s'.heap∧(∀b∈fp,H' b=none):=λ{σ' H' s'} J'=>by
        have p0:=J'.pin (s₂.heap.objs.size,{ cls:=.type "list",data:=.seq its.toArray ep }) (List.mem_append_right _ (List.mem_append_left _ (by simp)))
        refine⟨p0.1,p0.2.1,T.keep _ _ _ st5 λa ha o e=>(J'.pin (a,o) (List.mem_append_right _ (List.mem_append_right _ (JBv ha e)))).1,λa ha=>?_⟩;obtain⟨o,e,_⟩:=T.obj _ _ st5 a ha;exact(J'.pin (a,o) (List.mem_append_right _ (List.mem_append_right _ (JBv ha e)))).2.1
      cases okb with
      |false =>
        obtain⟨eo,pre',H',hp',I',sm'⟩:=h7;subst eo;rw[qF]at hr3;obtain⟨b1,b2,b3,b4⟩:=back I';rw[if_neg Bool.false_ne_true];refine⟨ds.length - (j+1),by omega,j+1,pre',H',ys,yv,its,ep,rest,rfl,hlt3,hp',I'.pins_of (λp hp=>absurd hp (by simp)),b3,b4,sm3.trans sm',b2,b1,rv3,DenL.mono sm' ys yv dn3,by omega,hr3,hzs⟩
      |true =>
        rw[if_pos rfl]at h7 ⊢;obtain⟨y,eo,h7⟩:=h7;subst eo;rw[qF]at hr3;cases qr:JAt F (ds.drop (j+1)) with
        |exc c=>simp only[qr]at hr3;cases hr3
        |bad=>simp only[qr]at hr3;cases hr3
        |ok rs =>
         simp only[qr]at hr3;have hr3':y::rs=rest:=by injection hr3
         refine wpAny_mono h7 (λx s8 h8=>?_) sameE;obtain⟨pre',H',w',hp',I',sm',rw8,d8⟩:=h8;obtain⟨b1,b2,b3,b4⟩:=back I';have hsz:its.length≤j:=by rw[←rv3.length,←DenL.len ys yv dn3];exact hyl
         have hlim:its.toArray.size<sizeLine:=by rw[List.size_toArray,sizeLine_eq];omega
         refine call_meets PySem.F.slot_list_append ⟨_,b1,rfl⟩ PySem.F.entry_list_append (PySem.F.args_list_append_2 _ _) (PySem.list_append s₂.heap.objs.size its.toArray ep x (by omega)) ⟨b1,?_⟩
         have q8:=PySem.IsL.update b1 (λa=>a.push x);have q8':(s8.heap.update s₂.heap.objs.size (Obj.mapSeq (λa=>a.push x))).get? s₂.heap.objs.size=some { cls:=.type "list",data:=.seq (its++[x]).toArray (if (its.toArray.push x).size==its.toArray.size then ep else ep+1) }:=by simpa using q8
         have I0:Inv (JAc X sc P2.objs.size (xs++mask xs 0 X.N) fp s₂ H2) [] (pre'++σ) H' s8:=I'.pins_of (λp hp=>absurd hp (by simp))
         have I9:=I0.turned (h':=s8.heap.update s₂.heap.objs.size (Obj.mapSeq (λa=>a.push x))) (t':=s8.toks) (it:=s₂.heap.objs.size) (λb o hb e=>(Heap.get?_update_other _ _ (Ne.symm hb)).trans e) b2 hDC (.inr (Nat.le_refl _))
          (λx c e z=>by
            obtain⟨v',o',ho',_⟩:=I2.cell x c ((JBU b I.ok).mp e).2;rw[z]at ho';exact absurd (Heap.lt_size ho') (Nat.lt_irrefl _)) (λp hp=>absurd (show p∈([]:Pq) from hp) (by simp))
         refine⟨ds.length - (j+1),by omega,j+1,pre',H',ys++[y],yv++[w'],its++[x],_,rs,rfl,hlt3,hp',I9,T.keep _ _ _ b3 λa ha o e=>(Heap.get?_update_other _ _ (Nat.ne_of_gt (hlt a ha))).trans e,b4,sm3.trans sm',b2,q8',rv3.append (.cons rw8 .nil),
          DenL.append ys [y] yv [w'] (DenL.mono sm' ys yv dn3) (by simp only[DenL];exact⟨w',[],rfl,d8,rfl⟩),by rw[List.length_append,List.length_singleton];omega,qr,by rw[hzs,←hr3'];simp⟩
  ·
    have ej:j=ds.length:=by omega
    have stop:=(io H3 sm3 j).2 (by omega)
    refine wpAny_mono (T.done (JAc X sc P2.objs.size (xs++mask xs 0 X.N) fp s₂ H2) rfl rfl rfl rfl j [(s₂.heap.objs.size,{ cls:=.type "list",data:=.seq its.toArray ep })] s3 (pre++σ) H3 noE I3p (fpX fr3 (λp hp=>by rw[List.mem_singleton.mp hp])) st3 stop) (λr s4 h4=>?_) sameE
    obtain⟨hr,I5⟩:=h4;subst hr;show compPost _ _ _ _ _ _ _ _ s4;have p0:=I5.pin (s₂.heap.objs.size,{ cls:=.type "list",data:=.seq its.toArray ep }) (List.mem_append_right _ (by simp))
    have hrest:rest=[]:=by
      rw[ej,List.drop_length]at hr3;unfold JAt at hr3;injection hr3 with hr3
      exact hr3.symm
    have u0:Un (frs X.stack) fp H2 H3 s₂.heap s4.heap:=I5.base;have neD:∀b o,s₂.heap.get? b=some o→b≠s₂.heap.objs.size:=λb o e=>Nat.ne_of_lt (Heap.lt_size e);have nD:∀b o,H3 b=some o→b≠s₂.heap.objs.size:=λb o e z=>by rw[z,hD3]at e;cases e
    have u1:Un (frs X.stack) fp H2 (upd H3 s₂.heap.objs.size (.lst yv)) s₂.heap s4.heap :=
      ⟨u0.keep,u0.slot,λb o e n hx=>by rw[JAI (neD b o e)];exact u0.free b o e n hx,u0.there,λb xs' e=>by rw[JAI (nD b _ (u0.tups b xs' e))];exact u0.tups b xs' e,
        λb o u e=>by rw[JAI (nD b _ (u0.frzs b o u e))];exact u0.frzs b o u e,λb ps e=>by
         obtain⟨more,q⟩:=u0.tbls b ps e;exact⟨more,by rw[JAI (nD b _ q)];exact q⟩⟩
    have hvl:yv.length≤sizeLine:=by rw[←DenL.len ys yv dn3,sizeLine_eq];omega
    have hok1:HOk X.prog X.w (upd H3 s₂.heap.objs.size (.lst yv)) s4.heap:=λa u e=>by
      by_cases ha:a=s₂.heap.objs.size
      · subst ha
        rw[JAK]at e;cases e;exact⟨hvl,its,ep,rv3,p0.1⟩
      · rw[JAI ha]at e
        exact(I5.hok a u e).stay (λc w' _ q=>q) (λc q=>by rw[JAI (nD c _ q)];exact q) λc xs' q=>by rw[JAI (nD c _ q)];exact q
    have J:=I2.call' (s':=s4) I5.os u1 hok1 I5.bare λa ha=>⟨(f2 a ha).2.2.2.1,(f2 a ha).2.1,(f2 a ha).2.2.2.2.1,(f2 a ha).2.2.2.2.2⟩;obtain⟨m4,hn4,_⟩:=I5.loc;refine fin s₂.heap.objs.size P2.objs.size s4 m4 H3 yv hn4 J (sm2.trans sm3) hD3 ?_ ?_ ?_ ?_ ?_ ?_
    · rw[hzs,hrest,List.append_nil]
      exact dn3
    · rw[JAI (Ne.symm hDC)];exact I5.free
    · exact Nat.ne_of_gt (Nat.lt_of_lt_of_le I2.lt hCle)
    · exact Nat.le_trans I2.sz hCle
    · intro x c e z
      obtain⟨v',o',ho',_⟩:=I2.cell x c e;rw[z]at ho';exact absurd (Nat.lt_of_lt_of_le (Heap.lt_size ho') hCle) (Nat.lt_irrefl _)
    · intro p hp z
      exact absurd (Nat.lt_of_lt_of_le (Heap.lt_size (I2.pin p hp).1) (by rw[z];exact hCle)) (Nat.lt_irrefl _)
 exact codeAny_compStart_list (loop _ rfl) (T.self _ _ _ _ _ st4 (loop _ rfl))
end
theorem JHe{B:Bs}{H:Hp}{a:Addr}{ds:List D}{xs:List V}(q:SqL B.K H a xs)(l:DenL B H ds xs):ItOk B (Itl B.K a) H ds:=by
 intro H2 s2 i;have q2:=s2.seq q;refine⟨λd e=>?_,λh=>⟨xs,q2,by rw[←DenL.len ds xs l];exact h⟩⟩
 obtain⟨v,e1,dn⟩:=DenL.get ds xs i d l e;refine⟨⟨xs,v,q2,e1⟩,λx H3 y=>?_⟩;obtain⟨e3,y⟩:=y;have:=y xs q2;rw[e1]at this;cases this;exact .inl ⟨e3,dn⟩
theorem JJl{B:Bs}{H:Hp}{a:Addr}{ds:List D}{xs:List V}(q:SqT B.K H a xs)(l:DenL B H ds xs):ItOk B (Itt B.K a) H ds:=by
 intro H2 s2 i;have q2:=JJ2 s2 q;refine⟨λd e=>?_,λh=>⟨xs,q2,by rw[←DenL.len ds xs l];exact h⟩⟩
 obtain⟨v,e1,dn⟩:=DenL.get ds xs i d l e;refine⟨⟨xs,v,q2,e1⟩,λx H3 y=>?_⟩;obtain⟨e3,y⟩:=y;have:=y xs q2;rw[e1]at this;cases this;exact .inl ⟨e3,dn⟩
theorem JGg{B:Bs}{H:Hp}{lo hi:Int}:ItOk B (Itr lo (hi - lo).toNat) H (JGM lo hi):=by
 intro H2 s2 i;unfold JGM;refine⟨λd e=>?_,λh=>show(hi - lo).toNat≤i by simpa using h⟩
 rw[List.getElem?_map]at e
 by_cases hi':i<(hi - lo).toNat
 ·rw[List.getElem?_range hi']at e;simp only[Option.map_some,Option.some.injEq]at e;refine⟨hi',λx H3 y=>?_⟩;obtain⟨e3,y⟩:=y;refine .inl ⟨e3,?_⟩;rw[←e,y];simp only[Den]
 ·rw[List.getElem?_eq_none_iff.mpr (by simpa using hi')]at e
  cases e
noncomputable def Its(x:Str):It:=⟨λi _=>i<x.cps.size,λi H v H'=>H'=H∧∃c,x.cps[i]? = some c∧v=.str ⟨#[c]⟩,λi _=>x.cps.size≤i⟩
theorem JJP{P:Program}{w:World}{K:Kq}{tg:Expr}(x:Str)(t:Tok)(it:Addr):Turn P w K tg (Its x) [it] it (λi h=>h.IsStrIter it "str_ascii_iterator" x t i) where
 mem:=by simp
 obj:=λi h st b hb=>by
  have e:b=it:=by simpa using hb
  subst e;obtain⟨o,e,c,d⟩:=st;exact⟨o,e,λv z=>by rw[d]at z;cases z⟩
 keep:=λi h h' st k=>let ⟨o,ho,r⟩:=st;⟨o,k it (by simp) o ho,r⟩
 item:=by
  rintro X rfl rfl rfl hc i pins s σ H E I hf st hg;obtain⟨f0,f1,f2,f3,f4,f5⟩:=hf it (by simp)
  have hg:i<x.cps.size:=hg;refine wpAny_pyNext_ascii_item st (c:=x.cps[i]) (by simp[hg]) λh' st' sb=>?_
  have I1:Inv X pins σ H { s with heap:=h',toks:=s.toks+1 }:=I.turned (t':=s.toks+1) (λb o hb e=>(sb.2 b hb).trans e) f0 f1 f3 f4 f5
  obtain⟨o,e,c,d⟩:=id st';exact⟨_,rfl,JKN (s:={ s with heap:=h',toks:=s.toks+1 }) e c d (by decide) ⟨.str ⟨#[x.cps[i]]⟩,H,I1,⟨_,rfl⟩,⟨rfl,x.cps[i],by simp[hg],rfl⟩,st',λb hb=>(hf b hb).1⟩⟩
 done:=by
  rintro X rfl rfl rfl hc i pins s σ H E I hf st hg;obtain⟨f0,f1,f2,f3,f4,f5⟩:=hf it (by simp)
  exact wpAny_pyNext_ascii_end (I.ok.hd hc) st (by have:x.cps.size≤i:=hg;simp[this]) λh' eb=>⟨rfl,I.turned (t':=s.toks) (λb o hb e=>eb b o hb e) f0 f1 f3 f4 f5⟩
 self:=λ_ _ _ _ _ st h=>wpAny_pyIter_striter_ascii st h
theorem JKQ{B:Bs}{H:Hp}{x:Str}:ItOk B (Its x) H (x.cps.toList.map λc=>.str ⟨#[c]⟩):=by
 intro H2 s2 i;refine⟨λd e=>?_,λh=>show x.cps.size≤i by simpa using h⟩
 rw[List.getElem?_map]at e;obtain⟨c,e1,rfl⟩:=Option.map_eq_some_iff.mp e;refine⟨show i<x.cps.size by simpa using(List.getElem?_eq_some_iff.mp e1).1,λv H3 y=>?_⟩
 obtain⟨e3,c',e4,e5⟩:=y;refine .inl ⟨e3,?_⟩;rw[Array.getElem?_toList]at e1;rw[e1]at e4;cases e4;simp only[Den];exact e5
section
variable{X:Cx}{B:Bs}{C:Cn}{CX:CXT}{XX:Nat→Hp→Prop}{G:List (Str×GK)}{a b c tg:Expr}{x y z:E}{pos p:Pos}
theorem JFy(g:Gk X B C CX XX G)(ha:PE X a (RE B C XX x))(hi:∀δ,evI C x δ=(ev C x δ).bind JBQ):PI X tg a (RI B C XX x):=by
 intro pins s σ H R I ⟨δ,ok,k⟩;rw[hi]at k;cases q:ev C x δ with
 |ok d =>
  rw[q]at k;cases d with
  |list ds =>
   refine JH7 ha pins s σ H R I ⟨δ,ok,?_⟩;rw[q];intro v H1 s1 d1;simp only[Den]at d1;obtain⟨p,xs,e,hq,l⟩:=d1;refine⟨p,e,⟨xs,g.K▸hq⟩,?_⟩;rw[g.K];exact k _ H1 s1 (JHe hq l)
  |tuple ds =>
   refine JPx ha pins s σ H R I ⟨δ,ok,?_⟩;rw[q];intro v H1 s1 d1;simp only[Den]at d1;obtain⟨p,xs,e,hq,l⟩:=d1;refine⟨p,e,⟨xs,g.K▸hq⟩,?_⟩;rw[g.K];exact k _ H1 s1 (JJl hq l)
  |str w =>
   simp only[VI.R.bind,JBQ]at k
   split at k
   case isFalse=>exact k.elim
   rename_i hw;refine thn (ha pins s σ H (λv H1=>v=.str w∧R (Its w) H1) I ⟨δ,ok,?_⟩) λv s1 h_=>?_
   ·rw[q];intro v H1 s1 d1;simp only[Den]at d1;exact⟨d1,k _ H1 s1 JKQ⟩
   ·obtain⟨v,H1,I1,r1,rfl,q1⟩:=h_;obtain⟨t,rfl⟩:=r1;refine wpAny_pyIter_ascii hw ?_;refine⟨s1.heap.objs.size,[s1.heap.objs.size],_,_,H1,rfl,I1.kept (t':=s1.toks) λb o e=>Heap.get?_push_of_some _ e,JJP w t _,⟨_,Heap.get?_push_size _ rfl,rfl,rfl⟩,λb hb=>?_,q1⟩;have e:b=s1.heap.objs.size:=by simpa using hb
    subst e;exact I1.fpOk (Nat.le_refl _) (I1.hok.fresh (Nat.le_refl _))
  |_=>exact fF k
 |exc c =>
  rw[q]at k;refine JH7 ha pins s σ H R I ⟨δ,ok,?_⟩;rw[q];exact k
 |bad=>rw[q]at k;exact k.elim
theorem JDH{i:Int}(h:small i=true):-(2 ^ 62)≤i∧i<2 ^ 62:=by
 unfold small at h;simp only[Bool.and_eq_true,decide_eq_true_eq]at h;exact h
theorem JPT(g:Gk X B C CX XX G)(hg:Gl X "range")(hm:X.mg "range"=none)(ha:PA X [a] (RA B C XX x))(hc:cnt x=1)(hs:starEach [a] X.env=[(false,eval a X.env)]):PI X tg (.Call (.Name "range" p) [a] [] pos) (RI B C XX (.rng x)):=by
 intro pins s σ H R I ⟨δ,ok,k⟩;refine JHw hg hm ha hs pins s σ H R I ?_;simp only[evI]at k;refine⟨δ,ok,?_⟩;cases q:evA C x δ with
 |ok ds =>
  rw[q]at k;intro vs H1 s1 d1;have hl:=JCU x δ ds q;rw[hc]at hl
  match ds,hl,k,d1 with
  | [.none],_,k,_=>exact fF k
  | [.bool _],_,k,_=>exact fF k
  | [.str _],_,k,_=>exact fF k
  | [.list _],_,k,_=>exact fF k
  | [.tuple _],_,k,_=>exact fF k
  | [.dict _],_,k,_=>exact fF k
  | [.int j],_,k,d1 =>
   simp only[VI.R.bind,rngD]at k
   split at k
   ·rename_i hsm;simp only[DenL,Den]at d1;obtain⟨v,r,e,e1,e2⟩:=d1;subst e2;subst e;subst e1;obtain⟨b1,b2⟩:=JDH hsm;refine⟨j,rfl,b1,b2,?_⟩;have:=k (Itr 0 (j - 0).toNat) H1 s1 JGg;simpa using this
   ·exact k.elim
 |exc c=>rw[q]at k;exact k
 |bad=>rw[q]at k;exact k.elim
theorem JQh(g:Gk X B C CX XX G)(hg:Gl X "range")(hm:X.mg "range"=none)(ha:PA X [a,b] (RA B C XX x))(hc:cnt x=2)(hs:starEach [a,b] X.env=[(false,eval a X.env),(false,eval b X.env)])(hs2:starEach [b] X.env=[(false,eval b X.env)]) :
  PI X tg (.Call (.Name "range" p) [a,b] [] pos) (RI B C XX (.rng x)):=by
 intro pins s σ H R I ⟨δ,ok,k⟩;refine JHX hg hm ha hs hs2 pins s σ H R I ?_;simp only[evI]at k;refine⟨δ,ok,?_⟩;cases q:evA C x δ with
 |ok ds =>
  rw[q]at k;intro vs H1 s1 d1;have hl:=JCU x δ ds q;rw[hc]at hl
  match ds,hl,k,d1 with
  | [.none,_],_,k,_=>exact fF k
  | [.bool _,_],_,k,_=>exact fF k
  | [.str _,_],_,k,_=>exact fF k
  | [.list _,_],_,k,_=>exact fF k
  | [.tuple _,_],_,k,_=>exact fF k
  | [.dict _,_],_,k,_=>exact fF k
  | [.int _,.none],_,k,_=>exact fF k
  | [.int _,.bool _],_,k,_=>exact fF k
  | [.int _,.str _],_,k,_=>exact fF k
  | [.int _,.list _],_,k,_=>exact fF k
  | [.int _,.tuple _],_,k,_=>exact fF k
  | [.int _,.dict _],_,k,_=>exact fF k
  | [.int i,.int j],_,k,d1 =>
   simp only[VI.R.bind,rngD]at k
   split at k
   ·rename_i hsm;simp only[Bool.and_eq_true]at hsm;simp only[DenL,Den]at d1;obtain⟨v,r,e,e1,v',r',e',e1',e2⟩:=d1;subst e2;subst e';subst e;subst e1;subst e1';obtain⟨b1,b2⟩:=JDH hsm.1;obtain⟨b3,b4⟩:=JDH hsm.2;exact⟨i,j,rfl,⟨b1,b2,b3,b4⟩,k _ H1 s1 JGg⟩
   ·exact k.elim
 |exc c=>rw[q]at k;exact k
 |bad=>rw[q]at k;exact k.elim
end
def Ownb:HO→Prop
 |.lst _=>True
 |.dK _=>True
 |_=>False
def OwnO(B:Bs)(H:Hp):D→HO→Prop
 |.list ds,.lst xs=>DenL B H ds xs
 |.dict kvs,.dK xs=>DenK B H kvs xs
 |_,_=>False
theorem OwnO.nil{B:Bs}{H:Hp}:OwnO B H (.list []) (.lst []):=by show DenL B H [] [];simp only[DenL]
theorem OwnO.mono{B:Bs}{H H':Hp}(s:Same H H')(d:D)(o:HO)(h:OwnO B H d o):OwnO B H' d o:=by
 cases d<;>cases o<;>first|exact fF h|exact DenL.mono s _ _ h|exact DenK.mono s _ _ h
theorem OwnO.b{B:Bs}{H:Hp}{d:D}{o:HO}(h:OwnO B H d o):Ownb o:=by
 cases d<;>cases o<;>first|exact fF h|exact trivial
theorem OwnO.den{B:Bs}{H:Hp}{d:List D}{o:HO}{a:Addr}(h:OwnO B H (.list d) o)(e:H a=some o):Den B H (.list d) (.ref a):=by
 cases o<;>first
  |exact fF h
  |(simp only[Den];exact⟨a,_,rfl,SqL.of e,h⟩)
theorem OwnO.nl{B:Bs}{H:Hp}{d:D}{o:HO}(h:OwnO B H d o):JAW d=false:=by
 cases d with
 |list ds=>simp only[JAW]
 |dict kvs =>
  cases o with
  |dK xs =>
   cases kvs with
   |nil=>simp only[JAW]
   |cons p r =>
    obtain⟨k,w⟩:=p;have h:DenK B H ((k,w)::r) xs:=h;simp only[DenK]at h;obtain⟨x,v',r',_,ek,_⟩:=h;subst ek;simp[JAW]
  |_=>exact fF h
 |_=>cases o<;>exact fF h
theorem JBo{G:List (Str×GK)}{n:Nat}{it:Bool}{names:Nq}{N:List Str}{e:Expr}{x:E}(h:JAN G n it names N e=some x)(env:PySem.Env)(v:Value):foldedSetIterable e env v=pure v:=by
 cases n with
 |zero=>simp[JAN,JAX,JAO]at h
 |succ n=>cases e<;>first|rfl|(cases it<;>simp[JAN,JAX,JAO,xOf,tOf,tRaw,dOf,dRaw,Option.bind_none,ite_self,xRaw]at h)
theorem Gk.nox{X X':Cx}{B:Bs}{C:Cn}{CX:CXT}{XX:Nat→Hp→Prop}{G:List (Str×GK)}(g:Gk X B C CX XX G)(h1:X'.K=X.K)(h2:X'.A=X.A)(h3:X'.mg=X.mg)(h4:X'.prog=X.prog)(h5:X'.w=X.w)(h6:X'.base=X.base)(h7:X'.calm=true)
  (hp:JDo CX X' (EX B λ_ _=>False)):Gk X' B C CX (λ_ _=>False) G where
 K:=h1.trans g.K
 W:=h5.trans g.W
 anti:=λ_ _ _ _ z=>z
 units:=by rw[h2];exact g.units
 calm:=λ_=>h7
 fn:=by rw[h1,h2,h3,h4,h5,h6];exact g.fn
 pas:=hp
 con:=by rw[h3];exact g.con
 noexg:=g.noexg
 blt:=by rw[h3];exact g.blt
 rng:=by rw[h3];exact g.rng
 isi:=by rw[h3];exact g.isi
 ty:=by rw[h3];exact g.ty
 cls:=by rw[h3];exact g.cls
 nam:=by rw[h3];exact g.nam
 tk:=λz=>by have:=g.tk z;unfold TkP at *;rw[h1,h2,h3,h4,h5,h6];exact this
theorem JCJ{f:D→R (Option D)}{c:Nat}:∀ {ds:List D},JAt f ds≠.exc c
 | []=>λh=>by unfold JAt at h;cases h
 |x::xs=>λh=>by
  unfold JAt at h;cases q:f x with
  |ok o =>
   rw[q]at h;cases o with
   |none=>exact JCJ h
   |some y =>
    cases q2:JAt f xs with
    |ok ys=>simp only[q2]at h;cases h
    |exc c=>simp only[q2]at h;cases h
    |bad=>simp only[q2]at h;cases h
  |exc c=>rw[q]at h;cases h
  |bad=>rw[q]at h;cases h
section
variable{X:Cx}{B:Bs}{C:Cn}{CX:CXT}{XX:Nat→Hp→Prop}{G:List (Str×GK)}{a b c tg:Expr}{x y z:E}{pos p:Pos}
noncomputable def itemF(C:Cn)(k:Nat)(x y:E)(δ:Env)(d:D):R (Option D):=(push k d δ).bind λδ1=>(evT C y δ1).bind λt=>if t=true then (ev C x δ1).bind λz=>.ok (some z) else .ok none
theorem JGl{σ:St}{H:Hp}{δ:Env}{d:D}{v:V}(ok:Sok B σ H δ)(dn:Den B H d v):Sok B (some v::σ) H (.val d::δ):=by
 intro i d' e;cases i with
 |zero =>
  have:d=d':=by
   have e':(R.ok d:R D)=.ok d':=e;injection e'
  subst this;exact⟨v,rfl,dn⟩
 |succ i=>exact ok i d' e
theorem JCI{X':Cx}{nm:Str}{px:Pos}{elt:Expr}{ifs:List Expr}{σ:St}{δ:Env}(hN0:X'.N.Nodup)(hN:X'.N[0]? = some nm)(hloc:X'.env.scope.names.lookup nm=some .local)
  (he:PE X' elt (RE B C (λ_ _=>False) x)) (hc:∀c,ifs=[c]→PT X' c (RT B C (λ_ _=>False) y)) (hifs:ifs=[]∧y=.cbl true∨∃c,ifs=[c]) (hxe:X'.xe=noE) :
  JB9 X' B σ 1 δ (.Name nm px) elt ifs (itemF C 0 x y δ):=by
 intro pins s pre H d o v u hpre hF I r dn ok;obtain⟨p0,rfl⟩:∃p0,pre=[p0]:=by
  match pre,hpre with
  | [p0],_=>exact⟨p0,rfl⟩
 have hF':(evT C y (.val d::δ)).bind (λt=>if t=true then (ev C x (.val d::δ)).bind λz=>.ok (some z) else .ok none)=.ok o:=hF;have ok1:=JGl ok dn;have hst:=JEN (X:=X') (pos:=px) hN0 hN (.inl hloc) (.inr hloc) pins s ([p0]++σ) H v u (λσ' H'=>σ'=some v::σ∧H'=H) I r ⟨rfl,rfl⟩;rw[hxe]at hst;refine thn hst λ_ s2 ⟨σ2,H2,I2,e1,e2⟩=>?_;subst e1;subst e2;have elt_go:∀(s3:Shared) (H3:Hp) (t:Bool),Inv X' pins (some v::σ) H3 s3→Same H2 H3→evT C y (.val d::δ)=.ok t →
    (if t=true then ∃z,o=some z∧wpAny (model X'.prog X'.w) X'.A (eval elt X'.env) (λx s₄=>∃pre' H' w,pre'.length=1∧Inv X' pins (pre'++σ) H' s₄∧Same H2 H'∧RelV w x∧Den B H' z w) noE s3
      else o=none∧∃pre' H',pre'.length=1∧Inv X' pins (pre'++σ) H' s3∧Same H2 H'):=by
  intro s3 H3 t I3 s23 qt;rw[qt]at hF';cases t with
  |true =>
    rw[if_pos rfl];simp only[R.bind,if_true]at hF';cases qx:ev C x (.val d::δ) with
    |ok z =>
      simp only[qx]at hF';have eo:o=some z:=by injection hF' with h;exact h.symm
      refine⟨z,eo,?_⟩;have hh:=he pins s3 (some v::σ) H3 (λw H'=>Same H3 H'∧Den B H' z w) I3 ⟨_,ok1.mono s23,by rw[qx];exact λw H' s' d'=>⟨s',d'⟩⟩
      rw[hxe]at hh;exact thn hh λx' s4 ⟨w,H',I4,rw4,s34,d4⟩=>⟨[some v],H',w,rfl,I4,s23.trans s34,rw4,d4⟩
    |exc c=>simp only[qx]at hF';cases hF'
    |bad=>simp only[qx]at hF';cases hF'
  |false =>
    rw[if_neg Bool.false_ne_true];simp only[R.bind,Bool.false_eq_true,if_false]at hF';have eo:o=none:=by injection hF' with h;exact h.symm
    exact⟨eo,[some v],H3,rfl,I3,s23⟩
 rcases hifs with ⟨e1,e2⟩|⟨c',e1⟩
 ·subst e1;subst e2;exact wpAny_tests_nil (elt_go s2 H2 true I2 (Same.refl _) (by simp only[evT]))
 ·subst e1;refine wpAny_tests_one ?_;cases qt:evT C y (.val d::δ) with
  |ok t =>
    have hh:=hc c' rfl pins s2 (some v::σ) H2 (λt' H'=>t'=t∧Same H2 H') I2 ⟨_,ok1,by rw[qt];exact λH' s'=>⟨rfl,s'⟩⟩
    rw[hxe]at hh;refine thn hh λt' s3 ⟨H3,I3,e3,s23⟩=>?_;subst e3;exact elt_go s3 H3 t' I3 s23 qt
  |exc c=>rw[qt]at hF';cases hF'
  |bad=>rw[qt]at hF';cases hF'
theorem JCk{e:Expr}{r:List Expr}{xs:List Str}(h:namesOf (e::r)=some xs):∃nm p ys,e=.Name nm p∧namesOf r=some ys∧xs=nm::ys:=by
 unfold namesOf at h
 split at h
 ·rename_i q;cases q
 ·rename_i q;cases q;obtain⟨ys,h1,h2⟩:=Option.map_eq_some_iff.mp h;exact⟨_,_,ys,rfl,h1,h2.symm⟩
 ·cases h
theorem JCf{env:PySem.Env}:∀ {ts:List Expr}{xs:List Str},namesOf ts=some xs→(assignEach ts env).findIdx? (·.1)=none∧(assignEach ts env).length=xs.length
 | [],xs,h=>by unfold namesOf at h;cases h;exact⟨rfl,rfl⟩
 |e::r,xs,h=>by
  obtain⟨nm,p,ys,rfl,h1,rfl⟩:=JCk h;obtain⟨q1,q2⟩:=JCf (env:=env) h1;refine⟨?_,by show(assignEach r env).length+1=_;rw[q2];rfl⟩
  show List.findIdx? (·.1) ((false,assign (.Name nm p) env)::assignEach r env)=none;rw[List.findIdx?_cons];simp[q1]
noncomputable def JD8:Nat→List V→St→St
 |_,[],σ=>σ
 |j,v::r,σ=>JD8 (j+1) r (σ.set j (some v))
theorem JDI:∀(vs:List V) (a pre σ:St),pre.length=vs.length→JD8 a.length vs (a++(pre++σ))=a++(vs.map some++σ)
 | [],a,pre,σ,h=>by
  have:pre=[]:=List.length_eq_zero_iff.mp h;subst this;rfl
 |v::r,a,[],σ,h=>by cases h
 |v::r,a,p::pre,σ,h=>by
  simp only[JD8];have e:(a++(p::pre++σ)).set a.length (some v)=(a++[some v])++(pre++σ):=by
   rw[List.set_append_right _ _ (Nat.le_refl _),Nat.sub_self];simp
  rw[e,show a.length+1=(a++[some v]).length by simp,JDI r (a++[some v]) pre σ (by simpa using h)]
  simp
theorem JGe{X':Cx}(hN0:X'.N.Nodup):∀ {ts:List Expr}{xs:List Str}{j:Nat},namesOf ts=some xs→(∀(i:Nat) (nm:Str),xs[i]? = some nm→X'.N[j+i]? = some nm)→(∀nm∈xs,X'.env.scope.names.lookup nm=some .local)→PGs X' ts (λvs σ H Q=>vs.length=xs.length∧Q (JD8 j vs σ) H)
 | [],xs,j,h,_,_=>by
  unfold namesOf at h;cases h;intro pins s σ H vs us Q I r ⟨e,q⟩;have ev:vs=[]:=List.length_eq_zero_iff.mp e;subst ev;exact JIU pins s σ H [] us Q I r ⟨rfl,q⟩
 |e::r,xs,j,h,hN,hl=>by
  obtain⟨nm,p,ys,rfl,h1,rfl⟩:=JCk h;have hx:X'.env.scope.names.lookup nm=some .local:=hl nm (by simp)
  have ih:=JGe hN0 (j:=j+1) h1 (λi z e=>by have:=hN (i+1) z (by simpa using e);rw[show j+1+i=j+(i+1) by omega];exact this) (λz hz=>hl z (by simp[hz]))
  intro pins s σ H vs us Q I rv ⟨e,q⟩;refine JF7 (JEN hN0 (hN 0 nm rfl) (.inl hx) (.inr hx)) ih rfl pins s σ H vs us Q I rv ?_
  match vs,e,q with
  |v::vr,e,q=>exact⟨v,vr,rfl,by simpa using e,q⟩
theorem JDs{σ:St}{H:Hp}{δ:Env}:∀ {ds:List D}{vs:List V},Sok B σ H δ→DenL B H ds vs→Sok B (vs.map some++σ) H (ds.map Sl.val++δ)
 | [],vs,ok,dn=>by simp only[DenL]at dn;subst dn;exact ok
 |d::ds,vs,ok,dn=>by
  simp only[DenL]at dn;obtain⟨v,r,rfl,d1,d2⟩:=dn;exact JGl (JDs ok d2) d1
theorem item_tup{X':Cx}{ts:List Expr}{kt:Nat}{pt:Pos}{xs:List Str}{elt:Expr}{ifs:List Expr}{σ:St}{δ:Env}(hcalm:X'.calm=true)(hK:X'.K=B.K)(hx:namesOf ts=some xs)(hne:xs≠[])(hN0:X'.N.Nodup)(hN:∀(i:Nat) (nm:Str),xs[i]? = some nm→X'.N[i]? = some nm)(hloc:∀nm∈xs,X'.env.scope.names.lookup nm=some .local)
  (he:PE X' elt (RE B C (λ_ _=>False) x)) (hc:∀c,ifs=[c]→PT X' c (RT B C (λ_ _=>False) y)) (hifs:ifs=[]∧y=.cbl true∨∃c,ifs=[c]) (hxe:X'.xe=noE) :
  JB9 X' B σ xs.length δ (.Tuple ts kt pt) elt ifs (itemF C xs.length x y δ):=by
 intro pins s pre H d o v u hpre hF I r dn ok;obtain⟨ds,ed,hdl,hF'⟩:∃ds,d=.tuple ds∧ds.length=xs.length∧(evT C y (ds.map Sl.val++δ)).bind (λt=>if t=true then (ev C x (ds.map Sl.val++δ)).bind λz=>.ok (some z) else .ok none)=.ok o:=by
  obtain⟨n,hn⟩:∃n,xs.length=n+1:=⟨xs.length - 1,by have:=List.length_pos_iff.mpr hne;omega⟩
  rw[hn]at hF ⊢;unfold itemF push at hF;cases d<;>first|(cases hF;done)|skip
  rename_i ds;simp only at hF
  split at hF
  · rename_i h;exact⟨ds,rfl,h,hF⟩
  · cases hF
 subst ed;simp only[Den]at dn;obtain⟨a,vs,rfl,sq,dl⟩:=dn;have hvl:=DenL.len ds vs dl;have ok1:=JDs ok dl;obtain⟨st1,st2⟩:=JCf (env:=X'.env) hx;have hst:=JKu (X:=X') (pos:=pt) (k:=kt) hcalm (JGe (j:=0) hN0 hx (λi nm e=>by rw[Nat.zero_add];exact hN i nm e) hloc) st2 st1 pins s (pre++σ) H (.ref a) u (λσ' H'=>σ'=vs.map some++σ∧H'=H) I r
  ⟨a,vs,rfl,by rw[hK];exact sq,by omega,by omega,by have:=JDI vs [] pre σ (by omega);simpa using this,rfl⟩
 rw[hxe]at hst;refine thn hst λ_ s2 ⟨σ2,H2,I2,e1,e2⟩=>?_;subst e1;subst e2;have hlen:(vs.map some:St).length=xs.length:=by simp;omega
 generalize (vs.map some:St)=P at *;generalize ds.map Sl.val++δ=δ1 at *;have elt_go:∀(s3:Shared) (H3:Hp) (t:Bool),Inv X' pins (P++σ) H3 s3→Same H2 H3→evT C y δ1=.ok t →
    (if t=true then ∃z,o=some z∧wpAny (model X'.prog X'.w) X'.A (eval elt X'.env) (λx s₄=>∃pre' H' w,pre'.length=xs.length∧Inv X' pins (pre'++σ) H' s₄∧Same H2 H'∧RelV w x∧Den B H' z w) noE s3
      else o=none∧∃pre' H',pre'.length=xs.length∧Inv X' pins (pre'++σ) H' s3∧Same H2 H'):=by
  intro s3 H3 t I3 s23 qt;rw[qt]at hF';cases t with
  |true =>
    rw[if_pos rfl];simp only[R.bind,if_true]at hF';cases qx:ev C x δ1 with
    |ok z =>
      simp only[qx]at hF';have eo:o=some z:=by injection hF' with h;exact h.symm
      refine⟨z,eo,?_⟩;have hh:=he pins s3 (P++σ) H3 (λw H'=>Same H3 H'∧Den B H' z w) I3 ⟨_,ok1.mono s23,by rw[qx];exact λw H' s' d'=>⟨s',d'⟩⟩
      rw[hxe]at hh;exact thn hh λx' s4 ⟨w,H',I4,rw4,s34,d4⟩=>⟨P,H',w,hlen,I4,s23.trans s34,rw4,d4⟩
    |exc c=>simp only[qx]at hF';cases hF'
    |bad=>simp only[qx]at hF';cases hF'
  |false =>
    rw[if_neg Bool.false_ne_true];simp only[R.bind,Bool.false_eq_true,if_false]at hF';have eo:o=none:=by injection hF' with h;exact h.symm
    exact⟨eo,P,H3,hlen,I3,s23⟩
 rcases hifs with ⟨e1,e2⟩|⟨c',e1⟩
 ·subst e1;subst e2;exact wpAny_tests_nil (elt_go s2 H2 true I2 (Same.refl _) (by simp only[evT]))
 ·subst e1;refine wpAny_tests_one ?_;cases qt:evT C y δ1 with
  |ok t =>
    have hh:=hc c' rfl pins s2 (P++σ) H2 (λt' H'=>t'=t∧Same H2 H') I2 ⟨_,ok1,by rw[qt];exact λH' s'=>⟨rfl,s'⟩⟩
    rw[hxe]at hh;refine thn hh λt' s3 ⟨H3,I3,e3,s23⟩=>?_;subst e3;exact elt_go s3 H3 t' I3 s23 qt
  |exc c=>rw[qt]at hF';cases hF'
  |bad=>rw[qt]at hF';cases hF'
def REF(B:Bs)(C:Cn)(XX:Nat→Hp→Prop)(x:E):TE:=λσ H Q=>∃δ,Sok B σ H δ∧(match ev C x δ with
 |.ok d=>∀D ds xs H1,d=ds→Same H H1→H1 D=none→OwnO B H1 ds xs→Q (.ref D) (upd H1 D xs)
 |.exc c=>XX c H
 |.bad=>False)
theorem REF.of{e:Expr}(h:PE X e (REF B C XX x))(hl:∀δ d,ev C x δ=.ok d→∃ds,d=.list ds):PE X e (RE B C XX x) :=
 PE.imp h λσ H Q ⟨δ,ok,k⟩=>by
  refine⟨δ,ok,?_⟩;cases q:ev C x δ with
  |ok d =>
   rw[q]at k;intro D ds xs H1 e s1 hD dn;refine k _ _ (s1.trans (JBH hD)) ?_;subst e;obtain⟨ys,rfl⟩:=hl δ _ q;exact(OwnO.mono (JBH hD) _ xs dn).den JAK
  |exc c=>rw[q]at k;exact k
  |bad=>rw[q]at k;exact k
theorem JPP(g:Gk X B C CX XX G){es:List Expr}(h:PA X es (RA B C XX x))(hl:cnt x≤1000):PE X (.List es pos) (REF B C XX (.lst x)) :=
 PE.imp (JLP h) λσ H Q ⟨δ,ok,k⟩=>by
  simp only[ev]at k;refine⟨δ,ok,?_⟩;cases q:evA C x δ with
  |ok ds =>
   rw[q]at k;intro vs H1 s1 d1;have e1:=DenL.len ds vs d1;have e2:=JCU x δ ds q;exact⟨by rw[sizeLine_eq];omega,λp hp=>k p _ (.lst vs) H1 rfl s1 hp d1⟩
  |exc c=>rw[q]at k;exact k
  |bad=>rw[q]at k;exact k.elim
theorem JGP[Cool G](g:Gk X B C CX XX G){elt iter target:Expr}{ifs:List Expr}{sc:Scope}{xs:List Str}{k:Nat}(b:BlkOk X sc xs)(hi:PI X target iter (RI B C XX z))(hs:∀v,foldedSetIterable iter X.env v=pure v)
  (hrun:∀Cc fp s0 H0 σ δ,JB9 (JAc X sc Cc (xs++mask xs 0 X.N) fp s0 H0) B σ xs.length δ target elt ifs (itemF C k x y δ))
  {pins:Pq}{s:Shared}{σ:St}{H:Hp}{Q:VK}{pos':Pos}{use:Option (Value→Sem Unit)}{Q':Value→Shared→Prop}(I:Inv X pins σ H s) (h:REF B C XX (.cmpr k x z y) σ H Q)
  (fin:∀(D Cc:Addr) (s':Shared) (m:Str→Option Value) (H':Hp),s'.heap.Ns Cc m→Inv X pins σ H' s'→Q (.ref D) H'→H' Cc=none→Cc≠X.env.locals→X.s₀.heap.objs.size≤Cc →
    (∀x c,X.env.cells.lookup x=some c→c≠Cc)→(∀p∈X.pn++pins,p.1≠Cc)→compPost (model X.prog X.w) X.A X.xe use Q' (.ref D) Cc (.ok .next) s') :
  wpAny (model X.prog X.w) X.A (comprehension (.ListComp elt [⟨target,iter,ifs,0⟩] sc pos) sc X.env pos' (newList []) false (eval iter X.env) use) Q' X.xe s:=by
 obtain⟨δ,ok,kk⟩:=h;simp only[ev]at kk;cases q:evI C z δ with
 |ok ds =>
  simp only[q,R.bind]at kk
  split at kk
  · rename_i d hd
    split at hd
    · rename_i hlen
      cases qz:JAt (itemF C k x y δ) ds with
      |ok zs =>
       have qz':=qz;unfold itemF at qz';simp only[R.bind]at qz';rw[qz']at hd;have hd':PyData.list zs=d:=by injection hd
       refine JIN g b hi hs (λCc fp s0 H0=>hrun Cc fp s0 H0 σ δ) I ok q hlen qz ?_;intro D Cc s' m H3 yv hn J sm hD dn h1 h2 h3 h4 h5;exact fin D Cc s' m _ hn J (kk D _ (.lst yv) H3 hd'.symm sm hD dn) h1 h2 h3 h4 h5
      |exc c=>exact(JCJ qz).elim
      |bad=>unfold itemF at qz;simp only[R.bind]at qz;rw[qz]at hd;cases hd
    · cases hd
  · rename_i c hd
    exfalso
    split at hd
    · cases qz:JAt (itemF C k x y δ) ds with
      |ok zs=>unfold itemF at qz;simp only[R.bind]at qz;rw[qz]at hd;cases hd
      |exc c=>exact(JCJ qz).elim
      |bad=>unfold itemF at qz;simp only[R.bind]at qz;rw[qz]at hd;cases hd
    · cases hd
  · exact kk.elim
 |exc c =>
  simp only[q,R.bind]at kk;refine wpAny_comprehension_free rfl hs (b.clos I.ok) b.kind b.loc (wpAny_mono (hi pins s σ H (λ_ _=>False) I ⟨δ,ok,by rw[q];exact kk⟩) (λxv s₁ h₁=>wpAny_mono h₁ (λitv s₂ h₂=>?_) (λ_ _ e=>e)) (λ_ _ e=>e))
  obtain⟨_,_,_,_,_,_,_,_,_,_,f⟩:=h₂;exact f.elim
 |bad=>simp only[q,R.bind]at kk
theorem JC5[Cool G](g:Gk X B C CX XX G){elt iter target:Expr}{ifs:List Expr}{sc:Scope}{xs:List Str}{k:Nat}(b:BlkOk X sc xs)(hi:PI X target iter (RI B C XX z))(hs:∀v,foldedSetIterable iter X.env v=pure v)
  (hrun:∀Cc fp s0 H0 σ δ,JB9 (JAc X sc Cc (xs++mask xs 0 X.N) fp s0 H0) B σ xs.length δ target elt ifs (itemF C k x y δ)) :
  PE X (.ListComp elt [⟨target,iter,ifs,0⟩] sc pos) (REF B C XX (.cmpr k x z y)):=by
 intro pins s σ H Q I h;rw[eval_ListComp];refine JGP (use:=none) g b hi hs hrun I h ?_;intro D Cc s' m H' hn J hq h1 h2 h3 h4 h5;refine⟨m,hn,λh' hsb=>?_⟩;have J':=J.turned (h':=h') (t':=s'.toks) (it:=Cc) (λb o hb e=>(hsb.2 b hb).trans e) h1 h2 (.inr h3) h4 h5;exact⟨.ref D,H',J',rfl,hq⟩
theorem JJZ[Cool G](g:Gk X B C CX XX G){elt iter target:Expr}{ifs:List Expr}{sc:Scope}{xs:List Str}{k i:Nat}{nm:Str}{px spos:Pos}(b:BlkOk X sc xs)(hi:PI X target iter (RI B C XX z))(hs:∀v,foldedSetIterable iter X.env v=pure v)
  (hrun:∀Cc fp s0 H0 σ δ,JB9 (JAc X sc Cc (xs++mask xs 0 X.N) fp s0 H0) B σ xs.length δ target elt ifs (itemF C k x y δ))
  (hsw:swapsWith (.ListComp elt [⟨target,iter,ifs,0⟩] sc pos) (some (.Name nm px)) spos.line X.env=pure true) (hnd:X.N.Nodup) (hN:X.N[i]? = some nm) (hloc:X.env.scope.names.lookup nm=some .local) :
  PS X (.Assign [.Name nm px] (.ListComp elt [⟨target,iter,ifs,0⟩] sc pos) spos) (tAsg (REF B C XX (.cmpr k x z y)) (JFc i)):=by
 intro pins s σ H D I h;rw[exec_Assign_Name_used _ _ _ _ hsw];refine wpAny_bind (wpAny_standAt (wpAny_bind ?_));show wpAny _ _ (do let _←comprehension (.ListComp elt [⟨target,iter,ifs,0⟩] sc pos) sc X.env _ (newList []) false (eval iter X.env) (some (assign (.Name nm px) X.env))) _ _ s
 refine wpAny_bind (wpAny_mono (JGP (use:=some (assign (.Name nm px) X.env)) (Q':=λ_ s'=>SP X pins D .next s') g b hi hs hrun I h ?_) (λ_ s' hq=>wpAny_pure (wpAny_pure hq)) λ_ _ e=>e);intro Da Cc s' m H' hn J hq h1 h2 h3 h4 h5;show wpAny _ _ (assign (.Name nm px) X.env (.ref Da)) _ _ s';refine wpAny_assign_Name (JFS J hnd hN (.inl hloc) (v:=.ref Da) rfl (λs2 J2 hch=>?_) (.inr hloc));obtain⟨a,sb,ha⟩:=hch;have hne:Cc≠a:=by
  rcases ha with z|z
  · rw[z];exact h2
  · exact λe=>h4 nm a z e.symm
 refine⟨m,hn.sameBut sb hne,λh' hsb=>?_⟩;exact⟨_,H',J2.turned (h':=h') (t':=s2.toks) (it:=Cc) (λb o hb e=>(hsb.2 b hb).trans e) h1 h2 (.inr h3) h4 h5,hq⟩
end
theorem JLQ{X:Cx}{sc:Scope}{xs:List Str}{names:Nq}{N:List Str}(hk:X.env.scope.kind=.function)(hn:X.env.scope.names=names)(hN:X.N=N)(hs:sc.kind=.function)(h:JCA names sc.names xs N=true):BlkOk X sc xs:=by
 subst hn;subst hN;unfold JCA at h;simp only[Bool.and_eq_true,List.all_eq_true]at h;obtain⟨⟨⟨⟨h1,h2⟩,h3⟩,h4⟩,h5⟩:=h;refine⟨hs,λy hy=>?_,λy hy hl=>?_,λn hm=>?_,λx hx=>?_,λy hy hx=>?_,λi hi hv=>?_,of_decide_eq_true h5⟩
 ·have:=(h1 y hy).1.1;intro e;rw[e]at this;simp at this
 ·have:=(h1 y hy).1.2;rw[hl]at this;simpa using this
 ·have:=(h1 (n,.free) hm).2;simpa[PySem.Env.kindOf] using this
 ·simpa using h2 x hx
 ·have:=h3 y hy;simp only[Bool.or_eq_true,bne_iff_ne,ne_eq]at this;rcases this with e|e
  ·exact absurd (by simpa using e) hx
  ·exact e
 ·have:=h4 i (List.mem_range.mpr hi);unfold Vis at hv;rw[JAU hk]at hv;rcases hv with e|e|e<;>(rw[e]at this;simp[vis]at this)
section
variable{X:Cx}{B:Bs}{C:Cn}{CX:CXT}{XX:Nat→Hp→Prop}{G:List (Str×GK)}{pos p:Pos}{names:Nq}{N:List Str}{n:Nat}
theorem allA(g:Gk X B C CX XX G)(ih:∀e x,JAN G n false names N e=some x→PE X e (RE B C XX x)):∀ {es:List Expr}{x:E},JAH (JAN G n false names N) es=some x→PA X es (RA B C XX x)
 | [],x,h=>by unfold JAH at h;cases h;exact a_nil
 |e::es,x,h=>by
  unfold JAH at h;obtain⟨a,h1,h⟩:=Option.bind_eq_some_iff.mp h;obtain⟨b,h2,h⟩:=Option.bind_eq_some_iff.mp h;cases h;exact JPa g (ih e a h1) (allA g ih h2) (JAV h1 es X.env)
theorem JK0(g:Gk X B C CX XX G)(ih:∀e x,JAN G n false names N e=some x→PE X e (RE B C XX x)∧PT X e (RT B C XX x)):∀ {es:List Expr}{x:E},JAw .and (JAN G n false names N) es=some x →
  PE X (.BoolOp .And es pos) (RE B C XX x)∧PW X (.BoolOp .And es pos) (RT B C XX x)
 | [],x,h=>by unfold JAw at h;cases h
 | [e],x,h=>by
  unfold JAw at h;exact⟨JLA (ih e x h).1,JNE (ih e x h).2⟩
 |e::e'::es,x,h=>by
  unfold JAw at h;obtain⟨a,h1,h⟩:=Option.bind_eq_some_iff.mp h;obtain⟨b,h2,h⟩:=Option.bind_eq_some_iff.mp h;cases h;obtain⟨q1,q2⟩:=JK0 g ih h2;exact⟨s_and g (ih e a h1).1 q1,w_and g (ih e a h1).2 q2⟩
theorem JQD(g:Gk X B C CX XX G)(ih:∀e x,JAN G n false names N e=some x→PE X e (RE B C XX x)∧PT X e (RT B C XX x)):∀ {es:List Expr}{x:E},JAw .or (JAN G n false names N) es=some x →
  PE X (.BoolOp .Or es pos) (RE B C XX x)∧PW X (.BoolOp .Or es pos) (RT B C XX x)
 | [],x,h=>by unfold JAw at h;cases h
 | [e],x,h=>by
  unfold JAw at h;exact⟨JLA (ih e x h).1,JRC (ih e x h).2⟩
 |e::e'::es,x,h=>by
  unfold JAw at h;obtain⟨a,h1,h⟩:=Option.bind_eq_some_iff.mp h;obtain⟨b,h2,h⟩:=Option.bind_eq_some_iff.mp h;cases h;obtain⟨q1,q2⟩:=JQD g ih h2;exact⟨s_or g (ih e a h1).1 q1,w_or g (ih e a h1).2 q2⟩
theorem JAy{x:Str}{k:GK}(h:glob G names x=some k):JAQ x=false∧names.lookup x=some .globalImplicit∧G.lookup x=some k:=by
 unfold glob at h
 split at h
 ·cases h
 ·rename_i hb
  split at h
  ·rename_i hg;exact⟨by simpa using hb,hg,h⟩
  ·cases h
theorem JDl{x:Str}(hn:X.env.scope.names=names)(h:vis (names.lookup x)=true):Vis X.env.scope x:=by
 unfold Vis;rw[hn];cases q:names.lookup x with
 |none=>rw[q]at h;cases h
 |some k=>cases k<;>simp_all [vis]
theorem JB3{x:Str}(hn:X.env.scope.names=names)(h:names.lookup x=some .globalImplicit):Gl X x:=by
 show X.env.scope.names.lookup x=_;rw[hn];exact h
theorem JKW{op:CmpOp}{d d' r:D}(h:cmpD op d d'=.ok r):∃k,r=.bool k:=by
 cases op<;>simp only[cmpD]at h<;>(repeat' split at h)<;>first|(cases h;exact⟨_,rfl⟩)|cases h
theorem JFw{op:CmpOp}{x y:E}{δ:Env}{d:D}(h:ev C (.cmp op x y) δ=.ok d):∃k,d=.bool k:=by
 simp only[ev]at h;cases q:ev C x δ with
 |ok dx =>
  cases q2:ev C y δ with
  |ok dy=>rw[q,q2]at h;exact JKW h
  |exc c=>rw[q,q2]at h;cases h
  |bad=>rw[q,q2]at h;cases h
 |exc c=>rw[q]at h;cases h
 |bad=>rw[q]at h;cases h
end
end VI
end
section
namespace VI
open PySem PySem.Spec PyProof.Rows L2
section
variable{X:Cx}{B:Bs}{C:Cn}{CX:CXT}{XX:Nat→Hp→Prop}{G:List (Str×GK)}{a b c:Expr}{x y z:E}{pos p:Pos}
theorem JOZ(n d:Nat)(o:Option Int):sI n d o=HT.sIx n d o:=by cases o<;>rfl
theorem JGN{e:Option Expr}{o:Option Int}(h:JCb e=some o):∃t,PO X e t∧∀σ H Q,Q o H→t σ H Q:=by
 unfold JCb at h
 split at h
 ·cases h;exact⟨_,JFl,λσ H Q q=>q⟩
 ·cases h;exact⟨_,JER JCH,λσ H Q q=>⟨_,rfl,q⟩⟩
 ·cases h;exact⟨_,JER (JOC JLe JCH),λσ H Q q=>⟨_,rfl,_,rfl,q⟩⟩
 ·cases h
theorem DenL.drop{H:Hp}:∀(n:Nat) (ds:List D) (vs:List V),DenL B H ds vs→DenL B H (ds.drop n) (vs.drop n)
 |0,ds,vs,h=>h
 |n+1,[],vs,h=>by simp only[DenL]at h;subst h;simp only[List.drop_nil,DenL]
 |n+1,d::ds,vs,h=>by
  simp only[DenL]at h;obtain⟨v,r,e,q,l⟩:=h;subst e;exact DenL.drop n ds r l
theorem DenL.take{H:Hp}:∀(n:Nat) (ds:List D) (vs:List V),DenL B H ds vs→DenL B H (ds.take n) (vs.take n)
 |0,ds,vs,h=>by simp only[List.take_zero,DenL]
 |n+1,[],vs,h=>by simp only[DenL]at h;subst h;simp only[List.take_nil,DenL]
 |n+1,d::ds,vs,h=>by
  simp only[DenL]at h;obtain⟨v,r,e,q,l⟩:=h;subst e;simp only[List.take_succ_cons,DenL];exact⟨v,_,rfl,q,DenL.take n ds r l⟩
theorem DenL.cut{H:Hp}{ds:List D}{vs:List V}(h:DenL B H ds vs)(lo hi:Option Int):DenL B H (cutD ds lo hi) (cutV vs lo hi):=by
 unfold cutD cutV;have e:=DenL.len _ _ h;simp only[JOZ,e];exact DenL.take _ _ _ (DenL.drop _ _ _ h)
theorem JIu{xs:List D}{lo hi:Option Int}(h:HT.sIx xs.length 0 lo=0∧HT.sIx xs.length xs.length hi=xs.length):cutD xs lo hi=xs:=by
 unfold cutD;simp only[JOZ,h.1,h.2];simp
theorem JBd{H:Hp}{q:Addr}{o:HO}(h:H q=none):Same H (upd H q o):=λb u e=>by rw[JAI (JAY e h)];exact e
theorem JNr(g:Gk X B C CX XX G){i:Expr}{lo hi:Option Int}(hs:sliceOf i=some (lo,hi))(ha:PE X a (RE B C XX x)):PE X (.Subscript a i pos) (RE B C XX (.fn1 (.slice lo hi) x)):=by
 unfold sliceOf at hs
 split at hs
 ·rename_i l h p2;obtain⟨l',h1,hs⟩:=Option.bind_eq_some_iff.mp hs;obtain⟨h',h2,hs⟩:=Option.bind_eq_some_iff.mp hs;cases hs;obtain⟨tl,pl,ql⟩:=JGN (X:=X) h1;obtain⟨th,ph,qh⟩:=JGN (X:=X) h2;refine PE.imp (JD2 (SlR.or (SlR.or JQG JNy) JNh) ha pl ph) λσ H Q ⟨δ,ok,k⟩=>?_;simp only[ev]at k;refine RE.of (W:=λr H=>KE B XX r H Q) ok (λ_ _ z=>z) (λ_ z=>z) k λd v H1 s1 d1 h1=>?_;refine ql _ _ _ (qh _ _ _ ?_);have h1:=KE.mono g s1 h1;cases d<;>first|exact fF h1|skip
  ·rename_i ds;simp only[Den]at d1;obtain⟨q,vs,e,sq,l⟩:=d1;refine .inr ⟨q,vs,e,g.K▸sq,λp' hp=>?_⟩;have sm:Same H1 (upd H1 p' (.lst (cutV vs lo hi))):=JBd hp;refine h1 _ _ sm ?_;simp only[Den];exact⟨p',_,rfl,SqL.of JAK,DenL.mono sm _ _ (DenL.cut l lo hi)⟩
  ·rename_i ds;simp only[Den]at d1;obtain⟨q,vs,e,sq,l⟩:=d1;have el:=DenL.len _ _ l
   by_cases hw:HT.sIx vs.length 0 lo=0∧HT.sIx vs.length vs.length hi=vs.length
   ·refine .inl (.inr ⟨q,vs,e,g.K▸sq,hw,?_⟩);refine h1 _ _ (Same.refl H1) ?_;rw[JIu (by rw[el];exact hw)]
    subst e;simp only[Den];exact⟨q,vs,rfl,sq,l⟩
   ·refine .inl (.inl ⟨q,vs,e,g.K▸sq,hw,λp' hp=>?_⟩);have sm:Same H1 (upd H1 p' (.tup (cutV vs lo hi))):=JBd hp;refine h1 _ _ sm ?_;simp only[Den];exact⟨p',_,rfl,SqT.of JAK,DenL.mono sm _ _ (DenL.cut l lo hi)⟩
 ·cases hs
theorem JOB(g:Gk X B C CX XX G){f:Str}{ty:Ty}{o:O1}(ho:o1Of ty=some o)(hf:JBD ty=some f)(hg:Gl X f)(hl:G.lookup f=some (.ty ty))(hb:JAQ f=false)(ha:PE X a (RE B C XX x))
  (he:starEach [a] X.env=[(false,eval a X.env)]):PE X (.Call (.Name f p) [a] [] pos) (RE B C XX (.fn1 o x)):=by
 have key:∀ {T:String}{r:List V→Hp→VK→Prop},CallR X (.type T) r→bootBuiltins f=some (.type T) →
    (∀d v H Q,Den B H d v→KE B XX (op1D o d) H Q→r [v] H Q)→PE X (.Call (.Name f p) [a] [] pos) (RE B C XX (.fn1 o x)):=λ{T r} hc hv hr=>by
  refine PE.imp (JDC (es:=[]) hc hg (g.ty f ty hl) hv (JAM ha JAi he) (JAF hb).2.2 (JAF hb).1 he rfl) λσ H Q ⟨δ,ok,k⟩=>?_;simp only[ev]at k;refine RE.of (W:=λr H=>KE B XX r H Q) ok (λ_ _ z=>z) (λ_ z=>z) k λd v H1 s1 d1 h1=>?_;exact hr d v H1 Q d1 (KE.mono g s1 h1)
 cases ty<;>simp only[o1Of,Option.some.injEq,reduceCtorEq]at ho
 ·subst ho;simp only[JBD,Option.some.injEq]at hf;subst hf;refine key JEn (by decide +kernel) λd v H Q dn k=>?_
  cases d<;>first|exact fF k|skip
  · simp only[Den]at dn
    obtain⟨q,vs,e,sq,l⟩:=dn;subst e;refine⟨q,vs,rfl,.inl (g.K▸sq),λp' hp=>?_⟩;have sm:Same H (upd H p' (.lst vs)):=JBd hp;refine k _ _ sm ?_;simp only[Den];exact⟨p',_,rfl,SqL.of JAK,DenL.mono sm _ _ l⟩
  · simp only[Den]at dn
    obtain⟨q,vs,e,sq,l⟩:=dn;subst e;refine⟨q,vs,rfl,.inr (g.K▸sq),λp' hp=>?_⟩;have sm:Same H (upd H p' (.lst vs)):=JBd hp;refine k _ _ sm ?_;simp only[Den];exact⟨p',_,rfl,SqL.of JAK,DenL.mono sm _ _ l⟩
 ·subst ho;simp only[JBD,Option.some.injEq]at hf;subst hf;refine key JD1 (by decide +kernel) λd v H Q dn k=>?_
  cases d<;>first|exact fF k|skip
  · simp only[Den]at dn
    obtain⟨q,vs,e,sq,l⟩:=dn;subst e;refine⟨q,vs,rfl,.inl ⟨g.K▸sq,λp' hp=>?_⟩⟩;have sm:Same H (upd H p' (.tup vs)):=JBd hp;refine k _ _ sm ?_;simp only[Den];exact⟨p',_,rfl,SqT.of JAK,DenL.mono sm _ _ l⟩
  · have dn':=dn
    simp only[Den]at dn;obtain⟨q,vs,e,sq,l⟩:=dn;subst e;exact⟨q,vs,rfl,.inr ⟨g.K▸sq,KE.ok k dn'⟩⟩
theorem s_pow{i j:Nat}{u v:Int}{p1 p2:Pos}(h0:0≤u)(h1:u≤100)(h2:0≤v)(h3:v≤20):PE X (.BinOp (.Constant (.int u) i p1) .Pow (.Constant (.int v) j p2) pos) (RE B C XX (.cint (u ^ v.toNat))) :=
 PE.imp (JNZ JQf JCH JCH) λσ H Q ⟨δ,ok,k⟩=>by
  simp only[ev]at k;exact⟨u,v,rfl,rfl,⟨h2,by omega,by omega⟩,KE.ok k (by simp only[Den])⟩
theorem JJA:OpR X (compareOp .IsNot) (λv u H Q=>∃c d,v=.bl c∧u=.bl d∧Q (.bl (!(c==d))) H):=by
 intro pins s σ H v u w t Q I rx ry ⟨c,d,e1,e2,q⟩;subst e1;subst e2;cases rx;cases ry;exact isnot_bool ⟨.bl _,H,I,rfl,q⟩
theorem JQ0(g:Gk X B C CX XX G){j:Nat}{pos':Pos}{k:Bool}(ha:PE X a (RE B C XX x)):PE X (.Compare a [.IsNot] [.Constant (.bool k) j pos'] pos) (RE B C XX (.isnB x k)) :=
 PE.imp (JFz JJA ha JIX rfl) λσ H Q ⟨δ,ok,kk⟩=>by
  simp only[ev]at kk;refine RE.of (W:=λr H=>KE B XX r H Q) ok (λ_ _ z=>z) (λ_ z=>z) kk λd v H1 s1 d1 h1=>?_;cases d<;>first|exact fF h1|skip
  rename_i t;simp only[Den]at d1;exact⟨t,k,d1,rfl,KE.ok (KE.mono g s1 h1) (by simp only[Den])⟩
theorem JGA(g:Gk X B C CX XX G){j:Nat}{pos':Pos}{k:Bool}(ha:PE X a (RE B C XX x)):PT X (.Compare a [.IsNot] [.Constant (.bool k) j pos'] pos) (RT B C XX (.isnB x k)) :=
 PT.imp (JBr JJA ha JIX rfl) λσ H Q ⟨δ,ok,kk⟩=>by
  simp only[evT]at kk;refine RE.of (W:=λr H=>KB XX r H Q) ok (λ_ _ z=>z) (λ_ z=>z) kk λd v H1 s1 d1 h1=>?_;cases d<;>first|exact fF h1|skip
  rename_i t;simp only[Den]at d1;exact⟨t,k,d1,rfl,!(t==k),rfl,h1 H1 s1⟩
theorem JDf:∀ {ys:List D}{d:D},allD ys=.ok d→∃bs:List Bool,ys=bs.map PyData.bool∧d=.bool (bs.all id)
 | [],d,h=>by simp only[allD]at h;cases h;exact⟨[],rfl,rfl⟩
 |y::r,d,h=>by
  cases y<;>simp only[allD,reduceCtorEq]at h;rename_i b
  split at h
  ·rename_i c e;cases h;obtain⟨bs,h1,h2⟩:=JDf e;refine⟨b::bs,by rw[h1];rfl,?_⟩
   simp only[PyData.bool.injEq]at h2;simp only[List.all_cons,id,h2]
  ·cases h
theorem JJz:∀ {ys:List D}{c:Nat},allD ys≠.exc c
 | [],c=>by simp only[allD];intro h;cases h
 |y::r,c=>by
  cases y<;>simp only[allD]<;>first|(intro h;cases h;done)|skip
  split<;>(intro h;cases h)
theorem JDa{H:Hp}:∀ {bs:List Bool}{vs:List V},DenL B H (bs.map PyData.bool) vs→vs=bs.map V.bl
 | [],vs,h=>by simpa only[List.map_nil,DenL] using h
 |b::bs,vs,h=>by
  simp only[List.map_cons,DenL,Den]at h;obtain⟨v,r,e,q,l⟩:=h;subst e;subst q;rw[JDa l];rfl
theorem JDw:∀ {bs:List Bool}{us:List Value},Vals (bs.map V.bl) us→us=bs.map Value.bool
 | [],us,h=>by cases h;rfl
 |b::bs,us,h=>by
  cases h with
  |cons r1 r2 =>
   cases r1;rw[JDw r2];rfl
theorem all_range(bs:List Bool):((List.range bs.length).all λi=>bs.getD i false)=bs.all id:=by
 rw[Bool.eq_iff_iff];simp only[List.all_eq_true,List.mem_range,id];constructor
 ·intro h b hb;obtain⟨i,hi,e⟩:=List.getElem_of_mem hb;have:=h i hi;rw[List.getD_eq_getElem?_getD,List.getElem?_eq_getElem hi]at this;simpa[e] using this
 ·intro h i hi;rw[List.getD_eq_getElem?_getD,List.getElem?_eq_getElem hi];exact h _ (List.getElem_mem hi)
theorem JIQ[Cool G](g:Gk X B C CX XX G):CallR X (.builtin "all") (λvs H Q=>∃ds,DenL B H ds vs∧KE B XX (bltD .all ds) H Q):=by
 intro pins s σ H vs us Q I r ⟨ds,dn,k⟩
 match ds,dn,k with
 | [.list ys],dn,k =>
  simp only[DenL,Den]at dn;obtain⟨v,r1,e,⟨a,xs,e1,hq,dl⟩,e2⟩:=dn;subst e2;subst e1;subst e;cases r with
  |cons ra rb =>
   cases rb;cases ra;rw[←g.K]at hq;obtain⟨its,rv,p,hz⟩:=I.list hq;simp only[bltD]at k;cases hk:allD ys with
   |ok d =>
    rw[hk]at k;obtain⟨bs,e1,e2⟩:=JDf hk;subst e1;subst e2;have e3:=JDa dl;subst e3;have e4:=JDw rv;subst e4;have hA:X.A.handled=none:=I.ok.hd (g.calm inferInstance);have hlt:a<s.heap.objs.size:=by
     obtain⟨o,n,ho,_⟩:=p;exact Heap.lt_size ho
    refine call_all_walk (wpAny_pyIter_list p.isList ?_);have hne:a≠s.heap.objs.size:=Nat.ne_of_lt hlt;refine⟨s.heap.objs.size,_,_,_,_,_,(λi=>bs.getD i false),rfl,Walks.list (prog:=X.prog) (w:=X.w) (A:=X.A.in1) hA s.heap.objs.size a hne (bs.map Value.bool).toArray,?_,?_,?_⟩
    ·exact⟨⟨_,Heap.get?_push_size _ rfl,rfl,rfl⟩,p.isList.at λo e=>Heap.get?_push_of_some _ e⟩
    ·intro i v s' Q' E' hP hQ;simp only[List.getElem?_toArray,List.getElem?_map]at hP;obtain⟨b,hb,rfl⟩:=Option.map_eq_some_iff.mp hP;refine wpAny_truthy_bool ?_;have hQ:Q' (bs.getD i false) s':=hQ;rw[List.getD_eq_getElem?_getD,hb]at hQ;exact hQ
    ·intro h' tk hk';refine⟨.bl _,H,I.kept λb o e=>hk' b o ?_ (Heap.get?_push_of_some _ e),rfl,?_⟩
     ·simp only[List.mem_singleton];exact Nat.ne_of_lt (Heap.lt_size e)
     ·have:((List.range (bs.map Value.bool).toArray.size).all λi=>bs.getD i false)=bs.all id:=by
       rw[List.size_toArray,List.length_map];exact all_range bs
      rw[this];exact KE.ok k (by simp only[Den])
   |exc c=>exact(JJz hk).elim
   |bad=>rw[hk]at k;exact k.elim
 | [],_,k=>exact fF k
 | [.none],_,k=>exact fF k
 | [.bool _],_,k=>exact fF k
 | [.int _],_,k=>exact fF k
 | [.str _],_,k=>exact fF k
 | [.tuple _],_,k=>exact fF k
 | [.dict _],_,k=>exact fF k
 |d1::d2::r,_,k=>cases d1<;>exact fF k
end
end VI
end
section
namespace VI
open PySem PySem.Spec PyProof.Rows L2
section
variable{X:Cx}{B:Bs}{C:Cn}{CX:CXT}{XX:Nat→Hp→Prop}{G:List (Str×GK)}{a b c tg:Expr}{x y z:E}{pos p:Pos}
theorem JJO(g:Gk X B C CX XX G){j:Nat}{pos':Pos}(ha:PE X a (RE B C XX x)):PT X (.Compare a [.Is] [.Constant .none j pos'] pos) (RT B C XX (.isN x false)) :=
 PT.imp (JK8 (JLG ha)) λσ H Q ⟨δ,ok,k⟩=>by
  simp only[evT]at k;refine RE.of (W:=λr H=>KB XX r H Q) ok (λ_ _ z=>z) (λ_ z=>z) k λd v H1 s1 d1 h1=>?_;exact⟨isNone d,by rw[JCq d1],by simpa using h1 H1 s1⟩
theorem JMv(g:Gk X B C CX XX G){j:Nat}{pos':Pos}(ha:PE X a (RE B C XX x)):PT X (.Compare a [.IsNot] [.Constant .none j pos'] pos) (RT B C XX (.isN x true)) :=
 PT.imp (JK8 (JHo ha)) λσ H Q ⟨δ,ok,k⟩=>by
  simp only[evT]at k;refine RE.of (W:=λr H=>KB XX r H Q) ok (λ_ _ z=>z) (λ_ z=>z) k λd v H1 s1 d1 h1=>?_;exact⟨!isNone d,by rw[JCq d1],by simpa using h1 H1 s1⟩
theorem JJ8(g:Gk X B C CX XX G){j:Nat}{pos':Pos}{k:Bool}(ha:PE X a (RE B C XX x)):PT X (.Compare a [.Is] [.Constant (.bool k) j pos'] pos) (RT B C XX (.isB x k)) :=
 PT.imp (JBr JL4 ha JIX rfl) λσ H Q ⟨δ,ok,kk⟩=>by
  simp only[evT]at kk;refine RE.of (W:=λr H=>KB XX r H Q) ok (λ_ _ z=>z) (λ_ z=>z) kk λd v H1 s1 d1 h1=>?_;cases d<;>first|exact fF h1|skip
  rename_i t;simp only[Den]at d1;exact⟨t,k,d1,rfl,t==k,rfl,h1 H1 s1⟩
end
theorem JCL{C:Cn}{k:Nat}{x y z:E}(δ:Env)(d:D)(h:ev C (.cmpr k x z y) δ=.ok d):∃ds,d=.list ds:=by
 simp only[ev]at h;cases q:evI C z δ with
 |ok xs =>
  simp only[q,R.bind]at h
  split at h
  ·cases qz:JAt (itemF C k x y δ) xs with
   |ok zs=>unfold itemF at qz;simp only[R.bind]at qz;rw[qz]at h;cases h;exact⟨zs,rfl⟩
   |exc c=>exact(JCJ qz).elim
   |bad=>unfold itemF at qz;simp only[R.bind]at qz;rw[qz]at h;cases h
  ·cases h
 |exc c=>simp only[q,R.bind]at h;cases h
 |bad=>simp only[q,R.bind]at h;cases h
theorem JHB{a b:Expr}{op:Operator}{es:List Expr}{k:Nat}(h:JMx a op b=some (es,k)):∃p kk j p2,a=.List es p∧op=.Mult∧b=.Constant (.int kk) j p2∧k=kk.toNat∧0≤kk∧kk≤1000∧es.length≤1000:=by
 unfold JMx at h
 split at h
 ·split at h
  ·rename_i hc;cases h;exact⟨_,_,_,_,rfl,rfl,rfl,rfl,hc.1,hc.2.1,hc.2.2⟩
  ·cases h
 ·cases h
theorem JHU{a b:Expr}{op:Operator}{u v:Int}(h:JMu a op b=some (u,v)):∃i p j p2,a=.Constant (.int u) i p∧op=.Pow∧b=.Constant (.int v) j p2∧0≤u∧u≤100∧0≤v∧v≤20:=by
 unfold JMu at h
 split at h
 ·split at h
  ·rename_i hc;cases h;exact⟨_,_,_,_,rfl,rfl,rfl,hc.1,hc.2.1,hc.2.2.1,hc.2.2.2⟩
  ·cases h
 ·cases h
abbrev Ow:=Nat→Option Addr
open Classical in
noncomputable def hidP(H:Hp)(P:Addr→Prop):Hp:=λb=>if P b then none else H b
def ownP(O:Ow)(b:Addr):Prop:=∃i,O i=some b
noncomputable abbrev hid(H:Hp)(O:Ow):Hp:=hidP H (ownP O)
def JAP(B:Bs)(H₀ H:Hp)(O:Ow)(σ:St)(i:Nat):Option Sl→Prop
 |some (.own d)=>∃a ds xs,O i=some a∧d=ds∧σ[i]? = some (some (.ref a))∧H a=some xs∧H₀ a=none∧OwnO B (hid H O) ds xs
 |some (.val d)=>O i=none∧∃v,σ[i]? = some (some v)∧Den B (hid H O) d v
 |_=>O i=none
structure SO(B:Bs)(H₀:Hp)(σ:St)(H:Hp)(δ:Env)(O:Ow):Prop where
 len:σ.length=δ.length
 same:Same H₀ H
 inj:∀i j a,O i=some a→O j=some a→i=j
 slot:∀i,JAP B H₀ H O σ i δ[i]?
def JDV(X:Cx)(B:Bs)(XX:Nat→Hp→Prop)(Hb:Hp)(D:Ends):Fl→Prop
 |.nx δ=>∀σ H O,SO B Hb σ H δ O→D.nx σ H
 |.rt d=>∀v H,Same Hb H→Den B H d v→D.rt v H
 |.bk δ=>∀σ H O,SO B Hb σ H δ O→D.bk σ H
 |.ct δ=>∀σ H O,SO B Hb σ H δ O→D.ct σ H
 |.ex c=>XX c Hb
 |.bad=>False
def RSt(X:Cx)(B:Bs)(C:Cn)(XX:Nat→Hp→Prop)(t:S):TS:=λD σ H=>∃δ O Hb,Same X.H₀ Hb∧SO B Hb σ H δ O∧JDV X B XX Hb D (exec C t δ)
section
variable{B:Bs}{C:Cn}{CX:CXT}{G:List (Str×GK)}
def PEs(X:Cx)(B:Bs)(C:Cn)(XX:Nat→Hp→Prop):List Expr→E→Prop
 | [],.nil=>True
 |a::r,.cons x y=>PE X a (RE B C XX x)∧PEs X B C XX r y
 |_,_=>False
structure XOk(B:Bs)(C:Cn)(CX:CXT)(G:List (Str×GK))(k:XO):Prop where
 val:∀(X:Cx) (XX:Nat→Hp→Prop),Gk X B C CX XX G→∀(e:Expr) (args:List Expr) (y:E),xRaw G X.env.scope.names false e=some (k,args)→PEs X B C XX args y→PA X args (RA B C XX y)→(∀a∈args,∀es env,starEach (a::es) env=(false,eval a env)::starEach es env)→cnt y=args.length→PE X e (RE B C XX (.xop k y))
 itr:∀(X:Cx) (XX:Nat→Hp→Prop),Gk X B C CX XX G→∀(tg e:Expr) (args:List Expr) (y:E),xRaw G X.env.scope.names true e=some (k,args)→PA X args (RA B C XX y)→(∀a∈args,∀es env,starEach (a::es) env=(false,eval a env)::starEach es env)→cnt y=args.length→PI X tg e (RI B C XX (.xop k y))
 tgt:∀(X:Cx) (XX:Nat→Hp→Prop),Gk X B C CX XX G→∀(ts:List Expr) (kt:Nat) (pt:Pos) (e:Expr) (args:List Expr) (y:E),xTgt G X.env.scope.names e=some (k,args)→PA X args (RA B C XX y)→(∀a∈args,∀es env,starEach (a::es) env=(false,eval a env)::starEach es env)→cnt y=args.length→PI X (.Tuple ts kt pt) e (RI B C XX (.xop k y))
structure DOk(B:Bs)(C:Cn)(CX:CXT)(G:List (Str×GK)):Prop where
 val:∀(X:Cx) (XX:Nat→Hp→Prop),Gk X B C CX XX G→∀(e:Expr) (k:XO) (args:List Expr) (y:E),dRaw G X.env.scope.names false e=some (k,args)→PEs X B C XX args y→(∀a∈args,∀es env,starEach (a::es) env=(false,eval a env)::starEach es env)→PE X e (RE B C XX (.xop k y))∧PT X e (RT B C XX (.xop k y))
 itr:∀(X:Cx) (XX:Nat→Hp→Prop),Gk X B C CX XX G→∀(tg e:Expr) (k:XO) (args:List Expr) (y:E),dRaw G X.env.scope.names true e=some (k,args)→PEs X B C XX args y→(∀a∈args,∀es env,starEach (a::es) env=(false,eval a env)::starEach es env)→PI X tg e (RI B C XX (.xop k y))
 own:∀(X:Cx) (XX:Nat→Hp→Prop),Gk X B C CX XX G→∀(e:Expr) (k:XO) (args:List Expr) (y:E),dRaw G X.env.scope.names false e=some (k,args)→JO8 k=true→PEs X B C XX args y→(∀a∈args,∀es env,starEach (a::es) env=(false,eval a env)::starEach es env)→PE X e (REF B C XX (.xop k y))
 frz:∀(X:Cx) (XX:Nat→Hp→Prop),Gk X B C CX XX G→∀(st:Stmt) (t:S) (i:Nat),PS X st (RSt X B C XX t)→PS X st (RSt X B C XX (.cons (.frz i) t))
 put:∀(X:Cx) (XX:Nat→Hp→Prop),Gk X B C CX XX G→∀(nm:Str) (i:Nat) (p1 p2 pos:Pos) (ke v:Expr) (z y:E),X.N[i]? = some nm→Vis X.env.scope nm→JAQ nm=false→isSlice ke=false→PE X v (RE B C XX y)→PE X ke (RE B C XX z) →
  (∀t l,swapsWith v t l X.env=pure false)→PS X (.Assign [.Subscript (.Name nm p1) ke p2] v pos) (RSt X B C XX (.put i z y))
 pop:∀(X:Cx) (XX:Nat→Hp→Prop),Gk X B C CX XX G→∀(nm:Str) (i:Nat) (p1 ap cp pos:Pos) (a:Expr) (y:E),X.N[i]? = some nm→Vis X.env.scope nm→JAQ nm=false→PE X a (RE B C XX y)→starEach [a] X.env=[(false,eval a X.env)]→(ap.endLine==cp.line)=true →
  PS X (.Expr (.Call (.Attribute (.Name nm p1) "pop" ap) [a] [] cp) pos) (RSt X B C XX (.pop i y))
def TOk(B:Bs)(C:Cn)(CX:CXT)(G:List (Str×GK)):Prop:=∀(X:Cx) (XX:Nat→Hp→Prop),Gk X B C CX XX G→∀(e:Expr) (k:XO) (args:List Expr) (y:E),tRaw G X.env.scope.names e=some (k,args)→PEs X B C XX args y→(∀a∈args,∀es env,starEach (a::es) env=(false,eval a env)::starEach es env)→(∃n N,JAH (JAN G n false X.env.scope.names N) args=some y)→PE X e (RE B C XX (.xop k y))∧PT X e (RT B C XX (.xop k y))
structure RO(B:Bs)(C:Cn)(CX:CXT)(G:List (Str×GK)):Prop where
 count:G.lookup (".met":Str)=some GK.opt→∀(X:Cx) (XX:Nat→Hp→Prop),Gk X B C CX XX G→∀(o a:Expr) (x y:E) (ap cp:Pos),JAk o=false→(ap.endLine==cp.line)=true→PE X o (RE B C XX x)→PE X a (RE B C XX y)→starEach [a] X.env=[(false,eval a X.env)] →
  PE X (.Call (.Attribute o "count" ap) [a] [] cp) (RE B C XX (.mcount x y))
 index:G.lookup (".met":Str)=some GK.opt→∀(X:Cx) (XX:Nat→Hp→Prop),Gk X B C CX XX G→∀(o a:Expr) (x y:E) (ap cp:Pos),JAk o=false→(ap.endLine==cp.line)=true→PE X o (RE B C XX x)→PE X a (RE B C XX y)→starEach [a] X.env=[(false,eval a X.env)] →
  PE X (.Call (.Attribute o "index" ap) [a] [] cp) (RE B C XX (.mindex x y))
 get:G.lookup (".get":Str)=some GK.opt→∀(X:Cx) (XX:Nat→Hp→Prop),Gk X B C CX XX G→∀(o a b:Expr) (x y z:E) (ap cp:Pos),JAk o=false→(ap.endLine==cp.line)=true→PE X o (RE B C XX x)→PE X a (RE B C XX y)→PE X b (RE B C XX z) →
  starEach [a,b] X.env=[(false,eval a X.env),(false,eval b X.env)]→starEach [b] X.env=[(false,eval b X.env)]→PE X (.Call (.Attribute o "get" ap) [a,b] [] cp) (RE B C XX (.mget x y z))
 all:G.lookup ("all":Str)=some (.blt .all)→∀(X:Cx) (XX:Nat→Hp→Prop),Gk X B C CX XX G→CallR X (.builtin "all") (λvs H Q=>∃ds,DenL B H ds vs∧KE B XX (bltD .all ds) H Q)
 rvs:G.lookup (".rvs":Str)=some GK.opt→∀(X:Cx) (XX:Nat→Hp→Prop),Gk X B C CX XX G→∀(a i:Expr) (x:E) (pos:Pos),JQe i=true→PE X a (RE B C XX x)→PE X (.Subscript a i pos) (RE B C XX (.fn1 .rev x))
structure Rare(B:Bs)(C:Cn)(CX:CXT)(G:List (Str×GK)):Prop where
 nox:∀outer H s e s',¬CX outer H s (EX B λ_ _=>False) e s'
 isi:∀(X:Cx) (XX:Nat→Hp→Prop),Gk X B C CX XX G→∀(a:Expr) (x:E) (t:Str) (ty:Ty) (p pt pos:Pos),Gl X "isinstance"→Gl X t→G.lookup ("isinstance":Str)=some GK.isi→(G.lookup t=some (.ty ty)∧JBD ty=some t∨∃c,ty=.own c∧G.lookup t=some (.cls c))→JAQ t=false →
  PE X a (RE B C XX x)→starEach [a,.Name t pt] X.env=(false,eval a X.env)::starEach [.Name t pt] X.env→PE X (.Call (.Name "isinstance" p) [a,.Name t pt] [] pos) (RE B C XX (.isi x ty))
 min:G.lookup ("min":Str)=some (.blt .min)→∀(X:Cx) (XX:Nat→Hp→Prop),Gk X B C CX XX G→CallR X (.builtin "min") (λvs H Q=>∃ds,DenL B H ds vs∧KE B XX (bltD .min ds) H Q)
 dct:G.lookup (".dct":Str)=some GK.opt→∀(X:Cx) (XX:Nat→Hp→Prop),Gk X B C CX XX G→∀(n:Nat) (names:Nq) (N:List Str) (ks:List (Option Expr)) (vs:List Expr) (xs:List Str) (x:E) (pos:Pos),(∀e x,JAN G n false names N e=some x→PE X e (RE B C XX x)) →
  strKeys ks=some xs→1≤xs.length→xs.length≤15→xs.length=vs.length→xs.Nodup→JAH (JAN G n false names N) vs=some x→PE X (.Dict ks vs pos) (RE B C XX (.dct xs x))
 rep:G.lookup (".rep":Str)=some GK.opt→∀(X:Cx) (XX:Nat→Hp→Prop),Gk X B C CX XX G→∀(es:List Expr) (x:E) (k:Int) (j:Nat) (p p2 pos:Pos),PA X es (RA B C XX x)→cnt x≤1000→0≤k→k≤1000→PE X (.BinOp (.List es p) .Mult (.Constant (.int k) j p2) pos) (RE B C XX (.rep k.toNat x))
 xop:∀k:XO,G.lookup k.flag=some GK.opt→XOk B C CX G k
 dop:G.lookup (".dict":Str)=some GK.opt→DOk B C CX G
 top:G.lookup (".txt":Str)=some GK.opt→TOk B C CX G
 ro:RO B C CX G
theorem JD4{names:Nq}{e:Expr}{q:XO×List Expr}(h:xT G names e=some q):xTgt G names e=some q∧G.lookup q.1.flag=some GK.opt:=by
 unfold xT at h;obtain⟨r,h1,h2⟩:=Option.bind_eq_some_iff.mp h
 split at h2
 ·cases h2;exact⟨h1,by assumption⟩
 ·cases h2
theorem JFk{names:Nq}{e:Expr}{q:XO×List Expr}(h:xT G names e=some q)(env:PySem.Env)(v:Value):foldedSetIterable e env v=pure v:=by
 obtain⟨h1,_⟩:=JD4 h;unfold xTgt at h1
 split at h1
 ·rfl
 ·rfl
 ·cases h1
theorem JGO{names:Nq}(h:dOn G names=true):G.lookup (".dict":Str)=some GK.opt:=of_decide_eq_true (Bool.and_eq_true_iff.mp h).1
theorem JGx{names:Nq}{it:Bool}{e:Expr}{q:XO×List Expr}(h:dOf G names it e=some q):dRaw G names it e=some q∧G.lookup (".dict":Str)=some GK.opt:=by
 obtain⟨r,h1,h2⟩:=Option.bind_eq_some_iff.mp h
 split at h2
 ·cases h2;exact⟨h1,JGO (by assumption)⟩
 ·cases h2
theorem JGs{names:Nq}{it:Bool}{e:Expr}{q:XO×List Expr}(h:xOf G names it e=some q):(dRaw G names it e=some q∧G.lookup (".dict":Str)=some GK.opt)∨(it=false∧G.lookup (".txt":Str)=some GK.opt∧tRaw G names e=some q)∨xRaw G names it e=some q∧G.lookup q.1.flag=some GK.opt:=by
 unfold xOf at h;cases hd:dOf G names it e with
 |some r =>
  rw[hd]at h;cases h;exact .inl (JGx hd)
 |none =>
  rw[hd]at h;simp only at h;cases ht:tOf G names it e with
  |some r =>
   rw[ht]at h;cases h;unfold tOf at ht
   split at ht
   ·rename_i hc;exact .inr (.inl ⟨hc.1,hc.2,ht⟩)
   ·cases ht
  |none =>
   rw[ht]at h;simp only at h;obtain⟨r,h1,h2⟩:=Option.bind_eq_some_iff.mp h
   split at h2
   ·rename_i hf;cases h2;exact .inr (.inr ⟨h1,hf⟩)
   ·cases h2
theorem JJs{names:Nq}{it:Bool}{e:Expr}{q:XO×List Expr}(h:xRaw G names it e=some q):q.1.isT=false:=by
 have srt:∀ {f:Str}{a:Expr}{q:XO×List Expr},JJr G names f a=some q→q.1.isT=false:=λ{f a q} h=>by
  unfold JJr at h
  split at h
  ·split at h
   ·split at h<;>(cases h;rfl)
   ·cases h;rfl
  ·cases h
 unfold xRaw at h
 split at h
 rotate_left
 ·split at h<;>cases h;rfl
 ·split at h<;>cases h;rfl
 ·cases h
 unfold JKz at h
 split at h
 ·split at h
  ·cases h;rfl
  ·exact srt h
 ·split at h
  ·split at h
   ·split at h
    ·cases h;rfl
    ·cases h
   ·cases h
  ·exact srt h
theorem JCn{n:Nat}{names:Nq}{N:List Str}:∀ {es:List Expr}{x:E},JAH (JAN G n false names N) es=some x→∀a∈es,∀r env,starEach (a::r) env=(false,eval a env)::starEach r env
 |e::es,x,h,a,ha,r,env=>by
  unfold JAH at h;obtain⟨y,h1,h⟩:=Option.bind_eq_some_iff.mp h;obtain⟨z,h2,h⟩:=Option.bind_eq_some_iff.mp h;rcases List.mem_cons.mp ha with z|ha
  ·subst z;exact JAV h1 r env
  ·exact JCn h2 a ha r env
theorem pes{X:Cx}{XX:Nat→Hp→Prop}{n:Nat}{names:Nq}{N:List Str}(ih:∀e x,JAN G n false names N e=some x→PE X e (RE B C XX x)):∀ {es:List Expr}{x:E},JAH (JAN G n false names N) es=some x→PEs X B C XX es x
 | [],x,h=>by unfold JAH at h;cases h;exact trivial
 |e::r,x,h=>by
  unfold JAH at h;obtain⟨y,h1,h⟩:=Option.bind_eq_some_iff.mp h;obtain⟨z,h2,h⟩:=Option.bind_eq_some_iff.mp h;cases h;exact⟨ih e y h1,pes ih h2⟩
theorem sound(ra:Rare B C CX G):∀(n:Nat) (X:Cx) (XX:Nat→Hp→Prop) (names:Nq) (N:List Str),Gk X B C CX XX G→X.env.scope.kind=.function→X.env.scope.names=names→X.N=N→N.Nodup →
  (∀e x,JAN G n false names N e=some x→PE X e (RE B C XX x)∧PT X e (RT B C XX x))∧(∀tg e x,JAN G n true names N e=some x→PI X tg e (RI B C XX x))
 |0,X,XX,names,N,g,hk,hn,hN,hnd=>⟨λe x h=>by simp[JAN,JAX,JAO]at h,λtg e x h=>by simp[JAN,JAX,JAO]at h⟩
 |n+1,X,XX,names,N,g,hk,hn,hN,hnd=>by
  obtain⟨ih,ihI⟩:=sound ra n X XX names N g hk hn hN hnd;have ihE:∀e x,JAN G n false names N e=some x→PE X e (RE B C XX x):=λe x h=>(ih e x h).1;have truthOf:∀ {e:Expr}{x:E},PE X e (RE B C XX x)→(∀whole,isTrue e X.env whole=(do let v←whole;standAt e.pos;holding [v] (truthy v)))→(∀δ,evT C x δ=(ev C x δ).bind truth)→PE X e (RE B C XX x)∧PT X e (RT B C XX x) :=
    λh1 h2 h3=>⟨h1,JI5 g h1 h2 h3⟩
  have valOnly:∀ {e:Expr}{x:E},PE X e (RE B C XX x)→(∀δ,evT C x δ=.bad)→PE X e (RE B C XX x)∧PT X e (RT B C XX x):=λh1 h2=>⟨h1,JQB h2⟩;have nameE:∀(b:Bool) (x:Str) (p:Pos) (y:E),xOf G names b (.Name x p)=none→JAN G (n+1) b names N (.Name x p)=some y→PE X (.Name x p) (RE B C XX y)∧((∀δ,evT C y δ=(ev C y δ).bind truth)∨∀δ,evT C y δ=.bad)∧∀δ,evI C y δ=(ev C y δ).bind JBQ:=by
    intro b x p y hxx h;rw[JAA hxx]at h;dsimp only[JAO]at h
    split at h
    ·cases h
    ·rename_i hb;have hb':JAQ x=false:=by simpa using hb
     split at h
     · rename_i hv
       obtain⟨i,hi,e⟩:=Option.map_eq_some_iff.mp h;subst e;exact⟨s_var (by rw[hN];exact JC2 hi) (JDl hn hv) hb',(.inl λδ=>by simp only[evT,ev]),λδ=>by simp only[evI,ev]⟩
     · split at h
       ·rename_i i hg;cases h;obtain⟨_,h2,h3⟩:=JAy hg;exact⟨s_glo g (JB3 hn h2) h3 hb',(.inr λδ=>by simp only[evT]),λδ=>by simp only[evI,ev]⟩
       ·cases h
  have callE:∀(b:Bool) (f:Str) (p pos:Pos) (args:List Expr) (y:E),xOf G names b (.Call (.Name f p) args [] pos)=none→JAN G (n+1) b names N (.Call (.Name f p) args [] pos)=some y→(∃i x,y=.call i x∧PE X (.Call (.Name f p) args [] pos) (RE B C XX y)) ∨
     (b=false∧((∃i x,y=.blt i x)∨(∃a t,y=.isi a t)∨∃o a,y=.fn1 o a)∧PE X (.Call (.Name f p) args [] pos) (RE B C XX y))∨(b=true∧∃x,y=.rng x∧∀tg,PI X tg (.Call (.Name f p) args [] pos) (RI B C XX y)):=by
    intro b f p pos args y hxx h;rw[JAA hxx]at h;dsimp only[JAO]at h
    split at h
    ·rename_i i hg;obtain⟨h1,h2,h3⟩:=JAy hg
     split at h
     · rename_i e r
       obtain⟨x,hx,e'⟩:=Option.map_eq_some_iff.mp h;subst e';obtain⟨a,ha,hx'⟩:=Option.bind_eq_some_iff.mp (by unfold JAH at hx;exact hx)
       exact .inl ⟨i,x,rfl,s_call g (JB3 hn h2) h3 h1 (allA g ihE hx) (JAV ha r X.env) (JBz hx)⟩
     · cases h
    ·rename_i hg;obtain⟨h1,h2,h3⟩:=JAy hg
     split at h
     · rename_i hb
       obtain⟨hb1,hb2⟩:=hb;subst hb2
       split at h
       ·rename_i a;obtain⟨x,hx,e'⟩:=Option.map_eq_some_iff.mp h;subst e';obtain⟨a',ha,_⟩:=Option.bind_eq_some_iff.mp (by unfold JAH at hx;exact hx)
        exact .inr (.inr ⟨hb1,x,rfl,λtg=>JPT g (JB3 hn h2) (g.rng _ h3) (allA g ihE hx) (JAT hx) (JAV ha [] X.env)⟩)
       ·rename_i a a2;obtain⟨x,hx,e'⟩:=Option.map_eq_some_iff.mp h;subst e';obtain⟨a',ha,hr⟩:=Option.bind_eq_some_iff.mp (by unfold JAH at hx;exact hx)
        obtain⟨r',hr',_⟩:=Option.bind_eq_some_iff.mp hr;obtain⟨a2',ha2,_⟩:=Option.bind_eq_some_iff.mp (by unfold JAH at hr';exact hr')
        exact .inr (.inr ⟨hb1,x,rfl,λtg=>JQh g (JB3 hn h2) (g.rng _ h3) (allA g ihE hx) (JAT hx) (by rw[JAV ha [a2] X.env,JAV ha2 [] X.env];rfl) (JAV ha2 [] X.env)⟩)
       ·cases h
     · cases h
    ·rename_i bl hg;obtain⟨h1,h2,h3⟩:=JAy hg
     split at h
     · rename_i hb
       obtain⟨hb1,hb2⟩:=hb
       split at h
       ·rename_i e r;obtain⟨x,hx,e'⟩:=Option.map_eq_some_iff.mp h;subst e';obtain⟨a,ha,hx'⟩:=Option.bind_eq_some_iff.mp (by unfold JAH at hx;exact hx)
        refine .inr (.inl ⟨hb1,.inl ⟨bl,x,rfl⟩,?_⟩);subst hb2;cases bl with
        |len=>exact JJt g (JJI g) PySem.boot_len (JB3 hn h2) h3 h1 (allA g ihE hx) (JAV ha r X.env) (JBz hx)
        |abs=>exact JJt (id:="abs") g (JID g) (by decide +kernel) (JB3 hn h2) h3 h1 (allA g ihE hx) (JAV ha r X.env) (JBz hx)
        |all=>exact JJt (id:="all") g (ra.ro.all h3 X XX g) (by decide +kernel) (JB3 hn h2) h3 h1 (allA g ihE hx) (JAV ha r X.env) (JBz hx)
        |min=>exact JJt (id:="min") g (ra.min h3 X XX g) (by decide +kernel) (JB3 hn h2) h3 h1 (allA g ihE hx) (JAV ha r X.env) (JBz hx)
       ·cases h
     · cases h
    ·rename_i hg;obtain⟨h1,h2,h3⟩:=JAy hg
     split at h
     · rename_i hb
       obtain⟨hb1,hb2⟩:=hb;subst hb2
       split at h
       ·rename_i a t pt
        split at h
        ·rename_i ty hgt;obtain⟨t1,t2,t3⟩:=JAy hgt
         split at h
         · rename_i ht
           obtain⟨x,hx,e'⟩:=Option.map_eq_some_iff.mp h;subst e';exact .inr (.inl ⟨hb1,.inr (.inl ⟨x,ty,rfl⟩),ra.isi X XX g a x t ty p pt pos (JB3 hn h2) (JB3 hn t2) h3 (.inl ⟨t3,ht⟩) t1 (ihE a x hx) (JAV hx _ X.env)⟩)
         · cases h
        ·rename_i c hgt;obtain⟨t1,t2,t3⟩:=JAy hgt;obtain⟨x,hx,e'⟩:=Option.map_eq_some_iff.mp h;subst e';exact .inr (.inl ⟨hb1,.inr (.inl ⟨x,.own c,rfl⟩),ra.isi X XX g a x t (.own c) p pt pos (JB3 hn h2) (JB3 hn t2) h3 (.inr ⟨c,rfl,t3⟩) t1 (ihE a x hx) (JAV hx _ X.env)⟩)
        ·cases h
       ·cases h
     · cases h
    ·rename_i ty hg;obtain⟨h1,h2,h3⟩:=JAy hg
     split at h
     · rename_i hb
       obtain⟨hb1,hb2⟩:=hb;obtain⟨o,ho,h⟩:=Option.bind_eq_some_iff.mp h
       match args,h with
       | [a],h =>
        obtain⟨x,hx,e'⟩:=Option.map_eq_some_iff.mp h;subst e';exact .inr (.inl ⟨hb1,.inr (.inr ⟨o,x,rfl⟩),JOB g ho hb2 (JB3 hn h2) h3 h1 (ihE a x hx) (JAV hx [] X.env)⟩)
       | [],h=>cases h
       |_::_::_,h=>cases h
     · cases h
    ·cases h
  have tupE:∀(b:Bool) (es:List Expr) (k:Nat) (p:Pos) (y:E),xOf G names b (.Tuple es k p)=none→JAN G (n+1) b names N (.Tuple es k p)=some y→∃x,y=.tup x∧PE X (.Tuple es k p) (RE B C XX y):=by
    intro b es k p y hxx h;rw[JAA hxx]at h;dsimp only[JAO]at h
    split at h
    ·rename_i hl;obtain⟨x,hx,e'⟩:=Option.map_eq_some_iff.mp h;subst e';exact⟨x,rfl,s_tup g (allA g ihE hx) (by rw[JAT hx];exact hl)⟩
    ·cases h
  have lstE:∀(b:Bool) (es:List Expr) (p:Pos) (y:E),xOf G names b (.List es p)=none→JAN G (n+1) b names N (.List es p)=some y→∃x,y=.lst x∧PE X (.List es p) (RE B C XX y):=by
    intro b es p y hxx h;rw[JAA hxx]at h;dsimp only[JAO]at h
    split at h
    ·rename_i hl;obtain⟨x,hx,e'⟩:=Option.map_eq_some_iff.mp h;subst e';exact⟨x,rfl,s_lst g (allA g ihE hx) (by rw[JAT hx];exact hl)⟩
    ·cases h
  have subE:∀(b:Bool) (a i:Expr) (p:Pos) (y:E),xOf G names b (.Subscript a i p)=none→JAN G (n+1) b names N (.Subscript a i p)=some y→((∃x z,y=.idx x z)∨∃o x,y=.fn1 o x)∧PE X (.Subscript a i p) (RE B C XX y):=by
    intro b a i p y hxx h;rw[JAA hxx]at h;dsimp only[JAO]at h
    split at h
    ·split at h
     · rename_i hr
       split at h
       case isFalse=>cases h
       rename_i hfl;obtain⟨x,hx,e'⟩:=Option.map_eq_some_iff.mp h;subst e';exact⟨.inr ⟨_,x,rfl⟩,ra.ro.rvs hfl X XX g a i x p hr (ihE a x hx)⟩
     · obtain⟨q,hq,h⟩:=Option.bind_eq_some_iff.mp h
       obtain⟨x,hx,e'⟩:=Option.map_eq_some_iff.mp h;subst e';exact⟨.inr ⟨_,x,rfl⟩,JNr g hq (ihE a x hx)⟩
    ·rename_i hs;obtain⟨x,hx,h⟩:=Option.bind_eq_some_iff.mp h;obtain⟨z,hz,h⟩:=Option.bind_eq_some_iff.mp h;cases h;exact⟨.inl ⟨x,z,rfl⟩,s_idx g (ihE a x hx) (ihE i z hz) (by simpa using hs)⟩
  constructor
  · intro e x h
    cases hxx:xOf G names false e with
    |some q =>
     rw[JGh hxx]at h;obtain⟨y,hy,e'⟩:=Option.map_eq_some_iff.mp h;subst e';rcases JGs hxx with ⟨q1,q2⟩|⟨_,q2,q1⟩|⟨q1,q2⟩
     · exact(ra.dop q2).val X XX g e q.1 q.2 y (by rw[hn];exact q1) (pes ihE hy) (JCn hy)
     · exact ra.top q2 X XX g e q.1 q.2 y (by rw[hn];exact q1) (pes ihE hy) (JCn hy) ⟨n,N,by rw[hn];exact hy⟩
     · exact valOnly ((ra.xop q.1 q2).val X XX g e q.2 y (by rw[hn];exact q1) (pes ihE hy) (allA g ihE hy) (JCn hy) (JAT hy)) λδ=>by simp only[evT,JJs q1,Bool.false_eq_true,if_false]
    |none =>
    cases e with
    |Name nm p =>
     obtain⟨h1,h2,_⟩:=nameE false nm p x hxx h;rcases h2 with h2|h2
     · exact truthOf h1 (λ_=>rfl) h2
     · exact valOnly h1 h2
    |Constant c j p =>
     rw[JAA hxx]at h;dsimp only[JAO]at h;cases c<;>simp only[Option.some.injEq,reduceCtorEq]at h<;>subst h
     · exact valOnly s_non λδ=>by simp only[evT]
     · exact truthOf s_bl (λ_=>rfl) λδ=>by simp only[evT,ev,R.bind,truth]
     · exact valOnly s_int λδ=>by simp only[evT]
     · exact valOnly s_str λδ=>by simp only[evT]
    |Tuple es k p =>
     obtain⟨y,rfl,h1⟩:=tupE false es k p x hxx h;exact valOnly h1 λδ=>by simp only[evT]
    |List es p =>
     obtain⟨y,rfl,h1⟩:=lstE false es p x hxx h;exact valOnly h1 λδ=>by simp only[evT]
    |Subscript a i p =>
     obtain⟨⟨y,z,rfl⟩|⟨o,y,rfl⟩,h1⟩:=subE false a i p x hxx h
     · exact truthOf h1 (λ_=>rfl) λδ=>by simp only[evT,ev]
     · exact valOnly h1 λδ=>by simp only[evT]
    |Dict ks vs p =>
     rw[JAA hxx]at h;dsimp only[JAO]at h
     split at h
     · rename_i xs hks
       split at h
       ·rename_i hc;obtain⟨y,hy,e'⟩:=Option.map_eq_some_iff.mp h;subst e';exact valOnly (ra.dct hc.2.1 X XX g n names N ks vs xs y p ihE hks hc.2.2.1 hc.2.2.2.1 hc.2.2.2.2.1 (of_decide_eq_true hc.2.2.2.2.2) hy) λδ=>by simp only[evT]
       ·cases h
     · cases h
    |BinOp a op b p =>
     rw[JAA hxx]at h;dsimp only[JAO]at h
     split at h
     · rename_i es k hr
       split at hr
       case isFalse=>cases hr
       rename_i hz;obtain⟨p1,kk,j,p2,rfl,rfl,rfl,rfl,hr1,hr2,hr3⟩:=JHB hr;obtain⟨y,hy,e'⟩:=Option.map_eq_some_iff.mp h;subst e';exact valOnly (ra.rep hz.2 X XX g es y kk j p1 p2 p (allA g ihE hy) (by rw[JAT hy];exact hr3) hr1 hr2) λδ=>by simp only[evT]
     · split at h
       ·rename_i u v hp;obtain⟨i1,q1,i2,q2,rfl,rfl,rfl,hp1,hp2,hp3,hp4⟩:=JHU hp
        split at h
        case isFalse=>cases h
        cases h;exact valOnly (s_pow hp1 hp2 hp3 hp4) λδ=>by simp only[evT]
       ·split at h
        ·rename_i ho;obtain⟨y,hy,h⟩:=Option.bind_eq_some_iff.mp h;obtain⟨z,hz,h⟩:=Option.bind_eq_some_iff.mp h;cases h;exact valOnly (JQZ g (ihE a y hy) (ihE b z hz)) λδ=>by simp only[evT]
        ·cases h
    |UnaryOp op a p =>
     rw[JAA hxx]at h;dsimp only[JAO]at h;cases op<;>simp only[Option.map_eq_some_iff,reduceCtorEq]at h
     · obtain⟨y,hy,e'⟩:=h
       subst e';exact⟨s_not g (ihE a y hy),JJU g (ih a y hy).2⟩
     · obtain⟨y,hy,e'⟩:=h
       subst e';exact valOnly (s_neg g (ihE a y hy)) λδ=>by simp only[evT]
    |BoolOp op es p =>
     rw[JAA hxx]at h;dsimp only[JAO]at h;cases op
     · obtain⟨q1,q2⟩:=JK0 g ih h
       exact⟨q1,q2.pt⟩
     · obtain⟨q1,q2⟩:=JQD g ih h
       exact⟨q1,q2.pt⟩
    |Compare a ops bs p =>
     match ops,bs,h with
     | [op],[b],h =>
       rw[JAA hxx]at h;dsimp only[JAO]at h;rw[if_neg Bool.false_ne_true]at h;have cmpd:∀(y z:E),PE X a (RE B C XX y)→PE X b (RE B C XX z)→behindInMarks op b=false→PE X (.Compare a [op] [b] p) (RE B C XX (.cmp op y z))∧PT X (.Compare a [op] [b] p) (RT B C XX (.cmp op y z)):=λy z h1 h2 hm =>
        ⟨JAv g h1 h2 hm,JQN op (JBr (JP9 g op) h1 h2 hm) (λσ H Q ⟨δ,ok,k⟩=>two g (f:=cmpD op) (λx y H dx dy h1 h2 k=>⟨dx,dy,h1,h2,k⟩) ⟨δ,ok,by simpa only[ev] using k⟩) (λδ=>by simp only[evT,ev]) λδ d h=>JFw h⟩
       cases op<;>simp only at h<;>first
        |(split at h
          · cases h
          · rename_i hm
            obtain⟨y,hy,h⟩:=Option.bind_eq_some_iff.mp h;obtain⟨z,hz,h⟩:=Option.bind_eq_some_iff.mp h;cases h;exact cmpd y z (ihE a y hy) (ihE b z hz) (by simpa using hm))
        |skip
       ·split at h
        ·obtain⟨y,hy,e'⟩:=Option.map_eq_some_iff.mp h;subst e';exact⟨s_isN g (ihE a y hy),JJO g (ihE a y hy)⟩
        ·obtain⟨y,hy,e'⟩:=Option.map_eq_some_iff.mp h;subst e';exact⟨s_isB g (ihE a y hy),JJ8 g (ihE a y hy)⟩
        ·cases h
       ·split at h
        ·obtain⟨y,hy,e'⟩:=Option.map_eq_some_iff.mp h;subst e';exact⟨JMb g (ihE a y hy),JMv g (ihE a y hy)⟩
        ·obtain⟨y,hy,e'⟩:=Option.map_eq_some_iff.mp h;subst e';exact⟨JQ0 g (ihE a y hy),JGA g (ihE a y hy)⟩
        ·cases h
     | [],_,h=>exact JAE ((JAA hxx).symm.trans h)
     |_::_::_,_,h=>exact JAE ((JAA hxx).symm.trans h)
     | [_],[],h=>exact JAE ((JAA hxx).symm.trans h)
     | [_],_::_::_,h=>exact JAE ((JAA hxx).symm.trans h)
    |IfExp c a b p =>
     rw[JAA hxx]at h;dsimp only[JAO]at h;rw[if_neg Bool.false_ne_true]at h;obtain⟨z,hz,h⟩:=Option.bind_eq_some_iff.mp h;obtain⟨y,hy,h⟩:=Option.bind_eq_some_iff.mp h;obtain⟨w,hw,h⟩:=Option.bind_eq_some_iff.mp h;cases h;exact valOnly (s_ife g (ih c z hz).2 (ihE a y hy) (ihE b w hw)) λδ=>by simp only[evT]
    |Call f args kws p =>
     cases f with
     |Name nm p2 =>
       cases kws with
       |nil =>
        rcases callE false nm p2 p args x hxx h with ⟨i,y,rfl,h1⟩|⟨_,hs,h1⟩|⟨hb,_⟩
        ·exact truthOf h1 (λ_=>rfl) λδ=>by simp only[evT,ev]
        ·rcases hs with ⟨i,y,rfl⟩|⟨y,t,rfl⟩|⟨o,y,rfl⟩
         · exact truthOf h1 (λ_=>rfl) λδ=>by simp only[evT,ev]
         · exact truthOf h1 (λ_=>rfl) λδ=>by simp only[evT,ev]
         · exact valOnly h1 λδ=>by simp only[evT]
        ·cases hb
       |cons k ks=>exact JAE ((JAA hxx).symm.trans h)
     |Attribute o m ap =>
       cases kws with
       |cons k ks=>match args,h with
        | [],h=>exact JAE ((JAA hxx).symm.trans h)
        | [_],h=>exact JAE ((JAA hxx).symm.trans h)
        | [_,_],h=>exact JAE ((JAA hxx).symm.trans h)
        |_::_::_::_,h=>exact JAE ((JAA hxx).symm.trans h)
       |nil=>match args,h with
        | [],h=>exact JAE ((JAA hxx).symm.trans h)
        |_::_::_::_,h=>exact JAE ((JAA hxx).symm.trans h)
        | [a],hh =>
         clear h;rw[JAA hxx]at hh;dsimp only[JAO]at hh
         split at hh
         · rename_i hc
           split at hh
           · rename_i hm
             subst hm;obtain⟨y,hy,hh⟩:=Option.bind_eq_some_iff.mp hh;obtain⟨z,hz,hh⟩:=Option.bind_eq_some_iff.mp hh;cases hh;exact valOnly (ra.ro.count hc.2 X XX g o a y z ap p hc.1.2.1 hc.1.2.2 (ihE o y hy) (ihE a z hz) (JAV hz [] X.env)) λδ=>by simp only[evT]
           · split at hh
             ·rename_i hm;subst hm;obtain⟨y,hy,hh⟩:=Option.bind_eq_some_iff.mp hh;obtain⟨z,hz,hh⟩:=Option.bind_eq_some_iff.mp hh;cases hh;exact valOnly (ra.ro.index hc.2 X XX g o a y z ap p hc.1.2.1 hc.1.2.2 (ihE o y hy) (ihE a z hz) (JAV hz [] X.env)) λδ=>by simp only[evT]
             ·cases hh
         · cases hh
        | [a,b],hh =>
         clear h;rw[JAA hxx]at hh;dsimp only[JAO]at hh
         split at hh
         · rename_i hc
           obtain⟨⟨_,h1,h2,h3⟩,hfl⟩:=hc;subst h3;obtain⟨y,hy,hh⟩:=Option.bind_eq_some_iff.mp hh;obtain⟨z,hz,hh⟩:=Option.bind_eq_some_iff.mp hh;obtain⟨w,hw,hh⟩:=Option.bind_eq_some_iff.mp hh;cases hh;exact valOnly (ra.ro.get hfl X XX g o a b y z w ap p h1 h2 (ihE o y hy) (ihE a z hz) (ihE b w hw) (by rw[JAV hz [b] X.env,JAV hw [] X.env];rfl) (JAV hw [] X.env)) λδ=>by simp only[evT]
         · cases hh
     |_=>exact JAE ((JAA hxx).symm.trans h)
    |ListComp elt gens sc p =>
     match gens,h with
     | [],h=>exact JAE ((JAA hxx).symm.trans h)
     |⟨_,_,_,_⟩::_::_,h=>exact JAE ((JAA hxx).symm.trans h)
     | [⟨tg,iter,ifs,as⟩],h =>
       rw[JAA hxx]at h;dsimp only[JAO]at h
       split at h
       ·cases h
       ·rename_i hc;have hc1:as=0:=Decidable.byContradiction λz=>hc (.inr (.inl z));have hc2:sc.kind=.function:=Decidable.byContradiction λz=>hc (.inr (.inr (.inl z)))
        haveI:Cool G:=JCz λz=>hc (.inr (.inr (.inr z)))
        subst hc1
        split at h
        ·cases h
        ·rename_i k xs htg
         split at h
         · rename_i hs
           obtain⟨i,hi,h⟩:=Option.bind_eq_some_iff.mp h;obtain⟨y,hy,h⟩:=Option.bind_eq_some_iff.mp h;have bk:=JLQ hk hn hN hc2 hs;refine valOnly ?_ λδ=>?_
           · cases tg with
             |Name nm px =>
              simp only[JB2,Option.some.injEq,Prod.mk.injEq]at htg;obtain⟨e1,e2⟩:=htg;subst e1;subst e2;unfold itK at hi;rw[if_pos rfl]at hi;have inner:=λ(Cc:Addr) (fp:List Addr) (s0:Shared) (H0:Hp)=>sound ra n (JAc X sc Cc ([nm]++mask [nm] 0 X.N) fp s0 H0) (λ_ _=>False) (JAo names sc.names) ([nm]++mask [nm] 0 N)
               (Gk.nox g rfl rfl rfl rfl rfl rfl rfl λ_ _ _ _ _ _ _ z=>(ra.nox _ _ _ _ _ z).elim) hc2 (by rw[←hn];exact JAU hk) (by rw[←hN];rfl) (by rw[←hN];exact bk.nd)
              have hloc:∀Cc fp s0 H0,(JAc X sc Cc ([nm]++mask [nm] 0 X.N) fp s0 H0).env.scope.names.lookup nm=some .local:=λCc fp s0 H0=>by
               show(compEnvC sc (JBB X.env.cells sc.names []) Cc X.env).scope.names.lookup nm=_;rw[JAU hk];exact JA2 (bk.tg nm (by simp))
              match ifs,h with
              | [],h =>
               cases h;exact REF.of (JC5 g bk (ihI _ iter i hi) (JBo hi X.env) λCc fp s0 H0 σ δ=>JCI (by exact bk.nd) rfl (hloc Cc fp s0 H0) ((inner Cc fp s0 H0).1 elt y hy).1 (λc hc=>by cases hc) (.inl ⟨rfl,rfl⟩) rfl) JCL
              | [c],h =>
               obtain⟨w,hw,h⟩:=Option.bind_eq_some_iff.mp h;cases h;exact REF.of (JC5 g bk (ihI _ iter i hi) (JBo hi X.env) λCc fp s0 H0 σ δ=>JCI (by exact bk.nd) rfl (hloc Cc fp s0 H0) ((inner Cc fp s0 H0).1 elt y hy).1 (λc' hc=>by cases hc;exact((inner Cc fp s0 H0).1 c w hw).2) (.inr ⟨c,rfl⟩) rfl) JCL
              |_::_::_,h=>cases h
             |Tuple ts kt pt =>
              simp only[JB2]at htg;obtain⟨xs',hx,htg⟩:=Option.bind_eq_some_iff.mp htg
              split at htg
              ·cases htg
              ·rename_i hne;simp only[Option.some.injEq,Prod.mk.injEq]at htg;obtain⟨e1,e2⟩:=htg;subst e2;subst e1;have hk0:xs'.length≠0:=λz=>hne (List.length_eq_zero_iff.mp z);unfold itK at hi;rw[if_neg hk0]at hi;have inner:=λ(Cc:Addr) (fp:List Addr) (s0:Shared) (H0:Hp)=>sound ra n (JAc X sc Cc (xs'++mask xs' 0 X.N) fp s0 H0) (λ_ _=>False) (JAo names sc.names) (xs'++mask xs' 0 N)
                 (Gk.nox g rfl rfl rfl rfl rfl rfl rfl λ_ _ _ _ _ _ _ z=>(ra.nox _ _ _ _ _ z).elim) hc2 (by rw[←hn];exact JAU hk) (by rw[←hN];rfl) (by rw[←hN];exact bk.nd)
               have hloc:∀Cc fp s0 H0,∀nm∈xs',(JAc X sc Cc (xs'++mask xs' 0 X.N) fp s0 H0).env.scope.names.lookup nm=some .local:=λCc fp s0 H0 nm hnm=>by
                 show(compEnvC sc (JBB X.env.cells sc.names []) Cc X.env).scope.names.lookup nm=_;rw[JAU hk];exact JA2 (bk.tg nm hnm)
               have hat:∀Cc fp s0 H0 (i:Nat) (nm:Str),xs'[i]? = some nm→(JAc X sc Cc (xs'++mask xs' 0 X.N) fp s0 H0).N[i]? = some nm:=λCc fp s0 H0 i nm e=>by
                 show(xs'++mask xs' 0 X.N)[i]? = some nm;rw[List.getElem?_append_left (List.getElem?_eq_some_iff.mp e).1];exact e
               obtain⟨hpi,hfo⟩:PI X (.Tuple ts kt pt) iter (RI B C XX i)∧∀v,foldedSetIterable iter X.env v=pure v:=by
                 cases hq:xT G names iter with
                 |none=>rw[hq]at hi;exact⟨ihI _ iter i hi,JBo hi X.env⟩
                 |some q =>
                   rw[hq]at hi;obtain⟨y',hy',rfl⟩:=Option.map_eq_some_iff.mp hi;obtain⟨q1,q2⟩:=JD4 hq;exact⟨(ra.xop q.1 q2).tgt X XX g ts kt pt iter q.2 y' (by rw[hn];exact q1) (allA g ihE hy') (JCn hy') (JAT hy'),JFk hq X.env⟩
               match ifs,h with
               | [],h =>
                 cases h;exact REF.of (JC5 g bk hpi hfo λCc fp s0 H0 σ δ=>item_tup rfl g.K hx hne (by exact bk.nd) (hat Cc fp s0 H0) (hloc Cc fp s0 H0) ((inner Cc fp s0 H0).1 elt y hy).1 (λc hc=>by cases hc) (.inl ⟨rfl,rfl⟩) rfl) JCL
               | [c],h =>
                 obtain⟨w,hw,h⟩:=Option.bind_eq_some_iff.mp h;cases h;exact REF.of (JC5 g bk hpi hfo λCc fp s0 H0 σ δ=>item_tup rfl g.K hx hne (by exact bk.nd) (hat Cc fp s0 H0) (hloc Cc fp s0 H0) ((inner Cc fp s0 H0).1 elt y hy).1 (λc' hc=>by cases hc;exact((inner Cc fp s0 H0).1 c w hw).2) (.inr ⟨c,rfl⟩) rfl) JCL
               |_::_::_,h=>cases h
             |_=>simp[JB2]at htg
           · match ifs,h with
             | [],h=>cases h;simp only[evT]
             | [c],h =>
              obtain⟨w,hw,h⟩:=Option.bind_eq_some_iff.mp h;cases h;simp only[evT]
             |_::_::_,h=>cases h
         · cases h
    |_=>exact JAE ((JAA hxx).symm.trans h)
  · intro tg e x h
    cases hxx:xOf G names true e with
    |some q =>
     rw[JGh hxx]at h;obtain⟨y,hy,e'⟩:=Option.map_eq_some_iff.mp h;subst e';rcases JGs hxx with ⟨q1,q2⟩|⟨z,_⟩|⟨q1,q2⟩
     rotate_left
     · cases z
     rotate_right
     · exact(ra.dop q2).itr X XX g tg e q.1 q.2 y (by rw[hn];exact q1) (pes ihE hy) (JCn hy)
     · exact(ra.xop q.1 q2).itr X XX g tg e q.2 y (by rw[hn];exact q1) (allA g ihE hy) (JCn hy) (JAT hy)
    |none =>
    cases e with
    |Name nm p =>
     obtain⟨h1,_,h3⟩:=nameE true nm p x hxx h;exact JFy g h1 h3
    |Tuple es k p =>
     obtain⟨y,rfl,h1⟩:=tupE true es k p x hxx h;refine JFy g h1 λδ=>?_;simp only[evI,ev];cases evA C y δ<;>rfl
    |List es p =>
     obtain⟨y,rfl,h1⟩:=lstE true es p x hxx h;refine JFy g h1 λδ=>?_;simp only[evI,ev];cases evA C y δ<;>rfl
    |Subscript a i p =>
     obtain⟨⟨y,z,rfl⟩|⟨o,y,rfl⟩,h1⟩:=subE true a i p x hxx h
     · exact JFy g h1 λδ=>by simp only[evI,ev]
     · exact JFy g h1 λδ=>by simp only[evI,ev]
    |Call f args kws p =>
     cases f with
     |Name nm p2 =>
       cases kws with
       |nil =>
        rcases callE true nm p2 p args x hxx h with ⟨i,y,rfl,h1⟩|⟨hb,_⟩|⟨_,y,rfl,h1⟩
        ·exact JFy g h1 λδ=>by simp only[evI,ev]
        ·cases hb
        ·exact h1 tg
       |cons k ks=>exact JAE ((JAA hxx).symm.trans h)
     |Attribute o m ap =>
       cases kws with
       |cons k ks=>match args,h with
        | [],h=>exact JAE ((JAA hxx).symm.trans h)
        | [_],h=>exact JAE ((JAA hxx).symm.trans h)
        | [_,_],h=>exact JAE ((JAA hxx).symm.trans h)
        |_::_::_::_,h=>exact JAE ((JAA hxx).symm.trans h)
       |nil=>match args,h with
        | [],h=>exact JAE ((JAA hxx).symm.trans h)
        | [_],h=>exact JAE ((JAA hxx).symm.trans h)
        | [_,_],h=>exact JAE ((JAA hxx).symm.trans h)
        |_::_::_::_,h=>exact JAE ((JAA hxx).symm.trans h)
     |_=>exact JAE ((JAA hxx).symm.trans h)
    |Compare a ops bs p=>match ops,bs,h with
     | [_],[_],h=>exact JAE ((JAA hxx).symm.trans h)
     | [],_,h=>exact JAE ((JAA hxx).symm.trans h)
     |_::_::_,_,h=>exact JAE ((JAA hxx).symm.trans h)
     | [_],[],h=>exact JAE ((JAA hxx).symm.trans h)
     | [_],_::_::_,h=>exact JAE ((JAA hxx).symm.trans h)
    |ListComp elt gens sc p=>match gens,h with
     | [],h=>exact JAE ((JAA hxx).symm.trans h)
     |⟨_,_,_,_⟩::_::_,h=>exact JAE ((JAA hxx).symm.trans h)
     | [⟨tg,iter,ifs,as⟩],h=>exact JAE ((JAA hxx).symm.trans h)
    |BinOp a op b p =>
     rw[JAA hxx]at h;dsimp only[JAO]at h
     split at h
     · rename_i hr
       simp at hr
     · split at h
       ·simp at h
       ·split at h
        ·obtain⟨y,hy,h⟩:=Option.bind_eq_some_iff.mp h;obtain⟨z,hz,h⟩:=Option.bind_eq_some_iff.mp h;cases h;exact JFy g (JQZ g (ihE a y hy) (ihE b z hz)) λδ=>by simp only[evI,ev]
        ·cases h
    |Dict ks vs p =>
     rw[JAA hxx]at h;dsimp only[JAO]at h
     split at h
     · simp at h
     · cases h
    |_=>exact JAE ((JAA hxx).symm.trans h)
theorem JHb(ra:Rare B C CX G){n:Nat}{X:Cx}{XX:Nat→Hp→Prop}{names:Nq}{N:List Str}(g:Gk X B C CX XX G)(hk:X.env.scope.kind=.function)(hn:X.env.scope.names=names)(hN:X.N=N)(hnd:N.Nodup)
  {elt:Expr}{gens:List Comprehension}{sc:Scope}{p:Pos}{x:E}(h:JAN G n false names N (.ListComp elt gens sc p)=some x) :
  ∃target iter ifs xs k y z w,gens=[⟨target,iter,ifs,0⟩]∧x=.cmpr k y z w∧BlkOk X sc xs∧PI X target iter (RI B C XX z)∧(∀v,foldedSetIterable iter X.env v=pure v) ∧
   ∀Cc fp s0 H0 σ δ,JB9 (JAc X sc Cc (xs++mask xs 0 X.N) fp s0 H0) B σ xs.length δ target elt ifs (itemF C k y w δ):=by
 cases n with
 |zero=>simp[JAN,JAX,JAO,xOf,tOf,tRaw,dOf,dRaw,Option.bind_none,ite_self,xRaw]at h
 |succ n =>
  match gens,h with
  | [],h=>simp[JAN,JAX,JAO,xOf,tOf,tRaw,dOf,dRaw,Option.bind_none,ite_self,xRaw]at h
  |⟨_,_,_,_⟩::_::_,h=>simp[JAN,JAX,JAO,xOf,tOf,tRaw,dOf,dRaw,Option.bind_none,ite_self,xRaw]at h
  | [⟨tg,iter,ifs,as⟩],h =>
   simp only[JAN,JAX,JAO,xOf,tOf,tRaw,dOf,dRaw,Option.bind_none,ite_self,xRaw,Option.bind_none]at h
   split at h
   ·cases h
   ·rename_i hc;have hc1:as=0:=Decidable.byContradiction λz=>hc (.inr (.inl z));have hc2:sc.kind=.function:=Decidable.byContradiction λz=>hc (.inr (.inr (.inl z)))
    haveI:Cool G:=JCz λz=>hc (.inr (.inr (.inr z)))
    subst hc1
    split at h
    ·cases h
    ·rename_i k xs htg
     split at h
     ·rename_i hs;obtain⟨i,hi,h⟩:=Option.bind_eq_some_iff.mp h;obtain⟨y,hy,h⟩:=Option.bind_eq_some_iff.mp h;have bk:=JLQ hk hn hN hc2 hs;have ihI:=(sound ra n X XX names N g hk hn hN hnd).2;cases tg with
      |Name nm px =>
       simp only[JB2,Option.some.injEq,Prod.mk.injEq]at htg;obtain⟨e1,e2⟩:=htg;subst e1;subst e2;unfold itK at hi;rw[if_pos rfl]at hi;have inner:=λ(Cc:Addr) (fp:List Addr) (s0:Shared) (H0:Hp)=>sound ra n (JAc X sc Cc ([nm]++mask [nm] 0 X.N) fp s0 H0) (λ_ _=>False) (JAo names sc.names) ([nm]++mask [nm] 0 N)
        (Gk.nox g rfl rfl rfl rfl rfl rfl rfl λ_ _ _ _ _ _ _ z=>(ra.nox _ _ _ _ _ z).elim) hc2 (by rw[←hn];exact JAU hk) (by rw[←hN];rfl) (by rw[←hN];exact bk.nd)
       have hloc:∀Cc fp s0 H0,(JAc X sc Cc ([nm]++mask [nm] 0 X.N) fp s0 H0).env.scope.names.lookup nm=some .local:=λCc fp s0 H0=>by
        show(compEnvC sc (JBB X.env.cells sc.names []) Cc X.env).scope.names.lookup nm=_;rw[JAU hk];exact JA2 (bk.tg nm (by simp))
       match ifs,h with
       | [],h =>
        cases h;exact⟨_,iter,[],[nm],0,y,i,_,rfl,rfl,bk,ihI _ iter i hi,JBo hi X.env,λCc fp s0 H0 σ δ=>JCI (by exact bk.nd) rfl (hloc Cc fp s0 H0) ((inner Cc fp s0 H0).1 elt y hy).1 (λc hc=>by cases hc) (.inl ⟨rfl,rfl⟩) rfl⟩
       | [c],h =>
        obtain⟨w,hw,h⟩:=Option.bind_eq_some_iff.mp h;cases h;exact⟨_,iter,[c],[nm],0,y,i,w,rfl,rfl,bk,ihI _ iter i hi,JBo hi X.env,λCc fp s0 H0 σ δ=>JCI (by exact bk.nd) rfl (hloc Cc fp s0 H0) ((inner Cc fp s0 H0).1 elt y hy).1 (λc' hc=>by cases hc;exact((inner Cc fp s0 H0).1 c w hw).2) (.inr ⟨c,rfl⟩) rfl⟩
       |_::_::_,h=>cases h
      |Tuple ts kt pt =>
       simp only[JB2]at htg;obtain⟨xs',hx,htg⟩:=Option.bind_eq_some_iff.mp htg
       split at htg
       ·cases htg
       ·rename_i hne;simp only[Option.some.injEq,Prod.mk.injEq]at htg;obtain⟨e1,e2⟩:=htg;subst e2;subst e1;have hk0:xs'.length≠0:=λz=>hne (List.length_eq_zero_iff.mp z);unfold itK at hi;rw[if_neg hk0]at hi;have inner:=λ(Cc:Addr) (fp:List Addr) (s0:Shared) (H0:Hp)=>sound ra n (JAc X sc Cc (xs'++mask xs' 0 X.N) fp s0 H0) (λ_ _=>False) (JAo names sc.names) (xs'++mask xs' 0 N)
          (Gk.nox g rfl rfl rfl rfl rfl rfl rfl λ_ _ _ _ _ _ _ z=>(ra.nox _ _ _ _ _ z).elim) hc2 (by rw[←hn];exact JAU hk) (by rw[←hN];rfl) (by rw[←hN];exact bk.nd)
        have hloc:∀Cc fp s0 H0,∀nm∈xs',(JAc X sc Cc (xs'++mask xs' 0 X.N) fp s0 H0).env.scope.names.lookup nm=some .local:=λCc fp s0 H0 nm hnm=>by
          show(compEnvC sc (JBB X.env.cells sc.names []) Cc X.env).scope.names.lookup nm=_;rw[JAU hk];exact JA2 (bk.tg nm hnm)
        have hat:∀Cc fp s0 H0 (i:Nat) (nm:Str),xs'[i]? = some nm→(JAc X sc Cc (xs'++mask xs' 0 X.N) fp s0 H0).N[i]? = some nm:=λCc fp s0 H0 i nm e=>by
          show(xs'++mask xs' 0 X.N)[i]? = some nm;rw[List.getElem?_append_left (List.getElem?_eq_some_iff.mp e).1];exact e
        obtain⟨hpi,hfo⟩:PI X (.Tuple ts kt pt) iter (RI B C XX i)∧∀v,foldedSetIterable iter X.env v=pure v:=by
          cases hq:xT G names iter with
          |none=>rw[hq]at hi;exact⟨ihI _ iter i hi,JBo hi X.env⟩
          |some q =>
            rw[hq]at hi;obtain⟨y',hy',rfl⟩:=Option.map_eq_some_iff.mp hi;obtain⟨q1,q2⟩:=JD4 hq;exact⟨(ra.xop q.1 q2).tgt X XX g ts kt pt iter q.2 y' (by rw[hn];exact q1) (allA g (λe x h=>((sound ra n X XX names N g hk hn hN hnd).1 e x h).1) hy') (JCn hy') (JAT hy'),JFk hq X.env⟩
        match ifs,h with
        | [],h =>
          cases h;exact⟨_,iter,[],xs',_,y,i,_,rfl,rfl,bk,hpi,hfo,λCc fp s0 H0 σ δ=>item_tup rfl g.K hx hne (by exact bk.nd) (hat Cc fp s0 H0) (hloc Cc fp s0 H0) ((inner Cc fp s0 H0).1 elt y hy).1 (λc hc=>by cases hc) (.inl ⟨rfl,rfl⟩) rfl⟩
        | [c],h =>
          obtain⟨w,hw,h⟩:=Option.bind_eq_some_iff.mp h;cases h;exact⟨_,iter,[c],xs',_,y,i,w,rfl,rfl,bk,hpi,hfo,λCc fp s0 H0 σ δ=>item_tup rfl g.K hx hne (by exact bk.nd) (hat Cc fp s0 H0) (hloc Cc fp s0 H0) ((inner Cc fp s0 H0).1 elt y hy).1 (λc' hc=>by cases hc;exact((inner Cc fp s0 H0).1 c w hw).2) (.inr ⟨c,rfl⟩) rfl⟩
        |_::_::_,h=>cases h
      |_=>simp[JB2]at htg
     ·cases h
theorem JIA{n:Nat}{names:Nq}{N:List Str}{elt:Expr}{gens:List Comprehension}{sc:Scope}{p:Pos}{x:E}(h:JAN G n false names N (.ListComp elt gens sc p)=some x):Cool G:=by
 cases n with
 |zero=>simp[JAN,JAX,JAO,xOf,tOf,tRaw,dOf,dRaw,Option.bind_none,ite_self,xRaw]at h
 |succ n =>
  match gens,h with
  | [],h=>simp[JAN,JAX,JAO,xOf,tOf,tRaw,dOf,dRaw,Option.bind_none,ite_self,xRaw]at h
  |⟨_,_,_,_⟩::_::_,h=>simp[JAN,JAX,JAO,xOf,tOf,tRaw,dOf,dRaw,Option.bind_none,ite_self,xRaw]at h
  | [⟨tg,iter,ifs,as⟩],h =>
   simp only[JAN,JAX,JAO,xOf,tOf,tRaw,dOf,dRaw,Option.bind_none,ite_self,xRaw,Option.bind_none]at h
   split at h
   ·cases h
   ·rename_i hc;exact JCz λz=>hc (.inr (.inr (.inr z)))
theorem JFJ(ra:Rare B C CX G){n:Nat}{X:Cx}{XX:Nat→Hp→Prop}{names:Nq}{N:List Str}(g:Gk X B C CX XX G)(hk:X.env.scope.kind=.function)(hn:X.env.scope.names=names)(hN:X.N=N)(hnd:N.Nodup)
  {es:List Expr}{p:Pos}{x:E}(h:JAN G n false names N (.List es p)=some x):PE X (.List es p) (REF B C XX x):=by
 cases n with
 |zero=>simp[JAN,JAX,JAO,xOf,tOf,tRaw,dOf,dRaw,Option.bind_none,ite_self,xRaw]at h
 |succ n =>
  simp only[JAN,JAX,JAO,xOf,tOf,tRaw,dOf,dRaw,Option.bind_none,ite_self,xRaw,Option.bind_none]at h
  split at h
  ·rename_i hl;obtain⟨y,hx,e'⟩:=Option.map_eq_some_iff.mp h;subst e';exact JPP g (allA g (λe x h=>((sound ra n X XX names N g hk hn hN hnd).1 e x h).1) hx) (by rw[JAT hx];exact hl)
  ·cases h
end
def Agr(x:E)(δ δ':Env):Prop:=∀i,x.uses i=true→δ[i]? = δ'[i]?
theorem JJh{δ δ':Env}{i:Nat}(h:δ[i]? = δ'[i]?):look δ i=look δ' i:=by unfold look;rw[h]
theorem JJu{k:Nat}{d:D}{δ δ' δ1:Env}(h:push k d δ=.ok δ1):∃δ1',push k d δ'=.ok δ1'∧∀x:E,(∀i,x.uses (i+(if k=0 then 1 else k))=true→δ[i]? = δ'[i]?)→Agr x δ1 δ1':=by
 cases k with
 |zero =>
  have e:(.val d::δ)=δ1:=by injection h
  subst e;refine⟨_,rfl,λx hx i hi=>?_⟩;cases i with
  |zero=>rfl
  |succ i=>simpa using hx i hi
 |succ k =>
  unfold push at h ⊢;cases d<;>first|cases h|skip
  rename_i ds;simp only at h ⊢
  split at h
  ·rename_i hl;have e:ds.map Sl.val++δ=δ1:=by injection h
   subst e;rw[if_pos hl];refine⟨_,rfl,λx hx i hi=>?_⟩
   by_cases hi2:i<ds.length
   ·rw[List.getElem?_append_left (by simpa using hi2),List.getElem?_append_left (by simpa using hi2)]
   ·rw[List.getElem?_append_right (by simpa using hi2),List.getElem?_append_right (by simpa using hi2)]
    simp only[List.length_map];refine hx _ ?_;rw[if_neg (Nat.succ_ne_zero k),←hl,Nat.sub_add_cancel (by omega)]
    exact hi
  ·cases h
theorem JKM{k:Nat}{d:D}{δ δ':Env}(h:push k d δ=.bad):push k d δ'=.bad:=by
 cases k with
 |zero=>cases h
 |succ k =>
  unfold push at h ⊢;cases d<;>first|rfl|skip
  simp only at h ⊢
  split at h
  ·cases h
  ·rename_i hl;rw[if_neg hl]
theorem JKL{k c:Nat}{d:D}{δ:Env}:push k d δ≠.exc c:=by
 cases k with
 |zero=>intro h;cases h
 |succ k =>
  unfold push;cases d<;>simp only<;>(try split)<;>(intro h;cases h)
theorem ub_l{a b:Bool}(h:a=true):(a || b)=true:=by rw[h];rfl
theorem ub_r{a b:Bool}(h:b=true):(a || b)=true:=by rw[h];exact Bool.or_true a
theorem JAg{a b c:Bool}(h:a=true):(a || b || c)=true:=ub_l (ub_l h)
theorem JAd{a b c:Bool}(h:b=true):(a || b || c)=true:=ub_l (ub_r h)
theorem agree(C:Cn)(x:E):∀(δ δ':Env),Agr x δ δ'→ev C x δ=ev C x δ'∧evT C x δ=evT C x δ'∧evA C x δ=evA C x δ'∧evI C x δ=evI C x δ':=by
 induction x with
 |var i=>intro δ δ' h;simp only[ev,evT,evA,evI,JJh (h i (show(i==i)=true from beq_self_eq_true i)),and_self]
 |cint _|cbl _|cnon|cstr _|glo _|nil=>intro δ δ' h;simp only[ev,evT,evA,evI,and_self]
 |bin op a b iha ihb =>
  intro δ δ' h;have ha:=iha δ δ' λi hi=>h i (by first|exact hi|exact ub_l hi|exact ub_r hi|exact JAg hi|exact JAd hi)
  have hb:=ihb δ δ' λi hi=>h i (by first|exact hi|exact ub_l hi|exact ub_r hi|exact JAg hi|exact JAd hi)
  simp only[ev,evT,evA,evI,ha.1,hb.1,and_self]
 |neg a iha =>
  intro δ δ' h;have ha:=iha δ δ' λi hi=>h i (by first|exact hi|exact ub_l hi|exact ub_r hi|exact JAg hi|exact JAd hi)
  simp only[ev,evT,evA,evI,ha.1,and_self]
 |not a iha =>
  intro δ δ' h;have ha:=iha δ δ' λi hi=>h i (by first|exact hi|exact ub_l hi|exact ub_r hi|exact JAg hi|exact JAd hi)
  simp only[ev,evT,evA,evI,ha.1,ha.2.1,and_self]
 |and a b iha ihb =>
  intro δ δ' h;have ha:=iha δ δ' λi hi=>h i (by first|exact hi|exact ub_l hi|exact ub_r hi|exact JAg hi|exact JAd hi)
  have hb:=ihb δ δ' λi hi=>h i (by first|exact hi|exact ub_l hi|exact ub_r hi|exact JAg hi|exact JAd hi)
  simp only[ev,evT,evA,evI,ha.1,hb.1,ha.2.1,hb.2.1,and_self]
 |or a b iha ihb =>
  intro δ δ' h;have ha:=iha δ δ' λi hi=>h i (by first|exact hi|exact ub_l hi|exact ub_r hi|exact JAg hi|exact JAd hi)
  have hb:=ihb δ δ' λi hi=>h i (by first|exact hi|exact ub_l hi|exact ub_r hi|exact JAg hi|exact JAd hi)
  simp only[ev,evT,evA,evI,ha.1,hb.1,ha.2.1,hb.2.1,and_self]
 |cmp op a b iha ihb =>
  intro δ δ' h;have ha:=iha δ δ' λi hi=>h i (by first|exact hi|exact ub_l hi|exact ub_r hi|exact JAg hi|exact JAd hi)
  have hb:=ihb δ δ' λi hi=>h i (by first|exact hi|exact ub_l hi|exact ub_r hi|exact JAg hi|exact JAd hi)
  simp only[ev,evT,evA,evI,ha.1,hb.1,and_self]
 |isN a n iha =>
  intro δ δ' h;have ha:=iha δ δ' λi hi=>h i (by first|exact hi|exact ub_l hi|exact ub_r hi|exact JAg hi|exact JAd hi)
  simp only[ev,evT,evA,evI,ha.1,and_self]
 |isB a n iha =>
  intro δ δ' h;have ha:=iha δ δ' λi hi=>h i (by first|exact hi|exact ub_l hi|exact ub_r hi|exact JAg hi|exact JAd hi)
  simp only[ev,evT,evA,evI,ha.1,and_self]
 |ife c a b ihc iha ihb =>
  intro δ δ' h;have hc:=ihc δ δ' λi hi=>h i (by first|exact hi|exact ub_l hi|exact ub_r hi|exact JAg hi|exact JAd hi)
  have ha:=iha δ δ' λi hi=>h i (by first|exact hi|exact ub_l hi|exact ub_r hi|exact JAg hi|exact JAd hi)
  have hb:=ihb δ δ' λi hi=>h i (by first|exact hi|exact ub_l hi|exact ub_r hi|exact JAg hi|exact JAd hi)
  simp only[ev,evT,evA,evI,ha.1,hb.1,hc.2.1,and_self]
 |cons a r iha ihr =>
  intro δ δ' h;have ha:=iha δ δ' λi hi=>h i (by first|exact hi|exact ub_l hi|exact ub_r hi|exact JAg hi|exact JAd hi)
  have hr:=ihr δ δ' λi hi=>h i (by first|exact hi|exact ub_l hi|exact ub_r hi|exact JAg hi|exact JAd hi)
  simp only[ev,evT,evA,evI,ha.1,hr.2.2.1,and_self]
 |tup es ih =>
  intro δ δ' h;have ha:=ih δ δ' λi hi=>h i (by first|exact hi|exact ub_l hi|exact ub_r hi|exact JAg hi|exact JAd hi)
  simp only[ev,evT,evA,evI,ha.2.2.1,and_self]
 |lst es ih =>
  intro δ δ' h;have ha:=ih δ δ' λi hi=>h i (by first|exact hi|exact ub_l hi|exact ub_r hi|exact JAg hi|exact JAd hi)
  simp only[ev,evT,evA,evI,ha.2.2.1,and_self]
 |fn1 o a iha =>
  intro δ δ' h;have ha:=iha δ δ' λi hi=>h i (by first|exact hi|exact ub_l hi|exact ub_r hi|exact JAg hi|exact JAd hi)
  simp only[ev,evT,evA,evI,ha.1,and_self]
 |xop k es ih =>
  intro δ δ' h;have ha:=ih δ δ' λi hi=>h i (by first|exact hi|exact ub_l hi|exact ub_r hi|exact JAg hi|exact JAd hi)
  simp only[ev,evT,evA,evI,ha.2.2.1,and_self]
 |isnB a n iha =>
  intro δ δ' h;have ha:=iha δ δ' λi hi=>h i (by first|exact hi|exact ub_l hi|exact ub_r hi|exact JAg hi|exact JAd hi)
  simp only[ev,evT,evA,evI,ha.1,and_self]
 |dct ks es ih =>
  intro δ δ' h;have ha:=ih δ δ' λi hi=>h i (by first|exact hi|exact ub_l hi|exact ub_r hi|exact JAg hi|exact JAd hi)
  simp only[ev,evT,evA,evI,ha.2.2.1,and_self]
 |rep k es ih =>
  intro δ δ' h;have ha:=ih δ δ' λi hi=>h i (by first|exact hi|exact ub_l hi|exact ub_r hi|exact JAg hi|exact JAd hi)
  simp only[ev,evT,evA,evI,ha.2.2.1,and_self]
 |idx a b iha ihb =>
  intro δ δ' h;have ha:=iha δ δ' λi hi=>h i (by first|exact hi|exact ub_l hi|exact ub_r hi|exact JAg hi|exact JAd hi)
  have hb:=ihb δ δ' λi hi=>h i (by first|exact hi|exact ub_l hi|exact ub_r hi|exact JAg hi|exact JAd hi)
  simp only[ev,evT,evA,evI,ha.1,hb.1,and_self]
 |call f es ih =>
  intro δ δ' h;have ha:=ih δ δ' λi hi=>h i (by first|exact hi|exact ub_l hi|exact ub_r hi|exact JAg hi|exact JAd hi)
  simp only[ev,evT,evA,evI,ha.2.2.1,and_self]
 |blt b es ih =>
  intro δ δ' h;have ha:=ih δ δ' λi hi=>h i (by first|exact hi|exact ub_l hi|exact ub_r hi|exact JAg hi|exact JAd hi)
  simp only[ev,evT,evA,evI,ha.2.2.1,and_self]
 |rng es ih =>
  intro δ δ' h;have ha:=ih δ δ' λi hi=>h i (by first|exact hi|exact ub_l hi|exact ub_r hi|exact JAg hi|exact JAd hi)
  simp only[ev,evT,evA,evI,ha.2.2.1,and_self]
 |isi a t iha =>
  intro δ δ' h;have ha:=iha δ δ' λi hi=>h i (by first|exact hi|exact ub_l hi|exact ub_r hi|exact JAg hi|exact JAd hi)
  simp only[ev,evT,evA,evI,ha.1,and_self]
 |mcount a b iha ihb =>
  intro δ δ' h;have ha:=iha δ δ' λi hi=>h i (by first|exact hi|exact ub_l hi|exact ub_r hi|exact JAg hi|exact JAd hi)
  have hb:=ihb δ δ' λi hi=>h i (by first|exact hi|exact ub_l hi|exact ub_r hi|exact JAg hi|exact JAd hi)
  simp only[ev,evT,evA,evI,ha.1,hb.1,and_self]
 |mindex a b iha ihb =>
  intro δ δ' h;have ha:=iha δ δ' λi hi=>h i (by first|exact hi|exact ub_l hi|exact ub_r hi|exact JAg hi|exact JAd hi)
  have hb:=ihb δ δ' λi hi=>h i (by first|exact hi|exact ub_l hi|exact ub_r hi|exact JAg hi|exact JAd hi)
  simp only[ev,evT,evA,evI,ha.1,hb.1,and_self]
 |mget a b c iha ihb ihc =>
  intro δ δ' h;have ha:=iha δ δ' λi hi=>h i (by first|exact hi|exact ub_l hi|exact ub_r hi|exact JAg hi|exact JAd hi)
  have hb:=ihb δ δ' λi hi=>h i (by first|exact hi|exact ub_l hi|exact ub_r hi|exact JAg hi|exact JAd hi)
  have hc:=ihc δ δ' λi hi=>h i (by first|exact hi|exact ub_l hi|exact ub_r hi|exact JAg hi|exact JAd hi)
  simp only[ev,evT,evA,evI,ha.1,hb.1,hc.1,and_self]
 |cmpr k elt iter cond ihe ihi ihc =>
  intro δ δ' h;have hi:=ihi δ δ' λi hi=>h i (by first|exact hi|exact ub_l hi|exact ub_r hi|exact JAg hi|exact JAd hi)
  refine⟨?_,by simp only[evT],by simp only[evA],by simp only[evI]⟩
  simp only[ev,hi.2.2.2]
  congr 1
  funext xs
  congr 2
  congr 1
  funext d
  cases q:push k d δ with
  |ok δ1 =>
   obtain⟨δ1',q',ag⟩:=JJu (δ':=δ') q;rw[q'];have h1:=ihc δ1 δ1' (ag cond λi hi=>h i (by exact ub_r hi))
   have h2:=ihe δ1 δ1' (ag elt λi hi=>h i (by exact JAd hi))
   simp only[R.bind,h1.2.1,h2.1]
  |exc c=>exact(JKL q).elim
  |bad=>rw[JKM (δ':=δ') q]
theorem JBJ{H:Hp}{P:Addr→Prop}{b:Addr}(h:P b):hidP H P b=none:=by unfold hidP;rw[if_pos h]
theorem JAJ{H:Hp}{P:Addr→Prop}{b:Addr}(h:¬P b):hidP H P b=H b:=by unfold hidP;rw[if_neg h]
theorem JAx{H:Hp}{P:Addr→Prop}{b:Addr}{o:HO}(h:hidP H P b=some o):¬P b∧H b=some o:=by
 by_cases hp:P b
 ·rw[JBJ hp]at h;cases h
 ·rw[JAJ hp]at h;exact⟨hp,h⟩
open Classical in
noncomputable def mixP(H H1:Hp)(P:Addr→Prop):Hp:=λb=>if P b then H b else H1 b
theorem JCD{H H1:Hp}{P:Addr→Prop}{b:Addr}(h:P b):mixP H H1 P b=H b:=by unfold mixP;rw[if_pos h]
theorem JAR{H H1:Hp}{P:Addr→Prop}{b:Addr}(h:¬P b):mixP H H1 P b=H1 b:=by unfold mixP;rw[if_neg h]
section
variable{X:Cx}{pins ps:Pq}{σ:St}{H H1:Hp}{s s1:Shared}{P:Addr→Prop}
theorem JIB(I:Inv X pins σ H s){a:Addr}{xs:HO}(h:H a=some xs)(h0:X.H₀ a=none):a≠X.env.locals∧a ∉ X.fs:=by
 refine⟨λz=>(by rw[z,I.free]at h;cases h),λz=>?_⟩
 obtain⟨_,o,ho,_⟩:=I.ok.funs.mem z;have:=I.base.free a o ho (I.ok.frf a z) λq=>I.ok.exfs a q z;rw[h]at this;cases this
theorem JBw(I:Inv X pins σ H s)(hP:∀a,P a→∃xs,H a=some xs∧X.H₀ a=none∧Ownb xs)(hps:∀p∈ps,P p.1∧s.heap.get? p.1=some p.2):Inv X (pins++ps) σ (hidP H P) s where
 ok:=I.ok
 os:=I.os
 bare:=I.bare
 base:=by
  have nP:∀b u,H b=some u→¬Ownb u→¬P b:=λb u e hu hp=>by
   obtain⟨xs,h1,_,h3⟩:=hP b hp;rw[e]at h1;cases h1;exact hu h3
  refine⟨I.base.keep,I.base.slot,λb o e n hx=>?_,I.base.there,λb xs e=>?_,λb o u e=>?_,λb t e=>?_⟩
  ·have:=I.base.free b o e n hx
   by_cases hp:P b
   ·exact JBJ hp
   ·rw[JAJ hp];exact this
  ·have q:=I.base.tups b xs e;rw[JAJ (nP b _ q λz=>z)];exact q
  ·have q:=I.base.frzs b o u e;rw[JAJ (nP b _ q λz=>z)];exact q
  ·obtain⟨m,q⟩:=I.base.tbls b t e;exact⟨m,by rw[JAJ (nP b _ q λz=>z)];exact q⟩
 loc:=I.loc
 cell:=I.cell
 free:=by
  by_cases hp:P X.env.locals
  ·exact JBJ hp
  ·rw[JAJ hp];exact I.free
 freeC:=λx c e=>by
  by_cases hp:P c
  ·exact JBJ hp
  ·rw[JAJ hp];exact I.freeC x c e
 pin:=λp hp=>by
  have old:∀p∈X.pn++pins,s.heap.get? p.1=some p.2∧hidP H P p.1=none∧p.1≠X.env.locals∧p.1 ∉ X.fs∧∀v,p.2.data≠.cell v:=λp hp=>by
   obtain⟨h1,h2,h3⟩:=I.pin p hp;refine⟨h1,?_,h3⟩
   by_cases hq:P p.1
   ·exact JBJ hq
   ·rw[JAJ hq];exact h2
  rcases List.mem_append.mp hp with z|z
  ·exact old p (List.mem_append_left _ z)
  ·rcases List.mem_append.mp z with z|z
   ·exact old p (List.mem_append_right _ z)
   ·obtain⟨hq,ho⟩:=hps p z;obtain⟨xs,h1,h0,h9⟩:=hP _ hq;obtain⟨n1,n2⟩:=JIB I h1 h0;refine⟨ho,JBJ hq,n1,n2,λv e=>?_⟩;cases xs with
    |lst xs =>
     obtain⟨_,its,n,_,e2⟩:=I.hok _ _ h1;rw[ho]at e2;have e3:p.2={ cls:=.type "list",data:=.seq its.toArray n }:=Option.some.inj e2;rw[e3]at e;have e4:Data.seq its.toArray n=Data.cell v:=e;cases e4
    |dK kvs =>
     obtain⟨_,_,vs,_,o2,es,ep,e2,_,e3,_⟩:=I.hok _ _ h1;rw[ho]at e2;cases e2;rw[e]at e3;cases e3
    |_=>exact h9.elim
 hok:=λb u e=>by
  obtain⟨hb,e⟩:=JAx e;refine(I.hok b u e).stay (λc w _ q=>q) (λc q=>?_) λc xs q=>?_
  ·rw[JAJ λhc=>by obtain⟨xs,h1,_,h9⟩:=hP c hc;rw[q]at h1;cases h1;exact h9];exact q
  ·rw[JAJ λhc=>by obtain⟨ys,h1,_,h9⟩:=hP c hc;rw[q]at h1;cases h1;exact h9];exact q
 len:=I.len
theorem JBL{σ':St}(I:Inv X pins σ H s)(J:Inv X (pins++ps) σ' H1 s1)(hP:∀a,P a→∃xs,H a=some xs∧X.H₀ a=none∧Ownb xs)(hps:∀a,P a→∃o,(a,o)∈ps∧s.heap.get? a=some o) :
  Inv X pins σ' (mixP H H1 P) s1∧∀a,P a→H1 a=none:=by
 have hpin:∀a,P a→∃o,s1.heap.get? a=some o∧H1 a=none∧s.heap.get? a=some o:=λa ha=>by
  obtain⟨o,hm,ho⟩:=hps a ha;obtain⟨h1,h2,_⟩:=J.pin (a,o) (List.mem_append_right _ (List.mem_append_right _ hm));exact⟨o,h1,h2,ho⟩
 have nP:∀b u,H1 b=some u→¬P b:=λb u e hp=>by obtain⟨_,_,h,_⟩:=hpin b hp;rw[e]at h;cases h
 have nS:∀b o,X.s₀.heap.get? b=some o→X.H₀ b=none→b ∉ X.ex→¬P b:=λb o e n hx hp=>by
  obtain⟨xs,h1,_⟩:=hP b hp;have:=I.base.free b o e n hx;rw[h1]at this;cases this
 refine⟨⟨J.ok,J.os,J.bare,⟨J.base.keep,J.base.slot,λb o e n hx=>?_,J.base.there,λb xs e=>?_,λb o u e=>?_,λb t e=>?_⟩,J.loc,J.cell,?_,λx c e=>?_,λp hp=>?_,λb u e=>?_,J.len⟩,λa ha=>?_⟩
 ·rw[JAR (nS b o e n hx)];exact J.base.free b o e n hx
 ·have q:=J.base.tups b xs e;rw[JAR (nP b _ q)];exact q
 ·have q:=J.base.frzs b o u e;rw[JAR (nP b _ q)];exact q
 ·obtain⟨m,q⟩:=J.base.tbls b t e;exact⟨m,by rw[JAR (nP b _ q)];exact q⟩
 ·rw[JAR λhp=>by obtain⟨xs,h1,_⟩:=hP _ hp;rw[I.free]at h1;cases h1];exact J.free
 ·rw[JAR λhp=>by obtain⟨xs,h1,_⟩:=hP _ hp;rw[I.freeC x c e]at h1;cases h1];exact J.freeC x c e
 ·have hp':p∈X.pn++(pins++ps):=by
   rcases List.mem_append.mp hp with z|z
   ·exact List.mem_append_left _ z
   ·exact List.mem_append_right _ (List.mem_append_left _ z)
  obtain⟨h1,h2,h3⟩:=J.pin p hp';refine⟨h1,?_,h3⟩;rw[JAR λhq=>by
   obtain⟨xs,g1,_⟩:=hP _ hq;have:=(I.pin p hp).2.1;rw[g1]at this;cases this]
  exact h2
 ·by_cases hb:P b
  ·rw[JCD hb]at e;obtain⟨xs,h1,_,h9⟩:=hP b hb;rw[h1]at e;cases e;obtain⟨o,g1,_,g3⟩:=hpin b hb;cases u with
   |lst xs =>
    obtain⟨z,its,n,r,e2⟩:=I.hok b _ h1;rw[g3]at e2;cases e2;exact⟨z,its,n,r,g1⟩
   |dK kvs =>
    obtain⟨z,z2,vs,r,o2,es,ep,e2,z3⟩:=I.hok b _ h1;rw[g3]at e2;cases e2;exact⟨z,z2,vs,r,o,es,ep,g1,z3⟩
   |_=>exact h9.elim
  ·rw[JAR hb]at e;refine(J.hok b u e).stay (λc w _ q=>q) (λc q=>?_) λc xs q=>?_
   ·rw[JAR (nP c _ q)];exact q
   ·rw[JAR (nP c _ q)];exact q
 ·obtain⟨_,_,h,_⟩:=hpin a ha;exact h
end
noncomputable def JAf(x:E):Nat→Env→Env
 |_,[]=>[]
 |i,s::r=>(if x.uses i=true then s else if s.isOwn=true then .no else s)::JAf x (i+1) r
theorem JCV(x:E):∀(δ:Env) (k i:Nat),(JAf x k δ)[i]? = (δ[i]?).map λs=>if x.uses (k+i)=true then s else if s.isOwn=true then .no else s
 | [],_,_=>by simp[JAf]
 |s::r,k,0=>by simp[JAf]
 |s::r,k,i+1=>by
  have:=JCV x r (k+1) i;rw[show k+1+i=k+(i+1) by omega]at this
  simpa[JAf] using this
theorem JEj(x:E):∀(δ:Env) (k i:Nat),(JA1 x k δ)[i]? = (δ[i]?).map λs=>if x.uses (k+i)=true then s.frz else s
 | [],_,_=>by simp[JA1]
 |s::r,k,0=>by simp[JA1]
 |s::r,k,i+1=>by
  have:=JEj x r (k+1) i;rw[show k+1+i=k+(i+1) by omega]at this
  simpa[JA1] using this
theorem JFe(x:E):∀(δ:Env) (k:Nat),(JA1 x k δ).length=δ.length
 | [],_=>rfl
 |s::r,k=>by simp only[JA1,List.length_cons,JFe x r]
theorem JBX(x:E):∀(δ:Env) (k i:Nat) (s:Sl),JAS x k δ=false→δ[i]? = some s→x.uses (k+i)=true→s.isOwn=false
 | [],_,_,_,_,e,_=>by simp at e
 |s::r,k,0,t,h,e,hu=>by
  unfold JAS at h;simp only[Bool.or_eq_false_iff,Bool.and_eq_false_iff]at h;simp only[List.getElem?_cons_zero,Option.some.injEq]at e;subst e;rcases h.1 with z|z
  ·rw[Nat.add_zero]at hu;rw[hu]at z;cases z
  ·exact z
 |s::r,k,i+1,t,h,e,hu=>by
  unfold JAS at h;simp only[Bool.or_eq_false_iff]at h;exact JBX x r (k+1) i t h.2 (by simpa using e) (by rw[show k+1+i=k+(i+1) by omega];exact hu)
mutual
theorem JCS{B:Bs}{H1 H2:Hp}(hk:∀b o,H1 b=some o→¬Ownb o→H2 b=some o):∀(d:D) (v:V),JAW d=true→Den B H1 d v→Den B H2 d v
 |.none,_,_,h=>h
 |.bool _,_,_,h=>h
 |.int _,_,_,h=>h
 |.str _,_,_,h=>h
 |.list _,_,n,_=>by simp only[JAW]at n;cases n
 |.tuple ds,v,n,h=>by
  simp only[Den]at h ⊢;obtain⟨a,xs,e,q,l⟩:=h;refine⟨a,xs,e,?_,JB6 hk ds xs (by simpa only[JAW] using n) l⟩
  rcases q with (q|⟨o,q⟩)|q
  ·exact .inl (.inl (hk _ _ q λz=>z))
  ·exact .inl (.inr ⟨o,hk _ _ q λz=>z⟩)
  ·exact .inr q
 |.dict kvs,v,n,h=>by
  simp only[Den]at h ⊢;rcases h with ⟨a,c,e,k,q⟩|⟨a,xs,e,q,l⟩
  ·exact .inl ⟨a,c,e,k,hk _ _ q λz=>z⟩
  ·exfalso
   match kvs,n,l with
   | [],n,_=>simp[JAW]at n
   |(k,w)::r,n,l =>
    simp only[DenK]at l;obtain⟨x,v',r',_,ek,_⟩:=l;subst ek;simp[JAW]at n
theorem JB6{B:Bs}{H1 H2:Hp}(hk:∀b o,H1 b=some o→¬Ownb o→H2 b=some o):∀(ds:List D) (vs:List V),JBN ds=true→DenL B H1 ds vs→DenL B H2 ds vs
 | [],_,_,h=>h
 |d::ds,vs,n,h=>by
  simp only[DenL]at h ⊢;simp only[JBN,Bool.and_eq_true]at n;obtain⟨v,r,e,q,l⟩:=h;exact⟨v,r,e,JCS hk d v n.1 q,JB6 hk ds r n.2 l⟩
end
section
variable{X:Cx}{B:Bs}{C:Cn}{CX:CXT}{XX:Nat→Hp→Prop}{G:List (Str×GK)}{pins:Pq}{σ:St}{H:Hp}{s:Shared}{δ:Env}{O:Ow}{x:E}{Hb:Hp}
def unP(x:E)(O:Ow)(b:Addr):Prop:=∃i,O i=some b∧x.uses i=false
theorem SO.own(so:SO B Hb σ H δ O){i:Nat}{a:Addr}(h:O i=some a):∃ds xs,δ[i]? = some (.own ds)∧σ[i]? = some (some (.ref a))∧H a=some xs∧Hb a=none∧OwnO B (hid H O) ds xs:=by
 have q:=so.slot i;cases e:δ[i]? with
 |none=>rw[e]at q;simp only[JAP]at q;rw[h]at q;cases q
 |some t =>
  rw[e]at q;cases t with
  |no=>simp only[JAP]at q;rw[h]at q;cases q
  |val d=>simp only[JAP]at q;rw[h]at q;cases q.1
  |own d =>
   simp only[JAP]at q;obtain⟨a',ds,xs,e1,e2,e3,e4,e5,e6⟩:=q;rw[h]at e1;cases e1;subst e2;exact⟨_,xs,rfl,e3,e4,e5,e6⟩
noncomputable def JCl(x:E)(O:Ow)(n:Nat)(h:Heap):Pq :=
 (List.range n).filterMap λi=>match O i with
   |some a=>if x.uses i=true then none else (h.get? a).map λo=>(a,o)
   |none=>none
theorem JBE(hb:Same X.H₀ Hb)(so:SO B Hb σ H δ O):∀a,unP x O a→∃xs,H a=some xs∧X.H₀ a=none∧Ownb xs:=λa ⟨i,h,_⟩=>by
 obtain⟨ds,xs,_,_,e4,e5,e6⟩:=so.own h;exact⟨xs,e4,hb.free e5,e6.b⟩
theorem JBK{n:Nat}{h:Heap}:∀p∈JCl x O n h,unP x O p.1∧h.get? p.1=some p.2:=λp hp=>by
 obtain⟨i,_,e⟩:=List.mem_filterMap.mp hp;cases q:O i with
 |none=>rw[q]at e;cases e
 |some a =>
  rw[q]at e;simp only at e
  split at e
  ·cases e
  ·rename_i hu;obtain⟨o,ho,e2⟩:=Option.map_eq_some_iff.mp e;subst e2;exact⟨⟨i,q,by simpa using hu⟩,ho⟩
theorem JA6(I:Inv X pins σ H s)(so:SO B Hb σ H δ O):∀a,unP x O a→∃o,(a,o)∈JCl x O δ.length s.heap∧s.heap.get? a=some o:=λa ⟨i,h,hu⟩=>by
 obtain⟨ds,xs,e1,_,e4,_,e9⟩:=so.own h;obtain⟨oo,ho⟩:∃oo,s.heap.get? a=some oo:=by
  have h9:=e9.b;cases xs with
  |lst xs=>obtain⟨_,its,n,_,ho⟩:=I.hok a _ e4;exact⟨_,ho⟩
  |dK kvs=>obtain⟨_,_,vs,_,o2,es,ep,e2,_⟩:=I.hok _ _ e4;exact⟨_,e2⟩
  |_=>exact h9.elim
 refine⟨_,List.mem_filterMap.mpr ⟨i,List.mem_range.mpr (List.getElem?_eq_some_iff.mp e1).1,?_⟩,ho⟩;rw[h];simp only[hu,Bool.false_eq_true,if_false,ho,Option.map_some]
theorem JA9(so:SO B Hb σ H δ O):Same Hb (hid H O):=λb o e=>by
 rw[hid,JAJ λ⟨i,h⟩=>by obtain⟨_,_,_,_,_,e5,_⟩:=so.own h;rw[e]at e5;cases e5]
 exact so.same b o e
theorem same_un:Same (hid H O) (hidP H (unP x O)):=λb o e=>by
 obtain⟨h1,h2⟩:=JAx e;rw[JAJ λ⟨i,h,_⟩=>h1 ⟨i,h⟩];exact h2
theorem JAp(so:SO B Hb σ H δ O):Sok B σ (hidP H (unP x O)) (JAf x 0 δ):=λi d e=>by
 unfold look at e;rw[JCV,Nat.zero_add]at e;have q:=so.slot i;cases e1:δ[i]? with
 |none=>rw[e1]at e;cases e
 |some t =>
  rw[e1]at e q;simp only[Option.map_some]at e;cases t with
  |no =>
   simp only[Sl.isOwn,Bool.false_eq_true,if_false,ite_self,Sl.get]at e;cases e
  |val d' =>
   simp only[Sl.isOwn,Bool.false_eq_true,if_false,ite_self,Sl.get]at e;cases e;simp only[JAP]at q;obtain⟨_,v,e2,dn⟩:=q;exact⟨v,e2,Den.mono same_un d v dn⟩
  |own d' =>
   by_cases hu:x.uses i=true
   ·rw[if_pos hu]at e;simp only[JAP]at q;obtain⟨a,ds,xs,q1,q2,q3,q4,q5,q6⟩:=q;subst q2;obtain⟨ys,rfl,rfl⟩:∃ys,d'=.list ys∧d=.list ys:=by
     cases d' with
     |list ys=>simp only[Sl.get]at e;cases e;exact⟨ys,rfl,rfl⟩
     |dict kvs=>simp only[Sl.get]at e;cases e
     |_=>cases xs<;>exact fF q6
    refine⟨_,q3,(OwnO.mono same_un _ xs q6).den ?_⟩;rw[JAJ λ⟨j,hj,hu2⟩=>by
     have:=so.inj i j a q1 hj;subst this;rw[hu]at hu2;cases hu2]
    exact q4
   ·rw[if_neg hu]at e;simp only[Sl.isOwn,if_true,Sl.get]at e;cases e
theorem JBx:Agr x δ (JAf x 0 δ):=λi hi=>by
 rw[JCV,Nat.zero_add];cases δ[i]? with
 |none=>rfl
 |some t=>simp[hi]
theorem JCu(so:SO B Hb σ H δ O){H1:Hp}(sm:Same (hidP H (unP x O)) H1)(hz:∀a,unP x O a→H1 a=none):SO B Hb σ (mixP H H1 (unP x O)) δ O:=by
 have s1:Same (hid H O) (hid (mixP H H1 (unP x O)) O):=λb o e=>by
  obtain⟨h1,h2⟩:=JAx e;rw[hid,JAJ h1,JAR λ⟨i,h,_⟩=>h1 ⟨i,h⟩];exact sm b o (by rw[JAJ λ⟨i,h,_⟩=>h1 ⟨i,h⟩];exact h2)
 refine⟨so.len,λb o e=>?_,so.inj,λi=>?_⟩
 ·have e1:=JA9 so b o e;obtain⟨_,h2⟩:=JAx (s1 b o e1);exact h2
 ·have q:=so.slot i;cases e1:δ[i]? with
  |none=>rw[e1]at q;exact q
  |some t =>
   rw[e1]at q;cases t with
   |no=>exact q
   |val d =>
    simp only[JAP]at q ⊢;obtain⟨h0,v,e2,dn⟩:=q;exact⟨h0,v,e2,Den.mono s1 d v dn⟩
   |own d =>
    simp only[JAP]at q ⊢;obtain⟨a,ds,xs,q1,q2,q3,q4,q5,q6⟩:=q;refine⟨a,ds,xs,q1,q2,q3,?_,q5,OwnO.mono s1 ds xs q6⟩
    by_cases hp:unP x O a
    ·rw[JCD hp];exact q4
    ·rw[JAR hp];exact sm a _ (by rw[JAJ hp];exact q4)
noncomputable def frzO(x:E)(O:Ow):Ow:=λi=>if x.uses i=true then none else O i
theorem ownP_frz{b:Addr}:ownP (frzO x O) b↔unP x O b:=by
 constructor
 ·rintro⟨i,h⟩;unfold frzO at h
  split at h
  ·cases h
  ·rename_i hu;exact⟨i,h,by simpa using hu⟩
 ·rintro⟨i,h,hu⟩;exact⟨i,by unfold frzO;rw[if_neg (by rw[hu];exact Bool.false_ne_true)];exact h⟩
theorem JA7{H1:Hp}(hz:∀a,unP x O a→H1 a=none):Same H1 (hid (mixP H H1 (unP x O)) (frzO x O)):=λb o e=>by
 have hb:¬unP x O b:=λh=>by rw[hz b h]at e;cases e
 rw[hid,JAJ (λh=>hb (ownP_frz.mp h)),JAR hb];exact e
theorem JGH(so:SO B Hb σ H δ O){H1:Hp}(sm:Same (hidP H (unP x O)) H1)(hz:∀a,unP x O a→H1 a=none):SO B Hb σ (mixP H H1 (unP x O)) (JA1 x 0 δ) (frzO x O):=by
 have s1:Same (hid H O) (hid (mixP H H1 (unP x O)) (frzO x O)):=(same_un.trans sm).trans (JA7 hz);have k:=JCu so sm hz;refine⟨by rw[JFe];exact so.len,k.same,λi j a h1 h2=>?_,λi=>?_⟩
 ·unfold frzO at h1 h2
  split at h1
  ·cases h1
  ·split at h2
   ·cases h2
   ·exact so.inj i j a h1 h2
 ·rw[JEj,Nat.zero_add];have q:=so.slot i;cases e1:δ[i]? with
  |none=>rw[e1]at q;simp only[JAP,Option.map_none]at q ⊢;unfold frzO;split<;>first|rfl|exact q
  |some t =>
   rw[e1]at q;simp only[Option.map_some];cases t with
   |no =>
    simp only[Sl.frz,ite_self,JAP]at q ⊢;unfold frzO;split<;>first|rfl|exact q
   |val d =>
    simp only[Sl.frz,ite_self,JAP]at q ⊢;obtain⟨h0,v,e2,dn⟩:=q;exact⟨by unfold frzO;split<;>first|rfl|exact h0,v,e2,Den.mono s1 d v dn⟩
   |own d =>
    by_cases hu:x.uses i=true
    ·rw[if_pos hu];have ho:frzO x O i=none:=by unfold frzO;rw[if_pos hu]
     simp only[JAP]at q;obtain⟨a,ds,xs,q1,q2,q3,q4,q5,q6⟩:=q;subst q2;cases d with
     |dict kvs=>simp only[Sl.frz,JAP];exact ho
     |none=>cases xs<;>exact fF q6
     |bool _=>cases xs<;>exact fF q6
     |int _=>cases xs<;>exact fF q6
     |str _=>cases xs<;>exact fF q6
     |tuple _=>cases xs<;>exact fF q6
     |list ys =>
     simp only[Sl.frz,JAP];refine⟨ho,_,q3,(OwnO.mono s1 _ xs q6).den ?_⟩;have hp:¬unP x O a:=λ⟨j,hj,hu2⟩=>by
      have:=so.inj i j a q1 hj;subst this;rw[hu]at hu2;cases hu2
     exact JA7 hz a _ (sm a _ (by rw[JAJ hp];exact q4))
    ·rw[if_neg hu];simp only[JAP]at q ⊢;obtain⟨a,ds,xs,q1,q2,q3,q4,q5,q6⟩:=q;have hp:unP x O a:=⟨i,q1,by simpa using hu⟩
     refine⟨a,ds,xs,by unfold frzO;rw[if_neg hu];exact q1,q2,q3,by rw[JCD hp];exact q4,q5,OwnO.mono s1 ds xs q6⟩
theorem JKK(so:SO B Hb σ H δ O){H1:Hp}{d:D}{v:V}(sm:Same (hidP H (unP x O)) H1)(hz:∀a,unP x O a→H1 a=none)(dn:Den B H1 d v) :
  ∃O',SO B Hb σ (mixP H H1 (unP x O)) (after x d δ) O'∧Den B (hid (mixP H H1 (unP x O)) O') d v:=by
 unfold after
 split
 ·exact⟨_,JGH so sm hz,Den.mono (JA7 hz) d v dn⟩
 ·rename_i hb;refine⟨O,JCu so sm hz,?_⟩;cases hu:JAS x 0 δ with
  |false =>
   refine Den.mono (λb o e=>?_) d v dn;have hb':¬unP x O b:=λh=>by rw[hz b h]at e;cases e
   have hb2:¬ownP O b:=λ⟨i,h⟩=>by
    obtain⟨ds,xs,e1,_⟩:=so.own h;refine hb' ⟨i,h,?_⟩;cases q:x.uses i with
    |false=>rfl
    |true =>
     have:=JBX x δ 0 i _ hu e1 (by rw[Nat.zero_add];exact q)
     cases this
   rw[hid,JAJ hb2,JAR hb'];exact e
  |true =>
   have hl:JAW d=true:=by
    rw[hu]at hb;cases q:JAW d with
    |true=>rfl
    |false=>rw[q]at hb;exact absurd rfl hb
   refine JCS (λb o e ho=>?_) d v hl dn;have hb':¬unP x O b:=λh=>by rw[hz b h]at e;cases e
   have hb2:¬ownP O b:=λ⟨i,h⟩=>by
    obtain⟨ds,xs,_,_,e4,_,e9⟩:=so.own h;have:=sm b _ (by rw[JAJ hb'];exact e4)
    rw[e]at this;cases this;exact ho e9.b
   rw[hid,JAJ hb2,JAR hb'];exact e
def RS(X:Cx)(B:Bs)(C:Cn)(XX:Nat→Hp→Prop)(x:E):TE:=λσ H Q=>∃δ O Hb,Same X.H₀ Hb∧SO B Hb σ H δ O∧(match ev C x δ with
 |.ok d=>∀v H' O',SO B Hb σ H' (after x d δ) O'→Den B (hid H' O') d v→Q v H'
 |.exc c=>XX c Hb
 |.bad=>False)
def RTS(X:Cx)(B:Bs)(C:Cn)(XX:Nat→Hp→Prop)(x:E):TT:=λσ H Q=>∃δ O Hb,Same X.H₀ Hb∧SO B Hb σ H δ O∧(match evT C x δ with
 |.ok b=>∀H',SO B Hb σ H' δ O→Q b H'
 |.exc c=>XX c Hb
 |.bad=>False)
def RIS(X:Cx)(B:Bs)(C:Cn)(XX:Nat→Hp→Prop)(x:E):TI:=λσ H Q=>∃δ O Hb,Same X.H₀ Hb∧SO B Hb σ H δ O∧(match evI C x δ with
 |.ok ds=>∀J H' O',SO B Hb σ H' (JA1 x 0 δ) O'→ItOk B J (hid H' O') ds→Q J H'
 |.exc c=>XX c Hb
 |.bad=>False)
theorem JHG(g:Gk X B C CX XX G){e:Expr}(he:PE X e (RE B C XX x)):PE X e (RS X B C XX x):=by
 intro pins s σ H Q I ⟨δ,O,Hb,hb,so,k⟩;have J0:=JBw (ps:=JCl x O δ.length s.heap) I (JBE (x:=x) hb so) JBK;have hev:=(agree C x δ (JAf x 0 δ) JBx).1;cases q:ev C x δ with
 |ok d =>
  rw[q]at k;refine thn (he _ s σ _ (λv H1=>Same (hidP H (unP x O)) H1∧Den B H1 d v) J0 ⟨JAf x 0 δ,JAp so,by rw[←hev,q];exact λv H1 s1 d1=>⟨s1,d1⟩⟩) λu s1 ⟨v,H1,J,r,sm,dn⟩=>?_
  obtain⟨I',hz⟩:=JBL I J (JBE hb so) (JA6 I so);obtain⟨O',so',dn'⟩:=JKK so sm hz dn;exact⟨v,_,I',r,k v _ O' so' dn'⟩
 |exc c =>
  rw[q]at k;exact thn (he _ s σ _ (λv H1=>False) J0 ⟨JAf x 0 δ,JAp so,by rw[←hev,q];exact g.anti c _ _ ((JA9 so).trans same_un) k⟩) λu s1 ⟨v,H1,J,r,f⟩=>f.elim
 |bad=>rw[q]at k;exact k.elim
theorem JLg(g:Gk X B C CX XX G){e:Expr}(he:PT X e (RT B C XX x)):PT X e (RTS X B C XX x):=by
 intro pins s σ H Q I ⟨δ,O,Hb,hb,so,k⟩;have J0:=JBw (ps:=JCl x O δ.length s.heap) I (JBE (x:=x) hb so) JBK;have hev:=(agree C x δ (JAf x 0 δ) JBx).2.1;cases q:evT C x δ with
 |ok d =>
  rw[q]at k;refine thn (he _ s σ _ (λb H1=>b=d∧Same (hidP H (unP x O)) H1) J0 ⟨JAf x 0 δ,JAp so,by rw[←hev,q];exact λH1 s1=>⟨rfl,s1⟩⟩) λu s1 ⟨H1,J,e,sm⟩=>?_
  subst e;obtain⟨I',hz⟩:=JBL I J (JBE hb so) (JA6 I so);exact⟨_,I',k _ (JCu so sm hz)⟩
 |exc c =>
  rw[q]at k;exact thn (he _ s σ _ (λv H1=>False) J0 ⟨JAf x 0 δ,JAp so,by rw[←hev,q];exact g.anti c _ _ ((JA9 so).trans same_un) k⟩) λu s1 ⟨H1,J,f⟩=>f.elim
 |bad=>rw[q]at k;exact k.elim
theorem JLw(g:Gk X B C CX XX G){tg e:Expr}(he:PI X tg e (RI B C XX x)):PI X tg e (RIS X B C XX x):=by
 intro pins s σ H Q I ⟨δ,O,Hb,hb,so,k⟩;have J0:=JBw (ps:=JCl x O δ.length s.heap) I (JBE (x:=x) hb so) JBK;have hev:=(agree C x δ (JAf x 0 δ) JBx).2.2.2;cases q:evI C x δ with
 |ok ds =>
  rw[q]at k;refine thn (he _ s σ _ (λJt H1=>Same (hidP H (unP x O)) H1∧ItOk B Jt H1 ds) J0 ⟨JAf x 0 δ,JAp so,by rw[←hev,q];exact λJt H1 s1 d1=>⟨s1,d1⟩⟩) λu s1 h1=>thn h1 λitv s2 h2=>?_
  obtain⟨it,fp,tn,Jt,H1,e,J,T,st,f,sm,io⟩:=h2;obtain⟨I',hz⟩:=JBL I J (JBE hb so) (JA6 I so);refine⟨it,fp,tn,Jt,_,e,I',T,st,λb hb=>?_,k Jt _ _ (JGH so sm hz) λH2 s2 i=>⟨λd e=>⟨((io H2 ((JA7 hz).trans s2) i).1 d e).1,λv H3 y=>(((io H2 ((JA7 hz).trans s2) i).1 d e).2 v H3 y).imp (λq=>⟨q.1,Den.mono (JA7 hz) d v q.2⟩) λ⟨p,xs,es,z1,z2,z3,z4,z5⟩=>⟨p,xs,es,z1,z2,z3,z4,DenL.mono (JA7 hz) _ _ z5⟩⟩,(io H2 ((JA7 hz).trans s2) i).2⟩⟩;obtain⟨f1,f2,f3,f4,f5,f6⟩:=f b hb;refine⟨?_,f2,f3,f4,f5,λp hp=>f6 p ?_⟩
  ·rw[JAR λhp=>by
    obtain⟨o,hm,_⟩:=JA6 I so b hp;exact f6 (b,o) (List.mem_append_right _ (List.mem_append_right _ hm)) rfl]
   exact f1
  ·rcases List.mem_append.mp hp with z|z
   ·exact List.mem_append_left _ z
   ·exact List.mem_append_right _ (List.mem_append_left _ z)
 |exc c =>
  rw[q]at k;refine thn (he _ s σ _ (λ_ _=>False) J0 ⟨JAf x 0 δ,JAp so,by rw[←hev,q];exact g.anti c _ _ ((JA9 so).trans same_un) k⟩) λu s1 h1=>thn h1 λitv s2 h2=>?_
  obtain⟨_,_,_,_,_,_,_,_,_,_,f⟩:=h2;exact f.elim
 |bad=>rw[q]at k;exact k.elim
end
theorem same_hidP{H:Hp}{P:Addr→Prop}:Same (hidP H P) H:=λb o e=>(JAx e).2
section
variable{X:Cx}{B:Bs}{C:Cn}{CX:CXT}{XX:Nat→Hp→Prop}{G:List (Str×GK)}{pins:Pq}{σ:St}{H:Hp}{s:Shared}{δ:Env}{O:Ow}{x:E}{Hb Hb':Hp}
theorem SO.weak(so:SO B Hb' σ H δ O)(h:Same Hb Hb'):SO B Hb σ H δ O:=by
 refine⟨so.len,h.trans so.same,so.inj,λi=>?_⟩;have q:=so.slot i;cases e:δ[i]? with
 |none=>rw[e]at q;exact q
 |some t =>
  rw[e]at q;cases t with
  |no=>exact q
  |val d=>exact q
  |own d =>
   simp only[JAP]at q ⊢;obtain⟨a,ds,xs,q1,q2,q3,q4,q5,q6⟩:=q;exact⟨a,ds,xs,q1,q2,q3,q4,h.free q5,q6⟩
theorem SO.base(so:SO B Hb σ H δ O):SO B (hid H O) σ H δ O:=by
 refine⟨so.len,same_hidP,so.inj,λi=>?_⟩;have q:=so.slot i;cases e:δ[i]? with
 |none=>rw[e]at q;exact q
 |some t =>
  rw[e]at q;cases t with
  |no=>exact q
  |val d=>exact q
  |own d =>
   simp only[JAP]at q ⊢;obtain⟨a,ds,xs,q1,q2,q3,q4,q5,q6⟩:=q;exact⟨a,ds,xs,q1,q2,q3,q4,JBJ ⟨i,q1⟩,q6⟩
noncomputable def setO(O:Ow)(i:Nat)(a:Option Addr):Ow:=λj=>if j=i then a else O j
theorem JAu{O:Ow}{i:Nat}{a:Option Addr}:setO O i a i=a:=if_pos rfl
theorem JAn{O:Ow}{i j:Nat}{a:Option Addr}(h:j≠i):setO O i a j=O j:=if_neg h
theorem JA8{i:Nat}:Same (hid H O) (hid H (setO O i none)):=λb o e=>by
 obtain⟨h1,h2⟩:=JAx e;rw[hid,JAJ λ⟨j,hj⟩=>h1 ⟨j,by
  by_cases hji:j=i
  ·subst hji;rw[JAu]at hj;cases hj
  ·rw[JAn hji]at hj;exact hj⟩]
 exact h2
theorem JHi(so:SO B Hb σ H δ O){i:Nat}{d:D}{v:V}(dn:Den B (hid H O) d v):SO B Hb (σ.set i (some v)) H (δ.set i (.val d)) (setO O i none):=by
 refine⟨by simpa using so.len,so.same,λj k a h1 h2=>?_,λj=>?_⟩
 ·by_cases hj:j=i
  ·subst hj;rw[JAu]at h1;cases h1
  ·by_cases hk:k=i
   ·subst hk;rw[JAu]at h2;cases h2
   ·rw[JAn hj]at h1;rw[JAn hk]at h2;exact so.inj j k a h1 h2
 ·by_cases hj:j=i
  ·subst hj
   by_cases hl:j<δ.length
   ·rw[List.getElem?_set_self hl];simp only[JAP];exact⟨JAu,v,List.getElem?_set_self (by rw[so.len];exact hl),Den.mono JA8 d v dn⟩
   ·rw[List.getElem?_eq_none_iff.mpr (by simpa using hl)]
    exact JAu
  ·rw[List.getElem?_set_ne (Ne.symm hj)];have q:=so.slot j;cases e:δ[j]? with
   |none=>rw[e]at q;simp only[JAP]at q ⊢;rw[JAn hj];exact q
   |some t =>
    rw[e]at q;cases t with
    |no=>simp only[JAP]at q ⊢;rw[JAn hj];exact q
    |val d' =>
     simp only[JAP]at q ⊢;rw[JAn hj,List.getElem?_set_ne (Ne.symm hj)];obtain⟨h0,w,e2,dn'⟩:=q;exact⟨h0,w,e2,Den.mono JA8 d' w dn'⟩
    |own d' =>
     simp only[JAP]at q ⊢;rw[JAn hj,List.getElem?_set_ne (Ne.symm hj)];obtain⟨a,ds,xs,q1,q2,q3,q4,q5,q6⟩:=q;exact⟨a,ds,xs,q1,q2,q3,q4,q5,OwnO.mono JA8 ds xs q6⟩
theorem JIJ(so:SO B Hb σ H δ O){Da:Addr}{o:HO}(hD:H Da=none):SO B Hb σ (upd H Da o) δ O:=by
 have own:∀j a,O j=some a→∃xs,H a=some xs:=λj a h=>by
  have q:=so.slot j;cases e:δ[j]? with
  |none=>rw[e]at q;simp only[JAP]at q;rw[h]at q;cases q
  |some t =>
   rw[e]at q;cases t with
   |no=>simp only[JAP]at q;rw[h]at q;cases q
   |val d=>simp only[JAP]at q;rw[h]at q;cases q.1
   |own d =>
    simp only[JAP]at q;obtain⟨a',ds',xs',e1,e2,e3,e4,_⟩:=q;rw[h]at e1;cases e1;exact⟨xs',e4⟩
 have s1:Same (hid H O) (hid (upd H Da o) O):=λb u e=>by
  obtain⟨h1,h2⟩:=JAx e;have hb:b≠Da:=λz=>by rw[z,hD]at h2;cases h2
  rw[hid,JAJ h1,JAI hb];exact h2
 refine⟨so.len,so.same.trans (JBH hD),so.inj,λj=>?_⟩;have q:=so.slot j;cases e:δ[j]? with
 |none=>rw[e]at q;exact q
 |some t =>
  rw[e]at q;cases t with
  |no=>exact q
  |val d' =>
   simp only[JAP]at q ⊢;obtain⟨h0,w,e2,dn'⟩:=q;exact⟨h0,w,e2,Den.mono s1 d' w dn'⟩
  |own d' =>
   simp only[JAP]at q ⊢;obtain⟨a,ds',xs',q1,q2,q3,q4,q5,q6⟩:=q;exact⟨a,ds',xs',q1,q2,q3,by rw[JAI λz=>by rw[z,hD]at q4;cases q4];exact q4,q5,OwnO.mono s1 ds' xs' q6⟩
theorem JHC(so:SO B Hb σ H δ O){i:Nat}(hil:i<δ.length){Da:Addr}{ds:D}{xs:HO}(hD:H Da=none)(dn:OwnO B (hid H O) ds xs):SO B Hb (σ.set i (some (.ref Da))) (upd H Da xs) (δ.set i (.own ds)) (setO O i (some Da)):=by
 have nO:∀j a,O j=some a→a≠Da:=λj a h z=>by
  subst z;have q:=so.slot j;cases e:δ[j]? with
  |none=>rw[e]at q;simp only[JAP]at q;rw[h]at q;cases q
  |some t =>
   rw[e]at q;cases t with
   |no=>simp only[JAP]at q;rw[h]at q;cases q
   |val d=>simp only[JAP]at q;rw[h]at q;cases q.1
   |own d =>
    simp only[JAP]at q;obtain⟨a',ds',xs',e1,e2,e3,e4,_⟩:=q;rw[h]at e1;cases e1;rw[hD]at e4;cases e4
 have s1:Same (hid H O) (hid (upd H Da xs) (setO O i (some Da))):=λb o e=>by
  obtain⟨h1,h2⟩:=JAx e;have hb:b≠Da:=λz=>by rw[z,hD]at h2;cases h2
  rw[hid,JAJ λ⟨j,hj⟩=>by
   by_cases hji:j=i
   ·subst hji;rw[JAu]at hj;exact hb (Option.some.inj hj).symm
   ·rw[JAn hji]at hj;exact h1 ⟨j,hj⟩,JAI hb]
  exact h2
 refine⟨by simpa using so.len,so.same.trans (JBH hD),λj k a h1 h2=>?_,λj=>?_⟩
 ·by_cases hj:j=i
  ·subst hj;rw[JAu]at h1
   by_cases hk:k=j
   ·exact hk.symm
   ·rw[JAn hk]at h2;exact absurd (Option.some.inj h1).symm (nO k a h2)
  ·by_cases hk:k=i
   ·subst hk;rw[JAu]at h2;rw[JAn hj]at h1;exact absurd (Option.some.inj h2).symm (nO j a h1)
   ·rw[JAn hj]at h1;rw[JAn hk]at h2;exact so.inj j k a h1 h2
 ·by_cases hj:j=i
  ·subst hj
   by_cases hl:j<δ.length
   ·rw[List.getElem?_set_self hl];simp only[JAP];exact⟨Da,ds,xs,JAu,rfl,List.getElem?_set_self (by rw[so.len];exact hl),JAK,so.same.free hD,OwnO.mono s1 ds xs dn⟩
   ·exact absurd hil hl
  ·rw[List.getElem?_set_ne (Ne.symm hj)];have q:=so.slot j;cases e:δ[j]? with
   |none=>rw[e]at q;simp only[JAP]at q ⊢;rw[JAn hj];exact q
   |some t =>
    rw[e]at q;cases t with
    |no=>simp only[JAP]at q ⊢;rw[JAn hj];exact q
    |val d' =>
     simp only[JAP]at q ⊢;rw[JAn hj,List.getElem?_set_ne (Ne.symm hj)];obtain⟨h0,w,e2,dn'⟩:=q;exact⟨h0,w,e2,Den.mono s1 d' w dn'⟩
    |own d' =>
     simp only[JAP]at q ⊢;rw[JAn hj,List.getElem?_set_ne (Ne.symm hj)];obtain⟨a,ds',xs',q1,q2,q3,q4,q5,q6⟩:=q;exact⟨a,ds',xs',q1,q2,q3,by rw[JAI (nO j a q1)];exact q4,q5,OwnO.mono s1 ds' xs' q6⟩
theorem JIx(so:SO B Hb σ H δ O){i:Nat}{Da:Addr}{ds:D}{xs:HO}(hD:H Da=none)(dn:OwnO B (hid H O) ds xs):∃O',SO B Hb (σ.set i (some (.ref Da))) (upd H Da xs) (δ.set i (.own ds)) O':=by
 by_cases hi:i<δ.length
 ·exact⟨_,JHC so hi hD dn⟩
 ·rw[List.set_eq_of_length_le (l:=σ) (by rw[so.len];omega),List.set_eq_of_length_le (l:=δ) (by omega)]
  exact⟨O,JIJ so hD⟩
theorem JIF(so:SO B Hb σ H δ O){i:Nat}{a:Addr}{ds:D}{xs:HO}(ha:O i=some a)(dn:OwnO B (hid H O) ds xs):SO B Hb σ (upd H a xs) (δ.set i (.own ds)) O:=by
 have eh:hid (upd H a xs) O=hid H O:=by
  funext b
  by_cases hb:ownP O b
  ·rw[hid,hid,JBJ hb,JBJ hb]
  ·rw[hid,hid,JAJ hb,JAJ hb,JAI λz=>hb ⟨i,by rw[z];exact ha⟩]
 have own:=λ(j:Nat) (b:Addr) (h:O j=some b)=>so.inj i j;have hq:=so.slot i;obtain⟨ds0,xs0,e1,e2,e3,e4⟩:∃ds0 xs0,δ[i]? = some (.own ds0)∧σ[i]? = some (some (.ref a))∧H a=some xs0∧Hb a=none:=by
  cases e:δ[i]? with
  |none=>rw[e]at hq;simp only[JAP]at hq;rw[ha]at hq;cases hq
  |some t =>
   rw[e]at hq;cases t with
   |no=>simp only[JAP]at hq;rw[ha]at hq;cases hq
   |val d=>simp only[JAP]at hq;rw[ha]at hq;cases hq.1
   |own d =>
    simp only[JAP]at hq;obtain⟨a',ds',xs',f1,f2,f3,f4,f5,_⟩:=hq;rw[ha]at f1;cases f1;subst f2;exact⟨_,xs',rfl,f3,f4,f5⟩
 refine⟨by simpa using so.len,λb o e=>?_,so.inj,λj=>?_⟩
 ·rw[JAI λz=>by rw[z,e4]at e;cases e]
  exact so.same b o e
 ·by_cases hj:j=i
  ·subst hj;rw[List.getElem?_set_self (List.getElem?_eq_some_iff.mp e1).1];simp only[JAP];exact⟨a,ds,xs,ha,rfl,e2,JAK,e4,by rw[eh];exact dn⟩
  ·rw[List.getElem?_set_ne (Ne.symm hj)];have q:=so.slot j;cases e:δ[j]? with
   |none=>rw[e]at q;exact q
   |some t =>
    rw[e]at q;cases t with
    |no=>exact q
    |val d' =>
     simp only[JAP]at q ⊢;rw[eh];exact q
    |own d' =>
     simp only[JAP]at q ⊢;obtain⟨a',ds',xs',q1,q2,q3,q4,q5,q6⟩:=q;refine⟨a',ds',xs',q1,q2,q3,?_,q5,by rw[eh];exact q6⟩
     rw[JAI λz=>hj (so.inj j i a (by rw[←z];exact q1) ha)]
     exact q4
def RSF(X:Cx)(B:Bs)(C:Cn)(XX:Nat→Hp→Prop)(x:E):TE:=λσ H Q=>∃δ O Hb,Same X.H₀ Hb∧SO B Hb σ H δ O∧(match ev C x δ with
 |.ok d=>∀Da ds xs H1 O',d=ds→SO B Hb σ H1 (after x d δ) O'→H1 Da=none→OwnO B (hid H1 O') ds xs→Q (.ref Da) (upd H1 Da xs)
 |.exc c=>XX c Hb
 |.bad=>False)
theorem JHt{H1:Hp}{P:Addr→Prop}{Da:Addr}{o:HO}(h:¬P Da):mixP H (upd H1 Da o) P=upd (mixP H H1 P) Da o:=by
 funext b
 by_cases hb:b=Da
 ·subst hb;rw[JAR h,JAK,JAK]
 ·rw[JAI hb]
  by_cases hp:P b
  ·rw[JCD hp,JCD hp]
  ·rw[JAR hp,JAR hp,JAI hb]
theorem JEi(so:SO B Hb σ H δ O){H1:Hp}{ds:D}{xs:HO}(sm:Same (hidP H (unP x O)) H1)(hz:∀a,unP x O a→H1 a=none)(dn:OwnO B H1 ds xs) :
  ∃O',SO B Hb σ (mixP H H1 (unP x O)) (after x ds δ) O'∧OwnO B (hid (mixP H H1 (unP x O)) O') ds xs:=by
 unfold after
 split
 ·exact⟨_,JGH so sm hz,OwnO.mono (JA7 hz) ds xs dn⟩
 ·rename_i hb;have hu:JAS x 0 δ=false:=by
   cases q:JAS x 0 δ with
   |false=>rfl
   |true=>rw[q]at hb;exact absurd (by rw[dn.nl];rfl) hb
  refine⟨O,JCu so sm hz,OwnO.mono (λb o e=>?_) ds xs dn⟩;have hb':¬unP x O b:=λh=>by rw[hz b h]at e;cases e
  have hb2:¬ownP O b:=λ⟨i,h⟩=>by
   obtain⟨ds,xs,e1,_⟩:=so.own h;refine hb' ⟨i,h,?_⟩;cases q:x.uses i with
   |false=>rfl
   |true =>
    have:=JBX x δ 0 i _ hu e1 (by rw[Nat.zero_add];exact q)
    cases this
  rw[hid,JAJ hb2,JAR hb'];exact e
theorem JLM(g:Gk X B C CX XX G){e:Expr}(he:PE X e (REF B C XX x)):PE X e (RSF X B C XX x):=by
 intro pins s σ H Q I ⟨δ,O,Hb,hb,so,k⟩;have J0:=JBw (ps:=JCl x O δ.length s.heap) I (JBE (x:=x) hb so) JBK;have hev:=(agree C x δ (JAf x 0 δ) JBx).1;cases q:ev C x δ with
 |ok d =>
  rw[q]at k;refine thn (he _ s σ _ (λv H1=>∃Da ds xs H2,v=.ref Da∧H1=upd H2 Da xs∧d=ds∧Same (hidP H (unP x O)) H2∧H2 Da=none∧OwnO B H2 ds xs) J0
   ⟨JAf x 0 δ,JAp so,by rw[←hev,q];exact λDa ds xs H1 e s1 hD dn=>⟨Da,ds,xs,H1,rfl,rfl,e,s1,hD,dn⟩⟩) λu s1 ⟨v,H1,J,r,Da,ds,xs,H2,e1,e2,e3,sm,hD,dn⟩=>?_
  subst e1;subst e2;subst e3;obtain⟨I',hz⟩:=JBL I J (JBE hb so) (JA6 I so);have nD:¬unP x O Da:=λh=>by have:=hz Da h;rw[JAK]at this;cases this
  have hz2:∀a,unP x O a→H2 a=none:=λa h=>by
   have:=hz a h
   rwa [JAI λz=>nD (by rw[←z];exact h)]at this
  rw[JHt nD]at I';obtain⟨O',so',dn'⟩:=JEi so sm hz2 dn;exact⟨_,_,I',r,k Da _ xs _ O' rfl so' (by rw[JAR nD];exact hD) dn'⟩
 |exc c =>
  rw[q]at k;exact thn (he _ s σ _ (λv H1=>False) J0 ⟨JAf x 0 δ,JAp so,by rw[←hev,q];exact g.anti c _ _ ((JA9 so).trans same_un) k⟩) λu s1 ⟨v,H1,J,r,f⟩=>f.elim
 |bad=>rw[q]at k;exact k.elim
theorem JQ5(g:Gk X B C CX XX G){st:Stmt}{i:Nat}(he:PS X st (tAsg (REF B C XX x) (JFc i))):PS X st (tAsg (RSF X B C XX x) (JFc i)):=by
 intro pins s σ H D I h;obtain⟨δ,O,Hb,hb,so,k⟩:=h;have J0:=JBw (ps:=JCl x O δ.length s.heap) I (JBE (x:=x) hb so) JBK;have hev:=(agree C x δ (JAf x 0 δ) JBx).1;cases q:ev C x δ with
 |ok d =>
  rw[q]at k;refine thn (he _ s σ _ { nx:=λσ' H1=>∃Da ds xs H2,σ'=σ.set i (some (.ref Da))∧H1=upd H2 Da xs∧d=ds∧Same (hidP H (unP x O)) H2∧H2 Da=none∧OwnO B H2 ds xs,rt:=λ_ _=>False } J0
   ⟨JAf x 0 δ,JAp so,by rw[←hev,q];exact λDa ds xs H1 e s1 hD dn=>⟨Da,ds,xs,H1,rfl,rfl,e,s1,hD,dn⟩⟩) λf s1 hf=>?_
  cases f with
  |next =>
   obtain⟨σ',H1,J,Da,ds,xs,H2,e1,e2,e3,sm,hD,dn⟩:=hf;subst e1;subst e2;subst e3;obtain⟨I',hz⟩:=JBL I J (JBE hb so) (JA6 I so);have nD:¬unP x O Da:=λh=>by have:=hz Da h;rw[JAK]at this;cases this
   have hz2:∀a,unP x O a→H2 a=none:=λa h=>by
    have:=hz a h
    rwa [JAI λz=>nD (by rw[←z];exact h)]at this
   rw[JHt nD]at I';obtain⟨O',so',dn'⟩:=JEi so sm hz2 dn;exact⟨_,_,I',k Da _ xs _ O' rfl so' (by rw[JAR nD];exact hD) dn'⟩
  |ret v=>obtain⟨_,_,_,_,_,f⟩:=hf;exact f.elim
  |brk=>obtain⟨_,_,_,f⟩:=hf;exact fF f
  |cont=>obtain⟨_,_,_,f⟩:=hf;exact fF f
 |exc c =>
  rw[q]at k;refine thn (he _ s σ _ { nx:=λ_ _=>False,rt:=λ_ _=>False } J0 ⟨JAf x 0 δ,JAp so,by rw[←hev,q];exact g.anti c _ _ ((JA9 so).trans same_un) k⟩) λf s1 hf=>?_
  cases f with
  |next=>obtain⟨_,_,_,f⟩:=hf;exact f.elim
  |ret v=>obtain⟨_,_,_,_,_,f⟩:=hf;exact f.elim
  |brk=>obtain⟨_,_,_,f⟩:=hf;exact fF f
  |cont=>obtain⟨_,_,_,f⟩:=hf;exact fF f
 |bad=>rw[q]at k;exact k.elim
end
section
variable{X:Cx}{B:Bs}{C:Cn}{CX:CXT}{XX:Nat→Hp→Prop}{G:List (Str×GK)}{x:E}{pos:Pos}
theorem PS.imp{st:Stmt}{t t':TS}(h:PS X st t)(i:∀D σ H,t' D σ H→t D σ H):PS X st t':=λpins s σ H D I q=>h pins s σ H D I (i D σ H q)
theorem PSs.imp{st:List Stmt}{t t':TS}(h:PSs X st t)(i:∀D σ H,t' D σ H→t D σ H):PSs X st t':=λpins s σ H D I q=>h pins s σ H D I (i D σ H q)
theorem JOY:PSs X [] (RSt X B C XX .nil):=PSs.imp JCa λD σ H ⟨δ,O,Hb,hb,so,k⟩=>k σ H O so
theorem JMO{st:Stmt}{r:List Stmt}{a b:S}(h1:PS X st (RSt X B C XX a))(h2:PSs X r (RSt X B C XX b)):PSs X (st::r) (RSt X B C XX (.cons a b)) :=
 PSs.imp (JAz h1 h2) λD σ H ⟨δ,O,Hb,hb,so,k⟩=>by
  refine⟨δ,O,Hb,hb,so,?_⟩;simp only[exec]at k;cases q:exec C a δ with
  |nx δ'=>rw[q]at k;exact λσ' H' O' so'=>⟨δ',O',Hb,hb,so',k⟩
  |rt d=>rw[q]at k;exact k
  |bk d=>rw[q]at k;exact k
  |ct d=>rw[q]at k;exact k
  |ex c=>rw[q]at k;exact k
  |bad=>rw[q]at k;exact k
theorem JMo:PS X (.Pass pos) (RSt X B C XX .pass):=PS.imp JNQ λD σ H ⟨δ,O,Hb,hb,so,k⟩=>k σ H O so
theorem JPG:PS X (.Break pos) (RSt X B C XX .brk):=PS.imp JJ0 λD σ H ⟨δ,O,Hb,hb,so,k⟩=>k σ H O so
theorem JPZ:PS X (.Continue pos) (RSt X B C XX .cnt):=PS.imp JFi λD σ H ⟨δ,O,Hb,hb,so,k⟩=>k σ H O so
theorem JOc{y:Str}{j:Nat}{pos':Pos}:PS X (.Expr (.Constant (.str y) j pos) pos') (RSt X B C XX .pass):=PS.imp JP1 λD σ H ⟨δ,O,Hb,hb,so,k⟩=>k σ H O so
theorem JM1:PS X (.Return none pos) (RSt X B C XX .retN):=PS.imp JNc λD σ H ⟨δ,O,Hb,hb,so,k⟩=>k .non H so.same (by simp only[Den])
theorem JQq(g:Gk X B C CX XX G){e:Expr}(he:PE X e (RE B C XX x)):PS X (.Return (some e) pos) (RSt X B C XX (.ret x)) :=
 PS.imp (JDN (JHG g he)) λD σ H ⟨δ,O,Hb,hb,so,k⟩=>by
  refine⟨δ,O,Hb,hb,so,?_⟩;simp only[exec]at k;cases q:ev C x δ with
  |ok d=>rw[q]at k;exact λv H' O' so' dn=>k v H' so'.same (Den.mono same_hidP d v dn)
  |exc c=>rw[q]at k;exact k
  |bad=>rw[q]at k;exact k
theorem JOq(g:Gk X B C CX XX G){c:Expr}{a b:List Stmt}{s1 s2:S}(hc:PT X c (RT B C XX x))(ha:PSs X a (RSt X B C XX s1))(hb:PSs X b (RSt X B C XX s2)):PS X (.If c a b pos) (RSt X B C XX (.ife x s1 s2)) :=
 PS.imp (JHP (JLg g hc) ha hb) λD σ H ⟨δ,O,Hb,hb,so,k⟩=>by
  refine⟨δ,O,Hb,hb,so,?_⟩;simp only[exec]at k;cases q:evT C x δ with
  |ok t =>
   rw[q]at k;intro H' so';cases t with
   |true=>exact iteT ⟨δ,O,Hb,hb,so',k⟩
   |false=>exact iteF ⟨δ,O,Hb,hb,so',k⟩
  |exc c=>rw[q]at k;exact k
  |bad=>rw[q]at k;exact k
theorem JNi(g:Gk X B C CX XX G){e:Expr}(he:PE X e (RE B C XX x))(hs:swapsWith e none pos.line X.env=pure false):PS X (.Expr e pos) (RSt X B C XX (.drop x)) :=
 PS.imp (JEU (JHG g he) hs) λD σ H ⟨δ,O,Hb,hb,so,k⟩=>by
  refine⟨δ,O,Hb,hb,so,?_⟩;simp only[exec]at k;cases q:ev C x δ with
  |ok d=>rw[q]at k;exact λv H' O' so' dn=>k σ H' O' so'
  |exc c=>rw[q]at k;exact k
  |bad=>rw[q]at k;exact k
theorem JOw(g:Gk X B C CX XX G){e:Expr}{i:Nat}{nm:Str}{pos':Pos}(he:PE X e (RE B C XX x))(hf:x.fresh=false)(hnd:X.N.Nodup)(hN:X.N[i]? = some nm)(hx:Loc X.env.scope nm)(hs:swapsWith e (some (.Name nm pos')) pos.line X.env=pure false)
  (hfn:X.fn nm=true∨X.env.scope.names.lookup nm=some .local):PS X (.Assign [.Name nm pos'] e pos) (RSt X B C XX (.asg i x)) :=
 PS.imp (JCh hnd hN hx (JHG g he) hs hfn) λD σ H ⟨δ,O,Hb,hb,so,k⟩=>by
  refine⟨δ,O,Hb,hb,so,?_⟩;simp only[exec,hf,Bool.false_eq_true,if_false]at k;cases q:ev C x δ with
  |ok d=>rw[q]at k;exact λv H' O' so' dn=>k _ H' _ (JHi so' dn)
  |exc c=>rw[q]at k;exact k
  |bad=>rw[q]at k;exact k
theorem JFC{i:Nat}(hf:x.fresh=true){D:Ends}{σ:St}{H:Hp}(h:RSt X B C XX (.asg i x) D σ H):tAsg (RSF X B C XX x) (JFc i) D σ H:=by
 obtain⟨δ,O,Hb,hb,so,k⟩:=h;refine⟨δ,O,Hb,hb,so,?_⟩;simp only[exec,hf,if_true]at k;cases q:ev C x δ with
 |ok d =>
  rw[q]at k;intro Da ds xs H1 O' e so' hD dn;subst e;obtain⟨O2,so2⟩:=JIx (i:=i) so' hD dn;exact k _ _ O2 so2
 |exc c=>rw[q]at k;exact k
 |bad=>rw[q]at k;exact k
theorem JFh(g:Gk X B C CX XX G){e:Expr}{i:Nat}{nm:Str}{pos':Pos}(he:PE X e (REF B C XX x))(hf:x.fresh=true)(hnd:X.N.Nodup)(hN:X.N[i]? = some nm)(hx:Loc X.env.scope nm)(hs:swapsWith e (some (.Name nm pos')) pos.line X.env=pure false)
  (hfn:X.fn nm=true∨X.env.scope.names.lookup nm=some .local):PS X (.Assign [.Name nm pos'] e pos) (RSt X B C XX (.asg i x)) :=
 PS.imp (JCh hnd hN hx (JLM g he) hs hfn) λD σ H h=>JFC hf h
theorem JMG(g:Gk X B C CX XX G){st:Stmt}{i:Nat}(h:PS X st (tAsg (REF B C XX x) (JFc i)))(hf:x.fresh=true):PS X st (RSt X B C XX (.asg i x)) :=
 PS.imp (JQ5 g h) λD σ H h=>JFC hf h
theorem JQs(g:Gk X B C CX XX G)(hp:PassesOwn (model X.prog X.w) X.A X.env X.xe){c:Expr}{body:List Stmt}{b:S}(hc:PT X c (RT B C XX x))(hb:PSs X body (RSt X B C XX b)):PS X (.While c body [] pos) (RSt X B C XX (.whl x b)) :=
 PS.imp (JKV hp (JLg g hc) hb) λD σ H ⟨δ,O,Hb,hb0,so,k⟩=>by
  simp only[exec]at k;unfold JBm at k
  split at k
  ·rename_i hex;refine⟨λm σ H=>∃δ O,SO B Hb σ H δ O∧JDV X B XX Hb D (JAj (evT C x) (exec C b) m δ),⟨hex.choose,δ,O,so,k⟩,?_⟩;rintro m σ H ⟨δ,O,so,k⟩;cases m with
   |zero=>exact fF k
   |succ m =>
    refine⟨δ,O,Hb,hb0,so,?_⟩;simp only[JAj]at k;cases q:evT C x δ with
    |ok t =>
     rw[q]at k;intro H' so';cases t with
     |true =>
      refine iteT ⟨λσ' H'=>∃δ O,SO B Hb σ' H' δ O∧JDV X B XX Hb D (JAj (evT C x) (exec C b) m δ),λσ' H' h=>⟨m,Nat.lt_succ_self m,h⟩,δ,O,Hb,hb0,so',?_⟩;simp only at k;cases q2:exec C b δ with
      |nx δ'=>rw[q2]at k;exact λσ2 H2 O2 so2=>⟨δ',O2,so2,k⟩
      |ct δ'=>rw[q2]at k;exact λσ2 H2 O2 so2=>⟨δ',O2,so2,k⟩
      |bk δ'=>rw[q2]at k;exact k
      |rt d=>rw[q2]at k;exact k
      |ex c=>rw[q2]at k;exact k
      |bad=>rw[q2]at k;exact k
     |false=>exact iteF (k σ H' O so')
    |exc c=>rw[q]at k;exact k
    |bad=>rw[q]at k;exact k
  ·exact fF k
theorem JKj(g:Gk X B C CX XX G){put:D→Env→Option Env}{gt:TG}{tb:TS}{b:S}{De:Ends}{σ:St}{H1:Hp}{J:It}{ds:List D}{δ:Env}{O:Ow}{Hb:Hp}(hb:Same X.H₀ Hb)(so:SO B Hb σ H1 δ O)(io:ItOk B J (hid H1 O) ds)
  (hput:∀(d:D) (v:V) (σ:St) (H:Hp) (δ δ':Env) (O:Ow) (Hb':Hp) (Q:St→Hp→Prop),SO B Hb' σ H δ O→Den B (hid H O) d v→put d δ=some δ'→(∀σ' O',SO B Hb' σ' H δ' O'→Q σ' H)→gt v σ H Q)
  (htb:∀De σ H,RSt X B C XX b De σ H→tb De σ H) (k:JDV X B XX Hb De (forL put (exec C b) ds δ)) :
  ∃W:Nat→Nat→St→Hp→Prop,(∃m,W 0 m σ H1)∧∀i m σ H,W i m σ H→(J.stop i H∧De.nx σ H)∨(J.go i H∧∃N:St→Hp→Prop,(∀σ' H',N σ' H'→∃m',m'<m∧W (i+1) m' σ' H')∧∀x H',J.yld i H x H'→gt x σ H' λσ2 H2=>tb { De with nx:=N,ct:=N,bk:=De.nx } σ2 H2):=by
 have hb1:Same Hb (hid H1 O):=JA9 so;refine⟨λi m σ H=>m=ds.length - i∧i≤ds.length∧∃δ O',SO B (hid H1 O) σ H δ O'∧JDV X B XX Hb De (forL put (exec C b) (ds.drop i) δ),⟨ds.length,by simp,Nat.zero_le _,δ,O,so.base,by simpa using k⟩,?_⟩
 rintro i m σ H ⟨rfl,hi,δ2,O2,so2,k2⟩
 by_cases hlt:i<ds.length
 ·right;have hd:ds[i]? = some ds[i]:=by simp[hlt]
  obtain⟨go,yl⟩:=(io H so2.same i).1 ds[i] hd;refine⟨go,λσ' H'=>∃δ O',SO B (hid H1 O) σ' H' δ O'∧JDV X B XX Hb De (forL put (exec C b) (ds.drop (i+1)) δ),λσ' H' ⟨δ3,O3,so3,k3⟩=>⟨ds.length - (i+1),by omega,rfl,hlt,δ3,O3,so3,k3⟩,λv H' y=>?_⟩
  obtain⟨so3',dn2⟩:SO B (hid H1 O) σ H' δ2 O2∧Den B (hid H' O2) ds[i] v:=by
    rcases yl v H' y with ⟨e,dn⟩|⟨p,xs,es,hp,e,ex,ed,dl⟩
    ·subst e;exact⟨so2,Den.mono (JA9 so2) _ v dn⟩
    ·subst e;subst ex;have s3:=JIJ so2 (o:=.tup xs) hp;refine⟨s3,?_⟩;rw[ed];simp only[Den];refine⟨p,xs,rfl,SqT.of ?_,DenL.mono (JA9 s3) _ _ dl⟩;rw[hid,JAJ λ⟨j,hj⟩=>by obtain⟨_,_,_,_,e5,_⟩:=so2.own hj;rw[hp]at e5;cases e5]
     exact JAK
  rw[JFQ hlt]at k2;unfold forL at k2;cases qp:put ds[i] δ2 with
  |none=>rw[qp]at k2;exact fF k2
  |some δ3 =>
    rw[qp]at k2;refine hput ds[i] v σ H' δ2 δ3 O2 _ _ so3' dn2 qp λσ3 O3 so3=>?_;refine htb _ _ _ ⟨δ3,O3,_,hb.trans hb1,so3,?_⟩;simp only at k2;cases q2:exec C b δ3 with
    |nx δ'=>rw[q2]at k2;exact λσ4 H4 O4 so4=>⟨δ',O4,so4,k2⟩
    |ct δ'=>rw[q2]at k2;exact λσ4 H4 O4 so4=>⟨δ',O4,so4,k2⟩
    |bk δ'=>rw[q2]at k2;exact λσ4 H4 O4 so4=>k2 σ4 H4 O4 (so4.weak hb1)
    |rt d=>rw[q2]at k2;exact λv4 H4 s4 d4=>k2 v4 H4 (hb1.trans s4) d4
    |ex c=>rw[q2]at k2;exact g.anti c Hb _ hb1 k2
    |bad=>rw[q2]at k2;exact k2
 ·left;have ei:i=ds.length:=by omega
  refine⟨(io H so2.same i).2 (by omega),?_⟩
  rw[ei,List.drop_length]at k2;exact k2 σ H O2 (so2.weak hb1)
theorem JMa[Cool G](g:Gk X B C CX XX G)(hp:PassesOwn (model X.prog X.w) X.A X.env X.xe){iter:Expr}{body:List Stmt}{b:S}{i:Nat}{nm:Str}{pos':Pos}(hi:PI X (.Name nm pos') iter (RI B C XX x))(hb:PSs X body (RSt X B C XX b))(hnd:X.N.Nodup)(hN:X.N[i]? = some nm)(hx:Loc X.env.scope nm)
  (hfn:X.fn nm=true∨X.env.scope.names.lookup nm=some .local) (hs:∀v,foldedSetIterable iter X.env v=pure v):PS X (.For (.Name nm pos') iter body [] pos) (RSt X B C XX (.for1 i x b)) :=
 PS.imp (JLn hp (g.calm inferInstance) (JLw g hi) (JEN hnd hN hx hfn) hb hs) λDe σ H ⟨δ,O,Hb,hb0,so,k⟩=>by
  refine⟨δ,O,Hb,hb0,so,?_⟩;simp only[exec]at k;cases q:evI C x δ with
  |ok ds =>
    rw[q]at k;intro J H' O' so' io;refine JKj g hb0 so' io (put:=put1 i) (λd v σ H δ δ' O Hb' Q so dn e h=>?_) (λ_ _ _ h=>h) k;have e':δ.set i (.val d)=δ':=Option.some.inj e;subst e';exact h _ _ (JHi so dn)
  |exc c=>rw[q]at k;exact k
  |bad=>rw[q]at k;exact k
end
section
variable{prog:Program}{w:World}{A:Around}{E:Value→Shared→Prop}
theorem JEp{it t:Addr}{items:Array Value}(hne:t≠it):∀(n i:Nat) (s:Shared) (Q:List Value→Shared→Prop),s.heap.IsListIter it t i→s.heap.IsList t items→i+n≤items.size →
  (∀h':Heap,h'.IsListIter it t (i+n)→Heap.SameBut it s.heap h'→Q ((items.toList.drop i).take n) { s with heap:=h' })→wpAny (model prog w) A (draw (.ref it) n) Q E s
 |0,i,s,Q,hit,_,_,hQ=>by
  show wpAny _ _ (pure []) Q E s;exact wpAny_pure (by simpa using hQ s.heap hit (Heap.SameBut.refl ..))
 |n+1,i,s,Q,hit,ht,hle,hQ=>by
  have hlt:i<items.size:=by omega
  show wpAny _ _ (pyNext (.ref it) >>= _) Q E s;refine wpAny_bind (wpAny_pyNext_list_item hit ht (x:=items[i]) (by simp[hlt]) λh₁ hit₁ hs₁=>?_)
  refine wpAny_bind (wpAny_holding (JEp hne n (i+1) _ _ hit₁ (ht.extBut hs₁.extBut hne) (by omega) λh₂ hit₂ hs₂=>wpAny_pure ?_))
  have hd:items.toList.drop i=items[i]::items.toList.drop (i+1):=by simp[List.drop_eq_getElem_cons,hlt]
  have:=hQ h₂ (by rw[show i+(n+1)=i+1+n by omega];exact hit₂) (hs₁.trans hs₂)
  rw[hd,List.take_succ_cons]at this;exact this
theorem JCd{s:Shared}{env:PySem.Env}{elts:List Expr}{x1:Nat}{pos:Pos}{t:Addr}{items:Array Value}{Q:Unit→Shared→Prop}(hh:A.handled=none)(ht:s.heap.IsList t items)
  (hn:(assignEach elts env).length=items.size) (hstar:(assignEach elts env).findIdx? (·.1)=none)
  (h:∀h',Heap.ExtBut s.heap.objs.size s.heap h'→wpAny (model prog w) A (assignInOrder ((assignEach elts env).map (·.2)) items.toList) Q E { s with heap:=h' }) :
  wpAny (model prog w) A (assign (.Tuple elts x1 pos) env (.ref t)) Q E s:=by
 have hlt:t≠s.heap.objs.size:=by obtain⟨o,ho,_⟩:=ht;exact Nat.ne_of_lt (Heap.lt_size ho)
 rw[assign_Tuple];refine wpAny_bind (wpAny_standAt ?_);unfold unpack;rw[hn,hstar];refine wpAny_bind (wpAny_holding ?_);unfold unpackItems;refine wpAny_bind ?_;unfold notIterableAtAll;refine wpAny_bind (wpAny_specialOf ht.typeIs slot_list_iter.lookup ?_);refine wpAny_pure ?_;simp only[Bool.false_eq_true,if_false];refine wpAny_bind (wpAny_holding (wpAny_pyIter_list ht ?_));refine wpAny_bind (wpAny_holding (JEp hlt items.size 0 _ _ ⟨_,Heap.get?_push_size _ rfl,rfl,rfl⟩ (ht.extBut (λb o _ e=>Heap.get?_push_of_some _ e) (Nat.ne_of_lt (Nat.lt_succ_of_lt (by obtain⟨o,ho,_⟩:=ht;exact Heap.lt_size ho)))) (by omega) λh₁ hit₁ hs₁=>?_))
 have hall:List.take items.size (List.drop 0 items.toList)=items.toList:=by
  rw[List.drop_zero];exact List.take_of_length_le (by simp)
 rw[hall];rw[if_neg (by simp)]
 have ht1:h₁.IsList t items:=by
  refine Heap.IsList.extBut ?_ hs₁.extBut hlt;exact ht.extBut (λb o _ e=>Heap.get?_push_of_some _ e) hlt
 refine wpAny_bind (wpAny_holding (wpAny_pyNext_list_end hh hit₁ ht1 (by simp) λh₂ he₂=>?_))
 simp only[Option.isSome_none,Bool.false_eq_true,if_false];refine wpAny_pure (h h₂ λb o hb e=>he₂ b o hb (hs₁.extBut b o hb (Heap.get?_push_of_some _ e)))
end
noncomputable def setV:List Nat→List V→St→St
 |i::is,v::vs,σ=>setV is vs (σ.set i (some v))
 |_,_,σ=>σ
section
variable{X:Cx}{B:Bs}{C:Cn}{CX:CXT}{XX:Nat→Hp→Prop}{G:List (Str×GK)}{x:E}{pos:Pos}{names:Nq}{N:List Str}
theorem JE9{nm:Str}(hn:X.env.scope.names=names)(h:JEA (names.lookup nm)=true):L2.Loc X.env.scope nm:=by
 unfold L2.Loc;rw[hn];cases q:names.lookup nm with
 |none=>rw[q]at h;cases h
 |some k=>cases k<;>simp_all [JEA]
theorem slot_of{nm:Str}{i:Nat}(hn:X.env.scope.names=names)(hN:X.N=N)(h:slot names N nm=some i):X.N[i]? = some nm∧L2.Loc X.env.scope nm:=by
 unfold slot at h
 split at h
 ·rename_i hb;exact⟨by rw[hN];exact JC2 h,JE9 hn hb⟩
 ·cases h
theorem JDk{e:Expr}{r:List Expr}{is:List Nat}(h:slots names N (e::r)=some is):∃nm p i js,e=.Name nm p∧slot names N nm=some i∧slots names N r=some js∧is=i::js:=by
 unfold slots at h
 split at h
 ·rename_i q;cases q
 ·rename_i q;cases q;obtain⟨i,h1,h⟩:=Option.bind_eq_some_iff.mp h;obtain⟨js,h2,h⟩:=Option.bind_eq_some_iff.mp h;cases h;exact⟨_,_,i,js,rfl,h1,h2,rfl⟩
 ·cases h
theorem JCc{env:PySem.Env}:∀ {ts:List Expr}{is:List Nat},slots names N ts=some is→(assignEach ts env).findIdx? (·.1)=none∧(assignEach ts env).length=is.length
 | [],is,h=>by unfold slots at h;cases h;exact⟨rfl,rfl⟩
 |e::r,is,h=>by
  obtain⟨nm,p,i,js,rfl,h1,h2,rfl⟩:=JDk h;obtain⟨q1,q2⟩:=JCc (env:=env) h2;refine⟨?_,by show(assignEach r env).length+1=_;rw[q2];rfl⟩
  show List.findIdx? (·.1) ((false,assign (.Name nm p) env)::assignEach r env)=none;rw[List.findIdx?_cons];simp[q1]
theorem JCw(hn:X.env.scope.names=names)(hN:X.N=N)(hnd:N.Nodup)(hfn:∀nm,X.fn nm=true∨X.env.scope.names.lookup nm≠some .cell):∀ {ts:List Expr}{is:List Nat},slots names N ts=some is→PGs X ts (λvs σ H Q=>vs.length=is.length∧Q (setV is vs σ) H)
 | [],is,h=>by
  unfold slots at h;cases h;intro pins s σ H vs us Q I r ⟨e,q⟩;refine JIU pins s σ H vs us Q I r ⟨List.length_eq_zero_iff.mp e,?_⟩;cases vs<;>exact q
 |e::r,is,h=>by
  obtain⟨nm,p,i,js,rfl,h1,h2,rfl⟩:=JDk h;obtain⟨q1,q2⟩:=slot_of hn hN h1;have hf:X.fn nm=true∨X.env.scope.names.lookup nm=some .local:=by
   rcases hfn nm with z|z
   ·exact .inl z
   ·rcases q2 with k|k
    ·exact .inr k
    ·exact absurd k z
  intro pins s σ H vs us Q I rv ⟨e,q⟩;refine JF7 (JEN (by rw[hN];exact hnd) q1 q2 hf) (JCw hn hN hnd hfn h2) rfl pins s σ H vs us Q I rv ?_
  match vs,e,q with
  |v::vr,e,q=>exact⟨v,vr,rfl,by simpa using e,q⟩
theorem JLu[Cool G](g:Gk X B C CX XX G){es:List Expr}{k n:Nat}{t:TGs}(h:PGs X es t)(hn:(assignEach es X.env).length=n)(hst:(assignEach es X.env).findIdx? (·.1)=none) :
  PG X (.Tuple es k pos) (λv σ H Q=>∃a xs,v=.ref a∧(SqT X.K H a xs∨SqL X.K H a xs)∧xs.length=n∧t xs σ H Q):=by
 intro pins s σ H v u Q I r ⟨a,xs,e1,hq,hl,hw⟩;rcases hq with hq|hq
 ·exact JKu (g.calm inferInstance) h hn hst pins s σ H v u Q I r ⟨a,xs,e1,hq,hl,hw⟩
 ·subst e1;cases r;obtain⟨its,rv,⟨o,m,ho,hc,hd,hs⟩,hz⟩:=I.list hq;refine JCd (I.ok.hd (g.calm inferInstance)) (items:=its.toArray) ⟨o,ho,hc,m,hs⟩ (by simp[hn,←hl,rv.length]) hst λh' hx=>?_
  have I1:Inv X pins σ H { s with heap:=h' }:=I.kept (t':=s.toks) λb o e=>hx b o (Nat.ne_of_lt (Heap.lt_size e)) e
  exact h pins _ σ H xs _ Q I1 (by simpa using rv) hw
theorem JCK:∀(is:List Nat) (ds:List D) (vs:List V) {Hb:Hp}{σ:St}{H:Hp}{δ:Env}{O:Ow},SO B Hb σ H δ O→DenL B (hid H O) ds vs→∃O',SO B Hb (setV is vs σ) H (JCj is ds δ) O'
 | [],ds,vs,_,_,_,_,O,so,dn=>by cases ds<;>cases vs<;>exact⟨O,so⟩
 |i::is,[],vs,_,_,_,_,O,so,dn=>by
  simp only[DenL]at dn;subst dn;exact⟨O,so⟩
 |i::is,d::ds,vs,_,_,_,_,O,so,dn=>by
  simp only[DenL]at dn;obtain⟨v,r,e,q,l⟩:=dn;subst e;exact JCK is ds r (JHi (i:=i) so q) (DenL.mono JA8 ds r l)
theorem JF4{n c:Nat}{d:D}:JA5 n d≠.exc c:=by
 cases d<;>simp only[JA5]<;>(try split)<;>(intro h;cases h)
theorem JPq[Cool G](g:Gk X B C CX XX G){e:Expr}{ts:List Expr}{is:List Nat}{k:Nat}{pt:Pos}(he:PE X e (RE B C XX x))(hn:X.env.scope.names=names)(hN:X.N=N)(hnd:N.Nodup)(hfn:∀nm,X.fn nm=true∨X.env.scope.names.lookup nm≠some .cell)
  (h:slots names N ts=some is) (hs:swapsWithSole [.Tuple ts k pt] e pos.line X.env=pure false) (hw:swappedStores [.Tuple ts k pt] e X.env=pure none):PS X (.Assign [.Tuple ts k pt] e pos) (RSt X B C XX (.unp is x)):=by
 obtain⟨q1,q2⟩:=JCc (env:=X.env) h;refine PS.imp (JRT (JHG g he) (JLu g (JCw hn hN hnd hfn h) q2 q1) hs hw rfl) λDe σ H ⟨δ,O,Hb,hb,so,kk⟩=>?_;refine⟨δ,O,Hb,hb,so,?_⟩;simp only[exec]at kk;cases q:ev C x δ with
 |ok d =>
  rw[q]at kk;intro v H' O' so' dn;have kk:JDV X B XX Hb De (stepR (JA5 is.length d) λxs=>Fl.nx (JCj is xs (after x d δ))):=kk;cases qu:JA5 is.length d with
  |ok ds =>
    rw[qu]at kk;have hl:ds.length=is.length∧∃a xs,v=.ref a∧(SqT X.K H' a xs∨SqL X.K H' a xs)∧DenL B (hid H' O') ds xs:=by
     cases d with
     |tuple ys =>
      simp only[JA5]at qu
      split at qu
      ·rename_i hy;cases qu;simp only[Den]at dn;obtain⟨a,xs,e1,e2,e3⟩:=dn;exact⟨hy,a,xs,e1,.inl (JJ2 same_hidP (g.K▸e2)),e3⟩
      ·cases qu
     |list ys =>
      simp only[JA5]at qu
      split at qu
      ·rename_i hy;cases qu;simp only[Den]at dn;obtain⟨a,xs,e1,e2,e3⟩:=dn;exact⟨hy,a,xs,e1,.inr (same_hidP.seq (g.K▸e2)),e3⟩
      ·cases qu
     |_=>simp only[JA5]at qu;cases qu
    obtain⟨hl1,a,xs,e1,e2,e3⟩:=hl;have hlx:=DenL.len ds xs e3;obtain⟨O2,so2⟩:=JCK is ds xs so' e3;exact⟨a,xs,e1,e2,by omega,by omega,kk _ _ O2 so2⟩
  |exc c=>exact(JF4 qu).elim
  |bad=>rw[qu]at kk;exact kk.elim
 |exc c=>rw[q]at kk;exact kk
 |bad=>rw[q]at kk;exact kk
theorem JIV[Cool G](g:Gk X B C CX XX G)(hp:PassesOwn (model X.prog X.w) X.A X.env X.xe){iter:Expr}{body:List Stmt}{b:S}{ts:List Expr}{is:List Nat}{k:Nat}{pt:Pos}(hi:PI X (.Tuple ts k pt) iter (RI B C XX x))(hb:PSs X body (RSt X B C XX b))(hn:X.env.scope.names=names)(hN:X.N=N)(hnd:N.Nodup)(hfn:∀nm,X.fn nm=true∨X.env.scope.names.lookup nm≠some .cell)
  (h:slots names N ts=some is) (hs:∀v,foldedSetIterable iter X.env v=pure v):PS X (.For (.Tuple ts k pt) iter body [] pos) (RSt X B C XX (.forT is x b)):=by
 obtain⟨q1,q2⟩:=JCc (env:=X.env) h;refine PS.imp (JLn hp (g.calm inferInstance) (JLw g hi) (JLu g (JCw hn hN hnd hfn h) q2 q1) hb hs) λDe σ H ⟨δ,O,Hb,hb0,so,kk⟩=>?_;refine⟨δ,O,Hb,hb0,so,?_⟩;simp only[exec]at kk;cases q:evI C x δ with
 |ok ds =>
  rw[q]at kk;intro J H' O' so' io;refine JKj g hb0 so' io (put:=putT is) (gt:=λv σ H Q=>∃a xs,v=.ref a∧(SqT X.K H a xs∨SqL X.K H a xs)∧xs.length=is.length∧(xs.length=is.length∧Q (setV is xs σ) H)) (λd v σ H δ δ' O Hb' Q so dn e h=>?_) (λ_ _ _ h=>h) kk;cases d with
  |tuple ys =>
    simp only[putT]at e
    split at e
    ·rename_i hy;cases e;simp only[Den]at dn;obtain⟨a,xs,e1,e2,e3⟩:=dn;have hlx:=DenL.len ys xs e3;obtain⟨O2,so2⟩:=JCK is ys xs so e3;exact⟨a,xs,e1,.inl (JJ2 same_hidP (g.K▸e2)),by omega,by omega,h _ O2 so2⟩
    ·cases e
  |_=>simp only[putT]at e;cases e
 |exc c=>rw[q]at kk;exact kk
 |bad=>rw[q]at kk;exact kk
def RAS(X:Cx)(B:Bs)(C:Cn)(XX:Nat→Hp→Prop)(x:E):TA:=λσ H Q=>∃δ O Hb,Same X.H₀ Hb∧SO B Hb σ H δ O∧(match evA C x δ with
 |.ok ds=>∀vs H' O',SO B Hb σ H' (after (.tup x) (.tuple ds) δ) O'→DenL B (hid H' O') ds vs→Q vs H'
 |.exc c=>XX c Hb
 |.bad=>False)
theorem JIj{Hb:Hp}{σ:St}{H:Hp}{δ:Env}{O:Ow}(so:SO B Hb σ H δ O){H1:Hp}{ds:List D}{vs:List V}(sm:Same (hidP H (unP x O)) H1)(hz:∀a,unP x O a→H1 a=none)(dn:DenL B H1 ds vs) :
  ∃O',SO B Hb σ (mixP H H1 (unP x O)) (after x (.tuple ds) δ) O'∧DenL B (hid (mixP H H1 (unP x O)) O') ds vs:=by
 unfold after
 split
 ·exact⟨_,JGH so sm hz,DenL.mono (JA7 hz) ds vs dn⟩
 ·rename_i hb;refine⟨O,JCu so sm hz,?_⟩;cases hu:JAS x 0 δ with
  |false =>
   refine DenL.mono (λb o e=>?_) ds vs dn;have hb':¬unP x O b:=λh=>by rw[hz b h]at e;cases e
   have hb2:¬ownP O b:=λ⟨i,h⟩=>by
    obtain⟨ds,xs,e1,_⟩:=so.own h;refine hb' ⟨i,h,?_⟩;cases q:x.uses i with
    |false=>rfl
    |true =>
     have:=JBX x δ 0 i _ hu e1 (by rw[Nat.zero_add];exact q)
     cases this
   rw[hid,JAJ hb2,JAR hb'];exact e
  |true =>
   have hl:JBN ds=true:=by
    rw[hu]at hb;cases q:JBN ds with
    |true=>rfl
    |false=>exact absurd (by simp[JAW,q]) hb
   refine JB6 (λb o e ho=>?_) ds vs hl dn;have hb':¬unP x O b:=λh=>by rw[hz b h]at e;cases e
   have hb2:¬ownP O b:=λ⟨i,h⟩=>by
    obtain⟨ds,xs,_,_,e4,_,e9⟩:=so.own h;have:=sm b _ (by rw[JAJ hb'];exact e4)
    rw[e]at this;cases this;exact ho e9.b
   rw[hid,JAJ hb2,JAR hb'];exact e
theorem JJ4{es:E}{j:Nat}:(E.tup es).uses j=es.uses j:=rfl
theorem JC6:∀(δ:Env) (k:Nat),JAS (.tup x) k δ=JAS x k δ
 | [],_=>rfl
 |s::r,k=>by simp only[JAS,JJ4,JC6 r]
theorem JE3:∀(δ:Env) (k:Nat),JA1 (.tup x) k δ=JA1 x k δ
 | [],_=>rfl
 |s::r,k=>by simp only[JA1,JE3 r];rfl
theorem JPs(g:Gk X B C CX XX G){es:List Expr}(he:PA X es (RA B C XX x)):PA X es (RAS X B C XX x):=by
 intro pos pins s σ H Q I ⟨δ,O,Hb,hb,so,k⟩;have J0:=JBw (ps:=JCl x O δ.length s.heap) I (JBE (x:=x) hb so) JBK;have hev:=(agree C x δ (JAf x 0 δ) JBx).2.2.1;cases q:evA C x δ with
 |ok ds =>
  rw[q]at k;refine thn (he pos _ s σ _ (λvs H1=>Same (hidP H (unP x O)) H1∧DenL B H1 ds vs) J0 ⟨JAf x 0 δ,JAp so,by rw[←hev,q];exact λv H1 s1 d1=>⟨s1,d1⟩⟩) λu s1 ⟨vs,H1,J,r,sm,dn⟩=>?_
  obtain⟨I',hz⟩:=JBL I J (JBE hb so) (JA6 I so);obtain⟨O',so',dn'⟩:=JIj so sm hz dn;refine⟨vs,_,I',r,k vs _ O' ?_ dn'⟩;have:after (.tup x) (.tuple ds) δ=after x (.tuple ds) δ:=by unfold after;rw[JC6,JE3]
  rw[this];exact so'
 |exc c =>
  rw[q]at k;exact thn (he pos _ s σ _ (λv H1=>False) J0 ⟨JAf x 0 δ,JAp so,by rw[←hev,q];exact g.anti c _ _ ((JA9 so).trans same_un) k⟩) λu s1 ⟨v,H1,J,r,f⟩=>f.elim
 |bad=>rw[q]at k;exact k.elim
theorem JOD[Cool G](g:Gk X B C CX XX G){a b:Expr}{i j:Nat}{nx ny:Str}{px py pt pt2:Pos}{kt k2:Nat}(ha:PA X [a,b] (RA B C XX x))(hnd:X.N.Nodup)(hi:X.N[i]? = some nx)(hj:X.N[j]? = some ny)(hij:i≠j)
  (hx:X.env.scope.names.lookup nx=some .local) (hy:X.env.scope.names.lookup ny=some .local)
  (hw:swappedStores [.Tuple [.Name nx px,.Name ny py] kt pt] (.Tuple [a,b] k2 pt2) X.env=pure (some [nx,ny])):PS X (.Assign [.Tuple [.Name nx px,.Name ny py] kt pt] (.Tuple [a,b] k2 pt2) pos) (RSt X B C XX (.unp [i,j] (.tup x))) :=
 PS.imp (JQ7 (g.calm inferInstance) hnd hi hj hij hx hy (JPs g ha) hw) λDe σ H ⟨δ,O,Hb,hb,so,kk⟩=>by
  refine⟨δ,O,Hb,hb,so,?_⟩;simp only[exec,ev]at kk;cases q:evA C x δ with
  |ok ds =>
    rw[q]at kk;intro vs H' O' so' dn;simp only[R.bind,JA5,List.length_cons,List.length_nil]at kk
    match ds,vs,dn,kk,so' with
    | [d1,d2],vs,dn,kk,so' =>
     obtain⟨O2,so2⟩:=JCK [i,j] [d1,d2] vs so' dn;simp only[DenL]at dn;obtain⟨v1,r,e,q1,v2,r2,e2,q2,e3⟩:=dn;subst e3;subst e2;subst e;exact⟨v1,v2,rfl,kk _ _ O2 so2⟩
    | [],_,_,kk,_=>exact fF kk
    | [_],_,_,kk,_=>exact fF kk
    |_::_::_::_,_,_,kk,_=>simp at kk;exact fF kk
  |exc c=>rw[q]at kk;exact kk
  |bad=>rw[q]at kk;exact kk
end
section
variable{X:Cx}{B:Bs}{C:Cn}{CX:CXT}{XX:Nat→Hp→Prop}{G:List (Str×GK)}{x:E}{pos:Pos}
theorem SO.slotOwn{Hb:Hp}{σ:St}{H:Hp}{δ:Env}{O:Ow}(so:SO B Hb σ H δ O){i:Nat}{ds:List D}(h:δ[i]? = some (.own (.list ds))):∃a xs,O i=some a∧σ[i]? = some (some (.ref a))∧H a=some (.lst xs)∧DenL B (hid H O) ds xs:=by
 have q:=so.slot i;rw[h]at q;simp only[JAP]at q;obtain⟨a,ds',xs,q1,q2,q3,q4,q5,q6⟩:=q;cases q2;cases xs with
 |lst xs=>exact⟨a,xs,q1,q3,q4,q6⟩
 |_=>exact fF q6
theorem JQO(g:Gk X B C CX XX G){a:Expr}{i:Nat}{nm:Str}{p1 ap cp:Pos}(hN:X.N[i]? = some nm)(hv:Vis X.env.scope nm)(hbn:JAQ nm=false)(he:PE X a (RE B C XX x))(hs:starEach [a] X.env=[(false,eval a X.env)])(hl:(ap.endLine==cp.line)=true) :
  PS X (.Expr (.Call (.Attribute (.Name nm p1) "append" ap) [a] [] cp) pos) (RSt X B C XX (.app i x)):=by
 refine PS.imp (JEU (JEo PySem.F.plainAttrs_list PySem.F.slot_list_append PySem.F.type_list_append JJK (JAh hN hv (JAF hbn).1 (JAF hbn).2.1) (JAM (JHG g he) JAi hs) rfl (by rw[hs];rfl) hl hs rfl) rfl) λDe σ H ⟨δ,O,Hb,hb,so,kk⟩=>?_
 simp only[exec]at kk
 split at kk
 ·rename_i ds hd;obtain⟨l,xs,q1,q2,q3,q4⟩:=so.slotOwn hd;refine⟨_,q2,.inl ⟨rfl,xs,SqL.of q3⟩,δ,O,Hb,hb,so,?_⟩;cases q:ev C x δ with
  |ok d =>
   rw[q]at kk;intro v H' O' so' dn;have kk:JDV X B XX Hb De (JDP i ds x d δ):=kk;unfold JDP at kk
   split at kk
   ·rename_i hlen
    split at kk
    ·exact fF kk
    ·rename_i hu;have ea:after x d δ=δ:=by unfold after;rw[if_neg hu]
     rw[ea]at so';obtain⟨l',xs',r1,r2,r3,r4⟩:=so'.slotOwn hd;rw[q2]at r2;cases r2;refine⟨l,xs',v,rfl,rfl,r3,by rw[←DenL.len ds xs' r4,sizeLine_eq];exact hlen,?_⟩
     exact kk _ _ O' (JIF so' r1 (DenL.append ds [d] xs' [v] r4 (by simp only[DenL];exact⟨v,[],rfl,dn,rfl⟩)))
   ·exact fF kk
  |exc c=>rw[q]at kk;exact kk
  |bad=>rw[q]at kk;exact kk
 ·exact fF kk
theorem JRP(g:Gk X B C CX XX G){a:Expr}{i:Nat}{nm:Str}{p1 ap cp:Pos}(hN:X.N[i]? = some nm)(hv:Vis X.env.scope nm)(hbn:JAQ nm=false)(he:PE X a (REF B C XX x))(hs:starEach [a] X.env=[(false,eval a X.env)])(hl:(ap.endLine==cp.line)=true) :
  PS X (.Expr (.Call (.Attribute (.Name nm p1) "extend" ap) [a] [] cp) pos) (RSt X B C XX (.ext i x)):=by
 refine PS.imp (JEU (JEo PySem.F.plainAttrs_list PySem.F.slot_list_extend PySem.F.type_list_extend JIc (JAh hN hv (JAF hbn).1 (JAF hbn).2.1) (JAM (JLM g he) JAi hs) rfl (by rw[hs];rfl) hl hs rfl) rfl) λDe σ H ⟨δ,O,Hb,hb,so,kk⟩=>?_
 simp only[exec]at kk
 split at kk
 ·rename_i ds hd;obtain⟨l,xs,q1,q2,q3,q4⟩:=so.slotOwn hd;refine⟨_,q2,.inl ⟨rfl,xs,SqL.of q3⟩,δ,O,Hb,hb,so,?_⟩;cases q:ev C x δ with
  |ok d =>
   rw[q]at kk;intro Da d2 ov H1 O' ed so' hD dn;subst ed;obtain⟨zs,zv,rfl,rfl⟩:∃zs zv,d=.list zs∧ov=.lst zv:=by
    cases d with
    |list zs=>cases ov with
     |lst zv=>exact⟨zs,zv,rfl,rfl⟩
     |_=>exact fF dn
    |_=>exact fF kk
   have dn:DenL B (hid H1 O') zs zv:=dn;have kk:JDV X B XX Hb De (JBY i ds x (.list zs) δ):=kk;unfold JBY at kk;simp only at kk
   split at kk
   ·rename_i hlen
    split at kk
    ·exact fF kk
    ·rename_i hu;have hu':JAS x 0 δ=false:=by simpa using hu
     have ea:after x (.list zs) δ=δ:=by unfold after;rw[hu'];simp
     rw[ea]at so';obtain⟨l',xs',r1,r2,r3,r4⟩:=so'.slotOwn hd;rw[q2]at r2;cases r2;have hne:l≠Da:=λz=>by rw[z,hD]at r3;cases r3
     have so2:=JIJ (o:=.lst zv) so' hD;refine⟨l,Da,xs',zv,rfl,rfl,by rw[JAI hne];exact r3,JAK,by rw[←DenL.len ds xs' r4,←DenL.len zs zv dn,sizeLine_eq];exact hlen,?_⟩
     have s1:Same (hid H1 O') (hid (upd H1 Da (.lst zv)) O'):=λb u e=>by
      obtain⟨h1,h2⟩:=JAx e;have hb:b≠Da:=λz=>by rw[z,hD]at h2;cases h2
      rw[hid,JAJ h1,JAI hb];exact h2
     exact kk _ _ O' (JIF so2 r1 (DenL.append ds zs xs' zv (DenL.mono s1 ds xs' r4) (DenL.mono s1 zs zv dn)))
   ·exact fF kk
  |exc c=>rw[q]at kk;exact kk
  |bad=>rw[q]at kk;exact kk
 ·exact fF kk
theorem JMR(g:Gk X B C CX XX G){a:Expr}{i:Nat}{nm:Str}{p1 ap cp:Pos}(hN:X.N[i]? = some nm)(hv:Vis X.env.scope nm)(hbn:JAQ nm=false)(he:PE X a (RE B C XX x))(hs:starEach [a] X.env=[(false,eval a X.env)])(hl:(ap.endLine==cp.line)=true) :
  PS X (.Expr (.Call (.Attribute (.Name nm p1) "extend" ap) [a] [] cp) pos) (RSt X B C XX (.ext i x)):=by
 refine PS.imp (JEU (JEo PySem.F.plainAttrs_list PySem.F.slot_list_extend PySem.F.type_list_extend JMF (JAh hN hv (JAF hbn).1 (JAF hbn).2.1) (JAM (JHG g he) JAi hs) rfl (by rw[hs];rfl) hl hs rfl) rfl) λDe σ H ⟨δ,O,Hb,hb,so,kk⟩=>?_
 simp only[exec]at kk
 split at kk
 ·rename_i ds hd;obtain⟨l,xs,q1,q2,q3,q4⟩:=so.slotOwn hd;refine⟨_,q2,.inl ⟨rfl,xs,SqL.of q3⟩,δ,O,Hb,hb,so,?_⟩;cases q:ev C x δ with
  |ok d =>
   rw[q]at kk;intro v H' O' so' dn;have kk:JDV X B XX Hb De (JBY i ds x d δ):=kk;cases d with
   |list zs =>
    unfold JBY at kk;simp only at kk
    split at kk
    ·rename_i hlen
     split at kk
     ·exact fF kk
     ·rename_i hu;have hu':JAS x 0 δ=false:=by simpa using hu
      have ea:after x (.list zs) δ=δ:=by unfold after;rw[hu'];simp
      rw[ea]at so';obtain⟨l',xs',r1,r2,r3,r4⟩:=so'.slotOwn hd;rw[q2]at r2;cases r2;simp only[Den]at dn;obtain⟨Da,zv,e1,e2,e3⟩:=dn;exact⟨l,Da,xs',zv,rfl,by rw[e1],r3,same_hidP.seq (g.K▸e2),by rw[←DenL.len ds xs' r4,←DenL.len zs zv e3,sizeLine_eq];exact hlen,kk _ _ O' (JIF so' r1 (DenL.append ds zs xs' zv r4 e3))⟩
    ·exact fF kk
   |_=>exact fF kk
  |exc c=>rw[q]at kk;exact kk
  |bad=>rw[q]at kk;exact kk
 ·exact fF kk
end
theorem JED{G:List (Str×GK)}{n:Nat}{it:Bool}{names:Nq}{N:List Str}{e:Expr}{x:E}(h:JAN G n it names N e=some x)(hc:JDL e=false)(t:Option Expr)(l:Nat)(env:PySem.Env):swapsWith e t l env=pure false:=by
 cases n with
 |zero=>simp[JAN,JAX,JAO]at h
 |succ n=>cases e<;>first|rfl|(cases it<;>simp[JAN,JAX,JAO,xOf,tOf,tRaw,dOf,dRaw,Option.bind_none,ite_self,xRaw]at h<;>done)|cases hc
theorem JJE{G:List (Str×GK)}{n:Nat}{it:Bool}{names:Nq}{N:List Str}{e:Expr}{x:E}(h:JAN G n it names N e=some x)(ts:List Expr)(k:Nat)(p:Pos)(l:Nat)(env:PySem.Env):swapsWithSole [.Tuple ts k p] e l env=pure false:=by
 cases n with
 |zero=>simp[JAN,JAX,JAO]at h
 |succ n=>cases e<;>first|rfl|(cases it<;>simp[JAN,JAX,JAO,xOf,tOf,tRaw,dOf,dRaw,Option.bind_none,ite_self,xRaw]at h)
theorem JFd{e:Expr}(hc:isTup e=false)(ts:List Expr)(k:Nat)(p:Pos)(env:PySem.Env):swappedStores [.Tuple ts k p] e env=pure none:=by
 cases e<;>first|rfl|cases hc
theorem JC1{P:Prop}(h:false=true):P:=by cases h
theorem JFt{names:Nq}{ts:List Expr}{e:Expr}(h:JFD names ts e=true):∃nx px ny py a b k2 pt2,ts=[.Name nx px,.Name ny py]∧e=.Tuple [a,b] k2 pt2:=by
 rcases ts with _|⟨t1,_|⟨t2,_|⟨_,_⟩⟩⟩<;>try exact JC1 h
 cases t1<;>try exact JC1 h
 cases t2<;>try exact JC1 h
 cases e<;>try exact JC1 h
 rename_i es k p;rcases es with _|⟨a,_|⟨b,_|⟨_,_⟩⟩⟩<;>try exact JC1 h
 exact⟨_,_,_,_,_,_,_,_,rfl,rfl⟩
theorem JFE{names:Nq}{env:PySem.Env}{a b:Expr}{nx ny:Str}{px py pt pt2:Pos}{kt k2:Nat}(hk:env.scope.kind=.function)(hn:env.scope.names=names)(hs:∀es:List Expr,es=[a,b]→(es.any λ|.Starred ..=>true|_=>false)=false)
  (h:JFD names [.Name nx px,.Name ny py] (.Tuple [a,b] k2 pt2)=true) :
  swappedStores [.Tuple [.Name nx px,.Name ny py] kt pt] (.Tuple [a,b] k2 pt2) env=pure (some [nx,ny])∧nx≠ny∧env.scope.names.lookup nx=some .local∧env.scope.names.lookup ny=some .local:=by
 simp only[JFD,JOQ,Bool.and_eq_true,beq_iff_eq,Bool.not_eq_true',bne_iff_ne,ne_eq]at h;obtain⟨⟨⟨⟨⟨h1,h2⟩,h3⟩,h4⟩,h5⟩,h6⟩:=h;have hb:env.blockKind=.function:=by unfold PySem.Env.blockKind;rw[hk];rfl
 have e1:env.kindOf nx=some .local:=by show env.scope.names.lookup nx=_;rw[hn];exact h1
 have e2:env.kindOf ny=some .local:=by show env.scope.names.lookup ny=_;rw[hn];exact h2
 refine⟨?_,h4,e1,e2⟩;have hst:=hs [a,b] rfl;unfold swappedStores;simp only[List.length_cons,List.length_nil,hb,List.head?_cons,Option.map_some,Option.getD_some,List.filterMap_cons,List.filterMap_nil,e1,e2];have l1:((Expr.Name nx px).pos).line=px.line:=rfl;simp only[l1,h3,beq_self_eq_true,Bool.and_self,Bool.true_or,Bool.or_true,Bool.true_and,if_true,bne_self_eq_false,Bool.or_false,Bool.not_true,Bool.false_or,Bool.false_eq_true,if_false,h5,h6,hst];have l2:([nx,ny]:List Str).eraseDups.length=2:=by
  have hne:(ny==nx)=false:=beq_eq_false_iff_ne.mpr (Ne.symm h4);simp[List.eraseDups_cons,List.filter_cons,hne,bne]
 have hst':∀q:Expr→Bool,([a,b].any q)=false→q a=false∧q b=false:=λq h=>by simpa using h
 have hab:=hst' _ hst;simp[l2];intro hz;exfalso;rcases hz with z|z
 ·have:=hab.1;cases a<;>first|(cases z;done)|(cases this;done)
 ·have:=hab.2;cases b<;>first|(cases z;done)|(cases this;done)
theorem JGJ{e:Expr}(h:JD0 e=true):∃es p,e=.List es p:=by
 cases e<;>first|exact⟨_,_,rfl⟩|cases h
theorem JKT{e:Expr}(h:JDL e=true):∃a b c p,e=.ListComp a b c p:=by
 cases e<;>first|exact⟨_,_,_,_,rfl⟩|cases h
section
variable{B:Bs}{C:Cn}{CX:CXT}{G:List (Str×GK)}
def JLy(X:Cx)(B:Bs)(G:List (Str×GK))(XX:Nat→Hp→Prop):Prop:=∀(nm:Str) (c:Nat) (m:Str) (j:Nat) (p1 p2 p3 pos:Pos),Gl X nm→JAQ nm=false→G.lookup nm=some (.cls c) →
 ∀(pins:Pq) (s:Shared) (σ:St) (H:Hp) (D:Ends),Inv X pins σ H s→XX c H→wpAny (model X.prog X.w) X.A (PySem.exec (.Raise (some (.Call (.Name nm p1) [.Constant (.str m) j p2] [] p3)) none pos) X.env) (SP X pins D) X.xe s
noncomputable def atX(X:Cx)(A:Around)(pn:Pq)(xe:Value→Shared→Prop)(calm:Bool):Cx:={ X with A:=A,pn:=pn,xe:=xe,calm:=calm }
def Tries(X:Cx)(B:Bs)(C:Cn)(CX:CXT)(G:List (Str×GK))(XX:Nat→Hp→Prop):Prop:=∀(body:List Stmt) (b:S) (cn en kn:Str) (c i j:Nat) (np p1 p2 p3 hpos pos:Pos),
 (∀(pn:Pq) (xe:Value→Shared→Prop) (XX':Nat→Hp→Prop),PassesOwn (model X.prog X.w) X.A X.env xe→Gk (atX X X.A pn xe true) B C CX XX' G→PSs (atX X X.A pn xe true) body (RSt (atX X X.A pn xe true) B C XX' b)) →
 Gl X cn→JAQ cn=false→JAQ en=false→G.lookup cn=some (.cls c)→X.N.Nodup→X.N[i]? = some en→X.env.scope.names.lookup en=some .local→X.N[j]? = some kn→Loc X.env.scope kn→i≠j →
 PS X (.Try body [.ExceptHandler (some (.Name cn np)) (some en) [.Assign [.Name kn p1] (.Name en p2) p3] hpos] [] [] pos) (RSt X B C XX (.tryx b c i (.cons (.asg j (.var i)) .nil)))
theorem JD3{e c:Option Expr}{x:Str}(h:JGE e c=some x):∃p1 m j p2 p3,e=some (.Call (.Name x p1) [.Constant (.str m) j p2] [] p3)∧c=none:=by
 rcases e with _|e
 ·exact JAE h
 cases e<;>try exact JAE h
 rename_i f as ks p3;cases f<;>try exact JAE h
 rename_i x' p1;rcases as with _|⟨a,as⟩
 ·exact JAE h
 cases a<;>try exact JAE h
 rename_i k j p2;cases k<;>try exact JAE h
 rcases as with _|⟨_,_⟩<;>try exact JAE h
 rcases ks with _|⟨_,_⟩<;>try exact JAE h
 rcases c with _|c<;>try exact JAE h
 cases h;exact⟨_,_,_,_,_,rfl,rfl⟩
theorem JFj{hs:List ExceptHandler}{q:Str×Str×Str}(h:handOf hs=some q):∃np p1 p2 p3 hp,hs=[.ExceptHandler (some (.Name q.1 np)) (some q.2.1) [.Assign [.Name q.2.2 p1] (.Name q.2.1 p2) p3] hp]:=by
 rcases hs with _|⟨⟨ty,en,b,hp⟩,hs⟩
 ·exact JAE h
 rcases ty with _|ty
 ·exact JAE h
 cases ty<;>try exact JAE h
 rename_i cn np;rcases en with _|en
 ·exact JAE h
 rcases b with _|⟨st,b⟩
 ·exact JAE h
 cases st<;>try exact JAE h
 rename_i ts v p3;rcases ts with _|⟨t1,ts⟩
 ·exact JAE h
 cases t1<;>try exact JAE h
 rcases ts with _|⟨_,_⟩<;>try exact JAE h
 cases v<;>try exact JAE h
 rcases b with _|⟨_,_⟩<;>try exact JAE h
 rcases hs with _|⟨_,_⟩<;>try exact JAE h
 dsimp only[handOf]at h
 split at h
 ·rename_i e;cases h;subst e;exact⟨_,_,_,_,_,rfl⟩
 ·cases h
theorem JF1{e:Expr}{x m:Str}{a:Expr}(h:JI1 e=some (x,m,a)):∃p1 ap cp,e=.Call (.Attribute (.Name x p1) m ap) [a] [] cp∧(ap.endLine==cp.line)=true:=by
 cases e<;>try exact JAE h
 rename_i f as ks cp;cases f<;>try exact JAE h
 rename_i o m ap;cases o<;>try exact JAE h
 rcases as with _|⟨a,_|⟨_,_⟩⟩<;>try exact JAE h
 rcases ks with _|⟨_,_⟩<;>try exact JAE h
 dsimp only[JI1]at h
 split at h
 ·rename_i e;cases h;exact⟨_,_,_,rfl,e⟩
 ·cases h
theorem JHJ{e:Expr}{x:Str}{a b:Expr}(h:JMH e=some (x,a,b)):∃p1 ap cp,e=.Call (.Attribute (.Name x p1) "insert" ap) [a,b] [] cp∧(ap.endLine==cp.line)=true:=by
 cases e<;>try exact JAE h
 rename_i f as ks cp;cases f<;>try exact JAE h
 rename_i o m ap;cases o<;>try exact JAE h
 rcases as with _|⟨a,_|⟨b,_|⟨_,_⟩⟩⟩<;>try exact JAE h
 rcases ks with _|⟨_,_⟩<;>try exact JAE h
 dsimp only[JMH]at h
 split at h
 ·rename_i e;cases h;obtain⟨e1,e2⟩:=e;subst e2;exact⟨_,_,_,rfl,e1⟩
 ·cases h
theorem JHV{e:Expr}(h:docOf e=true):∃y j p,e=.Constant (.str y) j p:=by
 unfold docOf at h
 split at h
 ·exact⟨_,_,_,rfl⟩
 ·cases h
theorem JFP{ts:List Expr}{x:Str}(h:JHK ts=some (.inl x)):∃p,ts=[.Name x p]:=by
 unfold JHK at h
 split at h
 ·cases h;exact⟨_,rfl⟩
 ·cases h
 ·cases h
theorem JEu{ts us:List Expr}(h:JHK ts=some (.inr us)):∃k p,ts=[.Tuple us k p]:=by
 unfold JHK at h
 split at h
 ·cases h
 ·cases h;exact⟨_,_,rfl⟩
 ·cases h
theorem JHN{e:Expr}{es:List Expr}(h:JMS e=some es):∃k p,e=.Tuple es k p:=by
 unfold JMS at h
 split at h
 ·cases h;exact⟨_,_,rfl⟩
 ·cases h
theorem JCO{X:Cx}{XX:Nat→Hp→Prop}{f:Stmt→Option S}(ih:∀st t,f st=some t→PS X st (RSt X B C XX t)):∀ {sts:List Stmt}{t:S},JAZ f sts=some t→PSs X sts (RSt X B C XX t)
 | [],t,h=>by unfold JAZ at h;cases h;exact JOY
 |st::r,t,h=>by
  unfold JAZ at h;obtain⟨a,h1,h⟩:=Option.bind_eq_some_iff.mp h;obtain⟨b,h2,h⟩:=Option.bind_eq_some_iff.mp h;cases h;exact JMO (ih st a h1) (JCO ih h2)
theorem JF3{X:Cx}{XX:Nat→Hp→Prop}(ra:Rare B C CX G)(g:Gk X B C CX XX G)(hf:G.lookup (".dict":Str)=some GK.opt){st:Stmt}{t:S}(h:PS X st (RSt X B C XX t)):∀(N:List Str) (i:Nat) (y:E),PS X st (RSt X B C XX (preF G N i y t))
 | [],_,_=>h
 |x::r,i,y=>by
  unfold preF
  split
  ·exact(ra.dop hf).frz X XX g st _ i (JF3 ra g hf h r (i+1) y)
  ·exact JF3 ra g hf h r (i+1) y
theorem JGL{X:Cx}{XX:Nat→Hp→Prop}(ra:Rare B C CX G)(g:Gk X B C CX XX G){st:Stmt}{t:S}{names:Nq}{N:List Str}{y:E}(h:PS X st (RSt X B C XX t)):PS X st (RSt X B C XX (pre G names N y t)):=by
 unfold pre
 split
 ·exact JF3 ra g (JGO (by assumption)) h N 0 y
 ·exact h
theorem JIP{names:Nq}{e:Expr}{q:XO×List Expr}(h:dRaw G names false e=some q)(t:Option Expr)(l:Nat)(env:PySem.Env):swapsWith e t l env=pure false:=by
 cases e<;>first|rfl|exact JAE h
theorem JG4{ts:List Expr}{q:Str×Expr}(h:JM8 ts=some q):∃p1 p2,ts=[.Subscript (.Name q.1 p1) q.2 p2]∧isSlice q.2=false:=by
 rcases ts with _|⟨t,ts⟩
 ·exact JAE h
 cases t<;>try exact JAE h
 rename_i o k p2;cases o<;>try exact JAE h
 rcases ts with _|⟨_,_⟩<;>try exact JAE h
 dsimp only[JM8]at h
 split at h
 ·cases h
 ·rename_i hs;cases h;exact⟨_,_,rfl,by simpa using hs⟩
structure RareS(B:Bs)(C:Cn)(CX:CXT)(G:List (Str×GK)):Prop where
 dsp:G.lookup (".dsp":Str)=some GK.opt→∀(X:Cx) (XX:Nat→Hp→Prop) (n:Nat) (names:Nq) (N:List Str),Gk X B C CX XX G→(∀e x,JAN G n false names N e=some x→PE X e (RE B C XX x))→X.env.scope.kind=.function→X.env.scope.names=names→X.N=N→N.Nodup→(∀nm,X.fn nm=true∨X.env.scope.names.lookup nm≠some .cell) →
  ∀(ts es:List Expr) (is:List Nat) (k k2:Nat) (pt pt2 pos:Pos) (q:E×Option Nat),slots names N ts=some is→is.Nodup→JKw names ts es=true→JMK (JAN G n false names N) es is=some q→PS X (.Assign [.Tuple ts k pt] (.Tuple es k2 pt2) pos) (RSt X B C XX (unpO is q.1 q.2))
 ext:G.lookup (".ext":Str)=some GK.opt→∀(X:Cx) (XX:Nat→Hp→Prop),Gk X B C CX XX G→∀(x:E) (a:Expr) (i:Nat) (nm:Str) (p1 ap cp pos:Pos),X.N[i]? = some nm→Vis X.env.scope nm→JAQ nm=false→(PE X a (REF B C XX x)∨PE X a (RE B C XX x))→starEach [a] X.env=[(false,eval a X.env)]→(ap.endLine==cp.line)=true →
  PS X (.Expr (.Call (.Attribute (.Name nm p1) "extend" ap) [a] [] cp) pos) (RSt X B C XX (.ext i x))
 ins:G.lookup (".ins":Str)=some GK.opt→∀(X:Cx) (XX:Nat→Hp→Prop),Gk X B C CX XX G→∀(x:E) (a b:Expr) (i:Nat) (nm:Str) (p1 ap cp pos:Pos),X.N[i]? = some nm→Vis X.env.scope nm→JAQ nm=false→PA X [a,b] (RA B C XX x)→starEach [a,b] X.env=[(false,eval a X.env),(false,eval b X.env)]→starEach [b] X.env=[(false,eval b X.env)]→(ap.endLine==cp.line)=true →
  PS X (.Expr (.Call (.Attribute (.Name nm p1) "insert" ap) [a,b] [] cp) pos) (RSt X B C XX (.ins i x))
theorem JPd(_:G.lookup (".ext":Str)=some GK.opt)(X:Cx)(XX:Nat→Hp→Prop)(g:Gk X B C CX XX G)(x:E)(a:Expr)(i:Nat)(nm:Str)(p1 ap cp pos:Pos)(hN:X.N[i]? = some nm)(hv:Vis X.env.scope nm)(hbn:JAQ nm=false)(he:PE X a (REF B C XX x)∨PE X a (RE B C XX x))(hs:starEach [a] X.env=[(false,eval a X.env)])(hl:(ap.endLine==cp.line)=true) :
 PS X (.Expr (.Call (.Attribute (.Name nm p1) "extend" ap) [a] [] cp) pos) (RSt X B C XX (.ext i x)):=he.elim (λhe=>JRP g hN hv hbn he hs hl) λhe=>JMR g hN hv hbn he hs hl
theorem JH1(ra:Rare B C CX G)(rr:RareS B C CX G):∀(n:Nat) (X:Cx) (XX:Nat→Hp→Prop) (names:Nq) (N:List Str) (zz:Bool),Gk X B C CX XX G→X.env.scope.kind=.function→X.env.scope.names=names→X.N=N→N.Nodup →
  PassesOwn (model X.prog X.w) X.A X.env X.xe→(∀nm,X.fn nm=true)→(zz=true→JLy X B G XX)→(zz=true→G.lookup (".try":Str)=some GK.opt→Tries X B C CX G XX)→∀(st:Stmt) (t:S),JCQ G n zz names N st=some t→PS X st (RSt X B C XX t)
 |0,X,XX,names,N,zz,g,hk,hn,hN,hnd,hpo,hfn,hr,ht,st,t,h=>JAE h
 |n+1,X,XX,names,N,zz,g,hk,hn,hN,hnd,hpo,hfn,hr,ht,st,t,h=>by
  have ih:=JH1 ra rr n X XX names N zz g hk hn hN hnd hpo hfn hr ht;obtain⟨ihE,ihI⟩:=sound ra n X XX names N g hk hn hN hnd;cases st with
  |Pass p=>cases h;exact JMo
  |Break p=>cases h;exact JPG
  |Continue p=>cases h;exact JPZ
  |Return e p =>
   cases e with
   |none=>cases h;exact JM1
   |some e =>
    dsimp only[JCQ,JCF]at h
    obtain⟨x,hx,e'⟩:=Option.map_eq_some_iff.mp h;subst e';exact JGL ra g (JQq g (ihE e x hx).1)
  |If c a b p =>
   dsimp only[JCQ,JCF]at h
   obtain⟨z,hz,h⟩:=Option.bind_eq_some_iff.mp h;obtain⟨x,hx,h⟩:=Option.bind_eq_some_iff.mp h;obtain⟨y,hy,h⟩:=Option.bind_eq_some_iff.mp h;cases h;exact JGL ra g (JOq g (ihE c z hz).2 (JCO ih hx) (JCO ih hy))
  |While c body orelse p =>
   cases orelse with
   |cons a b=>exact JAE h
   |nil =>
    dsimp only[JCQ,JCF]at h
    obtain⟨z,hz,h⟩:=Option.bind_eq_some_iff.mp h;obtain⟨x,hx,h⟩:=Option.bind_eq_some_iff.mp h;cases h;exact JQs g hpo (ihE c z hz).2 (JCO ih hx)
  |For tg iter body orelse p =>
   cases orelse with
   |cons a b=>exact JAE h
   |nil =>
    dsimp only[JCQ,JCF]at h
    split at h
    case isTrue=>cases h
    rename_i hcool
    haveI:Cool G:=JCz hcool
    split at h
    ·rename_i nm ht;obtain⟨p2,e2⟩:=JFP ht;cases e2;obtain⟨i,hi,h⟩:=Option.bind_eq_some_iff.mp h;obtain⟨x,hx,h⟩:=Option.bind_eq_some_iff.mp h;obtain⟨b,hb,h⟩:=Option.bind_eq_some_iff.mp h;cases h;obtain⟨q1,q2⟩:=slot_of hn hN hi;exact JMa g hpo (ihI _ iter x hx) (JCO ih hb) (by rw[hN];exact hnd) q1 q2 (.inl (hfn nm)) (JBo hx X.env)
    ·rename_i ts ht;obtain⟨k,p2,e2⟩:=JEu ht;cases e2;obtain⟨is,hi,h⟩:=Option.bind_eq_some_iff.mp h;obtain⟨x,hx,h⟩:=Option.bind_eq_some_iff.mp h;obtain⟨b,hb,h⟩:=Option.bind_eq_some_iff.mp h;cases h;cases hxx:xT G names iter with
     |none =>
      rw[hxx]at hx;exact JIV g hpo (ihI _ iter x hx) (JCO ih hb) hn hN hnd (λnm=>.inl (hfn nm)) hi (JBo hx X.env)
     |some q =>
      rw[hxx]at hx;obtain⟨y,hy,rfl⟩:=Option.map_eq_some_iff.mp hx;obtain⟨q1,q2⟩:=JD4 hxx;exact JIV g hpo ((ra.xop q.1 q2).tgt X XX g ts k p2 iter q.2 y (by rw[hn];exact q1) (allA g (λa x h=>(ihE a x h).1) hy) (JCn hy) (JAT hy)) (JCO ih hb) hn hN hnd (λnm=>.inl (hfn nm)) hi (JFk hxx X.env)
    ·cases h
  |Raise exc cause p =>
   dsimp only[JCQ,JCF]at h
   obtain⟨nm,hr0,h9⟩:=Option.bind_eq_some_iff.mp h;clear h;obtain⟨p1,m,j,p2,p3,rfl,rfl⟩:=JD3 hr0;have h:=h9;clear h9
   split at h
   ·rename_i c hg
    split at h
    case isFalse=>cases h
    rename_i hz;cases h;obtain⟨g1,g2,g3⟩:=JAy hg;intro pins s σ H D I ⟨δ,O,Hb,hb,so,k⟩;simp only[exec]at k;exact hr hz nm c m j p1 p2 p3 p (JB3 hn g2) g1 g3 pins s σ H D I (g.anti c Hb H so.same k)
   ·cases h
  |Assign ts e p =>
   have hfn':∀nm,X.fn nm=true∨X.env.scope.names.lookup nm=some .local:=λnm=>.inl (hfn nm)
   dsimp only[JCQ,JCF]at h
   split at h
   ·rename_i nm ht;obtain⟨p1,rfl⟩:=JFP ht;obtain⟨i,hi,h⟩:=Option.bind_eq_some_iff.mp h;cases hd:dFr G names e with
    |some q =>
     rw[hd]at h;obtain⟨y,hy,rfl⟩:=Option.map_eq_some_iff.mp h;obtain⟨r,hd1,hd2⟩:=Option.bind_eq_some_iff.mp hd
     split at hd2
     case isFalse=>cases hd2
     rename_i hk2;cases hd2;obtain⟨hd1,hfl⟩:=JGx hd1;obtain⟨q1,q2⟩:=slot_of hn hN hi;refine JGL ra g ?_;exact JFh g ((ra.dop hfl).own X XX g e _ _ y (by rw[hn];exact hd1) hk2 (pes (λa x h=>(ihE a x h).1) hy) (JCn hy)) (by cases hk3:q.1<;>rw[hk3]at hk2<;>first|rfl|cases hk2) (by rw[hN];exact hnd) q1 q2 (JIP hd1 _ _ _) (hfn' nm)
    |none =>
    rw[hd]at h;obtain⟨y,hy,h⟩:=Option.bind_eq_some_iff.mp h
    split at h
    ·cases h
    ·rename_i hc;cases h;refine JGL ra g ?_;obtain⟨q1,q2⟩:=slot_of hn hN hi;have hnd':X.N.Nodup:=by rw[hN];exact hnd
     by_cases h1:JD0 e=true
     ·obtain⟨es,p2,rfl⟩:=JGJ h1;have hf:y.fresh=true:=by
       cases n with
       |zero=>simp[JAN,JAX,JAO]at hy
       |succ n =>
        simp only[JAN,JAX,JAO,xOf,tOf,tRaw,dOf,dRaw,Option.bind_none,ite_self,xRaw,Option.bind_none]at hy
        split at hy
        ·obtain⟨z,_,e'⟩:=Option.map_eq_some_iff.mp hy;subst e';rfl
        ·cases hy
      exact JFh g (JFJ ra g hk hn hN hnd hy) hf hnd' q1 q2 rfl (hfn' nm)
     ·by_cases h2:JDL e=true
      ·obtain⟨elt,gens,sc,p2,rfl⟩:=JKT h2
       haveI:Cool G:=JIA hy
       obtain⟨target,iter,ifs,xs,k,y1,z1,w1,e1,e2,bk,hi2,hs2,hrun⟩:=JHb ra g hk hn hN hnd hy;subst e1;subst e2;cases hb:(X.env.blockKind==.function&&X.env.kindOf nm==some .local&&p1.line==(Expr.ListComp elt [⟨target,iter,ifs,0⟩] sc p2).pos.line&&!(sc.names.any λ(n,k)=>n==nm&&(k==.local || k==.cell))) with
       |true =>
        have hsw:swapsWith (.ListComp elt [⟨target,iter,ifs,0⟩] sc p2) (some (.Name nm p1)) p.line X.env=pure true:=by rw[←hb];rfl
        have hloc:X.env.scope.names.lookup nm=some .local:=by
         simp only[Bool.and_eq_true,beq_iff_eq]at hb;exact hb.1.1.2
        exact JMG g (JJZ g bk hi2 hs2 hrun hsw hnd' q1 hloc) rfl
       |false =>
        have hsw:swapsWith (.ListComp elt [⟨target,iter,ifs,0⟩] sc p2) (some (.Name nm p1)) p.line X.env=pure false:=by rw[←hb];rfl
        exact JFh g (JC5 g bk hi2 hs2 hrun) rfl hnd' q1 q2 hsw (hfn' nm)
      ·have hf:y.fresh=false:=by
        cases hz:y.fresh with
        |false=>rfl
        |true=>exact absurd ⟨hz,by simpa using h1,by simpa using h2⟩ hc
       exact JOw g (ihE e y hy).1 hf hnd' q1 q2 (JED hy (by simpa using h2) _ _ _) (hfn' nm)
   ·rename_i ts ht;obtain⟨k,pt,rfl⟩:=JEu ht;obtain⟨is,hi,h⟩:=Option.bind_eq_some_iff.mp h
    split at h
    ·rename_i hc0;obtain⟨hc,hcool⟩:=hc0
     haveI:Cool G:=JCz (by rw[hcool];decide)
     obtain⟨y,hy,e'⟩:=Option.map_eq_some_iff.mp h;subst e'
     by_cases ht:isTup e=true
     ·have hp:JFD names ts e=true:=by
       rcases hc.2 with z|z
       ·rw[ht]at z;cases z
       ·exact z
      obtain⟨nx,px,ny,py,a,b,k2,pt2,e7,e8⟩:=JFt hp;subst e7;subst e8
      ·skip
       obtain⟨w1,w2,w3,w4⟩:=JFE (env:=X.env) (kt:=k) (pt:=pt) hk hn (λes e=>by
        subst e;cases n with
        |zero=>simp[JAN,JAX,JAO]at hy
        |succ n =>
         simp only[JAN,JAX,JAO,xOf,tOf,tRaw,dOf,dRaw,Option.bind_none,ite_self,xRaw,Option.bind_none]at hy
         split at hy
         ·obtain⟨z,hz,_⟩:=Option.map_eq_some_iff.mp hy;unfold JAH at hz;obtain⟨z1,hz1,hz⟩:=Option.bind_eq_some_iff.mp hz;obtain⟨z2,hz2,hz⟩:=Option.bind_eq_some_iff.mp hz;unfold JAH at hz2;obtain⟨z3,hz3,hz2⟩:=Option.bind_eq_some_iff.mp hz2;have t1:∀ {e:Expr}{x:E},JAN G n false names N e=some x→(match e with|.Starred ..=>true|_=>false)=false:=by
           intro e x h;cases e<;>first|rfl|(cases n<;>simp[JAN,JAX,JAO,xOf,tOf,tRaw,dOf,dRaw,Option.bind_none,ite_self,xRaw]at h)
          simp only[List.any_cons,List.any_nil,t1 hz1,t1 hz3,Bool.or_self,Bool.or_false]
         ·cases hy) hp
       simp only[slots]at hi;obtain⟨i,hi1,hi⟩:=Option.bind_eq_some_iff.mp hi;obtain⟨js,hi2,hi⟩:=Option.bind_eq_some_iff.mp hi;obtain⟨j,hi3,hi2⟩:=Option.bind_eq_some_iff.mp hi2;simp only[Option.bind_some,Option.some.injEq]at hi2;subst hi2;cases hi;have hy':=hy;cases n with
       |zero=>simp[JAN,JAX,JAO]at hy
       |succ n =>
        simp only[JAN,JAX,JAO,xOf,tOf,tRaw,dOf,dRaw,Option.bind_none,ite_self,xRaw,Option.bind_none]at hy
        split at hy
        ·obtain⟨z,hz,e'⟩:=Option.map_eq_some_iff.mp hy;subst e';have hij:i≠j:=by
          have:=of_decide_eq_true hc.1;simp at this;exact this
         exact JOD g (allA g (λe x h=>((sound ra n X XX names N g hk hn hN hnd).1 e x h).1) hz) (by rw[hN];exact hnd) (slot_of hn hN hi1).1 (slot_of hn hN hi3).1 hij w3 w4 w1
        ·cases hy
     ·exact JPq g (ihE e y hy).1 hn hN hnd (λnm=>.inl (hfn nm)) hi (JJE hy _ _ _ _ _) (JFd (by simpa using ht) _ _ _ _)
    ·obtain⟨es,he,h9⟩:=Option.bind_eq_some_iff.mp h;clear h;obtain⟨k2,pt2,rfl⟩:=JHN he
     split at h9
     case isFalse=>cases h9
     rename_i hc;obtain⟨q,hq,rfl⟩:=Option.map_eq_some_iff.mp h9;exact rr.dsp hc.2 X XX n names N g (λe x h=>((sound ra n X XX names N g hk hn hN hnd).1 e x h).1) hk hn hN hnd (λnm=>.inl (hfn nm)) ts es is k k2 pt pt2 p q hi (of_decide_eq_true hc.1.1) hc.1.2 hq
   ·obtain⟨q,hq,h9⟩:=Option.bind_eq_some_iff.mp h;clear h
    split at h9
    case isFalse=>cases h9
    rename_i hc;obtain⟨p1,p2,hts,hsl⟩:=JG4 hq;subst hts;obtain⟨i,hi,h9⟩:=Option.bind_eq_some_iff.mp h9;obtain⟨y,hy,h9⟩:=Option.bind_eq_some_iff.mp h9;obtain⟨z,hz,h9⟩:=Option.bind_eq_some_iff.mp h9;cases h9;obtain⟨q1,q2⟩:=slot_of hn hN hi;exact(ra.dop (JGO hc.1)).put X XX g q.1 i p1 p2 p q.2 e z y q1 (by
     rcases q2 with k|k
     ·exact .inl k
     ·exact .inr (.inl k)) hc.2.1 hsl (ihE e y hy).1 (ihE q.2 z hz).1 λt l=>JED hy hc.2.2 t l X.env
  |Expr e p =>
   dsimp only[JCQ,JCF]at h
   split at h
   ·rename_i nm m a hm;obtain⟨p1,ap,cp,rfl,hc1⟩:=JF1 hm
    split at h
    ·rename_i hc2;have JDl:∀ {i},slot names N nm=some i→Vis X.env.scope nm:=λhi=>by
      rcases(slot_of hn hN hi).2 with k|k
      ·exact .inl k
      ·exact .inr (.inl k)
     split at h
     ·rename_i hm;subst hm;obtain⟨i,hi,h⟩:=Option.bind_eq_some_iff.mp h;obtain⟨y,hy,e'⟩:=Option.map_eq_some_iff.mp h;subst e';exact JQO g (slot_of hn hN hi).1 (JDl hi) hc2 (ihE a y hy).1 (JAV hy [] _) hc1
     ·split at h
      ·rename_i hm;obtain⟨⟨hm,hl⟩,hfl⟩:=hm;subst hm;obtain⟨i,hi,h⟩:=Option.bind_eq_some_iff.mp h;obtain⟨y,hy,e'⟩:=Option.map_eq_some_iff.mp h;subst e'
       by_cases hl2:JD0 a=true
       ·obtain⟨es,p2,rfl⟩:=JGJ hl2;exact rr.ext hfl X XX g y _ i nm p1 ap cp p (slot_of hn hN hi).1 (JDl hi) hc2 (.inl (JFJ ra g hk hn hN hnd hy)) (JAV hy [] _) hc1
       ·exact rr.ext hfl X XX g y a i nm p1 ap cp p (slot_of hn hN hi).1 (JDl hi) hc2 (.inr (ihE a y hy).1) (JAV hy [] _) hc1
      ·split at h
       ·rename_i hm;obtain⟨hm,hfl⟩:=hm;subst hm;obtain⟨i,hi,h⟩:=Option.bind_eq_some_iff.mp h;obtain⟨y,hy,e'⟩:=Option.map_eq_some_iff.mp h;subst e';exact(ra.dop (JGO hfl)).pop X XX g nm i p1 ap cp p a y (slot_of hn hN hi).1 (JDl hi) hc2 (ihE a y hy).1 (JAV hy [] _) hc1
       ·cases h
    ·cases h
   ·split at h
    ·rename_i nm a b hm;obtain⟨p1,ap,cp,rfl,hc1⟩:=JHJ hm
     split at h
     ·rename_i hc2;obtain⟨i,hi,h⟩:=Option.bind_eq_some_iff.mp h;obtain⟨y,hy,e'⟩:=Option.map_eq_some_iff.mp h;subst e';have vs:Vis X.env.scope nm:=by
       rcases(slot_of hn hN hi).2 with k|k
       ·exact .inl k
       ·exact .inr (.inl k)
      have s1:=JCn hy a (by simp) [b] X.env
      have s2:=JCn hy b (by simp) [] X.env
      have s3:starEach ([]:List Expr) X.env=[]:=rfl;rw[s3]at s2;rw[s2]at s1;exact rr.ins hc2.2 X XX g y a b i nm p1 ap cp p (slot_of hn hN hi).1 vs hc2.1 (allA g (λe x h=>((sound ra n X XX names N g hk hn hN hnd).1 e x h).1) hy) s1 s2 hc1
     ·cases h
    ·split at h
     ·rename_i hd;obtain⟨y,j,p2,rfl⟩:=JHV hd;cases h;exact JOc
     ·split at h
      ·cases h
      ·rename_i hc;obtain⟨y,hy,e'⟩:=Option.map_eq_some_iff.mp h;subst e';exact JNi g (ihE e y hy).1 (JED hy (by simpa using hc) _ _ _)
  |Try body hs orelse fin p =>
   cases orelse with
   |cons a b=>exact JAE h
   |nil =>
    cases fin with
    |cons a b=>exact JAE h
    |nil =>
     dsimp only[JCQ,JCF]at h
     obtain⟨⟨cn,en,kn⟩,hq,h9⟩:=Option.bind_eq_some_iff.mp h;clear h;obtain⟨np,p1,p2,p3,hp,rfl⟩:=JFj hq;have h:=h9;clear h9 hq;simp only at h ⊢
     split at h
     case isFalse=>cases h
     rename_i hc;obtain⟨hz,ho,hb,hl⟩:=hc
     split at h
     case h_2=>cases h
     rename_i c hg;obtain⟨b,hbb,h⟩:=Option.bind_eq_some_iff.mp h;obtain⟨i,hi,h⟩:=Option.bind_eq_some_iff.mp h;obtain⟨j,hj,h⟩:=Option.bind_eq_some_iff.mp h
     split at h
     case isTrue=>cases h
     rename_i hij;cases h;obtain⟨g1,g2,g3⟩:=JAy hg;have hie:slot names N en=some i:=by unfold slot;rw[hl];exact hi
     refine ht hz ho _ _ _ _ _ _ _ _ _ _ _ _ _ _ (λpn xe XX' po gk=>?_) (JB3 hn g2) g1 hb g3 (by rw[hN];exact hnd) (slot_of hn hN hie).1 (by rw[hn];exact hl) (slot_of hn hN hj).1 (slot_of hn hN hj).2 hij
     exact JCO (JH1 ra rr n (atX X X.A pn xe true) XX' names N false gk hk hn hN hnd po hfn (λz=>by cases z) (λz=>by cases z)) hbb
  |_=>exact JAE h
end
structure Turned(G:List (Str×GK))(st:Stmt)(N ps:List Str)(fd:Fd):Prop where
 comp:JAZ (JCQ G 60 true (JAB st).names N) (JAa st)=some fd.body
 sc:FnScope N ps (JAB st)
 par:fd.par=ps.length
 slots:fd.slots=N.length
structure DefAt(K:Kq)(mg:Str→Option Value)(G:List (Str×GK))(x:Str)(fd:Fd):Prop where
 ex:∃f fo st N ps,mg x=some (.ref f)∧Fun K x x st f fo∧Binds K fo ps []∧Turned G st N ps fd
theorem JHD{N:List Str}{ds:List D}{vs:List V}{B:Bs}{H:Hp}{m:Nat}(h:DenL B H ds vs)(hl:N.length=m)(hv:vs.length≤m):SO B H (start N vs) H (ds.map Sl.val++List.replicate (m - ds.length) Sl.no) (λ_=>none):=by
 have hlen:=DenL.len ds vs h;refine⟨?_,Same.refl H,(λi j a e=>by cases e),λi=>?_⟩
 ·simp only[L2.start,List.length_append,List.length_map,List.length_replicate];omega
 ·have hh:hid H (λ_=>none)=H:=by
   funext b
   unfold hid hidP;rw[if_neg];rintro⟨i,e⟩;cases e
  by_cases hi:i<ds.length
  ·rw[List.getElem?_append_left (by simpa using hi),List.getElem?_map]
   obtain⟨d,hd⟩:∃d,ds[i]? = some d:=⟨_,List.getElem?_eq_getElem hi⟩;obtain⟨v,hv,dn⟩:=DenL.get ds vs i d h hd;rw[hd];refine⟨rfl,v,?_,by rw[hh];exact dn⟩
   unfold L2.start;rw[List.getElem?_append_left (by rw[List.length_map];omega),List.getElem?_map,hv]
   rfl
  ·rw[List.getElem?_append_right (by simpa using hi),List.getElem?_replicate]
   split
   ·rfl
   ·rfl
section
variable{B:Bs}{G:List (Str×GK)}{tab:Nat→Option Fd}{glo:Nat→R D}{sub:Nat→Nat→Bool}
theorem JIy{x:Bool}{n i:Nat}{ds:List D}(h:run x tab glo sub n i ds≠.bad):∃fd,tab i=some fd∧ds.length=fd.par:=by
 cases n with
 |zero=>exact absurd rfl h
 |succ n =>
  unfold run at h;cases e:tab i with
  |none=>rw[e]at h;exact absurd rfl h
  |some fd =>
   have h:JF0 x ⟨run x tab glo sub n,glo,sub⟩ fd ds≠.bad:=by rw[e]at h;exact h
   refine⟨fd,rfl,?_⟩;unfold JF0 at h
   by_cases hl:ds.length=fd.par
   ·exact hl
   ·rw[if_neg hl]at h;exact absurd rfl h
noncomputable def JM4(K:Kq):Sp:=λvs H Q E=>∃(a:Addr) (ns:List Int),vs=[.ref a]∧ns.length≤63∧SqL K H a (ns.map V.int)∧∀H',Q (.bl true) H'
theorem JGR{H:Hp}:∀ns:List Int,DenL B H (ns.map λi=>PyData.int i) (ns.map V.int)
 | []=>by simp only[List.map_nil,DenL]
 |n::ns=>by
  simp only[List.map_cons,DenL];exact⟨_,_,rfl,by simp only[Den],JGR ns⟩
end
structure FnIn(K:Kq)(x:Str)(st:Stmt):Prop where
 ex:∃(f:Addr) (oc:Value) (od an:Option Addr) (sl:Array (Option Value)) (kV dc pm cd ct:Value),PySem.W.nsIn K mainGlobals x=some (some (.ref f)) ∧
  K.lookup f=some ⟨oc,od,.func (PySem.W.fnOf x x (JA3 st) (JAa st) (JAB st) .none kV dc pm an cd ct),sl⟩∧PySem.W.codeIn K cd x=true∧PySem.W.keepIn K (.ref f)=true
theorem JPt{K:Kq}{x:Str}{st:Stmt}{f:Addr}{oc:Value}{od an:Option Addr}{sl:Array (Option Value)}{kV dc pm cd ct:Value}(a:PySem.W.nsIn K mainGlobals x=some (some (.ref f)))
  (l:K.lookup f=some ⟨oc,od,.func (PySem.W.fnOf x x (JA3 st) (JAa st) (JAB st) .none kV dc pm an cd ct),sl⟩) (c:PySem.W.codeIn K cd x=true) (k:PySem.W.keepIn K (.ref f)=true):FnIn K x st :=
 ⟨f,oc,od,an,sl,kV,dc,pm,cd,ct,a,l,c,k⟩
def JFL(x:Str)(st:Stmt)(ps:List Str):Prop:=∀(kV doc pm:Value) (an:Option Addr) (cdv ct:Value) (us:List Value),us.length=ps.length→bindArgs (PySem.W.fnOf x x (JA3 st) (JAa st) (JAB st) .none kV doc pm an cdv ct) ⟨us,[]⟩=pure (ps.zip us)
theorem FnIn.at{K:Kq}{h:Heap}{mg:Str→Option Value}{G:List (Str×GK)}{x:Str}{st:Stmt}{N ps:List Str}{fd:Fd}(F:FnIn K x st)(X:K.In h)(Gm:h.Ns mainGlobals mg)(b:JFL x st ps)(T:Turned G st N ps fd):DefAt K mg G x fd:=by
 obtain⟨f,oc,od,an,sl,kV,dc,pm,cd,ct,a,l,c,k⟩:=F.ex;have Fn:=JI7 (st:=st) l c k;exact⟨f,_,st,N,ps,PySem.W.mg_of X Gm a,Fn,Fn.binds b,T⟩
def AllP(P:Str→GK→Prop):List (Str×GK)→Prop
 | []=>True
 |(x,k)::r=>P x k∧AllP P r
theorem AllP.get{P:Str→GK→Prop}:∀ {G:List (Str×GK)}{x:Str}{k:GK},AllP P G→G.lookup x=some k→P x k
 | [],x,k,_,h=>by cases h
 |(y,j)::r,x,k,⟨h1,h2⟩,h=>by
  rw[List.lookup_cons]at h
  by_cases e:(x==y)=true
  · rw[e]at h
    have e':x=y:=by simpa using e
    cases h;subst e';exact h1
  · have e':(x==y)=false:=by simpa using e
    rw[e']at h;exact AllP.get h2 h
theorem JC8{o:Expr}(h:JAk o=false)(nm:Str)(env:PySem.Env)(m:Sem Value):attributeBase o nm env m=m:=by
 cases o with
 |Call f as ks p =>
  cases as with
  |nil =>
   cases ks with
   |nil=>cases h
   |cons k ks=>cases f<;>rfl
  |cons a as=>cases f<;>rfl
 |_=>rfl
section
variable{X:Cx}{B:Bs}{C:Cn}{CX:CXT}{XX:Nat→Hp→Prop}{G:List (Str×GK)}
def JPm(B:Bs)(XX:Nat→Hp→Prop):V→List V→Hp→VK→Prop:=λv vs H Q=>∃dx dy u,Den B H dx v∧vs=[u]∧Den B H dy u∧KE B XX (JDu dx dy) H Q
def JQx(B:Bs)(XX:Nat→Hp→Prop):V→List V→Hp→VK→Prop:=λv vs H Q=>∃dx dy u,Den B H dx v∧vs=[u]∧Den B H dy u∧KE B XX (JDh dx dy) H Q
theorem JJ1(g:Gk X B C CX XX G):MtR X "list.count" (JPm B XX):=by
 intro pins s σ H v vs vv us Q I rv rs ⟨dx,dy,u,hx,e,hy,k⟩;subst e;obtain⟨w,rfl,rw'⟩:=rs.one;cases dx with
 |list ds =>
  simp only[JDu]at k
  split at k
  ·rename_i hs;simp only[JB5,Bool.and_eq_true,decide_eq_true_eq]at hs;obtain⟨bs,rb⟩:=Den.reads g.K I dy u w hs.1.2 hy rw';obtain⟨as,ra⟩:=Den.reads g.K I (.list ds) v vv (by simpa only[PyData.canLay0] using hs.1.1) hx rv
   have hu:=g.units;have hm:=Nat.min_le_right (PyData.depthAll ds) dy.depth;cases ra with
   |list h1 h2 h3 h4 =>
    rename_i l o items n as';obtain⟨oc,od,oD,os⟩:=o;simp only at h2 h3;subst h2;subst h3;refine call_meets PySem.F.slot_list_count ⟨_,h1,rfl⟩ PySem.F.entry_list_count (PySem.F.args_list_count_2 _ _) (SeqAt.list_countAt l items n od os w _) ⟨h1,SeqAt.items_eqAt h4 rb hs.1.1 hs.1.2 (by omega),?_⟩
    refine⟨.int _,H,I.tok _,⟨_,rfl⟩,KE.ok k ?_⟩;simp only[Den]
    congr 2
    rw[←SeqAt.readsAll_map ds _ _ hs.1.1 h4,List.countP_map];rfl
  ·exact k.elim
 |_=>exact fF k
theorem JJR(g:Gk X B C CX XX G):MtR X "list.index" (JQx B XX):=by
 intro pins s σ H v vs vv us Q I rv rs ⟨dx,dy,u,hx,e,hy,k⟩;subst e;obtain⟨w,rfl,rw'⟩:=rs.one;cases dx with
 |list ds =>
  simp only[JDh]at k
  split at k
  ·rename_i hs;simp only[JB5,Bool.and_eq_true,decide_eq_true_eq]at hs;obtain⟨bs,rb⟩:=Den.reads g.K I dy u w hs.1.2 hy rw';obtain⟨as,ra⟩:=Den.reads g.K I (.list ds) v vv (by simpa only[PyData.canLay0] using hs.1.1) hx rv
   have hu:=g.units;have hm:=Nat.min_le_right (PyData.depthAll ds) dy.depth
   split at k
   ·rename_i j hj;have hz:ds.length≤sizeLine:=by
     simp only[Den]at hx;obtain⟨a,xs,e1,q,l⟩:=hx;obtain⟨_,_,_,z⟩:=I.list (g.K▸q);rw[DenL.len ds xs l];exact z
    cases ra with
    |list h1 h2 h3 h4 =>
     rename_i l o items n as';obtain⟨oc,od,oD,os⟩:=o;simp only at h2 h3;subst h2;subst h3;have hmap:=SeqAt.readsAll_map ds _ _ hs.1.1 h4;have hlen:items.size=ds.length:=by rw[←hmap,List.length_map,Array.length_toList]
     obtain⟨q1,q2,q3⟩:=List.findIdx?_eq_some_iff_getElem.mp hj;have get:∀m (hm:m<items.size),SeqAt.readOf s.heap items[m]=ds[m]'(by omega):=λm hm=>by
      have:(items.toList.map (SeqAt.readOf s.heap))[m]'(by simpa using hm)=ds[m]'(by omega):=by simp only[hmap]
      simpa using this
     refine call_meets PySem.F.slot_list_index ⟨_,h1,rfl⟩ PySem.F.entry_list_index (PySem.F.args_list_index_2 _ _) (SeqAt.list_indexAt l items n od os w (λy=>PyData.eqv (SeqAt.readOf s.heap y) dy) j (by omega) ?_ ?_ ?_) ⟨h1,SeqAt.items_eqAt h4 rb hs.1.1 hs.1.2 (by omega),?_⟩
     ·have:(sizeLine:Int)<2 ^ 63 - 1:=by decide
      omega
     ·simp only[get j (by omega)];exact q2
     ·intro m hm hmj;simp only[get m hm];have:=q3 m hmj;simpa using this
     ·refine⟨.int _,H,I.tok _,⟨_,rfl⟩,KE.ok k ?_⟩;simp only[Den]
   ·exact fF k
  ·exact k.elim
 |_=>exact fF k
theorem few1{a:Expr}{cp:Pos}(hs:starEach [a] X.env=[(false,eval a X.env)]):((backTo cp (starEach [a] X.env)).all (λx=>!x.1)&&(backToKw cp (keywordEach [] X.env)).all (λx=>x.1.isSome)
  && decide (([a]:List Expr).length+([]:List Keyword).length+(if ([]:List Keyword).isEmpty then 0 else 1)<30))=true:=by
 rw[hs];rfl
theorem JO5(g:Gk X B C CX XX G){o a:Expr}{x y:E}{ap cp:Pos}{m:Str}{id:String}{f:D→D→R D}(slot:Slot "list" m id)(hty:typeOf (.builtin id)=pure (.type "method_descriptor"))
  (hm:MtR X id (λv vs H Q=>∃dx dy u,Den B H dx v∧vs=[u]∧Den B H dy u∧KE B XX (f dx dy) H Q)) (ho:JAk o=false) (hl:(ap.endLine==cp.line)=true) (hx:PE X o (RE B C XX x)) (hy:PE X a (RE B C XX y)) (hs:starEach [a] X.env=[(false,eval a X.env)]) {z:E}
  (hz:∀δ,ev C z δ=(ev C x δ).bind λx=>if JNa x=true then (ev C y δ).bind λy=>f x y else .bad):PE X (.Call (.Attribute o m ap) [a] [] cp) (RE B C XX z):=by
 refine PE.imp (JEo PySem.F.plainAttrs_list slot hty hm hx (JAM hy JAi hs) (JC8 ho _ _ _) (few1 hs) hl hs rfl) λσ H Q ⟨δ,ok,h⟩=>?_;rw[hz]at h;refine RE.of (W:=λr H=>KE B XX r H Q) ok (λ_ _ z=>z) (λ_ z=>z) h λdx v H1 s1 d1 h1=>?_;cases dx with
 |list ds =>
  have d1':=d1;simp only[Den]at d1';obtain⟨l,xs,e,q,dl⟩:=d1';subst e;refine⟨.inl ⟨rfl,xs,by rw[g.K];exact q⟩,?_⟩
  refine RE.of (W:=λr H=>KE B XX r H Q) (ok.mono s1) (λ_ _ z=>z) (λ_ z=>z) (KE.mono g s1 h1) λdy u H2 s2 d2 h2=>?_;exact⟨_,_,_,Den.mono s2 _ _ d1,rfl,d2,KE.mono g s2 h2⟩
 |_=>exact fF h1
theorem JNg(g:Gk X B C CX XX G)(o a:Expr)(x y:E)(ap cp:Pos)(ho:JAk o=false)(hl:(ap.endLine==cp.line)=true)(hx:PE X o (RE B C XX x))(hy:PE X a (RE B C XX y))(hs:starEach [a] X.env=[(false,eval a X.env)]) :
  PE X (.Call (.Attribute o "count" ap) [a] [] cp) (RE B C XX (.mcount x y)) :=
 JO5 g PySem.F.slot_list_count PySem.F.type_list_count (JJ1 g) ho hl hx hy hs λδ=>by simp only[ev]
theorem JM6(g:Gk X B C CX XX G)(o a:Expr)(x y:E)(ap cp:Pos)(ho:JAk o=false)(hl:(ap.endLine==cp.line)=true)(hx:PE X o (RE B C XX x))(hy:PE X a (RE B C XX y))(hs:starEach [a] X.env=[(false,eval a X.env)]) :
  PE X (.Call (.Attribute o "index" ap) [a] [] cp) (RE B C XX (.mindex x y)) :=
 JO5 g PySem.F.slot_list_index PySem.F.type_list_index (JJR g) ho hl hx hy hs λδ=>by simp only[ev]
end
def TrAt(h:Heap)(e T:Addr)(cls:Value):Prop:=∃oe vs a0 oT ts,h.get? e=some oe∧(oe.cls=cls∧vs[0]? = some a0)∧oe.data=.fields vs∧vs[1]? = some (.ref T)∧T≠e∧h.get? T=some oT∧oT.data=.fields ts∧ts[3]? = some .none
noncomputable def CXV(P:Program)(w:World)(B:Bs):CXT:=λouter H s E e s'=>∃(ea T:Addr) (c:Nat) (H':Hp),e=.ref ea∧s'.os=s.os∧AllBare s'.gens∧Un (frs outer) [] H H' s.heap s'.heap∧HOk P w H' s'.heap ∧
 TrAt s'.heap ea T (.ref (B.cl c))∧(s.heap.get? ea=none∧H' ea=none)∧(s.heap.get? T=none∧H' T=none)∧E (.ref (B.cl c)) none H'
theorem JGu{P:Program}{w:World}{H:Hp}{h:Heap}{a:Addr}{o:HO}(x:HOk P w H h)(q:H a=some o):∃u,h.get? a=some u:=by
 have:=x a o q;cases o with
 |lst xs=>obtain⟨_,_,_,_,e⟩:=this;exact⟨_,e⟩
 |tup xs=>obtain⟨_,_,_,_,e,_⟩:=this;exact⟨_,e⟩
 |dK kvs=>obtain⟨_,_,_,_,_,_,_,e,_⟩:=this;exact⟨_,e⟩
 |dT kvs=>obtain⟨_,_,_,_,_,_,_,e,_⟩:=this;exact⟨_,e⟩
 |set S n=>obtain⟨_,_,_,_,e,_⟩:=this;exact⟨_,e⟩
 |ins C dx fs=>obtain⟨_,_,_,e,_⟩:=this;exact⟨_,e⟩
 |own y=>exact this
 |xd fs=>obtain⟨_,⟨_,_,_,e,_⟩,_⟩:=this;exact⟨_,e⟩
 |rng lo hi=>obtain⟨_,_,_,e⟩:=this;exact⟨_,e⟩
 |frz ob u=>exact⟨_,this.1⟩
 |tbl ps=>exact⟨_,this⟩
 |met f y=>exact⟨_,this⟩
 |ext φ=>exact this.2.1
theorem JKX{P:Program}{w:World}{H:Hp}{h:Heap}{a:Addr}(x:HOk P w H h)(q:h.get? a=none):H a=none:=by
 cases z:H a with
 |none=>rfl
 |some o =>
  obtain⟨u,e⟩:=JGu x z;rw[q]at e;cases e
section
variable{X:Cx}{pins:Pq}{σ:St}{H':Hp}{s1:Shared}{h2:Heap}
theorem JDb(I:Inv X pins σ H' s1)(up:s1.heap.UpToSlots h2){b:Addr}(hb:b∈frs X.stack):∃o,h2.get? b=some o∧∀vs,o.data≠.fields vs:=by
 obtain⟨_,o,ho,hd⟩:=I.stack.mem hb;obtain⟨sl,hs⟩:=up b o ho hd;exact⟨_,hs,hd⟩
theorem JHs(I:Inv X pins σ H' s1)(hex:X.ex=[]){as:List Addr}(has:∀b∈as,b∈frs X.stack∨(X.s₀.heap.get? b=none∧H' b=none)){ea:Addr}{cls a0:Value}{l:List PySem.Env}
  (fl:Heap.FlyingW (PySem.W.hideAll s1.heap as) l ea cls a0 h2) (up:s1.heap.UpToSlots h2) :
  Un X.fs [] X.H₀ H' X.s₀.heap h2∧HOk X.prog X.w H' h2∧∃T,TrAt h2 ea T cls∧X.s₀.heap.get? T=none∧H' T=none:=by
 obtain⟨st,fe,ff,oe,vs,T,oT,ts,q1,q2,q3,q4,q5,q6,q7,q8,q9⟩:=fl;have U:=I.base;rw[hex]at U;have sub:∀b∈X.fs,b∈frs X.stack:=λb hb=>by
  rcases I.ok.stk with e|⟨e,hf⟩
  · rw[e];exact hb
  · rw[e]
    unfold frs;rw[List.filterMap_cons,hf];exact List.mem_cons_of_mem _ hb
 have loc:∀b o,X.s₀.heap.get? b=some o→b ∉ X.fs→b ∉ frs X.stack:=λb o e n z=>by
  rcases List.mem_cons.mp (I.stkSub b z) with q|q
  · rw[q]at e
    exact absurd (Heap.lt_size e) (Nat.not_lt.mpr I.ok.above)
  · exact n q
 have out:∀b o,X.s₀.heap.get? b=some o→b ∉ frs X.stack→b ∉ as:=λb o e n z=>by
  rcases has b z with q|⟨q,_⟩
  · exact n q
  · rw[q]at e;cases e
 have keep:∀b o,s1.heap.get? b=some o→b ∉ as→h2.get? b=some o:=λb o e n=>st b o (PySem.W.hideAll_get _ e n);have trk:∀b o,H' b=some o→b ∉ as:=λb o e z=>by
  rcases has b z with q|⟨_,q⟩
  · rw[I.stkFree b q]at e;cases e
  · rw[q]at e;cases e
 refine⟨⟨λb o e n hf hx=>keep b o (U.keep b o e n hf hx) (out b o e (loc b o e hf)),λb o e n hf hx=>?_,U.free,λb o e hx=>?_,U.tups,U.frzs,U.tbls⟩,λa o e=>?_,T,⟨oe,vs,a0,oT,ts,q1,q2,q3,q4,q6,q7,q8,q9⟩,?_,?_⟩
 ·obtain⟨sl,e1⟩:=U.slot b o e n hf hx;obtain⟨_,o',ho',hd'⟩:=I.stack.mem (sub b hf);rw[e1]at ho';cases ho';obtain⟨sl',e2⟩:=up b _ e1 hd';exact⟨sl',e2⟩
 ·obtain⟨o',e1⟩:=U.there b o e hx
  by_cases hb:b∈frs X.stack
  · obtain⟨o2,e2,_⟩:=JDb I up hb
    exact⟨o2,e2⟩
  · exact⟨o',keep b o' e1 (out b o e hb)⟩
 ·refine(I.hok a o e).stay (λb u hb eb=>keep b u eb ?_) (λ_ q=>q) λ_ _ q=>q;rcases hb with rfl|hb
  · exact trk _ _ e
  · exact trk _ _ hb
 ·cases q:X.s₀.heap.get? T with
  |none=>rfl
  |some o =>
    exfalso;obtain⟨o',e1⟩:=U.there T o q (by simp)
    by_cases hb:T∈frs X.stack
    ·obtain⟨o2,e2,hd⟩:=JDb I up hb;rw[q7]at e2;cases e2;exact hd _ q8
    ·have:=PySem.W.hideAll_get as e1 (out T o q hb);rw[q5]at this;cases this
 ·cases q:H' T with
  |none=>rfl
  |some o =>
    exfalso;have hl:=(I.hok T o q).lt;have hn:=trk T o q;obtain⟨u,e⟩:=JGu I.hok q;have:=PySem.W.hideAll_get as e hn;rw[q5]at this;cases this
end
section
variable{P:Program}{w:World}{B:Bs}{mg:Str→Option Value}{base:Heap}{N:List Str}{qual:Str}{scope:Scope}{f:Addr}{cd:Value}{A:Around}{outer:List PySem.Env}{s:Shared}{H:Hp}{E:XK}
abbrev XXd(B:Bs)(E:XK):Nat→Hp→Prop:=λc H1=>∀H',Same H1 H'→E (.ref (B.cl c)) none H'
theorem JB4:JDo (CXV P w B) (cxOf (CXV P w B) P w B.K mg base N qual scope f cd A outer s H E) (EX B (XXd B E)):=by
 intro pins σ H1 s1 e s' I ⟨ea,T,c,H',e1,os,bare,un,hok,tr,⟨f1,f2⟩,⟨f3,f4⟩,⟨c',ec,hE⟩⟩;subst e1;have I':=I.call' (ch:=[]) os un hok bare (λb hb=>by simp at hb)
 obtain⟨oe,vs,a0,oT,ts,q1,q2,q3,q4,q6,q7,q8,q9⟩:=id tr;have fr0:∀b,s1.heap.get? b=none→s.heap.get? b=none:=λb q=>by
  cases z:s.heap.get? b with
  |none=>rfl
  |some o =>
   obtain⟨o',e2⟩:=I.base.there b o z (by simp[cxOf])
   rw[q]at e2;cases e2
 have has:∀b∈(ea::T::frs (cxOf (CXV P w B) P w B.K mg base N qual scope f cd A outer s H E).stack),b∈frs (cxOf (CXV P w B) P w B.K mg base N qual scope f cd A outer s H E).stack∨(s.heap.get? b=none∧H' b=none):=λb hb=>by
  rcases List.mem_cons.mp hb with rfl|hb
  ·exact .inr ⟨fr0 _ f1,f2⟩
  ·rcases List.mem_cons.mp hb with rfl|hb
   ·exact .inr ⟨fr0 _ f3,f4⟩
   ·exact .inl hb
 refine PySem.wpAny_leaves_onW (base:=PySem.W.hideAll s'.heap (ea::T::frs (cxOf (CXV P w B) P w B.K mg base N qual scope f cd A outer s H E).stack)) (outer:=outer) (cls:=.ref (B.cl c)) (a0:=a0) I'.ok.frames rfl
  ⟨λb o q=>PySem.W.of_hideAll _ q,PySem.W.hideAll_none _ (by simp),PySem.W.funFrames_hide I'.stack (λenv he a hf=>List.mem_cons_of_mem _ (List.mem_cons_of_mem _ (List.mem_filterMap.mpr ⟨env,he,hf⟩))),oe,vs,T,oT,ts,q1,q2,q3,q4,PySem.W.hideAll_none _ (by simp),q6,q7,q8,q9⟩ λh2 fl up=>?_
 obtain⟨u2,hok2,T2,tr2,t1,t2⟩:=JHs I' rfl has fl up;refine⟨ea,T2,c,H',rfl,?_,bare,u2,hok2,tr2,⟨fr0 _ f1,f2⟩,⟨t1,t2⟩,?_⟩
 ·exact os.trans I.os
 ·rw[ec];exact hE H' (Same.refl H')
theorem JHh:∀(outer:List PySem.Env) (H:Hp) (s:Shared) (e:Value) (s':Shared),¬CXV P w B outer H s (EX B λ_ _=>False) e s':=by
 rintro outer H s e s' ⟨ea,T,c,H',_,_,_,_,_,_,_,_,c',_,z⟩;exact z
end
abbrev bmV:List Value:=[.type "ValueError",.type "Exception",.type "BaseException",.type "object"]
theorem JMX{K:Kq}{h:Heap}{C:Addr}{bmB:List Value}{newId:String}(X:K.In h)(q:PySem.W.excIn K C bmB newId=true) :
  ∃(bm:List Value) (N:Addr) (nm qn:Str) (bs:List Value) (hdct:Bool) (sn:List Str) (sub:List Value) (ab:Bool) (col:Option Bool) (dd:Option Addr) (k0 k1 k2 k3 k5:Option Value) (mN:Str→Option Value),
   h.get? C=some (excClassObj nm qn C N bs bm hdct sn sub ab col dd k0 k1 k2 k3 k5 newId)∧h.Ns N mN∧mN "__init__"=none∧OwnTail h bmB bm:=by
 unfold PySem.W.excIn at q
 split at q
 case h_2=>cases q
 rename_i od cdat slots hlook
 split at q
 case h_2=>cases q
 rename_i C2 tl a0 a1 a2 a3 idn a5 hmro hsl;simp only[Bool.and_eq_true,beq_iff_eq,Bool.not_eq_true']at q;obtain⟨⟨⟨⟨⟨e1,e2⟩,e3⟩,e4⟩,e5⟩,e6⟩:=q;subst e1;subst e2;cases cdat with
 |mk nm bs mro ns qn hd sn sub ab col del =>
  simp only at hmro e3 e5 e6;subst hmro;subst e3;cases slots with
  |mk l =>
   simp only at hsl;subst hsl;exact⟨tl,ns,nm,qn,bs,hd,sn,sub,ab,col,od,a0,a1,a2,a3,a5,_,X _ _ hlook,.of_isNs (PySem.W.isNs_of_in X e5),PySem.W.nsMap_none_of_in X e5 e6,PySem.W.tail_of_in X e4⟩
section
variable{P:Program}{w:World}{B:Bs}{mg:Str→Option Value}{base:Heap}{N:List Str}{qual:Str}{scope:Scope}{f:Addr}{cd:Value}{A:Around}{outer:List PySem.Env}{s:Shared}{H:Hp}{E:XK}{G:List (Str×GK)}
structure Cl(mg:Str→Option Value)(B:Bs)(G:List (Str×GK)):Prop where
 mgc:∀x c,G.lookup x=some (.cls c)→mg x=some (.ref (B.cl c))
 exc:∀x c,G.lookup x=some (.cls c)→∃Bn inN bmN newId,ExcBaseFacts Bn newId inN bmN∧bmV.contains (.type Bn)=true∧PySem.W.excIn B.K (B.cl c) bmV newId=true
theorem JDj(cl:Cl mg B G)(hA:A.handled=none):JLy (cxOf (CXV P w B) P w B.K mg base N qual scope f cd A outer s H E) B G (XXd B E):=by
 intro nm c m j p1 p2 p3 pos hg hb hl pins s1 σ H1 D I hx;obtain⟨Bn,inN,bmN,newId,Fn,hBn,q⟩:=cl.exc nm c hl;obtain⟨bm,N',nm',qn,bs,hdct,sn,sub,ab,col,dd,k0,k1,k2,k3,k5,mN,hC,hN,hni,TL⟩:=JMX I.kIn q;refine wpAny_Raise_call_subU (C:=B.cl c) (nm:=nm') (q:=qn) (N:=N') (bs:=bs) (bm:=bm) (hdct:=hdct) (sn:=sn) (sub:=sub) (ab:=ab) (col:=col) (dd:=dd) (k0:=k0) (k1:=k1) (k2:=k2) (k3:=k3) (k5:=k5)
  Fn hBn PySem.F.excBase_ValueError (mN:=mN) (TL.hasType PySem.F.excBase_ValueError.hasBase) hA rfl hni (JEL I hg (cl.mgc nm c hl) ⟨rfl,?_⟩ (JAF hb).1)
 refine Calls.evalArgs_plain (Calls.spliced_cons (Calls.Constant_str (k:=j) (pos:=p2) (Calls.spliced_nil ⟨rfl,(show(1:Nat)≤sizeLine by decide),hC,hN,TL,λh' e hx'=>?_⟩)))
 have none0:s.heap.get? e=none:=by
  cases z:s.heap.get? e with
  |none=>rfl
  |some o =>
    obtain⟨o',e2⟩:=I.base.there e o z (by simp[cxOf])
    have:=hx'.new;rw[e2]at this;cases this
 refine PySem.wpAny_leaves_madeW (base:=PySem.W.hideAll s1.heap (frs (cxOf (CXV P w B) P w B.K mg base N qual scope f cd A outer s H E).stack)) (outer:=outer) I.ok.frames rfl (λb o q=>PySem.W.of_hideAll _ q)
  (PySem.W.funFrames_hide I.stack (λenv he a hf=>List.mem_filterMap.mpr ⟨env,he,hf⟩)) hx' λh2 t x1 x2 x3 x4=>?_
 obtain⟨u2,hok2,T2,tr2,t1,t2⟩:=JHs I rfl (λb hb=>.inl hb) x1 ((Heap.UpToSlots.of_keeps hx'.keeps).trans x4);exact⟨e,T2,c,H1,rfl,I.os,I.bare,u2,hok2,tr2,⟨none0,JKX I.hok hx'.new⟩,⟨t1,t2⟩,hx H1 (Same.refl H1)⟩
end
section
variable{X:Cx}{pins pins' pn:Pq}{σ:St}{H:Hp}{s:Shared}{A:Around}{xe:Value→Shared→Prop}{calm:Bool}{h2:Heap}
theorem JGp(I:Inv X pins σ H s)(hA:A.frames=X.A.frames)(hc:calm=true→A.handled=none)(hp:∀p∈pn++pins',p∈X.pn++pins):Inv (atX X A pn xe calm) pins' σ H s :=
 let ok:=I.ok
 ⟨⟨ok.mod,ok.kind,ok.glob,ok.blt,ok.above,ok.inj,ok.has,ok.cab,hc,hA.trans ok.frames,ok.stk,ok.exf,ok.bs,ok.bsz,ok.noex,ok.exfs,ok.funs,ok.frf⟩,I.os,I.bare,I.base,I.loc,I.cell,I.free,I.freeC,λp q=>I.pin p (hp p q),I.hok,I.len⟩
theorem JDp(I:Inv (atX X A pn xe calm) pins' σ H s)(hA:X.A.frames=A.frames)(hc:X.calm=true→X.A.handled=none)(hp:∀p∈X.pn++pins,p∈pn++pins'):Inv X pins σ H s :=
 let ok:=I.ok
 ⟨⟨ok.mod,ok.kind,ok.glob,ok.blt,ok.above,ok.inj,ok.has,ok.cab,hc,hA.trans ok.frames,ok.stk,ok.exf,ok.bs,ok.bsz,ok.noex,ok.exfs,ok.funs,ok.frf⟩,I.os,I.bare,I.base,I.loc,I.cell,I.free,I.freeC,λp q=>I.pin p (hp p q),I.hok,I.len⟩
theorem JIb(I:Inv X pins σ H s)(hex:X.ex=[]){as:List Addr}(has:∀b∈as,b∈frs X.stack∨(X.s₀.heap.get? b=none∧H b=none))(hpin:∀p∈X.pn++pins,p.1 ∉ as){ea:Addr}{cls a0:Value}{l:List PySem.Env}
  (fl:Heap.FlyingW (PySem.W.hideAll s.heap as) l ea cls a0 h2) (up:s.heap.UpToSlots h2) (t:Nat):Inv X pins σ H { s with heap:=h2,toks:=t }:=by
 obtain⟨u2,hok2,_⟩:=JHs I hex has fl up;obtain⟨m,hn,hl⟩:=id I.loc;have cell:∀ {c:Addr}{v:Option Value},s.heap.IsCell c v→h2.IsCell c v:=λ{c v} ⟨o,ho,hd⟩=>by
  obtain⟨sl,e⟩:=up c o ho (λvs q=>by rw[hd]at q;cases q)
  exact⟨_,e,hd⟩
 refine⟨I.ok,I.os,I.bare,by rw[hex];exact u2,⟨m,up.ns hn,λi x v e1 e2 e3=>?_⟩,λx c e=>?_,I.free,I.freeC,λp hp=>?_,hok2,I.len⟩
 ·obtain⟨u,r,q⟩:=hl i x v e1 e2 e3;refine⟨u,r,?_⟩;rcases q with q|⟨k,c,e,z⟩
  · exact .inl q
  · exact .inr ⟨k,c,e,cell z⟩
 ·obtain⟨v,z⟩:=I.cell x c e;exact⟨v,cell z⟩
 ·obtain⟨e,n,ne,nf,d⟩:=I.pin p hp;exact⟨fl.1 _ _ (PySem.W.hideAll_get _ e (hpin p hp)),n,ne,nf,d⟩
theorem JHv(I:Inv X pins σ H s){ea C:Addr}{oe:Obj}{vs:Array Value}(he:s.heap.get? ea=some oe)(hc:oe.cls=.ref C)(hd:oe.data=.fields vs)(h0:X.s₀.heap.get? ea=none)(hn:H ea=none)(hpin:∀p∈X.pn++pins,p.1≠ea) :
  Inv X pins σ (upd H ea (.ext (ExcAt ea C))) s:=by
 have hloc:ea≠X.env.locals:=λz=>by
  obtain⟨m,⟨o,es,ep,ho,hdo,_⟩,_⟩:=I.loc;rw[←z,he]at ho;cases ho;rw[hd]at hdo;cases hdo
 have hcell:∀x c,X.env.cells.lookup x=some c→c≠ea:=λx c e z=>by
  obtain⟨v,o,ho,hdo⟩:=I.cell x c e;rw[z,he]at ho;cases ho;rw[hd]at hdo;cases hdo
 have U:=I.base;refine⟨I.ok,I.os,I.bare,⟨U.keep,U.slot,λb o e n hx=>?_,U.there,λb xs e=>?_,λb o u e=>?_,λb ps e=>?_⟩,I.loc,I.cell,?_,λx c e=>?_,λp hp=>?_,λa o e=>?_,I.len⟩
 ·rw[JAI λz=>by rw[z,h0]at e;cases e]
  exact U.free b o e n hx
 ·have q:=U.tups b xs e;rw[JAI λz=>by rw[z,hn]at q;cases q]
  exact q
 ·have q:=U.frzs b o u e;rw[JAI λz=>by rw[z,hn]at q;cases q]
  exact q
 ·obtain⟨more,q⟩:=U.tbls b ps e;exact⟨more,by rw[JAI λz=>by rw[z,hn]at q;cases q];exact q⟩
 ·rw[JAI hloc.symm];exact I.free
 ·rw[JAI (hcell x c e)];exact I.freeC x c e
 ·obtain⟨e,n,ne,nf,d⟩:=I.pin p hp;exact⟨e,by rw[JAI (hpin p hp)];exact n,ne,nf,d⟩
 ·by_cases ha:a=ea
  ·subst ha;rw[JAK]at e;cases e;refine⟨⟨oe,he,hc⟩,⟨oe,he⟩,λh1 h2 ⟨o1,q1,q2⟩ k=>⟨o1,k o1 q1,q2⟩⟩
  ·rw[JAI ha]at e;have ne:∀b o,H b=some o→b≠ea:=λb o q z=>by rw[z,hn]at q;cases q
   exact(I.hok a o e).stay (λb u _ q=>q) (λb q=>by rw[JAI (ne b _ q)];exact q) λb xs q=>by rw[JAI (ne b _ q)];exact q
theorem JJB{M:Model}{A:Around}{E:Value→Shared→Prop}{i:Nat}{x:Str}{v:V}{Q:Unit→Shared→Prop}(I:Inv X pins σ H s)(hN:X.N.Nodup)(hi:X.N[i]? = some x)(hx:X.env.scope.names.lookup x=some .local)(hv:σ[i]? = some (some v))
  (h:∀s',Inv X pins (σ.set i none) H s'→Q () s'):wpAny M A (unbindName X.env x) Q E s:=by
 obtain⟨m,hn,hl⟩:=id I.loc;obtain⟨u,r,q⟩:=hl i x v hi hv (.inl hx);have hm:m x=some u:=by
  rcases q with ⟨_,q⟩|⟨k,_⟩
  · exact q
  · have hk:X.env.kindOf x=some .local:=hx
    rcases k with k|k<;>rw[hk]at k<;>cases k
 have hcls:(X.env.scope.kind==.class || (X.env.scope.kind==.module&&X.env.locals != X.env.globals))=false:=by rw[I.ok.kind];rfl
 refine wpAny_unbindName_local hx hn hm hcls λh' u' hn' hs=>h _ ?_;obtain⟨oL,_,_,hoL,_⟩:=id hn;have old:∀b o,X.s₀.heap.get? b=some o→h'.get? b=s.heap.get? b:=λb o e=>hs.2 b (Nat.ne_of_lt (Nat.lt_of_lt_of_le (Heap.lt_size e) I.ok.above));have trk:∀b o,H b=some o→b≠X.env.locals:=λb o e z=>by rw[z,I.free]at e;cases e
 have U:=I.base;refine⟨I.ok,I.os,I.bare,⟨λb o e n hb hx=>(old b o e).trans (U.keep b o e n hb hx),λb o e n hb hx=>?_,U.free,λb o e hx=>?_,U.tups,U.frzs,U.tbls⟩,⟨_,hn',λj y v' e1 e2 e3=>?_⟩,λy c e=>?_,I.free,I.freeC,λp hp=>?_,λa o e=>?_,by simpa using I.len⟩
 ·obtain⟨sl,q⟩:=U.slot b o e n hb hx;exact⟨sl,(old b o e).trans q⟩
 ·obtain⟨o',q⟩:=U.there b o e hx;exact⟨o',(old b o e).trans q⟩
 ·have hj:j≠i:=λz=>by
    subst z;have:j<σ.length:=(List.getElem?_eq_some_iff.mp hv).1;rw[List.getElem?_set_self this]at e2;cases e2
  rw[List.getElem?_set_ne (Ne.symm hj)]at e2;obtain⟨w,r',q⟩:=hl j y v' e1 e2 e3;have hne:y≠x:=λe=>hj (JEE hN e1 (e▸hi));refine⟨w,r',?_⟩;rcases q with ⟨k,e⟩|⟨k,c,e,z⟩
  · exact .inl ⟨k,by simp[hne,e]⟩
  · exact .inr ⟨k,c,e,z.sameBut hs (I.cne y c e)⟩
 ·obtain⟨w,z⟩:=I.cell y c e;exact⟨w,z.sameBut hs (I.cne y c e)⟩
 ·obtain⟨e,n,ne,nf,d⟩:=I.pin p hp;exact⟨(hs.2 p.1 ne).trans e,n,ne,nf,d⟩
 ·refine(I.hok a o e).stay (λb w hb q=>(hs.2 b ?_).trans q) (λ_ q=>q) λ_ _ q=>q;rcases hb with rfl|hb
  · exact trk _ _ e
  · exact trk _ _ hb
end
section
variable{X:Cx}{B:Bs}{C:Cn}{XX:Nat→Hp→Prop}{G:List (Str×GK)}
theorem sp_un{pins:Pq}{D:Ends}{xe:Value→Shared→Prop}{f:Flow}{s:Shared}(hc:X.calm=true→X.A.handled=none)(h:SP (atX X X.A (X.pn++pins) xe true) [] D f s):SP X pins D f s:=by
 have hp:∀p∈X.pn++pins,p∈(X.pn++pins)++[]:=λp hp=>by simpa using hp
 cases f with
 |next=>obtain⟨σ',H',I,q⟩:=h;exact⟨σ',H',JDp I rfl hc hp,q⟩
 |brk=>obtain⟨σ',H',I,q⟩:=h;exact⟨σ',H',JDp I rfl hc hp,q⟩
 |cont=>obtain⟨σ',H',I,q⟩:=h;exact⟨σ',H',JDp I rfl hc hp,q⟩
 |ret u=>obtain⟨v,σ',H',I,r,q⟩:=h;exact⟨v,σ',H',JDp I rfl hc hp,r,q⟩
theorem JPQ{CX:CXT}(g:Gk X B C CX XX G){pn:Pq}{xe:Value→Shared→Prop}{XX':Nat→Hp→Prop}(ha:∀c H H',Same H H'→XX' c H→XX' c H')(hp:JDo CX (atX X X.A pn xe true) (EX B XX')):Gk (atX X X.A pn xe true) B C CX XX' G where
 K:=g.K
 W:=g.W
 anti:=ha
 units:=g.units
 calm:=λ_=>rfl
 fn:=g.fn
 pas:=hp
 con:=g.con
 noexg:=g.noexg
 blt:=g.blt
 rng:=g.rng
 isi:=g.isi
 ty:=g.ty
 cls:=g.cls
 nam:=g.nam
 tk:=g.tk
theorem JOs{Hb H9:Hp}{σ':St}{δ:Env}{ea:Addr}{k1 i j:Nat}(hl:σ'.length=δ.length)(hj:j<δ.length)(hij:i≠j)(sm:Same Hb H9)(he:H9 ea=some (.ext (ExcAt ea (B.cl k1)))) :
  SO B Hb ((((σ'.set i (some (.ref ea))).set j (some (.ref ea))).set i (some .non)).set i none) H9 ((((δ.map λ_=>Sl.no).set i (.val (excD k1))).set j (.val (excD k1))).set i .no) (λ_=>none):=by
 refine⟨by simp[hl],sm,(λa b c e=>by cases e),λm=>?_⟩
 have hh:hid H9 (λ_=>none)=H9:=by
  funext b
  unfold hid hidP;rw[if_neg];rintro⟨i,e⟩;cases e
 by_cases hmi:m=i
 ·subst hmi
  by_cases hm:m<δ.length
  ·rw[List.getElem?_set_self (by simpa using hm)]
   rfl
  ·rw[List.getElem?_eq_none (by simp;omega)]
   rfl
 ·rw[List.getElem?_set_ne (Ne.symm hmi)]
  by_cases hmj:m=j
  ·subst hmj;rw[List.getElem?_set_self (by simpa using hj)]
   refine⟨rfl,.ref ea,?_,?_⟩
   ·rw[List.getElem?_set_ne (Ne.symm hmi),List.getElem?_set_ne (Ne.symm hmi),List.getElem?_set_self (by simp;omega)]
   ·rw[hh];unfold excD;simp only[Den];exact .inl ⟨ea,k1,rfl,rfl,he⟩
  ·rw[List.getElem?_set_ne (Ne.symm hmj),List.getElem?_set_ne (Ne.symm hmi),List.getElem?_map];cases δ[m]?<;>rfl
theorem JRX(g:Gk X B C (CXV X.prog X.w B) XX G)(hst:X.stack=X.env::X.outer)(hf:X.env.frame=some X.env.locals)(hex:X.ex=[])(hnd:X.N.Nodup)(hfn:∀nm,X.fn nm=true)(hh:X.A.handled=none)
  {body:List Stmt}{b:S}{cn en kn:Str}{c i j:Nat}{np p1 p2 p3 hpos pos:Pos}
  (hbody:∀(pn:Pq) (xe:Value→Shared→Prop) (XX':Nat→Hp→Prop),PassesOwn (model X.prog X.w) X.A X.env xe→Gk (atX X X.A pn xe true) B C (CXV X.prog X.w B) XX' G→PSs (atX X X.A pn xe true) body (RSt (atX X X.A pn xe true) B C XX' b))
  (hgl:Gl X cn) (hmc:X.mg cn=some (.ref (B.cl c))) (hbn:JAQ cn=false) (hben:JAQ en=false)
  (hsub:∀k,C.sub k c=true→PySem.W.exmOne B.K (.ref (B.cl k)) (.ref (B.cl c))=some true)
  (hi:X.N[i]? = some en) (hle:X.env.scope.names.lookup en=some .local) (hj:X.N[j]? = some kn) (hlk:Loc X.env.scope kn) (hij:i≠j) :
  PS X (.Try body [.ExceptHandler (some (.Name cn np)) (some en) [.Assign [.Name kn p1] (.Name en p2) p3] hpos] [] [] pos) (RSt X B C XX (.tryx b c i (.cons (.asg j (.var i)) .nil))):=by
 intro pins s σ H D I ⟨δ,O,Hb,hb,so,k⟩;refine wpAny_Try_except ?_;have hcal:X.calm=true→X.A.handled=none:=I.ok.hd;have hpp:∀p∈(X.pn++pins)++[],p∈X.pn++pins:=λp hp=>by simpa using hp
 have hlen:σ.length=δ.length:=so.len;have hlN:σ.length=X.N.length:=I.len;simp only[exec]at k;cases q:exec C b δ with
 |ex k1 =>
  rw[q]at k;simp only at k
  split at k
  case isFalse=>exact fF k
  rename_i hs1;have hiδ:i<δ.length:=by
    have:=(List.getElem?_eq_some_iff.mp hi).1;omega
  have hjδ:j<δ.length:=by
    have:=(List.getElem?_eq_some_iff.mp hj).1;omega
  have e0:look ((δ.map λ_=>Sl.no).set i (.val (excD k1))) i=.ok (excD k1):=by
    unfold look;rw[List.getElem?_set_self (by simpa using hiδ)]
    rfl
  have e1:after (.var i) (excD k1) ((δ.map λ_=>Sl.no).set i (.val (excD k1)))=(δ.map λ_=>Sl.no).set i (.val (excD k1)):=by
    unfold after;have:JAW (excD k1)=true:=rfl;rw[this];simp
  simp only[ev,e0,stepR,E.fresh,e1]at k;have k:∀σ H O,SO B Hb σ H ((((δ.map λ_=>Sl.no).set i (.val (excD k1))).set j (.val (excD k1))).set i .no) O→D.nx σ H:=k;refine wpAny_mono (hbody (X.pn++pins) (λe s₁=>wpAny (model X.prog X.w) X.A (noteFrame e X.env) (λ_ s₂=>wpAny (model X.prog X.w) X.A (setFlight e none) (λ_ s₃=>wpAny (model X.prog X.w) X.A (handleBy e X.env [.ExceptHandler (some (.Name cn np)) (some en) [.Assign [.Name kn p1] (.Name en p2) p3] hpos]) (SP X pins D) X.xe s₃) X.xe s₂) X.xe s₁)
    (λk H1=>k=k1∧Same Hb H1) PassesOwn.looking (JPQ g (λc H H' s ⟨a,b⟩=>⟨a,b.trans s⟩) ?_) [] s σ H ⟨λ_ _=>False,λ_ _=>False,λ_ _=>False,λ_ _=>False⟩ (JGp I rfl (λ_=>hh) hpp) ⟨δ,O,Hb,hb,so,by rw[q];exact⟨rfl,Same.refl Hb⟩⟩) (λf s₁ h₁=>?_) λ_ _ z=>z
  ·
    intro pins' σ' H1 s1 e s' I1 ⟨ea,T,c',H',ee,os,bare,un,hok,tr,⟨f1,f2⟩,⟨f3,f4⟩,⟨c2,ec,hk2,sm⟩⟩;subst ee;subst hk2;have I':=I1.call' (ch:=[]) os un hok bare (λb hb=>by simp at hb)
    have J0:Inv X pins σ' H' s':=JDp I' rfl hcal (λp hp=>List.mem_append_left _ hp);obtain⟨oe,vs,a0,oT,ts,q1,q2,q3,q4,q6,q7,q8,q9⟩:=id tr;have fr0:∀b,s1.heap.get? b=none→X.s₀.heap.get? b=none:=λb q=>by
      cases z:X.s₀.heap.get? b with
      |none=>rfl
      |some o =>
       obtain⟨o',e2⟩:=I1.base.there b o z (by show b ∉ X.ex;rw[hex];simp)
       rw[q]at e2;cases e2
    have has:∀b∈(ea::T::frs X.stack),b∈frs X.stack∨(X.s₀.heap.get? b=none∧H' b=none):=λb hb=>by
      rcases List.mem_cons.mp hb with rfl|hb
      ·exact .inr ⟨fr0 _ f1,f2⟩
      ·rcases List.mem_cons.mp hb with rfl|hb
       ·exact .inr ⟨fr0 _ f3,f4⟩
       ·exact .inl hb
    have hpin:∀p∈X.pn++pins,p.1 ∉ (ea::T::frs X.stack):=λp hp hm=>by
      obtain⟨e,n,ne,nf,d⟩:=I1.pin p (List.mem_append_left _ hp);rcases List.mem_cons.mp hm with z|hm
      ·rw[z,f1]at e;cases e
      ·rcases List.mem_cons.mp hm with z|hm
       ·rw[z,f3]at e;cases e
       ·rcases List.mem_cons.mp (J0.stkSub _ hm) with z|z
        ·exact ne z
        ·exact nf z
    have stk:=J0.stack;have fl0:Heap.FlyingW (PySem.W.hideAll s'.heap (ea::T::frs X.stack)) X.stack ea (.ref (B.cl c')) a0 s'.heap :=
      ⟨λb o q=>PySem.W.of_hideAll _ q,PySem.W.hideAll_none _ (by simp),PySem.W.funFrames_hide stk (λenv he a hf=>List.mem_cons_of_mem _ (List.mem_cons_of_mem _ (List.mem_filterMap.mpr ⟨env,he,hf⟩))),oe,vs,T,oT,ts,q1,q2,q3,q4,PySem.W.hideAll_none _ (by simp),q6,q7,q8,q9⟩
    refine PySem.wpAny_looks_onW (base:=PySem.W.hideAll s'.heap (ea::T::frs X.stack)) (outer:=X.outer) (cls:=.ref (B.cl c')) (a0:=a0) (J0.ok.frames.trans (congrArg some hst)) hf (by rw[←hst];exact fl0) λh4 held4 up4=>?_
    refine PySem.wpAny_landsW held4 λh5 fl5 up5'=>?_;have up5:=up4.trans up5';have fl5':=fl5;have J5:Inv X pins σ' H' { s' with heap:=h5 }:=JIb J0 hex has hpin fl5 up5 s'.toks
    have J5m:Inv (atX X (X.A.mark (some (.ref ea))) X.pn (λ_ _=>False) false) pins σ' H' { s' with heap:=h5 }:=JGp J5 rfl (λz=>by cases z) (λp hp=>hp)
    refine wpAny_handleBy_cons (codeAny_handlers_test (JEL J5m hgl hmc ?_ (JAF hbn).1)) (by intro q;cases q)
    obtain⟨ob,hob,hoc⟩:=fl5.there;have LT:PySem.W.Looks (model X.prog X.w) h5 (typeOf (.ref ea)) (.ref (B.cl c')):=by
      rw[←hoc];exact(PySem.W.Looks.ld hob).andThen .now
    have hex1:PySem.W.exmOne X.K (.ref (B.cl c')) (.ref (B.cl c))=some true:=by
      rw[g.K,show Value.ref (B.cl c')=Value.ref (B.cl c2) from ec];exact hsub c2 hs1
    refine(PySem.W.exm_one J5.kIn LT hex1).here (s:={ s' with heap:=h5 }) (codeAny_handlers_suite_as ?_)
    refine lands_againW (s:={ s' with heap:=h5 }) fl5 λh6 fl6 up6=>?_
    have J6:Inv X pins σ' H' { s' with heap:=h6 }:=JIb J0 hex has hpin fl6 (up5.trans up6) s'.toks
    obtain⟨_,_,_,oe6,vs6,T6,oT6,ts6,w1,⟨w2,_⟩,w3,_⟩:=id fl6;have ecl:B.cl c'=B.cl c2:=by
      have:=ec;injection this
    have J7:=JHv J6 w1 (by rw[w2,ecl]) w3 (fr0 _ f1) f2 (λp hp z=>hpin p hp (by rw[z];simp))
    refine JBu J7 hnd hi (.inl hle) (v:=.ref ea) rfl (λs8 J8'=>?_) (.inr hle);have J8:Inv (atX X (X.A.mark (some (.ref ea))) X.pn (λ_ _=>False) false) pins _ _ s8:=JGp J8' rfl (λz=>by cases z) (λp hp=>hp)
    have P1:PS (atX X (X.A.mark (some (.ref ea))) X.pn (λ_ _=>False) false) (.Assign [.Name kn p1] (.Name en p2) p3) (tAsg (tVar i) (JFc j)) :=
      JCh (i:=j) hnd hj hlk (JAh hi (.inl hle) (JAF hben).1 (JAF hben).2.1) rfl (.inl (hfn kn))
    have hiσ:i<σ'.length:=by rw[J6.len];exact(List.getElem?_eq_some_iff.mp hi).1
    refine wpAny_mono (JBf P1 pins s8 _ _ ⟨λσ9 H9=>σ9=(σ'.set i (some (.ref ea))).set j (some (.ref ea))∧H9=upd H' ea (.ext (ExcAt ea (B.cl c2))),λ_ _=>False,λ_ _=>False,λ_ _=>False⟩ J8 ⟨.ref ea,List.getElem?_set_self hiσ,rfl,rfl⟩) (λf s9 h9=>?_) λ_ _ z=>z.elim;cases f with
    |brk=>obtain⟨_,_,_,z⟩:=h9;exact z.elim
    |cont=>obtain⟨_,_,_,z⟩:=h9;exact z.elim
    |ret u=>obtain⟨_,_,_,_,_,z⟩:=h9;exact z.elim
    |next =>
      obtain⟨σ9,H9,J9,rfl,rfl⟩:=h9;have J9':Inv X pins _ _ s9:=JDp J9 rfl hcal (λp hp=>hp);show wpAny (model X.prog X.w) X.A (do bindName X.env en .none;unbindBehindTheSuite X.env en hpos) (λ_ s₃=>SP X pins D .next s₃) X.xe s9
      refine wpAny_bind (wpAny_bindName (JBu J9' hnd hi (.inl hle) (v:=.non) rfl (λs10 J10=>?_) (.inr hle)));unfold unbindBehindTheSuite;have hv:((((σ'.set i (some (V.ref ea))).set j (some (V.ref ea))).set i (some V.non)))[i]? = some (some V.non):=List.getElem?_set_self (by simpa using hiσ)
      refine wpAny_onRaise (JJB J10 hnd hi hle hv λs11 J11=>⟨_,_,J11,k _ _ _ (JOs (by rw[J6.len,←hlN,hlen]) hjδ hij (sm.trans λb o e=>?_) JAK)⟩)
      rw[JAI λz=>by rw[z,f2]at e;cases e]
      exact e
  · cases f with
    |next=>obtain⟨_,_,_,z⟩:=h₁;exact z.elim
    |brk=>obtain⟨_,_,_,z⟩:=h₁;exact z.elim
    |cont=>obtain⟨_,_,_,z⟩:=h₁;exact z.elim
    |ret u=>obtain⟨_,_,_,_,_,z⟩:=h₁;exact z.elim
 |bad=>rw[q]at k;exact fF k
 |_ =>
  rw[q]at k;refine wpAny_mono (hbody (X.pn++pins) (λ_ _=>False) (λ_ _=>False) PassesOwn.never (JPQ g (λ_ _ _ _ z=>z) λ_ _ _ _ _ _ _ z=>(JHh _ _ _ _ _ z).elim) [] s σ H D (JGp I rfl (λ_=>hh) hpp) ⟨δ,O,Hb,hb,so,by rw[q];exact k⟩) (λf s₁ h₁=>?_) λ_ _ z=>z.elim
  have h2:=sp_un hcal h₁;cases f with
  |next=>exact wpAny_execs_nil h2
  |brk=>exact h2
  |cont=>exact h2
  |ret u=>exact h2
def JPw(B:Bs)(C:Cn)(G:List (Str×GK)):Prop:=∀(X:Cx) (XX:Nat→Hp→Prop),Gk X B C (CXV X.prog X.w B) XX G→X.stack=X.env::X.outer→X.env.frame=some X.env.locals→X.ex=[]→X.N.Nodup→(∀nm,X.fn nm=true)→X.A.handled=none →
 ∀(body:List Stmt) (b:S) (cn en kn:Str) (c i j:Nat) (np p1 p2 p3 hpos pos:Pos),(∀(pn:Pq) (xe:Value→Shared→Prop) (XX':Nat→Hp→Prop),PassesOwn (model X.prog X.w) X.A X.env xe→Gk (atX X X.A pn xe true) B C (CXV X.prog X.w B) XX' G→PSs (atX X X.A pn xe true) body (RSt (atX X X.A pn xe true) B C XX' b)) →
 Gl X cn→X.mg cn=some (.ref (B.cl c))→JAQ cn=false→JAQ en=false→(∀k,C.sub k c=true→PySem.W.exmOne B.K (.ref (B.cl k)) (.ref (B.cl c))=some true)→X.N[i]? = some en→X.env.scope.names.lookup en=some .local→X.N[j]? = some kn→Loc X.env.scope kn→i≠j →
 PS X (.Try body [.ExceptHandler (some (.Name cn np)) (some en) [.Assign [.Name kn p1] (.Name en p2) p3] hpos] [] [] pos) (RSt X B C XX (.tryx b c i (.cons (.asg j (.var i)) .nil)))
theorem JRb:JPw B C G:=λX XX g h1 h2 h3 h4 h5 h6 body b cn en kn c i j np p1 p2 p3 hpos pos h7 h8 h9 h10 h11 h12 h13 h14 h15 h16 h17=>JRX g h1 h2 h3 h4 h5 h6 h7 h8 h9 h10 h11 h12 h13 h14 h15 h16 h17
end
section
variable{B:Bs}{G:List (Str×GK)}{tab:Nat→Option Fd}{glo:Nat→R D}{sub:Nat→Nat→Bool}
structure Mo(mg:Str→Option Value)(B:Bs)(G:List (Str×GK))(tab:Nat→Option Fd)(glo:Nat→R D)(sub:Nat→Nat→Bool):Prop where
 fn:∀x i,G.lookup x=some (.fn i)→∃fd,tab i=some fd∧DefAt B.K mg G x fd
 con:∀x i d,G.lookup x=some (.con i)→glo i=.ok d→∃u v,mg x=some u∧RelV v u∧∀H,Den B H d v
 noexg:∀i c,glo i≠.exc c
 blt:∀x b,G.lookup x=some (.blt b)→mg x=none
 rng:∀x,G.lookup x=some .rng→mg x=none
 isi:∀x,G.lookup x=some .isi→mg x=none
 ty:∀x t,G.lookup x=some (.ty t)→mg x=none
 nam:∀x,G.lookup x=some .nam→mg x=none
 cl:Cl mg B G
 exm:∀x c,G.lookup x=some (.cls c)→∀k,sub k c=true→PySem.W.exmOne B.K (.ref (B.cl k)) (.ref (B.cl c))=some true
structure Ra3(B:Bs)(C:Cn)(G:List (Str×GK))(P:Program)(w:World):Prop where
 ra:Rare B C (CXV P w B) G
 rr:RareS B C (CXV P w B) G
 tr:G.lookup (".try":Str)=some GK.opt→JPw B C G
def JF6(P:Program)(w:World)(B:Bs)(G:List (Str×GK))(tab:Nat→Option Fd)(glo:Nat→R D)(sub:Nat→Nat→Bool)(mg:Str→Option Value)(base:Heap)(n:Nat):Prop:=∀(y:Str) (j:Nat),G.lookup y=some (.fn j)→∃f fd ps,mg y=some (.ref f)∧PySem.W.keepIn B.K (.ref f)=true∧FnOk P w B.K mg base (CXV P w B) n f fd ps (JBF B ps.length (run true tab glo sub n j))∧Binds B.K fd ps []∧∀ds,run true tab glo sub n j ds≠.bad→ds.length=ps.length
def TkN(P:Program)(w:World)(B:Bs)(G:List (Str×GK))(tab:Nat→Option Fd)(glo:Nat→R D)(sub:Nat→Nat→Bool)(mg:Str→Option Value)(base:Heap)(n:Nat):Prop:=G.lookup ("take_plan":Str)=some GK.opt→(∃t,mg "DEEPEST"=some (.int 5 t))∧(∀x,run true tab glo sub n 900 [.str x]≠.bad→x.length≤10000000)∧(∀ds,run true tab glo sub n 900 ds≠.bad→∃x,ds=[.str x]) ∧
 ∃f fd ps,mg "take_plan"=some (.ref f)∧PySem.W.keepIn B.K (.ref f)=true∧FnOk P w B.K mg base (CXV P w B) n f fd ps (tkSp B (run true tab glo sub n 900))∧Binds B.K fd ps []
theorem JPb[Cool G]{P:Program}{w:World}(hw:w=B.w){mg:Str→Option Value}{base:Heap}(M:Mo mg B G tab glo sub)(ra:∀n,Ra3 B ⟨run true tab glo sub n,glo,sub⟩ G P w){n i:Nat}{x:Str}{f:Addr}{fo:FuncData}{st:Stmt}{N ps:List Str}{fd:Fd}
  (ih:∀(y:Str) (j:Nat),G.lookup y=some (.fn j)→∃f fd ps,mg y=some (.ref f)∧PySem.W.keepIn B.K (.ref f)=true∧FnOk P w B.K mg base (CXV P w B) n f fd ps (JBF B ps.length (run true tab glo sub n j))∧Binds B.K fd ps []∧∀ds,run true tab glo sub n j ds≠.bad→ds.length=ps.length)
  (hT:TkN P w B G tab glo sub mg base n) (F:Fun B.K x x st f fo) (T:Turned G st N ps fd) (ht:tab i=some fd):FnOk P w B.K mg base (CXV P w B) (n+1) f fo ps (JBF B ps.length (run true tab glo sub (n+1) i)):=by
 obtain⟨oc,od,kV,doc,pm,an,cdv,ct,osl,rfl,lk,hcd⟩:=F.ex;refine JIh lk hcd T.sc (λvs H Q E q=>q.1) λA outer s H vs Q E hr q=>?_;obtain⟨hl,ds,dn,q⟩:=q;have hA:A.handled=none:=hr.hd;have g:Gk (cxOf (CXV P w B) P w B.K mg base N x (JAB st) f cdv A outer s H E) B ⟨run true tab glo sub n,glo,sub⟩ (CXV P w B) (XXd B E) G:={
  K:=rfl
  W:=hw
  anti:=λc H1 H2 sm z H' s'=>z H' (sm.trans s')
  units:=by have:=hr.un;show(A.deeper _).units+200<_;omega
  calm:=λ_=>rfl
  fn:=λy j hy=>by
    obtain⟨f',fd',ps',w1,w2,w3,w4,w5⟩:=ih y j hy;exact⟨f',fd',ps',n,w1,w2,w3,hr,w4,w5⟩
  pas:=JB4
  con:=M.con
  noexg:=M.noexg
  blt:=M.blt
  rng:=M.rng
  isi:=M.isi
  ty:=M.ty
  cls:=M.cl.mgc
  nam:=M.nam
  tk:=λz=>by
    obtain⟨h1,h2,h3,f,fd,ps,h4,h5,h6,h7⟩:=hT z;exact⟨h1,h2,h3,f,fd,ps,n,h4,h5,h6,hr,h7⟩ }
 have hs:=JH1 (ra n).ra (ra n).rr 60 _ _ _ _ true g T.sc.kind rfl rfl T.sc.nd PassesOwn.leaving (λ_=>rfl) (λ_=>JDj M.cl hA)
  (λ_ hfl body b cn en kn c i j np p1 p2 p3 hpos pos hbody hgl hbn hben hlk hnd hi hle hj hlj hij =>
    (ra n).tr hfl _ _ g rfl rfl rfl hnd (λ_=>rfl) hA body b cn en kn c i j np p1 p2 p3 hpos pos hbody hgl (M.cl.mgc cn c hlk) hbn hben (λk hk=>M.exm cn c hlk k hk) hi hle hj hlj hij)
 refine⟨_,JCO hs T.comp,?_⟩;have hlen:=DenL.len ds vs dn;have hN:N.length=fd.slots:=T.slots.symm;have hpl:ps.length≤N.length:=by have:=congrArg List.length T.sc.pre;rw[List.length_take]at this;omega
 refine⟨_,_,H,Same.refl H,JHD dn rfl (by omega),?_⟩
 unfold run at q;rw[ht]at q;simp only[JF0]at q;rw[if_pos (by rw[T.par];omega)]at q
 rw[show fd.slots - fd.par=N.length - ds.length by rw[T.slots,T.par];omega]at q
 split at q
 ·rename_i r d hd
  split at hd
  · rename_i δ he
    cases hd;rw[he];exact λσ' H' O' so'=>q .non H' so'.same (by simp only[Den])
  · rename_i d' he
    cases hd;rw[he];exact λv H' sm dn'=>q v H' sm dn'
  · simp at hd
  · cases hd
 ·rename_i r c hd
  split at hd
  · cases hd
  · cases hd
  · rename_i c' he
    simp only[if_true,R.exc.injEq]at hd;subst hd;rw[he];exact q
  · cases hd
 ·exact q.elim
theorem fnsA[Cool G]{P:Program}{w:World}(hw:w=B.w){mg:Str→Option Value}{base:Heap}(M:Mo mg B G tab glo sub)(ra:∀n,Ra3 B ⟨run true tab glo sub n,glo,sub⟩ G P w)(hT:∀n,(∀m,m<n→JF6 P w B G tab glo sub mg base m)→TkN P w B G tab glo sub mg base n):∀(n m:Nat),m<n→JF6 P w B G tab glo sub mg base m
 |0,m,hm=>absurd hm (Nat.not_lt_zero m)
 |n+1,m,hm=>by
  have ih:=fnsA hw M ra hT n
  by_cases h:m<n
  ·exact ih m h
  obtain rfl:m=n:=by omega
  intro x i h;obtain⟨fd,ht,⟨f,fo,st,N,ps,e1,F,bi,T⟩⟩:=M.fn x i h;cases m with
  |zero =>
   refine⟨f,fo,ps,e1,F.kp,⟨λvs H Q E q=>q.1,λA outer s H args us vs Q E hr he hb hv h_=>?_⟩,bi,λds q=>absurd rfl q⟩;obtain⟨_,ds,_,q⟩:=h_;exact fF q
  |succ n =>
   refine⟨f,fo,ps,e1,F.kp,JPb hw M ra (ih n (by omega)) (hT n λm hm=>ih m (by omega)) F T ht,bi,λds q=>?_⟩
   obtain⟨fd',h1,h2⟩:=JIy q;rw[ht]at h1;cases h1;rw[h2,T.par]
theorem JOh[Cool G]{P:Program}{w:World}(hw:w=B.w){mg:Str→Option Value}{base:Heap}(M:Mo mg B G tab glo sub)(ra:∀n,Ra3 B ⟨run true tab glo sub n,glo,sub⟩ G P w){x:Str}{i:Nat}{f:Addr}{fo:FuncData}{st:Stmt}{N ps:List Str}{fd:Fd}
  (hT:∀n,(∀m,m<n→JF6 P w B G tab glo sub mg base m)→TkN P w B G tab glo sub mg base n) (F:Fun B.K x x st f fo) (T:Turned G st N ps fd) (ht:tab i=some fd):∀n,FnOk P w B.K mg base (CXV P w B) n f fo ps (JBF B ps.length (run true tab glo sub n i))
 |0=>⟨λvs H Q E q=>q.1,λA outer s H args us vs Q E hr he hb hv ⟨_,ds,_,q⟩=>fF q⟩
 |n+1=>JPb hw M ra (fnsA hw M ra hT (n+1) n (by omega)) (hT n λm hm=>fnsA hw M ra hT n m hm) F T ht
theorem JO0{P:Program}{w:World}{mg:Str→Option Value}{base:Heap}{f:Addr}{fd:FuncData}{ps:List Str}{n:Nat}{r:List D→R D}(F:FnOk P w B.K mg base (CXV P w B) n f fd ps (JBF B ps.length r))(hp:ps.length=1)
  (h:∀ns:List Int,ns.length≤63→r [.list (ns.map λi=>PyData.int i)]=.ok (.bool true)):FnOk P w B.K mg base CX0 n f fd ps (JM4 B.K):=by
 refine⟨λvs H Q E ⟨a,ns,e,_⟩=>by subst e;rw[hp];rfl,λA outer s H args us vs Q E hr he hb hv ⟨a,ns,e,hl,hS,k⟩=>?_⟩
 subst e;refine codeAny_mono (F.run A outer s H args us [.ref a] Q (λ_ _ _=>False) hr he hb hv ⟨by rw[hp];rfl,[.list (ns.map λi=>PyData.int i)],?_,?_⟩) λr s' z=>?_
 ·simp only[DenL];exact⟨_,_,rfl,by simp only[Den];exact⟨a,_,rfl,hS,JGR ns⟩,rfl⟩
 ·rw[h ns hl];intro v H' sm dn;simp only[Den]at dn;subst dn;exact k H'
 ·cases r with
  |ok v=>cases v<;>exact z
  |error e =>
    obtain⟨ea,T,c,H',_,_,_,_,_,_,_,_,z⟩:=z;exact z
theorem JQU[Cool G]{P:Program}{w:World}{K:Kq}{h:Heap}{mg:Str→Option Value}{cl:Nat→Addr}{fa:Addr}{st:Stmt}{N:List Str}{x:Str}{fd:Fd}{i n:Nat}
  (X:K.In h) (Gm:h.Ns mainGlobals mg) (hfa:mg "law"=some (.ref fa)) (F:FnIn K "law" st) (T:Turned G st N [x] fd) (hb:JFL "law" st [x]) (hl:G.lookup ("law":Str)=some (.fn i)) (ht:tab i=some fd)
  (M:∀base:Heap,K.In base→base.Ns mainGlobals mg→Mo mg ⟨K,cl,w⟩ G tab glo sub) (ra:∀n,Ra3 ⟨K,cl,w⟩ ⟨run true tab glo sub n,glo,sub⟩ G P w)
  (hT:∀base:Heap,K.In base→base.Ns mainGlobals mg→∀n,(∀m,m<n→JF6 P w ⟨K,cl,w⟩ G tab glo sub mg base m)→TkN P w ⟨K,cl,w⟩ G tab glo sub mg base n)
  (hbind:∀(kV doc pm:Value) (an:Option Addr) (cdv ct:Value) (s:Shared) (u:Value),BindsTo s (PySem.W.fnOf "law" "law" (JA3 st) (JAa st) (JAB st) .none kV doc pm an cdv ct) ⟨[u],[]⟩ [(x,u)])
  (ok:∀ns:List Int,ns.length≤63→run true tab glo sub n i [.list (ns.map λi=>PyData.int i)]=.ok (.bool true)) :
  ∃fo:FuncData,(∀(s:Shared) (u:Value),BindsTo s fo ⟨[u],[]⟩ [(x,u)])∧∀base:Heap,K.In base→base.Ns mainGlobals mg→FnOk P w K mg base CX0 n fa fo [x] (JM4 K):=by
 obtain⟨f,oc,od,an,sl,kV,dc,pm,cd,ct,a,l,c,k⟩:=F.ex;have e:=hfa.symm.trans (PySem.W.mg_of X Gm a);cases e;refine⟨PySem.W.fnOf "law" "law" (JA3 st) (JAa st) (JAB st) .none kV dc pm an cd ct,λs u=>hbind kV dc pm an cd ct s u,λbase kb nb=>?_⟩;have:=JOh (P:=P) (w:=w) (base:=base) (B:=⟨K,cl,w⟩) rfl (M base kb nb) ra (hT base kb nb) (JI7 (st:=st) l c k) T ht n;exact JO0 this rfl ok
end
end VI
end
section
namespace VI
open PySem PySem.Spec PyProof.Rows L2 Builtin Builtin.ObjectAttr Builtin.Getset_descriptor
structure ExcK(K:Kq)(C:Addr):Prop where
 ga:PySem.W.findIn K (.ref C) "__getattribute__"=some (some (.builtin "BaseException.__getattribute__"))
 gh:PySem.W.findIn K (.ref C) "__getattr__"=some none
 cl:PySem.W.findIn K (.ref C) "__class__"=some (some (.builtin "object.__class__"))
 ob:PySem.W.mroIn K C (.type "object")=some true
 bx:PySem.W.mroIn K C (.type "BaseException")=some true
 gt:PySem.W.specialIn K (.builtin "object.__class__") "__get__"=some (some (.builtin "getset_descriptor.__get__"))
 st:PySem.W.takesIn K (.builtin "object.__class__")=some true
section
variable{K:Kq}{a C:Addr}{prog:Program}{w:World}{A:Around}{s:Shared}
theorem JCr{M:Model}{h:Heap}(p:ExcAt a C h):PySem.W.Looks M h (typeOf (.ref a)) (.ref C):=by
 obtain⟨o,h1,h2⟩:=p;rw[←h2];exact(PySem.W.Looks.ld h1).andThen .now
theorem JIE{M:Model}{h:Heap}{nm:Str}{d g:Value}(X:K.In h)(h1:PySem.W.findIn K (.ref C) nm=some (some d))(h2:PySem.W.specialIn K d "__get__"=some (some g))(h3:PySem.W.takesIn K d=some true) :
   PySem.W.Looks M h (find (.ref a) (.ref C) nm) (.bind g d) :=
 (PySem.W.looks_findIn X h1).andThen ((show PySem.W.Looks M h (getOf (some d)) (some g) from PySem.W.looks_specialIn X h2).andThen
   ((show PySem.W.Looks M h (dataDescriptor? (some d) (some g)) (some (g,d)) from(PySem.W.looks_takesIn X h3).andThen .now).andThen (PySem.W.Looks.tag .now)))
theorem JMk{R:Result→Shared→Prop}{tp:Value}(X:K.In s.heap)(p:ExcAt a C s.heap)(hm:PySem.W.mroIn K C (.type "object")=some true)(h:R (.ok (.ret (.ref C))) s) :
  codeAny (model prog w) A (.call (.builtin "getset_descriptor.__get__") ⟨[.builtin "object.__class__",.ref a,tp],[]⟩) R s:=by
 obtain⟨hp,gs,dn,tk,os⟩:=s;have q0:=JCr (M:=model prog w) p;have q1:=PySem.W.looks_mroIn (M:=model prog w) X hm;refine codeAny_call_builtin PySem.W.KF.slot_gs.plain PySem.W.KF.entry_gs (PySem.W.KF.slot_gs.check _ _ _ _ _ _ _ _ PySem.W.KF.type_class (PySem.W.KF.args_gs _ _ _) ?_);unfold Builtin.«getset_descriptor.__get__» descrGet;rw[PySem.W.dga_obj];refine wpAny_bind (wpAny_pure ?_);unfold descrGetter descrCheckInstance descrNameAndClass isInstance;simp only[PySem.W.KF.owner_class];repeat lk
 refine⟨Code.quiet_builtin _ (by decide +kernel),codeAny_builtin PySem.W.KF.entry_class ?_⟩
 unfold Builtin.«object.__class__» shownTypeOf;repeat lk
 exact h
theorem JKa{nameV:Value}{E:Value→Shared→Prop}{Q:Unit→Shared→Prop}(F:ExcK K C)(X:K.In s.heap)(p:ExcAt a C s.heap)(h:Q () s):wpAny (model prog w) A (checkBuiltinCall "BaseException.__getattribute__" ⟨[.ref a,nameV],[]⟩) Q E s:=by
 obtain⟨hp,gs,dn,tk,os⟩:=s;have q:PySem.W.Looks (model prog w) hp (isInstance (.ref a) (.type "BaseException")) true:=(JCr p).andThen (PySem.W.looks_mroIn X F.bx);have k1:builtinKind "BaseException.__getattribute__"=some .slot:=by decide +kernel
 have k2:splitId "BaseException.__getattribute__"=some ("BaseException","__getattribute__"):=by decide +kernel
 have ha:=PySem.F.args_bexc_ga (.ref a) nameV;simp only[checkBuiltinCall,k1,k2];refine wpAny_bind (q.at ?_)
 repeat (first|exact h|wp_step)
theorem JIK{E:Value→Shared→Prop}{Q:Option Value→Shared→Prop}(F:ExcK K C)(X:K.In s.heap)(p:ExcAt a C s.heap)(h:Q (some (.ref C)) { s with toks:=s.toks+1 }) :
  wpAny (model prog w) A (getAttr? (.ref a) "__class__") Q E s:=by
 obtain⟨hp,gs,dn,tk,os⟩:=s;have q0:=JCr (M:=model prog w) p;have q1:=PySem.W.looks_findIn (M:=model prog w) X F.ga;have q2:=PySem.W.looks_findIn (M:=model prog w) X F.gh;have q3:=JIE (M:=model prog w) (a:=a) X F.cl F.gt F.st;have B:=PySem.F.attr_ValueError.ga;unfold getAttr? getAttrBy? getAttrBy;refine wpAny_bind (wpAny_mkText (wpAny_bind (wpAny_attempt (wpAny_holding (wpAny_bind (q0.at (wpAny_bind (q1.at ?_))))))));show wpAny _ _ (getAttrByItsOwn _ _ _ _ _ _) _ _ _;refine wpAny_bind (q2.at (wpAny_bind (wpAny_attempt (wpAny_holding ?_))));show wpAny _ _ (boundAndCalled _ _ _) _ _ _;unfold boundAndCalled;rw[B.bind];refine wpAny_bind (wpAny_pure (wpAny_call (codeAny_call_builtin B.plain PySem.F.entry_bexc_ga (JKa F X p ?_))));refine wpAny_bind (wpAny_pure (wpAny_bind (wpAny_pure (wpAny_bind (q0.at (wpAny_bind (q3.at ?_)))))));show wpAny _ _ (holding [Value.builtin "object.__class__"] (call (.builtin "getset_descriptor.__get__") [Value.builtin "object.__class__",.ref a,.ref C]) >>= ret) _ _ _;refine wpAny_bind (wpAny_holding (wpAny_call (JMk X p F.ob (wpAny_pure ?_))));show wpAny _ _ (handedOut (.ref C)) _ _ _;exact PySem.W.handed_on rfl (wpAny_pure h)
theorem JGv(F:ExcK K C):PySem.W.KitX K (.ref a) (.ref C) (ExcAt a C) where
 ty:=λM h _ p=>JCr p
 it:=λM h X _=>by
  obtain⟨cd,e1,_⟩:=Option.bind_eq_some_iff.mp F.ob;unfold PySem.W.clsIn at e1
  split at e1
  ·rename_i ho;intro A' Q' E' s' k q;unfold isType loadHead;exact wpAny_bind (wpAny_loadPart (k _ _ (X _ _ ho)) (wpAny_pure q))
  ·cases e1
 ne:=λh tp dd its n sl X ht=>by
  obtain⟨cd,e1,_⟩:=Option.bind_eq_some_iff.mp F.ob;refine Bool.eq_false_iff.mpr λq=>?_;have e:C=tp:=Value.ref.inj (beq_iff_eq.mp q);subst e;unfold PySem.W.clsIn at e1
  split at e1
  ·rename_i ho;have z:=(X _ _ ho).symm.trans ht;cases z
  ·cases e1
 ca:=λX p k=>JIK F X p k
end
noncomputable def nmOf:Ty→String
 |.int=>"int"
 |.bool=>"bool"
 |.str=>"str"
 |.list=>"list"
 |.tuple=>"tuple"
 |.dict=>"dict"
 |.valueError=>"ValueError"
 |.own _=>""
theorem JM9{ty:Ty}{t:Str}(h:JBD ty=some t):bootBuiltins t=some (.type (nmOf ty)):=by
 cases ty<;>simp only[JBD,Option.some.injEq,reduceCtorEq]at h<;>subst h<;>boot_by_name
section
variable{K:Kq}
theorem JQa{ty:Ty}(h:(JBD ty).isSome=true):PySem.W.kitOne K (.type "NoneType") (.type (nmOf ty))=some false:=by
 cases ty<;>first|(cases h;done)|kernel_rfl
theorem JNb{ty:Ty}(h:(JBD ty).isSome=true):PySem.W.kitOne K (.type "bool") (.type (nmOf ty))=some (ty==.int || ty==.bool):=by
 cases ty<;>first|(cases h;done)|kernel_rfl
theorem JRZ{ty:Ty}(h:(JBD ty).isSome=true):PySem.W.kitOne K (.type "int") (.type (nmOf ty))=some (ty==.int):=by
 cases ty<;>first|(cases h;done)|kernel_rfl
theorem JQw{ty:Ty}(h:(JBD ty).isSome=true):PySem.W.kitOne K (.type "str") (.type (nmOf ty))=some (ty==.str):=by
 cases ty<;>first|(cases h;done)|kernel_rfl
theorem JNG{ty:Ty}(h:(JBD ty).isSome=true):PySem.W.kitOne K (.type "list") (.type (nmOf ty))=some (ty==.list):=by
 cases ty<;>first|(cases h;done)|kernel_rfl
theorem JKY{ty:Ty}(h:(JBD ty).isSome=true):PySem.W.kitOne K (.type "tuple") (.type (nmOf ty))=some (ty==.tuple):=by
 cases ty<;>first|(cases h;done)|kernel_rfl
theorem ko_of{C:Addr}{T:String}(h:PySem.W.kitOne K (.type "NoneType") (.ref C)=some false)(hs:PySem.W.subIn K (.type T) (.ref C)=some false):PySem.W.kitOne K (.type T) (.ref C)=some false:=by
 have n1:∀T:String,((Value.type T)==Value.ref C)=false:=λT=>rfl;unfold PySem.W.kitOne PySem.W.kitCls at h ⊢;rw[n1]at h ⊢;simp only[Bool.false_eq_true,if_false]at h ⊢
 split at h
 ·rename_i z;rw[if_pos z];exact hs
 ·cases h
theorem JNs{C:Addr}:PySem.W.subIn K (.type "bool") (.ref C)=some false:=by kernel_rfl
theorem JQv{C:Addr}:PySem.W.subIn K (.type "int") (.ref C)=some false:=by kernel_rfl
theorem JPJ{C:Addr}:PySem.W.subIn K (.type "str") (.ref C)=some false:=by kernel_rfl
theorem JNe{C:Addr}:PySem.W.subIn K (.type "list") (.ref C)=some false:=by kernel_rfl
theorem JKP{C:Addr}:PySem.W.subIn K (.type "tuple") (.ref C)=some false:=by kernel_rfl
end
structure Isi(B:Bs)(G:List (Str×GK))(sub:Nat→Nat→Bool):Prop where
 own:∀x c,G.lookup x=some (.cls c)→PySem.W.kitOne B.K (.type "NoneType") (.ref (B.cl c))=some false
 exc:∀k,sub k k=true→ExcK B.K (B.cl k)∧PySem.W.kitOne B.K (.ref (B.cl k)) (.type "ValueError")=some true
 rel:∀k,sub k k=true→∀x c,G.lookup x=some (.cls c)→PySem.W.kitOne B.K (.ref (B.cl k)) (.ref (B.cl c))=some (sub k c)
section
variable{X:Cx}{B:Bs}{C:Cn}{CX:CXT}{XX:Nat→Hp→Prop}{G:List (Str×GK)}
def TyV(B:Bs)(G:List (Str×GK))(ty:Ty)(v:V):Prop:=((JBD ty).isSome=true∧v=.ty (nmOf ty))∨∃x c,ty=.own c∧G.lookup x=some (.cls c)∧v=.ref (B.cl c)
theorem JKc(I0:Isi B G C.sub)(g:Gk X B C CX XX G)(ty:Ty):CallR X (.builtin "isinstance") (λvs H Q=>∃d v1 v2,vs=[v1,v2]∧Den B H d v1∧TyV B G ty v2∧KE B XX (isiD C.sub d ty) H Q):=by
 intro pins s σ H vs us Q I r ⟨d,v1,v2,e,dn,tv,k⟩;subst e;obtain⟨u1,us',rfl,r1,rs⟩:∃u1 us',us=u1::us'∧RelV v1 u1∧Vals [v2] us':=by cases r;exact⟨_,_,rfl,‹_›,‹_›⟩
 obtain⟨u2,rfl,r2⟩:=rs.one;have KI:B.K.In s.heap:=g.K▸I.kIn;have fin:∀ {x t:Value}{Hh:Heap→Prop}{b:Bool},PySem.W.KitX B.K x t Hh→Hh s.heap→isiD C.sub d ty=.ok (.bool b)→x=u1→x≠.builtin "__main__.__loader__#opaque"→PySem.W.kitOne B.K t u2=some b→wpAny (model X.prog X.w) X.A (call (.builtin "isinstance") [u1,u2]) (EP X pins σ Q) X.xe s:=by
  intro x t Hh b Z p e hx hne e2;subst hx;rw[e]at k;exact PySem.W.kia_one Z KI p e2 hne λtk=>⟨.bl b,H,I.tok tk,rfl,KE.ok k (by simp only[Den])⟩
 have u2e:∀(T:String) (f:Ty→Bool),((JBD ty).isSome=true→PySem.W.kitOne B.K (.type T) (.type (nmOf ty))=some (f ty))→(∀c,f (.own c)=false)→(∀c,PySem.W.subIn B.K (.type T) (.ref c)=some false)→PySem.W.kitOne B.K (.type T) u2=some (f ty):=by
  intro T f h1 h2 h3;rcases tv with ⟨t1,rfl⟩|⟨x,c,rfl,hl,rfl⟩
  ·cases r2;exact h1 t1
  ·cases r2;rw[h2];exact ko_of (I0.own x c hl) (h3 _)
 cases d with
 |none =>
  simp only[Den]at dn;subst dn;cases r1;refine fin PySem.W.kitx_none trivial rfl rfl (by intro q;cases q) (u2e "NoneType" (λ_=>false) (λh=>JQa h) (λ_=>rfl) λc=>?_)
  kernel_rfl
 |bool b =>
  simp only[Den]at dn;subst dn;cases r1;exact fin PySem.W.kitx_bool trivial rfl rfl (by intro q;cases q) (u2e "bool" (λty=>ty==.int || ty==.bool) (λh=>JNb h) (λ_=>rfl) λc=>JNs)
 |int b =>
  simp only[Den]at dn;subst dn;obtain⟨t,rfl⟩:=r1;exact fin PySem.W.kitx_int trivial rfl rfl (by intro q;cases q) (u2e "int" (λty=>ty==.int) (λh=>JRZ h) (λ_=>rfl) λc=>JQv)
 |str b =>
  simp only[Den]at dn;subst dn;obtain⟨t,rfl⟩:=r1;exact fin PySem.W.kitx_str trivial rfl rfl (by intro q;cases q) (u2e "str" (λty=>ty==.str) (λh=>JQw h) (λ_=>rfl) λc=>JPJ)
 |list b =>
  simp only[Den]at dn;obtain⟨l,xs,rfl,q,_⟩:=dn;cases r1;obtain⟨its,_,⟨o,n,e1,e2,_⟩,_⟩:=I.list (g.K▸q);exact fin PySem.W.kitx_list ⟨o,e1,e2⟩ rfl rfl (by intro q;cases q) (u2e "list" (λty=>ty==.list) (λh=>JNG h) (λ_=>rfl) λc=>JNe)
 |tuple b =>
  simp only[Den]at dn;obtain⟨l,xs,rfl,q,_⟩:=dn;cases r1;obtain⟨its,_,⟨o,e1,e2,_⟩,_⟩:=I.tuple (g.K▸q);exact fin PySem.W.kitx_tuple ⟨o,e1,e2⟩ rfl rfl (by intro q;cases q) (u2e "tuple" (λty=>ty==.tuple) (λh=>JKY h) (λ_=>rfl) λc=>JKP)
 |dict kvs =>
  simp only[Den]at dn;rcases dn with ⟨l,c,rfl,rfl,q⟩|⟨l,xs,rfl,q,dk⟩
  ·cases r1;simp only[isiD,Int.toNat_natCast]at k fin
   by_cases hk:C.sub c c=true
   ·rw[if_pos hk]at k fin;have p:ExcAt l (B.cl c) s.heap:=by
     have:=I.hok l _ q;exact this.1
    rcases tv with ⟨t1,rfl⟩|⟨x,e,rfl,hl,rfl⟩
    ·cases r2;cases ty with
     |valueError=>exact fin (JGv (I0.exc c hk).1) p rfl rfl (by intro q;cases q) (I0.exc c hk).2
     |own e=>cases t1
     |_=>exact fF k
    ·cases r2;exact fin (JGv (I0.exc c hk).1) p rfl rfl (by intro q;cases q) (I0.rel c hk x e hl)
   ·rw[if_neg hk]at k;exact fF k
  ·cases kvs with
   |nil=>exact fF k
   |cons p r =>
    obtain⟨p1,p2⟩:=p;simp only[DenK]at dk;obtain⟨_,_,_,_,rfl,_⟩:=dk;exact fF k
theorem r_isi(I0:Isi B G C.sub)(g:Gk X B C CX XX G)(a:Expr)(x:E)(t:Str)(ty:Ty)(p pt pos:Pos)(h1:Gl X "isinstance")(h2:Gl X t)(h3:G.lookup ("isinstance":Str)=some GK.isi)
  (h4:G.lookup t=some (.ty ty)∧JBD ty=some t∨∃c,ty=.own c∧G.lookup t=some (.cls c)) (h5:JAQ t=false) (ha:PE X a (RE B C XX x)) (hs:starEach [a,.Name t pt] X.env=(false,eval a X.env)::starEach [.Name t pt] X.env) :
  PE X (.Call (.Name "isinstance" p) [a,.Name t pt] [] pos) (RE B C XX (.isi x ty)):=by
 have hst:starEach [.Name t pt] X.env=[(false,eval (.Name t pt) X.env)]:=rfl;obtain⟨v2,tv,hn⟩:∃v2,TyV B G ty v2∧PE X (.Name t pt) (tC v2):=by
  rcases h4 with ⟨e1,e2⟩|⟨c,rfl,e1⟩
  · exact⟨_,.inl ⟨by rw[e2];rfl,rfl⟩,JMf h2 (g.ty t ty e1) (JM9 e2) rfl (JAF h5).2.2 (JAF h5).1⟩
  · exact⟨_,.inr ⟨t,c,rfl,e1,rfl⟩,JFr h2 (g.cls t c e1) rfl (JAF h5).1⟩
 refine PE.imp (JEQ (JKc I0 g ty) h1 (g.isi _ h3) (by boot_by_name) (JAM ha (JAM hn JAi hst) hs) (by decide) (by decide) hs (by rw[hst];rfl)) ?_
 rintro σ H Q ⟨δ,ok,kk⟩;simp only[ev]at kk;refine RE.of (W:=λr H=>KE B XX r H Q) ok (λ_ _ z=>z) (λ_ z=>z) kk λd v H1 s1 d1 h1=>?_;exact⟨d,v,v2,rfl,d1,tv,KE.mono g s1 h1⟩
end
end VI
end
section
namespace VI
open PySem PySem.Spec PyProof.Rows L2
theorem JNx{B:Bs}{C:Cn}{G:List (Str×GK)}{P:Program}{w:World}(I0:Isi B G C.sub)
  (mn:G.lookup ("min":Str)=some (.blt .min)→∀(X:Cx) (XX:Nat→Hp→Prop),Gk X B C (CXV P w B) XX G→CallR X (.builtin "min") (λvs H Q=>∃ds,DenL B H ds vs∧KE B XX (bltD .min ds) H Q))
  (dc:G.lookup (".dct":Str)=some GK.opt→∀(X:Cx) (XX:Nat→Hp→Prop),Gk X B C (CXV P w B) XX G→∀(n:Nat) (names:Nq) (N:List Str) (ks:List (Option Expr)) (vs:List Expr) (xs:List Str) (x:E) (pos:Pos),(∀e x,JAN G n false names N e=some x→PE X e (RE B C XX x)) →
    strKeys ks=some xs→1≤xs.length→xs.length≤15→xs.length=vs.length→xs.Nodup→JAH (JAN G n false names N) vs=some x→PE X (.Dict ks vs pos) (RE B C XX (.dct xs x)))
  (xo:∀k:XO,G.lookup k.flag=some GK.opt→XOk B C (CXV P w B) G k)
  (rp:G.lookup (".rep":Str)=some GK.opt→∀(X:Cx) (XX:Nat→Hp→Prop),Gk X B C (CXV P w B) XX G→∀(es:List Expr) (x:E) (k:Int) (j:Nat) (p p2 pos:Pos),PA X es (RA B C XX x)→cnt x≤1000→0≤k→k≤1000→PE X (.BinOp (.List es p) .Mult (.Constant (.int k) j p2) pos) (RE B C XX (.rep k.toNat x))) (dp:G.lookup (".dict":Str)=some GK.opt→DOk B C (CXV P w B) G) (tp:G.lookup (".txt":Str)=some GK.opt→TOk B C (CXV P w B) G) (ro:RO B C (CXV P w B) G):Rare B C (CXV P w B) G where
 nox:=λouter H s e s'=>JHh outer H s e s'
 isi:=λX XX g a x t ty p pt pos h1 h2 h3 h4 h5 h6 h7=>r_isi I0 g a x t ty p pt pos h1 h2 h3 h4 h5 h6 h7
 min:=mn
 dct:=dc
 rep:=rp
 xop:=xo
 dop:=dp
 top:=tp
 ro:=ro
theorem nofl{P:Prop}{l:Option GK}{x:GK}(h:l=none)(z:l=some x):P:=by rw[h]at z;cases z
section
variable{B:Bs}{C:Cn}{CX:CXT}{G:List (Str×GK)}
theorem JRG[Cool G](_:G.lookup ("all":Str)=some (.blt .all))(X:Cx)(XX:Nat→Hp→Prop)(g:Gk X B C CX XX G):CallR X (.builtin "all") (λvs H Q=>∃ds,DenL B H ds vs∧KE B XX (bltD .all ds) H Q):=JIQ g
end
theorem x_no{B:Bs}{C:Cn}{CX:CXT}{G:List (Str×GK)}{k:XO}(h:G.lookup k.flag=none)(z:G.lookup k.flag=some GK.opt):XOk B C CX G k:=by rw[h]at z;cases z
theorem JNC{B:Bs}{C:Cn}{G:List (Str×GK)}{P:Program}{w:World}(I0:Isi B G C.sub)(h1:G.lookup ("min":Str)=none)(h2:G.lookup (".dct":Str)=none)(h3:G.lookup (".rep":Str)=none)(dp:G.lookup (".dict":Str)=some GK.opt→DOk B C (CXV P w B) G)(tp:G.lookup (".txt":Str)=some GK.opt→TOk B C (CXV P w B) G)(xo:∀k:XO,G.lookup k.flag=some GK.opt→XOk B C (CXV P w B) G k)(ro:RO B C (CXV P w B) G):Rare B C (CXV P w B) G :=
 JNx I0 (λz=>by rw[h1]at z;cases z) (λz=>by rw[h2]at z;cases z) xo (λz=>by rw[h3]at z;cases z) dp tp ro
theorem d_no{B:Bs}{C:Cn}{CX:CXT}{G:List (Str×GK)}(h:G.lookup (".dict":Str)=none)(z:G.lookup (".dict":Str)=some GK.opt):DOk B C CX G:=by rw[h]at z;cases z
def allN:Nat→(List Value→Prop)→Prop
 |0,P=>P []
 |n+1,P=>∀a,allN n λr=>P (a::r)
theorem JHy:∀ {n:Nat}{P:List Value→Prop},allN n P→∀us:List Value,us.length=n→P us
 |0,P,h,us,e=>by rw[List.length_eq_zero_iff.mp e];exact h
 |n+1,P,h,us,e=>by
  cases us with
  |nil=>cases e
  |cons a r=>exact JHy (h a) r (by simpa using e)
theorem bOk{x:Str}{st:Stmt}{ps:List Str}(h:allN ps.length λus=>∀(kV doc pm:Value) (an:Option Addr) (cdv ct:Value),bindArgs (PySem.W.fnOf x x (JA3 st) (JAa st) (JAB st) .none kV doc pm an cdv ct) ⟨us,[]⟩=pure (ps.zip us)):JFL x st ps :=
 λkV doc pm an cdv ct us hl=>JHy h us hl kV doc pm an cdv ct
theorem fnI{K:Kq}{x:Str}{st:Stmt}(f c:Addr)(pm:Value)(a:PySem.W.nsIn K mainGlobals x=some (some (.ref f)):=by kernel_rfl)
 (l:K.lookup f=some ⟨.type "function",none,.func (PySem.W.fnOf x x (JA3 st) (JAa st) (JAB st) .none .none .none pm none (.ref c) .none),#[]⟩:=by kernel_rfl) (cc:PySem.W.codeIn K (.ref c) x=true:=by kernel_rfl) (k:PySem.W.keepIn K (.ref f)=true:=by kernel_rfl):FnIn K x st:=JPt a l cc k
theorem tuI{G:List (Str×GK)}{st:Stmt}{N ps:List Str}{fd:Fd}(c:JAZ (JCQ G 60 true (JAB st).names N) (JAa st)=some fd.body:=by kernel_rfl)
 (s:FnScope N ps (JAB st):=by exact⟨rfl,rfl,rfl,by decide +kernel,rfl,by decide +kernel,by decide +kernel⟩) (p:fd.par=ps.length:=by rfl) (l:fd.slots=N.length:=by rfl):Turned G st N ps fd:=⟨c,s,p,l⟩
theorem dI{K:Kq}{h:Heap}{mg:Str→Option Value}{G:List (Str×GK)}{x:Str}{fd:Fd}(X:K.In h)(Gm:h.Ns mainGlobals mg)(f c:Addr)(pm:Value)(st:Stmt)(N ps:List Str)(b:allN ps.length λus=>∀(kV doc pm:Value) (an:Option Addr) (cdv ct:Value),bindArgs (PySem.W.fnOf x x (JA3 st) (JAa st) (JAB st) .none kV doc pm an cdv ct) ⟨us,[]⟩=pure (ps.zip us))(a:PySem.W.nsIn K mainGlobals x=some (some (.ref f)):=by kernel_rfl)(l:K.lookup f=some ⟨.type "function",none,.func (PySem.W.fnOf x x (JA3 st) (JAa st) (JAB st) .none .none .none pm none (.ref c) .none),#[]⟩:=by kernel_rfl)(cc:PySem.W.codeIn K (.ref c) x=true:=by kernel_rfl)(k:PySem.W.keepIn K (.ref f)=true:=by kernel_rfl)(t:JAZ (JCQ G 60 true (JAB st).names N) (JAa st)=some fd.body:=by kernel_rfl)(s:FnScope N ps (JAB st):=by exact⟨rfl,rfl,rfl,by decide +kernel,rfl,by decide +kernel,by decide +kernel⟩)(p:fd.par=ps.length:=by rfl)(z:fd.slots=N.length:=by rfl):DefAt K mg G x fd:=(JPt a l cc k:FnIn K x st).at X Gm (bOk b) ⟨t,s,p,z⟩
noncomputable def JEI(rs:List (Nat×List Nat))(k c:Nat):Bool:=match rs.lookup k with
 |some l=>l.contains c
 |none=>false
def AllR(P:Nat→List Nat→Prop):List (Nat×List Nat)→Prop
 | []=>True
 |(k,l)::r=>P k l∧AllR P r
theorem AllR.get{P:Nat→List Nat→Prop}:∀ {rs:List (Nat×List Nat)}{k:Nat}{l:List Nat},AllR P rs→rs.lookup k=some l→P k l
 | [],k,l,_,h=>by cases h
 |(j,m)::r,k,l,⟨h1,h2⟩,h=>by
  rw[List.lookup_cons]at h
  by_cases e:(k==j)=true
  · rw[e]at h
    have e':k=j:=by simpa using e
    cases h;subst e';exact h1
  · have e':(k==j)=false:=by simpa using e
    rw[e']at h;exact AllR.get h2 h
structure ClIn(K:Kq)(x:Str)(C:Addr):Prop where
 ns:PySem.W.nsIn K mainGlobals x=some (some (.ref C))
 ex:PySem.W.excIn K C bmV "ValueError.__new__"=true
 ty:PySem.W.kitOne K (.type "NoneType") (.ref C)=some false
structure RaIn(K:Kq)(C:Addr):Prop where
 k:ExcK K C
 v:PySem.W.kitOne K (.ref C) (.type "ValueError")=some true
def JKO(K:Kq)(C D:Addr)(b:Bool):Prop:=PySem.W.kitOne K (.ref C) (.ref D)=some b∧(b=true→PySem.W.exmOne K (.ref C) (.ref D)=some true)
theorem JQ4{K:Kq}{C D:Addr}(h:PySem.W.kitOne K (.ref C) (.ref D)=some true)(h2:PySem.W.exmOne K (.ref C) (.ref D)=some true):JKO K C D true:=⟨h,λ_=>h2⟩
theorem JHL{K:Kq}{C D:Addr}(h:PySem.W.kitOne K (.ref C) (.ref D)=some false):JKO K C D false:=⟨h,λz=>by cases z⟩
section
variable{B:Bs}{G:List (Str×GK)}{tab:Nat→Option Fd}{glo:Nat→R D}{rs:List (Nat×List Nat)}{mg:Str→Option Value}
def MoP(mg:Str→Option Value)(B:Bs)(G:List (Str×GK))(tab:Nat→Option Fd)(glo:Nat→R D)(x:Str):GK→Prop
 |.fn i=>∃fd,tab i=some fd∧DefAt B.K mg G x fd
 |.con i=>∀d,glo i=.ok d→∃u v,mg x=some u∧RelV v u∧∀H,Den B H d v
 |.blt _=>mg x=none
 |.rng=>mg x=none
 |.isi=>mg x=none
 |.ty _=>mg x=none
 |.nam=>mg x=none
 |.cls c=>ClIn B.K x (B.cl c)∧mg x=some (.ref (B.cl c))
 |.opt=>True
def RaP(B:Bs)(G:List (Str×GK))(k:Nat)(l:List Nat):Prop:=RaIn B.K (B.cl k)∧AllP (λ_ gk=>match gk with
 |.cls c=>JKO B.K (B.cl k) (B.cl c) (l.contains c)
 |_=>True) G
theorem JCe{k c:Nat}(h:JEI rs k c=true):∃l,rs.lookup k=some l∧l.contains c=true:=by
 unfold JEI at h
 split at h
 ·rename_i l e;exact⟨l,e,h⟩
 ·cases h
theorem JLT(hr:AllR (RaP B G) rs){x:Str}{k c:Nat}{l:List Nat}(hx:G.lookup x=some (.cls c))(hk:rs.lookup k=some l):JKO B.K (B.cl k) (B.cl c) (l.contains c):=(hr.get hk).2.get hx
theorem JQP(h:AllP (MoP mg B G tab glo) G)(hr:AllR (RaP B G) rs):Isi B G (JEI rs) where
 own:=λx c e=>(h.get e).1.ty
 exc:=λk hk=>by
  obtain⟨l,e,_⟩:=JCe hk;exact⟨(hr.get e).1.k,(hr.get e).1.v⟩
 rel:=λk hk x c e=>by
  obtain⟨l,el,_⟩:=JCe hk;have:JEI rs k c=l.contains c:=by unfold JEI;rw[el]
  rw[this];exact(JLT hr e el).1
theorem JOA(h:AllP (MoP mg B G tab glo) G)(hr:AllR (RaP B G) rs)(hg:∀i c,glo i≠.exc c):Mo mg B G tab glo (JEI rs) where
 fn:=λx i e=>h.get e
 con:=λx i d e q=>h.get e d q
 noexg:=hg
 blt:=λx b e=>h.get e
 rng:=λx e=>h.get e
 isi:=λx e=>h.get e
 ty:=λx t e=>h.get e
 nam:=λx e=>h.get e
 cl:=⟨λx c e=>(h.get e).2,λx c e=>⟨_,_,_,_,PySem.F.excBase_ValueError,by decide,(h.get e).1.ex⟩⟩
 exm:=λx c e k hk=>by
  obtain⟨l,el,hc⟩:=JCe hk;exact(JLT hr e el).2 hc
end
noncomputable def conV:Value→Option D
 |.none=>some .none
 |.bool b=>some (.bool b)
 |.int i _=>some (.int i)
 |.str x _=>some (.str x)
 |_=>none
theorem JKA{B:Bs}{u:Value}{d:D}(h:conV u=some d):∃v,RelV v u∧∀H,Den B H d v:=by
 cases u<;>simp only[conV,Option.some.injEq,reduceCtorEq]at h<;>subst h
 ·exact⟨.non,rfl,λH=>by simp only[Den]⟩
 ·exact⟨.bl _,rfl,λH=>by simp only[Den]⟩
 ·exact⟨.int _,⟨_,rfl⟩,λH=>by simp only[Den]⟩
 ·exact⟨.str _,⟨_,rfl⟩,λH=>by simp only[Den]⟩
inductive EntOk(B:Bs)(w:World):List DictEntry→List (D×D)→Prop
 |nil:EntOk B w [] []
 |cons {en:DictEntry}{x:Str}{t:Tok}{d:D}{es:List DictEntry}{kvs:List (D×D)}:en.key=.str x t→en.hash=hashStr w x→(∃v,RelV v en.val∧∀H,Den B H d v)→EntOk B w es kvs→EntOk B w (en::es) ((.str x,d)::kvs)
theorem EntOk.den{B:Bs}{w:World}{es:List DictEntry}{kvs:List (D×D)}(h:EntOk B w es kvs):∃ks:List (Key×V),(∀H,DenK B H kvs ks)∧∀P:Program,∃rs:List (Key×Value),KV ks rs∧Pairs (JBO P w) es rs∧(∀e∈es,∃k,(JBO P w).is k e.key=true∧e.hash=(JBO P w).hash k)∧rs.map (·.1)=kvs.filterMap (λp=>match p.1 with|.str x=>some (Sum.inr x:Key)|_=>none):=by
 induction h with
 |nil=>exact⟨[],λH=>by simp only[DenK],λP=>⟨[],.nil,.nil,λe he=>(by simp at he),rfl⟩⟩
 | @cons en x t d es kvs h1 h2 h3 _ ih =>
  obtain⟨ks,b,ih⟩:=ih;obtain⟨v,r,q⟩:=h3;refine⟨(Sum.inr x,v)::ks,λH=>?_,λP=>?_⟩
  ·simp only[DenK];exact⟨x,v,ks,rfl,rfl,q H,b H⟩
  ·obtain⟨rs,a,c,e,f⟩:=ih P;have hk:(JBO P w).is (Sum.inr x) en.key=true:=by rw[h1];exact JCx P w x t
   refine⟨(Sum.inr x,en.val)::rs,.cons ⟨rfl,r⟩ a,.cons hk rfl c,λe' he=>?_,by simp only[List.map_cons,f];rfl⟩
   rcases List.mem_cons.mp he with rfl|he
   ·exact⟨Sum.inr x,hk,h2⟩
   ·exact e e' he
end VI
namespace VI
open PySem PySem.Spec PyProof.Rows L2
mutual
noncomputable def conK(K:Kq):Nat→Value→Option D
 |0,_=>none
 |n+1,u=>match u with
  |.ref a=>(match K.lookup a with
   |some ⟨.type "tuple",_,.seq its 0,_⟩=>if its.size≤1000 then (JG7 K n its.toList).map PyData.tuple else none
   |_=>none)
  |u=>conV u
noncomputable def JG7(K:Kq):Nat→List Value→Option (List D)
 |0,_=>none
 |_,[]=>some []
 |n+1,u::us=>(conK K n u).bind λd=>(JG7 K n us).map (d::·)
end
mutual
theorem JGf{B:Bs}:∀ {n:Nat}{u:Value}{d:D},conK B.K n u=some d→∃v,RelV v u∧∀H,Den B H d v
 |0,u,d,h=>by simp[conK]at h
 |n+1,u,d,h=>by
  unfold conK at h
  split at h
  ·rename_i a
   split at h
   ·rename_i od its sl l
    split at h
    ·rename_i hz;obtain⟨ds,h1,e⟩:=Option.map_eq_some_iff.mp h;subst e;obtain⟨vs,r,q⟩:=JE8 h1;refine⟨.ref a,rfl,λH=>?_⟩;simp only[Den];exact⟨a,vs,rfl,.inr ⟨_,its,_,l,rfl,rfl,by rw[sizeLine_eq];omega,r⟩,q H⟩
    ·cases h
   ·cases h
  ·exact JKA h
theorem JE8{B:Bs}:∀ {n:Nat}{us:List Value}{ds:List D},JG7 B.K n us=some ds→∃vs,Vals vs us∧∀H,DenL B H ds vs
 |0,us,ds,h=>by simp[JG7]at h
 |n+1,[],ds,h=>by
  simp only[JG7,Option.some.injEq]at h;subst h;exact⟨[],.nil,λH=>by simp only[DenL]⟩
 |n+1,u::us,ds,h=>by
  unfold JG7 at h;obtain⟨d,h1,h⟩:=Option.bind_eq_some_iff.mp h;obtain⟨r,h2,e⟩:=Option.map_eq_some_iff.mp h;subst e;obtain⟨v,r1,q1⟩:=JGf h1;obtain⟨vs,r2,q2⟩:=JE8 h2;exact⟨v::vs,.cons r1 r2,λH=>by simp only[DenL];exact⟨v,vs,rfl,q1 H,q2 H⟩⟩
end
theorem JDG{K:Kq}{cl:Nat→Addr}{w:World}{h:Heap}{mg:Str→Option Value}{x:Str}{d0:D}(X:K.In h)(Gm:h.Ns mainGlobals mg)
  (e:((PySem.W.nsIn K mainGlobals x).bind λo=>o.bind λu=>conK K 64 u)=some d0) {glo:Nat→R D}{i:Nat}(hg:glo i=.ok d0) :
  ∀d,glo i=.ok d→∃u v,mg x=some u∧RelV v u∧∀H,Den ⟨K,cl,w⟩ H d v:=by
 intro d hd;rw[hg]at hd;cases hd;obtain⟨o,h1,h2⟩:=Option.bind_eq_some_iff.mp e;obtain⟨u,h3,h4⟩:=Option.bind_eq_some_iff.mp h2;subst h3;obtain⟨v,r,q⟩:=JGf (B:=⟨K,cl,w⟩) h4;exact⟨u,v,PySem.W.mg_of X Gm h1,r,q⟩
end VI
end
section
namespace Fr
theorem JBc{a g:Int}(h:g ∣ a):a.fdiv g=a / g:=Int.fdiv_eq_ediv_of_dvd h
theorem JEV(up down:Int)(h:down≠0):up.fdiv (if down<0 then -((up.gcd down:Nat):Int) else ((up.gcd down:Nat):Int))=(Rat.divInt up down).num:=by
 have hg:((up.gcd down:Nat):Int) ∣ up:=Int.gcd_dvd_left ..;rw[Rat.num_divInt,Int.gcd_comm down up]
 by_cases hd:down<0
 ·rw[if_pos hd,JBc (Int.neg_dvd.mpr hg),Int.sign_eq_neg_one_of_neg hd,Int.neg_one_mul,Int.ediv_neg,Int.neg_ediv_of_dvd hg]
 ·rw[if_neg hd,JBc hg,Int.sign_eq_one_of_pos (by omega),Int.one_mul]
theorem JGQ(up down:Int)(h:down≠0):down.fdiv (if down<0 then -((up.gcd down:Nat):Int) else ((up.gcd down:Nat):Int))=((Rat.divInt up down).den:Int):=by
 have hg:((up.gcd down:Nat):Int) ∣ down:=Int.gcd_dvd_right ..;rw[Rat.den_divInt,if_neg h,Int.gcd_comm down up]
 by_cases hd:down<0
 ·rw[if_pos hd,JBc (Int.neg_dvd.mpr hg),Int.ediv_neg,Int.natCast_ediv,←Int.neg_ediv_of_dvd hg]
  congr 1
  omega
 ·rw[if_neg hd,JBc hg,Int.natCast_ediv]
  congr 1
  omega
theorem den_pos(q:Rat):(0:Int)<(q.den:Int):=by have:=q.den_pos;omega
theorem JFU(q:Rat):(q.den:Int)≠0:=by have:=den_pos q;omega
theorem JPz(a b:Rat):Rat.divInt (a.num*b.den - b.num*a.den) ((a.den:Int)*b.den)=a - b:=by
 conv=>rhs;rw[←Rat.num_divInt_den a,←Rat.num_divInt_den b]
 rw[Rat.divInt_sub_divInt _ _ (JFU a) (JFU b)]
theorem JNd(q:Rat):q.num.gcd (q.den:Int)=1:=by
 have:=q.reduced;unfold Nat.Coprime at this;unfold Int.gcd;simpa using this
theorem JGc(a b:Int):b.gcd (a.fmod b)=a.gcd b:=by
 have h:=Int.mul_fdiv_add_fmod a b;have e:a.fmod b=a - b*a.fdiv b:=by omega
 rw[e,Int.gcd_comm a b];apply Nat.dvd_antisymm
 ·apply Int.dvd_gcd
  ·exact Int.gcd_dvd_left ..
  ·have h1:((b.gcd (a - b*a.fdiv b):Nat):Int) ∣ b:=Int.gcd_dvd_left ..;have h2:((b.gcd (a - b*a.fdiv b):Nat):Int) ∣ a - b*a.fdiv b:=Int.gcd_dvd_right ..;have h3:=Int.dvd_add h2 (Int.dvd_mul_of_dvd_left (c:=a.fdiv b) h1);have e2:a - b*a.fdiv b+b*a.fdiv b=a:=by omega
   rwa [e2]at h3
 ·apply Int.dvd_gcd
  ·exact Int.gcd_dvd_left ..
  ·exact Int.dvd_sub (Int.gcd_dvd_right ..) (Int.dvd_mul_of_dvd_left (Int.gcd_dvd_left ..))
theorem JHa(a b:Int)(h:b≠0):(a.fmod b).natAbs<b.natAbs:=by
 by_cases hb:0<b
 ·have h1:=Int.fmod_nonneg_of_pos a hb;have h2:=Int.fmod_lt_of_pos a hb;omega
 ·have hb':b<0:=by omega
  have h1:=Int.mul_fdiv_add_fmod a b;rw[Int.fmod_eq_emod];have h2:=Int.emod_nonneg a h;have h3:=Int.emod_lt a h
  split
  ·rename_i q;rcases q with q|q
   ·omega
   ·have:=Int.emod_eq_zero_of_dvd q;omega
  ·rename_i q;have h4:a % b≠0:=λz=>q (.inr (Int.dvd_of_emod_eq_zero z));omega
end Fr
end
section
namespace VI.VP
open PySem
theorem JAC{x:Bool}{tab:Nat→Option Fd}{glo:Nat→R D}{sub:Nat→Nat→Bool}{n f:Nat}{xs:List D}{fd:Fd}(h:tab f=some fd):run x tab glo sub (n+1) f xs=JF0 x ⟨run x tab glo sub n,glo,sub⟩ fd xs:=by
 rw[run,h]
@[simp] theorem look_zero (s:Sl) (δ:Env):look (s::δ) 0=s.get:=rfl
@[simp] theorem look_succ (s:Sl) (δ:Env) (i:Nat):look (s::δ) (i+1)=look δ i:=rfl
@[simp] theorem get_val (d:D):(Sl.val d).get=.ok d:=rfl
@[simp] theorem get_own (d:List D):(Sl.own (.list d)).get=.ok (.list d):=rfl
@[simp] theorem bind_ok {α β:Type}(a:α) (f:α→R β):(R.ok a).bind f=f a:=rfl
@[simp] theorem bind_exc {α β:Type}(c:Nat) (f:α→R β):(R.exc c).bind f=.exc c:=rfl
@[simp] theorem stepR_ok {α:Type}(a:α) (f:α→Fl):stepR (.ok a) f=f a:=rfl
@[simp] theorem stepR_exc {α:Type}(c:Nat) (f:α→Fl):stepR (.exc c) f=.ex c:=rfl
theorem JDK(e:E)(i:Nat)(d:D)(r:Env):JAS e i (.val d::r)=JAS e (i+1) r:=by simp[JAS,Sl.isOwn]
theorem JDv(e:E)(i:Nat)(r:Env):JAS e i (.no::r)=JAS e (i+1) r:=by simp[JAS,Sl.isOwn]
theorem JDQ(e:E)(i:Nat)(d:D)(r:Env):JAS e i (.own d::r)=(e.uses i || JAS e (i+1) r):=by simp[JAS,Sl.isOwn]
theorem JDO(e:E)(i:Nat):JAS e i []=false:=rfl
theorem JIz(e:E)(i:Nat)(d:D)(r:Env):JA1 e i (.val d::r)=.val d::JA1 e (i+1) r:=by simp[JA1,Sl.frz]
theorem JJc(e:E)(i:Nat)(r:Env):JA1 e i (.no::r)=.no::JA1 e (i+1) r:=by simp[JA1,Sl.frz]
theorem JHg(e:E)(i:Nat)(d:List D)(r:Env):JA1 e i (.own (.list d)::r)=(if e.uses i=true then .val (.list d) else .own (.list d))::JA1 e (i+1) r:=by
 simp only[JA1,Sl.frz]
theorem JIv(e:E)(i:Nat):JA1 e i []=[]:=rfl
theorem JEG(e:E)(d:D)(δ:Env):after e d δ=if (JAS e 0 δ&&!JAW d)=true then JA1 e 0 δ else δ:=rfl
noncomputable def JHF(x:Bool):Fl→R D
 |.nx _=>.ok .none
 |.rt d=>.ok d
 |.ex c=>if x=true then .exc c else .bad
 |_=>.bad
theorem JAD{x:Bool}{C:Cn}{f:Fd}{xs:List D}(h:xs.length=f.par):JF0 x C f xs=JHF x (exec C f.body (xs.map Sl.val++List.replicate (f.slots - f.par) Sl.no)):=by
 unfold JF0;rw[if_pos h];cases exec C f.body (xs.map Sl.val++List.replicate (f.slots - f.par) Sl.no)<;>rfl
section
variable{c:Env→R Bool}{b:Env→Fl}
theorem JB8:∀(n:Nat) (δ:Env),JAj c b n δ≠.bad→JAj c b (n+1) δ=JAj c b n δ
 |0,δ,h=>absurd rfl h
 |n+1,δ,h=>by
  unfold JAj at h ⊢;cases hc:c δ with
  |ok k =>
   cases k with
   |true =>
    rw[hc]at h;simp only at h ⊢;cases hb:b δ with
    |nx δ'=>rw[hb]at h;exact JB8 n δ' h
    |ct δ'=>rw[hb]at h;exact JB8 n δ' h
    |bk δ'=>rfl
    |rt d=>rfl
    |ex k=>rfl
    |bad=>rfl
   |false=>rfl
  |exc k=>rfl
  |bad=>rfl
theorem JFK{n m:Nat}{δ:Env}(h:JAj c b n δ≠.bad)(hm:n≤m):JAj c b m δ=JAj c b n δ:=by
 induction hm with
 |refl=>rfl
 |step _ ih=>rw[JB8 _ _ (by rw[ih];exact h),ih]
theorem JDJ{n:Nat}{δ:Env}(h:JAj c b n δ≠.bad):JBm c b δ=JAj c b n δ:=by
 unfold JBm;have hx:∃n,JAj c b n δ≠.bad:=⟨n,h⟩;rw[dif_pos hx];have h2:=hx.choose_spec;rcases Nat.le_total n hx.choose with l|l
 ·exact JFK h l
 ·exact(JFK h2 l).symm
theorem JC3{δ:Env}(hc:c δ=.ok false):JBm c b δ=.nx δ:=by
 have:JAj c b 1 δ=.nx δ:=by unfold JAj;rw[hc]
 rw[JDJ (n:=1) (by rw[this];intro h;cases h),this]
theorem JCv{δ δ':Env}(hc:c δ=.ok true)(hb:b δ=.nx δ'):JBm c b δ=JBm c b δ':=by
 have hs:∀n,JAj c b (n+1) δ=JAj c b n δ':=λn=>by
  conv=>lhs;unfold JAj
  rw[hc];simp only;rw[hb]
 by_cases h:∃n,JAj c b n δ'≠.bad
 ·obtain⟨n,h⟩:=h;rw[JDJ h,JDJ (n:=n+1) (by rw[hs];exact h),hs]
 ·have h1:JBm c b δ'=.bad:=by unfold JBm;rw[dif_neg h]
  have h2:¬ ∃n,JAj c b n δ≠.bad:=by
   rintro⟨n,q⟩;cases n with
   |zero=>exact q rfl
   |succ n=>exact h ⟨n,by rw[←hs];exact q⟩
  rw[h1];unfold JBm;rw[dif_neg h2]
end
theorem JDZ{i:Int}{k:Nat}(h:i.natAbs<2 ^ k):Builtin.Int.intBits i≤k:=by
 unfold Builtin.Int.intBits
 split
 ·omega
 ·rename_i hz;have hn:i.natAbs≠0:=by simpa using hz
  have:=(Nat.log2_lt hn).mpr h;omega
theorem JJJ{i j:Int}(h:j.natAbs<2 ^ 9000):Builtin.divisionGoesByPylong i j=false:=by
 unfold Builtin.divisionGoesByPylong;simp only[Bool.and_eq_false_iff,decide_eq_false_iff_not];left
 split
 ·omega
 ·rename_i hz;have hn:j.natAbs≠0:=by simpa using hz
  have:=(Nat.log2_lt hn).mpr h;omega
end VI.VP
end
section
namespace VI.VP
open PySem Fr
def L(i:Int):Prop:=i.natAbs<2 ^ 4000
theorem L.of{i:Int}{k:Nat}(h:i.natAbs<2 ^ k)(hk:k≤4000):L i:=Nat.lt_of_lt_of_le h (Nat.pow_le_pow_right (by omega) hk)
theorem pyl{i j:Int}(hj:L j):Builtin.divisionGoesByPylong i j=false:=JJJ (Nat.lt_of_lt_of_le hj (Nat.pow_le_pow_right (by omega) (by omega)))
theorem JF8{i j:Int}(hj:j.natAbs<2 ^ 64):binD .Mult (.int i) (.int j)=.ok (.int (i*j)):=by
 simp only[binD,if_pos (IntMulOk.of_right (a:=i) (JDZ hj))]
theorem JDX{i j:Int}(hj:i.natAbs<2 ^ 64):binD .Mult (.int i) (.int j)=.ok (.int (i*j)):=by
 simp only[binD,if_pos (IntMulOk.of_left (b:=j) (JDZ hj))]
theorem JOl{i j:Int}:binD .Add (.int i) (.int j)=.ok (.int (i+j)):=rfl
theorem JRR{i j:Int}:binD .Sub (.int i) (.int j)=.ok (.int (i - j)):=rfl
theorem JKJ{i j:Int}(h:j≠0)(hj:L j):binD .FloorDiv (.int i) (.int j)=.ok (.int (i.fdiv j)):=by
 simp only[binD,if_pos (And.intro h (pyl (i:=i) hj))]
theorem JE1{i j:Int}(h:j≠0):binD .Mod (.int i) (.int j)=.ok (.int (i.fmod j)):=by
 simp only[binD,if_pos h]
noncomputable def F(q:Rat):D:=.tuple [.int q.num,.int q.den]
theorem JPo(p q:Rat):PyData.eqv (F p) (F q)=decide (p=q):=by
 simp only[F,PyData.eqv,PyData.eqvAll,Bool.and_true]
 by_cases h:p=q
 ·subst h;simp
 ·rw[decide_eq_false h];simp only[Bool.and_eq_false_iff,beq_eq_false_iff_ne,ne_eq]
  by_cases hn:p.num=q.num
  ·right;intro hd;exact h (Rat.ext hn (by omega))
  ·left;exact hn
theorem JGT(q:Rat):shaped (F q)=true:=by
 simp only[shaped,F,PyData.canLay0,PyData.canLayAll0,PyData.depth,PyData.depthAll,Bool.and_true,Bool.true_and];decide
theorem JLY(q:Rat):idxD (F q) (.int 0)=.ok (.int q.num):=rfl
theorem JLf(q:Rat):idxD (F q) (.int 1)=.ok (.int q.den):=rfl
theorem F_ne(p q:Rat):cmpD .NotEq (F p) (F q)=.ok (.bool (!decide (p=q))):=by
 simp only[cmpD,JGT,Bool.and_self,if_true,JPo]
theorem F_eq(p q:Rat):cmpD .Eq (F p) (F q)=.ok (.bool (decide (p=q))):=by
 simp only[cmpD,JGT,Bool.and_self,if_true,JPo]
theorem i_ne(i j:Int):cmpD .NotEq (.int i) (.int j)=.ok (.bool (!decide (i=j))):=by
 have:PyData.eqv (.int i) (.int j)=decide (i=j):=by simp only[PyData.eqv];rfl
 simp only[cmpD,shaped,PyData.canLay0,PyData.depth,this];rfl
theorem i_eq(i j:Int):cmpD .Eq (.int i) (.int j)=.ok (.bool (decide (i=j))):=by
 have:PyData.eqv (.int i) (.int j)=decide (i=j):=by simp only[PyData.eqv];rfl
 simp only[cmpD,shaped,PyData.canLay0,PyData.depth,this];rfl
theorem i_lt(i j:Int):cmpD .Lt (.int i) (.int j)=.ok (.bool (decide (i<j))):=rfl
theorem i_gt(i j:Int):cmpD .Gt (.int i) (.int j)=.ok (.bool (decide (j<i))):=rfl
theorem i_le(i j:Int):cmpD .LtE (.int i) (.int j)=.ok (.bool (decide (i≤j))):=rfl
theorem i_ge(i j:Int):cmpD .GtE (.int i) (.int j)=.ok (.bool (decide (j≤i))):=rfl
theorem JIw(u d:Int)(h:d≠0):(Rat.divInt u d).num.natAbs≤u.natAbs:=by
 rw[←JEV u d h];have hg:((u.gcd d:Nat):Int) ∣ u:=Int.gcd_dvd_left ..;have key:∀g:Int,g ∣ u→(u.fdiv g).natAbs≤u.natAbs:=λg hg=>by
  rw[JBc hg];obtain⟨k,rfl⟩:=hg
  by_cases hz:g=0
  ·subst hz;simp
  ·rw[Int.mul_ediv_cancel_left _ hz,Int.natAbs_mul];have:0<g.natAbs:=by omega
   exact Nat.le_mul_of_pos_left _ this
 split
 ·exact key _ (Int.neg_dvd.mpr hg)
 ·exact key _ hg
theorem JGW(u d:Int)(h:d≠0):(Rat.divInt u d).den≤d.natAbs:=by
 rw[Rat.den_divInt,if_neg h];exact Nat.div_le_self _ _
def Sz(k:Nat)(q:Rat):Prop:=q.num.natAbs<2 ^ k∧q.den<2 ^ k
theorem Sz.mono{i k:Nat}{q:Rat}(h:Sz i q)(hk:i≤k):Sz k q:=⟨Nat.lt_of_lt_of_le h.1 (Nat.pow_le_pow_right (by omega) hk),Nat.lt_of_lt_of_le h.2 (Nat.pow_le_pow_right (by omega) hk)⟩
theorem Sz.of{u d:Int}{k:Nat}(h:d≠0)(hu:u.natAbs<2 ^ k)(hd:d.natAbs<2 ^ k):Sz k (Rat.divInt u d):=⟨Nat.lt_of_le_of_lt (JIw u d h) hu,Nat.lt_of_le_of_lt (JGW u d h) hd⟩
theorem Sz.n{k:Nat}{q:Rat}(h:Sz k q):q.num.natAbs<2 ^ k:=h.1
theorem Sz.d{k:Nat}{q:Rat}(h:Sz k q):(q.den:Int).natAbs<2 ^ k:=by simpa using h.2
theorem JHc{a b:Int}{i j:Nat}(h1:a.natAbs<2 ^ i)(h2:b.natAbs<2 ^ j):(a*b).natAbs<2 ^ (i+j):=by
 rw[Int.natAbs_mul,Nat.pow_add];exact Nat.mul_lt_mul'' h1 h2
theorem JPE{a b:Int}{i:Nat}(h1:a.natAbs<2 ^ i)(h2:b.natAbs<2 ^ i):(a - b).natAbs<2 ^ (i+1):=by
 have:=Int.natAbs_sub_le a b;rw[Nat.pow_succ];omega
theorem JQr{a:Int}{i k:Nat}(h:a.natAbs<2 ^ i)(hk:i≤k):a.natAbs<2 ^ k:=Nat.lt_of_lt_of_le h (Nat.pow_le_pow_right (by omega) hk)
section
variable{i j k:Nat}{p q:Rat}
theorem Sz.sub(hp:Sz i p)(hq:Sz j q)(hk:i+j+1≤k):Sz k (p - q):=by
 rw[←JPz];have h1:=JHc hp.n hq.d;have h2:=JHc hq.n hp.d;rw[Nat.add_comm j i]at h2;refine Sz.of (Int.mul_ne_zero (JFU p) (JFU q)) (JQr (JPE h1 h2) hk) (JQr (JHc hp.d hq.d) (by omega))
end
abbrev Q(q:Rat):Prop:=Sz 1500 q
end VI.VP
end
section
namespace VI.VP
open PySem
section
variable{C:Cn}{δ:Env}{a b c e es o i r:E}{x y z d:D}{xs:List D}
noncomputable def bin1(op:Operator):R D→R D→R D
 |.ok x,.ok y=>binD op x y
 |.ok _,r=>r
 |r,_=>r
noncomputable def neg1:R D→R D
 |.ok (.int i)=>.ok (.int (-i))
 |.exc c=>.exc c
 |_=>.bad
noncomputable def not1:R Bool→R D
 |.ok b=>.ok (.bool (!b))
 |.exc c=>.exc c
 |.bad=>.bad
noncomputable def tr1:R D→R Bool
 |.ok d=>truth d
 |.exc c=>.exc c
 |.bad=>.bad
noncomputable def and1(C:Cn)(b:E)(δ:Env):R D→R D
 |.ok (.bool true)=>ev C b δ
 |.ok (.bool false)=>.ok (.bool false)
 |.exc c=>.exc c
 |_=>.bad
noncomputable def or1(C:Cn)(b:E)(δ:Env):R D→R D
 |.ok (.bool true)=>.ok (.bool true)
 |.ok (.bool false)=>ev C b δ
 |.exc c=>.exc c
 |_=>.bad
noncomputable def cmp1(op:CmpOp):R D→R D→R D
 |.ok x,.ok y=>cmpD op x y
 |.ok _,r=>r
 |r,_=>r
noncomputable def isN1(n:Bool):R D→R D
 |.ok x=>.ok (.bool (if n=true then !isNone x else isNone x))
 |r=>r
noncomputable def isB1(b:Bool):R D→R D
 |.ok (.bool c)=>.ok (.bool (c==b))
 |.exc c=>.exc c
 |_=>.bad
noncomputable def ife1(C:Cn)(a b:E)(δ:Env):R Bool→R D
 |.ok true=>ev C a δ
 |.ok false=>ev C b δ
 |.exc c=>.exc c
 |.bad=>.bad
noncomputable def tup1:R (List D)→R D
 |.ok xs=>.ok (.tuple xs)
 |.exc c=>.exc c
 |.bad=>.bad
noncomputable def lst1:R (List D)→R D
 |.ok xs=>.ok (.list xs)
 |.exc c=>.exc c
 |.bad=>.bad
noncomputable def idx1:R D→R D→R D
 |.ok x,.ok y=>idxD x y
 |.ok _,r=>r
 |r,_=>r
noncomputable def JHn(C:Cn)(f:Nat):R (List D)→R D
 |.ok xs=>C.fn f xs
 |.exc c=>.exc c
 |.bad=>.bad
noncomputable def blt1(b:Blt):R (List D)→R D
 |.ok xs=>bltD b xs
 |.exc c=>.exc c
 |.bad=>.bad
noncomputable def isi1(C:Cn)(t:Ty):R D→R D
 |.ok x=>isiD C.sub x t
 |r=>r
noncomputable def JKk:R D→R D→R D
 |.ok (.list xs),.ok y=>JDu (.list xs) y
 |.ok (.list _),r=>r
 |.exc c,_=>.exc c
 |_,_=>.bad
noncomputable def JLH:R D→R D→R D
 |.ok (.list xs),.ok y=>JDh (.list xs) y
 |.ok (.list _),r=>r
 |.exc c,_=>.exc c
 |_,_=>.bad
noncomputable def get1:R D→R D→R D→R D
 |.ok x,r1,r2=>if JRd x=true then (r1.bind λy=>r2.bind λz=>JM2 x y z) else .bad
 |.exc c,_,_=>.exc c
 |_,_,_=>.bad
noncomputable def JJn:R D→R (List D)→R (List D)
 |.ok x,.ok xs=>.ok (x::xs)
 |.ok _,r=>r
 |.exc c,_=>.exc c
 |.bad,_=>.bad
noncomputable def JFo(C:Cn)(k:Nat)(elt cond:E)(δ:Env)(x:D):R (Option D):=(push k x δ).bind λδ1=>(evT C cond δ1).bind λt=>if t=true then (ev C elt δ1).bind λy=>.ok (some y) else .ok none
noncomputable def JKF(C:Cn)(k:Nat)(elt cond:E)(δ:Env):R (List D)→R D
 |.ok xs=>if xs.length≤16777216 then (JAt (JFo C k elt cond δ) xs).bind λys=>.ok (.list ys) else .bad
 |.exc c=>.exc c
 |.bad=>.bad
noncomputable def its1:R D→R (List D)
 |.ok d=>JBQ d
 |.exc c=>.exc c
 |.bad=>.bad
noncomputable def rng1:R (List D)→R (List D)
 |.ok d=>rngD d
 |r=>r
theorem JCT(r:R D):r.bind truth=tr1 r:=by cases r<;>rfl
theorem JCM(r:R D):r.bind JBQ=its1 r:=by cases r<;>rfl
theorem v_var{j:Nat}:ev C (.var j) δ=look δ j:=by simp only[ev]
theorem JPX{j:Int}:ev C (.cint j) δ=.ok (.int j):=by simp only[ev]
theorem v_bl{j:Bool}:ev C (.cbl j) δ=.ok (.bool j):=by simp only[ev]
theorem JP8:ev C .cnon δ=.ok .none:=by simp only[ev]
theorem JRD{j:Str}:ev C (.cstr j) δ=.ok (.str j):=by simp only[ev]
theorem JPf{j:Nat}:ev C (.glo j) δ=C.glo j:=by simp only[ev]
theorem JPN{op:Operator}:ev C (.bin op a b) δ=bin1 op (ev C a δ) (ev C b δ):=by
 simp only[ev];cases ev C a δ<;>cases ev C b δ<;>rfl
theorem JOa:ev C (.neg a) δ=neg1 (ev C a δ):=by
 simp only[ev];cases h:ev C a δ with
 |ok d=>cases d<;>rfl
 |exc c=>rfl
 |bad=>rfl
theorem v_not:ev C (.not a) δ=not1 (tr1 (ev C a δ)):=by
 simp only[ev];cases h:ev C a δ with
 |ok d=>simp only[R.bind,tr1];cases truth d<;>rfl
 |exc c=>rfl
 |bad=>rfl
theorem v_and:ev C (.and a b) δ=and1 C b δ (ev C a δ):=by
 simp only[ev];cases h:ev C a δ with
 |ok d =>
  cases d with
  |bool k=>cases k<;>rfl
  |_=>rfl
 |exc c=>rfl
 |bad=>rfl
theorem v_or:ev C (.or a b) δ=or1 C b δ (ev C a δ):=by
 simp only[ev];cases h:ev C a δ with
 |ok d =>
  cases d with
  |bool k=>cases k<;>rfl
  |_=>rfl
 |exc c=>rfl
 |bad=>rfl
theorem JOr{op:CmpOp}:ev C (.cmp op a b) δ=cmp1 op (ev C a δ) (ev C b δ):=by
 simp only[ev];cases ev C a δ<;>cases ev C b δ<;>rfl
theorem JQo{k:Bool}:ev C (.isN a k) δ=isN1 k (ev C a δ):=by
 simp only[ev];cases ev C a δ<;>rfl
theorem JQg{k:Bool}:ev C (.isB a k) δ=isB1 k (ev C a δ):=by
 simp only[ev];cases h:ev C a δ with
 |ok d=>cases d<;>rfl
 |exc c=>rfl
 |bad=>rfl
theorem JOu:ev C (.ife c a b) δ=ife1 C a b δ (evT C c δ):=by
 simp only[ev];cases h:evT C c δ with
 |ok k=>cases k<;>rfl
 |exc c=>rfl
 |bad=>rfl
theorem JOP:ev C (.tup es) δ=tup1 (evA C es δ):=by simp only[ev];cases evA C es δ<;>rfl
theorem JPi:ev C (.lst es) δ=lst1 (evA C es δ):=by simp only[ev];cases evA C es δ<;>rfl
theorem JOH:ev C (.idx a i) δ=idx1 (ev C a δ) (ev C i δ):=by
 simp only[ev];cases ev C a δ<;>cases ev C i δ<;>rfl
theorem JLO{f:Nat}:ev C (.call f es) δ=JHn C f (evA C es δ):=by simp only[ev];cases evA C es δ<;>rfl
theorem JPO{f:Blt}:ev C (.blt f es) δ=blt1 f (evA C es δ):=by simp only[ev];cases evA C es δ<;>rfl
theorem JQi{t:Ty}:ev C (.isi a t) δ=isi1 C t (ev C a δ):=by simp only[ev];cases ev C a δ<;>rfl
theorem v_count:ev C (.mcount o a) δ=JKk (ev C o δ) (ev C a δ):=by
 simp only[ev];cases ev C o δ with
 |ok d=>cases d<;>cases ev C a δ<;>rfl
 |exc c=>rfl
 |bad=>rfl
theorem JI3:ev C (.mindex o a) δ=JLH (ev C o δ) (ev C a δ):=by
 simp only[ev];cases ev C o δ with
 |ok d=>cases d<;>cases ev C a δ<;>rfl
 |exc c=>rfl
 |bad=>rfl
theorem v_get:ev C (.mget o a b) δ=get1 (ev C o δ) (ev C a δ) (ev C b δ):=by
 simp only[ev];cases ev C o δ with
 |ok d=>rfl
 |exc c=>rfl
 |bad=>rfl
theorem JK6{k:Nat}:ev C (.cmpr k e i c) δ=JKF C k e c δ (evI C i δ):=by
 simp only[ev];cases evI C i δ<;>rfl
noncomputable def dct1(ks:List Str):R (List D)→R D
 |.ok xs=>.ok (.dict ((ks.map PyData.str).zip xs))
 |.exc c=>.exc c
 |.bad=>.bad
noncomputable def rep1(k:Nat):R (List D)→R D
 |.ok xs=>.ok (.list (List.replicate k xs).flatten)
 |.exc c=>.exc c
 |.bad=>.bad
theorem JOS{ks:List Str}:ev C (.dct ks es) δ=dct1 ks (evA C es δ):=by simp only[ev];cases evA C es δ<;>rfl
theorem JO3{k:Nat}:ev C (.rep k es) δ=rep1 k (evA C es δ):=by simp only[ev];cases evA C es δ<;>rfl
noncomputable def fn11(o:O1):R D→R D
 |.ok x=>op1D o x
 |r=>r
noncomputable def JKD(b:Bool):R D→R D
 |.ok (.bool c)=>.ok (.bool (!(c==b)))
 |.exc c=>.exc c
 |_=>.bad
theorem JPS{o1:O1}:ev C (.fn1 o1 a) δ=fn11 o1 (ev C a δ):=by simp only[ev];cases ev C a δ<;>rfl
theorem JKp{k:Bool}:ev C (.isnB a k) δ=JKD k (ev C a δ):=by
 simp only[ev];cases h:ev C a δ with
 |ok d=>cases d<;>rfl
 |exc c=>rfl
 |bad=>rfl
theorem JGA{k:Bool}:evT C (.isnB a k) δ=tr1 (JKD k (ev C a δ)):=by
 simp only[evT];cases h:ev C a δ with
 |ok d=>cases d<;>rfl
 |exc c=>rfl
 |bad=>rfl
noncomputable def xop1(C:Cn)(k:XO):R (List D)→R D
 |.ok xs=>xE C k xs
 |.exc c=>.exc c
 |.bad=>.bad
theorem JQy{k:XO}:ev C (.xop k es) δ=xop1 C k (evA C es δ):=by simp only[ev];cases evA C es δ<;>rfl
theorem JQ8{k:XO}:evI C (.xop k es) δ=its1 (xop1 C k (evA C es δ)):=by simp only[evI,JCM];cases evA C es δ<;>rfl
theorem JOk:evT C (.xop .stw es) δ=tr1 (xop1 C .stw (evA C es δ)):=by simp only[evT,XO.isT,if_true,JCT];cases evA C es δ<;>rfl
theorem JOo{o1:O1}:evI C (.fn1 o1 a) δ=its1 (fn11 o1 (ev C a δ)):=by simp only[evI,JCM];cases ev C a δ<;>rfl
theorem JP2{op:Operator}:evI C (.bin op a b) δ=its1 (bin1 op (ev C a δ) (ev C b δ)):=by
 simp only[evI,JCM];cases ev C a δ<;>cases ev C b δ<;>rfl
theorem JLp:evA C .nil δ=.ok []:=by simp only[evA]
theorem JIr:evA C (.cons a r) δ=JJn (ev C a δ) (evA C r δ):=by
 simp only[evA];cases ev C a δ<;>cases evA C r δ<;>rfl
theorem JJU:evT C (.not a) δ=tr1 (not1 (evT C a δ)):=by
 simp only[evT];cases evT C a δ<;>rfl
noncomputable def andT(C:Cn)(b:E)(δ:Env):R Bool→R Bool
 |.ok true=>evT C b δ
 |r=>r
noncomputable def orT(C:Cn)(b:E)(δ:Env):R Bool→R Bool
 |.ok false=>evT C b δ
 |r=>r
theorem JPn:evT C (.and a b) δ=andT C b δ (evT C a δ):=by
 simp only[evT];cases h:evT C a δ with
 |ok k=>cases k<;>rfl
 |exc c=>rfl
 |bad=>rfl
theorem t_or:evT C (.or a b) δ=orT C b δ (evT C a δ):=by
 simp only[evT];cases h:evT C a δ with
 |ok k=>cases k<;>rfl
 |exc c=>rfl
 |bad=>rfl
theorem JO1{j:Nat}:evT C (.var j) δ=tr1 (look δ j):=by simp only[evT];cases look δ j<;>rfl
theorem t_bl{j:Bool}:evT C (.cbl j) δ=.ok j:=by simp only[evT]
theorem JPY{op:CmpOp}:evT C (.cmp op a b) δ=tr1 (cmp1 op (ev C a δ) (ev C b δ)):=by
 simp only[evT,JCT];cases ev C a δ<;>cases ev C b δ<;>rfl
theorem JJO{k:Bool}:evT C (.isN a k) δ=tr1 (isN1 k (ev C a δ)):=by simp only[evT];cases ev C a δ<;>rfl
theorem JJ8{k:Bool}:evT C (.isB a k) δ=tr1 (isB1 k (ev C a δ)):=by
 simp only[evT];cases h:ev C a δ with
 |ok d=>cases d<;>rfl
 |exc c=>rfl
 |bad=>rfl
theorem JP7:evT C (.idx a i) δ=tr1 (idx1 (ev C a δ) (ev C i δ)):=by
 simp only[evT,JCT];cases ev C a δ<;>cases ev C i δ<;>rfl
theorem JK5{f:Nat}:evT C (.call f es) δ=tr1 (JHn C f (evA C es δ)):=by simp only[evT,JCT];cases evA C es δ<;>rfl
theorem JP6{f:Blt}:evT C (.blt f es) δ=tr1 (blt1 f (evA C es δ)):=by simp only[evT,JCT];cases evA C es δ<;>rfl
theorem JQL{t:Ty}:evT C (.isi a t) δ=tr1 (isi1 C t (ev C a δ)):=by simp only[evT,JCT];cases ev C a δ<;>rfl
theorem JP0:evI C (.rng es) δ=rng1 (evA C es δ):=by simp only[evI];cases evA C es δ<;>rfl
theorem JRK{j:Nat}:evI C (.var j) δ=its1 (look δ j):=by simp only[evI];cases look δ j<;>rfl
theorem JRB{j:Nat}:evI C (.glo j) δ=its1 (C.glo j):=by simp only[evI];cases C.glo j<;>rfl
theorem l_idx:evI C (.idx a i) δ=its1 (idx1 (ev C a δ) (ev C i δ)):=by
 simp only[evI,JCM];cases ev C a δ<;>cases ev C i δ<;>rfl
theorem JMD{f:Nat}:evI C (.call f es) δ=its1 (JHn C f (evA C es δ)):=by simp only[evI,JCM];cases evA C es δ<;>rfl
theorem JPM:evI C (.tup es) δ=evA C es δ:=by simp only[evI]
theorem JPl:evI C (.lst es) δ=evA C es δ:=by simp only[evI]
noncomputable def seq1(C:Cn)(r:S):Fl→Fl
 |.nx δ=>exec C r δ
 |f=>f
noncomputable def asg1(i:Nat)(e:E)(δ:Env):R D→Fl
 |.ok x=>if e.fresh=true then .nx ((after e x δ).set i (.own x)) else .nx ((after e x δ).set i (.val x))
 |.exc c=>.ex c
 |.bad=>.bad
noncomputable def unp2(is:List Nat)(δ:Env):R (List D)→Fl
 |.ok xs=>.nx (JCj is xs δ)
 |.exc c=>.ex c
 |.bad=>.bad
noncomputable def unp1(is:List Nat)(e:E)(δ:Env):R D→Fl
 |.ok d=>unp2 is (after e d δ) (JA5 is.length d)
 |.exc c=>.ex c
 |.bad=>.bad
noncomputable def ret1:R D→Fl
 |.ok d=>.rt d
 |.exc c=>.ex c
 |.bad=>.bad
noncomputable def ifs1(C:Cn)(a b:S)(δ:Env):R Bool→Fl
 |.ok true=>exec C a δ
 |.ok false=>exec C b δ
 |.exc c=>.ex c
 |.bad=>.bad
noncomputable def app1(i:Nat)(e:E)(δ:Env)(r:R D):Option Sl→Fl
 |some (.own (.list ds))=>(match r with
  |.ok x=>JDP i ds e x δ
  |.exc c=>.ex c
  |.bad=>.bad)
 |_=>.bad
noncomputable def ext1(i:Nat)(e:E)(δ:Env)(r:R D):Option Sl→Fl
 |some (.own (.list ds))=>(match r with
  |.ok x=>JBY i ds e x δ
  |.exc c=>.ex c
  |.bad=>.bad)
 |_=>.bad
noncomputable def JNF(e:E)(δ:Env):R D→Fl
 |.ok x=>.nx (after e x δ)
 |.exc c=>.ex c
 |.bad=>.bad
noncomputable def for2(C:Cn)(i:Nat)(b:S):List D→Env→Fl:=forL (put1 i) (exec C b)
noncomputable def for1(C:Cn)(i:Nat)(e:E)(b:S)(δ:Env):R (List D)→Fl
 |.ok xs=>for2 C i b xs (JA1 e 0 δ)
 |.exc c=>.ex c
 |.bad=>.bad
noncomputable def whl1(C:Cn)(c:E)(b:S)(δ:Env):Fl:=JBm (evT C c) (exec C b) δ
noncomputable def try1(C:Cn)(c i:Nat)(h:S)(δ:Env):Fl→Fl
 |.ex k=>if C.sub k c=true then (match exec C h ((δ.map λ_=>Sl.no).set i (.val (excD k))) with
  |.nx δ2=>.nx (δ2.set i .no)
  |.rt d=>.rt d
  |_=>.bad) else .bad
 |f=>f
variable{s t h:S}{j k:Nat}
theorem JO4:exec C .nil δ=.nx δ:=by simp only[exec]
theorem JLL:exec C (.cons s t) δ=seq1 C t (exec C s δ):=by simp only[exec];cases exec C s δ<;>rfl
theorem JLd:exec C .pass δ=.nx δ:=by simp only[exec]
theorem JOJ:exec C .brk δ=.bk δ:=by simp only[exec]
theorem JQX:exec C .cnt δ=.ct δ:=by simp only[exec]
theorem JON:exec C (.asg j e) δ=asg1 j e δ (ev C e δ):=by simp only[exec];cases ev C e δ<;>rfl
theorem JOd{is:List Nat}:exec C (.unp is e) δ=unp1 is e δ (ev C e δ):=by
 simp only[exec];cases ev C e δ with
 |ok d=>simp only[stepR,unp1];cases JA5 is.length d<;>rfl
 |exc c=>rfl
 |bad=>rfl
theorem JOR:exec C (.ret e) δ=ret1 (ev C e δ):=by simp only[exec];cases ev C e δ<;>rfl
theorem JLj:exec C .retN δ=.rt .none:=by simp only[exec]
theorem JOX:exec C (.ife c s t) δ=ifs1 C s t δ (evT C c δ):=by
 simp only[exec];cases h:evT C c δ with
 |ok k=>cases k<;>rfl
 |exc c=>rfl
 |bad=>rfl
theorem JPL:exec C (.app j e) δ=app1 j e δ (ev C e δ) δ[j]?:=by
 simp only[exec];cases h:δ[j]? with
 |none=>rfl
 |some u =>
  cases u with
  |own d =>
   cases d with
   |list ds=>simp only[app1];cases ev C e δ<;>rfl
   |_=>rfl
  |_=>rfl
theorem JQV:exec C (.ext j e) δ=ext1 j e δ (ev C e δ) δ[j]?:=by
 simp only[exec];cases h:δ[j]? with
 |none=>rfl
 |some u =>
  cases u with
  |own d =>
   cases d with
   |list ds=>simp only[ext1];cases ev C e δ<;>rfl
   |_=>rfl
  |_=>rfl
theorem JK3:exec C (.drop e) δ=JNF e δ (ev C e δ):=by simp only[exec];cases ev C e δ<;>rfl
theorem JLU:exec C (.for1 j e s) δ=for1 C j e s δ (evI C e δ):=by simp only[exec];cases evI C e δ<;>rfl
theorem JP5:exec C (.whl c s) δ=whl1 C c s δ:=by simp only[exec];rfl
theorem JLX:exec C (.rais k) δ=.ex k:=by simp only[exec]
theorem JKy:exec C (.tryx s k j h) δ=try1 C k j h δ (exec C s δ):=by simp only[exec];cases exec C s δ<;>rfl
noncomputable def forN(C:Cn)(i:Nat)(b:S)(ds:List D):Fl→Fl
 |.nx δ'=>for2 C i b ds δ'
 |.ct δ'=>for2 C i b ds δ'
 |.bk δ'=>.nx δ'
 |r=>r
theorem for_nil:for2 C j s [] δ=.nx δ:=rfl
theorem JEP:for2 C j s (d::xs) δ=forN C j s xs (exec C s (δ.set j (.val d))):=by
 unfold for2 forL;simp only[put1];cases exec C s (δ.set j (.val d))<;>rfl
noncomputable def pushc:R (Option D)→R (List D)→R (List D)
 |.ok (some y),.ok ys=>.ok (y::ys)
 |.ok none,r=>r
 |_,_=>.bad
noncomputable def mkl:R (List D)→R D
 |.ok ys=>.ok (.list ys)
 |.exc c=>.exc c
 |.bad=>.bad
theorem JNl{k:Nat}(hl:xs.length≤16777216):JKF C k e c δ (.ok xs)=mkl (JAt (JFo C k e c δ) xs):=by
 simp only[JKF,if_pos hl];cases JAt (JFo C k e c δ) xs<;>rfl
theorem JRa{f:D→R (Option D)}:JAt f []=.ok []:=rfl
theorem JN7{f:D→R (Option D)}(hf:∀c,f d≠.exc c):JAt f (d::xs)=pushc (f d) (JAt f xs):=by
 conv=>lhs;unfold JAt
 cases h:f d with
 |ok o =>
  cases o with
  |none=>rfl
  |some y =>
   simp only;cases JAt f xs<;>rfl
 |exc c=>exact absurd h (hf c)
 |bad=>cases JAt f xs<;>rfl
theorem JIC{f:D→R (Option D)}{g:D→D}:∀ {xs:List D},(∀x∈xs,f x=.ok (some (g x)))→JAt f xs=.ok (xs.map g)
 | [],_=>rfl
 |x::xs,h=>by
  unfold JAt;rw[h x (by simp),JIC λy hy=>h y (by simp[hy])]
  rfl
theorem JEv{f:D→R (Option D)}{p:D→Bool}{g:D→D}:∀ {xs:List D},(∀x∈xs,f x=.ok (if p x=true then some (g x) else none))→JAt f xs=.ok ((xs.filter p).map g)
 | [],_=>rfl
 |x::xs,h=>by
  unfold JAt;rw[h x (by simp)]
  have ih:=JEv (xs:=xs) λy hy=>h y (by simp[hy])
  cases hp:p x
  ·simp only[Bool.false_eq_true,if_false];rw[ih,List.filter_cons_of_neg (by simp[hp])]
  ·simp only[if_true];rw[ih,List.filter_cons_of_pos hp];rfl
noncomputable def opt1(b:Bool):R D→R (Option D)
 |.ok y=>.ok (some y)
 |.exc c=>.exc c
 |.bad=>.bad
noncomputable def JG8(C:Cn)(e:E)(δ:Env):R Bool→R (Option D)
 |.ok true=>opt1 true (ev C e δ)
 |.ok false=>.ok none
 |.exc c=>.exc c
 |.bad=>.bad
theorem JNS:JFo C 0 e c δ x=JG8 C e (.val x::δ) (evT C c (.val x::δ)):=by
 unfold JFo;simp only[push,R.bind];cases h:evT C c (.val x::δ) with
 |ok k =>
  cases k
  ·rfl
  ·simp only[if_true,JG8];cases ev C e (.val x::δ)<;>rfl
 |exc c=>rfl
 |bad=>rfl
theorem item_eqT{n:Nat}{ys:List D}(h:ys.length=n+1):JFo C (n+1) e c δ (.tuple ys)=JG8 C e (ys.map Sl.val++δ) (evT C c (ys.map Sl.val++δ)):=by
 have hp:push (n+1) (.tuple ys) δ=.ok (ys.map Sl.val++δ):=by unfold push;simp only[h,if_true]
 unfold JFo;rw[hp];generalize ys.map Sl.val++δ=δ1;simp only[R.bind];cases h:evT C c δ1 with
 |ok k =>
  cases k
  ·rfl
  ·simp only[if_true,JG8];cases ev C e δ1<;>rfl
 |exc c=>rfl
 |bad=>rfl
end
theorem JKn{i:Nat}{e:E}{δ:Env}{d:D}:asg1 i e δ (.ok d)=.nx ((after e d δ).set i (if e.fresh=true then .own d else .val d)):=by
 simp only[asg1]
 split<;>rfl
theorem JFO(s:Sl)(δ:Env):(s::δ)[0]? = some s:=rfl
theorem JFF(s:Sl)(δ:Env)(i:Nat):(s::δ)[i+1]? = δ[i]?:=rfl
theorem JIR(b:Bool):tr1 (.ok (.bool b))=.ok b:=rfl
theorem if_tt{α:Sort _}(a b:α):(if true=true then a else b)=a:=rfl
theorem if_ff{α:Sort _}(a b:α):(if false=true then a else b)=b:=rfl
theorem JOU{op:Operator}{x y:D}:bin1 op (.ok x) (.ok y)=binD op x y:=rfl
theorem JQj{i:Int}:neg1 (.ok (.int i))=.ok (.int (-i)):=rfl
theorem JOI{b:Bool}:not1 (.ok b)=.ok (.bool (!b)):=rfl
theorem JLr{C:Cn}{b:E}{δ:Env}:and1 C b δ (.ok (.bool true))=ev C b δ:=rfl
theorem JLR{C:Cn}{b:E}{δ:Env}:and1 C b δ (.ok (.bool false))=.ok (.bool false):=rfl
theorem JQM{C:Cn}{b:E}{δ:Env}:or1 C b δ (.ok (.bool true))=.ok (.bool true):=rfl
theorem JQk{C:Cn}{b:E}{δ:Env}:or1 C b δ (.ok (.bool false))=ev C b δ:=rfl
theorem JPB{op:CmpOp}{x y:D}:cmp1 op (.ok x) (.ok y)=cmpD op x y:=rfl
theorem JRc{n:Bool}{x:D}:isN1 n (.ok x)=.ok (.bool (if n=true then !isNone x else isNone x)):=rfl
theorem JOt{b c:Bool}:isB1 b (.ok (.bool c))=.ok (.bool (c==b)):=rfl
theorem JLs{C:Cn}{a b:E}{δ:Env}:ife1 C a b δ (.ok true)=ev C a δ:=rfl
theorem JK1{C:Cn}{a b:E}{δ:Env}:ife1 C a b δ (.ok false)=ev C b δ:=rfl
theorem JOF{xs:List D}:tup1 (.ok xs)=.ok (.tuple xs):=rfl
theorem JO7{ks:List Str}{xs:List D}:dct1 ks (.ok xs)=.ok (.dict ((ks.map PyData.str).zip xs)):=rfl
theorem JRQ{k:Nat}{xs:List D}:rep1 k (.ok xs)=.ok (.list (List.replicate k xs).flatten):=rfl
theorem JOf{o:O1}{x:D}:fn11 o (.ok x)=op1D o x:=rfl
theorem JRO{C:Cn}{k:XO}{xs:List D}:xop1 C k (.ok xs)=xE C k xs:=rfl
theorem k_rev{C:Cn}{xs:List D}:xE C .rev [.list xs]=.ok (.list xs.reverse):=rfl
theorem us_xop{k:XO}{es:E}{j:Nat}:(E.xop k es).uses j=es.uses j:=rfl
theorem JLm{b c:Bool}:JKD b (.ok (.bool c))=.ok (.bool (!(c==b))):=rfl
theorem JO9{lo hi:Option Int}{xs:List D}:op1D (.slice lo hi) (.tuple xs)=.ok (.tuple (cutD xs lo hi)):=rfl
theorem JOW{lo hi:Option Int}{xs:List D}:op1D (.slice lo hi) (.list xs)=.ok (.list (cutD xs lo hi)):=rfl
theorem k_tt{xs:List D}:op1D .toTup (.tuple xs)=.ok (.tuple xs):=rfl
theorem k_tl{xs:List D}:op1D .toTup (.list xs)=.ok (.tuple xs):=rfl
theorem k_lt{xs:List D}:op1D .toLst (.tuple xs)=.ok (.list xs):=rfl
theorem k_ll{xs:List D}:op1D .toLst (.list xs)=.ok (.list xs):=rfl
theorem JHj{e:E}{δ:Env}{c:Nat}:JNF e δ (.exc c)=.ex c:=rfl
theorem JN8{xs:List D}:lst1 (.ok xs)=.ok (.list xs):=rfl
theorem JQp{x y:D}:idx1 (.ok x) (.ok y)=idxD x y:=rfl
theorem JLh{C:Cn}{f:Nat}{xs:List D}:JHn C f (.ok xs)=C.fn f xs:=rfl
theorem JQK{b:Blt}{xs:List D}:blt1 b (.ok xs)=bltD b xs:=rfl
theorem JQT{C:Cn}{t:Ty}{x:D}:isi1 C t (.ok x)=isiD C.sub x t:=rfl
theorem JIt{x:List D}{y:D}:JKk (.ok (.list x)) (.ok y)=JDu (.list x) y:=rfl
theorem JHk{x:List D}{y:D}:JLH (.ok (.list x)) (.ok y)=JDh (.list x) y:=rfl
theorem JQE{k:Str}{v:D}{x:List (D×D)}{y z:D}:get1 (.ok (.dict ((.str k,v)::x))) (.ok y) (.ok z)=JM2 (.dict ((.str k,v)::x)) y z:=rfl
theorem JK4{x:D}{xs:List D}:JJn (.ok x) (.ok xs)=.ok (x::xs):=rfl
theorem JI6{C:Cn}{b:E}{δ:Env}:andT C b δ (.ok true)=evT C b δ:=rfl
theorem JHq{C:Cn}{b:E}{δ:Env}:andT C b δ (.ok false)=.ok false:=rfl
theorem JK2{C:Cn}{b:E}{δ:Env}:orT C b δ (.ok true)=.ok true:=rfl
theorem JLt{C:Cn}{b:E}{δ:Env}:orT C b δ (.ok false)=evT C b δ:=rfl
theorem JOx{d:D}:its1 (.ok d)=JBQ d:=rfl
theorem JQY{d:List D}:rng1 (.ok d)=rngD d:=rfl
theorem JOV{C:Cn}{r:S}{δ:Env}:seq1 C r (.nx δ)=exec C r δ:=rfl
theorem JLa{C:Cn}{r:S}{d:D}:seq1 C r (.rt d)=.rt d:=rfl
theorem JKq{C:Cn}{r:S}{c:Nat}:seq1 C r (.ex c)=.ex c:=rfl
theorem JKl{C:Cn}{r:S}{δ:Env}:seq1 C r (.bk δ)=.bk δ:=rfl
theorem JLi{C:Cn}{r:S}{δ:Env}:seq1 C r (.ct δ)=.ct δ:=rfl
theorem JLD{i:Nat}{e:E}{δ:Env}{c:Nat}:asg1 i e δ (.exc c)=.ex c:=rfl
theorem JPu{is:List Nat}{e:E}{δ:Env}{d:D}:unp1 is e δ (.ok d)=unp2 is (after e d δ) (JA5 is.length d):=rfl
theorem JLB{is:List Nat}{δ:Env}{xs:List D}:unp2 is δ (.ok xs)=.nx (JCj is xs δ):=rfl
theorem JPD{d:D}:ret1 (.ok d)=.rt d:=rfl
theorem JLz{c:Nat}:ret1 (.exc c)=.ex c:=rfl
theorem JL1{C:Cn}{a b:S}{δ:Env}:ifs1 C a b δ (.ok true)=exec C a δ:=rfl
theorem JL5{C:Cn}{a b:S}{δ:Env}:ifs1 C a b δ (.ok false)=exec C b δ:=rfl
theorem JK9{C:Cn}{a b:S}{δ:Env}{c:Nat}:ifs1 C a b δ (.exc c)=.ex c:=rfl
theorem JOi{i:Nat}{e:E}{δ:Env}{x:D}{ds:List D}:app1 i e δ (.ok x) (some (.own (.list ds)))=JDP i ds e x δ:=rfl
theorem JPK{i:Nat}{e:E}{δ:Env}{x:D}{ds:List D}:ext1 i e δ (.ok x) (some (.own (.list ds)))=JBY i ds e x δ:=rfl
theorem JKr{e:E}{δ:Env}{x:D}:JNF e δ (.ok x)=.nx (after e x δ):=rfl
theorem JPc{C:Cn}{i:Nat}{e:E}{b:S}{δ:Env}{xs:List D}:for1 C i e b δ (.ok xs)=for2 C i b xs (JA1 e 0 δ):=rfl
theorem JLC{C:Cn}{i:Nat}{b:S}{ds:List D}{δ:Env}:forN C i b ds (.nx δ)=for2 C i b ds δ:=rfl
theorem JKt{C:Cn}{i:Nat}{b:S}{ds:List D}{δ:Env}:forN C i b ds (.ct δ)=for2 C i b ds δ:=rfl
theorem JKv{C:Cn}{i:Nat}{b:S}{ds:List D}{δ:Env}:forN C i b ds (.bk δ)=.nx δ:=rfl
theorem JLW{C:Cn}{i:Nat}{b:S}{ds:List D}{d:D}:forN C i b ds (.rt d)=.rt d:=rfl
theorem JLl{C:Cn}{i:Nat}{b:S}{ds:List D}{c:Nat}:forN C i b ds (.ex c)=.ex c:=rfl
theorem JLK{x:Bool}{δ:Env}:JHF x (.nx δ)=.ok .none:=rfl
theorem JLb{x:Bool}{d:D}:JHF x (.rt d)=.ok d:=rfl
theorem JL6{c:Nat}:JHF true (.ex c)=.exc c:=rfl
theorem JMC{C:Cn}{c i:Nat}{h:S}{δ δ':Env}:try1 C c i h δ (.nx δ')=.nx δ':=rfl
theorem JLq{C:Cn}{c i:Nat}{h:S}{δ:Env}{d:D}:try1 C c i h δ (.rt d)=.rt d:=rfl
theorem JLN{C:Cn}{e:E}{δ:Env}:JG8 C e δ (.ok true)=opt1 true (ev C e δ):=rfl
theorem JI2{C:Cn}{e:E}{δ:Env}:JG8 C e δ (.ok false)=.ok none:=rfl
theorem JPg{b:Bool}{y:D}:opt1 b (.ok y)=.ok (some y):=rfl
theorem JIo{C:Cn}{f c:Nat}:JHn C f (.exc c)=.exc c:=rfl
theorem JIa{c:Nat}{r:R (List D)}:JJn (.exc c) r=.exc c:=rfl
theorem JGK{x:D}{c:Nat}:JJn (.ok x) (.exc c)=.exc c:=rfl
theorem JRY{xs:List D}:bltD .len [.list xs]=.ok (.int xs.length):=rfl
theorem JLJ{xs:List D}:bltD .len [.tuple xs]=.ok (.int xs.length):=rfl
theorem JPk{i:Int}:bltD .abs [.int i]=.ok (.int (if i<0 then -i else i)):=rfl
theorem JQC{xs:List D}:bltD .min [.list xs]=minD xs:=rfl
theorem JLv{i j:Nat}:(E.var i).uses j=(i==j):=rfl
theorem JKs{j:Nat}:E.nil.uses j=false:=rfl
theorem JIq{a r:E}{j:Nat}:(E.cons a r).uses j=(a.uses j || r.uses j):=rfl
theorem JL0{a:E}{j:Nat}:(E.lst a).uses j=a.uses j:=rfl
theorem JOG{a:E}{j:Nat}:(E.tup a).uses j=a.uses j:=rfl
theorem JQR{a:E}{t:Ty}{j:Nat}:(E.isi a t).uses j=a.uses j:=rfl
theorem JNY{a:E}{f:Nat}{j:Nat}:(E.call f a).uses j=a.uses j:=rfl
theorem JOj{a:E}{f:Blt}{j:Nat}:(E.blt f a).uses j=a.uses j:=rfl
theorem JRE{a b:E}{j:Nat}:(E.idx a b).uses j=(a.uses j || b.uses j):=rfl
theorem JRV{a b:E}{o:Operator}{j:Nat}:(E.bin o a b).uses j=(a.uses j || b.uses j):=rfl
theorem JM0{k:Nat}{a b c:E}{j:Nat}:(E.cmpr k a b c).uses j=(b.uses j || a.uses (j+(if k=0 then 1 else k)) || c.uses (j+(if k=0 then 1 else k))):=rfl
theorem us_fn1{o:O1}{a:E}{j:Nat}:(E.fn1 o a).uses j=a.uses j:=rfl
theorem us_isnB{a:E}{b:Bool}{j:Nat}:(E.isnB a b).uses j=a.uses j:=rfl
theorem JQu{i:Int}{j:Nat}:(E.cint i).uses j=false:=rfl
theorem us_bl{i:Bool}{j:Nat}:(E.cbl i).uses j=false:=rfl
theorem JMB{i:Str}{j:Nat}:(E.cstr i).uses j=false:=rfl
end VI.VP
end
local macro_rules | `(tactic| dsimp![$ts,*])=>`(tactic| simp only[VI.VP.v_var,VI.VP.JPX,VI.VP.v_bl,VI.VP.JP8,VI.VP.JRD,VI.VP.JPf,VI.VP.JPN,VI.VP.JOa,VI.VP.v_not,VI.VP.v_and,VI.VP.v_or,VI.VP.JOr,VI.VP.JQo,VI.VP.JQg,VI.VP.JOu,VI.VP.JOP,VI.VP.JPi,VI.VP.JOH,VI.VP.JLO,VI.VP.JPO,VI.VP.JQi,
 VI.VP.v_count,VI.VP.JI3,VI.VP.v_get,VI.VP.JK6,VI.VP.JOS,VI.VP.JO3,VI.VP.JPS,VI.VP.JQy,VI.VP.JQ8,VI.VP.JRO,VI.VP.JKp,VI.VP.JGA,VI.VP.JOo,VI.VP.JP2,VI.VP.JOf,VI.VP.JLm,VI.VP.JO9,VI.VP.JOW,VI.VP.k_tt,VI.VP.k_tl,VI.VP.k_lt,VI.VP.k_ll,VI.VP.JLp,VI.VP.JIr,VI.VP.JJU,VI.VP.JPn,VI.VP.t_or,VI.VP.JO1,VI.VP.t_bl,VI.VP.JPY,VI.VP.JJO,VI.VP.JJ8,VI.VP.JP7,VI.VP.JK5,VI.VP.JP6,VI.VP.JQL,VI.VP.JP0,VI.VP.JRK,VI.VP.JRB,VI.VP.l_idx,VI.VP.JMD,VI.VP.JPM,VI.VP.JPl,
 VI.VP.JO4,VI.VP.JLL,VI.VP.JLd,VI.VP.JOJ,VI.VP.JQX,VI.VP.JON,VI.VP.JOd,VI.VP.JOR,VI.VP.JLj,VI.VP.JOX,VI.VP.JPL,VI.VP.JQV,VI.VP.JK3,VI.VP.JLU,VI.VP.JP5,VI.VP.JLX,VI.VP.JKy,
 VI.VP.JIR,VI.VP.JKn,VI.VP.JOU,VI.VP.JQj,VI.VP.JOI,VI.VP.JLr,VI.VP.JLR,VI.VP.JQM,VI.VP.JQk,VI.VP.JPB,VI.VP.JRc,VI.VP.JOt,VI.VP.JLs,VI.VP.JK1,VI.VP.JOF,VI.VP.JN8,VI.VP.JQp,VI.VP.JLh,VI.VP.JQK,VI.VP.JQT,VI.VP.JIt,VI.VP.JHk,VI.VP.JQE,VI.VP.JK4,VI.VP.JI6,VI.VP.JHq,VI.VP.JK2,VI.VP.JLt,VI.VP.JOx,VI.VP.JQY,VI.VP.JOV,VI.VP.JLa,VI.VP.JKq,VI.VP.JKl,VI.VP.JLi,VI.VP.JLD,VI.VP.JPu,VI.VP.JLB,VI.VP.JPD,VI.VP.JLz,VI.VP.JL1,VI.VP.JL5,VI.VP.JK9,VI.VP.JOi,VI.VP.JPK,VI.VP.JKr,VI.VP.JPc,VI.VP.JLC,VI.VP.JKt,VI.VP.JKv,VI.VP.JLW,VI.VP.JLl,VI.VP.JLK,VI.VP.JLb,VI.VP.JL6,VI.VP.JMC,VI.VP.JLq,VI.VP.JLN,VI.VP.JI2,VI.VP.JPg,VI.VP.JIo,VI.VP.JIa,VI.VP.JGK,VI.VP.JRY,VI.VP.JLJ,VI.VP.JPk,VI.VP.JQC,VI.VP.JO7,VI.VP.JRQ,VI.VP.JHj,
 VI.VP.look_zero,VI.VP.look_succ,VI.VP.get_val,VI.VP.get_own,VI.VP.JFO,VI.VP.JFF,List.map_cons,List.map_nil,List.cons_append,List.nil_append,
 List.replicate_succ,List.replicate_zero,Nat.reduceSub,List.set_cons_zero,List.set_cons_succ,VI.E.fresh,VI.VP.JEG,VI.VP.JDK,VI.VP.JDv,VI.VP.JDO,Bool.false_and,Bool.false_eq_true,eq_self,if_true,if_false,VI.VP.i_ne,VI.VP.i_eq,VI.VP.i_lt,VI.VP.i_gt,VI.VP.i_le,VI.VP.i_ge,
 VI.VP.F_ne,VI.VP.F_eq,VI.VP.JLY,VI.VP.JLf,VI.VP.JOl,VI.VP.JRR,$ts,*])
section
namespace VI.VP
noncomputable def b_0:S:=(.cons (.asg 2 (.blt .abs (.cons (.var 0) .nil))) (.cons (.asg 3 (.blt .abs (.cons (.var 1) .nil))) (.cons (.whl (.cmp .NotEq (.var 3) (.cint 0)) (.cons (.asg 4 (.bin .Mod (.var 2) (.var 3))) (.cons (.asg 2 (.var 3)) (.cons (.asg 3 (.var 4)) .nil)))) (.cons (.ret (.var 2)) .nil))))
noncomputable def d_0:Fd:=⟨2,5,b_0⟩
noncomputable def b_1:S:=(.cons (.ife (.cmp .Eq (.var 1) (.cint 0)) (.cons (.rais 1) .nil) .nil) (.cons (.asg 2 (.call 0 (.cons (.var 0) (.cons (.var 1) .nil)))) (.cons (.ife (.cmp .Lt (.var 1) (.cint 0)) (.cons (.asg 2 (.neg (.var 2))) .nil) .nil) (.cons (.ret (.tup (.cons (.bin .FloorDiv (.var 0) (.var 2)) (.cons (.bin .FloorDiv (.var 1) (.var 2)) .nil)))) .nil))))
noncomputable def d_1:Fd:=⟨2,3,b_1⟩
noncomputable def b_2:S:=(.cons (.ret (.tup (.cons (.var 0) (.cons (.cint 1) .nil)))) .nil)
noncomputable def d_2:Fd:=⟨1,1,b_2⟩
noncomputable def b_3:S:=(.cons (.ret (.call 1 (.cons (.bin .Add (.bin .Mult (.idx (.var 0) (.cint 0)) (.idx (.var 1) (.cint 1))) (.bin .Mult (.idx (.var 1) (.cint 0)) (.idx (.var 0) (.cint 1)))) (.cons (.bin .Mult (.idx (.var 0) (.cint 1)) (.idx (.var 1) (.cint 1))) .nil)))) .nil)
noncomputable def d_3:Fd:=⟨2,2,b_3⟩
noncomputable def b_4:S:=(.cons (.ret (.call 1 (.cons (.bin .Sub (.bin .Mult (.idx (.var 0) (.cint 0)) (.idx (.var 1) (.cint 1))) (.bin .Mult (.idx (.var 1) (.cint 0)) (.idx (.var 0) (.cint 1)))) (.cons (.bin .Mult (.idx (.var 0) (.cint 1)) (.idx (.var 1) (.cint 1))) .nil)))) .nil)
noncomputable def d_4:Fd:=⟨2,2,b_4⟩
noncomputable def b_5:S:=(.cons (.ret (.call 1 (.cons (.bin .Mult (.idx (.var 0) (.cint 0)) (.idx (.var 1) (.cint 0))) (.cons (.bin .Mult (.idx (.var 0) (.cint 1)) (.idx (.var 1) (.cint 1))) .nil)))) .nil)
noncomputable def d_5:Fd:=⟨2,2,b_5⟩
noncomputable def b_6:S:=(.cons (.ret (.cmp .Lt (.bin .Mult (.idx (.var 0) (.cint 0)) (.idx (.var 1) (.cint 1))) (.bin .Mult (.idx (.var 1) (.cint 0)) (.idx (.var 0) (.cint 1))))) .nil)
noncomputable def d_6:Fd:=⟨2,2,b_6⟩
noncomputable def b_7:S:=(.cons (.asg 1 (.idx (.var 0) (.cint 0))) (.cons (.for1 2 (.var 0) (.cons (.ife (.call 6 (.cons (.var 2) (.cons (.var 1) .nil))) (.cons (.asg 1 (.var 2)) .nil) .nil) .nil)) (.cons (.ret (.var 1)) .nil)))
noncomputable def d_7:Fd:=⟨1,3,b_7⟩
noncomputable def b_8:S:=(.cons (.asg 1 (.idx (.var 0) (.cint 0))) (.cons (.for1 2 (.var 0) (.cons (.ife (.call 6 (.cons (.var 1) (.cons (.var 2) .nil))) (.cons (.asg 1 (.var 2)) .nil) .nil) .nil)) (.cons (.ret (.var 1)) .nil)))
noncomputable def d_8:Fd:=⟨1,3,b_8⟩
noncomputable def b_9:S:=(.cons (.ret (.bin .FloorDiv (.bin .Add (.bin .Mult (.cint 2) (.idx (.var 0) (.cint 0))) (.idx (.var 0) (.cint 1))) (.bin .Mult (.cint 2) (.idx (.var 0) (.cint 1))))) .nil)
noncomputable def d_9:Fd:=⟨1,1,b_9⟩
noncomputable def b_10:S:=(.cons (.ret (.call 3 (.cons (.var 0) (.cons (.call 5 (.cons (.var 2) (.cons (.call 4 (.cons (.var 1) (.cons (.var 0) .nil))) .nil))) .nil)))) .nil)
noncomputable def d_10:Fd:=⟨3,3,b_10⟩
noncomputable def b_11:S:=(.cons (.ife (.cmp .Lt (.var 1) (.blt .len (.cons (.var 0) .nil))) (.cons (.ret (.idx (.var 0) (.var 1))) .nil) .nil) (.cons (.ife (.cmp .Eq (.var 0) (.lst .nil)) (.cons (.ret (.cint 0)) .nil) .nil) (.cons (.ret (.bin .Add (.bin .Mult (.idx (.var 0) (.bin .Mod (.var 1) (.blt .len (.cons (.var 0) .nil)))) (.cint 31)) (.var 1))) .nil)))
noncomputable def d_11:Fd:=⟨2,2,b_11⟩
noncomputable def b_12:S:=(.cons (.asg 3 (.bin .Mod (.bin .Mult (.bin .Add (.call 11 (.cons (.var 0) (.cons (.var 1) .nil))) (.bin .Mult (.cint 6151) (.bin .Add (.var 1) (.cint 1)))) (.cint 40692)) (.cint 2147483399))) (.cons (.ret (.bin .Mod (.bin .Mod (.bin .Add (.bin .Mult (.var 3) (.var 3)) (.bin .FloorDiv (.var 3) (.cint 31))) (.cint 2147483629)) (.var 2))) .nil))
noncomputable def d_12:Fd:=⟨3,4,b_12⟩
noncomputable def b_13:S:=(.cons (.whl (.cmp .NotEq (.var 1) (.cint 0)) (.cons (.unp [0,1] (.tup (.cons (.var 1) (.cons (.bin .Mod (.var 0) (.var 1)) .nil)))) .nil)) (.cons (.ret (.blt .abs (.cons (.var 0) .nil))) .nil))
noncomputable def d_13:Fd:=⟨2,2,b_13⟩
noncomputable def b_14:S:=(.cons (.asg 2 (.bin .Mult (.call 13 (.cons (.var 0) (.cons (.var 1) .nil))) (.ife (.cmp .Gt (.var 1) (.cint 0)) (.cint 1) (.neg (.cint 1))))) (.cons (.ret (.tup (.cons (.bin .FloorDiv (.var 0) (.var 2)) (.cons (.bin .FloorDiv (.var 1) (.var 2)) .nil)))) .nil))
noncomputable def d_14:Fd:=⟨2,3,b_14⟩
noncomputable def b_15:S:=(.cons (.asg 2 (.bin .Add (.cint 1) (.call 12 (.cons (.var 0) (.cons (.var 1) (.cons (.cint 4) .nil)))))) (.cons (.ret (.call 14 (.cons (.bin .Sub (.call 12 (.cons (.var 0) (.cons (.bin .Add (.var 1) (.cint 1)) (.cons (.bin .Add (.bin .Mult (.cint 12) (.var 2)) (.cint 1)) .nil)))) (.bin .Mult (.cint 6) (.var 2))) (.cons (.var 2) .nil)))) .nil))
noncomputable def d_15:Fd:=⟨2,3,b_15⟩
noncomputable def b_16:S:=(.cons (.asg 2 (.bin .Add (.cint 1) (.call 12 (.cons (.var 0) (.cons (.var 1) (.cons (.cint 3) .nil)))))) (.cons (.ret (.call 14 (.cons (.bin .Add (.cint 1) (.call 12 (.cons (.var 0) (.cons (.bin .Add (.var 1) (.cint 1)) (.cons (.bin .Mult (.cint 6) (.var 2)) .nil))))) (.cons (.var 2) .nil)))) .nil))
noncomputable def d_16:Fd:=⟨2,3,b_16⟩
noncomputable def b_17:S:=(.cons (.ret (.call 14 (.cons (.bin .Add (.bin .Mult (.idx (.var 0) (.cint 0)) (.idx (.var 1) (.cint 1))) (.bin .Mult (.idx (.var 1) (.cint 0)) (.idx (.var 0) (.cint 1)))) (.cons (.bin .Mult (.idx (.var 0) (.cint 1)) (.idx (.var 1) (.cint 1))) .nil)))) .nil)
noncomputable def d_17:Fd:=⟨2,2,b_17⟩
noncomputable def b_18:S:=(.cons (.ret (.call 14 (.cons (.bin .Sub (.bin .Mult (.idx (.var 0) (.cint 0)) (.idx (.var 1) (.cint 1))) (.bin .Mult (.idx (.var 1) (.cint 0)) (.idx (.var 0) (.cint 1)))) (.cons (.bin .Mult (.idx (.var 0) (.cint 1)) (.idx (.var 1) (.cint 1))) .nil)))) .nil)
noncomputable def d_18:Fd:=⟨2,2,b_18⟩
noncomputable def b_19:S:=(.cons (.ret (.call 14 (.cons (.bin .Mult (.idx (.var 0) (.cint 0)) (.idx (.var 1) (.cint 0))) (.cons (.bin .Mult (.idx (.var 0) (.cint 1)) (.idx (.var 1) (.cint 1))) .nil)))) .nil)
noncomputable def d_19:Fd:=⟨2,2,b_19⟩
noncomputable def b_20:S:=(.cons (.ret (.call 14 (.cons (.bin .Mult (.idx (.var 0) (.cint 0)) (.idx (.var 1) (.cint 1))) (.cons (.bin .Mult (.idx (.var 0) (.cint 1)) (.idx (.var 1) (.cint 0))) .nil)))) .nil)
noncomputable def d_20:Fd:=⟨2,2,b_20⟩
noncomputable def b_21:S:=(.cons (.ret (.cmp .Lt (.bin .Mult (.idx (.var 0) (.cint 0)) (.idx (.var 1) (.cint 1))) (.bin .Mult (.idx (.var 1) (.cint 0)) (.idx (.var 0) (.cint 1))))) .nil)
noncomputable def d_21:Fd:=⟨2,2,b_21⟩
end VI.VP
end
section
namespace VI.VP
open PySem Fr
structure TabF(tab:Nat→Option Fd):Prop where
 h0:tab 0=some d_0
 h1:tab 1=some d_1
 h2:tab 2=some d_2
 h3:tab 3=some d_3
 h4:tab 4=some d_4
 h5:tab 5=some d_5
 h6:tab 6=some d_6
section
variable{x:Bool}{tab:Nat→Option Fd}{glo:Nat→R D}{sub:Nat→Nat→Bool}{n:Nat}
theorem JJ6{C:Cn}(one other:D):∀(m:Nat) (a b:Int) (z:Sl),z.isOwn=false→0≤a→0≤b→b.natAbs=m→∃z',whl1 C (.cmp .NotEq (.var 3) (.cint 0)) (.cons (.asg 4 (.bin .Mod (.var 2) (.var 3))) (.cons (.asg 2 (.var 3)) (.cons (.asg 3 (.var 4)) .nil)))
  [.val one,.val other,.val (.int a),.val (.int b),z]=.nx [.val one,.val other,.val (.int (a.gcd b)),.val (.int 0),z']:=by
 intro m
 induction m using Nat.strongRecOn with
 |ind m ih =>
  intro a b z hz ha hb hm
  by_cases h0:b=0
  ·subst h0;refine⟨z,?_⟩;have e:((a.gcd 0:Nat):Int)=a:=by simp;omega
   rw[e];exact JC3 (by dsimp![];simp)
  ·have hf:=JHa a b h0;obtain⟨z',h⟩:=ih (a.fmod b).natAbs (by omega) b (a.fmod b) (.val (.int (a.fmod b))) rfl hb (Int.fmod_nonneg_of_pos a (by omega)) rfl
   refine⟨z',?_⟩;rw[JGc]at h;rw[←h];refine JCv (by dsimp![];simp[h0]) ?_
   cases z with
   |own d=>cases hz
   |no=>dsimp![JE1 h0]
   |val d=>dsimp![JE1 h0]
theorem JNk(a b:Int):((if a<0 then -a else a).gcd (if b<0 then -b else b))=a.gcd b:=by
 split<;>split<;>simp
theorem JPU(T:TabF tab)(a b:Int):run x tab glo sub (n+1) 0 [.int a,.int b]=.ok (.int (a.gcd b)):=by
 rw[JAC T.h0,JAD rfl];obtain⟨z',h⟩:=JJ6 (C:=⟨run x tab glo sub n,glo,sub⟩) (.int a) (.int b) _ (if a<0 then -a else a) (if b<0 then -b else b) .no rfl (by split<;>omega) (by split<;>omega) rfl
 rw[JNk]at h
 dsimp![d_0,b_0,h]
theorem lt_iff(p q:Rat):p.num*q.den<q.num*p.den↔p<q:=(Rat.lt_iff p q).symm
structure TabL(tab:Nat→Option Fd):Prop where
 h11:tab 11=some d_11
 h12:tab 12=some d_12
 h13:tab 13=some d_13
 h14:tab 14=some d_14
 h15:tab 15=some d_15
 h16:tab 16=some d_16
 h17:tab 17=some d_17
 h18:tab 18=some d_18
 h19:tab 19=some d_19
 h20:tab 20=some d_20
 h21:tab 21=some d_21
theorem JJW{C:Cn}:∀(m:Nat) (a b:Int),b.natAbs=m→∃g:Int,g.natAbs=a.gcd b∧whl1 C (.cmp .NotEq (.var 1) (.cint 0)) (.cons (.unp [0,1] (.tup (.cons (.var 1) (.cons (.bin .Mod (.var 0) (.var 1)) .nil)))) .nil) [.val (.int a),.val (.int b)]=.nx [.val (.int g),.val (.int 0)]:=by
 intro m
 induction m using Nat.strongRecOn with
 |ind m ih =>
  intro a b hm
  by_cases h0:b=0
  ·subst h0;exact⟨a,by simp,JC3 (by dsimp![];simp)⟩
  ·have hf:=JHa a b h0;obtain⟨g,h1,h2⟩:=ih (a.fmod b).natAbs (by omega) b (a.fmod b) rfl
   refine⟨g,by rw[h1,JGc],?_⟩
   rw[←h2];refine JCv (by dsimp![];simp[h0]) ?_
   dsimp![JE1 h0,JA5,JCj,List.length_cons,List.length_nil]
theorem JDq(T:TabL tab)(a b:Int):run x tab glo sub (n+1) 13 [.int a,.int b]=.ok (.int (a.gcd b)):=by
 rw[JAC T.h13,JAD rfl];obtain⟨g,h1,h2⟩:=JJW (C:=⟨run x tab glo sub n,glo,sub⟩) _ a b rfl
 dsimp![d_13,b_13,h2]
 congr 2
 split<;>omega
theorem JI4(T:TabL tab)(a b:Int)(hb:b≠0)(lb:L b):run x tab glo sub (n+2) 14 [.int a,.int b]=.ok (F (Rat.divInt a b)):=by
 rw[JAC T.h14,JAD rfl];have hg:a.gcd b≠0:=by
  intro z;exact hb (Int.gcd_eq_zero_iff.mp z).2
 have lg:(a.gcd b)≤b.natAbs:=Int.gcd_le_natAbs_right _ hb;unfold L at lb;have q1:=JEV a b hb;have q2:=JGQ a b hb
 by_cases h:b<0
 ·rw[if_pos h]at q1 q2;have h':¬0<b:=by omega
  dsimp![d_14,b_14,JDq T,h',decide_true,decide_false,JF8 (i:=((a.gcd b:Nat):Int)) (j:=-1) (by decide),Int.mul_neg_one,JKJ (j:=-((a.gcd b:Nat):Int)) (by omega) (by unfold L;omega),q1,q2,F]
 ·rw[if_neg h]at q1 q2;have h':0<b:=by omega
  dsimp![d_14,b_14,JDq T,h',decide_true,decide_false,JF8 (i:=((a.gcd b:Nat):Int)) (j:=1) (by decide),Int.mul_one,JKJ (j:=((a.gcd b:Nat):Int)) (by omega) (by unfold L;omega),q1,q2,F]
abbrev sc(ns:List Int):D:=.list (ns.map λi=>.int i)
theorem JEl(ns:List Int):shaped (sc ns)=true:=by
 have h1:∀ns:List Int,PyData.canLayAll0 (ns.map λi=>PyData.int i)=true:=λns=>by
  induction ns with
  |nil=>rfl
  |cons a r ih=>simp only[List.map_cons,PyData.canLayAll0,PyData.canLay0,ih,Bool.and_self]
 have h2:∀ns:List Int,PyData.depthAll (ns.map λi=>PyData.int i)=0:=λns=>by
  induction ns with
  |nil=>rfl
  |cons a r ih=>simp only[List.map_cons,PyData.depthAll,PyData.depth,ih];rfl
 simp only[shaped,PyData.canLay0,h1,PyData.depth,h2];decide
theorem JFZ(ns:List Int):cmpD .Eq (sc ns) (.list [])=.ok (.bool ns.isEmpty):=by
 have:shaped (.list [])=true:=JEl [];simp only[cmpD,JEl,this,Bool.and_self,if_true];cases ns<;>simp[PyData.eqv,PyData.eqvAll]
theorem JLk(ns:List Int)(k:Int)(h0:0≤k)(h1:k<ns.length):∃i,idxD (sc ns) (.int k)=.ok (.int i):=by
 refine⟨ns[k.toNat]'(by omega),?_⟩
 simp only[sc,idxD,atI,ixN,List.length_map,if_pos h0,if_pos h1,Option.bind_some];rw[List.getElem?_map,List.getElem?_eq_getElem (by omega)]
 rfl
theorem JN1(T:TabL tab)(ns:List Int)(k:Int)(hk:0≤k):∃i,run x tab glo sub (n+1) 11 [sc ns,.int k]=.ok (.int i):=by
 rw[JAC T.h11,JAD rfl]
 by_cases h:k<ns.length
 ·obtain⟨i,hi⟩:=JLk ns k hk h;refine⟨i,?_⟩
  dsimp![d_11,b_11,List.length_map,h,decide_true,hi]
 ·have hd:decide (k<(ns.length:Int))=false:=decide_eq_false h
  by_cases hn:ns=[]
  ·refine⟨0,?_⟩;have e:cmpD .Eq (sc ns) (.list [])=.ok (.bool true):=by rw[JFZ,hn];rfl
   dsimp![d_11,b_11,List.length_map,hd,e]
  ·have hl:0<(ns.length:Int):=by
    have:=List.length_pos_iff.mpr hn;omega
   obtain⟨i,hi⟩:=JLk ns (k.fmod ns.length) (Int.fmod_nonneg_of_pos k hl) (Int.fmod_lt_of_pos k hl);refine⟨i*31+k,?_⟩;have e:cmpD .Eq (sc ns) (.list [])=.ok (.bool false):=by rw[JFZ];cases ns<;>simp at hn ⊢
   dsimp![d_11,b_11,List.length_map,hd,e,JE1 (i:=k) (j:=(ns.length:Int)) (by omega),hi,JF8 (i:=i) (j:=31) (by decide)]
theorem JCY(T:TabL tab)(ns:List Int)(k m:Int)(hk:0≤k)(hk2:k<2000000)(hm:0<m):∃i,0≤i∧i<m∧run x tab glo sub (n+2) 12 [sc ns,.int k,.int m]=.ok (.int i):=by
 rw[JAC T.h12,JAD rfl];obtain⟨c,hc⟩:=JN1 (x:=x) (glo:=glo) (sub:=sub) (n:=n) T ns k hk;obtain⟨d,hd⟩:∃d,d=((c+6151*(k+1))*40692).fmod 2147483399:=⟨_,rfl⟩;have hd0:0≤d:=by rw[hd];exact Int.fmod_nonneg_of_pos _ (by decide)
 have hd1:d<2147483399:=by rw[hd];exact Int.fmod_lt_of_pos _ (by decide)
 have hm1:binD .Mod (.int ((c+6151*(k+1))*40692)) (.int 2147483399)=.ok (.int d):=by rw[JE1 (by decide),hd]
 refine⟨((d*d+d.fdiv 31).fmod 2147483629).fmod m,Int.fmod_nonneg_of_pos _ hm,Int.fmod_lt_of_pos _ hm,?_⟩
 dsimp![d_12,b_12,hc,JDX (i:=6151) (j:=k+1) (by decide),JF8 (i:=c+6151*(k+1)) (j:=40692) (by decide),hm1,JDX (i:=d) (j:=d) (by omega),JKJ (i:=d) (j:=31) (by decide) (L.of (k:=10) (by decide) (by omega)),
  JE1 (j:=2147483629) (by decide),JE1 (j:=m) (show m≠0 by omega)]
structure Small(q:Rat):Prop where
 n:q.num.natAbs≤24
 d:q.den≤4
 w:q.num.natAbs≤6*q.den
theorem Small.sz{q:Rat}(h:Small q):Sz 5 q:=⟨by have:=h.n;omega,by have:=h.d;omega⟩
theorem Small.Q{q:Rat}(h:Small q):Q q:=h.sz.mono (by omega)
theorem JCi(a b:Int)(hb:0<b):∃g:Int,0<g∧a=(Rat.divInt a b).num*g∧b=((Rat.divInt a b).den:Int)*g:=by
 have hg:a.gcd b≠0:=by
  intro z;have:=(Int.gcd_eq_zero_iff.mp z).2;omega
 have q1:=JEV a b (by omega)
 have q2:=JGQ a b (by omega)
 rw[if_neg (by omega)]at q1 q2
 refine⟨((a.gcd b:Nat):Int),by omega,?_,?_⟩
 ·rw[←q1,JBc (Int.gcd_dvd_left ..),Int.ediv_mul_cancel (Int.gcd_dvd_left ..)]
 ·rw[←q2,JBc (Int.gcd_dvd_right ..),Int.ediv_mul_cancel (Int.gcd_dvd_right ..)]
theorem JEX(a b m:Int)(hb:0<b)(h1:-(m*b)≤a)(h2:a≤m*b):-(m*(Rat.divInt a b).den)≤(Rat.divInt a b).num∧(Rat.divInt a b).num≤m*(Rat.divInt a b).den:=by
 obtain⟨g,hg,e1,e2⟩:=JCi a b hb;generalize (Rat.divInt a b).num=u at *;generalize ((Rat.divInt a b).den:Int)=d at *;subst e1;subst e2;rw[←Int.mul_assoc]at h1 h2;constructor
 ·rw[←Int.neg_mul]at h1;exact Int.le_of_mul_le_mul_right h1 hg
 ·exact Int.le_of_mul_le_mul_right h2 hg
theorem JJY(T:TabL tab)(ns:List Int)(k:Int)(hk:0≤k)(hk2:k<1000000):∃q,Small q∧run x tab glo sub (n+3) 15 [sc ns,.int k]=.ok (F q):=by
 rw[JAC T.h15,JAD rfl];obtain⟨i,i0,i1,hi⟩:=JCY (x:=x) (glo:=glo) (sub:=sub) (n:=n) T ns k 4 hk (by omega) (by decide)
 obtain⟨j,j0,j1,hj⟩:=JCY (x:=x) (glo:=glo) (sub:=sub) (n:=n) T ns (k+1) (12*(1+i)+1) (by omega) (by omega) (by omega)
 refine⟨Rat.divInt (j - 6*(1+i)) (1+i),?_,?_⟩
 ·have h1:=JEX (j - 6*(1+i)) (1+i) 6 (by omega) (by omega) (by omega)
  have h2:=JIw (j - 6*(1+i)) (1+i) (by omega)
  have h3:=JGW (j - 6*(1+i)) (1+i) (by omega)
  exact⟨by omega,by omega,by omega⟩
 ·dsimp![d_15,b_15,hi,JDX (i:=12) (j:=1+i) (by decide),JDX (i:=6) (j:=1+i) (by decide),hj,JI4 T (j - 6*(1+i)) (1+i) (by omega) (L.of (k:=10) (by omega) (by omega))]
theorem JJL(T:TabL tab)(ns:List Int)(k:Int)(hk:0≤k)(hk2:k<1000000):∃q,Small q∧0<q∧q.den≤3∧run x tab glo sub (n+3) 16 [sc ns,.int k]=.ok (F q):=by
 rw[JAC T.h16,JAD rfl];obtain⟨i,i0,i1,hi⟩:=JCY (x:=x) (glo:=glo) (sub:=sub) (n:=n) T ns k 3 hk (by omega) (by decide)
 obtain⟨j,j0,j1,hj⟩:=JCY (x:=x) (glo:=glo) (sub:=sub) (n:=n) T ns (k+1) (6*(1+i)) (by omega) (by omega) (by omega)
 refine⟨Rat.divInt (1+j) (1+i),?_,?_,by have h3:=JGW (1+j) (1+i) (by omega);omega,?_⟩
 ·have h1:=JEX (1+j) (1+i) 6 (by omega) (by omega) (by omega)
  have h2:=JIw (1+j) (1+i) (by omega)
  have h3:=JGW (1+j) (1+i) (by omega)
  exact⟨by omega,by omega,by omega⟩
 ·rw[Rat.lt_iff];obtain⟨g,hg,e1,e2⟩:=JCi (1+j) (1+i) (by omega)
  have h:0<(Rat.divInt (1+j) (1+i)).num*g:=by omega
  have h2:=Int.pos_of_mul_pos_left h hg;simpa using h2
 ·dsimp![d_16,b_16,hi,JDX (i:=6) (j:=1+i) (by decide),hj,JI4 T (1+j) (1+i) (by omega) (L.of (k:=10) (by omega) (by omega))]
theorem JKS(T:TabL tab)(ns:List Int)(k:Int)(hk:0≤k)(hk2:k<1000000):∃q,Small q∧0<q∧run x tab glo sub (n+3) 16 [sc ns,.int k]=.ok (F q):=by
 obtain⟨q,h1,h2,_,h⟩:=JJL (x:=x) (glo:=glo) (sub:=sub) (n:=n) T ns k hk hk2;exact⟨q,h1,h2,h⟩
end
end VI.VP
end
section
namespace VI
open PySem PySem.Spec PyProof.Rows L2
section
variable{X:Cx}
theorem JHZ:MtR X "str.startswith" (λx vs H Q=>∃a b,x=.str a∧vs=[.str b]∧Q (.bl (Txt.startswith a b)) H):=by
 rintro pins s σ H x vs v us Q I rx rv ⟨a,b,rfl,rfl,q⟩;obtain⟨t,rfl⟩:=rx;obtain⟨u,rfl,ru⟩:=rv.one;obtain⟨t2,rfl⟩:=ru;exact SC.startswith ⟨.bl _,H,I,rfl,q⟩
theorem JEf{pins:Pq}{s:Shared}{σ:St}{H:Hp}{Q:VK}{a b c:Str}{ta tb tc:Tok}{k:Nat}(I:Inv X pins σ H s)
  (q:∀p,H p=none→Q (.ref p) (upd H p (.tup [.str a,.str b,.str c]))) :
  EP X pins σ Q (.ref s.heap.objs.size) { s with toks:=k,heap:=s.heap.push { cls:=.type "tuple",data:=.seq [.str a ta,.str b tb,.str c tc].toArray } }:=by
 refine⟨.ref s.heap.objs.size,_,I.laid (t':=k) (λb o e=>Heap.get?_push_of_some _ e) (Nat.le_refl _) (o:=.tup [.str a,.str b,.str c]) ⟨by show 3≤sizeLine;decide,[.str a ta,.str b tb,.str c tc],.cons ⟨_,rfl⟩ (.cons ⟨_,rfl⟩ (.cons ⟨_,rfl⟩ .nil)),?_⟩,rfl,q _ (I.hok.fresh (Nat.le_refl _))⟩
 exact IsTup.new s.heap _
theorem JMe:MtR X "str.partition" (λx vs H Q=>∃a b,x=.str a∧vs=[.str b]∧(b.length==0)=false∧a.length≤sizeLine ∧
  ∀p,H p=none→Q (.ref p) (upd H p (.tup [.str (Txt.partition a b).1,.str (Txt.partition a b).2.1,.str (Txt.partition a b).2.2]))):=by
 rintro pins s σ H x vs v us Q I rx rv ⟨a,b,rfl,rfl,hb,ha,q⟩;obtain⟨t,rfl⟩:=rx;obtain⟨u,rfl,ru⟩:=rv.one;obtain⟨t2,rfl⟩:=ru;refine call_meets F.slot_str_partition (typeIs_str _ _ _) F.entry_str_partition (F.args_str_partition_2 _ _) (meets_str_partition a b t t2 hb ha) ?_;unfold Txt.partition at q
 revert q
 cases Builtin.Str.occurrences a b 0 a.length 1 with
 |nil=>intro q;exact JEf I q
 |cons i r=>intro q;exact JEf I q
theorem JFN:∀ {vs:List Value}{ss:List Str},StrsAre vs ss→Vals (ss.map V.str) vs
 |_,_,.nil=>.nil
 |_,_,.cons x t h=>.cons ⟨t,rfl⟩ (JFN h)
theorem JDE{pins:Pq}{s:Shared}{σ:St}{H:Hp}{Q:VK}{zs:List Str}{l:List (Str×Tok)}{k:Nat}(I:Inv X pins σ H s)(e:l.map (·.1)=zs)(hz:zs.length≤sizeLine)
  (q:∀p,H p=none→Q (.ref p) (upd H p (.lst (zs.map V.str)))) :
  EP X pins σ Q (.ref s.heap.objs.size) { s with toks:=k,heap:=s.heap.push { cls:=.type "list",data:=.seq (strValues l).toArray } }:=by
 refine⟨.ref s.heap.objs.size,_,I.laid (t':=k) (λb o e=>Heap.get?_push_of_some _ e) (Nat.le_refl _) (o:=.lst (zs.map V.str)) ⟨by rw[List.length_map];exact hz,strValues l,0,?_,Heap.get?_push_size _ rfl⟩,rfl,q _ (I.hok.fresh (Nat.le_refl _))⟩
 rw[←e];exact JFN (strsAre_of_values l)
theorem JJV:MtR X "str.split" (λx vs H Q=>∃a b,x=.str a∧vs=[.str b]∧(b.length==0)=false∧a.length+2≤sizeLine ∧
  ∀p,H p=none→Q (.ref p) (upd H p (.lst ((Txt.split a b).map V.str)))):=by
 rintro pins s σ H x vs v us Q I rx rv ⟨a,b,rfl,rfl,hb,ha,q⟩;obtain⟨t,rfl⟩:=rx;obtain⟨u,rfl,ru⟩:=rv.one;obtain⟨t2,rfl⟩:=ru;have hn:(Builtin.Str.partsBetween a (Builtin.Str.occurrences a b 0 a.length (a.length+1)) b.length).length≤sizeLine:=by
  have e1:=StrLaws.occ_length_le a b 0 a.length (a.length+1);rw[length_partsBetween];omega
 cases h1:(decide (a.length<b.length) || decide (Builtin.Str.strKind a<Builtin.Str.strKind b))
 ·cases hf:(Builtin.Str.occurrences a b 0 a.length (a.length+1)).isEmpty
  ·refine call_meets F.slot_str_split (typeIs_str _ _ _) F.entry_str_split (F.args_str_split_2 _ _) (meets_str_split_sep a b t t2 h1 hb hf (by omega) hn) ?_
   show EP X pins σ Q _ { s with toks:=_,heap:=s.heap.push { cls:=.type "list",data:=.seq (strsFrom s.toks (Builtin.Str.partsBetween a (Builtin.Str.occurrences a b 0 a.length (a.length+1)) b.length)).toArray } }
   have ee:Txt.split a b=Builtin.Str.partsBetween a (Builtin.Str.occurrences a b 0 a.length (a.length+1)) b.length:=(if_neg (Bool.eq_false_iff.mp h1)).trans (if_neg (Bool.eq_false_iff.mp hf));rw[strsFrom_eq];exact JDE I ((numbered_texts _ _).trans ee.symm) (ee▸hn) q
  ·have ee:Txt.split a b=[a]:=(if_neg (Bool.eq_false_iff.mp h1)).trans (if_pos hf);exact call_meets F.slot_str_split (typeIs_str _ _ _) F.entry_str_split (F.args_str_split_2 _ _) (meets_str_split_not_found a b t t2 h1 hb hf) (JDE (l:=[(a,t)]) I ee.symm (by rw[ee];show 1≤sizeLine;decide) q)
 ·have ee:Txt.split a b=[a]:=if_pos h1;exact call_meets F.slot_str_split (typeIs_str _ _ _) F.entry_str_split (F.args_str_split_2 _ _) (meets_str_split_cannot_occur a b t t2 h1) (JDE (l:=[(a,t)]) I ee.symm (by rw[ee];show 1≤sizeLine;decide) q)
theorem JDe:∀ {ss:List Str}{vs:List Value},Vals (ss.map V.str) vs→∃l:List (Str×Tok),strValues l=vs∧l.map (·.1)=ss
 | [],_,h=>by cases h;exact⟨[],rfl,rfl⟩
 |x::r,_,h=>by
  cases h with
  |cons p q =>
   obtain⟨t,rfl⟩:=p;obtain⟨l,e1,e2⟩:=JDe q;exact⟨(x,t)::l,by rw[←e1];rfl,by rw[←e2];rfl⟩
theorem JMp:MtR X "str.join" (λx vs H Q=>∃a l zs,x=.str a∧vs=[.ref l]∧SqL X.K H l (zs.map V.str)∧JoinOk a zs=true∧Q (.str (Txt.join a zs)) H):=by
 rintro pins s σ H x vs v us Q I rx rv ⟨a,l,zs,rfl,rfl,hq,ok,q⟩;obtain⟨t,rfl⟩:=rx;obtain⟨u,rfl,ru⟩:=rv.one;cases ru;obtain⟨its,r,pl,hz⟩:=I.list hq;obtain⟨ps,e1,e2⟩:=JDe r;subst e1;exact SC.join pl.isList e2 ok λt' k=>⟨.str _,H,I.tok k,⟨t',rfl⟩,q⟩
theorem JEw:CallR X (.type "int") (λxs H Q=>∃a n,xs=[.str a]∧a.length≤640∧intText? a=some n∧Q (.int n) H):=by
 rintro pins s σ H xs us Q I r ⟨a,n,rfl,hl,hn,q⟩;obtain⟨u,rfl,t,rfl⟩:=vals1 r;exact W.KIN.call_text hn hl ⟨.int n,H,I.tok _,⟨_,rfl⟩,q⟩
theorem part_of{v:Value}{o:Option Int}(h:IsPart v o):∃l:Option (Int×Tok),v=partValue l∧l.map (·.1)=o:=by
 cases h with
 |none=>exact⟨none,rfl,rfl⟩
 |int i t=>exact⟨some (i,t),rfl,rfl⟩
theorem JLE:SlR X (λx lo hi H Q=>∃a,x=.str a∧a.length≤sizeLine∧Q (.str (Txt.slice a lo hi)) H):=by
 rintro pins s σ H x v vl vu lo hi sl Q I rx hs pl pu ⟨a,rfl,hz,q⟩;obtain⟨t,rfl⟩:=rx;obtain⟨l,rfl,rfl⟩:=part_of pl;obtain⟨u,rfl,rfl⟩:=part_of pu;refine⟨"str",_,F.slot_str_getitem.lookup,typeIs_str _ _ _,wpAny_getItem_str_slice (l:=l) (u:=u) (st:=none) hs rfl ?_⟩;exact post_val_or_str ⟨Nat.le_trans (Txt.slice_le a _ _) hz,λt' k=>⟨.str _,H,I.tok k,⟨t',rfl⟩,q⟩⟩
theorem JMj{e:Expr}{te:TE}{pos:Pos}(he:PE X e te):PE X (.FormattedValue e (-1) none pos) (λσ H Q=>te σ H λx H1=>∃i,x=.int i∧i.natAbs.log2<1920∧Q (.str (toString i)) H1):=by
 intro pins s σ H Q I h;refine wpAny_FormattedValue_plain (thn (he pins s σ H _ I h) λv s1 h_=>?_);obtain⟨x,H1,I1,r1,i,rfl,hd,q⟩:=h_;obtain⟨t,rfl⟩:=r1;exact wpAny_formatField_int hd ⟨.str _,H1,I1.tok _,⟨_,rfl⟩,q⟩
theorem JQc{e:Expr}{te:TE}{pos:Pos}(he:PE X e te):PE X (.JoinedStr [e] pos) te:=λpins s σ H Q I h=>wpAny_JoinedStr_one (he pins s σ H Q I h)
theorem JRF{a b c:Expr}{ta tb tc:TE}{pos:Pos}(ha:PE X a ta)(hb:PE X b tb)(hc:PE X c tc):PE X (.JoinedStr [a,b,c] pos)
  (λσ H Q=>ta σ H λx H1=>∃p,x=.str p∧p.length≤sizeLine∧tb σ H1 λy H2=>∃q,y=.str q∧(p++q).length≤sizeLine∧tc σ H2 λz H3=>∃r,z=.str r∧(p++q++r).length≤sizeLine∧Q (.str (p++q++r)) H3):=by
 intro pins s σ H Q I h;refine wpAny_JoinedStr ?_;show wpAny _ _ (eval a X.env) _ _ s;refine thn (ha pins s σ H _ I h) λv s1 h_=>?_;obtain⟨x,H1,I1,r1,p,rfl,l1,h1⟩:=h_;obtain⟨t1,rfl⟩:=r1;refine⟨p,t1,rfl,by rw[Str.empty_append];exact l1,?_⟩
 rw[Str.empty_append];show wpAny _ _ (eval b X.env) _ _ s1;refine thn (hb pins s1 σ H1 _ I1 h1) λv s2 h_=>?_;obtain⟨y,H2,I2,r2,q,rfl,l2,h2⟩:=h_;obtain⟨t2,rfl⟩:=r2;refine⟨q,t2,rfl,l2,?_⟩;show wpAny _ _ (eval c X.env) _ _ s2;refine thn (hc pins s2 σ H2 _ I2 h2) λv s3 h_=>?_;obtain⟨z,H3,I3,r3,r,rfl,l3,h3⟩:=h_;obtain⟨t3,rfl⟩:=r3;exact⟨r,t3,rfl,l3,l3,.str _,H3,I3.tok _,⟨_,rfl⟩,h3⟩
end
end VI
end
section
namespace VI
open PySem PySem.Spec PyProof.Rows L2
section
variable{X:Cx}{B:Bs}{C:Cn}{CX:CXT}{XX:Nat→Hp→Prop}{G:List (Str×GK)}
theorem pes1{a:Expr}{y:E}(h:PEs X B C XX [a] y):∃x,y=.cons x .nil∧PE X a (RE B C XX x):=by
 cases y<;>try exact fF h
 rename_i x r;obtain⟨h1,h2⟩:=h;cases r<;>try exact fF h2
 exact⟨x,rfl,h1⟩
theorem pes2{a b:Expr}{y:E}(h:PEs X B C XX [a,b] y):∃x z,y=.cons x (.cons z .nil)∧PE X a (RE B C XX x)∧PE X b (RE B C XX z):=by
 cases y<;>try exact fF h
 rename_i x r;obtain⟨h1,h2⟩:=h;obtain⟨z,rfl,h3⟩:=pes1 h2;exact⟨x,z,rfl,h1,h3⟩
theorem ev1{k:XO}{x:E}(δ:Env):ev C (.xop k (.cons x .nil)) δ=(ev C x δ).bind λd=>xE C k [d]:=by
 simp only[ev,evA];cases ev C x δ<;>rfl
theorem ev2{k:XO}{x y:E}(δ:Env):ev C (.xop k (.cons x (.cons y .nil))) δ=(ev C x δ).bind λd=>(ev C y δ).bind λd'=>xE C k [d,d']:=by
 simp only[ev,evA];cases ev C x δ<;>cases ev C y δ<;>rfl
theorem JCC{x:Str}{e:Expr}(h:isS x e=true):∃j p,e=.Constant (.str x) j p:=by
 unfold isS at h
 split at h
 ·cases of_decide_eq_true h;exact⟨_,_,rfl⟩
 ·cases h
theorem JDM{a e:Expr}(h:fvOf a=some e):∃p,a=.FormattedValue e (-1) none p:=by
 unfold fvOf at h
 split at h
 ·split at h
  ·rename_i hk;subst hk;cases h;exact⟨_,rfl⟩
  ·cases h
 ·cases h
theorem one1(g:Gk X B C CX XX G){k:XO}{x:E}{σ:St}{H:Hp}{Q:VK}{r:V→Hp→VK→Prop}(hr:∀v H d,Den B H d v→KE B XX (xE C k [d]) H Q→r v H Q)(h:RE B C XX (.xop k (.cons x .nil)) σ H Q):RE B C XX x σ H λv H1=>r v H1 Q:=by
 obtain⟨δ,ok,kk⟩:=h;rw[ev1]at kk;exact RE.of (W:=λr H=>KE B XX r H Q) ok (λ_ _ z=>z) (λ_ z=>z) kk λd v H1 s1 d1 h1=>hr v H1 d d1 (KE.mono g s1 h1)
theorem two2(g:Gk X B C CX XX G){k:XO}{x y:E}{σ:St}{H:Hp}{Q:VK}{r:V→V→Hp→VK→Prop}(hr:∀v u H d d',Den B H d v→Den B H d' u→KE B XX (xE C k [d,d']) H Q→r v u H Q)(h:RE B C XX (.xop k (.cons x (.cons y .nil))) σ H Q):RE B C XX x σ H λv H1=>RE B C XX y σ H1 λu H2=>r v u H2 Q:=by
 obtain⟨δ,ok,kk⟩:=h;rw[ev2]at kk;exact two g (r:=r) (λv u H d d' h1 h2 h3=>hr v u H d d' h1 h2 h3) ⟨δ,ok,kk⟩
theorem JLc(g:Gk X B C CX XX G){v:V}{H:Hp}{d:D}{Q:VK}(d1:Den B H d v)(h:KE B XX (xE C .txi [d]) H Q):∃i,v=.int i∧i.natAbs.log2<1920∧Q (.str (toString i)) H:=by
 replace h:KE B XX (tD .txi [d]) H Q:=h
 cases d<;>first|exact fF h|skip
 rename_i i;simp only[Den]at d1;simp only[tD]at h
 split at h
 ·rename_i hi;exact⟨i,d1,hi,KE.ok h (by simp only[Den];rfl)⟩
 ·exact h.elim
theorem x_str(g:Gk X B C CX XX G){a:Expr}{x:E}{p pos:Pos}(hg:Gl X "str")(hm:X.mg "str"=none)(ha:PE X a (RE B C XX x))(hs:∀es env,starEach (a::es) env=(false,eval a env)::starEach es env):PE X (.Call (.Name "str" p) [a] [] pos) (RE B C XX (.xop .txi (.cons x .nil))):=by
 refine PE.imp (JDC (es:=[]) JE6 hg hm (by decide +kernel) (JAM ha JAi (hs _ _)) (by decide) (by decide) (hs _ _) rfl) λσ H Q h=>?_
 refine one1 g (r:=λv H Q=>∃i,[v]=[.int i]∧i.natAbs.log2<1920∧Q (.str (toString i)) H) (λv H d d1 h1=>?_) h;obtain⟨i,rfl,h2,h3⟩:=JLc g d1 h1;exact⟨i,rfl,h2,h3⟩
theorem x_int(g:Gk X B C CX XX G){a:Expr}{x:E}{p pos:Pos}(hg:Gl X "int")(hm:X.mg "int"=none)(ha:PE X a (RE B C XX x))(hs:∀es env,starEach (a::es) env=(false,eval a env)::starEach es env):PE X (.Call (.Name "int" p) [a] [] pos) (RE B C XX (.xop .tin (.cons x .nil))):=by
 refine PE.imp (JDC (es:=[]) JEw hg hm (by decide +kernel) (JAM ha JAi (hs _ _)) (by decide) (by decide) (hs _ _) rfl) λσ H Q h=>?_
 refine one1 g (r:=λv H Q=>∃a n,[v]=[.str a]∧a.length≤640∧intText? a=some n∧Q (.int n) H) (λv H d d1 h1=>?_) h
 replace h1:KE B XX (tD .tin [d]) H Q:=h1
 cases d<;>first|exact fF h1|skip
 rename_i a;simp only[Den]at d1;subst d1;simp only[tD,tinD]at h1
 split at h1
 ·split at h1
  ·rename_i n hn hl;exact⟨a,n,rfl,hl,hn,KE.ok h1 (by simp only[Den])⟩
  ·exact h1.elim
 ·exact h1.elim
theorem x_fv(g:Gk X B C CX XX G){a:Expr}{x:E}{p pos:Pos}(ha:PE X a (RE B C XX x)):PE X (.JoinedStr [.FormattedValue a (-1) none p] pos) (RE B C XX (.xop .txi (.cons x .nil))):=by
 refine PE.imp (JQc (JMj ha)) λσ H Q h=>?_;exact one1 g (r:=λv H Q=>∃i,v=.int i∧i.natAbs.log2<1920∧Q (.str (toString i)) H) (λv H d d1 h1=>JLc g d1 h1) h
theorem JHp{δ:Env}{i c:Nat}:look δ i≠.exc c:=by
 unfold look;cases δ[i]? with
 |none=>exact λz=>by cases z
 |some s =>
  cases s with
  |no=>exact λz=>by cases z
  |val d=>exact λz=>by cases z
  |own d=>cases d<;>exact λz=>by cases z
theorem JND(g:Gk X B C CX XX G){a b:Expr}{x z:E}{n:Nat}{names:Nq}{N:List Str}(hb:isNm b=true)(h:JAH (JAN G n false names N) [a,b]=some (.cons x (.cons z .nil)))(ht:∀nm p,xOf G names false (.Name nm p)=none)(δ:Env)(c:Nat):ev C z δ≠.exc c:=by
 unfold JAH at h;obtain⟨x',_,h⟩:=Option.bind_eq_some_iff.mp h;obtain⟨y',h2,h⟩:=Option.bind_eq_some_iff.mp h;cases h;unfold JAH at h2;obtain⟨z',h3,h2⟩:=Option.bind_eq_some_iff.mp h2;obtain⟨w,h4,h2⟩:=Option.bind_eq_some_iff.mp h2;cases h2;obtain⟨nm,p,rfl⟩:∃nm p,b=.Name nm p:=by
  unfold isNm at hb
  split at hb
  ·exact⟨_,_,rfl⟩
  ·cases hb
 cases n with
 |zero=>simp[JAN]at h3
 |succ n =>
  rw[JAA (ht nm p)]at h3
  dsimp only[JAO]at h3
  split at h3
  ·cases h3
  ·split at h3
   ·obtain⟨i,_,e⟩:=Option.map_eq_some_iff.mp h3;subst e;simp only[ev];exact JHp
   ·split at h3
    ·cases h3;simp only[ev];exact g.noexg _ c
    ·cases h3
theorem JRI(h:G.lookup (".dict":Str)=none){names:Nq}(nm:Str)(p:Pos):xOf G names false (.Name nm p)=none:=by
 unfold xOf dOf;simp only[dRaw,Option.bind_none,tOf,tRaw,ite_self,xRaw]
theorem x_fr(g:Gk X B C CX XX G){a b:Expr}{x y:E}{p p2 p3 pos:Pos}{j:Nat}(hx:∀δ c,ev C y δ≠.exc c)(ha:PE X a (RE B C XX x))(hb:PE X b (RE B C XX y)):PE X (.JoinedStr [.FormattedValue a (-1) none p,.Constant (.str "/") j p2,.FormattedValue b (-1) none p3] pos) (RE B C XX (.xop .tfr (.cons x (.cons y .nil)))):=by
 refine PE.imp (JRF (JMj ha) JCg (JMj hb)) λσ H Q h=>?_;obtain⟨δ,ok,kk⟩:=h;rw[ev2]at kk;refine RE.of (W:=λr H=>KE B XX r H Q) ok (λ_ _ z=>z) (λ_ z=>z) kk λd v H1 s1 d1 h1=>?_
 replace h1:=KE.mono g s1 h1
 cases qy:ev C y δ with
 |exc c=>exact absurd qy (hx δ c)
 |bad=>rw[qy]at h1;exact h1.elim
 |ok e =>
  rw[qy]at h1
  replace h1:KE B XX (tD .tfr [d,e]) H1 Q:=h1
  cases d<;>first|exact fF h1|skip
  cases e<;>first|exact fF h1|skip
  rename_i i k;simp only[tD]at h1
  split at h1
  ·rename_i hc;obtain⟨c1,c2,c3⟩:=hc;simp only[Den]at d1;have l1:((VP.tx i).length:Nat)≤sizeLine:=by
    rw[sizeLine_eq];rw[Str.length_append,Str.length_append]at c3;omega
   have l2:(VP.tx i++"/").length≤sizeLine:=by
    rw[sizeLine_eq];rw[Str.length_append]at c3;omega
   refine⟨i,d1,c1,VP.tx i,rfl,l1,"/",rfl,l2,?_⟩;refine⟨δ,ok.mono s1,?_⟩;rw[qy];intro u H2 s2 d2;simp only[Den]at d2;refine⟨k,d2,c2,VP.tx k,rfl,by rw[sizeLine_eq];exact c3,?_⟩
   exact h1 _ _ s2 (by simp only[Den])
  ·exact h1.elim
theorem JGi{H:Hp}:∀(ys:List D) (xs:List V) (zs:List Str),strsOf ys=some zs→DenL B H ys xs→xs=zs.map V.str
 | [],xs,zs,hz,dl=>by simp only[strsOf,Option.some.injEq]at hz;subst hz;simp only[DenL]at dl;subst dl;rfl
 |y::r,xs,zs,hz,dl=>by
  cases y<;>simp only[strsOf,reduceCtorEq]at hz;obtain⟨w,hw,e⟩:=Option.map_eq_some_iff.mp hz;subst e;simp only[DenL,Den]at dl;obtain⟨v,r',e1,e2,e3⟩:=dl;subst e1;subst e2;rw[JGi r _ _ hw e3];rfl
theorem x_jn(g:Gk X B C CX XX G){a:Expr}{x:E}{p ap cp:Pos}{j:Nat}(hl:(ap.endLine==cp.line)=true)(ha:PE X a (RE B C XX x))(hs:∀es env,starEach (a::es) env=(false,eval a env)::starEach es env):PE X (.Call (.Attribute (.Constant (.str " ") j p) "join" ap) [a] [] cp) (RE B C XX (.xop .jn (.cons x .nil))):=by
 refine PE.imp (JEo PySem.F.plainAttrs_str PySem.F.slot_str_join PySem.F.type_str_join JMp JCg (JAM ha JAi (hs _ _)) rfl (few1 (hs _ _)) hl (hs _ _) rfl) λσ H Q h=>?_;refine⟨rfl,?_⟩;refine one1 g (r:=λv H Q=>∃a l zs,V.str " "=.str a∧[v]=[.ref l]∧SqL X.K H l (zs.map V.str)∧JoinOk a zs=true∧Q (.str (Txt.join a zs)) H) (λv H d d1 h1=>?_) h
 replace h1:KE B XX (tD .jn [d]) H Q:=h1
 cases d<;>first|exact fF h1|skip
 rename_i ys;simp only[Den]at d1;obtain⟨l,xs,rfl,sq,dl⟩:=d1;simp only[tD,jnD]at h1
 split at h1
 ·rename_i zs hz
  split at h1
  ·rename_i hj;have e:xs=zs.map V.str:=JGi ys xs zs hz dl;subst e;exact⟨" ",l,zs,rfl,rfl,g.K▸sq,hj,KE.ok h1 (by simp only[Den])⟩
  ·exact h1.elim
 ·exact h1.elim
theorem x_me(g:Gk X B C CX XX G){o:Expr}{x:E}{p ap cp:Pos}{j:Nat}{m w:Str}{id:String}{k:XO}{r:V→List V→Hp→VK→Prop}(slot:Slot "str" m id)(hty:typeOf (.builtin id)=pure (.type "method_descriptor"))(hm:MtR X id r)(ho:JAk o=false)(hl:(ap.endLine==cp.line)=true)(hx:PE X o (RE B C XX x))
  (hk:∀d H Q,KE B XX (xE C k [d]) H Q→∃a,d=.str a∧r (.str a) [.str w] H Q):PE X (.Call (.Attribute o m ap) [.Constant (.str w) j p] [] cp) (RE B C XX (.xop k (.cons x .nil))):=by
 refine PE.imp (JEo PySem.F.plainAttrs_str slot hty hm hx (JAM JCg JAi) (JC8 ho _ _ _) (few1 rfl) hl rfl rfl) λσ H Q h=>?_;refine one1 g (r:=λv H Q=>tyV X.K "str" v H∧r v [.str w] H Q) (λv H d d1 h1=>?_) h;obtain⟨a,rfl,h2⟩:=hk d H Q h1;simp only[Den]at d1;subst d1;exact⟨rfl,h2⟩
theorem x_stw(g:Gk X B C CX XX G){o:Expr}{x:E}{p ap cp:Pos}{j:Nat}(ho:JAk o=false)(hl:(ap.endLine==cp.line)=true)(hx:PE X o (RE B C XX x)):PE X (.Call (.Attribute o "startswith" ap) [.Constant (.str "-") j p] [] cp) (RE B C XX (.xop .stw (.cons x .nil))) :=
 x_me g PySem.F.slot_str_startswith PySem.F.type_str_startswith JHZ ho hl hx λd H Q h=>by
  replace h:KE B XX (tD .stw [d]) H Q:=h
  cases d<;>first|exact fF h|skip
  rename_i a;exact⟨a,rfl,a,"-",rfl,rfl,KE.ok h (by simp only[Den])⟩
theorem x_prt(g:Gk X B C CX XX G){o:Expr}{x:E}{p ap cp:Pos}{j:Nat}(ho:JAk o=false)(hl:(ap.endLine==cp.line)=true)(hx:PE X o (RE B C XX x)):PE X (.Call (.Attribute o "partition" ap) [.Constant (.str "/") j p] [] cp) (RE B C XX (.xop .prt (.cons x .nil))) :=
 x_me g PySem.F.slot_str_partition PySem.F.type_str_partition JMe ho hl hx λd H Q h=>by
  replace h:KE B XX (tD .prt [d]) H Q:=h
  cases d<;>first|exact fF h|skip
  rename_i a;simp only[tD]at h
  split at h
  ·rename_i hz;refine⟨a,rfl,a,"/",rfl,rfl,by decide +kernel,by rw[sizeLine_eq];exact hz,λq hq=>?_⟩
   have sm:Same H (upd H q (.tup [.str (Txt.partition a "/").1,.str (Txt.partition a "/").2.1,.str (Txt.partition a "/").2.2])):=JBd hq;refine h _ _ sm ?_;simp only[Den];exact⟨q,_,rfl,SqT.of JAK,by simp[DenL,Den]⟩
  ·exact h.elim
theorem x_cf(g:Gk X B C CX XX G){a b:Expr}{x y:E}{p pos:Pos}(ha:PE X a (RE B C XX x))(hb:PE X b (RE B C XX y)):PE X (.Subscript a (.Slice (some b) none none p) pos) (RE B C XX (.xop .tcf (.cons x (.cons y .nil)))):=by
 refine PE.imp (JD2 JLE ha (JER hb) JFl) λσ H Q h=>?_;refine two2 g (r:=λv u H Q=>∃i,u=.int i∧∃a,v=.str a∧a.length≤sizeLine∧Q (.str (Txt.slice a (some i) none)) H) (λv u H d d' d1 d2 h1=>?_) h
 replace h1:KE B XX (tD .tcf [d,d']) H Q:=h1
 cases d<;>first|exact fF h1|skip
 cases d'<;>first|exact fF h1|skip
 simp only[Den]at d1 d2;simp only[tD]at h1
 split at h1
 ·rename_i hz;exact⟨_,d2,_,d1,by rw[sizeLine_eq];exact hz,KE.ok h1 (by simp only[Den])⟩
 ·exact h1.elim
theorem x_ct(g:Gk X B C CX XX G){a b:Expr}{x y:E}{p pos:Pos}(ha:PE X a (RE B C XX x))(hb:PE X b (RE B C XX y)):PE X (.Subscript a (.Slice none (some b) none p) pos) (RE B C XX (.xop .tct (.cons x (.cons y .nil)))):=by
 refine PE.imp (JD2 JLE ha JFl (JER hb)) λσ H Q h=>?_;refine two2 g (r:=λv u H Q=>∃i,u=.int i∧∃a,v=.str a∧a.length≤sizeLine∧Q (.str (Txt.slice a none (some i))) H) (λv u H d d' d1 d2 h1=>?_) h
 replace h1:KE B XX (tD .tct [d,d']) H Q:=h1
 cases d<;>first|exact fF h1|skip
 cases d'<;>first|exact fF h1|skip
 simp only[Den]at d1 d2;simp only[tD]at h1
 split at h1
 ·rename_i hz;exact⟨_,d2,_,d1,by rw[sizeLine_eq];exact hz,KE.ok h1 (by simp only[Den])⟩
 ·exact h1.elim
theorem x_tkp(g:Gk X B C CX XX G)(hT:G.lookup ("take_plan":Str)=some GK.opt){o:Expr}{x:E}{p p2 p3 p4 ap cp:Pos}{j:Nat}(hg:Gl X "take_plan")(hd:Gl X "DEEPEST")(ho:JAk o=false)(hl:(ap.endLine==cp.line)=true)(hx:PE X o (RE B C XX x)) :
  PE X (.Call (.Name "take_plan" p) [.Call (.Attribute o "split" ap) [.Constant (.str " ") j p2] [] cp,.Name "DEEPEST" p3] [] p4) (RE B C XX (.xop .tkp (.cons x .nil))):=by
 obtain⟨⟨t5,hD⟩,hz,hs,f,fd,ps,k,hm,hk,F,hr,hb⟩:=g.tk hT;have hv:PE X (.Name "DEEPEST" p3) (tC (.int 5)):=JFr hd hD ⟨t5,rfl⟩ (by decide)
 refine PE.imp (JBh F hr hg hm hk hb .nil g.pas (JAM (JEo PySem.F.plainAttrs_str PySem.F.slot_str_split PySem.F.type_str_split JJV hx (JAM JCg JAi) (JC8 ho _ _ _) (few1 rfl) hl rfl rfl) (JAM hv JAi))) λσ H Q h=>?_;refine one1 g (r:=λv H Q=>tyV X.K "str" v H∧∃a b,v=.str a∧[V.str " "]=[.str b]∧(b.length==0)=false∧a.length+2≤sizeLine∧∀p,H p=none→tkSp B (C.fn 900) [.ref p,.int 5] (upd H p (.lst ((Txt.split a b).map V.str))) Q (EX B XX)) (λv H d d1 h1=>?_) h
 replace h1:KE B XX (C.fn 900 [d]) H Q:=h1
 have hne:C.fn 900 [d]≠.bad:=λz=>by rw[z]at h1;exact h1
 obtain⟨a,e⟩:=hs _ hne;cases e;simp only[Den]at d1;subst d1;have:=hz a hne;refine⟨rfl,a," ",rfl,rfl,by decide +kernel,by rw[sizeLine_eq];omega,λq hq=>⟨q,a,rfl,JAK,?_⟩⟩
 have hh:∀H',Same (λb=>if b=q then none else upd H q (.lst ((Txt.split a " ").map V.str)) b) H'→Same H H':=λH' s b o e=>by
  have nb:=JAY e hq;exact s b o (by simp only[if_neg nb];rw[JAI nb];exact e)
 cases q2:C.fn 900 [.str a] with
 |ok d=>rw[q2]at h1;exact λv H' s dn=>h1 v H' (hh H' s) dn
 |exc c=>rw[q2]at h1;exact λH' s=>⟨c,rfl,g.anti c _ _ (hh H' s) h1⟩
 |bad=>exact hne q2
theorem t_ok(h:G.lookup (".dict":Str)=none):TOk B C CX G:=by
 intro X XX g e k args y hr hp hs hc;obtain⟨n,N,hc⟩:=hc;have no:∀ {e:Expr}{x:E}{k:XO}{ys:E},k.isT=false→PE X e (RE B C XX (.xop k ys))→PE X e (RE B C XX (.xop k ys))∧PT X e (RT B C XX (.xop k ys)):=λ{e x k ys} hk h1=>⟨h1,JQB λδ=>by simp only[evT,hk,Bool.false_eq_true,if_false]⟩
 unfold tRaw at hr
 split at hr
 ·rename_i f p a pos;unfold tC1 at hr
  split at hr
  ·rename_i q;obtain⟨rfl,q⟩:=q;obtain⟨_,h3,h4⟩:=JAy q;cases hr;obtain⟨x,rfl,h1⟩:=pes1 hp;exact no (x:=x) rfl (x_str g h3 (g.ty _ _ h4) h1 (hs a (by simp)))
  ·split at hr
   ·rename_i q;obtain⟨rfl,q⟩:=q;obtain⟨_,h3,h4⟩:=JAy q;cases hr;obtain⟨x,rfl,h1⟩:=pes1 hp;exact no (x:=x) rfl (x_int g h3 (g.ty _ _ h4) h1 (hs a (by simp)))
   ·cases hr
 ·rename_i f p a b pos
  split at hr
  ·rename_i q;obtain⟨rfl,q,qd⟩:=q;obtain⟨_,h3,h4⟩:=JAy q;obtain⟨o,ho,e⟩:=Option.map_eq_some_iff.mp hr;cases e;unfold spOf at ho
   split at ho
   ·rename_i o' m ap a' cp
    split at ho
    ·rename_i w;obtain⟨w1,w2,rfl,w4⟩:=w;cases ho;obtain⟨j,p2,rfl⟩:=JCC w4;unfold isDp at qd
     split at qd
     ·rename_i xn pn;simp only[Bool.and_eq_true,decide_eq_true_eq]at qd;obtain⟨rfl,qd⟩:=qd;obtain⟨gk,hgk⟩:=Option.isSome_iff_exists.mp qd;obtain⟨_,h5,_⟩:=JAy hgk;obtain⟨x,rfl,h1⟩:=pes1 hp;exact no (x:=x) rfl (x_tkp g h4 h3 h5 w1 w2 h1)
     ·cases qd
    ·cases ho
   ·cases ho
  ·cases hr
 ·rename_i o m ap a cp;unfold tM at hr
  split at hr
  ·rename_i hl
   split at hr
   ·rename_i q;obtain⟨rfl,q⟩:=q;obtain⟨j,p2,rfl⟩:=JCC q;cases hr;obtain⟨x,rfl,h1⟩:=pes1 hp;exact no (x:=x) rfl (x_jn g hl h1 (hs a (by simp)))
   ·split at hr
    ·rename_i q;obtain⟨q1,rfl,q⟩:=q;obtain⟨j,p2,rfl⟩:=JCC q;cases hr;obtain⟨x,rfl,h1⟩:=pes1 hp;have hh:=x_stw (j:=j) (p:=p2) g q1 hl h1;exact⟨hh,JI5 g hh (λ_=>rfl) λδ=>by simp only[evT,ev,XO.isT,if_true]⟩
    ·split at hr
     ·rename_i q;obtain⟨q1,rfl,q⟩:=q;obtain⟨j,p2,rfl⟩:=JCC q;cases hr;obtain⟨x,rfl,h1⟩:=pes1 hp;exact no (x:=x) rfl (x_prt g q1 hl h1)
     ·cases hr
  ·cases hr
 ·rename_i a pos;obtain⟨e,h1,e'⟩:=Option.map_eq_some_iff.mp hr;cases e';obtain⟨p,rfl⟩:=JDM h1;obtain⟨x,rfl,h2⟩:=pes1 hp;exact no (x:=x) rfl (x_fv g h2)
 ·rename_i a b c pos;obtain⟨e,h1,hr2⟩:=Option.bind_eq_some_iff.mp hr;obtain⟨d,h2,hr3⟩:=Option.bind_eq_some_iff.mp hr2;clear hr hr2
  split at hr3
  ·rename_i q;obtain⟨j,p2,rfl⟩:=JCC q.1;cases hr3;obtain⟨p,rfl⟩:=JDM h1;obtain⟨p3,rfl⟩:=JDM h2;obtain⟨x,z,rfl,h3,h4⟩:=pes2 hp;exact no (x:=x) rfl (x_fr g (JND g q.2 hc (JRI h)) h3 h4)
  ·cases hr3
 ·rename_i a b p pos;cases hr;obtain⟨x,z,rfl,h3,h4⟩:=pes2 hp;exact no (x:=x) rfl (x_ct g h3 h4)
 ·rename_i a b p pos;cases hr;obtain⟨x,z,rfl,h3,h4⟩:=pes2 hp;exact no (x:=x) rfl (x_cf g h3 h4)
 ·cases hr
end
end VI
end
section
namespace VI
open PySem PySem.Spec PyProof.Rows L2
section
variable{X:Cx}
theorem JJw{w:Str}{R:Stmt}{tR:TS}{p1 p2 p3 p4 p5 p6 p7 p8 p9 p10 p11:Pos}{j j2:Nat}(hN:X.N[0]? = some w)(hv:Vis X.env.scope w)(hd:(w==("__debug__":Str))=false)(hcd:(w==("__classdict__":Str))=false)
  (hg:Gl X "len") (hm:X.mg "len"=none) (hR:PS X R tR) (hl:(p8.endLine==p10.line)=true) :
  ∃t,PSs X [.If (.Compare (.Call (.Name "len" p1) [.Name w p2] [] p3) [.Eq] [.Constant (.int 0) j p4] p5) [R] [] p6,.Return (some (.Call (.Attribute (.Name w p7) "pop" p8) [.Constant (.int 0) j2 p9] [] p10)) p11] t ∧
    ∀(D:Ends) (σ:St) (H:Hp) (l:Addr) (ws:List V),σ[0]? = some (some (.ref l))→H l=some (.lst ws)→(ws=[]→∀D',tR D' σ H)→(∀y r,ws=y::r→D.rt y (upd H l (.lst r)))→t D σ H:=by
 refine⟨_,JAz (JHP (JBr JIi (JEQ JE0 hg hm PySem.boot_len (JAM (JAh hN hv hd hcd) JAi)) JCH rfl) (JBf hR) JCa)
  (JBf (JDN (JEo PySem.F.plainAttrs_list PySem.F.slot_list_pop PySem.F.type_list_pop JJ9 (JAh hN hv hd hcd) (JAM JCH JAi) (hline:=hl)))),?_⟩
 intro D σ H l ws h0 hH h1 h2;refine⟨_,h0,l,ws,rfl,.inl (SqL.of hH),?_⟩;refine⟨rfl,_,rfl,?_⟩;cases ws with
 |nil=>exact iteT (h1 rfl _)
 |cons y r =>
  rw[show decide (V.int ((y::r).length:Nat)=V.int 0)=false from decide_eq_false λz=>by simp at z;omega]
  refine iteF ?_;refine⟨_,h0,.inl ⟨rfl,_,SqL.of hH⟩,?_⟩;exact⟨l,y::r,0,0,y,rfl,rfl,hH,by decide,by decide,by simp[seqIndex?],rfl,h2 y r rfl⟩
end
end VI
end
section
namespace VI
open PySem PySem.Spec PyProof.Rows L2 VI.VP
def But(l:Addr)(H H':Hp):Prop:=∀b o,b≠l→H b=some o→H' b=some o
theorem But.trans{l:Addr}{H H1 H2:Hp}(h:But l H H1)(k:But l H1 H2):But l H H2:=λb o n e=>k b o n (h b o n e)
theorem But.upd{l:Addr}{H:Hp}{o:HO}:But l H (L2.upd H l o):=λb u n e=>by rw[JAI n];exact e
theorem Same.but{l:Addr}{H H':Hp}(h:Same H H'):But l H H':=λb o _ e=>h b o e
theorem But.den{l:Addr}{B:Bs}{H H':Hp}{ws:List V}(h:But l H H')(hl:H l=some (.lst ws)){d:D}{v:V}(n:JAW d=true)(q:Den B H d v):Den B H' d v :=
 JCS (λb o e ho=>h b o (λz=>by subst z;rw[hl]at e;cases e;exact ho trivial) e) d v n q
def Wd(ws:List Str):Prop:=∀w∈ws,w.cps.all (· < 128)=true∧w.length≤10000000
noncomputable def JBg(B:Bs)(c:Nat):Sp:=λvs H Q E=>∃l ws,vs=[.ref l]∧H l=some (.lst ws)∧(match ws with
 | []=>XXd B E c H
 |y::r=>Q y (upd H l (.lst r)))
def Tkn(B:Bs)(c:Nat)(l:Addr)(H:Hp)(Q:VK)(E:XK):Option (D×List Str)→Prop
 |some (d,r)=>∀v H',But l H H'→H' l=some (.lst (r.map V.str))→Den B H' d v→Q v H'
 |none=>∀H',But l H H'→E (.ref (B.cl c)) none H'
noncomputable def JHd(w:Str)(ws:List Str):Option (D×List Str) :=
 if w="wait" then (match ws with
   | []=>none
   |x::r=>(JA0 isF x).map λq=>(.tuple [.str w,.tuple [.int q.1,.int q.2]],r))
  else (match ws with
   |x::y::z::r=>(JA0 isF x).bind λq=>(JA0 isF y).map λs=>(.tuple [.str w,.tuple [.int q.1,.int q.2],.tuple [.int s.1,.int s.2],.str z],r)
   |_=>none)
noncomputable def JGB(B:Bs)(c:Nat):Sp:=λvs H Q E=>∃w l ws,vs=[.str w,.ref l]∧H l=some (.lst (ws.map V.str))∧Wd ws∧Tkn B c l H Q E (JHd w ws)
noncomputable def JDd(B:Bs)(c n:Nat):Sp:=λvs H Q E=>∃(k:Nat) (l:Addr) (ws:List Str),vs=[.ref l,.int k]∧k+12≤n∧H l=some (.lst (ws.map V.str))∧Wd ws∧Tkn B c l H Q E (takeD isF k ws)
abbrev nmK(sc:Scope)(x:Str):Option NameKind:=sc.names.lookup x
section
variable{P:Program}{w:World}{B:Bs}{G:List (Str×GK)}{mg:Str→Option Value}{base:Heap}{c:Nat}
noncomputable def rW(c:Nat):Option Int→R D
 |some n=>.ok (.int n)
 |none=>.exc c
noncomputable def rF(c:Nat):Option (Int×Int)→R D
 |some q=>.ok (.tuple [.int q.1,.int q.2])
 |none=>.exc c
theorem JRH{N:List Str}{qual:Str}{scope:Scope}{f:Addr}{cd:Value}{A:Around}{outer:List PySem.Env}{s:Shared}{H:Hp}{E:XK}(cl:Cl mg B G)(hA:A.handled=none)(hc:G.lookup ("NoText":Str)=some (.cls c))(hg:nmK scope "NoText"=some .globalImplicit){m:Str}{j:Nat}{p1 p2 p3 pos:Pos} :
  PS (cxOf (CXV P w B) P w B.K mg base N qual scope f cd A outer s H E) (.Raise (some (.Call (.Name "NoText" p1) [.Constant (.str m) j p2] [] p3)) none pos) (λ_ _ H1=>XXd B E c H1) :=
 λpins s1 σ H1 D I h=>JDj cl hA "NoText" c m j p1 p2 p3 pos hg (by decide +kernel) hc pins s1 σ H1 D I h
theorem JNV{st:Stmt}{f:Addr}{fo:FuncData}{N:List Str}(cl:Cl mg B G)(hc:G.lookup ("NoText":Str)=some (.cls c))(F:Fun B.K "take_word" "take_word" st f fo)(S:FnScope ["words"] ["words"] (JAB st))(hl:mg "len"=none)
  (h1:nmK (JAB st) "len"=some .globalImplicit) (h2:nmK (JAB st) "NoText"=some .globalImplicit) (h3:nmK (JAB st) "words"=some .local)
  {m:Str}{p1 p2 p3 p4 p5 p6 p7 p8 p9 p10 p11 q1 q2 q3 q4:Pos}{j j2 j3:Nat}(hb:JAa st=[.If (.Compare (.Call (.Name "len" p1) [.Name "words" p2] [] p3) [.Eq] [.Constant (.int 0) j p4] p5) [.Raise (some (.Call (.Name "NoText" q1) [.Constant (.str m) j3 q2] [] q3)) none q4] [] p6,.Return (some (.Call (.Attribute (.Name "words" p7) "pop" p8) [.Constant (.int 0) j2 p9] [] p10)) p11])
  (hp:(p8.endLine==p10.line)=true) (k:Nat):FnOk P w B.K mg base (CXV P w B) (k+1) f fo ["words"] (JBg B c):=by
 obtain⟨oc,od,kV,doc,pm,an,cdv,ct,osl,rfl,lk,hcd⟩:=F.ex;refine JIh lk hcd S (λvs H Q E q=>by obtain⟨l,ws,rfl,_⟩:=q;rfl) λA outer s H vs Q E hr q=>?_
 obtain⟨l,ws,rfl,hH,q⟩:=q;have hA:A.handled=none:=hr.hd;rw[hb];obtain⟨t,ht,hq⟩:=JJw (X:=cxOf (CXV P w B) P w B.K mg base ["words"] "take_word" (JAB st) f cdv A outer s H E) (w:="words") (p1:=p1) (p2:=p2) (p3:=p3) (p4:=p4) (p5:=p5) (p6:=p6) (p7:=p7) (p8:=p8) (p9:=p9) (p10:=p10) (p11:=p11) (j:=j) (j2:=j2) rfl (.inl h3) (by decide) (by decide) h1 hl (JRH cl hA hc h2) hp
 refine⟨t,ht,hq _ _ _ l ws rfl hH (λe D'=>?_) λy r e=>?_⟩
 ·subst e;exact q
 ·subst e;exact q
theorem JKZ{E:XK}{fn:List D→R D}{g:Str→R D}(hR:∀w:Str,w.cps.all (· < 128)=true→w.length≤10000000→fn [.str w]=g w)(hg:∀w k,g w=.exc k→k=c)(hb:∀w,g w≠.bad){i:Nat}{σ:St}{H:Hp}{l:Addr}{ws:List Str}{Q:VK}(hσ:σ[i]? = some (some (.ref l)))(hH:H l=some (.lst (ws.map V.str)))(hW:Wd ws)
  (hX:(∀x r d,ws=x::r→g x≠.ok d)→∀H',But l H H'→E (.ref (B.cl c)) none H')
  (hQ:∀x r d,ws=x::r→g x=.ok d→∀v H',But l H H'→H' l=some (.lst (r.map V.str))→Den B H' d v→Q v H'):JDS (JBF B 1 fn) [] (EX B (XXd B E)) (JC9 (JDS (JBg B c) [] (EX B (XXd B E)) (JC9 (tVar i) tNil)) tNil) σ H Q:=by
 refine⟨.ref l,hσ,l,ws.map V.str,rfl,hH,?_⟩;cases ws with
 |nil=>exact λH' s=>⟨c,rfl,λH'' s2=>hX (λx r d e=>by cases e) H'' (Same.but (s.trans s2))⟩
 |cons x r =>
  obtain⟨h1,h2⟩:=hW x (by simp)
  refine⟨rfl,[.str x],by simp[DenL,Den],?_⟩
  rw[hR x h1 h2];have ul:upd H l (.lst (r.map V.str)) l=some (.lst (r.map V.str)):=JAK;cases q:g x with
  |ok d=>exact λv H' sm dn=>hQ x r d rfl q v H' (But.upd.trans (Same.but sm)) (sm l _ ul) dn
  |exc k =>
    cases hg x k q;exact λH' sm=>⟨c,rfl,λH'' s2=>hX (λx' r' d e z=>by cases e;rw[q]at z;cases z) H'' (But.upd.trans (Same.but (sm.trans s2)))⟩
  |bad=>exact hb x q
theorem JGr{l:Addr}{H H':Hp}{Q:VK}{ds:List D}{xs:List V}{r:List Str}(hQ:∀v H',But l H H'→H' l=some (.lst (r.map V.str))→Den B H' (.tuple ds) v→Q v H')(hb:But l H H')(hl:H' l=some (.lst (r.map V.str)))(hd:DenL B H' ds xs)(hn:xs.length≤1000) :
  xs.length≤sizeLine∧∀p,H' p=none→Q (.ref p) (upd H' p (.tup xs)):=by
 refine⟨by rw[sizeLine_eq];omega,λp hp=>?_⟩
 have sm:Same H' (upd H' p (.tup xs)):=JBd hp;refine hQ _ _ (hb.trans (Same.but sm)) (sm l _ hl) ?_;simp only[Den];exact⟨p,xs,rfl,SqT.of JAK,DenL.mono sm _ _ hd⟩
theorem JNM{c:Nat}{o:Option (Int×Int)}{d:D}(h:rF c o=.ok d):∃q,o=some q∧d=.tuple [.int q.1,.int q.2]:=by
 cases o with
 |none=>cases h
 |some q=>cases h;exact⟨q,rfl,rfl⟩
theorem rW_ok{c:Nat}{o:Option Int}{d:D}(h:rW c o=.ok d):∃q,o=some q∧d=.int q:=by
 cases o with
 |none=>cases h
 |some q=>cases h;exact⟨q,rfl,rfl⟩
structure Ct(P:Program)(w:World)(B:Bs)(mg:Str→Option Value)(base:Heap)(n:Nat)(x:Str)(ps:List Str)(sp:Sp):Prop where
 ex:∃f fd,mg x=some (.ref f)∧PySem.W.keepIn B.K (.ref f)=true∧FnOk P w B.K mg base (CXV P w B) n f fd ps sp∧Binds B.K fd ps []
theorem JMQ{st:Stmt}{f:Addr}{fo:FuncData}{n:Nat}{fn:List D→R D}{ps:List Str}(F:Fun B.K "take_step" "take_step" st f fo)(S:FnScope ["word","words","worth","size"] ["word","words"] (JAB st))
  (cw:Ct P w B mg base n "take_word" ["words"] (JBg B c)) (cf:Ct P w B mg base n "read_frac" ps (JBF B 1 fn)) (hR:∀w:Str,w.cps.all (· < 128)=true→w.length≤10000000→fn [.str w]=rF c (JA0 isF w))
  (h1:nmK (JAB st) "take_word"=some .globalImplicit) (h2:nmK (JAB st) "read_frac"=some .globalImplicit) (h3:nmK (JAB st) "word"=some .local) (h4:nmK (JAB st) "words"=some .local) (h5:nmK (JAB st) "worth"=some .local) (h6:nmK (JAB st) "size"=some .local)
  {p1 p2 p3 p4 p5 p6 p7 p8 p9 q1 q2 q3 q4 q5 q6 q7 r1 r2 r3 r4 r5 r6 t1 t2 t3 t4 t5 t6 t7 t8 u1 u2 u3 u4:Pos}{j k1 k2:Nat}
  (hb:JAa st=[.If (.Compare (.Name "word" p1) [.Eq] [.Constant (.str "wait") j p2] p3) [.Return (some (.Tuple [.Name "word" p4,.Call (.Name "read_frac" p5) [.Call (.Name "take_word" p6) [.Name "words" p7] [] p8] [] p9] k1 q1)) q2] [] q3,
    .Assign [.Name "worth" q4] (.Call (.Name "read_frac" q5) [.Call (.Name "take_word" q6) [.Name "words" q7] [] r1] [] r2) r3,
    .Assign [.Name "size" r4] (.Call (.Name "read_frac" r5) [.Call (.Name "take_word" r6) [.Name "words" t1] [] t2] [] t3) t4,
    .Return (some (.Tuple [.Name "word" t5,.Name "worth" t6,.Name "size" t7,.Call (.Name "take_word" t8) [.Name "words" u1] [] u2] k2 u3)) u4]) :
  FnOk P w B.K mg base (CXV P w B) (n+1) f fo ["word","words"] (JGB B c):=by
 obtain⟨fw,fdw,w1,w2,w3,w4⟩:=cw.ex;obtain⟨ff,fdf,f1,f2,f3,f4⟩:=cf.ex;obtain⟨oc,od,kV,doc,pm,an,cdv,ct,osl,rfl,lk,hcd⟩:=F.ex;refine JIh lk hcd S (λvs H Q E q=>by obtain⟨a,l,ws,rfl,_⟩:=q;rfl) λA outer s H vs Q E hr q=>?_
 obtain⟨a,l,ws,rfl,hH,hW,q⟩:=q;rw[hb];have tw:∀ {p q r:Pos},PE (cxOf (CXV P w B) P w B.K mg base ["word","words","worth","size"] "take_step" (JAB st) f cdv A outer s H E) (.Call (.Name "take_word" p) [.Name "words" q] [] r) (JDS (JBg B c) [] (EX B (XXd B E)) (JC9 (tVar 1) tNil)):=λ{p q r} =>
  JBh w3 hr h1 w1 w2 w4 .nil JB4 (JAM (JAh (i:=1) rfl (.inl h4)) JAi)
 have rf:∀ {p q r s' t:Pos},PE (cxOf (CXV P w B) P w B.K mg base ["word","words","worth","size"] "take_step" (JAB st) f cdv A outer s H E) (.Call (.Name "read_frac" p) [.Call (.Name "take_word" q) [.Name "words" r] [] s'] [] t) (JDS (JBF B 1 fn) [] (EX B (XXd B E)) (JC9 (JDS (JBg B c) [] (EX B (XXd B E)) (JC9 (tVar 1) tNil)) tNil)):=λ{p q r s' t} =>
  JBh f3 hr h2 f1 f2 f4 .nil JB4 (JAM tw JAi)
 refine⟨_,JAz (JHP (JBr JIi (JAh (i:=0) rfl (.inl h3)) JCg rfl) (JBf (JDN (JFa (JAM (JAh (i:=0) rfl (.inl h3)) (JAM rf JAi))))) JCa)
  (JAz (JCh (i:=2) S.nd rfl (.inl h5) rf) (JAz (JCh (i:=3) S.nd rfl (.inl h6) rf) (JBf (JDN (JFa (JAM (JAh (i:=0) rfl (.inl h3)) (JAM (JAh (i:=2) rfl (.inl h5)) (JAM (JAh (i:=3) rfl (.inl h6)) (JAM tw JAi))))))))),?_⟩
 refine⟨.str a,rfl,rfl,_,rfl,?_⟩;have hg:∀w k,rF c (JA0 isF w)=.exc k→k=c:=λw k e=>by
  cases q:JA0 isF w with
  |none=>rw[q]at e;cases e;rfl
  |some o=>rw[q]at e;cases e
 have hbd:∀w,rF c (JA0 isF w)≠.bad:=λw e=>by
  cases q:JA0 isF w with
  |none=>rw[q]at e;cases e
  |some o=>rw[q]at e;cases e
 unfold JHd at q
 by_cases ha:a="wait"
 ·rw[if_pos ha]at q;rw[show decide (V.str a=V.str "wait")=true from decide_eq_true (by rw[ha])]
  refine iteT ?_;refine⟨.str a,rfl,?_⟩;refine JKZ hR hg hbd rfl hH hW (λhx=>?_) λx r d e hd v H' b hl dn=>?_
  · cases ws with
    |nil=>exact q
    |cons x r =>
     cases qx:JA0 isF x with
     |none=>simp only[qx,Option.map_none]at q;exact q
     |some o=>exact absurd (by rw[qx];rfl) (hx x r _ rfl)
  · subst e
    obtain⟨o,ho,rfl⟩:=JNM hd;simp only[ho,Option.map_some]at q;exact JGr q b hl (by simp only[DenL];exact⟨_,_,rfl,by simp only[Den],_,_,rfl,dn,rfl⟩) (by simp)
 ·rw[if_neg ha]at q;rw[show decide (V.str a=V.str "wait")=false from decide_eq_false λz=>ha (V.str.inj z)];refine iteF ?_;refine JKZ hR hg hbd rfl hH hW (λhx=>?_) λx r d e hd v H1 b1 hl1 dn1=>?_
  · match ws,q,hx with
    | [],q,_=>exact q
    | [_],q,_=>exact q
    | [_,_],q,_=>exact q
    |x::y::z::r,q,hx =>
     cases qx:JA0 isF x with
     |none=>simp only[qx,Option.bind_none]at q;exact q
     |some o=>exact absurd (by rw[qx];rfl) (hx x _ _ rfl)
  subst e;obtain⟨o,ho,rfl⟩:=JNM hd;refine JKZ hR hg hbd rfl hl1 (λy hy=>hW y (by simp[hy])) (λhx=>?_) λy r2 d2 e hd2 v2 H2 b2 hl2 dn2=>?_
  · match r,q,hx with
    | [],q,_=>exact λH' b=>q H' (b1.trans b)
    | [_],q,_=>exact λH' b=>q H' (b1.trans b)
    |y::z::r,q,hx =>
     cases qx:JA0 isF y with
     |none=>simp only[ho,qx,Option.bind_some,Option.map_none]at q;exact λH' b=>q H' (b1.trans b)
     |some o=>exact absurd (by rw[qx];rfl) (hx y _ _ rfl)
  subst e;obtain⟨o2,ho2,rfl⟩:=JNM hd2;refine⟨.str a,rfl,v,rfl,v2,rfl,?_⟩;refine⟨.ref l,rfl,l,r2.map V.str,rfl,hl2,?_⟩;cases r2 with
  |nil=>exact λH' sm=>⟨c,rfl,λH'' s2=>q H'' (b1.trans (b2.trans (Same.but (sm.trans s2))))⟩
  |cons z r =>
    simp only[ho,ho2,Option.bind_some,Option.map_some]at q;have b3:But l H2 (upd H2 l (.lst (r.map V.str))):=But.upd;have dn1':=b2.den hl1 (by rfl) dn1
    exact JGr q (b1.trans (b2.trans b3)) JAK (by
     simp only[DenL];exact⟨_,_,rfl,by simp only[Den],_,_,rfl,b3.den hl2 (by rfl) dn1',_,_,rfl,b3.den hl2 (by rfl) dn2,_,_,rfl,by simp only[Den],rfl⟩) (by simp)
theorem Wd.sub{ws r:List Str}(h:Wd ws)(e:∀x∈r,x∈ws):Wd r:=λx hx=>h x (e x hx)
theorem JCt{f:Int→Int→Bool}:∀(n:Nat) (ws:List Str) (d:D) (r:List Str),takeD f n ws=some (d,r)→JAW d=true∧∀x∈r,x∈ws
 |0,ws,d,r,h=>by cases ws<;>simp[takeD]at h
 |n+1,[],d,r,h=>by simp[takeD]at h
 |n+1,w::ws,d,r,h=>by
  unfold takeD at h
  split at h
  ·obtain⟨p,h1,h⟩:=Option.bind_eq_some_iff.mp h;obtain⟨q,h2,e⟩:=Option.map_eq_some_iff.mp h;cases e;obtain⟨a1,a2⟩:=JCt n ws p.1 p.2 h1;obtain⟨b1,b2⟩:=JCt n p.2 q.1 q.2 h2;exact⟨by simp only[JAW,JBN,a1,b1,Bool.and_self],λx hx=>List.mem_cons_of_mem _ (a2 x (b2 x hx))⟩
  split at h
  ·split at h
   ·cases h
   ·obtain⟨p,h1,h⟩:=Option.bind_eq_some_iff.mp h;obtain⟨q,h2,e⟩:=Option.map_eq_some_iff.mp h;cases e;obtain⟨b1,b2⟩:=JCt n _ q.1 q.2 h2;exact⟨by simp only[JAW,JBN,b1,Bool.and_self],λx hx=>List.mem_cons_of_mem _ (List.mem_cons_of_mem _ (b2 x hx))⟩
  split at h
  ·split at h
   ·cases h
   ·obtain⟨p,h1,e⟩:=Option.map_eq_some_iff.mp h;cases e;exact⟨rfl,λx hx=>List.mem_cons_of_mem _ (List.mem_cons_of_mem _ hx)⟩
  ·split at h
   ·obtain⟨p,h1,h⟩:=Option.bind_eq_some_iff.mp h;obtain⟨q,h2,e⟩:=Option.map_eq_some_iff.mp h;cases e;exact⟨rfl,λx hx=>by simp[hx]⟩
   ·cases h
theorem JIG{k:Nat}{a:Str}{r:List Str}(h1:a≠"then")(h2:a≠"again"):takeD isF (k+1) (a::r)=JHd a r:=by
 unfold takeD JHd;rw[if_neg h1,if_neg h2];try rfl
theorem JM7{st:Stmt}{f:Addr}{fo:FuncData}{n:Nat}{fn:List D→R D}{ps:List Str}(cl:Cl mg B G)(hc:G.lookup ("NoText":Str)=some (.cls c))(F:Fun B.K "take_plan" "take_plan" st f fo)(S:FnScope ["words","deep","word","one","many"] ["words","deep"] (JAB st))
  (cw:Ct P w B mg base n "take_word" ["words"] (JBg B c)) (cs:Ct P w B mg base n "take_step" ["word","words"] (JGB B c)) (cp:Ct P w B mg base n "take_plan" ["words","deep"] (JDd B c n)) (cf:Ct P w B mg base n "read_whole" ps (JBF B 1 fn)) (hR:∀w:Str,w.cps.all (· < 128)=true→w.length≤10000000→fn [.str w]=rW c (JAb w))
  (h1:nmK (JAB st) "take_word"=some .globalImplicit) (h2:nmK (JAB st) "read_whole"=some .globalImplicit) (h3:nmK (JAB st) "take_plan"=some .globalImplicit) (h4:nmK (JAB st) "take_step"=some .globalImplicit) (h0:nmK (JAB st) "NoText"=some .globalImplicit)
  (n1:nmK (JAB st) "words"=some .local) (n2:nmK (JAB st) "deep"=some .local) (n3:nmK (JAB st) "word"=some .local) (n4:nmK (JAB st) "one"=some .local) (n5:nmK (JAB st) "many"=some .local)
  {m:Str}{a1 a2 a3 a4 a5 a6 a7 a8 b1 b2 b3 b4 b5 b6 b7 b8 c1 c2 c3 c4 c5 c6 c7 c8 d1 d2 d3 d4 d5 d6 d7 d8 e1 e2 e3 e4 e5 e6 e7 e8 f1 f2 f3 f4 f5 f6 f7 f8 g1 g2 g3 g4 g5 g6 g7 g8 u1 u2 u3 u4 u5:Pos}{j1 j2 j3 j4 j5 j6 j7 k1 k2:Nat}
  (hb:JAa st=[.If (.Compare (.Name "deep" a1) [.Eq] [.Constant (.int 0) j1 a2] a3) [.Raise (some (.Call (.Name "NoText" a4) [.Constant (.str m) j2 a5] [] a6)) none a7] [] a8,
    .Assign [.Name "word" b1] (.Call (.Name "take_word" b2) [.Name "words" b3] [] b4) b5,
    .If (.Compare (.Name "word" b6) [.Eq] [.Constant (.str "then") j3 b7] b8) [.Assign [.Name "one" c1] (.Call (.Name "take_plan" c2) [.Name "words" c3,.BinOp (.Name "deep" c4) .Sub (.Constant (.int 1) j4 c5) c6] [] c7) c8,
     .Return (some (.Tuple [.Name "word" d1,.Name "one" d2,.Call (.Name "take_plan" d3) [.Name "words" d4,.BinOp (.Name "deep" d5) .Sub (.Constant (.int 1) j5 d6) d7] [] d8] k1 e1)) e2] [] e3,
    .If (.Compare (.Name "word" e4) [.Eq] [.Constant (.str "again") j6 e5] e6) [.Assign [.Name "many" e7] (.Call (.Name "read_whole" e8) [.Call (.Name "take_word" f1) [.Name "words" f2] [] f3] [] f4) f5,
     .Return (some (.Tuple [.Name "word" f6,.Name "many" f7,.Call (.Name "take_plan" f8) [.Name "words" g1,.BinOp (.Name "deep" g2) .Sub (.Constant (.int 1) j7 g3) g4] [] g5] k2 g6)) g7] [] g8,
    .Return (some (.Call (.Name "take_step" u1) [.Name "word" u2,.Name "words" u3] [] u4)) u5]) :
  FnOk P w B.K mg base (CXV P w B) (n+1) f fo ["words","deep"] (JDd B c (n+1)):=by
 obtain⟨fw,fdw,w1,w2,w3,w4⟩:=cw.ex;obtain⟨fs,fds,s1,s2,s3,s4⟩:=cs.ex;obtain⟨fp,fdp,p1,p2,p3,p4⟩:=cp.ex;obtain⟨ff,fdf,q1,q2,q3,q4⟩:=cf.ex;obtain⟨oc,od,kV,doc,pm,an,cdv,ct,osl,rfl,lk,hcd⟩:=F.ex;refine JIh lk hcd S (λvs H Q E q=>by obtain⟨a,l,ws,rfl,_⟩:=q;rfl) λA outer s H vs Q E hr q=>?_
 obtain⟨k,l,ws,rfl,hk,hH,hW,q⟩:=q;have hA:A.handled=none:=hr.hd;rw[hb];have tw:∀ {p q r:Pos},PE (cxOf (CXV P w B) P w B.K mg base ["words","deep","word","one","many"] "take_plan" (JAB st) f cdv A outer s H E) (.Call (.Name "take_word" p) [.Name "words" q] [] r) (JDS (JBg B c) [] (EX B (XXd B E)) (JC9 (tVar 0) tNil)):=λ{p q r} =>
  JBh w3 hr h1 w1 w2 w4 .nil JB4 (JAM (JAh (i:=0) rfl (.inl n1)) JAi)
 have rw':∀ {p q r s' t:Pos},PE (cxOf (CXV P w B) P w B.K mg base ["words","deep","word","one","many"] "take_plan" (JAB st) f cdv A outer s H E) (.Call (.Name "read_whole" p) [.Call (.Name "take_word" q) [.Name "words" r] [] s'] [] t) (JDS (JBF B 1 fn) [] (EX B (XXd B E)) (JC9 (JDS (JBg B c) [] (EX B (XXd B E)) (JC9 (tVar 0) tNil)) tNil)):=λ{p q r s' t} =>
  JBh q3 hr h2 q1 q2 q4 .nil JB4 (JAM tw JAi)
 have tp:∀ {p q r s' t t':Pos}{j:Nat},PE (cxOf (CXV P w B) P w B.K mg base ["words","deep","word","one","many"] "take_plan" (JAB st) f cdv A outer s H E) (.Call (.Name "take_plan" p) [.Name "words" q,.BinOp (.Name "deep" r) .Sub (.Constant (.int 1) j s') t] [] t') (JDS (JDd B c n) [] (EX B (XXd B E)) (JC9 (tVar 0) (JC9 (tOp (rI0 λi j=>.int (i - j)) (tVar 1) (tC (.int 1))) tNil))):=λ{p q r s' t t' j} =>
  JBh p3 hr h3 p1 p2 p4 .nil JB4 (JAM (JAh (i:=0) rfl (.inl n1)) (JAM (JNZ JKx (JAh (i:=1) rfl (.inl n2)) JCH) JAi))
 refine⟨_,JAz (JHP (JBr JIi (JAh (i:=1) rfl (.inl n2)) JCH rfl) (JBf (JRH cl hA hc h0)) JCa)
  (JAz (JCh (i:=2) S.nd rfl (.inl n3) tw)
  (JAz (JHP (JBr JIi (JAh (i:=2) rfl (.inl n3)) JCg rfl) (JAz (JCh (i:=3) S.nd rfl (.inl n4) tp) (JBf (JDN (JFa (JAM (JAh (i:=2) rfl (.inl n3)) (JAM (JAh (i:=3) rfl (.inl n4)) (JAM tp JAi))))))) JCa)
  (JAz (JHP (JBr JIi (JAh (i:=2) rfl (.inl n3)) JCg rfl) (JAz (JCh (i:=4) S.nd rfl (.inl n5) rw') (JBf (JDN (JFa (JAM (JAh (i:=2) rfl (.inl n3)) (JAM (JAh (i:=4) rfl (.inl n5)) (JAM tp JAi))))))) JCa)
  (JBf (JDN (JBh s3 hr h4 s1 s2 s4 .nil JB4 (JAM (JAh (i:=2) rfl (.inl n3)) (JAM (JAh (i:=0) rfl (.inl n1)) JAi)))))))),?_⟩
 refine⟨.int k,rfl,rfl,_,rfl,?_⟩;cases k with
 |zero =>
  refine iteT ?_;have q:Tkn B c l H Q E none:=by
    have:takeD isF 0 ws=none:=by cases ws<;>rfl
    rw[this]at q;exact q
  exact λH' sm=>q H' (Same.but sm)
 |succ k =>
 rw[show decide (V.int ((k+1:Nat):Int)=V.int 0)=false from decide_eq_false λz=>by simp at z;omega]
 refine iteF ?_;refine⟨.ref l,rfl,l,ws.map V.str,rfl,hH,?_⟩;cases ws with
 |nil=>exact λH' sm=>⟨c,rfl,λH'' s2=>q H'' (Same.but (sm.trans s2))⟩
 |cons a r =>
 have hW':Wd r:=hW.sub λx hx=>by simp[hx]
 have hu:upd H l (.lst (r.map V.str)) l=some (.lst (r.map V.str)):=JAK;have bu:But l H (upd H l (.lst (r.map V.str))):=But.upd;have hsub:(((k+1:Nat):Int) - 1)=(k:Nat):=by omega
 have hs1:[V.ref l,(λ(i j:Int)=>V.int (i - j)) ((k+1:Nat):Int) 1]++[]=[V.ref l,V.int k]:=by
  show[V.ref l,V.int (((k+1:Nat):Int) - 1)]++[]=_;rw[hsub];rfl
 refine⟨.str a,rfl,rfl,_,rfl,?_⟩
 by_cases ha:a="then"
 ·rw[show decide (V.str a=V.str "then")=true from decide_eq_true (by rw[ha])]
  refine iteT ?_;unfold takeD at q;rw[if_pos ha]at q;refine⟨.ref l,rfl,.int ((k+1:Nat):Int),rfl,(k+1:Nat),1,rfl,rfl,?_⟩;refine⟨k,l,r,hs1,by omega,hu,hW',?_⟩
  cases q1:takeD isF k r with
  |none =>
    rw[q1]at q;exact λH' b=>⟨c,rfl,λH'' s2=>q H'' (bu.trans (b.trans (Same.but s2)))⟩
  |some o =>
    obtain⟨d1,r1⟩:=o;rw[q1]at q;simp only[Option.bind_some]at q;intro v1 H1 b1 hl1 dn1;obtain⟨nl,sb⟩:=JCt k r d1 r1 q1;refine⟨.str a,rfl,v1,rfl,.ref l,rfl,.int ((k+1:Nat):Int),rfl,(k+1:Nat),1,rfl,rfl,?_⟩;refine⟨k,l,r1,hs1,by omega,hl1,hW'.sub sb,?_⟩
    cases q2:takeD isF k r1 with
    |none =>
     rw[q2]at q;exact λH' b=>⟨c,rfl,λH'' s2=>q H'' (bu.trans (b1.trans (b.trans (Same.but s2))))⟩
    |some o2 =>
     obtain⟨d2,r2⟩:=o2;rw[q2]at q;intro v2 H2 b2 hl2 dn2;exact JGr q (bu.trans (b1.trans b2)) hl2 (by
      simp only[DenL];exact⟨_,_,rfl,by simp only[Den],_,_,rfl,b2.den hl1 nl dn1,_,_,rfl,dn2,rfl⟩) (by simp)
 rw[show decide (V.str a=V.str "then")=false from decide_eq_false λz=>ha (V.str.inj z)];refine iteF ?_;refine⟨.str a,rfl,rfl,_,rfl,?_⟩
 by_cases hg:a="again"
 ·rw[show decide (V.str a=V.str "again")=true from decide_eq_true (by rw[hg])]
  refine iteT ?_;unfold takeD at q;rw[if_neg ha,if_pos hg]at q;have hg2:∀w k,rW c (JAb w)=.exc k→k=c:=λw k e=>by
    cases q:JAb w with
    |none=>rw[q]at e;cases e;rfl
    |some o=>rw[q]at e;cases e
  have hbd:∀w,rW c (JAb w)≠.bad:=λw e=>by
    cases q:JAb w with
    |none=>rw[q]at e;cases e
    |some o=>rw[q]at e;cases e
  refine JKZ hR hg2 hbd rfl hu hW' (λhx=>?_) λx r1 d e hd v H1 b1 hl1 dn1=>?_
  · cases r with
    |nil=>exact λH' b=>q H' (bu.trans b)
    |cons x r1 =>
     cases qx:JAb x with
     |none=>simp only[qx,Option.bind_none]at q;exact λH' b=>q H' (bu.trans b)
     |some o=>exact absurd (by rw[qx];rfl) (hx x _ _ rfl)
  subst e;obtain⟨o,ho,rfl⟩:=rW_ok hd;simp only[ho,Option.bind_some]at q;refine⟨.str a,rfl,v,rfl,.ref l,rfl,.int ((k+1:Nat):Int),rfl,(k+1:Nat),1,rfl,rfl,?_⟩;refine⟨k,l,r1,hs1,by omega,hl1,hW'.sub λx hx=>by simp[hx],?_⟩
  cases q2:takeD isF k r1 with
  |none =>
    rw[q2]at q;exact λH' b=>⟨c,rfl,λH'' s2=>q H'' (bu.trans (b1.trans (b.trans (Same.but s2))))⟩
  |some o2 =>
    obtain⟨d2,r2⟩:=o2;rw[q2]at q;intro v2 H2 b2 hl2 dn2;exact JGr q (bu.trans (b1.trans b2)) hl2 (by
     simp only[DenL];exact⟨_,_,rfl,by simp only[Den],_,_,rfl,b2.den hl1 rfl dn1,_,_,rfl,dn2,rfl⟩) (by simp)
 rw[show decide (V.str a=V.str "again")=false from decide_eq_false λz=>hg (V.str.inj z)];refine iteF ?_;refine⟨.str a,rfl,.ref l,rfl,a,l,r,rfl,hu,hW',?_⟩;rw[JIG ha hg]at q;cases q2:JHd a r with
 |none=>rw[q2]at q;exact λH' b=>⟨c,rfl,λH'' s2=>q H'' (bu.trans (b.trans (Same.but s2)))⟩
 |some o=>obtain⟨d,r1⟩:=o;rw[q2]at q;exact λv H' b hl dn=>q v H' (bu.trans b) hl dn
end
end VI
end
section
namespace VI.VP
open PySem PySem.Builtin PySem.Builtin.Str
def JAL(c:Nat):Nat→List Nat→List Nat
 |_,[]=>[]
 |k,a::r=>if a=c then k::JAL c (k+1) r else JAL c (k+1) r
def spl(c:Nat):List Nat→List (List Nat)
 | []=>[[]]
 |a::r=>if a=c then []::spl c r else (match spl c r with
  |p::ps=>(a::p)::ps
  | []=>[[a]])
theorem JGm(c:Nat):∀l,spl c l≠[]
 | []=>by simp[spl]
 |a::r=>by
  unfold spl
  split
  ·simp
  ·split<;>simp
def segs(s:List Nat)(n:Nat)(st:Nat)(cuts:List Nat):List (List Nat):=((st::cuts.map (· + 1)).zip (cuts++[n])).map λp=>(s.drop p.1).take (p.2 - p.1)
theorem JEC{s:List Nat}{c:Nat}:∀(l:List Nat) (k st:Nat),st≤k→s.drop k=l→∀p ps,spl c l=p::ps→segs s s.length st (JAL c k l)=((s.drop st).take (k - st)++p)::ps
 | [],k,st,hk,hl,p,ps,e=>by
  simp only[spl,List.cons.injEq]at e;obtain⟨rfl,rfl⟩:=e;have hn:s.length≤k:=by simpa using hl
  simp only[segs,JAL,List.map_nil,List.nil_append,List.zip_cons_cons,List.zip_nil_left,List.map_cons,List.append_nil];rw[List.take_of_length_le (by simp),List.take_of_length_le (by simp;omega)]
 |a::r,k,st,hk,hl,p,ps,e=>by
  have hr:s.drop (k+1)=r:=by rw[←List.drop_drop,hl];rfl
  have hlt:k<s.length:=by
   have:=congrArg List.length hl;simp at this;omega
  have ha:s[k]'hlt=a:=by
   have h0:=List.getElem_cons_drop (h:=hlt);rw[hl]at h0;exact(List.cons.inj h0).1
  obtain⟨q,qs,eq⟩:∃q qs,spl c r=q::qs:=by
   cases h:spl c r with
   |nil=>exact absurd h (JGm c r)
   |cons q qs=>exact⟨q,qs,rfl⟩
  by_cases hc:a=c
  ·have ih:=JEC r (k+1) (k+1) (Nat.le_refl _) hr q qs eq;simp only[spl,if_pos hc,List.cons.injEq]at e;obtain⟨rfl,rfl⟩:=e;simp only[JAL,if_pos hc,segs,List.map_cons,List.cons_append,List.zip_cons_cons];rw[Nat.sub_self,List.take_zero,List.nil_append]at ih;rw[List.append_nil,eq,←ih];rfl
  ·have ih:=JEC r (k+1) st (by omega) hr q qs eq
   simp only[spl,if_neg hc,eq,List.cons.injEq]at e;obtain⟨rfl,rfl⟩:=e;simp only[JAL,if_neg hc];rw[ih]
   congr 1
   rw[show k+1 - st=(k - st)+1 by omega,List.take_succ,List.append_assoc]
   congr 1
   rw[List.getElem?_drop,show st+(k - st)=k by omega,List.getElem?_eq_getElem hlt,ha]
   rfl
theorem JHr(x:Str)(c:Nat):∀(l:List Nat) (k:Nat) (found:Array Nat) (free:Nat),x.cps.toList.drop k=l→free≤k→found.size≤k→k≤x.length →
  (forIn (List.range' k (x.length+1 - k)) (found,free) (StrLaws.occBody x (one c) x.length (x.length+1))).run.fst.toList=found.toList++JAL c k l
 | [],k,found,free,hl,hf,hs,hk=>by
  have hn:x.length≤k:=by
    have:=congrArg List.length hl;simp at this;show x.cps.size≤k;omega
  have e:x.length+1 - k=1:=by omega
  rw[e];show(forIn [k] (found,free) (StrLaws.occBody x (one c) x.length (x.length+1))).run.fst.toList=_;rw[List.forIn_cons];unfold StrLaws.occBody;rw[if_neg (λh=>by have:=h.1.2;simp only[show(one c).length=1 from rfl]at this;omega)]
  simp[JAL]
 |a::r,k,found,free,hl,hf,hs,hk=>by
  have hlt:k<x.cps.toList.length:=by
    have:=congrArg List.length hl;simp at this;simp;omega
  have hlt':k<x.length:=by show k<x.cps.size;simpa using hlt
  have hr:x.cps.toList.drop (k+1)=r:=by rw[←List.drop_drop,hl];rfl
  have e:x.length+1 - k=(x.length+1 - (k+1))+1:=by omega
  rw[e,List.range'_succ,List.forIn_cons];have hsub:subAt x (one c) k=decide (a=c):=by
    rw[StrLaws.subAt_eq,hl];show([a]==[c])=_;simp[Bool.beq_eq_decide_eq]
  by_cases hc:a=c
  · have ih:=JHr x c r (k+1) (found.push k) (k+1) hr (Nat.le_refl _) (by simp;exact hs) (by omega)
    rw[show StrLaws.occBody x (one c) x.length (x.length+1) k (found,free)=pure (ForInStep.yield (found.push k,k+1)) from if_pos ⟨⟨⟨by show found.size<_;omega,hf⟩,by show k+1≤_;omega⟩,by rw[hsub];exact decide_eq_true hc⟩]
    simp only[JAL,if_pos hc];rw[show(found.toList++k::JAL c (k+1) r)=(found.push k).toList++JAL c (k+1) r by simp]
    exact ih
  · have ih:=JHr x c r (k+1) found free hr (by omega) (by omega) (by omega)
    rw[show StrLaws.occBody x (one c) x.length (x.length+1) k (found,free)=pure (ForInStep.yield (found,free)) from if_neg λh=>hc (of_decide_eq_true (hsub▸h.2))];simp only[JAL,if_neg hc];exact ih
theorem JKR(x:Str)(c:Nat):occurrences x (one c) 0 x.length (x.length+1)=JAL c 0 x.cps.toList:=by
 rw[StrLaws.occ_eq];exact(JHr x c x.cps.toList 0 #[] 0 rfl (Nat.le_refl _) (Nat.le_refl _) (Nat.zero_le _)).trans (by simp)
theorem JHO(x:Str)(cuts:List Nat):(partsBetween x cuts 1).map (·.cps.toList)=segs x.cps.toList x.cps.toList.length 0 cuts:=by
 unfold partsBetween segs;simp only[List.map_map];have e:x.cps.toList.length=x.length:=by simp[Str.length]
 rw[e];refine List.map_congr_left λp _=>?_;exact StrLaws.strSub_toList x p.1 p.2
theorem JJH(c:Nat)(l:List Nat):segs l l.length 0 (JAL c 0 l)=spl c l:=by
 cases h:spl c l with
 |nil=>exact absurd h (JGm c l)
 |cons p ps =>
  have:=JEC (s:=l) l 0 0 (Nat.le_refl _) rfl p ps h;simpa using this
theorem JKC(x:Str):1≤PySem.Builtin.Str.strKind x:=by
 unfold PySem.Builtin.Str.strKind
 split
 ·decide
 ·split<;>decide
theorem JCy(x:Str)(c:Nat)(hc:c<256):(Txt.split x (one c)).map (·.cps.toList)=spl c x.cps.toList:=by
 have hk:PySem.Builtin.Str.strKind (one c)=1:=by
  unfold PySem.Builtin.Str.strKind one;simp[hc]
 unfold Txt.split
 by_cases h0:x.length<1
 ·have e:x.cps.toList=[]:=by
   have:x.cps.size=0:=by have:x.cps.size<1:=h0;omega
   simpa using this
  rw[if_pos (by rw[show(one c).length=1 from rfl];simp[h0])]
  simp[e,spl]
 ·rw[if_neg (by rw[show(one c).length=1 from rfl,hk];have:=JKC x;simp;omega)]
  rw[show(one c).length=1 from rfl,JKR]
  split
  ·rename_i hE;have e:JAL c 0 x.cps.toList=[]:=by simpa using hE
   have:=JJH c x.cps.toList;rw[e]at this;rw[←this];simp[segs];rw[List.take_of_length_le (by simp)]
  ·rw[JHO,JJH]
theorem JGS{c:Nat}:∀ {w:List Nat},c ∉ w→spl c w=[w]
 | [],_=>rfl
 |a::r,h=>by
  have h1:a≠c:=λe=>h (e▸List.mem_cons_self ..);have h2:c ∉ r:=λe=>h (List.mem_cons_of_mem _ e);simp only[spl,if_neg h1,JGS h2]
theorem JIn{c:Nat}{r:List Nat}:∀ {w:List Nat},c ∉ w→spl c (w++c::r)=w::spl c r
 | [],_=>by simp[spl]
 |a::w,h=>by
  have h1:a≠c:=λe=>h (e▸List.mem_cons_self ..);have h2:c ∉ w:=λe=>h (List.mem_cons_of_mem _ e);simp only[List.cons_append,spl,if_neg h1,JIn h2]
theorem JG9{c:Nat}(hc:c<256):∀ {ws:List Str},ws≠[]→(∀w∈ws,c ∉ w.cps.toList)→Txt.split (Txt.join (one c) ws) (one c)=ws:=by
 have key:∀ {ws:List Str},ws≠[]→(∀w∈ws,c ∉ w.cps.toList)→spl c (Str.join (one c) ws).cps.toList=ws.map (·.cps.toList):=by
  intro ws
  induction ws with
  |nil=>intro h;exact absurd rfl h
  |cons w r ih =>
   intro _ h;cases r with
   |nil=>exact JGS (h w (List.mem_cons_self ..))
   |cons y r =>
    have e:(Str.join (one c) (w::y::r)).cps.toList=w.cps.toList++c::(Str.join (one c) (y::r)).cps.toList:=by
     show(w++one c++Str.join (one c) (y::r)).cps.toList=_;rw[Str.cps_append,Str.cps_append];simp[one]
    rw[e,JIn (h w (List.mem_cons_self ..)),ih (by simp) λz hz=>h z (List.mem_cons_of_mem _ hz)]
    rfl
 intro ws h1 h2;have e:=JCy (Txt.join (one c) ws) c hc;rw[show Txt.join (one c) ws=Str.join (one c) ws from StrLaws.glued_eq_join _ _]at e ⊢;rw[key h1 h2]at e;have inj:∀ {a b:List Str},a.map (·.cps.toList)=b.map (·.cps.toList)→a=b:=by
  intro a
  induction a with
  |nil=>intro b h;cases b with
   |nil=>rfl
   |cons _ _=>cases h
  |cons x a ih=>intro b h;cases b with
   |nil=>cases h
   |cons y b =>
    simp only[List.map_cons,List.cons.injEq]at h;rw[ih h.2,Str.ext' (Array.toList_inj.mp h.1)]
 exact inj e
theorem JGX(x y:Str)(hi limit:Nat):∀(l:List Nat) (st:Array Nat×Nat),¬st.fst.size<limit→(forIn l st (StrLaws.occBody x y hi limit)).run.fst=st.fst
 | [],st,h=>rfl
 |a::l,st,h=>by
  rw[List.forIn_cons];rw[show StrLaws.occBody x y hi limit a st=pure (ForInStep.yield (st.fst,st.snd)) from if_neg λz=>h z.1.1.1];exact JGX x y hi limit l _ h
theorem JIm(x:Str)(c:Nat):∀(l:List Nat) (k:Nat) (free:Nat),x.cps.toList.drop k=l→free≤k→k≤x.length →
  (forIn (List.range' k (x.length+1 - k)) ((#[]:Array Nat),free) (StrLaws.occBody x (one c) x.length 1)).run.fst.toList=(JAL c k l).take 1
 | [],k,free,hl,hf,hk=>by
  have hn:x.length≤k:=by
    have:=congrArg List.length hl;simp at this;show x.cps.size≤k;omega
  have e:x.length+1 - k=1:=by omega
  rw[e];show(forIn [k] ((#[]:Array Nat),free) (StrLaws.occBody x (one c) x.length 1)).run.fst.toList=_;rw[List.forIn_cons];unfold StrLaws.occBody;rw[if_neg (λh=>by have:=h.1.2;simp only[show(one c).length=1 from rfl]at this;omega)]
  simp[JAL]
 |a::r,k,free,hl,hf,hk=>by
  have hlt:k<x.cps.toList.length:=by
    have:=congrArg List.length hl;simp at this;simp;omega
  have hlt':k<x.length:=by show k<x.cps.size;simpa using hlt
  have hr:x.cps.toList.drop (k+1)=r:=by rw[←List.drop_drop,hl];rfl
  have e:x.length+1 - k=(x.length+1 - (k+1))+1:=by omega
  rw[e,List.range'_succ,List.forIn_cons];have hsub:subAt x (one c) k=decide (a=c):=by
    rw[StrLaws.subAt_eq,hl];show([a]==[c])=_;simp[Bool.beq_eq_decide_eq]
  by_cases hc:a=c
  · rw[show StrLaws.occBody x (one c) x.length 1 k (#[],free)=pure (ForInStep.yield (#[k],k+1)) from if_pos ⟨⟨⟨by show(0:Nat)<1;decide,hf⟩,by show k+1≤_;omega⟩,by rw[hsub];exact decide_eq_true hc⟩]
    simp only[JAL,if_pos hc];exact congrArg Array.toList (JGX x (one c) x.length 1 _ (#[k],k+1) (by show ¬(1:Nat)<1;decide))
  · have ih:=JIm x c r (k+1) free hr (by omega) (by omega)
    rw[show StrLaws.occBody x (one c) x.length 1 k (#[],free)=pure (ForInStep.yield (#[],free)) from if_neg λh=>hc (of_decide_eq_true (hsub▸h.2))];simp only[JAL,if_neg hc];exact ih
theorem occ1(x:Str)(c:Nat):occurrences x (one c) 0 x.length 1=(JAL c 0 x.cps.toList).take 1:=by
 rw[StrLaws.occ_eq];exact JIm x c x.cps.toList 0 0 rfl (Nat.le_refl _) (Nat.zero_le _)
theorem JEk{c:Nat}:∀ {l:List Nat}{k:Nat},c ∉ l→JAL c k l=[]
 | [],_,_=>rfl
 |a::r,k,h=>by
  have h1:a≠c:=λe=>h (e▸List.mem_cons_self ..);simp only[JAL,if_neg h1];exact JEk λe=>h (List.mem_cons_of_mem _ e)
theorem JGj{c:Nat}{r:List Nat}:∀ {l:List Nat}{k:Nat},c ∉ l→JAL c k (l++c::r)=(k+l.length)::JAL c (k+l.length+1) r
 | [],_,_=>by simp[JAL]
 |a::l,k,h=>by
  have h1:a≠c:=λe=>h (e▸List.mem_cons_self ..);simp only[List.cons_append,JAL,if_neg h1];rw[JGj λe=>h (List.mem_cons_of_mem _ e)];simp only[List.length_cons];rw[show k+1+l.length=k+(l.length+1) by omega]
theorem JFB{x:Str}{c:Nat}(h:c ∉ x.cps.toList):Txt.partition x (one c)=(x,Str.empty,Str.empty):=by
 unfold Txt.partition;rw[occ1,JEk h];rfl
theorem JGG{a b:Str}{c:Nat}(h:c ∉ a.cps.toList):Txt.partition (a++one c++b) (one c)=(a,one c,b):=by
 have e:(a++one c++b).cps.toList=a.cps.toList++c::b.cps.toList:=by
  rw[Str.cps_append,Str.cps_append];simp[one]
 have e1:strSub (a++one c++b) 0 (a.cps.toList.length)=a:=Str.ext' (Array.toList_inj.mp (by rw[StrLaws.strSub_toList,e];simp))
 have e2:strSub (a++one c++b) (a.cps.toList.length+(one c).length) (a++one c++b).length=b:=Str.ext' (Array.toList_inj.mp (by
  rw[StrLaws.strSub_toList,e,show(one c).length=1 from rfl,List.drop_append,List.drop_eq_nil_of_le (by omega),show a.cps.toList.length+1 - a.cps.toList.length=1 by omega]
  simp only[List.nil_append,List.drop_succ_cons,List.drop_zero];refine List.take_of_length_le ?_;have:=Str.length_append (a++one c) b;have h2:=Str.length_append a (one c);have h3:(one c).length=1:=rfl;have h4:b.cps.toList.length=b.length:=by simp[Str.length]
  have h5:a.cps.toList.length=a.length:=by simp[Str.length]
  omega))
 unfold Txt.partition;rw[occ1,e,JGj h];simp only[Nat.zero_add,List.take_succ_cons,e1,e2]
end VI.VP
end
section
namespace VI.VP
open PySem PySem.W PySem.NumText PyProof.Rows
def digs(m:Nat):List Nat:=(Nat.toDigits 10 m).map Char.toNat
theorem JDt(m:Nat):(tx (m:Int)).cps.toList=digs m:=KIN.signs_num m
theorem JG2(m:Nat):(tx (Int.negSucc m)).cps.toList=45::digs (m+1):=by
 unfold tx;rw[signs_ofString];show(Int.repr (Int.negSucc m)).toList.map Char.toNat=_;show("-"++Nat.repr (m+1)).toList.map Char.toNat=_;rw[String.toList_append,List.map_append,Nat.toList_repr];rfl
theorem JBZ(m:Nat):AllDigits (digs m):=by
 intro c hc;obtain⟨ch,hch,e⟩:=List.mem_map.mp hc;have r:=digit_range (Nat.isDigit_of_mem_toDigits (by decide) (by decide) hch)
 rw[←e];exact r
theorem JD6(m:Nat):digs m≠[]:=by
 intro e;have h:=toDigits_len_ge 10 m;rw[List.map_eq_nil_iff.mp e]at h;exact absurd h (by decide)
theorem JGd(m:Nat):digitsVal (digs m)=m:=KIN.val_back m
theorem JCN:∀(k m:Nat),m<10 ^ (k+1)→(digs m).length≤k+1
 |0,m,h=>by
  unfold digs;rw[Nat.toDigits_of_lt_base (by omega)]
  simp
 |k+1,m,h=>by
  by_cases hm:m<10
  ·unfold digs;rw[Nat.toDigits_of_lt_base hm];simp
  ·have ih:=JCN k (m / 10) (by rw[Nat.pow_succ]at h;omega)
   have hr:m % 10<10:=Nat.mod_lt m (by decide)
   have t:Nat.toDigits 10 (m / 10)++Nat.toDigits 10 (m % 10)=Nat.toDigits 10 (10*(m / 10)+m % 10):=Nat.toDigits_append_toDigits (by decide) (by omega) hr
   rw[Nat.div_add_mod]at t;unfold digs at ih ⊢;rw[←t,Nat.toDigits_of_lt_base hr];simp at ih ⊢;omega
theorem JGy(n:Int):∀c∈(tx n).cps.toList,c=45∨(48≤c∧c≤57):=by
 cases n with
 |ofNat m=>intro c hc;exact .inr (JBZ m c (by rw[←JDt];exact hc))
 |negSucc m =>
  intro c hc;rw[JG2]at hc;rcases List.mem_cons.mp hc with e|hc
  ·exact .inl e
  ·exact .inr (JBZ _ c hc)
theorem JB0{n:Int}(h:n.natAbs<10 ^ 9):(tx n).length≤10:=by
 have e:(tx n).length=(tx n).cps.toList.length:=by simp[Str.length]
 rw[e];cases n with
 |ofNat m=>have:=JCN 8 m h;rw[show(tx (Int.ofNat m)).cps.toList=digs m from JDt m];omega
 |negSucc m=>have:=JCN 8 (m+1) h;rw[JG2,List.length_cons];omega
theorem JJk{n:Int}(h:n.natAbs<10 ^ 9):PySem.intText? (tx n)=some n:=by
 have hl:=JB0 h;cases n with
 |ofNat m =>
  have e:=intText_digits (x:=tx (Int.ofNat m)) (by rw[show(tx (Int.ofNat m)).cps.toList=digs m from JDt m];exact JBZ m) (by rw[show(tx (Int.ofNat m)).cps.toList=digs m from JDt m];exact JD6 m) (by omega)
  rw[show(tx (Int.ofNat m)).cps.toList=digs m from JDt m,JGd]at e;exact e
 |negSucc m =>
  have e:=intText_neg (JG2 m) (JBZ _) (JD6 _) (by omega)
  rw[JGd]at e;exact e
theorem cuts_mem{c:Nat}:∀ {l:List Nat}{k:Nat},JAL c k l=[]↔c ∉ l
 | [],_=>by simp[JAL]
 |a::r,k=>by
  by_cases h:a=c
  ·subst h;simp[JAL]
  ·simp only[JAL,if_neg h,List.mem_cons,not_or];rw[cuts_mem];exact⟨λz=>⟨λe=>h e.symm,z⟩,λz=>z.2⟩
theorem JOM(y:Str)(c:Nat):(!(Builtin.Str.occurrences y (one c) 0 y.length 1).isEmpty)=decide (c∈y.cps.toList):=by
 rw[occ1]
 by_cases h:c∈y.cps.toList
 ·rw[decide_eq_true h];cases e:JAL c 0 y.cps.toList with
  |nil=>exact absurd h (cuts_mem.mp e)
  |cons k r=>rfl
 ·rw[decide_eq_false h,cuts_mem.mpr h];rfl
def figures:Str:="0123456789"
theorem JNJ(c:Nat):c∈figures.cps.toList↔48≤c∧c≤57:=by
 have e:figures.cps.toList=[48,49,50,51,52,53,54,55,56,57]:=by decide +kernel
 rw[e];simp only[List.mem_cons,List.not_mem_nil,or_false];omega
theorem fold_lt:∀(cs:List Nat) (a:Nat),AllDigits cs→cs.foldl (λacc c=>acc*10+(c - 48)) a<(a+1)*10 ^ cs.length
 | [],a,_=>by simp
 |c::cs,a,h=>by
  have ih:=fold_lt cs (a*10+(c - 48)) h.tail;have h2:=h.head;show cs.foldl _ (a*10+(c - 48))<_;refine Nat.lt_of_lt_of_le ih ?_;rw[List.length_cons,Nat.pow_succ,Nat.mul_comm (10 ^ cs.length) 10,←Nat.mul_assoc];exact Nat.mul_le_mul_right _ (by omega)
theorem JL7(cs:List Nat)(h:AllDigits cs):digitsVal cs<10 ^ cs.length:=by
 have:=fold_lt cs 0 h;rw[Nat.zero_add,Nat.one_mul]at this;exact this
theorem JFg{x:Str}(h:AllDigits x.cps.toList)(h0:x.cps.toList≠[])(h9:x.length≤9):∃n:Int,PySem.intText? x=some n∧n.natAbs<10 ^ 9:=by
 refine⟨_,intText_digits h h0 (by omega),?_⟩
 have e:x.length=x.cps.toList.length:=by simp[Str.length]
 have:=JL7 _ h;have hp:=Nat.pow_le_pow_right (n:=10) (by decide) (show x.cps.toList.length≤9 by omega)
 simp;omega
theorem JEb{x:Str}{cs:List Nat}(hx:x.cps.toList=45::cs)(h:AllDigits cs)(h0:cs≠[])(h9:cs.length≤9):∃n:Int,PySem.intText? x=some n∧n.natAbs<10 ^ 9:=by
 have e:x.length=x.cps.toList.length:=by simp[Str.length]
 refine⟨_,intText_neg hx h h0 (by rw[e,hx,List.length_cons];omega),?_⟩
 have:=JL7 _ h;have hp:=Nat.pow_le_pow_right (n:=10) (by decide) h9
 simp;omega
end VI.VP
end
section
namespace VI.VP
open PySem PySem.W PySem.NumText PyProof.Rows PySem.Builtin PySem.Builtin.Str
theorem JMN(a len:Nat):strSliceIndices (some (a:Int)) none 1 len=strSliceIndices (some ((min a len:Nat):Int)) (some ((len:Nat):Int)) 1 len:=by
 have h1:¬((a:Int)<0):=by omega
 have h2:¬(((min a len:Nat):Int)<0):=by omega
 have h3:¬((len:Int)<0):=by omega
 simp only[strSliceIndices,h1,h2,h3,if_false,show((1:Int) > 0)=True from by simp,if_true]
 congr 1
 ·omega
 ·omega
theorem ix_to(a len:Nat):strSliceIndices none (some (a:Int)) 1 len=strSliceIndices (some ((0:Nat):Int)) (some ((min a len:Nat):Int)) 1 len:=by
 have h1:¬((a:Int)<0):=by omega
 have h2:¬(((min a len:Nat):Int)<0):=by omega
 have h3:¬(((0:Nat):Int)<0):=by omega
 simp only[strSliceIndices,h1,h2,h3,if_false,show((1:Int) > 0)=True from by simp,if_true]
 congr 1
 omega
theorem JEe(x:Str){l u:Option Int}{a b:Nat}(hab:a≤b)(hb:b≤x.length)(e:strSliceIndices l u 1 x.length=strSliceIndices (some (a:Int)) (some (b:Int)) 1 x.length) :
  (Txt.slice x l u).cps.toList=(x.cps.toList.drop a).take (b - a):=by
 have h:=StrLaws.sliced_plain x hab hb;have hl:(strSliceIndices l u 1 x.length).length=b - a:=by rw[e,StrLaws.strSliceIndices_plain hab hb];simp
 have ex:x.cps.toList.length=x.length:=by simp[Str.length]
 unfold Txt.slice
 split
 ·rename_i hc;have:b - a=x.length:=by
    have:=hc;simp[hl]at this;exact this
  have h0:a=0:=by omega
  subst h0;rw[List.drop_zero,List.take_of_length_le (by omega)]
 ·rw[e];simpa using h
theorem JBM(x:Str)(a:Nat):(Txt.slice x (some (a:Int)) none).cps.toList=x.cps.toList.drop a:=by
 have ex:x.cps.toList.length=x.length:=by simp[Str.length]
 rw[JEe x (Nat.min_le_right a x.length) (Nat.le_refl _) (JMN a x.length)];rw[List.take_of_length_le (by rw[List.length_drop];omega)]
 by_cases h:a≤x.length
 ·rw[Nat.min_eq_left h]
 ·rw[Nat.min_eq_right (by omega),List.drop_eq_nil_of_le (by omega),List.drop_eq_nil_of_le (by omega)]
theorem JGq(x:Str)(a:Nat):(Txt.slice x none (some (a:Int))).cps.toList=x.cps.toList.take a:=by
 have ex:x.cps.toList.length=x.length:=by simp[Str.length]
 rw[JEe x (Nat.zero_le _) (Nat.min_le_right a x.length) (ix_to a x.length)];rw[List.drop_zero,Nat.sub_zero]
 by_cases h:a≤x.length
 ·rw[Nat.min_eq_left h]
 ·rw[Nat.min_eq_right (by omega),List.take_of_length_le (by omega),List.take_of_length_le (by omega)]
theorem JBy(x:Str)(c:Nat):Txt.startswith x (one c)=(x.cps.toList.head? == some c):=by
 unfold Txt.startswith;rw[StrLaws.subAt_eq];have ex:x.length=x.cps.toList.length:=by simp[Str.length]
 rw[ex];cases x.cps.toList with
 |nil=>rfl
 |cons a r =>
  show(decide (0+1≤r.length+1)&&([a]==[c]))=_;simp
theorem allFig_iff{x:Str}:JBp x=true↔AllDigits x.cps.toList:=by
 unfold JBp AllDigits;rw[List.all_eq_true];exact⟨λh c hc=>of_decide_eq_true (h c hc),λh c hc=>decide_eq_true (h c hc)⟩
theorem JBa{x:Str}(h:JAb x=none→False):∃n:Int,JAb x=some n∧n.natAbs<10 ^ 9:=by
 have hex:∀y:Str,y.length=y.cps.toList.length:=λy=>by simp[Str.length]
 unfold JAb at h ⊢
 by_cases hs:Txt.startswith x (one 45)=true
 ·simp only[hs,if_true]at h ⊢
  by_cases hc:(Txt.slice x (some 1) none).length=0∨9<(Txt.slice x (some 1) none).length∨JBp (Txt.slice x (some 1) none)=false
  ·rw[if_pos hc]at h;exact absurd rfl h
  ·rw[if_neg hc];have e:=JBM x 1;rw[JBy]at hs;obtain⟨cs,hx⟩:∃cs,x.cps.toList=45::cs:=by
    cases hl:x.cps.toList with
    |nil=>rw[hl]at hs;cases hs
    |cons a r=>rw[hl]at hs;simp at hs;exact⟨r,by rw[hs]⟩
   have e2:(Txt.slice x (some 1) none).cps.toList=cs:=by
    have:(Txt.slice x (some ((1:Nat):Int)) none).cps.toList=cs:=by rw[e,hx];rfl
    exact this
   simp only[not_or]at hc;have l1:=hex (Txt.slice x (some 1) none);rw[e2]at l1;exact JEb hx (by rw[←e2];exact allFig_iff.mp (by simpa using hc.2.2)) (λz=>hc.1 (by rw[l1,z];rfl)) (by omega)
 ·have hs:=Bool.eq_false_iff.mpr hs;simp only[hs,Bool.false_eq_true,if_false]at h ⊢
  by_cases hc:x.length=0∨9<x.length∨JBp x=false
  ·rw[if_pos hc]at h;exact absurd rfl h
  ·rw[if_neg hc];simp only[not_or]at hc;exact JFg (allFig_iff.mp (by simpa using hc.2.2)) (λz=>hc.1 (by rw[hex,z];rfl)) (by omega)
end VI.VP
end
section
namespace VI.VP
open PySem PySem.W PySem.NumText PyProof.Rows PySem.Builtin PySem.Builtin.Str
theorem len_list(y:Str):y.length=y.cps.toList.length:=by simp[Str.length]
theorem JH8{m:Nat}:(digs m).head?≠some 45:=by
 intro h;have:=JBZ m 45 (List.mem_of_head? h);omega
theorem JCE{n:Int}(h:n.natAbs<10 ^ 9):JAb (tx n)=some n:=by
 have hr:=JJk h;cases n with
 |ofNat m =>
  have e:(tx (Int.ofNat m)).cps.toList=digs m:=JDt m;have hs:Txt.startswith (tx (Int.ofNat m)) (one 45)=false:=by
   rw[JBy,e];exact Bool.eq_false_iff.mpr λz=>JH8 (eq_of_beq z)
  have l:=JCN 8 m h;have l0:=List.length_pos_iff.mpr (JD6 m);unfold JAb;simp only[hs,Bool.false_eq_true,if_false];rw[if_neg,hr];rw[len_list,e,Bool.eq_false_iff];exact λz=>z.elim (λz=>by omega) λz=>z.elim (λz=>by omega) λz=>z (allFig_iff.mpr (by rw[e];exact JBZ m))
 |negSucc m =>
  have e:=JG2 m;have hs:Txt.startswith (tx (Int.negSucc m)) (one 45)=true:=by
   rw[JBy,e];rfl
  have e2:(Txt.slice (tx (Int.negSucc m)) (some 1) none).cps.toList=digs (m+1):=(JBM (tx (Int.negSucc m)) 1).trans (by rw[e];rfl)
  have l:=JCN 8 (m+1) h;have l0:=List.length_pos_iff.mpr (JD6 (m+1));unfold JAb;simp only[hs,if_true];rw[if_neg,hr];rw[len_list,e2,Bool.eq_false_iff];exact λz=>z.elim (λz=>by omega) λz=>z.elim (λz=>by omega) λz=>z (allFig_iff.mpr (by rw[e2];exact JBZ _))
theorem JHM(n:Int){c:Nat}(h1:c≠45)(h2:c<48):c ∉ (tx n).cps.toList:=λh=>by
 rcases JGy n c h with e|e
 ·exact h1 e
 ·omega
theorem JFv{P:Int→Int→Bool}{u d:Int}(hp:P u d=true)(hu:u.natAbs<10 ^ 9)(hd:d.natAbs<10 ^ 9):JA0 P (JBe u d)=some (u,d):=by
 unfold JA0
 by_cases h:d=1
 ·subst h;have e:JBe u 1=tx u:=if_pos rfl;rw[e,JFB (JHM u (by decide) (by decide))]
  simp only[JCE hu,Option.bind_some,if_true];rw[if_pos ⟨hp,e⟩]
 ·have e:JBe u d=tx u++one 47++tx d:=if_neg h;rw[e,JGG (JHM u (by decide) (by decide))]
  have hn:one 47≠Str.empty:=λz=>by cases z
  simp only[JCE hu,Option.bind_some,if_neg hn,JCE hd];rw[if_pos ⟨hp,e⟩]
theorem JCW{P:Int→Int→Bool}{x:Str}{u d:Int}(h:JA0 P x=some (u,d)):P u d=true∧JBe u d=x∧u.natAbs<10 ^ 9∧d.natAbs<10 ^ 9:=by
 unfold JA0 at h;obtain⟨u',h1,h⟩:=Option.bind_eq_some_iff.mp h;obtain⟨d',h2,h⟩:=Option.bind_eq_some_iff.mp h
 split at h
 ·rename_i hc;cases h;obtain⟨n,e,hn⟩:=JBa (x:=(Txt.partition x (one 47)).1) (λz=>by rw[h1]at z;cases z)
  rw[h1]at e;cases e;refine⟨hc.1,hc.2,hn,?_⟩
  split at h2
  ·cases h2;decide
  ·obtain⟨n,e,hn⟩:=JBa (x:=(Txt.partition x (one 47)).2.2) (λz=>by rw[h2]at z;cases z)
   rw[h2]at e;cases e;exact hn
 ·cases h
end VI.VP
end
section
namespace VI.VP
open PySem Fr
structure TabM(tab:Nat→Option Fd):Prop where
 h7:tab 7=some d_7
 h8:tab 8=some d_8
 h9:tab 9=some d_9
 h10:tab 10=some d_10
section
variable{x:Bool}{tab:Nat→Option Fd}{glo:Nat→R D}{sub:Nat→Nat→Bool}{n:Nat}
end
end VI.VP
end
section
namespace VI.VP
open PySem Fr
theorem r3:rngD [.int 3]=.ok [.int 0,.int 1,.int 2]:=rfl
theorem JMi(p:Rat):(F p).depth=1:=by
 simp only[F,PyData.depth,PyData.depthAll];rfl
section
variable{x:Bool}{tab:Nat→Option Fd}{glo:Nat→R D}{sub:Nat→Nat→Bool}{n:Nat}
end
end VI.VP
end
section
namespace VI.VP
noncomputable def b_23:S:=(.cons (.ret (.and (.isi (.var 0) .int) (.not (.isi (.var 0) .bool)))) .nil)
noncomputable def d_23:Fd:=⟨1,1,b_23⟩
noncomputable def b_24:S:=(.cons (.ife (.or (.not (.isi (.var 0) .tuple)) (.cmp .NotEq (.blt .len (.cons (.var 0) .nil)) (.cint 2))) (.cons (.ret (.cbl false)) .nil) .nil) (.cons (.asg 1 (.idx (.var 0) (.cint 0))) (.cons (.asg 2 (.idx (.var 0) (.cint 1))) (.cons (.ife (.or (.not (.call 23 (.cons (.var 1) .nil))) (.not (.call 23 (.cons (.var 2) .nil)))) (.cons (.ret (.cbl false)) .nil) .nil) (.cons (.ret (.and (.cmp .Gt (.var 2) (.cint 0)) (.cmp .Eq (.call 0 (.cons (.var 1) (.cons (.var 2) .nil))) (.cint 1)))) .nil)))))
noncomputable def d_24:Fd:=⟨1,3,b_24⟩
noncomputable def b_25:S:=(.cons (.ret (.call 1 (.cons (.bin .Mult (.idx (.var 0) (.cint 0)) (.idx (.var 1) (.cint 1))) (.cons (.bin .Mult (.idx (.var 0) (.cint 1)) (.idx (.var 1) (.cint 0))) .nil)))) .nil)
noncomputable def d_25:Fd:=⟨2,2,b_25⟩
noncomputable def b_26:S:=(.cons (.asg 1 (.lst (.cons (.isi (.var 0) (.own 1)) (.cons (.isi (.var 0) (.own 2)) (.cons (.isi (.var 0) (.own 6)) (.cons (.isi (.var 0) (.own 3)) .nil)))))) (.cons (.ext 1 (.lst (.cons (.isi (.var 0) (.own 7)) (.cons (.isi (.var 0) (.own 5)) (.cons (.isi (.var 0) (.own 4)) .nil))))) (.cons (.ife (.or (.cmp .NotEq (.mcount (.var 1) (.cbl true)) (.cint 1)) (.not (.isi (.var 0) .valueError))) (.cons (.ret (.cstr "wrong")) .nil) .nil) (.cons (.ret (.idx (.lst (.cons (.cstr "no frac") (.cons (.cstr "no kind") (.cons (.cstr "no name") (.cons (.cstr "no plan") (.cons (.cstr "no text") (.cons (.cstr "no time") (.cons (.cstr "no track") .nil)))))))) (.mindex (.var 1) (.cbl true)))) .nil))))
noncomputable def d_26:Fd:=⟨1,2,b_26⟩
noncomputable def b_27:S:=(.cons (.asg 3 .cnon) (.cons (.asg 4 .cnon) (.cons (.tryx (.cons (.asg 4 (.ife (.cmp .Eq (.var 0) (.cint 0)) (.call 1 (.cons (.var 1) (.cons (.var 2) .nil))) (.call 25 (.cons (.var 1) (.cons (.var 2) .nil))))) .nil) 0 5 (.cons (.asg 3 (.var 5)) .nil)) (.cons (.ife (.isN (.var 3) false) (.cons (.ret (.var 4)) .nil) .nil) (.cons (.ret (.call 26 (.cons (.var 3) .nil))) .nil)))))
noncomputable def d_27:Fd:=⟨3,6,b_27⟩
end VI.VP
end
section
namespace VI.VP
open PySem Fr
structure SubOk(sub:Nat→Nat→Bool)(k:Nat):Prop where
 h0:sub k 0=true
 h1:sub k 1=decide (k=1)
 h2:sub k 2=decide (k=2)
 h3:sub k 3=decide (k=3)
 h4:sub k 4=decide (k=4)
 h5:sub k 5=decide (k=5)
 h6:sub k 6=decide (k=6)
 h7:sub k 7=decide (k=7)
 me:sub k k=true
theorem JNu{sub:Nat→Nat→Bool}{k c:Nat}(h:sub k k=true):isiD sub (excD k) (.own c)=.ok (.bool (sub k c)):=by
 simp only[isiD,excD,Int.toNat_natCast,h,if_true]
theorem JNf{sub:Nat→Nat→Bool}{k:Nat}(h:sub k k=true):isiD sub (excD k) .valueError=.ok (.bool true):=by
 simp only[isiD,excD,Int.toNat_natCast,h,if_true]
theorem JH0{k:Nat}:isNone (excD k)=false:=rfl
theorem JMT{C:Cn}{c i j k:Nat}{δ δ0:Env}(hd:(δ.map λ_=>Sl.no)=δ0)(hi:i<δ0.length)(hs:C.sub k c=true) :
  try1 C c i (.cons (.asg j (.var i)) .nil) δ (.ex k)=.nx (((δ0.set i (.val (excD k))).set j (.val (excD k))).set i .no):=by
 have e0:look (δ0.set i (.val (excD k))) i=.ok (excD k):=by
  unfold look;rw[List.getElem?_set_self hi];rfl
 have e1:after (.var i) (excD k) (δ0.set i (.val (excD k)))=δ0.set i (.val (excD k)):=by
  unfold after;have:JAW (excD k)=true:=rfl;rw[this];simp
 simp only[try1,hs,if_true,hd]
 dsimp![e0]
 rw[←JEG,e1]
section
variable{x:Bool}{tab:Nat→Option Fd}{glo:Nat→R D}{sub:Nat→Nat→Bool}{n:Nat}
structure TabI(tab:Nat→Option Fd):Prop where
 h23:tab 23=some d_23
 h24:tab 24=some d_24
 h25:tab 25=some d_25
noncomputable def isW:D→Bool
 |.int _=>true
 |_=>false
theorem JBV(T:TabI tab)(d:D){b1 b2:Bool}(h1:isiD sub d .int=.ok (.bool b1))(h2:isiD sub d .bool=.ok (.bool b2)):run x tab glo sub (n+1) 23 [d]=.ok (.bool (b1&&!b2)):=by
 rw[JAC T.h23,JAD rfl];cases b1
 ·dsimp![d_23,b_23,h1,h2]
 ·dsimp![d_23,b_23,h1,h2,Bool.true_and]
theorem JHm(T:TabI tab)(d:D)(h:∀k,d≠.dict k):run x tab glo sub (n+1) 23 [d]=.ok (.bool (isW d)):=by
 cases d with
 |dict k=>exact absurd rfl (h k)
 |none=>exact JBV (b1:=false) (b2:=false) T _ rfl rfl
 |bool k=>exact JBV (b1:=true) (b2:=true) T _ rfl rfl
 |int k=>exact JBV (b1:=true) (b2:=false) T _ rfl rfl
 |str k=>exact JBV (b1:=false) (b2:=false) T _ rfl rfl
 |list k=>exact JBV (b1:=false) (b2:=false) T _ rfl rfl
 |tuple k=>exact JBV (b1:=false) (b2:=false) T _ rfl rfl
theorem JGU(T:TabF tab)(I:TabI tab)(a b:Int):run x tab glo sub (n+2) 24 [.tuple [.int a,.int b]]=.ok (.bool (decide (0<b)&&decide (a.gcd b=1))):=by
 have w:=λ(d:D) (h:∀k,d≠.dict k)=>JHm (x:=x) (glo:=glo) (sub:=sub) (n:=n) I d h;have e0:idxD (.tuple [.int a,.int b]) (.int 0)=.ok (.int a):=rfl;have e1:idxD (.tuple [.int a,.int b]) (.int 1)=.ok (.int b):=rfl;have e2:isiD sub (.tuple [.int a,.int b]) .tuple=.ok (.bool true):=rfl;have e3:(2:Int)=(((0+1+1:Nat)):Int):=rfl;have e4:((((a.gcd b:Nat):Int))=1)=(a.gcd b=1):=by apply propext;omega
 rw[JAC I.h24,JAD rfl]
 by_cases hb:0<b
 ·dsimp![d_24,b_24,e0,e1,e2,e3,w (.int a) (λk h=>by cases h),w (.int b) (λk h=>by cases h),isW,List.length_cons,List.length_nil,Nat.reduceAdd,Bool.not_true,hb,decide_true,JPU T,Bool.true_and,e4]
 ·dsimp![d_24,b_24,e0,e1,e2,e3,w (.int a) (λk h=>by cases h),w (.int b) (λk h=>by cases h),isW,List.length_cons,List.length_nil,Nat.reduceAdd,Bool.not_true,hb,decide_true,decide_false,JPU T,Bool.true_and,e4]
theorem isf_F(T:TabF tab)(I:TabI tab)(p:Rat):run x tab glo sub (n+2) 24 [F p]=.ok (.bool true):=by
 rw[F,JGU T I,JNd];have:=den_pos p;rw[decide_eq_true this];rfl
end
end VI.VP
end
section
namespace VI.VP
noncomputable def b_29:S:=(.cons (.ret (.cmp .In (.var 0) (.glo 41))) .nil)
noncomputable def d_29:Fd:=⟨1,1,b_29⟩
noncomputable def b_30:S:=(.cons (.ife (.not (.call 29 (.cons (.var 0) .nil))) (.cons (.rais 2) .nil) .nil) .nil)
noncomputable def d_30:Fd:=⟨1,1,b_30⟩
noncomputable def b_31:S:=(.cons (.ret (.call 8 (.cons (.lst (.cons (.glo 39) (.cons (.call 7 (.cons (.lst (.cons (.glo 40) (.cons (.var 0) .nil))) .nil)) .nil))) .nil))) .nil)
noncomputable def d_31:Fd:=⟨1,1,b_31⟩
noncomputable def b_32:S:=(.cons (.drop (.call 30 (.cons (.var 0) .nil))) (.cons (.asg 2 (.call 31 (.cons (.var 1) .nil))) (.cons (.ife (.cmp .Eq (.var 0) (.cstr "even")) (.cons (.ret (.var 2)) .nil) .nil) (.cons (.ife (.cmp .Eq (.var 0) (.cstr "in")) (.cons (.ret (.call 5 (.cons (.var 2) (.cons (.var 2) .nil)))) .nil) .nil) (.cons (.ife (.cmp .Eq (.var 0) (.cstr "out")) (.cons (.ret (.call 4 (.cons (.call 5 (.cons (.call 2 (.cons (.cint 2) .nil)) (.cons (.var 2) .nil))) (.cons (.call 5 (.cons (.var 2) (.cons (.var 2) .nil))) .nil)))) .nil) .nil) (.cons (.ife (.cmp .Eq (.var 0) (.cstr "both")) (.cons (.ret (.call 5 (.cons (.call 5 (.cons (.var 2) (.cons (.var 2) .nil))) (.cons (.call 4 (.cons (.call 2 (.cons (.cint 3) .nil)) (.cons (.call 5 (.cons (.call 2 (.cons (.cint 2) .nil)) (.cons (.var 2) .nil))) .nil))) .nil)))) .nil) .nil) (.cons (.ife (.cmp .Eq (.var 0) (.cstr "hold")) (.cons (.ret (.ife (.cmp .Eq (.var 2) (.glo 40)) (.glo 40) (.glo 39))) .nil) .nil) (.cons (.ret (.ife (.cmp .Eq (.var 2) (.glo 39)) (.glo 39) (.glo 40))) .nil))))))))
noncomputable def d_32:Fd:=⟨2,3,b_32⟩
noncomputable def b_33:S:=(.cons (.drop (.call 30 (.cons (.var 0) .nil))) (.cons (.ret (.mget (.glo 42) (.var 0) (.var 0))) .nil))
noncomputable def d_33:Fd:=⟨1,1,b_33⟩
noncomputable def b_34:S:=(.cons (.drop (.call 30 (.cons (.var 0) .nil))) (.cons (.ife (.cmp .Lt (.var 1) (.cint 1)) (.cons (.ret (.lst .nil)) .nil) .nil) (.cons (.ret (.cmpr 0 (.call 32 (.cons (.var 1) (.cons (.call 1 (.cons (.var 0) (.cons (.var 2) .nil))) .nil))) (.rng (.cons (.bin .Add (.var 1) (.cint 1)) .nil)) (.cbl true))) .nil)))
noncomputable def d_34:Fd:=⟨2,2,b_34⟩
noncomputable def b_35:S:=(.cons (.ret (.idx (.lst (.cons (.cstr "even") (.cons (.cstr "in") (.cons (.cstr "out") (.cons (.cstr "both") (.cons (.cstr "hold") (.cons (.cstr "jump") .nil))))))) (.call 12 (.cons (.var 0) (.cons (.var 1) (.cons (.cint 6) .nil)))))) .nil)
noncomputable def d_35:Fd:=⟨2,2,b_35⟩
noncomputable def b_36:S:=(.cons (.ife (.cmp .LtE (.idx (.var 1) (.cint 0)) (.cint 0)) (.cons (.ret (.tup (.cons (.cint 0) (.cons (.cint 1) .nil)))) .nil) .nil) (.cons (.ife (.cmp .GtE (.idx (.var 1) (.cint 0)) (.idx (.var 1) (.cint 1))) (.cons (.ret (.tup (.cons (.cint 1) (.cons (.cint 1) .nil)))) .nil) .nil) (.cons (.ife (.cmp .In (.var 0) (.tup (.cons (.cstr "hold") (.cons (.cstr "jump") .nil)))) (.cons (.ret (.ife (.cmp .Eq (.var 0) (.cstr "hold")) (.tup (.cons (.cint 0) (.cons (.cint 1) .nil))) (.tup (.cons (.cint 1) (.cons (.cint 1) .nil))))) .nil) .nil) (.cons (.unp [2,3] (.var 1)) (.cons (.ife (.cmp .Eq (.var 0) (.cstr "even")) (.cons (.ret (.var 1)) .nil) .nil) (.cons (.ife (.cmp .Eq (.var 0) (.cstr "in")) (.cons (.ret (.call 14 (.cons (.bin .Mult (.var 2) (.var 2)) (.cons (.bin .Mult (.var 3) (.var 3)) .nil)))) .nil) .nil) (.cons (.ife (.cmp .Eq (.var 0) (.cstr "out")) (.cons (.ret (.call 14 (.cons (.bin .Sub (.bin .Mult (.bin .Mult (.cint 2) (.var 2)) (.var 3)) (.bin .Mult (.var 2) (.var 2))) (.cons (.bin .Mult (.var 3) (.var 3)) .nil)))) .nil) .nil) (.cons (.ret (.call 14 (.cons (.bin .Sub (.bin .Mult (.bin .Mult (.bin .Mult (.cint 3) (.var 2)) (.var 2)) (.var 3)) (.bin .Mult (.bin .Mult (.bin .Mult (.cint 2) (.var 2)) (.var 2)) (.var 2))) (.cons (.bin .Mult (.bin .Mult (.var 3) (.var 3)) (.var 3)) .nil)))) .nil))))))))
noncomputable def d_36:Fd:=⟨2,4,b_36⟩
noncomputable def b_37:S:=(.cons (.asg 2 .cnon) (.cons (.asg 3 .cnon) (.cons (.tryx (.cons (.asg 3 (.ife (.cmp .Eq (.var 0) (.cint 0)) (.call 32 (.cons (.var 1) (.cons (.tup (.cons (.cint 1) (.cons (.cint 2) .nil))) .nil))) (.call 33 (.cons (.var 1) .nil)))) .nil) 0 4 (.cons (.asg 2 (.var 4)) .nil)) (.cons (.ife (.isN (.var 2) false) (.cons (.ret (.var 3)) .nil) .nil) (.cons (.ret (.call 26 (.cons (.var 2) .nil))) .nil)))))
noncomputable def d_37:Fd:=⟨2,5,b_37⟩
end VI.VP
end
section
namespace VI.VP
open PySem Fr
inductive Kd where
 |even|inn|out|both|hold|jump
 deriving DecidableEq
noncomputable def Kd.str:Kd→Str
 |.even=>"even"
 |.inn=>"in"
 |.out=>"out"
 |.both=>"both"
 |.hold=>"hold"
 |.jump=>"jump"
noncomputable def Kd.turn:Kd→Kd
 |.inn=>.out
 |.out=>.inn
 |.hold=>.jump
 |.jump=>.hold
 |k=>k
noncomputable def JJG(r:Rat):Rat:=if r≤0 then 0 else if 1≤r then 1 else r
noncomputable def ez(k:Kd)(p:Rat):Rat:=match k with
 |.even=>p
 |.inn=>p*p
 |.out=>2*p - p*p
 |.both=>p*p*(3 - 2*p)
 |.hold=>if p=1 then 1 else 0
 |.jump=>if p=0 then 0 else 1
noncomputable def kinds:D:=.tuple [.str "even",.str "in",.str "out",.str "both",.str "hold",.str "jump"]
noncomputable def turned:D:=.dict [(.str "in",.str "out"),(.str "out",.str "in"),(.str "hold",.str "jump"),(.str "jump",.str "hold")]
structure GloK(glo:Nat→R D):Prop where
 zero:glo 39=.ok (F 0)
 one:glo 40=.ok (F 1)
 kinds:glo 41=.ok VP.kinds
 turned:glo 42=.ok VP.turned
structure TabK(tab:Nat→Option Fd):Prop where
 h29:tab 29=some d_29
 h30:tab 30=some d_30
 h31:tab 31=some d_31
 h32:tab 32=some d_32
 h33:tab 33=some d_33
section
variable{x:Bool}{tab:Nat→Option Fd}{glo:Nat→R D}{sub:Nat→Nat→Bool}{n:Nat}
theorem JQW(g:GloK glo)(T:TabK tab)(d:D){b:Bool}(h:cmpD .In d VP.kinds=.ok (.bool b)):run x tab glo sub (n+1) 29 [d]=.ok (.bool b):=by
 rw[JAC T.h29,JAD rfl]
 dsimp![d_29,b_29,g.kinds,h]
theorem JKe(k:Kd):cmpD .In (.str k.str) VP.kinds=.ok (.bool true):=by
 have h:JB5 [.str "even",.str "in",.str "out",.str "both",.str "hold",.str "jump"] (.str k.str)=true:=by cases k<;>decide +kernel
 have h2:([.str "even",.str "in",.str "out",.str "both",.str "hold",.str "jump"]:List D).any (λz=>PyData.eqv z (.str k.str))=true:=by cases k<;>decide +kernel
 simp only[cmpD,VP.kinds,h,if_true,h2]
end
section
variable{x:Bool}{tab:Nat→Option Fd}{glo:Nat→R D}{sub:Nat→Nat→Bool}{n:Nat}
theorem JMI(i:Int)(h0:0≤i)(h1:i<6):∃k:Kd,idxD (.list [.str "even",.str "in",.str "out",.str "both",.str "hold",.str "jump"]) (.int i)=.ok (.str k.str):=by
 have:i=0∨i=1∨i=2∨i=3∨i=4∨i=5:=by omega
 rcases this with rfl|rfl|rfl|rfl|rfl|rfl
 ·exact⟨.even,rfl⟩
 ·exact⟨.inn,rfl⟩
 ·exact⟨.out,rfl⟩
 ·exact⟨.both,rfl⟩
 ·exact⟨.hold,rfl⟩
 ·exact⟨.jump,rfl⟩
theorem JJe(Lw:TabL tab)(h35:tab 35=some d_35)(ns:List Int)(j:Int)(hj:0≤j)(hj2:j<1000000):∃k:Kd,run x tab glo sub (n+3) 35 [sc ns,.int j]=.ok (.str k.str):=by
 rw[JAC h35,JAD rfl];obtain⟨i,i0,i1,hi⟩:=JCY (x:=x) (glo:=glo) (sub:=sub) (n:=n) Lw ns j 6 hj (by omega) (by decide)
 obtain⟨k,hk⟩:=JMI i i0 i1;refine⟨k,?_⟩
 dsimp![d_35,b_35,hi,hk]
end
noncomputable def e8(k:Kd)(s:Int):Rat:=ez k (JJG (Rat.divInt s 8))
section
variable{x:Bool}{tab:Nat→Option Fd}{glo:Nat→R D}{sub:Nat→Nat→Bool}{n:Nat}
noncomputable def parts(k:Kd)(m:Int):List Rat:=(List.range (m+1).toNat).map λj:Nat=>ez k (JJG (Rat.divInt (j:Int) m))
end
end VI.VP
end
section
namespace VI.VP
noncomputable def b_43:S:=(.cons (.drop (.call 30 (.cons (.var 0) .nil))) (.cons (.ife (.or (.call 6 (.cons (.var 1) (.cons (.glo 39) .nil))) (.call 6 (.cons (.glo 40) (.cons (.var 1) .nil)))) (.cons (.ret (.glo 39)) .nil) .nil) (.cons (.ife (.cmp .Eq (.var 0) (.cstr "even")) (.cons (.ret (.glo 40)) .nil) .nil) (.cons (.ife (.cmp .Eq (.var 0) (.cstr "in")) (.cons (.ret (.call 5 (.cons (.call 2 (.cons (.cint 2) .nil)) (.cons (.var 1) .nil)))) .nil) .nil) (.cons (.ife (.cmp .Eq (.var 0) (.cstr "out")) (.cons (.ret (.call 4 (.cons (.call 2 (.cons (.cint 2) .nil)) (.cons (.call 5 (.cons (.call 2 (.cons (.cint 2) .nil)) (.cons (.var 1) .nil))) .nil)))) .nil) .nil) (.cons (.ife (.cmp .Eq (.var 0) (.cstr "both")) (.cons (.ret (.call 5 (.cons (.call 2 (.cons (.cint 6) .nil)) (.cons (.call 4 (.cons (.var 1) (.cons (.call 5 (.cons (.var 1) (.cons (.var 1) .nil))) .nil))) .nil)))) .nil) .nil) (.cons (.ret (.glo 39)) .nil)))))))
noncomputable def d_43:Fd:=⟨2,2,b_43⟩
noncomputable def b_44:S:=(.cons (.asg 1 .cnon) (.cons (.tryx (.cons (.drop (.call 43 (.cons (.var 0) (.cons (.tup (.cons (.cint 1) (.cons (.cint 2) .nil))) .nil)))) .nil) 0 2 (.cons (.asg 1 (.var 2)) .nil)) (.cons (.ret (.isi (.var 1) (.own 2))) .nil)))
noncomputable def d_44:Fd:=⟨1,3,b_44⟩
end VI.VP
end
section
namespace VI.VP
open PySem Fr
noncomputable def slm(k:Kd)(r:Rat):Rat:=match k with
 |.even=>1
 |.inn=>2*r
 |.out=>2 - 2*r
 |.both=>6*(r - r*r)
 |.hold=>0
 |.jump=>0
noncomputable def sl(k:Kd)(r:Rat):Rat:=if r<0∨1<r then 0 else slm k r
section
variable{x:Bool}{tab:Nat→Option Fd}{glo:Nat→R D}{sub:Nat→Nat→Bool}{n:Nat}
end
end VI.VP
end
section
namespace VI.VP
open PySem Fr
class Z (k:outParam Nat) (q:Rat):Prop where
 h:Sz k q
section
variable{i j:Nat}{p q:Rat}
theorem Small.Z{q:Rat}(h:Small q):Z 5 q:=⟨h.sz⟩
end
theorem nd(q:Rat):q*((q.den:Int):Rat)=(q.num:Rat):=by
 have z:((q.den:Int):Rat)≠0:=by exact_mod_cast JFU q
 conv=>lhs;lhs;rw[←Rat.num_divInt_den q,Rat.divInt_eq_div,Rat.div_def]
 rw[Rat.mul_assoc,Rat.inv_mul_cancel _ z,Rat.mul_one]
section
variable{a c i i4 i5 i6:Nat}{s g l u v q:Rat}
end
section
variable{j:Nat}{p:Rat}[a:Z j p]
end
end VI.VP
end
section
namespace VI.VP
noncomputable def b_68:S:=(.cons (.ret (.and (.call 24 (.cons (.var 0) .nil)) (.cmp .Gt (.idx (.var 0) (.cint 0)) (.cint 0)))) .nil)
noncomputable def d_68:Fd:=⟨1,1,b_68⟩
noncomputable def JNw:S:=(.cons (.ret (.call 141 (.cons (.var 0) (.cons (.glo 151) .nil)))) .nil)
noncomputable def JIp:Fd:=⟨1,1,JNw⟩
noncomputable def JBR:S:=(.cons (.ife (.or (.cmp .Eq (.var 1) (.cint 0)) (.or (.not (.isi (.var 0) .tuple)) (.cmp .Eq (.blt .len (.cons (.var 0) .nil)) (.cint 0)))) (.cons (.ret (.cbl false)) .nil) .nil) (.cons (.asg 2 (.idx (.var 0) (.cint 0))) (.cons (.ife (.or (.cmp .Eq (.var 2) (.cstr "go")) (.cmp .Eq (.var 2) (.cstr "by"))) (.cons (.ret (.and (.cmp .Eq (.blt .len (.cons (.var 0) .nil)) (.cint 4)) (.and (.call 24 (.cons (.idx (.var 0) (.cint 1)) .nil)) (.and (.call 68 (.cons (.idx (.var 0) (.cint 2)) .nil)) (.call 29 (.cons (.idx (.var 0) (.cint 3)) .nil)))))) .nil) .nil) (.cons (.ife (.cmp .Eq (.var 2) (.cstr "wait")) (.cons (.ret (.and (.cmp .Eq (.blt .len (.cons (.var 0) .nil)) (.cint 2)) (.call 68 (.cons (.idx (.var 0) (.cint 1)) .nil)))) .nil) .nil) (.cons (.ife (.cmp .Eq (.var 2) (.cstr "then")) (.cons (.ret (.and (.cmp .Eq (.blt .len (.cons (.var 0) .nil)) (.cint 3)) (.and (.call 141 (.cons (.idx (.var 0) (.cint 1)) (.cons (.bin .Sub (.var 1) (.cint 1)) .nil))) (.call 141 (.cons (.idx (.var 0) (.cint 2)) (.cons (.bin .Sub (.var 1) (.cint 1)) .nil)))))) .nil) .nil) (.cons (.ife (.cmp .Eq (.var 2) (.cstr "again")) (.cons (.ret (.and (.cmp .Eq (.blt .len (.cons (.var 0) .nil)) (.cint 3)) (.and (.call 142 (.cons (.idx (.var 0) (.cint 1)) .nil)) (.call 141 (.cons (.idx (.var 0) (.cint 2)) (.cons (.bin .Sub (.var 1) (.cint 1)) .nil)))))) .nil) .nil) (.cons (.ret (.cbl false)) .nil)))))))
noncomputable def JAs:Fd:=⟨2,3,JBR⟩
noncomputable def JNK:S:=(.cons (.ret (.and (.call 23 (.cons (.var 0) .nil)) (.and (.cmp .GtE (.var 0) (.cint 0)) (.cmp .LtE (.var 0) (.glo 152))))) .nil)
noncomputable def JKi:Fd:=⟨1,1,JNK⟩
noncomputable def b_147:S:=(.cons (.ife (.cmp .Eq (.idx (.var 0) (.cint 0)) (.cstr "then")) (.cons (.ret (.bin .Add (.call 147 (.cons (.idx (.var 0) (.cint 1)) .nil)) (.call 147 (.cons (.idx (.var 0) (.cint 2)) .nil)))) .nil) .nil) (.cons (.ife (.cmp .Eq (.idx (.var 0) (.cint 0)) (.cstr "again")) (.cons (.asg 1 (.lst .nil)) (.cons (.for1 2 (.rng (.cons (.idx (.var 0) (.cint 1)) .nil)) (.cons (.ext 1 (.call 147 (.cons (.idx (.var 0) (.cint 2)) .nil))) .nil)) (.cons (.ret (.var 1)) .nil))) .nil) (.cons (.ret (.lst (.cons (.var 0) .nil))) .nil)))
noncomputable def d_147:Fd:=⟨1,3,b_147⟩
noncomputable def JEH:S:=(.cons (.asg 3 (.call 12 (.cons (.var 0) (.cons (.var 1) (.cons (.cint 8) .nil))))) (.cons (.ife (.or (.cmp .Eq (.var 2) (.cint 1)) (.cmp .Lt (.var 3) (.cint 3))) (.cons (.asg 4 (.call 12 (.cons (.var 0) (.cons (.bin .Add (.var 1) (.cint 1)) (.cons (.cint 5) .nil))))) (.cons (.ife (.cmp .Eq (.var 4) (.cint 0)) (.cons (.ret (.tup (.cons (.cstr "wait") (.cons (.call 16 (.cons (.var 0) (.cons (.bin .Add (.var 1) (.cint 2)) .nil))) .nil)))) .nil) .nil) (.cons (.asg 5 (.ife (.cmp .Lt (.var 4) (.cint 3)) (.cstr "go") (.cstr "by"))) (.cons (.ret (.tup (.cons (.var 5) (.cons (.call 15 (.cons (.var 0) (.cons (.bin .Add (.var 1) (.cint 4)) .nil))) (.cons (.call 16 (.cons (.var 0) (.cons (.bin .Add (.var 1) (.cint 6)) .nil))) (.cons (.call 35 (.cons (.var 0) (.cons (.bin .Add (.var 1) (.cint 8)) .nil))) .nil)))))) .nil)))) .nil) (.cons (.ife (.cmp .Lt (.var 3) (.cint 6)) (.cons (.asg 6 (.call 157 (.cons (.var 0) (.cons (.bin .Add (.bin .Mult (.cint 3) (.var 1)) (.cint 11)) (.cons (.bin .Sub (.var 2) (.cint 1)) .nil))))) (.cons (.ret (.tup (.cons (.cstr "then") (.cons (.var 6) (.cons (.call 157 (.cons (.var 0) (.cons (.bin .Add (.bin .Mult (.cint 3) (.var 1)) (.cint 37)) (.cons (.bin .Sub (.var 2) (.cint 1)) .nil)))) .nil))))) .nil)) .nil) (.cons (.ret (.tup (.cons (.cstr "again") (.cons (.call 12 (.cons (.var 0) (.cons (.bin .Add (.var 1) (.cint 9)) (.cons (.cint 4) .nil)))) (.cons (.call 157 (.cons (.var 0) (.cons (.bin .Add (.bin .Mult (.cint 3) (.var 1)) (.cint 23)) (.cons (.bin .Sub (.var 2) (.cint 1)) .nil)))) .nil))))) .nil))))
noncomputable def d_157:Fd:=⟨3,7,JEH⟩
noncomputable def JNP:S:=(.cons (.asg 1 (.idx (.var 0) (.cint 0))) (.cons (.asg 2 (.idx (.var 0) (.cint 1))) (.cons (.ret (.ife (.cmp .Eq (.var 2) (.cint 1)) (.xop .txi (.cons (.var 1) .nil)) (.xop .tfr (.cons (.var 1) (.cons (.var 2) .nil))))) .nil)))
noncomputable def JKb:Fd:=⟨1,3,JNP⟩
noncomputable def JPr:S:=(.cons (.ret (.xop .jn (.cons (.bin .Add (.lst (.cons (.idx (.var 0) (.cint 0)) .nil)) (.call 297 (.cons (.var 0) .nil))) .nil))) .nil)
noncomputable def JNv:Fd:=⟨1,1,JPr⟩
noncomputable def JId:S:=(.cons (.ife (.cmp .Eq (.idx (.var 0) (.cint 0)) (.cstr "then")) (.cons (.ret (.lst (.cons (.call 296 (.cons (.idx (.var 0) (.cint 1)) .nil)) (.cons (.call 296 (.cons (.idx (.var 0) (.cint 2)) .nil)) .nil)))) .nil) .nil) (.cons (.ife (.cmp .Eq (.idx (.var 0) (.cint 0)) (.cstr "again")) (.cons (.ret (.lst (.cons (.xop .txi (.cons (.idx (.var 0) (.cint 1)) .nil)) (.cons (.call 296 (.cons (.idx (.var 0) (.cint 2)) .nil)) .nil)))) .nil) .nil) (.cons (.ife (.cmp .Eq (.idx (.var 0) (.cint 0)) (.cstr "wait")) (.cons (.ret (.lst (.cons (.call 295 (.cons (.idx (.var 0) (.cint 1)) .nil)) .nil))) .nil) .nil) (.cons (.ret (.lst (.cons (.call 295 (.cons (.idx (.var 0) (.cint 1)) .nil)) (.cons (.call 295 (.cons (.idx (.var 0) (.cint 2)) .nil)) (.cons (.idx (.var 0) (.cint 3)) .nil))))) .nil))))
noncomputable def JES:Fd:=⟨1,1,JId⟩
noncomputable def JQt:S:=(.cons (.ret (.blt .all (.cons (.cmpr 0 (.cmp .In (.var 0) (.glo 310)) (.var 0) (.cbl true)) .nil))) .nil)
noncomputable def JMs:Fd:=⟨1,1,JQt⟩
noncomputable def JNI:S:=(.cons (.asg 1 (.ife (.xop .stw (.cons (.var 0) .nil)) (.xop .tcf (.cons (.var 0) (.cons (.cint 1) .nil))) (.var 0))) (.cons (.ife (.or (.cmp .Eq (.blt .len (.cons (.var 1) .nil)) (.cint 0)) (.or (.cmp .Gt (.blt .len (.cons (.var 1) .nil)) (.glo 311)) (.not (.call 298 (.cons (.var 1) .nil))))) (.cons (.rais 7) .nil) .nil) (.cons (.ret (.xop .tin (.cons (.var 0) .nil))) .nil)))
noncomputable def JJg:Fd:=⟨1,2,JNI⟩
noncomputable def JEK:S:=(.cons (.asg 1 (.xop .prt (.cons (.var 0) .nil))) (.cons (.asg 2 (.call 299 (.cons (.idx (.var 1) (.cint 0)) .nil))) (.cons (.asg 3 (.ife (.cmp .Eq (.idx (.var 1) (.cint 1)) (.cstr "")) (.cint 1) (.call 299 (.cons (.idx (.var 1) (.cint 2)) .nil)))) (.cons (.ife (.or (.not (.call 24 (.cons (.tup (.cons (.var 2) (.cons (.var 3) .nil))) .nil))) (.cmp .NotEq (.call 295 (.cons (.tup (.cons (.var 2) (.cons (.var 3) .nil))) .nil)) (.var 0))) (.cons (.rais 7) .nil) .nil) (.cons (.ret (.tup (.cons (.var 2) (.cons (.var 3) .nil)))) .nil)))))
noncomputable def JCm:Fd:=⟨1,4,JEK⟩
noncomputable def JG6:S:=(.cons (.asg 1 (.xop .tkp (.cons (.var 0) .nil))) (.cons (.ife (.or (.not (.call 140 (.cons (.var 1) .nil))) (.cmp .NotEq (.call 296 (.cons (.var 1) .nil)) (.var 0))) (.cons (.rais 7) .nil) .nil) (.cons (.ret (.var 1)) .nil)))
noncomputable def JFX:Fd:=⟨1,2,JG6⟩
noncomputable def b_303:S:=(.cons (.ife (.cmp .Eq (.var 1) (.cint 0)) (.cons (.rais 7) .nil) .nil) (.cons (.asg 2 (.call 302 (.cons (.var 0) .nil))) (.cons (.ife (.cmp .Eq (.var 2) (.cstr "then")) (.cons (.asg 3 (.call 303 (.cons (.var 0) (.cons (.bin .Sub (.var 1) (.cint 1)) .nil)))) (.cons (.ret (.tup (.cons (.var 2) (.cons (.var 3) (.cons (.call 303 (.cons (.var 0) (.cons (.bin .Sub (.var 1) (.cint 1)) .nil))) .nil))))) .nil)) .nil) (.cons (.ife (.cmp .Eq (.var 2) (.cstr "again")) (.cons (.asg 4 (.call 299 (.cons (.call 302 (.cons (.var 0) .nil)) .nil))) (.cons (.ret (.tup (.cons (.var 2) (.cons (.var 4) (.cons (.call 303 (.cons (.var 0) (.cons (.bin .Sub (.var 1) (.cint 1)) .nil))) .nil))))) .nil)) .nil) (.cons (.ret (.call 304 (.cons (.var 2) (.cons (.var 0) .nil)))) .nil)))))
noncomputable def d_303:Fd:=⟨2,5,b_303⟩
noncomputable def b_304:S:=(.cons (.ife (.cmp .Eq (.var 0) (.cstr "wait")) (.cons (.ret (.tup (.cons (.var 0) (.cons (.call 300 (.cons (.call 302 (.cons (.var 1) .nil)) .nil)) .nil)))) .nil) .nil) (.cons (.asg 2 (.call 300 (.cons (.call 302 (.cons (.var 1) .nil)) .nil))) (.cons (.asg 3 (.call 300 (.cons (.call 302 (.cons (.var 1) .nil)) .nil))) (.cons (.ret (.tup (.cons (.var 0) (.cons (.var 2) (.cons (.var 3) (.cons (.call 302 (.cons (.var 1) .nil)) .nil)))))) .nil))))
noncomputable def d_304:Fd:=⟨2,4,b_304⟩
noncomputable def JFs:S:=(.cons (.asg 3 (.bin .Mod (.var 1) (.bin .Add (.blt .len (.cons (.var 0) .nil)) (.cint 1)))) (.cons (.asg 4 (.idx (.var 2) (.bin .Mod (.bin .FloorDiv (.var 1) (.cint 1000)) (.blt .len (.cons (.var 2) .nil))))) (.cons (.asg 5 (.bin .Add (.bin .Add (.var 3) (.cint 1)) (.bin .Mod (.bin .FloorDiv (.var 1) (.cint 7)) (.cint 9)))) (.cons (.asg 6 (.bin .Mod (.bin .FloorDiv (.var 1) (.cint 100000)) (.cint 8))) (.cons (.ife (.cmp .Lt (.var 6) (.cint 2)) (.cons (.ret (.bin .Add (.bin .Add (.xop .tct (.cons (.var 0) (.cons (.var 3) .nil))) (.var 4)) (.xop .tcf (.cons (.var 0) (.cons (.var 3) .nil))))) .nil) .nil) (.cons (.ife (.cmp .Eq (.var 6) (.cint 2)) (.cons (.ret (.bin .Add (.xop .tct (.cons (.var 0) (.cons (.var 3) .nil))) (.xop .tcf (.cons (.var 0) (.cons (.bin .Add (.var 3) (.cint 1)) .nil))))) .nil) .nil) (.cons (.ife (.cmp .Lt (.var 6) (.cint 5)) (.cons (.ret (.bin .Add (.bin .Add (.xop .tct (.cons (.var 0) (.cons (.var 3) .nil))) (.var 4)) (.xop .tcf (.cons (.var 0) (.cons (.bin .Add (.var 3) (.cint 1)) .nil))))) .nil) .nil) (.cons (.ife (.cmp .Eq (.var 6) (.cint 5)) (.cons (.ret (.bin .Add (.xop .tct (.cons (.var 0) (.cons (.var 3) .nil))) (.xop .tcf (.cons (.var 0) (.cons (.var 5) .nil))))) .nil) .nil) (.cons (.ife (.cmp .Eq (.var 6) (.cint 6)) (.cons (.ret (.bin .Add (.xop .tct (.cons (.var 0) (.cons (.var 5) .nil))) (.xop .tcf (.cons (.var 0) (.cons (.var 3) .nil))))) .nil) .nil) (.cons (.ret (.idx (.lst (.cons (.bin .Add (.var 0) (.cstr " ")) (.cons (.bin .Add (.cstr " ") (.var 0)) (.cons (.bin .Add (.xop .tcf (.cons (.var 0) (.cons (.var 3) .nil))) (.xop .tct (.cons (.var 0) (.cons (.var 3) .nil)))) (.cons (.cstr "") (.cons (.bin .Add (.var 0) (.var 0)) .nil)))))) (.bin .Mod (.var 1) (.cint 5)))) .nil))))))))))
noncomputable def JFY:Fd:=⟨3,7,JFs⟩
noncomputable def JMJ:S:=(.cons (.ife (.cmp .Eq (.idx (.var 0) (.cint 1)) (.cint 1)) (.cons (.ret (.xop .txi (.cons (.idx (.var 0) (.cint 0)) .nil))) .nil) .nil) (.cons (.ret (.bin .Add (.bin .Add (.xop .txi (.cons (.idx (.var 0) (.cint 0)) .nil)) (.cstr "/")) (.xop .txi (.cons (.idx (.var 0) (.cint 1)) .nil)))) .nil))
noncomputable def JJd:Fd:=⟨1,1,JMJ⟩
noncomputable def JIl:S:=(.cons (.ife (.cmp .In (.idx (.var 0) (.cint 0)) (.tup (.cons (.cstr "go") (.cons (.cstr "by") .nil)))) (.cons (.asg 1 (.lst (.cons (.idx (.var 0) (.cint 0)) (.cons (.call 306 (.cons (.idx (.var 0) (.cint 1)) .nil)) (.cons (.call 306 (.cons (.idx (.var 0) (.cint 2)) .nil)) (.cons (.idx (.var 0) (.cint 3)) .nil)))))) (.cons (.ret (.xop .jn (.cons (.var 1) .nil))) .nil)) .nil) (.cons (.ife (.cmp .Eq (.idx (.var 0) (.cint 0)) (.cstr "wait")) (.cons (.ret (.bin .Add (.cstr "wait ") (.call 306 (.cons (.idx (.var 0) (.cint 1)) .nil)))) .nil) .nil) (.cons (.ife (.cmp .Eq (.idx (.var 0) (.cint 0)) (.cstr "then")) (.cons (.ret (.bin .Add (.bin .Add (.bin .Add (.cstr "then ") (.call 307 (.cons (.idx (.var 0) (.cint 1)) .nil))) (.cstr " ")) (.call 307 (.cons (.idx (.var 0) (.cint 2)) .nil)))) .nil) .nil) (.cons (.ret (.bin .Add (.bin .Add (.bin .Add (.cstr "again ") (.xop .txi (.cons (.idx (.var 0) (.cint 1)) .nil))) (.cstr " ")) (.call 307 (.cons (.idx (.var 0) (.cint 2)) .nil)))) .nil))))
noncomputable def JDz:Fd:=⟨1,2,JIl⟩
noncomputable def JIZ:S:=(.cons (.asg 2 .cnon) (.cons (.asg 3 .cnon) (.cons (.tryx (.cons (.asg 3 (.ife (.cmp .Eq (.var 0) (.cint 0)) (.call 301 (.cons (.var 1) .nil)) (.call 300 (.cons (.var 1) .nil)))) .nil) 0 4 (.cons (.asg 2 (.var 4)) .nil)) (.cons (.ife (.isN (.var 2) false) (.cons (.ret (.var 3)) .nil) .nil) (.cons (.ret (.call 26 (.cons (.var 2) .nil))) .nil)))))
noncomputable def JF2:Fd:=⟨2,5,JIZ⟩
noncomputable def JHf:S:=(.cons (.asg 1 (.call 157 (.cons (.var 0) (.cons (.cint 0) (.cons (.cint 4) .nil))))) (.cons (.asg 2 (.call 307 (.cons (.var 1) .nil))) (.cons (.asg 3 (.call 15 (.cons (.var 0) (.cons (.cint 10000) .nil)))) (.cons (.asg 4 (.call 306 (.cons (.var 3) .nil))) (.cons (.ife (.or (.cmp .NotEq (.call 296 (.cons (.var 1) .nil)) (.var 2)) (.or (.cmp .NotEq (.call 308 (.cons (.cint 0) (.cons (.var 2) .nil))) (.var 1)) (.or (.cmp .NotEq (.call 295 (.cons (.var 3) .nil)) (.var 4)) (.cmp .NotEq (.call 308 (.cons (.cint 1) (.cons (.var 4) .nil))) (.var 3))))) (.cons (.ret (.cbl false)) .nil) .nil) (.cons (.for1 5 (.rng (.cons (.cint 3) .nil)) (.cons (.asg 6 (.call 12 (.cons (.var 0) (.cons (.bin .Add (.bin .Add (.cint 10000) (.cint 2)) (.var 5)) (.cons (.cint 1000000000) .nil))))) (.cons (.asg 7 (.call 305 (.cons (.var 2) (.cons (.var 6) (.cons (.cstr " 0123/-gobyheventhen") .nil))))) (.cons (.asg 8 (.call 308 (.cons (.cint 0) (.cons (.var 7) .nil)))) (.cons (.ife (.and (.cmp .NotEq (.var 8) (.cstr "no text")) (.or (.isnB (.call 140 (.cons (.var 8) .nil)) true) (.cmp .NotEq (.call 307 (.cons (.var 8) .nil)) (.var 7)))) (.cons (.ret (.cbl false)) .nil) .nil) (.cons (.asg 7 (.call 305 (.cons (.var 4) (.cons (.var 6) (.cons (.cstr "0123/-4 ") .nil))))) (.cons (.asg 8 (.call 308 (.cons (.cint 1) (.cons (.var 7) .nil)))) (.cons (.ife (.and (.cmp .NotEq (.var 8) (.cstr "no text")) (.or (.isnB (.call 24 (.cons (.var 8) .nil)) true) (.cmp .NotEq (.call 306 (.cons (.var 8) .nil)) (.var 7)))) (.cons (.ret (.cbl false)) .nil) .nil) .nil)))))))) (.cons (.asg 9 (.idx (.lst (.cons (.cstr "2/4") (.cons (.cstr "1/1") (.cons (.cstr "01") (.cons (.cstr "-0") (.cons (.cstr "1/0") (.cons (.cstr "1/-2") (.cons (.cstr "") (.cons (.cstr "/") (.cons (.cstr "1/") (.cons (.cstr "/2") (.cons (.cstr "+1") (.cons (.cstr "1 ") .nil))))))))))))) (.call 12 (.cons (.var 0) (.cons (.bin .Add (.cint 10000) (.cint 9)) (.cons (.cint 12) .nil)))))) (.cons (.ife (.cmp .NotEq (.call 308 (.cons (.cint 1) (.cons (.var 9) .nil))) (.cstr "no text")) (.cons (.ret (.cbl false)) .nil) .nil) (.cons (.asg 9 (.lst (.cons (.cstr "again 02 wait 1") (.cons (.cstr "again -0 wait 1") (.cons (.cstr "again 5 wait 1") (.cons (.cstr "go 0 1") (.cons (.cstr "go 0 1 even even") (.cons (.cstr "wait  1") .nil)))))))) (.cons (.ext 9 (.lst (.cons (.cstr "then wait 1") (.cons (.cstr "") .nil)))) (.cons (.ife (.cmp .NotEq (.call 308 (.cons (.cint 0) (.cons (.idx (.var 9) (.call 12 (.cons (.var 0) (.cons (.bin .Add (.cint 10000) (.cint 10)) (.cons (.cint 8) .nil))))) .nil))) (.cstr "no text")) (.cons (.ret (.cbl false)) .nil) .nil) (.cons (.ret (.cmp .Eq (.call 308 (.cons (.cint 0) (.cons (.bin .Add (.bin .Mult (.cstr "again 1 ") (.cint 30)) (.cstr "wait 1")) .nil))) (.cstr "no text"))) .nil))))))))))))
noncomputable def JKU:Fd:=⟨1,10,JHf⟩
noncomputable def JN2:Fd:=⟨1,1,.cons (.ret (.call 901 (.cons (.var 0) (.cons (.cint 20) .nil)))) .nil⟩
noncomputable def JJi:Fd:=⟨2,2,.cons (.ife (.cmp .Eq (.var 1) (.cint 0)) (.cons (.ret (.xop .tkd (.cons (.var 0) (.cons (.cint 7) .nil)))) .nil) (.cons (.ret (.call 901 (.cons (.var 0) (.cons (.bin .Sub (.var 1) (.cint 1)) .nil)))) .nil)) .nil⟩
noncomputable def tabA(i:Nat):Option Fd:=match i with
 |0=>some d_0
 |1=>some d_1
 |2=>some d_2
 |3=>some d_3
 |4=>some d_4
 |5=>some d_5
 |6=>some d_6
 |7=>some d_7
 |8=>some d_8
 |9=>some d_9
 |10=>some d_10
 |11=>some d_11
 |12=>some d_12
 |13=>some d_13
 |14=>some d_14
 |15=>some d_15
 |16=>some d_16
 |17=>some d_17
 |18=>some d_18
 |19=>some d_19
 |20=>some d_20
 |21=>some d_21
 |23=>some d_23
 |24=>some d_24
 |25=>some d_25
 |26=>some d_26
 |27=>some d_27
 |29=>some d_29
 |30=>some d_30
 |31=>some d_31
 |32=>some d_32
 |33=>some d_33
 |34=>some d_34
 |35=>some d_35
 |36=>some d_36
 |37=>some d_37
 |43=>some d_43
 |44=>some d_44
 |68=>some d_68
 |140=>some JIp
 |141=>some JAs
 |142=>some JKi
 |147=>some d_147
 |157=>some d_157
 |295=>some JKb
 |296=>some JNv
 |297=>some JES
 |298=>some JMs
 |299=>some JJg
 |300=>some JCm
 |301=>some JFX
 |303=>some d_303
 |304=>some d_304
 |305=>some JFY
 |306=>some JJd
 |307=>some JDz
 |308=>some JF2
 |309=>some JKU
 |900=>some JN2
 |901=>some JJi
 |_=>none
noncomputable def gloA(i:Nat):R D:=match i with
 |39=>.ok (F 0)
 |40=>.ok (F 1)
 |41=>.ok (VI.VP.kinds)
 |42=>.ok (VI.VP.turned)
 |55=>.ok (.int 0)
 |56=>.ok (.int 1)
 |57=>.ok (.int 2)
 |58=>.ok (.int 3)
 |59=>.ok (.int 4)
 |60=>.ok (.int 5)
 |61=>.ok (.str "kept")
 |77=>.ok (.tuple [F 0,F 0])
 |93=>.ok (.int 0)
 |94=>.ok (.int 1)
 |151=>.ok (.int 5)
 |152=>.ok (.int 4)
 |310=>.ok (.str "0123456789")
 |311=>.ok (.int 9)
 |_=>.bad
end VI.VP
end
section
namespace VI.VP
open PySem Fr
theorem tF:TabF tabA:=⟨rfl,rfl,rfl,rfl,rfl,rfl,rfl⟩
theorem tL:TabL tabA:=⟨rfl,rfl,rfl,rfl,rfl,rfl,rfl,rfl,rfl,rfl,rfl⟩
theorem tM:TabM tabA:=⟨rfl,rfl,rfl,rfl⟩
theorem tK:TabK tabA:=⟨rfl,rfl,rfl,rfl,rfl⟩
theorem gK:GloK gloA:=⟨rfl,rfl,rfl,rfl⟩
theorem G39:gloA 39=.ok (F 0):=rfl
theorem G40:gloA 40=.ok (F 1):=rfl
theorem G55:gloA 55=.ok (.int 0):=rfl
theorem G56:gloA 56=.ok (.int 1):=rfl
theorem G57:gloA 57=.ok (.int 2):=rfl
theorem G58:gloA 58=.ok (.int 3):=rfl
theorem G59:gloA 59=.ok (.int 4):=rfl
theorem G60:gloA 60=.ok (.int 5):=rfl
theorem G61:gloA 61=.ok (.str "kept"):=rfl
section
variable{x:Bool}{sub:Nat→Nat→Bool}{m i j:Nat}{p q:Rat}
theorem JAG{k:Nat}(h:k≤m):∃n,m=n+k:=⟨m - k,by omega⟩
theorem JDi(ns:List Int)(k c:Int)(hm:2≤m)(hk:0≤k)(hk2:k<2000000)(hc:0<c):∃i,0≤i∧i<c∧run x tabA gloA sub m 12 [sc ns,.int k,.int c]=.ok (.int i):=by
 obtain⟨n,rfl⟩:=JAG hm;exact JCY tL ns k c hk hk2 hc
theorem JL2(ns:List Int)(k:Int)(hm:3≤m)(hk:0≤k)(hk2:k<1000000):∃q,Small q∧run x tabA gloA sub m 15 [sc ns,.int k]=.ok (F q):=by
 obtain⟨n,rfl⟩:=JAG hm;exact JJY tL ns k hk hk2
theorem JLS(ns:List Int)(k:Int)(hm:3≤m)(hk:0≤k)(hk2:k<1000000):∃q,Small q∧0<q∧run x tabA gloA sub m 16 [sc ns,.int k]=.ok (F q):=by
 obtain⟨n,rfl⟩:=JAG hm;exact JKS tL ns k hk hk2
theorem JPI(ns:List Int)(k:Int)(hm:3≤m)(hk:0≤k)(hk2:k<1000000):∃d:Kd,run x tabA gloA sub m 35 [sc ns,.int k]=.ok (.str d.str):=by
 obtain⟨n,rfl⟩:=JAG hm;exact JJe tL rfl ns k hk hk2
end
end VI.VP
end
local macro_rules | `(tactic| dsimp?! [$ts,*])=>`(tactic| simp(disch:=first|omega|assumption) only[VI.VP.v_var,VI.VP.JPX,VI.VP.v_bl,VI.VP.JP8,VI.VP.JRD,VI.VP.JPf,VI.VP.JPN,VI.VP.JOa,VI.VP.v_not,VI.VP.v_and,VI.VP.v_or,VI.VP.JOr,VI.VP.JQo,VI.VP.JQg,VI.VP.JOu,VI.VP.JOP,VI.VP.JPi,VI.VP.JOH,VI.VP.JLO,VI.VP.JPO,VI.VP.JQi,
 VI.VP.v_count,VI.VP.JI3,VI.VP.v_get,VI.VP.JK6,VI.VP.JOS,VI.VP.JO3,VI.VP.JPS,VI.VP.JQy,VI.VP.JQ8,VI.VP.JRO,VI.VP.JKp,VI.VP.JGA,VI.VP.JOo,VI.VP.JP2,VI.VP.JOf,VI.VP.JLm,VI.VP.JO9,VI.VP.JOW,VI.VP.k_tt,VI.VP.k_tl,VI.VP.k_lt,VI.VP.k_ll,VI.VP.JLp,VI.VP.JIr,VI.VP.JJU,VI.VP.JPn,VI.VP.t_or,VI.VP.JO1,VI.VP.t_bl,VI.VP.JPY,VI.VP.JJO,VI.VP.JJ8,VI.VP.JP7,VI.VP.JK5,VI.VP.JP6,VI.VP.JQL,VI.VP.JP0,VI.VP.JRK,VI.VP.JRB,VI.VP.l_idx,VI.VP.JMD,VI.VP.JPM,VI.VP.JPl,
 VI.VP.JO4,VI.VP.JLL,VI.VP.JLd,VI.VP.JOJ,VI.VP.JQX,VI.VP.JON,VI.VP.JOd,VI.VP.JOR,VI.VP.JLj,VI.VP.JOX,VI.VP.JPL,VI.VP.JQV,VI.VP.JK3,VI.VP.JLU,VI.VP.JP5,VI.VP.JLX,VI.VP.JKy,
 VI.VP.JIR,VI.VP.JKn,VI.VP.JOU,VI.VP.JQj,VI.VP.JOI,VI.VP.JLr,VI.VP.JLR,VI.VP.JQM,VI.VP.JQk,VI.VP.JPB,VI.VP.JRc,VI.VP.JOt,VI.VP.JLs,VI.VP.JK1,VI.VP.JOF,VI.VP.JN8,VI.VP.JQp,VI.VP.JLh,VI.VP.JQK,VI.VP.JQT,VI.VP.JIt,VI.VP.JHk,VI.VP.JQE,VI.VP.JK4,VI.VP.JI6,VI.VP.JHq,VI.VP.JK2,VI.VP.JLt,VI.VP.JOx,VI.VP.JQY,VI.VP.JOV,VI.VP.JLa,VI.VP.JKq,VI.VP.JKl,VI.VP.JLi,VI.VP.JLD,VI.VP.JPu,VI.VP.JLB,VI.VP.JPD,VI.VP.JLz,VI.VP.JL1,VI.VP.JL5,VI.VP.JK9,VI.VP.JOi,VI.VP.JPK,VI.VP.JKr,VI.VP.JPc,VI.VP.JLC,VI.VP.JKt,VI.VP.JKv,VI.VP.JLW,VI.VP.JLl,VI.VP.JLK,VI.VP.JLb,VI.VP.JL6,VI.VP.JMC,VI.VP.JLq,VI.VP.JLN,VI.VP.JI2,VI.VP.JPg,VI.VP.JIo,VI.VP.JIa,VI.VP.JGK,VI.VP.JRY,VI.VP.JLJ,VI.VP.JPk,VI.VP.JQC,VI.VP.JO7,VI.VP.JRQ,VI.VP.JHj,
 VI.VP.look_zero,VI.VP.look_succ,VI.VP.get_val,VI.VP.get_own,VI.VP.JFO,VI.VP.JFF,List.map_cons,List.map_nil,List.cons_append,List.nil_append,
 List.replicate_succ,List.replicate_zero,Nat.reduceSub,List.set_cons_zero,List.set_cons_succ,VI.E.fresh,VI.VP.JEG,VI.VP.JDK,VI.VP.JDv,VI.VP.JDO,Bool.false_and,Bool.false_eq_true,eq_self,if_true,if_false,VI.VP.i_ne,VI.VP.i_eq,VI.VP.i_lt,VI.VP.i_gt,VI.VP.i_le,VI.VP.i_ge,
 VI.VP.F_ne,VI.VP.F_eq,VI.VP.JLY,VI.VP.JLf,VI.VP.JOl,VI.VP.JRR,
 VI.VP.G39,VI.VP.G40,VI.VP.G55,VI.VP.G56,VI.VP.G57,VI.VP.G58,VI.VP.G59,VI.VP.G60,VI.VP.G61,$ts,*])
section
namespace VI.VP
open PySem Fr
noncomputable def kst:Option Kd→Str
 |some k=>k.str
 |none=>"kept"
noncomputable def mo(s g b l:Rat)(k:Option Kd)(u v:Rat):D:=.tuple [F s,F g,F b,F l,.str (kst k),.tuple [F u,F v]]
noncomputable def kw(s g l u v p:Rat):Rat:=s+ez .both (JJG p)*(g - s)+l*(u*(p*p*p - 2*(p*p)+p)+v*(p*p*p - p*p))
noncomputable def wo(s g b l:Rat)(k:Option Kd)(u v t:Rat):Rat:=match k with
 |some k=>s+ez k (JJG ((t - b) / l))*(g - s)
 |none=>kw s g l u v (JJG ((t - b) / l))
noncomputable def ks(s g l u v p:Rat):Rat:=(g - s) / l*sl .both p+(u*(3*(p*p) - 4*p+1)+v*(3*(p*p) - 2*p))
noncomputable def sd(s g b l:Rat)(k:Option Kd)(u v t:Rat):Rat:=match k with
 |some k=>(g - s) / l*sl k ((t - b) / l)
 |none=>if (t - b) / l<0∨1<(t - b) / l then 0 else ks s g l u v ((t - b) / l)
section
variable{s g b l u v:Rat}{k:Option Kd}
end
section
variable{x:Bool}{sub:Nat→Nat→Bool}{m i1 i2 i3 i4 i5 i6 j:Nat}{s g b l u v t p:Rat}
end
end VI.VP
end
section
namespace VI.VP
open PySem Fr
section
variable{s g b l u v t:Rat}{k:Option Kd}{i1 i2 i3 i4 i5 i6 j:Nat}
end
section
variable{x:Bool}{sub:Nat→Nat→Bool}{m i1 i2 i3 i4 i5 i6 j:Nat}{s g b l u v t p:Rat}
end
end VI.VP
end
section
namespace VI.VP
open PySem Fr
theorem tI:TabI tabA:=⟨rfl,rfl,rfl⟩
theorem JNj{p:Rat}:(0<p.num)=(0<p):=by
 apply propext;rw[Rat.lt_iff];simp
theorem JAl{sub:Nat→Nat→Bool}(ds:List D):isiD sub (.tuple ds) .tuple=.ok (.bool true):=rfl
section
variable{x:Bool}{sub:Nat→Nat→Bool}{m i1 i2 i3 i4 i5 i6 j:Nat}{s g b l u v t p:Rat}
theorem JFq(hm:2≤m):run x tabA gloA sub m 24 [F p]=.ok (.bool true):=by
 obtain⟨n,rfl⟩:=JAG hm;exact isf_F tF tI p
theorem JEy(hm:3≤m):run x tabA gloA sub m 68 [F p]=.ok (.bool (decide (0<p))):=by
 obtain⟨n,rfl⟩:=JAG hm;rw[JAC (n:=n+2) (show tabA 68=some d_68 from rfl),JAD rfl]
 dsimp?! [d_68,b_68,JFq,JNj]
theorem JPR{k:Kd}(hm:1≤m):run x tabA gloA sub m 29 [.str k.str]=.ok (.bool true):=by
 obtain⟨n,rfl⟩:=JAG hm;exact JQW gK tK _ (JKe k)
end
end VI.VP
end
section
namespace VI.VP
open PySem Fr
structure Mv where
 s:Rat
 g:Rat
 b:Rat
 l:Rat
 k:Option Kd
 u:Rat
 v:Rat
noncomputable def Mv.d(m:Mv):D:=mo m.s m.g m.b m.l m.k m.u m.v
structure Mv.Ok(m:Mv):Prop where
 l0:0<m.l
 uv:m.k≠none→m.u=0∧m.v=0
 b:Sz 200 m.b
 l:Sz 20 m.l
 sg:∃i j,Sz i m.s∧Sz j m.g∧i+j≤1180
 us:∃i j,Sz i m.u∧Sz j m.v∧i+j≤900
theorem Mv.Ok.of{m:Mv}(l0:0<m.l)(uv:m.k≠none→m.u=0∧m.v=0)(s:Sz 20 m.s)(g:Sz 20 m.g)(b:Sz 200 m.b)(l:Sz 20 m.l)(u:Sz 20 m.u)(v:Sz 20 m.v):m.Ok :=
 ⟨l0,uv,b,l,⟨20,20,s,g,by omega⟩,⟨20,20,u,v,by omega⟩⟩
noncomputable def Mv.e(m:Mv):Rat:=m.b+m.l
noncomputable def tr(w:Rat)(ms:List Mv):D:=.tuple [F w,.tuple (ms.map Mv.d)]
theorem JN4{α:Type}{ms:List α}{p:α→Bool}:allD (ms.map λm=>.bool (p m))=.ok (.bool (ms.all p)):=by
 induction ms with
 |nil=>rfl
 |cons m r ih=>simp only[List.map_cons,allD,ih,List.all_cons]
section
variable{x:Bool}{sub:Nat→Nat→Bool}{m n:Nat}{w:Rat}{w':D}{ms:List Mv}
section
variable{g b l:Rat}{k:Kd}{i:Nat}
end
end
end VI.VP
end
section
namespace VI.VP
open PySem Fr
theorem Mv.depth(m:Mv):m.d.depth≤4:=by
 simp only[Mv.d,mo,PyData.depth,PyData.depthAll,JMi];decide
def Tw(B:Nat)(q:Rat):Prop:=∃z:Int,z.natAbs≤B∧q=Rat.divInt z 12
theorem Tw.mono{A B:Nat}{p:Rat}(h:Tw A p)(e:A≤B):Tw B p:=by
 obtain⟨z,hz,rfl⟩:=h;exact⟨z,by omega,rfl⟩
theorem Tw.sz{B:Nat}{p:Rat}(h:Tw B p)(e:B<1024):Sz 10 p:=by
 obtain⟨z,hz,rfl⟩:=h;exact Sz.of (by decide) (by omega) (by decide)
section
variable{x:Bool}{sub:Nat→Nat→Bool}{m n:Nat}{w t:Rat}{ms:List Mv}{ns:List Int}
end
end VI.VP
end
section
namespace VI.VP
open PySem Fr
inductive Pl where
 |wait (q:Rat)
 |step (o:Bool) (g q:Rat) (k:Kd)
 |thn (a b:Pl)
 |agn (c:Nat) (a:Pl)
noncomputable def gw(o:Bool):Str:=if o=true then "go" else "by"
theorem gwF:gw false="by":=rfl
theorem gwT:gw true="go":=rfl
noncomputable def Pl.d:Pl→D
 |.wait q=>.tuple [.str "wait",F q]
 |.step o g q k=>.tuple [.str (gw o),F g,F q,.str k.str]
 |.thn a b=>.tuple [.str "then",a.d,b.d]
 |.agn c a=>.tuple [.str "again",.int c,a.d]
noncomputable def Pl.dep:Pl→Nat
 |.wait _=>1
 |.step ..=>1
 |.thn a b=>max a.dep b.dep+1
 |.agn _ a=>a.dep+1
def Pl.Ok:Pl→Prop
 |.wait q=>0<q
 |.step _ _ q _=>0<q
 |.thn a b=>a.Ok∧b.Ok
 |.agn c a=>c≤4∧a.Ok
noncomputable def Pl.steps:Pl→List Pl
 |.thn a b=>a.steps++b.steps
 |.agn c a=>(List.replicate c a.steps).flatten
 |p=>[p]
theorem JAv{a b:Str}{k:Bool}(ha:shaped (.str a)=true)(hb:shaped (.str b)=true)(h:(a==b)=k):cmpD .Eq (.str a) (.str b)=.ok (.bool k):=by
 simp only[cmpD,ha,hb,Bool.and_self,if_true,PyData.eqv,h]
theorem h_go:shaped (.str "go")=true:=by decide +kernel
theorem h_by:shaped (.str "by")=true:=by decide +kernel
theorem JBs:shaped (.str "wait")=true:=by decide +kernel
theorem JBj:shaped (.str "then")=true:=by decide +kernel
theorem JBP:shaped (.str "again")=true:=by decide +kernel
theorem JMV:cmpD .Eq (.str "go") (.str "go")=.ok (.bool true):=JAv h_go h_go (by decide +kernel)
theorem JN3:cmpD .Eq (.str "go") (.str "by")=.ok (.bool false):=JAv h_go h_by (by decide +kernel)
theorem JE4:cmpD .Eq (.str "go") (.str "wait")=.ok (.bool false):=JAv h_go JBs (by decide +kernel)
theorem JEx:cmpD .Eq (.str "go") (.str "then")=.ok (.bool false):=JAv h_go JBj (by decide +kernel)
theorem JDc:cmpD .Eq (.str "go") (.str "again")=.ok (.bool false):=JAv h_go JBP (by decide +kernel)
theorem JM3:cmpD .Eq (.str "by") (.str "go")=.ok (.bool false):=JAv h_by h_go (by decide +kernel)
theorem JNO:cmpD .Eq (.str "by") (.str "by")=.ok (.bool true):=JAv h_by h_by (by decide +kernel)
theorem JEW:cmpD .Eq (.str "by") (.str "wait")=.ok (.bool false):=JAv h_by JBs (by decide +kernel)
theorem JFH:cmpD .Eq (.str "by") (.str "then")=.ok (.bool false):=JAv h_by JBj (by decide +kernel)
theorem JDg:cmpD .Eq (.str "by") (.str "again")=.ok (.bool false):=JAv h_by JBP (by decide +kernel)
theorem JEd:cmpD .Eq (.str "wait") (.str "go")=.ok (.bool false):=JAv JBs h_go (by decide +kernel)
theorem JFV:cmpD .Eq (.str "wait") (.str "by")=.ok (.bool false):=JAv JBs h_by (by decide +kernel)
theorem JBb:cmpD .Eq (.str "wait") (.str "wait")=.ok (.bool true):=JAv JBs JBs (by decide +kernel)
theorem JB7:cmpD .Eq (.str "wait") (.str "then")=.ok (.bool false):=JAv JBs JBj (by decide +kernel)
theorem JBt:cmpD .Eq (.str "wait") (.str "again")=.ok (.bool false):=JAv JBs JBP (by decide +kernel)
theorem JBk:cmpD .Eq (.str "then") (.str "go")=.ok (.bool false):=JAv JBj h_go (by decide +kernel)
theorem JBn:cmpD .Eq (.str "then") (.str "by")=.ok (.bool false):=JAv JBj h_by (by decide +kernel)
theorem JA4:cmpD .Eq (.str "then") (.str "wait")=.ok (.bool false):=JAv JBj JBs (by decide +kernel)
theorem JAq:cmpD .Eq (.str "then") (.str "then")=.ok (.bool true):=JAv JBj JBj (by decide +kernel)
theorem JBl:cmpD .Eq (.str "then") (.str "again")=.ok (.bool false):=JAv JBj JBP (by decide +kernel)
theorem JCZ:cmpD .Eq (.str "again") (.str "go")=.ok (.bool false):=JAv JBP h_go (by decide +kernel)
theorem JCX:cmpD .Eq (.str "again") (.str "by")=.ok (.bool false):=JAv JBP h_by (by decide +kernel)
theorem JBS:cmpD .Eq (.str "again") (.str "wait")=.ok (.bool false):=JAv JBP JBs (by decide +kernel)
theorem JBC:cmpD .Eq (.str "again") (.str "then")=.ok (.bool false):=JAv JBP JBj (by decide +kernel)
theorem JBI:cmpD .Eq (.str "again") (.str "again")=.ok (.bool true):=JAv JBP JBP (by decide +kernel)
theorem G151:gloA 151=.ok (.int 5):=rfl
theorem G152:gloA 152=.ok (.int 4):=rfl
theorem t20{a b:D}:idxD (.tuple [a,b]) (.int 0)=.ok a:=rfl
theorem t21{a b:D}:idxD (.tuple [a,b]) (.int 1)=.ok b:=rfl
theorem t30{a b c:D}:idxD (.tuple [a,b,c]) (.int 0)=.ok a:=rfl
theorem t31{a b c:D}:idxD (.tuple [a,b,c]) (.int 1)=.ok b:=rfl
theorem t32{a b c:D}:idxD (.tuple [a,b,c]) (.int 2)=.ok c:=rfl
theorem t40{a b c e:D}:idxD (.tuple [a,b,c,e]) (.int 0)=.ok a:=rfl
theorem t41{a b c e:D}:idxD (.tuple [a,b,c,e]) (.int 1)=.ok b:=rfl
theorem t42{a b c e:D}:idxD (.tuple [a,b,c,e]) (.int 2)=.ok c:=rfl
theorem t43{a b c e:D}:idxD (.tuple [a,b,c,e]) (.int 3)=.ok e:=rfl
theorem JPj{a b:D}:(([a,b].length:Nat):Int)=2:=rfl
theorem JE2{a b c:D}:(([a,b,c].length:Nat):Int)=3:=rfl
theorem JFu{a b c e:D}:(([a,b,c,e].length:Nat):Int)=4:=rfl
theorem n2{a b:D}:bltD .len [.tuple [a,b]]=.ok (.int 2):=rfl
theorem n3{a b c:D}:bltD .len [.tuple [a,b,c]]=.ok (.int 3):=rfl
theorem n4{a b c e:D}:bltD .len [.tuple [a,b,c,e]]=.ok (.int 4):=rfl
theorem JNo{sub:Nat→Nat→Bool}{i:Int}:isiD sub (.int i) .int=.ok (.bool true):=rfl
theorem JJS{sub:Nat→Nat→Bool}{i:Int}:isiD sub (.int i) .bool=.ok (.bool false):=rfl
theorem Pl.dep_pos:∀p:Pl,1≤p.dep:=by
 intro p;cases p<;>simp only[Pl.dep]<;>omega
section
variable{x:Bool}{sub:Nat→Nat→Bool}{m:Nat}
theorem JQ2{i:Int}(hm:1≤m):run x tabA gloA sub m 23 [.int i]=.ok (.bool true):=by
 obtain⟨n,rfl⟩:=JAG hm;rw[JAC (n:=n) (show tabA 23=some d_23 from rfl),JAD rfl]
 dsimp?! [d_23,b_23,JNo,JJS,Bool.not_false]
theorem JL9{i:Int}(hm:2≤m):run x tabA gloA sub m 142 [.int i]=.ok (.bool (decide (0≤i∧i≤4))):=by
 obtain⟨n,rfl⟩:=JAG hm;rw[JAC (n:=n+1) (show tabA 142=some JKi from rfl),JAD rfl]
 by_cases h:0≤i
 ·have e:decide (0≤i∧i≤4)=decide (i≤4):=by simp[h]
  rw[e]
  dsimp?! [JKi,JNK,JQ2,G152,h,decide_true]
 ·have e:decide (0≤i∧i≤4)=false:=by simp[h]
  rw[e]
  dsimp?! [JKi,JNK,JQ2,G152,h,decide_false]
theorem JMW:∀(p:Pl) {m:Nat}(deep:Int),p.Ok→0≤deep→p.dep+4≤m→run x tabA gloA sub m 141 [p.d,.int deep]=.ok (.bool (decide ((p.dep:Int)≤deep))):=by
 intro p
 induction p with
 |wait q =>
  intro m deep ok h0 hm;obtain⟨n,rfl⟩:=JAG (k:=5) hm;rw[JAC (n:=n+4) (show tabA 141=some JAs from rfl),JAD rfl];have oq:0<q:=ok
  by_cases hd:deep=0
  ·subst hd
   dsimp?! [JAs,JBR,Pl.d,Pl.dep,decide_true]
   rfl
  ·have r:decide (((Pl.wait q).dep:Int)≤deep)=true:=decide_eq_true (by simp only[Pl.dep];omega)
   rw[r]
   dsimp?! [JAs,JBR,Pl.d,hd,decide_false,decide_true,JAl,Bool.not_true,n2,JPj,Int.reduceEq,t20,t21,JEd,JFV,JBb,JB7,JBt,JEy,oq]
 |step o g q k =>
  intro m deep ok h0 hm;obtain⟨n,rfl⟩:=JAG (k:=5) hm;rw[JAC (n:=n+4) (show tabA 141=some JAs from rfl),JAD rfl];have oq:0<q:=ok
  by_cases hd:deep=0
  ·subst hd
   dsimp?! [JAs,JBR,Pl.d,Pl.dep,decide_true]
   rfl
  ·have r:decide (((Pl.step o g q k).dep:Int)≤deep)=true:=decide_eq_true (by simp only[Pl.dep];omega)
   rw[r];cases o
   ·dsimp?! [JAs,JBR,Pl.d,gwF,gwT,hd,decide_false,decide_true,JAl,Bool.not_true,n4,JFu,Int.reduceEq,t40,t41,t42,t43,JM3,JNO,JEW,JFH,JDg,JFq,JEy,JPR,oq]
   ·dsimp?! [JAs,JBR,Pl.d,gwF,gwT,hd,decide_false,decide_true,JAl,Bool.not_true,n4,JFu,Int.reduceEq,t40,t41,t42,t43,JMV,JN3,JE4,JEx,JDc,JFq,JEy,JPR,oq]
 |thn a b iha ihb =>
  intro m deep ok h0 hm;obtain⟨n,rfl⟩:=JAG (k:=5) (m:=m) (by have:=(Pl.thn a b).dep_pos;omega)
  rw[JAC (n:=n+4) (show tabA 141=some JAs from rfl),JAD rfl];simp only[Pl.dep]at hm
  by_cases hd:deep=0
  ·subst hd;have r:decide (((Pl.thn a b).dep:Int)≤0)=false:=decide_eq_false (by have:=(Pl.thn a b).dep_pos;omega)
   rw[r]
   dsimp?! [JAs,JBR,Pl.d,decide_true]
  ·have ha:=iha (m:=n+4) (deep - 1) ok.1 (by omega) (by omega)
   have hb:=ihb (m:=n+4) (deep - 1) ok.2 (by omega) (by omega)
   generalize hda:a.d=da at *;generalize hdb:b.d=db at *
   by_cases h1:(a.dep:Int)≤deep - 1
   ·by_cases h2:(b.dep:Int)≤deep - 1
    ·have r:decide (((Pl.thn a b).dep:Int)≤deep)=true:=decide_eq_true (by simp only[Pl.dep];omega)
     rw[r]
     dsimp?! [JAs,JBR,Pl.d,hda,hdb,hd,decide_false,decide_true,JAl,Bool.not_true,n3,JE2,Int.reduceEq,t30,t31,t32,JBk,JBn,JA4,JAq,JBl,ha,hb,h1,h2]
    ·have r:decide (((Pl.thn a b).dep:Int)≤deep)=false:=decide_eq_false (by simp only[Pl.dep];omega)
     rw[r]
     dsimp?! [JAs,JBR,Pl.d,hda,hdb,hd,decide_false,decide_true,JAl,Bool.not_true,n3,JE2,Int.reduceEq,t30,t31,t32,JBk,JBn,JA4,JAq,JBl,ha,hb,h1,h2]
   ·have r:decide (((Pl.thn a b).dep:Int)≤deep)=false:=decide_eq_false (by simp only[Pl.dep];omega)
    rw[r]
    dsimp?! [JAs,JBR,Pl.d,hda,hdb,hd,decide_false,decide_true,JAl,Bool.not_true,n3,JE2,Int.reduceEq,t30,t31,t32,JBk,JBn,JA4,JAq,JBl,ha,h1]
 |agn c a iha =>
  intro m deep ok h0 hm;obtain⟨n,rfl⟩:=JAG (k:=5) (m:=m) (by have:=(Pl.agn c a).dep_pos;omega)
  rw[JAC (n:=n+4) (show tabA 141=some JAs from rfl),JAD rfl];simp only[Pl.dep]at hm
  by_cases hd:deep=0
  ·subst hd;have r:decide (((Pl.agn c a).dep:Int)≤0)=false:=decide_eq_false (by have:=(Pl.agn c a).dep_pos;omega)
   rw[r]
   dsimp?! [JAs,JBR,Pl.d,decide_true]
  ·have ha:=iha (m:=n+4) (deep - 1) ok.2 (by omega) (by omega)
   have hc:decide ((0:Int)≤c∧(c:Int)≤4)=true:=decide_eq_true (by have:=ok.1;omega)
   generalize hda:a.d=da at *;have r:decide (((Pl.agn c a).dep:Int)≤deep)=decide ((a.dep:Int)≤deep - 1):=by
    simp only[Pl.dep];apply decide_eq_decide.mpr;omega
   rw[r]
   dsimp?! [JAs,JBR,Pl.d,hda,hd,decide_false,decide_true,JAl,Bool.not_true,n3,JE2,Int.reduceEq,t30,t31,t32,JCZ,JCX,JBS,JBC,JBI,JL9,ha,hc]
theorem JLV(p:Pl)(ok:p.Ok)(hm:p.dep+5≤m):run x tabA gloA sub m 140 [p.d]=.ok (.bool (decide (p.dep≤5))):=by
 obtain⟨n,rfl⟩:=JAG (k:=1) (m:=m) (by omega)
 rw[JAC (n:=n) (show tabA 140=some JIp from rfl),JAD rfl];have h:=JMW (x:=x) (sub:=sub) p (m:=n) 5 ok (by omega) (by omega)
 have r:decide ((p.dep:Int)≤5)=decide (p.dep≤5):=decide_eq_decide.mpr (by omega)
 rw[r]at h;generalize p.d=d at *
 dsimp?! [JIp,JNw,G151,h]
end
end VI.VP
end
section
namespace VI.VP
open PySem PySem.W PySem.NumText PyProof.Rows PySem.Builtin PySem.Builtin.Str
noncomputable def qT(q:Rat):Str:=JBe q.num q.den
noncomputable def Pl.ws:Pl→List Str
 |.wait q=>["wait",qT q]
 |.step o g q k=>[gw o,qT g,qT q,k.str]
 |.thn a b=>"then"::(a.ws++b.ws)
 |.agn c a=>"again"::tx c::a.ws
structure Rd9(P:Int→Int→Bool)(q:Rat):Prop where
 p:P q.num q.den=true
 n:q.num.natAbs<10 ^ 9
 d:q.den<10 ^ 9
theorem Rd9.ok{P:Int→Int→Bool}{q:Rat}(h:Rd9 P q):JA0 P (qT q)=some (q.num,(q.den:Int)):=JFv h.p h.n (by have:=h.d;simpa using this)
def Pl.R9(P:Int→Int→Bool):Pl→Prop
 |.wait q=>Rd9 P q
 |.step _ g q _=>Rd9 P g∧Rd9 P q
 |.thn a b=>a.R9 P∧b.R9 P
 |.agn c a=>c<10 ^ 9∧a.R9 P
theorem gw_ne(o:Bool):gw o≠"then"∧gw o≠"again"∧gw o≠"wait":=by cases o<;>decide +kernel
theorem JDy{P:Int→Int→Bool}:∀(p:Pl) (n:Nat) (r:List Str),p.R9 P→p.dep≤n→takeD P n (p.ws++r)=some (p.d,r)
 |.wait q,0,r,h,hd=>by simp[Pl.dep]at hd
 |.wait q,n+1,r,h,hd=>by
  have e1:("wait":Str)≠"then":=by decide +kernel
  have e2:("wait":Str)≠"again":=by decide +kernel
  simp only[Pl.ws,List.cons_append,List.nil_append,takeD,if_neg e1,if_neg e2,if_true,Rd9.ok h,Option.map_some,Pl.d,F]
 |.step o g q k,0,r,h,hd=>by simp[Pl.dep]at hd
 |.step o g q k,n+1,r,h,hd=>by
  obtain⟨e1,e2,e3⟩:=gw_ne o;simp only[Pl.ws,List.cons_append,List.nil_append,takeD,if_neg e1,if_neg e2,if_neg e3,Rd9.ok h.1,Rd9.ok h.2,Option.map_some,Option.bind_some,Pl.d,F]
 |.thn a b,0,r,h,hd=>by simp[Pl.dep]at hd
 |.thn a b,n+1,r,h,hd=>by
  simp only[Pl.dep]at hd;have i1:=JDy a n (b.ws++r) h.1 (by omega)
  have i2:=JDy b n r h.2 (by omega)
  simp only[Pl.ws,List.cons_append,List.append_assoc,takeD,if_true,i1,i2,Option.map_some,Option.bind_some,Pl.d]
 |.agn c a,0,r,h,hd=>by simp[Pl.dep]at hd
 |.agn c a,n+1,r,h,hd=>by
  simp only[Pl.dep]at hd;have i1:=JDy a n r h.2 (by omega)
  have e1:("again":Str)≠"then":=by decide +kernel
  have w:=JCE (n:=(c:Int)) (by simpa using h.1)
  simp only[Pl.ws,List.cons_append,takeD,if_neg e1,if_true,w,i1,Option.map_some,Option.bind_some,Pl.d]
end VI.VP
end
section
namespace VI.VP
open PySem PySem.W PySem.NumText PyProof.Rows PySem.Builtin PySem.Builtin.Str
def sp:Str:=one 32
theorem JFW:(" ":Str)=sp:=by decide +kernel
theorem JHY:("/":Str)=one 47:=by decide +kernel
theorem mi_eq:("-":Str)=one 45:=by decide +kernel
noncomputable def Pl.tx(p:Pl):Str:=Txt.join sp p.ws
theorem JHx:∀p:Pl,p.ws≠[]
 |.wait _=>by simp[Pl.ws]
 |.step ..=>by simp[Pl.ws]
 |.thn ..=>by simp[Pl.ws]
 |.agn ..=>by simp[Pl.ws]
theorem JAm(a b:Str):(a++b).cps.toList=a.cps.toList++b.cps.toList:=by rw[Str.cps_append,Array.toList_append]
theorem JNH(q:Rat):32 ∉ (qT q).cps.toList:=by
 unfold qT JBe
 split
 ·exact JHM _ (by decide) (by decide)
 ·rw[JAm,JAm];intro h;rcases List.mem_append.mp h with h|h
  ·rcases List.mem_append.mp h with h|h
   ·exact JHM _ (by decide) (by decide) h
   ·exact absurd h (by decide)
  ·exact JHM _ (by decide) (by decide) h
theorem gw_no(o:Bool):32 ∉ (gw o).cps.toList:=by cases o<;>decide +kernel
theorem kd_no(k:Kd):32 ∉ k.str.cps.toList:=by cases k<;>decide +kernel
theorem JJy:∀(p:Pl),∀w∈p.ws,32 ∉ w.cps.toList
 |.wait q=>by
  intro w hw;simp only[Pl.ws,List.mem_cons,List.not_mem_nil,or_false]at hw;rcases hw with rfl|rfl
  ·decide +kernel
  ·exact JNH q
 |.step o g q k=>by
  intro w hw;simp only[Pl.ws,List.mem_cons,List.not_mem_nil,or_false]at hw;rcases hw with rfl|rfl|rfl|rfl
  ·exact gw_no o
  ·exact JNH g
  ·exact JNH q
  ·exact kd_no k
 |.thn a b=>by
  intro w hw;simp only[Pl.ws,List.mem_cons,List.mem_append]at hw;rcases hw with rfl|hw|hw
  ·decide +kernel
  ·exact JJy a w hw
  ·exact JJy b w hw
 |.agn c a=>by
  intro w hw;simp only[Pl.ws,List.mem_cons]at hw;rcases hw with rfl|rfl|hw
  ·decide +kernel
  ·exact JHM _ (by decide) (by decide)
  ·exact JJy a w hw
theorem JJj(p:Pl):Txt.split p.tx sp=p.ws:=JG9 (by decide) (JHx p) (JJy p)
theorem JFx{P:Int→Int→Bool}(p:Pl)(n:Nat)(h:p.R9 P)(hd:p.dep≤n):takeD P n (Txt.split p.tx sp)=some (p.d,[]):=by
 rw[JJj];have:=JDy p n [] h hd
 rwa [List.append_nil]at this
theorem JCp{s:Str}:∀ {xs ys:List Str},xs≠[]→ys≠[]→Str.join s (xs++ys)=Str.join s xs++s++Str.join s ys
 | [],_,h,_=>absurd rfl h
 | [x],[],_,h=>absurd rfl h
 | [x],y::ys,_,_=>rfl
 |x::x'::xs,ys,_,hy=>by
  have ih:=JCp (s:=s) (xs:=x'::xs) (ys:=ys) (by simp) hy
  show x++s++Str.join s (x'::xs++ys)=x++s++Str.join s (x'::xs)++s++Str.join s ys;rw[ih];simp only[Str.append_assoc]
theorem JJF(p:Pl):p.tx=Str.join sp p.ws:=StrLaws.glued_eq_join _ _
theorem JF5(q:Rat):(Pl.wait q).tx=Txt.join sp ["wait",qT q]:=rfl
theorem JFn(o:Bool)(g q:Rat)(k:Kd):(Pl.step o g q k).tx=Txt.join sp [gw o,qT g,qT q,k.str]:=rfl
theorem JGk(a b:Pl):(Pl.thn a b).tx=Txt.join sp ["then",a.tx,b.tx]:=by
 rw[JJF,JJF,JJF,show Txt.join sp ["then",Str.join sp a.ws,Str.join sp b.ws]=Str.join sp ["then",Str.join sp a.ws,Str.join sp b.ws] from StrLaws.glued_eq_join _ _];show Str.join sp ([("then":Str)]++(a.ws++b.ws))=_;have hab:a.ws++b.ws≠[]:=λz=>JHx a (List.append_eq_nil_iff.mp z).1;rw[JCp (by simp) hab,JCp (JHx a) (JHx b)]
 rfl
theorem JGZ(c:Nat)(a:Pl):(Pl.agn c a).tx=Txt.join sp ["again",tx c,a.tx]:=by
 rw[JJF,JJF,show Txt.join sp ["again",tx c,Str.join sp a.ws]=Str.join sp ["again",tx c,Str.join sp a.ws] from StrLaws.glued_eq_join _ _];show Str.join sp ([("again":Str),tx c]++a.ws)=_;rw[JCp (by simp) (JHx a)]
 show("again":Str)++sp++tx c++sp++Str.join sp a.ws=("again":Str)++sp++(tx c++sp++Str.join sp a.ws);simp only[Str.append_assoc]
theorem jn2(a b:Str):Txt.join sp [a,b]=a++sp++b:=StrLaws.glued_eq_join _ _
theorem jn3(a b c:Str):Txt.join sp [a,b,c]=a++sp++(b++sp++c):=StrLaws.glued_eq_join _ _
end VI.VP
end
section
namespace VI.VP
open PySem PySem.W PySem.NumText PyProof.Rows PySem.Builtin PySem.Builtin.Str
theorem JMg{u d:Int}(h:isF u d=true):∃q:Rat,q.num=u∧(q.den:Int)=d:=by
 have h:=of_decide_eq_true h;obtain⟨m,rfl⟩:=Int.eq_ofNat_of_zero_le (Int.le_of_lt h.1);refine⟨⟨u,m,λz=>?_,?_⟩,rfl,rfl⟩
 ·subst z;exact absurd h.1 (by decide)
 ·have:=h.2;rw[Int.gcd]at this;exact this
theorem JMh(q:Rat):isF q.num q.den=true:=decide_eq_true ⟨by have:=q.den_pos;omega,by rw[Int.gcd];exact q.reduced⟩
inductive Tk where
 |wait (q:Rat)
 |step (w:Str) (g q:Rat) (k:Str)
 |thn (a b:Tk)
 |agn (n:Int) (a:Tk)
noncomputable def Tk.d:Tk→D
 |.wait q=>.tuple [.str "wait",F q]
 |.step w g q k=>.tuple [.str w,F g,F q,.str k]
 |.thn a b=>.tuple [.str "then",a.d,b.d]
 |.agn n a=>.tuple [.str "again",.int n,a.d]
def Tk.dep:Tk→Nat
 |.wait _=>1
 |.step ..=>1
 |.thn a b=>max a.dep b.dep+1
 |.agn _ a=>a.dep+1
def Tk.R9:Tk→Prop
 |.wait q=>Rd9 isF q
 |.step w g q _=>(w≠"then"∧w≠"again"∧w≠"wait")∧Rd9 isF g∧Rd9 isF q
 |.thn a b=>a.R9∧b.R9
 |.agn n a=>n.natAbs<10 ^ 9∧a.R9
theorem JDR{x:Str}{u d:Int}(h:JA0 isF x=some (u,d)):∃q:Rat,Rd9 isF q∧u=q.num∧d=q.den:=by
 obtain⟨h1,_,h3,h4⟩:=JCW h;obtain⟨q,rfl,rfl⟩:=JMg h1;exact⟨q,⟨h1,h3,by simpa using h4⟩,rfl,rfl⟩
theorem JD7:∀(n:Nat) (ws:List Str) (d:D) (r:List Str),takeD isF n ws=some (d,r)→∃t:Tk,d=t.d∧t.dep≤n∧t.R9∧r.length<ws.length
 |0,_,_,_,h=>by simp[takeD]at h
 |n+1,[],_,_,h=>by simp[takeD]at h
 |n+1,w::ws,d,r,h=>by
  unfold takeD at h
  by_cases h1:w="then"
  ·rw[if_pos h1]at h;obtain⟨⟨a,r1⟩,ha,h⟩:=Option.bind_eq_some_iff.mp h;obtain⟨⟨b,r2⟩,hb,e⟩:=Option.map_eq_some_iff.mp h;obtain⟨t1,e1,d1,k1,l1⟩:=JD7 n ws a r1 ha;obtain⟨t2,e2,d2,k2,l2⟩:=JD7 n r1 b r2 hb;cases e;refine⟨.thn t1 t2,by simp only[Tk.d,h1,e1,e2],by simp only[Tk.dep];omega,⟨k1,k2⟩,by simp only[List.length_cons];omega⟩
  ·rw[if_neg h1]at h
   by_cases h2:w="again"
   ·rw[if_pos h2]at h;cases ws with
    |nil=>cases h
    |cons m ws =>
     obtain⟨k,hk,h⟩:=Option.bind_eq_some_iff.mp h;obtain⟨⟨a,r1⟩,ha,e⟩:=Option.map_eq_some_iff.mp h;obtain⟨t1,e1,d1,k1,l1⟩:=JD7 n ws a r1 ha;obtain⟨k',e',hk'⟩:=JBa (x:=m) (λz=>by rw[hk]at z;cases z)
     rw[hk]at e';cases e';cases e;exact⟨.agn k t1,by simp only[Tk.d,h2,e1],by simp only[Tk.dep];omega,⟨hk',k1⟩,by simp only[List.length_cons];omega⟩
   ·rw[if_neg h2]at h
    by_cases h3:w="wait"
    ·rw[if_pos h3]at h;cases ws with
     |nil=>cases h
     |cons x ws =>
      obtain⟨⟨u,v⟩,hq,e⟩:=Option.map_eq_some_iff.mp h;obtain⟨q,hr,rfl,rfl⟩:=JDR hq;cases e;exact⟨.wait q,by simp only[Tk.d,h3,F],by simp only[Tk.dep];omega,hr,by simp only[List.length_cons];omega⟩
    ·rw[if_neg h3]at h
     match ws,h with
     | [],h=>cases h
     | [_],h=>cases h
     | [_,_],h=>cases h
     |x::y::z::ws,h =>
      obtain⟨⟨u,v⟩,hq,h⟩:=Option.bind_eq_some_iff.mp h;obtain⟨⟨u2,v2⟩,hs,e⟩:=Option.map_eq_some_iff.mp h;obtain⟨q,hr,rfl,rfl⟩:=JDR hq;obtain⟨q2,hr2,rfl,rfl⟩:=JDR hs;cases e;exact⟨.step w q q2 z,by simp only[Tk.d,F],by simp only[Tk.dep];omega,⟨⟨h1,h2,h3⟩,hr,hr2⟩,by simp only[List.length_cons];omega⟩
noncomputable def kdOf(x:Str):Option Kd:=if x="even" then some .even else if x="in" then some .inn else if x="out" then some .out else if x="both" then some .both else if x="hold" then some .hold else if x="jump" then some .jump else none
theorem JJ7{x:Str}{k:Kd}(h:kdOf x=some k):x=k.str:=by
 unfold kdOf at h
 repeat' split at h
 all_goals first|(cases h;assumption)|cases h
noncomputable def Tk.pl:Tk→Option Pl
 |.wait q=>if 0<q then some (.wait q) else none
 |.step w g q k=>if (w="go"∨w="by")∧0<q then (kdOf k).map λk=>.step (decide (w="go")) g q k else none
 |.thn a b=>a.pl.bind λx=>b.pl.map λy=>.thn x y
 |.agn n a=>if 0≤n∧n≤4 then a.pl.map λx=>.agn n.toNat x else none
theorem JJm:∀(t:Tk) (p:Pl),t.pl=some p→t.R9→t.d=p.d∧p.Ok∧p.dep=t.dep∧p.R9 isF
 |.wait q,p,h,r=>by
  simp only[Tk.pl]at h
  split at h
  ·rename_i hq;cases h;exact⟨rfl,hq,rfl,r⟩
  ·cases h
 |.step w g q k,p,h,r=>by
  simp only[Tk.pl]at h
  split at h
  ·rename_i hq;obtain⟨k',hk,e⟩:=Option.map_eq_some_iff.mp h;cases e;refine⟨?_,hq.2,rfl,r.2⟩;have hw:gw (decide (w="go"))=w:=by
    rcases hq.1 with e|e
    ·subst e;rfl
    ·subst e;rw[show decide (("by":Str)="go")=false by decide +kernel];rfl
   simp only[Tk.d,Pl.d,hw,JJ7 hk]
  ·cases h
 |.thn a b,p,h,r=>by
  simp only[Tk.pl]at h;obtain⟨x,hx,h⟩:=Option.bind_eq_some_iff.mp h;obtain⟨y,hy,e⟩:=Option.map_eq_some_iff.mp h;cases e;obtain⟨a1,a2,a3,a4⟩:=JJm a x hx r.1;obtain⟨b1,b2,b3,b4⟩:=JJm b y hy r.2;exact⟨by simp only[Tk.d,Pl.d,a1,b1],⟨a2,b2⟩,by simp only[Pl.dep,Tk.dep,a3,b3],⟨a4,b4⟩⟩
 |.agn n a,p,h,r=>by
  simp only[Tk.pl]at h
  split at h
  ·rename_i hn;obtain⟨x,hx,e⟩:=Option.map_eq_some_iff.mp h;cases e;obtain⟨a1,a2,a3,a4⟩:=JJm a x hx r.2;refine⟨?_,⟨by omega,a2⟩,by simp only[Pl.dep,Tk.dep,a3],⟨Nat.lt_of_le_of_lt (show n.toNat≤4 by omega) (by decide),a4⟩⟩
   simp only[Tk.d,Pl.d,a1];rw[Int.toNat_of_nonneg hn.1]
  ·cases h
end VI.VP
end
section
namespace VI.VP
open PySem PySem.W PySem.NumText PyProof.Rows PySem.Builtin PySem.Builtin.Str
theorem JH4{u d:Int}(hu:u.natAbs<10 ^ 9)(hd:d.natAbs<10 ^ 9):(JBe u d).length≤21:=by
 have h1:=JB0 hu;have h2:=JB0 hd;unfold JBe
 split
 ·omega
 ·rw[Str.length_append,Str.length_append];have:(one 47).length=1:=rfl;omega
theorem JBi{q:Rat}(h:Rd9 isF q):(qT q).length≤21:=JH4 h.n (by have:=h.d;simpa using this)
theorem kd_len(k:Kd):k.str.length≤4:=by cases k<;>decide +kernel
theorem JHl(o:Bool):(gw o).length=2:=by cases o<;>decide +kernel
theorem JGY:sp.length=1:=rfl
theorem JGD:("then":Str).length=4:=by decide +kernel
theorem JFM:("again":Str).length=5:=by decide +kernel
theorem JGV:("wait":Str).length=4:=by decide +kernel
theorem JJT:∀(p:Pl),p.R9 isF→p.tx.length+30≤80*2 ^ p.dep
 |.wait q,h=>by
  have:=JBi h;rw[JF5,jn2];simp only[Str.length_append,JGY,JGV,Pl.dep];omega
 |.step o g q k,h=>by
  have h1:=JBi h.1;have h2:=JBi h.2;have h3:=kd_len k;have h4:=JHl o;rw[JFn,show Txt.join sp [gw o,qT g,qT q,k.str]=gw o++sp++(qT g++sp++(qT q++sp++k.str)) from StrLaws.glued_eq_join _ _];simp only[Str.length_append,JGY,Pl.dep];omega
 |.thn a b,h=>by
  have h1:=JJT a h.1;have h2:=JJT b h.2;rw[JGk,jn3];simp only[Str.length_append,JGY,JGD,Pl.dep];have e1:=Nat.pow_le_pow_right (n:=2) (by decide) (Nat.le_max_left a.dep b.dep)
  have e2:=Nat.pow_le_pow_right (n:=2) (by decide) (Nat.le_max_right a.dep b.dep)
  rw[Nat.pow_succ];omega
 |.agn c a,h=>by
  have h1:=JJT a h.2;have h2:=JB0 (n:=(c:Int)) (by simpa using h.1)
  rw[JGZ,jn3];simp only[Str.length_append,JGY,JFM,Pl.dep];have:=Nat.one_le_two_pow (n:=a.dep);rw[Nat.pow_succ];omega
def Asc(x:Str):Prop:=∀c∈x.cps.toList,c<128
theorem Asc.app{x y:Str}(h1:Asc x)(h2:Asc y):Asc (x++y):=λc hc=>by
 rw[JAm]at hc;exact(List.mem_append.mp hc).elim (h1 c) (h2 c)
theorem Asc.sub{x y:Str}(h:Asc x)(e:∀c∈y.cps.toList,c∈x.cps.toList):Asc y:=λc hc=>h c (e c hc)
theorem Asc.from{x:Str}(h:Asc x)(a:Nat):Asc (Txt.slice x (some (a:Int)) none):=h.sub λc hc=>by rw[JBM]at hc;exact List.mem_of_mem_drop hc
theorem Asc.to{x:Str}(h:Asc x)(a:Nat):Asc (Txt.slice x none (some (a:Int))):=h.sub λc hc=>by rw[JGq]at hc;exact List.mem_of_mem_take hc
theorem JGb(n:Int):Asc (tx n):=λc hc=>by
 rcases JGy n c hc with e|e<;>omega
theorem JCG:Asc sp:=λc hc=>by
 simp[sp,one]at hc;omega
theorem JBA(u d:Int):Asc (JBe u d):=by
 unfold JBe
 split
 ·exact JGb u
 ·exact((JGb u).app λc hc=>by simp[one]at hc;omega).app (JGb d)
theorem asc_then:Asc "then":=by unfold Asc;decide +kernel
theorem asc_again:Asc "again":=by unfold Asc;decide +kernel
theorem asc_wait:Asc "wait":=by unfold Asc;decide +kernel
theorem JQn(o:Bool):Asc (gw o):=by unfold Asc;cases o<;>decide +kernel
theorem JOe(k:Kd):Asc k.str:=by unfold Asc;cases k<;>decide +kernel
theorem JB1:∀p:Pl,Asc p.tx
 |.wait q=>by
  rw[JF5,jn2];exact(asc_wait.app JCG).app (JBA _ _)
 |.step o g q k=>by
  rw[JFn,show Txt.join sp [gw o,qT g,qT q,k.str]=gw o++sp++(qT g++sp++(qT q++sp++k.str)) from StrLaws.glued_eq_join _ _];exact((JQn o).app JCG).app (((JBA _ _).app JCG).app (((JBA _ _).app JCG).app (JOe k)))
 |.thn a b=>by
  rw[JGk,jn3];exact(asc_then.app JCG).app (((JB1 a).app JCG).app (JB1 b))
 |.agn c a=>by
  rw[JGZ,jn3];exact(asc_again.app JCG).app (((JGb c).app JCG).app (JB1 a))
end VI.VP
end
section
namespace VI.VP
open PySem PySem.W
def oddF:List Str:=["2/4","1/1","01","-0","1/0","1/-2","","/","1/","/2","+1","1 "]
theorem JN0:∀x∈oddF,JA0 isF x=none:=by decide +kernel
def oddN:List Str:=["go 0 1","wait  1","then wait 1",""]
theorem JDx:∀x∈oddN,(takeD isF 5 (Txt.split x sp)).isNone=true:=by decide +kernel
theorem JRJ:takeD isF 5 (Txt.split "again 02 wait 1" sp)=some (.tuple [.str "again",.int 2,.tuple [.str "wait",.tuple [.int 1,.int 1]]],[]):=by kernel_rfl
theorem JRA:takeD isF 5 (Txt.split "again -0 wait 1" sp)=some (.tuple [.str "again",.int 0,.tuple [.str "wait",.tuple [.int 1,.int 1]]],[]):=by kernel_rfl
theorem odd_5:takeD isF 5 (Txt.split "again 5 wait 1" sp)=some (.tuple [.str "again",.int 5,.tuple [.str "wait",.tuple [.int 1,.int 1]]],[]):=by kernel_rfl
theorem JPV:takeD isF 5 (Txt.split "go 0 1 even even" sp)=some (.tuple [.str "go",.tuple [.int 0,.int 1],.tuple [.int 1,.int 1],.str "even"],[("even":Str)]):=by kernel_rfl
def longT:Str:="again 1 again 1 again 1 again 1 again 1 again 1 again 1 again 1 again 1 again 1 again 1 again 1 again 1 again 1 again 1 again 1 again 1 again 1 again 1 again 1 again 1 again 1 again 1 again 1 again 1 again 1 again 1 again 1 again 1 again 1 wait 1"
theorem JNq:(takeD isF 5 (Txt.split longT sp)).isNone=true:=by decide +kernel
theorem JMz:Txt.mul "again 1 " 30++"wait 1"=longT:=by decide +kernel
end VI.VP
end
section
namespace VI.VP
open PySem Fr
noncomputable def Pl.one:Pl→Bool
 |.wait _=>true
 |.step ..=>true
 |_=>false
noncomputable def Pl.q:Pl→Rat
 |.wait q=>q
 |.step _ _ q _=>q
 |_=>0
section
variable{x:Bool}{sub:Nat→Nat→Bool}{m:Nat}
end
end VI.VP
end
section
namespace VI.VP
open PySem Fr
theorem JDY{α:Type}{f:D→R (Option D)}{c g:α→D}:∀ {xs:List α},(∀a∈xs,f (c a)=.ok (some (g a)))→JAt f (xs.map c)=.ok (xs.map g)
 | [],_=>rfl
 |a::xs,h=>by
  simp only[List.map_cons];unfold JAt;rw[h a (by simp)]
  simp only;rw[JDY λy hy=>h y (by simp[hy])]
def Pl.Sm:Pl→Prop
 |.wait q=>Small q
 |.step _ g q _=>Small g∧Small q
 |.thn a b=>a.Sm∧b.Sm
 |.agn _ a=>a.Sm
theorem Pl.Sm.q{s:Pl}(h:s.Sm)(o:s.one=true):Small s.q:=by
 cases s with
 |wait q=>exact h
 |step o g q k=>exact h.2
 |thn a b=>cases o
 |agn c a=>cases o
section
variable{x:Bool}{sub:Nat→Nat→Bool}{m:Nat}
end
end VI.VP
end
section
namespace VI.VP
open PySem Fr
noncomputable def pB:Nat→Int
 |0=>900000
 |1=>900000
 |2=>299000
 |3=>99000
 |_=>32000
theorem JNp{d:Nat}{a:Int}(hd:d≤3)(h1:1≤d)(h:a≤pB (d+1)):3*a+37≤pB d:=by
 have:d=1∨d=2∨d=3:=by omega
 rcases this with rfl|rfl|rfl<;>simp only[pB]at h ⊢<;>omega
theorem pB_le(d:Nat):pB d≤900000:=by
 unfold pB
 split<;>omega
section
variable{x:Bool}{sub:Nat→Nat→Bool}{m:Nat}
end
end VI.VP
end
section
namespace VI.VP
open PySem Fr
noncomputable def Mv.w(m:Mv)(t:Rat):Rat:=wo m.s m.g m.b m.l m.k m.u m.v t
noncomputable def Mv.sp(m:Mv)(t:Rat):Rat:=sd m.s m.g m.b m.l m.k m.u m.v t
section
variable{x:Bool}{sub:Nat→Nat→Bool}{m n i3 i4 j:Nat}{w t:Rat}{ms:List Mv}
end
end VI.VP
end
section
namespace VI.VP
open PySem Fr
section
variable{x:Bool}{sub:Nat→Nat→Bool}{m n i3 i4 j:Nat}{w t:Rat}{ms:List Mv}
noncomputable def Mv.sl(y:Rat)(a:Mv):Mv:={ a with b:=a.b*y,l:=a.l*y,u:=a.u / y,v:=a.v / y }
end
end VI.VP
end
section
namespace VI.VP
open PySem Fr
section
variable{x:Bool}{sub:Nat→Nat→Bool}{m:Nat}
theorem JEJ(ns:List Int):∀(d:Nat) {m:Nat}(at':Int),1≤d→d≤4→0≤at'→at'≤pB d→d+3≤m→∃p:Pl,p.Ok∧p.Sm∧p.dep≤d∧run x tabA gloA sub m 157 [sc ns,.int at',.int d]=.ok p.d
 |0,_,_,h,_,_,_,_=>absurd h (by omega)
 |d+1,m,at',_,hd,h0,h1,hm=>by
  obtain⟨n,rfl⟩:=JAG (k:=1) (m:=m) (by omega)
  rw[JAC (n:=n) (show tabA 157=some d_157 from rfl),JAD rfl];have hb:=pB_le (d+1);obtain⟨w,w0,w1,hw⟩:=JDi (x:=x) (sub:=sub) (m:=n) ns at' 8 (by omega) (by omega) (by omega) (by omega)
  have e1:((d+1:Nat):Int) - 1=d:=by omega
  by_cases hs:d=0∨w<3
  ·obtain⟨s,s0,s1,hs1⟩:=JDi (x:=x) (sub:=sub) (m:=n) ns (at'+1) 5 (by omega) (by omega) (by omega) (by omega)
   obtain⟨q2,sq2,q20,h2⟩:=JLS (x:=x) (sub:=sub) (m:=n) ns (at'+2) (by omega) (by omega) (by omega)
   obtain⟨g,sg,hg⟩:=JL2 (x:=x) (sub:=sub) (m:=n) ns (at'+4) (by omega) (by omega) (by omega)
   obtain⟨q,sq,q0,hq⟩:=JLS (x:=x) (sub:=sub) (m:=n) ns (at'+6) (by omega) (by omega) (by omega)
   obtain⟨k,hk⟩:=JPI (x:=x) (sub:=sub) (m:=n) ns (at'+8) (by omega) (by omega) (by omega)
   have go:∀b:Bool,decide (((d+1:Nat):Int)=1)=b→(b=false→decide (w<3)=true)→∃p:Pl,p.Ok∧p.Sm∧p.dep≤d+1∧JHF x (exec ⟨run x tabA gloA sub n,gloA,sub⟩ d_157.body ([sc ns,.int at',.int ((d+1:Nat):Int)].map Sl.val++List.replicate (d_157.slots - d_157.par) Sl.no))=.ok p.d:=by
    intro b hb1 hb2
    by_cases z:s=0
    ·refine⟨.wait q2,q20,sq2,by simp only[Pl.dep];omega,?_⟩
     cases b
     ·dsimp?! [d_157,JEH,hw,hb1,hb2 rfl,hs1,z,decide_true,h2,Pl.d]
     ·dsimp?! [d_157,JEH,hw,hb1,hs1,z,decide_true,h2,Pl.d]
    ·by_cases z3:s<3
     ·refine⟨.step true g q k,q0,⟨sg,sq⟩,by simp only[Pl.dep];omega,?_⟩
      cases b
      ·dsimp?! [d_157,JEH,hw,hb1,hb2 rfl,hs1,z,z3,decide_true,decide_false,hg,hq,hk,Pl.d,gwT]
      ·dsimp?! [d_157,JEH,hw,hb1,hs1,z,z3,decide_true,decide_false,hg,hq,hk,Pl.d,gwT]
     ·refine⟨.step false g q k,q0,⟨sg,sq⟩,by simp only[Pl.dep];omega,?_⟩
      cases b
      ·dsimp?! [d_157,JEH,hw,hb1,hb2 rfl,hs1,z,z3,decide_true,decide_false,hg,hq,hk,Pl.d,gwF]
      ·dsimp?! [d_157,JEH,hw,hb1,hs1,z,z3,decide_true,decide_false,hg,hq,hk,Pl.d,gwF]
   by_cases hd0:d=0
   ·exact go true (decide_eq_true (by omega)) (λh=>by cases h)
   ·exact go false (decide_eq_false (by omega)) (λ_=>decide_eq_true (by omega))
  ·have hd1:decide (((d+1:Nat):Int)=1)=false:=decide_eq_false (by omega)
   have hw3:decide (w<3)=false:=decide_eq_false (by omega)
   have bm:binD .Mult (.int 3) (.int at')=.ok (.int (3*at')):=JDX (i:=3) (j:=at') (by decide)
   have hst:=JNp (d:=d) (a:=at') (by omega) (by omega) h1
   by_cases h6:w<6
   ·obtain⟨a,oa,sa,da,ha⟩:=JEJ ns d (m:=n) (3*at'+11) (by omega) (by omega) (by omega) (by omega) (by omega)
    obtain⟨b,ob,sb,db,hb⟩:=JEJ ns d (m:=n) (3*at'+37) (by omega) (by omega) (by omega) (by omega) (by omega)
    refine⟨.thn a b,⟨oa,ob⟩,⟨sa,sb⟩,by simp only[Pl.dep];omega,?_⟩
    simp only[Pl.d];generalize a.d=ad at *;generalize b.d=bd at *
    dsimp?! [d_157,JEH,hw,hd1,hw3,h6,decide_true,bm,e1,ha,hb]
   ·obtain⟨c,c0,c1,hc⟩:=JDi (x:=x) (sub:=sub) (m:=n) ns (at'+9) 4 (by omega) (by omega) (by omega) (by omega)
    obtain⟨a,oa,sa,da,ha⟩:=JEJ ns d (m:=n) (3*at'+23) (by omega) (by omega) (by omega) (by omega) (by omega)
    have ec:((c.toNat:Nat):Int)=c:=by omega
    refine⟨.agn c.toNat a,⟨by omega,oa⟩,sa,by simp only[Pl.dep];omega,?_⟩
    simp only[Pl.d,ec];generalize a.d=ad at *
    dsimp?! [d_157,JEH,hw,hd1,hw3,h6,decide_false,bm,e1,ha,hc]
end
end VI.VP
end
section
namespace VI.VP
open PySem PySem.W PySem.NumText PyProof.Rows PySem.Builtin PySem.Builtin.Str
theorem asc_all{x:Str}:Asc x↔x.cps.all (· < 128)=true:=by
 unfold Asc;rw[←Array.all_toList,List.all_eq_true];simp
section
variable{C:Cn}
theorem JFI{i:Int}(h:i.natAbs.log2<1920):xE C .txi [.int i]=.ok (.str (tx i)):=by
 show tD .txi [.int i]=_;simp only[tD,if_pos h]
theorem JPh{i j:Int}(h:i.natAbs.log2<1920∧j.natAbs.log2<1920∧(tx i++"/"++tx j).length≤16777216):xE C .tfr [.int i,.int j]=.ok (.str (tx i++"/"++tx j)):=by
 show tD .tfr [.int i,.int j]=_;simp only[tD,if_pos h]
theorem JMA{a:Str}:xE C .stw [.str a]=.ok (.bool (Txt.startswith a "-")):=rfl
theorem JQJ{a:Str}(h:a.length≤16777216):xE C .prt [.str a]=.ok (.tuple [.str (Txt.partition a "/").1,.str (Txt.partition a "/").2.1,.str (Txt.partition a "/").2.2]):=by
 show tD .prt [.str a]=_;simp only[tD,if_pos h]
theorem JPF{a:Str}{n:Int}(h1:PySem.intText? a=some n)(h2:a.length≤640):xE C .tin [.str a]=.ok (.int n):=by
 show tD .tin [.str a]=_;simp only[tD,tinD,h1,if_pos h2]
theorem JGa{a:Str}{i:Int}(h:a.length≤16777216):xE C .tcf [.str a,.int i]=.ok (.str (Txt.slice a (some i) none)):=by
 show tD .tcf [.str a,.int i]=_;simp only[tD,if_pos h]
theorem JKm{a:Str}{i:Int}(h:a.length≤16777216):xE C .tct [.str a,.int i]=.ok (.str (Txt.slice a none (some i))):=by
 show tD .tct [.str a,.int i]=_;simp only[tD,if_pos h]
theorem JQz{ys:List D}{zs:List Str}(h:strsOf ys=some zs)(j:JoinOk " " zs=true):xE C .jn [.list ys]=.ok (.str (Txt.join sp zs)):=by
 show tD .jn [.list ys]=_;simp only[tD,jnD,h,if_pos j];rw[JFW]
theorem JAr{a b:Str}(h:a.length+b.length≤16777216):binD .Add (.str a) (.str b)=.ok (.str (a++b)):=by simp only[binD,if_pos h]
theorem JIk{a:Str}(h:a.length≤16777216):bltD .len [.str a]=.ok (.int a.length):=by simp only[bltD,if_pos h]
theorem JDA{a:Str}(h:Asc a):shaped (.str a)=true:=by
 have e:PyData.strOk a=true:=by
  unfold PyData.strOk;rw[←Array.all_toList,List.all_eq_true];intro c hc;have:=h c hc;exact decide_eq_true (by omega)
 simp only[shaped,PyData.canLay0,e,PyData.depth,Bool.true_and];rfl
theorem JMr{a b:Str}(ha:Asc a)(hb:Asc b):cmpD .Eq (.str a) (.str b)=.ok (.bool (decide (a=b))):=by
 rw[JAv (JDA ha) (JDA hb) rfl];rw[show(a==b)=decide (a=b) by rw[Bool.eq_iff_iff];simp]
theorem JEz{a b:Str}(ha:Asc a)(hb:Asc b):cmpD .NotEq (.str a) (.str b)=.ok (.bool (!decide (a=b))):=by
 simp only[cmpD,JDA ha,JDA hb,Bool.and_self,if_true,PyData.eqv];rw[show(a==b)=decide (a=b) by rw[Bool.eq_iff_iff];simp]
end
section
variable{x:Bool}{sub:Nat→Nat→Bool}{m:Nat}
theorem G310:gloA 310=.ok (.str figures):=rfl
theorem G311:gloA 311=.ok (.int 9):=rfl
theorem JRU{f:Str}(ha:Asc f)(hl:f.length≤10000000)(hm:1≤m):run x tabA gloA sub m 298 [.str f]=.ok (.bool (JBp f)):=by
 obtain⟨n,rfl⟩:=JAG hm;rw[JAC (n:=n) (show tabA 298=some JMs from rfl),JAD rfl];have e1:JBQ (.str f)=.ok (f.cps.toList.map λc=>(.str ⟨#[c]⟩:D)):=by simp only[JBQ,if_pos (asc_all.mp ha)]
 have hl2:f.cps.toList.length=f.length:=by simp[Str.length]
 have e2:JKF ⟨run x tabA gloA sub n,gloA,sub⟩ 0 (.cmp .In (.var 0) (.glo 310)) (.cbl true) [.val (.str f)] (.ok (f.cps.toList.map λc=>(.str ⟨#[c]⟩:D)))=.ok (.list (f.cps.toList.map λc=>(.bool (decide (48≤c∧c≤57)):D))):=by
  rw[JNl (by rw[List.length_map];omega),JDY (c:=λc=>(.str ⟨#[c]⟩:D)) (g:=λc=>(.bool (decide (48≤c∧c≤57)):D)) (λc hc=>?_)]
  ·rfl
  ·have e3:cmpD .In (.str ⟨#[c]⟩) (.str figures)=.ok (.bool (decide (48≤c∧c≤57))):=by
    show R.ok (PyData.bool (!(Builtin.Str.occurrences figures (one c) 0 figures.length 1).isEmpty))=_;rw[JOM];simp only[JNJ]
   dsimp?! [JNS,G310,e3]
 have e4:bltD .all [.list (f.cps.toList.map λc=>(.bool (decide (48≤c∧c≤57)):D))]=.ok (.bool (JBp f)):=JN4
 dsimp?! [JMs,JQt,e1,e2,e4]
theorem JI0{x:Str}(hc:¬((if Txt.startswith x (one 45)=true then Txt.slice x (some 1) none else x).length=0∨9<(if Txt.startswith x (one 45)=true then Txt.slice x (some 1) none else x).length∨JBp (if Txt.startswith x (one 45)=true then Txt.slice x (some 1) none else x)=false)):∃n:Int,PySem.intText? x=some n:=by
 have hex:∀y:Str,y.length=y.cps.toList.length:=λy=>by simp[Str.length]
 by_cases hs:Txt.startswith x (one 45)=true
 ·simp only[hs,if_true]at hc;have e:=JBM x 1;rw[JBy]at hs;obtain⟨cs,hx⟩:∃cs,x.cps.toList=45::cs:=by
   cases hl:x.cps.toList with
   |nil=>rw[hl]at hs;cases hs
   |cons a r=>rw[hl]at hs;simp at hs;exact⟨r,by rw[hs]⟩
  have e2:(Txt.slice x (some 1) none).cps.toList=cs:=by
   have:(Txt.slice x (some ((1:Nat):Int)) none).cps.toList=cs:=by rw[e,hx];rfl
   exact this
  simp only[not_or]at hc;have l1:=hex (Txt.slice x (some 1) none);rw[e2]at l1;obtain⟨n,h1,_⟩:=JEb hx (by rw[←e2];exact allFig_iff.mp (by simpa using hc.2.2)) (λz=>hc.1 (by rw[l1,z];rfl)) (by omega)
  exact⟨n,h1⟩
 ·have hs:=Bool.eq_false_iff.mpr hs;simp only[hs,Bool.false_eq_true,if_false,not_or]at hc;obtain⟨n,h1,_⟩:=JFg (allFig_iff.mp (by simpa using hc.2.2)) (λz=>hc.1 (by rw[hex,z];rfl)) (by omega)
  exact⟨n,h1⟩
theorem mi1:("-":Str)=one 45:=mi_eq
theorem JGo{w f:Str}{b:Bool}(hb:Txt.startswith w "-"=b)(hf:f=if b=true then Txt.slice w (some 1) none else w)(af:Asc f)(lf:f.length≤w.length)(lw:w.length≤f.length+1)(hw:w.length≤10000000)(hm:2≤m):run true tabA gloA sub m 299 [.str w]=rW 7 (JAb w):=by
 have hl:f.length≤10000000:=by omega
 have hR:JAb w=if f.length=0∨9<f.length∨JBp f=false then none else PySem.intText? w:=by
  unfold JAb;rw[←mi1,hb,←hf]
 obtain⟨n,rfl⟩:=JAG (k:=2) hm;have hgo:∀R,(JHF true (exec ⟨run true tabA gloA sub (n+1),gloA,sub⟩ (.cons (.ife (.or (.cmp .Eq (.blt .len (.cons (.var 1) .nil)) (.cint 0)) (.or (.cmp .Gt (.blt .len (.cons (.var 1) .nil)) (.glo 311)) (.not (.call 298 (.cons (.var 1) .nil))))) (.cons (.rais 7) .nil) .nil) (.cons (.ret (.xop .tin (.cons (.var 0) .nil))) .nil)) [.val (.str w),.val (.str f)])=R)→run true tabA gloA sub (n+2) 299 [.str w]=R:=by
  intro R h;rw[JAC (n:=n+1) (show tabA 299=some JJg from rfl),JAD rfl];cases b
  ·have hf:f=w:=hf;subst hf;rw[←h]
   dsimp?! [JJg,JNI,JOk,JMA,hb]
  ·have hf:Txt.slice w (some 1) none=f:=hf.symm;rw[←h]
   dsimp?! [JJg,JNI,JOk,JMA,hb,JGa,hf]
 apply hgo;have qf:run true tabA gloA sub (n+1) 298 [.str f]=.ok (.bool (JBp f)):=JRU af hl (by omega)
 have lk:bltD .len [.str f]=.ok (.int f.length):=JIk (by omega)
 generalize hlen:((f.length:Nat):Int)=ln at *
 by_cases h0:f.length=0
 ·rw[hR,if_pos (.inl h0)];have d0:decide (ln=0)=true:=decide_eq_true (by omega)
  dsimp?! [lk,d0,rW]
 have d0:decide (ln=0)=false:=decide_eq_false (by omega)
 by_cases h1:9<f.length
 ·rw[hR,if_pos (.inr (.inl h1))];have d9:decide (9<ln)=true:=decide_eq_true (by omega)
  dsimp?! [lk,d0,d9,G311,rW]
 have d9:decide (9<ln)=false:=decide_eq_false (by omega)
 cases h2:JBp f
 ·rw[hR,if_pos (.inr (.inr h2))];rw[h2]at qf
  dsimp?! [lk,d0,d9,G311,rW,qf,Bool.not_false]
 ·have hg:∃n,PySem.intText? w=some n:=JI0 (by rw[←mi1,hb,←hf];simp[h0,h1,h2])
  obtain⟨k,hk⟩:=hg;rw[hR,if_neg (by simp[h0,h1,h2]),hk]
  rw[h2]at qf;have ht:xE ⟨run true tabA gloA sub (n+1),gloA,sub⟩ .tin [.str w]=.ok (.int k):=JPF hk (by omega)
  dsimp?! [lk,d0,d9,G311,rW,qf,Bool.not_true,ht]
theorem q_rw{w:Str}(ha:Asc w)(hw:w.length≤10000000)(hm:2≤m):run true tabA gloA sub m 299 [.str w]=rW 7 (JAb w):=by
 cases hb:Txt.startswith w "-" with
 |false=>exact JGo hb rfl ha (Nat.le_refl _) (by simp) hw hm
 |true =>
  have e:=JBM w 1;have e2:(Txt.slice w (some 1) none).length=w.length - 1:=by rw[len_list,show(Txt.slice w (some 1) none).cps.toList=w.cps.toList.drop 1 from e,List.length_drop,←len_list]
  exact JGo hb rfl (ha.from 1) (by show(Txt.slice w (some 1) none).length≤_;omega) (by show _≤(Txt.slice w (some 1) none).length+1;omega) hw hm
end
end VI.VP
end
section
namespace VI.VP
open PySem PySem.W PySem.NumText PyProof.Rows PySem.Builtin PySem.Builtin.Str
theorem log9{u:Int}(h:u.natAbs<10 ^ 9):u.natAbs.log2<1920:=by
 by_cases z:u.natAbs=0
 ·rw[z];decide +kernel
 ·exact(Nat.log2_lt z).mpr (Nat.lt_of_lt_of_le h (Nat.le_trans (show 10 ^ 9≤2 ^ 30 by decide) (Nat.pow_le_pow_right (by decide) (by decide))))
theorem JEB(c:Nat):(one c).length=1:=rfl
section
variable{x:Bool}{sub:Nat→Nat→Bool}{m:Nat}
theorem q_ft{u d:Int}(hu:u.natAbs<10 ^ 9)(hd:d.natAbs<10 ^ 9)(hm:1≤m):run x tabA gloA sub m 295 [.tuple [.int u,.int d]]=.ok (.str (JBe u d)):=by
 obtain⟨n,rfl⟩:=JAG hm;rw[JAC (n:=n) (show tabA 295=some JKb from rfl),JAD rfl];have e1:∀C,xE C .txi [.int u]=.ok (.str (tx u)):=λC=>JFI (log9 hu);have l1:=JB0 hu;have l2:=JB0 hd;have e2:∀C,xE C .tfr [.int u,.int d]=.ok (.str (tx u++one 47++tx d)):=λC=>by
  rw[JPh ⟨log9 hu,log9 hd,?_⟩,JHY];rw[JHY,Str.length_append,Str.length_append,JEB];omega
 unfold JBe
 by_cases h:d=1
 ·rw[if_pos h];have d1:decide (d=1)=true:=decide_eq_true h
  dsimp?! [JKb,JNP,t20,t21,d1,e1]
 ·rw[if_neg h];have d1:decide (d=1)=false:=decide_eq_false h
  dsimp?! [JKb,JNP,t20,t21,d1,e2]
theorem JNX{u d:Int}(hu:u.natAbs<10 ^ 9)(hd:d.natAbs<10 ^ 9)(hm:1≤m):run x tabA gloA sub m 306 [.tuple [.int u,.int d]]=.ok (.str (JBe u d)):=by
 obtain⟨n,rfl⟩:=JAG hm;rw[JAC (n:=n) (show tabA 306=some JJd from rfl),JAD rfl];have e1:∀C,xE C .txi [.int u]=.ok (.str (tx u)):=λC=>JFI (log9 hu);have e2:∀C,xE C .txi [.int d]=.ok (.str (tx d)):=λC=>JFI (log9 hd);have l1:=JB0 hu;have l2:=JB0 hd;have e3:binD .Add (.str (tx u)) (.str "/")=.ok (.str (tx u++one 47)):=by rw[JHY];exact JAr (by rw[JEB];omega)
 have e4:binD .Add (.str (tx u++one 47)) (.str (tx d))=.ok (.str (tx u++one 47++tx d)):=JAr (by rw[Str.length_append,JEB];omega)
 unfold JBe
 by_cases h:d=1
 ·rw[if_pos h];have d1:decide (d=1)=true:=decide_eq_true h
  dsimp?! [JJd,JMJ,t20,t21,d1,e1]
 ·rw[if_neg h];have d1:decide (d=1)=false:=decide_eq_false h
  dsimp?! [JJd,JMJ,t20,t21,d1,e1,e2,e3,e4]
theorem JKf(w:Str):(47 ∉ w.cps.toList∧Txt.partition w "/"=(w,Str.empty,Str.empty))∨∃a b,w=a++one 47++b∧Txt.partition w "/"=(a,one 47,b):=by
 rw[JHY]
 by_cases h:47∈w.cps.toList
 ·right;obtain⟨as,bs,e,hn⟩:=List.eq_append_cons_of_mem h;have hw:w=(⟨as.toArray⟩:Str)++one 47++(⟨bs.toArray⟩:Str):=by
   have:w.cps=((⟨as.toArray⟩:Str)++one 47++(⟨bs.toArray⟩:Str)).cps:=by
    apply Array.ext';rw[JAm,JAm,e];simp[one]
   exact congrArg Str.mk this
  refine⟨⟨as.toArray⟩,⟨bs.toArray⟩,hw,?_⟩
  conv=>lhs;rw[hw]
  exact JGG (by simpa using hn)
 ·exact .inl ⟨h,JFB h⟩
theorem JIs{u d:Int}(hm:2≤m):run x tabA gloA sub m 24 [.tuple [.int u,.int d]]=.ok (.bool (isF u d)):=by
 obtain⟨n,rfl⟩:=JAG (k:=2) hm;rw[JGU tF tI];unfold isF;rw[show decide (0<d∧u.gcd d=1)=(decide (0<d)&&decide (u.gcd d=1)) from Bool.decide_and _ _]
theorem JP3{w p1 p2 p3:Str}{u d:Int}{k:Bool}{n:Nat}(ha:Asc w)(hu:u.natAbs<10 ^ 9)(hd:d.natAbs<10 ^ 9)(e1:∀C,xE C .prt [.str w]=.ok (.tuple [.str p1,.str p2,.str p3]))(ek:cmpD .Eq (.str p2) (.str "")=.ok (.bool k))(h2:run true tabA gloA sub (n+3) 299 [.str p1]=.ok (.int u))(h3:k=false→run true tabA gloA sub (n+3) 299 [.str p3]=.ok (.int d))(h4:k=true→d=1) :
  run true tabA gloA sub (n+4) 300 [.str w]=rF 7 (if isF u d=true∧JBe u d=w then some (u,d) else none):=by
 rw[JAC (n:=n+3) (show tabA 300=some JCm from rfl),JAD rfl];have f1:run true tabA gloA sub (n+3) 24 [.tuple [.int u,.int d]]=.ok (.bool (isF u d)):=JIs (by omega)
 have f2:run true tabA gloA sub (n+3) 295 [.tuple [.int u,.int d]]=.ok (.str (JBe u d)):=q_ft hu hd (by omega)
 have f3:=JEz (JBA u d) ha;cases k
 ·have h3:=h3 rfl;cases hf:isF u d
  ·rw[hf]at f1;rw[if_neg (by simp)]
   dsimp?! [JCm,JEK,e1,t30,t31,t32,h2,ek,h3,f1,Bool.not_false,rF]
  ·rw[hf]at f1
   by_cases he:JBe u d=w
   ·rw[decide_eq_true he]at f3;rw[if_pos ⟨rfl,he⟩]
    dsimp?! [JCm,JEK,e1,t30,t31,t32,h2,ek,h3,f1,f2,f3,Bool.not_true,rF]
   ·rw[decide_eq_false he]at f3;rw[if_neg (by simp[he])]
    dsimp?! [JCm,JEK,e1,t30,t31,t32,h2,ek,h3,f1,f2,f3,Bool.not_true,Bool.not_false,rF]
 ·have h4:=h4 rfl;subst h4;cases hf:isF u 1
  ·rw[hf]at f1;rw[if_neg (by simp)]
   dsimp?! [JCm,JEK,e1,t30,t31,t32,h2,ek,f1,Bool.not_false,rF]
  ·rw[hf]at f1
   by_cases he:JBe u 1=w
   ·rw[decide_eq_true he]at f3;rw[if_pos ⟨rfl,he⟩]
    dsimp?! [JCm,JEK,e1,t30,t31,t32,h2,ek,f1,f2,f3,Bool.not_true,rF]
   ·rw[decide_eq_false he]at f3;rw[if_neg (by simp[he])]
    dsimp?! [JCm,JEK,e1,t30,t31,t32,h2,ek,f1,f2,f3,Bool.not_true,Bool.not_false,rF]
theorem JMc{a b:Str}{w:Str}(h:Asc w)(e:w=a++one 47++b):Asc a∧Asc b:=by
 subst e;exact⟨h.sub λc hc=>by rw[JAm,JAm];simp[hc],h.sub λc hc=>by rw[JAm,JAm];simp[hc]⟩
theorem JEh:cmpD .Eq (.str (one 47)) (.str "")=.ok (.bool false):=by rw[JMr (by unfold Asc;decide +kernel) (by unfold Asc;decide +kernel)];rw[decide_eq_false (by decide +kernel)]
theorem JJD:cmpD .Eq (.str Str.empty) (.str "")=.ok (.bool true):=by rw[JMr (by unfold Asc;decide +kernel) (by unfold Asc;decide +kernel)];rw[decide_eq_true (show Str.empty=("":Str) from by decide +kernel)]
theorem JC7{y:Str}{u:Int}(h:JAb y=some u):u.natAbs<10 ^ 9:=by
 obtain⟨n,h1,h2⟩:=JBa (x:=y) (λz=>by rw[h]at z;cases z)
 rw[h]at h1;cases h1;exact h2
theorem q_rf{w:Str}(ha:Asc w)(hw:w.length≤10000000)(hm:4≤m):run true tabA gloA sub m 300 [.str w]=rF 7 (JA0 isF w):=by
 obtain⟨n,rfl⟩:=JAG (k:=4) hm;have e1:∀C,xE C .prt [.str w]=.ok (.tuple [.str (Txt.partition w "/").1,.str (Txt.partition w "/").2.1,.str (Txt.partition w "/").2.2]):=λC=>JQJ (by omega)
 have w1:∀y,Asc y→y.length≤10000000→run true tabA gloA sub (n+3) 299 [.str y]=rW 7 (JAb y):=λy h1 h2=>q_rw h1 h2 (by omega)
 have no1:∀p1 p2 p3,(∀C,xE C .prt [.str w]=.ok (.tuple [.str p1,.str p2,.str p3]))→run true tabA gloA sub (n+3) 299 [.str p1]=.exc 7→run true tabA gloA sub (n+4) 300 [.str w]=.exc 7:=by
  intro p1 p2 p3 e1 h;rw[JAC (n:=n+3) (show tabA 300=some JCm from rfl),JAD rfl]
  dsimp?! [JCm,JEK,e1,t30,t31,t32,h]
 have no2:∀p1 p2 p3 u,(∀C,xE C .prt [.str w]=.ok (.tuple [.str p1,.str p2,.str p3]))→run true tabA gloA sub (n+3) 299 [.str p1]=.ok (.int u)→cmpD .Eq (.str p2) (.str "")=.ok (.bool false)→run true tabA gloA sub (n+3) 299 [.str p3]=.exc 7→run true tabA gloA sub (n+4) 300 [.str w]=.exc 7:=by
  intro p1 p2 p3 u e1 h h5 h6;rw[JAC (n:=n+3) (show tabA 300=some JCm from rfl),JAD rfl]
  dsimp?! [JCm,JEK,e1,t30,t31,t32,h,h5,h6]
 unfold JA0;rw[←JHY];rcases JKf w with ⟨_,hp⟩|⟨a,b,hab,hp⟩
 ·rw[hp]at e1 ⊢;simp only[if_true,Option.bind_some];have q1:=w1 w ha hw;cases h1:JAb w with
  |none=>rw[h1]at q1;exact no1 _ _ _ e1 q1
  |some u =>
   rw[h1]at q1;exact JP3 ha (JC7 h1) (by decide) e1 JJD q1 (λz=>by cases z) (λ_=>rfl)
 ·rw[hp]at e1 ⊢;obtain⟨aa,ab⟩:=JMc ha hab;have hl:w.length=a.length+1+b.length:=by rw[hab,Str.length_append,Str.length_append,JEB]
  simp only[if_neg (show one 47≠Str.empty by decide +kernel)]
  have q1:=w1 a aa (by omega)
  have q2:=w1 b ab (by omega)
  cases h1:JAb a with
  |none=>rw[h1]at q1;exact no1 _ _ _ e1 q1
  |some u =>
   rw[h1]at q1;cases h2:JAb b with
   |none=>rw[h2]at q2;exact no2 _ _ _ u e1 q1 JEh q2
   |some d =>
    rw[h2]at q2;exact JP3 ha (JC7 h1) (JC7 h2) e1 JEh q1 (λ_=>q2) (λz=>by cases z)
end
end VI.VP
end
section
namespace VI.VP
open PySem PySem.W PySem.NumText PyProof.Rows PySem.Builtin PySem.Builtin.Str
theorem JIM{B:Nat}:∀(zs:List Str) (a:Nat),(∀z∈zs,z.length≤B)→zs.foldl (λn z=>n+z.length+sp.length) a≤a+zs.length*(B+1)
 | [],a,_=>by simp
 |z::r,a,h=>by
  rw[List.foldl_cons];have h1:=h z (by simp)
  have h2:=JIM r (a+z.length+sp.length) λy hy=>h y (by simp[hy])
  have h3:sp.length=1:=rfl;rw[List.length_cons,Nat.succ_mul];omega
theorem jok{zs:List Str}(h:∀z∈zs,z.length≤100000)(hl:zs.length≤10):JoinOk " " zs=true:=by
 unfold JoinOk;rw[JFW];have h1:=JIM zs 0 h;have h2:zs.length*(100000+1)≤10*(100000+1):=Nat.mul_le_mul hl (Nat.le_refl _);have e:zs.toArray.foldl (λn z=>n+z.length+sp.length) 0=zs.foldl (λn z=>n+z.length+sp.length) 0:=by simp
 rw[e];unfold tooLong;rw[decide_eq_false]
 ·rfl
 ·have:=sizeLine_eq;omega
theorem JG1{q:Rat}(h:Small q):Rd9 isF q:=⟨JMh q,by have:=h.n;omega,by have:=h.d;omega⟩
theorem JJp:∀(p:Pl),p.Ok→p.Sm→p.R9 isF
 |.wait q,_,h=>JG1 h
 |.step _ g q _,_,h=>⟨JG1 h.1,JG1 h.2⟩
 |.thn a b,o,h=>⟨JJp a o.1 h.1,JJp b o.2 h.2⟩
 |.agn c a,o,h=>⟨by have:=o.1;omega,JJp a o.2 h⟩
theorem JPH{a b:Nat}(h:a≤b):80*2 ^ a≤80*2 ^ b:=Nat.mul_le_mul (Nat.le_refl _) (Nat.pow_le_pow_right (by decide) h)
theorem JBT{p:Pl}(h:p.R9 isF)(hd:p.dep≤5):p.tx.length≤2560:=by
 have h1:=JJT p h;have h2:=JPH hd;omega
section
variable{x:Bool}{sub:Nat→Nat→Bool}{m:Nat}
theorem JJo{q:Rat}(h:Rd9 isF q)(hm:1≤m):run x tabA gloA sub m 295 [F q]=.ok (.str (qT q)):=q_ft h.n (by have:=h.d;simpa using this) hm
theorem JG3{q:Rat}(h:Rd9 isF q)(hm:1≤m):run x tabA gloA sub m 306 [F q]=.ok (.str (qT q)):=JNX h.n (by have:=h.d;simpa using this) hm
theorem JQH{xs ys:List D}(h:xs.length+ys.length≤16777216):binD .Add (.list xs) (.list ys)=.ok (.list (xs++ys)):=by simp only[binD,if_pos h]
theorem JJN(o:Bool):cmpD .Eq (.str (gw o)) (.str "then")=.ok (.bool false):=by cases o<;>first|exact JFH|exact JEx
theorem JHW(o:Bool):cmpD .Eq (.str (gw o)) (.str "again")=.ok (.bool false):=by cases o<;>first|exact JDg|exact JDc
theorem JH6(o:Bool):cmpD .Eq (.str (gw o)) (.str "wait")=.ok (.bool false):=by cases o<;>first|exact JEW|exact JE4
theorem JJb{d:D}{w:Str}{ps:List Str}{n:Nat}(h1:idxD d (.int 0)=.ok (.str w))(h2:run x tabA gloA sub n 297 [d]=.ok (.list (ps.map .str)))(h3:∀z∈w::ps,z.length≤100000)(h4:ps.length≤5):run x tabA gloA sub (n+1) 296 [d]=.ok (.str (Txt.join sp (w::ps))):=by
 rw[JAC (n:=n) (show tabA 296=some JNv from rfl),JAD rfl];have e1:binD .Add (.list [.str w]) (.list (ps.map .str))=.ok (.list (.str w::ps.map .str)):=JQH (by simp;omega)
 have so:∀l:List Str,strsOf (l.map .str)=some l:=λl=>by
  induction l with
  |nil=>rfl
  |cons a r ih=>simp only[List.map_cons,strsOf,ih,Option.map_some]
 have e2:∀C,xE C .jn [.list (.str w::ps.map .str)]=.ok (.str (Txt.join sp (w::ps))):=λC=>JQz (so (w::ps)) (jok h3 (by simp;omega))
 generalize ps.map PyData.str=pl at *
 dsimp?! [JNv,JPr,h1,h2,e1,e2]
theorem q_wr:∀(p:Pl) {m:Nat},p.R9 isF→p.dep≤5→2*p.dep+1≤m→run x tabA gloA sub m 296 [p.d]=.ok (.str p.tx)
 |.wait q,m,h,hd,hm=>by
  simp only[Pl.dep]at hm;obtain⟨n,rfl⟩:=JAG (k:=3) (m:=m) (by omega)
  have f1:run x tabA gloA sub (n+1) 295 [F q]=.ok (.str (qT q)):=JJo h (by omega)
  refine JJb (ps:=[qT q]) (w:="wait") rfl ?_ (λz hz=>?_) (by simp)
  ·rw[JAC (n:=n+1) (show tabA 297=some JES from rfl),JAD rfl]
   dsimp?! [JES,JId,Pl.d,t20,t21,JB7,JBt,JBb,f1,List.map_cons,List.map_nil]
  ·simp only[List.mem_cons,List.not_mem_nil,or_false]at hz;rcases hz with rfl|rfl
   ·rw[JGV];omega
   ·have:=JBi h;omega
 |.step o g q k,m,h,hd,hm=>by
  simp only[Pl.dep]at hm;obtain⟨n,rfl⟩:=JAG (k:=3) (m:=m) (by omega)
  have f1:run x tabA gloA sub (n+1) 295 [F q]=.ok (.str (qT q)):=JJo h.2 (by omega)
  have f2:run x tabA gloA sub (n+1) 295 [F g]=.ok (.str (qT g)):=JJo h.1 (by omega)
  refine JJb (ps:=[qT g,qT q,k.str]) (w:=gw o) rfl ?_ (λz hz=>?_) (by simp)
  ·rw[JAC (n:=n+1) (show tabA 297=some JES from rfl),JAD rfl]
   dsimp?! [JES,JId,Pl.d,t40,t41,t42,t43,JJN,JHW,JH6,f1,f2,List.map_cons,List.map_nil]
  ·simp only[List.mem_cons,List.not_mem_nil,or_false]at hz;rcases hz with rfl|rfl|rfl|rfl
   ·rw[JHl];omega
   ·have:=JBi h.1;omega
   ·have:=JBi h.2;omega
   ·have:=kd_len k;omega
 |.thn a b,m,h,hd,hm=>by
  simp only[Pl.dep]at hm hd;obtain⟨n,rfl⟩:=JAG (k:=3) (m:=m) (by omega)
  have f1:run x tabA gloA sub (n+1) 296 [a.d]=.ok (.str a.tx):=q_wr a h.1 (by omega) (by omega)
  have f2:run x tabA gloA sub (n+1) 296 [b.d]=.ok (.str b.tx):=q_wr b h.2 (by omega) (by omega)
  rw[JGk];refine JJb (ps:=[a.tx,b.tx]) (w:="then") rfl ?_ (λz hz=>?_) (by simp)
  ·rw[JAC (n:=n+1) (show tabA 297=some JES from rfl),JAD rfl];simp only[Pl.d];generalize a.d=ad at *;generalize b.d=bd at *
   dsimp?! [JES,JId,t30,t31,t32,JAq,f1,f2,List.map_cons,List.map_nil]
  ·simp only[List.mem_cons,List.not_mem_nil,or_false]at hz;rcases hz with rfl|rfl|rfl
   ·rw[JGD];omega
   ·have:=JBT h.1 (by omega);omega
   ·have:=JBT h.2 (by omega);omega
 |.agn c a,m,h,hd,hm=>by
  simp only[Pl.dep]at hm hd;obtain⟨n,rfl⟩:=JAG (k:=3) (m:=m) (by omega)
  have f1:run x tabA gloA sub (n+1) 296 [a.d]=.ok (.str a.tx):=q_wr a h.2 (by omega) (by omega)
  have hc:((c:Nat):Int).natAbs<10 ^ 9:=by have:=h.1;simpa using this
  have f2:∀C,xE C .txi [.int (c:Nat)]=.ok (.str (tx c)):=λC=>JFI (log9 hc);rw[JGZ];refine JJb (ps:=[tx c,a.tx]) (w:="again") rfl ?_ (λz hz=>?_) (by simp)
  ·rw[JAC (n:=n+1) (show tabA 297=some JES from rfl),JAD rfl];simp only[Pl.d];generalize a.d=ad at *
   dsimp?! [JES,JId,t30,t31,t32,JBC,JBI,f1,f2,List.map_cons,List.map_nil]
  ·simp only[List.mem_cons,List.not_mem_nil,or_false]at hz;rcases hz with rfl|rfl|rfl
   ·rw[JFM];omega
   ·have:=JB0 hc;omega
   ·have:=JBT h.2 (by omega);omega
theorem in_gw(o:Bool):cmpD .In (.str (gw o)) (.tuple [.str "go",.str "by"])=.ok (.bool true):=by cases o<;>kernel_rfl
theorem JMy:cmpD .In (.str "wait") (.tuple [.str "go",.str "by"])=.ok (.bool false):=by kernel_rfl
theorem JMn:cmpD .In (.str "then") (.tuple [.str "go",.str "by"])=.ok (.bool false):=by kernel_rfl
theorem JJx:cmpD .In (.str "again") (.tuple [.str "go",.str "by"])=.ok (.bool false):=by kernel_rfl
theorem JNz:("wait ":Str)="wait"++sp:=by decide +kernel
theorem JNU:("then ":Str)="then"++sp:=by decide +kernel
theorem JKd:("again ":Str)="again"++sp:=by decide +kernel
theorem q_lt:∀(p:Pl) {m:Nat},p.R9 isF→p.dep≤5→p.dep+1≤m→run x tabA gloA sub m 307 [p.d]=.ok (.str p.tx)
 |.wait q,m,h,hd,hm=>by
  simp only[Pl.dep]at hm;obtain⟨n,rfl⟩:=JAG (k:=2) (m:=m) (by omega)
  rw[JAC (n:=n+1) (show tabA 307=some JDz from rfl),JAD rfl];have f1:run x tabA gloA sub (n+1) 306 [F q]=.ok (.str (qT q)):=JG3 h (by omega)
  have l1:=JBi h;have e1:binD .Add (.str "wait ") (.str (qT q))=.ok (.str ("wait "++qT q)):=JAr (by rw[show("wait ":Str).length=5 by decide +kernel];omega)
  rw[JF5,jn2,←JNz]
  dsimp?! [JDz,JIl,Pl.d,t20,t21,JMy,JBb,f1,e1]
 |.step o g q k,m,h,hd,hm=>by
  simp only[Pl.dep]at hm;obtain⟨n,rfl⟩:=JAG (k:=2) (m:=m) (by omega)
  rw[JAC (n:=n+1) (show tabA 307=some JDz from rfl),JAD rfl];have f1:run x tabA gloA sub (n+1) 306 [F q]=.ok (.str (qT q)):=JG3 h.2 (by omega)
  have f2:run x tabA gloA sub (n+1) 306 [F g]=.ok (.str (qT g)):=JG3 h.1 (by omega)
  have e2:∀C,xE C .jn [.list [.str (gw o),.str (qT g),.str (qT q),.str k.str]]=.ok (.str (Pl.step o g q k).tx):=λC=>by
   rw[JFn];refine JQz rfl (jok (λz hz=>?_) (by simp))
   simp only[List.mem_cons,List.not_mem_nil,or_false]at hz;rcases hz with rfl|rfl|rfl|rfl
   ·rw[JHl];omega
   ·have:=JBi h.1;omega
   ·have:=JBi h.2;omega
   ·have:=kd_len k;omega
  dsimp?! [JDz,JIl,Pl.d,t40,t41,t42,t43,in_gw,f1,f2,e2]
 |.thn a b,m,h,hd,hm=>by
  simp only[Pl.dep]at hm hd;obtain⟨n,rfl⟩:=JAG (k:=1) (m:=m) (by omega)
  rw[JAC (n:=n) (show tabA 307=some JDz from rfl),JAD rfl];have f1:run x tabA gloA sub n 307 [a.d]=.ok (.str a.tx):=q_lt a h.1 (by omega) (by omega)
  have f2:run x tabA gloA sub n 307 [b.d]=.ok (.str b.tx):=q_lt b h.2 (by omega) (by omega)
  have l1:=JBT h.1 (by omega)
  have l2:=JBT h.2 (by omega)
  have l5:("then ":Str).length=5:=by decide +kernel
  have l6:(" ":Str).length=1:=by decide +kernel
  have e1:binD .Add (.str "then ") (.str a.tx)=.ok (.str ("then "++a.tx)):=JAr (by omega)
  have e2:binD .Add (.str ("then "++a.tx)) (.str " ")=.ok (.str ("then "++a.tx++" ")):=JAr (by rw[Str.length_append];omega)
  have e3:binD .Add (.str ("then "++a.tx++" ")) (.str b.tx)=.ok (.str ("then "++a.tx++" "++b.tx)):=JAr (by rw[Str.length_append,Str.length_append];omega)
  have e4:("then "++a.tx++" "++b.tx:Str)=(Pl.thn a b).tx:=by
   rw[JGk,jn3,JNU,JFW];simp only[Str.append_assoc]
  rw[e4]at e3;simp only[Pl.d];generalize a.d=ad at *;generalize b.d=bd at *
  dsimp?! [JDz,JIl,t30,t31,t32,JMn,JA4,JAq,f1,f2,e1,e2,e3]
 |.agn c a,m,h,hd,hm=>by
  simp only[Pl.dep]at hm hd;obtain⟨n,rfl⟩:=JAG (k:=1) (m:=m) (by omega)
  rw[JAC (n:=n) (show tabA 307=some JDz from rfl),JAD rfl];have f1:run x tabA gloA sub n 307 [a.d]=.ok (.str a.tx):=q_lt a h.2 (by omega) (by omega)
  have hc:((c:Nat):Int).natAbs<10 ^ 9:=by have:=h.1;simpa using this
  have f2:∀C,xE C .txi [.int (c:Nat)]=.ok (.str (tx c)):=λC=>JFI (log9 hc);have l1:=JBT h.2 (by omega)
  have l2:=JB0 hc;have l5:("again ":Str).length=6:=by decide +kernel
  have l6:(" ":Str).length=1:=by decide +kernel
  have e1:binD .Add (.str "again ") (.str (tx c))=.ok (.str ("again "++tx c)):=JAr (by omega)
  have e2:binD .Add (.str ("again "++tx c)) (.str " ")=.ok (.str ("again "++tx c++" ")):=JAr (by rw[Str.length_append];omega)
  have e3:binD .Add (.str ("again "++tx c++" ")) (.str a.tx)=.ok (.str ("again "++tx c++" "++a.tx)):=JAr (by rw[Str.length_append,Str.length_append];omega)
  have e4:("again "++tx c++" "++a.tx:Str)=(Pl.agn c a).tx:=by
   rw[JGZ,jn3,JKd,JFW];simp only[Str.append_assoc]
  rw[e4]at e3;simp only[Pl.d];generalize a.d=ad at *
  dsimp?! [JDz,JIl,t30,t31,t32,JJx,JBS,JBC,f1,f2,e1,e2,e3]
end
end VI.VP
end
section
namespace VI.VP
open PySem PySem.W PySem.NumText PyProof.Rows PySem.Builtin PySem.Builtin.Str
theorem JCs{f:Int→Int→Bool}:∀(n:Nat) (ws:List Str) (d:D) (r:List Str),(∀w∈ws,Asc w)→takeD f n ws=some (d,r)→(∀w∈r,Asc w)∧PyData.canLay0 d=true
 |0,ws,d,r,_,h=>by cases ws<;>simp[takeD]at h
 |n+1,[],d,r,_,h=>by simp[takeD]at h
 |n+1,w::ws,d,r,hw,h=>by
  have ok:∀w:Str,Asc w→PyData.canLay0 (.str w)=true:=λw hw=>by
   have:=JDA hw;simp only[shaped,Bool.and_eq_true]at this;exact this.1
  have h0:=ok w (hw w (by simp))
  unfold takeD at h
  split at h
  ·obtain⟨p,h1,h⟩:=Option.bind_eq_some_iff.mp h;obtain⟨q,h2,e⟩:=Option.map_eq_some_iff.mp h;cases e;obtain⟨a1,a2⟩:=JCs n ws p.1 p.2 (λx hx=>hw x (by simp[hx])) h1
   obtain⟨b1,b2⟩:=JCs n p.2 q.1 q.2 a1 h2;exact⟨b1,by simp only[PyData.canLay0,PyData.canLayAll0,a2,b2,Bool.and_self,Bool.and_true]at h0 ⊢;exact h0⟩
  split at h
  ·split at h
   ·cases h
   ·rename_i m r1;obtain⟨p,h1,h⟩:=Option.bind_eq_some_iff.mp h;obtain⟨q,h2,e⟩:=Option.map_eq_some_iff.mp h;cases e;obtain⟨b1,b2⟩:=JCs n r1 q.1 q.2 (λx hx=>hw x (by simp[hx])) h2
    exact⟨b1,by simp only[PyData.canLay0,PyData.canLayAll0,b2,Bool.and_self,Bool.and_true]at h0 ⊢;exact h0⟩
  split at h
  ·split at h
   ·cases h
   ·obtain⟨p,h1,e⟩:=Option.map_eq_some_iff.mp h;cases e;exact⟨λx hx=>hw x (by simp[hx]),by simp only[PyData.canLay0,PyData.canLayAll0,Bool.and_self,Bool.and_true]at h0 ⊢;exact h0⟩
  ·split at h
   ·rename_i a b z r1;obtain⟨p,h1,h⟩:=Option.bind_eq_some_iff.mp h;obtain⟨q,h2,e⟩:=Option.map_eq_some_iff.mp h;cases e;have hz:=ok z (hw z (by simp))
    exact⟨λx hx=>hw x (by simp[hx]),by simp only[PyData.canLay0,PyData.canLayAll0,Bool.and_self,Bool.and_true,Bool.and_eq_true]at h0 hz ⊢;exact⟨h0,trivial,trivial,hz⟩⟩
   ·cases h
theorem JQ3{w:Str}(h:PyData.canLay0 (.str w)=true):shaped (.str w)=true:=by
 simp only[shaped,h,PyData.depth,Bool.true_and];rfl
theorem JIT{a b:Str}(ha:PyData.canLay0 (.str a)=true)(hb:shaped (.str b)=true):cmpD .Eq (.str a) (.str b)=.ok (.bool (decide (a=b))):=by
 rw[JAv (JQ3 ha) hb rfl];rw[show(a==b)=decide (a=b) by rw[Bool.eq_iff_iff];simp]
theorem JIL{k:Str}(h:PyData.canLay0 (.str k)=true):cmpD .In (.str k) VP.kinds=.ok (.bool (kdOf k).isSome):=by
 have e:cmpD .In (.str k) VP.kinds=.ok (.bool (([.str "even",.str "in",.str "out",.str "both",.str "hold",.str "jump"]:List D).any λz=>PyData.eqv z (.str k))):=by
  show(if JB5 _ _=true then _ else _)=_;rw[if_pos];simp only[JB5,h,Bool.and_true]
  kernel_rfl
 rw[e]
 congr 2
 simp only[List.any_cons,List.any_nil,PyData.eqv];unfold kdOf;have bq:∀a:Str,(a==k)=decide (k=a):=λa=>by
  rw[Bool.eq_iff_iff,beq_iff_eq,decide_eq_true_eq];exact⟨λh=>h.symm,λh=>h.symm⟩
 simp only[bq]
 by_cases h0:k="even"
 ·rw[if_pos h0,decide_eq_true h0];rfl
 rw[if_neg h0,decide_eq_false h0,Bool.false_or]
 by_cases h1:k="in"
 ·rw[if_pos h1,decide_eq_true h1];rfl
 rw[if_neg h1,decide_eq_false h1,Bool.false_or]
 by_cases h2:k="out"
 ·rw[if_pos h2,decide_eq_true h2];rfl
 rw[if_neg h2,decide_eq_false h2,Bool.false_or]
 by_cases h3:k="both"
 ·rw[if_pos h3,decide_eq_true h3];rfl
 rw[if_neg h3,decide_eq_false h3,Bool.false_or]
 by_cases h4:k="hold"
 ·rw[if_pos h4,decide_eq_true h4];rfl
 rw[if_neg h4,decide_eq_false h4,Bool.false_or]
 by_cases h5:k="jump"
 ·rw[if_pos h5,decide_eq_true h5];rfl
 rw[if_neg h5,decide_eq_false h5,Bool.false_or];rfl
section
variable{x:Bool}{sub:Nat→Nat→Bool}{m:Nat}
theorem JOO{k:Str}(h:PyData.canLay0 (.str k)=true)(hm:1≤m):run x tabA gloA sub m 29 [.str k]=.ok (.bool (kdOf k).isSome):=by
 obtain⟨n,rfl⟩:=JAG hm;rw[JAC (n:=n) (show tabA 29=some d_29 from rfl),JAD rfl];have h1:=JIL h;have h2:gloA 41=.ok VP.kinds:=rfl
 dsimp?! [d_29,b_29,h1,h2]
theorem r901:∀(n k:Nat) (d:D),run true tabA gloA sub n 901 [d,.int k]=if k+1≤n then tD .tkd [d,.int 7] else .bad
 |0,k,d=>by rw[if_neg (by omega)];rfl
 |n+1,k,d=>by
  rw[JAC (n:=n) (show tabA 901=some JJi from rfl),JAD rfl];cases k with
  |zero =>
   rw[if_pos (by omega)]
   have h0:∀C,xE C .tkd [d,.int 7]=tD .tkd [d,.int 7]:=λC=>rfl;cases hr:tD .tkd [d,.int 7]<;>simp only[hr]at h0<;>dsimp?! [JJi,h0,decide_true,Int.natCast_zero]<;>rfl
  |succ k =>
   have ih:=r901 n k d;have e1:(((k+1:Nat):Int) - 1)=(k:Nat):=by omega
   have d1:decide (((k+1:Nat):Int)=0)=false:=decide_eq_false (by omega)
   have e2:(if k+1+1≤n+1 then tD .tkd [d,.int 7] else .bad)=(if k+1≤n then tD .tkd [d,.int 7] else .bad):=by
    by_cases h:k+1≤n
    ·rw[if_pos h,if_pos (by omega)]
    ·rw[if_neg h,if_neg (by omega)]
   rw[e2,←ih];cases hr:run true tabA gloA sub n 901 [d,.int k]<;>dsimp?! [JJi,d1,e1,hr]<;>rfl
theorem r900(n:Nat)(d:D):run true tabA gloA sub (n+1) 900 [d]=if 21≤n then tD .tkd [d,.int 7] else .bad:=by
 rw[JAC (n:=n) (show tabA 900=some JN2 from rfl),JAD rfl];have h:=r901 (sub:=sub) n 20 d;rw[←h];have e:((20:Nat):Int)=20:=rfl;rw[e]at h ⊢;cases hr:run true tabA gloA sub n 901 [d,.int 20]<;>dsimp?! [JN2,hr]<;>rfl
theorem JN5{n:Nat}{ds:List D}(h:run true tabA gloA sub n 900 ds≠.bad):∃(k:Nat) (s:Str),n=k+22∧ds=[.str s]∧s.cps.all (· < 128)=true∧s.length≤10000000∧run true tabA gloA sub n 900 ds=tkD s 7:=by
 cases n with
 |zero=>exact absurd rfl h
 |succ n =>
  have hl:∃d,ds=[d]:=by
   obtain⟨fd,h1,h2⟩:=JIy h;cases h1
   match ds,h2 with
   | [d],_=>exact⟨d,rfl⟩
  obtain⟨d,rfl⟩:=hl;rw[r900]at h ⊢
  by_cases hn:21≤n
  ·rw[if_pos hn]at h ⊢;cases d<;>first|exact absurd rfl h|skip
   rename_i s;have e:tD .tkd [.str s,.int 7]=tkD s 7:=rfl;rw[e]at h ⊢;unfold tkD at h
   split at h
   ·rename_i hc;exact⟨n - 21,s,by omega,rfl,hc.1,hc.2,rfl⟩
   ·exact absurd rfl h
  ·rw[if_neg hn]at h;exact absurd rfl h
end
end VI.VP
end
section
namespace VI.VP
open PySem PySem.W PySem.NumText PyProof.Rows PySem.Builtin PySem.Builtin.Str
section
variable{x:Bool}{sub:Nat→Nat→Bool}{m:Nat}
theorem JQI{a b c:D}{w:Str}(h:PyData.canLay0 (.tuple [.str w,a,b,c])=true):PyData.canLay0 (.str w)=true∧PyData.canLay0 c=true:=by
 simp only[PyData.canLay0,PyData.canLayAll0,Bool.and_eq_true,Bool.and_true]at h ⊢;exact⟨h.1,h.2.2.2⟩
theorem JQA{a b c:D}(h:PyData.canLay0 (.tuple [a,b,c])=true):PyData.canLay0 b=true∧PyData.canLay0 c=true:=by
 simp only[PyData.canLay0,PyData.canLayAll0,Bool.and_eq_true,Bool.and_true]at h ⊢;exact h.2
theorem JKB:∀(t:Tk) {m:Nat}(deep:Nat),t.R9→PyData.canLay0 t.d=true→t.dep≤deep→t.dep+4≤m→run x tabA gloA sub m 141 [t.d,.int deep]=.ok (.bool t.pl.isSome)
 |.wait q,m,deep,hr,hl,hd,hm=>by
  simp only[Tk.dep]at hd hm;obtain⟨n,rfl⟩:=JAG (k:=5) (m:=m) (by omega)
  rw[JAC (n:=n+4) (show tabA 141=some JAs from rfl),JAD rfl];have d0:decide ((deep:Int)=0)=false:=decide_eq_false (by omega)
  have e:(Tk.wait q).pl.isSome=decide (0<q):=by
   simp only[Tk.pl]
   by_cases h:0<q<;>simp[h]
  rw[e]
  dsimp?! [JAs,JBR,Tk.d,d0,decide_true,JAl,Bool.not_true,n2,JPj,Int.reduceEq,decide_false,t20,t21,JEd,JFV,JBb,JB7,JBt,JEy]
 |.step w g q k,m,deep,hr,hl,hd,hm=>by
  simp only[Tk.dep]at hd hm;obtain⟨n,rfl⟩:=JAG (k:=5) (m:=m) (by omega)
  rw[JAC (n:=n+4) (show tabA 141=some JAs from rfl),JAD rfl];have d0:decide ((deep:Int)=0)=false:=decide_eq_false (by omega)
  simp only[Tk.d]at hl;obtain⟨lw,lk⟩:=JQI hl;obtain⟨⟨w1,w2,w3⟩,r1,r2⟩:=hr;have c1:=JIT lw h_go;have c2:=JIT lw h_by;have c3:=JIT lw JBs;have c4:=JIT lw JBj;have c5:=JIT lw JBP;rw[decide_eq_false w1]at c4;rw[decide_eq_false w2]at c5;rw[decide_eq_false w3]at c3;have ik:run x tabA gloA sub (n+4) 29 [.str k]=.ok (.bool (kdOf k).isSome):=JOO lk (by omega)
  have e:(Tk.step w g q k).pl.isSome=((decide (w="go") || decide (w="by"))&&(decide (0<q)&&(kdOf k).isSome)):=by
   simp only[Tk.pl]
   by_cases h:(w="go"∨w="by")∧0<q
   ·rw[if_pos h,Option.isSome_map];rcases h.1 with h1|h1<;>simp[h1,h.2]
   ·rw[if_neg h]
    by_cases h1:w="go"∨w="by"
    ·have:¬0<q:=λz=>h ⟨h1,z⟩;simp[this]
    ·simp only[not_or]at h1;simp[h1.1,h1.2]
  rw[e];generalize hkk:(kdOf k).isSome=kb at *
  by_cases h1:w="go"
  ·rw[decide_eq_true h1]at c1;rw[decide_eq_true h1]
   by_cases hq:0<q
   ·dsimp?! [JAs,JBR,Tk.d,d0,decide_true,JAl,Bool.not_true,n4,JFu,Int.reduceEq,decide_false,t40,t41,t42,t43,c1,JFq,JEy,hq,ik,Bool.true_or,Bool.true_and]
   ·dsimp?! [JAs,JBR,Tk.d,d0,decide_true,JAl,Bool.not_true,n4,JFu,Int.reduceEq,decide_false,t40,t41,t42,t43,c1,JFq,JEy,hq,ik,Bool.true_or,Bool.true_and,Bool.false_and]
  ·rw[decide_eq_false h1]at c1;rw[decide_eq_false h1]
   by_cases h2:w="by"
   ·rw[decide_eq_true h2]at c2;rw[decide_eq_true h2]
    by_cases hq:0<q
    ·dsimp?! [JAs,JBR,Tk.d,d0,decide_true,JAl,Bool.not_true,n4,JFu,Int.reduceEq,decide_false,t40,t41,t42,t43,c1,c2,JFq,JEy,hq,ik,Bool.false_or,Bool.true_and]
    ·dsimp?! [JAs,JBR,Tk.d,d0,decide_true,JAl,Bool.not_true,n4,JFu,Int.reduceEq,decide_false,t40,t41,t42,t43,c1,c2,JFq,JEy,hq,ik,Bool.false_or,Bool.true_and,Bool.false_and]
   ·rw[decide_eq_false h2]at c2;rw[decide_eq_false h2]
    dsimp?! [JAs,JBR,Tk.d,d0,decide_true,JAl,Bool.not_true,n4,JFu,Int.reduceEq,decide_false,t40,t41,t42,t43,c1,c2,c3,c4,c5,Bool.false_or,Bool.false_and]
 |.thn a b,m,deep,hr,hl,hd,hm=>by
  simp only[Tk.dep]at hd hm;obtain⟨n,rfl⟩:=JAG (k:=1) (m:=m) (by omega)
  rw[JAC (n:=n) (show tabA 141=some JAs from rfl),JAD rfl];have d0:decide ((deep:Int)=0)=false:=decide_eq_false (by omega)
  simp only[Tk.d]at hl;obtain⟨l1,l2⟩:=JQA hl;have ha:=JKB a (m:=n) (deep - 1) hr.1 l1 (by omega) (by omega)
  have hb:=JKB b (m:=n) (deep - 1) hr.2 l2 (by omega) (by omega)
  have ed:(deep:Int) - 1=((deep - 1:Nat):Int):=by omega
  rw[←ed]at ha hb;have e:(Tk.thn a b).pl.isSome=(a.pl.isSome&&b.pl.isSome):=by
   simp only[Tk.pl];cases a.pl<;>cases b.pl<;>rfl
  rw[e];simp only[Tk.d];generalize a.pl.isSome=pa at *;generalize b.pl.isSome=pb at *;generalize a.d=ad at *;generalize b.d=bd at *;cases pa
  ·dsimp?! [JAs,JBR,d0,decide_true,JAl,Bool.not_true,n3,JE2,Int.reduceEq,decide_false,t30,t31,t32,JBk,JBn,JA4,JAq,ha,hb,Bool.false_and]
  ·dsimp?! [JAs,JBR,d0,decide_true,JAl,Bool.not_true,n3,JE2,Int.reduceEq,decide_false,t30,t31,t32,JBk,JBn,JA4,JAq,ha,hb,Bool.true_and]
 |.agn k a,m,deep,hr,hl,hd,hm=>by
  simp only[Tk.dep]at hd hm;obtain⟨n,rfl⟩:=JAG (k:=1) (m:=m) (by omega)
  rw[JAC (n:=n) (show tabA 141=some JAs from rfl),JAD rfl];have d0:decide ((deep:Int)=0)=false:=decide_eq_false (by omega)
  simp only[Tk.d]at hl;obtain⟨_,l2⟩:=JQA hl;have ha:=JKB a (m:=n) (deep - 1) hr.2 l2 (by omega) (by omega)
  have ed:(deep:Int) - 1=((deep - 1:Nat):Int):=by omega
  rw[←ed]at ha;have hk:run x tabA gloA sub n 142 [.int k]=.ok (.bool (decide (0≤k∧k≤4))):=JL9 (by omega)
  have e:(Tk.agn k a).pl.isSome=(decide (0≤k∧k≤4)&&a.pl.isSome):=by
   simp only[Tk.pl]
   by_cases h:0≤k∧k≤4
   ·rw[if_pos h,decide_eq_true h,Option.isSome_map,Bool.true_and]
   ·rw[if_neg h,decide_eq_false h];rfl
  rw[e];simp only[Tk.d];generalize a.pl.isSome=pa at *;generalize decide (0≤k∧k≤4)=kb at *;generalize a.d=ad at *;cases kb
  ·dsimp?! [JAs,JBR,d0,decide_true,JAl,Bool.not_true,n3,JE2,Int.reduceEq,decide_false,t30,t31,t32,JCZ,JCX,JBS,JBC,JBI,ha,hk,Bool.false_and]
  ·dsimp?! [JAs,JBR,d0,decide_true,JAl,Bool.not_true,n3,JE2,Int.reduceEq,decide_false,t30,t31,t32,JCZ,JCX,JBS,JBC,JBI,ha,hk,Bool.true_and]
theorem q_tk{t:Tk}(hr:t.R9)(hl:PyData.canLay0 t.d=true)(hd:t.dep≤5)(hm:t.dep+5≤m):run x tabA gloA sub m 140 [t.d]=.ok (.bool t.pl.isSome):=by
 obtain⟨n,rfl⟩:=JAG (k:=1) (m:=m) (by omega)
 rw[JAC (n:=n) (show tabA 140=some JIp from rfl),JAD rfl];have h:=JKB (x:=x) (sub:=sub) t (m:=n) 5 hr hl hd (by omega)
 have e:((5:Nat):Int)=5:=rfl;rw[e]at h;generalize t.d=d at *
 dsimp?! [JIp,JNw,G151,h]
def Told(s:Str)(r:R D):Prop:=r=.exc 7∨∃p:Pl,p.Ok∧p.R9 isF∧p.dep≤5∧p.tx=s∧r=.ok p.d
theorem JET{c:Nat}:∀(l:List Nat),∀p∈spl c l,∀a∈p,a∈l
 | [],p,hp,a,ha=>by
  simp only[spl,List.mem_singleton]at hp;subst hp;exact ha
 |b::r,p,hp,a,ha=>by
  unfold spl at hp
  split at hp
  ·rcases List.mem_cons.mp hp with rfl|hp
   ·cases ha
   ·exact List.mem_cons_of_mem _ (JET r p hp a ha)
  ·cases hq:spl c r with
   |nil=>exact absurd hq (JGm c r)
   |cons q qs =>
    rw[hq]at hp;rcases List.mem_cons.mp hp with rfl|hp
    ·rcases List.mem_cons.mp ha with rfl|ha
     ·simp
     ·exact List.mem_cons_of_mem _ (JET r q (by rw[hq];simp) a ha)
    ·exact List.mem_cons_of_mem _ (JET r p (by rw[hq];simp[hp]) a ha)
theorem JEa{s:Str}(h:Asc s):∀w∈Txt.split s sp,Asc w:=by
 intro w hw;have e:=JCy s 32 (by decide)
 have h1:w.cps.toList∈spl 32 s.cps.toList:=by
  rw[←e];exact List.mem_map.mpr ⟨w,hw,rfl⟩
 exact λc hc=>h c (JET _ _ h1 c hc)
theorem JOE{s:Str}(ha:Asc s)(hs:s.length≤10000000)(hm:30≤m):Told s (run true tabA gloA sub m 301 [.str s]):=by
 obtain⟨n,rfl⟩:=JAG (k:=30) (m:=m) hm;rw[JAC (n:=n+29) (show tabA 301=some JFX from rfl),JAD rfl];have e0:run true tabA gloA sub (n+29) 900 [.str s]=tkD s 7:=by
  rw[r900 (n+28),if_pos (by omega)];rfl
 have e1:tkD s 7=match takeD isF 5 (Txt.split s sp) with
  |some p=>.ok p.1
  |none=>.exc 7:=by
  unfold tkD;rw[if_pos ⟨asc_all.mp ha,hs⟩,JFW];try rfl
 have hx:xE ⟨run true tabA gloA sub (n+29),gloA,sub⟩ .tkp [.str s]=run true tabA gloA sub (n+29) 900 [.str s]:=rfl;rw[e0,e1]at hx;cases ht:takeD isF 5 (Txt.split s sp) with
 |none =>
  rw[ht]at hx;left
  dsimp?! [JFX,JG6,hx]
 |some o =>
  obtain⟨d,r⟩:=o;rw[ht]at hx;simp only at hx;obtain⟨t,rfl,td,tr,_⟩:=JD7 5 _ d r ht;obtain⟨_,tl⟩:=JCs 5 _ _ r (JEa ha) ht;have f1:run true tabA gloA sub (n+29) 140 [t.d]=.ok (.bool t.pl.isSome):=q_tk tr tl td (by omega)
  cases hp:t.pl with
  |none =>
   rw[hp]at f1;left;generalize t.d=dd at *
   dsimp?! [JFX,JG6,hx,f1,Option.isSome_none,Bool.not_false]
  |some p =>
   rw[hp]at f1;obtain⟨h1,h2,h3,h4⟩:=JJm t p hp tr;have f2:run true tabA gloA sub (n+29) 296 [p.d]=.ok (.str p.tx):=q_wr p h4 (by omega) (by omega)
   have f3:=JEz (JB1 p) ha;rw[h1]at hx f1
   by_cases he:p.tx=s
   ·rw[decide_eq_true he]at f3;right;refine⟨p,h2,h4,by omega,he,?_⟩
    generalize p.d=dd at *
    dsimp?! [JFX,JG6,hx,f1,f2,f3,Option.isSome_some,Bool.not_true]
   ·rw[decide_eq_false he]at f3;left;generalize p.d=dd at *
    dsimp?! [JFX,JG6,hx,f1,f2,f3,Option.isSome_some,Bool.not_true,Bool.not_false]
theorem JNT{p:Pl}(ok:p.Ok)(h:p.R9 isF)(hd:p.dep≤5)(hm:30≤m):run true tabA gloA sub m 301 [.str p.tx]=.ok p.d:=by
 obtain⟨n,rfl⟩:=JAG (k:=30) (m:=m) hm;rw[JAC (n:=n+29) (show tabA 301=some JFX from rfl),JAD rfl];have hs:=JBT h hd;have e0:run true tabA gloA sub (n+29) 900 [.str p.tx]=.ok p.d:=by
  rw[r900 (n+28),if_pos (by omega)]
  show tkD p.tx 7=_;unfold tkD;rw[if_pos ⟨asc_all.mp (JB1 p),by omega⟩,JFW,JFx p 5 h hd]
 have hx:xE ⟨run true tabA gloA sub (n+29),gloA,sub⟩ .tkp [.str p.tx]=run true tabA gloA sub (n+29) 900 [.str p.tx]:=rfl;rw[e0]at hx;have f1:run true tabA gloA sub (n+29) 140 [p.d]=.ok (.bool true):=by rw[JLV p ok (by omega),decide_eq_true hd]
 have f2:run true tabA gloA sub (n+29) 296 [p.d]=.ok (.str p.tx):=q_wr p h hd (by omega)
 have f3:=JEz (JB1 p) (JB1 p);rw[decide_eq_true rfl]at f3;generalize p.d=dd at *
 dsimp?! [JFX,JG6,hx,f1,f2,f3,Bool.not_true]
end
end VI.VP
end
section
namespace VI.VP
open PySem PySem.Spec PyProof.Rows L2
theorem JD5{c:Nat}:∀(l:List Nat),∀p∈spl c l,p.length≤l.length
 | [],p,hp=>by
  simp only[spl,List.mem_singleton]at hp;subst hp;exact Nat.le_refl _
 |b::r,p,hp=>by
  unfold spl at hp
  split at hp
  ·rcases List.mem_cons.mp hp with rfl|hp
   ·simp
   ·have:=JD5 r p hp;rw[List.length_cons];omega
  ·cases hq:spl c r with
   |nil=>exact absurd hq (JGm c r)
   |cons q qs =>
    rw[hq]at hp;rcases List.mem_cons.mp hp with rfl|hp
    ·have:=JD5 r q (by rw[hq];simp)
     rw[List.length_cons,List.length_cons];omega
    ·have:=JD5 r p (by rw[hq];simp[hp])
     rw[List.length_cons];omega
theorem JKE{s:Str}(h:s.cps.all (· < 128)=true)(hl:s.length≤10000000):Wd (Txt.split s " "):=by
 intro w hw;rw[JFW]at hw;refine⟨asc_all.mp (JEa (asc_all.mpr h) w hw),?_⟩;have e:=JCy s 32 (by decide)
 have h1:w.cps.toList∈spl 32 s.cps.toList:=by
  rw[←e];exact List.mem_map.mpr ⟨w,hw,rfl⟩
 have:=JD5 _ _ h1;rw[len_list]at hl ⊢;omega
section
variable{P:Program}{w:World}{B:Bs}{G:List (Str×GK)}{mg:Str→Option Value}{base:Heap}{sub:Nat→Nat→Bool}
theorem JRN{n i:Nat}{x:Str}(hA:JF6 P w B G tabA gloA sub mg base n)(hx:G.lookup x=some (.fn i))(hne:run true tabA gloA sub n i [.str "1"]≠.bad):∃ps,Ct P w B mg base n x ps (JBF B 1 (run true tabA gloA sub n i)):=by
 obtain⟨f,fd,ps,h1,h2,h3,h4,h5⟩:=hA x i hx;have e:1=ps.length:=h5 _ hne;exact⟨ps,⟨f,fd,h1,h2,by rw[e];exact h3,h4⟩⟩
theorem asc1:Asc "1":=by unfold Asc;decide +kernel
theorem rW_ne{c:Nat}{o:Option Int}:rW c o≠.bad:=by cases o<;>exact λh=>by cases h
theorem rF_ne{c:Nat}{o:Option (Int×Int)}:rF c o≠.bad:=by cases o<;>exact λh=>by cases h
theorem tkN{fW fS fP:Addr}{oW oS oP:FuncData}(hrw:G.lookup ("read_whole":Str)=some (.fn 299))(hrf:G.lookup ("read_frac":Str)=some (.fn 300))(hD:∃t,mg "DEEPEST"=some (.int 5 t))
  (mW:mg "take_word"=some (.ref fW)∧PySem.W.keepIn B.K (.ref fW)=true∧Binds B.K oW ["words"] []) (mS:mg "take_step"=some (.ref fS)∧PySem.W.keepIn B.K (.ref fS)=true∧Binds B.K oS ["word","words"] []) (mP:mg "take_plan"=some (.ref fP)∧PySem.W.keepIn B.K (.ref fP)=true∧Binds B.K oP ["words","deep"] [])
  (hW:∀k,FnOk P w B.K mg base (CXV P w B) (k+1) fW oW ["words"] (JBg B 7))
  (hS:∀(n:Nat) (fn:List D→R D) (ps:List Str),Ct P w B mg base n "take_word" ["words"] (JBg B 7)→Ct P w B mg base n "read_frac" ps (JBF B 1 fn)→(∀w:Str,w.cps.all (· < 128)=true→w.length≤10000000→fn [.str w]=rF 7 (JA0 isF w))→FnOk P w B.K mg base (CXV P w B) (n+1) fS oS ["word","words"] (JGB B 7))
  (hP:∀(n:Nat) (fn:List D→R D) (ps:List Str),Ct P w B mg base n "take_word" ["words"] (JBg B 7)→Ct P w B mg base n "take_step" ["word","words"] (JGB B 7)→Ct P w B mg base n "take_plan" ["words","deep"] (JDd B 7 n)→Ct P w B mg base n "read_whole" ps (JBF B 1 fn)→(∀w:Str,w.cps.all (· < 128)=true→w.length≤10000000→fn [.str w]=rW 7 (JAb w))→FnOk P w B.K mg base (CXV P w B) (n+1) fP oP ["words","deep"] (JDd B 7 (n+1)))
  (n:Nat) (hA:∀m,m<n→JF6 P w B G tabA gloA sub mg base m):TkN P w B G tabA gloA sub mg base n:=by
 have cw:∀k,1≤k→Ct P w B mg base k "take_word" ["words"] (JBg B 7):=λk hk=>by
  obtain⟨j,rfl⟩:=JAG (k:=1) hk;exact⟨fW,oW,mW.1,mW.2.1,hW j,mW.2.2⟩
 have plan:∀k,k≤n→FnOk P w B.K mg base (CXV P w B) k fP oP ["words","deep"] (JDd B 7 k):=by
  intro k
  induction k with
  |zero =>
    intro _;refine⟨λvs H Q E q=>?_,λA outer s H args us vs Q E hr he hb hv q=>?_⟩
    ·obtain⟨k,l,ws,rfl,_⟩:=q;rfl
    ·obtain⟨k,l,ws,_,h,_⟩:=q;omega
  |succ k ih =>
    intro hk
    by_cases h:11≤k
    ·obtain⟨j,rfl⟩:=JAG (k:=1) (m:=k) (by omega)
     have r1:∀w:Str,w.cps.all (· < 128)=true→w.length≤10000000→run true tabA gloA sub (j+1) 299 [.str w]=rW 7 (JAb w):=λw h1 h2=>q_rw (asc_all.mpr h1) h2 (by omega)
     have r2:∀w:Str,w.cps.all (· < 128)=true→w.length≤10000000→run true tabA gloA sub j 300 [.str w]=rF 7 (JA0 isF w):=λw h1 h2=>q_rf (asc_all.mpr h1) h2 (by omega)
     obtain⟨ps,c1⟩:=JRN (hA (j+1) (by omega)) hrw (by rw[r1 _ (asc_all.mp asc1) (by decide +kernel)];exact rW_ne)
     obtain⟨ps2,c2⟩:=JRN (hA j (by omega)) hrf (by rw[r2 _ (asc_all.mp asc1) (by decide +kernel)];exact rF_ne)
     exact hP (j+1) _ ps (cw _ (by omega)) ⟨fS,oS,mS.1,mS.2.1,hS j _ ps2 (cw j (by omega)) c2 r2,mS.2.2⟩ ⟨fP,oP,mP.1,mP.2.1,ih (by omega),mP.2.2⟩ c1 r1
    ·refine⟨λvs H Q E q=>?_,λA outer s H args us vs Q E hr he hb hv q=>?_⟩
     ·obtain⟨k,l,ws,rfl,_⟩:=q;rfl
     ·obtain⟨k',l,ws,_,h',_⟩:=q;omega
 intro _;refine⟨hD,λx h=>?_,λds h=>?_,fP,oP,["words","deep"],mP.1,mP.2.1,(plan n (Nat.le_refl n)).imp λvs H Q E q=>?_,mP.2.2⟩
 ·obtain⟨k,s,_,e,_,hl,_⟩:=JN5 h;cases e;exact hl
 ·obtain⟨k,s,_,e,_⟩:=JN5 h;exact⟨s,e⟩
 ·obtain⟨l,x,rfl,hH,q⟩:=q;have hne:run true tabA gloA sub n 900 [.str x]≠.bad:=λz=>by rw[z]at q;exact q
  obtain⟨k,s,hn,e,ha,hl,hr⟩:=JN5 hne;cases e;rw[hr]at q;unfold tkD at q;rw[if_pos ⟨ha,hl⟩]at q;have hs:∀H',But l H H'→Same (λb=>if b=l then none else H b) H':=λH' b a o e=>by
    by_cases z:a=l
    ·simp only[if_pos z]at e;cases e
    ·simp only[if_neg z]at e;exact b a o z e
  refine⟨5,l,Txt.split x " ",rfl,by omega,hH,JKE ha hl,?_⟩
  cases ht:takeD isF 5 (Txt.split x " ") with
  |none=>rw[ht]at q;exact λH' b=>q H' (hs H' b)
  |some o=>obtain⟨d,r⟩:=o;rw[ht]at q;exact λv H' b _ dn=>q v H' (hs H' b) dn
theorem JHu{K:Kq}{h:Heap}{mg:Str→Option Value}{x:Str}{st:Stmt}{ps:List Str}(F:FnIn K x st)(X:K.In h)(Gm:h.Ns mainGlobals mg)(b:JFL x st ps):∃f fo,mg x=some (.ref f)∧PySem.W.keepIn K (.ref f)=true∧Fun K x x st f fo∧Binds K fo ps []:=by
 obtain⟨f,oc,od,an,sl,kV,dc,pm,cd,ct,a,l,c,k⟩:=F.ex;have Fn:=JI7 (st:=st) l c k;exact⟨f,_,PySem.W.mg_of X Gm a,k,Fn,Fn.binds b⟩
end
end VI.VP
end
section
namespace VI.VP
open PySem PySem.W PySem.NumText PyProof.Rows PySem.Builtin PySem.Builtin.Str
theorem cnt7:JDu (.list [.bool false,.bool false,.bool false,.bool false,.bool true,.bool false,.bool false]) (.bool true)=.ok (.int 1):=by rfl
theorem ix7:JDh (.list [.bool false,.bool false,.bool false,.bool false,.bool true,.bool false,.bool false]) (.bool true)=.ok (.int 4):=by rfl
section
variable{x:Bool}{sub:Nat→Nat→Bool}{m:Nat}
theorem word7{n:Nat}(s:SubOk sub 7):run x tabA gloA sub (n+1) 26 [excD 7]=.ok (.str "no text"):=by
 have w:idxD (.list [.str "no frac",.str "no kind",.str "no name",.str "no plan",.str "no text",.str "no time",.str "no track"]) (.int 4)=.ok (.str "no text"):=rfl;rw[JAC (n:=n) (show tabA 26=some d_26 from rfl),JAD rfl]
 dsimp![d_26,b_26,JNu s.me,JNf s.me,s.h1,s.h2,s.h3,s.h4,s.h5,s.h6,s.h7,Nat.reduceEqDiff,decide_true,decide_false,JBY,JDQ,JLv,JKs,JIq,JL0,JOG,JQR,JNY,JOj,JRE,JRV,JM0,JQu,us_bl,JMB,List.length_cons,List.length_nil,Nat.reduceAdd,Nat.reduceLeDiff,Nat.reduceBEq,Bool.or_false,Bool.not_true,cnt7,ix7,JAW,JBN,w]
theorem JLx{w:Int}{s:Str}{n:Nat}(S:SubOk sub 7)(hf:(decide (w=0)=true∧run true tabA gloA sub (n+1) 301 [.str s]=.exc 7)∨(decide (w=0)=false∧run true tabA gloA sub (n+1) 300 [.str s]=.exc 7)):run true tabA gloA sub (n+2) 308 [.int w,.str s]=.ok (.str "no text"):=by
 rw[JAC (n:=n+1) (show tabA 308=some JF2 from rfl),JAD rfl];have hw:=word7 (x:=true) (n:=n) S;have ht:=JMT (C:=⟨run true tabA gloA sub (n+1),gloA,sub⟩) (c:=0) (i:=4) (j:=2) (k:=7) (δ:=[.val (.int w),.val (.str s),.val .none,.val .none,.no]) (δ0:=[.no,.no,.no,.no,.no]) rfl (by decide) S.h0
 rcases hf with ⟨h1,h2⟩|⟨h1,h2⟩
 ·dsimp?! [JF2,JIZ,h1,h2]
  rw[ht]
  dsimp?! [JH0,hw]
 ·dsimp?! [JF2,JIZ,h1,h2]
  rw[ht]
  dsimp?! [JH0,hw]
theorem JGF{w:Int}{s:Str}{d:D}{n:Nat}(hf:(decide (w=0)=true∧run true tabA gloA sub (n+1) 301 [.str s]=.ok d)∨(decide (w=0)=false∧run true tabA gloA sub (n+1) 300 [.str s]=.ok d)):run true tabA gloA sub (n+2) 308 [.int w,.str s]=.ok d:=by
 rw[JAC (n:=n+1) (show tabA 308=some JF2 from rfl),JAD rfl];rcases hf with ⟨h1,h2⟩|⟨h1,h2⟩
 ·dsimp?! [JF2,JIZ,h1,h2,isNone]
 ·dsimp?! [JF2,JIZ,h1,h2,isNone]
theorem JQd{t:Str}(h:Asc t){a:Int}(ha:0≤a):Asc (Txt.slice t none (some a))∧(Txt.slice t none (some a)).length≤t.length:=by
 obtain⟨k,rfl⟩:=Int.eq_ofNat_of_zero_le ha;refine⟨h.to k,?_⟩;rw[len_list,len_list,JGq,List.length_take];omega
theorem JFm{t:Str}(h:Asc t){a:Int}(ha:0≤a):Asc (Txt.slice t (some a) none)∧(Txt.slice t (some a) none).length≤t.length:=by
 obtain⟨k,rfl⟩:=Int.eq_ofNat_of_zero_le ha;refine⟨h.from k,?_⟩;rw[len_list,len_list,JBM,List.length_drop];omega
theorem fm{c j:Int}(h:0<j):binD .Mod (.int c) (.int j)=.ok (.int (c.fmod j))∧0≤c.fmod j∧c.fmod j<j:=⟨JE1 (by omega),Int.fmod_nonneg_of_pos _ h,Int.fmod_lt_of_pos _ h⟩
theorem fd{c j:Int}(h:0<j)(hj:j.natAbs<2 ^ 20)(hc:0≤c):∃e,binD .FloorDiv (.int c) (.int j)=.ok (.int e)∧0≤e:=⟨c.fdiv j,JKJ (by omega) (L.of hj (by omega)),Int.fdiv_nonneg hc (by omega)⟩
theorem ix_sg{g:Str}(hg:Asc g)(hl:g.length≤1000){e:Int}(h0:0≤e)(h1:e<g.length):∃sg:Str,Asc sg∧sg.length=1∧idxD (.str g) (.int e)=.ok (.str sg):=by
 obtain⟨k,rfl⟩:=Int.eq_ofNat_of_zero_le h0;have hk:k<g.cps.toList.length:=by rw[←len_list];omega
 refine⟨⟨#[g.cps.toList[k]]⟩,λc hc=>?_,rfl,?_⟩
 ·simp at hc;subst hc;exact hg _ (by simp)
 ·have e1:g.cps.size≤1000:=hl;have e2:atI g.cps.toList (k:Int)=some g.cps.toList[k]:=by
   unfold atI ixN;rw[if_pos (by omega),if_pos (by omega)]
   simp[hk]
  simp only[idxD,if_pos e1,e2,Option.map_some,optR]
theorem q_sp{t g:Str}{c:Int}(ht:Asc t)(lt:t.length≤5000)(hg:Asc g)(lg:g.length≤1000)(g0:0<g.length)(hc:0≤c)(hm:1≤m):∃y:Str,Asc y∧y.length≤20000∧run x tabA gloA sub m 305 [.str t,.int c,.str g]=.ok (.str y):=by
 obtain⟨n,rfl⟩:=JAG hm;rw[JAC (n:=n) (show tabA 305=some JFY from rfl),JAD rfl];have lk1:bltD .len [.str t]=.ok (.int t.length):=JIk (by omega)
 have lk2:bltD .len [.str g]=.ok (.int g.length):=JIk (by omega)
 obtain⟨m1,a0,_⟩:=fm (c:=c) (j:=((t.length:Nat):Int)+1) (by omega)
 generalize hA:c.fmod (((t.length:Nat):Int)+1)=a at *;obtain⟨c1,d1,p1⟩:=fd (c:=c) (j:=1000) (by decide) (by decide) hc
 obtain⟨m2,e0,e1⟩:=fm (c:=c1) (j:=((g.length:Nat):Int)) (by omega)
 generalize c1.fmod ((g.length:Nat):Int)=e at *;obtain⟨sg,as,ls,ix⟩:=ix_sg hg lg e0 e1;obtain⟨c2,d2,p2⟩:=fd (c:=c) (j:=7) (by decide) (by decide) hc
 obtain⟨m3,o0,_⟩:=fm (c:=c2) (j:=9) (by decide)
 generalize c2.fmod 9=o at *;obtain⟨c3,d3,p3⟩:=fd (c:=c) (j:=100000) (by decide) (by decide) hc
 obtain⟨m4,w0,w1⟩:=fm (c:=c3) (j:=8) (by decide)
 generalize c3.fmod 8=w at *;obtain⟨m5,f0,f1⟩:=fm (c:=c) (j:=5) (by decide)
 generalize c.fmod 5=f at *;obtain⟨a1,a2⟩:=JQd ht a0;obtain⟨b1,b2⟩:=JFm ht a0;obtain⟨b3,b4⟩:=JFm ht (a:=a+1) (by omega)
 obtain⟨b5,b6⟩:=JFm ht (a:=a+1+o) (by omega)
 obtain⟨a5,a6⟩:=JQd ht (a:=a+1+o) (by omega)
 have x1:∀C,xE C .tct [.str t,.int a]=.ok (.str (Txt.slice t none (some a))):=λC=>JKm (by omega)
 have x2:∀C,xE C .tcf [.str t,.int a]=.ok (.str (Txt.slice t (some a) none)):=λC=>JGa (by omega)
 have x3:∀C,xE C .tcf [.str t,.int (a+1)]=.ok (.str (Txt.slice t (some (a+1)) none)):=λC=>JGa (by omega)
 have x4:∀C,xE C .tcf [.str t,.int (a+1+o)]=.ok (.str (Txt.slice t (some (a+1+o)) none)):=λC=>JGa (by omega)
 have x5:∀C,xE C .tct [.str t,.int (a+1+o)]=.ok (.str (Txt.slice t none (some (a+1+o)))):=λC=>JKm (by omega)
 generalize Txt.slice t none (some a)=TA at *;generalize Txt.slice t (some a) none=FA at *;generalize Txt.slice t (some (a+1)) none=FB at *;generalize Txt.slice t (some (a+1+o)) none=FC at *;generalize Txt.slice t none (some (a+1+o))=TC at *;have as1:=JAr (a:=TA) (b:=sg) (by omega)
 have l1:(TA++sg).length=TA.length+sg.length:=Str.length_append _ _;have as2:=JAr (a:=TA++sg) (b:=FA) (by omega)
 have as3:=JAr (a:=TA) (b:=FB) (by omega)
 have as4:=JAr (a:=TA++sg) (b:=FB) (by omega)
 have as5:=JAr (a:=TA) (b:=FC) (by omega)
 have as6:=JAr (a:=TC) (b:=FA) (by omega)
 have lsp:(" ":Str).length=1:=by decide +kernel
 have as7:=JAr (a:=t) (b:=" ") (by omega)
 have as8:=JAr (a:=" ") (b:=t) (by omega)
 have as9:=JAr (a:=FA) (b:=TA) (by omega)
 have as0:=JAr (a:=t) (b:=t) (by omega)
 have ascsp:Asc " ":=by rw[JFW];exact JCG
 have la:∀p q:Str,(p++q).length=p.length+q.length:=λp q=>Str.length_append _ _
 by_cases h1:w<2
 ·have k1:decide (w<2)=true:=decide_eq_true h1;refine⟨TA++sg++FA,(a1.app as).app b1,by rw[la,la];omega,?_⟩
  dsimp?! [JFY,JFs,lk1,lk2,m1,d1,m2,ix,d2,m3,d3,m4,k1,x1,x2,as1,as2]
 have k1:decide (w<2)=false:=decide_eq_false h1
 by_cases h2:w=2
 ·have k2:decide (w=2)=true:=decide_eq_true h2;refine⟨TA++FB,a1.app b3,by rw[la];omega,?_⟩
  dsimp?! [JFY,JFs,lk1,lk2,m1,d1,m2,ix,d2,m3,d3,m4,k1,k2,x1,x3,as3]
 have k2:decide (w=2)=false:=decide_eq_false h2
 by_cases h3:w<5
 ·have k3:decide (w<5)=true:=decide_eq_true h3;refine⟨TA++sg++FB,(a1.app as).app b3,by rw[la,la];omega,?_⟩
  dsimp?! [JFY,JFs,lk1,lk2,m1,d1,m2,ix,d2,m3,d3,m4,k1,k2,k3,x1,x3,as1,as4]
 have k3:decide (w<5)=false:=decide_eq_false h3
 by_cases h4:w=5
 ·have k4:decide (w=5)=true:=decide_eq_true h4;refine⟨TA++FC,a1.app b5,by rw[la];omega,?_⟩
  dsimp?! [JFY,JFs,lk1,lk2,m1,d1,m2,ix,d2,m3,d3,m4,k1,k2,k3,k4,x1,x4,as5]
 have k4:decide (w=5)=false:=decide_eq_false h4
 by_cases h5:w=6
 ·have k5:decide (w=6)=true:=decide_eq_true h5;refine⟨TC++FA,a5.app b1,by rw[la];omega,?_⟩
  dsimp?! [JFY,JFs,lk1,lk2,m1,d1,m2,ix,d2,m3,d3,m4,k1,k2,k3,k4,k5,x5,x2,as6]
 have k5:decide (w=6)=false:=decide_eq_false h5;obtain⟨y,hy1,hy2,hy3⟩:∃y:Str,Asc y∧y.length≤20000∧idxD (.list [.str (t++" "),.str (" "++t),.str (FA++TA),.str "",.str (t++t)]) (.int f)=.ok (.str y):=by
  have:f=0∨f=1∨f=2∨f=3∨f=4:=by omega
  rcases this with rfl|rfl|rfl|rfl|rfl
  ·exact⟨t++" ",ht.app ascsp,by rw[la];omega,rfl⟩
  ·exact⟨" "++t,ascsp.app ht,by rw[la];omega,rfl⟩
  ·exact⟨FA++TA,b1.app a1,by rw[la];omega,rfl⟩
  ·exact⟨"",by unfold Asc;decide +kernel,by rw[show("":Str).length=0 by decide +kernel];omega,rfl⟩
  ·exact⟨t++t,ht.app ht,by rw[la];omega,rfl⟩
 refine⟨y,hy1,hy2,?_⟩
 dsimp?! [JFY,JFs,lk1,lk2,m1,d1,m2,ix,d2,m3,d3,m4,m5,k1,k2,k3,k4,k5,x1,x2,as7,as8,as9,as0,hy3]
end
end VI.VP
end
section
namespace VI.VP
open PySem PySem.W PySem.NumText PyProof.Rows PySem.Builtin PySem.Builtin.Str
theorem JO2:Asc " 0123/-gobyheventhen":=by unfold Asc;decide +kernel
theorem JRW:Asc "0123/-4 ":=by unfold Asc;decide +kernel
theorem JK7:(" 0123/-gobyheventhen":Str).length=20:=by decide +kernel
theorem JLZ:("0123/-4 ":Str).length=8:=by decide +kernel
theorem JDm:Asc "no text":=by unfold Asc;decide +kernel
theorem sh_F(q:Rat):shaped (F q)=true:=rfl
theorem JOT:∀(p:Pl),p.dep≤5→shaped p.d=true:=by
 have key:∀p:Pl,PyData.canLay0 p.d=true∧p.d.depth≤p.dep+1:=by
  intro p
  induction p with
  |wait q=>exact⟨by kernel_rfl,by simp[Pl.d,F,PyData.depth,PyData.depthAll,Pl.dep]⟩
  |step o g q k =>
   constructor
   ·simp only[Pl.d,F,PyData.canLay0,PyData.canLayAll0,Bool.and_true,Bool.true_and];cases o<;>cases k<;>decide +kernel
   ·simp[Pl.d,F,PyData.depth,PyData.depthAll,Pl.dep]
  |thn a b iha ihb =>
   constructor
   ·simp only[Pl.d,PyData.canLay0,PyData.canLayAll0,iha.1,ihb.1,Bool.and_true];decide +kernel
   ·have h1:=iha.2;have h2:=ihb.2;simp only[Pl.d,PyData.depth,PyData.depthAll,Pl.dep];omega
  |agn c a ih =>
   constructor
   ·simp only[Pl.d,PyData.canLay0,PyData.canLayAll0,ih.1,Bool.and_true];decide +kernel
   ·have h1:=ih.2;simp only[Pl.d,PyData.depth,PyData.depthAll,Pl.dep];omega
 intro p hd;obtain⟨h1,h2⟩:=key p;simp only[shaped,h1,Bool.true_and];exact decide_eq_true (by omega)
theorem JGw(p:Pl)(hd:p.dep≤5):cmpD .NotEq p.d (.str "no text")=.ok (.bool true):=by
 simp only[cmpD,JOT p hd,JDA JDm,Bool.and_self,if_true];cases p<;>rfl
theorem ne_pl(p:Pl)(hd:p.dep≤5):cmpD .NotEq p.d p.d=.ok (.bool false):=by
 have key:∀p:Pl,PyData.eqv p.d p.d=true:=by
  intro p
  induction p with
  |wait q=>simp[Pl.d,F,PyData.eqv,PyData.eqvAll]
  |step o g q k=>simp[Pl.d,F,PyData.eqv,PyData.eqvAll]
  |thn a b iha ihb=>simp[Pl.d,PyData.eqv,PyData.eqvAll,iha,ihb]
  |agn c a ih=>simp[Pl.d,PyData.eqv,PyData.eqvAll,ih]
 have:=key p;simp only[cmpD,JOT p hd,Bool.and_self,if_true,this,Bool.not_true]
theorem ne_F(q:Rat):cmpD .NotEq (F q) (F q)=.ok (.bool false):=by
 have:PyData.eqv (F q) (F q)=true:=by simp[F,PyData.eqv,PyData.eqvAll]
 simp only[cmpD,sh_F,Bool.and_self,if_true,this,Bool.not_true]
theorem JIW:cmpD .NotEq (.str "no text") (.str "no text")=.ok (.bool false):=by rw[JEz JDm JDm,decide_eq_true rfl];rfl
theorem eq_nt:cmpD .Eq (.str "no text") (.str "no text")=.ok (.bool true):=by rw[JMr JDm JDm,decide_eq_true rfl]
theorem JLF:∀p:Pl,JAW p.d=true:=by
 intro p
 induction p with
 |wait q=>rfl
 |step o g q k=>rfl
 |thn a b iha ihb=>simp only[Pl.d,JAW,JBN,iha,ihb,Bool.and_self]
 |agn c a ih=>simp only[Pl.d,JAW,JBN,ih,Bool.and_self]
noncomputable def bd80:S:=(.cons (.asg 6 (.call 12 (.cons (.var 0) (.cons (.bin .Add (.bin .Add (.cint 10000) (.cint 2)) (.var 5)) (.cons (.cint 1000000000) .nil))))) (.cons (.asg 7 (.call 305 (.cons (.var 2) (.cons (.var 6) (.cons (.cstr " 0123/-gobyheventhen") .nil))))) (.cons (.asg 8 (.call 308 (.cons (.cint 0) (.cons (.var 7) .nil)))) (.cons (.ife (.and (.cmp .NotEq (.var 8) (.cstr "no text")) (.or (.isnB (.call 140 (.cons (.var 8) .nil)) true) (.cmp .NotEq (.call 307 (.cons (.var 8) .nil)) (.var 7)))) (.cons (.ret (.cbl false)) .nil) .nil) (.cons (.asg 7 (.call 305 (.cons (.var 4) (.cons (.var 6) (.cons (.cstr "0123/-4 ") .nil))))) (.cons (.asg 8 (.call 308 (.cons (.cint 1) (.cons (.var 7) .nil)))) (.cons (.ife (.and (.cmp .NotEq (.var 8) (.cstr "no text")) (.or (.isnB (.call 24 (.cons (.var 8) .nil)) true) (.cmp .NotEq (.call 306 (.cons (.var 8) .nil)) (.var 7)))) (.cons (.ret (.cbl false)) .nil) .nil) .nil)))))))
section
variable{x:Bool}{sub:Nat→Nat→Bool}{m:Nat}
theorem lrd0(S:SubOk sub 7){s:Str}{n:Nat}(ha:Asc s)(hs:s.length≤10000000):run true tabA gloA sub (n+32) 308 [.int 0,.str s]=.ok (.str "no text")∨∃p:Pl,p.Ok∧p.R9 isF∧p.dep≤5∧p.tx=s∧run true tabA gloA sub (n+32) 308 [.int 0,.str s]=.ok p.d:=by
 rcases JOE (sub:=sub) (m:=n+31) ha hs (by omega) with h|⟨p,h1,h2,h3,h4,h⟩
 ·exact .inl (JLx (n:=n+30) S (.inl ⟨by decide,h⟩))
 ·exact .inr ⟨p,h1,h2,h3,h4,JGF (n:=n+30) (.inl ⟨by decide,h⟩)⟩
theorem lrd1(S:SubOk sub 7){s:Str}{n:Nat}(ha:Asc s)(hs:s.length≤10000000):(JA0 isF s=none∧run true tabA gloA sub (n+32) 308 [.int 1,.str s]=.ok (.str "no text"))∨∃u d:Int,JA0 isF s=some (u,d)∧run true tabA gloA sub (n+32) 308 [.int 1,.str s]=.ok (.tuple [.int u,.int d]):=by
 have h:=q_rf (sub:=sub) (m:=n+31) ha hs (by omega)
 cases hf:JA0 isF s with
 |none=>rw[hf]at h;exact .inl ⟨rfl,JLx (n:=n+30) S (.inr ⟨by decide,h⟩)⟩
 |some o=>obtain⟨u,d⟩:=o;rw[hf]at h;exact .inr ⟨u,d,rfl,JGF (n:=n+30) (.inr ⟨by decide,h⟩)⟩
theorem JEr(u d:Int):cmpD .NotEq (.tuple [.int u,.int d]) (.str "no text")=.ok (.bool true):=by
 have h:shaped (.tuple [.int u,.int d])=true:=rfl;simp only[cmpD,h,JDA JDm,Bool.and_self,if_true];rfl
theorem JIg(S:SubOk sub 7)(ns:List Int){p:Pl}{q:Rat}{k:Int}{n:Nat}{pd:D}{y6 y7 y8:Sl}(hy:(y6=.no∧y7=.no∧y8=.no)∨∃a b c,y6=.val a∧y7=.val b∧y8=.val c)(hr:p.R9 isF)(hd:p.dep≤5)(hq:Rd9 isF q)(k0:0≤k)(k2:k≤2) :
  ∃z6 z7 z8,exec ⟨run true tabA gloA sub (n+32),gloA,sub⟩ bd80 [.val (sc ns),.val pd,.val (.str p.tx),.val (F q),.val (.str (qT q)),.val (.int k),y6,y7,y8,.no]=.nx [.val (sc ns),.val pd,.val (.str p.tx),.val (F q),.val (.str (qT q)),.val (.int k),.val z6,.val z7,.val z8,.no]:=by
 obtain⟨c,c0,_,hc⟩:=JDi (x:=true) (sub:=sub) (m:=n+32) ns (10000+2+k) 1000000000 (by omega) (by omega) (by omega) (by omega)
 obtain⟨s1,a1,l1,h1⟩:=q_sp (x:=true) (sub:=sub) (m:=n+32) (t:=p.tx) (g:=" 0123/-gobyheventhen") (c:=c) (JB1 p) (by have:=JBT hr hd;omega) JO2 (by rw[JK7];omega) (by rw[JK7];omega) c0 (by omega)
 obtain⟨s2,a2,l2,h2⟩:=q_sp (x:=true) (sub:=sub) (m:=n+32) (t:=qT q) (g:="0123/-4 ") (c:=c) (JBA _ _) (by have:=JBi hq;omega) JRW (by rw[JLZ];omega) (by rw[JLZ];omega) c0 (by omega)
 have fin:∀(d1:D) (b1:Bool),run true tabA gloA sub (n+32) 308 [.int 0,.str s1]=.ok d1→cmpD .NotEq d1 (.str "no text")=.ok (.bool b1)→(b1=true→run true tabA gloA sub (n+32) 140 [d1]=.ok (.bool true)∧run true tabA gloA sub (n+32) 307 [d1]=.ok (.str s1)) →
   ∀(d2:D) (b2:Bool),run true tabA gloA sub (n+32) 308 [.int 1,.str s2]=.ok d2→cmpD .NotEq d2 (.str "no text")=.ok (.bool b2)→(b2=true→run true tabA gloA sub (n+32) 24 [d2]=.ok (.bool true)∧run true tabA gloA sub (n+32) 306 [d2]=.ok (.str s2))→JAW d1=true→JAW d2=true →
   exec ⟨run true tabA gloA sub (n+32),gloA,sub⟩ bd80 [.val (sc ns),.val pd,.val (.str p.tx),.val (F q),.val (.str (qT q)),.val (.int k),y6,y7,y8,.no]=.nx [.val (sc ns),.val pd,.val (.str p.tx),.val (F q),.val (.str (qT q)),.val (.int k),.val (.int c),.val (.str s2),.val d2,.no]:=by
  intro d1 b1 r1 n1 w1 d2 b2 r2 n2 w2 nl1 nl2;have e1:=JEz a1 a1;have e2:=JEz a2 a2;rw[decide_eq_true rfl]at e1 e2;have tt:JKD true (.ok (.bool true))=.ok (.bool false):=rfl;generalize p.tx=pt at *;generalize qT q=qt at *;generalize F q=fq at *;cases b1<;>cases b2
  ·rcases hy with ⟨rfl,rfl,rfl⟩|⟨_,_,_,rfl,rfl,rfl⟩<;>dsimp?! [bd80,hc,h1,h2,r1,r2,n1,n2]
  ·obtain⟨v1,v2⟩:=w2 rfl;rcases hy with ⟨rfl,rfl,rfl⟩|⟨_,_,_,rfl,rfl,rfl⟩<;>dsimp?! [bd80,hc,h1,h2,r1,r2,n1,n2,v1,v2,e2,Bool.not_true,beq_self_eq_true]
  ·obtain⟨u1,u2⟩:=w1 rfl;rcases hy with ⟨rfl,rfl,rfl⟩|⟨_,_,_,rfl,rfl,rfl⟩<;>dsimp?! [bd80,hc,h1,h2,r1,r2,n1,n2,u1,u2,e1,Bool.not_true,beq_self_eq_true]
  ·obtain⟨u1,u2⟩:=w1 rfl;obtain⟨v1,v2⟩:=w2 rfl;rcases hy with ⟨rfl,rfl,rfl⟩|⟨_,_,_,rfl,rfl,rfl⟩<;>dsimp?! [bd80,hc,h1,h2,r1,r2,n1,n2,u1,u2,v1,v2,e1,e2,Bool.not_true,beq_self_eq_true]
 rcases lrd0 (n:=n) S a1 (by omega) with r1|⟨p1,o1,R1,D1,t1,r1⟩
 ·rcases lrd1 (n:=n) S a2 (by omega) with ⟨_,r2⟩|⟨u,d,hf,r2⟩
  ·exact⟨_,_,_,fin _ false r1 JIW (λz=>by cases z) _ false r2 JIW (λz=>by cases z) rfl rfl⟩
  ·obtain⟨g1,g2,g3,g4⟩:=JCW hf;exact⟨_,_,_,fin _ false r1 JIW (λz=>by cases z) _ true r2 (JEr u d) (λ_=>⟨by rw[JIs (by omega),g1],by rw[JNX g3 g4 (by omega),g2]⟩) rfl rfl⟩
 ·have w1:run true tabA gloA sub (n+32) 140 [p1.d]=.ok (.bool true):=by rw[JLV p1 o1 (by omega),decide_eq_true D1]
  have w2:run true tabA gloA sub (n+32) 307 [p1.d]=.ok (.str s1):=by rw[q_lt p1 R1 D1 (by omega),t1]
  have nl:JAW p1.d=true:=JLF p1;rcases lrd1 (n:=n) S a2 (by omega) with ⟨_,r2⟩|⟨u,d,hf,r2⟩
  ·exact⟨_,_,_,fin _ true r1 (JGw p1 D1) (λ_=>⟨w1,w2⟩) _ false r2 JIW (λz=>by cases z) nl rfl⟩
  ·obtain⟨g1,g2,g3,g4⟩:=JCW hf;exact⟨_,_,_,fin _ true r1 (JGw p1 D1) (λ_=>⟨w1,w2⟩) _ true r2 (JEr u d) (λ_=>⟨by rw[JIs (by omega),g1],by rw[JNX g3 g4 (by omega),g2]⟩) nl rfl⟩
theorem JOy{s:Str}{n:Nat}(S:SubOk sub 7)(ha:Asc s)(hs:s.length≤10000000)(h:∀p:Pl,p.Ok→p.R9 isF→p.dep≤5→p.tx=s→False):run true tabA gloA sub (n+32) 308 [.int 0,.str s]=.ok (.str "no text"):=by
 rcases lrd0 (n:=n) S ha hs with h1|⟨p,h1,h2,h3,h4,_⟩
 ·exact h1
 ·exact(h p h1 h2 h3 h4).elim
theorem JCR{s:Str}(h:∀d,takeD isF 5 (Txt.split s sp)≠some (d,[]))(p:Pl)(ok:p.Ok)(hr:p.R9 isF)(hd:p.dep≤5)(e:p.tx=s):False:=h p.d (by rw[←e];exact JFx p 5 hr hd)
theorem JDD{s:Str}(h:(takeD isF 5 (Txt.split s sp)).isNone=true)(d:D):takeD isF 5 (Txt.split s sp)≠some (d,[]):=λz=>by rw[z]at h;cases h
theorem JKH{p:Pl}{c:Int}(h:p.d=.tuple [.str "again",.int c,.tuple [.str "wait",.tuple [.int 1,.int 1]]]):∃k:Nat,c=k∧p=.agn k (.wait 1):=by
 cases p with
 |wait q=>simp[Pl.d]at h
 |step o g q k=>simp[Pl.d]at h
 |thn a b =>
  simp only[Pl.d,PyData.tuple.injEq,List.cons.injEq,PyData.str.injEq]at h;exact absurd h.1 (by decide +kernel)
 |agn k a =>
  simp only[Pl.d,PyData.tuple.injEq,List.cons.injEq,PyData.int.injEq,true_and,and_true]at h;refine⟨k,h.1.symm,?_⟩;have h2:=h.2;cases a with
  |wait q =>
   simp only[Pl.d,F,PyData.tuple.injEq,List.cons.injEq,PyData.int.injEq,true_and,and_true]at h2;have e:q=1:=Rat.ext h2.1 (by have:=h2.2;show q.den=1;omega)
   rw[e]
  |step o g q k=>simp[Pl.d]at h2
  |thn a b=>simp[Pl.d]at h2
  |agn k a=>simp[Pl.d]at h2
theorem odd8:∀s∈(["again 02 wait 1","again -0 wait 1","again 5 wait 1","go 0 1","go 0 1 even even","wait  1","then wait 1",""]:List Str),Asc s∧s.length≤10000000∧∀p:Pl,p.Ok→p.R9 isF→p.dep≤5→p.tx=s→False:=by
 have asc:∀s∈(["again 02 wait 1","again -0 wait 1","again 5 wait 1","go 0 1","go 0 1 even even","wait  1","then wait 1",""]:List Str),Asc s∧s.length≤10000000:=by
  unfold Asc;decide +kernel
 intro s hs;refine⟨(asc s hs).1,(asc s hs).2,?_⟩;simp only[List.mem_cons,List.not_mem_nil,or_false]at hs;have ag:∀(s:Str) (c:Int) (r:List Str),takeD isF 5 (Txt.split s sp)=some (.tuple [.str "again",.int c,.tuple [.str "wait",.tuple [.int 1,.int 1]]],r)→(∀k:Nat,c=k→k≤4→(Pl.agn k (.wait 1)).tx≠s)→∀p:Pl,p.Ok→p.R9 isF→p.dep≤5→p.tx=s→False:=by
  intro s c r h1 h2 p ok hr hd e;have h3:=JFx p 5 hr hd;rw[e,h1]at h3;simp only[Option.some.injEq,Prod.mk.injEq]at h3;obtain⟨k,rfl,rfl⟩:=JKH h3.1.symm;exact h2 k rfl ok.1 e
 rcases hs with rfl|rfl|rfl|rfl|rfl|rfl|rfl|rfl
 ·refine ag _ 2 _ JRJ λk hk _=>?_;obtain rfl:k=2:=by omega
  decide +kernel
 ·refine ag _ 0 _ JRA λk hk _=>?_;obtain rfl:k=0:=by omega
  decide +kernel
 ·exact ag _ 5 _ odd_5 λk hk h4=>by omega
 ·exact JCR (JDD (JDx _ (by simp[oddN])))
 ·exact JCR λd z=>by rw[JPV]at z;simp at z
 ·exact JCR (JDD (JDx _ (by simp[oddN])))
 ·exact JCR (JDD (JDx _ (by simp[oddN])))
 ·exact JCR (JDD (JDx _ (by simp[oddN])))
end
end VI.VP
end
section
set_option maxHeartbeats 1000000
namespace VI.VP
open PySem PySem.W PySem.NumText PyProof.Rows PySem.Builtin PySem.Builtin.Str
theorem ix12{i:Int}(h0:0≤i)(h1:i<12):∃y:Str,y∈oddF∧idxD (.list [.str "2/4",.str "1/1",.str "01",.str "-0",.str "1/0",.str "1/-2",.str "",.str "/",.str "1/",.str "/2",.str "+1",.str "1 "]) (.int i)=.ok (.str y):=by
 have:i=0∨i=1∨i=2∨i=3∨i=4∨i=5∨i=6∨i=7∨i=8∨i=9∨i=10∨i=11:=by omega
 rcases this with rfl|rfl|rfl|rfl|rfl|rfl|rfl|rfl|rfl|rfl|rfl|rfl<;>exact⟨_,by simp[oddF],rfl⟩
theorem ix8{i:Int}(h0:0≤i)(h1:i<8):∃y:Str,y∈(["again 02 wait 1","again -0 wait 1","again 5 wait 1","go 0 1","go 0 1 even even","wait  1","then wait 1",""]:List Str)∧idxD (.list [.str "again 02 wait 1",.str "again -0 wait 1",.str "again 5 wait 1",.str "go 0 1",.str "go 0 1 even even",.str "wait  1",.str "then wait 1",.str ""]) (.int i)=.ok (.str y):=by
 have:i=0∨i=1∨i=2∨i=3∨i=4∨i=5∨i=6∨i=7:=by omega
 rcases this with rfl|rfl|rfl|rfl|rfl|rfl|rfl|rfl<;>exact⟨_,by simp,rfl⟩
theorem JH5:∀y∈oddF,Asc y∧y.length≤10000000:=by unfold Asc oddF;decide +kernel
theorem asc_long:Asc longT∧longT.length≤10000000:=by unfold Asc;decide +kernel
theorem JJv:binD .Mult (.str "again 1 ") (.int 30)=.ok (.str (Txt.mul "again 1 " 30)):=by
 simp only[binD];rw[if_pos ⟨by decide,by decide,by decide +kernel⟩]
theorem JJX:binD .Add (.str (Txt.mul "again 1 " 30)) (.str "wait 1")=.ok (.str longT):=by
 rw[JAr (by decide +kernel),JMz]
theorem loop3{C:Cn}{b:S}{δ δ1 δ2 δ3:Env}(h1:exec C b (δ.set 5 (.val (.int 0)))=.nx δ1)(h2:exec C b (δ1.set 5 (.val (.int 1)))=.nx δ2)(h3:exec C b (δ2.set 5 (.val (.int 2)))=.nx δ3):for2 C 5 b [.int 0,.int 1,.int 2] δ=.nx δ3:=by
 rw[JEP,h1];show for2 C 5 b [.int 1,.int 2] δ1=_;rw[JEP,h2];show for2 C 5 b [.int 2] δ2=_;rw[JEP,h3];rfl
section
variable{sub:Nat→Nat→Bool}
theorem JJf{n:Nat}(S:SubOk sub 7)(ns:List Int):run true tabA gloA sub (n+33) 309 [.list (ns.map λi=>PyData.int i)]=.ok (.bool true):=by
 show run true tabA gloA sub (n+33) 309 [sc ns]=_;obtain⟨p,ok,sm,hd,hp⟩:=JEJ (x:=true) (sub:=sub) ns 4 (m:=n+32) 0 (by omega) (by omega) (by omega) (by decide) (by omega)
 have hp:run true tabA gloA sub (n+32) 157 [sc ns,.int 0,.int 4]=.ok p.d:=hp;obtain⟨q,sq,hq⟩:=JL2 (x:=true) (sub:=sub) (m:=n+32) ns 10000 (by omega) (by omega) (by omega)
 have hr:=JJp p ok sm;have hd5:p.dep≤5:=by omega
 have r9:=JG1 sq;have t1:run true tabA gloA sub (n+32) 307 [p.d]=.ok (.str p.tx):=q_lt p hr hd5 (by omega)
 have t2:run true tabA gloA sub (n+32) 306 [F q]=.ok (.str (qT q)):=JG3 r9 (by omega)
 have t3:run true tabA gloA sub (n+32) 296 [p.d]=.ok (.str p.tx):=q_wr p hr hd5 (by omega)
 have t4:run true tabA gloA sub (n+32) 308 [.int 0,.str p.tx]=.ok p.d:=JGF (n:=n+30) (.inl ⟨by decide,JNT ok hr hd5 (by omega)⟩)
 have t5:run true tabA gloA sub (n+32) 295 [F q]=.ok (.str (qT q)):=JJo r9 (by omega)
 have t6:run true tabA gloA sub (n+32) 308 [.int 1,.str (qT q)]=.ok (F q):=JGF (n:=n+30) (.inr ⟨by decide,by
  rw[q_rf (w:=qT q) (JBA _ _) (by have:=JBi r9;omega) (by omega),r9.ok];rfl⟩)
 have c1:=JEz (JB1 p) (JB1 p);have c2:=ne_pl p hd5;have c3:=JEz (JBA q.num q.den) (JBA q.num q.den);have c4:=ne_F q;rw[decide_eq_true rfl]at c1 c3;have c3:cmpD .NotEq (.str (qT q)) (.str (qT q))=.ok (.bool (!true)):=c3;obtain⟨z6,z7,z8,B1⟩:=JIg (n:=n) (pd:=p.d) (q:=q) (k:=0) S ns (.inl ⟨rfl,rfl,rfl⟩) hr hd5 r9 (by omega) (by omega)
 obtain⟨y6,y7,y8,B2⟩:=JIg (n:=n) (pd:=p.d) (q:=q) (k:=1) (y6:=.val z6) (y7:=.val z7) (y8:=.val z8) S ns (.inr ⟨_,_,_,rfl,rfl,rfl⟩) hr hd5 r9 (by omega) (by omega)
 obtain⟨x6,x7,x8,B3⟩:=JIg (n:=n) (pd:=p.d) (q:=q) (k:=2) (y6:=.val y6) (y7:=.val y7) (y8:=.val y8) S ns (.inr ⟨_,_,_,rfl,rfl,rfl⟩) hr hd5 r9 (by omega) (by omega)
 obtain⟨i,i0,i1,hi⟩:=JDi (x:=true) (sub:=sub) (m:=n+32) ns (10000+9) 12 (by omega) (by omega) (by omega) (by omega)
 obtain⟨o1,m1,hx1⟩:=ix12 i0 i1;obtain⟨j,j0,j1,hj⟩:=JDi (x:=true) (sub:=sub) (m:=n+32) ns (10000+10) 8 (by omega) (by omega) (by omega) (by omega)
 obtain⟨o2,m2,hx2⟩:=ix8 j0 j1;have u1:run true tabA gloA sub (n+32) 308 [.int 1,.str o1]=.ok (.str "no text"):=by
  rcases lrd1 (n:=n) S (JH5 o1 m1).1 (JH5 o1 m1).2 with ⟨_,h⟩|⟨u,d,h,_⟩
  ·exact h
  ·rw[JN0 o1 m1]at h;cases h
 obtain⟨v1,v2,v3⟩:=odd8 o2 m2;have u2:run true tabA gloA sub (n+32) 308 [.int 0,.str o2]=.ok (.str "no text"):=JOy (n:=n) S v1 v2 v3;have u3:run true tabA gloA sub (n+32) 308 [.int 0,.str longT]=.ok (.str "no text"):=JOy (n:=n) S asc_long.1 asc_long.2 (JCR (JDD JNq));rw[JAC (n:=n+32) (show tabA 309=some JKU from rfl),JAD rfl];have hn:=JIW;have nl:=JLF p;have nf:JAW (F q)=true:=rfl;have he:=eq_nt;have rg:rngD [.int 3]=.ok [.int 0,.int 1,.int 2]:=by rfl
 have LP:for2 ⟨run true tabA gloA sub (n+32),gloA,sub⟩ 5 bd80 [.int 0,.int 1,.int 2] [.val (sc ns),.val p.d,.val (.str p.tx),.val (F q),.val (.str (qT q)),.no,.no,.no,.no,.no]=.nx [.val (sc ns),.val p.d,.val (.str p.tx),.val (F q),.val (.str (qT q)),.val (.int 2),.val x6,.val x7,.val x8,.no]:=loop3 B1 B2 B3;clear B1 B2 B3;simp only[bd80]at LP;generalize p.d=pd at *;generalize p.tx=pt at *;generalize qT q=qt at *;generalize F q=fq at *
 dsimp?! [JKU,JHf,hp,t1,hq,t2,t3,t4,t5,t6,c1,c2,c3,c4,Bool.not_true,rg,↓LP,hi,hx1,u1,hn,hj,hx2,u2,JJv,JJX,u3,he,JBY,JDQ,JLv,JKs,JIq,JL0,JMB,List.length_cons,List.length_nil,Nat.reduceAdd,Nat.reduceLeDiff,Nat.reduceBEq,Bool.or_false,List.cons_append,List.nil_append,nl,nf,JIz,JJc,JHg,JIv]
end
end VI.VP
end
section
namespace VH
open PySem PySem.W
noncomputable def rP:Pos:=⟨0,0,0,0⟩
noncomputable def dName:Stmt→Str
 |.FunctionDef n _ _ _ _ _ _ _ _ _=>n
 |_=>"?"
noncomputable def dArgs:Stmt→Arguments
 |.FunctionDef _ a _ _ _ _ _ _ _ _=>a
 |_=>⟨[],[],none,[],[],none,[]⟩
noncomputable def JOK:Stmt→List Stmt
 |.FunctionDef _ _ b _ _ _ _ _ _ _=>b
 |_=>[]
noncomputable def JL8:Stmt→Scope
 |.FunctionDef _ _ _ _ _ _ s _ _ _=>s
 |_=>default
noncomputable def tO(xs:List Value):Obj:=⟨.type "tuple",none,.seq xs.toArray 0,#[]⟩
noncomputable def fO(xs:List Value):Obj:=⟨.none,none,.fields xs.toArray,#[]⟩
noncomputable def sqs:Nat→List Str→List Value
 |_,[]=>[]
 |t,x::r=>.str x t::sqs (t+1) r
noncomputable def f1(st:Stmt):Obj:=⟨.none,none,.func { name:=dName st,qualname:=dName st,params:=dArgs st,body:=.stmts (JOK st),scope:=JL8 st,globals:=0,closure:=[],defaults:=.none,kwdefaults:=.none },#[]⟩
noncomputable def f2(st:Stmt)(pm:Value)(cd:Addr):Obj:=⟨.type "function",none,.func { name:=dName st,qualname:=dName st,params:=dArgs st,body:=.stmts (JOK st),scope:=JL8 st,globals:=mainNs,closure:=[],defaults:=.none,kwdefaults:=.none,pyModule:=pm,code:=.ref cd },#[]⟩
noncomputable def cO(x:Str)(t l k loc a:Nat)(b:Bool)(u t2:Nat):Obj :=
 ⟨.type "code",none,.fields #[.str x t,.str x (t+1),.str "/claim/cut.py" (t+2),.int l 0,.int k 0,.int 0 0,.int 0 0,.int loc 0,.ref a,.bool b,.int 181 0,.ref (a+1),.none,.ref (a+2),.ref (a+3),.ref (a+4),.int t2 0,.int u 0,.str "/claim/cut.py" (t2+1)],#[]⟩
noncomputable def ent(P:Params)(x:Str)(t:Nat)(v:Value):DictEntry:=⟨PyData.keyHash P x,.str x t,v⟩
noncomputable def dO(es:List DictEntry)(n:Nat):Obj:=⟨.type "dict",none,.dict es.toArray n,#[]⟩
def alt:Bool→List Obj→List Obj
 |_,[]=>[]
 |true,o::r=>o::alt false r
 |false,_::r=>alt true r
def bt:Nat→List Obj→BT
 |0,_=>.nil
 |_,[]=>.nil
 |n+1,o::r=>.node o (bt n (alt true r)) (bt n (alt false r))
def put:Nat→Obj→List Obj→List Obj
 |_,_,[]=>[]
 |0,o,_::r=>o::r
 |n+1,o,x::r=>x::put n o r
noncomputable def sT(l:List Obj)(n k:Nat)(os:OsState):SharedT:=⟨bt 12 l,n,{},#[],{},k,os⟩
noncomputable def sH(l:List Obj)(k:Nat)(os:OsState):Shared:=⟨⟨l.toArray,{}⟩,#[],{},k,os⟩
noncomputable def envOf(p:Program):PySem.Env:={ scope:=p.main.scope,locals:=mainNs,globals:=mainNs,cells:=[],code:=.ref 13,frame:=some 14 }
noncomputable def cdOf(p:Program):Code:=.body (behindTheImports p) (envOf p)
end VH
end
section
set_option Elab.async false
set_option maxHeartbeats 0
namespace V80
open PySem PySem.W VH L2 VI VI.VP
noncomputable abbrev prog:Program:=PySem.Challenge.pw_glideways_k80_whole_texts
noncomputable def top(i:Nat):Stmt:=prog.main.body.getD i (.Pass ⟨0,0,0,0⟩)
noncomputable def mainE(P:Params):List DictEntry:=[ent P "__name__" 165 (.str "law_glideways_k80_whole_texts" 489),ent P "__doc__" 166 (.none),ent P "__package__" 167 (.none),ent P "__loader__" 168 (.builtin "__main__.__loader__#opaque"),ent P "__spec__" 169 (.none),ent P "__annotations__" 170 (.ref 6),ent P "__builtins__" 171 (.ref 4),ent P "__file__" 173 (.str "/claim/cut.py" 172),ent P "__cached__" 174 (.none),ent P "GlideError" 206 (.ref 24),ent P "NoFrac" 222 (.ref 37),ent P "NoKind" 238 (.ref 49),ent P "NoPlan" 254 (.ref 61),ent P "NoTrack" 270 (.ref 73),ent P "NoTime" 286 (.ref 85),ent P "NoName" 302 (.ref 97),ent P "NoText" 318 (.ref 109),ent P "is_whole" 327 (.ref 118),ent P "common_divisor" 338 (.ref 125),ent P "is_frac" 347 (.ref 132),ent P "is_size" 354 (.ref 139),ent P "KINDS" 363 (.ref 140),ent P "is_kind" 370 (.ref 147),ent P "DEEPEST" 374 (.int 5 373),ent P "MOST_AGAIN" 376 (.int 4 375),ent P "is_plan" 383 (.ref 154),ent P "is_plan_within" 392 (.ref 161),ent P "is_many" 399 (.ref 168),ent P "FIGURES" 403 (.str "0123456789" 402),ent P "MOST_FIGURES" 405 (.int 9 404),ent P "frac_text" 414 (.ref 175),ent P "written" 421 (.ref 182),ent P "parts_written" 428 (.ref 189),ent P "are_figures" 434 (.ref 194),ent P "read_whole" 442 (.ref 201),ent P "read_frac" 452 (.ref 208),ent P "read" 460 (.ref 215),ent P "take_word" 467 (.ref 222),ent P "take_plan" 478 (.ref 229),ent P "take_step" 488 (.ref 236),ent P "_law_cell" 498 (.ref 243),ent P "_law_pick" 508 (.ref 250),ent P "_law_divisor" 516 (.ref 257),ent P "_law_made" 525 (.ref 264),ent P "_law_frac" 534 (.ref 271),ent P "_law_size" 543 (.ref 278),ent P "_law_plus" 551 (.ref 285),ent P "_law_minus" 559 (.ref 292),ent P "_law_times" 567 (.ref 299),ent P "_law_over" 575 (.ref 306),ent P "_law_less" 583 (.ref 313),ent P "_law_kind" 591 (.ref 320),ent P "_law_eased" 601 (.ref 327),ent P "_law_plan" 614 (.ref 334),ent P "_law_steps" 623 (.ref 341),ent P "_law_spoilt" 636 (.ref 348),ent P "_law_word" 644 (.ref 355),ent P "_law_frac_text" 651 (.ref 362),ent P "_law_text" 659 (.ref 369),ent P "_law_read" 670 (.ref 376),ent P "law" 686 (.ref 383)]
noncomputable def mainN:Value:=.str "law_glideways_k80_whole_texts" 489
noncomputable def JDB(P:Params)(m k:Nat)(v:Value):Obj:=dO (ent P "__name__" 165 v::((mainE P).take m).drop 1) k
noncomputable def twelve:List Value:=[.int 2 0,.int 0 0,.ref 20,.int 4 0,.int 0 0,.ref 33,.int 6 0,.int 0 0,.ref 45,.int 8 0,.int 0 0,.ref 57,.int 10 0,.int 0 0,.ref 69,.int 12 0,.int 0 0,.ref 81,.int 14 0,.int 0 0,.ref 93,.int 16 0,.int 0 0,.ref 105,.int 19 0,.int 0 0,.ref 117,.int 21 0,.int 0 0,.ref 124,.int 29 0,.int 0 0,.ref 131,.int 37 0,.int 0 0,.ref 138,.int 41 0,.int 0 0,.ref 146,.int 46 0,.int 0 0,.ref 153,.int 48 0,.int 0 0,.ref 160,.int 61 0,.int 0 0,.ref 167,.int 66 0,.int 0 0,.ref 174,.int 70 0,.int 0 0,.ref 181,.int 72 0,.int 0 0,.ref 188,.int 80 0,.int 0 0,.ref 193,.int 82 0,.int 0 0,.ref 200,.int 87 0,.int 0 0,.ref 207,.int 94 0,.int 0 0,.ref 214,.int 99 0,.int 0 0,.ref 221,.int 103 0,.int 0 0,.ref 228,.int 114 0,.int 0 0,.ref 235,.int 121 0,.int 0 0,.ref 242,.int 127 0,.int 0 0,.ref 249,.int 130 0,.int 0 0,.ref 256,.int 134 0,.int 0 0,.ref 263,.int 137 0,.int 0 0,.ref 270,.int 140 0,.int 0 0,.ref 277,.int 143 0,.int 0 0,.ref 284,.int 145 0,.int 0 0,.ref 291,.int 147 0,.int 0 0,.ref 298,.int 149 0,.int 0 0,.ref 305,.int 151 0,.int 0 0,.ref 312,.int 153 0,.int 0 0,.ref 319,.int 155 0,.int 0 0,.ref 326,.int 170 0,.int 0 0,.ref 333,.int 182 0,.int 0 0,.ref 340,.int 191 0,.int 0 0,.ref 347,.int 207 0,.int 0 0,.ref 354,.int 213 0,.int 0 0,.ref 361,.int 217 0,.int 0 0,.ref 368,.int 226 0,.int 0 0,.ref 375,.int 236 0,.int 0 0,.ref 382]
noncomputable def gE(l:List Value):Obj:=⟨.type "type",none,.cls { name:="GlideError",bases:=[.type "ValueError"],mro:=[.ref 24,.type "ValueError",.type "Exception",.type "BaseException",.type "object"],ns:=23,qualname:="GlideError",hasDict:=true,slotNames:=[],subclasses:=l,abstract:=false,hasDel:=false },#[some (.ref 15),none,some (.str "GlideError" 189),some (.str "GlideError" 197),some (.builtin "ValueError.__new__"),some (.bool true)]⟩
noncomputable def clB(P:Params)(x:Str)(b t n:Nat):List Obj:=[tO [.ref 24],⟨.type "builtin_function_or_method",none,.fields #[.builtin "type.__prepare__",.type "type"],#[]⟩,dO [ent P "__module__" (t+7) (.str "glideways.errors" 187),ent P "__qualname__" (t+9) (.str x (t+8)),ent P "__firstlineno__" (t+11) (.int n (t+10)),ent P "__static_attributes__" (t+12) (.ref (b+7))] 4,tO [],fO [],⟨.type "code",none,.fields #[.str x (t+2),.str x (t+3),.str "/claim/cut.py" (t+4),.int n 0,.int 0 0,.int 0 0,.int 0 0,.int 0 0,.ref (b+3),.bool false,.int 181 0,.ref (b+4),.none,.none,.none,.none,.int (t+5) 0,.int n 0,.str "/claim/cut.py" (t+6)],#[]⟩,⟨.type "frame",none,.plain,#[some (.ref (b+5)),some (.ref 3),some (.ref (b+2)),none,some (.str "glideways.errors" 187),none,some (.ref 0)]⟩,tO [],dO [ent P "__module__" (t+7) (.str "glideways.errors" 187),ent P "__firstlineno__" (t+11) (.int n (t+10)),ent P "__static_attributes__" (t+12) (.ref (b+7)),ent P "__doc__" (t+13) (.none)] 2,⟨.type "type",none,.cls { name:=x,bases:=[.ref 24],mro:=[.ref (b+9),.ref 24,.type "ValueError",.type "Exception",.type "BaseException",.type "object"],ns:=b+8,qualname:=x,hasDict:=true,slotNames:=[],subclasses:=[],abstract:=false,hasDel:=false },#[some (.ref b),none,some (.str x t),some (.str x (t+8)),some (.builtin "ValueError.__new__"),some (.bool true)]⟩,⟨.type "super",none,.fields #[.ref (b+9),.ref (b+9),.ref (b+9)],#[]⟩,⟨.type "builtin_function_or_method",none,.fields #[.builtin "object.__init_subclass__",.ref (b+9)],#[]⟩]
noncomputable def pv0:Value:=.str "glideways.fracs" 319
noncomputable def pv1:Value:=.str "glideways.kinds" 355
noncomputable def pv2:Value:=.str "glideways.plans" 371
noncomputable def pv3:Value:=.str "glideways.texts" 400
noncomputable def pv4:Value:=.str "law_glideways_k80_whole_texts" 489
noncomputable def dB(i t:Nat)(xs:List Str)(c:Obj)(pm:Value)(a:Addr):List Obj:=[tO [],fO [],tO (sqs t xs),tO [],f1 (top i),c,f2 (top i) pm a]
noncomputable def ob(P:Params):List Obj:=[boot_o_0 P,boot_o_1 P,boot_o_2 P,JDB P 61 61 mainN,boot_o_4 P,boot_o_5 P,boot_o_6 P,boot_o_7 P,boot_o_8 P,boot_o_9 P,boot_o_10 P,tO [],fO twelve,⟨.type "code",none,.fields #[.str "<module>" 182,.str "<module>" 183,.str "/claim/cut.py" 184,.int 1 0,.int 0 0,.int 0 0,.int 0 0,.int 0 0,.ref 11,.bool false,.int 181 0,.ref 12,.none,.none,.none,.none,.int 185 0,.int 1 0,.str "/claim/cut.py" 186],#[]⟩,⟨.type "frame",none,.plain,#[some (.ref 13),some (.ref 3),some (.ref 3),none,some (.str "__main__" 164),none,some (.ref 0)]⟩,tO [.type "ValueError"],⟨.type "builtin_function_or_method",none,.fields #[.builtin "type.__prepare__",.type "type"],#[]⟩,dO [ent P "__module__" 196 (.str "glideways.errors" 187),ent P "__qualname__" 198 (.str "GlideError" 197),ent P "__firstlineno__" 200 (.int 2 199),ent P "__static_attributes__" 201 (.ref 22)] 4,tO [],fO [],⟨.type "code",none,.fields #[.str "GlideError" 191,.str "GlideError" 192,.str "/claim/cut.py" 193,.int 2 0,.int 0 0,.int 0 0,.int 0 0,.int 0 0,.ref 18,.bool false,.int 181 0,.ref 19,.none,.none,.none,.none,.int 194 0,.int 2 0,.str "/claim/cut.py" 195],#[]⟩,⟨.type "frame",none,.plain,#[some (.ref 20),some (.ref 3),some (.ref 17),none,some (.str "glideways.errors" 187),none,some (.ref 0)]⟩,tO [],dO [ent P "__module__" 196 (.str "glideways.errors" 187),ent P "__firstlineno__" 200 (.int 2 199),ent P "__static_attributes__" 201 (.ref 22),ent P "__weakref__" 203 (.ref 25),ent P "__doc__" 204 (.none)] 3,gE [.ref 37,.ref 49,.ref 61,.ref 73,.ref 85,.ref 97,.ref 109],⟨.type "getset_descriptor",none,.fields #[.str "__weakref__" 202,.ref 24,.builtin "ExceptionGroup.__weakref__",.none],#[]⟩,⟨.type "super",none,.fields #[.ref 24,.ref 24,.ref 24],#[]⟩,⟨.type "builtin_function_or_method",none,.fields #[.builtin "object.__init_subclass__",.ref 24],#[]⟩]++((clB P "NoFrac" 28 207 4)++((clB P "NoKind" 40 223 6)++((clB P "NoPlan" 52 239 8)++((clB P "NoTrack" 64 255 10)++((clB P "NoTime" 76 271 12)++((clB P "NoName" 88 287 14)++((clB P "NoText" 100 303 16)++((dB 10 324 ["thing"] (cO "is_whole" 321 19 1 3 112 true 19 325) pv0 117)++((dB 11 331 ["one","other","found","rest","left"] (cO "common_divisor" 328 21 2 3 119 true 21 336) pv0 124)++((dB 12 342 ["thing","up","down"] (cO "is_frac" 339 29 1 3 126 true 29 345) pv0 131)++((dB 13 351 ["thing"] (cO "is_size" 348 37 1 3 133 true 37 352) pv0 138)++([tO (sqs 357 ["even","in","out","both","hold","jump"])]++((dB 16 367 ["thing"] (cO "is_kind" 364 41 1 3 141 true 41 368) pv1 146)++((dB 20 380 ["thing"] (cO "is_plan" 377 46 1 3 148 true 46 381) pv2 153)++((dB 21 387 ["thing","deep","word"] (cO "is_plan_within" 384 48 2 3 155 true 48 390) pv2 160)++((dB 22 396 ["thing"] (cO "is_many" 393 61 1 3 162 true 61 397) pv2 167)++((dB 26 409 ["one","up","down"] (cO "frac_text" 406 66 1 3 169 true 66 412) pv3 174)++((dB 27 418 ["plan"] (cO "written" 415 70 1 3 176 true 70 419) pv3 181)++((dB 28 425 ["plan"] (cO "parts_written" 422 72 1 3 183 true 72 426) pv3 188)++([tO [],fO [],f1 (top 29),⟨.type "code",none,.fields #[.str "are_figures" 429,.str "are_figures" 430,.str "/claim/cut.py" 431,.int 80 0,.int 1 0,.int 0 0,.int 0 0,.int 3 0,.ref 190,.bool true,.int 181 0,.ref 191,.none,.none,.none,.ref 192,.int 432 0,.int 80 0,.str "/claim/cut.py" 433],#[]⟩,f2 (top 29) (.str "glideways.texts" 400) 193]++((dB 30 438 ["text","figures"] (cO "read_whole" 435 82 1 3 195 true 82 440) pv3 200)++((dB 31 446 ["text","parts","up","down"] (cO "read_frac" 443 87 1 3 202 true 87 450) pv3 207)++((dB 32 456 ["text","plan"] (cO "read" 453 94 1 3 209 true 94 458) pv3 214)++((dB 33 464 ["words"] (cO "take_word" 461 99 1 3 216 true 99 465) pv3 221)++((dB 34 471 ["words","deep","word","one","many"] (cO "take_plan" 468 103 2 3 223 true 103 476) pv3 228)++((dB 35 482 ["word","words","worth","size"] (cO "take_step" 479 114 2 3 230 true 114 486) pv3 235)++((dB 37 494 ["_law_script","_law_k"] (cO "_law_cell" 491 121 2 3 237 true 121 496) pv4 242)++((dB 38 502 ["_law_script","_law_k","_law_many","_law_drawn"] (cO "_law_pick" 499 127 3 3 244 true 127 506) pv4 249)++((dB 39 512 ["_law_one","_law_other"] (cO "_law_divisor" 509 130 2 3 251 true 130 514) pv4 256)++((dB 40 520 ["_law_up","_law_down","_law_size_here"] (cO "_law_made" 517 134 2 3 258 true 134 523) pv4 263)++((dB 41 529 ["_law_script","_law_at","_law_down"] (cO "_law_frac" 526 137 2 3 265 true 137 532) pv4 270)++((dB 42 538 ["_law_script","_law_at","_law_down"] (cO "_law_size" 535 140 2 3 272 true 140 541) pv4 277)++((dB 43 547 ["_law_one","_law_other"] (cO "_law_plus" 544 143 2 3 279 true 143 549) pv4 284)++((dB 44 555 ["_law_one","_law_other"] (cO "_law_minus" 552 145 2 3 286 true 145 557) pv4 291)++((dB 45 563 ["_law_one","_law_other"] (cO "_law_times" 560 147 2 3 293 true 147 565) pv4 298)++((dB 46 571 ["_law_one","_law_other"] (cO "_law_over" 568 149 2 3 300 true 149 573) pv4 305)++((dB 47 579 ["_law_one","_law_other"] (cO "_law_less" 576 151 2 3 307 true 151 581) pv4 312)++((dB 48 587 ["_law_script","_law_at"] (cO "_law_kind" 584 153 2 3 314 true 153 589) pv4 319)++((dB 49 595 ["_law_kind_here","_law_part","_law_up","_law_down"] (cO "_law_eased" 592 155 2 3 321 true 155 599) pv4 326)++((dB 50 605 ["_law_script","_law_at","_law_deep","_law_way","_law_step","_law_word_here","_law_one"] (cO "_law_plan" 602 170 3 3 328 true 170 612) pv4 333)++((dB 51 618 ["_law_plan_here","_law_made_here","_law_again"] (cO "_law_steps" 615 182 1 3 335 true 182 621) pv4 340)++((dB 52 627 ["_law_text_here","_law_cell_here","_law_signs","_law_at","_law_sign","_law_on","_law_way"] (cO "_law_spoilt" 624 191 3 3 342 true 191 634) pv4 347)++((dB 53 640 ["_law_kept","_law_kinds"] (cO "_law_word" 637 207 1 3 349 true 207 642) pv4 354)++((dB 54 648 ["_law_one"] (cO "_law_frac_text" 645 213 1 3 356 true 213 649) pv4 361)++((dB 55 655 ["_law_plan_here","_law_parts"] (cO "_law_text" 652 217 1 3 363 true 217 657) pv4 368)++((dB 56 663 ["_law_what","_law_text_here","_law_kept","_law_answer","e"] (cO "_law_read" 660 226 2 3 370 true 226 668) pv4 375)++((dB 57 674 ["_law_script","_law_plan_here","_law_text_here","_law_one","_law_small","_law_k","_law_cell_here","_law_spoilt_here","_law_told","_law_odd"] (cO "law" 671 236 1 3 377 true 236 684) pv4 382))))))))))))))))))))))))))))))))))))))))))))))))
noncomputable def l0(P:Params):List Obj:=put 12 (fO (twelve.take 0)) (put 3 (JDB P 9 9 (.str "__main__" 164)) ((ob P).take 15))
noncomputable def l1(P:Params):List Obj:=put 24 (gE [.ref 37]) (put 12 (fO (twelve.take 6)) (put 3 (JDB P 11 11 (.str "glideways.errors" 187)) ((ob P).take 40)))
abbrev PR(a b:Nat)(l:Params→List Obj)(n k d t:Nat)(c:Pos)(l2:Params→List Obj)(n2 k2:Nat)(c2:Pos):Prop:=∀(w:World) (os:OsState),segRunT treeTable prog w 11 (some (.ref 6)) a b (sT (l w.params) n k os) (piecesOf ((prog.main.body.drop d).take t) (envOf prog) (cdOf prog) c [topFrame rP])=some (.next,sT (l2 w.params) n2 k2 os,cdOf prog,c2)
theorem p0:PR 1 409 l0 15 187 0 3 ⟨0,0,0,0⟩ l1 40 223 ⟨4,0,5,8⟩:=λw os=>by kernel_rfl
noncomputable def l2(P:Params):List Obj:=put 24 (gE [.ref 37,.ref 49]) (put 12 (fO (twelve.take 9)) (put 3 (JDB P 12 12 (.str "glideways.errors" 187)) ((ob P).take 52)))
theorem p1:PR 1 214 l1 40 223 3 1 ⟨4,0,5,8⟩ l2 52 239 ⟨6,0,7,8⟩:=λw os=>by kernel_rfl
noncomputable def l3(P:Params):List Obj:=put 24 (gE [.ref 37,.ref 49,.ref 61]) (put 12 (fO (twelve.take 12)) (put 3 (JDB P 13 13 (.str "glideways.errors" 187)) ((ob P).take 64)))
theorem p2:PR 1 214 l2 52 239 4 1 ⟨6,0,7,8⟩ l3 64 255 ⟨8,0,9,8⟩:=λw os=>by kernel_rfl
noncomputable def l4(P:Params):List Obj:=put 24 (gE [.ref 37,.ref 49,.ref 61,.ref 73]) (put 12 (fO (twelve.take 15)) (put 3 (JDB P 14 14 (.str "glideways.errors" 187)) ((ob P).take 76)))
theorem p3:PR 1 214 l3 64 255 5 1 ⟨8,0,9,8⟩ l4 76 271 ⟨10,0,11,8⟩:=λw os=>by kernel_rfl
noncomputable def l5(P:Params):List Obj:=put 24 (gE [.ref 37,.ref 49,.ref 61,.ref 73,.ref 85]) (put 12 (fO (twelve.take 18)) (put 3 (JDB P 15 15 (.str "glideways.errors" 187)) ((ob P).take 88)))
theorem p4:PR 1 214 l4 76 271 6 1 ⟨10,0,11,8⟩ l5 88 287 ⟨12,0,13,8⟩:=λw os=>by kernel_rfl
noncomputable def l6(P:Params):List Obj:=put 24 (gE [.ref 37,.ref 49,.ref 61,.ref 73,.ref 85,.ref 97]) (put 12 (fO (twelve.take 21)) (put 3 (JDB P 16 16 (.str "glideways.errors" 187)) ((ob P).take 100)))
theorem p5:PR 1 214 l5 88 287 7 1 ⟨12,0,13,8⟩ l6 100 303 ⟨14,0,15,8⟩:=λw os=>by kernel_rfl
noncomputable def l7(P:Params):List Obj:=put 12 (fO (twelve.take 39)) (put 3 (JDB P 24 24 (.str "glideways.plans" 371)) ((ob P).take 148))
theorem p6:PR 1 417 l6 100 303 8 11 ⟨14,0,15,8⟩ l7 148 375 ⟨44,0,44,7⟩:=λw os=>by kernel_rfl
noncomputable def l8(P:Params):List Obj:=put 12 (fO (twelve.take 75)) (put 3 (JDB P 39 39 (.str "glideways.texts" 400)) ((ob P).take 230))
theorem p7:PR 1 395 l7 148 375 19 16 ⟨44,0,44,7⟩ l8 230 479 ⟨103,0,113,33⟩:=λw os=>by kernel_rfl
noncomputable def l9(P:Params):List Obj:=put 12 (fO (twelve.take 114)) (put 3 (JDB P 52 52 (.str "law_glideways_k80_whole_texts" 489)) ((ob P).take 321))
theorem p8:PR 1 407 l8 230 479 35 14 ⟨103,0,113,33⟩ l9 321 592 ⟨153,0,154,92⟩:=λw os=>by kernel_rfl
noncomputable def l10(P:Params):List Obj:=ob P
theorem p9:PR 1 294 l9 321 592 49 9 ⟨153,0,154,92⟩ l10 384 687 ⟨236,0,260,64⟩:=λw os=>by kernel_rfl
theorem pre(w:World)(os:OsState):topGo treeTable prog w 11 (some (.ref 6)) 12 ⟨boot_heap w.params,Array.mk [],boot_drawn,boot_toks,os⟩ (topStub prog)=some (sH (l0 w.params) 187 os,⟨denote treeTable (cdOf prog),cdOf prog,⟨0,0,0,0⟩,[topFrame rP]⟩):=by kernel_rfl
theorem blk(w:World)(os:OsState):segRun treeTable prog w 11 (some (.ref 6)) 1 1 (sH (l0 w.params) 187 os) (blockOf (behindTheImports prog) (envOf prog) (cdOf prog) ⟨0,0,0,0⟩ [topFrame rP])=some (.next,(sT (l0 w.params) 15 187 os).abs,cdOf prog,⟨0,0,0,0⟩):=by kernel_rfl
theorem fin(w:World)(os:OsState):topRun treeTable prog w 11 (some (.ref 6)) 2 (sT (l10 w.params) 384 687 os).abs ⟨doneF .next,cdOf prog,⟨236,0,260,64⟩,[topFrame rP]⟩=some (sH (l10 w.params) 687 os):=by kernel_rfl
theorem body:behindTheImports prog=(((prog.main.body.drop 0).take 3)++(((prog.main.body.drop 3).take 1)++(((prog.main.body.drop 4).take 1)++(((prog.main.body.drop 5).take 1)++(((prog.main.body.drop 6).take 1)++(((prog.main.body.drop 7).take 1)++(((prog.main.body.drop 8).take 11)++(((prog.main.body.drop 19).take 16)++(((prog.main.body.drop 35).take 14)++(((prog.main.body.drop 49).take 9)++[])))))))))):=by kernel_rfl
theorem rn(w:World)(os:OsState):topRun treeTable prog w 11 (some (.ref 6)) (12+(1+(409+(214+(214+(214+(214+(214+(417+(395+(407+(294+2)))))))))))) ⟨boot_heap w.params,Array.mk [],boot_drawn,boot_toks,os⟩ (topStub prog)=some (sH (l10 w.params) 687 os) :=
 go_top (pre w os) (piece_block (blk w os) (body▸(piece_app (segRun_of (p0 w os)) (piece_app (segRun_of (p1 w os)) (piece_app (segRun_of (p2 w os)) (piece_app (segRun_of (p3 w os)) (piece_app (segRun_of (p4 w os)) (piece_app (segRun_of (p5 w os)) (piece_app (segRun_of (p6 w os)) (piece_app (segRun_of (p7 w os)) (piece_app (segRun_of (p8 w os)) (piece_app (segRun_of (p9 w os)) (piece_nil (fin w os))))))))))))))
noncomputable def ktok:Nat:=687
noncomputable def view:Program:={ prog with main:={ prog.main with body:=[top 57] } }
noncomputable def loose:List Str:=(["GlideError","NoFrac","NoKind","NoPlan","NoTrack","NoTime","NoName","NoText","is_whole","common_divisor","is_frac","is_size","KINDS","is_kind","DEEPEST","MOST_AGAIN","is_plan","is_plan_within","is_many","FIGURES","MOST_FIGURES","frac_text","written","parts_written","are_figures","read_whole","read_frac","read","take_word","take_plan","take_step","_law_cell","_law_pick","_law_divisor","_law_made","_law_frac","_law_size","_law_plus","_law_minus","_law_times","_law_over","_law_less","_law_kind","_law_eased","_law_plan","_law_steps","_law_spoilt","_law_word","_law_frac_text","_law_text","_law_read"]:List String).map Str.ofString
noncomputable def K(P:Params):Frag:=(List.range 384).zip (ob P)
noncomputable def hk:Hook:=kHook K (List.range 384) (λ_=>by kernel_rfl)
theorem left:LeftO prog view loose (λs=>xlAt view [] s&&recOk (RowW.records PySem.Challenge.rw_glideways_k80_whole_texts.row.toRowW) s) hk.obs hk.val 6690 true :=
 LeftO.of_pieces (H₀:=boot_heap) (H₁:=λP=>⟨(l10 P).toArray,{}⟩) (gs₀:=Array.mk []) (gs₁:=#[]) (d₀:=boot_drawn) (d₁:={}) (k₀:=boot_toks) (k₁:=ktok) (m₀:=11) (ann:=some (.ref 6))
  (boot_open (by kernel_rfl) (by decide) (λs=>by kernel_rfl)) (λw=>by kernel_rfl) (λw os=>rn w os) (by decide +kernel) (λw=>by kernel_rfl)
noncomputable def G:List (Str×GK):=[(("is_whole":Str),GK.fn 23),(("common_divisor":Str),GK.fn 0),(("is_frac":Str),GK.fn 24),(("is_size":Str),GK.fn 68),(("is_kind":Str),GK.fn 29),(("is_plan":Str),GK.fn 140),(("is_plan_within":Str),GK.fn 141),(("is_many":Str),GK.fn 142),(("frac_text":Str),GK.fn 295),(("written":Str),GK.fn 296),(("parts_written":Str),GK.fn 297),(("are_figures":Str),GK.fn 298),(("read_whole":Str),GK.fn 299),(("read_frac":Str),GK.fn 300),(("read":Str),GK.fn 301),(("_law_cell":Str),GK.fn 11),(("_law_pick":Str),GK.fn 12),(("_law_divisor":Str),GK.fn 13),(("_law_made":Str),GK.fn 14),(("_law_frac":Str),GK.fn 15),(("_law_size":Str),GK.fn 16),(("_law_kind":Str),GK.fn 35),(("_law_plan":Str),GK.fn 157),(("_law_spoilt":Str),GK.fn 305),(("_law_word":Str),GK.fn 26),(("_law_frac_text":Str),GK.fn 306),(("_law_text":Str),GK.fn 307),(("_law_read":Str),GK.fn 308),(("law":Str),GK.fn 309),(("KINDS":Str),GK.con 41),(("DEEPEST":Str),GK.con 151),(("MOST_AGAIN":Str),GK.con 152),(("FIGURES":Str),GK.con 310),(("MOST_FIGURES":Str),GK.con 311),(("GlideError":Str),GK.cls 0),(("NoFrac":Str),GK.cls 1),(("NoKind":Str),GK.cls 2),(("NoPlan":Str),GK.cls 3),(("NoTrack":Str),GK.cls 4),(("NoTime":Str),GK.cls 5),(("NoName":Str),GK.cls 6),(("NoText":Str),GK.cls 7),(("len":Str),GK.blt Blt.len),(("abs":Str),GK.blt Blt.abs),(("all":Str),GK.blt Blt.all),(("range":Str),GK.rng),(("isinstance":Str),GK.isi),(("int":Str),GK.ty Ty.int),(("bool":Str),GK.ty Ty.bool),(("str":Str),GK.ty Ty.str),(("tuple":Str),GK.ty Ty.tuple),(("ValueError":Str),GK.ty Ty.valueError),((".ext":Str),GK.opt),((".met":Str),GK.opt),((".txt":Str),GK.opt),(("take_plan":Str),GK.opt),((".try":Str),GK.opt)]
instance:Cool G:=⟨by kernel_rfl⟩
noncomputable abbrev tab:Nat→Option Fd:=tabA
noncomputable abbrev glo:Nat→R D:=gloA
theorem JEq:∀i c,glo i≠.exc c:=by
 intro i c h;unfold glo gloA at h
 split at h<;>cases h
noncomputable def rs:List (Nat×List Nat):=[(7,[0,7])]
noncomputable def cl(k:Nat):Addr:=match k with|0=>24|1=>37|2=>49|3=>61|4=>73|5=>85|6=>97|7=>109|_=>0
noncomputable def pm0:Value:=.str "glideways.fracs" 319
noncomputable def pm1:Value:=.str "glideways.kinds" 355
noncomputable def pm2:Value:=.str "glideways.plans" 371
noncomputable def pm3:Value:=.str "glideways.texts" 400
noncomputable def pm4:Value:=.str "law_glideways_k80_whole_texts" 489
theorem JRL:Turned G (top 57) ["_law_script","_law_plan_here","_law_text_here","_law_one","_law_small","_law_k","_law_cell_here","_law_spoilt_here","_law_told","_law_odd"] ["_law_script"] JKU:=tuI
theorem JHf:JFL "law" (top 57) ["_law_script"]:=bOk λ_ _ _ _ _ _ _=>rfl
theorem JRM(P:Params):FnIn (K P) "law" (top 57):=fnI 383 382 (.str "law_glideways_k80_whole_texts" 489)
theorem JML{w:World}{h:Heap}{mg:Str→Option Value}(X:(K w.params).In h)(Gm:h.Ns mainGlobals mg):∀d,glo 41=.ok d→∃u v,mg "KINDS"=some u∧RelV v u∧∀H,Den ⟨K w.params,cl,w⟩ H d v:=JDG X Gm (by kernel_rfl) rfl
theorem JIf{w:World}{h:Heap}{mg:Str→Option Value}(X:(K w.params).In h)(Gm:h.Ns mainGlobals mg):∀d,glo 151=.ok d→∃u v,mg "DEEPEST"=some u∧RelV v u∧∀H,Den ⟨K w.params,cl,w⟩ H d v:=JDG X Gm (by kernel_rfl) rfl
theorem JFT{w:World}{h:Heap}{mg:Str→Option Value}(X:(K w.params).In h)(Gm:h.Ns mainGlobals mg):∀d,glo 152=.ok d→∃u v,mg "MOST_AGAIN"=some u∧RelV v u∧∀H,Den ⟨K w.params,cl,w⟩ H d v:=JDG X Gm (by kernel_rfl) rfl
theorem JI9{w:World}{h:Heap}{mg:Str→Option Value}(X:(K w.params).In h)(Gm:h.Ns mainGlobals mg):∀d,glo 310=.ok d→∃u v,mg "FIGURES"=some u∧RelV v u∧∀H,Den ⟨K w.params,cl,w⟩ H d v:=JDG X Gm (by kernel_rfl) rfl
theorem JDU{w:World}{h:Heap}{mg:Str→Option Value}(X:(K w.params).In h)(Gm:h.Ns mainGlobals mg):∀d,glo 311=.ok d→∃u v,mg "MOST_FIGURES"=some u∧RelV v u∧∀H,Den ⟨K w.params,cl,w⟩ H d v:=JDG X Gm (by kernel_rfl) rfl
theorem mo(w:World){h:Heap}{mg:Str→Option Value}(X:(K w.params).In h)(Gm:h.Ns mainGlobals mg):AllP (MoP mg ⟨K w.params,cl,w⟩ G tab glo) G :=
 ⟨⟨_,rfl,dI X Gm 118 117 pm0 (top 10) ["thing"] ["thing"] λ_ _ _ _ _ _ _=>rfl⟩,⟨_,rfl,dI X Gm 125 124 pm0 (top 11) ["one","other","found","rest","left"] ["one","other"] λ_ _ _ _ _ _ _ _=>rfl⟩,⟨_,rfl,dI X Gm 132 131 pm0 (top 12) ["thing","up","down"] ["thing"] λ_ _ _ _ _ _ _=>rfl⟩,⟨_,rfl,dI X Gm 139 138 pm0 (top 13) ["thing"] ["thing"] λ_ _ _ _ _ _ _=>rfl⟩,⟨_,rfl,dI X Gm 147 146 pm1 (top 16) ["thing"] ["thing"] λ_ _ _ _ _ _ _=>rfl⟩,⟨_,rfl,dI X Gm 154 153 pm2 (top 20) ["thing"] ["thing"] λ_ _ _ _ _ _ _=>rfl⟩,⟨_,rfl,dI X Gm 161 160 pm2 (top 21) ["thing","deep","word"] ["thing","deep"] λ_ _ _ _ _ _ _ _=>rfl⟩,⟨_,rfl,dI X Gm 168 167 pm2 (top 22) ["thing"] ["thing"] λ_ _ _ _ _ _ _=>rfl⟩,⟨_,rfl,dI X Gm 175 174 pm3 (top 26) ["one","up","down"] ["one"] λ_ _ _ _ _ _ _=>rfl⟩,⟨_,rfl,dI X Gm 182 181 pm3 (top 27) ["plan"] ["plan"] λ_ _ _ _ _ _ _=>rfl⟩,⟨_,rfl,dI X Gm 189 188 pm3 (top 28) ["plan"] ["plan"] λ_ _ _ _ _ _ _=>rfl⟩,⟨_,rfl,dI X Gm 194 193 pm3 (top 29) ["text"] ["text"] λ_ _ _ _ _ _ _=>rfl⟩,⟨_,rfl,dI X Gm 201 200 pm3 (top 30) ["text","figures"] ["text"] λ_ _ _ _ _ _ _=>rfl⟩,⟨_,rfl,dI X Gm 208 207 pm3 (top 31) ["text","parts","up","down"] ["text"] λ_ _ _ _ _ _ _=>rfl⟩,⟨_,rfl,dI X Gm 215 214 pm3 (top 32) ["text","plan"] ["text"] λ_ _ _ _ _ _ _=>rfl⟩,⟨_,rfl,dI X Gm 243 242 pm4 (top 37) ["_law_script","_law_k"] ["_law_script","_law_k"] λ_ _ _ _ _ _ _ _=>rfl⟩,⟨_,rfl,dI X Gm 250 249 pm4 (top 38) ["_law_script","_law_k","_law_many","_law_drawn"] ["_law_script","_law_k","_law_many"] λ_ _ _ _ _ _ _ _ _=>rfl⟩,⟨_,rfl,dI X Gm 257 256 pm4 (top 39) ["_law_one","_law_other"] ["_law_one","_law_other"] λ_ _ _ _ _ _ _ _=>rfl⟩,⟨_,rfl,dI X Gm 264 263 pm4 (top 40) ["_law_up","_law_down","_law_size_here"] ["_law_up","_law_down"] λ_ _ _ _ _ _ _ _=>rfl⟩,⟨_,rfl,dI X Gm 271 270 pm4 (top 41) ["_law_script","_law_at","_law_down"] ["_law_script","_law_at"] λ_ _ _ _ _ _ _ _=>rfl⟩,⟨_,rfl,dI X Gm 278 277 pm4 (top 42) ["_law_script","_law_at","_law_down"] ["_law_script","_law_at"] λ_ _ _ _ _ _ _ _=>rfl⟩,⟨_,rfl,dI X Gm 320 319 pm4 (top 48) ["_law_script","_law_at"] ["_law_script","_law_at"] λ_ _ _ _ _ _ _ _=>rfl⟩,⟨_,rfl,dI X Gm 334 333 pm4 (top 50) ["_law_script","_law_at","_law_deep","_law_way","_law_step","_law_word_here","_law_one"] ["_law_script","_law_at","_law_deep"] λ_ _ _ _ _ _ _ _ _=>rfl⟩,⟨_,rfl,dI X Gm 348 347 pm4 (top 52) ["_law_text_here","_law_cell_here","_law_signs","_law_at","_law_sign","_law_on","_law_way"] ["_law_text_here","_law_cell_here","_law_signs"] λ_ _ _ _ _ _ _ _ _=>rfl⟩,⟨_,rfl,dI X Gm 355 354 pm4 (top 53) ["_law_kept","_law_kinds"] ["_law_kept"] λ_ _ _ _ _ _ _=>rfl⟩,⟨_,rfl,dI X Gm 362 361 pm4 (top 54) ["_law_one"] ["_law_one"] λ_ _ _ _ _ _ _=>rfl⟩,⟨_,rfl,dI X Gm 369 368 pm4 (top 55) ["_law_plan_here","_law_parts"] ["_law_plan_here"] λ_ _ _ _ _ _ _=>rfl⟩,⟨_,rfl,dI X Gm 376 375 pm4 (top 56) ["_law_what","_law_text_here","_law_kept","_law_answer","e"] ["_law_what","_law_text_here"] λ_ _ _ _ _ _ _ _=>rfl⟩,⟨_,rfl,(JRM w.params).at X Gm JHf JRL⟩,JML X Gm,JIf X Gm,JFT X Gm,JI9 X Gm,JDU X Gm,⟨⟨by kernel_rfl,by kernel_rfl,by kernel_rfl⟩,mg_of X Gm (by kernel_rfl)⟩,⟨⟨by kernel_rfl,by kernel_rfl,by kernel_rfl⟩,mg_of X Gm (by kernel_rfl)⟩,⟨⟨by kernel_rfl,by kernel_rfl,by kernel_rfl⟩,mg_of X Gm (by kernel_rfl)⟩,⟨⟨by kernel_rfl,by kernel_rfl,by kernel_rfl⟩,mg_of X Gm (by kernel_rfl)⟩,⟨⟨by kernel_rfl,by kernel_rfl,by kernel_rfl⟩,mg_of X Gm (by kernel_rfl)⟩,⟨⟨by kernel_rfl,by kernel_rfl,by kernel_rfl⟩,mg_of X Gm (by kernel_rfl)⟩,⟨⟨by kernel_rfl,by kernel_rfl,by kernel_rfl⟩,mg_of X Gm (by kernel_rfl)⟩,⟨⟨by kernel_rfl,by kernel_rfl,by kernel_rfl⟩,mg_of X Gm (by kernel_rfl)⟩,mg_none_of X Gm (by kernel_rfl),mg_none_of X Gm (by kernel_rfl),mg_none_of X Gm (by kernel_rfl),mg_none_of X Gm (by kernel_rfl),mg_none_of X Gm (by kernel_rfl),mg_none_of X Gm (by kernel_rfl),mg_none_of X Gm (by kernel_rfl),mg_none_of X Gm (by kernel_rfl),mg_none_of X Gm (by kernel_rfl),mg_none_of X Gm (by kernel_rfl),trivial,trivial,trivial,trivial,trivial,trivial⟩
theorem ra(w:World):AllR (RaP ⟨K w.params,cl,w⟩ G) rs :=
 ⟨⟨⟨⟨by kernel_rfl,by kernel_rfl,by kernel_rfl,by kernel_rfl,by kernel_rfl,by kernel_rfl,by kernel_rfl⟩,by kernel_rfl⟩,trivial,trivial,trivial,trivial,trivial,trivial,trivial,trivial,trivial,trivial,trivial,trivial,trivial,trivial,trivial,trivial,trivial,trivial,trivial,trivial,trivial,trivial,trivial,trivial,trivial,trivial,trivial,trivial,trivial,trivial,trivial,trivial,trivial,trivial,JQ4 (by kernel_rfl) (by kernel_rfl),JHL (by kernel_rfl),JHL (by kernel_rfl),JHL (by kernel_rfl),JHL (by kernel_rfl),JHL (by kernel_rfl),JHL (by kernel_rfl),JQ4 (by kernel_rfl) (by kernel_rfl),trivial,trivial,trivial,trivial,trivial,trivial,trivial,trivial,trivial,trivial,trivial,trivial,trivial,trivial,trivial,trivial⟩,trivial⟩
theorem hT{P:Program}(w:World){base:Heap}{mg:Str→Option Value}(X:(K w.params).In base)(Gm:base.Ns mainGlobals mg)(n:Nat)(hA:∀m,m<n→JF6 P w ⟨K w.params,cl,w⟩ G tab glo (JEI rs) mg base m):TkN P w ⟨K w.params,cl,w⟩ G tab glo (JEI rs) mg base n:=by
 obtain⟨w1,w2,w3,w4,w5,w6⟩:=JHu (x:="take_word") (st:=top 33) (ps:=["words"]) (fnI 222 221 (.str "glideways.texts" 400)) X Gm (bOk λ_ _ _ _ _ _ _=>rfl);obtain⟨s1,s2,s3,s4,s5,s6⟩:=JHu (x:="take_step") (st:=top 35) (ps:=["word","words"]) (fnI 236 235 (.str "glideways.texts" 400)) X Gm (bOk λ_ _ _ _ _ _ _ _=>rfl);obtain⟨p1,p2,p3,p4,p5,p6⟩:=JHu (x:="take_plan") (st:=top 34) (ps:=["words","deep"]) (fnI 229 228 (.str "glideways.texts" 400)) X Gm (bOk λ_ _ _ _ _ _ _ _=>rfl);have M:=JOA (mo w X Gm) (ra w) JEq;exact tkN (by kernel_rfl) (by kernel_rfl) ⟨373,mg_of X Gm (by kernel_rfl)⟩ ⟨w3,w4,w6⟩ ⟨s3,s4,s6⟩ ⟨p3,p4,p6⟩
  (λk=>JNV (N:=[]) M.cl (by kernel_rfl) w5 ⟨rfl,rfl,rfl,by decide +kernel,rfl,by decide +kernel,by decide +kernel⟩ (mg_none_of X Gm (by kernel_rfl)) (by kernel_rfl) (by kernel_rfl) (by kernel_rfl) rfl rfl k)
  (λn fn ps cw cf hR=>JMQ s5 ⟨rfl,rfl,rfl,by decide +kernel,rfl,by decide +kernel,by decide +kernel⟩ cw cf hR (by kernel_rfl) (by kernel_rfl) (by kernel_rfl) (by kernel_rfl) (by kernel_rfl) (by kernel_rfl) rfl)
  (λn fn ps c1 c2 c3 c4 hR=>JM7 M.cl (by kernel_rfl) p5 ⟨rfl,rfl,rfl,by decide +kernel,rfl,by decide +kernel,by decide +kernel⟩ c1 c2 c3 c4 hR (by kernel_rfl) (by kernel_rfl) (by kernel_rfl) (by kernel_rfl) (by kernel_rfl) (by kernel_rfl) (by kernel_rfl) (by kernel_rfl) (by kernel_rfl) (by kernel_rfl) rfl) n hA
theorem walk{d:DefRec}(hd:d.name="law")(hdf:d.params.defaults=[]):WalkO view loose (XL view []) hk.says PySem.Challenge.rw_glideways_k80_whole_texts.row.toRowW d [] (λf vs=>PySem.call f vs) :=
 L2.walk_of (l:=PySem.Challenge.rw_glideways_k80_whole_texts) (n:=63) (k:=33) (x:="_law_script") (K:=K) (CX:=λ_=>CX0) (sp:=λw=>JM4 (K w.params)) rfl (by decide) hdf ⟨rfl,by decide,by decide⟩ (λw h Y=>kIn_of Y)
  (by rw[hd];exact λw mg fa h KX Gm hmg=>JQU (cl:=cl) (tab:=tab) (glo:=glo) (sub:=JEI rs) KX Gm hmg (JRM w.params) JRL JHf (by kernel_rfl) rfl (λbase kb nb=>JOA (mo w kb nb) (ra w) JEq) (λn=>⟨JNC (JQP (mo w KX Gm) (ra w)) (by kernel_rfl) (by kernel_rfl) (by kernel_rfl) (d_no (by kernel_rfl)) (λ_=>t_ok (by kernel_rfl)) (λk z=>by cases k with|rev=>exact x_no (by kernel_rfl) z|enm=>exact x_no (by kernel_rfl) z|srt=>exact x_no (by kernel_rfl) z|zip=>exact x_no (by kernel_rfl) z|sst=>exact x_no (by kernel_rfl) z|dvs=>exact x_no (by kernel_rfl) z|dit=>exact x_no (by kernel_rfl) z|dls=>exact x_no (by kernel_rfl) z|dcp=>exact x_no (by kernel_rfl) z|dnw=>exact x_no (by kernel_rfl) z|din=>exact x_no (by kernel_rfl) z|dni=>exact x_no (by kernel_rfl) z|deq=>exact x_no (by kernel_rfl) z|dne=>exact x_no (by kernel_rfl) z|dtk=>exact x_no (by kernel_rfl) z|sts=>exact x_no (by kernel_rfl) z|dpr=>exact x_no (by kernel_rfl) z|mx2=>exact x_no (by kernel_rfl) z|txi=>exact x_no (by kernel_rfl) z|tfr=>exact x_no (by kernel_rfl) z|jn=>exact x_no (by kernel_rfl) z|stw=>exact x_no (by kernel_rfl) z|prt=>exact x_no (by kernel_rfl) z|tin=>exact x_no (by kernel_rfl) z|tcf=>exact x_no (by kernel_rfl) z|tct=>exact x_no (by kernel_rfl) z|tkp=>exact x_no (by kernel_rfl) z|tkd=>exact x_no (by kernel_rfl) z) ⟨λ_ X XX g=>JNg g,λ_ X XX g=>JM6 g,nofl (by kernel_rfl),JRG,nofl (by kernel_rfl)⟩,⟨nofl (by kernel_rfl),JPd,nofl (by kernel_rfl)⟩,λ_=>JRb⟩) (λbase kb nb=>hT w kb nb) (λ_ _ _ _ _ _ _ _=>.of_eq rfl) (λns hl=>JJf (n:=0) ⟨rfl,rfl,rfl,rfl,rfl,rfl,rfl,rfl,rfl⟩ ns))
  (λ_ _ a ns hl _ hS=>⟨a,ns,rfl,hl,hS,λ_=>rfl⟩) λ_ _ _ _ _ z=>z
end V80
open PySem PySem.W PyProof.Rows
set_option maxRecDepth 100000 in
set_option maxHeartbeats 0 in
theorem PySem.Challenge.cw_glideways_k80_whole_texts_holds : PySem.Challenge.rw_glideways_k80_whole_texts.Holds := by
 w_on
 refine holds_law V80.said λsaid=>?_;refine holds_open (q:=V80.view) (loose:=V80.loose) (XP:=XL V80.view []) (Yf:=V80.hk.obs) (Ya:=V80.hk.val) (YP:=V80.hk.says) V80.left V80.hk.of V80.hk.keeps (λs e=>xl_of s (Bool.and_eq_true_iff.mp e).1) XL.keeps (by rfl) (by rfl) (by rfl) (λs e=>recFacts_of (Bool.and_eq_true_iff.mp e).2) (by rfl) (by first|assumption|decide +kernel) (by decide +kernel) ⟨rfl,rfl,rfl,rfl,rfl,by decide +kernel⟩ ?hw (V80.walk rfl rfl)
 case hw=>w_witness2
end
