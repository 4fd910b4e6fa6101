import PyProof.Rows.All
import Wide.All
import OpenK.AllK
import Wide.FinOn
import Lean
import PyProof.EqAt
import PyProof.EqKinds
import PyProof.TupleCall
import KE.KIsAll
import KE.KLam
import KE.KRevIter
import KE.KSortTup
import KE.KTryMore
import OpenK.KRaise
import PyProof.CollectWalk
import PyProof.CompFree
import PyProof.ConsumeWalk
import PyProof.ExcAttrAll.ValueError
import PyProof.FactsAll.list_3
import PyProof.FactsAll.tuple_2
import PyProof.Fits
import PyProof.Lay0
import PyProof.P3Statements
import PyProof.Rows.SetFrom
import PySem.Eval
import PySem.Challenge.RW_glideways_k55_whole_first_steps
theorem fF{p:Prop}(h:False):p:=h.elim
abbrev Pq:=List (PySem.Addr×PySem.Obj)
abbrev Nq:=List (PySem.Str×PySem.NameKind)
abbrev Mq:=PySem.Str->Option PySem.Value
abbrev Vq:=PySem.Value->PySem.Shared->Prop
abbrev Kq:=PySem.W.Frag
def q_a:=@Option.bind_eq_some_iff
def q_b:=@PySem.wpAny_bind
def q_c:=@PySem.Heap.get?_push_of_some
def q_d:=@Option.map_eq_some_iff
def q_e:=@PySem.wpAny_pure
def q_f:=@List.size_toArray
def q_g:=@List.length_map
def q_h:=@PySem.Heap.lt_size
def q_i:=@Bool.and_eq_true
def q_j:=@Option.some.injEq
def q_k:=@PySem.Heap.get?_push_size
def q_l:=@Nat.ne_of_lt
def q_m:=@Nat.lt_of_lt_of_le
def q_n:=@List.mem_cons
def q_o:=@decide_eq_false
def q_p:=@List.getElem?_eq_some_iff
def q_q:=@List.getElem?_eq_getElem
def q_r:=@List.mem_append_right
def q_s:=@List.mem_cons_of_mem
def q_t:=@Nat.le_refl
def q_u:=@List.length_append
def q_v:=@Bool.false_eq_true
def q_y:=@List.filter_cons_of_pos
def q_z:=@List.getElem?_set_self
def q_A:=@List.getElem?_set_ne
def q_B:=@List.length_eq_zero_iff
def q_C:=@List.getElem?_append_left
def q_D:=@decide_eq_true_eq
def q_E:=@Nat.lt_succ_of_lt
def q_F:=@Array.length_toList
set_option Elab.async false
set_option compiler.extract_closed false
set_option bootstrap.genMatcherCode false
set_option maxRecDepth 100000 in set_option maxHeartbeats 0 in theorem V55.said:PySem.Challenge.rw_glideways_k55_whole_first_steps.wellSaid=true:=by kernel_rfl
set_option maxRecDepth 100000
set_option Elab.async false
set_option genSizeOf false
set_option linter.all false
namespace L2
open PySem PySem.Spec PyProof.Rows
noncomputable abbrev Key:=Sum Int Str
noncomputable def JJi:Key->Value->Bool
 |.inl k,v=>Value.isInt k v
 |.inr x,v=>Value.isStrOf x v
noncomputable def keyH(w:World):Key->Int
 |.inl k=>hashInt k
 |.inr x=>hashStr w x
theorem JAd:∀ {k:Key}{v:Value},JJi k v=true->(∃i t,k=Sum.inl i/\v=Value.int i t)\/(∃x t,k=Sum.inr x/\v=Value.str x t)
 |.inl i,v,h=>by
  obtain⟨t,e⟩:=Value.isInt_shape (k:=i) (v:=v) h;exact .inl ⟨i,t,rfl,e⟩
 |.inr x,v,h=>by
  obtain⟨t,e⟩:=Value.isStrOf_shape (x:=x) (v:=v) h;exact .inr ⟨x,t,rfl,e⟩
theorem JI8(x:Str)(t:Tok):JJi (.inr x) (.str x t)=true:=by simp[JJi,Value.isStrOf]
theorem JQp(a b:Int):decide ((Sum.inl a:Key)=Sum.inl b)=(a==b):=by
 by_cases e:a=b
 ·subst e;simp
 ·have h:¬(Sum.inl a:Key)=Sum.inl b:=λq=>e (Sum.inl.inj q);rw[q_o h];exact(beq_eq_false_iff_ne.mpr e).symm
theorem JPG(a b:Str):decide ((Sum.inr a:Key)=Sum.inr b)=decide (a=b):=by
 by_cases e:a=b
 ·subst e;simp
 ·have h:¬(Sum.inr a:Key)=Sum.inr b:=λq=>e (Sum.inr.inj q);rw[q_o h,q_o e]
theorem JPY(a:Int)(b:Str):decide ((Sum.inl a:Key)=Sum.inr b)=false:=q_o (λq=>nomatch q)
theorem JP6(a:Str)(b:Int):decide ((Sum.inr a:Key)=Sum.inl b)=false:=q_o (λq=>nomatch q)
noncomputable def JBO(prog:Program)(w:World):PySem.KeyKind prog w Key where
 is:=JJi
 hash:=keyH w
 inj:=λv a b ha hb=>by
  rcases JAd ha with ⟨i,t,rfl,rfl⟩|⟨x,t,rfl,rfl⟩
  ·rcases JAd hb with ⟨j,u,rfl,e⟩|⟨y,u,rfl,e⟩
   ·injection e with e1 _;rw[e1]
   ·exact nomatch e
  ·rcases JAd hb with ⟨j,u,rfl,e⟩|⟨y,u,rfl,e⟩
   ·exact nomatch e
   ·injection e with e1 _;rw[e1]
 byValue:=λk v h=>by
  rcases JAd h with ⟨i,t,rfl,rfl⟩|⟨x,t,rfl,rfl⟩<;>rfl
 pyHash:=λhv h=>by
  rcases JAd hv with ⟨i,t,rfl,rfl⟩|⟨x,t,rfl,rfl⟩
  ·exact wpAny_pyHash_int h
  ·exact wpAny_pyHash_str h
 eqBool:=λhu hv h=>by
  rcases JAd hu with ⟨i,t,rfl,rfl⟩|⟨x,t,rfl,rfl⟩
  ·rcases JAd hv with ⟨j,u,rfl,rfl⟩|⟨y,u,rfl,rfl⟩
   ·rw[JQp]at h;exact wpAny_eqBool_int h
   ·rw[JPY]at h;exact SeqAt.EqAt.int_str i t y u _ _ _ _ h
  ·rcases JAd hv with ⟨j,u,rfl,rfl⟩|⟨y,u,rfl,rfl⟩
   ·rw[JP6]at h;exact SeqAt.EqAt.str_int x t j u _ _ _ _ h
   ·rw[JPG]at h;exact wpAny_eqBool_str h
 «strs»:=λk x t v h=>by
  rcases JAd h with ⟨i,u,rfl,e⟩|⟨y,u,rfl,e⟩
  ·exact nomatch e
  ·injection e with e1 _
   subst e1;cases v<;>rfl
theorem JC8(prog:Program)(w:World)(x:Str)(t:Tok):(JBO prog w).is (.inr x) (.str x t)=true:=JI8 x t
end L2
namespace L2
open PySem PySem.Spec PyProof.Rows
inductive V where
 |non|bl (b:Bool)|int (i:Int)|str (x:Str)|byt (b:Array UInt8)|flt (b:UInt64)|ref (a:Addr)|ty (n:String)
 deriving DecidableEq
def RelV:V->Value->Prop
 |.non,u=>u=Value.none
 |.bl b,u=>u=Value.bool b
 |.int i,u=>∃t,u=Value.int i t
 |.str x,u=>∃t,u=Value.str x t
 |.byt b,u=>∃t,u=Value.bytes b t
 |.flt b,u=>∃t,u=Value.float b t
 |.ref a,u=>u=Value.ref a
 |.ty n,u=>u=Value.type n
abbrev Vals:List V->List Value->Prop:=Paired RelV
theorem Vals.length{xs:List V}{us:List Value}(r:Vals xs us):xs.length=us.length:=Paired.length r
theorem Vals.get:∀ {xs:List V}{us:List Value}{i:Nat}{x:V},Vals xs us->xs[i]? = some x->∃u,us[i]? = some u/\RelV x u
 |_,_,_,_,.nil,e=>by simp at e
 |_,_,0,_,.cons r _,e=>by simp at e;subst e;exact⟨_,rfl,r⟩
 |_,_,i+1,x,.cons _ t,e=>by
  obtain⟨u,h1,h2⟩:=Vals.get (i:=i) (x:=x) t (by simpa using e)
  exact⟨u,by simpa using h1,h2⟩
theorem Vals.append:∀ {xs ys:List V}{us ws:List Value},Vals xs us->Vals ys ws->Vals (xs++ys) (us++ws)
 |_,_,_,_,.nil,s=>s
 |_,_,_,_,.cons r t,s=>.cons r (Vals.append t s)
theorem Vals.take:∀ {xs:List V}{us:List Value}(n:Nat),Vals xs us->Vals (xs.take n) (us.take n)
 |_,_,0,_=>.nil
 |_,_,_+1,.nil=>.nil
 |_,_,n+1,.cons r t=>.cons r (Vals.take n t)
theorem Vals.drop:∀ {xs:List V}{us:List Value}(n:Nat),Vals xs us->Vals (xs.drop n) (us.drop n)
 |_,_,0,r=>r
 |_,_,_+1,.nil=>.nil
 |_,_,n+1,.cons _ t=>Vals.drop n t
def RelO:Option V->Option Value->Prop
 |some v,some u=>RelV v u
 |none,none=>True
 |_,_=>False
def KV{κ:Type}:List (κ×V)->List (κ×Value)->Prop:=Paired λ(p:κ×V) (q:κ×Value)=>p.1=q.1/\RelV p.2 q.2
noncomputable def kV:Key->V
 |.inl i=>.int i
 |.inr x=>.str x
inductive HO where
 |lst (xs:List V)
 |tup (xs:List V)
 |dK (kvs:List (Key×V))|dT (kvs:List (List Key×V))
 |set (S:Int->Bool) (n:Nat)
 |ins (C dx:Addr) (fs:List (Str×V))
 |own (x:Addr)
 |xd (fs:List (Str×V))
 |met (f x:Addr)
 |rng (lo hi:Int)
 |frz (o:Obj) (u:HO)
 |tbl (ps:Array Value)
 |ext (φ:Heap->Prop)
noncomputable abbrev Hp:=Addr->Option HO
noncomputable def upd(H:Hp)(a:Addr)(o:HO):Hp:=λb=>if b=a then some o else H b
theorem JAG{H:Hp}{a:Addr}{o:HO}:upd H a o a=some o:=by unfold upd;rw[if_pos rfl]
theorem JAH{H:Hp}{a b:Addr}{o:HO}(h:b≠a):upd H a o b=H b:=by unfold upd;rw[if_neg h]
theorem JAb{H:Hp}{a b:Addr}{o:HO}(h:H a=some o)(h':H b=none):a≠b:=by
 intro e;subst e;rw[h]at h';cases h'
section
variable(P:Program)(w:World)
def ObjOk(H:Hp)(h:Heap)(a:Addr):HO->Prop
 |.lst xs=>xs.length<=sizeLine/\∃(its:List Value) (n:Nat),Vals xs its/\h.get? a=some { cls:=.type "list",data:=.seq its.toArray n }
 |.tup xs=>xs.length<=sizeLine/\∃its:List Value,Vals xs its/\IsTup h a its.toArray
 |.dK kvs=>kvs.length<=sizeLine/\(a==sysModules)=false/\∃vs,KV kvs vs/\h.DictOf (JBO P w) a vs
 |.dT kvs=>kvs.length<=sizeLine/\(a==sysModules)=false/\∃xs:List (List Key×Addr×Value),
  Paired (λ(p:List Key×V) (q:List Key×Addr×Value)=>p.1=q.1/\H q.2.1=some (.tup (p.1.map kV))/\RelV p.2 q.2.2) kvs xs /\
  ∃o es ep,h.get? a=some o/\o.ExactDict/\o.data=.dict es ep/\es.toList=xs.map (entryOfKey (tupleKind (JBO P w)))/\(xs.map (·.1)).Nodup
 |.set S n=>h.SetOf (intKind P w) a S n
 |.ins C dx fs=>H dx=some (.own a)/\fs.length<=1000/\dx≠a/\h.get? a=some (PySem.W.instObj C dx) /\
  ∃mA,h.Ns1 dx mA/\(∀f,RelO (fs.lookup f) (mA f))/\PySem.Within mA (fs.map (·.1))
 |.own _=>∃o,h.get? a=some o
 |.xd fs=>∃mA,h.Ns1 a mA/\∀f,RelO (fs.lookup f) (mA f)
 |.rng lo hi=>∃t u v,h.get? a=some { cls:=.type "range",data:=.fields #[.int lo t,.int hi u,.int 1 v] }
 |.frz o u=>h.get? a=some o/\ObjOk H h a u
 |.tbl ps=>h.get? a=some { cls:=.none,data:=.fields ps }
 |.met f x=>h.get? a=some (PySem.W.methodObj (.ref f) (.ref x))
 |.ext φ=>φ h/\(∃o,h.get? a=some o)/\∀h1 h2:Heap,φ h1->(∀o,h1.get? a=some o->h2.get? a=some o)->φ h2
def HOk(H:Hp)(h:Heap):Prop:=∀a o,H a=some o->ObjOk P w H h a o
end
section
variable{P:Program}{w:World}{H H':Hp}{h h':Heap}{a:Addr}{o:HO}
theorem ObjOk.lt(x:ObjOk P w H h a o):a<h.objs.size:=by
 cases o with
 |lst xs=>obtain⟨_,_,_,_,e⟩:=x;exact q_h e
 |tup xs=>obtain⟨_,_,_,p⟩:=x;exact p.lt
 |dK kvs=>obtain⟨_,_,_,_,o,_,_,e,_⟩:=x;exact q_h e
 |dT kvs=>obtain⟨_,_,_,_,o,_,_,e,_⟩:=x;exact q_h e
 |set S n=>obtain⟨o,_,_,_,e,_⟩:=x;exact q_h e
 |ins C dx fs=>obtain⟨_,_,_,e,_⟩:=x;exact q_h e
 |own y=>obtain⟨_,e⟩:=x;exact q_h e
 |xd fs=>obtain⟨_,⟨_,_,_,e,_⟩,_⟩:=x;exact q_h e
 |rng lo hi=>obtain⟨_,_,_,e⟩:=x;exact q_h e
 |frz ob u=>obtain⟨e,_⟩:=x;exact q_h e
 |tbl ps=>exact q_h (show h.get? a=some _ from x)
 |met f y=>exact q_h (show h.get? a=some _ from x)
 |ext φ=>obtain⟨_,⟨_,e⟩,_⟩:=x;exact q_h e
theorem Paired.mapP{α β:Type}{F G:α->β->Prop}:∀ {l₁:List α}{l₂:List β},Paired F l₁ l₂->(∀a b,F a b->G a b)->Paired G l₁ l₂
 |_,_,.nil,_=>.nil
 |_,_,.cons r t,f=>.cons (f _ _ r) (Paired.mapP t f)
theorem ObjOk.stay(x:ObjOk P w H h a o)(k:∀b u,(b=a\/H b=some (.own a))->h.get? b=some u->h'.get? b=some u)
  (ho:∀b,H b=some (.own a)->H' b=some (.own a)) (ht:∀b xs,H b=some (.tup xs)->H' b=some (.tup xs)):ObjOk P w H' h' a o:=by
 induction o with
 |lst xs=>obtain⟨z,its,n,r,e⟩:=x;exact⟨z,its,n,r,k _ _ (.inl rfl) e⟩
 |tup xs=>obtain⟨z,its,r,ob,e,c⟩:=x;exact⟨z,its,r,ob,k _ _ (.inl rfl) e,c⟩
 |dK kvs=>obtain⟨z,y,vs,r,ob,es,ep,e,c⟩:=x;exact⟨z,y,vs,r,ob,es,ep,k _ _ (.inl rfl) e,c⟩
 |dT kvs =>
  obtain⟨z,y,xs,r,ob,es,ep,e,c⟩:=x;exact⟨z,y,xs,Paired.mapP r λp q z=>⟨z.1,ht _ _ z.2.1,z.2.2⟩,ob,es,ep,k _ _ (.inl rfl) e,c⟩
 |set S n=>obtain⟨ob,es,ep,t,e,c⟩:=x;exact⟨ob,es,ep,t,k _ _ (.inl rfl) e,c⟩
 |ins C dx fs =>
  obtain⟨d,z,ne,e,mA,⟨od,es,ep,e2,c⟩,r⟩:=x;exact⟨ho _ d,z,ne,k _ _ (.inl rfl) e,mA,⟨od,es,ep,k _ _ (.inr d) e2,c⟩,r⟩
 |own y=>obtain⟨ob,e⟩:=x;exact⟨ob,k _ _ (.inl rfl) e⟩
 |xd fs=>obtain⟨mA,⟨od,es,ep,e,c⟩,r⟩:=x;exact⟨mA,⟨od,es,ep,k _ _ (.inl rfl) e,c⟩,r⟩
 |rng lo hi=>obtain⟨t,u,v,e⟩:=x;exact⟨t,u,v,k _ _ (.inl rfl) e⟩
 |frz ob u ih=>obtain⟨e,q⟩:=x;exact⟨k _ _ (.inl rfl) e,ih q⟩
 |tbl ps =>
  have e:h.get? a=some { cls:=.none,data:=.fields ps }:=x;show h'.get? a=some { cls:=.none,data:=.fields ps };exact k a _ (.inl rfl) e
 |met f y =>
  have e:h.get? a=some (PySem.W.methodObj (.ref f) (.ref y)):=x;show h'.get? a=some (PySem.W.methodObj (.ref f) (.ref y));exact k a _ (.inl rfl) e
 |ext φ=>obtain⟨p,⟨o,e⟩,st⟩:=x;exact⟨st _ _ p λo q=>k _ _ (.inl rfl) q,⟨o,k _ _ (.inl rfl) e⟩,st⟩
theorem HOk.lt(x:HOk P w H h)(e:H a=some o):a<h.objs.size:=(x a o e).lt
theorem HOk.fresh(x:HOk P w H h)(e:h.objs.size<=a):H a=none:=by
 cases q:H a with
 |none=>rfl
 |some u=>exact absurd (q_m (x.lt q) e) (Nat.lt_irrefl _)
theorem HOk.kept(x:HOk P w H h)(k:∀b u,h.get? b=some u->h'.get? b=some u):HOk P w H h':=λa o e =>
 (x a o e).stay (λb u _ q=>k b u q) (λ_ q=>q) λ_ _ q=>q
theorem HOk.laid(x:HOk P w H h)(k:∀b u,h.get? b=some u->h'.get? b=some u)(hp:h.objs.size<=a)(new:ObjOk P w (upd H a o) h' a o):HOk P w (upd H a o) h':=λb u e=>by
 have hn:=x.fresh hp
 by_cases hb:b=a
 ·subst hb;rw[JAG]at e;cases e;exact new
 ·rw[JAH hb]at e;exact(x b u e).stay (λc v _ q=>k c v q) (λc q=>by rw[JAH (JAb q hn)];exact q) λc xs q=>by rw[JAH (JAb q hn)];exact q
end
def Rd(H:Hp)(a:Addr)(u:HO):Prop:=H a=some u\/∃o,H a=some (.frz o u)
theorem Rd.ok{P:Program}{w:World}{H:Hp}{h:Heap}{a:Addr}{u:HO}(r:Rd H a u)(x:HOk P w H h):ObjOk P w H h a u:=by
 rcases r with r|⟨o,r⟩
 ·exact x a u r
 ·obtain⟨_,q⟩:=x a _ r;exact q
def Mut:Option HO->Prop
 |some (.lst _)=>True
 |some (.dK _)=>True
 |some (.dT _)=>True
 |some (.set _ _)=>True
 |some (.ins _ _ _)=>True
 |some (.ext _)=>True
 |_=>False
section
variable{P:Program}{w:World}{H:Hp}{h h':Heap}{x e:Addr}{o':HO}
theorem HOk.write(ok:HOk P w H h)(mu:Mut (H x))(he:e=x\/H e=some (.own x))(k:∀b u,b≠e->h.get? b=some u->h'.get? b=some u)(heo:∃u,h'.get? e=some u)
  (new:ObjOk P w (upd H x o') h' x o'):HOk P w (upd H x o') h':=λb u q=>by
 have nown:∀c y,H c=some (.own y)->c≠x:=λc y r z=>by subst z;rw[r]at mu;exact mu
 have ntup:∀c xs,H c=some (.tup xs)->c≠x:=λc xs r z=>by subst z;rw[r]at mu;exact mu
 by_cases hb:b=x
 ·subst hb;rw[JAG]at q;cases q;exact new
 ·rw[JAH hb]at q
  by_cases hbe:b=e
  · have q':H b=some (.own x):=by
     rcases he with z|z
     ·exact absurd (hbe.trans z) hb
     ·rw[hbe];exact z
    rw[q]at q';cases q';obtain⟨v,hv⟩:=heo;exact⟨v,by rw[hbe];exact hv⟩
  · refine(ok b u q).stay (λc v hc r=>k c v ?_ r) (λc r=>by rw[JAH (nown c b r)];exact r) λc xs r=>by rw[JAH (ntup c xs r)];exact r
    rcases hc with rfl|hc
    ·exact hbe
    ·rintro rfl;rcases he with z|z
     ·exact nown c b hc z
     ·rw[hc]at z;cases z;exact hb rfl
end
structure Un(fs ex:List Addr)(H H':Hp)(h h':Heap):Prop where
 keep:∀b o,h.get? b=some o->H b=none->b ∉ fs->b ∉ ex->h'.get? b=some o
 slot:∀b o,h.get? b=some o->H b=none->b∈fs->b ∉ ex->∃sl,h'.get? b=some { o with slots:=sl }
 free:∀b o,h.get? b=some o->H b=none->b ∉ ex->H' b=none
 there:∀b o,h.get? b=some o->b ∉ ex->∃o',h'.get? b=some o'
 tups:∀b xs,H b=some (.tup xs)->H' b=some (.tup xs)
 frzs:∀b o u,H b=some (.frz o u)->H' b=some (.frz o u)
 tbls:∀b ps,H b=some (.tbl ps)->∃more,H' b=some (.tbl (ps++more))
section
variable{fs fs' ex ex':List Addr}{H H1 H2:Hp}{h h1 h2 h':Heap}{a x e:Addr}{o:HO}
theorem Un.any(u:Un fs ex H H1 h h1){b:Addr}{ob:Obj}(q:h.get? b=some ob)(n:H b=none)(hx:b ∉ ex):∃sl,h1.get? b=some { ob with slots:=sl }:=by
 by_cases hb:b∈fs
 ·exact u.slot b ob q n hb hx
 ·exact⟨ob.slots,u.keep b ob q n hb hx⟩
theorem Un.kept(k:∀b u,h.get? b=some u->h'.get? b=some u):Un fs ex H H h h' :=
 ⟨λb ob q _ _ _=>k b ob q,λb ob q _ _ _=>⟨ob.slots,k b ob q⟩,λ_ _ _ n _=>n,λb ob q _=>⟨ob,k b ob q⟩,λ_ _ q=>q,λ_ _ _ q=>q,λ_ ps q=>⟨#[],by rw[q];simp⟩⟩
theorem Un.refl:Un fs ex H H h h:=Un.kept λ_ _ q=>q
theorem Un.laid(k:∀b u,h.get? b=some u->h'.get? b=some u)(hp:h.objs.size<=a)(hn:H a=none):Un fs ex H (upd H a o) h h' where
 keep:=λb u q _ _ _=>k b u q
 slot:=λb u q _ _ _=>⟨u.slots,k b u q⟩
 free:=λb u q n _=>by rw[JAH (q_l (q_m (q_h q) hp))];exact n
 there:=λb u q _=>⟨u,k b u q⟩
 tups:=λb xs q=>by rw[JAH (JAb q hn)];exact q
 frzs:=λb u xs q=>by rw[JAH (JAb q hn)];exact q
 tbls:=λb ps q=>⟨#[],by rw[JAH (JAb q hn),q];simp⟩
theorem Un.write(mu:Mut (H x))(he:e=x\/H e=some (.own x))(k:∀b u,b≠e->h.get? b=some u->h'.get? b=some u)(heo:∃u,h'.get? e=some u):Un fs ex H (upd H x o) h h':=by
 have hx:∀b,H b=none->b≠x:=λb n z=>by subst z;rw[n]at mu;exact mu
 have hb:∀b,H b=none->b≠e:=λb n z=>by
  subst z;rcases he with r|r
  ·exact hx b n r
  ·rw[n]at r;cases r
 have hm:∀b u,H b=some u->¬Mut (some u)->b≠x:=λb u q nm z=>by subst z;rw[q]at mu;exact nm mu
 refine⟨λb u q n _ _=>k b u (hb b n) q,λb u q n _ _=>⟨u.slots,k b u (hb b n) q⟩,λb u q n _=>by rw[JAH (hx b n)];exact n,λb u q _=>?_,
  λb xs q=>by rw[JAH (hm b _ q λz=>z)];exact q,λb u xs q=>by rw[JAH (hm b _ q λz=>z)];exact q,λb ps q=>⟨#[],by rw[JAH (hm b _ q λz=>z),q];simp⟩⟩
 by_cases hbe:b=e
 ·subst hbe;exact heo
 ·exact⟨u,k b u hbe q⟩
theorem Un.mono(u:Un fs ex H H1 h h1)(hs:∀b∈fs,b∈fs')(hx:∀b∈ex,b∈ex'):Un fs' ex' H H1 h h1 :=
 ⟨λb ob q n hb he=>u.keep b ob q n (λz=>hb (hs b z)) λz=>he (hx b z),λ_ _ q n _ he=>u.any q n λz=>he (hx _ z),λb ob q n he=>u.free b ob q n λz=>he (hx b z),λb ob q he=>u.there b ob q λz=>he (hx b z),u.tups,u.frzs,u.tbls⟩
end
noncomputable def trk(h:Heap)(H:Hp):List Addr:=(List.range h.objs.size).filter λa=>(H a).isSome
noncomputable def hidT(h:Heap)(H:Hp):Heap:=PySem.W.hideAll h (trk h H)
theorem JFD(h:Heap)(H:Hp):(hidT h H).objs.size=h.objs.size:=PySem.W.hideAll_size _ _
theorem JF4{b:Addr}(e:h.get? b=some o)(n:H b=none):(hidT h H).get? b=some o :=
 PySem.W.hideAll_get _ e λhm=>by
  have q:(H b).isSome=true:=(List.mem_filter.mp hm).2;rw[n]at q;simp at q
theorem JFg{b:Addr}(e:(hidT h H).get? b=some o):h.get? b=some o/\H b=none:=by
 have e':h.get? b=some o:=PySem.W.of_hideAll (trk h H) e;refine⟨e',?_⟩;cases q:H b with
 |none=>rfl
 |some x =>
  have hm:b∈trk h H:=List.mem_filter.mpr ⟨List.mem_range.mpr (q_h e'),by simp[q]⟩
  have z:(hidT h H).get? b=none:=PySem.W.hideAll_none (trk h H) hm;rw[z]at e;cases e
end L2
namespace L2
open PySem PySem.Spec PyProof.Rows
structure Mod(K:Kq)(mg:Mq)(base:Heap):Prop where
 kin:K.In base
 glob:base.Ns mainGlobals mg
 blt:∃mb,base.Ns builtinsNs mb/\∀x:Str,x≠"__name__"->mb x=bootBuiltins x
 nolimit:base.NoLimit
structure Cx where
 prog:Program
 w:World
 K:Kq
 mg:Str->Option Value
 base:Heap
 A:Around
 N:List Str
 s₀:Shared
 H₀:Hp
 env:Env
 outer:List Env
 stack:List Env
 ex:List Addr
 fn:Str->Bool
 calm:Bool
 pn:Pq
 xe:Vq
noncomputable def frs(l:List Env):List Addr:=l.filterMap (·.frame)
noncomputable abbrev Cx.fs(X:Cx):List Addr:=frs X.outer
def Vis(sc:Scope)(x:Str):Prop:=sc.names.lookup x=some .local\/sc.names.lookup x=some .cell\/sc.names.lookup x=some .free
def Loc(sc:Scope)(x:Str):Prop:=sc.names.lookup x=some .local\/sc.names.lookup x=some .cell
def Look(env:Env)(h:Heap)(m:Mq)(x:Str)(u:Value):Prop :=
 (env.kindOf x=some .local/\m x=some u)\/((env.kindOf x=some .cell\/env.kindOf x=some .free)/\∃c,env.cells.lookup x=some c/\h.IsCell c (some u))
structure Cx.Ok(X:Cx):Prop where
 mod:Mod X.K X.mg X.base
 kind:X.env.scope.kind=.function
 glob:X.env.globals=mainGlobals
 blt:X.env.builtins=builtinsNs
 above:X.s₀.heap.objs.size<=X.env.locals
 inj:∀x y c,X.env.cells.lookup x=some c->X.env.cells.lookup y=some c->x=y
 has:∀x,(X.env.kindOf x=some .cell\/X.env.kindOf x=some .free)->∃c,X.env.cells.lookup x=some c
 cab:∀x c,X.fn x=true->X.env.cells.lookup x=some c->X.s₀.heap.objs.size<=c
 hd:X.calm=true->X.A.handled=none
 frames:X.A.frames=some X.stack
 stk:X.stack=X.outer\/(X.stack=X.env::X.outer/\X.env.frame=some X.env.locals)
 exf:∀b∈X.ex,b≠X.env.locals/\∀x c,X.env.cells.lookup x=some c->c≠b
 bs:∀b o,X.base.get? b=some o->X.s₀.heap.get? b=some o/\X.H₀ b=none
 bsz:X.base.objs.size<=X.s₀.heap.objs.size
 noex:∀b o,X.base.get? b=some o->b ∉ X.ex
 exfs:∀b∈X.ex,b ∉ X.fs
 funs:X.s₀.heap.FunFrames X.base X.outer
 frf:∀b∈X.fs,X.H₀ b=none
structure Inv(X:Cx)(pins:Pq)(σ:List (Option V))(H:Hp)(s:Shared):Prop where
 ok:X.Ok
 os:s.os=X.s₀.os
 bare:AllBare s.gens
 base:Un X.fs X.ex X.H₀ H X.s₀.heap s.heap
 loc:∃m,s.heap.Ns X.env.locals m/\∀(i:Nat) (x:Str) (v:V),X.N[i]? = some x->σ[i]? = some (some v)->Vis X.env.scope x->∃u,RelV v u/\Look X.env s.heap m x u
 cell:∀x c,X.env.cells.lookup x=some c->∃v,s.heap.IsCell c v
 free:H X.env.locals=none
 freeC:∀x c,X.env.cells.lookup x=some c->H c=none
 pin:∀p∈X.pn++pins,s.heap.get? p.1=some p.2/\H p.1=none/\p.1≠X.env.locals/\p.1 ∉ X.fs/\∀v,p.2.data≠.cell v
 hok:HOk X.prog X.w H s.heap
 len:σ.length=X.N.length
section
variable{X:Cx}{pins:Pq}{σ:List (Option V)}{H H':Hp}{s:Shared}{h':Heap}
theorem Cx.Ok.nofr(ok:X.Ok){b:Addr}(e:X.base.get? b=some o):b ∉ X.fs:=λhb=>by
 have:=(ok.funs.mem hb).1;rw[e]at this;cases this
theorem Inv.bs(I:Inv X pins σ H s):∀b o,X.base.get? b=some o->s.heap.get? b=some o/\H b=none:=λb o e =>
 ⟨I.base.keep b o (I.ok.bs b o e).1 (I.ok.bs b o e).2 (I.ok.nofr e) (I.ok.noex b o e),I.base.free b o (I.ok.bs b o e).1 (I.ok.bs b o e).2 (I.ok.noex b o e)⟩
theorem Inv.bk(I:Inv X pins σ H s):∀b o,X.base.get? b=some o->s.heap.get? b=some o:=λb o e=>(I.bs b o e).1
theorem Inv.mod(I:Inv X pins σ H s):Mod X.K X.mg X.base:=I.ok.mod
theorem Inv.kIn(I:Inv X pins σ H s):X.K.In s.heap:=I.ok.mod.kin.keeps I.bk
theorem Inv.nolimit(I:Inv X pins σ H s):s.heap.NoLimit:=I.ok.mod.nolimit.keeps I.bk
theorem Inv.lt(I:Inv X pins σ H s):X.env.locals<s.heap.objs.size:=let ⟨_,hn,_⟩:=I.loc;hn.lt
theorem Inv.sz(I:Inv X pins σ H s):X.s₀.heap.objs.size<=s.heap.objs.size:=Nat.le_trans I.ok.above (Nat.le_of_lt I.lt)
theorem Inv.nofs(I:Inv X pins σ H s){a:Addr}(h:s.heap.objs.size<=a):a ∉ X.fs:=λhb=>by
 obtain⟨_,o,ho,_⟩:=I.ok.funs.mem hb;exact absurd (q_m (q_h ho) (Nat.le_trans I.sz h)) (Nat.lt_irrefl _)
theorem Inv.cne(I:Inv X pins σ H s):∀x c,X.env.cells.lookup x=some c->c≠X.env.locals:=λx c e z=>by
 obtain⟨v,o,ho,hd⟩:=I.cell x c e;obtain⟨m,⟨o',es,ep,ho',hd',_⟩,_⟩:=I.loc;rw[z,ho']at ho;cases ho;rw[hd']at hd;cases hd
theorem Inv.funs(I:Inv X pins σ H s):s.heap.FunFrames X.base X.outer:=by
 have all:∀(l:List Env),(∀b∈frs l,b∈X.fs)->X.s₀.heap.FunFrames X.base l->s.heap.FunFrames X.base l:=by
  intro l
  induction l with
  |nil=>intro _ _;trivial
  |cons env r ih =>
   intro hs hl;obtain⟨hk,⟨L,o,hf,hn,ho,hd⟩,hr⟩:=hl;have hL:L∈X.fs:=hs L (by unfold frs;rw[List.filterMap_cons,hf];exact List.mem_cons_self)
   obtain⟨sl,e⟩:=I.base.slot L o ho (I.ok.frf L hL) hL λz=>I.ok.exfs L z hL;exact⟨hk,⟨L,_,hf,hn,e,hd⟩,ih (λb hb=>hs b (by unfold frs;rw[List.filterMap_cons,hf];exact q_s _ hb)) hr⟩
 exact all X.outer (λ_ hb=>hb) I.ok.funs
theorem Inv.stack(I:Inv X pins σ H s):s.heap.FunFrames X.base X.stack:=by
 rcases I.ok.stk with e|⟨e,hf⟩
 ·rw[e];exact I.funs
 ·rw[e];obtain⟨m,hn,_⟩:=I.loc;refine .cons (by rw[I.ok.kind];decide) hf hn ?_ I.funs
  exact Heap.get?_none_of_le (Nat.le_trans I.ok.bsz I.ok.above)
theorem Inv.stkSub(I:Inv X pins σ H s):∀b∈frs X.stack,b∈X.env.locals::X.fs:=λb hb=>by
 rcases I.ok.stk with e|⟨e,hf⟩
 ·rw[e]at hb;exact q_s _ hb
 ·rw[e]at hb;unfold frs at hb;rw[List.filterMap_cons,hf]at hb;exact hb
theorem Inv.stkFree(I:Inv X pins σ H s):∀b∈frs X.stack,H b=none:=λb hb=>by
 rcases q_n.mp (I.stkSub b hb) with e|hb
 ·rw[e];exact I.free
 ·obtain⟨_,o,ho,_⟩:=I.ok.funs.mem hb;exact I.base.free b o ho (I.ok.frf b hb) λz=>I.ok.exfs b z hb
theorem Inv.step{g':Array GenState}{t':Nat}{d':Drawn}{ch:List Addr}(I:Inv X pins σ H s)
  (hch:∀b∈ch,(b∈X.ex\/X.s₀.heap.objs.size<=b)/\b≠X.env.locals/\(∀x c,X.env.cells.lookup x=some c->c≠b)/\∀p∈X.pn++pins,p.1≠b)
  (keep:∀b o,b≠X.env.locals->b ∉ X.fs->b ∉ ch->s.heap.get? b=some o->H b=none->h'.get? b=some o)
  (slot:∀b o,b≠X.env.locals->b∈X.fs->b ∉ ch->s.heap.get? b=some o->H b=none->∃sl,h'.get? b=some { o with slots:=sl }) (free:∀b o,b ∉ ch->s.heap.get? b=some o->H b=none->H' b=none)
  (there:∀b o,b ∉ ch->s.heap.get? b=some o->∃o',h'.get? b=some o')
  (tups:∀b xs,H b=some (.tup xs)->H' b=some (.tup xs)) (frzs:∀b o u,H b=some (.frz o u)->H' b=some (.frz o u)) (tbls:∀b ps,H b=some (.tbl ps)->∃more,H' b=some (.tbl (ps++more)))
  (ns:∀m,s.heap.Ns X.env.locals m->h'.Ns X.env.locals m) (hok:HOk X.prog X.w H' h') (hg:AllBare g') :
  Inv X pins σ H' { s with heap:=h',gens:=g',drawn:=d',toks:=t' }:=by
 have neL:∀b o,X.s₀.heap.get? b=some o->b≠X.env.locals:=λb o e=>q_l (q_m (q_h e) I.ok.above);have neC:∀b o,X.s₀.heap.get? b=some o->b ∉ X.ex->b ∉ ch:=λb o e hx hb=>by
  rcases(hch b hb).1 with z|z
  · exact hx z
  · exact absurd (q_m (q_h e) z) (Nat.lt_irrefl _)
 have cellK:∀x c,X.env.cells.lookup x=some c->∀v,s.heap.IsCell c v->h'.IsCell c v:=λx c e v ⟨o,ho,hd⟩=>by
  have nch:c ∉ ch:=λz=>(hch c z).2.2.1 x c e rfl
  by_cases hc:c∈X.fs
  · obtain⟨sl,q⟩:=slot c o (I.cne x c e) hc nch ho (I.freeC x c e)
    exact⟨_,q,hd⟩
  · exact⟨o,keep c o (I.cne x c e) hc nch ho (I.freeC x c e),hd⟩
 refine⟨I.ok,I.os,hg,⟨λb o e n hb hx=>?_,λb o e n hb hx=>?_,λb o e n hx=>?_,λb o e hx=>?_,λb xs e=>tups b xs (I.base.tups b xs e),λb o xs e=>frzs b o xs (I.base.frzs b o xs e),λb ps e=>?_⟩,?_,λx c e=>?_,?_,λx c e=>?_,λp hp=>?_,hok,I.len⟩
 ·exact keep b o (neL b o e) hb (neC b o e hx) (I.base.keep b o e n hb hx) (I.base.free b o e n hx)
 ·obtain⟨sl,e1⟩:=I.base.slot b o e n hb hx;obtain⟨sl',e2⟩:=slot b _ (neL b o e) hb (neC b o e hx) e1 (I.base.free b o e n hx);exact⟨sl',e2⟩
 ·obtain⟨o',e1⟩:=I.base.there b o e hx;exact free b o' (neC b o e hx) e1 (I.base.free b o e n hx)
 ·obtain⟨o',e1⟩:=I.base.there b o e hx;exact there b o' (neC b o e hx) e1
 ·obtain⟨m1,e1⟩:=I.base.tbls b ps e;obtain⟨m2,e2⟩:=tbls b _ e1;exact⟨m1++m2,by rw[e2,Array.append_assoc]⟩
 ·obtain⟨m,hn,hl⟩:=I.loc;refine⟨m,ns m hn,λi x v e1 e2 e3=>?_⟩;obtain⟨u,r,l⟩:=hl i x v e1 e2 e3;refine⟨u,r,?_⟩;rcases l with l|⟨k,c,e,z⟩
  · exact .inl l
  · exact .inr ⟨k,c,e,cellK x c e _ z⟩
 ·obtain⟨v,z⟩:=I.cell x c e;exact⟨v,cellK x c e v z⟩
 ·obtain⟨m,⟨o,_,_,ho,_⟩,_⟩:=I.loc;exact free _ o (λz=>(hch _ z).2.1 rfl) ho I.free
 ·obtain⟨v,o,ho,hd⟩:=I.cell x c e;exact free c o (λz=>(hch c z).2.2.1 x c e rfl) ho (I.freeC x c e)
 ·obtain⟨e,n,ne,nf,d⟩:=I.pin p hp;have nch:p.1 ∉ ch:=λz=>(hch p.1 z).2.2.2 p hp rfl;exact⟨keep p.1 p.2 ne nf nch e n,free p.1 p.2 nch e n,ne,nf,d⟩
theorem Inv.un{t':Nat}(I:Inv X pins σ H s)(u:Un X.fs [] H H' s.heap h')(hok:HOk X.prog X.w H' h'):Inv X pins σ H' { s with heap:=h',toks:=t' }:=by
 obtain⟨m,⟨o,es,ep,ho,r⟩,_⟩:=id I.loc;obtain⟨sl,hL⟩:=u.any ho I.free (by simp)
 exact I.step (g':=s.gens) (d':=s.drawn) (ch:=[]) (λ_ z=>nomatch z) (λb o _ hb _ e n=>u.keep b o e n hb (by simp)) (λb o _ hb _ e n=>u.slot b o e n hb (by simp)) (λb o _ e n=>u.free b o e n (by simp)) (λb o _ e=>u.there b o e (by simp)) u.tups u.frzs u.tbls (λm' hm=>by
  obtain⟨o',es',ep',ho',r'⟩:=hm;rw[ho]at ho';cases ho';exact⟨_,es',ep',hL,r'⟩) hok I.bare
theorem Inv.call{g':Array GenState}{t':Nat}{d':Drawn}{ch:List Addr}(I:Inv X pins σ H s)(u:Un (frs X.stack) ch H H' s.heap h')(hok:HOk X.prog X.w H' h')(hg:AllBare g')
  (hch:∀b∈ch,(b∈X.ex\/X.s₀.heap.objs.size<=b)/\b≠X.env.locals/\(∀x c,X.env.cells.lookup x=some c->c≠b)/\∀p∈X.pn++pins,p.1≠b) :
  Inv X pins σ H' { s with heap:=h',gens:=g',drawn:=d',toks:=t' }:=by
 obtain⟨m,⟨o,es,ep,ho,r⟩,_⟩:=id I.loc;obtain⟨sl,hL⟩:=u.any ho I.free λz=>(hch _ z).2.1 rfl;exact I.step (ch:=ch) hch (λb o hL hb hc e n=>u.keep b o e n (λz=>(q_n.mp (I.stkSub b z)).elim hL hb) hc) (λb o _ _ hc e n=>u.any e n hc) (λb o hc e n=>u.free b o e n hc) (λb o hc e=>u.there b o e hc) u.tups u.frzs u.tbls (λm' hm=>by
  obtain⟨o',es',ep',ho',r'⟩:=hm;rw[ho]at ho';cases ho';exact⟨_,es',ep',hL,r'⟩) hok hg
theorem Inv.turned{t':Nat}{it:Addr}(I:Inv X pins σ H s)(k:∀b o,b≠it->s.heap.get? b=some o->h'.get? b=some o)(hn:H it=none)(hL:it≠X.env.locals)
  (h1:it∈X.ex\/X.s₀.heap.objs.size<=it) (h2:∀x c,X.env.cells.lookup x=some c->c≠it) (h3:∀p∈X.pn++pins,p.1≠it):Inv X pins σ H { s with heap:=h',toks:=t' }:=by
 have nit:∀b u,H b=some u->b≠it:=λb u e z=>by rw[z,hn]at e;cases e
 refine I.step (g':=s.gens) (d':=s.drawn) (ch:=[it]) (λb hb=>?_) (λb o _ _ hc e _=>k b o (λz=>hc (by simp[z])) e) (λb o _ _ hc e _=>⟨o.slots,k b o (λz=>hc (by simp[z])) e⟩) (λ_ _ _ _ n=>n)
  (λb o hc e=>⟨o,k b o (λz=>hc (by simp[z])) e⟩) (λ_ _ e=>e) (λ_ _ _ e=>e) (λb ps e=>⟨#[],by rw[e];simp⟩) (λm hm=>?_) (λb u e=>?_) I.bare
 ·have e:b=it:=by simpa using hb
  subst e;exact⟨h1,hL,h2,h3⟩
 ·obtain⟨o,es,ep,ho,r⟩:=hm;exact⟨o,es,ep,k _ o (Ne.symm hL) ho,r⟩
 ·refine(I.hok b u e).stay (λc v hc q=>k c v ?_ q) (λ_ q=>q) λ_ _ q=>q;rcases hc with z|z
  · rw[z];exact nit b u e
  · exact nit c _ z
theorem Inv.tok(I:Inv X pins σ H s)(t:Nat):Inv X pins σ H { s with toks:=t }:=I.un (h':=s.heap) (t':=t) Un.refl I.hok
theorem Inv.kept{t':Nat}(I:Inv X pins σ H s)(k:∀b u,s.heap.get? b=some u->h'.get? b=some u):Inv X pins σ H { s with heap:=h',toks:=t' }:=I.un (Un.kept k) (I.hok.kept k)
theorem Inv.laid{a:Addr}{o:HO}{t':Nat}(I:Inv X pins σ H s)(k:∀b u,s.heap.get? b=some u->h'.get? b=some u)(hp:s.heap.objs.size<=a)(new:ObjOk X.prog X.w (upd H a o) h' a o) :
 Inv X pins σ (upd H a o) { s with heap:=h',toks:=t' }:=I.un (Un.laid k hp (I.hok.fresh hp)) (I.hok.laid k hp new)
theorem Inv.write{x e:Addr}{t':Nat}(I:Inv X pins σ H s)(mu:Mut (H x))(he:e=x\/H e=some (.own x))(k:∀b u,b≠e->s.heap.get? b=some u->h'.get? b=some u)(heo:∃u,h'.get? e=some u)
 (new:ObjOk X.prog X.w (upd H x o) h' x o):Inv X pins σ (upd H x o) { s with heap:=h',toks:=t' }:=I.un (Un.write mu he k heo) (I.hok.write mu he k heo new)
theorem Inv.pins_of(I:Inv X pins σ H s)(h:∀p∈pins',s.heap.get? p.1=some p.2/\H p.1=none/\p.1≠X.env.locals/\p.1 ∉ X.fs/\∀v,p.2.data≠.cell v):Inv X pins' σ H s :=
 ⟨I.ok,I.os,I.bare,I.base,I.loc,I.cell,I.free,I.freeC,λp hp=>(List.mem_append.mp hp).elim (λz=>I.pin p (List.mem_append_left _ z)) (h p),I.hok,I.len⟩
theorem JD7{N:List Str}(hN:N.Nodup){i j:Nat}{x:Str}(a:N[i]? = some x)(b:N[j]? = some x):i=j:=by
 obtain⟨h1,e1⟩:=q_p.mp a;obtain⟨h2,e2⟩:=q_p.mp b;exact(List.getElem_inj hN).mp (e1.trans e2.symm)
theorem JEz{M:Model}{A:Around}{E:Vq}{i:Nat}{x:Str}{v:V}{u:Value}{Q:Unit->Shared->Prop}(I:Inv X pins σ H s)(hN:X.N.Nodup)(hi:X.N[i]? = some x)(hx:Loc X.env.scope x)(r:RelV v u)
  (h:∀s',Inv X pins (σ.set i (some v)) H s'->(∃a,Heap.SameBut a s.heap s'.heap/\(a=X.env.locals\/X.env.cells.lookup x=some a))->Q () s') (hf:X.fn x=true\/X.env.scope.names.lookup x=some .local:=by first|exact .inl rfl|exact .inr rfl|assumption):wpAny M A (storeName X.env x u) Q E s:=by
 obtain⟨m,hn,hl⟩:=id I.loc;have hcls:(X.env.scope.kind==.class || (X.env.scope.kind==.module&&X.env.locals != X.env.globals))=false:=by rw[I.ok.kind];rfl
 have hiσ:i<σ.length:=by rw[I.len];exact(q_p.mp hi).1
 have cne:=I.cne;have tracked:∀ {a:Addr}{h':Heap},(∃o,s.heap.get? a=some o/\H a=none)->Heap.SameBut a s.heap h'->HOk X.prog X.w H h':=λ{a h'} ha hs b ob e=>by
  obtain⟨_,_,hfree⟩:=ha;refine(I.hok b ob e).stay (λc w' hc q=>(hs.2 c ?_).trans q) (λ_ q=>q) λ_ _ q=>q;rintro rfl;rcases hc with rfl|hc
  · rw[hfree]at e;cases e
  · rw[hfree]at hc;cases hc
 rcases hx with hk|hk
 ·refine wpAny_storeName_local hk hn (λh' hn' hs=>?_) hcls;obtain⟨oL,_,_,hoL,_⟩:=id hn;refine h _ ⟨I.ok,I.os,I.bare,⟨λb o e n hb hx=>?_,λb o e n hb hx=>?_,I.base.free,λb o e hx=>?_,I.base.tups,I.base.frzs,I.base.tbls⟩,⟨_,hn',λj y v' e1 e2 e3=>?_⟩,λy c e=>?_,I.free,I.freeC,λp hp=>?_,tracked ⟨oL,hoL,I.free⟩ hs,by simpa using I.len⟩ ⟨_,hs,.inl rfl⟩
  · exact(hs.2 b (q_l (q_m (q_h e) I.ok.above))).trans (I.base.keep b o e n hb hx)
  · obtain⟨sl,e1⟩:=I.base.slot b o e n hb hx
    exact⟨sl,(hs.2 b (q_l (q_m (q_h e) I.ok.above))).trans e1⟩
  · obtain⟨o',e1⟩:=I.base.there b o e hx
    exact⟨o',(hs.2 b (q_l (q_m (q_h e) I.ok.above))).trans e1⟩
  · by_cases hj:j=i
    ·subst hj;rw[hi]at e1;cases e1;rw[q_z hiσ]at e2;cases e2;exact⟨u,r,.inl ⟨hk,by simp⟩⟩
    ·rw[q_A (Ne.symm hj)]at e2;obtain⟨u',r',q⟩:=hl j y v' e1 e2 e3;refine⟨u',r',?_⟩;rcases q with ⟨k,e⟩|⟨k,c,e,z⟩
     ·refine .inl ⟨k,?_⟩;have:y≠x:=λe=>hj (JD7 hN e1 (e▸hi));simp[this,e]
     ·exact .inr ⟨k,c,e,z.sameBut hs (cne y c e)⟩
  · obtain⟨w',z⟩:=I.cell y c e
    exact⟨w',z.sameBut hs (cne y c e)⟩
  · obtain⟨e,n,ne,nf,d⟩:=I.pin p hp
    exact⟨(hs.2 p.1 ne).trans e,n,ne,nf,d⟩
 ·have hfn:X.fn x=true:=by
    rcases hf with z|z
    ·exact z
    ·rw[z]at hk;cases hk
  obtain⟨c,hc⟩:=I.ok.has x (.inl hk);obtain⟨w',z⟩:=I.cell x c hc;refine wpAny_storeName_cell I.ok.kind hk hc z (λh' hc' hs=>?_);obtain⟨oc,hoc,hocd⟩:=id z;refine h { s with heap:=h' } ⟨I.ok,I.os,I.bare,⟨λb o e n hb hx=>?_,λb o e n hb hx=>?_,I.base.free,λb o e hx=>?_,I.base.tups,I.base.frzs,I.base.tbls⟩,⟨m,hn.sameBut hs (Ne.symm (cne x c hc)),λj y v' e1 e2 e3=>?_⟩,λy c' e=>?_,I.free,I.freeC,λp hp=>?_,tracked ⟨oc,hoc,I.freeC x c hc⟩ hs,by simpa using I.len⟩ ⟨c,hs,.inr hc⟩
  · exact(hs.2 b (q_l (q_m (q_h e) (I.ok.cab x c hfn hc)))).trans (I.base.keep b o e n hb hx)
  · obtain⟨sl,e1⟩:=I.base.slot b o e n hb hx
    exact⟨sl,(hs.2 b (q_l (q_m (q_h e) (I.ok.cab x c hfn hc)))).trans e1⟩
  · obtain⟨o',e1⟩:=I.base.there b o e hx
    exact⟨o',(hs.2 b (q_l (q_m (q_h e) (I.ok.cab x c hfn hc)))).trans e1⟩
  · by_cases hj:j=i
    ·subst hj;rw[hi]at e1;cases e1;rw[q_z hiσ]at e2;cases e2;exact⟨u,r,.inr ⟨.inl hk,c,hc,hc'⟩⟩
    ·rw[q_A (Ne.symm hj)]at e2;obtain⟨u',r',q⟩:=hl j y v' e1 e2 e3;refine⟨u',r',?_⟩;rcases q with q|⟨k,c',e,z'⟩
     ·exact .inl q
     ·refine .inr ⟨k,c',e,z'.sameBut hs ?_⟩;rintro rfl;exact hj (JD7 hN e1 (I.ok.inj _ _ _ e hc▸hi))
  · by_cases hcc:c'=c
    ·subst hcc;exact⟨_,hc'⟩
    ·obtain⟨w2,z2⟩:=I.cell y c' e;exact⟨w2,z2.sameBut hs hcc⟩
  · obtain⟨e,n,ne,nf,d⟩:=I.pin p hp
    refine⟨(hs.2 p.1 ?_).trans e,n,ne,nf,d⟩;intro q;rw[q,hoc]at e;have q':oc=p.2:=Option.some.inj e;exact d w' (by rw[<-q'];exact hocd)
theorem JBB{M:Model}{A:Around}{E:Vq}{i:Nat}{x:Str}{v:V}{u:Value}{Q:Unit->Shared->Prop}(I:Inv X pins σ H s)(hN:X.N.Nodup)(hi:X.N[i]? = some x)(hx:Loc X.env.scope x)(r:RelV v u)
  (h:∀s',Inv X pins (σ.set i (some v)) H s'->Q () s') (hf:X.fn x=true\/X.env.scope.names.lookup x=some .local:=by first|exact .inl rfl|exact .inr rfl|assumption):wpAny M A (storeName X.env x u) Q E s :=
 JEz I hN hi hx r (λs' I' _=>h s' I') hf
theorem Inv.call'{s':Shared}{ch:List Addr}(I:Inv X pins σ H s)(ho:s'.os=s.os)(u:Un (frs X.stack) ch H H' s.heap s'.heap)(hok:HOk X.prog X.w H' s'.heap)(hg:AllBare s'.gens)
  (hch:∀b∈ch,(b∈X.ex\/X.s₀.heap.objs.size<=b)/\b≠X.env.locals/\(∀x c,X.env.cells.lookup x=some c->c≠b)/\∀p∈X.pn++pins,p.1≠b):Inv X pins σ H' s':=by
 obtain⟨h',g',d',t',o'⟩:=s';have e:o'=s.os:=ho;subst e;exact I.call (g':=g') (t':=t') (d':=d') u hok hg hch
end
noncomputable abbrev XK:=Value->Option Addr->Hp->Prop
noncomputable abbrev St:=List (Option V)
noncomputable abbrev VK:=V->Hp->Prop
noncomputable abbrev TE:=St->Hp->VK->Prop
noncomputable abbrev TT:=St->Hp->(Bool->Hp->Prop)->Prop
noncomputable abbrev TA:=St->Hp->(List V->Hp->Prop)->Prop
structure Ends where
 nx:St->Hp->Prop
 rt:VK
 bk:St->Hp->Prop:=λ_ _=>False
 ct:St->Hp->Prop:=λ_ _=>False
noncomputable abbrev TS:=Ends->St->Hp->Prop
def EP(X:Cx)(pins:Pq)(σ:St)(Q:VK)(u:Value)(s':Shared):Prop:=∃v H',Inv X pins σ H' s'/\RelV v u/\Q v H'
def TP(X:Cx)(pins:Pq)(σ:St)(Q:Bool->Hp->Prop)(b:Bool)(s':Shared):Prop:=∃H',Inv X pins σ H' s'/\Q b H'
def AP(X:Cx)(pins:Pq)(σ:St)(Q:List V->Hp->Prop)(us:List Value)(s':Shared):Prop:=∃vs H',Inv X pins σ H' s'/\Vals vs us/\Q vs H'
def SP(X:Cx)(pins:Pq)(D:Ends)(f:Flow)(s':Shared):Prop :=
 match f with
 |.next=>∃σ' H',Inv X pins σ' H' s'/\D.nx σ' H'
 |.brk=>∃σ' H',Inv X pins σ' H' s'/\D.bk σ' H'
 |.cont=>∃σ' H',Inv X pins σ' H' s'/\D.ct σ' H'
 |.ret u=>∃v σ' H',Inv X pins σ' H' s'/\RelV v u/\D.rt v H'
def PE(X:Cx)(e:Expr)(t:TE):Prop :=
 ∀(pins:Pq) (s:Shared) (σ:St) (H:Hp) (Q:VK),Inv X pins σ H s->t σ H Q->wpAny (model X.prog X.w) X.A (eval e X.env) (EP X pins σ Q) X.xe s
def PT(X:Cx)(e:Expr)(t:TT):Prop :=
 ∀(pins:Pq) (s:Shared) (σ:St) (H:Hp) (Q:Bool->Hp->Prop),Inv X pins σ H s->t σ H Q->wpAny (model X.prog X.w) X.A (isTrue e X.env (eval e X.env)) (TP X pins σ Q) X.xe s
def PW(X:Cx)(e:Expr)(t:TT):Prop :=
 ∀(whole:Sem Value) (pins:Pq) (s:Shared) (σ:St) (H:Hp) (Q:Bool->Hp->Prop),Inv X pins σ H s->t σ H Q->wpAny (model X.prog X.w) X.A (isTrue e X.env whole) (TP X pins σ Q) X.xe s
theorem PW.pt{X:Cx}{e:Expr}{t:TT}(h:PW X e t):PT X e t:=h _
def PA(X:Cx)(es:List Expr)(t:TA):Prop :=
 ∀(pos:Pos) (pins:Pq) (s:Shared) (σ:St) (H:Hp) (Q:List V->Hp->Prop),Inv X pins σ H s->t σ H Q->wpAny (model X.prog X.w) X.A (spliced (backTo pos (starEach es X.env))) (AP X pins σ Q) X.xe s
def PS(X:Cx)(st:Stmt)(t:TS):Prop :=
 ∀(pins:Pq) (s:Shared) (σ:St) (H:Hp) (D:Ends),Inv X pins σ H s->t D σ H->wpAny (model X.prog X.w) X.A (exec st X.env) (SP X pins D) X.xe s
def PSs(X:Cx)(st:List Stmt)(t:TS):Prop :=
 ∀(pins:Pq) (s:Shared) (σ:St) (H:Hp) (D:Ends),Inv X pins σ H s->t D σ H->wpAny (model X.prog X.w) X.A (execs st X.env) (SP X pins D) X.xe s
theorem thn{α:Type}{t:Sem α}{Q Q':α->Shared->Prop}{M:Model}{A:Around}{E:Vq}{s:Shared}(h:wpAny M A t Q E s)(hQ:∀a s,Q a s->Q' a s):wpAny M A t Q' E s:=wpAny_mono h hQ λ_ _ x=>x
end L2
namespace L2
open PySem PySem.Spec PyProof.Rows
section
variable{X:Cx}
def tVar(i:Nat):TE:=λσ H Q=>∃v,σ[i]? = some (some v)/\Q v H
def tC(v:V):TE:=λ_ H Q=>Q v H
theorem JDW{i:Nat}{x:Str}{pos:Pos}(hN:X.N[i]? = some x)(hv:Vis X.env.scope x)(hd:(x==("__debug__":Str))=false:=by decide)(hcd:(x==("__classdict__":Str))=false:=by decide):PE X (.Name x pos) (tVar i):=by
 intro pins s σ H Q I h;obtain⟨v,e,h⟩:=h;obtain⟨m,hn,hl⟩:=I.loc;obtain⟨u,r,l⟩:=hl i x v hN e hv;have fin:EP X pins σ Q u s:=⟨v,H,I,r,h⟩;rcases l with ⟨hk,hm⟩|⟨hk,c,hc,hcell⟩
 ·exact wpAny_Name (wpAny_loadName_local I.ok.kind hk hn hm fin) hd
 ·rcases hk with hk|hk
  ·exact wpAny_Name (wpAny_loadName_cell I.ok.kind hk hc hcell fin) hd
  ·exact wpAny_Name (wpAny_loadName_free I.ok.kind hk hc hcell fin hcd) hd
theorem JFJ{i j pos}:PE X (.Constant (.int i) j pos) (tC (.int i)):=λ_ _ _ H _ I h=>wpAny_Constant_int ⟨.int i,H,I.tok _,⟨_,rfl⟩,h⟩
theorem JJJ{b j pos}:PE X (.Constant (.bool b) j pos) (tC (.bl b)):=λ_ _ _ H _ I h=>Constant_bool ⟨.bl b,H,I,rfl,h⟩
theorem JQ7{j pos}:PE X (.Constant .none j pos) (tC .non):=λ_ _ _ H _ I h=>Constant_none ⟨.non,H,I,rfl,h⟩
theorem JMP{x j pos}:PE X (.Constant (.str x) j pos) (tC (.str x)):=λ_ _ _ H _ I h=>Calls.Constant_str ⟨.str x,H,I.tok _,⟨_,rfl⟩,h⟩
def Gl(X:Cx)(x:Str):Prop:=X.env.kindOf x=some .globalImplicit
theorem JCY{E:Vq}{pins:Pq}{s:Shared}{σ:St}{H:Hp}{x:Str}{u:Value}{pos:Pos}{Q:Vq}(I:Inv X pins σ H s)(hg:Gl X x)(hm:X.mg x=some u)(h:Q u s)
  (hd:(x==("__debug__":Str))=false:=by decide):wpAny (model X.prog X.w) X.A (eval (.Name x pos) X.env) Q E s :=
 Calls.Name_function_global I.ok.kind hg (Calls.loadGlobal_global (by rw[I.ok.glob];exact I.mod.glob.keeps I.bk) hm h) hd
theorem JFQ{E:Vq}{Q:Vq}(I:Inv X pins σ H s)(hg:Gl X x)(hm:X.mg x=none)(hv:bootBuiltins x=some u)(h:Q u s)
  (hn:x≠"__name__":=by decide) (hd:(x==("__debug__":Str))=false:=by decide):wpAny (model X.prog X.w) X.A (eval (.Name x pos) X.env) Q E s:=by
 obtain⟨mb,h1,h2⟩:=I.mod.blt;exact Calls.Name_function_global I.ok.kind hg (Calls.loadGlobal_builtin (by rw[I.ok.glob];exact I.mod.glob.keeps I.bk) hm (by rw[I.ok.blt];exact h1.keeps I.bk) ((h2 x hn).trans hv) h) hd
theorem JHS(hg:Gl X x)(hm:X.mg x=some u)(r:RelV v u)(hd:(x==("__debug__":Str))=false:=by decide):PE X (.Name x pos) (tC v) :=
 λ_ _ _ H _ I h=>JCY I hg hm ⟨v,H,I,r,h⟩ hd
theorem JOm(hg:Gl X x)(hm:X.mg x=none)(hv:bootBuiltins x=some u)(r:RelV v u)(hn:x≠"__name__":=by decide)(hd:(x==("__debug__":Str))=false:=by decide):PE X (.Name x pos) (tC v) :=
 λ_ _ _ H _ I h=>JFQ I hg hm hv ⟨v,H,I,r,h⟩ hn hd
variable{a b:Expr}{ta tb:TE}{pos:Pos}
def PC(X:Cx)(op:CmpOp)(a b:Expr)(t:TE):Prop :=
 ∀(pins:Pq) (s:Shared) (σ:St) (H:Hp) (Q:VK),Inv X pins σ H s->t σ H Q ->
  wpAny (model X.prog X.w) X.A (eval a X.env) (λv s₁=>wpAny (model X.prog X.w) X.A (eval b X.env) (λu s₂=>wpAny (model X.prog X.w) X.A (compareOp op v u) (EP X pins σ Q) X.xe s₂) X.xe s₁) X.xe s
theorem JGO(b:Expr)(h:op≠.In)(h2:op≠.NotIn):behindInMarks op b=false:=by
 have e1:(op==CmpOp.In)=false:=by cases op<;>first|rfl|exact absurd rfl h
 have e2:(op==CmpOp.NotIn)=false:=by cases op<;>first|rfl|exact absurd rfl h2
 cases b<;>simp[behindInMarks,e1,e2]
def tIsN(ta:TE):TE:=λσ H Q=>ta σ H λx H1=>Q (.bl (decide (x=.non))) H1
def tNotN(ta:TE):TE:=λσ H Q=>ta σ H λx H1=>Q (.bl (!decide (x=.non))) H1
theorem RelV.none_iff{x:V}{v:Value}(r:RelV x v):(v==Value.none)=decide (x=.non):=by
 cases x with
 |non=>cases r;rfl
 |bl _=>cases r;rfl
 |int _=>obtain⟨t,rfl⟩:=r;rfl
 |str _=>obtain⟨t,rfl⟩:=r;rfl
 |byt _=>obtain⟨t,rfl⟩:=r;rfl
 |flt _=>obtain⟨t,rfl⟩:=r;rfl
 |ref _=>cases r;rfl
 |ty _=>cases r;rfl
theorem JL2{j pos'}(ha:PE X a ta):PC X .Is a (.Constant .none j pos') (tIsN ta):=by
 intro pins s σ H Q I h;refine thn (ha pins s σ H _ I h) λv s1 ⟨x,H1,I1,r1,q1⟩=>?_;exact Constant_none (is_none_gen ⟨.bl _,H1,I1,by rw[r1.none_iff];rfl,q1⟩)
theorem JIV{j pos'}(ha:PE X a ta):PC X .IsNot a (.Constant .none j pos') (tNotN ta):=by
 intro pins s σ H Q I h;refine thn (ha pins s σ H _ I h) λv s1 ⟨x,H1,I1,r1,q1⟩=>?_;exact Constant_none (isnot_none_gen ⟨.bl _,H1,I1,by rw[r1.none_iff];rfl,q1⟩)
def tB(t:TE):TT:=λσ H Q=>t σ H λx H1=>∃c,x=.bl c/\Q c H1
theorem JLS(h:PC X op a b t)(h1:behindInMarks op b=false:=by first|exact JGO _ (by decide) (by decide)|rfl):PE X (.Compare a [op] [b] pos) t:=λpins s σ H Q I hw=>wpAny_Compare1 (h pins s σ H Q I hw) h1
theorem JKr{op:CmpOp}{t:TE}(h:PC X op a b t)(h1:behindInMarks op b=false:=by first|exact JGO _ (by decide) (by decide)|rfl):PT X (.Compare a [op] [b] pos) (tB t):=by
 intro pins s σ H Q I hw;refine wpAny_isTrue_Compare1 (thn (h pins s σ H _ I hw) λv s1 h1=>thn h1 λu s2 h2=>thn h2 λc s3 ⟨x,H1,I1,r1,q1⟩=>?_) h1;obtain⟨d,rfl,q⟩:=q1;cases r1;exact wpAny_truthy_bool ⟨H1,I1,q⟩
variable{tA tB':TT}{rest:List Expr}
def tAnd(t u:TT):TT:=λσ H Q=>t σ H λc H1=>if c=true then u σ H1 Q else Q false H1
def tOr(t u:TT):TT:=λσ H Q=>t σ H λc H1=>if c=true then Q true H1 else u σ H1 Q
def tNot(t:TT):TT:=λσ H Q=>t σ H λc H1=>Q (!c) H1
theorem JMr(ha:PT X a tA):PW X (.BoolOp .And [a] pos) tA:=by
 intro wh pins s σ H Q I h;refine isTrue_and (thn (ha pins s σ H Q I h) λc s1 e=>?_);cases c with
 |true=>exact isTrue_and_nil e
 |false=>exact e
theorem JPh(ha:PT X a tA):PW X (.BoolOp .Or [a] pos) tA:=by
 intro wh pins s σ H Q I h;refine isTrue_or (thn (ha pins s σ H Q I h) λc s1 e=>?_);cases c with
 |false=>exact isTrue_or_nil e
 |true=>exact e
theorem JRn(ha:PT X a tA)(hb:PW X (.BoolOp .And (b::rest) pos) tB'):PW X (.BoolOp .And (a::b::rest) pos) (tAnd tA tB'):=by
 intro wh pins s σ H Q I h;refine isTrue_and (thn (ha pins s σ H _ I h) λc s1 ⟨H1,I1,q1⟩=>?_);cases c with
 |true=>exact hb wh pins s1 σ H1 Q I1 q1
 |false=>exact⟨H1,I1,q1⟩
theorem pw_or(ha:PT X a tA)(hb:PW X (.BoolOp .Or (b::rest) pos) tB'):PW X (.BoolOp .Or (a::b::rest) pos) (tOr tA tB'):=by
 intro wh pins s σ H Q I h;refine isTrue_or (thn (ha pins s σ H _ I h) λc s1 ⟨H1,I1,q1⟩=>?_);cases c with
 |true=>exact⟨H1,I1,q1⟩
 |false=>exact hb wh pins s1 σ H1 Q I1 q1
theorem JRD(ha:PT X a tA):PT X (.UnaryOp .Not a pos) (tNot tA):=by
 intro pins s σ H Q I h;exact isTrue_not (ha pins s σ H (λc H1=>Q (!c) H1) I h)
def tAndV(ta tb:TE):TE:=λσ H Q=>ta σ H λx H1=>∃c,x=.bl c/\if c=true then tb σ H1 Q else Q (.bl false) H1
def tOrV(ta tb:TE):TE:=λσ H Q=>ta σ H λx H1=>∃c,x=.bl c/\if c=true then Q (.bl true) H1 else tb σ H1 Q
theorem JMD{op}(h:PE X a t):PE X (.BoolOp op [a] pos) t:=λpins s σ H Q I hw=>BoolOp_one (h pins s σ H Q I hw)
theorem JO8(ha:PE X a ta)(hb:PE X (.BoolOp .And (b::rest) pos) tb):PE X (.BoolOp .And (a::b::rest) pos) (tAndV ta tb):=by
 intro pins s σ H Q I h;refine BoolOp_and (thn (ha pins s σ H _ I h) λv s1 ⟨x,H1,I1,r1,q1⟩=>?_);obtain⟨c,rfl,q1⟩:=q1;cases r1;refine wpAny_truthy_bool ?_;cases c with
 |true=>exact hb pins s1 σ H1 Q I1 q1
 |false=>exact⟨.bl false,H1,I1,rfl,q1⟩
theorem pe_or(ha:PE X a ta)(hb:PE X (.BoolOp .Or (b::rest) pos) tb):PE X (.BoolOp .Or (a::b::rest) pos) (tOrV ta tb):=by
 intro pins s σ H Q I h;refine BoolOp_or (thn (ha pins s σ H _ I h) λv s1 ⟨x,H1,I1,r1,q1⟩=>?_);obtain⟨c,rfl,q1⟩:=q1;cases r1;refine wpAny_truthy_bool ?_;cases c with
 |false=>exact hb pins s1 σ H1 Q I1 q1
 |true=>exact⟨.bl true,H1,I1,rfl,q1⟩
def tIf(t:TT)(ta tb:TE):TE:=λσ H Q=>t σ H λc H1=>if c=true then ta σ H1 Q else tb σ H1 Q
theorem JKG{c:Expr}(hc:PT X c tA)(ha:PE X a ta)(hb:PE X b tb):PE X (.IfExp c a b pos) (tIf tA ta tb):=by
 intro pins s σ H Q I h;refine wpAny_IfExp (thn (hc pins s σ H _ I h) λd s1 ⟨H1,I1,q1⟩=>?_);cases d with
 |true=>exact ha pins s1 σ H1 Q I1 q1
 |false=>exact hb pins s1 σ H1 Q I1 q1
end
end L2
namespace L2
open PySem PySem.Spec PyProof.Rows
def SqL(K:Kq)(H:Hp)(a:Addr)(xs:List V):Prop :=
 Rd H a (.lst xs) \/
  ∃(o:Obj) (its:Array Value) (n:Nat),K.lookup a=some o/\o.cls=.type "list"/\o.dict=none/\o.data=.seq its n/\its.size<=sizeLine/\Vals xs its.toList
def SqT(K:Kq)(H:Hp)(a:Addr)(xs:List V):Prop :=
 Rd H a (.tup xs) \/
  ∃(o:Obj) (its:Array Value) (n:Nat),K.lookup a=some o/\o.cls=.type "tuple"/\o.data=.seq its n/\its.size<=sizeLine/\Vals xs its.toList
noncomputable def absV:Value->Option V
 |.none=>some .non
 |.bool b=>some (.bl b)
 |.int i _=>some (.int i)
 |.str x _=>some (.str x)
 |.bytes b _=>some (.byt b)
 |.float b _=>some (.flt b)
 |.ref a=>some (.ref a)
 |.type n=>some (.ty n)
 |_=>none
theorem RelV.abs(r:RelV x u):absV u=some x:=by
 cases x with
 |non=>cases r;rfl
 |bl _=>cases r;rfl
 |int _=>obtain⟨t,rfl⟩:=r;rfl
 |str _=>obtain⟨t,rfl⟩:=r;rfl
 |byt _=>obtain⟨t,rfl⟩:=r;rfl
 |flt _=>obtain⟨t,rfl⟩:=r;rfl
 |ref _=>cases r;rfl
 |ty _=>cases r;rfl
theorem RelV.inj{x y:V}{u:Value}(r:RelV x u)(q:RelV y u):x=y:=Option.some.inj (r.abs.symm.trans q.abs)
theorem Vals.inj:∀ {xs ys:List V}{us:List Value},Vals xs us->Vals ys us->xs=ys
 |_,_,_,.nil,.nil=>rfl
 |_,_,_,.cons r t,.cons r' t'=>by rw[r.inj r',Vals.inj t t']
section
variable{X:Cx}{pins:Pq}{σ:St}{H:Hp}{s:Shared}{a:Addr}{xs ys:List V}
theorem SqL.of{K:Kq}(h:H a=some (.lst xs)):SqL K H a xs:=.inl (.inl h)
theorem SqT.of{K:Kq}(h:H a=some (.tup xs)):SqT K H a xs:=.inl (.inl h)
theorem Inv.list(I:Inv X pins σ H s)(h:SqL X.K H a xs):∃its:List Value,Vals xs its/\PlainL s.heap a its.toArray/\xs.length<=sizeLine:=by
 rcases h with h|⟨o,its,n,hk,hc,hd,hs,hz,r⟩
 ·obtain⟨z,its,n,r,e⟩:=h.ok I.hok;exact⟨its,r,⟨_,n,e,rfl,rfl,rfl⟩,z⟩
 ·refine⟨its.toList,r,⟨o,n,I.kIn a o hk,hc,hd,by simpa using hs⟩,?_⟩
  have e:=r.length;simp only[q_F]at e;omega
theorem Inv.tuple(I:Inv X pins σ H s)(h:SqT X.K H a xs):∃its:List Value,Vals xs its/\IsTup s.heap a its.toArray/\xs.length<=sizeLine:=by
 rcases h with h|⟨o,its,n,hk,hc,hs,hz,r⟩
 ·obtain⟨z,its,r,p⟩:=h.ok I.hok;exact⟨its,r,p,z⟩
 ·refine⟨its.toList,r,⟨o,I.kIn a o hk,hc,n,by simpa using hs⟩,?_⟩
  have e:=r.length;simp only[q_F]at e;omega
theorem Inv.list_inj(I:Inv X pins σ H s)(h:SqL X.K H a xs)(h':SqL X.K H a ys):xs=ys:=by
 obtain⟨its,r,⟨o,n,e,_,_,d⟩,_⟩:=I.list h;obtain⟨its',r',⟨o',n',e',_,_,d'⟩,_⟩:=I.list h';rw[e]at e';cases e';rw[d]at d';injection d' with d1 _
 have:its=its':=by simpa using congrArg Array.toList d1
 subst this;exact r.inj r'
theorem Inv.tuple_inj(I:Inv X pins σ H s)(h:SqT X.K H a xs)(h':SqT X.K H a ys):xs=ys:=by
 obtain⟨its,r,⟨o,e,_,n,d⟩,_⟩:=I.tuple h;obtain⟨its',r',⟨o',e',_,n',d'⟩,_⟩:=I.tuple h';rw[e]at e';cases e';rw[d]at d';injection d' with d1 _
 have:its=its':=by simpa using congrArg Array.toList d1
 subst this;exact r.inj r'
end
section
variable{X:Cx}{pins:Pq}{σ:St}{H:Hp}{s:Shared}{E:Vq}
end
section
variable{X:Cx}{st:Stmt}{rest:List Stmt}{t u:TS}{e:Expr}{te:TE}{pos:Pos}
def JJ5:TS:=λD σ H=>D.nx σ H
def tSeq(t u:TS):TS:=λD σ H=>t { D with nx:=u D } σ H
theorem JNW:PSs X [] JJ5:=λ_ _ σ H _ I h=>wpAny_execs_nil ⟨σ,H,I,h⟩
theorem JKo(h1:PS X st t)(h2:PSs X rest u):PSs X (st::rest) (tSeq t u):=by
 intro pins s σ H D I h;refine wpAny_execs_cons (thn (h1 pins s σ H { D with nx:=u D } I h) λf s1 q=>?_)
 cases f with
 |next =>
  obtain⟨σ',H',I',q⟩:=q;exact h2 pins s1 σ' H' D I' q
 |ret v=>exact q
 |brk=>exact q
 |cont=>exact q
def JPI:TS:=λD σ H=>D.bk σ H
def tCont:TS:=λD σ H=>D.ct σ H
theorem JOk:PS X (.Pass pos) JJ5:=λ_ _ σ H _ I h=>wpAny_Pass ⟨σ,H,I,h⟩
theorem JKb:PS X (.Break pos) JPI:=λ_ _ σ H _ I h=>wpAny_Break ⟨σ,H,I,h⟩
theorem JFm:PS X (.Continue pos) tCont:=λ_ _ σ H _ I h=>wpAny_Continue ⟨σ,H,I,h⟩
theorem Inv.quiet{pins:Pq}{σ:St}{H:Hp}{s:Shared}(I:Inv X pins σ H s):interactive X.env=false:=by simp[interactive,I.ok.kind]
theorem JPt{x j pos pos'}:PS X (.Expr (.Constant (.str x) j pos) pos') JJ5:=λ_ s σ H _ I h=>wpAny_Expr (Calls.Constant_str (show SP X _ _ .next { s with toks:=s.toks+1 } from⟨σ,H,I.tok _,h⟩)) I.quiet
def tDrop(te:TE):TS:=λD σ H=>te σ H λ_ H1=>D.nx σ H1
theorem JEN(he:PE X e te)(hs:swapsWith e none pos.line X.env=pure false:=by rfl):PS X (.Expr e pos) (tDrop te):=by
 intro pins s σ H D I h;exact wpAny_Expr_any (thn (he pins s σ H _ I h) λv s1 ⟨x,H1,I1,r1,q1⟩=>⟨σ,H1,I1,q1⟩) I.quiet hs
def tRet(te:TE):TS:=λD σ H=>te σ H D.rt
theorem JPn(he:PE X e te):PS X (.Return (some e) pos) (tRet te):=by
 intro pins s σ H D I h;exact wpAny_Return_some (thn (he pins s σ H _ I h) λv s1 ⟨x,H1,I1,r1,q1⟩=>⟨x,σ,H1,I1,r1,q1⟩)
def tRetN:TS:=λD _ H=>D.rt .non H
theorem JOc:PS X (.Return none pos) tRetN:=λ_ _ σ H _ I h=>wpAny_Return_none ⟨.non,σ,H,I,rfl,h⟩
def tIfS(c:TT)(t u:TS):TS:=λD σ H=>c σ H λb H1=>if b=true then t D σ H1 else u D σ H1
theorem ps_if{c:Expr}{a b:List Stmt}{tc:TT}(hc:PT X c tc)(ha:PSs X a t)(hb:PSs X b u):PS X (.If c a b pos) (tIfS tc t u):=by
 intro pins s σ H D I h;refine wpAny_If (thn (hc pins s σ H _ I h) λd s1 ⟨H1,I1,q1⟩=>?_);cases d with
 |true=>exact ha pins s1 σ H1 D I1 q1
 |false=>exact hb pins s1 σ H1 D I1 q1
end
noncomputable abbrev TG:=V->St->Hp->(St->Hp->Prop)->Prop
noncomputable abbrev TGs:=List V->St->Hp->(St->Hp->Prop)->Prop
def PG(X:Cx)(target:Expr)(t:TG):Prop :=
 ∀(pins:Pq) (s:Shared) (σ:St) (H:Hp) (v:V) (u:Value) (Q:St->Hp->Prop),Inv X pins σ H s->RelV v u->t v σ H Q ->
  wpAny (model X.prog X.w) X.A (assign target X.env u) (λ_ s'=>∃σ' H',Inv X pins σ' H' s'/\Q σ' H') X.xe s
def PGs(X:Cx)(ts:List Expr)(t:TGs):Prop :=
 ∀(pins:Pq) (s:Shared) (σ:St) (H:Hp) (vs:List V) (us:List Value) (Q:St->Hp->Prop),Inv X pins σ H s->Vals vs us->t vs σ H Q ->
  wpAny (model X.prog X.w) X.A (assignInOrder ((assignEach ts X.env).map (·.2)) us) (λ_ s'=>∃σ' H',Inv X pins σ' H' s'/\Q σ' H') X.xe s
section
variable{X:Cx}{pos:Pos}
def JFA(i:Nat):TG:=λv σ H Q=>Q (σ.set i (some v)) H
theorem JEK{i:Nat}(hN:X.N.Nodup)(hi:X.N[i]? = some x)(hx:Loc X.env.scope x)(hf:X.fn x=true\/X.env.scope.names.lookup x=some .local:=by first|exact .inl rfl|exact .inr rfl|assumption):PG X (.Name x pos) (JFA i):=by
 intro pins s σ H v u Q I r h;exact wpAny_assign_Name (JBB I hN hi hx r (λs' I'=>⟨_,H,I',h⟩) hf)
noncomputable def gNil:TGs:=λvs σ H Q=>vs=[]/\Q σ H
noncomputable def gCons(t:TG)(u:TGs):TGs:=λvs σ H Q=>∃v r,vs=v::r/\t v σ H λσ' H'=>u r σ' H' Q
theorem JOD:PGs X [] gNil:=by
 intro pins s σ H vs us Q I r h;obtain⟨e,h⟩:=h;subst e;cases r;exact assignInOrder_nil ⟨σ,H,I,h⟩
theorem JJm{e:Expr}{es:List Expr}{t:TG}{u:TGs}(h1:PG X e t)(h2:PGs X es u)
  (hs:(assignEach (e::es) X.env).map (·.2)=assign e X.env::(assignEach es X.env).map (·.2):=by rfl):PGs X (e::es) (gCons t u):=by
 intro pins s σ H vs us Q I r h;obtain⟨v,vr,e1,h⟩:=h;subst e1;cases r with
 |cons r rr =>
  rw[hs];refine assignInOrder_cons (thn (h1 pins s σ H _ _ _ I r h) λ_ s1 ⟨σ1,H1,I1,q1⟩=>?_);exact h2 pins s1 σ1 H1 _ _ Q I1 rr q1
def gTup(K:Kq)(n:Nat)(t:TGs):TG:=λv σ H Q=>∃a xs,v=.ref a/\SqT K H a xs/\xs.length=n/\t xs σ H Q
theorem JLK{k:Nat}{n:Nat}(hc:X.calm=true)(h:PGs X es t)
  (hn:(assignEach es X.env).length=n:=by rfl) (hst:(assignEach es X.env).findIdx? (·.1)=none:=by rfl):PG X (.Tuple es k pos) (gTup X.K n t):=by
 intro pins s σ H v u Q I r hw;obtain⟨a,xs,e1,hq,hl,hw⟩:=hw;subst e1;cases r;obtain⟨its,rv,ht,hz⟩:=I.tuple hq;refine assign_Tuple_tuple (I.ok.hd hc) ht (by simp[hn,<-hl,rv.length]) hst λh' hx=>?_
 have I1:Inv X pins σ H { s with heap:=h' }:=I.kept (t':=s.toks) λb o e=>hx b o (q_l (q_h e)) e
 exact h pins _ σ H xs _ Q I1 (by simpa using rv) hw
def tAsg(te:TE)(g:TG):TS:=λD σ H=>te σ H λx H1=>g x σ H1 D.nx
theorem JKx{tg e:Expr}{te:TE}{g:TG}(he:PE X e te)(hg:PG X tg g)(hs:swapsWithSole [tg] e pos.line X.env=pure false:=by rfl)(hw:swappedStores [tg] e X.env=pure none:=by rfl)
  (h1:(assignEach [tg] X.env).map (·.2)=[assign tg X.env]:=by rfl):PS X (.Assign [tg] e pos) (tAsg te g):=by
 intro pins s σ H D I h;refine wpAny_Assign_stores (thn (he pins s σ H _ I h) λv s1 ⟨x,H1,I1,r1,q1⟩=>?_) hs hw;rw[h1];exact thn (hg pins s1 σ H1 x v _ I1 r1 q1) λ_ s2 q=>q
theorem JKq{i:Nat}{x:Str}{e:Expr}{te:TE}{pos':Pos}(hN:X.N.Nodup)(hi:X.N[i]? = some x)(hx:Loc X.env.scope x)(he:PE X e te)(hs:swapsWith e (some (.Name x pos')) pos.line X.env=pure false:=by rfl)(hf:X.fn x=true\/X.env.scope.names.lookup x=some .local:=by first|exact .inl rfl|exact .inr rfl|assumption) :
  PS X (.Assign [.Name x pos'] e pos) (tAsg te (JFA i)):=by
 intro pins s σ H D I h;refine wpAny_Assign_Name (thn (he pins s σ H _ I h) λv s1 ⟨y,H1,I1,r1,q1⟩=>?_) hs;exact JBB I1 hN hi hx r1 (λs2 I2=>⟨_,H1,I2,q1⟩) hf
def tPar(i j:Nat)(ta:TA):TS:=λD σ H=>ta σ H λvs H1=>∃v w,vs=[v,w]/\D.nx ((σ.set i (some v)).set j (some w)) H1
theorem JRQ{i j:Nat}{x y:Str}{a b:Expr}{ta:TA}{px py pt:Pos}{kt k2 pt2}(hc:X.calm=true)(hN:X.N.Nodup)(hi:X.N[i]? = some x)(hj:X.N[j]? = some y)(hij:i≠j)
  (hx:X.env.scope.names.lookup x=some .local) (hy:X.env.scope.names.lookup y=some .local) (ha:PA X [a,b] ta)
  (hw:swappedStores [.Tuple [.Name x px,.Name y py] kt pt] (.Tuple [a,b] k2 pt2) X.env=pure (some [x,y]))
  (hs:swapsWithSole [.Tuple [.Name x px,.Name y py] kt pt] (.Tuple [a,b] k2 pt2) pos.line X.env=pure false:=by rfl) :
  PS X (.Assign [.Tuple [.Name x px,.Name y py] kt pt] (.Tuple [a,b] k2 pt2) pos) (tPar i j ta):=by
 intro pins s σ H D I h;rw[exec_Assign_arm];refine q_b (wpAny_standAt ?_);rw[hs];refine q_b (q_e ?_);rw[if_neg (by decide)]
 refine q_b (Tuple_ (thn (ha _ pins s σ H _ I h) λus s1 ⟨vs,H1,I1,r1,q1⟩=>?_));obtain⟨v,w,e1,q1⟩:=q1;subst e1;obtain⟨u1,u2,rfl,rv,rw'⟩:∃u1 u2,us=[u1,u2]/\RelV v u1/\RelV w u2:=by
  cases r1 with
  |cons p q =>
    cases q with
    |cons p' q' =>
     cases q';exact⟨_,_,rfl,p,p'⟩
 refine wpAny_newObj_type ?_ (by show 2<=sizeLine;decide)
 have I2:Inv X pins σ H1 { s1 with heap:=s1.heap.push { cls:=.type "tuple",data:=.seq [u1,u2].toArray } }:=I1.kept (t':=s1.toks) λb o e=>q_c _ e
 rw[hw];refine q_b (q_e ?_);show wpAny (model X.prog X.w) X.A (do rule "assign.swapped-stores";let items<-unpackItems (.ref s1.heap.objs.size) 2 none;assignInOrder [λv=>bindName X.env y v,λv=>bindName X.env x v] items.reverse;pure Flow.next) _ _ _
 refine q_b (wpAny_rule (q_b (unpackItems_tuple (items:=#[u1,u2]) (I.ok.hd hc) (IsTup.new s1.heap _) λh' hx'=>?_)));have I3:=I2.kept (h':=h') (t':=s1.toks) λb o e=>hx' b o (q_l (q_h e)) e;show wpAny _ _ (assignInOrder [λv=>bindName X.env y v,λv=>bindName X.env x v] [u2,u1] >>= λ_=>pure Flow.next) _ _ _;refine q_b (assignInOrder_cons (wpAny_bindName (JBB I3 hN hj (.inl hy) rw' (λs2 I4=>?_) (.inr hy))));refine assignInOrder_cons (wpAny_bindName (JBB I4 hN hi (.inl hx) rv (λs3 I5=>assignInOrder_nil (q_e ?_)) (.inr hx)));rw[List.set_comm _ _ (Ne.symm hij)]at I5;exact⟨_,H1,I5,q1⟩
end
section
variable{X:Cx}{pos:Pos}
def JQa(c:TT)(tb:TS):TS:=λD σ H=>∃W:Nat->St->Hp->Prop,(∃m,W m σ H)/\∀m σ H,W m σ H ->
 c σ H λb H1=>if b=true then ∃N:St->Hp->Prop,(∀σ' H',N σ' H'->∃m',m'<m/\W m' σ' H')/\tb { D with nx:=N,ct:=N,bk:=D.nx } σ H1 else D.nx σ H1
theorem JJY{c:Expr}{body:List Stmt}{tc:TT}{tb:TS}(hp:PassesOwn (model X.prog X.w) X.A X.env X.xe)(hc:PT X c tc)(hb:PSs X body tb):PS X (.While c body [] pos) (JQa tc tb):=by
 intro pins s σ H D I h;obtain⟨W,⟨m0,w0⟩,turn⟩:=h;refine wpAny_While (codeAny_whileLoop (λn s'=>∃σ' H',Inv X pins σ' H' s'/\W n σ' H') ?_ m0 ⟨σ,H,I,w0⟩);rintro n s1 ⟨σ1,H1,I1,w1⟩;refine wpAny_passesOwn hp (thn (hc pins s1 σ1 H1 _ I1 (turn n σ1 H1 w1)) λb s2 ⟨H2,I2,q2⟩=>?_);cases b with
 |true =>
  obtain⟨N,hN,q2⟩:=q2;rw[if_pos rfl];refine wpAny_passesOwn hp (thn (hb pins s2 σ1 H2 _ I2 q2) λf s3 q3=>?_);cases f with
  |next =>
   obtain⟨σ3,H3,I3,n3⟩:=q3;obtain⟨m',hm,w3⟩:=hN σ3 H3 n3;exact⟨m',hm,σ3,H3,I3,w3⟩
  |cont =>
   obtain⟨σ3,H3,I3,n3⟩:=q3;obtain⟨m',hm,w3⟩:=hN σ3 H3 n3;exact⟨m',hm,σ3,H3,I3,w3⟩
  |brk=>exact q3
  |ret v=>exact q3
 |false =>
  rw[if_neg Bool.false_ne_true];exact wpAny_execs_nil ⟨σ1,H2,I2,q2⟩
end
structure It where
 go:Nat->Hp->Prop
 yld:Nat->Hp->V->Hp->Prop
 stop:Nat->Hp->Prop
def FpOk(X:Cx)(pins:Pq)(H:Hp)(b:Addr):Prop :=
 H b=none/\b≠X.env.locals/\b ∉ X.fs/\(b∈X.ex\/X.s₀.heap.objs.size<=b)/\(∀x c,X.env.cells.lookup x=some c->c≠b)/\∀p∈X.pn++pins,p.1≠b
theorem Inv.fpOk{b:Addr}(I:Inv X pins σ H s)(hb:s.heap.objs.size<=b)(hn:H' b=none):FpOk X pins H' b:=by
 refine⟨hn,Nat.ne_of_gt (q_m I.lt hb),I.nofs hb,.inr (Nat.le_trans I.sz hb),λx c e z=>?_,λp hp z=>?_⟩
 ·obtain⟨v,q⟩:=I.cell x c e;exact absurd (q_m q.lt (by rw[z];exact hb)) (Nat.lt_irrefl _)
 ·exact absurd (q_m (q_h (I.pin p hp).1) (by rw[z];exact hb)) (Nat.lt_irrefl _)
structure Turn(P:Program)(w:World)(K:Kq)(tg:Expr)(J:It)(fp:List Addr)(it:Addr)(tn:Nat->Heap->Prop):Prop where
 mem:it∈fp
 obj:∀i h,tn i h->∀b∈fp,∃o,h.get? b=some o/\∀v,o.data≠.cell v
 keep:∀i h h',tn i h->(∀b∈fp,∀o,h.get? b=some o->h'.get? b=some o)->tn i h'
 item:∀(X:Cx),X.prog=P->X.w=w->X.K=K->X.calm=true->∀(i:Nat) (pins:Pq) (s:Shared) (σ:St) (H:Hp) (E:Vq),Inv X pins σ H s->(∀b∈fp,FpOk X pins H b)->tn i s.heap->J.go i H ->
  wpAny (model P w) X.A (pyNext (.ref it)) (λr s1=>∃u,r=some u /\
   wpAny (model P w) X.A (letOwnedTupleGo tg (.ref it) u) (λ_ s2=>∃x H',Inv X pins σ H' s2/\RelV x u/\J.yld i H x H'/\tn (i+1) s2.heap/\∀b∈fp,H' b=none) E s1) E s
 done:∀(X:Cx),X.prog=P->X.w=w->X.K=K->X.calm=true->∀(i:Nat) (pins:Pq) (s:Shared) (σ:St) (H:Hp) (E:Vq),Inv X pins σ H s->(∀b∈fp,FpOk X pins H b)->tn i s.heap->J.stop i H ->
  wpAny (model P w) X.A (pyNext (.ref it)) (λr s1=>r=none/\Inv X pins σ H s1) E s
 self:∀(A:Around) (i:Nat) (s:Shared) (Q:Vq) (E:Vq),tn i s.heap->Q (.ref it) s->wpAny (model P w) A (pyIter (.ref it)) Q E s
noncomputable abbrev TI:=St->Hp->(It->Hp->Prop)->Prop
def PIE(X:Cx)(pins:Pq)(σ:St)(tg:Expr)(R:It->Hp->Prop)(itv:Value)(s2:Shared):Prop :=
 ∃(it:Addr) (fp:List Addr) (tn:Nat->Heap->Prop) (J:It) (H':Hp),itv=.ref it/\Inv X pins σ H' s2/\Turn X.prog X.w X.K tg J fp it tn/\tn 0 s2.heap/\(∀b∈fp,FpOk X pins H' b)/\R J H'
def PI(X:Cx)(tg iter:Expr)(wi:TI):Prop :=
 ∀(pins:Pq) (s:Shared) (σ:St) (H:Hp) (R:It->Hp->Prop),Inv X pins σ H s->wi σ H R ->
  wpAny (model X.prog X.w) X.A (eval iter X.env) (λv s1=>wpAny (model X.prog X.w) X.A (pyIter v) (PIE X pins σ tg R) X.xe s1) X.xe s
theorem JKT{E:Vq}{it:Addr}{n:String}{Q:Unit->Shared->Prop}(ho:s.heap.get? it=some o)(hc:o.cls=.type n)(hd:o.data=.fields vs)
  (hn:["enumerate","zip","dict_itemiterator","dict_reverseitemiterator","odict_iterator","itertools.zip_longest","itertools.pairwise"].contains n=false) (hQ:Q () s):wpAny M A (letOwnedTupleGo tg (.ref it) u) Q E s:=by
 unfold letOwnedTupleGo;cases tg<;>first
  |exact q_e hQ
  |(cases u<;>first
      |exact q_e hQ
      |(refine q_b (wpAny_load ho ?_)
        rw[hc,hd];show wpAny M A (if (["enumerate","zip","dict_itemiterator","dict_reverseitemiterator","odict_iterator","itertools.zip_longest","itertools.pairwise"].contains n&&vs[0]? == some (rawInt _))=true then _ else _) Q E s;rw[if_neg (by intro h;rw[hn,Bool.false_and]at h;cases h)]
        exact q_e hQ))
noncomputable def Itl(K:Kq)(a:Addr):It :=
 ⟨λi H=>∃xs x,SqL K H a xs/\xs[i]? = some x,λi H x H'=>H'=H/\∀xs,SqL K H a xs->xs[i]? = some x,λi H=>∃xs,SqL K H a xs/\xs.length<=i⟩
noncomputable def Itt(K:Kq)(a:Addr):It :=
 ⟨λi H=>∃xs x,SqT K H a xs/\xs[i]? = some x,λi H x H'=>H'=H/\∀xs,SqT K H a xs->xs[i]? = some x,λi H=>∃xs,SqT K H a xs/\xs.length<=i⟩
noncomputable def Itr(lo:Int)(n:Nat):It:=⟨λi _=>i<n,λi H x H'=>H'=H/\x=.int (lo+i),λi _=>n<=i⟩
theorem JHO{P:Program}{w:World}{K:Kq}{tg:Expr}(a it:Addr):Turn P w K tg (Itl K a) [it] it (λi h=>h.IsListIter it a i) where
 mem:=by simp
 obj:=λi h st b hb=>by
  have e:b=it:=by simpa using hb
  subst e;obtain⟨o,e,c,d⟩:=st;exact⟨o,e,λv z=>by rw[d]at z;cases z⟩
 keep:=λi h h' st k=>st.at λo e=>k it (by simp) o e
 item:=by
  intro X hP hw hK hc i pins s σ H E I hf st hg;subst hP hw hK;obtain⟨xs,x,hq,hx⟩:=hg;obtain⟨its,rv,p,hz⟩:=I.list hq;obtain⟨u,hu,ru⟩:=rv.get hx;obtain⟨f0,f1,f2,f3,f4,f5⟩:=hf it (by simp)
  refine wpAny_pyNext_list_item st p.isList (x:=u) (by simpa using hu) λh' st' sb=>?_
  have I1:Inv X pins σ H { s with heap:=h' }:=I.turned (t':=s.toks) (λb o hb e=>(sb.2 b hb).trans e) f0 f1 f3 f4 f5
  obtain⟨o,e,c,d⟩:=id st';exact⟨u,rfl,JKT (s:={ s with heap:=h' }) e c d (by decide) ⟨x,H,I1,ru,⟨rfl,λys hy=>by rw[I.list_inj hy hq];exact hx⟩,st',λb hb=>(hf b hb).1⟩⟩
 done:=by
  intro X hP hw hK hc i pins s σ H E I hf st hg;subst hP hw hK;obtain⟨xs,hq,hx⟩:=hg;obtain⟨its,rv,p,hz⟩:=I.list hq;obtain⟨f0,f1,f2,f3,f4,f5⟩:=hf it (by simp)
  have hl:=rv.length;exact wpAny_pyNext_list_end (I.ok.hd hc) st p.isList (by simp;omega) λh' eb=>⟨rfl,I.turned (t':=s.toks) (λb o hb e=>eb b o hb e) f0 f1 f3 f4 f5⟩
 self:=λ_ _ _ _ _ st h=>wpAny_pyIter_listiter st h
theorem JG8{P:Program}{w:World}{K:Kq}{tg:Expr}(a it:Addr):Turn P w K tg (Itt K a) [it] it (λi h=>h.IsTupleIter it a i) where
 mem:=by simp
 obj:=λi h st b hb=>by
  have e:b=it:=by simpa using hb
  subst e;obtain⟨o,e,c,d⟩:=st;exact⟨o,e,λv z=>by rw[d]at z;cases z⟩
 keep:=λi h h' st k=>st.at λo e=>k it (by simp) o e
 item:=by
  intro X hP hw hK hc i pins s σ H E I hf st hg;subst hP hw hK;obtain⟨xs,x,hq,hx⟩:=hg;obtain⟨its,rv,p,hz⟩:=I.tuple hq;obtain⟨u,hu,ru⟩:=rv.get hx;obtain⟨f0,f1,f2,f3,f4,f5⟩:=hf it (by simp)
  refine wpAny_pyNext_tuple_item st (show s.heap.IsTuple a its.toArray from p) (x:=u) (by simpa using hu) λh' st' sb=>?_
  have I1:Inv X pins σ H { s with heap:=h' }:=I.turned (t':=s.toks) (λb o hb e=>(sb.2 b hb).trans e) f0 f1 f3 f4 f5
  obtain⟨o,e,c,d⟩:=id st';exact⟨u,rfl,JKT (s:={ s with heap:=h' }) e c d (by decide) ⟨x,H,I1,ru,⟨rfl,λys hy=>by rw[I.tuple_inj hy hq];exact hx⟩,st',λb hb=>(hf b hb).1⟩⟩
 done:=by
  intro X hP hw hK hc i pins s σ H E I hf st hg;subst hP hw hK;obtain⟨xs,hq,hx⟩:=hg;obtain⟨its,rv,p,hz⟩:=I.tuple hq;obtain⟨f0,f1,f2,f3,f4,f5⟩:=hf it (by simp)
  have hl:=rv.length;exact wpAny_pyNext_tuple_end (I.ok.hd hc) st (show s.heap.IsTuple a its.toArray from p) (by simp;omega) λh' eb=>⟨rfl,I.turned (t':=s.toks) (λb o hb e=>eb b o hb e) f0 f1 f3 f4 f5⟩
 self:=λ_ _ _ _ _ st h=>wpAny_pyIter_tupleiter st h
theorem JGv{P:Program}{w:World}{K:Kq}{tg:Expr}(it:Addr)(lo:Int)(n:Nat):Turn P w K tg (Itr lo n) [it] it (λi h=>IsRangeIter h it (lo+(i:Nat)*1) ((n:Int) - (i:Nat)) 1) where
 mem:=by simp
 obj:=λi h st b hb=>by
  have e:b=it:=by simpa using hb
  subst e;exact⟨_,st,λv z=>by
   have z':Data.fields _=Data.cell v:=z;cases z'⟩
 keep:=λi h h' st k=>k it (by simp) _ st
 item:=by
  intro X hP hw hK hc i pins s σ H E I hf st hg;subst hP hw hK;obtain⟨f0,f1,f2,f3,f4,f5⟩:=hf it (by simp)
  have W:=Walks.range (prog:=X.prog) (w:=X.w) (I.ok.hd hc) it lo 1 n;refine W.item i s _ _ hg st λv h' tk hv st' kk=>?_;obtain⟨t,rfl⟩:=hv;have I1:Inv X pins σ H { s with heap:=h',toks:=tk }:=I.turned (λb o hb e=>kk b o (by simpa using hb) e) f0 f1 f3 f4 f5
  refine⟨_,rfl,JKT (s:={ s with heap:=h',toks:=tk }) (n:="range_iterator") st' rfl rfl (by decide) ⟨.int (lo+i),H,I1,⟨t,?_⟩,⟨rfl,rfl⟩,st',λb hb=>(hf b hb).1⟩⟩
  rw[Int.mul_one]
 done:=by
  intro X hP hw hK hc i pins s σ H E I hf st hg;subst hP hw hK;obtain⟨f0,f1,f2,f3,f4,f5⟩:=hf it (by simp)
  exact wpAny_pyNext_range_end (I.ok.hd hc) st (by have:n<=i:=hg;omega) λh' eb=>⟨rfl,I.turned (t':=s.toks) (λb o hb e=>eb b o hb e) f0 f1 f3 f4 f5⟩
 self:=λ_ _ _ _ _ st h=>wpAny_pyIter_rangeiter st h
end L2
namespace L2
open PySem PySem.Spec PyProof.Rows
section
variable{X:Cx}{tg:Expr}
def iList(K:Kq)(tl:TE):TI:=λσ H R=>tl σ H λx H1=>∃a,x=.ref a/\(∃xs,SqL K H1 a xs)/\R (Itl K a) H1
def iTup(K:Kq)(tl:TE):TI:=λσ H R=>tl σ H λx H1=>∃a,x=.ref a/\(∃xs,SqT K H1 a xs)/\R (Itt K a) H1
theorem JJI{l:Expr}{tl:TE}(hl:PE X l tl):PI X tg l (iList X.K tl):=by
 intro pins s σ H R I h;refine thn (hl pins s σ H _ I h) λv s1 ⟨x,H1,I1,r1,q1⟩=>?_;obtain⟨a,e,⟨xs,hq⟩,q⟩:=q1;subst e;cases r1;obtain⟨its,rv,p,hz⟩:=I1.list hq;refine wpAny_pyIter_list p.isList ?_;refine⟨s1.heap.objs.size,[s1.heap.objs.size],_,_,H1,rfl,I1.kept (t':=s1.toks) λb o e=>q_c _ e,JHO a _,⟨_,q_k _ rfl,rfl,rfl⟩,λb hb=>?_,q⟩;have e:b=s1.heap.objs.size:=by simpa using hb
 subst e;exact I1.fpOk (q_t _) (I1.hok.fresh (q_t _))
theorem JPZ{l:Expr}{tl:TE}(hl:PE X l tl):PI X tg l (iTup X.K tl):=by
 intro pins s σ H R I h;refine thn (hl pins s σ H _ I h) λv s1 ⟨x,H1,I1,r1,q1⟩=>?_;obtain⟨a,e,⟨xs,hq⟩,q⟩:=q1;subst e;cases r1;obtain⟨its,rv,p,hz⟩:=I1.tuple hq;refine wpAny_pyIter_tuple (show s1.heap.IsTuple a its.toArray from p) ?_;refine⟨s1.heap.objs.size,[s1.heap.objs.size],_,_,H1,rfl,I1.kept (t':=s1.toks) λb o e=>q_c _ e,JG8 a _,⟨_,q_k _ rfl,rfl,rfl⟩,λb hb=>?_,q⟩;have e:b=s1.heap.objs.size:=by simpa using hb
 subst e;exact I1.fpOk (q_t _) (I1.hok.fresh (q_t _))
theorem JGM{R:It->Hp->Prop}{E:Vq}{lo hi:Int}{tk:Nat}(I:Inv X pins σ H s)(h1:-(2 ^ 62)<=lo)(h2:lo<2 ^ 62)(h3:-(2 ^ 62)<=hi)(h4:hi<2 ^ 62)
  (q:R (Itr lo (hi - lo).toNat) H):wpAny (model X.prog X.w) X.A (pyIter (.ref s.heap.objs.size)) (PIE X pins σ tg R) E { s with heap:=s.heap.push { cls:=.type "range",data:=.fields #[.int lo t,.int hi u,.int 1 v] },toks:=tk }:=by
 refine wpAny_pyIter_range (IsRange.new ..) (small_one h1 h2 h3 h4) ?_;have I1:Inv X pins σ H { s with heap:=s.heap.push { cls:=.type "range",data:=.fields #[.int lo t,.int hi u,.int 1 v] },toks:=tk }:=I.kept λb o e=>q_c _ e
 refine⟨(s.heap.push { cls:=.type "range",data:=.fields #[.int lo t,.int hi u,.int 1 v] }).objs.size,[(s.heap.push { cls:=.type "range",data:=.fields #[.int lo t,.int hi u,.int 1 v] }).objs.size],_,_,H,rfl,
  I1.kept (t':=tk) λb o e=>q_c _ e,JGv _ lo (hi - lo).toNat,?_,λb hb=>?_,q⟩
 ·have e1:lo+((0:Nat):Int)*1=lo:=by simp
  have e2:(((hi - lo).toNat:Nat):Int) - ((0:Nat):Int)=Builtin.Range.rangeSize lo hi 1:=by rw[rangeSize_one];split<;>omega
  show IsRangeIter _ _ (lo+((0:Nat):Int)*1) ((((hi - lo).toNat:Nat):Int) - ((0:Nat):Int)) 1;rw[e1,e2];exact q_k _ rfl
 ·have e:b=(s.heap.push { cls:=.type "range",data:=.fields #[.int lo t,.int hi u,.int 1 v] }).objs.size:=by simpa using hb
  subst e;exact I1.fpOk (q_t _) (I1.hok.fresh (q_t _))
def iRng1(ta:TA):TI:=λσ H R=>ta σ H λvs H1=>∃j:Int,vs=[.int j]/\-(2 ^ 62)<=j/\j<2 ^ 62/\R (Itr 0 j.toNat) H1
def iRng2(ta:TA):TI:=λσ H R=>ta σ H λvs H1=>∃i j:Int,vs=[.int i,.int j]/\(-(2 ^ 62)<=i/\i<2 ^ 62/\-(2 ^ 62)<=j/\j<2 ^ 62)/\R (Itr i (j - i).toNat) H1
theorem JH9(hg:Gl X "range")(hm:X.mg "range"=none)(ha:PA X [a] ta)(hs:starEach [a] X.env=[(false,eval a X.env)]:=by rfl):PI X tg (.Call (.Name "range" p) [a] [] pos) (iRng1 ta):=by
 intro pins s σ H R I h;refine Call_ (JFQ I hg hm boot_range (PyProof.Rows.callWith_type1 (thn (ha pos pins s σ H _ I h) λus s1 ⟨vs,H1,I1,r1,q1⟩=>?_) hs rfl));obtain⟨j,e,q1,q2,q⟩:=q1;subst e;cases r1 with
 |cons r rr =>
  cases rr;obtain⟨t,rfl⟩:=r;exact call_range_1 (JGM I1 (by omega) (by omega) q1 q2 (by simpa using q))
theorem JIY{a b:Expr}(hg:Gl X "range")(hm:X.mg "range"=none)(ha:PA X [a,b] ta)(hs:starEach [a,b] X.env=[(false,eval a X.env),(false,eval b X.env)]:=by rfl)(hs2:starEach [b] X.env=[(false,eval b X.env)]:=by rfl) :
  PI X tg (.Call (.Name "range" p) [a,b] [] pos) (iRng2 ta):=by
 intro pins s σ H R I h;refine Call_ (JFQ I hg hm boot_range (PyProof.Rows.callWith_type1 (thn (ha pos pins s σ H _ I h) λus s1 ⟨vs,H1,I1,r1,q1⟩=>?_) (by rw[hs,hs2]) (by rw[hs2];rfl)))
 obtain⟨i,j,e,⟨q1,q2,q3,q4⟩,q⟩:=q1;subst e;cases r1 with
 |cons r rr =>
  cases rr with
  |cons r' rr =>
   cases rr;obtain⟨t,rfl⟩:=r;obtain⟨t',rfl⟩:=r';exact call_range_2 (JGM I1 q1 q2 q3 q4 q)
def tFor(wi:TI)(g:TG)(tb:TS):TS:=λD σ H=>wi σ H λJ H1=>∃W:Nat->Nat->St->Hp->Prop,(∃m,W 0 m σ H1)/\∀i m σ H,W i m σ H ->
 (J.stop i H/\D.nx σ H)\/(J.go i H/\∃N:St->Hp->Prop,(∀σ' H',N σ' H'->∃m',m'<m/\W (i+1) m' σ' H')/\∀x H',J.yld i H x H'->g x σ H' λσ2 H2=>tb { D with nx:=N,ct:=N,bk:=D.nx } σ2 H2)
noncomputable def JCG(fp:List Addr)(h:Heap):Pq:=fp.filterMap λb=>(h.get? b).map λo=>(b,o)
theorem JA9{b:Addr}(hb:b∈fp)(e:h.get? b=some o):(b,o)∈JCG fp h:=List.mem_filterMap.mpr ⟨b,hb,by rw[e];rfl⟩
theorem JEg(hp:p∈JCG fp h):p.1∈fp/\h.get? p.1=some p.2:=by
 obtain⟨b,hb,e⟩:=List.mem_filterMap.mp hp;cases q:h.get? b with
 |none=>rw[q]at e;cases e
 |some o =>
  rw[q]at e;have e':(b,o)=p:=Option.some.inj e;subst e';exact⟨hb,q⟩
theorem Inv.pinned(I:Inv X pins σ H s)(hf:∀b∈fp,FpOk X pins H b)(ho:∀b∈fp,∃o,s.heap.get? b=some o/\∀v,o.data≠.cell v):Inv X (pins++JCG fp s.heap) σ H s :=
 I.pins_of λp hp=>(List.mem_append.mp hp).elim (λz=>I.pin p (q_r _ z)) λz=>by
  obtain⟨hb,e⟩:=JEg z;obtain⟨f0,f1,f2,_⟩:=hf p.1 hb;obtain⟨o,e',d⟩:=ho p.1 hb;rw[e]at e';cases e';exact⟨e,f0,f1,f2,d⟩
theorem Inv.unpinned(I:Inv X (pins++pl) σ H s):Inv X pins σ H s:=I.pins_of λp hp=>I.pin p (q_r _ (List.mem_append_left _ hp))
theorem JOr(hp:PassesOwn (model X.prog X.w) X.A X.env X.xe)(hc:X.calm=true)(hi:PI X tg iter wi)(hg:PG X tg g)(hb:PSs X body tb)
  (hs:∀x,foldedSetIterable iter X.env x=pure x:=by intro _;rfl):PS X (.For tg iter body [] pos) (tFor wi g tb):=by
 intro pins s σ H D I h;refine wpAny_For (thn (hi pins s σ H _ I h) λv s1 h1=>thn h1 λitv s2 h2=>?_) hs;obtain⟨it,fp,tn,J,H2,e,I2,T,st2,f2,W,⟨m0,w0⟩,turn⟩:=h2;subst e;have stat:∀ {H':Hp},(∀b∈fp,H' b=none)->∀b∈fp,FpOk X pins H' b:=λhn b hb=>⟨hn b hb,(f2 b hb).2⟩;refine codeAny_forLoop_any (λn s'=>∃i σ' H',Inv X pins σ' H' s'/\tn i s'.heap/\(∀b∈fp,H' b=none)/\W i n σ' H') ?_ m0 ⟨0,σ,H2,I2,st2,λb hb=>(f2 b hb).1,w0⟩;rintro n s3 ⟨i,σ3,H3,I3,st3,fr3,w3⟩;rcases turn i n σ3 H3 w3 with ⟨stop,qn⟩|⟨go,N,hN,step⟩
 ·refine wpAny_passesOwn hp (thn (T.done X rfl rfl rfl hc i pins s3 σ3 H3 X.xe I3 (stat fr3) st3 stop) λr s4 ⟨hr,I4⟩=>?_);subst hr;exact wpAny_execs_nil ⟨σ3,H3,I4,qn⟩
 ·refine wpAny_passesOwn hp (thn (T.item X rfl rfl rfl hc i pins s3 σ3 H3 X.xe I3 (stat fr3) st3 go) λr s4 ⟨u,hr,h4⟩=>?_);subst hr;refine wpAny_passesOwn hp (thn h4 λ_ s5 ⟨x,H5,I5,r5,y5,st5,fr5⟩=>?_);have I5':=I5.pinned (stat fr5) (T.obj _ _ st5);refine wpAny_passesOwn hp (thn (hg _ s5 σ3 H5 x u _ I5' r5 (step x H5 y5)) λ_ s6 ⟨σ6,H6,I6,q6⟩=>?_);refine wpAny_passesOwn hp (thn (hb _ s6 σ6 H6 _ I6 q6) λf s7 q7=>?_);have again:∀ {σ7:St}{H7:Hp},Inv X (pins++JCG fp s5.heap) σ7 H7 s7->N σ7 H7->∃m,m<n/\∃i σ' H',Inv X pins σ' H' s7/\tn i s7.heap/\(∀b∈fp,H' b=none)/\W i m σ' H':=λ{σ7 H7} I7 n7=>by
    obtain⟨m',hm,w7⟩:=hN σ7 H7 n7;refine⟨m',hm,i+1,σ7,H7,I7.unpinned,T.keep _ _ _ st5 λb hb o e=>(I7.pin (b,o) (q_r _ (q_r _ (JA9 hb e)))).1,λb hb=>?_,w7⟩;obtain⟨o,e,d⟩:=T.obj _ _ st5 b hb;exact(I7.pin (b,o) (q_r _ (q_r _ (JA9 hb e)))).2.1
  cases f with
  |next=>obtain⟨σ7,H7,I7,n7⟩:=q7;exact again I7 n7
  |cont=>obtain⟨σ7,H7,I7,n7⟩:=q7;exact again I7 n7
  |brk=>obtain⟨σ7,H7,I7,q7⟩:=q7;exact⟨σ7,H7,I7.unpinned,q7⟩
  |ret v=>obtain⟨x7,σ7,H7,I7,r7,q7⟩:=q7;exact⟨x7,σ7,H7,I7.unpinned,r7,q7⟩
end
end L2
namespace L2
open PySem PySem.Spec PyProof.Rows
noncomputable abbrev R2:=V->V->Hp->VK->Prop
def OpR(X:Cx)(f:Value->Value->Sem Value)(r:R2):Prop :=
 ∀(pins:Pq) (s:Shared) (σ:St) (H:Hp) (x y:V) (v u:Value) (Q:VK),Inv X pins σ H s->RelV x v->RelV y u->r x y H Q ->
  wpAny (model X.prog X.w) X.A (f v u) (EP X pins σ Q) X.xe s
def UnR(X:Cx)(f:Value->Sem Value)(r:V->Hp->VK->Prop):Prop :=
 ∀(pins:Pq) (s:Shared) (σ:St) (H:Hp) (x:V) (v:Value) (Q:VK),Inv X pins σ H s->RelV x v->r x H Q ->
  wpAny (model X.prog X.w) X.A (f v) (EP X pins σ Q) X.xe s
def JBm(X:Cx)(f:Value)(r:List V->Hp->VK->Prop):Prop :=
 ∀(pins:Pq) (s:Shared) (σ:St) (H:Hp) (xs:List V) (us:List Value) (Q:VK),Inv X pins σ H s->Vals xs us->r xs H Q ->
  wpAny (model X.prog X.w) X.A (call f us) (EP X pins σ Q) X.xe s
def TruR(X:Cx)(r:V->Hp->(Bool->Hp->Prop)->Prop):Prop :=
 ∀(pins:Pq) (s:Shared) (σ:St) (H:Hp) (x:V) (v:Value) (Q:Bool->Hp->Prop),Inv X pins σ H s->RelV x v->r x H Q ->
  wpAny (model X.prog X.w) X.A (truthy v) (TP X pins σ Q) X.xe s
def tOp(r:R2)(ta tb:TE):TE:=λσ H Q=>ta σ H λx H1=>tb σ H1 λy H2=>r x y H2 Q
def tUn(r:V->Hp->VK->Prop)(ta:TE):TE:=λσ H Q=>ta σ H λx H1=>r x H1 Q
noncomputable def rI(C:Int->Int->Prop)(g:Int->Int->V):R2:=λx y H Q=>∃i j,x=.int i/\y=.int j/\C i j/\Q (g i j) H
noncomputable def rI0(g:Int->Int->V):R2:=λx y H Q=>∃i j,x=.int i/\y=.int j/\Q (g i j) H
def rU(g:Int->V):V->Hp->VK->Prop:=λx H Q=>∃i,x=.int i/\Q (g i) H
section
variable{X:Cx}{a b c:Expr}{ta tb tc:TE}{pos:Pos}
theorem binT(ha:PE X a ta)(hb:PE X b tb){pins:Pq}{s:Shared}{σ:St}{H:Hp}{R:V->V->Hp->Prop}(I:Inv X pins σ H s)
  (h:ta σ H λx H1=>tb σ H1 λy H2=>R x y H2) {Q:Vq}{f:Value->Value->Sem Value}
  (hf:∀v u s2 x y H2,Inv X pins σ H2 s2->RelV x v->RelV y u->R x y H2->wpAny (model X.prog X.w) X.A (f v u) Q X.xe s2) :
  wpAny (model X.prog X.w) X.A (eval a X.env) (λv s₁=>wpAny (model X.prog X.w) X.A (eval b X.env) (λu s₂=>wpAny (model X.prog X.w) X.A (f v u) Q X.xe s₂) X.xe s₁) X.xe s:=by
 refine thn (ha pins s σ H _ I h) λv s1 ⟨x,H1,I1,r1,q1⟩=>?_;refine thn (hb pins s1 σ H1 _ I1 q1) λu s2 ⟨y,H2,I2,r2,q2⟩=>?_;exact hf v u s2 x y H2 I2 r1 r2 q2
theorem JSH{op:Operator}{r:R2}(ho:OpR X (binaryOp op) r)(ha:PE X a ta)(hb:PE X b tb):PE X (.BinOp a op b pos) (tOp r ta tb):=by
 intro pins s σ H Q I h;exact wpAny_BinOp (binT ha hb I h λv u s2 x y H2 I2 rx ry q=>ho pins s2 σ H2 x y v u Q I2 rx ry q)
theorem JSD(ho:UnR X (unaryOp op) r)(ha:PE X a ta):PE X (.UnaryOp op a pos) (tUn r ta):=by
 intro pins s σ H Q I h;exact UnaryOp_ (thn (ha pins s σ H _ I h) λv s1 ⟨x,H1,I1,r1,q1⟩=>ho pins s1 σ H1 x v Q I1 r1 q1)
theorem opI{f:Value->Value->Sem Value}{C:Int->Int->Prop}{g:Int->Int->Int}
  (rule:∀(i j:Int) (t u:Tok) (s:Shared) (Q:Vq) (E:Vq),C i j->Q (.int (g i j) s.toks) { s with toks:=s.toks+1 }->wpAny (model X.prog X.w) X.A (f (.int i t) (.int j u)) Q E s) :
  OpR X f (rI C λi j=>.int (g i j)):=by
 intro pins s σ H x y v u Q I rx ry h;obtain⟨i,j,rfl,rfl,hc,q⟩:=h;obtain⟨t,rfl⟩:=rx;obtain⟨t',rfl⟩:=ry;exact rule i j t t' s _ _ hc ⟨.int (g i j),H,I.tok _,⟨_,rfl⟩,q⟩
theorem opI0{f:Value->Value->Sem Value}{g:Int->Int->Int}
  (rule:∀(i j:Int) (t u:Tok) (s:Shared) (Q:Vq) (E:Vq),Q (.int (g i j) s.toks) { s with toks:=s.toks+1 }->wpAny (model X.prog X.w) X.A (f (.int i t) (.int j u)) Q E s) :
  OpR X f (rI0 λi j=>.int (g i j)):=by
 intro pins s σ H x y v u Q I rx ry h;obtain⟨i,j,rfl,rfl,q⟩:=h;obtain⟨t,rfl⟩:=rx;obtain⟨t',rfl⟩:=ry;exact rule i j t t' s _ _ ⟨.int (g i j),H,I.tok _,⟨_,rfl⟩,q⟩
theorem opB0{f:Value->Value->Sem Value}{g:Int->Int->Bool}
  (rule:∀(i j:Int) (t u:Tok) (s:Shared) (Q:Vq) (E:Vq),Q (.bool (g i j)) s->wpAny (model X.prog X.w) X.A (f (.int i t) (.int j u)) Q E s) :
  OpR X f (rI0 λi j=>.bl (g i j)):=by
 intro pins s σ H x y v u Q I rx ry h;obtain⟨i,j,rfl,rfl,q⟩:=h;obtain⟨t,rfl⟩:=rx;obtain⟨t',rfl⟩:=ry;exact rule i j t t' s _ _ ⟨.bl (g i j),H,I,rfl,q⟩
def CPow(i j:Int):Prop:=0<=j/\j<=1000000/\i.natAbs<2 ^ 64
theorem JRl:OpR X (binaryOp .Add) (rI0 λi j=>.int (i+j)):=opI0 λ_ _ _ _ _ _ _ q=>add_int q
theorem JSE:OpR X (binaryOp .Sub) (rI0 λi j=>.int (i - j)):=opI0 λ_ _ _ _ _ _ _ q=>sub_int q
theorem JNk:OpR X (binaryOp .Mod) (rI (λ_ j=>j≠0) λi j=>.int (i.fmod j)):=opI λ_ _ _ _ _ _ _ hc q=>mod_int' hc q
theorem JQR:OpR X (binaryOp .Pow) (rI CPow λi j=>.int (i ^ j.toNat)):=opI λ_ _ _ _ _ _ _ hc q=>pow_int_small hc.1 hc.2.1 hc.2.2 q
theorem unI{f:Value->Sem Value}{g:Int->Int}
  (rule:∀(i:Int) (t:Tok) (s:Shared) (Q:Vq) (E:Vq),Q (.int (g i) s.toks) { s with toks:=s.toks+1 }->wpAny (model X.prog X.w) X.A (f (.int i t)) Q E s) :
  UnR X f (rU λi=>.int (g i)):=by
 intro pins s σ H x v Q I rx h;obtain⟨i,rfl,q⟩:=h;obtain⟨t,rfl⟩:=rx;exact rule i t s _ _ ⟨.int (g i),H,I.tok _,⟨_,rfl⟩,q⟩
theorem JLg:UnR X (unaryOp .USub) (rU λi=>.int (-i)):=unI λ_ _ _ _ _ q=>neg_int q
end
section
variable{X:Cx}{a b c:Expr}{ta tb tc:TE}{pos:Pos}
theorem op_lt:OpR X (compareOp .Lt) (rI0 λi j=>.bl (decide (i<j))):=opB0 λ_ _ _ _ _ _ _ q=>lt_int q
theorem op_le:OpR X (compareOp .LtE) (rI0 λi j=>.bl (decide (i<=j))):=opB0 λ_ _ _ _ _ _ _ q=>le_int q
theorem op_gt:OpR X (compareOp .Gt) (rI0 λi j=>.bl (decide (j<i))):=opB0 λ_ _ _ _ _ _ _ q=>gt_int q
theorem op_ge:OpR X (compareOp .GtE) (rI0 λi j=>.bl (decide (j<=i))):=opB0 λ_ _ _ _ _ _ _ q=>ge_int q
theorem JFj{op:CmpOp}{r:R2}(ho:OpR X (compareOp op) r)(ha:PE X a ta)(hb:PE X b tb)(hm:behindInMarks op b=false):PE X (.Compare a [op] [b] pos) (tOp r ta tb):=by
 intro pins s σ H Q I h;exact wpAny_Compare1 (binT ha hb I h λv u s2 x y H2 I2 rx ry q=>ho pins s2 σ H2 x y v u Q I2 rx ry q) hm
def JQh(t:TE):TT:=λσ H Q=>t σ H λx H'=>∃k,x=.bl k/\Q k H'
theorem JFc(ho:OpR X (compareOp op) r)(ha:PE X a ta)(hb:PE X b tb)(hm:behindInMarks op b=false):PT X (.Compare a [op] [b] pos) (JQh (tOp r ta tb)):=by
 intro pins s σ H Q I h;refine wpAny_isTrue_Compare1 (thn (ha pins s σ H _ I h) λv s1 ⟨x,H1,I1,r1,q1⟩=>thn (hb pins s1 σ H1 _ I1 q1) λu s2 ⟨y,H2,I2,r2,q2⟩ =>
  thn (ho pins s2 σ H2 x y v u _ I2 r1 r2 q2) λc s3 ⟨z,H3,I3,r3,k,e,q3⟩=>?_) hm
 subst e;cases r3;exact wpAny_truthy_bool ⟨H3,I3,q3⟩
def TruV(K:Kq)(x:V)(H:Hp)(k:Bool):Prop :=
 match x with
 |.non=>k=false
 |.bl b=>k=b
 |.int i=>k=(i != 0)
 |.str y=>y.length<=sizeLine/\k=((y.length:Int) != 0)
 |.byt y=>y.size<=sizeLine/\k=((y.size:Int) != 0)
 |.ref p=>(∃xs,SqL K H p xs/\k=!xs.isEmpty)\/(∃xs,SqT K H p xs/\k=!xs.isEmpty)\/∃kvs,H p=some (.dK kvs)/\k=!kvs.isEmpty
 |_=>False
theorem JGm{κ:Type}{kvs:List (κ×V)}{vs:List (κ×Value)}(r:KV kvs vs):(!vs.isEmpty)=!kvs.isEmpty:=by
 cases r<;>rfl
theorem JDh{xs:List V}{its:List Value}(r:Vals xs its):(!its.toArray.isEmpty)=!xs.isEmpty:=by
 cases r<;>simp
theorem JFE:(sizeLine:Nat)<2 ^ 63:=by rw[sizeLine_eq];decide
theorem JMN:TruR X (λx H Q=>∃k,TruV X.K x H k/\Q k H):=by
 intro pins s σ H x v Q I rx h;obtain⟨k,e,q⟩:=h;have hl:=JFE;have hs:sizeLine=16777216:=sizeLine_eq;cases x with
 |non =>
  cases rx;have e':k=false:=e;subst e';exact truthy_none ⟨H,I,q⟩
 |bl b =>
  cases rx;have e':k=b:=e;subst e';exact wpAny_truthy_bool ⟨H,I,q⟩
 |int i =>
  obtain⟨t,rfl⟩:=rx;have e':k=(i != 0):=e;subst e';exact PySem.P.truthy_int ⟨H,I,q⟩
 |str y =>
  obtain⟨t,rfl⟩:=rx;obtain⟨hy,e'⟩:y.length<=sizeLine/\k=((y.length:Int) != 0):=e;subst e';exact PySem.P.truthy_str (by omega) ⟨H,I.tok _,q⟩
 |byt y =>
  obtain⟨t,rfl⟩:=rx;obtain⟨hy,e'⟩:y.size<=sizeLine/\k=((y.size:Int) != 0):=e;subst e';exact PySem.W.truthy_bytes (by omega) ⟨H,I.tok _,q⟩
 |ref p =>
  cases rx;have e':(∃xs,SqL X.K H p xs/\k=!xs.isEmpty)\/(∃xs,SqT X.K H p xs/\k=!xs.isEmpty)\/∃kvs,H p=some (.dK kvs)/\k=!kvs.isEmpty:=e;rcases e' with ⟨xs,hx,e'⟩|⟨xs,hx,e'⟩|⟨kvs,hx,e'⟩
  ·subst e';obtain⟨its,r,pl,hz⟩:=I.list hx;have hlen:=r.length;exact wpAny_truthy_list pl.isList (by simp only[q_f];omega) ⟨H,I.tok _,by rw[JDh r];exact q⟩
  ·subst e';obtain⟨its,r,pl,hz⟩:=I.tuple hx;have hlen:=r.length;exact truthy_tuple pl (by simp only[q_f];omega) ⟨H,I.tok _,by rw[JDh r];exact q⟩
  ·subst e';obtain⟨hz,hS,vs,r,m⟩:kvs.length<=sizeLine/\(p==sysModules)=false/\∃vs,KV kvs vs/\s.heap.DictOf (JBO X.prog X.w) p vs:=I.hok p _ hx;have hlen:kvs.length=vs.length:=Paired.length r;exact wpAny_truthy_dict hS m (by omega) ⟨H,I.tok _,by rw[JGm r];exact q⟩
 |_=>exact(show False from e).elim
theorem JKQ(ha:PE X a ta)(he:∀whole,isTrue a X.env whole=(do let v<-whole;standAt a.pos;holding [v] (truthy v))) :
  PT X a (λσ H Q=>ta σ H λx H'=>∃k,TruV X.K x H' k/\Q k H'):=by
 intro pins s σ H Q I h;exact isTrue_plain (thn (ha pins s σ H _ I h) λv s1 ⟨x,H1,I1,r1,q1⟩=>JMN pins s1 σ H1 x v Q I1 r1 q1) (he _)
theorem vals1(r:Vals [x] us):∃u,us=[u]/\RelV x u:=by
 cases r with
 |cons r1 r2=>cases r2;exact⟨_,rfl,r1⟩
theorem vals2(r:Vals [x,y] us):∃u w',us=[u,w']/\RelV x u/\RelV y w':=by
 cases r with
 |cons r1 r2 =>
  cases r2 with
  |cons r3 r4=>cases r4;exact⟨_,_,rfl,r1,r3⟩
theorem JKd:JBm X (.builtin "abs") (λxs H Q=>∃i,xs=[.int i]/\Q (.int (if i<0 then -i else i)) H):=by
 intro pins s σ H xs us Q I r h;obtain⟨i,rfl,q⟩:=h;obtain⟨u,rfl,t,rfl⟩:=vals1 r;exact call_abs_int λu tk=>⟨.int (if i<0 then -i else i),H,I.tok _,⟨_,rfl⟩,q⟩
theorem JIo(hc:X.calm=true):JBm X (.builtin "max") (λxs H Q=>∃i j,xs=[.int i,.int j]/\Q (.int (if j > i then j else i)) H):=by
 intro pins s σ H xs us Q I r h;obtain⟨i,j,rfl,q⟩:=h;obtain⟨u,w',rfl,⟨t,rfl⟩,⟨t',rfl⟩⟩:=vals2 r;refine max_two_ints (I.ok.hd hc) λh' tk k=>⟨_,H,I.kept k,?_,q⟩
 by_cases hj:j > i
 ·rw[if_pos hj,if_pos hj];exact⟨_,rfl⟩
 ·rw[if_neg hj,if_neg hj];exact⟨_,rfl⟩
def LenV(K:Kq)(x:V)(H:Hp)(n:Nat):Prop :=
 match x with
 |.str y=>y.length<=sizeLine/\n=y.length
 |.byt y=>y.size<=sizeLine/\n=y.size
 |.ref p=>(∃xs,SqL K H p xs/\n=xs.length)\/∃xs,SqT K H p xs/\n=xs.length
 |_=>False
theorem JJt:JBm X (.builtin "len") (λxs H Q=>∃x n,xs=[x]/\LenV X.K x H n/\Q (.int n) H):=by
 intro pins s σ H xs us Q I r h;obtain⟨x,n,rfl,e,q⟩:=h;obtain⟨u,rfl,rx⟩:=vals1 r;have hl:=JFE;have hs:sizeLine=16777216:=sizeLine_eq;cases x with
 |str y =>
  obtain⟨t,rfl⟩:=rx;obtain⟨hy,e'⟩:y.length<=sizeLine/\n=y.length:=e;subst e';exact len_str (by omega) ⟨.int _,H,I.tok _,⟨_,rfl⟩,q⟩
 |byt y =>
  obtain⟨t,rfl⟩:=rx;obtain⟨hy,e'⟩:y.size<=sizeLine/\n=y.size:=e;subst e';exact PySem.W.len_bytes (by omega) ⟨.int _,H,I.tok _,⟨_,rfl⟩,q⟩
 |ref p =>
  cases rx;have e':(∃xs,SqL X.K H p xs/\n=xs.length)\/∃xs,SqT X.K H p xs/\n=xs.length:=e;rcases e' with ⟨xs,hx,e'⟩|⟨xs,hx,e'⟩
  ·subst e';obtain⟨its,r',pl,hz⟩:=I.list hx;have hlen:=r'.length;exact Calls.call_len_list pl.isList (by simp only[q_f];omega) ⟨.int xs.length,H,I.tok _,⟨_,by simp only[q_f];rw[hlen]⟩,q⟩
  ·subst e';obtain⟨its,r',pl,hz⟩:=I.tuple hx;have hlen:=r'.length;exact len_tuple pl (by simp only[q_f];omega) ⟨.int xs.length,H,I.tok _,⟨_,by simp only[q_f];rw[hlen]⟩,q⟩
 |_=>exact(show False from e).elim
end
end L2
namespace L2
open PySem PySem.Spec PyProof.Rows
section
variable{prog:Program}{w:World}{A:Around}{E:Vq}{s:Shared}{K:Kq}{x dx C f:Addr}{mA:Mq}{name:Str}{v:Value}
end
section
variable{P:Program}{w:World}{H H':Hp}{h h':Heap}{a C dx:Addr}{fs fs':List (Str×V)}
end
structure Cls(K:Kq)(C:Addr):Prop where
 pg:PySem.W.plainGet K C Str.empty=true
 hd:PySem.W.hasDictIn K C=true
 po:PySem.W.plainOver K C=true
 sa:PySem.W.findIn K (.ref C) "__setattr__"=some (some (.builtin "object.__setattr__"))
def JSF(K:Kq)(C:Addr)(f:Str):Prop:=PySem.W.findIn K (.ref C) f=some none
structure Meth(K:Kq)(C:Addr)(m:Str)(f:Addr):Prop where
 at_:PySem.W.findIn K (.ref C) m=some (some (.ref f))
 fn:PySem.W.isFn K (.ref f)=true
 kp:PySem.W.keepIn K (.ref f)=true
section
variable{X:Cx}{pins:Pq}{σ:St}{H:Hp}{s:Shared}{a C dx:Addr}{fs:List (Str×V)}{f:Str}{v:V}{A:Around}{E:Vq}
end
section
variable{X:Cx}{o e value:Expr}{f:Str}{pos pos' tpos:Pos}{ta tv:TE}
end
section
variable{X:Cx}{pins:Pq}{σ:St}{H:Hp}{s:Shared}{A:Around}{E:Vq}{Q:Vq}{c:Value}{b:Bool}
end
end L2
namespace L2
open PySem PySem.Spec PyProof.Rows
structure Room(k:Nat)(A:Around):Prop where
 hd:A.handled=none
 dp:A.depth+3*k+5<recursionLimit
 un:A.units+16*k+200<cLine
theorem Room.deeper{k:Nat}(r:Room (k+1) A)(env:Env):Room k (A.deeper env) :=
 ⟨r.hd,by have:=r.dp;show A.depth+1+3*k+5<_;omega,by have:=r.un;show A.units+3+16*k+200<_;omega⟩
theorem Room.depth{k:Nat}{A:Around}(r:Room k A):A.depth<recursionLimit:=by have:=r.dp;omega
def tNil:TA:=λ_ H Q=>Q [] H
def JSL(ta:TE)(tr:TA):TA:=λσ H Q=>ta σ H λx H1=>tr σ H1 λxs H2=>Q (x::xs) H2
section
variable{X:Cx}{e:Expr}{es:List Expr}{te:TE}{t:TA}{pos:Pos}
theorem JBp:PA X [] tNil:=λ_ _ _ _ H Q I h=>Calls.spliced_nil ⟨[],H,I,.nil,h⟩
theorem JBG(ha:PE X e te)(hr:PA X es t)(hs:starEach (e::es) X.env=(false,eval e X.env)::starEach es X.env:=by rfl):PA X (e::es) (JSL te t):=by
 intro pos pins s σ H Q I h;rw[hs];show wpAny _ _ (spliced ((false,eval e X.env)::backTo pos (starEach es X.env))) _ _ s;refine Calls.spliced_cons (thn (ha pins s σ H _ I h) λu s1 ⟨x,H1,I1,r1,q1⟩=>?_);exact thn (hr pos pins s1 σ H1 _ I1 q1) λus s2 ⟨xs,H2,I2,r2,q2⟩=>⟨x::xs,H2,I2,.cons r1 r2,q2⟩
def tTup(t:TA):TE:=λσ H Q=>t σ H λxs H1=>xs.length<=sizeLine/\∀p,H1 p=none->Q (.ref p) (upd H1 p (.tup xs))
def tLst(t:TA):TE:=λσ H Q=>t σ H λxs H1=>xs.length<=sizeLine/\∀p,H1 p=none->Q (.ref p) (upd H1 p (.lst xs))
theorem JL3{x1}(h:PA X es t):PE X (.Tuple es x1 pos) (tTup t):=by
 intro pins s σ H Q I hq;refine wpAny_Tuple_spliced (thn (h pos pins s σ H _ I hq) λus s1 ⟨xs,H1,I1,r,z,q⟩=>⟨by rw[<-r.length];exact z,?_⟩)
 have hf:H1 s1.heap.objs.size=none:=I1.hok.fresh (q_t _);refine⟨.ref s1.heap.objs.size,upd H1 s1.heap.objs.size (.tup xs),I1.laid (t':=s1.toks) (λb u e=>q_c _ e) (q_t _) ?_,rfl,q _ hf⟩;exact⟨z,us,r,⟨_,q_k _ rfl,rfl,_,rfl⟩⟩
theorem JH6(h:PA X es t):PE X (.List es pos) (tLst t):=by
 intro pins s σ H Q I hq;refine wpAny_List_spliced (thn (h pos pins s σ H _ I hq) λus s1 ⟨xs,H1,I1,r,z,q⟩=>⟨by rw[<-r.length];exact z,?_⟩)
 have hf:H1 s1.heap.objs.size=none:=I1.hok.fresh (q_t _);refine⟨.ref s1.heap.objs.size,upd H1 s1.heap.objs.size (.lst xs),I1.laid (t':=s1.toks) (λb u e=>q_c _ e) (q_t _) ?_,rfl,q _ hf⟩;exact⟨z,us,0,r,q_k _ rfl⟩
end
noncomputable abbrev Sp:=List V->Hp->VK->XK->Prop
noncomputable abbrev CXT:=List Env->Hp->Shared->XK->Vq
structure Env0(P:Program)(w:World)(K:Kq)(mg:Mq)(base:Heap)(A:Around)(outer:List Env)(s:Shared)(H:Hp):Prop where
 frames:A.frames=some outer
 mod:Mod K mg base
 bs:∀b o,base.get? b=some o->s.heap.get? b=some o/\H b=none
 bsz:base.objs.size<=s.heap.objs.size
 funs:s.heap.FunFrames base outer
 frf:∀b∈frs outer,H b=none
 hok:HOk P w H s.heap
 bare:AllBare s.gens
def CE(outer:List Env)(P:Program)(w:World)(H:Hp)(s:Shared)(Q:VK)(u:Value)(s':Shared):Prop :=
 ∃v H',s'.os=s.os/\AllBare s'.gens/\Un (frs outer) [] H H' s.heap s'.heap/\HOk P w H' s'.heap/\RelV v u/\Q v H'
def CR(CX:CXT)(outer:List Env)(P:Program)(w:World)(H:Hp)(s:Shared)(Q:VK)(E:XK)(r:Result)(s':Shared):Prop :=
 match r with
 |.ok (.ret u)=>CE outer P w H s Q u s'
 |.ok _=>False
 |.error e=>CX outer H s E e s'
structure FnOk(P:Program)(w:World)(K:Kq)(mg:Mq)(base:Heap)(CX:CXT)(k:Nat)(f:Addr)(fd:FuncData)(ps:List Str)(sp:Sp):Prop where
 len:∀vs H Q E,sp vs H Q E->vs.length=ps.length
 run:∀(A:Around) (outer:List Env) (s:Shared) (H:Hp) (args:Args) (us:List Value) (vs:List V) (Q:VK) (E:XK),Room k A->Env0 P w K mg base A outer s H->BindsTo s fd args (ps.zip us)->Vals vs us->sp vs H Q E ->
  codeAny (model P w) A (.call (.ref f) args) (CR CX outer P w H s Q E) s
section
variable{X:Cx}{pins:Pq}{σ:St}{H:Hp}{s s':Shared}
theorem Inv.env0(I:Inv X pins σ H s):Env0 X.prog X.w X.K X.mg X.base X.A X.stack s H :=
 ⟨I.ok.frames,I.ok.mod,I.bs,Nat.le_trans I.ok.bsz I.sz,I.stack,I.stkFree,I.hok,I.bare⟩
theorem Inv.after{Q:VK}{u:Value}(I:Inv X pins σ H s)(h:CE X.stack X.prog X.w H s Q u s'):EP X pins σ Q u s':=by
 obtain⟨v,H',os,bare,un,hok,r,q⟩:=h;obtain⟨hh,g,d,t,os'⟩:=s';obtain rfl:os'=s.os:=os;exact⟨v,H',I.call (h':=hh) (g':=g) (d':=d) (t':=t) (ch:=[]) un hok bare (λb z=>absurd z (by simp)),r,q⟩
end
def tCall(sp:Sp)(dvs:List V)(E:XK)(t:TA):TE:=λσ H Q=>t σ H λvs H1=>sp (vs++dvs) H1 Q E
def Binds(K:Kq)(fd:FuncData)(ps:List Str)(ds:List Value):Prop :=
 ∀(s:Shared) (us:List Value),K.In s.heap->(us++ds).length=ps.length->BindsTo s fd ⟨us,[]⟩ (ps.zip (us++ds))
theorem Binds.all{K:Kq}{fd:FuncData}{ps:List Str}(h:∀us:List Value,us.length=ps.length->bindArgs fd ⟨us,[]⟩=pure (ps.zip us)):Binds K fd ps []:=λs us _ hl=>by
 rw[List.append_nil]at hl ⊢;exact .of_eq (h us hl)
def JDv(CX:CXT)(X:Cx)(E:XK):Prop:=∀(pins:Pq) (σ:St) (H:Hp) (s:Shared) (e:Value) (s':Shared),Inv X pins σ H s->CX X.stack H s E e s'->X.xe e s'
section
variable{X:Cx}{CX:CXT}{k:Nat}{f C:Addr}{fd:FuncData}{ps:List Str}{sp:Sp}{dvs:List V}{ds:List Value}{E:XK}{x m:Str}{p pos apos:Pos}{e o:Expr}{es:List Expr}{ta:TE}{t:TA}
theorem JRJ{Q:VK}(F:FnOk X.prog X.w X.K X.mg X.base CX k f fd ps sp)(hr:Room k X.A)(hb:Binds X.K fd ps ds)(hd:Vals dvs ds)(hx:JDv CX X E)
  (I:Inv X pins σ H s) (r:Vals vs us) (h:sp (vs++dvs) H Q E):wpAny (model X.prog X.w) X.A (call (.ref f) us) (EP X pins σ Q) X.xe s:=by
 have r2:Vals (vs++dvs) (us++ds):=r.append hd;have hl:(us++ds).length=ps.length:=by rw[<-r2.length];exact F.len _ _ _ _ h
 refine wpAny_call (codeAny_mono (F.run X.A X.stack s H ⟨us,[]⟩ (us++ds) (vs++dvs) Q E hr I.env0 (hb s us I.kIn hl) r2 h) λr s' hq=>?_);cases r with
 |error e=>exact hx pins σ H s e s' I hq
 |ok fl =>
  cases fl with
  |ret u=>exact I.after hq
  |next=>exact fF hq
  |brk=>exact fF hq
  |cont=>exact fF hq
theorem JNf(F:FnOk X.prog X.w X.K X.mg X.base CX k f fd ps sp)(hr:Room k X.A)(hg:Gl X x)(hm:X.mg x=some (.ref f))(hk:PySem.W.keepIn X.K (.ref f)=true)(hb:Binds X.K fd ps ds)(hd:Vals dvs ds)(hx:JDv CX X E)
  (ha:PA X (e::es) t) (hdb:(x==("__debug__":Str))=false:=by decide) (he:starEach (e::es) X.env=(false,eval e X.env)::starEach es X.env:=by rfl) (hpl:(backTo pos (starEach es X.env)).any (·.1)=false:=by rfl) :
  PE X (.Call (.Name x p) (e::es) [] pos) (tCall sp dvs E t):=by
 intro pins s σ H Q I h;refine wpAny_Call_Name_kw (JCY I hg hm ?_ hdb);refine PySem.W.callWith_K (h₀:=X.base) I.ok.mod.kin hk (thn (ha pos pins s σ H _ I h) λus s1 ⟨vs,H1,I1,r,q⟩=>⟨I1.kIn,?_⟩) he hpl;exact JRJ F hr hb hd hx I1 r q
end
section
variable{X:Cx}{CX:CXT}{k:Nat}{f C:Addr}{fd:FuncData}{ps ks:List Str}{sp:Sp}{E:XK}{x m:Str}{p pos apos kpos:Pos}{e o:Expr}{es:List Expr}{kws:List Keyword}{te ta:TE}{t tk:TA}{nm:Option Str}
variable{g:List Value->List Value->List Value}{gV:List V->List V->List V}
end
structure FnScope(N P:List Str)(sc:Scope):Prop where
 kind:sc.kind=.function
 co:sc.isCoroutine=false
 gen:sc.isGenerator=false
 nd:N.Nodup
 pre:N.take P.length=P
 par:∀x∈P,sc.names.lookup x=some .local\/sc.names.lookup x=some .cell
 nofree:∀y∈sc.names,y.2≠.free
theorem JE7{kindOf:Str->Option NameKind}{x:Str}:∀ {binds:List (Str×Value)}{m:Mq},(∀v,(x,v) ∉ binds)->bindL kindOf binds m x=m x
 | [],_,_=>rfl
 |(n,v)::r,m,h=>by
  unfold bindL;rw[JE7 λw hw=>h w (q_s _ hw)]
  split
  · have:x≠n:=by rintro rfl;exact h v List.mem_cons_self
    simp[this]
  · rfl
theorem JEf{kindOf:Str->Option NameKind}{x:Str}:∀ {binds:List (Str×Value)}{m:Mq},(∀v,(x,v) ∉ binds)->bindC kindOf binds m x=m x
 | [],_,_=>rfl
 |(n,v)::r,m,h=>by
  unfold bindC;rw[JEf λw hw=>h w (q_s _ hw)]
  split
  · rfl
  · have:x≠n:=by rintro rfl;exact h v List.mem_cons_self
    simp[this]
theorem JFR{kindOf:Str->Option NameKind}{x:Str}{v:Value}:∀ {P:List Str}{vs:List Value}{i:Nat}{m:Mq},P.Nodup->P[i]? = some x->vs[i]? = some v->kindOf x=some .local ->
  bindL kindOf (P.zip vs) m x=some v
 | [],_,_,_,_,h,_,_=>by simp at h
 |_::_,[],_,_,_,_,h,_=>by simp at h
 |p::P,w::vs,0,m,nd,h1,h2,hk=>by
  simp at h1 h2;subst h1;subst h2;show bindL kindOf ((p,w)::P.zip vs) m p=_;unfold bindL;rw[JE7 λv hv=>(List.nodup_cons.mp nd).1 (List.of_mem_zip hv).1,if_pos hk];simp
 |p::P,w::vs,i+1,m,nd,h1,h2,hk=>by
  show bindL kindOf ((p,w)::P.zip vs) m x=_;unfold bindL;exact JFR (i:=i) (List.nodup_cons.mp nd).2 (by simpa using h1) (by simpa using h2) hk
theorem JE2{kindOf:Str->Option NameKind}{x:Str}{v:Value}:∀ {P:List Str}{vs:List Value}{i:Nat}{m:Mq},P.Nodup->P[i]? = some x->vs[i]? = some v->kindOf x≠some .local ->
  bindC kindOf (P.zip vs) m x=some v
 | [],_,_,_,_,h,_,_=>by simp at h
 |_::_,[],_,_,_,_,h,_=>by simp at h
 |p::P,w::vs,0,m,nd,h1,h2,hk=>by
  simp at h1 h2;subst h1;subst h2;show bindC kindOf ((p,w)::P.zip vs) m p=_;unfold bindC;rw[JEf λv hv=>(List.nodup_cons.mp nd).1 (List.of_mem_zip hv).1,if_neg hk];simp
 |p::P,w::vs,i+1,m,nd,h1,h2,hk=>by
  show bindC kindOf ((p,w)::P.zip vs) m x=_;unfold bindC;exact JE2 (i:=i) (List.nodup_cons.mp nd).2 (by simpa using h1) (by simpa using h2) hk
noncomputable def start(N:List Str)(vs:List V):St:=vs.map some++List.replicate (N.length - vs.length) none
noncomputable def cxOf(CX:CXT)(P:Program)(w:World)(K:Kq)(mg:Mq)(base:Heap)(N:List Str)(qual:Str)(scope:Scope)(f:Addr)(cd:Value)(A:Around)(outer:List Env)(s:Shared)(H:Hp)(E:XK):Cx where
 prog:=P
 w:=w
 K:=K
 mg:=mg
 base:=base
 A:=A.deeper (envOfC qual scope s.heap.objs.size f cd)
 N:=N
 s₀:=s
 H₀:=H
 env:=envOfC qual scope s.heap.objs.size f cd
 outer:=outer
 stack:=envOfC qual scope s.heap.objs.size f cd::outer
 ex:=[]
 calm:=true
 fn:=λ_=>true
 pn:=[]
 xe:=λe s'=>wpAny (model P w) (A.deeper (envOfC qual scope s.heap.objs.size f cd)) (leaving (envOfC qual scope s.heap.objs.size f cd) e) (λ_ s''=>CX outer H s E e s'') (λe' s''=>CX outer H s E e' s'') s'
theorem JF6{sc:Scope}{n:Nat}{x:Str}(h:sc.names.lookup x=some .cell):∃c,(cellsFrom n sc.names []).lookup x=some c:=by
 have q:=PySem.W.cellsFrom_some sc.names n [] (.inl h);exact Option.isSome_iff_exists.mp q
theorem JCK{CX:CXT}{P:Program}{w:World}{K:Kq}{mg:Mq}{base:Heap}{N ps:List Str}{qual:Str}{scope:Scope}{f:Addr}{cd:Value}{A:Around}{outer:List Env}{s s1:Shared}{H:Hp}{E:XK}{us:List Value}{vs:List V}
  (S:FnScope N ps scope) (hd:A.handled=none) (e0:Env0 P w K mg base A outer s H) (hl:vs.length=ps.length) (r:Vals vs us)
  (x:InCallC s s.heap.objs.size (bindL (envOfC qual scope s.heap.objs.size f cd).kindOf (ps.zip us) λ_=>none) (cellsFrom (s.heap.objs.size+1) scope.names []) (bindC (envOfC qual scope s.heap.objs.size f cd).kindOf (ps.zip us) λ_=>none) s1) :
  Inv (cxOf CX P w K mg base N qual scope f cd A outer s H E) [] (start N vs) H s1:=by
 have hpl:ps.length<=N.length:=by have:=congrArg List.length S.pre;rw[List.length_take]at this;omega
 obtain⟨h1,tk,rfl,hk⟩:=x.done;have noA:∀b:Addr,b ∉ (cxOf CX P w K mg base N qual scope f cd A outer s H E).ex:=λb z=>absurd (show b∈([]:List Addr) from z) (by simp)
 refine⟨⟨e0.mod,S.kind,rfl,rfl,q_t _,λy z c h1 h2=>?_,λy hy=>?_,λy c _ h=>?_,λ_=>hd,Around.frames_deeper e0.frames,.inr ⟨rfl,rfl⟩,λb z=>absurd z (noA b),e0.bs,e0.bsz,λb _ _=>noA b,λb z=>absurd z (noA b),e0.funs,e0.frf⟩,
  rfl,e0.bare,Un.kept hk,⟨_,x.toInCall.ns,λi y v h1 h2 h3=>?_⟩,λy c h=>⟨_,x.cell y c h⟩,e0.hok.fresh (q_t _),λy c h=>?_,λp hp=>absurd (show p∈([]:Pq) from hp) (by simp),e0.hok.kept hk,?_⟩
 ·exact name_of_addr x.apart (PySem.mem_of_lookup h1) (PySem.mem_of_lookup h2)
 ·have hy:scope.names.lookup y=some .cell\/scope.names.lookup y=some .free:=hy;rcases hy with hy|hy
  · exact JF6 hy
  · exact absurd rfl (S.nofree _ (PySem.mem_of_lookup hy))
 ·exact Nat.le_of_lt (x.above y c (PySem.mem_of_lookup h))
 ·have hi:i<vs.length:=by
    unfold start at h2
    by_cases hi:i<vs.length
    ·exact hi
    ·rw[List.getElem?_append_right (by simpa using hi)]at h2
     rw[List.getElem?_replicate]at h2
     split at h2<;>cases h2
  have ha:vs[i]? = some v:=by
    unfold start at h2;rw[q_C (by simpa using hi),List.getElem?_map]at h2
    cases e:vs[i]? with
    |none=>rw[e]at h2;cases h2
    |some a=>rw[e]at h2;cases h2;rfl
  obtain⟨u,hu,rv⟩:=r.get ha;have hp:ps[i]? = some y:=by
    rw[<-S.pre,List.getElem?_take_of_lt (by omega)];exact h1
  have ndP:ps.Nodup:=by rw[<-S.pre];exact S.nd.sublist (List.take_sublist _ _)
  refine⟨u,rv,?_⟩;rcases S.par y (List.mem_of_getElem? hp) with k|k
  · exact .inl ⟨k,JFR ndP hp hu k⟩
  · obtain⟨c,e⟩:=JF6 (n:=s.heap.objs.size+1) k
    refine .inr ⟨.inl k,c,e,?_⟩;have q:=x.cell y c e;rw[JE2 ndP hp hu (by show scope.names.lookup y≠_;rw[k];decide)]at q
    exact q
 ·exact e0.hok.fresh (Nat.le_of_lt (x.above y c (PySem.mem_of_lookup h)))
 ·unfold start;show _=N.length;rw[q_u,q_g,List.length_replicate];omega
theorem JOw{CX:CXT}{P:Program}{w:World}{K:Kq}{mg:Mq}{base:Heap}{k:Nat}{f:Addr}{name qual:Str}{params:Arguments}{body:List Stmt}{scope:Scope}{dV kV doc pm cdv ct oc:Value}{an od:Option Addr}
  {osl:Array (Option Value)}{N ps:List Str}{sp:Sp}(lk:K.lookup f=some ⟨oc,od,.func (PySem.W.fnOf name qual params body scope dV kV doc pm an cdv ct),osl⟩) (hcd:PySem.W.codeIn K cdv qual=true) (S:FnScope N ps scope)
  (len:∀vs H Q E,sp vs H Q E->vs.length=ps.length)
  (hbody:∀(A:Around) (outer:List Env) (s:Shared) (H:Hp) (vs:List V) (Q:VK) (E:XK),Room k (A.deeper (envOfC qual scope s.heap.objs.size f cdv))->sp vs H Q E ->
    ∃t,PSs (cxOf CX P w K mg base N qual scope f cdv A outer s H E) body t/\t { nx:=λ_ H'=>Q .non H',rt:=Q } (start N vs) H) :
  FnOk P w K mg base CX (k+1) f (PySem.W.fnOf name qual params body scope dV kV doc pm an cdv ct) ps sp:=by
 refine⟨len,λA outer s H args us vs Q E hr e0 hb r hsp=>?_⟩;have hl:=len _ _ _ _ hsp;have KX:K.In s.heap:=e0.mod.kin.keeps λb o e=>(e0.bs b o e).1;have lim:s.heap.NoLimit:=e0.mod.nolimit.keeps λb o e=>(e0.bs b o e).1;have hkind:∀y∈ps.zip us,scope.names.lookup y.1=some .local\/(scope.names.lookup y.1=some .cell/\((cellsFrom (s.heap.objs.size+1) scope.names []).lookup y.1).isSome=true):=λ⟨n,v⟩ hy=>by
  rcases S.par n (List.of_mem_zip hy).1 with q|q
  · exact .inl q
  · exact .inr ⟨q,PySem.W.cellsFrom_some _ _ _ (.inl q)⟩
 refine codeAny_call_function hr.depth (KX _ _ lk) rfl S.co S.gen rfl (PySem.W.codeRec_of KX hcd) (hb _ _ _ _ ?_);refine wpAny_newFunctionEnv_cells S.kind hkind λenv he s1 x=>?_;subst he;refine⟨lim.keeps x.toInCall.keep,codeAny_func ?_⟩;obtain⟨t,ht,hq⟩:=hbody A outer s H vs Q E (hr.deeper _) hsp;have I:Inv (cxOf CX P w K mg base N qual scope f cdv A outer s H E) [] (start N vs) H s1:=JCK S hr.hd e0 hl r x;refine wpAny_mono (ht [] s1 (start N vs) H _ I hq) (λfl s' hs=>?_) λe s' hs=>hs;have fin:∀ {σ':St}{H':Hp}{v:V}{u:Value},Inv (cxOf CX P w K mg base N qual scope f cdv A outer s H E) [] σ' H' s'->RelV v u->Q v H'->CE outer P w H s Q u s' :=
  λ{σ' H' v u} J rv q=>⟨v,H',J.os,J.bare,J.base,J.hok,rv,q⟩
 cases fl with
 |ret u =>
  obtain⟨v,σ',H',J,rv,q⟩:=hs;exact fin J rv q
 |next =>
  obtain⟨σ',H',J,q⟩:=hs;exact fin (v:=V.non) (u:=Value.none) J rfl q
 |brk =>
  obtain⟨_,_,_,q⟩:=hs;exact fF q
 |cont =>
  obtain⟨_,_,_,q⟩:=hs;exact fF q
end L2
namespace L2
open PySem PySem.Spec PyProof.Rows
section
variable{X:Cx}{x:Str}{p pos:Pos}{e:Expr}{es:List Expr}{t:TA}{id T:String}{r:List V->Hp->VK->Prop}
def tCB(r:List V->Hp->VK->Prop)(t:TA):TE:=λσ H Q=>t σ H λvs H1=>r vs H1 Q
theorem JC1(hc:JBm X (.builtin id) r)(hg:Gl X x)(hm:X.mg x=none)(hv:bootBuiltins x=some (.builtin id))(ha:PA X (e::es) t)(hn:x≠"__name__":=by decide)(hdb:(x==("__debug__":Str))=false:=by decide)
  (he:starEach (e::es) X.env=(false,eval e X.env)::starEach es X.env:=by rfl) (hpl:(backTo pos (starEach es X.env)).any (·.1)=false:=by rfl):PE X (.Call (.Name x p) (e::es) [] pos) (tCB r t):=by
 intro pins s σ H Q I h;refine wpAny_Call_Name_kw (JFQ I hg hm hv ?_ hn hdb);exact PyProof.Rows.callWith_builtin1 (thn (ha pos pins s σ H _ I h) λus s1 ⟨vs,H1,I1,r1,q1⟩=>hc pins s1 σ H1 vs us Q I1 r1 q1) he hpl
theorem JCT(hc:JBm X (.type T) r)(hg:Gl X x)(hm:X.mg x=none)(hv:bootBuiltins x=some (.type T))(ha:PA X (e::es) t)(hn:x≠"__name__":=by decide)(hdb:(x==("__debug__":Str))=false:=by decide)
  (he:starEach (e::es) X.env=(false,eval e X.env)::starEach es X.env:=by rfl) (hpl:(backTo pos (starEach es X.env)).any (·.1)=false:=by rfl):PE X (.Call (.Name x p) (e::es) [] pos) (tCB r t):=by
 intro pins s σ H Q I h;refine wpAny_Call_Name_kw (JFQ I hg hm hv ?_ hn hdb);exact PyProof.Rows.callWith_type1 (thn (ha pos pins s σ H _ I h) λus s1 ⟨vs,H1,I1,r1,q1⟩=>hc pins s1 σ H1 vs us Q I1 r1 q1) he hpl
end
end L2
namespace HT
open PySem PyProof.Rows
section
open PySem.SeqAt
open PySem.AutoSeq1 (wpAny_loadPart')
open PySem.MeetsSeq PySem.MeetsSeq2 PySem.MeetsSeq3
end
section
variable{prog:Program}{w:World}{A:Around}{E:Vq}{s:Shared}
theorem cat_tup{t b:Addr}{Q:Vq}(ht:IsTup s.heap t vs.toArray)(hb:IsTup s.heap b ws.toArray)(hv:vs≠[])
  (h1:ws=[]->Q (.ref t) s) (h2:ws≠[]->Q (.ref s.heap.objs.size) { s with heap:=s.heap.push { cls:=.type "tuple",data:=.seq (vs++ws).toArray } })
  (hsz:vs.length+ws.length<=sizeLine):wpAny (model prog w) A (binaryOp .Add (.ref t) (.ref b)) Q E s:=by
 obtain⟨⟨cls,dd,data,sl⟩,ho,hc,n,hd⟩:=id ht;obtain⟨⟨cls2,dd2,data2,sl2⟩,ho2,hc2,n2,hd2⟩:=id hb;simp only at hc hd hc2 hd2;subst hc hd hc2 hd2;have e:vs.toArray++ws.toArray=(vs++ws).toArray:=by simp
 by_cases hw:ws=[]
 ·exact concat_meets ⟨_,ho,rfl⟩ ⟨_,ho2,rfl⟩ noFill_tuple_add seq_tuple_add PySem.F.slot_tuple_add PySem.F.entry_tuple_add (PySem.F.args_tuple_add_2 _ _)
    (tuple_addW1 t b vs.toArray ws.toArray n n2 dd dd2 sl sl2 (by simpa using hv) (by simp[hw])) ⟨ho,ho2,h1 hw⟩
 ·refine concat_meets ⟨_,ho,rfl⟩ ⟨_,ho2,rfl⟩ noFill_tuple_add seq_tuple_add PySem.F.slot_tuple_add PySem.F.entry_tuple_add (PySem.F.args_tuple_add_2 _ _)
    (tuple_addW2 t b vs.toArray ws.toArray n n2 dd dd2 sl sl2 (by simpa using hv) (by simpa using hw) (by rw[q_f,q_f];exact hsz)) ⟨ho,ho2,?_⟩
  rw[e];exact h2 hw
noncomputable def sIx(n d:Nat):Option Int->Nat
 |none=>d
 |some v=>if v<0 then (v+(n:Int)).toNat else min v.toNat n
theorem JQi(n d:Nat)(hd:d<=n)(o:Option Int):sIx n d o<=n:=by
 cases o with
 |none=>exact hd
 |some v =>
  show(if v<0 then (v+(n:Int)).toNat else min v.toNat n)<=n
  by_cases hv:v<0
  ·rw[if_pos hv];omega
  ·rw[if_neg hv];exact Nat.min_le_right _ _
theorem JI2(v:Int)(n d:Nat):(if v<0 then max (v+(n:Int)) 0 else min v (n:Int))=((sIx n d (some v):Nat):Int):=by
 show(if v<0 then max (v+(n:Int)) 0 else min v (n:Int))=(((if v<0 then (v+(n:Int)).toNat else min v.toNat n):Nat):Int)
 by_cases hv:v<0
 ·simp only[if_pos hv];omega
 ·simp only[if_neg hv];omega
theorem JG2(lo hi:Option Int)(n:Nat):Builtin.Slice.sliceAdjust lo hi 1 (n:Int)=(((sIx n 0 lo:Nat):Int),((sIx n n hi:Nat):Int)):=by
 have h1:¬((1:Int)<0):=by omega
 unfold Builtin.Slice.sliceAdjust;simp only[h1,if_false];refine Prod.ext ?_ ?_
 ·cases lo with
  |none=>rfl
  |some v=>exact JI2 v n 0
 ·cases hi with
  |none=>rfl
  |some v=>exact JI2 v n n
theorem JG4(i j:Nat):Builtin.Slice.slicePlaces (i:Int) (j:Int) 1=j - i:=by
 unfold Builtin.Slice.slicePlaces;have h1:(1:Int) > 0:=by omega
 simp only[h1,if_true,Int.ediv_one]
 split<;>omega
theorem JDy{o:Option Int}{Q:Option Int->Shared->Prop}(p:IsPart v o)(h:Q o s):wpAny (model prog w) A (Builtin.Slice.slicePartIndex v) Q E s:=by
 cases p with
 |none=>exact slicePart_none h
 |int i t=>exact slicePart_int h
theorem sliceApplied_gen{sl:Addr}{lo hi:Option Int}{n:Nat}{Q:Int×Int×Nat->Shared->Prop}(hs:s.heap.IsSliceOf sl vl vu .none)(pl:IsPart vl lo)(pu:IsPart vu hi)
  (h:Q (((sIx n 0 lo:Nat):Int),1,sIx n n hi - sIx n 0 lo) s):wpAny (model prog w) A (Builtin.Slice.sliceApplied (.ref sl) (pure (n:Int))) Q E s:=by
 obtain⟨os,hos,hcs,hds⟩:=id hs;unfold Builtin.Slice.sliceApplied Builtin.Slice.sliceFields;refine q_b (q_b (wpAny_field hos hds (x:=vl) rfl (q_b (wpAny_field hos hds (x:=vu) rfl (q_b (wpAny_field hos hds (x:=.none) rfl (q_e ?_)))))));refine q_b (slicePart_none ?_);show wpAny _ _ (if ((1:Int)==0)=true then _ else _) _ _ s;rw[if_neg (by decide)]
 refine q_b (JDy pl (q_b (JDy pu (q_b (q_e ?_)))));show wpAny _ _ (match Builtin.Slice.sliceAdjust lo hi 1 (n:Int) with|(lo,hi)=>pure (lo,(1:Int),Builtin.Slice.slicePlaces lo hi 1)) _ _ s
 rw[JG2 lo hi n];show wpAny _ _ (pure (((sIx n 0 lo:Nat):Int),(1:Int),Builtin.Slice.slicePlaces ((sIx n 0 lo:Nat):Int) ((sIx n n hi:Nat):Int) 1)) _ _ s;rw[JG4];exact q_e h
theorem JJq(xs:Array Value)(i k:Nat):((List.range k).filterMap λ(m:Nat)=>xs[((i:Int)+(m:Int)*1).toNat]?).toArray=((xs.toList.drop i).take k).toArray:=by
 have e:(λ(m:Nat)=>xs[((i:Int)+(m:Int)*1).toNat]?)=λm=>xs[i+m]?:=by
  funext m
  have:((i:Int)+(m:Int)*1).toNat=i+m:=by omega
  rw[this]
 rw[e];have:=pick_run xs i k;rw[List.filterMap_map]at this;have e2:((λx=>xs[x]?) ∘ λx=>i+x)=λm=>xs[i+m]?:=rfl;rw[e2]at this;rw[this]
theorem getItem_tuple_cut{t sl:Addr}{lo hi:Option Int}{Q:Vq}(ht:IsTup s.heap t items)(hs:s.heap.IsSliceOf sl vl vu .none)(pl:IsPart vl lo)(pu:IsPart vu hi)
  (hw:¬(sIx items.size 0 lo=0/\sIx items.size items.size hi=items.size))
  (h:Q (.ref s.heap.objs.size) { s with heap:=s.heap.push { cls:=.type "tuple",data:=.seq ((items.toList.drop (sIx items.size 0 lo)).take (sIx items.size items.size hi - sIx items.size 0 lo)).toArray } })
  (hsz:items.size<=sizeLine):wpAny (model prog w) A (getItem (.ref t) (.ref sl)) Q E s:=by
 have htake:sizeOk (.seq ((items.toList.drop (sIx items.size 0 lo)).take (sIx items.size items.size hi - sIx items.size 0 lo)).toArray):=by
  show((items.toList.drop (sIx items.size 0 lo)).take (sIx items.size items.size hi - sIx items.size 0 lo)).toArray.size<=sizeLine;rw[q_f,List.length_take,List.length_drop,q_F];omega
 have hj:sIx items.size items.size hi<=items.size:=JQi _ _ (q_t _) hi;obtain⟨os,hos,hcs,hds⟩:=id hs;have hTs:s.TypeIs (.ref sl) "slice":=⟨os,hos,hcs⟩;unfold getItem
 try with_reducible refine wpAny_holding ?_
 first|refine q_b (q_e ?_)|skip
 refine q_b (wpAny_sequenceKey ht.typeIs (by decide) ?_)
 refine q_b (wpAny_callSpecial?_slot (name:=Str.ofString "__getitem__") ht.typeIs PyProof.Rows.slot_tuple_getitem
  (wpAny_call_entry PyProof.Rows.slot_tuple_getitem ht.typeIs entry_tuple_getitem ?_ (args_tuple_getitem _ _)))
 show wpAny _ _ (Builtin.Tuple.tupleItemsOf (.ref t) >>= _) _ _ s;refine q_b (tupleItemsOf_ ht ?_);refine q_b (wpAny_typeOf hTs ?_);rw[if_pos (by decide)]
 refine q_b (sliceApplied_gen hs pl pu ?_);have hno:¬((((sIx items.size 0 lo:Nat):Int)==0&&(1:Int)==1&&(sIx items.size items.size hi - sIx items.size 0 lo)==items.size)=true):=by
  intro q;rw[q_i,q_i]at q;have q1:((sIx items.size 0 lo:Nat):Int)=0:=eq_of_beq q.1.1;have q2:sIx items.size items.size hi - sIx items.size 0 lo=items.size:=eq_of_beq q.2;exact hw ⟨by omega,by omega⟩
 show wpAny _ _ (if (((sIx items.size 0 lo:Nat):Int)==0&&(1:Int)==1&&(sIx items.size items.size hi - sIx items.size 0 lo)==items.size)=true then _ else _) _ _ s;rw[if_neg hno,JJq]
 first
  |exact q_b (m:=Builtin.Tuple.tupleExact _) (wpAny_newObj_type (q_e ⟨_,rfl,q_e h⟩) htake)
  |exact q_b (m:=Builtin.Tuple.tupleExact _) (wpAny_newObj_type (q_b (q_e (q_e ⟨_,rfl,q_e h⟩))) htake)
  |exact q_b (q_b (m:=Builtin.Tuple.tupleExact _) (wpAny_newObj_type (q_e (q_e ⟨_,rfl,q_e h⟩)) htake))
  |exact q_b (q_b (m:=Builtin.Tuple.tupleExact _) (wpAny_newObj_type (q_e ⟨_,rfl,q_e h⟩) htake))
end
end HT
namespace L2
open PySem PySem.Spec PyProof.Rows
noncomputable abbrev TO:=St->Hp->(Option Int->Hp->Prop)->Prop
def PO(X:Cx)(e:Option Expr)(t:TO):Prop :=
 ∀(pins:Pq) (s:Shared) (σ:St) (H:Hp) (Q:Option Int->Hp->Prop),Inv X pins σ H s->t σ H Q ->
  wpAny (model X.prog X.w) X.A (evalPart e X.env) (λu s'=>∃o H',Inv X pins σ H' s'/\IsPart u o/\Q o H') X.xe s
noncomputable def JNm:TO:=λ_ H Q=>Q none H
noncomputable def tPart(t:TE):TO:=λσ H Q=>t σ H λx H1=>∃i,x=.int i/\Q (some i) H1
section
variable{X:Cx}{e:Expr}{te:TE}{lo hi:Option Expr}{tl th:TO}{pos p2:Pos}
theorem JHD:PO X none JNm:=by
 intro pins s σ H Q I h;rw[evalPart_none];exact q_e ⟨none,H,I,.none,h⟩
theorem JFd(h:PE X e te):PO X (some e) (tPart te):=by
 intro pins s σ H Q I hw;rw[evalPart_some];refine thn (h pins s σ H _ I hw) λu s1 ⟨x,H1,I1,r1,q1⟩=>?_;obtain⟨i,rfl,q⟩:=q1;obtain⟨t,rfl⟩:=r1;exact⟨some i,H1,I1,.int i t,q⟩
def SlR(X:Cx)(r:V->Option Int->Option Int->Hp->VK->Prop):Prop :=
 ∀(pins:Pq) (s:Shared) (σ:St) (H:Hp) (x:V) (v vl vu:Value) (lo hi:Option Int) (sl:Addr) (Q:VK),Inv X pins σ H s->RelV x v->s.heap.IsSliceOf sl vl vu .none->IsPart vl lo->IsPart vu hi->r x lo hi H Q ->
  ∃T id,typeLookup (.type T) "__getitem__"=pure (some (.builtin id))/\s.TypeIs v T/\wpAny (model X.prog X.w) X.A (getItem v (.ref sl)) (EP X pins σ Q) X.xe s
theorem SlR.or{r r':V->Option Int->Option Int->Hp->VK->Prop}(h:SlR X r)(h':SlR X r'):SlR X (λx lo hi H Q=>r x lo hi H Q\/r' x lo hi H Q):=by
 intro pins s σ H x v vl vu lo hi sl Q I rx hs pl pu q;rcases q with q|q
 ·exact h pins s σ H x v vl vu lo hi sl Q I rx hs pl pu q
 ·exact h' pins s σ H x v vl vu lo hi sl Q I rx hs pl pu q
def tSl(r:V->Option Int->Option Int->Hp->VK->Prop)(te:TE)(tl th:TO):TE:=λσ H Q=>te σ H λx H1=>tl σ H1 λl H2=>th σ H2 λu H3=>r x l u H3 Q
theorem JGR(hr:SlR X r)(he:PE X e te)(hl:PO X lo tl)(hu:PO X hi th):PE X (.Subscript e (.Slice lo hi none p2) pos) (tSl r te tl th):=by
 intro pins s σ H Q I h;refine Subscript_ (thn (he pins s σ H _ I h) λv s1 ⟨x,H1,I1,r1,q1⟩=>?_);refine wpAny_Slice (thn (hl pins s1 σ H1 _ I1 q1) λvl s2 ⟨l,H2,I2,pl,q2⟩=>thn (hu pins s2 σ H2 _ I2 q2) λvu s3 ⟨u,H3,I3,pu,q3⟩=>?_);rw[evalPart_none];refine q_e ?_;have I4:Inv X pins σ H3 { s3 with heap:=s3.heap.push { cls:=.type "slice",data:=.fields #[vl,vu,.none] } }:=I3.kept (t':=s3.toks) λb ob q=>q_c _ q
 obtain⟨T,id,hT,ht,hg⟩:=hr pins { s3 with heap:=s3.heap.push { cls:=.type "slice",data:=.fields #[vl,vu,.none] } } σ H3 x v vl vu l u s3.heap.objs.size Q I4 r1 (Heap.IsSliceOf.new ..) pl pu q3
 show wpAny (model X.prog X.w) X.A (subscriptTail e (.Slice lo hi none p2) v (.ref s3.heap.objs.size)) (EP X pins σ Q) X.xe { s3 with heap:=s3.heap.push { cls:=.type "slice",data:=.fields #[vl,vu,.none] } }
 exact tail_any (ops:=[.ref s3.heap.objs.size,v]) ht hT hg (by with_unfolding_all rfl)
noncomputable def cutV(xs:List V)(lo hi:Option Int):List V:=(xs.drop (HT.sIx xs.length 0 lo)).take (HT.sIx xs.length xs.length hi - HT.sIx xs.length 0 lo)
theorem JDK(xs:List V)(lo hi:Option Int):(cutV xs lo hi).length<=xs.length:=by
 unfold cutV;rw[List.length_take,List.length_drop];omega
def rSlT(K:Kq):V->Option Int->Option Int->Hp->VK->Prop:=λx lo hi H Q=>∃a xs,x=.ref a/\SqT K H a xs /\
 ¬(HT.sIx xs.length 0 lo=0/\HT.sIx xs.length xs.length hi=xs.length)/\∀p,H p=none->Q (.ref p) (upd H p (.tup (cutV xs lo hi)))
theorem JLH:SlR X (rSlT X.K):=by
 intro pins s σ H x v vl vu lo hi sl Q I rx hs pl pu h;obtain⟨a,xs,rfl,hx,hw,q⟩:=h;cases rx;obtain⟨its,r,ht,hz⟩:=I.tuple hx;have hlen:its.toArray.size=xs.length:=by rw[q_f];exact r.length.symm
 refine⟨"tuple",_,PyProof.Rows.slot_tuple_getitem.lookup,ht.typeIs,?_⟩;refine HT.getItem_tuple_cut ht hs pl pu (by rw[hlen];exact hw) ?_ (by rw[hlen];exact hz)
 rw[hlen];refine⟨.ref s.heap.objs.size,_,I.laid (t':=s.toks) (o:=.tup (cutV xs lo hi)) (λb ob q=>q_c _ q) (q_t _) ?_,rfl,q _ (I.hok.fresh (q_t _))⟩;exact⟨Nat.le_trans (JDK xs lo hi) hz,_,(r.drop (HT.sIx xs.length 0 lo)).take (HT.sIx xs.length xs.length hi - HT.sIx xs.length 0 lo),IsTup.new _ _⟩
noncomputable def rCatT(K:Kq):R2:=λx y H Q=>∃a b xs ys,x=.ref a/\y=.ref b/\SqT K H a xs/\SqT K H b ys/\xs≠[]/\xs.length+ys.length<=sizeLine /\
 (ys=[]->Q (.ref a) H)/\(ys≠[]->∀p,H p=none->Q (.ref p) (upd H p (.tup (xs++ys))))
theorem Vals.nil_iff(r:Vals xs us):us=[]↔xs=[]:=by
 cases r with
 |nil=>simp
 |cons _ _=>simp
theorem JNI:OpR X (binaryOp .Add) (rCatT X.K):=by
 intro pins s σ H x y v u Q I rx ry h;obtain⟨a,b,xs,ys,rfl,rfl,ha,hb,hx,hz,q1,q2⟩:=h;cases rx;cases ry;obtain⟨its,r1,p1,_⟩:=I.tuple ha;obtain⟨its2,r2,p2,_⟩:=I.tuple hb;refine HT.cat_tup p1 p2 (λz=>hx (r1.nil_iff.mp z)) (λz=>⟨.ref a,H,I,rfl,q1 (r2.nil_iff.mp z)⟩) (λz=>?_) (by rw[<-r1.length,<-r2.length];exact hz)
 refine⟨.ref s.heap.objs.size,_,I.laid (t':=s.toks) (o:=.tup (xs++ys)) (λb ob q=>q_c _ q) (q_t _) ?_,rfl,q2 (λw=>z (r2.nil_iff.mpr w)) _ (I.hok.fresh (q_t _))⟩;exact⟨by rw[q_u];exact hz,_,r1.append r2,IsTup.new _ _⟩
end
end L2
namespace L2
open PySem PySem.Spec PyProof.Rows
noncomputable def ixN(n:Nat)(i:Int):Option Nat:=if 0<=i then (if i<n then some i.toNat else none) else if -(n:Int)<=i then some (i+n).toNat else none
noncomputable def atI{α:Type}(xs:List α)(i:Int):Option α:=(ixN xs.length i).bind λj=>xs[j]?
theorem JNN{n:Nat}{i:Int}{j:Nat}(h:ixN n i=some j):seqIndex? i n=some j/\j<n/\-(n:Int)<=i/\i<n:=by
 unfold ixN at h
 by_cases h0:0<=i
 ·rw[if_pos h0]at h
  by_cases h1:i<n
  ·rw[if_pos h1]at h;have e:i.toNat=j:=Option.some.inj h;exact⟨by rw[seqIndex_of h0 h1,e],by omega,by omega,h1⟩
  ·rw[if_neg h1]at h;cases h
 ·rw[if_neg h0]at h
  by_cases h1:-(n:Int)<=i
  ·rw[if_pos h1]at h;have e:(i+n).toNat=j:=Option.some.inj h;exact⟨by rw[seqIndex_neg (by omega) h1,e],by omega,h1,by omega⟩
  ·rw[if_neg h1]at h;cases h
theorem JFa{α:Type}{xs:List α}{i:Int}{v:α}(h:atI xs i=some v):∃j,seqIndex? i xs.length=some j/\xs[j]? = some v/\j<xs.length/\-(xs.length:Int)<=i/\i<xs.length:=by
 unfold atI at h;cases e:ixN xs.length i with
 |none=>rw[e]at h;cases h
 |some j =>
  rw[e]at h;obtain⟨h1,h2,h3,h4⟩:=JNN e;exact⟨j,h1,h,h2,h3,h4⟩
def JHq(b:Expr):Prop:=∀o i,subscripted b false o i=operate [o,i] (getItem o i)
def IxR(X:Cx)(r:R2):Prop :=
 ∀(value slice:Expr) (pins:Pq) (s:Shared) (σ:St) (H:Hp) (x y:V) (v u:Value) (Q:VK),Inv X pins σ H s->RelV x v->RelV y u->r x y H Q ->
  subscripted slice false v u=operate [v,u] (getItem v u)->wpAny (model X.prog X.w) X.A (subscriptTail value slice v u) (EP X pins σ Q) X.xe s
def MtR(X:Cx)(id:String)(r:V->List V->Hp->VK->Prop):Prop :=
 ∀(pins:Pq) (s:Shared) (σ:St) (H:Hp) (x:V) (xs:List V) (v:Value) (us:List Value) (Q:VK),Inv X pins σ H s->RelV x v->Vals xs us->r x xs H Q ->
  wpAny (model X.prog X.w) X.A (call (.builtin id) (v::us)) (EP X pins σ Q) X.xe s
section
variable{X:Cx}{a b:Expr}{ta tb:TE}{pos:Pos}
theorem IxR.or{r r':R2}(h:IxR X r)(h':IxR X r'):IxR X (λx y H Q=>r x y H Q\/r' x y H Q):=by
 intro value slice pins s σ H x y v u Q I rx ry q hs;rcases q with q|q
 ·exact h value slice pins s σ H x y v u Q I rx ry q hs
 ·exact h' value slice pins s σ H x y v u Q I rx ry q hs
theorem pe_ix{r:R2}(hr:IxR X r)(ha:PE X a ta)(hb:PE X b tb)(hs:JHq b):PE X (.Subscript a b pos) (tOp r ta tb):=by
 intro pins s σ H Q I h;exact Subscript_ (binT ha hb I h λv u s2 x y H2 I2 rx ry q=>hr a b pins s2 σ H2 x y v u Q I2 rx ry q (hs _ _))
noncomputable def rIxL(K:Kq):R2:=λx y H Q=>∃p xs i v,x=.ref p/\y=.int i/\SqL K H p xs/\atI xs i=some v/\Q v H
noncomputable def rIxT(K:Kq):R2:=λx y H Q=>∃p xs i v,x=.ref p/\y=.int i/\SqT K H p xs/\atI xs i=some v/\Q v H
noncomputable def rIxS:R2:=λx y H Q=>∃z i c,x=.str z/\y=.int i/\z.length<=sizeLine/\atI z.cps.toList i=some c/\Q (.str ⟨#[c]⟩) H
theorem ix_list:IxR X (rIxL X.K):=by
 intro value slice pins s σ H x y v u Q I rx ry h hs;obtain⟨p,xs,i,z,rfl,rfl,hq,he,q⟩:=h;cases rx;obtain⟨t,rfl⟩:=ry;obtain⟨its,r,pl,hz⟩:=I.list hq;obtain⟨j,h1,h2,h3,h4,h5⟩:=JFa he;obtain⟨w,ew,rw'⟩:=r.get h2;have hl:=r.length;have hn:=JFE;have fin:EP X pins σ Q w s:=⟨z,H,I,rw',q⟩
 by_cases h0:0<=i
 ·have hj:i.toNat=j:=by
   rw[seqIndex_of h0 h5]at h1;exact Option.some.inj h1
  exact item_listR pl.isList h0 (by omega) (by rw[hj];simpa using ew) fin hs
 ·have hj:(i+(its.toArray.size:Int)).toNat=j:=by
   rw[seqIndex_neg (by omega) h4]at h1
   rw[q_f,<-hl];exact Option.some.inj h1
  exact subscriptTail_builtinR (x:=w) pl.isList.typeIs slot_list_getitem.lookup
   (wpAny_getItem_list_neg (Q:=λr s'=>r=w/\EP X pins σ Q r s') pl.isList (by omega) (by rw[q_f]<;>omega) (by omega) (by rw[hj];simpa using ew) ⟨rfl,fin⟩) hs
theorem ix_tup:IxR X (rIxT X.K):=by
 intro value slice pins s σ H x y v u Q I rx ry h hs;obtain⟨p,xs,i,z,rfl,rfl,hq,he,q⟩:=h;cases rx;obtain⟨t,rfl⟩:=ry;obtain⟨its,r,pl,hz⟩:=I.tuple hq;obtain⟨j,h1,h2,h3,h4,h5⟩:=JFa he;obtain⟨w,ew,rw'⟩:=r.get h2;have hl:=r.length;have hn:=JFE;have fin:EP X pins σ Q w s:=⟨z,H,I,rw',q⟩;exact subscriptTail_builtinR (x:=w) pl.typeIs slot_tuple_getitem.lookup
  (getItem_tuple (j:=j) (Q:=λr s'=>r=w/\EP X pins σ Q r s') pl (by omega) (by omega) (by rw[q_f,<-hl];exact h1) (by simpa using ew) ⟨rfl,fin⟩) hs
theorem JP1:IxR X rIxS:=by
 intro value slice pins s σ H x y v u Q I rx ry h hs;obtain⟨z,i,c,rfl,rfl,hz,he,q⟩:=h;obtain⟨t,rfl⟩:=rx;obtain⟨t',rfl⟩:=ry;obtain⟨j,h1,h2,h3,h4,h5⟩:=JFa he;have hl:z.cps.toList.length=z.length:=by simp[Str.length]
 rw[hl]at h1 h4 h5;have hn:=JFE;exact tail_any (typeIs_str s z t) slot_str_getitem.lookup (getItem_str (c:=c) (by
  have e1:decide (i < -(2 ^ 63:Int))=false:=q_o (by omega)
  have e2:decide (i ≥ 2 ^ 63)=false:=q_o (by omega)
  rw[e1,e2,Bool.or_false]) (by rw[h1];simpa using h2) ⟨.str ⟨#[c]⟩,H,I.tok _,⟨_,rfl⟩,q⟩) hs
noncomputable def rIx(K:Kq):R2:=λx y H Q=>rIxL K x y H Q\/rIxT K x y H Q\/rIxS x y H Q
theorem ix_seq:IxR X (rIx X.K):=ix_list.or (ix_tup.or JP1)
theorem JEm(lo hi:Option Int)(n:Nat):(sliceBounds lo hi none n).1=((HT.sIx n 0 lo:Nat):Int)/\(sliceBounds lo hi none n).2.1=((HT.sIx n n hi:Nat):Int)/\(sliceBounds lo hi none n).2.2=1:=by
 refine⟨?_,?_,rfl⟩
 ·cases lo with
  |none=>simp[sliceBounds,HT.sIx]
  |some i =>
   simp only[sliceBounds,HT.sIx,Option.getD_none,show(1:Int) > 0 by decide,if_true]
   by_cases h:i<0
   ·simp only[h,if_true]<;>omega
   ·simp only[h,if_false]<;>omega
 ·cases hi with
  |none=>simp[sliceBounds,HT.sIx]
  |some i =>
   simp only[sliceBounds,HT.sIx,Option.getD_none,show(1:Int) > 0 by decide,if_true]
   by_cases h:i<0
   ·simp only[h,if_true]<;>omega
   ·simp only[h,if_false]<;>omega
theorem JED(its:List Value)(lo hi:Option Int):slicePick its.toArray lo hi none=((its.drop (HT.sIx its.length 0 lo)).take (HT.sIx its.length its.length hi - HT.sIx its.length 0 lo)).toArray:=by
 obtain⟨h1,h2,h3⟩:=JEm lo hi its.toArray.size;unfold slicePick;rw[h1,h2,h3];simp only[sliceRange_one,pick_run,q_f]<;>rfl
def rSlL(K:Kq):V->Option Int->Option Int->Hp->VK->Prop:=λx lo hi H Q=>∃a xs,x=.ref a/\SqL K H a xs/\∀p,H p=none->Q (.ref p) (upd H p (.lst (cutV xs lo hi)))
theorem JIy:SlR X (rSlL X.K):=by
 intro pins s σ H x v vl vu lo hi sl Q I rx hs pl pu h;obtain⟨a,xs,rfl,hx,q⟩:=h;cases rx;obtain⟨its,r,ht,hz⟩:=I.list hx;have hlen:=r.length;refine⟨"list",_,slot_list_getitem.lookup,ht.isList.typeIs,?_⟩;refine wpAny_getItem_list_slice ht.isList hs pl pu .none (by simp) ?_ (by rw[q_f]<;>omega)
 rw[JED,<-hlen];refine⟨.ref s.heap.objs.size,_,I.laid (t':=s.toks) (o:=.lst (cutV xs lo hi)) (λb ob q=>q_c _ q) (q_t _) ?_,rfl,q _ (I.hok.fresh (q_t _))⟩;exact⟨Nat.le_trans (JDK xs lo hi) hz,_,0,(r.drop (HT.sIx xs.length 0 lo)).take (HT.sIx xs.length xs.length hi - HT.sIx xs.length 0 lo),q_k _ rfl⟩
theorem JEi:JBm X (.type "list") (λxs H Q=>∃p ys,xs=[.ref p]/\(SqL X.K H p ys\/SqT X.K H p ys)/\∀l,H l=none->Q (.ref l) (upd H l (.lst ys))):=by
 intro pins s σ H xs us Q I r h;obtain⟨p,ys,rfl,hq,q⟩:=h;obtain⟨u,rfl,rx⟩:=vals1 r;cases rx;have fin:∀(its:List Value),Vals ys its->ys.length<=sizeLine->∀(h':Heap) (c':Nat),(∀b o',s.heap.get? b=some o'->h'.get? b=some o') ->
   h'.get? s.heap.objs.size=some { cls:=.type "list",dict:=none,data:=.seq its.toArray c',slots:=#[] }->EP X pins σ Q (.ref s.heap.objs.size) { s with heap:=h' }:=λits r' hz h' c' kp e =>
  ⟨.ref s.heap.objs.size,_,I.laid (t':=s.toks) kp (q_t _) (show ObjOk X.prog X.w _ h' _ (.lst ys) from⟨hz,its,c',r',e⟩),rfl,q _ (I.hok.fresh (q_t _))⟩
 rcases hq with hq|hq
 ·obtain⟨its,r',pl,hz⟩:=I.list hq;have hlen:=r'.length;obtain⟨o,ho,hc,n,hd⟩:=pl.isList;exact call_list_seq p (.inl rfl) ho hc hd (λh' c' kp e=>fin its r' hz h' c' kp e) (by simp only[q_f]<;>omega)
 ·obtain⟨its,r',pl,hz⟩:=I.tuple hq;have hlen:=r'.length;obtain⟨o,ho,hc,n,hd⟩:=pl;exact call_list_seq p (.inr rfl) ho hc hd (λh' c' kp e=>fin its r' hz h' c' kp e) (by simp only[q_f]<;>omega)
theorem JEF:JBm X (.type "tuple") (λxs H Q=>∃p ys,xs=[.ref p]/\((SqL X.K H p ys/\∀l,H l=none->Q (.ref l) (upd H l (.tup ys)))\/(SqT X.K H p ys/\Q (.ref p) H))):=by
 intro pins s σ H xs us Q I r h;obtain⟨p,ys,rfl,h⟩:=h;obtain⟨u,rfl,rx⟩:=vals1 r;cases rx;rcases h with ⟨hq,q⟩|⟨hq,q⟩
 ·obtain⟨its,r',pl,hz⟩:=I.list hq;have hlen:=r'.length;refine call_tuple_list pl.isList (λh' kp=>?_) (by simp only[q_f]<;>omega)
  have I1:Inv X pins σ H { s with heap:=h' }:=I.kept (t':=s.toks) kp
  have I2:Inv X pins σ (upd H h'.objs.size (.tup ys)) { s with heap:=h'.push { cls:=.type "tuple",data:=.seq its.toArray } } :=
   I1.laid (t':=s.toks) (λb o e=>q_c _ e) (q_t _) (show ObjOk X.prog X.w _ _ _ (.tup ys) from⟨hz,its,r',IsTup.new _ _⟩)
  exact⟨.ref h'.objs.size,_,I2,rfl,q _ (I1.hok.fresh (q_t _))⟩
 ·obtain⟨its,r',pl,hz⟩:=I.tuple hq;exact call_tuple_same pl ⟨.ref p,H,I,rfl,q⟩
def tyV(K:Kq)(T:String)(x:V)(H:Hp):Prop:=match x with
 |.str _=>T="str"
 |.int _=>T="int"
 |.ref p=>(T="list"/\∃xs,SqL K H p xs)\/(T="tuple"/\∃o,K.lookup p=some o/\o.cls=.type "tuple"/\o.dict=none) \/
  (T="dict"/\((∃kvs,H p=some (.dK kvs))\/∃kvs,H p=some (.dT kvs)))\/(T="set"/\∃S n,H p=some (.set S n))
 |_=>False
theorem JK7(I:Inv X pins σ H s)(r:RelV x v)(ty:tyV X.K T x H) :
  s.TypeIs v T/\∀a,v=.ref a->∃ob,s.heap.get? a=some ob/\ob.dict=none:=by
 cases x with
 |str z =>
  obtain⟨t,rfl⟩:=r;cases(show T="str" from ty);exact⟨typeIs_str s z t,λ_ e=>nomatch e⟩
 |int i =>
  obtain⟨t,rfl⟩:=r;cases(show T="int" from ty);exact⟨typeIs_int s i t,λ_ e=>nomatch e⟩
 |ref p =>
  cases r;rcases ty with ⟨rfl,xs,hq⟩|⟨rfl,o,hk,hc,hd⟩|⟨rfl,hk⟩|⟨rfl,S,n,hk⟩
  ·obtain⟨its,_,pl,_⟩:=I.list hq;refine⟨pl.isList.typeIs,λa e=>?_⟩;cases e;obtain⟨o,n,e,c,hd,_⟩:=pl;exact⟨o,e,hd⟩
  ·refine⟨⟨o,I.kIn p o hk,hc⟩,λa e=>?_⟩;cases e;exact⟨o,I.kIn _ o hk,hd⟩
  ·have z:∃o,s.heap.get? p=some o/\o.ExactDict:=by
    rcases hk with ⟨kvs,hk⟩|⟨kvs,hk⟩
    ·obtain⟨_,_,_,_,o,_,_,e,ex,_⟩:=I.hok p _ hk;exact⟨o,e,ex⟩
    ·obtain⟨_,_,_,_,o,_,_,e,ex,_⟩:=I.hok p _ hk;exact⟨o,e,ex⟩
   obtain⟨o,e,ex⟩:=z;refine⟨⟨o,e,ex.1⟩,λa e2=>?_⟩;cases e2;exact⟨o,e,ex.2.1⟩
  ·obtain⟨o,_,_,_,e,ex,_⟩:=I.hok p _ hk;refine⟨⟨o,e,ex.1⟩,λa e2=>?_⟩;cases e2;exact⟨o,e,ex.2.1⟩
 |_=>exact fF ty
def tBM(K:Kq)(T:String)(r:V->List V->Hp->VK->Prop)(to:TE)(t:TA):TE:=λσ H Q=>to σ H λx H1=>tyV K T x H1/\t σ H1 λxs H2=>r x xs H2 Q
variable{o e:Expr}{es:List Expr}{to:TE}{t:TA}{name:Str}{apos cpos:Pos}{T id:String}{r:V->List V->Hp->VK->Prop}
theorem JKp(pa:PlainAttrs T)(slot:Slot T name id)(hty:typeOf (.builtin id)=pure (.type "method_descriptor"))(hm:MtR X id r)(ho:PE X o to)(ha:PA X (e::es) t)
  (hbase:attributeBase o name X.env (eval o X.env)=eval o X.env:=by rfl)
  (hfew:((backTo cpos (starEach (e::es) X.env)).all (λx=>!x.1)&&(backToKw cpos (keywordEach [] X.env)).all (λx=>x.1.isSome)
    && decide ((e::es).length+([]:List Keyword).length+(if ([]:List Keyword).isEmpty then 0 else 1)<30))=true:=by rfl)
  (hline:(apos.endLine==cpos.line)=true:=by rfl) (hs:starEach (e::es) X.env=(false,eval e X.env)::starEach es X.env:=by rfl) (hplain:(backTo cpos (starEach es X.env)).any (·.1)=false:=by rfl) :
  PE X (.Call (.Attribute o name apos) (e::es) [] cpos) (tBM X.K T r to t):=by
 intro pins s σ H Q I h;refine wpAny_Call_method_late hbase hfew hline rfl (thn (ho pins s σ H _ I h) λv s1 ⟨x,H1,I1,r1,ty,q1⟩=>?_);obtain⟨h1,h2⟩:=JK7 I1 r1 ty;refine⟨T,id,pa,slot,hty,h1,h2,?_⟩;have hA:=ha cpos pins s1 σ H1 _ I1 q1;rw[hs]at hA ⊢;refine Calls.callWith_builtin (by show(false || (backTo cpos (starEach es X.env)).any (·.1))=false;rw[hplain]<;>rfl) (Calls.evalArgs_plain ?_)
 exact thn hA λus s2 ⟨vs,H2,I2,r2,q2⟩=>hm pins s2 σ H2 x vs v us Q I2 r1 r2 q2
end
end L2
namespace L2
open PySem PySem.Spec PyProof.Rows
def MtM(X:Cx)(id:String)(r:V->List V->Hp->VK->Prop):Prop :=
 ∀(pins:Pq) (s:Shared) (σ:St) (H:Hp) (x:V) (xs:List V) (v:Value) (us:List Value) (Q:VK),Inv X pins σ H s->RelV x v->Vals xs us->r x xs H Q ->
  wpAny (model X.prog X.w) X.A (call (.builtin id) (v::us)) (EP X pins σ Q) X.xe s
theorem Vals.one:∀ {x:V}{us:List Value},Vals [x] us->∃u,us=[u]/\RelV x u
 |_,_,.cons r .nil=>⟨_,rfl,r⟩
theorem Vals.rep(h:Vals xs us):∀k:Nat,Vals (List.replicate k xs).flatten (List.replicate k us).flatten
 |0=>.nil
 |k+1=>by
  rw[List.replicate_succ,List.replicate_succ,List.flatten_cons,List.flatten_cons];exact Vals.append h (Vals.rep h k)
section
variable{X:Cx}{pins:Pq}{σ:St}{H:Hp}{s:Shared}{l b:Addr}{xs ys zs:List V}
theorem Inv.lset{its its':List Value}{n:Nat}{f:Array Value->Array Value}{t':Nat}(I:Inv X pins σ H s)(hH:H l=some (.lst xs))
  (e:s.heap.get? l=some { cls:=.type "list",data:=.seq its.toArray n }) (hf:f its.toArray=its'.toArray) (hv:Vals ys its') (hz:ys.length<=sizeLine) :
  Inv X pins σ (upd H l (.lst ys)) { s with heap:=s.heap.update l (Obj.mapSeq f),toks:=t' }:=by
 have q:=PySem.IsL.update e f;rw[hf]at q;refine I.write (x:=l) (e:=l) (by rw[hH];exact trivial) (.inl rfl) (λb' u hb hu=>(Heap.get?_update_other s.heap (Obj.mapSeq f) (Ne.symm hb)).trans hu) ⟨_,q⟩ ?_
 exact⟨hz,its',_,hv,q⟩
theorem Inv.lnew{t':Nat}(I:Inv X pins σ H s)(hv:Vals ys its)(hz:ys.length<=sizeLine) :
  Inv X pins σ (upd H s.heap.objs.size (.lst ys)) { s with heap:=s.heap.push { cls:=.type "list",data:=.seq its.toArray },toks:=t' } :=
 I.laid (λ_ _ q=>q_c _ q) (q_t _) ⟨hz,its,0,hv,q_k _ rfl⟩
theorem Inv.fresh(I:Inv X pins σ H s):H s.heap.objs.size=none:=I.hok.fresh (q_t _)
theorem Inv.lstM(I:Inv X pins σ H s)(hH:H l=some (.lst xs)):xs.length<=sizeLine/\∃(its:List Value) (n:Nat),Vals xs its/\xs.length=its.length/\s.heap.get? l=some { cls:=.type "list",data:=.seq its.toArray n }:=by
 obtain⟨z,its,n,r,e⟩:=I.hok l _ hH;exact⟨z,its,n,r,r.length,e⟩
theorem JEP{n:Nat}(h:n<=sizeLine):Builtin.List.listTooLong n=false:=by
 unfold Builtin.List.listTooLong;exact q_o (by omega)
end
section
variable{X:Cx}
def JOK:V->List V->Hp->VK->Prop:=λx vs H Q=>∃l xs y,x=.ref l/\vs=[y]/\H l=some (.lst xs)/\xs.length<sizeLine/\Q .non (upd H l (.lst (xs++[y])))
theorem JEo:MtM X "list.append" JOK:=by
 intro pins s σ H x vs v us Q I rx rv h;obtain⟨l,xs,y,rfl,rfl,hH,hz,q⟩:=h;cases rx;obtain⟨u,rfl,ru⟩:=rv.one;obtain⟨z,its,n,r,hl,e⟩:=I.lstM hH;refine call_meets F.slot_list_append ⟨_,e,rfl⟩ F.entry_list_append (F.args_list_append_2 _ _) (PySem.list_append l its.toArray n u (by rw[q_f];omega)) ⟨e,?_⟩
 refine⟨.non,_,I.lset (its':=its++[u]) hH e (by simp) (r.append (.cons ru .nil)) ?_,rfl,q⟩
 rw[q_u,List.length_singleton];omega
def JOE:V->List V->Hp->VK->Prop:=λx vs H Q=>∃l b xs zs,x=.ref l/\vs=[.ref b]/\H l=some (.lst xs)/\H b=some (.lst zs)/\xs.length+zs.length<=sizeLine/\Q .non (upd H l (.lst (xs++zs)))
theorem JH0:MtM X "list.extend" JOE:=by
 intro pins s σ H x vs v us Q I rx rv h;obtain⟨l,b,xs,zs,rfl,rfl,hH,hB,hz,q⟩:=h;cases rx;obtain⟨u,rfl,ru⟩:=rv.one;cases ru;obtain⟨z,its,n,r,hl,e⟩:=I.lstM hH;obtain⟨z2,its2,n2,r2,hl2,e2⟩:=I.lstM hB;have hsz:its.toArray.size+its2.toArray.size<=sizeLine:=by rw[q_f,q_f];omega
 have hlong:¬(!its.toArray.isEmpty&&Builtin.List.listTooLong (its.toArray.size+its2.toArray.size))=true:=by
  rw[JEP hsz,Bool.and_false];exact Bool.false_ne_true
 refine call_meets F.slot_list_extend ⟨_,e,rfl⟩ F.entry_list_extend (F.args_list_extend_2 _ _)
  (AutoSeq1.list_extend_list_list_0 l its.toArray n b its2.toArray n2 hlong (by rw[q_f];omega) (by omega)) ⟨e,e2,?_⟩
 refine⟨.non,_,I.lset (its':=its++its2) hH e (by simp) (r.append r2) ?_,rfl,q⟩
 rw[q_u];omega
theorem len_rep{α:Type}(xs:List α)(k:Nat):(List.replicate k xs).flatten.length=k*xs.length:=by
 induction k with
 |zero=>simp
 |succ k ih=>rw[List.replicate_succ,List.flatten_cons,q_u,ih,Nat.succ_mul,Nat.add_comm]
end
section
variable{prog:Program}{w:World}{A:Around}{E:Vq}{s:Shared}
set_option maxRecDepth 100000 in
end
section
variable{X:Cx}
end
end L2
namespace Att
open PySem PySem.W PySem.Calls PyProof.Rows
theorem JDb:∀(ns:List Int) (vs:List Value),WellAll P h vs (ns.map WData.int)->IntsAre vs ns:=by
 intro ns
 induction ns with
 |nil =>
  intro vs w;rw[List.map_nil]at w;cases w;exact .nil
 |cons n ns ih =>
  intro vs w;rw[List.map_cons]at w;cases w with
  |cons a b =>
   cases a;exact .cons _ _ (ih _ b)
theorem JIp{l:OpenLaw}{n:Nat}(hn:l.most=some n){P:Params}{h:Heap}{args:List WData}{vals:List Value}
  (hpre:l.row.toRowW.claim.pre args=true) (hwl:WellAll P h vals args) :
  ∃a vs ns,vals=[Value.ref a]/\args=[WData.list (ns.map WData.int)]/\h.get? a=some { cls:=.type "list",data:=.seq vs.toArray }/\IntsAre vs ns/\ns.length<=n:=by
 have hsh:WShape.hasAll [] args [.list .int]=true:=(pre_splitW hpre).1;have hc:l.pre.holds [] { args:=args }=true:=(pre_splitW hpre).2;obtain⟨d,r,rfl,h1,h2⟩:=hasAllW_cons hsh;obtain rfl:=hasAllW_nil h2;obtain⟨xs,rfl,h3⟩:=hasW_list h1;obtain⟨ns,rfl⟩:=items_int h3;have hlen:ns.length<=n:=by
  unfold OpenLaw.pre at hc;have h4:(WTm.not (.lt (.lit (.int (n:Int))) (.len (.arg 0)))).holds [] { args:=[.list (ns.map .int)] }=true:=by
    have h4:=(holds_andW hc).1;rw[hn]at h4;exact h4
  have h5:=condW_of h4 (w_not (w_lt w_lit (w_len_list (w_arg rfl))));rw[q_g]at h5;refine Nat.le_of_not_lt λq=>?_;have q':(n:Int)<((ns.length:Nat):Int):=by omega
  first
    |(rw[decide_eq_true q']at h5;exact absurd h5 (by decide))
    |(simp at h5;omega)
 cases hwl with
 |cons w1 w2 =>
  cases w2;cases w1 with
  |list ho hall=>exact⟨_,_,ns,rfl,rfl,ho,JDb ns _ hall,hlen⟩
theorem JJB(l:OpenLaw)(args:List WData):l.row.toRowW.claim.post args (.bool true) args=true :=
 postW_of (r:=l.row.toRowW) (X:=(true==true))
  (show WShape.has [] (.bool true) .bool=true by first|rfl|decide|simp[WShape.has,WShape.arms,WShape.armsAll])
  (show(WTm.eq .res (.lit (.bool true))).value [] { args:=args,res:=some (.bool true),after:=args }=some (.bool (true==true)) from w_eq_bool (w_res rfl) w_lit) rfl
theorem attach_call{l:OpenLaw}{n:Nat}{q:Program}{loose:List Str}{XP:(Mq)->Heap->Prop}{YP:World->Heap->Prop}{d:DefRec}
  (hn:l.most=some n) (hdf:d.params.defaults=[])
  (call:∀(w:World) (s₀ s₁:Shared) (mg mb:Mq) (fa:Addr) (o:Obj) (pm cd doc:Value) (a:Addr) (vs:List Value) (ns:List Int),
    Ground q loose [] XP w s₀ mg mb s₁.heap->YP w s₁.heap ->
    s₁.heap.get? fa=some o->o.data=.func (docDef d.name d.params d.body d.scope pm cd doc)->s₁.heap.CodeRec cd d.name->mg d.name=some (.ref fa) ->
    s₁.heap.get? a=some { cls:=.type "list",data:=.seq vs.toArray }->IntsAre vs ns->ns.length<=n->s₁.gens=#[] ->
    codeAny (model l.prog w) callerA (.call (.ref fa) ⟨[.ref a],[]⟩) (λr s'=>r=.ok (.ret (.bool true))/\OldK s₁.heap s'.heap/\s'.os=s₁.os/\AllBare s'.gens) s₁) :
  WalkO q loose XP YP l.row.toRowW d [] (λf vs=>PySem.call f vs):=by
 intro w s₀ s₁ mg mb G Y fa o pm cd doc dV kV ho hd hcd hD hmg hg args vals as hpre hlay hrd hwl hlo;obtain rfl:dV=.none:=Dflts.none hD hdf;obtain rfl:kV=.none:=Dflts.noKw hD;obtain⟨a,vs,ns,rfl,rfl,hobj,hints,hlen⟩:=JIp hn hpre hwl;refine enter_call (codeAny_mono (call w s₀ s₁ mg mb fa o pm cd doc a vs ns G Y ho (fd_plain hd) hcd hmg hobj hints hlen hg) λr s' hq=>?_);obtain⟨rfl,h2,h3,h4⟩:=hq;exact⟨.inl ⟨.bool true,.bool true,[],rfl,λ_=>rfl,.bool true,JJB l _,λ_=>⟨List.Pairwise.nil,λ_ hm=>(nomatch hm)⟩⟩,h2,h3,h4⟩
section
variable{prog:Program}{w:World}{A:Around}{E:Vq}{s:Shared}{K:Frag}
end
end Att
namespace L2
open PySem PySem.Spec PyProof.Rows
theorem JDR:∀ {vs:List Value}{ns:List Int},IntsAre vs ns->Vals (ns.map V.int) vs
 |_,_,.nil=>.nil
 |_,_,.cons n t h=>.cons ⟨t,rfl⟩ (JDR h)
def Only(H:Hp):Prop:=∀b,H b=none\/∃o xs,H b=some (.frz o (.lst xs))
end L2
namespace L2
open PySem PySem.Spec PyProof.Rows
end L2
namespace L2
open PySem PySem.Spec PyProof.Rows
noncomputable def JA8(s:Stmt):Arguments:=match s with
 |.FunctionDef _ a _ _ _ _ _ _ _ _=>a
 |_=>{ posonlyargs:=[],args:=[],vararg:=none,kwonlyargs:=[],kw_defaults:=[],kwarg:=none,defaults:=[] }
noncomputable def JAX(s:Stmt):List Stmt:=match s with
 |.FunctionDef _ _ b _ _ _ _ _ _ _=>b
 |_=>[]
noncomputable def JAD(s:Stmt):Scope:=match s with
 |.FunctionDef _ _ _ _ _ _ sc _ _ _=>sc
 |_=>{ kind:=.function,names:=[],isGenerator:=false,isCoroutine:=false }
structure Fun(K:Kq)(x qual:Str)(st:Stmt)(f:Addr)(fd:FuncData):Prop where
 ex:∃(oc:Value) (od:Option Addr) (kV doc pm:Value) (an:Option Addr) (cdv ct:Value) (osl:Array (Option Value)),
  fd=PySem.W.fnOf x qual (JA8 st) (JAX st) (JAD st) .none kV doc pm an cdv ct/\K.lookup f=some ⟨oc,od,.func fd,osl⟩/\PySem.W.codeIn K cdv qual=true
 kp:PySem.W.keepIn K (.ref f)=true
section
variable{P:Program}{w:World}{K:Kq}{mg:Mq}{base:Heap}
theorem Fun.binds{x qual:Str}{st:Stmt}{f:Addr}{fd:FuncData}{ps:List Str}(F:Fun K x qual st f fd)
  (h:∀(kV doc pm:Value) (an:Option Addr) (cdv ct:Value) (us:List Value),us.length=ps.length->bindArgs (PySem.W.fnOf x qual (JA8 st) (JAX st) (JAD st) .none kV doc pm an cdv ct) ⟨us,[]⟩=pure (ps.zip us)):Binds K fd ps []:=by
 obtain⟨oc,od,kV,doc,pm,an,cdv,ct,osl,rfl,lk,hcd⟩:=F.ex;exact .all (h kV doc pm an cdv ct)
theorem JF0{x qual:Str}{st:Stmt}{f:Addr}{oc:Value}{od an:Option Addr}{osl:Array (Option Value)}{kV doc pm cdv ct:Value}(l:K.lookup f=some ⟨oc,od,.func (PySem.W.fnOf x qual (JA8 st) (JAX st) (JAD st) .none kV doc pm an cdv ct),osl⟩)
 (c:PySem.W.codeIn K cdv qual=true) (k:PySem.W.keepIn K (.ref f)=true):Fun K x qual st f (PySem.W.fnOf x qual (JA8 st) (JAX st) (JAD st) .none kV doc pm an cdv ct):=⟨⟨oc,od,kV,doc,pm,an,cdv,ct,osl,rfl,l,c⟩,k⟩
end
section
variable{X:Cx}
end
theorem iteF{A B:Prop}(h:B):if false=true then A else B:=by
 rw[if_neg Bool.false_ne_true];exact h
theorem iteT{A B:Prop}(h:A):if true=true then A else B:=by
 rw[if_pos rfl];exact h
def Same(H H':Hp):Prop:=∀b o,H b=some o->H' b=some o
theorem Same.refl(H:Hp):Same H H:=λ_ _ h=>h
theorem Same.trans{H H1 H2:Hp}(a:Same H H1)(b:Same H1 H2):Same H H2:=λc o h=>b c o (a c o h)
theorem Same.free{H H':Hp}(e:Same H H'){l:Addr}(h:H' l=Option.none):H l=Option.none:=by
 cases q:H l with
 |none=>rfl
 |some o =>
  rw[e l o q]at h;cases h
theorem Same.seq{K:Kq}{H H':Hp}{a:Addr}{xs:List V}(e:Same H H')(h:SqL K H a xs):SqL K H' a xs:=by
 rcases h with (h|⟨o,h⟩)|h
 ·exact .inl (.inl (e _ _ h))
 ·exact .inl (.inr ⟨o,e _ _ h⟩)
 ·exact .inr h
end L2
set_option autoImplicit true
section
set_option backward.eqns.nonrecursive false
namespace VI
open PySem
abbrev D:=PyData
noncomputable def excD(c:Nat):D:=.dict [(.none,.int (c:Int))]
inductive R(α:Type) where
 |ok (a:α)
 |exc (c:Nat)
 |bad
@[reducible] def R.bind {α β:Type}(r:R α) (f:α->R β):R β :=
 match r with
 |.ok a=>f a
 |.exc c=>.exc c
 |.bad=>.bad
inductive Ty where
 |int|bool|str|list|tuple|dict|valueError|own (c:Nat)
 deriving DecidableEq
inductive Blt where
 |len|abs|all
 deriving DecidableEq
inductive O1 where
 |slice (lo hi:Option Int)
 |toTup|toLst|rev
 deriving DecidableEq
inductive XO where
 |rev|sst|dtk|mx2
 deriving DecidableEq
inductive E where
 |var (i:Nat)
 |cint (i:Int)|cbl (b:Bool)|cnon|cstr (x:Str)
 |glo (i:Nat)
 |bin (op:Operator) (a b:E)
 |neg (a:E)
 |not (a:E)
 |and (a b:E)
 |or (a b:E)
 |cmp (op:CmpOp) (a b:E)
 |isN (a:E) (neg:Bool)
 |isB (a:E) (b:Bool)
 |ife (c a b:E)
 |nil
 |cons (a r:E)
 |tup (es:E)
 |lst (es:E)
 |idx (a i:E)
 |call (f:Nat) (es:E)
 |blt (b:Blt) (es:E)
 |rng (es:E)
 |isi (a:E) (t:Ty)
 |mcount (o a:E)
 |mindex (o a:E)
 |mget (o a b:E)
 |cmpr (k:Nat) (elt iter cond:E)
 |rep (k:Nat) (es:E)
 |fn1 (o:O1) (a:E)
 |isnB (a:E) (b:Bool)
 |xop (k:XO) (es:E)
inductive Sl where
 |no
 |val (d:D)
 |own (d:D)
noncomputable def Sl.get:Sl->R D
 |.no=>.bad
 |.val d=>.ok d
 |.own d=>.ok d
noncomputable def Sl.frz:Sl->Sl
 |.own d=>.val d
 |s=>s
noncomputable def Sl.isOwn:Sl->Bool
 |.own _=>true
 |_=>false
abbrev Env:=List Sl
noncomputable def look(δ:Env)(i:Nat):R D:=match δ[i]? with
 |some s=>s.get
 |none=>.bad
structure Cn where
 fn:Nat->List D->R D
 glo:Nat->R D
 sub:Nat->Nat->Bool
noncomputable def truth:D->R Bool
 |.none=>.ok false
 |.bool b=>.ok b
 |.int i=>.ok (i != 0)
 |.str x=>if x.length<=16777216 then .ok ((x.length:Int) != 0) else .bad
 |.list xs=>.ok (!xs.isEmpty)
 |.tuple xs=>.ok (!xs.isEmpty)
 |.dict _=>.bad
open Classical in
noncomputable def binD(op:Operator)(x y:D):R D :=
 match op,x,y with
 |.Add,.int i,.int j=>.ok (.int (i+j))
 |.Sub,.int i,.int j=>.ok (.int (i - j))
 |.Mult,.int i,.int j=>if IntMulOk i j then .ok (.int (i*j)) else .bad
 |.FloorDiv,.int i,.int j=>if j≠0/\Builtin.divisionGoesByPylong i j=false then .ok (.int (i.fdiv j)) else .bad
 |.Mod,.int i,.int j=>if j≠0 then .ok (.int (i.fmod j)) else .bad
 |.Add,.tuple xs,.tuple ys=>if xs.length+ys.length<=16777216 then .ok (.tuple (xs++ys)) else .bad
 |.Add,.list xs,.list ys=>if xs.length+ys.length<=16777216 then .ok (.list (xs++ys)) else .bad
 |.Mult,.list xs,.int k=>if -(2 ^ 62)<=k/\k<2 ^ 62/\xs.length*k.toNat<=16777216 then .ok (.list (List.replicate k.toNat xs).flatten) else .bad
 |_,_,_=>.bad
noncomputable def shaped(d:D):Bool:=d.canLay0&&decide (d.depth<=64)
noncomputable def JCi(xs:List D)(x:D):Bool:=PyData.canLayAll0 xs&&x.canLay0&&decide (x.depth<=60)
noncomputable def cmpD(op:CmpOp)(x y:D):R D :=
 match op with
 |.Eq=>if (shaped x&&shaped y)=true then .ok (.bool (PyData.eqv x y)) else .bad
 |.NotEq=>if (shaped x&&shaped y)=true then .ok (.bool (!PyData.eqv x y)) else .bad
 |.Lt=>match x,y with|.int i,.int j=>.ok (.bool (decide (i<j)))|_,_=>.bad
 |.LtE=>match x,y with|.int i,.int j=>.ok (.bool (decide (i<=j)))|_,_=>.bad
 |.Gt=>match x,y with|.int i,.int j=>.ok (.bool (decide (j<i)))|_,_=>.bad
 |.GtE=>match x,y with|.int i,.int j=>.ok (.bool (decide (j<=i)))|_,_=>.bad
 |.In=>match y with
  |.list xs=>if JCi xs x=true then .ok (.bool (xs.any λz=>PyData.eqv z x)) else .bad
  |.tuple xs=>if JCi xs x=true then .ok (.bool (xs.any λz=>PyData.eqv z x)) else .bad
  |_=>.bad
 |.NotIn=>match y with
  |.list xs=>if JCi xs x=true then .ok (.bool (!xs.any λz=>PyData.eqv z x)) else .bad
  |.tuple xs=>if JCi xs x=true then .ok (.bool (!xs.any λz=>PyData.eqv z x)) else .bad
  |_=>.bad
 |_=>.bad
noncomputable def isNone:D->Bool
 |.none=>true
 |_=>false
noncomputable def isBool(b:Bool):D->R Bool
 |.bool c=>.ok (c==b)
 |_=>.bad
noncomputable def ixN(n:Nat)(i:Int):Option Nat:=if 0<=i then (if i<n then some i.toNat else none) else if -(n:Int)<=i then some (i+n).toNat else none
noncomputable def atI{α:Type}(xs:List α)(i:Int):Option α:=(ixN xs.length i).bind λj=>xs[j]?
noncomputable def optR{α:Type}:Option α->R α
 |some a=>.ok a
 |none=>.bad
noncomputable def getK:List (D×D)->Str->R D
 | [],_=>.bad
 |(.str k,v)::r,x=>if k=x then .ok v else getK r x
 |_::_,_=>.bad
noncomputable def idxD(x i:D):R D :=
 match x,i with
 |.list xs,.int i=>optR (atI xs i)
 |.tuple xs,.int i=>optR (atI xs i)
 |.dict kvs,.str y=>getK kvs y
 |.str x,.int i=>if x.cps.size<=1000 then optR ((atI x.cps.toList i).map λc=>.str ⟨#[c]⟩) else .bad
 |_,_=>.bad
noncomputable def isiD(sub:Nat->Nat->Bool)(x:D)(t:Ty):R D :=
 match x with
 |.none=>.ok (.bool false)
 |.bool _=>.ok (.bool (t==.int || t==.bool))
 |.int _=>.ok (.bool (t==.int))
 |.str _=>.ok (.bool (t==.str))
 |.list _=>.ok (.bool (t==.list))
 |.tuple _=>.ok (.bool (t==.tuple))
 |.dict [(.none,.int c)]=>if sub c.toNat c.toNat=true then (match t with
  |.own e=>.ok (.bool (sub c.toNat e))
  |.valueError=>.ok (.bool true)
  |_=>.bad) else .bad
 |.dict _=>.bad
noncomputable def allD:List D->R D
 | []=>.ok (.bool true)
 |.bool b::r=>(match allD r with
  |.ok (.bool c)=>.ok (.bool (b&&c))
  |_=>.bad)
 |_=>.bad
noncomputable def bltD(b:Blt)(xs:List D):R D :=
 match b,xs with
 |.len,[.list ys]=>.ok (.int ys.length)
 |.len,[.tuple ys]=>.ok (.int ys.length)
 |.abs,[.int i]=>.ok (.int (if i<0 then -i else i))
 |.all,[.list ys]=>allD ys
 |_,_=>.bad
noncomputable def JDz(lo hi:Int):List D:=(List.range (hi - lo).toNat).map λ(k:Nat)=>.int (lo+k)
noncomputable def small(i:Int):Bool:=decide (-(2 ^ 62)<=i)&&decide (i<2 ^ 62)
noncomputable def rngD(xs:List D):R (List D) :=
 match xs with
 | [.int j]=>if small j=true then .ok (JDz 0 j) else .bad
 | [.int i,.int j]=>if (small i&&small j)=true then .ok (JDz i j) else .bad
 |_=>.bad
noncomputable def JAc:D->R (List D)
 |.list xs=>.ok xs
 |.tuple xs=>.ok xs
 |_=>.bad
noncomputable def JD5(x y:D):R D :=
 match x with
 |.list xs=>if JCi xs y=true then .ok (.int (xs.countP λz=>PyData.eqv z y:Nat)) else .bad
 |_=>.bad
noncomputable def JD0(x y:D):R D :=
 match x with
 |.list xs=>if JCi xs y=true then
  (match xs.findIdx? λz=>PyData.eqv z y with
   |some j=>.ok (.int j)
   |none=>.bad) else .bad
 |_=>.bad
noncomputable def getD:List (D×D)->Str->D->R D
 | [],_,z=>.ok z
 |(.str k,v)::r,x,z=>if k=x then .ok v else getD r x z
 |_,_,_=>.bad
noncomputable def JNH(x k z:D):R D :=
 match x,k with
 |.dict kvs,.str y=>getD kvs y z
 |_,_=>.bad
def sI(n d:Nat):Option Int->Nat
 |none=>d
 |some v=>if v<0 then (v+(n:Int)).toNat else min v.toNat n
def cutD{α:Type}(xs:List α)(lo hi:Option Int):List α:=(xs.drop (sI xs.length 0 lo)).take (sI xs.length xs.length hi - sI xs.length 0 lo)
noncomputable def op1D(o:O1)(d:D):R D:=match o,d with
 |.slice lo hi,.tuple xs=>.ok (.tuple (cutD xs lo hi))
 |.slice lo hi,.list xs=>.ok (.list (cutD xs lo hi))
 |.toTup,.tuple xs=>.ok (.tuple xs)
 |.toTup,.list xs=>.ok (.tuple xs)
 |.toLst,.tuple xs=>.ok (.list xs)
 |.toLst,.list xs=>.ok (.list xs)
 |.rev,.list xs=>.ok (.list xs.reverse)
 |_,_=>.bad
noncomputable def xD(k:XO)(xs:List D):R D:=match k,xs with
 |.rev,[.list ys]=>.ok (.list ys.reverse)
 |.sst,[.list []]=>.ok (.list [])
 |.mx2,[.int i,.int j]=>.ok (.int (if j > i then j else i))
 |.dtk,[x,.int n]=>op1D (.slice none (some n)) x
 |_,_=>.bad
noncomputable def JN2:D->Bool
 |.list _=>true
 |_=>false
noncomputable def JPp:D->Bool
 |.dict []=>true
 |.dict ((.str _,_)::_)=>true
 |_=>false
noncomputable def push(k:Nat)(x:D)(δ:Env):R Env :=
 match k with
 |0=>.ok (.val x::δ)
 |_+1=>.bad
noncomputable def JBM(f:D->R (Option D)):List D->R (List D)
 | []=>.ok []
 |x::xs=>match f x with
  |.ok (some y)=>(match JBM f xs with
   |.ok ys=>.ok (y::ys)
   |_=>.bad)
  |.ok none=>JBM f xs
  |_=>.bad
mutual
noncomputable def ev(C:Cn):E->Env->R D
 |.var i,δ=>look δ i
 |.cint i,_=>.ok (.int i)
 |.cbl b,_=>.ok (.bool b)
 |.cnon,_=>.ok .none
 |.cstr x,_=>.ok (.str x)
 |.glo i,_=>C.glo i
 |.bin op a b,δ=>(ev C a δ).bind λx=>(ev C b δ).bind λy=>binD op x y
 |.neg a,δ=>(ev C a δ).bind λx=>match x with|.int i=>.ok (.int (-i))|_=>.bad
 |.not a,δ=>((ev C a δ).bind truth).bind λb=>.ok (.bool (!b))
 |.and a b,δ=>(ev C a δ).bind λx=>match x with|.bool true=>ev C b δ|.bool false=>.ok (.bool false)|_=>.bad
 |.or a b,δ=>(ev C a δ).bind λx=>match x with|.bool true=>.ok (.bool true)|.bool false=>ev C b δ|_=>.bad
 |.cmp op a b,δ=>(ev C a δ).bind λx=>(ev C b δ).bind λy=>cmpD op x y
 |.isN a n,δ=>(ev C a δ).bind λx=>.ok (.bool (if n=true then !isNone x else isNone x))
 |.isB a b,δ=>(ev C a δ).bind λx=>(isBool b x).bind λk=>.ok (.bool k)
 |.ife c a b,δ=>(evT C c δ).bind λk=>if k=true then ev C a δ else ev C b δ
 |.nil,_=>.bad
 |.cons _ _,_=>.bad
 |.tup es,δ=>(evA C es δ).bind λxs=>.ok (.tuple xs)
 |.lst es,δ=>(evA C es δ).bind λxs=>.ok (.list xs)
 |.idx a i,δ=>(ev C a δ).bind λx=>(ev C i δ).bind λy=>idxD x y
 |.call f es,δ=>(evA C es δ).bind λxs=>C.fn f xs
 |.blt b es,δ=>(evA C es δ).bind λxs=>bltD b xs
 |.rng _,_=>.bad
 |.isi a t,δ=>(ev C a δ).bind λx=>isiD C.sub x t
 |.mcount o a,δ=>(ev C o δ).bind λx=>if JN2 x=true then (ev C a δ).bind λy=>JD5 x y else .bad
 |.mindex o a,δ=>(ev C o δ).bind λx=>if JN2 x=true then (ev C a δ).bind λy=>JD0 x y else .bad
 |.mget o a b,δ=>(ev C o δ).bind λx=>if JPp x=true then (ev C a δ).bind λy=>(ev C b δ).bind λz=>JNH x y z else .bad
 |.cmpr k elt iter cond,δ=>(evI C iter δ).bind λxs=>if xs.length<=16777216 then (JBM (λx=>(push k x δ).bind λδ1=>(evT C cond δ1).bind λt =>
  if t=true then (ev C elt δ1).bind λy=>.ok (some y) else .ok none) xs).bind λys=>.ok (.list ys) else .bad
 |.rep k es,δ=>(evA C es δ).bind λxs=>.ok (.list (List.replicate k xs).flatten)
 |.fn1 o a,δ=>(ev C a δ).bind λx=>op1D o x
 |.isnB a b,δ=>(ev C a δ).bind λx=>(isBool b x).bind λk=>.ok (.bool (!k))
 |.xop k es,δ=>(evA C es δ).bind (xD k)
noncomputable def evT(C:Cn):E->Env->R Bool
 |.not a,δ=>(evT C a δ).bind λb=>.ok (!b)
 |.and a b,δ=>(evT C a δ).bind λx=>if x=true then evT C b δ else .ok false
 |.or a b,δ=>(evT C a δ).bind λx=>if x=true then .ok true else evT C b δ
 |.var i,δ=>(look δ i).bind truth
 |.cbl b,_=>.ok b
 |.cmp op a b,δ=>((ev C a δ).bind λx=>(ev C b δ).bind λy=>cmpD op x y).bind truth
 |.isN a n,δ=>(ev C a δ).bind λx=>.ok (if n=true then !isNone x else isNone x)
 |.isB a b,δ=>(ev C a δ).bind λx=>isBool b x
 |.idx a i,δ=>((ev C a δ).bind λx=>(ev C i δ).bind λy=>idxD x y).bind truth
 |.call f es,δ=>((evA C es δ).bind λxs=>C.fn f xs).bind truth
 |.blt b es,δ=>((evA C es δ).bind λxs=>bltD b xs).bind truth
 |.isi a t,δ=>((ev C a δ).bind λx=>isiD C.sub x t).bind truth
 |.isnB a b,δ=>(ev C a δ).bind λx=>(isBool b x).bind λk=>.ok (!k)
 |_,_=>.bad
noncomputable def evA(C:Cn):E->Env->R (List D)
 |.nil,_=>.ok []
 |.cons a r,δ=>(ev C a δ).bind λx=>(evA C r δ).bind λxs=>.ok (x::xs)
 |_,_=>.bad
noncomputable def evI(C:Cn):E->Env->R (List D)
 |.rng es,δ=>(evA C es δ).bind rngD
 |.var i,δ=>(look δ i).bind JAc
 |.glo i,_=>(C.glo i).bind JAc
 |.idx a i,δ=>((ev C a δ).bind λx=>(ev C i δ).bind λy=>idxD x y).bind JAc
 |.call f es,δ=>((evA C es δ).bind λxs=>C.fn f xs).bind JAc
 |.tup es,δ=>evA C es δ
 |.lst es,δ=>evA C es δ
 |.fn1 o a,δ=>((ev C a δ).bind λx=>op1D o x).bind JAc
 |.bin op a b,δ=>((ev C a δ).bind λx=>(ev C b δ).bind λy=>binD op x y).bind JAc
 |.xop k es,δ=>((evA C es δ).bind (xD k)).bind JAc
 |_,_=>.bad
end
noncomputable def E.uses:E->Nat->Bool
 |.var i,j=>i==j
 |.bin _ a b,j=>a.uses j || b.uses j
 |.neg a,j=>a.uses j
 |.not a,j=>a.uses j
 |.and a b,j=>a.uses j || b.uses j
 |.or a b,j=>a.uses j || b.uses j
 |.cmp _ a b,j=>a.uses j || b.uses j
 |.isN a _,j=>a.uses j
 |.isB a _,j=>a.uses j
 |.ife c a b,j=>c.uses j || a.uses j || b.uses j
 |.cons a r,j=>a.uses j || r.uses j
 |.tup es,j=>es.uses j
 |.lst es,j=>es.uses j
 |.idx a i,j=>a.uses j || i.uses j
 |.call _ es,j=>es.uses j
 |.blt _ es,j=>es.uses j
 |.rng es,j=>es.uses j
 |.isi a _,j=>a.uses j
 |.mcount o a,j=>o.uses j || a.uses j
 |.mindex o a,j=>o.uses j || a.uses j
 |.mget o a b,j=>o.uses j || a.uses j || b.uses j
 |.rep _ es,j=>es.uses j
 |.fn1 _ a,j=>a.uses j
 |.isnB a _,j=>a.uses j
 |.xop _ es,j=>es.uses j
 |.cmpr k elt iter cond,j=>iter.uses j || elt.uses (j+(if k=0 then 1 else k)) || cond.uses (j+(if k=0 then 1 else k))
 |.cint _,_=>false
 |.cbl _,_=>false
 |.cnon,_=>false
 |.cstr _,_=>false
 |.glo _,_=>false
 |.nil,_=>false
noncomputable def E.fresh:E->Bool
 |.lst _=>true
 |.cmpr ..=>true
 |_=>false
mutual
noncomputable def JAI:D->Bool
 |.none=>true
 |.bool _=>true
 |.int _=>true
 |.str _=>true
 |.list _=>false
 |.tuple xs=>JAf xs
 |.dict [(.none,.int _)]=>true
 |.dict _=>false
noncomputable def JAf:List D->Bool
 | []=>true
 |x::xs=>JAI x&&JAf xs
end
noncomputable def JA5(e:E):Nat->Env->Env
 |_,[]=>[]
 |i,s::r=>(if e.uses i=true then s.frz else s)::JA5 e (i+1) r
noncomputable def JAP(e:E):Nat->Env->Bool
 |_,[]=>false
 |i,s::r=>(e.uses i&&s.isOwn) || JAP e (i+1) r
noncomputable def after(e:E)(d:D)(δ:Env):Env:=if (JAP e 0 δ&&!JAI d)=true then JA5 e 0 δ else δ
inductive Fl where
 |nx (δ:Env)
 |rt (d:D)
 |bk (δ:Env)
 |ct (δ:Env)
 |ex (c:Nat)
 |bad
inductive S where
 |nil|cons (s r:S)
 |pass|brk|cnt
 |asg (i:Nat) (e:E)
 |unp (is:List Nat) (e:E)
 |ret (e:E)|retN
 |ife (c:E) (a b:S)
 |app (i:Nat) (e:E)
 |ext (i:Nat) (e:E)
 |ins (i:Nat) (es:E)
 |drop (e:E)
 |for1 (i:Nat) (e:E) (b:S)
 |whl (c:E) (b:S)
 |rais (c:Nat)
@[reducible] def stepR {α:Type}(r:R α) (f:α->Fl):Fl :=
 match r with
 |.ok a=>f a
 |.exc c=>.ex c
 |.bad=>.bad
noncomputable def JBW:List Nat->List D->Env->Env
 |i::is,d::ds,δ=>JBW is ds (δ.set i (.val d))
 |_,_,δ=>δ
noncomputable def JAq(n:Nat):D->R (List D)
 |.tuple xs=>if xs.length=n then .ok xs else .bad
 |.list xs=>if xs.length=n then .ok xs else .bad
 |_=>.bad
noncomputable def forL(put:D->Env->Option Env)(body:Env->Fl):List D->Env->Fl
 | [],δ=>.nx δ
 |d::ds,δ=>match put d δ with
  |none=>.bad
  |some δ1=>match body δ1 with
   |.nx δ'=>forL put body ds δ'
   |.ct δ'=>forL put body ds δ'
   |.bk δ'=>.nx δ'
   |r=>r
noncomputable def put1(i:Nat)(d:D)(δ:Env):Option Env:=some (δ.set i (.val d))
noncomputable def JAn(c:Env->R Bool)(body:Env->Fl):Nat->Env->Fl
 |0,_=>.bad
 |n+1,δ=>match c δ with
  |.ok true=>(match body δ with
   |.nx δ'=>JAn c body n δ'
   |.ct δ'=>JAn c body n δ'
   |.bk δ'=>.nx δ'
   |r=>r)
  |.ok false=>.nx δ
  |.exc k=>.ex k
  |.bad=>.bad
open Classical in
noncomputable def JBt(c:Env->R Bool)(body:Env->Fl)(δ:Env):Fl :=
 if h:∃n,JAn c body n δ≠.bad then JAn c body h.choose δ else .bad
noncomputable def JAk(i:Nat)(ds:List D)(e:E)(x:D)(δ:Env):Fl :=
 if ds.length<16777216 then (if (JAP e 0 δ&&!JAI x)=true then .bad else .nx (δ.set i (.own (.list (ds++[x]))))) else .bad
noncomputable def JBZ(i:Nat)(ds:List D)(e:E)(x:D)(δ:Env):Fl :=
 match x with
 |.list zs=>if ds.length+zs.length<=16777216 then (if JAP e 0 δ=true then .bad else .nx (δ.set i (.own (.list (ds++zs))))) else .bad
 |_=>.bad
noncomputable def JN9(i:Nat)(ds:List D)(es:E)(xs:List D)(δ:Env):Fl :=
 match xs with
 | [.int k,y]=>if 0<=k/\k<=ds.length/\ds.length<16777216 then (if (JAP es 0 δ&&!JAI y)=true then .bad else .nx (δ.set i (.own (.list (ds.take k.toNat++y::ds.drop k.toNat))))) else .bad
 |_=>.bad
noncomputable def exec(C:Cn):S->Env->Fl
 |.nil,δ=>.nx δ
 |.cons s r,δ=>match exec C s δ with
  |.nx δ'=>exec C r δ'
  |f=>f
 |.pass,δ=>.nx δ
 |.brk,δ=>.bk δ
 |.cnt,δ=>.ct δ
 |.asg i e,δ=>stepR (ev C e δ) λx=>if e.fresh=true then .nx ((after e x δ).set i (.own x)) else .nx ((after e x δ).set i (.val x))
 |.unp is e,δ=>stepR (ev C e δ) λd=>stepR (JAq is.length d) λxs=>.nx (JBW is xs (after e d δ))
 |.ret e,δ=>stepR (ev C e δ) λx=>.rt x
 |.retN,_=>.rt .none
 |.ife c a b,δ=>stepR (evT C c δ) λk=>if k=true then exec C a δ else exec C b δ
 |.app i e,δ=>match δ[i]? with
  |some (.own (.list ds))=>stepR (ev C e δ) λx=>JAk i ds e x δ
  |_=>.bad
 |.ext i e,δ=>match δ[i]? with
  |some (.own (.list ds))=>stepR (ev C e δ) λx=>JBZ i ds e x δ
  |_=>.bad
 |.ins i es,δ=>match δ[i]? with
  |some (.own (.list ds))=>stepR (evA C es δ) λxs=>JN9 i ds es xs δ
  |_=>.bad
 |.drop e,δ=>stepR (ev C e δ) λx=>.nx (after e x δ)
 |.for1 i e b,δ=>stepR (evI C e δ) λxs=>forL (put1 i) (exec C b) xs (JA5 e 0 δ)
 |.whl c b,δ=>JBt (evT C c) (exec C b) δ
 |.rais c,_=>.ex c
structure Fd where
 par:Nat
 slots:Nat
 body:S
noncomputable def JFW(x:Bool)(C:Cn)(f:Fd)(xs:List D):R D :=
 if xs.length=f.par then
  (match exec C f.body (xs.map Sl.val++List.replicate (f.slots - f.par) Sl.no) with
   |.nx _=>.ok .none
   |.rt d=>.ok d
   |.ex c=>if x=true then .exc c else .bad
   |_=>.bad)
 else .bad
noncomputable def run(x:Bool)(tab:Nat->Option Fd)(glo:Nat->R D)(sub:Nat->Nat->Bool):Nat->Nat->List D->R D
 |0,_,_=>.bad
 |n+1,f,xs=>match tab f with
  |none=>.bad
  |some fd=>JFW x ⟨run x tab glo sub n,glo,sub⟩ fd xs
end VI
end
section
set_option backward.eqns.nonrecursive false
namespace VI
open PySem
inductive GK where
 |fn (i:Nat)|con (i:Nat)|blt (b:Blt)|ty (t:Ty)|rng|isi|cls (c:Nat)|opt|nam|rcf (i:Nat)|rcm (i j:Nat)
 deriving DecidableEq
noncomputable def JNb:Blt->Str
 |.len=>"len"
 |.abs=>"abs"
 |.all=>"all"
noncomputable def JBF:Ty->Option Str
 |.int=>some "int"
 |.bool=>some "bool"
 |.str=>some "str"
 |.list=>some "list"
 |.tuple=>some "tuple"
 |.dict=>some "dict"
 |.valueError=>some "ValueError"
 |.own _=>none
noncomputable def idxOf(x:Str):List Str->Option Nat
 | []=>none
 |y::r=>if (x==y)=true then some 0 else (idxOf x r).map (· + 1)
noncomputable def vis:Option NameKind->Bool
 |some .local=>true
 |some .cell=>true
 |some .free=>true
 |_=>false
noncomputable def JAN(x:Str):Bool:=x=="__debug__" || x=="__classdict__" || x=="__name__"
noncomputable def glob(G:List (Str×GK))(names:Nq)(x:Str):Option GK :=
 if JAN x=true then none else if names.lookup x=some .globalImplicit then G.lookup x else none
noncomputable def JAM(f:Expr->Option E):List Expr->Option E
 | []=>some .nil
 |e::r=>(f e).bind λa=>(JAM f r).bind λb=>some (.cons a b)
noncomputable def JA1(mk:E->E->E)(f:Expr->Option E):List Expr->Option E
 | []=>none
 | [e]=>f e
 |e::r=>(f e).bind λa=>(JA1 mk f r).bind λb=>some (mk a b)
noncomputable def okBin:Operator->Bool
 |.Add|.Sub|.Mult|.FloorDiv|.Mod=>true
 |_=>false
noncomputable def isSlice:Expr->Bool
 |.Slice ..=>true
 |_=>false
noncomputable def JBQ:Expr->Bool
 |.Call _ [] [] _=>true
 |_=>false
noncomputable def JAx(outer:Nq)(names:Nq):Nq :=
 names.map λ(n,k)=>if (k==.free&&true&&outer.lookup n==some .cell)=true then (n,.cell) else (n,k)
noncomputable def dots(i:Nat):Str:=⟨Array.replicate (i+2) 46⟩
noncomputable def mask(xs:List Str):Nat->List Str->List Str
 |_,[]=>[]
 |i,y::r=>(if xs.contains y=true then dots i else y)::mask xs (i+1) r
noncomputable def JDE:Expr->Option (Nat×List Str)
 |.Name x _=>some (0,[x])
 |_=>none
noncomputable def JB5(outer names:Nq)(xs N:List Str):Bool :=
 names.all (λ(n,k)=>k != .cell&&(k != .local || names.lookup n==some .local)&&(k != .free || (outer.lookup n==some .cell || outer.lookup n==some .free)))&&xs.all (λx=>names.lookup x==some .local)
  && N.all (λy=>xs.contains y || names.lookup y != some .local)&&(List.range N.length).all (λi=>!vis ((JAx outer names).lookup (dots i)))&&decide (xs++mask xs 0 N).Nodup
noncomputable def JMV(a:Expr)(op:Operator)(b:Expr):Option (List Expr×Nat):=match a,op,b with
 |.List es _,.Mult,.Constant (.int k) _ _=>if 0<=k/\k<=1000/\es.length<=1000 then some (es,k.toNat) else none
 |_,_,_=>none
noncomputable def JCo:Option Expr->Option (Option Int)
 |none=>some none
 |some (.Constant (.int k) _ _)=>some (some k)
 |some (.UnaryOp .USub (.Constant (.int k) _ _) _)=>some (some (-k))
 |_=>none
noncomputable def sliceOf:Expr->Option (Option Int×Option Int)
 |.Slice lo hi none _=>(JCo lo).bind λl=>(JCo hi).bind λh=>some (l,h)
 |_=>none
noncomputable def JHd:Expr->Bool
 |.Slice none none (some (.UnaryOp .USub (.Constant (.int 1) _ _) _)) _=>true
 |_=>false
noncomputable def JNs(a:Expr)(op:Operator)(b:Expr):Option (Int×Int):=match a,op,b with
 |.Constant (.int x) _ _,.Pow,.Constant (.int y) _ _=>if 0<=x/\x<=100/\0<=y/\y<=20 then some (x,y) else none
 |_,_,_=>none
noncomputable def o1Of:Ty->Option O1
 |.tuple=>some .toTup
 |.list=>some .toLst
 |_=>none
noncomputable def XO.flag:XO->Str
 |.rev=>".rev"
 |.sst=>".sst"
 |.dtk=>".dtk"
 |.mx2=>".mx2"
noncomputable def JHZ(G:List (Str×GK))(names:Nq)(it:Bool)(f:Str)(a:Expr):Option (XO×List Expr):=match a with
 |.Call (.Name r _) [b] [] _=>if it=false/\f="list"/\glob G names f=some (.ty .list)/\r="reversed"/\glob G names r=some .nam then some (.rev,[b])
  else if f="sorted"/\glob G names f=some .nam/\r="set"/\glob G names r=some .nam then some (.sst,[b]) else none
 |_=>if it=true/\f="reversed"/\glob G names f=some .nam then some (.rev,[a]) else none
noncomputable def xRaw(G:List (Str×GK))(names:Nq)(it:Bool):Expr->Option (XO×List Expr)
 |.Call (.Name f _) [a] [] _=>JHZ G names it f a
 |.Call (.Name f _) [a,b] [] _=>if it=false/\f="max"/\glob G names f=some .nam then some (.mx2,[a,b]) else none
 |.Subscript a (.Slice none (some b) none _) _=>if it=false/\(JCo (some b)).isNone=true then some (.dtk,[a,b]) else none
 |_=>none
noncomputable def xOf(G:List (Str×GK))(names:Nq)(it:Bool)(e:Expr):Option (XO×List Expr):=(xRaw G names it e).bind λq=>if G.lookup q.1.flag=some GK.opt then some q else none
noncomputable def JAQ(G:List (Str×GK))(f:Bool->Nq->List Str->Expr->Option E)(it:Bool)(names:Nq)(N:List Str)(e:Expr):Option E:=match e with
 |.Name x _=>if JAN x=true then none else if vis (names.lookup x)=true then (idxOf x N).map E.var
   else (match glob G names x with
   |some (.con i)=>some (.glo i)
   |_=>none)
 |.Constant c _ _=>(match it,c with
  |false,.none=>some .cnon
  |false,.bool b=>some (.cbl b)
  |false,.int i=>some (.cint i)
  |false,.str x=>some (.cstr x)
  |_,_=>none)
 |.Tuple es _ _=>if es.length<=1000 then (JAM (f false names N) es).map E.tup else none
 |.List es _=>if es.length<=1000 then (JAM (f false names N) es).map E.lst else none
 |.Subscript a i _=>if isSlice i=true then (if JHd i=true then (if G.lookup (".rvs":Str)=some GK.opt then (f false names N a).map (E.fn1 .rev) else none) else (sliceOf i).bind λq=>(f false names N a).map (E.fn1 (.slice q.1 q.2))) else (f false names N a).bind λx=>(f false names N i).bind λy=>some (.idx x y)
 |.Call (.Name g _) args [] _=>(match glob G names g with
   |some (.fn i)=>(match args with
       |_::_=>(JAM (f false names N) args).map (E.call i)
       | []=>none)
   |some .rng=>if it=true/\g="range" then (match args with
       | [_]=>(JAM (f false names N) args).map E.rng
       | [_,_]=>(JAM (f false names N) args).map E.rng
       |_=>none) else none
   |some (.blt b)=>if it=false/\g=JNb b then (match args with
       |_::_=>(JAM (f false names N) args).map (E.blt b)
       | []=>none) else none
   |some .isi=>if it=false/\g="isinstance" then (match args with
       | [a,.Name t _]=>(match glob G names t with
        |some (.ty y)=>if JBF y=some t then (f false names N a).map λx=>.isi x y else none
        |some (.cls c)=>(f false names N a).map λx=>.isi x (.own c)
        |_=>none)
       |_=>none) else none
   |some (.ty y)=>if it=false/\JBF y=some g then (o1Of y).bind λo=>(match args with
       | [a]=>(f false names N a).map (E.fn1 o)
       |_=>none) else none
   |_=>none)
 |.BinOp a op b _=>match (if it=false/\G.lookup (".rep":Str)=some GK.opt then JMV a op b else none) with
  |some (es,k)=>(JAM (f false names N) es).map (E.rep k)
  |none=>match JNs a op b with
   |some (x,y)=>if it=false then some (.cint (x ^ y.toNat)) else none
   |none=>if okBin op=true then (f false names N a).bind λx=>(f false names N b).bind λy=>some (.bin op x y) else none
 |.UnaryOp op a _=>(match it,op with
  |false,.USub=>(f false names N a).map .neg
  |false,.Not=>(f false names N a).map .not
  |_,_=>none)
 |.BoolOp op es _=>(match it,op with
  |false,.And=>JA1 .and (f false names N) es
  |false,.Or=>JA1 .or (f false names N) es
  |_,_=>none)
 |.Compare a [op] [b] _=>if it=true then none else (match op with
  |.Is=>(match b with
   |.Constant .none _ _=>(f false names N a).map λx=>.isN x false
   |.Constant (.bool k) _ _=>(f false names N a).map λx=>.isB x k
   |_=>none)
  |.IsNot=>(match b with
   |.Constant .none _ _=>(f false names N a).map λx=>.isN x true
   |.Constant (.bool k) _ _=>(f false names N a).map λx=>.isnB x k
   |_=>none)
  |_=>if behindInMarks op b=true then none else (f false names N a).bind λx=>(f false names N b).bind λy=>some (.cmp op x y))
 |.IfExp c a b _=>if it=true then none else (f false names N c).bind λz=>(f false names N a).bind λx=>(f false names N b).bind λy=>some (.ife z x y)
 |.Call (.Attribute o m ap) [a] [] cp=>if (it=false/\JBQ o=false/\(ap.endLine==cp.line)=true)/\G.lookup (".met":Str)=some GK.opt then
   (if m="count" then (f false names N o).bind λx=>(f false names N a).bind λy=>some (.mcount x y)
    else if m="index" then (f false names N o).bind λx=>(f false names N a).bind λy=>some (.mindex x y) else none) else none
 |.Call (.Attribute o m ap) [a,b] [] cp=>if (it=false/\JBQ o=false/\(ap.endLine==cp.line)=true/\m="get")/\G.lookup (".get":Str)=some GK.opt then
   (f false names N o).bind λx=>(f false names N a).bind λy=>(f false names N b).bind λz=>some (.mget x y z) else none
 |.ListComp elt [⟨tg,iter,ifs,as⟩] sc _=>if it=true\/as≠0\/sc.kind≠.function\/(G.lookup (".hot":Str)).isSome=true then none else (match JDE tg with
  |none=>none
  |some (k,xs)=>if JB5 names sc.names xs N=true then
     (f true names N iter).bind λi =>
     (f false (JAx names sc.names) (xs++mask xs 0 N) elt).bind λx =>
     (match ifs with
      | []=>some (.cmpr k x i (.cbl true))
      | [c]=>(f false (JAx names sc.names) (xs++mask xs 0 N) c).bind λy=>some (.cmpr k x i y)
      |_=>none)
   else none)
 |_=>none
noncomputable def mRaw(G:List (Str×GK)):Expr->Option ((Nat×Option Nat)×List Expr)
 |.Attribute o f _=>if JBQ o=true then none else (match G.lookup f with
  |some (.rcf i)=>some ((i,none),[o])
  |_=>none)
 |.Call (.Attribute o m ap) args [] cp=>if JBQ o=true\/(ap.endLine==cp.line)=false\/20<args.length then none else (match G.lookup m with
  |some (.rcm i j)=>some ((i,some j),o::args)
  |_=>none)
 |_=>none
noncomputable def mkM:Nat×Option Nat->E->E
 |(i,some j),.cons x y=>.call i (.cons (.call j (.cons x .nil)) y)
 |(i,_),y=>.call i y
noncomputable def mOf(G:List (Str×GK))(e:Expr):Option ((Nat×Option Nat)×List Expr):=if G.lookup (".rec":Str)=some GK.opt then mRaw G e else none
noncomputable def JAV(G:List (Str×GK))(f:Bool->Nq->List Str->Expr->Option E)(it:Bool)(names:Nq)(N:List Str)(e:Expr):Option E:=match xOf G names it e with
 |some q=>(JAM (f false names N) q.2).map (E.xop q.1)
 |none=>match mOf G e with
  |some q=>(JAM (f false names N) q.2).map (mkM q.1)
  |none=>JAQ G f it names N e
noncomputable def JAL(G:List (Str×GK)):Nat->Bool->Nq->List Str->Expr->Option E
 |0,_,_,_,_=>none
 |n+1,it,names,N,e=>JAV G (JAL G n) it names N e
theorem JAF{n:Nat}{it:Bool}{e:Expr}(h:xOf G names it e=none/\mOf G e=none):JAL G (n+1) it names N e=JAQ G (JAL G n) it names N e:=by
 unfold JAL JAV;rw[h.1];simp only;rw[h.2]
theorem JGT(q:Nat×Option Nat)(y:E):∃z,mkM q y=.call q.1 z:=by
 obtain⟨i,j⟩:=q;cases j with
 |none=>exact⟨_,rfl⟩
 |some j=>cases y<;>exact⟨_,rfl⟩
theorem JGA{n:Nat}{it:Bool}{e:Expr}{q:(Nat×Option Nat)×List Expr}(h:xOf G names it e=none)(h2:mOf G e=some q):JAL G (n+1) it names N e=(JAM (JAL G n false names N) q.2).map (mkM q.1):=by
 unfold JAL JAV;rw[h];simp only;rw[h2]
theorem JGB{n:Nat}{it:Bool}{e:Expr}{q:XO×List Expr}(h:xOf G names it e=some q):JAL G (n+1) it names N e=(JAM (JAL G n false names N) q.2).map (E.xop q.1):=by
 unfold JAL JAV;rw[h]
theorem JAK{α:Type}{x:α}{P:Prop}(h:(none:Option α)=some x):P:=by cases h
noncomputable def JEO:Option NameKind->Bool
 |some .local=>true
 |some .cell=>true
 |_=>false
noncomputable def slot(names:Nq)(N:List Str)(x:Str):Option Nat:=if JEO (names.lookup x)=true then idxOf x N else none
noncomputable def slots(names:Nq)(N:List Str):List Expr->Option (List Nat)
 | []=>some []
 |.Name x _::r=>(slot names N x).bind λi=>(slots names N r).bind λis=>some (i::is)
 |_=>none
noncomputable def JAp(f:Stmt->Option S):List Stmt->Option S
 | []=>some .nil
 |s::r=>(f s).bind λa=>(JAp f r).bind λb=>some (.cons a b)
noncomputable def JD1:Expr->Bool
 |.ListComp ..=>true
 |_=>false
noncomputable def isTup:Expr->Bool
 |.Tuple ..=>true
 |_=>false
noncomputable def JEU:Expr->Bool
 |.List ..=>true
 |_=>false
noncomputable def JPT(names:Nq)(t1 t2 e:Expr):Bool:=match t1,t2,e with
 |.Name x px,.Name y py,.Tuple [a,b] _ _=>names.lookup x==some .local&&names.lookup y==some .local&&px.line==py.line&&x != y&&!([a,b].all (foldedForSure 8))&&!([a,b].all (constantsAlone 8))
 |_,_,_=>false
noncomputable def JE4(names:Nq)(ts:List Expr)(e:Expr):Bool:=match ts with
 | [a,b]=>JPT names a b e
 |_=>false
noncomputable def JOn:Expr->Option (List Expr)
 |.Tuple es _ _=>some es
 |_=>none
noncomputable def JHC:Expr->Bool
 |.List [] _=>true
 |_=>false
noncomputable def three(names:Nq)(t1 t2 t3:Expr)(es:List Expr):Bool:=match t1,t2,t3 with
 |.Name x px,.Name y py,.Name z pz=>es.length==3&&names.lookup x==some .local&&names.lookup y==some .local&&names.lookup z==some .local&&px.line==py.line&&px.line==pz.line&&x != y&&x != z&&y != z&&!(es.all (foldedForSure 8))&&!(es.all (constantsAlone 8))
 |_,_,_=>false
noncomputable def JK1(names:Nq):Expr->Bool
 |.Name x _=>names.lookup x==some .cell
 |_=>false
noncomputable def JIN(names:Nq)(ts es:List Expr):Bool:=match ts with
 | [a,b,c]=>three names a b c es
 |_::_::_::_::_=>ts.length==es.length&&decide (es.length<=1000)
 |_=>false
noncomputable def JD2(names:Nq)(ts es:List Expr):Bool:=(ts.any (JK1 names)&&decide (es.length<=1000)) || JIN names ts es
noncomputable def JCx(f:Expr->Option E):List Expr->List Nat->Option (E×Option Nat)
 | [],_=>some (.nil,none)
 |_::_,[]=>none
 |e::r,i::is=>if JHC e=true then (JAM f r).bind λb=>some (.cons .cnon b,some i) else (f e).bind λa=>(JCx f r is).bind λq=>some (.cons a q.1,q.2)
noncomputable def unpO(is:List Nat)(x:E):Option Nat->S
 |none=>.unp is (.tup x)
 |some i=>.cons (.unp is (.tup x)) (.asg i (.lst .nil))
noncomputable def JGQ(e c:Option Expr):Option Str:=match e,c with
 |some (.Call (.Name x _) [.Constant (.str _) _ _] [] _),none=>some x
 |_,_=>none
noncomputable def JHk:Expr->Option (Str×Str×Expr)
 |.Call (.Attribute (.Name x _) m ap) [a] [] cp=>if (ap.endLine==cp.line)=true then some (x,m,a) else none
 |_=>none
noncomputable def JMt:Expr->Option (Str×Expr×Expr)
 |.Call (.Attribute (.Name x _) m ap) [a,b] [] cp=>if (ap.endLine==cp.line)=true/\m="insert" then some (x,a,b) else none
 |_=>none
noncomputable def docOf:Expr->Bool
 |.Constant (.str _) _ _=>true
 |_=>false
noncomputable def JG3:List Expr->Option (Sum Str (List Expr))
 | [.Name x _]=>some (.inl x)
 | [.Tuple ts _ _]=>some (.inr ts)
 |_=>none
noncomputable def JCv(G:List (Str×GK))(fE:Bool->Nq->List Str->Expr->Option E)(fS:Bool->Nq->List Str->Stmt->Option S)(zz:Bool)(names:Nq)(N:List Str)(st:Stmt):Option S:=match st with
 |.Pass _=>some .pass
 |.Break _=>some .brk
 |.Continue _=>some .cnt
 |.Return none _=>some .retN
 |.Return (some e) _=>(fE false names N e).map S.ret
 |.Assign ts e _=>(match JG3 ts with
  |some (.inl x)=>(slot names N x).bind λi=>(fE false names N e).bind λy=>if y.fresh=true/\JEU e=false/\JD1 e=false then none else some (.asg i y)
  |some (.inr ts)=>(slots names N ts).bind λis=>if (decide is.Nodup=true/\(isTup e=false\/JE4 names ts e=true))/\(G.lookup (".hot":Str)).isSome=false then (fE false names N e).map (S.unp is)
    else (JOn e).bind λes=>if (decide is.Nodup=true/\JD2 names ts es=true)/\G.lookup (".dsp":Str)=some GK.opt then (JCx (fE false names N) es is).map (λq=>unpO is q.1 q.2) else none
  |none=>none)
 |.If c a b _=>(fE false names N c).bind λz=>(JAp (fS zz names N) a).bind λx=>(JAp (fS zz names N) b).bind λy=>some (.ife z x y)
 |.Expr e _=>(match JHk e with
  |some (x,m,a)=>if JAN x=false then
    (if m="append" then (slot names N x).bind λi=>(fE false names N a).map (S.app i)
     else if (m="extend"/\JD1 a=false)/\G.lookup (".ext":Str)=some GK.opt then (slot names N x).bind λi=>(fE false names N a).map (S.ext i) else none) else none
  |none=>(match JMt e with
   |some (x,a,b)=>if JAN x=false/\G.lookup (".ins":Str)=some GK.opt then (slot names N x).bind λi=>(JAM (fE false names N) [a,b]).map (S.ins i) else none
   |none=>if docOf e=true then some .pass else if JD1 e=true then none else (fE false names N e).map S.drop))
 |.For tg iter body [] _=>if (G.lookup (".hot":Str)).isSome=true then none else (match JG3 [tg] with
  |some (.inl x)=>(slot names N x).bind λi=>(fE true names N iter).bind λe=>(JAp (fS zz names N) body).bind λb=>some (.for1 i e b)
  |_=>none)
 |.While c body [] _=>(fE false names N c).bind λz=>(JAp (fS zz names N) body).bind λb=>some (.whl z b)
 |.Raise e c _=>(JGQ e c).bind λx=>(match glob G names x with
   |some (.cls c)=>if zz=true then some (.rais c) else none
   |_=>none)
 |_=>none
noncomputable def JCW(G:List (Str×GK)):Nat->Bool->Nq->List Str->Stmt->Option S
 |0,_,_,_,_=>none
 |n+1,zz,names,N,st=>JCv G (JAL G n) (JCW G n) zz names N st
end VI
end
section
namespace VI
open PySem
def JAw(cells:List (Str×Addr)):Nq->List (Str×Addr)->List (Str×Addr)
 | [],cs=>cs
 |(n,k)::r,cs=>if (k==NameKind.free)=true then JAw cells r ((n,(cells.lookup n).getD 0)::cs) else JAw cells r cs
theorem JCS:∀(names:Nq) (cs:List (Str×Addr)),(∀n,(n,NameKind.free)∈names->(env.cells.lookup n).isSome=true) ->
  (forIn names cs (λ(x:Str×NameKind) (r:List (Str×Addr))=>if (x.2==NameKind.free)=true then (do let c<-cellOf env x.1;pure (ForInStep.yield ((x.1,c)::r))) else pure (ForInStep.yield r)):Sem (List (Str×Addr)))=pure (JAw env.cells names cs)
 | [],cs,_=>rfl
 |(n,k)::r,cs,h=>by
  rw[List.forIn_cons];have ih:=λcs=>JCS (env:=env) r cs λm hm=>h m (q_s _ hm)
  by_cases hk:(k==NameKind.free)=true
  · have e:k=.free:=eq_of_beq hk
    subst e;have q:=h n List.mem_cons_self;obtain⟨c,hc⟩:=Option.isSome_iff_exists.mp q;simp only[hk,if_true];have e2:cellOf env n=pure c:=by unfold cellOf;rw[hc]
    rw[e2,pure_bind,pure_bind];show(forIn r ((n,c)::cs) _:Sem _)=_;rw[ih];show pure (JAw env.cells r ((n,c)::cs))=pure (JAw env.cells ((n,NameKind.free)::r) cs);rw[show JAw env.cells ((n,NameKind.free)::r) cs=JAw env.cells r ((n,(env.cells.lookup n).getD 0)::cs) from if_pos rfl,hc];rfl
  · rw[if_neg hk,pure_bind]
    show(forIn r cs _:Sem _)=_;rw[ih];show _=pure (JAw env.cells ((n,k)::r) cs);rw[show JAw env.cells ((n,k)::r) cs=JAw env.cells r cs from if_neg hk]
theorem JCD{sc:Scope}(h:∀n,(n,NameKind.free)∈sc.names->(env.cells.lookup n).isSome=true):closureFor sc env=pure (JAw env.cells sc.names []):=by
 have:=JCS (env:=env) sc.names [] h;unfold closureFor
 first
  |exact this
  |(simp only[]at this ⊢;rw[show(forIn sc.names [] _:Sem (List (Str×Addr)))=_ from this];rfl)
  |(rw[this];rfl)
theorem JBT{cells:List (Str×Addr)}{x:Str}:∀(names:Nq) (cs:List (Str×Addr)),(JAw cells names cs).lookup x =
  if (x,NameKind.free)∈names then some ((cells.lookup x).getD 0) else cs.lookup x
 | [],cs=>by simp[JAw]
 |(n,k)::r,cs=>by
  unfold JAw
  by_cases hk:(k==NameKind.free)=true
  · have e:k=.free:=eq_of_beq hk
    subst e;rw[if_pos hk,JBT r]
    by_cases hr:(x,NameKind.free)∈r
    ·rw[if_pos hr,if_pos (q_s _ hr)]
    ·rw[if_neg hr]
     by_cases hx:x=n
     ·subst hx;rw[if_pos List.mem_cons_self,List.lookup_cons,beq_self_eq_true]
     ·have hb:(x==n)=false:=beq_eq_false_iff_ne.mpr hx;rw[List.lookup_cons,hb,if_neg];intro hm;rcases q_n.mp hm with e|e
      ·exact hx (Prod.mk.inj e).1
      ·exact hr e
  · rw[if_neg hk,JBT r]
    have:((x,NameKind.free)∈(n,k)::r)↔(x,NameKind.free)∈r:=by
     constructor
     ·intro hm;rcases q_n.mp hm with e|e
      ·exfalso;apply hk;rw[<-(Prod.mk.inj e).2];rfl
      ·exact e
     ·exact q_s _
    simp only[this]
end VI
end
section
namespace VI
open PySem PySem.Spec PyProof.Rows L2
section
variable{X:Cx}
noncomputable def rCat2(K:Kq):R2:=λx y H Q=>∃a b xs ys,x=.ref a/\y=.ref b/\SqT K H a xs/\SqT K H b ys/\xs.length+ys.length<=sizeLine /\
 (xs=[]->Q (.ref b) H)/\(xs≠[]->ys=[]->Q (.ref a) H)/\(xs≠[]->ys≠[]->∀p,H p=none->Q (.ref p) (upd H p (.tup (xs++ys))))
theorem JKl:OpR X (binaryOp .Add) (rCat2 X.K):=by
 intro pins s σ H x y v u Q I rx ry h;obtain⟨a,b,xs,ys,e1,e2,ha,hb,hz,q0,q1,q2⟩:=h
 by_cases hx:xs=[]
 ·subst e1 e2;cases rx;cases ry;obtain⟨its,r1,p1,_⟩:=I.tuple ha;obtain⟨its2,r2,p2,_⟩:=I.tuple hb;obtain⟨⟨cls,dd,data,sl⟩,ho,hc,n,hd⟩:=id p1;obtain⟨⟨cls2,dd2,data2,sl2⟩,ho2,hc2,n2,hd2⟩:=id p2;simp only at hc hd hc2 hd2;subst hc hd hc2 hd2;have hv:its=[]:=r1.nil_iff.mpr hx;exact concat_meets ⟨_,ho,rfl⟩ ⟨_,ho2,rfl⟩ noFill_tuple_add seq_tuple_add PySem.F.slot_tuple_add PySem.F.entry_tuple_add (PySem.F.args_tuple_add_2 _ _)
   (tuple_addW0 a b its.toArray its2.toArray n n2 dd dd2 sl sl2 (by simp[hv])) ⟨ho,ho2,⟨.ref b,H,I,rfl,q0 hx⟩⟩
 ·exact JNI pins s σ H x y v u Q I rx ry ⟨a,b,xs,ys,e1,e2,ha,hb,hx,hz,q1 hx,q2 hx⟩
noncomputable def rCatL(K:Kq):R2:=λx y H Q=>∃a b xs ys,x=.ref a/\y=.ref b/\SqL K H a xs/\SqL K H b ys/\xs.length+ys.length<=sizeLine/\∀p,H p=none->Q (.ref p) (upd H p (.lst (xs++ys)))
theorem JOG:OpR X (binaryOp .Add) (rCatL X.K):=by
 intro pins s σ H x y v u Q I rx ry h;obtain⟨a,b,xs,ys,rfl,rfl,ha,hb,hz,q⟩:=h;cases rx;cases ry;obtain⟨its,r,⟨⟨cls,dd,data,sl⟩,n,ho,hc,hdd,hd⟩,_⟩:=I.list ha;obtain⟨its2,r2,⟨⟨cls2,dd2,data2,sl2⟩,n2,ho2,hc2,hdd2,hd2⟩,_⟩:=I.list hb;simp only at hc hd hc2 hd2;subst hc hd hc2 hd2;have e:its.toArray++its2.toArray=(its++its2).toArray:=by simp
 have hl:its.toArray.size+its2.toArray.size<=sizeLine:=by
  rw[q_f,q_f,<-r.length,<-r2.length];exact hz
 refine concat_meets ⟨_,ho,rfl⟩ ⟨_,ho2,rfl⟩ noFill_list_add seq_list_add PySem.F.slot_list_add PySem.F.entry_list_add (PySem.F.args_list_add_2 _ _) (list_addW a b its.toArray its2.toArray n n2 dd dd2 sl sl2 hl) ⟨ho,ho2,?_⟩;rw[e];exact⟨.ref _,_,I.lnew (t':=s.toks) (r.append r2) (by rw[q_u];omega),rfl,q _ I.fresh⟩
noncomputable def rRepL(K:Kq):R2:=λx y H Q=>∃a k xs,x=.ref a/\y=.int k/\SqL K H a xs/\-(2 ^ 63)<=k/\k<2 ^ 63/\xs.length*k.toNat<=sizeLine/\∀p,H p=none->Q (.ref p) (upd H p (.lst (List.replicate k.toNat xs).flatten))
theorem JOO:OpR X (binaryOp .Mult) (rRepL X.K):=by
 intro pins s σ H x y v u Q I rx ry h;obtain⟨a,k,xs,rfl,rfl,ha,h1,h2,hz,q⟩:=h;cases rx;obtain⟨t,rfl⟩:=ry;obtain⟨its,r,⟨⟨cls,dd,data,sl⟩,n,ho,hc,hdd,hd⟩,_⟩:=I.list ha;simp only at hc hd;subst hc hd;have hlen:its.toArray.size*k.toNat<=sizeLine:=by rw[q_f,<-r.length];exact hz
 have hcap:¬its.toArray.size*k.toNat > (2 ^ 63 - 1) / 8:=by
  have:(sizeLine:Nat)<=(2 ^ 63 - 1) / 8:=by decide
  omega
 have hfit:¬(!Builtin.List.listFitsIndex k)=true:=by
  rw[fitsIndex_both h1 h2];exact Bool.false_ne_true
 have hlong:¬Builtin.List.listTooLong (its.toArray.size*k.toNat)=true:=by
  rw[JEP hlen];exact Bool.false_ne_true
 refine wpAny_binaryOp_repeat_ref (T:="list") (U:="int") (by decide) ⟨_,ho,rfl⟩ (λs'=>typeIs_int s' k t) noFill_list_mul PySem.F.fills_int_mul PySem.F.slot_int_rmul repeat_list PySem.F.slot_int_index.lookup
  (call_meets PySem.F.slot_int_rmul (typeIs_int s k t) PySem.F.entry_int_rmul (PySem.F.args_int_rmul_2 _ _) (lm_int_rmul_list_any k t a its.toArray n dd sl)
    ⟨ho,rfl,⟨_,ho,rfl⟩,call_meets PySem.F.slot_list_mul ⟨_,ho,rfl⟩ PySem.F.entry_list_mul (PySem.F.args_list_mul_2 _ _) (lm_list_mul_any a its.toArray n dd sl k t hfit hcap hlong) ⟨ho,?_⟩⟩)
 rw[listMul_foldl_if];exact⟨.ref _,_,I.lnew (t':=s.toks) (r.rep k.toNat) (by rw[len_rep,Nat.mul_comm];exact hz),rfl,q _ I.fresh⟩
theorem JE3(l b:Addr)(is js:Array Value)(n m:Nat)(sl:Array (Option Value))(h0:¬(!is.isEmpty&&Builtin.List.listTooLong (is.size+js.size))=true)(h1:is.size<=sizeLine)(h2:is.size+js.size<=sizeLine+1) :
  Meets (Builtin.«list.extend» ⟨[.ref l,.ref b],[]⟩) (λ_ R s=>s.heap.get? l=some ⟨.type "list",none,.seq is n,#[]⟩/\s.heap.get? b=some ⟨.type "list",none,.seq js m,sl⟩/\R (.ok (.ret Value.none)) { s with heap:=s.heap.update l (Obj.mapSeq λx=>x++js),toks:=s.toks }) :=
 .of_wp λprog w A R s h=>by
  obtain⟨hp,g,d,tk,os⟩:=s;obtain⟨hl,hb,h⟩:=h;have f1:=AutoSeq1.sub_list_list;have f2:=AutoSeq1.sub_list_tuple;have hz':(is++js).size<=sizeLine+1:=by rw[Array.size_append];exact h2
  wp_walk using(wpAny_updateSeq hl rfl (hz:=h1) (_hz':=hz')),AutoSeq1.wpAny_loadPart' hl,AutoSeq1.wpAny_loadPart' hb
  exact⟨_,rfl,h⟩
def rExtL(K:Kq):V->List V->Hp->VK->Prop:=λx vs H Q=>∃l b xs zs,x=.ref l/\vs=[.ref b]/\H l=some (.lst xs)/\SqL K H b zs/\xs.length+zs.length<=sizeLine/\Q .non (upd H l (.lst (xs++zs)))
theorem JOI:MtM X "list.extend" (rExtL X.K):=by
 intro pins s σ H x vs v us Q I rx rv h;obtain⟨l,b,xs,zs,rfl,rfl,hH,hB,hz,q⟩:=h;cases rx;obtain⟨u,rfl,ru⟩:=rv.one;cases ru;obtain⟨z,its,n,r,hl,e⟩:=I.lstM hH;obtain⟨its2,r2,⟨⟨cls,dd,data,sl⟩,m,ho,hc,hdd,hd⟩,_⟩:=I.list hB;simp only at hc hdd hd;subst hc hdd hd;have l2:=r2.length;have hsz:its.toArray.size+its2.toArray.size<=sizeLine:=by rw[q_f,q_f];omega
 have hlong:¬(!its.toArray.isEmpty&&Builtin.List.listTooLong (its.toArray.size+its2.toArray.size))=true:=by
  rw[JEP hsz,Bool.and_false];exact Bool.false_ne_true
 refine call_meets PySem.F.slot_list_extend ⟨_,e,rfl⟩ PySem.F.entry_list_extend (PySem.F.args_list_extend_2 _ _)
  (JE3 l b its.toArray its2.toArray n m sl hlong (by rw[q_f];omega) (by omega)) ⟨e,ho,?_⟩
 refine⟨.non,_,I.lset (its':=its++its2) hH e (by simp) (r.append r2) ?_,rfl,q⟩
 rw[q_u];omega
end
section
variable{prog:Program}{w:World}{A:Around}{E:Vq}{s:Shared}
theorem JB9{t sl:Addr}{lo hi:Option Int}{Q:Vq}(ht:IsTup s.heap t items)(hs:s.heap.IsSliceOf sl vl vu .none)(pl:IsPart vl lo)(pu:IsPart vu hi)
  (hw:HT.sIx items.size 0 lo=0/\HT.sIx items.size items.size hi=items.size) (h:Q (.ref t) s):wpAny (model prog w) A (getItem (.ref t) (.ref sl)) Q E s:=by
 obtain⟨os,hos,hcs,hds⟩:=id hs;have hTs:s.TypeIs (.ref sl) "slice":=⟨os,hos,hcs⟩;unfold getItem
 try with_reducible refine wpAny_holding ?_
 first|refine q_b (q_e ?_)|skip
 refine q_b (wpAny_sequenceKey ht.typeIs (by decide) ?_)
 refine q_b (wpAny_callSpecial?_slot (name:=Str.ofString "__getitem__") ht.typeIs PyProof.Rows.slot_tuple_getitem
  (wpAny_call_entry PyProof.Rows.slot_tuple_getitem ht.typeIs entry_tuple_getitem ?_ (args_tuple_getitem _ _)))
 show wpAny _ _ (Builtin.Tuple.tupleItemsOf (.ref t) >>= _) _ _ s;refine q_b (tupleItemsOf_ ht ?_);refine q_b (wpAny_typeOf hTs ?_);rw[if_pos (by decide)]
 refine q_b (HT.sliceApplied_gen hs pl pu ?_);have hyes:(((HT.sIx items.size 0 lo:Nat):Int)==0&&(1:Int)==1&&(HT.sIx items.size items.size hi - HT.sIx items.size 0 lo)==items.size)=true:=by
  rw[hw.1,hw.2];simp
 show wpAny _ _ (if (((HT.sIx items.size 0 lo:Nat):Int)==0&&(1:Int)==1&&(HT.sIx items.size items.size hi - HT.sIx items.size 0 lo)==items.size)=true then _ else _) _ _ s;rw[if_pos hyes];refine q_b ?_;unfold Builtin.Tuple.tupleIsExact;refine q_b (wpAny_typeOf ht.typeIs (q_e ?_));rw[if_pos (by decide)]
 refine q_b (wpAny_rule ?_);exact q_e ⟨_,rfl,q_e h⟩
end
section
variable{X:Cx}
def rSlW(K:Kq):V->Option Int->Option Int->Hp->VK->Prop:=λx lo hi H Q=>∃a xs,x=.ref a/\SqT K H a xs/\(HT.sIx xs.length 0 lo=0/\HT.sIx xs.length xs.length hi=xs.length)/\Q (.ref a) H
theorem JIR:SlR X (rSlW X.K):=by
 intro pins s σ H x v vl vu lo hi sl Q I rx hs pl pu h;obtain⟨a,xs,rfl,hx,hw,q⟩:=h;cases rx;obtain⟨its,r,ht,hz⟩:=I.tuple hx;have hlen:its.toArray.size=xs.length:=by rw[q_f];exact r.length.symm
 refine⟨"tuple",_,PyProof.Rows.slot_tuple_getitem.lookup,ht.typeIs,?_⟩;exact JB9 ht hs pl pu (by rw[hlen];exact hw) ⟨.ref a,H,I,rfl,q⟩
end
end VI
end
section
namespace VI
open PySem PySem.Spec PyProof.Rows L2
abbrev St:=L2.St
abbrev RcM(rc:Nat->Addr->Hp->Prop):Prop:=∀n a H H',Same H H'->rc n a H->rc n a H'
structure Bs where
 K:Kq
 cl:Nat->Addr
 w:World
 rc:Nat->Addr->Hp->Prop
 rcm:RcM rc
def ExcAt(a C:Addr)(h:Heap):Prop:=∃o,h.get? a=some o/\o.cls=.ref C
def SqDo(K:Kq)(w:World)(H:Hp)(a:Addr)(o:Obj)(xs:List (Key×V)):Prop :=
 H a=some (.frz o (.dK xs))\/∀(P:Program) (h:Heap),K.In h->(a==sysModules)=false/\h.get? a=some o/\∃vs,KV xs vs/\h.DictOf (JBO P w) a vs
def SqD(K:Kq)(w:World)(H:Hp)(a:Addr)(xs:List (Key×V)):Prop:=∃o,SqDo K w H a o xs
mutual
def Den(B:Bs)(H:Hp):D->V->Prop
 |.none,v=>v=.non
 |.bool b,v=>v=.bl b
 |.int i,v=>v=.int i
 |.str x,v=>v=.str x
 |.tuple ds,v=>∃a xs,v=.ref a/\SqT B.K H a xs/\DenL B H ds xs
 |.list ds,v=>∃a xs,v=.ref a/\SqL B.K H a xs/\DenL B H ds xs
 |.dict kvs,v=>(∃a c,v=.ref a/\kvs=[(.none,.int ((c:Nat):Int))]/\H a=some (.ext (ExcAt a (B.cl c))))\/(∃a xs,v=.ref a/\SqD B.K B.w H a xs/\DenK B H kvs xs)\/∃a n,v=.ref a/\kvs=[(.bool true,.int ((n:Nat):Int))]/\B.rc n a H
def DenL(B:Bs)(H:Hp):List D->List V->Prop
 | [],vs=>vs=[]
 |d::ds,vs=>∃v r,vs=v::r/\Den B H d v/\DenL B H ds r
def DenK(B:Bs)(H:Hp):List (D×D)->List (Key×V)->Prop
 | [],vs=>vs=[]
 |(k,d)::ds,vs=>∃x v r,vs=(Sum.inr x,v)::r/\k=.str x/\Den B H d v/\DenK B H ds r
end
theorem JRM{K:Kq}{H H':Hp}{a:Addr}{xs:List V}(e:Same H H')(h:SqT K H a xs):SqT K H' a xs:=by
 rcases h with (h|⟨o,h⟩)|h
 ·exact .inl (.inl (e _ _ h))
 ·exact .inl (.inr ⟨o,e _ _ h⟩)
 ·exact .inr h
theorem JQD{K:Kq}{w:World}{H H':Hp}{a:Addr}{o:Obj}{xs:List (Key×V)}(e:Same H H')(h:SqDo K w H a o xs):SqDo K w H' a o xs:=h.imp (λh=>e _ _ h) λh=>h
theorem sameD{K:Kq}{w:World}{H H':Hp}{a:Addr}{xs:List (Key×V)}(e:Same H H')(h:SqD K w H a xs):SqD K w H' a xs:=h.imp λ_ h=>JQD e h
mutual
theorem Den.mono{B:Bs}{H H':Hp}(s:Same H H'):∀(d:D) (v:V),Den B H d v->Den B H' d v
 |.none,_,h=>h
 |.bool _,_,h=>h
 |.int _,_,h=>h
 |.str _,_,h=>h
 |.tuple ds,v,h=>by
  simp only[Den]at h ⊢;obtain⟨a,xs,e,q,l⟩:=h;exact⟨a,xs,e,JRM s q,DenL.mono s ds xs l⟩
 |.list ds,v,h=>by
  simp only[Den]at h ⊢;obtain⟨a,xs,e,q,l⟩:=h;exact⟨a,xs,e,s.seq q,DenL.mono s ds xs l⟩
 |.dict kvs,v,h=>by
  simp only[Den]at h ⊢;rcases h with ⟨a,c,e,k,q⟩|⟨a,xs,e,q,l⟩|⟨a,n,e,k,q⟩
  ·exact .inl ⟨a,c,e,k,s _ _ q⟩
  ·exact .inr (.inl ⟨a,xs,e,sameD s q,DenK.mono s kvs xs l⟩)
  ·exact .inr (.inr ⟨a,n,e,k,B.rcm n a H H' s q⟩)
theorem DenL.mono{B:Bs}{H H':Hp}(s:Same H H'):∀(ds:List D) (vs:List V),DenL B H ds vs->DenL B H' ds vs
 | [],_,h=>h
 |d::ds,vs,h=>by
  simp only[DenL]at h ⊢;obtain⟨v,r,e,q,l⟩:=h;exact⟨v,r,e,Den.mono s d v q,DenL.mono s ds r l⟩
theorem DenK.mono{B:Bs}{H H':Hp}(s:Same H H'):∀(ds:List (D×D)) (vs:List (Key×V)),DenK B H ds vs->DenK B H' ds vs
 | [],_,h=>h
 |(k,d)::ds,vs,h=>by
  simp only[DenK]at h ⊢;obtain⟨x,v,r,e,e',q,l⟩:=h;exact⟨x,v,r,e,e',Den.mono s d v q,DenK.mono s ds r l⟩
end
theorem DenL.len{B:Bs}{H:Hp}:∀(ds:List D) (vs:List V),DenL B H ds vs->ds.length=vs.length
 | [],_,h=>by simp only[DenL]at h;subst h;rfl
 |d::ds,vs,h=>by
  simp only[DenL]at h;obtain⟨v,r,e,q,l⟩:=h;subst e;simp only[List.length_cons,DenL.len ds r l]
theorem DenL.get{B:Bs}{H:Hp}:∀(ds:List D) (vs:List V) (i:Nat) (d:D),DenL B H ds vs->ds[i]? = some d->∃v,vs[i]? = some v/\Den B H d v
 | [],_,_,_,_,e=>by simp at e
 |d::ds,vs,i,x,h,e=>by
  simp only[DenL]at h;obtain⟨v,r,e1,q,l⟩:=h;subst e1;cases i with
  |zero =>
   simp only[List.getElem?_cons_zero,q_j]at e;subst e;exact⟨v,rfl,q⟩
  |succ i =>
   simp only[List.getElem?_cons_succ]at e;obtain⟨u,e2,q2⟩:=DenL.get ds r i x l e;exact⟨u,by simpa using e2,q2⟩
theorem DenL.append{B:Bs}{H:Hp}:∀(ds es:List D) (vs us:List V),DenL B H ds vs->DenL B H es us->DenL B H (ds++es) (vs++us)
 | [],es,_,us,h,h2=>by simp only[DenL]at h;subst h;exact h2
 |d::ds,es,vs,us,h,h2=>by
  simp only[DenL,List.cons_append]at h ⊢;obtain⟨v,r,e,q,l⟩:=h;subst e;exact⟨v,r++us,rfl,q,DenL.append ds es r us l h2⟩
mutual
theorem Den.reads(hK:X.K=B.K)(I:Inv X pins σ H s) :
  ∀(d:D) (v:V) (u:Value),d.canLay0=true->Den B H d v->RelV v u->∃as,Reads s.heap u d as
 |.none,v,u,_,h,r=>by simp only[Den]at h;subst h;cases r;exact⟨_,.none⟩
 |.bool b,v,u,_,h,r=>by simp only[Den]at h;subst h;cases r;exact⟨_,.bool b⟩
 |.int i,v,u,_,h,r=>by simp only[Den]at h;subst h;obtain⟨t,rfl⟩:=r;exact⟨_,.int i t⟩
 |.str x,v,u,_,h,r=>by simp only[Den]at h;subst h;obtain⟨t,rfl⟩:=r;exact⟨_,.str x t⟩
 |.tuple ds,v,u,c,h,r=>by
  simp only[Den]at h;obtain⟨a,xs,e,q,l⟩:=h;subst e;cases r;obtain⟨its,rv,⟨o,h1,h2,n,h3⟩,_⟩:=I.tuple (hK▸q);obtain⟨as,ra⟩:=DenL.reads hK I ds xs its (by simpa only[PyData.canLay0] using c) l rv
  exact⟨as,.tuple h1 h2 h3 (by simpa using ra)⟩
 |.list ds,v,u,c,h,r=>by
  simp only[Den]at h;obtain⟨a,xs,e,q,l⟩:=h;subst e;cases r;obtain⟨its,rv,⟨o,n,h1,h2,_,h3⟩,_⟩:=I.list (hK▸q);obtain⟨as,ra⟩:=DenL.reads hK I ds xs its (by simpa only[PyData.canLay0] using c) l rv
  exact⟨a::as,.list h1 h2 h3 (by simpa using ra)⟩
 |.dict kvs,v,u,c,h,r=>by simp only[PyData.canLay0]at c;cases c
theorem DenL.reads(hK:X.K=B.K)(I:Inv X pins σ H s) :
  ∀(ds:List D) (vs:List V) (us:List Value),PyData.canLayAll0 ds=true->DenL B H ds vs->Vals vs us->∃as,ReadsAll s.heap us ds as
 | [],vs,us,_,h,r=>by simp only[DenL]at h;subst h;cases r;exact⟨_,.nil⟩
 |d::ds,vs,us,c,h,r=>by
  simp only[DenL]at h;obtain⟨v,t,e,q,l⟩:=h;subst e;simp only[PyData.canLayAll0,q_i]at c;cases r with
  |cons r1 r2 =>
   obtain⟨as,h1⟩:=Den.reads hK I d v _ c.1 q r1;obtain⟨bs,h2⟩:=DenL.reads hK I ds t _ c.2 l r2;exact⟨_,.cons h1 h2⟩
end
def KE(B:Bs)(XX:Nat->Hp->Prop)(r:R D)(H:Hp)(Q:VK):Prop:=match r with
 |.ok d=>∀v H',Same H H'->Den B H' d v->Q v H'
 |.exc c=>XX c H
 |.bad=>False
def KL(B:Bs)(XX:Nat->Hp->Prop)(r:R (List D))(H:Hp)(Q:List V->Hp->Prop):Prop:=match r with
 |.ok ds=>∀vs H',Same H H'->DenL B H' ds vs->Q vs H'
 |.exc c=>XX c H
 |.bad=>False
def KB(XX:Nat->Hp->Prop)(r:R Bool)(H:Hp)(Q:Bool->Hp->Prop):Prop:=match r with
 |.ok b=>∀H',Same H H'->Q b H'
 |.exc c=>XX c H
 |.bad=>False
def Sok(B:Bs)(σ:St)(H:Hp)(δ:Env):Prop:=∀i d,look δ i=.ok d->∃v,σ[i]? = some (some v)/\Den B H d v
theorem Sok.mono{B:Bs}{σ:St}{H H':Hp}{δ:Env}(h:Sok B σ H δ)(s:Same H H'):Sok B σ H' δ:=λi d e =>
 let ⟨v,e1,q⟩:=h i d e
 ⟨v,e1,Den.mono s d v q⟩
def Dm(H H':Hp):Prop:=∀b o,H b=some o->∃o',H' b=some o'
theorem Dm.refl(H:Hp):Dm H H:=λ_ o e=>⟨o,e⟩
theorem Dm.trans(a:Dm H H1)(s:Same H1 H2):Dm H H2:=λb o e=>let ⟨u,q⟩:=a b o e;⟨u,s b u q⟩
theorem Dm.free{b:Addr}(a:Dm H H')(e:H' b=none):H b=none:=by
 cases q:H b with
 |none=>rfl
 |some o=>obtain⟨u,z⟩:=a b o q;rw[e]at z;cases z
def LsAt(b:Addr)(xs:List V)(h:Heap):Prop:=xs.length<=sizeLine/\∃(its:List Value) (n:Nat),Vals xs its/\h.get? b=some { cls:=.type "list",data:=.seq its.toArray n }
def JPy:HO->Prop
 |.ins _ _ _=>True
 |.own _=>True
 |.ext φ=>∃b xs,φ=LsAt b xs
 |_=>False
def Kpt(H H':Hp):Prop:=∀b o,H b=some o->¬JPy o->H' b=some o
theorem Same.kp(s:Same H H'):Kpt H H':=λb o e _=>s b o e
theorem Same.kpT(s:Same H H1)(k:Kpt H1 H2):Kpt H H2:=λb o e n=>k b o (s b o e) n
theorem Kpt.seq{K:Kq}{H H':Hp}{a:Addr}{xs:List V}(e:Kpt H H')(h:SqL K H a xs):SqL K H' a xs:=by
 rcases h with (h|⟨o,h⟩)|h
 ·exact .inl (.inl (e _ _ h λz=>z))
 ·exact .inl (.inr ⟨o,e _ _ h λz=>z⟩)
 ·exact .inr h
theorem Kpt.tup{K:Kq}{H H':Hp}{a:Addr}{xs:List V}(e:Kpt H H')(h:SqT K H a xs):SqT K H' a xs:=by
 rcases h with (h|⟨o,h⟩)|h
 ·exact .inl (.inl (e _ _ h λz=>z))
 ·exact .inl (.inr ⟨o,e _ _ h λz=>z⟩)
 ·exact .inr h
noncomputable def JCu(B:Bs)(n:Nat)(fn:List D->R D):Sp:=λvs H Q E=>vs.length=n/\∃ds,DenL B H ds vs/\(match fn ds with
 |.ok d=>∀v H',Same H H'->Den B H' d v->Q v H'
 |.exc c=>∀H',Same H H'->E (.ref (B.cl c)) none H'
 |.bad=>False)
noncomputable def EX(B:Bs)(XX:Nat->Hp->Prop):XK:=λu _ H=>∃c,u=.ref (B.cl c)/\XX c H
class Cool (G:List (Str×GK)):Prop where
 out:G.lookup (".hot":Str)=none
theorem JDD(h:¬(G.lookup (".hot":Str)).isSome=true):Cool G:=⟨by
 cases q:G.lookup (".hot":Str) with
 |none=>rfl
 |some k=>rw[q]at h;exact absurd rfl h⟩
def JPW(K:Kq)(B:Bs)(fn:List D->R D)(f:Str):Prop:=∀H ds vs,DenL B H ds vs->(match fn ds with
 |.ok d=>∃a Cc dx fs v,vs=[.ref a]/\H a=some (.ins Cc dx fs)/\Cls K Cc/\JSF K Cc f/\fs.lookup f=some v/\Den B H d v
 |.exc _=>False
 |.bad=>True)
def MethP(X:Cx)(B:Bs)(CX:CXT)(fn ck:List D->R D)(m:Str):Prop:=(∀ds,ck ds=.bad)\/∃Cc f fd ps k,Cls X.K Cc/\Meth X.K Cc m f/\FnOk X.prog X.w X.K X.mg X.base CX k f fd ps (JCu B ps.length fn)/\Room k X.A/\Binds X.K fd ps [] /\
 (∀ds,fn ds≠.bad->ds.length=ps.length)/\∀H d v,Den B H d v->(match ck [d] with
 |.ok d'=>d'=d/\∃a dx fs,v=.ref a/\H a=some (.ins Cc dx fs)/\fs.lookup m=none
 |.exc _=>False
 |.bad=>True)
structure Gk(X:Cx)(B:Bs)(C:Cn)(CX:CXT)(XX:Nat->Hp->Prop)(G:List (Str×GK)):Prop where
 K:X.K=B.K
 W:X.w=B.w
 anti:∀c H H',Same H H'->XX c H->XX c H'
 units:X.A.units+200<cLine
 calm:Cool G->X.calm=true
 fn:∀x i,G.lookup x=some (.fn i)->∃f fd ps k,X.mg x=some (.ref f)/\PySem.W.keepIn X.K (.ref f)=true /\
  FnOk X.prog X.w X.K X.mg X.base CX k f fd ps (JCu B ps.length (C.fn i))/\Room k X.A/\Binds X.K fd ps []/\∀ds,C.fn i ds≠.bad->ds.length=ps.length
 pas:JDv CX X (EX B XX)
 con:∀x i d,G.lookup x=some (.con i)->C.glo i=.ok d->∃u v,X.mg x=some u/\RelV v u/\∀H,Den B H d v
 noexg:∀i c,C.glo i≠.exc c
 blt:∀x b,G.lookup x=some (.blt b)->X.mg x=none
 rng:∀x,G.lookup x=some .rng->X.mg x=none
 isi:∀x,G.lookup x=some .isi->X.mg x=none
 ty:∀x t,G.lookup x=some (.ty t)->X.mg x=none
 cls:∀x c,G.lookup x=some (.cls c)->X.mg x=some (.ref (B.cl c))
 nam:∀x,G.lookup x=some .nam->X.mg x=none
 fld:∀f i,G.lookup f=some (.rcf i)->JPW X.K B (C.fn i) f
 mth:∀m i j,G.lookup m=some (.rcm i j)->MethP X B CX (C.fn i) (C.fn j) m
section
variable{X:Cx}{B:Bs}{C:Cn}{CX:CXT}{XX:Nat->Hp->Prop}{G:List (Str×GK)}
def RE(B:Bs)(C:Cn)(XX:Nat->Hp->Prop)(e:E):TE:=λσ H Q=>∃δ,Sok B σ H δ/\KE B XX (ev C e δ) H Q
def RT(B:Bs)(C:Cn)(XX:Nat->Hp->Prop)(e:E):TT:=λσ H Q=>∃δ,Sok B σ H δ/\KB XX (evT C e δ) H Q
def RA(B:Bs)(C:Cn)(XX:Nat->Hp->Prop)(e:E):TA:=λσ H Q=>∃δ,Sok B σ H δ/\KL B XX (evA C e δ) H Q
theorem PE.imp{e:Expr}{t t':TE}(h:PE X e t)(i:∀σ H Q,t' σ H Q->t σ H Q):PE X e t':=λpins s σ H Q I q=>h pins s σ H Q I (i σ H Q q)
theorem PT.imp{e:Expr}{t t':TT}(h:PT X e t)(i:∀σ H Q,t' σ H Q->t σ H Q):PT X e t':=λpins s σ H Q I q=>h pins s σ H Q I (i σ H Q q)
theorem PA.imp{e:List Expr}{t t':TA}(h:PA X e t)(i:∀σ H Q,t' σ H Q->t σ H Q):PA X e t':=λpos pins s σ H Q I q=>h pos pins s σ H Q I (i σ H Q q)
theorem RE.of{e:E}{δ:Env}{σ:St}{H:Hp}{Q:VK}{α:Type}{f:D->R α}{W:R α->Hp->Prop}(ok:Sok B σ H δ)
  (hx:∀c H,W (.exc c) H->XX c H) (hb:∀H,W .bad H->False) (h:W ((ev C e δ).bind f) H)
  (go:∀d v H1,Same H H1->Den B H1 d v->W (f d) H->Q v H1):RE B C XX e σ H Q:=by
 refine⟨δ,ok,?_⟩;cases q:ev C e δ with
 |ok d =>
  rw[q]at h;exact λv H1 s1 d1=>go d v H1 s1 d1 h
 |exc c =>
  rw[q]at h;exact hx c H h
 |bad =>
  rw[q]at h;exact(hb H h).elim
theorem RT.of{e:E}{δ:Env}{σ:St}{H:Hp}{Q:Bool->Hp->Prop}{α:Type}{f:Bool->R α}{W:R α->Hp->Prop}(ok:Sok B σ H δ)
  (hx:∀c H,W (.exc c) H->XX c H) (hb:∀H,W .bad H->False) (h:W ((evT C e δ).bind f) H)
  (go:∀b H1,Same H H1->W (f b) H->Q b H1):RT B C XX e σ H Q:=by
 refine⟨δ,ok,?_⟩;cases q:evT C e δ with
 |ok d =>
  rw[q]at h;exact λH1 s1=>go d H1 s1 h
 |exc c =>
  rw[q]at h;exact hx c H h
 |bad =>
  rw[q]at h;exact(hb H h).elim
theorem RA.of{e:E}{δ:Env}{σ:St}{H:Hp}{Q:List V->Hp->Prop}{α:Type}{f:List D->R α}{W:R α->Hp->Prop}(ok:Sok B σ H δ)
  (hx:∀c H,W (.exc c) H->XX c H) (hb:∀H,W .bad H->False) (h:W ((evA C e δ).bind f) H)
  (go:∀ds vs H1,Same H H1->DenL B H1 ds vs->W (f ds) H->Q vs H1):RA B C XX e σ H Q:=by
 refine⟨δ,ok,?_⟩;cases q:evA C e δ with
 |ok d =>
  rw[q]at h;exact λv H1 s1 d1=>go d v H1 s1 d1 h
 |exc c =>
  rw[q]at h;exact hx c H h
 |bad =>
  rw[q]at h;exact(hb H h).elim
theorem KE.mono(g:Gk X B C CX XX G){r:R D}{H H':Hp}{Q:VK}(s:Same H H')(h:KE B XX r H Q):KE B XX r H' Q:=by
 cases r with
 |ok d=>exact λv H2 s2 d2=>h v H2 (s.trans s2) d2
 |exc c=>exact g.anti c H H' s h
 |bad=>exact h
theorem KB.mono(g:Gk X B C CX XX G){r:R Bool}{H H':Hp}{Q:Bool->Hp->Prop}(s:Same H H')(h:KB XX r H Q):KB XX r H' Q:=by
 cases r with
 |ok d=>exact λH2 s2=>h H2 (s.trans s2)
 |exc c=>exact g.anti c H H' s h
 |bad=>exact h
theorem KL.mono(g:Gk X B C CX XX G){r:R (List D)}{H H':Hp}{Q:List V->Hp->Prop}(s:Same H H')(h:KL B XX r H Q):KL B XX r H' Q:=by
 cases r with
 |ok d=>exact λv H2 s2 d2=>h v H2 (s.trans s2) d2
 |exc c=>exact g.anti c H H' s h
 |bad=>exact h
theorem KE.ok{d:D}{v:V}{H:Hp}{Q:VK}(h:KE B XX (.ok d) H Q)(q:Den B H d v):Q v H:=h v H (Same.refl H) q
theorem two(g:Gk X B C CX XX G){a b:E}{σ:St}{H:Hp}{Q:VK}{f:D->D->R D}{r:R2}
  (hr:∀x y H dx dy,Den B H dx x->Den B H dy y->KE B XX (f dx dy) H Q->r x y H Q) :
  (∃δ,Sok B σ H δ/\KE B XX ((ev C a δ).bind λx=>(ev C b δ).bind λy=>f x y) H Q)->tOp r (RE B C XX a) (RE B C XX b) σ H Q:=by
 rintro⟨δ,ok,h⟩;refine RE.of (W:=λr H=>KE B XX r H Q) ok (λ_ _ z=>z) (λ_ z=>z) h λdx x H1 s1 d1 h1=>?_;refine RE.of (W:=λr H=>KE B XX r H Q) (ok.mono s1) (λ_ _ z=>z) (λ_ z=>z) (KE.mono g s1 h1) λdy y H2 s2 d2 h2=>?_;exact hr x y H2 dx dy (Den.mono s2 dx x d1) d2 (KE.mono g s2 h2)
theorem DenL.repN(h:DenL B H ds vs):∀k:Nat,DenL B H (List.replicate k ds).flatten (List.replicate k vs).flatten
 |0=>by simp only[List.replicate_zero,List.flatten_nil,DenL]
 |k+1=>by
  simp only[List.replicate_succ,List.flatten_cons];exact DenL.append _ _ _ _ h (DenL.repN h k)
theorem binOk(g:Gk X B C CX XX G)(op:Operator):OpR X (binaryOp op) (λx y H Q=>∃dx dy,Den B H dx x/\Den B H dy y/\KE B XX (binD op dx dy) H Q):=by
 intro pins s σ H x y v u Q I rx ry ⟨dx,dy,hx,hy,k⟩;cases dx<;>cases dy<;>first
  |(exfalso;cases op<;>exact k)
  |skip
 case list.list xs ys =>
  cases op<;>first
   |exact fF k
   |skip
  simp only[binD]at k
  split at k
  ·rename_i hz;simp only[Den]at hx hy;obtain⟨a,us,e1,q1,l1⟩:=hx;obtain⟨c,ws,e2,q2,l2⟩:=hy;subst e1;subst e2;have n1:=DenL.len _ _ l1;have n2:=DenL.len _ _ l2;refine JOG pins s σ H _ _ v u Q I rx ry ⟨a,c,us,ws,rfl,rfl,g.K▸q1,g.K▸q2,by rw[sizeLine_eq];omega,λp hp=>?_⟩
   have sm:Same H (upd H p (.lst (us++ws))):=λb o e=>by rw[JAH (JAb e hp)];exact e
   refine k _ _ sm ?_;simp only[Den];exact⟨p,_,rfl,SqL.of JAG,DenL.append _ _ _ _ (DenL.mono sm _ _ l1) (DenL.mono sm _ _ l2)⟩
  ·exact k.elim
 case list.int xs j =>
  cases op<;>first
   |exact fF k
   |skip
  simp only[binD]at k
  split at k
  ·rename_i hz;simp only[Den]at hx hy;obtain⟨a,us,e1,q1,l1⟩:=hx;subst e1;subst hy;have n1:=DenL.len _ _ l1;refine JOO pins s σ H _ _ v u Q I rx ry ⟨a,j,us,rfl,rfl,g.K▸q1,by omega,by omega,by rw[sizeLine_eq,<-n1];exact hz.2.2,λp hp=>?_⟩
   have sm:Same H (upd H p (.lst (List.replicate j.toNat us).flatten)):=λb o e=>by rw[JAH (JAb e hp)];exact e
   refine k _ _ sm ?_;simp only[Den];exact⟨p,_,rfl,SqL.of JAG,DenL.repN (DenL.mono sm _ _ l1) _⟩
  ·exact k.elim
 case tuple.tuple xs ys =>
  cases op<;>first
   |exact fF k
   |skip
  simp only[binD]at k
  split at k
  ·rename_i hz;simp only[Den]at hx hy;obtain⟨a,us,e1,q1,l1⟩:=hx;obtain⟨c,ws,e2,q2,l2⟩:=hy;subst e1;subst e2;have n1:=DenL.len _ _ l1;have n2:=DenL.len _ _ l2;refine JKl pins s σ H _ _ v u Q I rx ry ⟨a,c,us,ws,rfl,rfl,g.K▸q1,g.K▸q2,by rw[sizeLine_eq];omega,λh=>?_,λh h2=>?_,λh h2 p hp=>?_⟩
   · have:xs=[]:=by rw[h]at n1;exact List.eq_nil_of_length_eq_zero n1
     subst this;refine k _ _ (Same.refl H) ?_;simp only[Den,List.nil_append];exact⟨c,ws,rfl,q2,l2⟩
   · have:ys=[]:=by rw[h2]at n2;exact List.eq_nil_of_length_eq_zero n2
     subst this;refine k _ _ (Same.refl H) ?_;simp only[Den,List.append_nil];exact⟨a,us,rfl,q1,l1⟩
   · have sm:Same H (upd H p (.tup (us++ws))):=λb o e=>by rw[JAH (JAb e hp)];exact e
     refine k _ _ sm ?_;simp only[Den];exact⟨p,_,rfl,SqT.of JAG,DenL.append _ _ _ _ (DenL.mono sm _ _ l1) (DenL.mono sm _ _ l2)⟩
  ·exact k.elim
 rename_i i j;simp only[Den]at hx hy;subst hx;subst hy;cases op<;>first
  |exact fF k
  |skip
 ·exact JRl pins s σ H _ _ v u Q I rx ry ⟨i,j,rfl,rfl,KE.ok k (by simp only[Den])⟩
 ·exact JSE pins s σ H _ _ v u Q I rx ry ⟨i,j,rfl,rfl,KE.ok k (by simp only[Den])⟩
 ·simp only[binD]at k
  split at k
  ·rename_i hm;obtain⟨t,rfl⟩:=rx;obtain⟨t',rfl⟩:=ry;exact mul_int ⟨.int _,H,I.tok _,⟨_,rfl⟩,KE.ok k (by simp only[Den])⟩ hm
  ·exact k.elim
 ·simp only[binD]at k
  split at k
  ·rename_i hm;exact JNk pins s σ H _ _ v u Q I rx ry ⟨i,j,rfl,rfl,hm,KE.ok k (by simp only[Den])⟩
  ·exact k.elim
 ·simp only[binD]at k
  split at k
  ·rename_i hm;obtain⟨t,rfl⟩:=rx;obtain⟨t',rfl⟩:=ry;exact floordiv_int hm.1 ⟨.int _,H,I.tok _,⟨_,rfl⟩,KE.ok k (by simp only[Den])⟩ (.inl hm.2)
  ·exact k.elim
theorem JIZ(g:Gk X B C CX XX G):X.A.units+64<cLine:=by have:=g.units;omega
theorem JNy(g:Gk X B C CX XX G)(op:CmpOp):OpR X (compareOp op) (λx y H Q=>∃dx dy,Den B H dx x/\Den B H dy y/\KE B XX (cmpD op dx dy) H Q):=by
 intro pins s σ H x y v u Q I rx ry ⟨dx,dy,hx,hy,k⟩;cases op with
 |Eq =>
  simp only[cmpD]at k
  split at k
  ·rename_i hs;simp only[q_i]at hs;have c1:dx.canLay0=true:=(Bool.and_eq_true_iff.mp hs.1).1;have c2:dy.canLay0=true:=(Bool.and_eq_true_iff.mp hs.2).1;obtain⟨as,ra⟩:=Den.reads g.K I dx x v c1 hx rx;obtain⟨bs,rb⟩:=Den.reads g.K I dy y u c2 hy ry;exact SeqAt.compareEq_shaped ra rb hs.1 hs.2 (JIZ g) ⟨.bl _,H,I,rfl,KE.ok k (by simp only[Den])⟩
  ·exact k.elim
 |NotEq =>
  simp only[cmpD]at k
  split at k
  ·rename_i hs;simp only[q_i]at hs;have c1:dx.canLay0=true:=(Bool.and_eq_true_iff.mp hs.1).1;have c2:dy.canLay0=true:=(Bool.and_eq_true_iff.mp hs.2).1;obtain⟨as,ra⟩:=Den.reads g.K I dx x v c1 hx rx;obtain⟨bs,rb⟩:=Den.reads g.K I dy y u c2 hy ry;exact SeqAt.compareNe_shaped ra rb hs.1 hs.2 (JIZ g) ⟨.bl _,H,I,rfl,KE.ok k (by simp only[Den])⟩
  ·exact k.elim
 |Lt =>
  cases dx<;>cases dy<;>first|exact fF k|skip
  rename_i i j;simp only[Den]at hx hy;subst hx;subst hy;exact op_lt pins s σ H _ _ v u Q I rx ry ⟨i,j,rfl,rfl,KE.ok k (by simp only[Den])⟩
 |LtE =>
  cases dx<;>cases dy<;>first|exact fF k|skip
  rename_i i j;simp only[Den]at hx hy;subst hx;subst hy;exact op_le pins s σ H _ _ v u Q I rx ry ⟨i,j,rfl,rfl,KE.ok k (by simp only[Den])⟩
 |Gt =>
  cases dx<;>cases dy<;>first|exact fF k|skip
  rename_i i j;simp only[Den]at hx hy;subst hx;subst hy;exact op_gt pins s σ H _ _ v u Q I rx ry ⟨i,j,rfl,rfl,KE.ok k (by simp only[Den])⟩
 |GtE =>
  cases dx<;>cases dy<;>first|exact fF k|skip
  rename_i i j;simp only[Den]at hx hy;subst hx;subst hy;exact op_ge pins s σ H _ _ v u Q I rx ry ⟨i,j,rfl,rfl,KE.ok k (by simp only[Den])⟩
 |Is=>exact fF k
 |IsNot=>exact fF k
 |In =>
  cases dy with
  |list ds =>
   simp only[cmpD]at k
   split at k
   ·rename_i hs;simp only[JCi,q_i,q_D]at hs;obtain⟨as,ra⟩:=Den.reads g.K I dx x v hs.1.2 hx rx;obtain⟨bs,rb⟩:=Den.reads g.K I (.list ds) y u (by simpa only[PyData.canLay0] using hs.1.1) hy ry
    have hu:=g.units;refine SeqAt.in_list_reads rb ra hs.1.1 hs.1.2 ?_ ⟨.bl _,H,I,rfl,KE.ok k (by simp only[Den])⟩
    have:=Nat.min_le_right (PyData.depthAll ds) dx.depth;omega
   ·exact k.elim
  |tuple ds =>
   simp only[cmpD]at k
   split at k
   ·rename_i hs;simp only[JCi,q_i,q_D]at hs;obtain⟨as,ra⟩:=Den.reads g.K I dx x v hs.1.2 hx rx;obtain⟨bs,rb⟩:=Den.reads g.K I (.tuple ds) y u (by simpa only[PyData.canLay0] using hs.1.1) hy ry
    have hu:=g.units;refine SeqAt.in_tuple_reads rb ra hs.1.1 hs.1.2 ?_ ⟨.bl _,H,I,rfl,KE.ok k (by simp only[Den])⟩
    have:=Nat.min_le_right (PyData.depthAll ds) dx.depth;omega
   ·exact k.elim
  |_=>exact fF k
 |NotIn =>
  cases dy with
  |list ds =>
   simp only[cmpD]at k
   split at k
   ·rename_i hs;simp only[JCi,q_i,q_D]at hs;obtain⟨as,ra⟩:=Den.reads g.K I dx x v hs.1.2 hx rx;obtain⟨bs,rb⟩:=Den.reads g.K I (.list ds) y u (by simpa only[PyData.canLay0] using hs.1.1) hy ry
    have hu:=g.units;refine SeqAt.notIn_list_reads rb ra hs.1.1 hs.1.2 ?_ ⟨.bl _,H,I,rfl,KE.ok k (by simp only[Den])⟩
    have:=Nat.min_le_right (PyData.depthAll ds) dx.depth;omega
   ·exact k.elim
  |tuple ds =>
   simp only[cmpD]at k
   split at k
   ·rename_i hs;simp only[JCi,q_i,q_D]at hs;obtain⟨as,ra⟩:=Den.reads g.K I dx x v hs.1.2 hx rx;obtain⟨bs,rb⟩:=Den.reads g.K I (.tuple ds) y u (by simpa only[PyData.canLay0] using hs.1.1) hy ry
    have hu:=g.units;refine SeqAt.notIn_tuple_reads rb ra hs.1.1 hs.1.2 ?_ ⟨.bl _,H,I,rfl,KE.ok k (by simp only[Den])⟩
    have:=Nat.min_le_right (PyData.depthAll ds) dx.depth;omega
   ·exact k.elim
  |_=>exact fF k
end
def NewT(B:Bs)(H H2 H3:Hp)(d:D)(x:V):Prop:=∃p xs es,H2 p=none/\H3=upd H2 p (.tup xs)/\x=.ref p/\d=.tuple es/\DenL B H es xs
def ItOk(B:Bs)(J:It)(H:Hp)(ds:List D):Prop:=∀H2,Kpt H H2->∀i:Nat,
 (∀d,ds[i]? = some d->J.go i H2/\∀x H3,J.yld i H2 x H3->(H3=H2/\Den B H d x)\/NewT B H H2 H3 d x)/\(ds.length<=i->J.stop i H2)
def KI(B:Bs)(XX:Nat->Hp->Prop)(r:R (List D))(H:Hp)(Q:It->Hp->Prop):Prop:=match r with
 |.ok ds=>∀J H',Same H H'->ItOk B J H' ds->Q J H'
 |.exc c=>XX c H
 |.bad=>False
def RI(B:Bs)(C:Cn)(XX:Nat->Hp->Prop)(e:E):TI:=λσ H Q=>∃δ,Sok B σ H δ/\KI B XX (evI C e δ) H Q
theorem JJ2{i c:Nat}:look δ i≠.exc c:=by
 unfold look;cases δ[i]? with
 |none=>intro h;cases h
 |some s=>cases s with
  |own d=>cases d<;>(intro h;cases h)
  |_=>intro h;cases h
theorem JDJ:∀ {N:List Str}{x:Str}{i:Nat},idxOf x N=some i->N[i]? = some x
 | [],x,i,h=>by simp[idxOf]at h
 |y::r,x,i,h=>by
  unfold idxOf at h
  split at h
  ·rename_i hy;cases h;have:x=y:=eq_of_beq hy;subst this;rfl
  ·cases q:idxOf x r with
   |none=>rw[q]at h;cases h
   |some j =>
    rw[q]at h;simp only[Option.map_some,q_j]at h;subst h;simpa using JDJ q
theorem JBH{p:Addr}(h:H p=none):Same H (upd H p o):=λb u e=>by rw[JAH (JAb e h)];exact e
theorem JAU{n:Nat}{it:Bool}{e:Expr}(h:JAL G n it names N e=some x)(es:List Expr)(env:PySem.Env) :
  starEach (e::es) env=(false,eval e env)::starEach es env:=by
 cases n with
 |zero=>simp[JAL,JAV,JAQ]at h
 |succ n=>cases e<;>first|rfl|(cases it<;>simp[JAL,JAV,JAQ,xOf,Option.bind_none,ite_self,xRaw,mOf,mRaw]at h)
theorem JCB{n:Nat}{it:Bool}:∀ {es:List Expr}{x:E},JAM (JAL G n it names N) es=some x ->
  (backTo pos (starEach es env)).any (·.1)=false
 | [],_,_=>rfl
 |e::es,x,h=>by
  unfold JAM at h;cases h1:JAL G n it names N e with
  |none=>rw[h1]at h;cases h
  |some a =>
    rw[h1]at h;cases h2:JAM (JAL G n it names N) es with
    |none=>simp[h2]at h
    |some b =>
     rw[JAU h1 es env];show(false || (backTo pos (starEach es env)).any (·.1))=false
     rw[JCB h2];rfl
theorem JOj{b:Expr}(h:isSlice b=false):JHq b:=by
 intro o i;cases b<;>first|rfl|cases h
theorem JAE{x:Str}(h:JAN x=false):(x==("__debug__":Str))=false/\(x==("__classdict__":Str))=false/\x≠"__name__":=by
 unfold JAN at h;simp only[Bool.or_eq_false_iff]at h;exact⟨h.1.1,h.1.2,λe=>by have:=h.2;rw[e]at this;simp at this⟩
noncomputable def cnt:E->Nat
 |.cons _ r=>cnt r+1
 |_=>0
theorem JBq:∀(e:E) (δ:Env) (ds:List D),evA C e δ=.ok ds->ds.length=cnt e
 |.nil,δ,ds,h=>by simp only[evA]at h;cases h;rfl
 |.cons a r,δ,ds,h=>by
  simp only[evA]at h;cases q:ev C a δ with
  |ok d =>
   cases q2:evA C r δ with
   |ok es =>
    rw[q,q2]at h;cases h;simp only[List.length_cons,cnt,JBq r δ es q2]
   |exc c=>rw[q,q2]at h;cases h
   |bad=>rw[q,q2]at h;cases h
  |exc c=>rw[q]at h;cases h
  |bad=>rw[q]at h;cases h
 |.var _,_,_,h|.cint _,_,_,h|.cbl _,_,_,h|.cnon,_,_,h|.cstr _,_,_,h|.glo _,_,_,h|.bin _ _ _,_,_,h|.neg _,_,_,h|.not _,_,_,h|.and _ _,_,_,h|.or _ _,_,_,h|.cmp _ _ _,_,_,h
 |.isN _ _,_,_,h|.isB _ _,_,_,h|.ife _ _ _,_,_,h|.tup _,_,_,h|.lst _,_,_,h|.idx _ _,_,_,h|.call _ _,_,_,h|.blt _ _,_,_,h|.rng _,_,_,h|.isi _ _,_,_,h|.mcount _ _,_,_,h|.mindex _ _,_,_,h|.mget _ _ _,_,_,h|.cmpr _ _ _ _,_,_,h=>by simp only[evA]at h;cases h
theorem JAa:∀ {es:List Expr}{x:E},JAM f es=some x->cnt x=es.length
 | [],x,h=>by unfold JAM at h;cases h;rfl
 |e::es,x,h=>by
  unfold JAM at h;cases h1:f e with
  |none=>rw[h1]at h;cases h
  |some a =>
   cases h2:JAM f es with
   |none=>simp[h1,h2]at h
   |some b =>
    simp only[h1,h2,Option.bind_some,q_j]at h;subst h;simp only[cnt,List.length_cons,JAa h2]
section
variable{X:Cx}{B:Bs}{C:Cn}{CX:CXT}{XX:Nat->Hp->Prop}{G:List (Str×GK)}{a b c:Expr}{x y z:E}{pos:Pos}
theorem s_bad{e:Expr}(h:∀δ,ev C x δ=.bad):PE X e (RE B C XX x):=λ_ _ _ _ _ _ ⟨δ,_,k⟩=>by rw[h δ]at k;exact k.elim
theorem t_bad{e:Expr}(h:∀δ,evT C x δ=.bad):PT X e (RT B C XX x):=λ_ _ _ _ _ _ ⟨δ,_,k⟩=>by rw[h δ]at k;exact k.elim
theorem s_var{i:Nat}(hN:X.N[i]? = some nm)(hv:Vis X.env.scope nm)(hb:JAN nm=false):PE X (.Name nm pos) (RE B C XX (.var i)) :=
 PE.imp (JDW hN hv (JAE hb).1 (JAE hb).2.1) λσ H Q ⟨δ,ok,k⟩=>by
  simp only[ev]at k;cases q:look δ i with
  |ok d =>
   obtain⟨v,e,dn⟩:=ok i d q;rw[q]at k;exact⟨v,e,KE.ok k dn⟩
  |exc c=>exact(JJ2 q).elim
  |bad=>rw[q]at k;exact k.elim
theorem s_int{i:Int}{j:Nat}:PE X (.Constant (.int i) j pos) (RE B C XX (.cint i)):=PE.imp JFJ λσ H Q ⟨δ,ok,k⟩=>KE.ok k (by simp only[Den])
theorem s_bl{i:Bool}{j:Nat}:PE X (.Constant (.bool i) j pos) (RE B C XX (.cbl i)):=PE.imp JJJ λσ H Q ⟨δ,ok,k⟩=>KE.ok k (by simp only[Den])
theorem s_non{j:Nat}:PE X (.Constant .none j pos) (RE B C XX .cnon):=PE.imp JQ7 λσ H Q ⟨δ,ok,k⟩=>KE.ok k (by simp only[Den])
theorem s_str{j:Nat}:PE X (.Constant (.str i) j pos) (RE B C XX (.cstr i)):=PE.imp JMP λσ H Q ⟨δ,ok,k⟩=>KE.ok k (by simp only[Den])
theorem s_glo(g:Gk X B C CX XX G){i:Nat}(hg:Gl X nm)(hl:G.lookup nm=some (.con i))(hb:JAN nm=false):PE X (.Name nm pos) (RE B C XX (.glo i)):=by
 cases q:C.glo i with
 |ok d =>
  obtain⟨u,v,hm,r,dn⟩:=g.con nm i d hl q;exact PE.imp (JHS hg hm r (JAE hb).1) λσ H Q ⟨δ,ok,k⟩=>by
   simp only[ev]at k;rw[q]at k;exact KE.ok k (dn H)
 |exc c=>exact(g.noexg i c q).elim
 |bad=>exact s_bad λδ=>by simp only[ev];exact q
theorem JQ0(g:Gk X B C CX XX G)(ha:PE X a (RE B C XX x))(hb:PE X b (RE B C XX y)):PE X (.BinOp a op b pos) (RE B C XX (.bin op x y)) :=
 PE.imp (JSH (binOk g op) ha hb) λσ H Q ⟨δ,ok,k⟩=>two g (f:=binD op) (λx y H dx dy h1 h2 k=>⟨dx,dy,h1,h2,k⟩) ⟨δ,ok,by simpa only[ev] using k⟩
theorem JA6(g:Gk X B C CX XX G)(ha:PE X a (RE B C XX x))(hb:PE X b (RE B C XX y))(hm:behindInMarks op b=false):PE X (.Compare a [op] [b] pos) (RE B C XX (.cmp op x y)) :=
 PE.imp (JFj (JNy g op) ha hb hm) λσ H Q ⟨δ,ok,k⟩=>two g (f:=cmpD op) (λx y H dx dy h1 h2 k=>⟨dx,dy,h1,h2,k⟩) ⟨δ,ok,by simpa only[ev] using k⟩
theorem s_neg(g:Gk X B C CX XX G)(ha:PE X a (RE B C XX x)):PE X (.UnaryOp .USub a pos) (RE B C XX (.neg x)) :=
 PE.imp (JSD JLg ha) λσ H Q ⟨δ,ok,k⟩=>by
  simp only[ev]at k;refine RE.of (W:=λr H=>KE B XX r H Q) ok (λ_ _ z=>z) (λ_ z=>z) k λd v H1 s1 d1 h1=>?_;have h2:=KE.mono g s1 h1;cases d<;>first|exact fF h2|skip
  rename_i i;simp only[Den]at d1;exact⟨i,d1,KE.ok h2 (by simp only[Den])⟩
theorem truV{K:Kq}(hK:K=B.K){d:D}{v:V}{H:Hp}{k:Bool}(h:Den B H d v)(t:truth d=.ok k):TruV K v H k:=by
 subst hK;cases d with
 |none=>simp only[Den]at h;subst h;simp only[truth]at t;cases t;rfl
 |bool b=>simp only[Den]at h;subst h;simp only[truth]at t;cases t;rfl
 |int i=>simp only[Den]at h;subst h;simp only[truth]at t;cases t;rfl
 |str s =>
  simp only[Den]at h;subst h;simp only[truth]at t
  split at t
  ·rename_i hl;cases t;exact⟨by rw[sizeLine_eq];exact hl,rfl⟩
  ·cases t
 |list ds =>
  simp only[Den]at h;obtain⟨p,xs,e,q,l⟩:=h;subst e;simp only[truth]at t;cases t;refine .inl ⟨xs,q,?_⟩;have:=DenL.len ds xs l;cases ds<;>cases xs<;>simp_all
 |tuple ds =>
  simp only[Den]at h;obtain⟨p,xs,e,q,l⟩:=h;subst e;simp only[truth]at t;cases t;refine .inr (.inl ⟨xs,q,?_⟩);have:=DenL.len ds xs l;cases ds<;>cases xs<;>simp_all
 |dict kvs=>simp only[truth]at t;cases t
theorem JEc{d:D}{c:Nat}:truth d≠.exc c:=by
 cases d<;>simp only[truth]<;>(try split)<;>(intro h;cases h)
theorem s_not(g:Gk X B C CX XX G)(ha:PE X a (RE B C XX x)):PE X (.UnaryOp .Not a pos) (RE B C XX (.not x)):=by
 intro pins s σ H Q I ⟨δ,ok,k⟩;refine UnaryOp_ (thn (ha pins s σ H (λv H1=>∃t,TruV X.K v H1 t/\Q (.bl (!t)) H1) I ?_) λv s1 ⟨w,H1,I1,r1,t,tv,q⟩=>?_)
 ·refine⟨δ,ok,?_⟩;simp only[ev]at k;cases q:ev C x δ with
  |ok d =>
   rw[q]at k;cases q2:truth d with
   |ok t =>
    simp only[R.bind,q2]at k;exact λv H1 s1 d1=>⟨t,truV g.K d1 q2,k _ H1 s1 (by simp only[Den])⟩
   |exc c=>exact(JEc q2).elim
   |bad=>simp only[R.bind,q2]at k;exact k.elim
  |exc c=>rw[q]at k;exact k
  |bad=>rw[q]at k;exact k.elim
 ·exact not_of (thn (JMN pins s1 σ H1 w v (λb H=>b=t/\H=H1) I1 r1 ⟨t,tv,rfl,rfl⟩) λb s2 ⟨H2,I2,e1,e2⟩=>by subst e1;subst e2;exact⟨.bl (!b),H2,I2,rfl,q⟩)
theorem s_and(g:Gk X B C CX XX G){rest:List Expr}(ha:PE X a (RE B C XX x))(hb:PE X (.BoolOp .And (b::rest) pos) (RE B C XX y)):PE X (.BoolOp .And (a::b::rest) pos) (RE B C XX (.and x y)) :=
 PE.imp (JO8 ha hb) λσ H Q ⟨δ,ok,k⟩=>by
  simp only[ev]at k;refine RE.of (W:=λr H=>KE B XX r H Q) ok (λ_ _ z=>z) (λ_ z=>z) k λd v H1 s1 d1 h1=>?_;cases d<;>first|exact fF h1|skip
  rename_i t;simp only[Den]at d1;refine⟨t,d1,?_⟩;cases t with
  |true=>exact iteT ⟨δ,ok.mono s1,KE.mono g s1 h1⟩
  |false=>exact iteF (KE.ok (KE.mono g s1 h1) (by simp only[Den]))
theorem s_or(g:Gk X B C CX XX G){rest:List Expr}(ha:PE X a (RE B C XX x))(hb:PE X (.BoolOp .Or (b::rest) pos) (RE B C XX y)):PE X (.BoolOp .Or (a::b::rest) pos) (RE B C XX (.or x y)) :=
 PE.imp (pe_or ha hb) λσ H Q ⟨δ,ok,k⟩=>by
  simp only[ev]at k;refine RE.of (W:=λr H=>KE B XX r H Q) ok (λ_ _ z=>z) (λ_ z=>z) k λd v H1 s1 d1 h1=>?_;cases d<;>first|exact fF h1|skip
  rename_i t;simp only[Den]at d1;refine⟨t,d1,?_⟩;cases t with
  |true=>exact iteT (KE.ok (KE.mono g s1 h1) (by simp only[Den]))
  |false=>exact iteF ⟨δ,ok.mono s1,KE.mono g s1 h1⟩
theorem JC0{d:D}(h:Den B H d v):decide (v=.non)=isNone d:=by
 cases d with
 |none=>simp only[Den]at h;subst h;rfl
 |bool _=>simp only[Den]at h;subst h;rfl
 |int _=>simp only[Den]at h;subst h;rfl
 |str _=>simp only[Den]at h;subst h;rfl
 |list _=>simp only[Den]at h;obtain⟨p,xs,e,_⟩:=h;subst e;rfl
 |tuple _=>simp only[Den]at h;obtain⟨p,xs,e,_⟩:=h;subst e;rfl
 |dict _ =>
  simp only[Den]at h;rcases h with ⟨p,xs,e,_⟩|⟨p,xs,e,_⟩|⟨p,xs,e,_⟩
  ·subst e;rfl
  ·subst e;rfl
  ·subst e;rfl
theorem s_isN(g:Gk X B C CX XX G){j:Nat}(ha:PE X a (RE B C XX x)):PE X (.Compare a [.Is] [.Constant .none j pos'] pos) (RE B C XX (.isN x false)) :=
 PE.imp (JLS (JL2 ha)) λσ H Q ⟨δ,ok,k⟩=>by
  simp only[ev]at k;refine RE.of (W:=λr H=>KE B XX r H Q) ok (λ_ _ z=>z) (λ_ z=>z) k λd v H1 s1 d1 h1=>?_;rw[JC0 d1];exact KE.ok (KE.mono g s1 h1) (by simp[Den])
theorem JOJ(g:Gk X B C CX XX G){j:Nat}(ha:PE X a (RE B C XX x)):PE X (.Compare a [.IsNot] [.Constant .none j pos'] pos) (RE B C XX (.isN x true)) :=
 PE.imp (JLS (JIV ha)) λσ H Q ⟨δ,ok,k⟩=>by
  simp only[ev]at k;refine RE.of (W:=λr H=>KE B XX r H Q) ok (λ_ _ z=>z) (λ_ z=>z) k λd v H1 s1 d1 h1=>?_;rw[JC0 d1];exact KE.ok (KE.mono g s1 h1) (by simp[Den])
theorem JLq:OpR X (compareOp .Is) (λv u H Q=>∃c d,v=.bl c/\u=.bl d/\Q (.bl (c==d)) H):=by
 intro pins s σ H v u w t Q I rx ry ⟨c,d,e1,e2,q⟩;subst e1;subst e2;cases rx;cases ry;exact is_bool ⟨.bl _,H,I,rfl,q⟩
theorem s_isB(g:Gk X B C CX XX G){j:Nat}{k:Bool}(ha:PE X a (RE B C XX x)):PE X (.Compare a [.Is] [.Constant (.bool k) j pos'] pos) (RE B C XX (.isB x k)) :=
 PE.imp (JFj JLq ha JJJ rfl) λσ H Q ⟨δ,ok,kk⟩=>by
  simp only[ev]at kk;refine RE.of (W:=λr H=>KE B XX r H Q) ok (λ_ _ z=>z) (λ_ z=>z) kk λd v H1 s1 d1 h1=>?_;cases d<;>first|exact fF h1|skip
  rename_i t;simp only[Den]at d1;exact⟨t,k,d1,rfl,KE.ok (KE.mono g s1 h1) (by simp only[Den])⟩
theorem s_ife(g:Gk X B C CX XX G)(hc:PT X c (RT B C XX z))(ha:PE X a (RE B C XX x))(hb:PE X b (RE B C XX y)):PE X (.IfExp c a b pos) (RE B C XX (.ife z x y)) :=
 PE.imp (JKG hc ha hb) λσ H Q ⟨δ,ok,k⟩=>by
  simp only[ev]at k;refine RT.of (W:=λr H=>KE B XX r H Q) ok (λ_ _ z=>z) (λ_ z=>z) k λt H1 s1 h1=>?_;cases t with
  |true=>exact iteT ⟨δ,ok.mono s1,KE.mono g s1 h1⟩
  |false=>exact iteF ⟨δ,ok.mono s1,KE.mono g s1 h1⟩
theorem JP5:PA X [] (RA B C XX .nil):=PA.imp JBp λσ H Q ⟨δ,ok,k⟩=>k [] H (Same.refl H) (by simp only[DenL])
theorem JK5(g:Gk X B C CX XX G)(ha:PE X a (RE B C XX x))(hr:PA X es (RA B C XX y))(hs:starEach (a::es) X.env=(false,eval a X.env)::starEach es X.env):PA X (a::es) (RA B C XX (.cons x y)) :=
 PA.imp (JBG ha hr hs) λσ H Q ⟨δ,ok,k⟩=>by
  simp only[evA]at k;refine RE.of (W:=λr H=>KL B XX r H Q) ok (λ_ _ z=>z) (λ_ z=>z) k λd v H1 s1 d1 h1=>?_;refine RA.of (W:=λr H=>KL B XX r H Q) (ok.mono s1) (λ_ _ z=>z) (λ_ z=>z) (KL.mono g s1 h1) λds vs H2 s2 d2 h2=>?_;exact h2 (v::vs) H2 s2 (by simp only[DenL];exact⟨v,vs,rfl,Den.mono s2 d v d1,d2⟩)
theorem s_tup(g:Gk X B C CX XX G){k2:Nat}(h:PA X es (RA B C XX x))(hl:cnt x<=1000):PE X (.Tuple es k2 pos) (RE B C XX (.tup x)) :=
 PE.imp (JL3 h) λσ H Q ⟨δ,ok,k⟩=>by
  simp only[ev]at k;cases q:evA C x δ with
  |ok ds =>
   rw[q]at k;refine⟨δ,ok,?_⟩;rw[q];intro vs H1 s1 d1;have e1:=DenL.len ds vs d1;have e2:=JBq x δ ds q;refine⟨by rw[sizeLine_eq];omega,λp hp=>k _ _ (s1.trans (JBH hp)) ?_⟩
   simp only[Den];exact⟨p,vs,rfl,SqT.of JAG,DenL.mono (JBH hp) ds vs d1⟩
  |exc c=>rw[q]at k;exact⟨δ,ok,by rw[q];exact k⟩
  |bad=>rw[q]at k;exact k.elim
theorem s_lst(g:Gk X B C CX XX G)(h:PA X es (RA B C XX x))(hl:cnt x<=1000):PE X (.List es pos) (RE B C XX (.lst x)) :=
 PE.imp (JH6 h) λσ H Q ⟨δ,ok,k⟩=>by
  simp only[ev]at k;cases q:evA C x δ with
  |ok ds =>
   rw[q]at k;refine⟨δ,ok,?_⟩;rw[q];intro vs H1 s1 d1;have e1:=DenL.len ds vs d1;have e2:=JBq x δ ds q;refine⟨by rw[sizeLine_eq];omega,λp hp=>k _ _ (s1.trans (JBH hp)) ?_⟩
   simp only[Den];exact⟨p,vs,rfl,SqL.of JAG,DenL.mono (JBH hp) ds vs d1⟩
  |exc c=>rw[q]at k;exact⟨δ,ok,by rw[q];exact k⟩
  |bad=>rw[q]at k;exact k.elim
theorem JJE{H:Hp}{ds:List D}{vs:List V}{i:Int}{d:D}(h:DenL B H ds vs)(e:VI.atI ds i=some d):∃v,L2.atI vs i=some v/\Den B H d v:=by
 have hl:=DenL.len ds vs h;unfold VI.atI at e;cases q:VI.ixN ds.length i with
 |none=>rw[q]at e;cases e
 |some j =>
  rw[q]at e;obtain⟨v,e1,dn⟩:=DenL.get ds vs j d h e;refine⟨v,?_,dn⟩;unfold L2.atI;have q':L2.ixN vs.length i=some j:=by rw[<-hl];exact q
  rw[q'];exact e1
theorem SqDo.at{pins:Pq}{σ:St}{H:Hp}{s:Shared}{a:Addr}{o:Obj}{xs:List (Key×V)}(I:Inv X pins σ H s)(h:SqDo X.K X.w H a o xs):(a==sysModules)=false/\s.heap.get? a=some o/\∃vs,KV xs vs/\s.heap.DictOf (JBO X.prog X.w) a vs:=by
 rcases h with h|h
 ·obtain⟨e,_,h1,h2⟩:=I.hok a _ h;exact⟨h1,e,h2⟩
 ·exact h X.prog s.heap I.kIn
theorem SqD.at{pins:Pq}{σ:St}{H:Hp}{s:Shared}{a:Addr}{xs:List (Key×V)}(I:Inv X pins σ H s)(h:SqD X.K X.w H a xs):(a==sysModules)=false/\∃vs,KV xs vs/\s.heap.DictOf (JBO X.prog X.w) a vs:=by
 obtain⟨o,h⟩:=h;obtain⟨h1,_,h2⟩:=SqDo.at I h;exact⟨h1,h2⟩
theorem JOa{ks:List (Key×V)}{vs:List (Key×Value)}{x:Str}(h:KV ks vs):(∀v,(ks.find? λp=>p.1=Sum.inr x).map (·.2)=some v->∃u,valueAt vs (Sum.inr x:Key)=some u/\RelV v u)/\((ks.find? λp=>p.1=Sum.inr x).map (·.2)=none->valueAt vs (Sum.inr x:Key)=none):=by
 induction h with
 |nil=>exact⟨λv e=>(by simp at e),λ_=>rfl⟩
 | @cons p q ps qs hq t ih =>
  obtain⟨k,v⟩:=p;obtain⟨k',u⟩:=q;obtain⟨e1,e2⟩:=hq;simp only at e1 e2;subst e1;unfold valueAt at ih ⊢;simp only[List.find?_cons]
  by_cases hk:k=Sum.inr x
  ·simp only[hk,decide_true,Option.map_some,q_j];exact⟨λv' e=>⟨u,rfl,e▸e2⟩,λe=>by cases e⟩
  ·simp only[hk,decide_false];exact ih
theorem JOo:IxR X (λx y H Q=>∃p xs k v,x=.ref p/\y=.str k/\SqD X.K X.w H p xs/\((xs.find? λp=>p.1=Sum.inr k).map (·.2))=some v/\Q v H):=by
 intro value slice pins s σ H x y v u Q I rx ry h hs;obtain⟨p,xs,k,z,rfl,rfl,hq,he,q⟩:=h;cases rx;obtain⟨t,rfl⟩:=ry;obtain⟨hsys,vs,kv,dd⟩:=SqD.at I hq;obtain⟨u,g1,g2⟩:=(JOa kv).1 z he;exact subscriptTail_builtinR (x:=u) dd.typeIs slot_dict_getitem.lookup (wpAny_getItem_of (Q:=λr s'=>r=u/\EP X pins σ Q r s') (JC8 _ _ k t) dd.mapOf g1 ⟨rfl,z,H,I.tok _,g2,q⟩) hs
theorem JEy{H:Hp}{x:Str}{d:D}:∀ {kvs:List (D×D)}{xs:List (Key×V)},DenK B H kvs xs->getK kvs x=.ok d->∃v,(xs.find? λp=>p.1=Sum.inr x).map (·.2)=some v/\Den B H d v
 | [],xs,h,e=>by cases e
 |(k,b)::r,xs,h,e=>by
  simp only[DenK]at h;obtain⟨y,v,r',rfl,rfl,h1,h2⟩:=h;simp only[getK]at e
  by_cases hk:y=x
  · rw[if_pos hk]at e
    cases e;exact⟨v,by simp[List.find?,hk],h1⟩
  · rw[if_neg hk]at e
    obtain⟨v',e1,e2⟩:=JEy h2 e;have:¬((Sum.inr y:Key)=Sum.inr x):=λz=>hk (Sum.inr.inj z);exact⟨v',by simpa[List.find?,this] using e1,e2⟩
theorem JF3{x:Str}{c:Nat}:∀ {kvs:List (D×D)},getK kvs x≠.exc c
 | []=>by intro h;cases h
 |(k,b)::r=>by
  cases k<;>simp only[getK]<;>first|(intro h;cases h;done)|skip
  split
  · intro h;cases h
  · exact JF3
theorem idxOk(g:Gk X B C CX XX G):IxR X (λv u H Q=>∃dx dy,Den B H dx v/\Den B H dy u/\KE B XX (idxD dx dy) H Q):=by
 intro value slice pins s σ H v u w t Q I rx ry ⟨dx,dy,hx,hy,k⟩ hs;refine(ix_seq.or JOo) value slice pins s σ H v u w t Q I rx ry ?_ hs;cases dx with
 |list ds =>
  cases dy<;>first|exact fF k|skip
  rename_i i;simp only[Den]at hx hy;obtain⟨p,xs,e,q,l⟩:=hx;simp only[idxD]at k;cases qa:VI.atI ds i with
  |none=>rw[qa]at k;exact k.elim
  |some d =>
   rw[qa]at k;obtain⟨z,e2,dn⟩:=JJE l qa;exact .inl (.inl ⟨p,xs,i,z,e,hy,g.K▸q,e2,KE.ok k dn⟩)
 |tuple ds =>
  cases dy<;>first|exact fF k|skip
  rename_i i;simp only[Den]at hx hy;obtain⟨p,xs,e,q,l⟩:=hx;simp only[idxD]at k;cases qa:VI.atI ds i with
  |none=>rw[qa]at k;exact k.elim
  |some d =>
   rw[qa]at k;obtain⟨z,e2,dn⟩:=JJE l qa;exact .inl (.inr (.inl ⟨p,xs,i,z,e,hy,g.K▸q,e2,KE.ok k dn⟩))
 |dict kvs =>
  cases dy<;>first|exact fF k|skip
  rename_i y;simp only[Den]at hx hy;simp only[idxD]at k;rcases hx with ⟨p,c,e1,e2,_⟩|⟨p,xs,e1,e2,e3⟩|⟨p,c,e1,e2,_⟩
  ·subst e2;exact fF k
  rotate_left 1
  ·subst e2;exact fF k
  ·cases qg:getK kvs y with
   |ok d =>
    rw[qg]at k;obtain⟨z,f1,f2⟩:=JEy e3 qg;exact .inr ⟨p,xs,y,z,e1,hy,by rw[g.K,g.W];exact e2,f1,KE.ok k f2⟩
   |exc c=>exact(JF3 qg).elim
   |bad=>rw[qg]at k;exact k.elim
 |str z =>
  cases dy<;>first|exact fF k|skip
  rename_i i;simp only[Den]at hx hy;simp only[idxD]at k
  split at k
  ·rename_i hz;cases qa:VI.atI z.cps.toList i with
   |none=>rw[qa]at k;exact k.elim
   |some c =>
    rw[qa]at k;exact .inl (.inr (.inr ⟨z,i,c,hx,hy,by rw[sizeLine_eq];exact Nat.le_trans hz (by decide),qa,k _ _ (Same.refl H) (by simp only[Den])⟩))
  ·exact k.elim
 |_=>exact fF k
theorem s_idx(g:Gk X B C CX XX G)(ha:PE X a (RE B C XX x))(hb:PE X b (RE B C XX y))(hs:isSlice b=false):PE X (.Subscript a b pos) (RE B C XX (.idx x y)) :=
 PE.imp (pe_ix (idxOk g) ha hb (JOj hs)) λσ H Q ⟨δ,ok,k⟩=>two g (f:=idxD) (λx y H dx dy h1 h2 k=>⟨dx,dy,h1,h2,k⟩) ⟨δ,ok,by simpa only[ev] using k⟩
theorem JOf(g:Gk X B C CX XX G){n:Nat}{Q:VK}(hn:fn ds≠.bad->ds.length=n)(dn:DenL B H ds vs)(k:KE B XX (fn ds) H Q):JCu B n fn vs H Q (EX B XX):=by
 have hb:fn ds≠.bad:=λz=>by rw[z]at k;exact k
 refine⟨by rw[<-DenL.len ds vs dn];exact hn hb,ds,dn,?_⟩
 cases q:fn ds with
 |ok d=>rw[q]at k;exact k
 |exc c=>rw[q]at k;exact λH' s'=>⟨c,rfl,g.anti c H H' s' k⟩
 |bad=>exact(hb q).elim
end
section
variable{X:Cx}{B:Bs}{C:Cn}{CX:CXT}{XX:Nat->Hp->Prop}{G:List (Str×GK)}{a b c:Expr}{x y z:E}{pos p:Pos}
theorem s_call(g:Gk X B C CX XX G){i:Nat}{e:Expr}(hg:Gl X nm)(hl:G.lookup nm=some (.fn i))(hb:JAN nm=false)(ha:PA X (e::r) (RA B C XX x))
  (he:starEach (e::r) X.env=(false,eval e X.env)::starEach r X.env) (hpl:(backTo pos (starEach (e::r) X.env)).any (·.1)=false):PE X (.Call (.Name nm p) (e::r) [] pos) (RE B C XX (.call i x)):=by
 obtain⟨f,fd,ps,k,hm,hk,F,hr,hbi,hn⟩:=g.fn nm i hl;refine PE.imp (JNf F hr hg hm hk hbi .nil g.pas ha (JAE hb).1 he ?_) ?_
 ·rw[he]at hpl;exact hpl
 ·rintro σ H Q ⟨δ,ok,kk⟩;simp only[ev]at kk;refine RA.of (W:=λr H=>KE B XX r H Q) ok (λ_ _ z=>z) (λ_ z=>z) kk λds vs H1 s1 d1 h1=>?_;show JCu B ps.length (C.fn i) (vs++[]) H1 Q (EX B XX);rw[List.append_nil];exact JOf g (hn ds) d1 (KE.mono g s1 h1)
theorem JHL(g:Gk X B C CX XX G):JBm X (.builtin "len") (λvs H Q=>∃ds,DenL B H ds vs/\KE B XX (bltD .len ds) H Q):=by
 intro pins s σ H vs us Q I r ⟨ds,dn,k⟩;refine JJt pins s σ H vs us Q I r ?_
 match ds,dn,k with
 | [.list ys],dn,k =>
  simp only[DenL,Den]at dn;obtain⟨v,r',e,⟨a,xs,e1,q,l⟩,e2⟩:=dn;subst e2;subst e;subst e1;exact⟨_,xs.length,rfl,.inl ⟨xs,g.K▸q,rfl⟩,by rw[<-DenL.len ys xs l];exact KE.ok k (by simp only[Den])⟩
 | [.tuple ys],dn,k =>
  simp only[DenL,Den]at dn;obtain⟨v,r',e,⟨a,xs,e1,q,l⟩,e2⟩:=dn;subst e2;subst e;subst e1;exact⟨_,xs.length,rfl,.inr ⟨xs,g.K▸q,rfl⟩,by rw[<-DenL.len ys xs l];exact KE.ok k (by simp only[Den])⟩
 | [],_,k=>exact fF k
 | [.none],_,k=>exact fF k
 | [.bool _],_,k=>exact fF k
 | [.int _],_,k=>exact fF k
 | [.str _],_,k=>exact fF k
 | [.dict _],_,k=>exact fF k
 |d::_::_,_,k=>cases d<;>exact fF k
theorem JHt(g:Gk X B C CX XX G):JBm X (.builtin "abs") (λvs H Q=>∃ds,DenL B H ds vs/\KE B XX (bltD .abs ds) H Q):=by
 intro pins s σ H vs us Q I r ⟨ds,dn,k⟩;refine JKd pins s σ H vs us Q I r ?_
 match ds,dn,k with
 | [.int i],dn,k =>
  simp only[DenL,Den]at dn;obtain⟨v,r',e,e1,e2⟩:=dn;subst e2;subst e;subst e1;exact⟨i,rfl,KE.ok k (by simp only[Den])⟩
 | [],_,k=>exact fF k
 | [.none],_,k=>exact fF k
 | [.bool _],_,k=>exact fF k
 | [.list _],_,k=>exact fF k
 | [.tuple _],_,k=>exact fF k
 | [.str _],_,k=>exact fF k
 | [.dict _],_,k=>exact fF k
 |d::_::_,_,k=>cases d<;>exact fF k
theorem JM4(g:Gk X B C CX XX G){bl:Blt}{id:String}{nm:Str}{e:Expr}{r:List Expr}(hc:JBm X (.builtin id) (λvs H Q=>∃ds,DenL B H ds vs/\KE B XX (bltD bl ds) H Q))(hv:bootBuiltins nm=some (.builtin id))
  (hg:Gl X nm) (hl:G.lookup nm=some (.blt bl)) (hb:JAN nm=false) (ha:PA X (e::r) (RA B C XX x))
  (he:starEach (e::r) X.env=(false,eval e X.env)::starEach r X.env) (hpl:(backTo pos (starEach (e::r) X.env)).any (·.1)=false):PE X (.Call (.Name nm p) (e::r) [] pos) (RE B C XX (.blt bl x)):=by
 refine PE.imp (JC1 hc hg (g.blt nm bl hl) hv ha (JAE hb).2.2 (JAE hb).1 he ?_) ?_
 ·rw[he]at hpl;exact hpl
 ·rintro σ H Q ⟨δ,ok,kk⟩;simp only[ev]at kk;refine RA.of (W:=λr H=>KE B XX r H Q) ok (λ_ _ z=>z) (λ_ z=>z) kk λds vs H1 s1 d1 h1=>?_;exact⟨ds,d1,KE.mono g s1 h1⟩
theorem JM8(g:Gk X B C CX XX G)(ha:PE X a (RE B C XX x))(he:∀whole,isTrue a X.env whole=(do let v<-whole;standAt a.pos;holding [v] (truthy v)))(ht:∀δ,evT C x δ=(ev C x δ).bind truth):PT X a (RT B C XX x) :=
 PT.imp (JKQ ha he) λσ H Q ⟨δ,ok,k⟩=>by
  rw[ht]at k;refine RE.of (W:=λr H=>KB XX r H Q) ok (λ_ _ z=>z) (λ_ z=>z) k λd v H1 s1 d1 h1=>?_;cases q:truth d with
  |ok t=>rw[q]at h1;exact⟨t,truV g.K d1 q,h1 H1 s1⟩
  |exc c=>exact(JEc q).elim
  |bad=>rw[q]at h1;exact h1.elim
theorem JQv(op:CmpOp)(h:PT X (.Compare a [op] [b] pos) (JQh t))(ht:∀σ H Q,RE B C XX x σ H Q->t σ H Q)(hb:∀δ,evT C x δ=(ev C x δ).bind truth)(hbool:∀δ d,ev C x δ=.ok d->∃k,d=.bool k):PT X (.Compare a [op] [b] pos) (RT B C XX x) :=
 PT.imp h λσ H Q ⟨δ,ok,k⟩=>by
  refine ht σ H _ ⟨δ,ok,?_⟩;rw[hb]at k;cases q:ev C x δ with
  |ok d =>
   rw[q]at k;obtain⟨t',rfl⟩:=hbool δ d q;intro v H1 s1 d1;simp only[Den]at d1;exact⟨t',d1,k H1 s1⟩
  |exc c=>rw[q]at k;exact k
  |bad=>rw[q]at k;exact k.elim
theorem JJQ(g:Gk X B C CX XX G)(ha:PT X a (RT B C XX x)):PT X (.UnaryOp .Not a pos) (RT B C XX (.not x)) :=
 PT.imp (JRD ha) λσ H Q ⟨δ,ok,k⟩=>by
  simp only[evT]at k;exact RT.of (W:=λr H=>KB XX r H Q) ok (λ_ _ z=>z) (λ_ z=>z) k λt H1 s1 h1=>h1 H1 s1
theorem w_and(g:Gk X B C CX XX G){rest:List Expr}(ha:PT X a (RT B C XX x))(hb:PW X (.BoolOp .And (b::rest) pos) (RT B C XX y)):PW X (.BoolOp .And (a::b::rest) pos) (RT B C XX (.and x y)) :=
 λwh pins s σ H Q I ⟨δ,ok,k⟩=>JRn ha hb wh pins s σ H Q I (by
  simp only[evT]at k;refine RT.of (W:=λr H=>KB XX r H Q) ok (λ_ _ z=>z) (λ_ z=>z) k λt H1 s1 h1=>?_;cases t with
  |true=>exact iteT ⟨δ,ok.mono s1,KB.mono g s1 h1⟩
  |false=>exact iteF (h1 H1 s1))
theorem w_or(g:Gk X B C CX XX G){rest:List Expr}(ha:PT X a (RT B C XX x))(hb:PW X (.BoolOp .Or (b::rest) pos) (RT B C XX y)):PW X (.BoolOp .Or (a::b::rest) pos) (RT B C XX (.or x y)) :=
 λwh pins s σ H Q I ⟨δ,ok,k⟩=>pw_or ha hb wh pins s σ H Q I (by
  simp only[evT]at k;refine RT.of (W:=λr H=>KB XX r H Q) ok (λ_ _ z=>z) (λ_ z=>z) k λt H1 s1 h1=>?_;cases t with
  |true=>exact iteT (h1 H1 s1)
  |false=>exact iteF ⟨δ,ok.mono s1,KB.mono g s1 h1⟩)
end
theorem JDd{prog:Program}{w:World}{A:Around}{R:Result->Shared->Prop}{s:Shared}{elt target iter:Expr}{ifs:List Expr}{scope:Scope}{pos:Pos}{it acc:Value}{env:PySem.Env}(I:Nat->Shared->Prop)
  (turn:∀n s,I n s->wpAny (model prog w) A (pyNext it) (λr s₁=>match r with
    |none=>R (.ok .next) s₁
    |some v=>wpAny (model prog w) A (letOwnedTupleGo target it v) (λ_ s₁'=>wpAny (model prog w) A (assign target env v) (λ_ s₂ =>
     wpAny (model prog w) A (forIn ifs true λc r=>if r=true then do let ok<-isTrue c env (eval c env);pure (ForInStep.yield ok) else pure (ForInStep.yield r)) (λok s₃ =>
      if ok=true then wpAny (model prog w) A (eval elt env) (λx s₄ =>
       wpAny (model prog w) A (call (.builtin "list.append") [acc,x]) (λ_ s₅=>∃m,m<n/\I m s₅) (notedBy (model prog w) A env λe s'=>R (.error e) s') s₄) (notedBy (model prog w) A env λe s'=>R (.error e) s') s₃
      else ∃m,m<n/\I m s₃) (notedBy (model prog w) A env λe s'=>R (.error e) s') s₂) (notedBy (model prog w) A env λe s'=>R (.error e) s') s₁') (notedBy (model prog w) A env λe s'=>R (.error e) s') s₁) (notedBy (model prog w) A env λe s'=>R (.error e) s') s)
  (n:Nat) (h:I n s) :
  codeAny (model prog w) A (.compLoop (.ListComp elt [⟨target,iter,ifs,0⟩] scope pos) 0 it acc env) R s:=by
 refine codeAny_loop rfl I (λn s hI=>?_) n h;show wpAny _ A ((compTurn (.ListComp elt [⟨target,iter,ifs,0⟩] scope pos) 0 it acc env).onRaise (λx=>do noteFrame x env;theTreesLotGoes x)) _ _ s
 refine wpAny_noted ?_;rw[compTurn_list];refine q_b (wpAny_standAt (q_b (wpAny_mono (turn n s hI) (λr s₁ h₁=>?_) λ_ _ h'=>h')));cases r with
 |none=>exact q_e h₁
 |some v =>
  refine q_b (wpAny_mono h₁ (λ_ s₁' h₁'=>?_) λ_ _ h'=>h');refine q_b (wpAny_mono h₁' (λ_ s₂ h₂=>q_b (wpAny_mono h₂ (λok s₃ h₃=>?_) λ_ _ h'=>h')) λ_ _ h'=>h');cases ok with
  |false=>exact q_e ⟨rfl,h₃⟩
  |true =>
    exact q_b (q_b (wpAny_mono h₃ (λx s₄ h₄=>q_b (wpAny_mono h₄ (λ_ s₅ h₅=>q_e (q_e ⟨rfl,h₅⟩)) λ_ _ h'=>h')) λ_ _ h'=>h'))
noncomputable def JA0(X:Cx)(sc:Scope)(Cc:Addr)(N':List Str)(fp:List Addr)(s:Shared)(H:Hp):Cx where
 prog:=X.prog
 w:=X.w
 K:=X.K
 mg:=X.mg
 base:=X.base
 A:=X.A
 N:=N'
 s₀:=s
 H₀:=H
 env:=compEnvC sc (JAw X.env.cells sc.names []) Cc X.env
 outer:=X.stack
 stack:=X.stack
 ex:=fp
 fn:=λ_=>false
 calm:=true
 pn:=[]
 xe:=λ_ _=>False
theorem JAo{X:Cx}{sc:Scope}{Cc:Addr}(hk:X.env.scope.kind=.function):(compEnvC sc (JAw X.env.cells sc.names []) Cc X.env).scope.names=JAx X.env.scope.names sc.names:=by
 show(sc.names.map λ(x:Str×NameKind)=>match x with|(n,k)=>if (k==NameKind.free&&X.env.scope.kind==ScopeKind.function&&X.env.kindOf n==some NameKind.cell)=true then (n,NameKind.cell) else (n,k))=_
 have:(X.env.scope.kind==ScopeKind.function)=true:=by rw[hk];rfl
 simp only[this];rfl
theorem JBk:∀ {names:Nq}{x:Str},names.lookup x=some .local->(JAx outer names).lookup x=some .local
 | [],x,h=>by simp at h
 |(n,k)::r,x,h=>by
  unfold JAx;rw[List.map_cons];rw[List.lookup_cons]at h;cases q:x==n with
  |true =>
    rw[q]at h;cases h;show List.lookup x ((if (NameKind.local==NameKind.free&&true&&outer.lookup n==some NameKind.cell)=true then (n,NameKind.cell) else (n,NameKind.local))::_)=_;rw[if_neg (by simp),List.lookup_cons,q]
  |false =>
    rw[q]at h;have e:∀kk,List.lookup x ((n,kk)::JAx outer r)=List.lookup x (JAx outer r):=λkk=>by rw[List.lookup_cons,q]
    show List.lookup x ((if (k==NameKind.free&&true&&outer.lookup n==some NameKind.cell)=true then (n,NameKind.cell) else (n,k))::JAx outer r)=_
    split
    ·rw[e];exact JBk h
    ·rw[e];exact JBk h
theorem JBd:∀ {names:Nq}{x:Str},(∀y∈names,y.2≠.cell)->(JAx outer names).lookup x=some .cell\/(JAx outer names).lookup x=some .free->(x,NameKind.free)∈names
 | [],x,_,h=>by simp[JAx]at h
 |(n,k)::r,x,hc,h=>by
  have hc':∀y∈r,y.2≠.cell:=λy hy=>hc y (q_s _ hy);have hk:k≠.cell:=hc (n,k) List.mem_cons_self;have e0:JAx outer ((n,k)::r)=(if (k==NameKind.free&&true&&outer.lookup n==some NameKind.cell)=true then (n,NameKind.cell) else (n,k))::JAx outer r:=rfl;rw[e0]at h;cases q:x==n with
  |true =>
    have e:x=n:=eq_of_beq q;subst e
    by_cases hf:k=.free
    ·subst hf;exact List.mem_cons_self
    ·rw[if_neg (by simp[hf]),List.lookup_cons,q]at h
     rcases h with h|h
     ·exact absurd (Option.some.inj h) hk
     ·exact absurd (Option.some.inj h) hf
  |false =>
    have e:∀kk,List.lookup x ((n,kk)::JAx outer r)=List.lookup x (JAx outer r):=λkk=>by rw[List.lookup_cons,q]
    have h':List.lookup x (JAx outer r)=some .cell\/List.lookup x (JAx outer r)=some .free:=by
     split at h
     ·rw[e]at h;exact h
     ·rw[e]at h;exact h
    exact q_s _ (JBd hc' h')
section
variable{X:Cx}{B:Bs}{C:Cn}{CX:CXT}{G:List (Str×GK)}{pins:Pq}{σ:St}{H:Hp}{s:Shared}{sc:Scope}{fp:List Addr}{N':List Str}{Cc:Addr}
structure BlkOk(X:Cx)(sc:Scope)(xs:List Str):Prop where
 kind:sc.kind=.function
 nocell:∀y∈sc.names,y.2≠.cell
 loc:∀y∈sc.names,y.2=.local->sc.names.lookup y.1=some .local
 free:∀n,(n,NameKind.free)∈sc.names->X.env.kindOf n=some .cell\/X.env.kindOf n=some .free
 tg:∀x∈xs,sc.names.lookup x=some .local
 out:∀y∈X.N,y ∉ xs->sc.names.lookup y≠some .local
 dots:∀i,i<X.N.length->Vis (compEnvC sc (JAw X.env.cells sc.names []) 0 X.env).scope (dots i)->False
 nd:(xs++mask xs 0 X.N).Nodup
theorem vis_same{Cc C':Addr}:Vis (compEnvC sc (JAw X.env.cells sc.names []) Cc X.env).scope x↔Vis (compEnvC sc (JAw X.env.cells sc.names []) C' X.env).scope x:=Iff.rfl
theorem BlkOk.clos(b:BlkOk X sc xs)(ok:X.Ok):closureFor sc X.env=pure (JAw X.env.cells sc.names []) :=
 JCD λn hn=>by
  obtain⟨c,hc⟩:=ok.has n (b.free n hn);rw[hc];rfl
theorem JBS(b:BlkOk X sc xs)(ok:X.Ok){c:Addr}:(JAw X.env.cells sc.names []).lookup x=some c↔(x,NameKind.free)∈sc.names/\X.env.cells.lookup x=some c:=by
 rw[JBT]
 by_cases h:(x,NameKind.free)∈sc.names
 ·rw[if_pos h];obtain⟨d,hd⟩:=ok.has x (b.free x h);rw[hd];simp[h]
 ·rw[if_neg h];simp[h]
theorem JN0{xs:List Str}(b:BlkOk X sc xs)(hcalm:X.calm=true)(I:Inv X pins σ H s)(hf:∀b∈fp,FpOk X pins H b)(hlt:∀b∈fp,b<s.heap.objs.size)(hC:s.heap.objs.size<=Cc):(JA0 X sc Cc N' fp s H).Ok where
 mod:=I.mod
 kind:=b.kind
 glob:=I.ok.glob
 blt:=I.ok.blt
 above:=hC
 inj:=λx y c h1 h2=>I.ok.inj x y c ((JBS b I.ok).mp h1).2 ((JBS b I.ok).mp h2).2
 has:=λx h=>by
  have e:=JAo (X:=X) (sc:=sc) (Cc:=Cc) I.ok.kind;have h':(JAx X.env.scope.names sc.names).lookup x=some .cell\/(JAx X.env.scope.names sc.names).lookup x=some .free:=by
   rw[<-e];exact h
  have hm:=JBd b.nocell h';obtain⟨c,hc⟩:=I.ok.has x (b.free x hm);exact⟨c,(JBS b I.ok).mpr ⟨hm,hc⟩⟩
 cab:=λ_ _ z=>by cases z
 hd:=λ_=>I.ok.hd hcalm
 frames:=I.ok.frames
 stk:=.inl rfl
 exf:=λa ha=>⟨q_l (q_m (hlt a ha) hC),λx c e=>(hf a ha).2.2.2.2.1 x c ((JBS b I.ok).mp e).2⟩
 bs:=I.bs
 bsz:=Nat.le_trans I.ok.bsz I.sz
 noex:=λa o e ha=>by
  rcases(hf a ha).2.2.2.1 with z|z
  ·exact I.ok.noex a o e z
  ·exact absurd (q_m (q_h e) (Nat.le_trans I.ok.bsz z)) (Nat.lt_irrefl _)
 exfs:=λa ha hm=>by
  rcases q_n.mp (I.stkSub a hm) with z|z
  ·exact(hf a ha).2.1 z
  ·exact(hf a ha).2.2.1 z
 funs:=I.stack
 frf:=I.stkFree
theorem JGa:∀(N:List Str) (i j:Nat) (y:Str),(mask xs i N)[j]? = some y->∃z,N[j]? = some z/\((z ∉ xs/\y=z)\/(z∈xs/\y=dots (i+j)))
 | [],_,_,_,h=>by simp[mask]at h
 |z::r,i,0,y,h=>by
  unfold mask at h;simp only[List.getElem?_cons_zero,q_j]at h;refine⟨z,rfl,?_⟩
  split at h
  ·rename_i hc;exact .inr ⟨by simpa using hc,h.symm⟩
  ·rename_i hc;exact .inl ⟨by simpa using hc,h.symm⟩
 |z::r,i,j+1,y,h=>by
  unfold mask at h;simp only[List.getElem?_cons_succ]at h;obtain⟨w,e,q⟩:=JGa r (i+1) j y h;refine⟨w,by simpa using e,?_⟩
  rw[show i+(j+1)=i+1+j by omega]
  exact q
theorem JFy:∀(N:List Str) (i:Nat),(mask xs i N).length=N.length
 | [],_=>rfl
 |_::r,i=>by simp only[mask,List.length_cons,JFy r]
theorem JGn{xs:List Str}(b:BlkOk X sc xs)(hcalm:X.calm=true)(I:Inv X pins σ H s)(hf:∀b∈fp,FpOk X pins H b)(hlt:∀b∈fp,b<s.heap.objs.size)(hC:s.heap.objs.size<=Cc)
  {h':Heap}{t':Nat}{m:Mq}(k:∀b o,s.heap.get? b=some o->h'.get? b=some o) (hn:h'.Ns Cc m) :
  Inv (JA0 X sc Cc (xs++mask xs 0 X.N) fp s H) [] (xs.map (λ_=>none)++σ) H { s with heap:=h',toks:=t' } where
 ok:=JN0 b hcalm I hf hlt hC
 os:=rfl
 bare:=I.bare
 base:=Un.kept k
 loc:=by
  refine⟨m,hn,λi y v e1 e2 e3=>?_⟩
  by_cases hi:i<xs.length
  ·rw[q_C (by simpa using hi)]at e2
   simp[hi]at e2
  ·have hi':xs.length<=i:=by omega
   rw[List.getElem?_append_right (by simpa using hi')]at e2
   simp only[q_g]at e2;have e1':(mask xs 0 X.N)[i - xs.length]? = some y:=by
    have:(xs++mask xs 0 X.N)[i]? = some y:=e1
    rwa [List.getElem?_append_right hi']at this
   obtain⟨z,ez,q⟩:=JGa X.N 0 _ y e1';rcases q with ⟨hz,rfl⟩|⟨hz,rfl⟩
   ·have e3':Vis (compEnvC sc (JAw X.env.cells sc.names []) Cc X.env).scope y:=e3;have hfree:(y,NameKind.free)∈sc.names:=by
     have en:=JAo (X:=X) (sc:=sc) (Cc:=Cc) I.ok.kind;unfold Vis at e3';rw[en]at e3';rcases e3' with e|e|e
     ·exfalso;refine b.out y (List.mem_of_getElem? ez) hz ?_;have:∀(names:Nq),(JAx X.env.scope.names names).lookup y=some .local->names.lookup y=some .local:=by
       intro names
       induction names with
       |nil=>intro h;simp[JAx]at h
       |cons p r ih =>
        obtain⟨n,kk⟩:=p;intro h;have e0:JAx X.env.scope.names ((n,kk)::r)=(if (kk==NameKind.free&&true&&X.env.scope.names.lookup n==some NameKind.cell)=true then (n,NameKind.cell) else (n,kk))::JAx X.env.scope.names r:=rfl;rw[e0]at h;rw[List.lookup_cons]
        split at h
        ·rw[List.lookup_cons]at h;cases q:y==n with
         |true=>rw[q]at h;cases h
         |false=>rw[q]at h;exact ih h
        ·rw[List.lookup_cons]at h;cases q:y==n with
         |true=>rw[q]at h;exact h
         |false=>rw[q]at h;exact ih h
      exact this sc.names e
     ·exact JBd b.nocell (.inl e)
     ·exact JBd b.nocell (.inr e)
    have hvis:Vis X.env.scope y:=by
     rcases b.free y hfree with e|e
     ·exact .inr (.inl e)
     ·exact .inr (.inr e)
    obtain⟨mm,hmm,hl⟩:=I.loc;obtain⟨u,r,l⟩:=hl (i - xs.length) y v ez e2 hvis;refine⟨u,r,.inr ⟨?_,?_⟩⟩
    ·have en:=JAo (X:=X) (sc:=sc) (Cc:=Cc) I.ok.kind;rcases e3' with e|e|e
     ·exfalso;have e':(JAx X.env.scope.names sc.names).lookup y=some .local:=by rw[<-en];exact e
      have hh:=JBd (outer:=X.env.scope.names) (names:=sc.names) (x:=y) b.nocell;have:∀(names:Nq),(JAx X.env.scope.names names).lookup y=some .local->names.lookup y=some .local:=by
       intro names
       induction names with
       |nil=>intro h;simp[JAx]at h
       |cons p r ih =>
        obtain⟨n,kk⟩:=p;intro h;have e0:JAx X.env.scope.names ((n,kk)::r)=(if (kk==NameKind.free&&true&&X.env.scope.names.lookup n==some NameKind.cell)=true then (n,NameKind.cell) else (n,kk))::JAx X.env.scope.names r:=rfl;rw[e0]at h;rw[List.lookup_cons]
        split at h
        ·rw[List.lookup_cons]at h;cases q:y==n with
         |true=>rw[q]at h;cases h
         |false=>rw[q]at h;exact ih h
        ·rw[List.lookup_cons]at h;cases q:y==n with
         |true=>rw[q]at h;exact h
         |false=>rw[q]at h;exact ih h
      exact b.out y (List.mem_of_getElem? ez) hz (this sc.names e')
     ·exact .inl e
     ·exact .inr e
    ·rcases l with ⟨hk,_⟩|⟨_,c,hc,hcell⟩
     ·exfalso;rcases b.free y hfree with e|e
      ·rw[e]at hk;cases hk
      ·rw[e]at hk;cases hk
     ·refine⟨c,(JBS b I.ok).mpr ⟨hfree,hc⟩,?_⟩;obtain⟨o,ho,hd⟩:=hcell;exact⟨o,k _ _ ho,hd⟩
   ·exfalso;have hlt':i - xs.length<X.N.length:=(q_p.mp ez).1;have:dots (0+(i - xs.length))=dots (i - xs.length):=by rw[Nat.zero_add]
    exact b.dots (i - xs.length) hlt' (by rw[<-this];exact vis_same.mp e3)
 cell:=λx c e=>by
  obtain⟨v,o,ho,hd⟩:=I.cell x c ((JBS b I.ok).mp e).2;exact⟨v,o,k _ _ ho,hd⟩
 free:=I.hok.fresh hC
 freeC:=λx c e=>I.freeC x c ((JBS b I.ok).mp e).2
 pin:=λp hp=>absurd (show p∈([]:Pq) from hp) (by simp)
 hok:=I.hok.kept k
 len:=by
  show(xs.map (λ_=>(none:Option V))++σ).length=(xs++mask xs 0 X.N).length;rw[q_u,q_u,q_g,JFy,I.len]
end
section
variable{X:Cx}{B:Bs}{C:Cn}{CX:CXT}{XX:Nat->Hp->Prop}{G:List (Str×GK)}{pins:Pq}{σ:St}{H:Hp}{s:Shared}{sc:Scope}{N':List Str}{Cc:Addr}
abbrev noE:Vq:=λ_ _=>False
def JCl(X':Cx)(B:Bs)(σ:St)(n:Nat)(δ:Env)(target elt:Expr)(ifs:List Expr)(F:D->R (Option D)):Prop :=
 ∀(pins:Pq) (s:Shared) (pre:St) (H:Hp) (d:D) (o:Option D) (v:V) (u:Value),pre.length=n->F d=.ok o->Inv X' pins (pre++σ) H s->RelV v u->Den B H d v->Sok B σ H δ ->
  wpAny (model X'.prog X'.w) X'.A (assign target X'.env u) (λ_ s₂ =>
   wpAny (model X'.prog X'.w) X'.A (forIn ifs true λc r=>if r=true then do let ok<-isTrue c X'.env (eval c X'.env);pure (ForInStep.yield ok) else pure (ForInStep.yield r)) (λok s₃ =>
    if ok=true then ∃y,o=some y/\wpAny (model X'.prog X'.w) X'.A (eval elt X'.env) (λx s₄=>∃pre' H' w,pre'.length=n/\Inv X' pins (pre'++σ) H' s₄/\Same H H'/\RelV w x/\Den B H' y w) noE s₃
    else o=none/\∃pre' H',pre'.length=n/\Inv X' pins (pre'++σ) H' s₃/\Same H H') noE s₂) noE s
theorem JDY{α:Type}{l:List α}{j:Nat}(h:j<l.length):l.drop j=l[j]::l.drop (j+1):=List.drop_eq_getElem_cons h
theorem JIm[Cool G]{elt iter target:Expr}{ifs:List Expr}{pos pos':Pos}{i:E}{δ:Env}{xs:List Str}{ds zs:List D}{F:D->R (Option D)}{use:Option (Value->Sem Unit)}{Q:Vq}
  (g:Gk X B C CX XX G) (b:BlkOk X sc xs) (hi:PI X target iter (RI B C XX i)) (hs:∀x,foldedSetIterable iter X.env x=pure x)
  (hrun:∀Cc fp s0 H0,JCl (JA0 X sc Cc (xs++mask xs 0 X.N) fp s0 H0) B σ xs.length δ target elt ifs F)
  (I:Inv X pins σ H s) (ok:Sok B σ H δ) (hds:evI C i δ=.ok ds) (hlen:ds.length<=16777216) (hz:JBM F ds=.ok zs)
  (fin:∀(D Cc:Addr) (s':Shared) (m:Mq) (H3:Hp) (yv:List V),s'.heap.Ns Cc m->Inv X pins σ (upd H3 D (.lst yv)) s'->Same H H3->H3 D=none->DenL B H3 zs yv->(upd H3 D (.lst yv)) Cc=none->Cc≠X.env.locals->X.s₀.heap.objs.size<=Cc ->
    (∀x c,X.env.cells.lookup x=some c->c≠Cc)->(∀p∈X.pn++pins,p.1≠Cc)->compPost (model X.prog X.w) X.A X.xe use Q (.ref D) Cc (.ok .next) s') :
  wpAny (model X.prog X.w) X.A (comprehension (.ListComp elt [⟨target,iter,ifs,0⟩] sc pos) sc X.env pos' (newList []) false (eval iter X.env) use) Q X.xe s:=by
 refine wpAny_comprehension_free rfl hs (b.clos I.ok) b.kind b.loc (wpAny_mono (hi pins s σ H (λJ H1=>Same H H1/\ItOk B J H1 ds) I ⟨δ,ok,?_⟩) (λxv s₁ h₁=>wpAny_mono h₁ (λitv s₂ h₂=>?_) (λ_ _ e=>e)) (λ_ _ e=>e))
 ·rw[hds];exact λJ H' s' io=>⟨s',io⟩
 obtain⟨it,fp,tn,J,H2,e,I2,T,st2,f2,sm2,io⟩:=h₂;subst e;have hlt:∀b∈fp,b<s₂.heap.objs.size:=λb hb=>by
  obtain⟨o,ho,_⟩:=T.obj 0 _ st2 b hb;exact q_h ho
 refine wpAny_newObj_type (wpAny_newFunctionEnv b.nocell (by intro y hy;simp at hy) (λh₁ hns₁ hsb₁=>?_) b.kind)
 dsimp only at hns₁ hsb₁ ⊢
 generalize hH2:s₂.heap.push { cls:=.type "list",dict:=none,data:=.seq ([]:List Value).toArray }=P2 at hns₁ hsb₁ ⊢;have hC:P2.objs.size=s₂.heap.objs.size+1:=by rw[<-hH2,Heap.size_push]
 have hCle:s₂.heap.objs.size<=P2.objs.size:=by rw[hC];exact Nat.le_succ _
 have hDC:s₂.heap.objs.size≠P2.objs.size:=by rw[hC];exact q_l (Nat.lt_succ_self _)
 have below:∀b,b<s₂.heap.objs.size->b≠P2.objs.size:=λb hb=>by rw[hC];exact q_l (q_E hb)
 have old:∀b o,s₂.heap.get? b=some o->h₁.get? b=some o:=λb o e=>hsb₁.extBut b o (below b (q_h e)) (q_c _ (hH2▸q_c _ e));have hacc:h₁.get? s₂.heap.objs.size=some { cls:=.type "list",dict:=none,data:=.seq ([]:List Value).toArray }:=hsb₁.extBut _ _ hDC (q_c _ (hH2▸q_k _ rfl));have I4:=JGn (fp:=fp) (t':=s₂.toks+([]:List (Str×Value)).length) b (g.calm inferInstance) I2 f2 hlt hCle old hns₁;have st4:tn 0 h₁:=T.keep _ _ _ st2 λb _ o e=>old b o e;have hH2D:H2 s₂.heap.objs.size=none:=I2.hok.fresh (q_t _);have fpX:∀ {ps:Pq}{H':Hp},(∀b∈fp,H' b=none)->(∀p∈ps,p.1=s₂.heap.objs.size)->∀b∈fp,FpOk (JA0 X sc P2.objs.size (xs++mask xs 0 X.N) fp s₂ H2) ps H' b:=λ{ps H'} hn hp a ha=>by
  refine⟨hn a ha,below a (hlt a ha),I4.ok.exfs a ha,.inl ha,λx c e=>(I4.ok.exf a ha).2 x c e,λp hpp=>?_⟩;have hpp':p∈ps:=hpp;rw[hp p hpp'];exact Nat.ne_of_gt (hlt a ha)
 have loop:∀s₃:Shared,s₃={ s₂ with heap:=h₁,toks:=s₂.toks+([]:List (Str×Value)).length } ->
    codeAny (model X.prog X.w) X.A (.compLoop (.ListComp elt [⟨target,iter,ifs,0⟩] sc pos) 0 (.ref it) (.ref s₂.heap.objs.size) (JA0 X sc P2.objs.size (xs++mask xs 0 X.N) fp s₂ H2).env)
      (compPost (model X.prog X.w) X.A X.xe use Q (.ref s₂.heap.objs.size) P2.objs.size) s₃:=by
  rintro s₃ rfl;refine JDd (λn s'=>∃(j:Nat) (pre:St) (H':Hp) (ys:List D) (yv:List V) (its:List Value) (ep:Nat) (rest:List D),n=ds.length - j/\j<=ds.length/\pre.length=xs.length /\
    Inv (JA0 X sc P2.objs.size (xs++mask xs 0 X.N) fp s₂ H2) [] (pre++σ) H' s'/\tn j s'.heap/\(∀b∈fp,H' b=none)/\Same H2 H'/\H' s₂.heap.objs.size=none /\
    s'.heap.get? s₂.heap.objs.size=some { cls:=.type "list",data:=.seq its.toArray ep }/\Vals yv its/\DenL B H' ys yv/\ys.length<=j/\JBM F (ds.drop j)=.ok rest/\zs=ys++rest) ?_ ds.length
    ⟨0,xs.map (λ_=>none),H2,[],[],[],0,zs,by simp,Nat.zero_le _,by simp,I4,st4,λb hb=>(f2 b hb).1,Same.refl _,hH2D,hacc,.nil,by simp only[DenL],q_t _,by simpa using hz,rfl⟩
  rintro n s3 ⟨j,pre,H3,ys,yv,its,ep,rest,hn,hj,hpl,I3,st3,fr3,sm3,hD3,ho3,rv3,dn3,hyl,hr3,hzs⟩;subst hn;have I3p:Inv (JA0 X sc P2.objs.size (xs++mask xs 0 X.N) fp s₂ H2) [(s₂.heap.objs.size,{ cls:=.type "list",data:=.seq its.toArray ep })] (pre++σ) H3 s3:=I3.pins_of λp hp=>by
    have e:p=(s₂.heap.objs.size,{ cls:=.type "list",data:=.seq its.toArray ep }):=by simpa using hp
    subst e;refine⟨ho3,hD3,hDC,λhm=>?_,λv z=>?_⟩
    · obtain⟨_,o,ho,_⟩:=I4.ok.funs.mem hm
      exact absurd (q_h ho) (Nat.lt_irrefl _)
    · have z':Data.seq its.toArray ep=Data.cell v:=z
      cases z'
  have sameE:∀(e:Value) (s':Shared),noE e s'->notedBy (model X.prog X.w) X.A (JA0 X sc P2.objs.size (xs++mask xs 0 X.N) fp s₂ H2).env (λe s'=>compPost (model X.prog X.w) X.A X.xe use Q (.ref s₂.heap.objs.size) P2.objs.size (.error e) s') e s':=λ_ _ z=>z.elim
  by_cases hlt3:j<ds.length
  ·
    have hd:ds[j]? = some ds[j]:=by simp[hlt3]
    obtain⟨go,yl⟩:=(io H3 (Same.kp sm3) j).1 ds[j] hd;refine wpAny_mono (T.item (JA0 X sc P2.objs.size (xs++mask xs 0 X.N) fp s₂ H2) rfl rfl rfl rfl j [(s₂.heap.objs.size,{ cls:=.type "list",data:=.seq its.toArray ep })] s3 (pre++σ) H3 noE I3p (fpX fr3 (λp hp=>by rw[List.mem_singleton.mp hp])) st3 go) (λr s4 h4=>?_) sameE
    obtain⟨u,hu,h4⟩:=h4;subst hu;show wpAny _ _ (letOwnedTupleGo target (.ref it) u) _ _ s4;refine wpAny_mono h4 (λ_ s5 h5=>?_) sameE;obtain⟨v,H5,I5,r5,y5,st5,fr5⟩:=h5;obtain⟨s35,d5⟩:Same H3 H5/\Den B H5 ds[j] v:=by
      rcases yl v H5 y5 with ⟨e5,d5⟩|⟨p,ws,es,hp,e5,ex,ed,dl⟩
      · subst e5;exact⟨Same.refl _,Den.mono sm3 _ _ d5⟩
      · subst e5;subst ex
        have s35:Same H3 (upd H3 p (.tup ws)):=JBH hp;refine⟨s35,?_⟩;rw[ed];simp only[Den];exact⟨p,ws,rfl,SqT.of JAG,DenL.mono (sm3.trans s35) _ _ dl⟩
    replace sm3:=sm3.trans s35
    replace dn3:=DenL.mono s35 ys yv dn3
    have I5p:=I5.pinned (fpX fr5 (λp hp=>by rw[List.mem_singleton.mp hp])) (T.obj _ _ st5)
    rw[JDY hlt3]at hr3;unfold JBM at hr3;have okσ:Sok B σ H5 δ:=(ok.mono sm2).mono sm3;cases qF:F ds[j] with
    |exc c=>rw[qF]at hr3;cases hr3
    |bad=>rw[qF]at hr3;cases hr3
    |ok o =>
      have hstep:=hrun P2.objs.size fp s₂ H2 _ s5 pre H5 ds[j] o v u hpl qF I5p r5 d5 okσ;refine wpAny_mono hstep (λ_ s6 h6=>wpAny_mono h6 (λokb s7 h7=>?_) sameE) sameE;have back:∀ {σ':St}{H':Hp}{s':Shared},Inv (JA0 X sc P2.objs.size (xs++mask xs 0 X.N) fp s₂ H2) ([(s₂.heap.objs.size,{ cls:=.type "list",data:=.seq its.toArray ep })]++JCG fp s5.heap) σ' H' s' ->
         s'.heap.get? s₂.heap.objs.size=some { cls:=.type "list",data:=.seq its.toArray ep }/\H' s₂.heap.objs.size=none/\tn (j+1) s'.heap/\(∀b∈fp,H' b=none):=λ{σ' H' s'} J'=>by
        have p0:=J'.pin (s₂.heap.objs.size,{ cls:=.type "list",data:=.seq its.toArray ep }) (q_r _ (List.mem_append_left _ (by simp)))
        refine⟨p0.1,p0.2.1,T.keep _ _ _ st5 λa ha o e=>(J'.pin (a,o) (q_r _ (q_r _ (JA9 ha e)))).1,λa ha=>?_⟩;obtain⟨o,e,_⟩:=T.obj _ _ st5 a ha;exact(J'.pin (a,o) (q_r _ (q_r _ (JA9 ha e)))).2.1
      cases okb with
      |false =>
        obtain⟨eo,pre',H',hp',I',sm'⟩:=h7;subst eo;rw[qF]at hr3;obtain⟨b1,b2,b3,b4⟩:=back I';rw[if_neg Bool.false_ne_true];refine⟨ds.length - (j+1),by omega,j+1,pre',H',ys,yv,its,ep,rest,rfl,hlt3,hp',I'.pins_of (λp hp=>absurd hp (by simp)),b3,b4,sm3.trans sm',b2,b1,rv3,DenL.mono sm' ys yv dn3,by omega,hr3,hzs⟩
      |true =>
        rw[if_pos rfl]at h7 ⊢;obtain⟨y,eo,h7⟩:=h7;subst eo;rw[qF]at hr3;cases qr:JBM F (ds.drop (j+1)) with
        |exc c=>simp only[qr]at hr3;cases hr3
        |bad=>simp only[qr]at hr3;cases hr3
        |ok rs =>
         simp only[qr]at hr3;have hr3':y::rs=rest:=by injection hr3
         refine wpAny_mono h7 (λx s8 h8=>?_) sameE;obtain⟨pre',H',w',hp',I',sm',rw8,d8⟩:=h8;obtain⟨b1,b2,b3,b4⟩:=back I';have hsz:its.length<=j:=by rw[<-rv3.length,<-DenL.len ys yv dn3];exact hyl
         have hlim:its.toArray.size<sizeLine:=by rw[q_f,sizeLine_eq];omega
         refine call_meets PySem.F.slot_list_append ⟨_,b1,rfl⟩ PySem.F.entry_list_append (PySem.F.args_list_append_2 _ _) (PySem.list_append s₂.heap.objs.size its.toArray ep x (by omega)) ⟨b1,?_⟩
         have q8:=PySem.IsL.update b1 (λa=>a.push x);have q8':(s8.heap.update s₂.heap.objs.size (Obj.mapSeq (λa=>a.push x))).get? s₂.heap.objs.size=some { cls:=.type "list",data:=.seq (its++[x]).toArray (if (its.toArray.push x).size==its.toArray.size then ep else ep+1) }:=by simpa using q8
         have I0:Inv (JA0 X sc P2.objs.size (xs++mask xs 0 X.N) fp s₂ H2) [] (pre'++σ) H' s8:=I'.pins_of (λp hp=>absurd hp (by simp))
         have I9:=I0.turned (h':=s8.heap.update s₂.heap.objs.size (Obj.mapSeq (λa=>a.push x))) (t':=s8.toks) (it:=s₂.heap.objs.size) (λb o hb e=>(Heap.get?_update_other _ _ (Ne.symm hb)).trans e) b2 hDC (.inr (q_t _))
          (λx c e z=>by
            obtain⟨v',o',ho',_⟩:=I2.cell x c ((JBS b I.ok).mp e).2;rw[z]at ho';exact absurd (q_h ho') (Nat.lt_irrefl _)) (λp hp=>absurd (show p∈([]:Pq) from hp) (by simp))
         refine⟨ds.length - (j+1),by omega,j+1,pre',H',ys++[y],yv++[w'],its++[x],_,rs,rfl,hlt3,hp',I9,T.keep _ _ _ b3 λa ha o e=>(Heap.get?_update_other _ _ (Nat.ne_of_gt (hlt a ha))).trans e,b4,sm3.trans sm',b2,q8',rv3.append (.cons rw8 .nil),
          DenL.append ys [y] yv [w'] (DenL.mono sm' ys yv dn3) (by simp only[DenL];exact⟨w',[],rfl,d8,rfl⟩),by rw[q_u,List.length_singleton];omega,qr,by rw[hzs,<-hr3'];simp⟩
  ·
    have ej:j=ds.length:=by omega
    have stop:=(io H3 (Same.kp sm3) j).2 (by omega)
    refine wpAny_mono (T.done (JA0 X sc P2.objs.size (xs++mask xs 0 X.N) fp s₂ H2) rfl rfl rfl rfl j [(s₂.heap.objs.size,{ cls:=.type "list",data:=.seq its.toArray ep })] s3 (pre++σ) H3 noE I3p (fpX fr3 (λp hp=>by rw[List.mem_singleton.mp hp])) st3 stop) (λr s4 h4=>?_) sameE
    obtain⟨hr,I5⟩:=h4;subst hr;show compPost _ _ _ _ _ _ _ _ s4;have p0:=I5.pin (s₂.heap.objs.size,{ cls:=.type "list",data:=.seq its.toArray ep }) (q_r _ (by simp))
    have hrest:rest=[]:=by
      rw[ej,List.drop_length]at hr3;unfold JBM at hr3;injection hr3 with hr3
      exact hr3.symm
    have u0:Un (frs X.stack) fp H2 H3 s₂.heap s4.heap:=I5.base;have neD:∀b o,s₂.heap.get? b=some o->b≠s₂.heap.objs.size:=λb o e=>q_l (q_h e);have nD:∀b o,H3 b=some o->b≠s₂.heap.objs.size:=λb o e z=>by rw[z,hD3]at e;cases e
    have u1:Un (frs X.stack) fp H2 (upd H3 s₂.heap.objs.size (.lst yv)) s₂.heap s4.heap :=
      ⟨u0.keep,u0.slot,λb o e n hx=>by rw[JAH (neD b o e)];exact u0.free b o e n hx,u0.there,λb xs' e=>by rw[JAH (nD b _ (u0.tups b xs' e))];exact u0.tups b xs' e,
        λb o u e=>by rw[JAH (nD b _ (u0.frzs b o u e))];exact u0.frzs b o u e,λb ps e=>by
         obtain⟨more,q⟩:=u0.tbls b ps e;exact⟨more,by rw[JAH (nD b _ q)];exact q⟩⟩
    have hvl:yv.length<=sizeLine:=by rw[<-DenL.len ys yv dn3,sizeLine_eq];omega
    have hok1:HOk X.prog X.w (upd H3 s₂.heap.objs.size (.lst yv)) s4.heap:=λa u e=>by
      by_cases ha:a=s₂.heap.objs.size
      · subst ha
        rw[JAG]at e;cases e;exact⟨hvl,its,ep,rv3,p0.1⟩
      · rw[JAH ha]at e
        exact(I5.hok a u e).stay (λc w' _ q=>q) (λc q=>by rw[JAH (nD c _ q)];exact q) λc xs' q=>by rw[JAH (nD c _ q)];exact q
    have J:=I2.call' (s':=s4) I5.os u1 hok1 I5.bare λa ha=>⟨(f2 a ha).2.2.2.1,(f2 a ha).2.1,(f2 a ha).2.2.2.2.1,(f2 a ha).2.2.2.2.2⟩;obtain⟨m4,hn4,_⟩:=I5.loc;refine fin s₂.heap.objs.size P2.objs.size s4 m4 H3 yv hn4 J (sm2.trans sm3) hD3 ?_ ?_ ?_ ?_ ?_ ?_
    · rw[hzs,hrest,List.append_nil]
      exact dn3
    · rw[JAH (Ne.symm hDC)];exact I5.free
    · exact Nat.ne_of_gt (q_m I2.lt hCle)
    · exact Nat.le_trans I2.sz hCle
    · intro x c e z
      obtain⟨v',o',ho',_⟩:=I2.cell x c e;rw[z]at ho';exact absurd (q_m (q_h ho') hCle) (Nat.lt_irrefl _)
    · intro p hp z
      exact absurd (q_m (q_h (I2.pin p hp).1) (by rw[z];exact hCle)) (Nat.lt_irrefl _)
 exact codeAny_compStart_list (loop _ rfl) (T.self _ _ _ _ _ st4 (loop _ rfl))
end
theorem JIj{a:Addr}(q:SqL B.K H a xs)(l:DenL B H ds xs):ItOk B (Itl B.K a) H ds:=by
 intro H2 s2 i;have q2:=s2.seq q;refine⟨λd e=>?_,λh=>⟨xs,q2,by rw[<-DenL.len ds xs l];exact h⟩⟩
 obtain⟨v,e1,dn⟩:=DenL.get ds xs i d l e;refine⟨⟨xs,v,q2,e1⟩,λx H3 y=>?_⟩;obtain⟨e3,y⟩:=y;have:=y xs q2;rw[e1]at this;cases this;exact .inl ⟨e3,dn⟩
theorem JKI{a:Addr}(q:SqT B.K H a xs)(l:DenL B H ds xs):ItOk B (Itt B.K a) H ds:=by
 intro H2 s2 i;have q2:=s2.tup q;refine⟨λd e=>?_,λh=>⟨xs,q2,by rw[<-DenL.len ds xs l];exact h⟩⟩
 obtain⟨v,e1,dn⟩:=DenL.get ds xs i d l e;refine⟨⟨xs,v,q2,e1⟩,λx H3 y=>?_⟩;obtain⟨e3,y⟩:=y;have:=y xs q2;rw[e1]at this;cases this;exact .inl ⟨e3,dn⟩
theorem JGI{lo hi:Int}:ItOk B (Itr lo (hi - lo).toNat) H (JDz lo hi):=by
 intro H2 s2 i;unfold JDz;refine⟨λd e=>?_,λh=>show(hi - lo).toNat<=i by simpa using h⟩
 rw[List.getElem?_map]at e
 by_cases hi':i<(hi - lo).toNat
 ·rw[List.getElem?_range hi']at e;simp only[Option.map_some,q_j]at e;refine⟨hi',λx H3 y=>?_⟩;obtain⟨e3,y⟩:=y;refine .inl ⟨e3,?_⟩;rw[<-e,y];simp only[Den]
 ·rw[List.getElem?_eq_none_iff.mpr (by simpa using hi')]at e
  cases e
section
variable{X:Cx}{B:Bs}{C:Cn}{CX:CXT}{XX:Nat->Hp->Prop}{G:List (Str×GK)}{a b c tg:Expr}{x y z:E}{pos p:Pos}
theorem JES(g:Gk X B C CX XX G)(ha:PE X a (RE B C XX x))(hi:∀δ,evI C x δ=(ev C x δ).bind JAc):PI X tg a (RI B C XX x):=by
 intro pins s σ H R I ⟨δ,ok,k⟩;rw[hi]at k;cases q:ev C x δ with
 |ok d =>
  rw[q]at k;cases d with
  |list ds =>
   refine JJI ha pins s σ H R I ⟨δ,ok,?_⟩;rw[q];intro v H1 s1 d1;simp only[Den]at d1;obtain⟨p,xs,e,hq,l⟩:=d1;refine⟨p,e,⟨xs,g.K▸hq⟩,?_⟩;rw[g.K];exact k _ H1 s1 (JIj hq l)
  |tuple ds =>
   refine JPZ ha pins s σ H R I ⟨δ,ok,?_⟩;rw[q];intro v H1 s1 d1;simp only[Den]at d1;obtain⟨p,xs,e,hq,l⟩:=d1;refine⟨p,e,⟨xs,g.K▸hq⟩,?_⟩;rw[g.K];exact k _ H1 s1 (JKI hq l)
  |_=>exact fF k
 |exc c =>
  rw[q]at k;refine JJI ha pins s σ H R I ⟨δ,ok,?_⟩;rw[q];exact k
 |bad=>rw[q]at k;exact k.elim
theorem JC7{i:Int}(h:small i=true):-(2 ^ 62)<=i/\i<2 ^ 62:=by
 unfold small at h;simp only[q_i,q_D]at h;exact h
theorem JPP(g:Gk X B C CX XX G)(hg:Gl X "range")(hm:X.mg "range"=none)(ha:PA X [a] (RA B C XX x))(hc:cnt x=1)(hs:starEach [a] X.env=[(false,eval a X.env)]):PI X tg (.Call (.Name "range" p) [a] [] pos) (RI B C XX (.rng x)):=by
 intro pins s σ H R I ⟨δ,ok,k⟩;refine JH9 hg hm ha hs pins s σ H R I ?_;simp only[evI]at k;refine⟨δ,ok,?_⟩;cases q:evA C x δ with
 |ok ds =>
  rw[q]at k;intro vs H1 s1 d1;have hl:=JBq x δ ds q;rw[hc]at hl
  match ds,hl,k,d1 with
  | [.none],_,k,_=>exact fF k
  | [.bool _],_,k,_=>exact fF k
  | [.str _],_,k,_=>exact fF k
  | [.list _],_,k,_=>exact fF k
  | [.tuple _],_,k,_=>exact fF k
  | [.dict _],_,k,_=>exact fF k
  | [.int j],_,k,d1 =>
   simp only[VI.R.bind,rngD]at k
   split at k
   ·rename_i hsm;simp only[DenL,Den]at d1;obtain⟨v,r,e,e1,e2⟩:=d1;subst e2;subst e;subst e1;obtain⟨b1,b2⟩:=JC7 hsm;refine⟨j,rfl,b1,b2,?_⟩;have:=k (Itr 0 (j - 0).toNat) H1 s1 JGI;simpa using this
   ·exact k.elim
 |exc c=>rw[q]at k;exact k
 |bad=>rw[q]at k;exact k.elim
theorem JRU(g:Gk X B C CX XX G)(hg:Gl X "range")(hm:X.mg "range"=none)(ha:PA X [a,b] (RA B C XX x))(hc:cnt x=2)(hs:starEach [a,b] X.env=[(false,eval a X.env),(false,eval b X.env)])(hs2:starEach [b] X.env=[(false,eval b X.env)]) :
  PI X tg (.Call (.Name "range" p) [a,b] [] pos) (RI B C XX (.rng x)):=by
 intro pins s σ H R I ⟨δ,ok,k⟩;refine JIY hg hm ha hs hs2 pins s σ H R I ?_;simp only[evI]at k;refine⟨δ,ok,?_⟩;cases q:evA C x δ with
 |ok ds =>
  rw[q]at k;intro vs H1 s1 d1;have hl:=JBq x δ ds q;rw[hc]at hl
  match ds,hl,k,d1 with
  | [.none,_],_,k,_=>exact fF k
  | [.bool _,_],_,k,_=>exact fF k
  | [.str _,_],_,k,_=>exact fF k
  | [.list _,_],_,k,_=>exact fF k
  | [.tuple _,_],_,k,_=>exact fF k
  | [.dict _,_],_,k,_=>exact fF k
  | [.int _,.none],_,k,_=>exact fF k
  | [.int _,.bool _],_,k,_=>exact fF k
  | [.int _,.str _],_,k,_=>exact fF k
  | [.int _,.list _],_,k,_=>exact fF k
  | [.int _,.tuple _],_,k,_=>exact fF k
  | [.int _,.dict _],_,k,_=>exact fF k
  | [.int i,.int j],_,k,d1 =>
   simp only[VI.R.bind,rngD]at k
   split at k
   ·rename_i hsm;simp only[q_i]at hsm;simp only[DenL,Den]at d1;obtain⟨v,r,e,e1,v',r',e',e1',e2⟩:=d1;subst e2;subst e';subst e;subst e1;subst e1';obtain⟨b1,b2⟩:=JC7 hsm.1;obtain⟨b3,b4⟩:=JC7 hsm.2;exact⟨i,j,rfl,⟨b1,b2,b3,b4⟩,k _ H1 s1 JGI⟩
   ·exact k.elim
 |exc c=>rw[q]at k;exact k
 |bad=>rw[q]at k;exact k.elim
end
def Ownb:HO->Prop
 |.lst _=>True
 |_=>False
def OwnO(B:Bs)(H:Hp):D->HO->Prop
 |.list ds,.lst xs=>DenL B H ds xs
 |_,_=>False
theorem OwnO.nil{B:Bs}{H:Hp}:OwnO B H (.list []) (.lst []):=by show DenL B H [] [];simp only[DenL]
theorem OwnO.mono{B:Bs}{H H':Hp}(s:Same H H')(d:D)(o:HO)(h:OwnO B H d o):OwnO B H' d o:=by
 cases d<;>cases o<;>first|exact fF h|exact DenL.mono s _ _ h
theorem OwnO.b{B:Bs}{H:Hp}{d:D}{o:HO}(h:OwnO B H d o):Ownb o:=by
 cases d<;>cases o<;>first|exact fF h|exact trivial
theorem OwnO.den{d:List D}{a:Addr}(h:OwnO B H (.list d) o)(e:H a=some o):Den B H (.list d) (.ref a):=by
 cases o<;>first
  |exact fF h
  |(simp only[Den];exact⟨a,_,rfl,SqL.of e,h⟩)
theorem OwnO.nl{B:Bs}{H:Hp}{d:D}{o:HO}(h:OwnO B H d o):JAI d=false:=by
 cases d with
 |list ds=>simp only[JAI]
 |_=>cases o<;>exact fF h
theorem JCa{n:Nat}{it:Bool}{e:Expr}(h:JAL G n it names N e=some x)(env:PySem.Env)(v:Value):foldedSetIterable e env v=pure v:=by
 cases n with
 |zero=>simp[JAL,JAV,JAQ]at h
 |succ n=>cases e<;>first|rfl|(cases it<;>simp[JAL,JAV,JAQ,xOf,Option.bind_none,ite_self,xRaw,mOf,mRaw]at h)
theorem Gk.nox(g:Gk X B C CX XX G)(h1:X'.K=X.K)(h2:X'.A=X.A)(h3:X'.mg=X.mg)(h4:X'.prog=X.prog)(h5:X'.w=X.w)(h6:X'.base=X.base)(h7:X'.calm=true)
  (hp:JDv CX X' (EX B λ_ _=>False)):Gk X' B C CX (λ_ _=>False) G where
 K:=h1.trans g.K
 W:=h5.trans g.W
 anti:=λ_ _ _ _ z=>z
 units:=by rw[h2];exact g.units
 calm:=λ_=>h7
 fn:=by rw[h1,h2,h3,h4,h5,h6];exact g.fn
 pas:=hp
 con:=by rw[h3];exact g.con
 noexg:=g.noexg
 blt:=by rw[h3];exact g.blt
 rng:=by rw[h3];exact g.rng
 isi:=by rw[h3];exact g.isi
 ty:=by rw[h3];exact g.ty
 cls:=by rw[h3];exact g.cls
 nam:=by rw[h3];exact g.nam
 fld:=by rw[h1];exact g.fld
 mth:=by unfold MethP;rw[h1,h2,h3,h4,h5,h6];exact g.mth
theorem JCI{c:Nat}:∀ {ds:List D},JBM f ds≠.exc c
 | []=>λh=>by unfold JBM at h;cases h
 |x::xs=>λh=>by
  unfold JBM at h;cases q:f x with
  |ok o =>
   rw[q]at h;cases o with
   |none=>exact JCI h
   |some y =>
    cases q2:JBM f xs with
    |ok ys=>simp only[q2]at h;cases h
    |exc c=>simp only[q2]at h;cases h
    |bad=>simp only[q2]at h;cases h
  |exc c=>rw[q]at h;cases h
  |bad=>rw[q]at h;cases h
section
variable{X:Cx}{B:Bs}{C:Cn}{CX:CXT}{XX:Nat->Hp->Prop}{G:List (Str×GK)}{a b c tg:Expr}{x y z:E}{pos p:Pos}
noncomputable def itemF(C:Cn)(k:Nat)(x y:E)(δ:Env)(d:D):R (Option D):=(push k d δ).bind λδ1=>(evT C y δ1).bind λt=>if t=true then (ev C x δ1).bind λz=>.ok (some z) else .ok none
theorem JJv{d:D}(ok:Sok B σ H δ)(dn:Den B H d v):Sok B (some v::σ) H (.val d::δ):=by
 intro i d' e;cases i with
 |zero =>
  have:d=d':=by
   have e':(R.ok d:R D)=.ok d':=e;injection e'
  subst this;exact⟨v,rfl,dn⟩
 |succ i=>exact ok i d' e
theorem JCP(hN0:X'.N.Nodup)(hN:X'.N[0]? = some nm)(hloc:X'.env.scope.names.lookup nm=some .local)
  (he:PE X' elt (RE B C (λ_ _=>False) x)) (hc:∀c,ifs=[c]->PT X' c (RT B C (λ_ _=>False) y)) (hifs:ifs=[]/\y=.cbl true\/∃c,ifs=[c]) (hxe:X'.xe=noE) :
  JCl X' B σ 1 δ (.Name nm px) elt ifs (itemF C 0 x y δ):=by
 intro pins s pre H d o v u hpre hF I r dn ok;obtain⟨p0,rfl⟩:∃p0,pre=[p0]:=by
  match pre,hpre with
  | [p0],_=>exact⟨p0,rfl⟩
 have hF':(evT C y (.val d::δ)).bind (λt=>if t=true then (ev C x (.val d::δ)).bind λz=>.ok (some z) else .ok none)=.ok o:=hF;have ok1:=JJv ok dn;have hst:=JEK (X:=X') (pos:=px) hN0 hN (.inl hloc) (.inr hloc) pins s ([p0]++σ) H v u (λσ' H'=>σ'=some v::σ/\H'=H) I r ⟨rfl,rfl⟩;rw[hxe]at hst;refine thn hst λ_ s2 ⟨σ2,H2,I2,e1,e2⟩=>?_;subst e1;subst e2;have elt_go:∀(s3:Shared) (H3:Hp) (t:Bool),Inv X' pins (some v::σ) H3 s3->Same H2 H3->evT C y (.val d::δ)=.ok t ->
    (if t=true then ∃z,o=some z/\wpAny (model X'.prog X'.w) X'.A (eval elt X'.env) (λx s₄=>∃pre' H' w,pre'.length=1/\Inv X' pins (pre'++σ) H' s₄/\Same H2 H'/\RelV w x/\Den B H' z w) noE s3
      else o=none/\∃pre' H',pre'.length=1/\Inv X' pins (pre'++σ) H' s3/\Same H2 H'):=by
  intro s3 H3 t I3 s23 qt;rw[qt]at hF';cases t with
  |true =>
    rw[if_pos rfl];simp only[R.bind,if_true]at hF';cases qx:ev C x (.val d::δ) with
    |ok z =>
      simp only[qx]at hF';have eo:o=some z:=by injection hF' with h;exact h.symm
      refine⟨z,eo,?_⟩;have hh:=he pins s3 (some v::σ) H3 (λw H'=>Same H3 H'/\Den B H' z w) I3 ⟨_,ok1.mono s23,by rw[qx];exact λw H' s' d'=>⟨s',d'⟩⟩
      rw[hxe]at hh;exact thn hh λx' s4 ⟨w,H',I4,rw4,s34,d4⟩=>⟨[some v],H',w,rfl,I4,s23.trans s34,rw4,d4⟩
    |exc c=>simp only[qx]at hF';cases hF'
    |bad=>simp only[qx]at hF';cases hF'
  |false =>
    rw[if_neg Bool.false_ne_true];simp only[R.bind,q_v,if_false]at hF';have eo:o=none:=by injection hF' with h;exact h.symm
    exact⟨eo,[some v],H3,rfl,I3,s23⟩
 rcases hifs with ⟨e1,e2⟩|⟨c',e1⟩
 ·subst e1;subst e2;exact wpAny_tests_nil (elt_go s2 H2 true I2 (Same.refl _) (by simp only[evT]))
 ·subst e1;refine wpAny_tests_one ?_;cases qt:evT C y (.val d::δ) with
  |ok t =>
    have hh:=hc c' rfl pins s2 (some v::σ) H2 (λt' H'=>t'=t/\Same H2 H') I2 ⟨_,ok1,by rw[qt];exact λH' s'=>⟨rfl,s'⟩⟩
    rw[hxe]at hh;refine thn hh λt' s3 ⟨H3,I3,e3,s23⟩=>?_;subst e3;exact elt_go s3 H3 t' I3 s23 qt
  |exc c=>rw[qt]at hF';cases hF'
  |bad=>rw[qt]at hF';cases hF'
def REF(B:Bs)(C:Cn)(XX:Nat->Hp->Prop)(x:E):TE:=λσ H Q=>∃δ,Sok B σ H δ/\(match ev C x δ with
 |.ok d=>∀D ds xs H1,d=ds->Same H H1->H1 D=none->OwnO B H1 ds xs->Q (.ref D) (upd H1 D xs)
 |.exc c=>XX c H
 |.bad=>False)
theorem REF.of{e:Expr}(h:PE X e (REF B C XX x))(hl:∀δ d,ev C x δ=.ok d->∃ds,d=.list ds):PE X e (RE B C XX x) :=
 PE.imp h λσ H Q ⟨δ,ok,k⟩=>by
  refine⟨δ,ok,?_⟩;cases q:ev C x δ with
  |ok d =>
   rw[q]at k;intro D ds xs H1 e s1 hD dn;refine k _ _ (s1.trans (JBH hD)) ?_;subst e;obtain⟨ys,rfl⟩:=hl δ _ q;exact(OwnO.mono (JBH hD) _ xs dn).den JAG
  |exc c=>rw[q]at k;exact k
  |bad=>rw[q]at k;exact k
theorem JRw(g:Gk X B C CX XX G)(h:PA X es (RA B C XX x))(hl:cnt x<=1000):PE X (.List es pos) (REF B C XX (.lst x)) :=
 PE.imp (JH6 h) λσ H Q ⟨δ,ok,k⟩=>by
  simp only[ev]at k;refine⟨δ,ok,?_⟩;cases q:evA C x δ with
  |ok ds =>
   rw[q]at k;intro vs H1 s1 d1;have e1:=DenL.len ds vs d1;have e2:=JBq x δ ds q;exact⟨by rw[sizeLine_eq];omega,λp hp=>k p _ (.lst vs) H1 rfl s1 hp d1⟩
  |exc c=>rw[q]at k;exact k
  |bad=>rw[q]at k;exact k.elim
theorem JGL[Cool G](g:Gk X B C CX XX G){sc:Scope}{k:Nat}(b:BlkOk X sc xs)(hi:PI X target iter (RI B C XX z))(hs:∀v,foldedSetIterable iter X.env v=pure v)
  (hrun:∀Cc fp s0 H0 σ δ,JCl (JA0 X sc Cc (xs++mask xs 0 X.N) fp s0 H0) B σ xs.length δ target elt ifs (itemF C k x y δ))
  {pins:Pq}{s:Shared}{σ:St}{H:Hp}{Q:VK}{pos':Pos}{use:Option (Value->Sem Unit)}{Q':Vq}(I:Inv X pins σ H s) (h:REF B C XX (.cmpr k x z y) σ H Q)
  (fin:∀(D Cc:Addr) (s':Shared) (m:Mq) (H':Hp),s'.heap.Ns Cc m->Inv X pins σ H' s'->Q (.ref D) H'->H' Cc=none->Cc≠X.env.locals->X.s₀.heap.objs.size<=Cc ->
    (∀x c,X.env.cells.lookup x=some c->c≠Cc)->(∀p∈X.pn++pins,p.1≠Cc)->compPost (model X.prog X.w) X.A X.xe use Q' (.ref D) Cc (.ok .next) s') :
  wpAny (model X.prog X.w) X.A (comprehension (.ListComp elt [⟨target,iter,ifs,0⟩] sc pos) sc X.env pos' (newList []) false (eval iter X.env) use) Q' X.xe s:=by
 obtain⟨δ,ok,kk⟩:=h;simp only[ev]at kk;cases q:evI C z δ with
 |ok ds =>
  simp only[q,R.bind]at kk
  split at kk
  · rename_i d hd
    split at hd
    · rename_i hlen
      cases qz:JBM (itemF C k x y δ) ds with
      |ok zs =>
       have qz':=qz;unfold itemF at qz';simp only[R.bind]at qz';rw[qz']at hd;have hd':PyData.list zs=d:=by injection hd
       refine JIm g b hi hs (λCc fp s0 H0=>hrun Cc fp s0 H0 σ δ) I ok q hlen qz ?_;intro D Cc s' m H3 yv hn J sm hD dn h1 h2 h3 h4 h5;exact fin D Cc s' m _ hn J (kk D _ (.lst yv) H3 hd'.symm sm hD dn) h1 h2 h3 h4 h5
      |exc c=>exact(JCI qz).elim
      |bad=>unfold itemF at qz;simp only[R.bind]at qz;rw[qz]at hd;cases hd
    · cases hd
  · rename_i c hd
    exfalso
    split at hd
    · cases qz:JBM (itemF C k x y δ) ds with
      |ok zs=>unfold itemF at qz;simp only[R.bind]at qz;rw[qz]at hd;cases hd
      |exc c=>exact(JCI qz).elim
      |bad=>unfold itemF at qz;simp only[R.bind]at qz;rw[qz]at hd;cases hd
    · cases hd
  · exact kk.elim
 |exc c =>
  simp only[q,R.bind]at kk;refine wpAny_comprehension_free rfl hs (b.clos I.ok) b.kind b.loc (wpAny_mono (hi pins s σ H (λ_ _=>False) I ⟨δ,ok,by rw[q];exact kk⟩) (λxv s₁ h₁=>wpAny_mono h₁ (λitv s₂ h₂=>?_) (λ_ _ e=>e)) (λ_ _ e=>e))
  obtain⟨_,_,_,_,_,_,_,_,_,_,f⟩:=h₂;exact f.elim
 |bad=>simp only[q,R.bind]at kk
theorem JFi[Cool G](g:Gk X B C CX XX G){sc:Scope}{k:Nat}(b:BlkOk X sc xs)(hi:PI X target iter (RI B C XX z))(hs:∀v,foldedSetIterable iter X.env v=pure v)
  (hrun:∀Cc fp s0 H0 σ δ,JCl (JA0 X sc Cc (xs++mask xs 0 X.N) fp s0 H0) B σ xs.length δ target elt ifs (itemF C k x y δ)) :
  PE X (.ListComp elt [⟨target,iter,ifs,0⟩] sc pos) (REF B C XX (.cmpr k x z y)):=by
 intro pins s σ H Q I h;rw[eval_ListComp];refine JGL (use:=none) g b hi hs hrun I h ?_;intro D Cc s' m H' hn J hq h1 h2 h3 h4 h5;refine⟨m,hn,λh' hsb=>?_⟩;have J':=J.turned (h':=h') (t':=s'.toks) (it:=Cc) (λb o hb e=>(hsb.2 b hb).trans e) h1 h2 (.inr h3) h4 h5;exact⟨.ref D,H',J',rfl,hq⟩
theorem JKU[Cool G](g:Gk X B C CX XX G){sc:Scope}{k i:Nat}(b:BlkOk X sc xs)(hi:PI X target iter (RI B C XX z))(hs:∀v,foldedSetIterable iter X.env v=pure v)
  (hrun:∀Cc fp s0 H0 σ δ,JCl (JA0 X sc Cc (xs++mask xs 0 X.N) fp s0 H0) B σ xs.length δ target elt ifs (itemF C k x y δ))
  (hsw:swapsWith (.ListComp elt [⟨target,iter,ifs,0⟩] sc pos) (some (.Name nm px)) spos.line X.env=pure true) (hnd:X.N.Nodup) (hN:X.N[i]? = some nm) (hloc:X.env.scope.names.lookup nm=some .local) :
  PS X (.Assign [.Name nm px] (.ListComp elt [⟨target,iter,ifs,0⟩] sc pos) spos) (tAsg (REF B C XX (.cmpr k x z y)) (JFA i)):=by
 intro pins s σ H D I h;rw[exec_Assign_Name_used _ _ _ _ hsw];refine q_b (wpAny_standAt (q_b ?_));show wpAny _ _ (do let _<-comprehension (.ListComp elt [⟨target,iter,ifs,0⟩] sc pos) sc X.env _ (newList []) false (eval iter X.env) (some (assign (.Name nm px) X.env))) _ _ s
 refine q_b (wpAny_mono (JGL (use:=some (assign (.Name nm px) X.env)) (Q':=λ_ s'=>SP X pins D .next s') g b hi hs hrun I h ?_) (λ_ s' hq=>q_e (q_e hq)) λ_ _ e=>e);intro Da Cc s' m H' hn J hq h1 h2 h3 h4 h5;show wpAny _ _ (assign (.Name nm px) X.env (.ref Da)) _ _ s';refine wpAny_assign_Name (JEz J hnd hN (.inl hloc) (v:=.ref Da) rfl (λs2 J2 hch=>?_) (.inr hloc));obtain⟨a,sb,ha⟩:=hch;have hne:Cc≠a:=by
  rcases ha with z|z
  · rw[z];exact h2
  · exact λe=>h4 nm a z e.symm
 refine⟨m,hn.sameBut sb hne,λh' hsb=>?_⟩;exact⟨_,H',J2.turned (h':=h') (t':=s2.toks) (it:=Cc) (λb o hb e=>(hsb.2 b hb).trans e) h1 h2 (.inr h3) h4 h5,hq⟩
end
theorem JK4{sc:Scope}(hk:X.env.scope.kind=.function)(hn:X.env.scope.names=names)(hN:X.N=N)(hs:sc.kind=.function)(h:JB5 names sc.names xs N=true):BlkOk X sc xs:=by
 subst hn;subst hN;unfold JB5 at h;simp only[q_i,List.all_eq_true]at h;obtain⟨⟨⟨⟨h1,h2⟩,h3⟩,h4⟩,h5⟩:=h;refine⟨hs,λy hy=>?_,λy hy hl=>?_,λn hm=>?_,λx hx=>?_,λy hy hx=>?_,λi hi hv=>?_,of_decide_eq_true h5⟩
 ·have:=(h1 y hy).1.1;intro e;rw[e]at this;simp at this
 ·have:=(h1 y hy).1.2;rw[hl]at this;simpa using this
 ·have:=(h1 (n,.free) hm).2;simpa[PySem.Env.kindOf] using this
 ·simpa using h2 x hx
 ·have:=h3 y hy;simp only[Bool.or_eq_true,bne_iff_ne,ne_eq]at this;rcases this with e|e
  ·exact absurd (by simpa using e) hx
  ·exact e
 ·have:=h4 i (List.mem_range.mpr hi);unfold Vis at hv;rw[JAo hk]at hv;rcases hv with e|e|e<;>(rw[e]at this;simp[vis]at this)
section
variable{X:Cx}{B:Bs}{C:Cn}{CX:CXT}{XX:Nat->Hp->Prop}{G:List (Str×GK)}{pos p:Pos}{names:Nq}{N:List Str}{n:Nat}
theorem allA(g:Gk X B C CX XX G)(ih:∀e x,JAL G n false names N e=some x->PE X e (RE B C XX x)):∀ {es:List Expr}{x:E},JAM (JAL G n false names N) es=some x->PA X es (RA B C XX x)
 | [],x,h=>by unfold JAM at h;cases h;exact JP5
 |e::es,x,h=>by
  unfold JAM at h;obtain⟨a,h1,h⟩:=q_a.mp h;obtain⟨b,h2,h⟩:=q_a.mp h;cases h;exact JK5 g (ih e a h1) (allA g ih h2) (JAU h1 es X.env)
theorem JMO(g:Gk X B C CX XX G)(ih:∀e x,JAL G n false names N e=some x->PE X e (RE B C XX x)/\PT X e (RT B C XX x)):∀ {es:List Expr}{x:E},JA1 .and (JAL G n false names N) es=some x ->
  PE X (.BoolOp .And es pos) (RE B C XX x)/\PW X (.BoolOp .And es pos) (RT B C XX x)
 | [],x,h=>by unfold JA1 at h;cases h
 | [e],x,h=>by
  unfold JA1 at h;exact⟨JMD (ih e x h).1,JMr (ih e x h).2⟩
 |e::e'::es,x,h=>by
  unfold JA1 at h;obtain⟨a,h1,h⟩:=q_a.mp h;obtain⟨b,h2,h⟩:=q_a.mp h;cases h;obtain⟨q1,q2⟩:=JMO g ih h2;exact⟨s_and g (ih e a h1).1 q1,w_and g (ih e a h1).2 q2⟩
theorem JRV(g:Gk X B C CX XX G)(ih:∀e x,JAL G n false names N e=some x->PE X e (RE B C XX x)/\PT X e (RT B C XX x)):∀ {es:List Expr}{x:E},JA1 .or (JAL G n false names N) es=some x ->
  PE X (.BoolOp .Or es pos) (RE B C XX x)/\PW X (.BoolOp .Or es pos) (RT B C XX x)
 | [],x,h=>by unfold JA1 at h;cases h
 | [e],x,h=>by
  unfold JA1 at h;exact⟨JMD (ih e x h).1,JPh (ih e x h).2⟩
 |e::e'::es,x,h=>by
  unfold JA1 at h;obtain⟨a,h1,h⟩:=q_a.mp h;obtain⟨b,h2,h⟩:=q_a.mp h;cases h;obtain⟨q1,q2⟩:=JRV g ih h2;exact⟨s_or g (ih e a h1).1 q1,w_or g (ih e a h1).2 q2⟩
theorem JA3{x:Str}{k:GK}(h:glob G names x=some k):JAN x=false/\names.lookup x=some .globalImplicit/\G.lookup x=some k:=by
 unfold glob at h
 split at h
 ·cases h
 ·rename_i hb
  split at h
  ·rename_i hg;exact⟨by simpa using hb,hg,h⟩
  ·cases h
theorem JEY(hn:X.env.scope.names=names)(h:vis (names.lookup x)=true):Vis X.env.scope x:=by
 unfold Vis;rw[hn];cases q:names.lookup x with
 |none=>rw[q]at h;cases h
 |some k=>cases k<;>simp_all [vis]
theorem JCV(hn:X.env.scope.names=names)(h:names.lookup x=some .globalImplicit):Gl X x:=by
 show X.env.scope.names.lookup x=_;rw[hn];exact h
theorem JJd{d d' r:D}(h:cmpD op d d'=.ok r):∃k,r=.bool k:=by
 cases op<;>simp only[cmpD]at h<;>(repeat' split at h)<;>first|(cases h;exact⟨_,rfl⟩)|cases h
theorem JFq{d:D}(h:ev C (.cmp op x y) δ=.ok d):∃k,d=.bool k:=by
 simp only[ev]at h;cases q:ev C x δ with
 |ok dx =>
  cases q2:ev C y δ with
  |ok dy=>rw[q,q2]at h;exact JJd h
  |exc c=>rw[q,q2]at h;cases h
  |bad=>rw[q,q2]at h;cases h
 |exc c=>rw[q]at h;cases h
 |bad=>rw[q]at h;cases h
end
end VI
end
section
namespace VI
open PySem PySem.Spec PyProof.Rows L2
section
variable{X:Cx}{B:Bs}{C:Cn}{CX:CXT}{XX:Nat->Hp->Prop}{G:List (Str×GK)}{a b c:Expr}{x y z:E}{pos p:Pos}
theorem JP7(n d:Nat)(o:Option Int):sI n d o=HT.sIx n d o:=by cases o<;>rfl
theorem JEL{e:Option Expr}{o:Option Int}(h:JCo e=some o):∃t,PO X e t/\∀σ H Q,Q o H->t σ H Q:=by
 unfold JCo at h
 split at h
 ·cases h;exact⟨_,JHD,λσ H Q q=>q⟩
 ·cases h;exact⟨_,JFd JFJ,λσ H Q q=>⟨_,rfl,q⟩⟩
 ·cases h;exact⟨_,JFd (JSD JLg JFJ),λσ H Q q=>⟨_,rfl,_,rfl,q⟩⟩
 ·cases h
theorem DenL.drop:∀(n:Nat) (ds:List D) (vs:List V),DenL B H ds vs->DenL B H (ds.drop n) (vs.drop n)
 |0,ds,vs,h=>h
 |n+1,[],vs,h=>by simp only[DenL]at h;subst h;simp only[List.drop_nil,DenL]
 |n+1,d::ds,vs,h=>by
  simp only[DenL]at h;obtain⟨v,r,e,q,l⟩:=h;subst e;exact DenL.drop n ds r l
theorem DenL.take:∀(n:Nat) (ds:List D) (vs:List V),DenL B H ds vs->DenL B H (ds.take n) (vs.take n)
 |0,ds,vs,h=>by simp only[List.take_zero,DenL]
 |n+1,[],vs,h=>by simp only[DenL]at h;subst h;simp only[List.take_nil,DenL]
 |n+1,d::ds,vs,h=>by
  simp only[DenL]at h;obtain⟨v,r,e,q,l⟩:=h;subst e;simp only[List.take_succ_cons,DenL];exact⟨v,_,rfl,q,DenL.take n ds r l⟩
theorem DenL.cut(h:DenL B H ds vs)(lo hi:Option Int):DenL B H (cutD ds lo hi) (cutV vs lo hi):=by
 unfold cutD cutV;have e:=DenL.len _ _ h;simp only[JP7,e];exact DenL.take _ _ _ (DenL.drop _ _ _ h)
theorem JEd{lo hi:Option Int}(h:HT.sIx xs.length 0 lo=0/\HT.sIx xs.length xs.length hi=xs.length):cutD xs lo hi=xs:=by
 unfold cutD;simp only[JP7,h.1,h.2];simp
theorem JBE{H:Hp}{q:Addr}{o:HO}(h:H q=none):Same H (upd H q o):=λb u e=>by rw[JAH (JAb e h)];exact e
theorem JIc:∀ {vs:List V}{us:List Value},Vals vs us->Vals vs.reverse us.reverse
 | [],us,h=>by cases h;exact .nil
 |v::vs,us,h=>by
  cases h with
  |cons r1 r2 =>
   simp only[List.reverse_cons];exact(JIc r2).append (.cons r1 .nil)
theorem JIM:∀(ds:List D) (vs:List V),DenL B H ds vs->DenL B H ds.reverse vs.reverse
 | [],vs,h=>by simp only[DenL]at h;subst h;simp only[List.reverse_nil,DenL]
 |d::ds,vs,h=>by
  simp only[DenL]at h;obtain⟨v,r,e,q,l⟩:=h;subst e;simp only[List.reverse_cons];refine DenL.append _ _ _ _ (JIM ds r l) ?_;simp only[DenL];exact⟨v,[],rfl,q,rfl⟩
theorem JD8(its:List Value):slicePick its.toArray none none (some (-1))=its.reverse.toArray:=by
 have hr:sliceRange ((its.length:Int) - 1) (-1) (-1)=(List.range its.length).reverse:=by
  unfold sliceRange;have hc:(if (-1:Int) > 0 then (if (its.length:Int) - 1 < -1 then (-1 - ((its.length:Int) - 1) + -1 - 1) / -1 else 0) else (if (its.length:Int) - 1 > -1 then ((its.length:Int) - 1 - -1 - -1 - 1) / (-(-1)) else 0)).toNat=its.length:=by
   rw[if_neg (by decide)]
   by_cases h:(its.length:Int) - 1 > -1
   ·rw[if_pos h];simp
   ·rw[if_neg h];omega
  simp only[hc];refine List.ext_getElem (by simp) λi h1 h2=>?_
  simp at h1;simp[List.getElem_reverse];omega
 have hp:=pick_run its.toArray 0 its.length;simp only[Nat.zero_add,List.map_id',List.drop_zero,List.take_length]at hp;unfold slicePick;have hb:sliceBounds none none (some (-1)) its.toArray.size=((its.length:Int) - 1, -1, -1):=by
  simp[sliceBounds]
 rw[hb];simp only;rw[hr,List.filterMap_reverse,hp]
theorem s_rev(g:Gk X B C CX XX G)(hs:JHd i=true)(ha:PE X a (RE B C XX x)):PE X (.Subscript a i pos) (RE B C XX (.fn1 .rev x)):=by
 unfold JHd at hs
 split at hs
 ·rename_i j p1 p2 p3;intro pins s σ H Q I ⟨δ,ok,k⟩;simp only[ev]at k;refine Subscript_ (thn (ha pins s σ H (λv H1=>∃q us ds,v=.ref q/\SqL X.K H1 q us/\Same H H1/\DenL B H1 ds us/\KE B XX (.ok (.list ds.reverse)) H1 Q) I ?_) λv s1 ⟨x1,H1,I1,r1,q,us,ds,e1,sq,sm,dn,k1⟩=>?_)
  ·refine RE.of (W:=λr H=>KE B XX r H Q) ok (λ_ _ z=>z) (λ_ z=>z) k λd v H1 s1 d1 h1=>?_;cases d<;>first|exact fF h1|skip
   simp only[Den]at d1;obtain⟨q,us,e1,sq,l⟩:=d1;exact⟨q,us,_,e1,g.K▸sq,s1,l,KE.mono g s1 h1⟩
  ·subst e1;cases r1;obtain⟨its,rv,pl,hz⟩:=I1.list sq;obtain⟨ts,ps,qs⟩:=JEL (X:=X) (show JCo (some (.UnaryOp .USub (.Constant (.int 1) j p1) p2))=some (some (-1)) from rfl);refine wpAny_Slice ?_;rw[evalPart_none];refine q_e ?_;refine q_e ?_;refine thn (ps pins s1 σ H1 (λst H2=>st=some (-1)/\H2=H1) I1 (qs _ _ _ ⟨rfl,rfl⟩)) λvst s2 ⟨st,H2,I2,pst,e2,e3⟩=>?_;subst e2;subst e3;have I3:Inv X pins σ H2 { s2 with heap:=s2.heap.push { cls:=.type "slice",data:=.fields #[Value.none,Value.none,vst] } }:=I2.kept (t':=s2.toks) λb ob q=>q_c _ q
   obtain⟨its2,rv2,pl2,hz2⟩:=I3.list sq;have hl:=rv2.length;refine tail_any (ops:=[.ref q,.ref s2.heap.objs.size]) (T:="list") pl2.isList.typeIs list_getitem_lookup ?_ (by with_unfolding_all rfl)
   refine wpAny_getItem_list_slice (lo:=none) (hi:=none) (st:=some (-1)) pl2.isList (Heap.IsSliceOf.new ..) .none .none pst (by decide) ?_ (by rw[q_f,<-hl];exact hz2)
   rw[JD8];refine⟨.ref _,_,I3.lnew (t':=s2.toks) (JIc rv2) (by rw[List.length_reverse];exact hz2),rfl,?_⟩
   have hf:=I3.fresh;have sm2:Same H2 (upd H2 (s2.heap.push { cls:=.type "slice",data:=.fields #[Value.none,Value.none,vst] }).objs.size (.lst us.reverse)):=JBE hf;refine k1 _ _ sm2 ?_;simp only[Den];exact⟨_,_,rfl,SqL.of JAG,DenL.mono sm2 _ _ (JIM _ _ dn)⟩
 ·cases hs
theorem JNx(g:Gk X B C CX XX G){lo hi:Option Int}(hs:sliceOf i=some (lo,hi))(ha:PE X a (RE B C XX x)):PE X (.Subscript a i pos) (RE B C XX (.fn1 (.slice lo hi) x)):=by
 unfold sliceOf at hs
 split at hs
 ·rename_i l h p2;obtain⟨l',h1,hs⟩:=q_a.mp hs;obtain⟨h',h2,hs⟩:=q_a.mp hs;cases hs;obtain⟨tl,pl,ql⟩:=JEL (X:=X) h1;obtain⟨th,ph,qh⟩:=JEL (X:=X) h2;refine PE.imp (JGR (SlR.or (SlR.or JLH JIR) JIy) ha pl ph) λσ H Q ⟨δ,ok,k⟩=>?_;simp only[ev]at k;refine RE.of (W:=λr H=>KE B XX r H Q) ok (λ_ _ z=>z) (λ_ z=>z) k λd v H1 s1 d1 h1=>?_;refine ql _ _ _ (qh _ _ _ ?_);have h1:=KE.mono g s1 h1;cases d<;>first|exact fF h1|skip
  ·rename_i ds;simp only[Den]at d1;obtain⟨q,vs,e,sq,l⟩:=d1;refine .inr ⟨q,vs,e,g.K▸sq,λp' hp=>?_⟩;have sm:Same H1 (upd H1 p' (.lst (cutV vs lo hi))):=JBE hp;refine h1 _ _ sm ?_;simp only[Den];exact⟨p',_,rfl,SqL.of JAG,DenL.mono sm _ _ (DenL.cut l lo hi)⟩
  ·rename_i ds;simp only[Den]at d1;obtain⟨q,vs,e,sq,l⟩:=d1;have el:=DenL.len _ _ l
   by_cases hw:HT.sIx vs.length 0 lo=0/\HT.sIx vs.length vs.length hi=vs.length
   ·refine .inl (.inr ⟨q,vs,e,g.K▸sq,hw,?_⟩);refine h1 _ _ (Same.refl H1) ?_;rw[JEd (by rw[el];exact hw)]
    subst e;simp only[Den];exact⟨q,vs,rfl,sq,l⟩
   ·refine .inl (.inl ⟨q,vs,e,g.K▸sq,hw,λp' hp=>?_⟩);have sm:Same H1 (upd H1 p' (.tup (cutV vs lo hi))):=JBE hp;refine h1 _ _ sm ?_;simp only[Den];exact⟨p',_,rfl,SqT.of JAG,DenL.mono sm _ _ (DenL.cut l lo hi)⟩
 ·cases hs
theorem JQb(g:Gk X B C CX XX G)(ho:o1Of ty=some o)(hf:JBF ty=some f)(hg:Gl X f)(hl:G.lookup f=some (.ty ty))(hb:JAN f=false)(ha:PE X a (RE B C XX x))
  (he:starEach [a] X.env=[(false,eval a X.env)]):PE X (.Call (.Name f p) [a] [] pos) (RE B C XX (.fn1 o x)):=by
 have key:∀ {T:String}{r:List V->Hp->VK->Prop},JBm X (.type T) r->bootBuiltins f=some (.type T) ->
    (∀d v H Q,Den B H d v->KE B XX (op1D o d) H Q->r [v] H Q)->PE X (.Call (.Name f p) [a] [] pos) (RE B C XX (.fn1 o x)):=λ{T r} hc hv hr=>by
  refine PE.imp (JCT (es:=[]) hc hg (g.ty f ty hl) hv (JBG ha JBp he) (JAE hb).2.2 (JAE hb).1 he rfl) λσ H Q ⟨δ,ok,k⟩=>?_;simp only[ev]at k;refine RE.of (W:=λr H=>KE B XX r H Q) ok (λ_ _ z=>z) (λ_ z=>z) k λd v H1 s1 d1 h1=>?_;exact hr d v H1 Q d1 (KE.mono g s1 h1)
 cases ty<;>simp only[o1Of,q_j,reduceCtorEq]at ho
 ·subst ho;simp only[JBF,q_j]at hf;subst hf;refine key JEi (by decide +kernel) λd v H Q dn k=>?_
  cases d<;>first|exact fF k|skip
  · simp only[Den]at dn
    obtain⟨q,vs,e,sq,l⟩:=dn;subst e;refine⟨q,vs,rfl,.inl (g.K▸sq),λp' hp=>?_⟩;have sm:Same H (upd H p' (.lst vs)):=JBE hp;refine k _ _ sm ?_;simp only[Den];exact⟨p',_,rfl,SqL.of JAG,DenL.mono sm _ _ l⟩
  · simp only[Den]at dn
    obtain⟨q,vs,e,sq,l⟩:=dn;subst e;refine⟨q,vs,rfl,.inr (g.K▸sq),λp' hp=>?_⟩;have sm:Same H (upd H p' (.lst vs)):=JBE hp;refine k _ _ sm ?_;simp only[Den];exact⟨p',_,rfl,SqL.of JAG,DenL.mono sm _ _ l⟩
 ·subst ho;simp only[JBF,q_j]at hf;subst hf;refine key JEF (by decide +kernel) λd v H Q dn k=>?_
  cases d<;>first|exact fF k|skip
  · simp only[Den]at dn
    obtain⟨q,vs,e,sq,l⟩:=dn;subst e;refine⟨q,vs,rfl,.inl ⟨g.K▸sq,λp' hp=>?_⟩⟩;have sm:Same H (upd H p' (.tup vs)):=JBE hp;refine k _ _ sm ?_;simp only[Den];exact⟨p',_,rfl,SqT.of JAG,DenL.mono sm _ _ l⟩
  · have dn':=dn
    simp only[Den]at dn;obtain⟨q,vs,e,sq,l⟩:=dn;subst e;exact⟨q,vs,rfl,.inr ⟨g.K▸sq,KE.ok k dn'⟩⟩
theorem s_pow{i j:Nat}{u v:Int}(h0:0<=u)(h1:u<=100)(h2:0<=v)(h3:v<=20):PE X (.BinOp (.Constant (.int u) i p1) .Pow (.Constant (.int v) j p2) pos) (RE B C XX (.cint (u ^ v.toNat))) :=
 PE.imp (JSH JQR JFJ JFJ) λσ H Q ⟨δ,ok,k⟩=>by
  simp only[ev]at k;exact⟨u,v,rfl,rfl,⟨h2,by omega,by omega⟩,KE.ok k (by simp only[Den])⟩
theorem JHX:OpR X (compareOp .IsNot) (λv u H Q=>∃c d,v=.bl c/\u=.bl d/\Q (.bl (!(c==d))) H):=by
 intro pins s σ H v u w t Q I rx ry ⟨c,d,e1,e2,q⟩;subst e1;subst e2;cases rx;cases ry;exact isnot_bool ⟨.bl _,H,I,rfl,q⟩
theorem JQd(g:Gk X B C CX XX G){j:Nat}{k:Bool}(ha:PE X a (RE B C XX x)):PE X (.Compare a [.IsNot] [.Constant (.bool k) j pos'] pos) (RE B C XX (.isnB x k)) :=
 PE.imp (JFj JHX ha JJJ rfl) λσ H Q ⟨δ,ok,kk⟩=>by
  simp only[ev]at kk;refine RE.of (W:=λr H=>KE B XX r H Q) ok (λ_ _ z=>z) (λ_ z=>z) kk λd v H1 s1 d1 h1=>?_;cases d<;>first|exact fF h1|skip
  rename_i t;simp only[Den]at d1;exact⟨t,k,d1,rfl,KE.ok (KE.mono g s1 h1) (by simp only[Den])⟩
theorem JGi(g:Gk X B C CX XX G){j:Nat}{k:Bool}(ha:PE X a (RE B C XX x)):PT X (.Compare a [.IsNot] [.Constant (.bool k) j pos'] pos) (RT B C XX (.isnB x k)) :=
 PT.imp (JFc JHX ha JJJ rfl) λσ H Q ⟨δ,ok,kk⟩=>by
  simp only[evT]at kk;refine RE.of (W:=λr H=>KB XX r H Q) ok (λ_ _ z=>z) (λ_ z=>z) kk λd v H1 s1 d1 h1=>?_;cases d<;>first|exact fF h1|skip
  rename_i t;simp only[Den]at d1;exact⟨t,k,d1,rfl,!(t==k),rfl,h1 H1 s1⟩
theorem JDt:∀ {ys:List D}{d:D},allD ys=.ok d->∃bs:List Bool,ys=bs.map PyData.bool/\d=.bool (bs.all id)
 | [],d,h=>by simp only[allD]at h;cases h;exact⟨[],rfl,rfl⟩
 |y::r,d,h=>by
  cases y<;>simp only[allD,reduceCtorEq]at h;rename_i b
  split at h
  ·rename_i c e;cases h;obtain⟨bs,h1,h2⟩:=JDt e;refine⟨b::bs,by rw[h1];rfl,?_⟩
   simp only[PyData.bool.injEq]at h2;simp only[List.all_cons,id,h2]
  ·cases h
theorem JKF:∀ {ys:List D}{c:Nat},allD ys≠.exc c
 | [],c=>by simp only[allD];intro h;cases h
 |y::r,c=>by
  cases y<;>simp only[allD]<;>first|(intro h;cases h;done)|skip
  split<;>(intro h;cases h)
theorem JDx:∀ {bs:List Bool}{vs:List V},DenL B H (bs.map PyData.bool) vs->vs=bs.map V.bl
 | [],vs,h=>by simpa only[List.map_nil,DenL] using h
 |b::bs,vs,h=>by
  simp only[List.map_cons,DenL,Den]at h;obtain⟨v,r,e,q,l⟩:=h;subst e;subst q;rw[JDx l];rfl
theorem JDp:∀ {bs:List Bool}{us:List Value},Vals (bs.map V.bl) us->us=bs.map Value.bool
 | [],us,h=>by cases h;rfl
 |b::bs,us,h=>by
  cases h with
  |cons r1 r2 =>
   cases r1;rw[JDp r2];rfl
theorem all_range(bs:List Bool):((List.range bs.length).all λi=>bs.getD i false)=bs.all id:=by
 rw[Bool.eq_iff_iff];simp only[List.all_eq_true,List.mem_range,id];constructor
 ·intro h b hb;obtain⟨i,hi,e⟩:=List.getElem_of_mem hb;have:=h i hi;rw[List.getD_eq_getElem?_getD,q_q hi]at this;simpa[e] using this
 ·intro h i hi;rw[List.getD_eq_getElem?_getD,q_q hi];exact h _ (List.getElem_mem hi)
theorem JIB[Cool G](g:Gk X B C CX XX G):JBm X (.builtin "all") (λvs H Q=>∃ds,DenL B H ds vs/\KE B XX (bltD .all ds) H Q):=by
 intro pins s σ H vs us Q I r ⟨ds,dn,k⟩
 match ds,dn,k with
 | [.list ys],dn,k =>
  simp only[DenL,Den]at dn;obtain⟨v,r1,e,⟨a,xs,e1,hq,dl⟩,e2⟩:=dn;subst e2;subst e1;subst e;cases r with
  |cons ra rb =>
   cases rb;cases ra;rw[<-g.K]at hq;obtain⟨its,rv,p,hz⟩:=I.list hq;simp only[bltD]at k;cases hk:allD ys with
   |ok d =>
    rw[hk]at k;obtain⟨bs,e1,e2⟩:=JDt hk;subst e1;subst e2;have e3:=JDx dl;subst e3;have e4:=JDp rv;subst e4;have hA:X.A.handled=none:=I.ok.hd (g.calm inferInstance);have hlt:a<s.heap.objs.size:=by
     obtain⟨o,n,ho,_⟩:=p;exact q_h ho
    refine call_all_walk (wpAny_pyIter_list p.isList ?_);have hne:a≠s.heap.objs.size:=q_l hlt;refine⟨s.heap.objs.size,_,_,_,_,_,(λi=>bs.getD i false),rfl,Walks.list (prog:=X.prog) (w:=X.w) (A:=X.A.in1) hA s.heap.objs.size a hne (bs.map Value.bool).toArray,?_,?_,?_⟩
    ·exact⟨⟨_,q_k _ rfl,rfl,rfl⟩,p.isList.at λo e=>q_c _ e⟩
    ·intro i v s' Q' E' hP hQ;simp only[List.getElem?_toArray,List.getElem?_map]at hP;obtain⟨b,hb,rfl⟩:=q_d.mp hP;refine wpAny_truthy_bool ?_;have hQ:Q' (bs.getD i false) s':=hQ;rw[List.getD_eq_getElem?_getD,hb]at hQ;exact hQ
    ·intro h' tk hk';refine⟨.bl _,H,I.kept λb o e=>hk' b o ?_ (q_c _ e),rfl,?_⟩
     ·simp only[List.mem_singleton];exact q_l (q_h e)
     ·have:((List.range (bs.map Value.bool).toArray.size).all λi=>bs.getD i false)=bs.all id:=by
       rw[q_f,q_g];exact all_range bs
      rw[this];exact KE.ok k (by simp only[Den])
   |exc c=>exact(JKF hk).elim
   |bad=>rw[hk]at k;exact k.elim
 | [],_,k=>exact fF k
 | [.none],_,k=>exact fF k
 | [.bool _],_,k=>exact fF k
 | [.int _],_,k=>exact fF k
 | [.str _],_,k=>exact fF k
 | [.tuple _],_,k=>exact fF k
 | [.dict _],_,k=>exact fF k
 |d1::d2::r,_,k=>cases d1<;>exact fF k
end
end VI
end
section
namespace VI
open PySem PySem.Spec PyProof.Rows L2
section
variable{X:Cx}{B:Bs}{C:Cn}{CX:CXT}{XX:Nat->Hp->Prop}{G:List (Str×GK)}{a b c tg:Expr}{x y z:E}{pos p:Pos}
theorem JKM(g:Gk X B C CX XX G){j:Nat}(ha:PE X a (RE B C XX x)):PT X (.Compare a [.Is] [.Constant .none j pos'] pos) (RT B C XX (.isN x false)) :=
 PT.imp (JKr (JL2 ha)) λσ H Q ⟨δ,ok,k⟩=>by
  simp only[evT]at k;refine RE.of (W:=λr H=>KB XX r H Q) ok (λ_ _ z=>z) (λ_ z=>z) k λd v H1 s1 d1 h1=>?_;exact⟨isNone d,by rw[JC0 d1],by simpa using h1 H1 s1⟩
theorem JOM(g:Gk X B C CX XX G){j:Nat}(ha:PE X a (RE B C XX x)):PT X (.Compare a [.IsNot] [.Constant .none j pos'] pos) (RT B C XX (.isN x true)) :=
 PT.imp (JKr (JIV ha)) λσ H Q ⟨δ,ok,k⟩=>by
  simp only[evT]at k;refine RE.of (W:=λr H=>KB XX r H Q) ok (λ_ _ z=>z) (λ_ z=>z) k λd v H1 s1 d1 h1=>?_;exact⟨!isNone d,by rw[JC0 d1],by simpa using h1 H1 s1⟩
theorem JJh(g:Gk X B C CX XX G){j:Nat}{k:Bool}(ha:PE X a (RE B C XX x)):PT X (.Compare a [.Is] [.Constant (.bool k) j pos'] pos) (RT B C XX (.isB x k)) :=
 PT.imp (JFc JLq ha JJJ rfl) λσ H Q ⟨δ,ok,kk⟩=>by
  simp only[evT]at kk;refine RE.of (W:=λr H=>KB XX r H Q) ok (λ_ _ z=>z) (λ_ z=>z) kk λd v H1 s1 d1 h1=>?_;cases d<;>first|exact fF h1|skip
  rename_i t;simp only[Den]at d1;exact⟨t,k,d1,rfl,t==k,rfl,h1 H1 s1⟩
end
theorem JFS{k:Nat}(δ:Env)(d:D)(h:ev C (.cmpr k x z y) δ=.ok d):∃ds,d=.list ds:=by
 simp only[ev]at h;cases q:evI C z δ with
 |ok xs =>
  simp only[q,R.bind]at h
  split at h
  ·cases qz:JBM (itemF C k x y δ) xs with
   |ok zs=>unfold itemF at qz;simp only[R.bind]at qz;rw[qz]at h;cases h;exact⟨zs,rfl⟩
   |exc c=>exact(JCI qz).elim
   |bad=>unfold itemF at qz;simp only[R.bind]at qz;rw[qz]at h;cases h
  ·cases h
 |exc c=>simp only[q,R.bind]at h;cases h
 |bad=>simp only[q,R.bind]at h;cases h
theorem JG1{a b:Expr}{k:Nat}(h:JMV a op b=some (es,k)):∃p kk j p2,a=.List es p/\op=.Mult/\b=.Constant (.int kk) j p2/\k=kk.toNat/\0<=kk/\kk<=1000/\es.length<=1000:=by
 unfold JMV at h
 split at h
 ·split at h
  ·rename_i hc;cases h;exact⟨_,_,_,_,rfl,rfl,rfl,rfl,hc.1,hc.2.1,hc.2.2⟩
  ·cases h
 ·cases h
theorem JGw{a b:Expr}{u v:Int}(h:JNs a op b=some (u,v)):∃i p j p2,a=.Constant (.int u) i p/\op=.Pow/\b=.Constant (.int v) j p2/\0<=u/\u<=100/\0<=v/\v<=20:=by
 unfold JNs at h
 split at h
 ·split at h
  ·rename_i hc;cases h;exact⟨_,_,_,_,rfl,rfl,rfl,hc.1,hc.2.1,hc.2.2.1,hc.2.2.2⟩
  ·cases h
 ·cases h
abbrev Ow:=Nat->Option Addr
open Classical in
noncomputable def hidP(H:Hp)(P:Addr->Prop):Hp:=λb=>if P b then none else H b
def ownP(O:Ow)(b:Addr):Prop:=∃i,O i=some b
noncomputable abbrev hid(H:Hp)(O:Ow):Hp:=hidP H (ownP O)
def JAR(B:Bs)(H₀ H:Hp)(O:Ow)(σ:St)(i:Nat):Option Sl->Prop
 |some (.own d)=>∃a ds xs,O i=some a/\d=ds/\σ[i]? = some (some (.ref a))/\H a=some xs/\H₀ a=none/\OwnO B (hid H O) ds xs
 |some (.val d)=>O i=none/\∃v,σ[i]? = some (some v)/\Den B (hid H O) d v
 |_=>O i=none
structure SO(B:Bs)(H₀:Hp)(σ:St)(H:Hp)(δ:Env)(O:Ow):Prop where
 len:σ.length=δ.length
 same:Same H₀ H
 inj:∀i j a,O i=some a->O j=some a->i=j
 slot:∀i,JAR B H₀ H O σ i δ[i]?
def JBe(X:Cx)(B:Bs)(XX:Nat->Hp->Prop)(Hb:Hp)(D:Ends):Fl->Prop
 |.nx δ=>∀σ H O,SO B Hb σ H δ O->D.nx σ H
 |.rt d=>∀v H,Same Hb H->Den B H d v->D.rt v H
 |.bk δ=>∀σ H O,SO B Hb σ H δ O->D.bk σ H
 |.ct δ=>∀σ H O,SO B Hb σ H δ O->D.ct σ H
 |.ex c=>XX c Hb
 |.bad=>False
def RSt(X:Cx)(B:Bs)(C:Cn)(XX:Nat->Hp->Prop)(t:S):TS:=λD σ H=>∃δ O Hb,Dm X.H₀ Hb/\SO B Hb σ H δ O/\JBe X B XX Hb D (exec C t δ)
section
variable{B:Bs}{C:Cn}{CX:CXT}{G:List (Str×GK)}
def PEs(X:Cx)(B:Bs)(C:Cn)(XX:Nat->Hp->Prop):List Expr->E->Prop
 | [],.nil=>True
 |a::r,.cons x y=>PE X a (RE B C XX x)/\PEs X B C XX r y
 |_,_=>False
structure XOk(B:Bs)(C:Cn)(CX:CXT)(G:List (Str×GK))(k:XO):Prop where
 val:∀(X:Cx) (XX:Nat->Hp->Prop),Gk X B C CX XX G->∀(e:Expr) (args:List Expr) (y:E),xRaw G X.env.scope.names false e=some (k,args)->PEs X B C XX args y->PA X args (RA B C XX y)->(∀a∈args,∀es env,starEach (a::es) env=(false,eval a env)::starEach es env)->cnt y=args.length->PE X e (RE B C XX (.xop k y))
 itr:∀(X:Cx) (XX:Nat->Hp->Prop),Gk X B C CX XX G->∀(tg e:Expr) (args:List Expr) (y:E),xRaw G X.env.scope.names true e=some (k,args)->PA X args (RA B C XX y)->(∀a∈args,∀es env,starEach (a::es) env=(false,eval a env)::starEach es env)->cnt y=args.length->PI X tg e (RI B C XX (.xop k y))
structure RO(B:Bs)(C:Cn)(CX:CXT)(G:List (Str×GK)):Prop where
 count:G.lookup (".met":Str)=some GK.opt->∀(X:Cx) (XX:Nat->Hp->Prop),Gk X B C CX XX G->∀(o a:Expr) (x y:E) (ap cp:Pos),JBQ o=false->(ap.endLine==cp.line)=true->PE X o (RE B C XX x)->PE X a (RE B C XX y)->starEach [a] X.env=[(false,eval a X.env)] ->
  PE X (.Call (.Attribute o "count" ap) [a] [] cp) (RE B C XX (.mcount x y))
 index:G.lookup (".met":Str)=some GK.opt->∀(X:Cx) (XX:Nat->Hp->Prop),Gk X B C CX XX G->∀(o a:Expr) (x y:E) (ap cp:Pos),JBQ o=false->(ap.endLine==cp.line)=true->PE X o (RE B C XX x)->PE X a (RE B C XX y)->starEach [a] X.env=[(false,eval a X.env)] ->
  PE X (.Call (.Attribute o "index" ap) [a] [] cp) (RE B C XX (.mindex x y))
 get:G.lookup (".get":Str)=some GK.opt->∀(X:Cx) (XX:Nat->Hp->Prop),Gk X B C CX XX G->∀(o a b:Expr) (x y z:E) (ap cp:Pos),JBQ o=false->(ap.endLine==cp.line)=true->PE X o (RE B C XX x)->PE X a (RE B C XX y)->PE X b (RE B C XX z) ->
  starEach [a,b] X.env=[(false,eval a X.env),(false,eval b X.env)]->starEach [b] X.env=[(false,eval b X.env)]->PE X (.Call (.Attribute o "get" ap) [a,b] [] cp) (RE B C XX (.mget x y z))
 all:G.lookup ("all":Str)=some (.blt .all)->∀(X:Cx) (XX:Nat->Hp->Prop),Gk X B C CX XX G->JBm X (.builtin "all") (λvs H Q=>∃ds,DenL B H ds vs/\KE B XX (bltD .all ds) H Q)
 rvs:G.lookup (".rvs":Str)=some GK.opt->∀(X:Cx) (XX:Nat->Hp->Prop),Gk X B C CX XX G->∀(a i:Expr) (x:E) (pos:Pos),JHd i=true->PE X a (RE B C XX x)->PE X (.Subscript a i pos) (RE B C XX (.fn1 .rev x))
structure Rare(B:Bs)(C:Cn)(CX:CXT)(G:List (Str×GK)):Prop where
 nox:∀outer H s e s',¬CX outer H s (EX B λ_ _=>False) e s'
 isi:∀(X:Cx) (XX:Nat->Hp->Prop),Gk X B C CX XX G->∀(a:Expr) (x:E) (t:Str) (ty:Ty) (p pt pos:Pos),Gl X "isinstance"->Gl X t->G.lookup ("isinstance":Str)=some GK.isi->(G.lookup t=some (.ty ty)/\JBF ty=some t\/∃c,ty=.own c/\G.lookup t=some (.cls c))->JAN t=false ->
  PE X a (RE B C XX x)->starEach [a,.Name t pt] X.env=(false,eval a X.env)::starEach [.Name t pt] X.env->PE X (.Call (.Name "isinstance" p) [a,.Name t pt] [] pos) (RE B C XX (.isi x ty))
 rep:G.lookup (".rep":Str)=some GK.opt->∀(X:Cx) (XX:Nat->Hp->Prop),Gk X B C CX XX G->∀(es:List Expr) (x:E) (k:Int) (j:Nat) (p p2 pos:Pos),PA X es (RA B C XX x)->cnt x<=1000->0<=k->k<=1000->PE X (.BinOp (.List es p) .Mult (.Constant (.int k) j p2) pos) (RE B C XX (.rep k.toNat x))
 xop:∀k:XO,G.lookup k.flag=some GK.opt->XOk B C CX G k
 rcd:G.lookup (".rec":Str)=some GK.opt->∀(X:Cx) (XX:Nat->Hp->Prop),Gk X B C CX XX G->∀(e:Expr) (q:Nat×Option Nat) (args:List Expr) (y:E),mRaw G e=some (q,args)->PEs X B C XX args y->(∀a∈args,∀es env,starEach (a::es) env=(false,eval a env)::starEach es env)->PE X e (RE B C XX (mkM q y))
 ro:RO B C CX G
theorem JCM{e:Expr}{q:(Nat×Option Nat)×List Expr}(h:mOf G e=some q):mRaw G e=some q/\G.lookup (".rec":Str)=some GK.opt:=by
 unfold mOf at h
 split at h
 ·exact⟨h,by assumption⟩
 ·cases h
theorem JHI{e:Expr}{q:(Nat×Option Nat)×List Expr}(h:mRaw G e=some q)(env:PySem.Env):∀whole,isTrue e env whole=(do let v<-whole;standAt e.pos;holding [v] (truthy v)):=by
 unfold mRaw at h
 split at h
 ·exact λ_=>rfl
 ·exact λ_=>rfl
 ·cases h
theorem JGk{it:Bool}{e:Expr}{q:XO×List Expr}(h:xOf G names it e=some q):xRaw G names it e=some q/\G.lookup q.1.flag=some GK.opt:=by
 unfold xOf at h;obtain⟨r,h1,h2⟩:=q_a.mp h
 split at h2
 ·cases h2;exact⟨h1,by assumption⟩
 ·cases h2
theorem JFU{n:Nat}:∀ {es:List Expr}{x:E},JAM (JAL G n false names N) es=some x->∀a∈es,∀r env,starEach (a::r) env=(false,eval a env)::starEach r env
 |e::es,x,h,a,ha,r,env=>by
  unfold JAM at h;obtain⟨y,h1,h⟩:=q_a.mp h;obtain⟨z,h2,h⟩:=q_a.mp h;rcases q_n.mp ha with z|ha
  ·subst z;exact JAU h1 r env
  ·exact JFU h2 a ha r env
theorem pes{n:Nat}(ih:∀e x,JAL G n false names N e=some x->PE X e (RE B C XX x)):∀ {es:List Expr}{x:E},JAM (JAL G n false names N) es=some x->PEs X B C XX es x
 | [],x,h=>by unfold JAM at h;cases h;exact trivial
 |e::r,x,h=>by
  unfold JAM at h;obtain⟨y,h1,h⟩:=q_a.mp h;obtain⟨z,h2,h⟩:=q_a.mp h;cases h;exact⟨ih e y h1,pes ih h2⟩
theorem sound(ra:Rare B C CX G):∀(n:Nat) (X:Cx) (XX:Nat->Hp->Prop) (names:Nq) (N:List Str),Gk X B C CX XX G->X.env.scope.kind=.function->X.env.scope.names=names->X.N=N->N.Nodup ->
  (∀e x,JAL G n false names N e=some x->PE X e (RE B C XX x)/\PT X e (RT B C XX x))/\(∀tg e x,JAL G n true names N e=some x->PI X tg e (RI B C XX x))
 |0,X,XX,names,N,g,hk,hn,hN,hnd=>⟨λe x h=>by simp[JAL,JAV,JAQ]at h,λtg e x h=>by simp[JAL,JAV,JAQ]at h⟩
 |n+1,X,XX,names,N,g,hk,hn,hN,hnd=>by
  obtain⟨ih,ihI⟩:=sound ra n X XX names N g hk hn hN hnd;have ihE:∀e x,JAL G n false names N e=some x->PE X e (RE B C XX x):=λe x h=>(ih e x h).1;have truthOf:∀ {e:Expr}{x:E},PE X e (RE B C XX x)->(∀whole,isTrue e X.env whole=(do let v<-whole;standAt e.pos;holding [v] (truthy v)))->(∀δ,evT C x δ=(ev C x δ).bind truth)->PE X e (RE B C XX x)/\PT X e (RT B C XX x) :=
    λh1 h2 h3=>⟨h1,JM8 g h1 h2 h3⟩
  have valOnly:∀ {e:Expr}{x:E},PE X e (RE B C XX x)->(∀δ,evT C x δ=.bad)->PE X e (RE B C XX x)/\PT X e (RT B C XX x):=λh1 h2=>⟨h1,t_bad h2⟩;have nameE:∀(b:Bool) (x:Str) (p:Pos) (y:E),xOf G names b (.Name x p)=none/\mOf G (.Name x p)=none->JAL G (n+1) b names N (.Name x p)=some y->PE X (.Name x p) (RE B C XX y)/\((∀δ,evT C y δ=(ev C y δ).bind truth)\/∀δ,evT C y δ=.bad)/\∀δ,evI C y δ=(ev C y δ).bind JAc:=by
    intro b x p y hxx h;rw[JAF hxx]at h;dsimp only[JAQ]at h
    split at h
    ·cases h
    ·rename_i hb;have hb':JAN x=false:=by simpa using hb
     split at h
     · rename_i hv
       obtain⟨i,hi,e⟩:=q_d.mp h;subst e;exact⟨s_var (by rw[hN];exact JDJ hi) (JEY hn hv) hb',(.inl λδ=>by simp only[evT,ev]),λδ=>by simp only[evI,ev]⟩
     · split at h
       ·rename_i i hg;cases h;obtain⟨_,h2,h3⟩:=JA3 hg;exact⟨s_glo g (JCV hn h2) h3 hb',(.inr λδ=>by simp only[evT]),λδ=>by simp only[evI,ev]⟩
       ·cases h
  have callE:∀(b:Bool) (f:Str) (p pos:Pos) (args:List Expr) (y:E),xOf G names b (.Call (.Name f p) args [] pos)=none/\mOf G (.Call (.Name f p) args [] pos)=none->JAL G (n+1) b names N (.Call (.Name f p) args [] pos)=some y->(∃i x,y=.call i x/\PE X (.Call (.Name f p) args [] pos) (RE B C XX y)) \/
     (b=false/\((∃i x,y=.blt i x)\/(∃a t,y=.isi a t)\/∃o a,y=.fn1 o a)/\PE X (.Call (.Name f p) args [] pos) (RE B C XX y))\/(b=true/\∃x,y=.rng x/\∀tg,PI X tg (.Call (.Name f p) args [] pos) (RI B C XX y)):=by
    intro b f p pos args y hxx h;rw[JAF hxx]at h;dsimp only[JAQ]at h
    split at h
    ·rename_i i hg;obtain⟨h1,h2,h3⟩:=JA3 hg
     split at h
     · rename_i e r
       obtain⟨x,hx,e'⟩:=q_d.mp h;subst e';obtain⟨a,ha,hx'⟩:=q_a.mp (by unfold JAM at hx;exact hx)
       exact .inl ⟨i,x,rfl,s_call g (JCV hn h2) h3 h1 (allA g ihE hx) (JAU ha r X.env) (JCB hx)⟩
     · cases h
    ·rename_i hg;obtain⟨h1,h2,h3⟩:=JA3 hg
     split at h
     · rename_i hb
       obtain⟨hb1,hb2⟩:=hb;subst hb2
       split at h
       ·rename_i a;obtain⟨x,hx,e'⟩:=q_d.mp h;subst e';obtain⟨a',ha,_⟩:=q_a.mp (by unfold JAM at hx;exact hx)
        exact .inr (.inr ⟨hb1,x,rfl,λtg=>JPP g (JCV hn h2) (g.rng _ h3) (allA g ihE hx) (JAa hx) (JAU ha [] X.env)⟩)
       ·rename_i a a2;obtain⟨x,hx,e'⟩:=q_d.mp h;subst e';obtain⟨a',ha,hr⟩:=q_a.mp (by unfold JAM at hx;exact hx)
        obtain⟨r',hr',_⟩:=q_a.mp hr;obtain⟨a2',ha2,_⟩:=q_a.mp (by unfold JAM at hr';exact hr')
        exact .inr (.inr ⟨hb1,x,rfl,λtg=>JRU g (JCV hn h2) (g.rng _ h3) (allA g ihE hx) (JAa hx) (by rw[JAU ha [a2] X.env,JAU ha2 [] X.env];rfl) (JAU ha2 [] X.env)⟩)
       ·cases h
     · cases h
    ·rename_i bl hg;obtain⟨h1,h2,h3⟩:=JA3 hg
     split at h
     · rename_i hb
       obtain⟨hb1,hb2⟩:=hb
       split at h
       ·rename_i e r;obtain⟨x,hx,e'⟩:=q_d.mp h;subst e';obtain⟨a,ha,hx'⟩:=q_a.mp (by unfold JAM at hx;exact hx)
        refine .inr (.inl ⟨hb1,.inl ⟨bl,x,rfl⟩,?_⟩);subst hb2;cases bl with
        |len=>exact JM4 g (JHL g) PySem.boot_len (JCV hn h2) h3 h1 (allA g ihE hx) (JAU ha r X.env) (JCB hx)
        |abs=>exact JM4 (id:="abs") g (JHt g) (by decide +kernel) (JCV hn h2) h3 h1 (allA g ihE hx) (JAU ha r X.env) (JCB hx)
        |all=>exact JM4 (id:="all") g (ra.ro.all h3 X XX g) (by decide +kernel) (JCV hn h2) h3 h1 (allA g ihE hx) (JAU ha r X.env) (JCB hx)
       ·cases h
     · cases h
    ·rename_i hg;obtain⟨h1,h2,h3⟩:=JA3 hg
     split at h
     · rename_i hb
       obtain⟨hb1,hb2⟩:=hb;subst hb2
       split at h
       ·rename_i a t pt
        split at h
        ·rename_i ty hgt;obtain⟨t1,t2,t3⟩:=JA3 hgt
         split at h
         · rename_i ht
           obtain⟨x,hx,e'⟩:=q_d.mp h;subst e';exact .inr (.inl ⟨hb1,.inr (.inl ⟨x,ty,rfl⟩),ra.isi X XX g a x t ty p pt pos (JCV hn h2) (JCV hn t2) h3 (.inl ⟨t3,ht⟩) t1 (ihE a x hx) (JAU hx _ X.env)⟩)
         · cases h
        ·rename_i c hgt;obtain⟨t1,t2,t3⟩:=JA3 hgt;obtain⟨x,hx,e'⟩:=q_d.mp h;subst e';exact .inr (.inl ⟨hb1,.inr (.inl ⟨x,.own c,rfl⟩),ra.isi X XX g a x t (.own c) p pt pos (JCV hn h2) (JCV hn t2) h3 (.inr ⟨c,rfl,t3⟩) t1 (ihE a x hx) (JAU hx _ X.env)⟩)
        ·cases h
       ·cases h
     · cases h
    ·rename_i ty hg;obtain⟨h1,h2,h3⟩:=JA3 hg
     split at h
     · rename_i hb
       obtain⟨hb1,hb2⟩:=hb;obtain⟨o,ho,h⟩:=q_a.mp h
       match args,h with
       | [a],h =>
        obtain⟨x,hx,e'⟩:=q_d.mp h;subst e';exact .inr (.inl ⟨hb1,.inr (.inr ⟨o,x,rfl⟩),JQb g ho hb2 (JCV hn h2) h3 h1 (ihE a x hx) (JAU hx [] X.env)⟩)
       | [],h=>cases h
       |_::_::_,h=>cases h
     · cases h
    ·cases h
  have tupE:∀(b:Bool) (es:List Expr) (k:Nat) (p:Pos) (y:E),xOf G names b (.Tuple es k p)=none/\mOf G (.Tuple es k p)=none->JAL G (n+1) b names N (.Tuple es k p)=some y->∃x,y=.tup x/\PE X (.Tuple es k p) (RE B C XX y):=by
    intro b es k p y hxx h;rw[JAF hxx]at h;dsimp only[JAQ]at h
    split at h
    ·rename_i hl;obtain⟨x,hx,e'⟩:=q_d.mp h;subst e';exact⟨x,rfl,s_tup g (allA g ihE hx) (by rw[JAa hx];exact hl)⟩
    ·cases h
  have lstE:∀(b:Bool) (es:List Expr) (p:Pos) (y:E),xOf G names b (.List es p)=none/\mOf G (.List es p)=none->JAL G (n+1) b names N (.List es p)=some y->∃x,y=.lst x/\PE X (.List es p) (RE B C XX y):=by
    intro b es p y hxx h;rw[JAF hxx]at h;dsimp only[JAQ]at h
    split at h
    ·rename_i hl;obtain⟨x,hx,e'⟩:=q_d.mp h;subst e';exact⟨x,rfl,s_lst g (allA g ihE hx) (by rw[JAa hx];exact hl)⟩
    ·cases h
  have subE:∀(b:Bool) (a i:Expr) (p:Pos) (y:E),xOf G names b (.Subscript a i p)=none/\mOf G (.Subscript a i p)=none->JAL G (n+1) b names N (.Subscript a i p)=some y->((∃x z,y=.idx x z)\/∃o x,y=.fn1 o x)/\PE X (.Subscript a i p) (RE B C XX y):=by
    intro b a i p y hxx h;rw[JAF hxx]at h;dsimp only[JAQ]at h
    split at h
    ·split at h
     · rename_i hr
       split at h
       case isFalse=>cases h
       rename_i hfl;obtain⟨x,hx,e'⟩:=q_d.mp h;subst e';exact⟨.inr ⟨_,x,rfl⟩,ra.ro.rvs hfl X XX g a i x p hr (ihE a x hx)⟩
     · obtain⟨q,hq,h⟩:=q_a.mp h
       obtain⟨x,hx,e'⟩:=q_d.mp h;subst e';exact⟨.inr ⟨_,x,rfl⟩,JNx g hq (ihE a x hx)⟩
    ·rename_i hs;obtain⟨x,hx,h⟩:=q_a.mp h;obtain⟨z,hz,h⟩:=q_a.mp h;cases h;exact⟨.inl ⟨x,z,rfl⟩,s_idx g (ihE a x hx) (ihE i z hz) (by simpa using hs)⟩
  constructor
  · intro e x h
    cases hxx:xOf G names false e with
    |some q =>
     rw[JGB hxx]at h;obtain⟨y,hy,e'⟩:=q_d.mp h;subst e';obtain⟨q1,q2⟩:=JGk hxx;exact valOnly ((ra.xop q.1 q2).val X XX g e q.2 y (by rw[hn];exact q1) (pes ihE hy) (allA g ihE hy) (JFU hy) (JAa hy)) λδ=>by simp only[evT]
    |none =>
    cases hmm:mOf G e with
    |some q =>
     rw[JGA hxx hmm]at h;obtain⟨y,hy,e'⟩:=q_d.mp h;subst e';exact truthOf (ra.rcd (JCM hmm).2 X XX g e q.1 q.2 y (JCM hmm).1 (pes ihE hy) (JFU hy)) (JHI (JCM hmm).1 X.env) λδ=>by obtain⟨z,hz⟩:=JGT q.1 y;rw[hz];simp only[evT,ev]
    |none =>
    replace hxx:xOf G names false e=none/\mOf G e=none:=⟨hxx,hmm⟩
    cases e with
    |Name nm p =>
     obtain⟨h1,h2,_⟩:=nameE false nm p x hxx h;rcases h2 with h2|h2
     · exact truthOf h1 (λ_=>rfl) h2
     · exact valOnly h1 h2
    |Constant c j p =>
     rw[JAF hxx]at h;dsimp only[JAQ]at h;cases c<;>simp only[q_j,reduceCtorEq]at h<;>subst h
     · exact valOnly s_non λδ=>by simp only[evT]
     · exact truthOf s_bl (λ_=>rfl) λδ=>by simp only[evT,ev,R.bind,truth]
     · exact valOnly s_int λδ=>by simp only[evT]
     · exact valOnly s_str λδ=>by simp only[evT]
    |Tuple es k p =>
     obtain⟨y,rfl,h1⟩:=tupE false es k p x hxx h;exact valOnly h1 λδ=>by simp only[evT]
    |List es p =>
     obtain⟨y,rfl,h1⟩:=lstE false es p x hxx h;exact valOnly h1 λδ=>by simp only[evT]
    |Subscript a i p =>
     obtain⟨⟨y,z,rfl⟩|⟨o,y,rfl⟩,h1⟩:=subE false a i p x hxx h
     · exact truthOf h1 (λ_=>rfl) λδ=>by simp only[evT,ev]
     · exact valOnly h1 λδ=>by simp only[evT]
    |BinOp a op b p =>
     rw[JAF hxx]at h;dsimp only[JAQ]at h
     split at h
     · rename_i es k hr
       split at hr
       case isFalse=>cases hr
       rename_i hz;obtain⟨p1,kk,j,p2,rfl,rfl,rfl,rfl,hr1,hr2,hr3⟩:=JG1 hr;obtain⟨y,hy,e'⟩:=q_d.mp h;subst e';exact valOnly (ra.rep hz.2 X XX g es y kk j p1 p2 p (allA g ihE hy) (by rw[JAa hy];exact hr3) hr1 hr2) λδ=>by simp only[evT]
     · split at h
       ·rename_i u v hp;obtain⟨i1,q1,i2,q2,rfl,rfl,rfl,hp1,hp2,hp3,hp4⟩:=JGw hp
        split at h
        case isFalse=>cases h
        cases h;exact valOnly (s_pow hp1 hp2 hp3 hp4) λδ=>by simp only[evT]
       ·split at h
        ·rename_i ho;obtain⟨y,hy,h⟩:=q_a.mp h;obtain⟨z,hz,h⟩:=q_a.mp h;cases h;exact valOnly (JQ0 g (ihE a y hy) (ihE b z hz)) λδ=>by simp only[evT]
        ·cases h
    |UnaryOp op a p =>
     rw[JAF hxx]at h;dsimp only[JAQ]at h;cases op<;>simp only[q_d,reduceCtorEq]at h
     · obtain⟨y,hy,e'⟩:=h
       subst e';exact⟨s_not g (ihE a y hy),JJQ g (ih a y hy).2⟩
     · obtain⟨y,hy,e'⟩:=h
       subst e';exact valOnly (s_neg g (ihE a y hy)) λδ=>by simp only[evT]
    |BoolOp op es p =>
     rw[JAF hxx]at h;dsimp only[JAQ]at h;cases op
     · obtain⟨q1,q2⟩:=JMO g ih h
       exact⟨q1,q2.pt⟩
     · obtain⟨q1,q2⟩:=JRV g ih h
       exact⟨q1,q2.pt⟩
    |Compare a ops bs p =>
     match ops,bs,h with
     | [op],[b],h =>
       rw[JAF hxx]at h;dsimp only[JAQ]at h;rw[if_neg Bool.false_ne_true]at h;have cmpd:∀(y z:E),PE X a (RE B C XX y)->PE X b (RE B C XX z)->behindInMarks op b=false->PE X (.Compare a [op] [b] p) (RE B C XX (.cmp op y z))/\PT X (.Compare a [op] [b] p) (RT B C XX (.cmp op y z)):=λy z h1 h2 hm =>
        ⟨JA6 g h1 h2 hm,JQv op (JFc (JNy g op) h1 h2 hm) (λσ H Q ⟨δ,ok,k⟩=>two g (f:=cmpD op) (λx y H dx dy h1 h2 k=>⟨dx,dy,h1,h2,k⟩) ⟨δ,ok,by simpa only[ev] using k⟩) (λδ=>by simp only[evT,ev]) λδ d h=>JFq h⟩
       cases op<;>simp only at h<;>first
        |(split at h
          · cases h
          · rename_i hm
            obtain⟨y,hy,h⟩:=q_a.mp h;obtain⟨z,hz,h⟩:=q_a.mp h;cases h;exact cmpd y z (ihE a y hy) (ihE b z hz) (by simpa using hm))
        |skip
       ·split at h
        ·obtain⟨y,hy,e'⟩:=q_d.mp h;subst e';exact⟨s_isN g (ihE a y hy),JKM g (ihE a y hy)⟩
        ·obtain⟨y,hy,e'⟩:=q_d.mp h;subst e';exact⟨s_isB g (ihE a y hy),JJh g (ihE a y hy)⟩
        ·cases h
       ·split at h
        ·obtain⟨y,hy,e'⟩:=q_d.mp h;subst e';exact⟨JOJ g (ihE a y hy),JOM g (ihE a y hy)⟩
        ·obtain⟨y,hy,e'⟩:=q_d.mp h;subst e';exact⟨JQd g (ihE a y hy),JGi g (ihE a y hy)⟩
        ·cases h
     | [],_,h=>exact JAK ((JAF hxx).symm.trans h)
     |_::_::_,_,h=>exact JAK ((JAF hxx).symm.trans h)
     | [_],[],h=>exact JAK ((JAF hxx).symm.trans h)
     | [_],_::_::_,h=>exact JAK ((JAF hxx).symm.trans h)
    |IfExp c a b p =>
     rw[JAF hxx]at h;dsimp only[JAQ]at h;rw[if_neg Bool.false_ne_true]at h;obtain⟨z,hz,h⟩:=q_a.mp h;obtain⟨y,hy,h⟩:=q_a.mp h;obtain⟨w,hw,h⟩:=q_a.mp h;cases h;exact valOnly (s_ife g (ih c z hz).2 (ihE a y hy) (ihE b w hw)) λδ=>by simp only[evT]
    |Call f args kws p =>
     cases f with
     |Name nm p2 =>
       cases kws with
       |nil =>
        rcases callE false nm p2 p args x hxx h with ⟨i,y,rfl,h1⟩|⟨_,hs,h1⟩|⟨hb,_⟩
        ·exact truthOf h1 (λ_=>rfl) λδ=>by simp only[evT,ev]
        ·rcases hs with ⟨i,y,rfl⟩|⟨y,t,rfl⟩|⟨o,y,rfl⟩
         · exact truthOf h1 (λ_=>rfl) λδ=>by simp only[evT,ev]
         · exact truthOf h1 (λ_=>rfl) λδ=>by simp only[evT,ev]
         · exact valOnly h1 λδ=>by simp only[evT]
        ·cases hb
       |cons k ks=>exact JAK ((JAF hxx).symm.trans h)
     |Attribute o m ap =>
       cases kws with
       |cons k ks=>match args,h with
        | [],h=>exact JAK ((JAF hxx).symm.trans h)
        | [_],h=>exact JAK ((JAF hxx).symm.trans h)
        | [_,_],h=>exact JAK ((JAF hxx).symm.trans h)
        |_::_::_::_,h=>exact JAK ((JAF hxx).symm.trans h)
       |nil=>match args,h with
        | [],h=>exact JAK ((JAF hxx).symm.trans h)
        |_::_::_::_,h=>exact JAK ((JAF hxx).symm.trans h)
        | [a],hh =>
         clear h;rw[JAF hxx]at hh;dsimp only[JAQ]at hh
         split at hh
         · rename_i hc
           split at hh
           · rename_i hm
             subst hm;obtain⟨y,hy,hh⟩:=q_a.mp hh;obtain⟨z,hz,hh⟩:=q_a.mp hh;cases hh;exact valOnly (ra.ro.count hc.2 X XX g o a y z ap p hc.1.2.1 hc.1.2.2 (ihE o y hy) (ihE a z hz) (JAU hz [] X.env)) λδ=>by simp only[evT]
           · split at hh
             ·rename_i hm;subst hm;obtain⟨y,hy,hh⟩:=q_a.mp hh;obtain⟨z,hz,hh⟩:=q_a.mp hh;cases hh;exact valOnly (ra.ro.index hc.2 X XX g o a y z ap p hc.1.2.1 hc.1.2.2 (ihE o y hy) (ihE a z hz) (JAU hz [] X.env)) λδ=>by simp only[evT]
             ·cases hh
         · cases hh
        | [a,b],hh =>
         clear h;rw[JAF hxx]at hh;dsimp only[JAQ]at hh
         split at hh
         · rename_i hc
           obtain⟨⟨_,h1,h2,h3⟩,hfl⟩:=hc;subst h3;obtain⟨y,hy,hh⟩:=q_a.mp hh;obtain⟨z,hz,hh⟩:=q_a.mp hh;obtain⟨w,hw,hh⟩:=q_a.mp hh;cases hh;exact valOnly (ra.ro.get hfl X XX g o a b y z w ap p h1 h2 (ihE o y hy) (ihE a z hz) (ihE b w hw) (by rw[JAU hz [b] X.env,JAU hw [] X.env];rfl) (JAU hw [] X.env)) λδ=>by simp only[evT]
         · cases hh
     |_=>exact JAK ((JAF hxx).symm.trans h)
    |ListComp elt gens sc p =>
     match gens,h with
     | [],h=>exact JAK ((JAF hxx).symm.trans h)
     |⟨_,_,_,_⟩::_::_,h=>exact JAK ((JAF hxx).symm.trans h)
     | [⟨tg,iter,ifs,as⟩],h =>
       rw[JAF hxx]at h;dsimp only[JAQ]at h
       split at h
       ·cases h
       ·rename_i hc;have hc1:as=0:=Decidable.byContradiction λz=>hc (.inr (.inl z));have hc2:sc.kind=.function:=Decidable.byContradiction λz=>hc (.inr (.inr (.inl z)))
        haveI:Cool G:=JDD λz=>hc (.inr (.inr (.inr z)))
        subst hc1
        split at h
        ·cases h
        ·rename_i k xs htg
         split at h
         · rename_i hs
           obtain⟨i,hi,h⟩:=q_a.mp h;obtain⟨y,hy,h⟩:=q_a.mp h;have bk:=JK4 hk hn hN hc2 hs;refine valOnly ?_ λδ=>?_
           · cases tg with
             |Name nm px =>
              simp only[JDE,q_j,Prod.mk.injEq]at htg;obtain⟨e1,e2⟩:=htg;subst e1;subst e2;have inner:=λ(Cc:Addr) (fp:List Addr) (s0:Shared) (H0:Hp)=>sound ra n (JA0 X sc Cc ([nm]++mask [nm] 0 X.N) fp s0 H0) (λ_ _=>False) (JAx names sc.names) ([nm]++mask [nm] 0 N)
               (Gk.nox g rfl rfl rfl rfl rfl rfl rfl λ_ _ _ _ _ _ _ z=>(ra.nox _ _ _ _ _ z).elim) hc2 (by rw[<-hn];exact JAo hk) (by rw[<-hN];rfl) (by rw[<-hN];exact bk.nd)
              have hloc:∀Cc fp s0 H0,(JA0 X sc Cc ([nm]++mask [nm] 0 X.N) fp s0 H0).env.scope.names.lookup nm=some .local:=λCc fp s0 H0=>by
               show(compEnvC sc (JAw X.env.cells sc.names []) Cc X.env).scope.names.lookup nm=_;rw[JAo hk];exact JBk (bk.tg nm (by simp))
              match ifs,h with
              | [],h =>
               cases h;exact REF.of (JFi g bk (ihI _ iter i hi) (JCa hi X.env) λCc fp s0 H0 σ δ=>JCP (by exact bk.nd) rfl (hloc Cc fp s0 H0) ((inner Cc fp s0 H0).1 elt y hy).1 (λc hc=>by cases hc) (.inl ⟨rfl,rfl⟩) rfl) JFS
              | [c],h =>
               obtain⟨w,hw,h⟩:=q_a.mp h;cases h;exact REF.of (JFi g bk (ihI _ iter i hi) (JCa hi X.env) λCc fp s0 H0 σ δ=>JCP (by exact bk.nd) rfl (hloc Cc fp s0 H0) ((inner Cc fp s0 H0).1 elt y hy).1 (λc' hc=>by cases hc;exact((inner Cc fp s0 H0).1 c w hw).2) (.inr ⟨c,rfl⟩) rfl) JFS
              |_::_::_,h=>cases h
             |_=>simp[JDE]at htg
           · match ifs,h with
             | [],h=>cases h;simp only[evT]
             | [c],h =>
              obtain⟨w,hw,h⟩:=q_a.mp h;cases h;simp only[evT]
             |_::_::_,h=>cases h
         · cases h
    |_=>exact JAK ((JAF hxx).symm.trans h)
  · intro tg e x h
    cases hxx:xOf G names true e with
    |some q =>
     rw[JGB hxx]at h;obtain⟨y,hy,e'⟩:=q_d.mp h;subst e';obtain⟨q1,q2⟩:=JGk hxx;exact(ra.xop q.1 q2).itr X XX g tg e q.2 y (by rw[hn];exact q1) (allA g ihE hy) (JFU hy) (JAa hy)
    |none =>
    cases hmm:mOf G e with
    |some q =>
     rw[JGA hxx hmm]at h;obtain⟨y,hy,e'⟩:=q_d.mp h;subst e';exact JES g (ra.rcd (JCM hmm).2 X XX g e q.1 q.2 y (JCM hmm).1 (pes ihE hy) (JFU hy)) λδ=>by obtain⟨z,hz⟩:=JGT q.1 y;rw[hz];simp only[evI,ev]
    |none =>
    replace hxx:xOf G names true e=none/\mOf G e=none:=⟨hxx,hmm⟩
    cases e with
    |Name nm p =>
     obtain⟨h1,_,h3⟩:=nameE true nm p x hxx h;exact JES g h1 h3
    |Tuple es k p =>
     obtain⟨y,rfl,h1⟩:=tupE true es k p x hxx h;refine JES g h1 λδ=>?_;simp only[evI,ev];cases evA C y δ<;>rfl
    |List es p =>
     obtain⟨y,rfl,h1⟩:=lstE true es p x hxx h;refine JES g h1 λδ=>?_;simp only[evI,ev];cases evA C y δ<;>rfl
    |Subscript a i p =>
     obtain⟨⟨y,z,rfl⟩|⟨o,y,rfl⟩,h1⟩:=subE true a i p x hxx h
     · exact JES g h1 λδ=>by simp only[evI,ev]
     · exact JES g h1 λδ=>by simp only[evI,ev]
    |Call f args kws p =>
     cases f with
     |Name nm p2 =>
       cases kws with
       |nil =>
        rcases callE true nm p2 p args x hxx h with ⟨i,y,rfl,h1⟩|⟨hb,_⟩|⟨_,y,rfl,h1⟩
        ·exact JES g h1 λδ=>by simp only[evI,ev]
        ·cases hb
        ·exact h1 tg
       |cons k ks=>exact JAK ((JAF hxx).symm.trans h)
     |Attribute o m ap =>
       cases kws with
       |cons k ks=>match args,h with
        | [],h=>exact JAK ((JAF hxx).symm.trans h)
        | [_],h=>exact JAK ((JAF hxx).symm.trans h)
        | [_,_],h=>exact JAK ((JAF hxx).symm.trans h)
        |_::_::_::_,h=>exact JAK ((JAF hxx).symm.trans h)
       |nil=>match args,h with
        | [],h=>exact JAK ((JAF hxx).symm.trans h)
        | [_],h=>exact JAK ((JAF hxx).symm.trans h)
        | [_,_],h=>exact JAK ((JAF hxx).symm.trans h)
        |_::_::_::_,h=>exact JAK ((JAF hxx).symm.trans h)
     |_=>exact JAK ((JAF hxx).symm.trans h)
    |Compare a ops bs p=>match ops,bs,h with
     | [_],[_],h=>exact JAK ((JAF hxx).symm.trans h)
     | [],_,h=>exact JAK ((JAF hxx).symm.trans h)
     |_::_::_,_,h=>exact JAK ((JAF hxx).symm.trans h)
     | [_],[],h=>exact JAK ((JAF hxx).symm.trans h)
     | [_],_::_::_,h=>exact JAK ((JAF hxx).symm.trans h)
    |ListComp elt gens sc p=>match gens,h with
     | [],h=>exact JAK ((JAF hxx).symm.trans h)
     |⟨_,_,_,_⟩::_::_,h=>exact JAK ((JAF hxx).symm.trans h)
     | [⟨tg,iter,ifs,as⟩],h=>exact JAK ((JAF hxx).symm.trans h)
    |BinOp a op b p =>
     rw[JAF hxx]at h;dsimp only[JAQ]at h
     split at h
     · rename_i hr
       simp at hr
     · split at h
       ·simp at h
       ·split at h
        ·obtain⟨y,hy,h⟩:=q_a.mp h;obtain⟨z,hz,h⟩:=q_a.mp h;cases h;exact JES g (JQ0 g (ihE a y hy) (ihE b z hz)) λδ=>by simp only[evI,ev]
        ·cases h
    |_=>exact JAK ((JAF hxx).symm.trans h)
theorem JHv(ra:Rare B C CX G){n:Nat}(g:Gk X B C CX XX G)(hk:X.env.scope.kind=.function)(hn:X.env.scope.names=names)(hN:X.N=N)(hnd:N.Nodup)
  {elt:Expr}{gens:List Comprehension}{sc:Scope}{p:Pos}{x:E}(h:JAL G n false names N (.ListComp elt gens sc p)=some x) :
  ∃target iter ifs xs k y z w,gens=[⟨target,iter,ifs,0⟩]/\x=.cmpr k y z w/\BlkOk X sc xs/\PI X target iter (RI B C XX z)/\(∀v,foldedSetIterable iter X.env v=pure v) /\
   ∀Cc fp s0 H0 σ δ,JCl (JA0 X sc Cc (xs++mask xs 0 X.N) fp s0 H0) B σ xs.length δ target elt ifs (itemF C k y w δ):=by
 cases n with
 |zero=>simp[JAL,JAV,JAQ,xOf,Option.bind_none,ite_self,xRaw,mOf,mRaw]at h
 |succ n =>
  match gens,h with
  | [],h=>simp[JAL,JAV,JAQ,xOf,Option.bind_none,ite_self,xRaw,mOf,mRaw]at h
  |⟨_,_,_,_⟩::_::_,h=>simp[JAL,JAV,JAQ,xOf,Option.bind_none,ite_self,xRaw,mOf,mRaw]at h
  | [⟨tg,iter,ifs,as⟩],h =>
   simp only[JAL,JAV,JAQ,xOf,Option.bind_none,ite_self,xRaw,Option.bind_none,mOf,mRaw]at h
   split at h
   ·cases h
   ·rename_i hc;have hc1:as=0:=Decidable.byContradiction λz=>hc (.inr (.inl z));have hc2:sc.kind=.function:=Decidable.byContradiction λz=>hc (.inr (.inr (.inl z)))
    haveI:Cool G:=JDD λz=>hc (.inr (.inr (.inr z)))
    subst hc1
    split at h
    ·cases h
    ·rename_i k xs htg
     split at h
     ·rename_i hs;obtain⟨i,hi,h⟩:=q_a.mp h;obtain⟨y,hy,h⟩:=q_a.mp h;have bk:=JK4 hk hn hN hc2 hs;have ihI:=(sound ra n X XX names N g hk hn hN hnd).2;cases tg with
      |Name nm px =>
       simp only[JDE,q_j,Prod.mk.injEq]at htg;obtain⟨e1,e2⟩:=htg;subst e1;subst e2;have inner:=λ(Cc:Addr) (fp:List Addr) (s0:Shared) (H0:Hp)=>sound ra n (JA0 X sc Cc ([nm]++mask [nm] 0 X.N) fp s0 H0) (λ_ _=>False) (JAx names sc.names) ([nm]++mask [nm] 0 N)
        (Gk.nox g rfl rfl rfl rfl rfl rfl rfl λ_ _ _ _ _ _ _ z=>(ra.nox _ _ _ _ _ z).elim) hc2 (by rw[<-hn];exact JAo hk) (by rw[<-hN];rfl) (by rw[<-hN];exact bk.nd)
       have hloc:∀Cc fp s0 H0,(JA0 X sc Cc ([nm]++mask [nm] 0 X.N) fp s0 H0).env.scope.names.lookup nm=some .local:=λCc fp s0 H0=>by
        show(compEnvC sc (JAw X.env.cells sc.names []) Cc X.env).scope.names.lookup nm=_;rw[JAo hk];exact JBk (bk.tg nm (by simp))
       match ifs,h with
       | [],h =>
        cases h;exact⟨_,iter,[],[nm],0,y,i,_,rfl,rfl,bk,ihI _ iter i hi,JCa hi X.env,λCc fp s0 H0 σ δ=>JCP (by exact bk.nd) rfl (hloc Cc fp s0 H0) ((inner Cc fp s0 H0).1 elt y hy).1 (λc hc=>by cases hc) (.inl ⟨rfl,rfl⟩) rfl⟩
       | [c],h =>
        obtain⟨w,hw,h⟩:=q_a.mp h;cases h;exact⟨_,iter,[c],[nm],0,y,i,w,rfl,rfl,bk,ihI _ iter i hi,JCa hi X.env,λCc fp s0 H0 σ δ=>JCP (by exact bk.nd) rfl (hloc Cc fp s0 H0) ((inner Cc fp s0 H0).1 elt y hy).1 (λc' hc=>by cases hc;exact((inner Cc fp s0 H0).1 c w hw).2) (.inr ⟨c,rfl⟩) rfl⟩
       |_::_::_,h=>cases h
      |_=>simp[JDE]at htg
     ·cases h
theorem JIk{n:Nat}{sc:Scope}(h:JAL G n false names N (.ListComp elt gens sc p)=some x):Cool G:=by
 cases n with
 |zero=>simp[JAL,JAV,JAQ,xOf,Option.bind_none,ite_self,xRaw,mOf,mRaw]at h
 |succ n =>
  match gens,h with
  | [],h=>simp[JAL,JAV,JAQ,xOf,Option.bind_none,ite_self,xRaw,mOf,mRaw]at h
  |⟨_,_,_,_⟩::_::_,h=>simp[JAL,JAV,JAQ,xOf,Option.bind_none,ite_self,xRaw,mOf,mRaw]at h
  | [⟨tg,iter,ifs,as⟩],h =>
   simp only[JAL,JAV,JAQ,xOf,Option.bind_none,ite_self,xRaw,Option.bind_none,mOf,mRaw]at h
   split at h
   ·cases h
   ·rename_i hc;exact JDD λz=>hc (.inr (.inr (.inr z)))
theorem JFO(ra:Rare B C CX G){n:Nat}(g:Gk X B C CX XX G)(hk:X.env.scope.kind=.function)(hn:X.env.scope.names=names)(hN:X.N=N)(hnd:N.Nodup)
  {es:List Expr}{p:Pos}{x:E}(h:JAL G n false names N (.List es p)=some x):PE X (.List es p) (REF B C XX x):=by
 cases n with
 |zero=>simp[JAL,JAV,JAQ,xOf,Option.bind_none,ite_self,xRaw,mOf,mRaw]at h
 |succ n =>
  simp only[JAL,JAV,JAQ,xOf,Option.bind_none,ite_self,xRaw,Option.bind_none,mOf,mRaw]at h
  split at h
  ·rename_i hl;obtain⟨y,hx,e'⟩:=q_d.mp h;subst e';exact JRw g (allA g (λe x h=>((sound ra n X XX names N g hk hn hN hnd).1 e x h).1) hx) (by rw[JAa hx];exact hl)
  ·cases h
end
def Agr(x:E)(δ δ':Env):Prop:=∀i,x.uses i=true->δ[i]? = δ'[i]?
theorem JKB{i:Nat}(h:δ[i]? = δ'[i]?):look δ i=look δ' i:=by unfold look;rw[h]
theorem JKm{k:Nat}{d:D}(h:push k d δ=.ok δ1):∃δ1',push k d δ'=.ok δ1'/\∀x:E,(∀i,x.uses (i+(if k=0 then 1 else k))=true->δ[i]? = δ'[i]?)->Agr x δ1 δ1':=by
 cases k with
 |zero =>
  have e:(.val d::δ)=δ1:=by injection h
  subst e;refine⟨_,rfl,λx hx i hi=>?_⟩;cases i with
  |zero=>rfl
  |succ i=>simpa using hx i hi
 |succ k=>cases h
theorem JJ6{k:Nat}{d:D}(h:push k d δ=.bad):push k d δ'=.bad:=by cases k<;>first|rfl|cases h
theorem JJg{k c:Nat}{d:D}:push k d δ≠.exc c:=by cases k<;>(intro h;cases h)
theorem ub_l{a b:Bool}(h:a=true):(a || b)=true:=by rw[h];rfl
theorem ub_r{a b:Bool}(h:b=true):(a || b)=true:=by rw[h];exact Bool.or_true a
theorem JAl{a b c:Bool}(h:a=true):(a || b || c)=true:=ub_l (ub_l h)
theorem JAh{a b c:Bool}(h:b=true):(a || b || c)=true:=ub_l (ub_r h)
theorem agree(C:Cn)(x:E):∀(δ δ':Env),Agr x δ δ'->ev C x δ=ev C x δ'/\evT C x δ=evT C x δ'/\evA C x δ=evA C x δ'/\evI C x δ=evI C x δ':=by
 induction x with
 |var i=>intro δ δ' h;simp only[ev,evT,evA,evI,JKB (h i (show(i==i)=true from beq_self_eq_true i)),and_self]
 |cint _|cbl _|cnon|cstr _|glo _|nil=>intro δ δ' h;simp only[ev,evT,evA,evI,and_self]
 |bin op a b iha ihb =>
  intro δ δ' h;have ha:=iha δ δ' λi hi=>h i (by first|exact hi|exact ub_l hi|exact ub_r hi|exact JAl hi|exact JAh hi)
  have hb:=ihb δ δ' λi hi=>h i (by first|exact hi|exact ub_l hi|exact ub_r hi|exact JAl hi|exact JAh hi)
  simp only[ev,evT,evA,evI,ha.1,hb.1,and_self]
 |neg a iha =>
  intro δ δ' h;have ha:=iha δ δ' λi hi=>h i (by first|exact hi|exact ub_l hi|exact ub_r hi|exact JAl hi|exact JAh hi)
  simp only[ev,evT,evA,evI,ha.1,and_self]
 |not a iha =>
  intro δ δ' h;have ha:=iha δ δ' λi hi=>h i (by first|exact hi|exact ub_l hi|exact ub_r hi|exact JAl hi|exact JAh hi)
  simp only[ev,evT,evA,evI,ha.1,ha.2.1,and_self]
 |and a b iha ihb =>
  intro δ δ' h;have ha:=iha δ δ' λi hi=>h i (by first|exact hi|exact ub_l hi|exact ub_r hi|exact JAl hi|exact JAh hi)
  have hb:=ihb δ δ' λi hi=>h i (by first|exact hi|exact ub_l hi|exact ub_r hi|exact JAl hi|exact JAh hi)
  simp only[ev,evT,evA,evI,ha.1,hb.1,ha.2.1,hb.2.1,and_self]
 |or a b iha ihb =>
  intro δ δ' h;have ha:=iha δ δ' λi hi=>h i (by first|exact hi|exact ub_l hi|exact ub_r hi|exact JAl hi|exact JAh hi)
  have hb:=ihb δ δ' λi hi=>h i (by first|exact hi|exact ub_l hi|exact ub_r hi|exact JAl hi|exact JAh hi)
  simp only[ev,evT,evA,evI,ha.1,hb.1,ha.2.1,hb.2.1,and_self]
 |cmp op a b iha ihb =>
  intro δ δ' h;have ha:=iha δ δ' λi hi=>h i (by first|exact hi|exact ub_l hi|exact ub_r hi|exact JAl hi|exact JAh hi)
  have hb:=ihb δ δ' λi hi=>h i (by first|exact hi|exact ub_l hi|exact ub_r hi|exact JAl hi|exact JAh hi)
  simp only[ev,evT,evA,evI,ha.1,hb.1,and_self]
 |isN a n iha =>
  intro δ δ' h;have ha:=iha δ δ' λi hi=>h i (by first|exact hi|exact ub_l hi|exact ub_r hi|exact JAl hi|exact JAh hi)
  simp only[ev,evT,evA,evI,ha.1,and_self]
 |isB a n iha =>
  intro δ δ' h;have ha:=iha δ δ' λi hi=>h i (by first|exact hi|exact ub_l hi|exact ub_r hi|exact JAl hi|exact JAh hi)
  simp only[ev,evT,evA,evI,ha.1,and_self]
 |ife c a b ihc iha ihb =>
  intro δ δ' h;have hc:=ihc δ δ' λi hi=>h i (by first|exact hi|exact ub_l hi|exact ub_r hi|exact JAl hi|exact JAh hi)
  have ha:=iha δ δ' λi hi=>h i (by first|exact hi|exact ub_l hi|exact ub_r hi|exact JAl hi|exact JAh hi)
  have hb:=ihb δ δ' λi hi=>h i (by first|exact hi|exact ub_l hi|exact ub_r hi|exact JAl hi|exact JAh hi)
  simp only[ev,evT,evA,evI,ha.1,hb.1,hc.2.1,and_self]
 |cons a r iha ihr =>
  intro δ δ' h;have ha:=iha δ δ' λi hi=>h i (by first|exact hi|exact ub_l hi|exact ub_r hi|exact JAl hi|exact JAh hi)
  have hr:=ihr δ δ' λi hi=>h i (by first|exact hi|exact ub_l hi|exact ub_r hi|exact JAl hi|exact JAh hi)
  simp only[ev,evT,evA,evI,ha.1,hr.2.2.1,and_self]
 |tup es ih =>
  intro δ δ' h;have ha:=ih δ δ' λi hi=>h i (by first|exact hi|exact ub_l hi|exact ub_r hi|exact JAl hi|exact JAh hi)
  simp only[ev,evT,evA,evI,ha.2.2.1,and_self]
 |lst es ih =>
  intro δ δ' h;have ha:=ih δ δ' λi hi=>h i (by first|exact hi|exact ub_l hi|exact ub_r hi|exact JAl hi|exact JAh hi)
  simp only[ev,evT,evA,evI,ha.2.2.1,and_self]
 |fn1 o a iha =>
  intro δ δ' h;have ha:=iha δ δ' λi hi=>h i (by first|exact hi|exact ub_l hi|exact ub_r hi|exact JAl hi|exact JAh hi)
  simp only[ev,evT,evA,evI,ha.1,and_self]
 |xop k es ih =>
  intro δ δ' h;have ha:=ih δ δ' λi hi=>h i (by first|exact hi|exact ub_l hi|exact ub_r hi|exact JAl hi|exact JAh hi)
  simp only[ev,evT,evA,evI,ha.2.2.1,and_self]
 |isnB a n iha =>
  intro δ δ' h;have ha:=iha δ δ' λi hi=>h i (by first|exact hi|exact ub_l hi|exact ub_r hi|exact JAl hi|exact JAh hi)
  simp only[ev,evT,evA,evI,ha.1,and_self]
 |rep k es ih =>
  intro δ δ' h;have ha:=ih δ δ' λi hi=>h i (by first|exact hi|exact ub_l hi|exact ub_r hi|exact JAl hi|exact JAh hi)
  simp only[ev,evT,evA,evI,ha.2.2.1,and_self]
 |idx a b iha ihb =>
  intro δ δ' h;have ha:=iha δ δ' λi hi=>h i (by first|exact hi|exact ub_l hi|exact ub_r hi|exact JAl hi|exact JAh hi)
  have hb:=ihb δ δ' λi hi=>h i (by first|exact hi|exact ub_l hi|exact ub_r hi|exact JAl hi|exact JAh hi)
  simp only[ev,evT,evA,evI,ha.1,hb.1,and_self]
 |call f es ih =>
  intro δ δ' h;have ha:=ih δ δ' λi hi=>h i (by first|exact hi|exact ub_l hi|exact ub_r hi|exact JAl hi|exact JAh hi)
  simp only[ev,evT,evA,evI,ha.2.2.1,and_self]
 |blt b es ih =>
  intro δ δ' h;have ha:=ih δ δ' λi hi=>h i (by first|exact hi|exact ub_l hi|exact ub_r hi|exact JAl hi|exact JAh hi)
  simp only[ev,evT,evA,evI,ha.2.2.1,and_self]
 |rng es ih =>
  intro δ δ' h;have ha:=ih δ δ' λi hi=>h i (by first|exact hi|exact ub_l hi|exact ub_r hi|exact JAl hi|exact JAh hi)
  simp only[ev,evT,evA,evI,ha.2.2.1,and_self]
 |isi a t iha =>
  intro δ δ' h;have ha:=iha δ δ' λi hi=>h i (by first|exact hi|exact ub_l hi|exact ub_r hi|exact JAl hi|exact JAh hi)
  simp only[ev,evT,evA,evI,ha.1,and_self]
 |mcount a b iha ihb =>
  intro δ δ' h;have ha:=iha δ δ' λi hi=>h i (by first|exact hi|exact ub_l hi|exact ub_r hi|exact JAl hi|exact JAh hi)
  have hb:=ihb δ δ' λi hi=>h i (by first|exact hi|exact ub_l hi|exact ub_r hi|exact JAl hi|exact JAh hi)
  simp only[ev,evT,evA,evI,ha.1,hb.1,and_self]
 |mindex a b iha ihb =>
  intro δ δ' h;have ha:=iha δ δ' λi hi=>h i (by first|exact hi|exact ub_l hi|exact ub_r hi|exact JAl hi|exact JAh hi)
  have hb:=ihb δ δ' λi hi=>h i (by first|exact hi|exact ub_l hi|exact ub_r hi|exact JAl hi|exact JAh hi)
  simp only[ev,evT,evA,evI,ha.1,hb.1,and_self]
 |mget a b c iha ihb ihc =>
  intro δ δ' h;have ha:=iha δ δ' λi hi=>h i (by first|exact hi|exact ub_l hi|exact ub_r hi|exact JAl hi|exact JAh hi)
  have hb:=ihb δ δ' λi hi=>h i (by first|exact hi|exact ub_l hi|exact ub_r hi|exact JAl hi|exact JAh hi)
  have hc:=ihc δ δ' λi hi=>h i (by first|exact hi|exact ub_l hi|exact ub_r hi|exact JAl hi|exact JAh hi)
  simp only[ev,evT,evA,evI,ha.1,hb.1,hc.1,and_self]
 |cmpr k elt iter cond ihe ihi ihc =>
  intro δ δ' h;have hi:=ihi δ δ' λi hi=>h i (by first|exact hi|exact ub_l hi|exact ub_r hi|exact JAl hi|exact JAh hi)
  refine⟨?_,by simp only[evT],by simp only[evA],by simp only[evI]⟩
  simp only[ev,hi.2.2.2]
  congr 1
  funext xs
  congr 2
  congr 1
  funext d
  cases q:push k d δ with
  |ok δ1 =>
   obtain⟨δ1',q',ag⟩:=JKm (δ':=δ') q;rw[q'];have h1:=ihc δ1 δ1' (ag cond λi hi=>h i (by exact ub_r hi))
   have h2:=ihe δ1 δ1' (ag elt λi hi=>h i (by exact JAh hi))
   simp only[R.bind,h1.2.1,h2.1]
  |exc c=>exact(JJg q).elim
  |bad=>rw[JJ6 (δ':=δ') q]
theorem JBD{b:Addr}(h:P b):hidP H P b=none:=by unfold hidP;rw[if_pos h]
theorem JAJ{b:Addr}(h:¬P b):hidP H P b=H b:=by unfold hidP;rw[if_neg h]
theorem JA4{b:Addr}(h:hidP H P b=some o):¬P b/\H b=some o:=by
 by_cases hp:P b
 ·rw[JBD hp]at h;cases h
 ·rw[JAJ hp]at h;exact⟨hp,h⟩
open Classical in
noncomputable def mixP(H H1:Hp)(P:Addr->Prop):Hp:=λb=>if P b then H b else H1 b
theorem JBx{b:Addr}(h:P b):mixP H H1 P b=H b:=by unfold mixP;rw[if_pos h]
theorem JAO{b:Addr}(h:¬P b):mixP H H1 P b=H1 b:=by unfold mixP;rw[if_neg h]
section
variable{X:Cx}{pins ps:Pq}{σ:St}{H H1:Hp}{s s1:Shared}{P:Addr->Prop}
theorem JIX(I:Inv X pins σ H s){a:Addr}(h:H a=some xs)(h0:X.H₀ a=none):a≠X.env.locals/\a ∉ X.fs:=by
 refine⟨λz=>(by rw[z,I.free]at h;cases h),λz=>?_⟩
 obtain⟨_,o,ho,_⟩:=I.ok.funs.mem z;have:=I.base.free a o ho (I.ok.frf a z) λq=>I.ok.exfs a q z;rw[h]at this;cases this
theorem JBI(I:Inv X pins σ H s)(hP:∀a,P a->∃xs,H a=some xs/\X.H₀ a=none/\Ownb xs)(hps:∀p∈ps,P p.1/\s.heap.get? p.1=some p.2):Inv X (pins++ps) σ (hidP H P) s where
 ok:=I.ok
 os:=I.os
 bare:=I.bare
 base:=by
  have nP:∀b u,H b=some u->¬Ownb u->¬P b:=λb u e hu hp=>by
   obtain⟨xs,h1,_,h3⟩:=hP b hp;rw[e]at h1;cases h1;exact hu h3
  refine⟨I.base.keep,I.base.slot,λb o e n hx=>?_,I.base.there,λb xs e=>?_,λb o u e=>?_,λb t e=>?_⟩
  ·have:=I.base.free b o e n hx
   by_cases hp:P b
   ·exact JBD hp
   ·rw[JAJ hp];exact this
  ·have q:=I.base.tups b xs e;rw[JAJ (nP b _ q λz=>z)];exact q
  ·have q:=I.base.frzs b o u e;rw[JAJ (nP b _ q λz=>z)];exact q
  ·obtain⟨m,q⟩:=I.base.tbls b t e;exact⟨m,by rw[JAJ (nP b _ q λz=>z)];exact q⟩
 loc:=I.loc
 cell:=I.cell
 free:=by
  by_cases hp:P X.env.locals
  ·exact JBD hp
  ·rw[JAJ hp];exact I.free
 freeC:=λx c e=>by
  by_cases hp:P c
  ·exact JBD hp
  ·rw[JAJ hp];exact I.freeC x c e
 pin:=λp hp=>by
  have old:∀p∈X.pn++pins,s.heap.get? p.1=some p.2/\hidP H P p.1=none/\p.1≠X.env.locals/\p.1 ∉ X.fs/\∀v,p.2.data≠.cell v:=λp hp=>by
   obtain⟨h1,h2,h3⟩:=I.pin p hp;refine⟨h1,?_,h3⟩
   by_cases hq:P p.1
   ·exact JBD hq
   ·rw[JAJ hq];exact h2
  rcases List.mem_append.mp hp with z|z
  ·exact old p (List.mem_append_left _ z)
  ·rcases List.mem_append.mp z with z|z
   ·exact old p (q_r _ z)
   ·obtain⟨hq,ho⟩:=hps p z;obtain⟨xs,h1,h0,h9⟩:=hP _ hq;obtain⟨n1,n2⟩:=JIX I h1 h0;refine⟨ho,JBD hq,n1,n2,λv e=>?_⟩;cases xs with
    |lst xs =>
     obtain⟨_,its,n,_,e2⟩:=I.hok _ _ h1;rw[ho]at e2;have e3:p.2={ cls:=.type "list",data:=.seq its.toArray n }:=Option.some.inj e2;rw[e3]at e;have e4:Data.seq its.toArray n=Data.cell v:=e;cases e4
    |_=>exact h9.elim
 hok:=λb u e=>by
  obtain⟨hb,e⟩:=JA4 e;refine(I.hok b u e).stay (λc w _ q=>q) (λc q=>?_) λc xs q=>?_
  ·rw[JAJ λhc=>by obtain⟨xs,h1,_,h9⟩:=hP c hc;rw[q]at h1;cases h1;exact h9];exact q
  ·rw[JAJ λhc=>by obtain⟨ys,h1,_,h9⟩:=hP c hc;rw[q]at h1;cases h1;exact h9];exact q
 len:=I.len
theorem JAs(I:Inv X pins σ H s)(J:Inv X (pins++ps) σ' H1 s1)(hP:∀a,P a->∃xs,H a=some xs/\X.H₀ a=none/\Ownb xs)(hps:∀a,P a->∃o,(a,o)∈ps/\s.heap.get? a=some o) :
  Inv X pins σ' (mixP H H1 P) s1/\∀a,P a->H1 a=none:=by
 have hpin:∀a,P a->∃o,s1.heap.get? a=some o/\H1 a=none/\s.heap.get? a=some o:=λa ha=>by
  obtain⟨o,hm,ho⟩:=hps a ha;obtain⟨h1,h2,_⟩:=J.pin (a,o) (q_r _ (q_r _ hm));exact⟨o,h1,h2,ho⟩
 have nP:∀b u,H1 b=some u->¬P b:=λb u e hp=>by obtain⟨_,_,h,_⟩:=hpin b hp;rw[e]at h;cases h
 have nS:∀b o,X.s₀.heap.get? b=some o->X.H₀ b=none->b ∉ X.ex->¬P b:=λb o e n hx hp=>by
  obtain⟨xs,h1,_⟩:=hP b hp;have:=I.base.free b o e n hx;rw[h1]at this;cases this
 refine⟨⟨J.ok,J.os,J.bare,⟨J.base.keep,J.base.slot,λb o e n hx=>?_,J.base.there,λb xs e=>?_,λb o u e=>?_,λb t e=>?_⟩,J.loc,J.cell,?_,λx c e=>?_,λp hp=>?_,λb u e=>?_,J.len⟩,λa ha=>?_⟩
 ·rw[JAO (nS b o e n hx)];exact J.base.free b o e n hx
 ·have q:=J.base.tups b xs e;rw[JAO (nP b _ q)];exact q
 ·have q:=J.base.frzs b o u e;rw[JAO (nP b _ q)];exact q
 ·obtain⟨m,q⟩:=J.base.tbls b t e;exact⟨m,by rw[JAO (nP b _ q)];exact q⟩
 ·rw[JAO λhp=>by obtain⟨xs,h1,_⟩:=hP _ hp;rw[I.free]at h1;cases h1];exact J.free
 ·rw[JAO λhp=>by obtain⟨xs,h1,_⟩:=hP _ hp;rw[I.freeC x c e]at h1;cases h1];exact J.freeC x c e
 ·have hp':p∈X.pn++(pins++ps):=by
   rcases List.mem_append.mp hp with z|z
   ·exact List.mem_append_left _ z
   ·exact q_r _ (List.mem_append_left _ z)
  obtain⟨h1,h2,h3⟩:=J.pin p hp';refine⟨h1,?_,h3⟩;rw[JAO λhq=>by
   obtain⟨xs,g1,_⟩:=hP _ hq;have:=(I.pin p hp).2.1;rw[g1]at this;cases this]
  exact h2
 ·by_cases hb:P b
  ·rw[JBx hb]at e;obtain⟨xs,h1,_,h9⟩:=hP b hb;rw[h1]at e;cases e;obtain⟨o,g1,_,g3⟩:=hpin b hb;cases u with
   |lst xs =>
    obtain⟨z,its,n,r,e2⟩:=I.hok b _ h1;rw[g3]at e2;cases e2;exact⟨z,its,n,r,g1⟩
   |_=>exact h9.elim
  ·rw[JAO hb]at e;refine(J.hok b u e).stay (λc w _ q=>q) (λc q=>?_) λc xs q=>?_
   ·rw[JAO (nP c _ q)];exact q
   ·rw[JAO (nP c _ q)];exact q
 ·obtain⟨_,_,h,_⟩:=hpin a ha;exact h
end
noncomputable def JAZ(x:E):Nat->Env->Env
 |_,[]=>[]
 |i,s::r=>(if x.uses i=true then s else if s.isOwn=true then .no else s)::JAZ x (i+1) r
theorem JCg(x:E):∀(δ:Env) (k i:Nat),(JAZ x k δ)[i]? = (δ[i]?).map λs=>if x.uses (k+i)=true then s else if s.isOwn=true then .no else s
 | [],_,_=>by simp[JAZ]
 |s::r,k,0=>by simp[JAZ]
 |s::r,k,i+1=>by
  have:=JCg x r (k+1) i;rw[show k+1+i=k+(i+1) by omega]at this
  simpa[JAZ] using this
theorem JEj(x:E):∀(δ:Env) (k i:Nat),(JA5 x k δ)[i]? = (δ[i]?).map λs=>if x.uses (k+i)=true then s.frz else s
 | [],_,_=>by simp[JA5]
 |s::r,k,0=>by simp[JA5]
 |s::r,k,i+1=>by
  have:=JEj x r (k+1) i;rw[show k+1+i=k+(i+1) by omega]at this
  simpa[JA5] using this
theorem JEb(x:E):∀(δ:Env) (k:Nat),(JA5 x k δ).length=δ.length
 | [],_=>rfl
 |s::r,k=>by simp only[JA5,List.length_cons,JEb x r]
theorem JBi(x:E):∀(δ:Env) (k i:Nat) (s:Sl),JAP x k δ=false->δ[i]? = some s->x.uses (k+i)=true->s.isOwn=false
 | [],_,_,_,_,e,_=>by simp at e
 |s::r,k,0,t,h,e,hu=>by
  unfold JAP at h;simp only[Bool.or_eq_false_iff,Bool.and_eq_false_iff]at h;simp only[List.getElem?_cons_zero,q_j]at e;subst e;rcases h.1 with z|z
  ·rw[Nat.add_zero]at hu;rw[hu]at z;cases z
  ·exact z
 |s::r,k,i+1,t,h,e,hu=>by
  unfold JAP at h;simp only[Bool.or_eq_false_iff]at h;exact JBi x r (k+1) i t h.2 (by simpa using e) (by rw[show k+1+i=k+(i+1) by omega];exact hu)
mutual
theorem JDl(hk:∀b o,H1 b=some o->¬Ownb o->H2 b=some o):∀(d:D) (v:V),JAI d=true->Den B H1 d v->Den B H2 d v
 |.none,_,_,h=>h
 |.bool _,_,_,h=>h
 |.int _,_,_,h=>h
 |.str _,_,_,h=>h
 |.list _,_,n,_=>by simp only[JAI]at n;cases n
 |.tuple ds,v,n,h=>by
  simp only[Den]at h ⊢;obtain⟨a,xs,e,q,l⟩:=h;refine⟨a,xs,e,?_,JB7 hk ds xs (by simpa only[JAI] using n) l⟩
  rcases q with (q|⟨o,q⟩)|q
  ·exact .inl (.inl (hk _ _ q λz=>z))
  ·exact .inl (.inr ⟨o,hk _ _ q λz=>z⟩)
  ·exact .inr q
 |.dict kvs,v,n,h=>by
  simp only[Den]at h ⊢;rcases h with ⟨a,c,e,k,q⟩|⟨a,xs,e,q,l⟩|⟨a,c,e,k,q⟩
  ·exact .inl ⟨a,c,e,k,hk _ _ q λz=>z⟩
  rotate_left 1
  ·subst k;simp[JAI]at n
  ·exfalso
   match kvs,n,l with
   | [],n,_=>simp[JAI]at n
   |(k,w)::r,n,l =>
    simp only[DenK]at l;obtain⟨x,v',r',_,ek,_⟩:=l;subst ek;simp[JAI]at n
theorem JB7(hk:∀b o,H1 b=some o->¬Ownb o->H2 b=some o):∀(ds:List D) (vs:List V),JAf ds=true->DenL B H1 ds vs->DenL B H2 ds vs
 | [],_,_,h=>h
 |d::ds,vs,n,h=>by
  simp only[DenL]at h ⊢;simp only[JAf,q_i]at n;obtain⟨v,r,e,q,l⟩:=h;exact⟨v,r,e,JDl hk d v n.1 q,JB7 hk ds r n.2 l⟩
end
section
variable{X:Cx}{B:Bs}{C:Cn}{CX:CXT}{XX:Nat->Hp->Prop}{G:List (Str×GK)}{pins:Pq}{σ:St}{H:Hp}{s:Shared}{δ:Env}{O:Ow}{x:E}{Hb:Hp}
def unP(x:E)(O:Ow)(b:Addr):Prop:=∃i,O i=some b/\x.uses i=false
theorem SO.own(so:SO B Hb σ H δ O){i:Nat}{a:Addr}(h:O i=some a):∃ds xs,δ[i]? = some (.own ds)/\σ[i]? = some (some (.ref a))/\H a=some xs/\Hb a=none/\OwnO B (hid H O) ds xs:=by
 have q:=so.slot i;cases e:δ[i]? with
 |none=>rw[e]at q;simp only[JAR]at q;rw[h]at q;cases q
 |some t =>
  rw[e]at q;cases t with
  |no=>simp only[JAR]at q;rw[h]at q;cases q
  |val d=>simp only[JAR]at q;rw[h]at q;cases q.1
  |own d =>
   simp only[JAR]at q;obtain⟨a',ds,xs,e1,e2,e3,e4,e5,e6⟩:=q;rw[h]at e1;cases e1;subst e2;exact⟨_,xs,rfl,e3,e4,e5,e6⟩
noncomputable def JBX(x:E)(O:Ow)(n:Nat)(h:Heap):Pq :=
 (List.range n).filterMap λi=>match O i with
   |some a=>if x.uses i=true then none else (h.get? a).map λo=>(a,o)
   |none=>none
theorem JAj(hb:Dm X.H₀ Hb)(so:SO B Hb σ H δ O):∀a,unP x O a->∃xs,H a=some xs/\X.H₀ a=none/\Ownb xs:=λa ⟨i,h,_⟩=>by
 obtain⟨ds,xs,_,_,e4,e5,e6⟩:=so.own h;exact⟨xs,e4,hb.free e5,e6.b⟩
theorem JAr{n:Nat}:∀p∈JBX x O n h,unP x O p.1/\h.get? p.1=some p.2:=λp hp=>by
 obtain⟨i,_,e⟩:=List.mem_filterMap.mp hp;cases q:O i with
 |none=>rw[q]at e;cases e
 |some a =>
  rw[q]at e;simp only at e
  split at e
  ·cases e
  ·rename_i hu;obtain⟨o,ho,e2⟩:=q_d.mp e;subst e2;exact⟨⟨i,q,by simpa using hu⟩,ho⟩
theorem JAi(I:Inv X pins σ H s)(so:SO B Hb σ H δ O):∀a,unP x O a->∃o,(a,o)∈JBX x O δ.length s.heap/\s.heap.get? a=some o:=λa ⟨i,h,hu⟩=>by
 obtain⟨ds,xs,e1,_,e4,_,e9⟩:=so.own h;obtain⟨oo,ho⟩:∃oo,s.heap.get? a=some oo:=by
  have h9:=e9.b;cases xs with
  |lst xs=>obtain⟨_,its,n,_,ho⟩:=I.hok a _ e4;exact⟨_,ho⟩
  |_=>exact h9.elim
 refine⟨_,List.mem_filterMap.mpr ⟨i,List.mem_range.mpr (q_p.mp e1).1,?_⟩,ho⟩;rw[h];simp only[hu,q_v,if_false,ho,Option.map_some]
theorem JAe(so:SO B Hb σ H δ O):Same Hb (hid H O):=λb o e=>by
 rw[hid,JAJ λ⟨i,h⟩=>by obtain⟨_,_,_,_,_,e5,_⟩:=so.own h;rw[e]at e5;cases e5]
 exact so.same b o e
theorem same_un:Same (hid H O) (hidP H (unP x O)):=λb o e=>by
 obtain⟨h1,h2⟩:=JA4 e;rw[JAJ λ⟨i,h,_⟩=>h1 ⟨i,h⟩];exact h2
theorem JAg(so:SO B Hb σ H δ O):Sok B σ (hidP H (unP x O)) (JAZ x 0 δ):=λi d e=>by
 unfold look at e;rw[JCg,Nat.zero_add]at e;have q:=so.slot i;cases e1:δ[i]? with
 |none=>rw[e1]at e;cases e
 |some t =>
  rw[e1]at e q;simp only[Option.map_some]at e;cases t with
  |no =>
   simp only[Sl.isOwn,q_v,if_false,ite_self,Sl.get]at e;cases e
  |val d' =>
   simp only[Sl.isOwn,q_v,if_false,ite_self,Sl.get]at e;cases e;simp only[JAR]at q;obtain⟨_,v,e2,dn⟩:=q;exact⟨v,e2,Den.mono same_un d v dn⟩
  |own d' =>
   by_cases hu:x.uses i=true
   ·rw[if_pos hu]at e;simp only[JAR]at q;obtain⟨a,ds,xs,q1,q2,q3,q4,q5,q6⟩:=q;subst q2;obtain⟨ys,rfl,rfl⟩:∃ys,d'=.list ys/\d=.list ys:=by
     cases d' with
     |list ys=>simp only[Sl.get]at e;cases e;exact⟨ys,rfl,rfl⟩
     |_=>cases xs<;>exact fF q6
    refine⟨_,q3,(OwnO.mono same_un _ xs q6).den ?_⟩;rw[JAJ λ⟨j,hj,hu2⟩=>by
     have:=so.inj i j a q1 hj;subst this;rw[hu]at hu2;cases hu2]
    exact q4
   ·rw[if_neg hu]at e;simp only[Sl.isOwn,if_true,Sl.get]at e;cases e
theorem JBV:Agr x δ (JAZ x 0 δ):=λi hi=>by
 rw[JCg,Nat.zero_add];cases δ[i]? with
 |none=>rfl
 |some t=>simp[hi]
theorem JDa(so:SO B Hb σ H δ O)(sm:Same (hidP H (unP x O)) H1)(hz:∀a,unP x O a->H1 a=none):SO B Hb σ (mixP H H1 (unP x O)) δ O:=by
 have s1:Same (hid H O) (hid (mixP H H1 (unP x O)) O):=λb o e=>by
  obtain⟨h1,h2⟩:=JA4 e;rw[hid,JAJ h1,JAO λ⟨i,h,_⟩=>h1 ⟨i,h⟩];exact sm b o (by rw[JAJ λ⟨i,h,_⟩=>h1 ⟨i,h⟩];exact h2)
 refine⟨so.len,λb o e=>?_,so.inj,λi=>?_⟩
 ·have e1:=JAe so b o e;obtain⟨_,h2⟩:=JA4 (s1 b o e1);exact h2
 ·have q:=so.slot i;cases e1:δ[i]? with
  |none=>rw[e1]at q;exact q
  |some t =>
   rw[e1]at q;cases t with
   |no=>exact q
   |val d =>
    simp only[JAR]at q ⊢;obtain⟨h0,v,e2,dn⟩:=q;exact⟨h0,v,e2,Den.mono s1 d v dn⟩
   |own d =>
    simp only[JAR]at q ⊢;obtain⟨a,ds,xs,q1,q2,q3,q4,q5,q6⟩:=q;refine⟨a,ds,xs,q1,q2,q3,?_,q5,OwnO.mono s1 ds xs q6⟩
    by_cases hp:unP x O a
    ·rw[JBx hp];exact q4
    ·rw[JAO hp];exact sm a _ (by rw[JAJ hp];exact q4)
noncomputable def frzO(x:E)(O:Ow):Ow:=λi=>if x.uses i=true then none else O i
theorem ownP_frz{b:Addr}:ownP (frzO x O) b↔unP x O b:=by
 constructor
 ·rintro⟨i,h⟩;unfold frzO at h
  split at h
  ·cases h
  ·rename_i hu;exact⟨i,h,by simpa using hu⟩
 ·rintro⟨i,h,hu⟩;exact⟨i,by unfold frzO;rw[if_neg (by rw[hu];exact Bool.false_ne_true)];exact h⟩
theorem JBC(hz:∀a,unP x O a->H1 a=none):Same H1 (hid (mixP H H1 (unP x O)) (frzO x O)):=λb o e=>by
 have hb:¬unP x O b:=λh=>by rw[hz b h]at e;cases e
 rw[hid,JAJ (λh=>hb (ownP_frz.mp h)),JAO hb];exact e
theorem JFu(so:SO B Hb σ H δ O)(sm:Same (hidP H (unP x O)) H1)(hz:∀a,unP x O a->H1 a=none):SO B Hb σ (mixP H H1 (unP x O)) (JA5 x 0 δ) (frzO x O):=by
 have s1:Same (hid H O) (hid (mixP H H1 (unP x O)) (frzO x O)):=(same_un.trans sm).trans (JBC hz);have k:=JDa so sm hz;refine⟨by rw[JEb];exact so.len,k.same,λi j a h1 h2=>?_,λi=>?_⟩
 ·unfold frzO at h1 h2
  split at h1
  ·cases h1
  ·split at h2
   ·cases h2
   ·exact so.inj i j a h1 h2
 ·rw[JEj,Nat.zero_add];have q:=so.slot i;cases e1:δ[i]? with
  |none=>rw[e1]at q;simp only[JAR,Option.map_none]at q ⊢;unfold frzO;split<;>first|rfl|exact q
  |some t =>
   rw[e1]at q;simp only[Option.map_some];cases t with
   |no =>
    simp only[Sl.frz,ite_self,JAR]at q ⊢;unfold frzO;split<;>first|rfl|exact q
   |val d =>
    simp only[Sl.frz,ite_self,JAR]at q ⊢;obtain⟨h0,v,e2,dn⟩:=q;exact⟨by unfold frzO;split<;>first|rfl|exact h0,v,e2,Den.mono s1 d v dn⟩
   |own d =>
    by_cases hu:x.uses i=true
    ·rw[if_pos hu];have ho:frzO x O i=none:=by unfold frzO;rw[if_pos hu]
     simp only[JAR]at q;obtain⟨a,ds,xs,q1,q2,q3,q4,q5,q6⟩:=q;subst q2;cases d with
     |dict kvs=>cases xs<;>exact fF q6
     |none=>cases xs<;>exact fF q6
     |bool _=>cases xs<;>exact fF q6
     |int _=>cases xs<;>exact fF q6
     |str _=>cases xs<;>exact fF q6
     |tuple _=>cases xs<;>exact fF q6
     |list ys =>
     simp only[Sl.frz,JAR];refine⟨ho,_,q3,(OwnO.mono s1 _ xs q6).den ?_⟩;have hp:¬unP x O a:=λ⟨j,hj,hu2⟩=>by
      have:=so.inj i j a q1 hj;subst this;rw[hu]at hu2;cases hu2
     exact JBC hz a _ (sm a _ (by rw[JAJ hp];exact q4))
    ·rw[if_neg hu];simp only[JAR]at q ⊢;obtain⟨a,ds,xs,q1,q2,q3,q4,q5,q6⟩:=q;have hp:unP x O a:=⟨i,q1,by simpa using hu⟩
     refine⟨a,ds,xs,by unfold frzO;rw[if_neg hu];exact q1,q2,q3,by rw[JBx hp];exact q4,q5,OwnO.mono s1 ds xs q6⟩
theorem JGd(so:SO B Hb σ H δ O){d:D}(sm:Same (hidP H (unP x O)) H1)(hz:∀a,unP x O a->H1 a=none)(dn:Den B H1 d v) :
  ∃O',SO B Hb σ (mixP H H1 (unP x O)) (after x d δ) O'/\Den B (hid (mixP H H1 (unP x O)) O') d v:=by
 unfold after
 split
 ·exact⟨_,JFu so sm hz,Den.mono (JBC hz) d v dn⟩
 ·rename_i hb;refine⟨O,JDa so sm hz,?_⟩;cases hu:JAP x 0 δ with
  |false =>
   refine Den.mono (λb o e=>?_) d v dn;have hb':¬unP x O b:=λh=>by rw[hz b h]at e;cases e
   have hb2:¬ownP O b:=λ⟨i,h⟩=>by
    obtain⟨ds,xs,e1,_⟩:=so.own h;refine hb' ⟨i,h,?_⟩;cases q:x.uses i with
    |false=>rfl
    |true =>
     have:=JBi x δ 0 i _ hu e1 (by rw[Nat.zero_add];exact q)
     cases this
   rw[hid,JAJ hb2,JAO hb'];exact e
  |true =>
   have hl:JAI d=true:=by
    rw[hu]at hb;cases q:JAI d with
    |true=>rfl
    |false=>rw[q]at hb;exact absurd rfl hb
   refine JDl (λb o e ho=>?_) d v hl dn;have hb':¬unP x O b:=λh=>by rw[hz b h]at e;cases e
   have hb2:¬ownP O b:=λ⟨i,h⟩=>by
    obtain⟨ds,xs,_,_,e4,_,e9⟩:=so.own h;have:=sm b _ (by rw[JAJ hb'];exact e4)
    rw[e]at this;cases this;exact ho e9.b
   rw[hid,JAJ hb2,JAO hb'];exact e
def RS(X:Cx)(B:Bs)(C:Cn)(XX:Nat->Hp->Prop)(x:E):TE:=λσ H Q=>∃δ O Hb,Dm X.H₀ Hb/\SO B Hb σ H δ O/\(match ev C x δ with
 |.ok d=>∀v H' O',SO B Hb σ H' (after x d δ) O'->Den B (hid H' O') d v->Q v H'
 |.exc c=>XX c Hb
 |.bad=>False)
def RTS(X:Cx)(B:Bs)(C:Cn)(XX:Nat->Hp->Prop)(x:E):TT:=λσ H Q=>∃δ O Hb,Dm X.H₀ Hb/\SO B Hb σ H δ O/\(match evT C x δ with
 |.ok b=>∀H',SO B Hb σ H' δ O->Q b H'
 |.exc c=>XX c Hb
 |.bad=>False)
def RIS(X:Cx)(B:Bs)(C:Cn)(XX:Nat->Hp->Prop)(x:E):TI:=λσ H Q=>∃δ O Hb,Dm X.H₀ Hb/\SO B Hb σ H δ O/\(match evI C x δ with
 |.ok ds=>∀J H' O',SO B Hb σ H' (JA5 x 0 δ) O'->ItOk B J (hid H' O') ds->Q J H'
 |.exc c=>XX c Hb
 |.bad=>False)
theorem JG6(g:Gk X B C CX XX G){e:Expr}(he:PE X e (RE B C XX x)):PE X e (RS X B C XX x):=by
 intro pins s σ H Q I ⟨δ,O,Hb,hb,so,k⟩;have J0:=JBI (ps:=JBX x O δ.length s.heap) I (JAj (x:=x) hb so) JAr;have hev:=(agree C x δ (JAZ x 0 δ) JBV).1;cases q:ev C x δ with
 |ok d =>
  rw[q]at k;refine thn (he _ s σ _ (λv H1=>Same (hidP H (unP x O)) H1/\Den B H1 d v) J0 ⟨JAZ x 0 δ,JAg so,by rw[<-hev,q];exact λv H1 s1 d1=>⟨s1,d1⟩⟩) λu s1 ⟨v,H1,J,r,sm,dn⟩=>?_
  obtain⟨I',hz⟩:=JAs I J (JAj hb so) (JAi I so);obtain⟨O',so',dn'⟩:=JGd so sm hz dn;exact⟨v,_,I',r,k v _ O' so' dn'⟩
 |exc c =>
  rw[q]at k;exact thn (he _ s σ _ (λv H1=>False) J0 ⟨JAZ x 0 δ,JAg so,by rw[<-hev,q];exact g.anti c _ _ ((JAe so).trans same_un) k⟩) λu s1 ⟨v,H1,J,r,f⟩=>f.elim
 |bad=>rw[q]at k;exact k.elim
theorem JMS(g:Gk X B C CX XX G){e:Expr}(he:PT X e (RT B C XX x)):PT X e (RTS X B C XX x):=by
 intro pins s σ H Q I ⟨δ,O,Hb,hb,so,k⟩;have J0:=JBI (ps:=JBX x O δ.length s.heap) I (JAj (x:=x) hb so) JAr;have hev:=(agree C x δ (JAZ x 0 δ) JBV).2.1;cases q:evT C x δ with
 |ok d =>
  rw[q]at k;refine thn (he _ s σ _ (λb H1=>b=d/\Same (hidP H (unP x O)) H1) J0 ⟨JAZ x 0 δ,JAg so,by rw[<-hev,q];exact λH1 s1=>⟨rfl,s1⟩⟩) λu s1 ⟨H1,J,e,sm⟩=>?_
  subst e;obtain⟨I',hz⟩:=JAs I J (JAj hb so) (JAi I so);exact⟨_,I',k _ (JDa so sm hz)⟩
 |exc c =>
  rw[q]at k;exact thn (he _ s σ _ (λv H1=>False) J0 ⟨JAZ x 0 δ,JAg so,by rw[<-hev,q];exact g.anti c _ _ ((JAe so).trans same_un) k⟩) λu s1 ⟨H1,J,f⟩=>f.elim
 |bad=>rw[q]at k;exact k.elim
theorem JL9(g:Gk X B C CX XX G){tg e:Expr}(he:PI X tg e (RI B C XX x)):PI X tg e (RIS X B C XX x):=by
 intro pins s σ H Q I ⟨δ,O,Hb,hb,so,k⟩;have J0:=JBI (ps:=JBX x O δ.length s.heap) I (JAj (x:=x) hb so) JAr;have hev:=(agree C x δ (JAZ x 0 δ) JBV).2.2.2;cases q:evI C x δ with
 |ok ds =>
  rw[q]at k;refine thn (he _ s σ _ (λJt H1=>Same (hidP H (unP x O)) H1/\ItOk B Jt H1 ds) J0 ⟨JAZ x 0 δ,JAg so,by rw[<-hev,q];exact λJt H1 s1 d1=>⟨s1,d1⟩⟩) λu s1 h1=>thn h1 λitv s2 h2=>?_
  obtain⟨it,fp,tn,Jt,H1,e,J,T,st,f,sm,io⟩:=h2;obtain⟨I',hz⟩:=JAs I J (JAj hb so) (JAi I so);refine⟨it,fp,tn,Jt,_,e,I',T,st,λb hb=>?_,k Jt _ _ (JFu so sm hz) λH2 s2 i=>⟨λd e=>⟨((io H2 (Same.kpT (JBC hz) s2) i).1 d e).1,λv H3 y=>(((io H2 (Same.kpT (JBC hz) s2) i).1 d e).2 v H3 y).imp (λq=>⟨q.1,Den.mono (JBC hz) d v q.2⟩) λ⟨p,xs,es,z1,z2,z3,z4,z5⟩=>⟨p,xs,es,z1,z2,z3,z4,DenL.mono (JBC hz) _ _ z5⟩⟩,(io H2 (Same.kpT (JBC hz) s2) i).2⟩⟩;obtain⟨f1,f2,f3,f4,f5,f6⟩:=f b hb;refine⟨?_,f2,f3,f4,f5,λp hp=>f6 p ?_⟩
  ·rw[JAO λhp=>by
    obtain⟨o,hm,_⟩:=JAi I so b hp;exact f6 (b,o) (q_r _ (q_r _ hm)) rfl]
   exact f1
  ·rcases List.mem_append.mp hp with z|z
   ·exact List.mem_append_left _ z
   ·exact q_r _ (List.mem_append_left _ z)
 |exc c =>
  rw[q]at k;refine thn (he _ s σ _ (λ_ _=>False) J0 ⟨JAZ x 0 δ,JAg so,by rw[<-hev,q];exact g.anti c _ _ ((JAe so).trans same_un) k⟩) λu s1 h1=>thn h1 λitv s2 h2=>?_
  obtain⟨_,_,_,_,_,_,_,_,_,_,f⟩:=h2;exact f.elim
 |bad=>rw[q]at k;exact k.elim
end
theorem same_hidP:Same (hidP H P) H:=λb o e=>(JA4 e).2
section
variable{X:Cx}{B:Bs}{C:Cn}{CX:CXT}{XX:Nat->Hp->Prop}{G:List (Str×GK)}{pins:Pq}{σ:St}{H:Hp}{s:Shared}{δ:Env}{O:Ow}{x:E}{Hb Hb':Hp}
theorem SO.weak(so:SO B Hb' σ H δ O)(h:Same Hb Hb'):SO B Hb σ H δ O:=by
 refine⟨so.len,h.trans so.same,so.inj,λi=>?_⟩;have q:=so.slot i;cases e:δ[i]? with
 |none=>rw[e]at q;exact q
 |some t =>
  rw[e]at q;cases t with
  |no=>exact q
  |val d=>exact q
  |own d =>
   simp only[JAR]at q ⊢;obtain⟨a,ds,xs,q1,q2,q3,q4,q5,q6⟩:=q;exact⟨a,ds,xs,q1,q2,q3,q4,h.free q5,q6⟩
theorem SO.base(so:SO B Hb σ H δ O):SO B (hid H O) σ H δ O:=by
 refine⟨so.len,same_hidP,so.inj,λi=>?_⟩;have q:=so.slot i;cases e:δ[i]? with
 |none=>rw[e]at q;exact q
 |some t =>
  rw[e]at q;cases t with
  |no=>exact q
  |val d=>exact q
  |own d =>
   simp only[JAR]at q ⊢;obtain⟨a,ds,xs,q1,q2,q3,q4,q5,q6⟩:=q;exact⟨a,ds,xs,q1,q2,q3,q4,JBD ⟨i,q1⟩,q6⟩
noncomputable def setO(O:Ow)(i:Nat)(a:Option Addr):Ow:=λj=>if j=i then a else O j
theorem JA2{i:Nat}:setO O i a i=a:=if_pos rfl
theorem JAv{i j:Nat}(h:j≠i):setO O i a j=O j:=if_neg h
theorem JBA{i:Nat}:Same (hid H O) (hid H (setO O i none)):=λb o e=>by
 obtain⟨h1,h2⟩:=JA4 e;rw[hid,JAJ λ⟨j,hj⟩=>h1 ⟨j,by
  by_cases hji:j=i
  ·subst hji;rw[JA2]at hj;cases hj
  ·rw[JAv hji]at hj;exact hj⟩]
 exact h2
theorem JEt(so:SO B Hb σ H δ O){i:Nat}{d:D}(dn:Den B (hid H O) d v):SO B Hb (σ.set i (some v)) H (δ.set i (.val d)) (setO O i none):=by
 refine⟨by simpa using so.len,so.same,λj k a h1 h2=>?_,λj=>?_⟩
 ·by_cases hj:j=i
  ·subst hj;rw[JA2]at h1;cases h1
  ·by_cases hk:k=i
   ·subst hk;rw[JA2]at h2;cases h2
   ·rw[JAv hj]at h1;rw[JAv hk]at h2;exact so.inj j k a h1 h2
 ·by_cases hj:j=i
  ·subst hj
   by_cases hl:j<δ.length
   ·rw[q_z hl];simp only[JAR];exact⟨JA2,v,q_z (by rw[so.len];exact hl),Den.mono JBA d v dn⟩
   ·rw[List.getElem?_eq_none_iff.mpr (by simpa using hl)]
    exact JA2
  ·rw[q_A (Ne.symm hj)];have q:=so.slot j;cases e:δ[j]? with
   |none=>rw[e]at q;simp only[JAR]at q ⊢;rw[JAv hj];exact q
   |some t =>
    rw[e]at q;cases t with
    |no=>simp only[JAR]at q ⊢;rw[JAv hj];exact q
    |val d' =>
     simp only[JAR]at q ⊢;rw[JAv hj,q_A (Ne.symm hj)];obtain⟨h0,w,e2,dn'⟩:=q;exact⟨h0,w,e2,Den.mono JBA d' w dn'⟩
    |own d' =>
     simp only[JAR]at q ⊢;rw[JAv hj,q_A (Ne.symm hj)];obtain⟨a,ds,xs,q1,q2,q3,q4,q5,q6⟩:=q;exact⟨a,ds,xs,q1,q2,q3,q4,q5,OwnO.mono JBA ds xs q6⟩
theorem JDr(so:SO B Hb σ H δ O){Da:Addr}(hD:H Da=none):SO B Hb σ (upd H Da o) δ O:=by
 have own:∀j a,O j=some a->∃xs,H a=some xs:=λj a h=>by
  have q:=so.slot j;cases e:δ[j]? with
  |none=>rw[e]at q;simp only[JAR]at q;rw[h]at q;cases q
  |some t =>
   rw[e]at q;cases t with
   |no=>simp only[JAR]at q;rw[h]at q;cases q
   |val d=>simp only[JAR]at q;rw[h]at q;cases q.1
   |own d =>
    simp only[JAR]at q;obtain⟨a',ds',xs',e1,e2,e3,e4,_⟩:=q;rw[h]at e1;cases e1;exact⟨xs',e4⟩
 have s1:Same (hid H O) (hid (upd H Da o) O):=λb u e=>by
  obtain⟨h1,h2⟩:=JA4 e;have hb:b≠Da:=λz=>by rw[z,hD]at h2;cases h2
  rw[hid,JAJ h1,JAH hb];exact h2
 refine⟨so.len,so.same.trans (JBH hD),so.inj,λj=>?_⟩;have q:=so.slot j;cases e:δ[j]? with
 |none=>rw[e]at q;exact q
 |some t =>
  rw[e]at q;cases t with
  |no=>exact q
  |val d' =>
   simp only[JAR]at q ⊢;obtain⟨h0,w,e2,dn'⟩:=q;exact⟨h0,w,e2,Den.mono s1 d' w dn'⟩
  |own d' =>
   simp only[JAR]at q ⊢;obtain⟨a,ds',xs',q1,q2,q3,q4,q5,q6⟩:=q;exact⟨a,ds',xs',q1,q2,q3,by rw[JAH λz=>by rw[z,hD]at q4;cases q4];exact q4,q5,OwnO.mono s1 ds' xs' q6⟩
theorem JG5(so:SO B Hb σ H δ O){i:Nat}(hil:i<δ.length){Da:Addr}(hD:H Da=none)(dn:OwnO B (hid H O) ds xs):SO B Hb (σ.set i (some (.ref Da))) (upd H Da xs) (δ.set i (.own ds)) (setO O i (some Da)):=by
 have nO:∀j a,O j=some a->a≠Da:=λj a h z=>by
  subst z;have q:=so.slot j;cases e:δ[j]? with
  |none=>rw[e]at q;simp only[JAR]at q;rw[h]at q;cases q
  |some t =>
   rw[e]at q;cases t with
   |no=>simp only[JAR]at q;rw[h]at q;cases q
   |val d=>simp only[JAR]at q;rw[h]at q;cases q.1
   |own d =>
    simp only[JAR]at q;obtain⟨a',ds',xs',e1,e2,e3,e4,_⟩:=q;rw[h]at e1;cases e1;rw[hD]at e4;cases e4
 have s1:Same (hid H O) (hid (upd H Da xs) (setO O i (some Da))):=λb o e=>by
  obtain⟨h1,h2⟩:=JA4 e;have hb:b≠Da:=λz=>by rw[z,hD]at h2;cases h2
  rw[hid,JAJ λ⟨j,hj⟩=>by
   by_cases hji:j=i
   ·subst hji;rw[JA2]at hj;exact hb (Option.some.inj hj).symm
   ·rw[JAv hji]at hj;exact h1 ⟨j,hj⟩,JAH hb]
  exact h2
 refine⟨by simpa using so.len,so.same.trans (JBH hD),λj k a h1 h2=>?_,λj=>?_⟩
 ·by_cases hj:j=i
  ·subst hj;rw[JA2]at h1
   by_cases hk:k=j
   ·exact hk.symm
   ·rw[JAv hk]at h2;exact absurd (Option.some.inj h1).symm (nO k a h2)
  ·by_cases hk:k=i
   ·subst hk;rw[JA2]at h2;rw[JAv hj]at h1;exact absurd (Option.some.inj h2).symm (nO j a h1)
   ·rw[JAv hj]at h1;rw[JAv hk]at h2;exact so.inj j k a h1 h2
 ·by_cases hj:j=i
  ·subst hj
   by_cases hl:j<δ.length
   ·rw[q_z hl];simp only[JAR];exact⟨Da,ds,xs,JA2,rfl,q_z (by rw[so.len];exact hl),JAG,so.same.free hD,OwnO.mono s1 ds xs dn⟩
   ·exact absurd hil hl
  ·rw[q_A (Ne.symm hj)];have q:=so.slot j;cases e:δ[j]? with
   |none=>rw[e]at q;simp only[JAR]at q ⊢;rw[JAv hj];exact q
   |some t =>
    rw[e]at q;cases t with
    |no=>simp only[JAR]at q ⊢;rw[JAv hj];exact q
    |val d' =>
     simp only[JAR]at q ⊢;rw[JAv hj,q_A (Ne.symm hj)];obtain⟨h0,w,e2,dn'⟩:=q;exact⟨h0,w,e2,Den.mono s1 d' w dn'⟩
    |own d' =>
     simp only[JAR]at q ⊢;rw[JAv hj,q_A (Ne.symm hj)];obtain⟨a,ds',xs',q1,q2,q3,q4,q5,q6⟩:=q;exact⟨a,ds',xs',q1,q2,q3,by rw[JAH (nO j a q1)];exact q4,q5,OwnO.mono s1 ds' xs' q6⟩
theorem JDS(so:SO B Hb σ H δ O){i:Nat}{Da:Addr}(hD:H Da=none)(dn:OwnO B (hid H O) ds xs):∃O',SO B Hb (σ.set i (some (.ref Da))) (upd H Da xs) (δ.set i (.own ds)) O':=by
 by_cases hi:i<δ.length
 ·exact⟨_,JG5 so hi hD dn⟩
 ·rw[List.set_eq_of_length_le (l:=σ) (by rw[so.len];omega),List.set_eq_of_length_le (l:=δ) (by omega)]
  exact⟨O,JDr so hD⟩
theorem JGF(so:SO B Hb σ H δ O){i:Nat}{a:Addr}(ha:O i=some a)(dn:OwnO B (hid H O) ds xs):SO B Hb σ (upd H a xs) (δ.set i (.own ds)) O:=by
 have eh:hid (upd H a xs) O=hid H O:=by
  funext b
  by_cases hb:ownP O b
  ·rw[hid,hid,JBD hb,JBD hb]
  ·rw[hid,hid,JAJ hb,JAJ hb,JAH λz=>hb ⟨i,by rw[z];exact ha⟩]
 have own:=λ(j:Nat) (b:Addr) (h:O j=some b)=>so.inj i j;have hq:=so.slot i;obtain⟨ds0,xs0,e1,e2,e3,e4⟩:∃ds0 xs0,δ[i]? = some (.own ds0)/\σ[i]? = some (some (.ref a))/\H a=some xs0/\Hb a=none:=by
  cases e:δ[i]? with
  |none=>rw[e]at hq;simp only[JAR]at hq;rw[ha]at hq;cases hq
  |some t =>
   rw[e]at hq;cases t with
   |no=>simp only[JAR]at hq;rw[ha]at hq;cases hq
   |val d=>simp only[JAR]at hq;rw[ha]at hq;cases hq.1
   |own d =>
    simp only[JAR]at hq;obtain⟨a',ds',xs',f1,f2,f3,f4,f5,_⟩:=hq;rw[ha]at f1;cases f1;subst f2;exact⟨_,xs',rfl,f3,f4,f5⟩
 refine⟨by simpa using so.len,λb o e=>?_,so.inj,λj=>?_⟩
 ·rw[JAH λz=>by rw[z,e4]at e;cases e]
  exact so.same b o e
 ·by_cases hj:j=i
  ·subst hj;rw[q_z (q_p.mp e1).1];simp only[JAR];exact⟨a,ds,xs,ha,rfl,e2,JAG,e4,by rw[eh];exact dn⟩
  ·rw[q_A (Ne.symm hj)];have q:=so.slot j;cases e:δ[j]? with
   |none=>rw[e]at q;exact q
   |some t =>
    rw[e]at q;cases t with
    |no=>exact q
    |val d' =>
     simp only[JAR]at q ⊢;rw[eh];exact q
    |own d' =>
     simp only[JAR]at q ⊢;obtain⟨a',ds',xs',q1,q2,q3,q4,q5,q6⟩:=q;refine⟨a',ds',xs',q1,q2,q3,?_,q5,by rw[eh];exact q6⟩
     rw[JAH λz=>hj (so.inj j i a (by rw[<-z];exact q1) ha)]
     exact q4
def RSF(X:Cx)(B:Bs)(C:Cn)(XX:Nat->Hp->Prop)(x:E):TE:=λσ H Q=>∃δ O Hb,Dm X.H₀ Hb/\SO B Hb σ H δ O/\(match ev C x δ with
 |.ok d=>∀Da ds xs H1 O',d=ds->SO B Hb σ H1 (after x d δ) O'->H1 Da=none->OwnO B (hid H1 O') ds xs->Q (.ref Da) (upd H1 Da xs)
 |.exc c=>XX c Hb
 |.bad=>False)
theorem JFp{Da:Addr}(h:¬P Da):mixP H (upd H1 Da o) P=upd (mixP H H1 P) Da o:=by
 funext b
 by_cases hb:b=Da
 ·subst hb;rw[JAO h,JAG,JAG]
 ·rw[JAH hb]
  by_cases hp:P b
  ·rw[JBx hp,JBx hp]
  ·rw[JAO hp,JAO hp,JAH hb]
theorem JEZ(so:SO B Hb σ H δ O)(sm:Same (hidP H (unP x O)) H1)(hz:∀a,unP x O a->H1 a=none)(dn:OwnO B H1 ds xs) :
  ∃O',SO B Hb σ (mixP H H1 (unP x O)) (after x ds δ) O'/\OwnO B (hid (mixP H H1 (unP x O)) O') ds xs:=by
 unfold after
 split
 ·exact⟨_,JFu so sm hz,OwnO.mono (JBC hz) ds xs dn⟩
 ·rename_i hb;have hu:JAP x 0 δ=false:=by
   cases q:JAP x 0 δ with
   |false=>rfl
   |true=>rw[q]at hb;exact absurd (by rw[dn.nl];rfl) hb
  refine⟨O,JDa so sm hz,OwnO.mono (λb o e=>?_) ds xs dn⟩;have hb':¬unP x O b:=λh=>by rw[hz b h]at e;cases e
  have hb2:¬ownP O b:=λ⟨i,h⟩=>by
   obtain⟨ds,xs,e1,_⟩:=so.own h;refine hb' ⟨i,h,?_⟩;cases q:x.uses i with
   |false=>rfl
   |true =>
    have:=JBi x δ 0 i _ hu e1 (by rw[Nat.zero_add];exact q)
    cases this
  rw[hid,JAJ hb2,JAO hb'];exact e
theorem JK0(g:Gk X B C CX XX G){e:Expr}(he:PE X e (REF B C XX x)):PE X e (RSF X B C XX x):=by
 intro pins s σ H Q I ⟨δ,O,Hb,hb,so,k⟩;have J0:=JBI (ps:=JBX x O δ.length s.heap) I (JAj (x:=x) hb so) JAr;have hev:=(agree C x δ (JAZ x 0 δ) JBV).1;cases q:ev C x δ with
 |ok d =>
  rw[q]at k;refine thn (he _ s σ _ (λv H1=>∃Da ds xs H2,v=.ref Da/\H1=upd H2 Da xs/\d=ds/\Same (hidP H (unP x O)) H2/\H2 Da=none/\OwnO B H2 ds xs) J0
   ⟨JAZ x 0 δ,JAg so,by rw[<-hev,q];exact λDa ds xs H1 e s1 hD dn=>⟨Da,ds,xs,H1,rfl,rfl,e,s1,hD,dn⟩⟩) λu s1 ⟨v,H1,J,r,Da,ds,xs,H2,e1,e2,e3,sm,hD,dn⟩=>?_
  subst e1;subst e2;subst e3;obtain⟨I',hz⟩:=JAs I J (JAj hb so) (JAi I so);have nD:¬unP x O Da:=λh=>by have:=hz Da h;rw[JAG]at this;cases this
  have hz2:∀a,unP x O a->H2 a=none:=λa h=>by
   have:=hz a h
   rwa [JAH λz=>nD (by rw[<-z];exact h)]at this
  rw[JFp nD]at I';obtain⟨O',so',dn'⟩:=JEZ so sm hz2 dn;exact⟨_,_,I',r,k Da _ xs _ O' rfl so' (by rw[JAO nD];exact hD) dn'⟩
 |exc c =>
  rw[q]at k;exact thn (he _ s σ _ (λv H1=>False) J0 ⟨JAZ x 0 δ,JAg so,by rw[<-hev,q];exact g.anti c _ _ ((JAe so).trans same_un) k⟩) λu s1 ⟨v,H1,J,r,f⟩=>f.elim
 |bad=>rw[q]at k;exact k.elim
theorem JO1(g:Gk X B C CX XX G){st:Stmt}{i:Nat}(he:PS X st (tAsg (REF B C XX x) (JFA i))):PS X st (tAsg (RSF X B C XX x) (JFA i)):=by
 intro pins s σ H D I h;obtain⟨δ,O,Hb,hb,so,k⟩:=h;have J0:=JBI (ps:=JBX x O δ.length s.heap) I (JAj (x:=x) hb so) JAr;have hev:=(agree C x δ (JAZ x 0 δ) JBV).1;cases q:ev C x δ with
 |ok d =>
  rw[q]at k;refine thn (he _ s σ _ { nx:=λσ' H1=>∃Da ds xs H2,σ'=σ.set i (some (.ref Da))/\H1=upd H2 Da xs/\d=ds/\Same (hidP H (unP x O)) H2/\H2 Da=none/\OwnO B H2 ds xs,rt:=λ_ _=>False } J0
   ⟨JAZ x 0 δ,JAg so,by rw[<-hev,q];exact λDa ds xs H1 e s1 hD dn=>⟨Da,ds,xs,H1,rfl,rfl,e,s1,hD,dn⟩⟩) λf s1 hf=>?_
  cases f with
  |next =>
   obtain⟨σ',H1,J,Da,ds,xs,H2,e1,e2,e3,sm,hD,dn⟩:=hf;subst e1;subst e2;subst e3;obtain⟨I',hz⟩:=JAs I J (JAj hb so) (JAi I so);have nD:¬unP x O Da:=λh=>by have:=hz Da h;rw[JAG]at this;cases this
   have hz2:∀a,unP x O a->H2 a=none:=λa h=>by
    have:=hz a h
    rwa [JAH λz=>nD (by rw[<-z];exact h)]at this
   rw[JFp nD]at I';obtain⟨O',so',dn'⟩:=JEZ so sm hz2 dn;exact⟨_,_,I',k Da _ xs _ O' rfl so' (by rw[JAO nD];exact hD) dn'⟩
  |ret v=>obtain⟨_,_,_,_,_,f⟩:=hf;exact f.elim
  |brk=>obtain⟨_,_,_,f⟩:=hf;exact fF f
  |cont=>obtain⟨_,_,_,f⟩:=hf;exact fF f
 |exc c =>
  rw[q]at k;refine thn (he _ s σ _ { nx:=λ_ _=>False,rt:=λ_ _=>False } J0 ⟨JAZ x 0 δ,JAg so,by rw[<-hev,q];exact g.anti c _ _ ((JAe so).trans same_un) k⟩) λf s1 hf=>?_
  cases f with
  |next=>obtain⟨_,_,_,f⟩:=hf;exact f.elim
  |ret v=>obtain⟨_,_,_,_,_,f⟩:=hf;exact f.elim
  |brk=>obtain⟨_,_,_,f⟩:=hf;exact fF f
  |cont=>obtain⟨_,_,_,f⟩:=hf;exact fF f
 |bad=>rw[q]at k;exact k.elim
end
section
variable{X:Cx}{B:Bs}{C:Cn}{CX:CXT}{XX:Nat->Hp->Prop}{G:List (Str×GK)}{x:E}{pos:Pos}
theorem PS.imp{st:Stmt}{t t':TS}(h:PS X st t)(i:∀D σ H,t' D σ H->t D σ H):PS X st t':=λpins s σ H D I q=>h pins s σ H D I (i D σ H q)
theorem PSs.imp{st:List Stmt}{t t':TS}(h:PSs X st t)(i:∀D σ H,t' D σ H->t D σ H):PSs X st t':=λpins s σ H D I q=>h pins s σ H D I (i D σ H q)
theorem JRr:PSs X [] (RSt X B C XX .nil):=PSs.imp JNW λD σ H ⟨δ,O,Hb,hb,so,k⟩=>k σ H O so
theorem JMs{st:Stmt}{r:List Stmt}{a b:S}(h1:PS X st (RSt X B C XX a))(h2:PSs X r (RSt X B C XX b)):PSs X (st::r) (RSt X B C XX (.cons a b)) :=
 PSs.imp (JKo h1 h2) λD σ H ⟨δ,O,Hb,hb,so,k⟩=>by
  refine⟨δ,O,Hb,hb,so,?_⟩;simp only[exec]at k;cases q:exec C a δ with
  |nx δ'=>rw[q]at k;exact λσ' H' O' so'=>⟨δ',O',Hb,hb,so',k⟩
  |rt d=>rw[q]at k;exact k
  |bk d=>rw[q]at k;exact k
  |ct d=>rw[q]at k;exact k
  |ex c=>rw[q]at k;exact k
  |bad=>rw[q]at k;exact k
theorem JMh:PS X (.Pass pos) (RSt X B C XX .pass):=PS.imp JOk λD σ H ⟨δ,O,Hb,hb,so,k⟩=>k σ H O so
theorem JQo:PS X (.Break pos) (RSt X B C XX .brk):=PS.imp JKb λD σ H ⟨δ,O,Hb,hb,so,k⟩=>k σ H O so
theorem JQk:PS X (.Continue pos) (RSt X B C XX .cnt):=PS.imp JFm λD σ H ⟨δ,O,Hb,hb,so,k⟩=>k σ H O so
theorem JRG{y:Str}{j:Nat}{pos':Pos}:PS X (.Expr (.Constant (.str y) j pos) pos') (RSt X B C XX .pass):=PS.imp JPt λD σ H ⟨δ,O,Hb,hb,so,k⟩=>k σ H O so
theorem JM3:PS X (.Return none pos) (RSt X B C XX .retN):=PS.imp JOc λD σ H ⟨δ,O,Hb,hb,so,k⟩=>k .non H so.same (by simp only[Den])
theorem JR3(g:Gk X B C CX XX G){e:Expr}(he:PE X e (RE B C XX x)):PS X (.Return (some e) pos) (RSt X B C XX (.ret x)) :=
 PS.imp (JPn (JG6 g he)) λD σ H ⟨δ,O,Hb,hb,so,k⟩=>by
  refine⟨δ,O,Hb,hb,so,?_⟩;simp only[exec]at k;cases q:ev C x δ with
  |ok d=>rw[q]at k;exact λv H' O' so' dn=>k v H' so'.same (Den.mono same_hidP d v dn)
  |exc c=>rw[q]at k;exact k
  |bad=>rw[q]at k;exact k
theorem JSG(g:Gk X B C CX XX G){c:Expr}{a b:List Stmt}{s1 s2:S}(hc:PT X c (RT B C XX x))(ha:PSs X a (RSt X B C XX s1))(hb:PSs X b (RSt X B C XX s2)):PS X (.If c a b pos) (RSt X B C XX (.ife x s1 s2)) :=
 PS.imp (ps_if (JMS g hc) ha hb) λD σ H ⟨δ,O,Hb,hb,so,k⟩=>by
  refine⟨δ,O,Hb,hb,so,?_⟩;simp only[exec]at k;cases q:evT C x δ with
  |ok t =>
   rw[q]at k;intro H' so';cases t with
   |true=>exact iteT ⟨δ,O,Hb,hb,so',k⟩
   |false=>exact iteF ⟨δ,O,Hb,hb,so',k⟩
  |exc c=>rw[q]at k;exact k
  |bad=>rw[q]at k;exact k
theorem JON(g:Gk X B C CX XX G){e:Expr}(he:PE X e (RE B C XX x))(hs:swapsWith e none pos.line X.env=pure false):PS X (.Expr e pos) (RSt X B C XX (.drop x)) :=
 PS.imp (JEN (JG6 g he) hs) λD σ H ⟨δ,O,Hb,hb,so,k⟩=>by
  refine⟨δ,O,Hb,hb,so,?_⟩;simp only[exec]at k;cases q:ev C x δ with
  |ok d=>rw[q]at k;exact λv H' O' so' dn=>k σ H' O' so'
  |exc c=>rw[q]at k;exact k
  |bad=>rw[q]at k;exact k
theorem JRO(g:Gk X B C CX XX G){e:Expr}{i:Nat}{nm:Str}{pos':Pos}(he:PE X e (RE B C XX x))(hf:x.fresh=false)(hnd:X.N.Nodup)(hN:X.N[i]? = some nm)(hx:Loc X.env.scope nm)(hs:swapsWith e (some (.Name nm pos')) pos.line X.env=pure false)
  (hfn:X.fn nm=true\/X.env.scope.names.lookup nm=some .local):PS X (.Assign [.Name nm pos'] e pos) (RSt X B C XX (.asg i x)) :=
 PS.imp (JKq hnd hN hx (JG6 g he) hs hfn) λD σ H ⟨δ,O,Hb,hb,so,k⟩=>by
  refine⟨δ,O,Hb,hb,so,?_⟩;simp only[exec,hf,q_v,if_false]at k;cases q:ev C x δ with
  |ok d=>rw[q]at k;exact λv H' O' so' dn=>k _ H' _ (JEt so' dn)
  |exc c=>rw[q]at k;exact k
  |bad=>rw[q]at k;exact k
theorem JFN{i:Nat}(hf:x.fresh=true){D:Ends}{σ:St}{H:Hp}(h:RSt X B C XX (.asg i x) D σ H):tAsg (RSF X B C XX x) (JFA i) D σ H:=by
 obtain⟨δ,O,Hb,hb,so,k⟩:=h;refine⟨δ,O,Hb,hb,so,?_⟩;simp only[exec,hf,if_true]at k;cases q:ev C x δ with
 |ok d =>
  rw[q]at k;intro Da ds xs H1 O' e so' hD dn;subst e;obtain⟨O2,so2⟩:=JDS (i:=i) so' hD dn;exact k _ _ O2 so2
 |exc c=>rw[q]at k;exact k
 |bad=>rw[q]at k;exact k
theorem JHl(g:Gk X B C CX XX G){e:Expr}{i:Nat}(he:PE X e (REF B C XX x))(hf:x.fresh=true)(hnd:X.N.Nodup)(hN:X.N[i]? = some nm)(hx:Loc X.env.scope nm)(hs:swapsWith e (some (.Name nm pos')) pos.line X.env=pure false)
  (hfn:X.fn nm=true\/X.env.scope.names.lookup nm=some .local):PS X (.Assign [.Name nm pos'] e pos) (RSt X B C XX (.asg i x)) :=
 PS.imp (JKq hnd hN hx (JK0 g he) hs hfn) λD σ H h=>JFN hf h
theorem JOL(g:Gk X B C CX XX G){st:Stmt}{i:Nat}(h:PS X st (tAsg (REF B C XX x) (JFA i)))(hf:x.fresh=true):PS X st (RSt X B C XX (.asg i x)) :=
 PS.imp (JO1 g h) λD σ H h=>JFN hf h
theorem JPi(g:Gk X B C CX XX G)(hp:PassesOwn (model X.prog X.w) X.A X.env X.xe){c:Expr}{body:List Stmt}{b:S}(hc:PT X c (RT B C XX x))(hb:PSs X body (RSt X B C XX b)):PS X (.While c body [] pos) (RSt X B C XX (.whl x b)) :=
 PS.imp (JJY hp (JMS g hc) hb) λD σ H ⟨δ,O,Hb,hb0,so,k⟩=>by
  simp only[exec]at k;unfold JBt at k
  split at k
  ·rename_i hex;refine⟨λm σ H=>∃δ O,SO B Hb σ H δ O/\JBe X B XX Hb D (JAn (evT C x) (exec C b) m δ),⟨hex.choose,δ,O,so,k⟩,?_⟩;rintro m σ H ⟨δ,O,so,k⟩;cases m with
   |zero=>exact fF k
   |succ m =>
    refine⟨δ,O,Hb,hb0,so,?_⟩;simp only[JAn]at k;cases q:evT C x δ with
    |ok t =>
     rw[q]at k;intro H' so';cases t with
     |true =>
      refine iteT ⟨λσ' H'=>∃δ O,SO B Hb σ' H' δ O/\JBe X B XX Hb D (JAn (evT C x) (exec C b) m δ),λσ' H' h=>⟨m,Nat.lt_succ_self m,h⟩,δ,O,Hb,hb0,so',?_⟩;simp only at k;cases q2:exec C b δ with
      |nx δ'=>rw[q2]at k;exact λσ2 H2 O2 so2=>⟨δ',O2,so2,k⟩
      |ct δ'=>rw[q2]at k;exact λσ2 H2 O2 so2=>⟨δ',O2,so2,k⟩
      |bk δ'=>rw[q2]at k;exact k
      |rt d=>rw[q2]at k;exact k
      |ex c=>rw[q2]at k;exact k
      |bad=>rw[q2]at k;exact k
     |false=>exact iteF (k σ H' O so')
    |exc c=>rw[q]at k;exact k
    |bad=>rw[q]at k;exact k
  ·exact fF k
theorem JRZ(g:Gk X B C CX XX G){put:D->Env->Option Env}{gt:TG}{tb:TS}{b:S}{De:Ends}{σ:St}{H1:Hp}{J:It}{ds:List D}{δ:Env}{O:Ow}{Hb:Hp}(hb:Dm X.H₀ Hb)(so:SO B Hb σ H1 δ O)(io:ItOk B J (hid H1 O) ds)
  (hput:∀(d:D) (v:V) (σ:St) (H:Hp) (δ δ':Env) (O:Ow) (Hb':Hp) (Q:St->Hp->Prop),SO B Hb' σ H δ O->Den B (hid H O) d v->put d δ=some δ'->(∀σ' O',SO B Hb' σ' H δ' O'->Q σ' H)->gt v σ H Q)
  (htb:∀De σ H,RSt X B C XX b De σ H->tb De σ H) (k:JBe X B XX Hb De (forL put (exec C b) ds δ)) :
  ∃W:Nat->Nat->St->Hp->Prop,(∃m,W 0 m σ H1)/\∀i m σ H,W i m σ H->(J.stop i H/\De.nx σ H)\/(J.go i H/\∃N:St->Hp->Prop,(∀σ' H',N σ' H'->∃m',m'<m/\W (i+1) m' σ' H')/\∀x H',J.yld i H x H'->gt x σ H' λσ2 H2=>tb { De with nx:=N,ct:=N,bk:=De.nx } σ2 H2):=by
 have hb1:Same Hb (hid H1 O):=JAe so;refine⟨λi m σ H=>m=ds.length - i/\i<=ds.length/\∃δ O',SO B (hid H1 O) σ H δ O'/\JBe X B XX Hb De (forL put (exec C b) (ds.drop i) δ),⟨ds.length,by simp,Nat.zero_le _,δ,O,so.base,by simpa using k⟩,?_⟩
 rintro i m σ H ⟨rfl,hi,δ2,O2,so2,k2⟩
 by_cases hlt:i<ds.length
 ·right;have hd:ds[i]? = some ds[i]:=by simp[hlt]
  obtain⟨go,yl⟩:=(io H (Same.kp so2.same) i).1 ds[i] hd;refine⟨go,λσ' H'=>∃δ O',SO B (hid H1 O) σ' H' δ O'/\JBe X B XX Hb De (forL put (exec C b) (ds.drop (i+1)) δ),λσ' H' ⟨δ3,O3,so3,k3⟩=>⟨ds.length - (i+1),by omega,rfl,hlt,δ3,O3,so3,k3⟩,λv H' y=>?_⟩
  obtain⟨so3',dn2⟩:SO B (hid H1 O) σ H' δ2 O2/\Den B (hid H' O2) ds[i] v:=by
    rcases yl v H' y with ⟨e,dn⟩|⟨p,xs,es,hp,e,ex,ed,dl⟩
    ·subst e;exact⟨so2,Den.mono (JAe so2) _ v dn⟩
    ·subst e;subst ex;have s3:=JDr so2 (o:=.tup xs) hp;refine⟨s3,?_⟩;rw[ed];simp only[Den];refine⟨p,xs,rfl,SqT.of ?_,DenL.mono (JAe s3) _ _ dl⟩;rw[hid,JAJ λ⟨j,hj⟩=>by obtain⟨_,_,_,_,e5,_⟩:=so2.own hj;rw[hp]at e5;cases e5]
     exact JAG
  rw[JDY hlt]at k2;unfold forL at k2;cases qp:put ds[i] δ2 with
  |none=>rw[qp]at k2;exact fF k2
  |some δ3 =>
    rw[qp]at k2;refine hput ds[i] v σ H' δ2 δ3 O2 _ _ so3' dn2 qp λσ3 O3 so3=>?_;refine htb _ _ _ ⟨δ3,O3,_,hb.trans hb1,so3,?_⟩;simp only at k2;cases q2:exec C b δ3 with
    |nx δ'=>rw[q2]at k2;exact λσ4 H4 O4 so4=>⟨δ',O4,so4,k2⟩
    |ct δ'=>rw[q2]at k2;exact λσ4 H4 O4 so4=>⟨δ',O4,so4,k2⟩
    |bk δ'=>rw[q2]at k2;exact λσ4 H4 O4 so4=>k2 σ4 H4 O4 (so4.weak hb1)
    |rt d=>rw[q2]at k2;exact λv4 H4 s4 d4=>k2 v4 H4 (hb1.trans s4) d4
    |ex c=>rw[q2]at k2;exact g.anti c Hb _ hb1 k2
    |bad=>rw[q2]at k2;exact k2
 ·left;have ei:i=ds.length:=by omega
  refine⟨(io H (Same.kp so2.same) i).2 (by omega),?_⟩
  rw[ei,List.drop_length]at k2;exact k2 σ H O2 (so2.weak hb1)
theorem JNd[Cool G](g:Gk X B C CX XX G)(hp:PassesOwn (model X.prog X.w) X.A X.env X.xe){iter:Expr}{body:List Stmt}{b:S}{i:Nat}{nm:Str}{pos':Pos}(hi:PI X (.Name nm pos') iter (RI B C XX x))(hb:PSs X body (RSt X B C XX b))(hnd:X.N.Nodup)(hN:X.N[i]? = some nm)(hx:Loc X.env.scope nm)
  (hfn:X.fn nm=true\/X.env.scope.names.lookup nm=some .local) (hs:∀v,foldedSetIterable iter X.env v=pure v):PS X (.For (.Name nm pos') iter body [] pos) (RSt X B C XX (.for1 i x b)) :=
 PS.imp (JOr hp (g.calm inferInstance) (JL9 g hi) (JEK hnd hN hx hfn) hb hs) λDe σ H ⟨δ,O,Hb,hb0,so,k⟩=>by
  refine⟨δ,O,Hb,hb0,so,?_⟩;simp only[exec]at k;cases q:evI C x δ with
  |ok ds =>
    rw[q]at k;intro J H' O' so' io;refine JRZ g hb0 so' io (put:=put1 i) (λd v σ H δ δ' O Hb' Q so dn e h=>?_) (λ_ _ _ h=>h) k;have e':δ.set i (.val d)=δ':=Option.some.inj e;subst e';exact h _ _ (JEt so dn)
  |exc c=>rw[q]at k;exact k
  |bad=>rw[q]at k;exact k
end
section
variable{prog:Program}{w:World}{A:Around}{E:Vq}
theorem JEk{it t:Addr}(hne:t≠it):∀(n i:Nat) (s:Shared) (Q:List Value->Shared->Prop),s.heap.IsListIter it t i->s.heap.IsList t items->i+n<=items.size ->
  (∀h':Heap,h'.IsListIter it t (i+n)->Heap.SameBut it s.heap h'->Q ((items.toList.drop i).take n) { s with heap:=h' })->wpAny (model prog w) A (draw (.ref it) n) Q E s
 |0,i,s,Q,hit,_,_,hQ=>by
  show wpAny _ _ (pure []) Q E s;exact q_e (by simpa using hQ s.heap hit (Heap.SameBut.refl ..))
 |n+1,i,s,Q,hit,ht,hle,hQ=>by
  have hlt:i<items.size:=by omega
  show wpAny _ _ (pyNext (.ref it) >>= _) Q E s;refine q_b (wpAny_pyNext_list_item hit ht (x:=items[i]) (by simp[hlt]) λh₁ hit₁ hs₁=>?_)
  refine q_b (wpAny_holding (JEk hne n (i+1) _ _ hit₁ (ht.extBut hs₁.extBut hne) (by omega) λh₂ hit₂ hs₂=>q_e ?_))
  have hd:items.toList.drop i=items[i]::items.toList.drop (i+1):=by simp[List.drop_eq_getElem_cons,hlt]
  have:=hQ h₂ (by rw[show i+(n+1)=i+1+n by omega];exact hit₂) (hs₁.trans hs₂)
  rw[hd,List.take_succ_cons]at this;exact this
theorem JCU{x1:Nat}{t:Addr}{Q:Unit->Shared->Prop}(hh:A.handled=none)(ht:s.heap.IsList t items)
  (hn:(assignEach elts env).length=items.size) (hstar:(assignEach elts env).findIdx? (·.1)=none)
  (h:∀h',Heap.ExtBut s.heap.objs.size s.heap h'->wpAny (model prog w) A (assignInOrder ((assignEach elts env).map (·.2)) items.toList) Q E { s with heap:=h' }) :
  wpAny (model prog w) A (assign (.Tuple elts x1 pos) env (.ref t)) Q E s:=by
 have hlt:t≠s.heap.objs.size:=by obtain⟨o,ho,_⟩:=ht;exact q_l (q_h ho)
 rw[assign_Tuple];refine q_b (wpAny_standAt ?_);unfold unpack;rw[hn,hstar];refine q_b (wpAny_holding ?_);unfold unpackItems;refine q_b ?_;unfold notIterableAtAll;refine q_b (wpAny_specialOf ht.typeIs slot_list_iter.lookup ?_);refine q_e ?_;simp only[q_v,if_false];refine q_b (wpAny_holding (wpAny_pyIter_list ht ?_));refine q_b (wpAny_holding (JEk hlt items.size 0 _ _ ⟨_,q_k _ rfl,rfl,rfl⟩ (ht.extBut (λb o _ e=>q_c _ e) (q_l (q_E (by obtain⟨o,ho,_⟩:=ht;exact q_h ho)))) (by omega) λh₁ hit₁ hs₁=>?_))
 have hall:List.take items.size (List.drop 0 items.toList)=items.toList:=by
  rw[List.drop_zero];exact List.take_of_length_le (by simp)
 rw[hall];rw[if_neg (by simp)]
 have ht1:h₁.IsList t items:=by
  refine Heap.IsList.extBut ?_ hs₁.extBut hlt;exact ht.extBut (λb o _ e=>q_c _ e) hlt
 refine q_b (wpAny_holding (wpAny_pyNext_list_end hh hit₁ ht1 (by simp) λh₂ he₂=>?_))
 simp only[Option.isSome_none,q_v,if_false];refine q_e (h h₂ λb o hb e=>he₂ b o hb (hs₁.extBut b o hb (q_c _ e)))
end
noncomputable def setV:List Nat->List V->St->St
 |i::is,v::vs,σ=>setV is vs (σ.set i (some v))
 |_,_,σ=>σ
section
variable{X:Cx}{B:Bs}{C:Cn}{CX:CXT}{XX:Nat->Hp->Prop}{G:List (Str×GK)}{x:E}{pos:Pos}{names:Nq}{N:List Str}
theorem JFG(hn:X.env.scope.names=names)(h:JEO (names.lookup nm)=true):L2.Loc X.env.scope nm:=by
 unfold L2.Loc;rw[hn];cases q:names.lookup nm with
 |none=>rw[q]at h;cases h
 |some k=>cases k<;>simp_all [JEO]
theorem slot_of{i:Nat}(hn:X.env.scope.names=names)(hN:X.N=N)(h:slot names N nm=some i):X.N[i]? = some nm/\L2.Loc X.env.scope nm:=by
 unfold slot at h
 split at h
 ·rename_i hb;exact⟨by rw[hN];exact JDJ h,JFG hn hb⟩
 ·cases h
theorem JBb{e:Expr}(h:slots names N (e::r)=some is):∃nm p i js,e=.Name nm p/\slot names N nm=some i/\slots names N r=some js/\is=i::js:=by
 unfold slots at h
 split at h
 ·rename_i q;cases q
 ·rename_i q;cases q;obtain⟨i,h1,h⟩:=q_a.mp h;obtain⟨js,h2,h⟩:=q_a.mp h;cases h;exact⟨_,_,i,js,rfl,h1,h2,rfl⟩
 ·cases h
theorem JCk:∀ {ts:List Expr}{is:List Nat},slots names N ts=some is->(assignEach ts env).findIdx? (·.1)=none/\(assignEach ts env).length=is.length
 | [],is,h=>by unfold slots at h;cases h;exact⟨rfl,rfl⟩
 |e::r,is,h=>by
  obtain⟨nm,p,i,js,rfl,h1,h2,rfl⟩:=JBb h;obtain⟨q1,q2⟩:=JCk (env:=env) h2;refine⟨?_,by show(assignEach r env).length+1=_;rw[q2];rfl⟩
  show List.findIdx? (·.1) ((false,assign (.Name nm p) env)::assignEach r env)=none;rw[List.findIdx?_cons];simp[q1]
theorem JDZ(hn:X.env.scope.names=names)(hN:X.N=N)(hnd:N.Nodup)(hfn:∀nm,X.fn nm=true\/X.env.scope.names.lookup nm≠some .cell):∀ {ts:List Expr}{is:List Nat},slots names N ts=some is->PGs X ts (λvs σ H Q=>vs.length=is.length/\Q (setV is vs σ) H)
 | [],is,h=>by
  unfold slots at h;cases h;intro pins s σ H vs us Q I r ⟨e,q⟩;refine JOD pins s σ H vs us Q I r ⟨q_B.mp e,?_⟩;cases vs<;>exact q
 |e::r,is,h=>by
  obtain⟨nm,p,i,js,rfl,h1,h2,rfl⟩:=JBb h;obtain⟨q1,q2⟩:=slot_of hn hN h1;have hf:X.fn nm=true\/X.env.scope.names.lookup nm=some .local:=by
   rcases hfn nm with z|z
   ·exact .inl z
   ·rcases q2 with k|k
    ·exact .inr k
    ·exact absurd k z
  intro pins s σ H vs us Q I rv ⟨e,q⟩;refine JJm (JEK (by rw[hN];exact hnd) q1 q2 hf) (JDZ hn hN hnd hfn h2) rfl pins s σ H vs us Q I rv ?_
  match vs,e,q with
  |v::vr,e,q=>exact⟨v,vr,rfl,by simpa using e,q⟩
theorem JRh[Cool G](g:Gk X B C CX XX G){k n:Nat}(h:PGs X es t)(hn:(assignEach es X.env).length=n)(hst:(assignEach es X.env).findIdx? (·.1)=none) :
  PG X (.Tuple es k pos) (λv σ H Q=>∃a xs,v=.ref a/\(SqT X.K H a xs\/SqL X.K H a xs)/\xs.length=n/\t xs σ H Q):=by
 intro pins s σ H v u Q I r ⟨a,xs,e1,hq,hl,hw⟩;rcases hq with hq|hq
 ·exact JLK (g.calm inferInstance) h hn hst pins s σ H v u Q I r ⟨a,xs,e1,hq,hl,hw⟩
 ·subst e1;cases r;obtain⟨its,rv,⟨o,m,ho,hc,hd,hs⟩,hz⟩:=I.list hq;refine JCU (I.ok.hd (g.calm inferInstance)) (items:=its.toArray) ⟨o,ho,hc,m,hs⟩ (by simp[hn,<-hl,rv.length]) hst λh' hx=>?_
  have I1:Inv X pins σ H { s with heap:=h' }:=I.kept (t':=s.toks) λb o e=>hx b o (q_l (q_h e)) e
  exact h pins _ σ H xs _ Q I1 (by simpa using rv) hw
theorem JBs:∀(is:List Nat) (ds:List D) (vs:List V) {Hb:Hp}{σ:St}{H:Hp}{δ:Env}{O:Ow},SO B Hb σ H δ O->DenL B (hid H O) ds vs->∃O',SO B Hb (setV is vs σ) H (JBW is ds δ) O'
 | [],ds,vs,_,_,_,_,O,so,dn=>by cases ds<;>cases vs<;>exact⟨O,so⟩
 |i::is,[],vs,_,_,_,_,O,so,dn=>by
  simp only[DenL]at dn;subst dn;exact⟨O,so⟩
 |i::is,d::ds,vs,_,_,_,_,O,so,dn=>by
  simp only[DenL]at dn;obtain⟨v,r,e,q,l⟩:=dn;subst e;exact JBs is ds r (JEt (i:=i) so q) (DenL.mono JBA ds r l)
theorem JFV{n c:Nat}{d:D}:JAq n d≠.exc c:=by
 cases d<;>simp only[JAq]<;>(try split)<;>(intro h;cases h)
theorem JRd[Cool G](g:Gk X B C CX XX G){e:Expr}{k:Nat}{pt:Pos}(he:PE X e (RE B C XX x))(hn:X.env.scope.names=names)(hN:X.N=N)(hnd:N.Nodup)(hfn:∀nm,X.fn nm=true\/X.env.scope.names.lookup nm≠some .cell)
  (h:slots names N ts=some is) (hs:swapsWithSole [.Tuple ts k pt] e pos.line X.env=pure false) (hw:swappedStores [.Tuple ts k pt] e X.env=pure none):PS X (.Assign [.Tuple ts k pt] e pos) (RSt X B C XX (.unp is x)):=by
 obtain⟨q1,q2⟩:=JCk (env:=X.env) h;refine PS.imp (JKx (JG6 g he) (JRh g (JDZ hn hN hnd hfn h) q2 q1) hs hw rfl) λDe σ H ⟨δ,O,Hb,hb,so,kk⟩=>?_;refine⟨δ,O,Hb,hb,so,?_⟩;simp only[exec]at kk;cases q:ev C x δ with
 |ok d =>
  rw[q]at kk;intro v H' O' so' dn;have kk:JBe X B XX Hb De (stepR (JAq is.length d) λxs=>Fl.nx (JBW is xs (after x d δ))):=kk;cases qu:JAq is.length d with
  |ok ds =>
    rw[qu]at kk;have hl:ds.length=is.length/\∃a xs,v=.ref a/\(SqT X.K H' a xs\/SqL X.K H' a xs)/\DenL B (hid H' O') ds xs:=by
     cases d with
     |tuple ys =>
      simp only[JAq]at qu
      split at qu
      ·rename_i hy;cases qu;simp only[Den]at dn;obtain⟨a,xs,e1,e2,e3⟩:=dn;exact⟨hy,a,xs,e1,.inl (JRM same_hidP (g.K▸e2)),e3⟩
      ·cases qu
     |list ys =>
      simp only[JAq]at qu
      split at qu
      ·rename_i hy;cases qu;simp only[Den]at dn;obtain⟨a,xs,e1,e2,e3⟩:=dn;exact⟨hy,a,xs,e1,.inr (same_hidP.seq (g.K▸e2)),e3⟩
      ·cases qu
     |_=>simp only[JAq]at qu;cases qu
    obtain⟨hl1,a,xs,e1,e2,e3⟩:=hl;have hlx:=DenL.len ds xs e3;obtain⟨O2,so2⟩:=JBs is ds xs so' e3;exact⟨a,xs,e1,e2,by omega,by omega,kk _ _ O2 so2⟩
  |exc c=>exact(JFV qu).elim
  |bad=>rw[qu]at kk;exact kk.elim
 |exc c=>rw[q]at kk;exact kk
 |bad=>rw[q]at kk;exact kk
def RAS(X:Cx)(B:Bs)(C:Cn)(XX:Nat->Hp->Prop)(x:E):TA:=λσ H Q=>∃δ O Hb,Dm X.H₀ Hb/\SO B Hb σ H δ O/\(match evA C x δ with
 |.ok ds=>∀vs H' O',SO B Hb σ H' (after (.tup x) (.tuple ds) δ) O'->DenL B (hid H' O') ds vs->Q vs H'
 |.exc c=>XX c Hb
 |.bad=>False)
theorem JEe(so:SO B Hb σ H δ O)(sm:Same (hidP H (unP x O)) H1)(hz:∀a,unP x O a->H1 a=none)(dn:DenL B H1 ds vs) :
  ∃O',SO B Hb σ (mixP H H1 (unP x O)) (after x (.tuple ds) δ) O'/\DenL B (hid (mixP H H1 (unP x O)) O') ds vs:=by
 unfold after
 split
 ·exact⟨_,JFu so sm hz,DenL.mono (JBC hz) ds vs dn⟩
 ·rename_i hb;refine⟨O,JDa so sm hz,?_⟩;cases hu:JAP x 0 δ with
  |false =>
   refine DenL.mono (λb o e=>?_) ds vs dn;have hb':¬unP x O b:=λh=>by rw[hz b h]at e;cases e
   have hb2:¬ownP O b:=λ⟨i,h⟩=>by
    obtain⟨ds,xs,e1,_⟩:=so.own h;refine hb' ⟨i,h,?_⟩;cases q:x.uses i with
    |false=>rfl
    |true =>
     have:=JBi x δ 0 i _ hu e1 (by rw[Nat.zero_add];exact q)
     cases this
   rw[hid,JAJ hb2,JAO hb'];exact e
  |true =>
   have hl:JAf ds=true:=by
    rw[hu]at hb;cases q:JAf ds with
    |true=>rfl
    |false=>exact absurd (by simp[JAI,q]) hb
   refine JB7 (λb o e ho=>?_) ds vs hl dn;have hb':¬unP x O b:=λh=>by rw[hz b h]at e;cases e
   have hb2:¬ownP O b:=λ⟨i,h⟩=>by
    obtain⟨ds,xs,_,_,e4,_,e9⟩:=so.own h;have:=sm b _ (by rw[JAJ hb'];exact e4)
    rw[e]at this;cases this;exact ho e9.b
   rw[hid,JAJ hb2,JAO hb'];exact e
theorem JJ4{j:Nat}:(E.tup es).uses j=es.uses j:=rfl
theorem JB4:∀(δ:Env) (k:Nat),JAP (.tup x) k δ=JAP x k δ
 | [],_=>rfl
 |s::r,k=>by simp only[JAP,JJ4,JB4 r]
theorem JDT:∀(δ:Env) (k:Nat),JA5 (.tup x) k δ=JA5 x k δ
 | [],_=>rfl
 |s::r,k=>by simp only[JA5,JDT r];rfl
theorem JLG(g:Gk X B C CX XX G)(he:PA X es (RA B C XX x)):PA X es (RAS X B C XX x):=by
 intro pos pins s σ H Q I ⟨δ,O,Hb,hb,so,k⟩;have J0:=JBI (ps:=JBX x O δ.length s.heap) I (JAj (x:=x) hb so) JAr;have hev:=(agree C x δ (JAZ x 0 δ) JBV).2.2.1;cases q:evA C x δ with
 |ok ds =>
  rw[q]at k;refine thn (he pos _ s σ _ (λvs H1=>Same (hidP H (unP x O)) H1/\DenL B H1 ds vs) J0 ⟨JAZ x 0 δ,JAg so,by rw[<-hev,q];exact λv H1 s1 d1=>⟨s1,d1⟩⟩) λu s1 ⟨vs,H1,J,r,sm,dn⟩=>?_
  obtain⟨I',hz⟩:=JAs I J (JAj hb so) (JAi I so);obtain⟨O',so',dn'⟩:=JEe so sm hz dn;refine⟨vs,_,I',r,k vs _ O' ?_ dn'⟩;have:after (.tup x) (.tuple ds) δ=after x (.tuple ds) δ:=by unfold after;rw[JB4,JDT]
  rw[this];exact so'
 |exc c =>
  rw[q]at k;exact thn (he pos _ s σ _ (λv H1=>False) J0 ⟨JAZ x 0 δ,JAg so,by rw[<-hev,q];exact g.anti c _ _ ((JAe so).trans same_un) k⟩) λu s1 ⟨v,H1,J,r,f⟩=>f.elim
 |bad=>rw[q]at k;exact k.elim
theorem JOx[Cool G](g:Gk X B C CX XX G){a b:Expr}{i j:Nat}{px py pt pt2:Pos}{kt k2:Nat}(ha:PA X [a,b] (RA B C XX x))(hnd:X.N.Nodup)(hi:X.N[i]? = some nx)(hj:X.N[j]? = some ny)(hij:i≠j)
  (hx:X.env.scope.names.lookup nx=some .local) (hy:X.env.scope.names.lookup ny=some .local)
  (hw:swappedStores [.Tuple [.Name nx px,.Name ny py] kt pt] (.Tuple [a,b] k2 pt2) X.env=pure (some [nx,ny])):PS X (.Assign [.Tuple [.Name nx px,.Name ny py] kt pt] (.Tuple [a,b] k2 pt2) pos) (RSt X B C XX (.unp [i,j] (.tup x))) :=
 PS.imp (JRQ (g.calm inferInstance) hnd hi hj hij hx hy (JLG g ha) hw) λDe σ H ⟨δ,O,Hb,hb,so,kk⟩=>by
  refine⟨δ,O,Hb,hb,so,?_⟩;simp only[exec,ev]at kk;cases q:evA C x δ with
  |ok ds =>
    rw[q]at kk;intro vs H' O' so' dn;simp only[R.bind,JAq,List.length_cons,List.length_nil]at kk
    match ds,vs,dn,kk,so' with
    | [d1,d2],vs,dn,kk,so' =>
     obtain⟨O2,so2⟩:=JBs [i,j] [d1,d2] vs so' dn;simp only[DenL]at dn;obtain⟨v1,r,e,q1,v2,r2,e2,q2,e3⟩:=dn;subst e3;subst e2;subst e;exact⟨v1,v2,rfl,kk _ _ O2 so2⟩
    | [],_,_,kk,_=>exact fF kk
    | [_],_,_,kk,_=>exact fF kk
    |_::_::_::_,_,_,kk,_=>simp at kk;exact fF kk
  |exc c=>rw[q]at kk;exact kk
  |bad=>rw[q]at kk;exact kk
def ROA(X:Cx)(B:Bs)(C:Cn)(XX:Nat->Hp->Prop)(x:E)(k:Nat):TA:=λσ H Q=>Dm X.H₀ H/\∃δ,Sok B σ H δ /\
 KL B XX (evA C x δ) H λvs H1=>∀a,H1 a=none->Q (vs.set k (.ref a)) (upd H1 a (.lst []))
theorem JNa(g:Gk X B C CX XX G)(h:PA X es (RA B C XX x)):PA X (.List [] p::es) (ROA X B C XX (.cons .cnon x) 0):=by
 intro pos pins s σ H Q I ⟨hs,δ,ok,k⟩;show wpAny _ _ (spliced ((false,eval (.List [] p) X.env)::backTo pos (starEach es X.env))) _ _ s;refine Calls.spliced_cons (thn (JH6 (pos:=p) JBp pins s σ H (λv H1=>∃a,H a=none/\v=.ref a/\H1=upd H a (.lst [])) I ⟨Nat.zero_le _,λa ha=>⟨a,ha,rfl,rfl⟩⟩) λu s1 ⟨v,H1,I1,r1,a,ha,e1,e2⟩=>?_);subst e1;subst e2;have hP:∀b,b=a->∃xs,upd H a (.lst []) b=some xs/\X.H₀ b=none/\Ownb xs:=λb e=>by subst e;exact⟨_,JAG,hs.free ha,trivial⟩
 obtain⟨_,its,n,_,ho⟩:=I1.hok a _ JAG;have J:=JBI (P:=λb=>b=a) (ps:=[(a,_)]) I1 hP (by
  intro q hq;simp only[List.mem_singleton]at hq;subst hq;exact⟨rfl,ho⟩)
 have eh:hidP (upd H a (.lst [])) (λb=>b=a)=H:=by
  funext b
  by_cases hb:b=a
  ·subst hb;rw[JBD (P:=λc=>c=b) rfl,ha]
  ·rw[JAJ (P:=λc=>c=a) hb,JAH hb]
 rw[eh]at J;simp only[evA,ev,R.bind]at k;cases q:evA C x δ with
 |ok ds =>
  rw[q]at k;refine thn (h pos _ s1 σ H (λvs H3=>Same H H3/\DenL B H3 ds vs) J ⟨δ,ok,by rw[q];exact λvs H3 s3 d3=>⟨s3,d3⟩⟩) λus s2 ⟨vs,H3,J3,r3,sm,dn⟩=>?_
  obtain⟨I3,hz⟩:=JAs (P:=λb=>b=a) I1 J3 hP (λb e=>by subst e;exact⟨_,List.mem_singleton.mpr rfl,ho⟩)
  have em:mixP (upd H a (.lst [])) H3 (λb=>b=a)=upd H3 a (.lst []):=by
   funext b
   by_cases hb:b=a
   ·subst hb;rw[JBx (P:=λc=>c=b) rfl,JAG,JAG]
   ·rw[JAO (P:=λc=>c=a) hb,JAH hb]
  rw[em]at I3;refine⟨.ref a::vs,_,I3,.cons r1 r3,?_⟩;exact k (.non::vs) H3 sm (by simp only[DenL,Den];exact⟨_,_,rfl,rfl,dn⟩) a (hz a rfl)
 |exc c =>
  rw[q]at k;exact thn (h pos _ s1 σ H (λvs H3=>False) J ⟨δ,ok,by rw[q];exact k⟩) λus s2 ⟨vs,H3,J3,r3,f⟩=>f.elim
 |bad=>rw[q]at k;exact k.elim
theorem JNe(g:Gk X B C CX XX G){e:Expr}{k:Nat}(ha:PE X e (RE B C XX x))(hr:PA X es (ROA X B C XX y k))(hs:starEach (e::es) X.env=(false,eval e X.env)::starEach es X.env):PA X (e::es) (ROA X B C XX (.cons x y) (k+1)) :=
 PA.imp (JBG ha hr hs) λσ H Q ⟨hs,δ,ok,kk⟩=>by
  simp only[evA]at kk;refine RE.of (W:=λr H=>KL B XX r H _) ok (λ_ _ z=>z) (λ_ z=>z) kk λd v H1 s1 d1 h1=>?_;refine⟨hs.trans s1,δ,ok.mono s1,?_⟩;have h1:=KL.mono g s1 h1;cases q:evA C y δ with
  |ok ds =>
   rw[q]at h1;intro vs H2 s2 d2 a ha;exact h1 (v::vs) H2 s2 (by simp only[DenL];exact⟨v,vs,rfl,Den.mono s2 d v d1,d2⟩) a ha
  |exc c=>rw[q]at h1;exact h1
  |bad=>rw[q]at h1;exact h1
def RASO(X:Cx)(B:Bs)(C:Cn)(XX:Nat->Hp->Prop)(x:E)(k:Nat):TA:=λσ H Q=>∃δ O Hb,Dm X.H₀ Hb/\SO B Hb σ H δ O/\(match evA C x δ with
 |.ok ds=>∀vs H' O',SO B Hb σ H' (after (.tup x) (.tuple ds) δ) O'->DenL B (hid H' O') ds vs->∀a,H' a=none->Q (vs.set k (.ref a)) (upd H' a (.lst []))
 |.exc c=>XX c Hb
 |.bad=>False)
theorem JM5(g:Gk X B C CX XX G){k:Nat}(he:PA X es (ROA X B C XX x k)):PA X es (RASO X B C XX x k):=by
 intro pos pins s σ H Q I ⟨δ,O,Hb,hb,so,kk⟩;have J0:=JBI (ps:=JBX x O δ.length s.heap) I (JAj (x:=x) hb so) JAr;have hev:=(agree C x δ (JAZ x 0 δ) JBV).2.2.1;have hS:Dm X.H₀ (hidP H (unP x O)):=hb.trans ((JAe so).trans same_un);cases q:evA C x δ with
 |ok ds =>
  rw[q]at kk;refine thn (he pos _ s σ _ (λus H1=>∃vs H2 a,us=vs.set k (.ref a)/\H1=upd H2 a (.lst [])/\H2 a=none/\Same (hidP H (unP x O)) H2/\DenL B H2 ds vs) J0 ⟨hS,JAZ x 0 δ,JAg so,by rw[<-hev,q];exact λvs H1 s1 d1 a ha=>⟨vs,H1,a,rfl,rfl,ha,s1,d1⟩⟩) λu s1 ⟨us,H1,J,r,vs,H2,a,e1,e2,ha,sm,dn⟩=>?_
  subst e1;subst e2;obtain⟨I',hz⟩:=JAs I J (JAj hb so) (JAi I so);have nD:¬unP x O a:=λh=>by have:=hz a h;rw[JAG]at this;cases this
  have hz2:∀b,unP x O b->H2 b=none:=λb h=>by
   have:=hz b h
   rwa [JAH λz=>nD (by rw[<-z];exact h)]at this
  rw[JFp nD]at I';obtain⟨O',so',dn'⟩:=JEe so sm hz2 dn;refine⟨_,_,I',r,kk vs _ O' ?_ dn' a (by rw[JAO nD];exact ha)⟩
  have:after (.tup x) (.tuple ds) δ=after x (.tuple ds) δ:=by unfold after;rw[JB4,JDT]
  rw[this];exact so'
 |exc c =>
  rw[q]at kk;exact thn (he pos _ s σ _ (λv H1=>False) J0 ⟨hS,JAZ x 0 δ,JAg so,by rw[<-hev,q];exact g.anti c _ _ ((JAe so).trans same_un) kk⟩) λu s1 ⟨v,H1,J,r,f⟩=>f.elim
 |bad=>rw[q]at kk;exact kk.elim
def JIn(is:List Nat)(ta:TA):TS:=λD σ H=>ta σ H λvs H1=>vs.length=is.length/\vs.length<=1000/\∀H2,(H2=H1\/∃p,H1 p=none/\H2=upd H1 p (.tup vs))->D.nx (setV is vs σ) H2
theorem JHG[Cool G](g:Gk X B C CX XX G){k k2:Nat}{pt pt2:Pos}(ha:PA X es ta)(hn:X.env.scope.names=names)(hN:X.N=N)(hnd:N.Nodup)(hfn:∀nm,X.fn nm=true\/X.env.scope.names.lookup nm≠some .cell)
  (h:slots names N ts=some is) (hs:swapsWithSole [.Tuple ts k pt] (.Tuple es k2 pt2) pos.line X.env=pure false) (hw:swappedStores [.Tuple ts k pt] (.Tuple es k2 pt2) X.env=pure none):PS X (.Assign [.Tuple ts k pt] (.Tuple es k2 pt2) pos) (JIn is ta):=by
 obtain⟨q1,q2⟩:=JCk (env:=X.env) h;have ha':PA X es (λσ H Q'=>∃Q,ta σ H Q/\∀vs H,Q vs H->Q' vs H):=λpos pins s σ H Q I ⟨Q0,h,m⟩=>thn (ha pos pins s σ H Q0 I h) λu s1 ⟨vs,H1,I1,r,q⟩=>⟨vs,H1,I1,r,m _ _ q⟩;refine PS.imp (JKx (JL3 ha') (JLK (g.calm inferInstance) (JDZ hn hN hnd hfn h) q2 q1) hs hw rfl) λDe σ H hh=>⟨_,hh,λvs H1 ⟨a1,a2,a3⟩=>⟨Nat.le_trans a2 (by decide),λp hp=>⟨p,vs,rfl,SqT.of JAG,a1,a1,a3 _ (.inr ⟨p,hp,rfl⟩)⟩⟩⟩
theorem JMw{i j l:Nat}{x y z:Str}{a b c:Expr}{ta:TA}{px py pz pt:Pos}{kt k2 pt2}(hc:X.calm=true)(hN:X.N.Nodup)(hi:X.N[i]? = some x)(hj:X.N[j]? = some y)(hl:X.N[l]? = some z)(hij:i≠j)(hil:i≠l)(hjl:j≠l)
  (hx:X.env.scope.names.lookup x=some .local) (hy:X.env.scope.names.lookup y=some .local) (hz:X.env.scope.names.lookup z=some .local) (ha:PA X [a,b,c] ta)
  (hw:swappedStores [.Tuple [.Name x px,.Name y py,.Name z pz] kt pt] (.Tuple [a,b,c] k2 pt2) X.env=pure (some [x,y,z]))
  (hs:swapsWithSole [.Tuple [.Name x px,.Name y py,.Name z pz] kt pt] (.Tuple [a,b,c] k2 pt2) pos.line X.env=pure false:=by rfl) :
  PS X (.Assign [.Tuple [.Name x px,.Name y py,.Name z pz] kt pt] (.Tuple [a,b,c] k2 pt2) pos) (JIn [i,j,l] ta):=by
 intro pins s σ H D I h;rw[exec_Assign_arm];refine q_b (wpAny_standAt ?_);rw[hs];refine q_b (q_e ?_);rw[if_neg (by decide)]
 refine q_b (Tuple_ (thn (ha _ pins s σ H _ I h) λus s1 ⟨vs,H1,I1,r1,q0,q00,q1⟩=>?_));have q1:=q1 H1 (.inl rfl);obtain⟨v,w,o,rfl⟩:∃v w o,vs=[v,w,o]:=by
  match vs,q0 with
  | [v,w,o],_=>exact⟨v,w,o,rfl⟩
 obtain⟨u1,u2,u3,rfl,rv,rw',ro⟩:∃u1 u2 u3,us=[u1,u2,u3]/\RelV v u1/\RelV w u2/\RelV o u3:=by
  cases r1 with
  |cons p q =>
    cases q with
    |cons p' q' =>
     cases q' with
     |cons p'' q'' =>
      cases q'';exact⟨_,_,_,rfl,p,p',p''⟩
 refine wpAny_newObj_type ?_ (by show 3<=sizeLine;decide)
 have I2:Inv X pins σ H1 { s1 with heap:=s1.heap.push { cls:=.type "tuple",data:=.seq [u1,u2,u3].toArray } }:=I1.kept (t':=s1.toks) λb o e=>q_c _ e
 rw[hw];refine q_b (q_e ?_);show wpAny (model X.prog X.w) X.A (do rule "assign.swapped-stores";let items<-unpackItems (.ref s1.heap.objs.size) 3 none;assignInOrder [λv=>bindName X.env z v,λv=>bindName X.env y v,λv=>bindName X.env x v] items.reverse;pure Flow.next) _ _ _
 refine q_b (wpAny_rule (q_b (unpackItems_tuple (items:=#[u1,u2,u3]) (I.ok.hd hc) (IsTup.new s1.heap _) λh' hx'=>?_)));have I3:=I2.kept (h':=h') (t':=s1.toks) λb o e=>hx' b o (q_l (q_h e)) e;show wpAny _ _ (assignInOrder [λv=>bindName X.env z v,λv=>bindName X.env y v,λv=>bindName X.env x v] [u3,u2,u1] >>= λ_=>pure Flow.next) _ _ _;refine q_b (assignInOrder_cons (wpAny_bindName (JBB I3 hN hl (.inl hz) ro (λs2 I4=>?_) (.inr hz))));refine assignInOrder_cons (wpAny_bindName (JBB I4 hN hj (.inl hy) rw' (λs3 I5=>?_) (.inr hy)));refine assignInOrder_cons (wpAny_bindName (JBB I5 hN hi (.inl hx) rv (λs4 I6=>assignInOrder_nil (q_e ?_)) (.inr hx)));rw[List.set_comm _ _ (Ne.symm hjl),List.set_comm _ _ (Ne.symm hil),List.set_comm _ _ (Ne.symm hij)]at I6;exact⟨_,H1,I6,q1⟩
theorem JGg:∀(is:List Nat) (vs:List V) (σ:St) (k i:Nat) (v:V),is.Nodup->vs.length=is.length->is[k]? = some i->setV is (vs.set k v) σ=(setV is vs σ).set i (some v)
 | [],_,_,_,_,_,_,_,h=>by simp at h
 |j::is,[],_,_,_,_,_,h,_=>by simp at h
 |j::is,w::vs,σ,0,i,v,hn,hl,h=>by
  simp only[List.getElem?_cons_zero,q_j]at h;subst h;simp only[List.set_cons_zero,setV];have q:∀(is:List Nat) (vs:List V) (σ:St),j ∉ is->(setV is vs σ).set j (some v)=setV is vs (σ.set j (some v)):=by
   intro is
   induction is with
   |nil=>intro vs σ _;rfl
   |cons a r ih =>
    intro vs σ hj;cases vs with
    |nil=>rfl
    |cons b t =>
     simp only[setV];rw[ih t _ (λz=>hj (q_s _ z)),List.set_comm _ _ (λz=>hj (by rw[z];exact List.mem_cons_self ..))]
  rw[q is vs _ (List.nodup_cons.mp hn).1];simp
 |j::is,w::vs,σ,k+1,i,v,hn,hl,h=>by
  simp only[List.set_cons_succ,setV];exact JGg is vs _ k i v (List.nodup_cons.mp hn).2 (by simpa using hl) (by simpa using h)
theorem JFM(q:evA C x δ=.ok ds):exec C (.unp is (.tup x)) δ=if ds.length=is.length then .nx (JBW is ds (after (.tup x) (.tuple ds) δ)) else .bad:=by
 by_cases h:ds.length=is.length
 ·simp only[exec,ev,q,R.bind,stepR,JAq,h,if_true]
 ·simp only[exec,ev,q,R.bind,stepR,JAq,h,if_false]
theorem JOh(g:Gk X B C CX XX G){is:List Nat}{st:Stmt}(hl:cnt x<=1000)(h:PS X st (JIn is (RAS X B C XX x))):PS X st (RSt X B C XX (.unp is (.tup x))) :=
 PS.imp h λDe σ H ⟨δ,O,Hb,hb,so,kk⟩=>by
  refine⟨δ,O,Hb,hb,so,?_⟩;cases q:evA C x δ with
  |ok ds =>
   rw[JFM q]at kk;intro vs H' O' so' dn;have e1:=DenL.len ds vs dn;have e2:=JBq x δ ds q
   split at kk
   ·refine⟨by omega,by omega,λH2 h2=>?_⟩
    obtain⟨O2,so2⟩:=JBs is ds vs so' dn;rcases h2 with h2|⟨p,hp,h2⟩
    ·subst h2;exact kk _ _ O2 so2
    ·subst h2;exact kk _ _ O2 (JDr so2 hp)
   ·exact kk.elim
  |exc c=>simp only[exec,ev,q]at kk;exact kk
  |bad=>simp only[exec,ev,q]at kk;exact kk
theorem JNj(g:Gk X B C CX XX G){is:List Nat}{k i:Nat}{st:Stmt}(hl:cnt x<=1000)(hn:is.Nodup)(hi:is[k]? = some i)(h:PS X st (JIn is (RASO X B C XX x k))):PS X st (RSt X B C XX (.cons (.unp is (.tup x)) (.asg i (.lst .nil)))) :=
 PS.imp h λDe σ H ⟨δ,O,Hb,hb,so,kk⟩=>by
  refine⟨δ,O,Hb,hb,so,?_⟩;cases q:evA C x δ with
  |ok ds =>
   have e3:exec C (.cons (.unp is (.tup x)) (.asg i (.lst .nil))) δ=match exec C (.unp is (.tup x)) δ with|.nx δ'=>exec C (.asg i (.lst .nil)) δ'|f=>f:=rfl
   rw[e3,JFM q]at kk;intro vs H' O' so' dn a ha;have e1:=DenL.len ds vs dn;have e2:=JBq x δ ds q
   by_cases hy:ds.length=is.length
   ·rw[if_pos hy]at kk;refine⟨by simp;omega,by simp;omega,λH2 h2=>?_⟩
    obtain⟨O2,so2⟩:=JBs is ds vs so' dn;obtain⟨O3,so3⟩:=JDS (i:=i) so2 (Da:=a) (ds:=.list []) (xs:=.lst []) ha OwnO.nil;rw[JGg is vs σ k i _ hn (by omega) hi]
    have ea:after (.lst .nil) (.list []) (JBW is ds (after (.tup x) (.tuple ds) δ))=JBW is ds (after (.tup x) (.tuple ds) δ):=by
     unfold after;rw[if_neg];have:∀(δ:Env) (k:Nat),JAP (.lst .nil) k δ=false:=by
      intro δ
      induction δ with
      |nil=>intro k;rfl
      |cons s r ih=>intro k;simp only[JAP,ih,E.uses,Bool.false_and,Bool.or_self]
     rw[this];simp
    have kk:JBe X B XX Hb De (.nx ((after (.lst .nil) (.list []) (JBW is ds (after (.tup x) (.tuple ds) δ))).set i (.own (.list [])))):=kk;rw[ea]at kk;rcases h2 with h2|⟨p,hp,h2⟩
    ·subst h2;exact kk _ _ O3 so3
    ·subst h2;exact kk _ _ O3 (JDr so3 hp)
   ·rw[if_neg hy]at kk;exact kk.elim
  |exc c=>simp only[exec,ev,q]at kk;exact kk
  |bad=>simp only[exec,ev,q]at kk;exact kk
end
section
variable{X:Cx}{B:Bs}{C:Cn}{CX:CXT}{XX:Nat->Hp->Prop}{G:List (Str×GK)}{x:E}{pos:Pos}
theorem SO.slotOwn(so:SO B Hb σ H δ O){i:Nat}(h:δ[i]? = some (.own (.list ds))):∃a xs,O i=some a/\σ[i]? = some (some (.ref a))/\H a=some (.lst xs)/\DenL B (hid H O) ds xs:=by
 have q:=so.slot i;rw[h]at q;simp only[JAR]at q;obtain⟨a,ds',xs,q1,q2,q3,q4,q5,q6⟩:=q;cases q2;cases xs with
 |lst xs=>exact⟨a,xs,q1,q3,q4,q6⟩
 |_=>exact fF q6
theorem JQ4(g:Gk X B C CX XX G){i:Nat}(hN:X.N[i]? = some nm)(hv:Vis X.env.scope nm)(hbn:JAN nm=false)(he:PE X a (RE B C XX x))(hs:starEach [a] X.env=[(false,eval a X.env)])(hl:(ap.endLine==cp.line)=true) :
  PS X (.Expr (.Call (.Attribute (.Name nm p1) "append" ap) [a] [] cp) pos) (RSt X B C XX (.app i x)):=by
 refine PS.imp (JEN (JKp PySem.F.plainAttrs_list PySem.F.slot_list_append PySem.F.type_list_append JEo (JDW hN hv (JAE hbn).1 (JAE hbn).2.1) (JBG (JG6 g he) JBp hs) rfl (by rw[hs];rfl) hl hs rfl) rfl) λDe σ H ⟨δ,O,Hb,hb,so,kk⟩=>?_
 simp only[exec]at kk
 split at kk
 ·rename_i ds hd;obtain⟨l,xs,q1,q2,q3,q4⟩:=so.slotOwn hd;refine⟨_,q2,.inl ⟨rfl,xs,SqL.of q3⟩,δ,O,Hb,hb,so,?_⟩;cases q:ev C x δ with
  |ok d =>
   rw[q]at kk;intro v H' O' so' dn;have kk:JBe X B XX Hb De (JAk i ds x d δ):=kk;unfold JAk at kk
   split at kk
   ·rename_i hlen
    split at kk
    ·exact fF kk
    ·rename_i hu;have ea:after x d δ=δ:=by unfold after;rw[if_neg hu]
     rw[ea]at so';obtain⟨l',xs',r1,r2,r3,r4⟩:=so'.slotOwn hd;rw[q2]at r2;cases r2;refine⟨l,xs',v,rfl,rfl,r3,by rw[<-DenL.len ds xs' r4,sizeLine_eq];exact hlen,?_⟩
     exact kk _ _ O' (JGF so' r1 (DenL.append ds [d] xs' [v] r4 (by simp only[DenL];exact⟨v,[],rfl,dn,rfl⟩)))
   ·exact fF kk
  |exc c=>rw[q]at kk;exact kk
  |bad=>rw[q]at kk;exact kk
 ·exact fF kk
theorem JQe(g:Gk X B C CX XX G){i:Nat}(hN:X.N[i]? = some nm)(hv:Vis X.env.scope nm)(hbn:JAN nm=false)(he:PE X a (REF B C XX x))(hs:starEach [a] X.env=[(false,eval a X.env)])(hl:(ap.endLine==cp.line)=true) :
  PS X (.Expr (.Call (.Attribute (.Name nm p1) "extend" ap) [a] [] cp) pos) (RSt X B C XX (.ext i x)):=by
 refine PS.imp (JEN (JKp PySem.F.plainAttrs_list PySem.F.slot_list_extend PySem.F.type_list_extend JH0 (JDW hN hv (JAE hbn).1 (JAE hbn).2.1) (JBG (JK0 g he) JBp hs) rfl (by rw[hs];rfl) hl hs rfl) rfl) λDe σ H ⟨δ,O,Hb,hb,so,kk⟩=>?_
 simp only[exec]at kk
 split at kk
 ·rename_i ds hd;obtain⟨l,xs,q1,q2,q3,q4⟩:=so.slotOwn hd;refine⟨_,q2,.inl ⟨rfl,xs,SqL.of q3⟩,δ,O,Hb,hb,so,?_⟩;cases q:ev C x δ with
  |ok d =>
   rw[q]at kk;intro Da d2 ov H1 O' ed so' hD dn;subst ed;obtain⟨zs,zv,rfl,rfl⟩:∃zs zv,d=.list zs/\ov=.lst zv:=by
    cases d with
    |list zs=>cases ov with
     |lst zv=>exact⟨zs,zv,rfl,rfl⟩
     |_=>exact fF dn
    |_=>exact fF kk
   have dn:DenL B (hid H1 O') zs zv:=dn;have kk:JBe X B XX Hb De (JBZ i ds x (.list zs) δ):=kk;unfold JBZ at kk;simp only at kk
   split at kk
   ·rename_i hlen
    split at kk
    ·exact fF kk
    ·rename_i hu;have hu':JAP x 0 δ=false:=by simpa using hu
     have ea:after x (.list zs) δ=δ:=by unfold after;rw[hu'];simp
     rw[ea]at so';obtain⟨l',xs',r1,r2,r3,r4⟩:=so'.slotOwn hd;rw[q2]at r2;cases r2;have hne:l≠Da:=λz=>by rw[z,hD]at r3;cases r3
     have so2:=JDr (o:=.lst zv) so' hD;refine⟨l,Da,xs',zv,rfl,rfl,by rw[JAH hne];exact r3,JAG,by rw[<-DenL.len ds xs' r4,<-DenL.len zs zv dn,sizeLine_eq];exact hlen,?_⟩
     have s1:Same (hid H1 O') (hid (upd H1 Da (.lst zv)) O'):=λb u e=>by
      obtain⟨h1,h2⟩:=JA4 e;have hb:b≠Da:=λz=>by rw[z,hD]at h2;cases h2
      rw[hid,JAJ h1,JAH hb];exact h2
     exact kk _ _ O' (JGF so2 r1 (DenL.append ds zs xs' zv (DenL.mono s1 ds xs' r4) (DenL.mono s1 zs zv dn)))
   ·exact fF kk
  |exc c=>rw[q]at kk;exact kk
  |bad=>rw[q]at kk;exact kk
 ·exact fF kk
theorem JNZ(g:Gk X B C CX XX G){i:Nat}(hN:X.N[i]? = some nm)(hv:Vis X.env.scope nm)(hbn:JAN nm=false)(he:PE X a (RE B C XX x))(hs:starEach [a] X.env=[(false,eval a X.env)])(hl:(ap.endLine==cp.line)=true) :
  PS X (.Expr (.Call (.Attribute (.Name nm p1) "extend" ap) [a] [] cp) pos) (RSt X B C XX (.ext i x)):=by
 refine PS.imp (JEN (JKp PySem.F.plainAttrs_list PySem.F.slot_list_extend PySem.F.type_list_extend JOI (JDW hN hv (JAE hbn).1 (JAE hbn).2.1) (JBG (JG6 g he) JBp hs) rfl (by rw[hs];rfl) hl hs rfl) rfl) λDe σ H ⟨δ,O,Hb,hb,so,kk⟩=>?_
 simp only[exec]at kk
 split at kk
 ·rename_i ds hd;obtain⟨l,xs,q1,q2,q3,q4⟩:=so.slotOwn hd;refine⟨_,q2,.inl ⟨rfl,xs,SqL.of q3⟩,δ,O,Hb,hb,so,?_⟩;cases q:ev C x δ with
  |ok d =>
   rw[q]at kk;intro v H' O' so' dn;have kk:JBe X B XX Hb De (JBZ i ds x d δ):=kk;cases d with
   |list zs =>
    unfold JBZ at kk;simp only at kk
    split at kk
    ·rename_i hlen
     split at kk
     ·exact fF kk
     ·rename_i hu;have hu':JAP x 0 δ=false:=by simpa using hu
      have ea:after x (.list zs) δ=δ:=by unfold after;rw[hu'];simp
      rw[ea]at so';obtain⟨l',xs',r1,r2,r3,r4⟩:=so'.slotOwn hd;rw[q2]at r2;cases r2;simp only[Den]at dn;obtain⟨Da,zv,e1,e2,e3⟩:=dn;exact⟨l,Da,xs',zv,rfl,by rw[e1],r3,same_hidP.seq (g.K▸e2),by rw[<-DenL.len ds xs' r4,<-DenL.len zs zv e3,sizeLine_eq];exact hlen,kk _ _ O' (JGF so' r1 (DenL.append ds zs xs' zv r4 e3))⟩
    ·exact fF kk
   |_=>exact fF kk
  |exc c=>rw[q]at kk;exact kk
  |bad=>rw[q]at kk;exact kk
 ·exact fF kk
end
theorem JGU{n:Nat}{it:Bool}{e:Expr}(h:JAL G n it names N e=some x)(hc:JD1 e=false)(t:Option Expr)(l:Nat)(env:PySem.Env):swapsWith e t l env=pure false:=by
 cases n with
 |zero=>simp[JAL,JAV,JAQ]at h
 |succ n=>cases e<;>first|rfl|(cases it<;>simp[JAL,JAV,JAQ,xOf,Option.bind_none,ite_self,xRaw,mOf,mRaw]at h<;>done)|cases hc
theorem JId{n:Nat}{it:Bool}{e:Expr}(h:JAL G n it names N e=some x)(ts:List Expr)(k:Nat)(p:Pos)(l:Nat)(env:PySem.Env):swapsWithSole [.Tuple ts k p] e l env=pure false:=by
 cases n with
 |zero=>simp[JAL,JAV,JAQ]at h
 |succ n=>cases e<;>first|rfl|(cases it<;>simp[JAL,JAV,JAQ,xOf,Option.bind_none,ite_self,xRaw,mOf,mRaw]at h)
theorem JE8{e:Expr}(hc:isTup e=false)(ts:List Expr)(k:Nat)(p:Pos)(env:PySem.Env):swappedStores [.Tuple ts k p] e env=pure none:=by
 cases e<;>first|rfl|cases hc
theorem JBl{P:Prop}(h:false=true):P:=by cases h
theorem JFe{e:Expr}(h:JE4 names ts e=true):∃nx px ny py a b k2 pt2,ts=[.Name nx px,.Name ny py]/\e=.Tuple [a,b] k2 pt2:=by
 rcases ts with _|⟨t1,_|⟨t2,_|⟨_,_⟩⟩⟩<;>try exact JBl h
 cases t1<;>try exact JBl h
 cases t2<;>try exact JBl h
 cases e<;>try exact JBl h
 rename_i es k p;rcases es with _|⟨a,_|⟨b,_|⟨_,_⟩⟩⟩<;>try exact JBl h
 exact⟨_,_,_,_,_,_,_,_,rfl,rfl⟩
theorem JDq(h:three names t1 t2 t3 es=true):∃nx px ny py nz pz,t1=.Name nx px/\t2=.Name ny py/\t3=.Name nz pz/\es.length=3:=by
 cases t1<;>try exact JBl h
 cases t2<;>try exact JBl h
 cases t3<;>try exact JBl h
 simp only[three,q_i,beq_iff_eq]at h;exact⟨_,_,_,_,_,_,rfl,rfl,rfl,h.1.1.1.1.1.1.1.1.1.1⟩
theorem JEn{a b:Expr}{px py pt pt2:Pos}{kt k2:Nat}(hk:env.scope.kind=.function)(hn:env.scope.names=names)(hs:∀es:List Expr,es=[a,b]->(es.any λ|.Starred ..=>true|_=>false)=false)
  (h:JE4 names [.Name nx px,.Name ny py] (.Tuple [a,b] k2 pt2)=true) :
  swappedStores [.Tuple [.Name nx px,.Name ny py] kt pt] (.Tuple [a,b] k2 pt2) env=pure (some [nx,ny])/\nx≠ny/\env.scope.names.lookup nx=some .local/\env.scope.names.lookup ny=some .local:=by
 simp only[JE4,JPT,q_i,beq_iff_eq,Bool.not_eq_true',bne_iff_ne,ne_eq]at h;obtain⟨⟨⟨⟨⟨h1,h2⟩,h3⟩,h4⟩,h5⟩,h6⟩:=h;have hb:env.blockKind=.function:=by unfold PySem.Env.blockKind;rw[hk];rfl
 have e1:env.kindOf nx=some .local:=by show env.scope.names.lookup nx=_;rw[hn];exact h1
 have e2:env.kindOf ny=some .local:=by show env.scope.names.lookup ny=_;rw[hn];exact h2
 refine⟨?_,h4,e1,e2⟩;have hst:=hs [a,b] rfl;unfold swappedStores;simp only[List.length_cons,List.length_nil,hb,List.head?_cons,Option.map_some,Option.getD_some,List.filterMap_cons,List.filterMap_nil,e1,e2];have l1:((Expr.Name nx px).pos).line=px.line:=rfl;simp only[l1,h3,beq_self_eq_true,Bool.and_self,Bool.true_or,Bool.or_true,Bool.true_and,if_true,bne_self_eq_false,Bool.or_false,Bool.not_true,Bool.false_or,q_v,if_false,h5,h6,hst];have l2:([nx,ny]:List Str).eraseDups.length=2:=by
  have hne:(ny==nx)=false:=beq_eq_false_iff_ne.mpr (Ne.symm h4);simp[List.eraseDups_cons,List.filter_cons,hne,bne]
 have hst':∀q:Expr->Bool,([a,b].any q)=false->q a=false/\q b=false:=λq h=>by simpa using h
 have hab:=hst' _ hst;simp[l2];intro hz;exfalso;rcases hz with z|z
 ·have:=hab.1;cases a<;>first|(cases z;done)|(cases this;done)
 ·have:=hab.2;cases b<;>first|(cases z;done)|(cases this;done)
theorem JGZ{e:Expr}(h:JEU e=true):∃es p,e=.List es p:=by
 cases e<;>first|exact⟨_,_,rfl⟩|cases h
theorem JKP{e:Expr}(h:JD1 e=true):∃a b c p,e=.ListComp a b c p:=by
 cases e<;>first|exact⟨_,_,_,_,rfl⟩|cases h
section
variable{B:Bs}{C:Cn}{CX:CXT}{G:List (Str×GK)}
def JMA(X:Cx)(B:Bs)(G:List (Str×GK))(XX:Nat->Hp->Prop):Prop:=∀(nm:Str) (c:Nat) (m:Str) (j:Nat) (p1 p2 p3 pos:Pos),Gl X nm->JAN nm=false->G.lookup nm=some (.cls c) ->
 ∀(pins:Pq) (s:Shared) (σ:St) (H:Hp) (D:Ends),Inv X pins σ H s->XX c H->wpAny (model X.prog X.w) X.A (PySem.exec (.Raise (some (.Call (.Name nm p1) [.Constant (.str m) j p2] [] p3)) none pos) X.env) (SP X pins D) X.xe s
noncomputable def atX(X:Cx)(A:Around)(pn:Pq)(xe:Vq)(calm:Bool):Cx:={ X with A:=A,pn:=pn,xe:=xe,calm:=calm }
theorem JEW{e c:Option Expr}(h:JGQ e c=some x):∃p1 m j p2 p3,e=some (.Call (.Name x p1) [.Constant (.str m) j p2] [] p3)/\c=none:=by
 rcases e with _|e
 ·exact JAK h
 cases e<;>try exact JAK h
 rename_i f as ks p3;cases f<;>try exact JAK h
 rename_i x' p1;rcases as with _|⟨a,as⟩
 ·exact JAK h
 cases a<;>try exact JAK h
 rename_i k j p2;cases k<;>try exact JAK h
 rcases as with _|⟨_,_⟩<;>try exact JAK h
 rcases ks with _|⟨_,_⟩<;>try exact JAK h
 rcases c with _|c<;>try exact JAK h
 cases h;exact⟨_,_,_,_,_,rfl,rfl⟩
theorem JFT{e:Expr}(h:JHk e=some (x,m,a)):∃p1 ap cp,e=.Call (.Attribute (.Name x p1) m ap) [a] [] cp/\(ap.endLine==cp.line)=true:=by
 cases e<;>try exact JAK h
 rename_i f as ks cp;cases f<;>try exact JAK h
 rename_i o m ap;cases o<;>try exact JAK h
 rcases as with _|⟨a,_|⟨_,_⟩⟩<;>try exact JAK h
 rcases ks with _|⟨_,_⟩<;>try exact JAK h
 dsimp only[JHk]at h
 split at h
 ·rename_i e;cases h;exact⟨_,_,_,rfl,e⟩
 ·cases h
theorem JGu{e:Expr}{a b:Expr}(h:JMt e=some (x,a,b)):∃p1 ap cp,e=.Call (.Attribute (.Name x p1) "insert" ap) [a,b] [] cp/\(ap.endLine==cp.line)=true:=by
 cases e<;>try exact JAK h
 rename_i f as ks cp;cases f<;>try exact JAK h
 rename_i o m ap;cases o<;>try exact JAK h
 rcases as with _|⟨a,_|⟨b,_|⟨_,_⟩⟩⟩<;>try exact JAK h
 rcases ks with _|⟨_,_⟩<;>try exact JAK h
 dsimp only[JMt]at h
 split at h
 ·rename_i e;cases h;obtain⟨e1,e2⟩:=e;subst e2;exact⟨_,_,_,rfl,e1⟩
 ·cases h
theorem JGq{e:Expr}(h:docOf e=true):∃y j p,e=.Constant (.str y) j p:=by
 unfold docOf at h
 split at h
 ·exact⟨_,_,_,rfl⟩
 ·cases h
theorem JEl(h:JG3 ts=some (.inl x)):∃p,ts=[.Name x p]:=by
 unfold JG3 at h
 split at h
 ·cases h;exact⟨_,rfl⟩
 ·cases h
 ·cases h
theorem JIO(h:JG3 ts=some (.inr us)):∃k p,ts=[.Tuple us k p]:=by
 unfold JG3 at h
 split at h
 ·cases h
 ·cases h;exact⟨_,_,rfl⟩
 ·cases h
theorem JGt{e:Expr}(h:JOn e=some es):∃k p,e=.Tuple es k p:=by
 unfold JOn at h
 split at h
 ·cases h;exact⟨_,_,rfl⟩
 ·cases h
theorem JDA{e:Expr}(h:JHC e=true):∃p,e=.List [] p:=by
 unfold JHC at h
 split at h
 ·exact⟨_,rfl⟩
 ·cases h
noncomputable def isStar:Expr->Bool
 |.Starred ..=>true
 |_=>false
theorem JJC{n:Nat}{e:Expr}(h:JAL G n false names N e=some x):isStar e=false:=by
 cases e<;>first|rfl|(cases n<;>simp[JAL,JAV,JAQ,xOf,Option.bind_none,ite_self,xRaw,mOf,mRaw]at h)
theorem JDi{n:Nat}:∀ {es:List Expr}{is:List Nat}{q:E×Option Nat},JCx (JAL G n false names N) es is=some q->∀e∈es,isStar e=false
 | [],_,_,_,e,he=>by cases he
 |_::_,[],_,h,_,_=>by unfold JCx at h;cases h
 |a::r,i::is,q,h,e,he=>by
  unfold JCx at h
  split at h
  ·rename_i hn;obtain⟨p,rfl⟩:=JDA hn;obtain⟨b,hb,_⟩:=q_a.mp h;rcases q_n.mp he with rfl|he
   ·rfl
   ·have:∀ {es:List Expr}{x:E},JAM (JAL G n false names N) es=some x->∀e∈es,isStar e=false:=by
     intro es
     induction es with
     |nil=>intro x _ e he;cases he
     |cons a r ih =>
      intro x h e he;unfold JAM at h;obtain⟨y,h1,h⟩:=q_a.mp h;obtain⟨z,h2,_⟩:=q_a.mp h;rcases q_n.mp he with rfl|he
      ·exact JJC h1
      ·exact ih h2 e he
    exact this hb e he
  ·obtain⟨y,h1,h⟩:=q_a.mp h;obtain⟨z,h2,_⟩:=q_a.mp h;rcases q_n.mp he with rfl|he
   ·exact JJC h1
   ·exact JDi h2 e he
theorem JGV{n:Nat}(g:Gk X B C CX XX G)(ih:∀e x,JAL G n false names N e=some x->PE X e (RE B C XX x)):∀ {es:List Expr}{is:List Nat}{q:E×Option Nat},JCx (JAL G n false names N) es is=some q ->
  cnt q.1=es.length/\(q.2=none->PA X es (RA B C XX q.1))/\∀i,q.2=some i->∃k,is[k]? = some i/\PA X es (ROA X B C XX q.1 k)
 | [],_,q,h=>by
  unfold JCx at h;cases h;exact⟨rfl,λ_=>JP5,λ_ z=>by cases z⟩
 |_::_,[],_,h=>by unfold JCx at h;cases h
 |e::r,i::is,q,h=>by
  unfold JCx at h
  split at h
  ·rename_i hn;obtain⟨p,rfl⟩:=JDA hn;obtain⟨b,hb,h⟩:=q_a.mp h;cases h;have hc:cnt b=r.length:=JAa hb;refine⟨by simp only[cnt,hc,List.length_cons],(λz=>nomatch z),λj hj=>⟨0,?_,JNa g (allA g ih hb)⟩⟩
   simpa using hj
  ·obtain⟨y,h1,h⟩:=q_a.mp h;obtain⟨z,h2,h⟩:=q_a.mp h;cases h;obtain⟨c1,c2,c3⟩:=JGV g ih h2;refine⟨by simp only[cnt,c1,List.length_cons],λw=>JK5 g (ih e y h1) (c2 w) (JAU h1 r X.env),λj hj=>?_⟩
   obtain⟨k,hk,hp⟩:=c3 j hj;exact⟨k+1,by simpa using hk,JNe g (ih e y h1) hp (JAU h1 r X.env)⟩
theorem disp3{a b c:Expr}{px py pz pt pt2:Pos}{kt k2:Nat}(hk:env.scope.kind=.function)(hn:env.scope.names=names)(s1:isStar a=false)(s2:isStar b=false)(s3:isStar c=false)
  (h:JIN names [.Name nx px,.Name ny py,.Name nz pz] [a,b,c]=true) :
  swappedStores [.Tuple [.Name nx px,.Name ny py,.Name nz pz] kt pt] (.Tuple [a,b,c] k2 pt2) env=pure (some [nx,ny,nz])/\env.scope.names.lookup nx=some .local/\env.scope.names.lookup ny=some .local/\env.scope.names.lookup nz=some .local:=by
 simp only[JIN,three,q_i,beq_iff_eq,Bool.not_eq_true',bne_iff_ne,ne_eq]at h;obtain⟨⟨⟨⟨⟨⟨⟨⟨⟨⟨_,h1⟩,h2⟩,h3⟩,l1⟩,l2⟩,n1⟩,n2⟩,n3⟩,h5⟩,h6⟩:=h;have hb:env.blockKind=.function:=by unfold PySem.Env.blockKind;rw[hk];rfl
 have e1:env.kindOf nx=some .local:=by show env.scope.names.lookup nx=_;rw[hn];exact h1
 have e2:env.kindOf ny=some .local:=by show env.scope.names.lookup ny=_;rw[hn];exact h2
 have e3:env.kindOf nz=some .local:=by show env.scope.names.lookup nz=_;rw[hn];exact h3
 refine⟨?_,e1,e2,e3⟩;have el:([nx,ny,nz]:List Str).eraseDups.length=3:=by
  have m1:(ny==nx)=false:=beq_eq_false_iff_ne.mpr (Ne.symm n1);have m2:(nz==nx)=false:=beq_eq_false_iff_ne.mpr (Ne.symm n2);have m3:(nz==ny)=false:=beq_eq_false_iff_ne.mpr (Ne.symm n3);simp[List.eraseDups_cons,List.filter_cons,m1,m2,m3,bne]
 unfold swappedStores;have lx:((Expr.Name nx px).pos).line=px.line:=rfl;simp only[List.length_cons,List.length_nil,hb,List.head?_cons,Option.map_some,Option.getD_some,List.filterMap_cons,List.filterMap_nil,e1,e2,e3,lx,<-l1,<-l2,beq_self_eq_true,Bool.and_self,if_true,h5,h6,el,bne_self_eq_false,Bool.or_false,Bool.not_true,q_v,if_false];simp;intro hz;exfalso;rcases hz with z|z|z
 ·cases a<;>first|(cases z;done)|(cases s1;done)
 ·cases b<;>first|(cases z;done)|(cases s2;done)
 ·cases c<;>first|(cases z;done)|(cases s3;done)
theorem disp4{a b c d:Expr}{pt pt2:Pos}{kt k2:Nat}:swappedStores [.Tuple (a::b::c::d::r) kt pt] (.Tuple es k2 pt2) env=pure none:=by
 unfold swappedStores;have:(!((a::b::c::d::r).length==2 || (a::b::c::d::r).length==3))=true:=by simp
 simp only[this,Bool.true_or,if_true]
theorem JIP{pt pt2:Pos}{kt k2:Nat}(hn:env.scope.names=names)(h:ts.any (JK1 names)=true):swappedStores [.Tuple ts kt pt] (.Tuple es k2 pt2) env=pure none:=by
 have key:∀line:Nat,(ts.filterMap fun
  |.Name id pos=>if env.kindOf id==some .local&&pos.line==line then some id else none
  |_=>none).length≠ts.length:=λline e=>by
  rw[List.filterMap_length_eq_length]at e;obtain⟨t,ht,hc⟩:=List.any_eq_true.mp h;have:=e t ht;cases t<;>try exact JBl hc
  rename_i x p;have hc:(names.lookup x==some NameKind.cell)=true:=hc;have hk:env.kindOf x=some .cell:=by show env.scope.names.lookup x=_;rw[hn];simpa using hc
  have e0:(some NameKind.cell==some NameKind.local)=false:=by decide
  simp only[hk,e0,Bool.false_and,q_v,if_false,Option.isSome_none]at this
 unfold swappedStores
 dsimp only
 split
 ·rfl
 ·split
  ·rfl
  ·rw[if_pos];have:=key (ts.head?.map (·.pos.line) |>.getD 0)
   simp only[Bool.or_eq_true,bne_iff_ne,ne_eq];exact .inl this
theorem JOH[Cool G]{n:Nat}(g:Gk X B C CX XX G)(ih:∀e x,JAL G n false names N e=some x->PE X e (RE B C XX x))(hk:X.env.scope.kind=.function)(hn:X.env.scope.names=names)(hN:X.N=N)(hnd:N.Nodup)(hfn:∀nm,X.fn nm=true\/X.env.scope.names.lookup nm≠some .cell)
  {ts es:List Expr}{is:List Nat}{k k2:Nat}{pt pt2 pos:Pos}{q:E×Option Nat}(hi:slots names N ts=some is) (hd:is.Nodup) (ho:JD2 names ts es=true) (hq:JCx (JAL G n false names N) es is=some q) :
  PS X (.Assign [.Tuple ts k pt] (.Tuple es k2 pt2) pos) (RSt X B C XX (unpO is q.1 q.2)):=by
 obtain⟨c1,c2,c3⟩:=JGV g ih hq;have key:∀ta,PA X es ta->PS X (.Assign [.Tuple ts k pt] (.Tuple es k2 pt2) pos) (JIn is ta):=λta ha=>by
  unfold JD2 at ho;rcases Bool.or_eq_true_iff.mp ho with hcl|ho
  ·exact JHG g ha hn hN hnd hfn hi rfl (JIP hn (Bool.and_eq_true_iff.mp hcl).1)
  have ho':=ho;unfold JIN at ho'
  split at ho'
  ·obtain⟨nx,px,ny,py,nz,pz,rfl,rfl,rfl,he3⟩:=JDq ho';obtain⟨a,b,c,rfl⟩:∃a b c,es=[a,b,c]:=by
    match es,he3 with
    | [a,b,c],_=>exact⟨a,b,c,rfl⟩
   have hs:=JDi hq;obtain⟨w1,w2,w3,w4⟩:=disp3 (env:=X.env) (kt:=k) (pt:=pt) (k2:=k2) (pt2:=pt2) hk hn (hs a (by simp)) (hs b (by simp)) (hs c (by simp)) ho
   obtain⟨_,_,i,js,e0,i1,hi,e4⟩:=JBb hi;cases e0;obtain⟨_,_,j,ls,e0,i2,hi,e5⟩:=JBb hi;cases e0;obtain⟨_,_,l,us,e0,i3,hi,e6⟩:=JBb hi;cases e0;unfold slots at hi;cases hi;subst e6;subst e5;subst e4;simp only[List.nodup_cons,q_n,List.not_mem_nil,or_false,not_or]at hd;exact JMw (g.calm inferInstance) (by rw[hN];exact hnd) (slot_of hn hN i1).1 (slot_of hn hN i2).1 (slot_of hn hN i3).1 hd.1.1 hd.1.2 hd.2.1 w2 w3 w4 ha w1
  ·exact JHG g ha hn hN hnd hfn hi rfl disp4
  ·cases ho'
 have hl:es.length<=1000:=by
  unfold JD2 at ho;rcases Bool.or_eq_true_iff.mp ho with hcl|ho
  ·exact of_decide_eq_true (Bool.and_eq_true_iff.mp hcl).2
  unfold JIN at ho
  split at ho
  ·obtain⟨_,_,_,_,_,_,_,_,_,he3⟩:=JDq ho;omega
  ·simp only[q_i,q_D]at ho;exact ho.2
  ·cases ho
 cases e:q.2 with
 |none=>exact JOh g (by omega) (key _ (JLG g (c2 e)))
 |some i =>
  obtain⟨k',hk',hp⟩:=c3 i e;exact JNj g (by omega) hd hk' (key _ (JM5 g hp))
theorem JDB(ih:∀st t,f st=some t->PS X st (RSt X B C XX t)):∀ {sts:List Stmt}{t:S},JAp f sts=some t->PSs X sts (RSt X B C XX t)
 | [],t,h=>by unfold JAp at h;cases h;exact JRr
 |st::r,t,h=>by
  unfold JAp at h;obtain⟨a,h1,h⟩:=q_a.mp h;obtain⟨b,h2,h⟩:=q_a.mp h;cases h;exact JMs (ih st a h1) (JDB ih h2)
structure RareS(B:Bs)(C:Cn)(CX:CXT)(G:List (Str×GK)):Prop where
 dsp:G.lookup (".dsp":Str)=some GK.opt->∀(X:Cx) (XX:Nat->Hp->Prop) (n:Nat) (names:Nq) (N:List Str),Gk X B C CX XX G->(∀e x,JAL G n false names N e=some x->PE X e (RE B C XX x))->X.env.scope.kind=.function->X.env.scope.names=names->X.N=N->N.Nodup->(∀nm,X.fn nm=true\/X.env.scope.names.lookup nm≠some .cell) ->
  ∀(ts es:List Expr) (is:List Nat) (k k2:Nat) (pt pt2 pos:Pos) (q:E×Option Nat),slots names N ts=some is->is.Nodup->JD2 names ts es=true->JCx (JAL G n false names N) es is=some q->PS X (.Assign [.Tuple ts k pt] (.Tuple es k2 pt2) pos) (RSt X B C XX (unpO is q.1 q.2))
 ext:G.lookup (".ext":Str)=some GK.opt->∀(X:Cx) (XX:Nat->Hp->Prop),Gk X B C CX XX G->∀(x:E) (a:Expr) (i:Nat) (nm:Str) (p1 ap cp pos:Pos),X.N[i]? = some nm->Vis X.env.scope nm->JAN nm=false->(PE X a (REF B C XX x)\/PE X a (RE B C XX x))->starEach [a] X.env=[(false,eval a X.env)]->(ap.endLine==cp.line)=true ->
  PS X (.Expr (.Call (.Attribute (.Name nm p1) "extend" ap) [a] [] cp) pos) (RSt X B C XX (.ext i x))
 ins:G.lookup (".ins":Str)=some GK.opt->∀(X:Cx) (XX:Nat->Hp->Prop),Gk X B C CX XX G->∀(x:E) (a b:Expr) (i:Nat) (nm:Str) (p1 ap cp pos:Pos),X.N[i]? = some nm->Vis X.env.scope nm->JAN nm=false->PA X [a,b] (RA B C XX x)->starEach [a,b] X.env=[(false,eval a X.env),(false,eval b X.env)]->starEach [b] X.env=[(false,eval b X.env)]->(ap.endLine==cp.line)=true ->
  PS X (.Expr (.Call (.Attribute (.Name nm p1) "insert" ap) [a,b] [] cp) pos) (RSt X B C XX (.ins i x))
theorem JQl[Cool G](_:G.lookup (".dsp":Str)=some GK.opt)(X:Cx)(XX:Nat->Hp->Prop)(n:Nat)(names:Nq)(N:List Str)(g:Gk X B C CX XX G)(ih:∀e x,JAL G n false names N e=some x->PE X e (RE B C XX x))(hk:X.env.scope.kind=.function)(hn:X.env.scope.names=names)(hN:X.N=N)(hnd:N.Nodup)(hfn:∀nm,X.fn nm=true\/X.env.scope.names.lookup nm≠some .cell)
 (ts es:List Expr) (is:List Nat) (k k2:Nat) (pt pt2 pos:Pos) (q:E×Option Nat) (hi:slots names N ts=some is) (hd:is.Nodup) (ho:JD2 names ts es=true) (hq:JCx (JAL G n false names N) es is=some q):PS X (.Assign [.Tuple ts k pt] (.Tuple es k2 pt2) pos) (RSt X B C XX (unpO is q.1 q.2)):=JOH g ih hk hn hN hnd hfn hi hd ho hq
theorem JPA(_:G.lookup (".ext":Str)=some GK.opt)(X:Cx)(XX:Nat->Hp->Prop)(g:Gk X B C CX XX G)(x:E)(a:Expr)(i:Nat)(nm:Str)(p1 ap cp pos:Pos)(hN:X.N[i]? = some nm)(hv:Vis X.env.scope nm)(hbn:JAN nm=false)(he:PE X a (REF B C XX x)\/PE X a (RE B C XX x))(hs:starEach [a] X.env=[(false,eval a X.env)])(hl:(ap.endLine==cp.line)=true) :
 PS X (.Expr (.Call (.Attribute (.Name nm p1) "extend" ap) [a] [] cp) pos) (RSt X B C XX (.ext i x)):=he.elim (λhe=>JQe g hN hv hbn he hs hl) λhe=>JNZ g hN hv hbn he hs hl
theorem JGH(ra:Rare B C CX G)(rr:RareS B C CX G):∀(n:Nat) (X:Cx) (XX:Nat->Hp->Prop) (names:Nq) (N:List Str) (zz:Bool),Gk X B C CX XX G->X.env.scope.kind=.function->X.env.scope.names=names->X.N=N->N.Nodup ->
  PassesOwn (model X.prog X.w) X.A X.env X.xe->(∀nm,X.fn nm=true)->(zz=true->JMA X B G XX)->∀(st:Stmt) (t:S),JCW G n zz names N st=some t->PS X st (RSt X B C XX t)
 |0,X,XX,names,N,zz,g,hk,hn,hN,hnd,hpo,hfn,hr,st,t,h=>JAK h
 |n+1,X,XX,names,N,zz,g,hk,hn,hN,hnd,hpo,hfn,hr,st,t,h=>by
  have ih:=JGH ra rr n X XX names N zz g hk hn hN hnd hpo hfn hr;obtain⟨ihE,ihI⟩:=sound ra n X XX names N g hk hn hN hnd;cases st with
  |Pass p=>cases h;exact JMh
  |Break p=>cases h;exact JQo
  |Continue p=>cases h;exact JQk
  |Return e p =>
   cases e with
   |none=>cases h;exact JM3
   |some e =>
    dsimp only[JCW,JCv]at h
    obtain⟨x,hx,e'⟩:=q_d.mp h;subst e';exact JR3 g (ihE e x hx).1
  |If c a b p =>
   dsimp only[JCW,JCv]at h
   obtain⟨z,hz,h⟩:=q_a.mp h;obtain⟨x,hx,h⟩:=q_a.mp h;obtain⟨y,hy,h⟩:=q_a.mp h;cases h;exact JSG g (ihE c z hz).2 (JDB ih hx) (JDB ih hy)
  |While c body orelse p =>
   cases orelse with
   |cons a b=>exact JAK h
   |nil =>
    dsimp only[JCW,JCv]at h
    obtain⟨z,hz,h⟩:=q_a.mp h;obtain⟨x,hx,h⟩:=q_a.mp h;cases h;exact JPi g hpo (ihE c z hz).2 (JDB ih hx)
  |For tg iter body orelse p =>
   cases orelse with
   |cons a b=>exact JAK h
   |nil =>
    dsimp only[JCW,JCv]at h
    split at h
    case isTrue=>cases h
    rename_i hcool
    haveI:Cool G:=JDD hcool
    split at h
    ·rename_i nm ht;obtain⟨p2,e2⟩:=JEl ht;cases e2;obtain⟨i,hi,h⟩:=q_a.mp h;obtain⟨x,hx,h⟩:=q_a.mp h;obtain⟨b,hb,h⟩:=q_a.mp h;cases h;obtain⟨q1,q2⟩:=slot_of hn hN hi;exact JNd g hpo (ihI _ iter x hx) (JDB ih hb) (by rw[hN];exact hnd) q1 q2 (.inl (hfn nm)) (JCa hx X.env)
    ·cases h
  |Raise exc cause p =>
   dsimp only[JCW,JCv]at h
   obtain⟨nm,hr0,h9⟩:=q_a.mp h;clear h;obtain⟨p1,m,j,p2,p3,rfl,rfl⟩:=JEW hr0;have h:=h9;clear h9
   split at h
   ·rename_i c hg
    split at h
    case isFalse=>cases h
    rename_i hz;cases h;obtain⟨g1,g2,g3⟩:=JA3 hg;intro pins s σ H D I ⟨δ,O,Hb,hb,so,k⟩;simp only[exec]at k;exact hr hz nm c m j p1 p2 p3 p (JCV hn g2) g1 g3 pins s σ H D I (g.anti c Hb H so.same k)
   ·cases h
  |Assign ts e p =>
   have hfn':∀nm,X.fn nm=true\/X.env.scope.names.lookup nm=some .local:=λnm=>.inl (hfn nm)
   dsimp only[JCW,JCv]at h
   split at h
   ·rename_i nm ht;obtain⟨p1,rfl⟩:=JEl ht;obtain⟨i,hi,h⟩:=q_a.mp h;obtain⟨y,hy,h⟩:=q_a.mp h
    split at h
    ·cases h
    ·rename_i hc;cases h;obtain⟨q1,q2⟩:=slot_of hn hN hi;have hnd':X.N.Nodup:=by rw[hN];exact hnd
     by_cases h1:JEU e=true
     ·obtain⟨es,p2,rfl⟩:=JGZ h1;have hf:y.fresh=true:=by
       cases n with
       |zero=>simp[JAL,JAV,JAQ]at hy
       |succ n =>
        simp only[JAL,JAV,JAQ,xOf,Option.bind_none,ite_self,xRaw,Option.bind_none,mOf,mRaw]at hy
        split at hy
        ·obtain⟨z,_,e'⟩:=q_d.mp hy;subst e';rfl
        ·cases hy
      exact JHl g (JFO ra g hk hn hN hnd hy) hf hnd' q1 q2 rfl (hfn' nm)
     ·by_cases h2:JD1 e=true
      ·obtain⟨elt,gens,sc,p2,rfl⟩:=JKP h2
       haveI:Cool G:=JIk hy
       obtain⟨target,iter,ifs,xs,k,y1,z1,w1,e1,e2,bk,hi2,hs2,hrun⟩:=JHv ra g hk hn hN hnd hy;subst e1;subst e2;cases hb:(X.env.blockKind==.function&&X.env.kindOf nm==some .local&&p1.line==(Expr.ListComp elt [⟨target,iter,ifs,0⟩] sc p2).pos.line&&!(sc.names.any λ(n,k)=>n==nm&&(k==.local || k==.cell))) with
       |true =>
        have hsw:swapsWith (.ListComp elt [⟨target,iter,ifs,0⟩] sc p2) (some (.Name nm p1)) p.line X.env=pure true:=by rw[<-hb];rfl
        have hloc:X.env.scope.names.lookup nm=some .local:=by
         simp only[q_i,beq_iff_eq]at hb;exact hb.1.1.2
        exact JOL g (JKU g bk hi2 hs2 hrun hsw hnd' q1 hloc) rfl
       |false =>
        have hsw:swapsWith (.ListComp elt [⟨target,iter,ifs,0⟩] sc p2) (some (.Name nm p1)) p.line X.env=pure false:=by rw[<-hb];rfl
        exact JHl g (JFi g bk hi2 hs2 hrun) rfl hnd' q1 q2 hsw (hfn' nm)
      ·have hf:y.fresh=false:=by
        cases hz:y.fresh with
        |false=>rfl
        |true=>exact absurd ⟨hz,by simpa using h1,by simpa using h2⟩ hc
       exact JRO g (ihE e y hy).1 hf hnd' q1 q2 (JGU hy (by simpa using h2) _ _ _) (hfn' nm)
   ·rename_i ts ht;obtain⟨k,pt,rfl⟩:=JIO ht;obtain⟨is,hi,h⟩:=q_a.mp h
    split at h
    ·rename_i hc0;obtain⟨hc,hcool⟩:=hc0
     haveI:Cool G:=JDD (by rw[hcool];decide)
     obtain⟨y,hy,e'⟩:=q_d.mp h;subst e'
     by_cases ht:isTup e=true
     ·have hp:JE4 names ts e=true:=by
       rcases hc.2 with z|z
       ·rw[ht]at z;cases z
       ·exact z
      obtain⟨nx,px,ny,py,a,b,k2,pt2,e7,e8⟩:=JFe hp;subst e7;subst e8
      ·skip
       obtain⟨w1,w2,w3,w4⟩:=JEn (env:=X.env) (kt:=k) (pt:=pt) hk hn (λes e=>by
        subst e;cases n with
        |zero=>simp[JAL,JAV,JAQ]at hy
        |succ n =>
         simp only[JAL,JAV,JAQ,xOf,Option.bind_none,ite_self,xRaw,Option.bind_none,mOf,mRaw]at hy
         split at hy
         ·obtain⟨z,hz,_⟩:=q_d.mp hy;unfold JAM at hz;obtain⟨z1,hz1,hz⟩:=q_a.mp hz;obtain⟨z2,hz2,hz⟩:=q_a.mp hz;unfold JAM at hz2;obtain⟨z3,hz3,hz2⟩:=q_a.mp hz2;have t1:∀ {e:Expr}{x:E},JAL G n false names N e=some x->(match e with|.Starred ..=>true|_=>false)=false:=by
           intro e x h;cases e<;>first|rfl|(cases n<;>simp[JAL,JAV,JAQ,xOf,Option.bind_none,ite_self,xRaw,mOf,mRaw]at h)
          simp only[List.any_cons,List.any_nil,t1 hz1,t1 hz3,Bool.or_self,Bool.or_false]
         ·cases hy) hp
       simp only[slots]at hi;obtain⟨i,hi1,hi⟩:=q_a.mp hi;obtain⟨js,hi2,hi⟩:=q_a.mp hi;obtain⟨j,hi3,hi2⟩:=q_a.mp hi2;simp only[Option.bind_some,q_j]at hi2;subst hi2;cases hi;have hy':=hy;cases n with
       |zero=>simp[JAL,JAV,JAQ]at hy
       |succ n =>
        simp only[JAL,JAV,JAQ,xOf,Option.bind_none,ite_self,xRaw,Option.bind_none,mOf,mRaw]at hy
        split at hy
        ·obtain⟨z,hz,e'⟩:=q_d.mp hy;subst e';have hij:i≠j:=by
          have:=of_decide_eq_true hc.1;simp at this;exact this
         exact JOx g (allA g (λe x h=>((sound ra n X XX names N g hk hn hN hnd).1 e x h).1) hz) (by rw[hN];exact hnd) (slot_of hn hN hi1).1 (slot_of hn hN hi3).1 hij w3 w4 w1
        ·cases hy
     ·exact JRd g (ihE e y hy).1 hn hN hnd (λnm=>.inl (hfn nm)) hi (JId hy _ _ _ _ _) (JE8 (by simpa using ht) _ _ _ _)
    ·obtain⟨es,he,h9⟩:=q_a.mp h;clear h;obtain⟨k2,pt2,rfl⟩:=JGt he
     split at h9
     case isFalse=>cases h9
     rename_i hc;obtain⟨q,hq,rfl⟩:=q_d.mp h9;exact rr.dsp hc.2 X XX n names N g (λe x h=>((sound ra n X XX names N g hk hn hN hnd).1 e x h).1) hk hn hN hnd (λnm=>.inl (hfn nm)) ts es is k k2 pt pt2 p q hi (of_decide_eq_true hc.1.1) hc.1.2 hq
   ·cases h
  |Expr e p =>
   dsimp only[JCW,JCv]at h
   split at h
   ·rename_i nm m a hm;obtain⟨p1,ap,cp,rfl,hc1⟩:=JFT hm
    split at h
    ·rename_i hc2;have JEY:∀ {i},slot names N nm=some i->Vis X.env.scope nm:=λhi=>by
      rcases(slot_of hn hN hi).2 with k|k
      ·exact .inl k
      ·exact .inr (.inl k)
     split at h
     ·rename_i hm;subst hm;obtain⟨i,hi,h⟩:=q_a.mp h;obtain⟨y,hy,e'⟩:=q_d.mp h;subst e';exact JQ4 g (slot_of hn hN hi).1 (JEY hi) hc2 (ihE a y hy).1 (JAU hy [] _) hc1
     ·split at h
      ·rename_i hm;obtain⟨⟨hm,hl⟩,hfl⟩:=hm;subst hm;obtain⟨i,hi,h⟩:=q_a.mp h;obtain⟨y,hy,e'⟩:=q_d.mp h;subst e'
       by_cases hl2:JEU a=true
       ·obtain⟨es,p2,rfl⟩:=JGZ hl2;exact rr.ext hfl X XX g y _ i nm p1 ap cp p (slot_of hn hN hi).1 (JEY hi) hc2 (.inl (JFO ra g hk hn hN hnd hy)) (JAU hy [] _) hc1
       ·exact rr.ext hfl X XX g y a i nm p1 ap cp p (slot_of hn hN hi).1 (JEY hi) hc2 (.inr (ihE a y hy).1) (JAU hy [] _) hc1
      ·cases h
    ·cases h
   ·split at h
    ·rename_i nm a b hm;obtain⟨p1,ap,cp,rfl,hc1⟩:=JGu hm
     split at h
     ·rename_i hc2;obtain⟨i,hi,h⟩:=q_a.mp h;obtain⟨y,hy,e'⟩:=q_d.mp h;subst e';have vs:Vis X.env.scope nm:=by
       rcases(slot_of hn hN hi).2 with k|k
       ·exact .inl k
       ·exact .inr (.inl k)
      have s1:=JFU hy a (by simp) [b] X.env
      have s2:=JFU hy b (by simp) [] X.env
      have s3:starEach ([]:List Expr) X.env=[]:=rfl;rw[s3]at s2;rw[s2]at s1;exact rr.ins hc2.2 X XX g y a b i nm p1 ap cp p (slot_of hn hN hi).1 vs hc2.1 (allA g (λe x h=>((sound ra n X XX names N g hk hn hN hnd).1 e x h).1) hy) s1 s2 hc1
     ·cases h
    ·split at h
     ·rename_i hd;obtain⟨y,j,p2,rfl⟩:=JGq hd;cases h;exact JRG
     ·split at h
      ·cases h
      ·rename_i hc;obtain⟨y,hy,e'⟩:=q_d.mp h;subst e';exact JON g (ihE e y hy).1 (JGU hy (by simpa using hc) _ _ _)
  |_=>exact JAK h
end
structure Turned(G:List (Str×GK))(st:Stmt)(N ps:List Str)(fd:Fd):Prop where
 comp:JAp (JCW G 60 true (JAD st).names N) (JAX st)=some fd.body
 sc:FnScope N ps (JAD st)
 par:fd.par=ps.length
 slots:fd.slots=N.length
structure DefAt(K:Kq)(mg:Mq)(G:List (Str×GK))(x:Str)(fd:Fd):Prop where
 ex:∃f fo st N ps,mg x=some (.ref f)/\Fun K x x st f fo/\Binds K fo ps []/\Turned G st N ps fd
theorem JCe{m:Nat}(h:DenL B H ds vs)(hl:N.length=m)(hv:vs.length<=m):SO B H (start N vs) H (ds.map Sl.val++List.replicate (m - ds.length) Sl.no) (λ_=>none):=by
 have hlen:=DenL.len ds vs h;refine⟨?_,Same.refl H,(λi j a e=>by cases e),λi=>?_⟩
 ·simp only[L2.start,q_u,q_g,List.length_replicate];omega
 ·have hh:hid H (λ_=>none)=H:=by
   funext b
   unfold hid hidP;rw[if_neg];rintro⟨i,e⟩;cases e
  by_cases hi:i<ds.length
  ·rw[q_C (by simpa using hi),List.getElem?_map]
   obtain⟨d,hd⟩:∃d,ds[i]? = some d:=⟨_,q_q hi⟩;obtain⟨v,hv,dn⟩:=DenL.get ds vs i d h hd;rw[hd];refine⟨rfl,v,?_,by rw[hh];exact dn⟩
   unfold L2.start;rw[q_C (by rw[q_g];omega),List.getElem?_map,hv]
   rfl
  ·rw[List.getElem?_append_right (by simpa using hi),List.getElem?_replicate]
   split
   ·rfl
   ·rfl
section
variable{B:Bs}{G:List (Str×GK)}{tab:Nat->Option Fd}{glo:Nat->R D}{sub:Nat->Nat->Bool}
theorem JM9{x:Bool}{n i:Nat}(h:run x tab glo sub n i ds≠.bad):∃fd,tab i=some fd/\ds.length=fd.par:=by
 cases n with
 |zero=>exact absurd rfl h
 |succ n =>
  unfold run at h;cases e:tab i with
  |none=>rw[e]at h;exact absurd rfl h
  |some fd =>
   have h:JFW x ⟨run x tab glo sub n,glo,sub⟩ fd ds≠.bad:=by rw[e]at h;exact h
   refine⟨fd,rfl,?_⟩;unfold JFW at h
   by_cases hl:ds.length=fd.par
   ·exact hl
   ·rw[if_neg hl]at h;exact absurd rfl h
theorem JGh:∀ns:List Int,DenL B H (ns.map λi=>PyData.int i) (ns.map V.int)
 | []=>by simp only[List.map_nil,DenL]
 |n::ns=>by
  simp only[List.map_cons,DenL];exact⟨_,_,rfl,by simp only[Den],JGh ns⟩
end
structure FnIn(K:Kq)(x:Str)(st:Stmt):Prop where
 ex:∃(f:Addr) (oc:Value) (od an:Option Addr) (sl:Array (Option Value)) (kV dc pm cd ct:Value),PySem.W.nsIn K mainGlobals x=some (some (.ref f)) /\
  K.lookup f=some ⟨oc,od,.func (PySem.W.fnOf x x (JA8 st) (JAX st) (JAD st) .none kV dc pm an cd ct),sl⟩/\PySem.W.codeIn K cd x=true/\PySem.W.keepIn K (.ref f)=true
theorem JQc{K:Kq}{x:Str}{st:Stmt}{f:Addr}{oc:Value}{od an:Option Addr}{sl:Array (Option Value)}{kV dc pm cd ct:Value}(a:PySem.W.nsIn K mainGlobals x=some (some (.ref f)))
  (l:K.lookup f=some ⟨oc,od,.func (PySem.W.fnOf x x (JA8 st) (JAX st) (JAD st) .none kV dc pm an cd ct),sl⟩) (c:PySem.W.codeIn K cd x=true) (k:PySem.W.keepIn K (.ref f)=true):FnIn K x st :=
 ⟨f,oc,od,an,sl,kV,dc,pm,cd,ct,a,l,c,k⟩
def JFB(x:Str)(st:Stmt)(ps:List Str):Prop:=∀(kV doc pm:Value) (an:Option Addr) (cdv ct:Value) (us:List Value),us.length=ps.length->bindArgs (PySem.W.fnOf x x (JA8 st) (JAX st) (JAD st) .none kV doc pm an cdv ct) ⟨us,[]⟩=pure (ps.zip us)
theorem FnIn.at{K:Kq}{h:Heap}{mg:Mq}{G:List (Str×GK)}{x:Str}{st:Stmt}{N ps:List Str}{fd:Fd}(F:FnIn K x st)(X:K.In h)(Gm:h.Ns mainGlobals mg)(b:JFB x st ps)(T:Turned G st N ps fd):DefAt K mg G x fd:=by
 obtain⟨f,oc,od,an,sl,kV,dc,pm,cd,ct,a,l,c,k⟩:=F.ex;have Fn:=JF0 (st:=st) l c k;exact⟨f,_,st,N,ps,PySem.W.mg_of X Gm a,Fn,Fn.binds b,T⟩
def AllP(P:Str->GK->Prop):List (Str×GK)->Prop
 | []=>True
 |(x,k)::r=>P x k/\AllP P r
theorem AllP.get{P:Str->GK->Prop}:∀ {G:List (Str×GK)}{x:Str}{k:GK},AllP P G->G.lookup x=some k->P x k
 | [],x,k,_,h=>by cases h
 |(y,j)::r,x,k,⟨h1,h2⟩,h=>by
  rw[List.lookup_cons]at h
  by_cases e:(x==y)=true
  · rw[e]at h
    have e':x=y:=by simpa using e
    cases h;subst e';exact h1
  · have e':(x==y)=false:=by simpa using e
    rw[e']at h;exact AllP.get h2 h
theorem JHH(h:JBQ o=false)(nm:Str)(env:PySem.Env)(m:Sem Value):attributeBase o nm env m=m:=by
 cases o with
 |Call f as ks p =>
  cases as with
  |nil =>
   cases ks with
   |nil=>cases h
   |cons k ks=>cases f<;>rfl
  |cons a as=>cases f<;>rfl
 |_=>rfl
section
variable{X:Cx}{B:Bs}{C:Cn}{CX:CXT}{XX:Nat->Hp->Prop}{G:List (Str×GK)}
def JPS(B:Bs)(XX:Nat->Hp->Prop):V->List V->Hp->VK->Prop:=λv vs H Q=>∃dx dy u,Den B H dx v/\vs=[u]/\Den B H dy u/\KE B XX (JD5 dx dy) H Q
def JRH(B:Bs)(XX:Nat->Hp->Prop):V->List V->Hp->VK->Prop:=λv vs H Q=>∃dx dy u,Den B H dx v/\vs=[u]/\Den B H dy u/\KE B XX (JD0 dx dy) H Q
theorem JJs(g:Gk X B C CX XX G):MtR X "list.count" (JPS B XX):=by
 intro pins s σ H v vs vv us Q I rv rs ⟨dx,dy,u,hx,e,hy,k⟩;subst e;obtain⟨w,rfl,rw'⟩:=rs.one;cases dx with
 |list ds =>
  simp only[JD5]at k
  split at k
  ·rename_i hs;simp only[JCi,q_i,q_D]at hs;obtain⟨bs,rb⟩:=Den.reads g.K I dy u w hs.1.2 hy rw';obtain⟨as,ra⟩:=Den.reads g.K I (.list ds) v vv (by simpa only[PyData.canLay0] using hs.1.1) hx rv
   have hu:=g.units;have hm:=Nat.min_le_right (PyData.depthAll ds) dy.depth;cases ra with
   |list h1 h2 h3 h4 =>
    rename_i l o items n as';obtain⟨oc,od,oD,os⟩:=o;simp only at h2 h3;subst h2;subst h3;refine call_meets PySem.F.slot_list_count ⟨_,h1,rfl⟩ PySem.F.entry_list_count (PySem.F.args_list_count_2 _ _) (SeqAt.list_countAt l items n od os w _) ⟨h1,SeqAt.items_eqAt h4 rb hs.1.1 hs.1.2 (by omega),?_⟩
    refine⟨.int _,H,I.tok _,⟨_,rfl⟩,KE.ok k ?_⟩;simp only[Den]
    congr 2
    rw[<-SeqAt.readsAll_map ds _ _ hs.1.1 h4,List.countP_map];rfl
  ·exact k.elim
 |_=>exact fF k
theorem JKH(g:Gk X B C CX XX G):MtR X "list.index" (JRH B XX):=by
 intro pins s σ H v vs vv us Q I rv rs ⟨dx,dy,u,hx,e,hy,k⟩;subst e;obtain⟨w,rfl,rw'⟩:=rs.one;cases dx with
 |list ds =>
  simp only[JD0]at k
  split at k
  ·rename_i hs;simp only[JCi,q_i,q_D]at hs;obtain⟨bs,rb⟩:=Den.reads g.K I dy u w hs.1.2 hy rw';obtain⟨as,ra⟩:=Den.reads g.K I (.list ds) v vv (by simpa only[PyData.canLay0] using hs.1.1) hx rv
   have hu:=g.units;have hm:=Nat.min_le_right (PyData.depthAll ds) dy.depth
   split at k
   ·rename_i j hj;have hz:ds.length<=sizeLine:=by
     simp only[Den]at hx;obtain⟨a,xs,e1,q,l⟩:=hx;obtain⟨_,_,_,z⟩:=I.list (g.K▸q);rw[DenL.len ds xs l];exact z
    cases ra with
    |list h1 h2 h3 h4 =>
     rename_i l o items n as';obtain⟨oc,od,oD,os⟩:=o;simp only at h2 h3;subst h2;subst h3;have hmap:=SeqAt.readsAll_map ds _ _ hs.1.1 h4;have hlen:items.size=ds.length:=by rw[<-hmap,q_g,q_F]
     obtain⟨q1,q2,q3⟩:=List.findIdx?_eq_some_iff_getElem.mp hj;have get:∀m (hm:m<items.size),SeqAt.readOf s.heap items[m]=ds[m]'(by omega):=λm hm=>by
      have:(items.toList.map (SeqAt.readOf s.heap))[m]'(by simpa using hm)=ds[m]'(by omega):=by simp only[hmap]
      simpa using this
     refine call_meets PySem.F.slot_list_index ⟨_,h1,rfl⟩ PySem.F.entry_list_index (PySem.F.args_list_index_2 _ _) (SeqAt.list_indexAt l items n od os w (λy=>PyData.eqv (SeqAt.readOf s.heap y) dy) j (by omega) ?_ ?_ ?_) ⟨h1,SeqAt.items_eqAt h4 rb hs.1.1 hs.1.2 (by omega),?_⟩
     ·have:(sizeLine:Int)<2 ^ 63 - 1:=by decide
      omega
     ·simp only[get j (by omega)];exact q2
     ·intro m hm hmj;simp only[get m hm];have:=q3 m hmj;simpa using this
     ·refine⟨.int _,H,I.tok _,⟨_,rfl⟩,KE.ok k ?_⟩;simp only[Den]
   ·exact fF k
  ·exact k.elim
 |_=>exact fF k
theorem few1(hs:starEach [a] X.env=[(false,eval a X.env)]):((backTo cp (starEach [a] X.env)).all (λx=>!x.1)&&(backToKw cp (keywordEach [] X.env)).all (λx=>x.1.isSome)
  && decide (([a]:List Expr).length+([]:List Keyword).length+(if ([]:List Keyword).isEmpty then 0 else 1)<30))=true:=by
 rw[hs];rfl
theorem JO3(g:Gk X B C CX XX G){o a:Expr}{x y:E}{ap cp:Pos}{m:Str}{id:String}{f:D->D->R D}(slot:Slot "list" m id)(hty:typeOf (.builtin id)=pure (.type "method_descriptor"))
  (hm:MtR X id (λv vs H Q=>∃dx dy u,Den B H dx v/\vs=[u]/\Den B H dy u/\KE B XX (f dx dy) H Q)) (ho:JBQ o=false) (hl:(ap.endLine==cp.line)=true) (hx:PE X o (RE B C XX x)) (hy:PE X a (RE B C XX y)) (hs:starEach [a] X.env=[(false,eval a X.env)]) {z:E}
  (hz:∀δ,ev C z δ=(ev C x δ).bind λx=>if JN2 x=true then (ev C y δ).bind λy=>f x y else .bad):PE X (.Call (.Attribute o m ap) [a] [] cp) (RE B C XX z):=by
 refine PE.imp (JKp PySem.F.plainAttrs_list slot hty hm hx (JBG hy JBp hs) (JHH ho _ _ _) (few1 hs) hl hs rfl) λσ H Q ⟨δ,ok,h⟩=>?_;rw[hz]at h;refine RE.of (W:=λr H=>KE B XX r H Q) ok (λ_ _ z=>z) (λ_ z=>z) h λdx v H1 s1 d1 h1=>?_;cases dx with
 |list ds =>
  have d1':=d1;simp only[Den]at d1';obtain⟨l,xs,e,q,dl⟩:=d1';subst e;refine⟨.inl ⟨rfl,xs,by rw[g.K];exact q⟩,?_⟩
  refine RE.of (W:=λr H=>KE B XX r H Q) (ok.mono s1) (λ_ _ z=>z) (λ_ z=>z) (KE.mono g s1 h1) λdy u H2 s2 d2 h2=>?_;exact⟨_,_,_,Den.mono s2 _ _ d1,rfl,d2,KE.mono g s2 h2⟩
 |_=>exact fF h1
theorem JJA(g:Gk X B C CX XX G)(o a:Expr)(x y:E)(ap cp:Pos)(ho:JBQ o=false)(hl:(ap.endLine==cp.line)=true)(hx:PE X o (RE B C XX x))(hy:PE X a (RE B C XX y))(hs:starEach [a] X.env=[(false,eval a X.env)]) :
  PE X (.Call (.Attribute o "count" ap) [a] [] cp) (RE B C XX (.mcount x y)) :=
 JO3 g PySem.F.slot_list_count PySem.F.type_list_count (JJs g) ho hl hx hy hs λδ=>by simp only[ev]
theorem JIH(g:Gk X B C CX XX G)(o a:Expr)(x y:E)(ap cp:Pos)(ho:JBQ o=false)(hl:(ap.endLine==cp.line)=true)(hx:PE X o (RE B C XX x))(hy:PE X a (RE B C XX y))(hs:starEach [a] X.env=[(false,eval a X.env)]) :
  PE X (.Call (.Attribute o "index" ap) [a] [] cp) (RE B C XX (.mindex x y)) :=
 JO3 g PySem.F.slot_list_index PySem.F.type_list_index (JKH g) ho hl hx hy hs λδ=>by simp only[ev]
end
def TrAt(h:Heap)(e T:Addr)(cls:Value):Prop:=∃oe vs a0 oT ts,h.get? e=some oe/\(oe.cls=cls/\vs[0]? = some a0)/\oe.data=.fields vs/\vs[1]? = some (.ref T)/\T≠e/\h.get? T=some oT/\oT.data=.fields ts/\ts[3]? = some .none
noncomputable def CXV(P:Program)(w:World)(B:Bs):CXT:=λouter H s E e s'=>∃(ea T:Addr) (c:Nat) (H':Hp),e=.ref ea/\s'.os=s.os/\AllBare s'.gens/\Un (frs outer) [] H H' s.heap s'.heap/\HOk P w H' s'.heap /\
 TrAt s'.heap ea T (.ref (B.cl c))/\(s.heap.get? ea=none/\H' ea=none)/\(s.heap.get? T=none/\H' T=none)/\E (.ref (B.cl c)) none H'
theorem JFv{w:World}{a:Addr}(x:HOk P w H h)(q:H a=some o):∃u,h.get? a=some u:=by
 have:=x a o q;cases o with
 |lst xs=>obtain⟨_,_,_,_,e⟩:=this;exact⟨_,e⟩
 |tup xs=>obtain⟨_,_,_,_,e,_⟩:=this;exact⟨_,e⟩
 |dK kvs=>obtain⟨_,_,_,_,_,_,_,e,_⟩:=this;exact⟨_,e⟩
 |dT kvs=>obtain⟨_,_,_,_,_,_,_,e,_⟩:=this;exact⟨_,e⟩
 |set S n=>obtain⟨_,_,_,_,e,_⟩:=this;exact⟨_,e⟩
 |ins C dx fs=>obtain⟨_,_,_,e,_⟩:=this;exact⟨_,e⟩
 |own y=>exact this
 |xd fs=>obtain⟨_,⟨_,_,_,e,_⟩,_⟩:=this;exact⟨_,e⟩
 |rng lo hi=>obtain⟨_,_,_,e⟩:=this;exact⟨_,e⟩
 |frz ob u=>exact⟨_,this.1⟩
 |tbl ps=>exact⟨_,this⟩
 |met f y=>exact⟨_,this⟩
 |ext φ=>exact this.2.1
theorem JKS{P:Program}{w:World}{H:Hp}{h:Heap}{a:Addr}(x:HOk P w H h)(q:h.get? a=none):H a=none:=by
 cases z:H a with
 |none=>rfl
 |some o =>
  obtain⟨u,e⟩:=JFv x z;rw[q]at e;cases e
section
variable{X:Cx}{pins:Pq}{σ:St}{H':Hp}{s1:Shared}{h2:Heap}
theorem JDk(I:Inv X pins σ H' s1)(up:s1.heap.UpToSlots h2){b:Addr}(hb:b∈frs X.stack):∃o,h2.get? b=some o/\∀vs,o.data≠.fields vs:=by
 obtain⟨_,o,ho,hd⟩:=I.stack.mem hb;obtain⟨sl,hs⟩:=up b o ho hd;exact⟨_,hs,hd⟩
theorem JGE(I:Inv X pins σ H' s1)(hex:X.ex=[]){as:List Addr}(has:∀b∈as,b∈frs X.stack\/(X.s₀.heap.get? b=none/\H' b=none)){ea:Addr}{cls a0:Value}{l:List PySem.Env}
  (fl:Heap.FlyingW (PySem.W.hideAll s1.heap as) l ea cls a0 h2) (up:s1.heap.UpToSlots h2) :
  Un X.fs [] X.H₀ H' X.s₀.heap h2/\HOk X.prog X.w H' h2/\∃T,TrAt h2 ea T cls/\X.s₀.heap.get? T=none/\H' T=none:=by
 obtain⟨st,fe,ff,oe,vs,T,oT,ts,q1,q2,q3,q4,q5,q6,q7,q8,q9⟩:=fl;have U:=I.base;rw[hex]at U;have sub:∀b∈X.fs,b∈frs X.stack:=λb hb=>by
  rcases I.ok.stk with e|⟨e,hf⟩
  · rw[e];exact hb
  · rw[e]
    unfold frs;rw[List.filterMap_cons,hf];exact q_s _ hb
 have loc:∀b o,X.s₀.heap.get? b=some o->b ∉ X.fs->b ∉ frs X.stack:=λb o e n z=>by
  rcases q_n.mp (I.stkSub b z) with q|q
  · rw[q]at e
    exact absurd (q_h e) (Nat.not_lt.mpr I.ok.above)
  · exact n q
 have out:∀b o,X.s₀.heap.get? b=some o->b ∉ frs X.stack->b ∉ as:=λb o e n z=>by
  rcases has b z with q|⟨q,_⟩
  · exact n q
  · rw[q]at e;cases e
 have keep:∀b o,s1.heap.get? b=some o->b ∉ as->h2.get? b=some o:=λb o e n=>st b o (PySem.W.hideAll_get _ e n);have trk:∀b o,H' b=some o->b ∉ as:=λb o e z=>by
  rcases has b z with q|⟨_,q⟩
  · rw[I.stkFree b q]at e;cases e
  · rw[q]at e;cases e
 refine⟨⟨λb o e n hf hx=>keep b o (U.keep b o e n hf hx) (out b o e (loc b o e hf)),λb o e n hf hx=>?_,U.free,λb o e hx=>?_,U.tups,U.frzs,U.tbls⟩,λa o e=>?_,T,⟨oe,vs,a0,oT,ts,q1,q2,q3,q4,q6,q7,q8,q9⟩,?_,?_⟩
 ·obtain⟨sl,e1⟩:=U.slot b o e n hf hx;obtain⟨_,o',ho',hd'⟩:=I.stack.mem (sub b hf);rw[e1]at ho';cases ho';obtain⟨sl',e2⟩:=up b _ e1 hd';exact⟨sl',e2⟩
 ·obtain⟨o',e1⟩:=U.there b o e hx
  by_cases hb:b∈frs X.stack
  · obtain⟨o2,e2,_⟩:=JDk I up hb
    exact⟨o2,e2⟩
  · exact⟨o',keep b o' e1 (out b o e hb)⟩
 ·refine(I.hok a o e).stay (λb u hb eb=>keep b u eb ?_) (λ_ q=>q) λ_ _ q=>q;rcases hb with rfl|hb
  · exact trk _ _ e
  · exact trk _ _ hb
 ·cases q:X.s₀.heap.get? T with
  |none=>rfl
  |some o =>
    exfalso;obtain⟨o',e1⟩:=U.there T o q (by simp)
    by_cases hb:T∈frs X.stack
    ·obtain⟨o2,e2,hd⟩:=JDk I up hb;rw[q7]at e2;cases e2;exact hd _ q8
    ·have:=PySem.W.hideAll_get as e1 (out T o q hb);rw[q5]at this;cases this
 ·cases q:H' T with
  |none=>rfl
  |some o =>
    exfalso;have hl:=(I.hok T o q).lt;have hn:=trk T o q;obtain⟨u,e⟩:=JFv I.hok q;have:=PySem.W.hideAll_get as e hn;rw[q5]at this;cases this
end
section
variable{P:Program}{w:World}{B:Bs}{mg:Mq}{base:Heap}{N:List Str}{qual:Str}{scope:Scope}{f:Addr}{cd:Value}{A:Around}{outer:List PySem.Env}{s:Shared}{H:Hp}{E:XK}
abbrev XXd(B:Bs)(E:XK):Nat->Hp->Prop:=λc H1=>∀H',Same H1 H'->E (.ref (B.cl c)) none H'
theorem JM2:JDv (CXV P w B) (cxOf (CXV P w B) P w B.K mg base N qual scope f cd A outer s H E) (EX B (XXd B E)):=by
 intro pins σ H1 s1 e s' I ⟨ea,T,c,H',e1,os,bare,un,hok,tr,⟨f1,f2⟩,⟨f3,f4⟩,⟨c',ec,hE⟩⟩;subst e1;have I':=I.call' (ch:=[]) os un hok bare (λb hb=>by simp at hb)
 obtain⟨oe,vs,a0,oT,ts,q1,q2,q3,q4,q6,q7,q8,q9⟩:=id tr;have fr0:∀b,s1.heap.get? b=none->s.heap.get? b=none:=λb q=>by
  cases z:s.heap.get? b with
  |none=>rfl
  |some o =>
   obtain⟨o',e2⟩:=I.base.there b o z (by simp[cxOf])
   rw[q]at e2;cases e2
 have has:∀b∈(ea::T::frs (cxOf (CXV P w B) P w B.K mg base N qual scope f cd A outer s H E).stack),b∈frs (cxOf (CXV P w B) P w B.K mg base N qual scope f cd A outer s H E).stack\/(s.heap.get? b=none/\H' b=none):=λb hb=>by
  rcases q_n.mp hb with rfl|hb
  ·exact .inr ⟨fr0 _ f1,f2⟩
  ·rcases q_n.mp hb with rfl|hb
   ·exact .inr ⟨fr0 _ f3,f4⟩
   ·exact .inl hb
 refine PySem.wpAny_leaves_onW (base:=PySem.W.hideAll s'.heap (ea::T::frs (cxOf (CXV P w B) P w B.K mg base N qual scope f cd A outer s H E).stack)) (outer:=outer) (cls:=.ref (B.cl c)) (a0:=a0) I'.ok.frames rfl
  ⟨λb o q=>PySem.W.of_hideAll _ q,PySem.W.hideAll_none _ (by simp),PySem.W.funFrames_hide I'.stack (λenv he a hf=>q_s _ (q_s _ (List.mem_filterMap.mpr ⟨env,he,hf⟩))),oe,vs,T,oT,ts,q1,q2,q3,q4,PySem.W.hideAll_none _ (by simp),q6,q7,q8,q9⟩ λh2 fl up=>?_
 obtain⟨u2,hok2,T2,tr2,t1,t2⟩:=JGE I' rfl has fl up;refine⟨ea,T2,c,H',rfl,?_,bare,u2,hok2,tr2,⟨fr0 _ f1,f2⟩,⟨t1,t2⟩,?_⟩
 ·exact os.trans I.os
 ·rw[ec];exact hE H' (Same.refl H')
theorem JFY:∀(outer:List PySem.Env) (H:Hp) (s:Shared) (e:Value) (s':Shared),¬CXV P w B outer H s (EX B λ_ _=>False) e s':=by
 rintro outer H s e s' ⟨ea,T,c,H',_,_,_,_,_,_,_,_,c',_,z⟩;exact z
end
abbrev bmV:List Value:=[.type "ValueError",.type "Exception",.type "BaseException",.type "object"]
theorem JMq{K:Kq}{h:Heap}{C:Addr}{bmB:List Value}{newId:String}(X:K.In h)(q:PySem.W.excIn K C bmB newId=true) :
  ∃(bm:List Value) (N:Addr) (nm qn:Str) (bs:List Value) (hdct:Bool) (sn:List Str) (sub:List Value) (ab:Bool) (col:Option Bool) (dd:Option Addr) (k0 k1 k2 k3 k5:Option Value) (mN:Mq),
   h.get? C=some (excClassObj nm qn C N bs bm hdct sn sub ab col dd k0 k1 k2 k3 k5 newId)/\h.Ns N mN/\mN "__init__"=none/\OwnTail h bmB bm:=by
 unfold PySem.W.excIn at q
 split at q
 case h_2=>cases q
 rename_i od cdat slots hlook
 split at q
 case h_2=>cases q
 rename_i C2 tl a0 a1 a2 a3 idn a5 hmro hsl;simp only[q_i,beq_iff_eq,Bool.not_eq_true']at q;obtain⟨⟨⟨⟨⟨e1,e2⟩,e3⟩,e4⟩,e5⟩,e6⟩:=q;subst e1;subst e2;cases cdat with
 |mk nm bs mro ns qn hd sn sub ab col del =>
  simp only at hmro e3 e5 e6;subst hmro;subst e3;cases slots with
  |mk l =>
   simp only at hsl;subst hsl;exact⟨tl,ns,nm,qn,bs,hd,sn,sub,ab,col,od,a0,a1,a2,a3,a5,_,X _ _ hlook,.of_isNs (PySem.W.isNs_of_in X e5),PySem.W.nsMap_none_of_in X e5 e6,PySem.W.tail_of_in X e4⟩
section
variable{P:Program}{w:World}{B:Bs}{mg:Mq}{base:Heap}{N:List Str}{qual:Str}{scope:Scope}{f:Addr}{cd:Value}{A:Around}{outer:List PySem.Env}{s:Shared}{H:Hp}{E:XK}{G:List (Str×GK)}
structure Cl(mg:Mq)(B:Bs)(G:List (Str×GK)):Prop where
 mgc:∀x c,G.lookup x=some (.cls c)->mg x=some (.ref (B.cl c))
 exc:∀x c,G.lookup x=some (.cls c)->∃Bn inN bmN newId,ExcBaseFacts Bn newId inN bmN/\bmV.contains (.type Bn)=true/\PySem.W.excIn B.K (B.cl c) bmV newId=true
theorem JGs(cl:Cl mg B G)(hA:A.handled=none):JMA (cxOf (CXV P w B) P w B.K mg base N qual scope f cd A outer s H E) B G (XXd B E):=by
 intro nm c m j p1 p2 p3 pos hg hb hl pins s1 σ H1 D I hx;obtain⟨Bn,inN,bmN,newId,Fn,hBn,q⟩:=cl.exc nm c hl;obtain⟨bm,N',nm',qn,bs,hdct,sn,sub,ab,col,dd,k0,k1,k2,k3,k5,mN,hC,hN,hni,TL⟩:=JMq I.kIn q;refine wpAny_Raise_call_subU (C:=B.cl c) (nm:=nm') (q:=qn) (N:=N') (bs:=bs) (bm:=bm) (hdct:=hdct) (sn:=sn) (sub:=sub) (ab:=ab) (col:=col) (dd:=dd) (k0:=k0) (k1:=k1) (k2:=k2) (k3:=k3) (k5:=k5)
  Fn hBn PySem.F.excBase_ValueError (mN:=mN) (TL.hasType PySem.F.excBase_ValueError.hasBase) hA rfl hni (JCY I hg (cl.mgc nm c hl) ⟨rfl,?_⟩ (JAE hb).1)
 refine Calls.evalArgs_plain (Calls.spliced_cons (Calls.Constant_str (k:=j) (pos:=p2) (Calls.spliced_nil ⟨rfl,(show(1:Nat)<=sizeLine by decide),hC,hN,TL,λh' e hx'=>?_⟩)))
 have none0:s.heap.get? e=none:=by
  cases z:s.heap.get? e with
  |none=>rfl
  |some o =>
    obtain⟨o',e2⟩:=I.base.there e o z (by simp[cxOf])
    have:=hx'.new;rw[e2]at this;cases this
 refine PySem.wpAny_leaves_madeW (base:=PySem.W.hideAll s1.heap (frs (cxOf (CXV P w B) P w B.K mg base N qual scope f cd A outer s H E).stack)) (outer:=outer) I.ok.frames rfl (λb o q=>PySem.W.of_hideAll _ q)
  (PySem.W.funFrames_hide I.stack (λenv he a hf=>List.mem_filterMap.mpr ⟨env,he,hf⟩)) hx' λh2 t x1 x2 x3 x4=>?_
 obtain⟨u2,hok2,T2,tr2,t1,t2⟩:=JGE I rfl (λb hb=>.inl hb) x1 ((Heap.UpToSlots.of_keeps hx'.keeps).trans x4);exact⟨e,T2,c,H1,rfl,I.os,I.bare,u2,hok2,tr2,⟨none0,JKS I.hok hx'.new⟩,⟨t1,t2⟩,hx H1 (Same.refl H1)⟩
end
section
variable{X:Cx}{pins pins' pn:Pq}{σ:St}{H:Hp}{s:Shared}{A:Around}{xe:Vq}{calm:Bool}{h2:Heap}
theorem JGc(I:Inv X pins σ H s)(hA:A.frames=X.A.frames)(hc:calm=true->A.handled=none)(hp:∀p∈pn++pins',p∈X.pn++pins):Inv (atX X A pn xe calm) pins' σ H s :=
 let ok:=I.ok
 ⟨⟨ok.mod,ok.kind,ok.glob,ok.blt,ok.above,ok.inj,ok.has,ok.cab,hc,hA.trans ok.frames,ok.stk,ok.exf,ok.bs,ok.bsz,ok.noex,ok.exfs,ok.funs,ok.frf⟩,I.os,I.bare,I.base,I.loc,I.cell,I.free,I.freeC,λp q=>I.pin p (hp p q),I.hok,I.len⟩
theorem JK8(I:Inv (atX X A pn xe calm) pins' σ H s)(hA:X.A.frames=A.frames)(hc:X.calm=true->X.A.handled=none)(hp:∀p∈X.pn++pins,p∈pn++pins'):Inv X pins σ H s :=
 let ok:=I.ok
 ⟨⟨ok.mod,ok.kind,ok.glob,ok.blt,ok.above,ok.inj,ok.has,ok.cab,hc,hA.trans ok.frames,ok.stk,ok.exf,ok.bs,ok.bsz,ok.noex,ok.exfs,ok.funs,ok.frf⟩,I.os,I.bare,I.base,I.loc,I.cell,I.free,I.freeC,λp q=>I.pin p (hp p q),I.hok,I.len⟩
theorem JHi(I:Inv X pins σ H s)(hex:X.ex=[]){as:List Addr}(has:∀b∈as,b∈frs X.stack\/(X.s₀.heap.get? b=none/\H b=none))(hpin:∀p∈X.pn++pins,p.1 ∉ as){ea:Addr}{cls a0:Value}{l:List PySem.Env}
  (fl:Heap.FlyingW (PySem.W.hideAll s.heap as) l ea cls a0 h2) (up:s.heap.UpToSlots h2) (t:Nat):Inv X pins σ H { s with heap:=h2,toks:=t }:=by
 obtain⟨u2,hok2,_⟩:=JGE I hex has fl up;obtain⟨m,hn,hl⟩:=id I.loc;have cell:∀ {c:Addr}{v:Option Value},s.heap.IsCell c v->h2.IsCell c v:=λ{c v} ⟨o,ho,hd⟩=>by
  obtain⟨sl,e⟩:=up c o ho (λvs q=>by rw[hd]at q;cases q)
  exact⟨_,e,hd⟩
 refine⟨I.ok,I.os,I.bare,by rw[hex];exact u2,⟨m,up.ns hn,λi x v e1 e2 e3=>?_⟩,λx c e=>?_,I.free,I.freeC,λp hp=>?_,hok2,I.len⟩
 ·obtain⟨u,r,q⟩:=hl i x v e1 e2 e3;refine⟨u,r,?_⟩;rcases q with q|⟨k,c,e,z⟩
  · exact .inl q
  · exact .inr ⟨k,c,e,cell z⟩
 ·obtain⟨v,z⟩:=I.cell x c e;exact⟨v,cell z⟩
 ·obtain⟨e,n,ne,nf,d⟩:=I.pin p hp;exact⟨fl.1 _ _ (PySem.W.hideAll_get _ e (hpin p hp)),n,ne,nf,d⟩
theorem JHM(I:Inv X pins σ H s){ea C:Addr}{oe:Obj}{vs:Array Value}(he:s.heap.get? ea=some oe)(hc:oe.cls=.ref C)(hd:oe.data=.fields vs)(h0:X.s₀.heap.get? ea=none)(hn:H ea=none)(hpin:∀p∈X.pn++pins,p.1≠ea) :
  Inv X pins σ (upd H ea (.ext (ExcAt ea C))) s:=by
 have hloc:ea≠X.env.locals:=λz=>by
  obtain⟨m,⟨o,es,ep,ho,hdo,_⟩,_⟩:=I.loc;rw[<-z,he]at ho;cases ho;rw[hd]at hdo;cases hdo
 have hcell:∀x c,X.env.cells.lookup x=some c->c≠ea:=λx c e z=>by
  obtain⟨v,o,ho,hdo⟩:=I.cell x c e;rw[z,he]at ho;cases ho;rw[hd]at hdo;cases hdo
 have U:=I.base;refine⟨I.ok,I.os,I.bare,⟨U.keep,U.slot,λb o e n hx=>?_,U.there,λb xs e=>?_,λb o u e=>?_,λb ps e=>?_⟩,I.loc,I.cell,?_,λx c e=>?_,λp hp=>?_,λa o e=>?_,I.len⟩
 ·rw[JAH λz=>by rw[z,h0]at e;cases e]
  exact U.free b o e n hx
 ·have q:=U.tups b xs e;rw[JAH λz=>by rw[z,hn]at q;cases q]
  exact q
 ·have q:=U.frzs b o u e;rw[JAH λz=>by rw[z,hn]at q;cases q]
  exact q
 ·obtain⟨more,q⟩:=U.tbls b ps e;exact⟨more,by rw[JAH λz=>by rw[z,hn]at q;cases q];exact q⟩
 ·rw[JAH hloc.symm];exact I.free
 ·rw[JAH (hcell x c e)];exact I.freeC x c e
 ·obtain⟨e,n,ne,nf,d⟩:=I.pin p hp;exact⟨e,by rw[JAH (hpin p hp)];exact n,ne,nf,d⟩
 ·by_cases ha:a=ea
  ·subst ha;rw[JAG]at e;cases e;refine⟨⟨oe,he,hc⟩,⟨oe,he⟩,λh1 h2 ⟨o1,q1,q2⟩ k=>⟨o1,k o1 q1,q2⟩⟩
  ·rw[JAH ha]at e;have ne:∀b o,H b=some o->b≠ea:=λb o q z=>by rw[z,hn]at q;cases q
   exact(I.hok a o e).stay (λb u _ q=>q) (λb q=>by rw[JAH (ne b _ q)];exact q) λb xs q=>by rw[JAH (ne b _ q)];exact q
theorem JJD{M:Model}{A:Around}{E:Vq}{i:Nat}{x:Str}{v:V}{Q:Unit->Shared->Prop}(I:Inv X pins σ H s)(hN:X.N.Nodup)(hi:X.N[i]? = some x)(hx:X.env.scope.names.lookup x=some .local)(hv:σ[i]? = some (some v))
  (h:∀s',Inv X pins (σ.set i none) H s'->Q () s'):wpAny M A (unbindName X.env x) Q E s:=by
 obtain⟨m,hn,hl⟩:=id I.loc;obtain⟨u,r,q⟩:=hl i x v hi hv (.inl hx);have hm:m x=some u:=by
  rcases q with ⟨_,q⟩|⟨k,_⟩
  · exact q
  · have hk:X.env.kindOf x=some .local:=hx
    rcases k with k|k<;>rw[hk]at k<;>cases k
 have hcls:(X.env.scope.kind==.class || (X.env.scope.kind==.module&&X.env.locals != X.env.globals))=false:=by rw[I.ok.kind];rfl
 refine wpAny_unbindName_local hx hn hm hcls λh' u' hn' hs=>h _ ?_;obtain⟨oL,_,_,hoL,_⟩:=id hn;have old:∀b o,X.s₀.heap.get? b=some o->h'.get? b=s.heap.get? b:=λb o e=>hs.2 b (q_l (q_m (q_h e) I.ok.above));have trk:∀b o,H b=some o->b≠X.env.locals:=λb o e z=>by rw[z,I.free]at e;cases e
 have U:=I.base;refine⟨I.ok,I.os,I.bare,⟨λb o e n hb hx=>(old b o e).trans (U.keep b o e n hb hx),λb o e n hb hx=>?_,U.free,λb o e hx=>?_,U.tups,U.frzs,U.tbls⟩,⟨_,hn',λj y v' e1 e2 e3=>?_⟩,λy c e=>?_,I.free,I.freeC,λp hp=>?_,λa o e=>?_,by simpa using I.len⟩
 ·obtain⟨sl,q⟩:=U.slot b o e n hb hx;exact⟨sl,(old b o e).trans q⟩
 ·obtain⟨o',q⟩:=U.there b o e hx;exact⟨o',(old b o e).trans q⟩
 ·have hj:j≠i:=λz=>by
    subst z;have:j<σ.length:=(q_p.mp hv).1;rw[q_z this]at e2;cases e2
  rw[q_A (Ne.symm hj)]at e2;obtain⟨w,r',q⟩:=hl j y v' e1 e2 e3;have hne:y≠x:=λe=>hj (JD7 hN e1 (e▸hi));refine⟨w,r',?_⟩;rcases q with ⟨k,e⟩|⟨k,c,e,z⟩
  · exact .inl ⟨k,by simp[hne,e]⟩
  · exact .inr ⟨k,c,e,z.sameBut hs (I.cne y c e)⟩
 ·obtain⟨w,z⟩:=I.cell y c e;exact⟨w,z.sameBut hs (I.cne y c e)⟩
 ·obtain⟨e,n,ne,nf,d⟩:=I.pin p hp;exact⟨(hs.2 p.1 ne).trans e,n,ne,nf,d⟩
 ·refine(I.hok a o e).stay (λb w hb q=>(hs.2 b ?_).trans q) (λ_ q=>q) λ_ _ q=>q;rcases hb with rfl|hb
  · exact trk _ _ e
  · exact trk _ _ hb
end
section
variable{X:Cx}{B:Bs}{C:Cn}{XX:Nat->Hp->Prop}{G:List (Str×GK)}
end
section
variable{B:Bs}{G:List (Str×GK)}{tab:Nat->Option Fd}{glo:Nat->R D}{sub:Nat->Nat->Bool}
structure Mo(mg:Mq)(B:Bs)(G:List (Str×GK))(tab:Nat->Option Fd)(glo:Nat->R D)(sub:Nat->Nat->Bool):Prop where
 fn:∀x i,G.lookup x=some (.fn i)->∃fd,tab i=some fd/\DefAt B.K mg G x fd
 con:∀x i d,G.lookup x=some (.con i)->glo i=.ok d->∃u v,mg x=some u/\RelV v u/\∀H,Den B H d v
 noexg:∀i c,glo i≠.exc c
 blt:∀x b,G.lookup x=some (.blt b)->mg x=none
 rng:∀x,G.lookup x=some .rng->mg x=none
 isi:∀x,G.lookup x=some .isi->mg x=none
 ty:∀x t,G.lookup x=some (.ty t)->mg x=none
 nam:∀x,G.lookup x=some .nam->mg x=none
 rcf:∀x i,G.lookup x=some (.rcf i)->tab i=none
 rcm:∀x i j,G.lookup x=some (.rcm i j)->tab j=none
 cl:Cl mg B G
 exm:∀x c,G.lookup x=some (.cls c)->∀k,sub k c=true->PySem.W.exmOne B.K (.ref (B.cl k)) (.ref (B.cl c))=some true
structure Ra3(B:Bs)(C:Cn)(G:List (Str×GK))(P:Program)(w:World):Prop where
 ra:Rare B C (CXV P w B) G
 rr:RareS B C (CXV P w B) G
theorem JCQ{x:Bool}{n i:Nat}(h:tab i=none):run x tab glo sub n i ds=.bad:=by
 cases n with
 |zero=>rfl
 |succ n=>unfold run;rw[h]
theorem fn_at[Cool G]{P:Program}{w:World}(hw:w=B.w){mg:Mq}{base:Heap}(M:Mo mg B G tab glo sub)(ra:∀n,Ra3 B ⟨run true tab glo sub n,glo,sub⟩ G P w){n i:Nat}{x:Str}{f:Addr}{fo:FuncData}{st:Stmt}{N ps:List Str}{fd:Fd}
  (ih:∀(y:Str) (j:Nat),G.lookup y=some (.fn j)->∃f fd ps,mg y=some (.ref f)/\PySem.W.keepIn B.K (.ref f)=true/\FnOk P w B.K mg base (CXV P w B) n f fd ps (JCu B ps.length (run true tab glo sub n j))/\Binds B.K fd ps []/\∀ds,run true tab glo sub n j ds≠.bad->ds.length=ps.length)
  (F:Fun B.K x x st f fo) (T:Turned G st N ps fd) (ht:tab i=some fd):FnOk P w B.K mg base (CXV P w B) (n+1) f fo ps (JCu B ps.length (run true tab glo sub (n+1) i)):=by
 obtain⟨oc,od,kV,doc,pm,an,cdv,ct,osl,rfl,lk,hcd⟩:=F.ex;refine JOw lk hcd T.sc (λvs H Q E q=>q.1) λA outer s H vs Q E hr q=>?_;obtain⟨hl,ds,dn,q⟩:=q;have hA:A.handled=none:=hr.hd;have g:Gk (cxOf (CXV P w B) P w B.K mg base N x (JAD st) f cdv A outer s H E) B ⟨run true tab glo sub n,glo,sub⟩ (CXV P w B) (XXd B E) G:={
  K:=rfl
  W:=hw
  anti:=λc H1 H2 sm z H' s'=>z H' (sm.trans s')
  units:=by have:=hr.un;show(A.deeper _).units+200<_;omega
  calm:=λ_=>rfl
  fn:=λy j hy=>by
    obtain⟨f',fd',ps',w1,w2,w3,w4,w5⟩:=ih y j hy;exact⟨f',fd',ps',n,w1,w2,w3,hr,w4,w5⟩
  pas:=JM2
  con:=M.con
  noexg:=M.noexg
  blt:=M.blt
  rng:=M.rng
  isi:=M.isi
  ty:=M.ty
  cls:=M.cl.mgc
  nam:=M.nam
  fld:=λf i e H ds vs _=>by show(match run true tab glo sub n i ds with|.ok d=>_|.exc _=>_|.bad=>_);rw[JCQ (M.rcf f i e)];trivial
  mth:=λm i j e=>.inl λds=>JCQ (M.rcm m i j e) }
 have hs:=JGH (ra n).ra (ra n).rr 60 _ _ _ _ true g T.sc.kind rfl rfl T.sc.nd PassesOwn.leaving (λ_=>rfl) (λ_=>JGs M.cl hA);refine⟨_,JDB hs T.comp,?_⟩;have hlen:=DenL.len ds vs dn;have hN:N.length=fd.slots:=T.slots.symm;have hpl:ps.length<=N.length:=by have:=congrArg List.length T.sc.pre;rw[List.length_take]at this;omega
 refine⟨_,_,H,Dm.refl H,JCe dn rfl (by omega),?_⟩
 unfold run at q;rw[ht]at q;simp only[JFW]at q;rw[if_pos (by rw[T.par];omega)]at q
 rw[show fd.slots - fd.par=N.length - ds.length by rw[T.slots,T.par];omega]at q
 split at q
 ·rename_i r d hd
  split at hd
  · rename_i δ he
    cases hd;rw[he];exact λσ' H' O' so'=>q .non H' so'.same (by simp only[Den])
  · rename_i d' he
    cases hd;rw[he];exact λv H' sm dn'=>q v H' sm dn'
  · simp at hd
  · cases hd
 ·rename_i r c hd
  split at hd
  · cases hd
  · cases hd
  · rename_i c' he
    simp only[if_true,R.exc.injEq]at hd;subst hd;rw[he];exact q
  · cases hd
 ·exact q.elim
theorem fns[Cool G]{w:World}(hw:w=B.w){base:Heap}(M:Mo mg B G tab glo sub)(ra:∀n,Ra3 B ⟨run true tab glo sub n,glo,sub⟩ G P w):∀(n:Nat) (x:Str) (i:Nat),G.lookup x=some (.fn i) ->
  ∃f fd ps,mg x=some (.ref f)/\PySem.W.keepIn B.K (.ref f)=true/\FnOk P w B.K mg base (CXV P w B) n f fd ps (JCu B ps.length (run true tab glo sub n i))/\Binds B.K fd ps []/\∀ds,run true tab glo sub n i ds≠.bad->ds.length=ps.length
 |0,x,i,h=>by
  obtain⟨fd,ht,⟨f,fo,st,N,ps,e1,F,bi,T⟩⟩:=M.fn x i h;refine⟨f,fo,ps,e1,F.kp,⟨λvs H Q E q=>q.1,λA outer s H args us vs Q E hr he hb hv ⟨_,ds,_,q⟩=>?_⟩,bi,λds q=>absurd rfl q⟩;exact fF q
 |n+1,x,i,h=>by
  obtain⟨fd,ht,⟨f,fo,st,N,ps,e1,F,bi,T⟩⟩:=M.fn x i h;refine⟨f,fo,ps,e1,F.kp,fn_at hw M ra (fns hw M ra n) F T ht,bi,λds q=>?_⟩;obtain⟨fd',h1,h2⟩:=JM9 q;rw[ht]at h1;cases h1;rw[h2,T.par]
end
end VI
end
section
namespace VI
open PySem PySem.Spec PyProof.Rows L2 Builtin Builtin.ObjectAttr Builtin.Getset_descriptor
structure ExcK(K:Kq)(C:Addr):Prop where
 ga:PySem.W.findIn K (.ref C) "__getattribute__"=some (some (.builtin "BaseException.__getattribute__"))
 gh:PySem.W.findIn K (.ref C) "__getattr__"=some none
 cl:PySem.W.findIn K (.ref C) "__class__"=some (some (.builtin "object.__class__"))
 ob:PySem.W.mroIn K C (.type "object")=some true
 bx:PySem.W.mroIn K C (.type "BaseException")=some true
 gt:PySem.W.specialIn K (.builtin "object.__class__") "__get__"=some (some (.builtin "getset_descriptor.__get__"))
 st:PySem.W.takesIn K (.builtin "object.__class__")=some true
section
variable{K:Kq}{a C:Addr}{prog:Program}{w:World}{A:Around}{s:Shared}
theorem JCy(p:ExcAt a C h):PySem.W.Looks M h (typeOf (.ref a)) (.ref C):=by
 obtain⟨o,h1,h2⟩:=p;rw[<-h2];exact(PySem.W.Looks.ld h1).andThen .now
theorem JIF{d g:Value}(X:K.In h)(h1:PySem.W.findIn K (.ref C) nm=some (some d))(h2:PySem.W.specialIn K d "__get__"=some (some g))(h3:PySem.W.takesIn K d=some true) :
   PySem.W.Looks M h (find (.ref a) (.ref C) nm) (.bind g d) :=
 (PySem.W.looks_findIn X h1).andThen ((show PySem.W.Looks M h (getOf (some d)) (some g) from PySem.W.looks_specialIn X h2).andThen
   ((show PySem.W.Looks M h (dataDescriptor? (some d) (some g)) (some (g,d)) from(PySem.W.looks_takesIn X h3).andThen .now).andThen (PySem.W.Looks.tag .now)))
theorem JNA{R:Result->Shared->Prop}{tp:Value}(X:K.In s.heap)(p:ExcAt a C s.heap)(hm:PySem.W.mroIn K C (.type "object")=some true)(h:R (.ok (.ret (.ref C))) s) :
  codeAny (model prog w) A (.call (.builtin "getset_descriptor.__get__") ⟨[.builtin "object.__class__",.ref a,tp],[]⟩) R s:=by
 obtain⟨hp,gs,dn,tk,os⟩:=s;have q0:=JCy (M:=model prog w) p;have q1:=PySem.W.looks_mroIn (M:=model prog w) X hm;refine codeAny_call_builtin PySem.W.KF.slot_gs.plain PySem.W.KF.entry_gs (PySem.W.KF.slot_gs.check _ _ _ _ _ _ _ _ PySem.W.KF.type_class (PySem.W.KF.args_gs _ _ _) ?_);unfold Builtin.«getset_descriptor.__get__» descrGet;rw[PySem.W.dga_obj];refine q_b (q_e ?_);unfold descrGetter descrCheckInstance descrNameAndClass isInstance;simp only[PySem.W.KF.owner_class];repeat lk
 refine⟨Code.quiet_builtin _ (by decide +kernel),codeAny_builtin PySem.W.KF.entry_class ?_⟩
 unfold Builtin.«object.__class__» shownTypeOf;repeat lk
 exact h
theorem JKg{nameV:Value}{E:Vq}{Q:Unit->Shared->Prop}(F:ExcK K C)(X:K.In s.heap)(p:ExcAt a C s.heap)(h:Q () s):wpAny (model prog w) A (checkBuiltinCall "BaseException.__getattribute__" ⟨[.ref a,nameV],[]⟩) Q E s:=by
 obtain⟨hp,gs,dn,tk,os⟩:=s;have q:PySem.W.Looks (model prog w) hp (isInstance (.ref a) (.type "BaseException")) true:=(JCy p).andThen (PySem.W.looks_mroIn X F.bx);have k1:builtinKind "BaseException.__getattribute__"=some .slot:=by decide +kernel
 have k2:splitId "BaseException.__getattribute__"=some ("BaseException","__getattribute__"):=by decide +kernel
 have ha:=PySem.F.args_bexc_ga (.ref a) nameV;simp only[checkBuiltinCall,k1,k2];refine q_b (q.at ?_)
 repeat (first|exact h|wp_step)
theorem JIC{E:Vq}{Q:Option Value->Shared->Prop}(F:ExcK K C)(X:K.In s.heap)(p:ExcAt a C s.heap)(h:Q (some (.ref C)) { s with toks:=s.toks+1 }) :
  wpAny (model prog w) A (getAttr? (.ref a) "__class__") Q E s:=by
 obtain⟨hp,gs,dn,tk,os⟩:=s;have q0:=JCy (M:=model prog w) p;have q1:=PySem.W.looks_findIn (M:=model prog w) X F.ga;have q2:=PySem.W.looks_findIn (M:=model prog w) X F.gh;have q3:=JIF (M:=model prog w) (a:=a) X F.cl F.gt F.st;have B:=PySem.F.attr_ValueError.ga;unfold getAttr? getAttrBy? getAttrBy;refine q_b (wpAny_mkText (q_b (wpAny_attempt (wpAny_holding (q_b (q0.at (q_b (q1.at ?_))))))));show wpAny _ _ (getAttrByItsOwn _ _ _ _ _ _) _ _ _;refine q_b (q2.at (q_b (wpAny_attempt (wpAny_holding ?_))));show wpAny _ _ (boundAndCalled _ _ _) _ _ _;unfold boundAndCalled;rw[B.bind];refine q_b (q_e (wpAny_call (codeAny_call_builtin B.plain PySem.F.entry_bexc_ga (JKg F X p ?_))));refine q_b (q_e (q_b (q_e (q_b (q0.at (q_b (q3.at ?_)))))));show wpAny _ _ (holding [Value.builtin "object.__class__"] (call (.builtin "getset_descriptor.__get__") [Value.builtin "object.__class__",.ref a,.ref C]) >>= ret) _ _ _;refine q_b (wpAny_holding (wpAny_call (JNA X p F.ob (q_e ?_))));show wpAny _ _ (handedOut (.ref C)) _ _ _;exact PySem.W.handed_on rfl (q_e h)
theorem JGe(F:ExcK K C):PySem.W.KitX K (.ref a) (.ref C) (ExcAt a C) where
 ty:=λM h _ p=>JCy p
 it:=λM h X _=>by
  obtain⟨cd,e1,_⟩:=q_a.mp F.ob;unfold PySem.W.clsIn at e1
  split at e1
  ·rename_i ho;intro A' Q' E' s' k q;unfold isType loadHead;exact q_b (wpAny_loadPart (k _ _ (X _ _ ho)) (q_e q))
  ·cases e1
 ne:=λh tp dd its n sl X ht=>by
  obtain⟨cd,e1,_⟩:=q_a.mp F.ob;refine Bool.eq_false_iff.mpr λq=>?_;have e:C=tp:=Value.ref.inj (beq_iff_eq.mp q);subst e;unfold PySem.W.clsIn at e1
  split at e1
  ·rename_i ho;have z:=(X _ _ ho).symm.trans ht;cases z
  ·cases e1
 ca:=λX p k=>JIC F X p k
end
noncomputable def nmOf:Ty->String
 |.int=>"int"
 |.bool=>"bool"
 |.str=>"str"
 |.list=>"list"
 |.tuple=>"tuple"
 |.dict=>"dict"
 |.valueError=>"ValueError"
 |.own _=>""
theorem JMf(h:JBF ty=some t):bootBuiltins t=some (.type (nmOf ty)):=by
 cases ty<;>simp only[JBF,q_j,reduceCtorEq]at h<;>subst h<;>boot_by_name
section
variable{K:Kq}
theorem JP0(h:(JBF ty).isSome=true):PySem.W.kitOne K (.type "NoneType") (.type (nmOf ty))=some false:=by
 cases ty<;>first|(cases h;done)|kernel_rfl
theorem JOP(h:(JBF ty).isSome=true):PySem.W.kitOne K (.type "bool") (.type (nmOf ty))=some (ty==.int || ty==.bool):=by
 cases ty<;>first|(cases h;done)|kernel_rfl
theorem JQ5(h:(JBF ty).isSome=true):PySem.W.kitOne K (.type "int") (.type (nmOf ty))=some (ty==.int):=by
 cases ty<;>first|(cases h;done)|kernel_rfl
theorem JQm(h:(JBF ty).isSome=true):PySem.W.kitOne K (.type "str") (.type (nmOf ty))=some (ty==.str):=by
 cases ty<;>first|(cases h;done)|kernel_rfl
theorem JNl(h:(JBF ty).isSome=true):PySem.W.kitOne K (.type "list") (.type (nmOf ty))=some (ty==.list):=by
 cases ty<;>first|(cases h;done)|kernel_rfl
theorem JKA(h:(JBF ty).isSome=true):PySem.W.kitOne K (.type "tuple") (.type (nmOf ty))=some (ty==.tuple):=by
 cases ty<;>first|(cases h;done)|kernel_rfl
theorem ko_of{C:Addr}(h:PySem.W.kitOne K (.type "NoneType") (.ref C)=some false)(hs:PySem.W.subIn K (.type T) (.ref C)=some false):PySem.W.kitOne K (.type T) (.ref C)=some false:=by
 have n1:∀T:String,((Value.type T)==Value.ref C)=false:=λT=>rfl;unfold PySem.W.kitOne PySem.W.kitCls at h ⊢;rw[n1]at h ⊢;simp only[q_v,if_false]at h ⊢
 split at h
 ·rename_i z;rw[if_pos z];exact hs
 ·cases h
theorem JNR{C:Addr}:PySem.W.subIn K (.type "bool") (.ref C)=some false:=by kernel_rfl
theorem JQM{C:Addr}:PySem.W.subIn K (.type "int") (.ref C)=some false:=by kernel_rfl
theorem JRo{C:Addr}:PySem.W.subIn K (.type "str") (.ref C)=some false:=by kernel_rfl
theorem JOi{C:Addr}:PySem.W.subIn K (.type "list") (.ref C)=some false:=by kernel_rfl
theorem JJl{C:Addr}:PySem.W.subIn K (.type "tuple") (.ref C)=some false:=by kernel_rfl
end
structure Isi(B:Bs)(G:List (Str×GK))(sub:Nat->Nat->Bool):Prop where
 own:∀x c,G.lookup x=some (.cls c)->PySem.W.kitOne B.K (.type "NoneType") (.ref (B.cl c))=some false
 exc:∀k,sub k k=true->ExcK B.K (B.cl k)/\PySem.W.kitOne B.K (.ref (B.cl k)) (.type "ValueError")=some true
 rel:∀k,sub k k=true->∀x c,G.lookup x=some (.cls c)->PySem.W.kitOne B.K (.ref (B.cl k)) (.ref (B.cl c))=some (sub k c)
section
variable{X:Cx}{B:Bs}{C:Cn}{CX:CXT}{XX:Nat->Hp->Prop}{G:List (Str×GK)}
def TyV(B:Bs)(G:List (Str×GK))(ty:Ty)(v:V):Prop:=((JBF ty).isSome=true/\v=.ty (nmOf ty))\/∃x c,ty=.own c/\G.lookup x=some (.cls c)/\v=.ref (B.cl c)
theorem JJn(I0:Isi B G C.sub)(g:Gk X B C CX XX G)(ty:Ty):JBm X (.builtin "isinstance") (λvs H Q=>∃d v1 v2,vs=[v1,v2]/\Den B H d v1/\TyV B G ty v2/\KE B XX (isiD C.sub d ty) H Q):=by
 intro pins s σ H vs us Q I r ⟨d,v1,v2,e,dn,tv,k⟩;subst e;obtain⟨u1,us',rfl,r1,rs⟩:∃u1 us',us=u1::us'/\RelV v1 u1/\Vals [v2] us':=by cases r;exact⟨_,_,rfl,‹_›,‹_›⟩
 obtain⟨u2,rfl,r2⟩:=rs.one;have KI:B.K.In s.heap:=g.K▸I.kIn;have fin:∀ {x t:Value}{Hh:Heap->Prop}{b:Bool},PySem.W.KitX B.K x t Hh->Hh s.heap->isiD C.sub d ty=.ok (.bool b)->x=u1->x≠.builtin "__main__.__loader__#opaque"->PySem.W.kitOne B.K t u2=some b->wpAny (model X.prog X.w) X.A (call (.builtin "isinstance") [u1,u2]) (EP X pins σ Q) X.xe s:=by
  intro x t Hh b Z p e hx hne e2;subst hx;rw[e]at k;exact PySem.W.kia_one Z KI p e2 hne λtk=>⟨.bl b,H,I.tok tk,rfl,KE.ok k (by simp only[Den])⟩
 have u2e:∀(T:String) (f:Ty->Bool),((JBF ty).isSome=true->PySem.W.kitOne B.K (.type T) (.type (nmOf ty))=some (f ty))->(∀c,f (.own c)=false)->(∀c,PySem.W.subIn B.K (.type T) (.ref c)=some false)->PySem.W.kitOne B.K (.type T) u2=some (f ty):=by
  intro T f h1 h2 h3;rcases tv with ⟨t1,rfl⟩|⟨x,c,rfl,hl,rfl⟩
  ·cases r2;exact h1 t1
  ·cases r2;rw[h2];exact ko_of (I0.own x c hl) (h3 _)
 cases d with
 |none =>
  simp only[Den]at dn;subst dn;cases r1;refine fin PySem.W.kitx_none trivial rfl rfl (by intro q;cases q) (u2e "NoneType" (λ_=>false) (λh=>JP0 h) (λ_=>rfl) λc=>?_)
  kernel_rfl
 |bool b =>
  simp only[Den]at dn;subst dn;cases r1;exact fin PySem.W.kitx_bool trivial rfl rfl (by intro q;cases q) (u2e "bool" (λty=>ty==.int || ty==.bool) (λh=>JOP h) (λ_=>rfl) λc=>JNR)
 |int b =>
  simp only[Den]at dn;subst dn;obtain⟨t,rfl⟩:=r1;exact fin PySem.W.kitx_int trivial rfl rfl (by intro q;cases q) (u2e "int" (λty=>ty==.int) (λh=>JQ5 h) (λ_=>rfl) λc=>JQM)
 |str b =>
  simp only[Den]at dn;subst dn;obtain⟨t,rfl⟩:=r1;exact fin PySem.W.kitx_str trivial rfl rfl (by intro q;cases q) (u2e "str" (λty=>ty==.str) (λh=>JQm h) (λ_=>rfl) λc=>JRo)
 |list b =>
  simp only[Den]at dn;obtain⟨l,xs,rfl,q,_⟩:=dn;cases r1;obtain⟨its,_,⟨o,n,e1,e2,_⟩,_⟩:=I.list (g.K▸q);exact fin PySem.W.kitx_list ⟨o,e1,e2⟩ rfl rfl (by intro q;cases q) (u2e "list" (λty=>ty==.list) (λh=>JNl h) (λ_=>rfl) λc=>JOi)
 |tuple b =>
  simp only[Den]at dn;obtain⟨l,xs,rfl,q,_⟩:=dn;cases r1;obtain⟨its,_,⟨o,e1,e2,_⟩,_⟩:=I.tuple (g.K▸q);exact fin PySem.W.kitx_tuple ⟨o,e1,e2⟩ rfl rfl (by intro q;cases q) (u2e "tuple" (λty=>ty==.tuple) (λh=>JKA h) (λ_=>rfl) λc=>JJl)
 |dict kvs =>
  simp only[Den]at dn;rcases dn with ⟨l,c,rfl,rfl,q⟩|⟨l,xs,rfl,q,dk⟩|⟨l,c,rfl,rfl,q⟩
  rotate_left 2
  ·exact fF k
  ·cases r1;simp only[isiD,Int.toNat_natCast]at k fin
   by_cases hk:C.sub c c=true
   ·rw[if_pos hk]at k fin;have p:ExcAt l (B.cl c) s.heap:=by
     have:=I.hok l _ q;exact this.1
    rcases tv with ⟨t1,rfl⟩|⟨x,e,rfl,hl,rfl⟩
    ·cases r2;cases ty with
     |valueError=>exact fin (JGe (I0.exc c hk).1) p rfl rfl (by intro q;cases q) (I0.exc c hk).2
     |own e=>cases t1
     |_=>exact fF k
    ·cases r2;exact fin (JGe (I0.exc c hk).1) p rfl rfl (by intro q;cases q) (I0.rel c hk x e hl)
   ·rw[if_neg hk]at k;exact fF k
  ·cases kvs with
   |nil=>exact fF k
   |cons p r =>
    obtain⟨p1,p2⟩:=p;simp only[DenK]at dk;obtain⟨_,_,_,_,rfl,_⟩:=dk;exact fF k
theorem r_isi(I0:Isi B G C.sub)(g:Gk X B C CX XX G)(a:Expr)(x:E)(t:Str)(ty:Ty)(p pt pos:Pos)(h1:Gl X "isinstance")(h2:Gl X t)(h3:G.lookup ("isinstance":Str)=some GK.isi)
  (h4:G.lookup t=some (.ty ty)/\JBF ty=some t\/∃c,ty=.own c/\G.lookup t=some (.cls c)) (h5:JAN t=false) (ha:PE X a (RE B C XX x)) (hs:starEach [a,.Name t pt] X.env=(false,eval a X.env)::starEach [.Name t pt] X.env) :
  PE X (.Call (.Name "isinstance" p) [a,.Name t pt] [] pos) (RE B C XX (.isi x ty)):=by
 have hst:starEach [.Name t pt] X.env=[(false,eval (.Name t pt) X.env)]:=rfl;obtain⟨v2,tv,hn⟩:∃v2,TyV B G ty v2/\PE X (.Name t pt) (tC v2):=by
  rcases h4 with ⟨e1,e2⟩|⟨c,rfl,e1⟩
  · exact⟨_,.inl ⟨by rw[e2];rfl,rfl⟩,JOm h2 (g.ty t ty e1) (JMf e2) rfl (JAE h5).2.2 (JAE h5).1⟩
  · exact⟨_,.inr ⟨t,c,rfl,e1,rfl⟩,JHS h2 (g.cls t c e1) rfl (JAE h5).1⟩
 refine PE.imp (JC1 (JJn I0 g ty) h1 (g.isi _ h3) (by boot_by_name) (JBG ha (JBG hn JBp hst) hs) (by decide) (by decide) hs (by rw[hst];rfl)) ?_
 rintro σ H Q ⟨δ,ok,kk⟩;simp only[ev]at kk;refine RE.of (W:=λr H=>KE B XX r H Q) ok (λ_ _ z=>z) (λ_ z=>z) kk λd v H1 s1 d1 h1=>?_;exact⟨d,v,v2,rfl,d1,tv,KE.mono g s1 h1⟩
end
end VI
end
section
namespace VI
open PySem PySem.Spec PyProof.Rows L2
theorem JNr{w:World}(I0:Isi B G C.sub)
  (xo:∀k:XO,G.lookup k.flag=some GK.opt->XOk B C (CXV P w B) G k)
  (rp:G.lookup (".rep":Str)=some GK.opt->∀(X:Cx) (XX:Nat->Hp->Prop),Gk X B C (CXV P w B) XX G->∀(es:List Expr) (x:E) (k:Int) (j:Nat) (p p2 pos:Pos),PA X es (RA B C XX x)->cnt x<=1000->0<=k->k<=1000->PE X (.BinOp (.List es p) .Mult (.Constant (.int k) j p2) pos) (RE B C XX (.rep k.toNat x))) (ro:RO B C (CXV P w B) G) (rc:G.lookup (".rec":Str)=some GK.opt->∀(X:Cx) (XX:Nat->Hp->Prop),Gk X B C (CXV P w B) XX G->∀(e:Expr) (q:Nat×Option Nat) (args:List Expr) (y:E),mRaw G e=some (q,args)->PEs X B C XX args y->(∀a∈args,∀es env,starEach (a::es) env=(false,eval a env)::starEach es env)->PE X e (RE B C XX (mkM q y))):Rare B C (CXV P w B) G where
 nox:=λouter H s e s'=>JFY outer H s e s'
 isi:=λX XX g a x t ty p pt pos h1 h2 h3 h4 h5 h6 h7=>r_isi I0 g a x t ty p pt pos h1 h2 h3 h4 h5 h6 h7
 rep:=rp
 xop:=xo
 ro:=ro
 rcd:=rc
theorem nofl{P:Prop}(h:l=none)(z:l=some x):P:=by rw[h]at z;cases z
section
variable{B:Bs}{C:Cn}{CX:CXT}{G:List (Str×GK)}
theorem JPs[Cool G](_:G.lookup ("all":Str)=some (.blt .all))(X:Cx)(XX:Nat->Hp->Prop)(g:Gk X B C CX XX G):JBm X (.builtin "all") (λvs H Q=>∃ds,DenL B H ds vs/\KE B XX (bltD .all ds) H Q):=JIB g
theorem JRE(_:G.lookup (".rvs":Str)=some GK.opt)(X:Cx)(XX:Nat->Hp->Prop)(g:Gk X B C CX XX G)(a i:Expr)(x:E)(pos:Pos)(h:JHd i=true)(ha:PE X a (RE B C XX x)):PE X (.Subscript a i pos) (RE B C XX (.fn1 .rev x)):=s_rev g h ha
end
theorem x_no(h:G.lookup k.flag=none)(z:G.lookup k.flag=some GK.opt):XOk B C CX G k:=by rw[h]at z;cases z
theorem JHF{w:World}(I0:Isi B G C.sub)(h3:G.lookup (".rep":Str)=none)(xo:∀k:XO,G.lookup k.flag=some GK.opt->XOk B C (CXV P w B) G k)(ro:RO B C (CXV P w B) G)(rc:G.lookup (".rec":Str)=some GK.opt->∀(X:Cx) (XX:Nat->Hp->Prop),Gk X B C (CXV P w B) XX G->∀(e:Expr) (q:Nat×Option Nat) (args:List Expr) (y:E),mRaw G e=some (q,args)->PEs X B C XX args y->(∀a∈args,∀es env,starEach (a::es) env=(false,eval a env)::starEach es env)->PE X e (RE B C XX (mkM q y))):Rare B C (CXV P w B) G :=
 JNr I0 xo (λz=>by rw[h3]at z;cases z) ro rc
theorem JE5:∀ {xs:List Str},xs.Nodup->(xs.map λx=>(Sum.inr x:Key)).Nodup
 | [],_=>List.nodup_nil
 |x::xs,h=>by
  rw[List.map_cons,List.nodup_cons]at *;refine⟨λz=>?_,JE5 h.2⟩;obtain⟨y,hy,e⟩:=List.mem_map.mp z;exact h.1 (Sum.inr.inj e▸hy)
def allN:Nat->(List Value->Prop)->Prop
 |0,P=>P []
 |n+1,P=>∀a,allN n λr=>P (a::r)
theorem JHm:∀ {n:Nat}{P:List Value->Prop},allN n P->∀us:List Value,us.length=n->P us
 |0,P,h,us,e=>by rw[q_B.mp e];exact h
 |n+1,P,h,us,e=>by
  cases us with
  |nil=>cases e
  |cons a r=>exact JHm (h a) r (by simpa using e)
theorem bOk{x:Str}{st:Stmt}{ps:List Str}(h:allN ps.length λus=>∀(kV doc pm:Value) (an:Option Addr) (cdv ct:Value),bindArgs (PySem.W.fnOf x x (JA8 st) (JAX st) (JAD st) .none kV doc pm an cdv ct) ⟨us,[]⟩=pure (ps.zip us)):JFB x st ps :=
 λkV doc pm an cdv ct us hl=>JHm h us hl kV doc pm an cdv ct
theorem fnI{K:Kq}{x:Str}{st:Stmt}(f c:Addr)(pm:Value)(a:PySem.W.nsIn K mainGlobals x=some (some (.ref f)):=by kernel_rfl)
 (l:K.lookup f=some ⟨.type "function",none,.func (PySem.W.fnOf x x (JA8 st) (JAX st) (JAD st) .none .none .none pm none (.ref c) .none),#[]⟩:=by kernel_rfl) (cc:PySem.W.codeIn K (.ref c) x=true:=by kernel_rfl) (k:PySem.W.keepIn K (.ref f)=true:=by kernel_rfl):FnIn K x st:=JQc a l cc k
theorem tuI{G:List (Str×GK)}{st:Stmt}{N ps:List Str}{fd:Fd}(c:JAp (JCW G 60 true (JAD st).names N) (JAX st)=some fd.body:=by kernel_rfl)
 (s:FnScope N ps (JAD st):=by exact⟨rfl,rfl,rfl,by decide +kernel,rfl,by decide +kernel,by decide +kernel⟩) (p:fd.par=ps.length:=by rfl) (l:fd.slots=N.length:=by rfl):Turned G st N ps fd:=⟨c,s,p,l⟩
theorem dI{K:Kq}{h:Heap}{mg:Mq}{G:List (Str×GK)}{x:Str}{fd:Fd}(X:K.In h)(Gm:h.Ns mainGlobals mg)(f c:Addr)(pm:Value)(st:Stmt)(N ps:List Str)(b:allN ps.length λus=>∀(kV doc pm:Value) (an:Option Addr) (cdv ct:Value),bindArgs (PySem.W.fnOf x x (JA8 st) (JAX st) (JAD st) .none kV doc pm an cdv ct) ⟨us,[]⟩=pure (ps.zip us))(a:PySem.W.nsIn K mainGlobals x=some (some (.ref f)):=by kernel_rfl)(l:K.lookup f=some ⟨.type "function",none,.func (PySem.W.fnOf x x (JA8 st) (JAX st) (JAD st) .none .none .none pm none (.ref c) .none),#[]⟩:=by kernel_rfl)(cc:PySem.W.codeIn K (.ref c) x=true:=by kernel_rfl)(k:PySem.W.keepIn K (.ref f)=true:=by kernel_rfl)(t:JAp (JCW G 60 true (JAD st).names N) (JAX st)=some fd.body:=by kernel_rfl)(s:FnScope N ps (JAD st):=by exact⟨rfl,rfl,rfl,by decide +kernel,rfl,by decide +kernel,by decide +kernel⟩)(p:fd.par=ps.length:=by rfl)(z:fd.slots=N.length:=by rfl):DefAt K mg G x fd:=(JQc a l cc k:FnIn K x st).at X Gm (bOk b) ⟨t,s,p,z⟩
noncomputable def JFf(rs:List (Nat×List Nat))(k c:Nat):Bool:=match rs.lookup k with
 |some l=>l.contains c
 |none=>false
def AllR(P:Nat->List Nat->Prop):List (Nat×List Nat)->Prop
 | []=>True
 |(k,l)::r=>P k l/\AllR P r
theorem AllR.get{P:Nat->List Nat->Prop}:∀ {rs:List (Nat×List Nat)}{k:Nat}{l:List Nat},AllR P rs->rs.lookup k=some l->P k l
 | [],k,l,_,h=>by cases h
 |(j,m)::r,k,l,⟨h1,h2⟩,h=>by
  rw[List.lookup_cons]at h
  by_cases e:(k==j)=true
  · rw[e]at h
    have e':k=j:=by simpa using e
    cases h;subst e';exact h1
  · have e':(k==j)=false:=by simpa using e
    rw[e']at h;exact AllR.get h2 h
structure ClIn(K:Kq)(x:Str)(C:Addr):Prop where
 ns:PySem.W.nsIn K mainGlobals x=some (some (.ref C))
 ex:PySem.W.excIn K C bmV "ValueError.__new__"=true
 ty:PySem.W.kitOne K (.type "NoneType") (.ref C)=some false
structure RaIn(K:Kq)(C:Addr):Prop where
 k:ExcK K C
 v:PySem.W.kitOne K (.ref C) (.type "ValueError")=some true
def JKn(K:Kq)(C D:Addr)(b:Bool):Prop:=PySem.W.kitOne K (.ref C) (.ref D)=some b/\(b=true->PySem.W.exmOne K (.ref C) (.ref D)=some true)
theorem JRq{K:Kq}{C D:Addr}(h:PySem.W.kitOne K (.ref C) (.ref D)=some true)(h2:PySem.W.exmOne K (.ref C) (.ref D)=some true):JKn K C D true:=⟨h,λ_=>h2⟩
theorem JFk{K:Kq}{C D:Addr}(h:PySem.W.kitOne K (.ref C) (.ref D)=some false):JKn K C D false:=⟨h,λz=>by cases z⟩
section
variable{B:Bs}{G:List (Str×GK)}{tab:Nat->Option Fd}{glo:Nat->R D}{rs:List (Nat×List Nat)}{mg:Mq}
def MoP(mg:Mq)(B:Bs)(G:List (Str×GK))(tab:Nat->Option Fd)(glo:Nat->R D)(x:Str):GK->Prop
 |.fn i=>∃fd,tab i=some fd/\DefAt B.K mg G x fd
 |.con i=>∀d,glo i=.ok d->∃u v,mg x=some u/\RelV v u/\∀H,Den B H d v
 |.blt _=>mg x=none
 |.rng=>mg x=none
 |.isi=>mg x=none
 |.ty _=>mg x=none
 |.nam=>mg x=none
 |.cls c=>ClIn B.K x (B.cl c)/\mg x=some (.ref (B.cl c))
 |.opt=>True
 |.rcf i=>tab i=none
 |.rcm _ j=>tab j=none
def RaP(B:Bs)(G:List (Str×GK))(k:Nat)(l:List Nat):Prop:=RaIn B.K (B.cl k)/\AllP (λ_ gk=>match gk with
 |.cls c=>JKn B.K (B.cl k) (B.cl c) (l.contains c)
 |_=>True) G
theorem JCp{k c:Nat}(h:JFf rs k c=true):∃l,rs.lookup k=some l/\l.contains c=true:=by
 unfold JFf at h
 split at h
 ·rename_i l e;exact⟨l,e,h⟩
 ·cases h
theorem JK9(hr:AllR (RaP B G) rs){k c:Nat}(hx:G.lookup x=some (.cls c))(hk:rs.lookup k=some l):JKn B.K (B.cl k) (B.cl c) (l.contains c):=(hr.get hk).2.get hx
theorem JLM(h:AllP (MoP mg B G tab glo) G)(hr:AllR (RaP B G) rs):Isi B G (JFf rs) where
 own:=λx c e=>(h.get e).1.ty
 exc:=λk hk=>by
  obtain⟨l,e,_⟩:=JCp hk;exact⟨(hr.get e).1.k,(hr.get e).1.v⟩
 rel:=λk hk x c e=>by
  obtain⟨l,el,_⟩:=JCp hk;have:JFf rs k c=l.contains c:=by unfold JFf;rw[el]
  rw[this];exact(JK9 hr e el).1
theorem mo_of(h:AllP (MoP mg B G tab glo) G)(hr:AllR (RaP B G) rs)(hg:∀i c,glo i≠.exc c):Mo mg B G tab glo (JFf rs) where
 fn:=λx i e=>h.get e
 con:=λx i d e q=>h.get e d q
 noexg:=hg
 blt:=λx b e=>h.get e
 rng:=λx e=>h.get e
 isi:=λx e=>h.get e
 ty:=λx t e=>h.get e
 nam:=λx e=>h.get e
 rcf:=λx i e=>h.get e
 rcm:=λx i j e=>h.get e
 cl:=⟨λx c e=>(h.get e).2,λx c e=>⟨_,_,_,_,PySem.F.excBase_ValueError,by decide,(h.get e).1.ex⟩⟩
 exm:=λx c e k hk=>by
  obtain⟨l,el,hc⟩:=JCp hk;exact(JK9 hr e el).2 hc
end
noncomputable def conV:Value->Option D
 |.none=>some .none
 |.bool b=>some (.bool b)
 |.int i _=>some (.int i)
 |.str x _=>some (.str x)
 |_=>none
theorem JJ9{d:D}(h:conV u=some d):∃v,RelV v u/\∀H,Den B H d v:=by
 cases u<;>simp only[conV,q_j,reduceCtorEq]at h<;>subst h
 ·exact⟨.non,rfl,λH=>by simp only[Den]⟩
 ·exact⟨.bl _,rfl,λH=>by simp only[Den]⟩
 ·exact⟨.int _,⟨_,rfl⟩,λH=>by simp only[Den]⟩
 ·exact⟨.str _,⟨_,rfl⟩,λH=>by simp only[Den]⟩
inductive EntOk(B:Bs)(w:World):List DictEntry->List (D×D)->Prop
 |nil:EntOk B w [] []
 |cons {en:DictEntry}{x:Str}{t:Tok}{d:D}{es:List DictEntry}{kvs:List (D×D)}:en.key=.str x t->en.hash=hashStr w x->(∃v,RelV v en.val/\∀H,Den B H d v)->EntOk B w es kvs->EntOk B w (en::es) ((.str x,d)::kvs)
theorem EntOk.den{w:World}(h:EntOk B w es kvs):∃ks:List (Key×V),(∀H,DenK B H kvs ks)/\∀P:Program,∃rs:List (Key×Value),KV ks rs/\Pairs (JBO P w) es rs/\(∀e∈es,∃k,(JBO P w).is k e.key=true/\e.hash=(JBO P w).hash k)/\rs.map (·.1)=kvs.filterMap (λp=>match p.1 with|.str x=>some (Sum.inr x:Key)|_=>none):=by
 induction h with
 |nil=>exact⟨[],λH=>by simp only[DenK],λP=>⟨[],.nil,.nil,λe he=>(by simp at he),rfl⟩⟩
 | @cons en x t d es kvs h1 h2 h3 _ ih =>
  obtain⟨ks,b,ih⟩:=ih;obtain⟨v,r,q⟩:=h3;refine⟨(Sum.inr x,v)::ks,λH=>?_,λP=>?_⟩
  ·simp only[DenK];exact⟨x,v,ks,rfl,rfl,q H,b H⟩
  ·obtain⟨rs,a,c,e,f⟩:=ih P;have hk:(JBO P w).is (Sum.inr x) en.key=true:=by rw[h1];exact JC8 P w x t
   refine⟨(Sum.inr x,en.val)::rs,.cons ⟨rfl,r⟩ a,.cons hk rfl c,λe' he=>?_,by simp only[List.map_cons,f];rfl⟩
   rcases q_n.mp he with rfl|he
   ·exact⟨Sum.inr x,hk,h2⟩
   ·exact e e' he
theorem JMn{K:Kq}{cl:Nat->Addr}{rc:Nat->Addr->Hp->Prop}{rcm:RcM rc}{w:World}{h:Heap}{mg:Mq}{x:Str}{a:Addr}{es:Array DictEntry}{ep:Nat}{kvs:List (D×D)}(X:K.In h)(Gm:h.Ns mainGlobals mg)
  (e:PySem.W.nsIn K mainGlobals x=some (some (.ref a))) (l:K.lookup a=some ⟨.type "dict",none,.dict es ep,#[]⟩) (hs:(a==sysModules)=false) (hc:EntOk ⟨K,cl,w,rc,rcm⟩ w es.toList kvs)
  (hn:(kvs.filterMap (λp=>match p.1 with|.str x=>some x|_=>none)).Nodup) {glo:Nat->R D}{i:Nat}(hg:glo i=.ok (.dict kvs)) :
  ∀d,glo i=.ok d->∃u v,mg x=some u/\RelV v u/\∀H,Den ⟨K,cl,w,rc,rcm⟩ H d v:=by
 intro d hd;rw[hg]at hd;cases hd;obtain⟨ks,b,key⟩:=hc.den;refine⟨.ref a,.ref a,PySem.W.mg_of X Gm e,rfl,λH=>?_⟩;simp only[Den];refine .inr (.inl ⟨a,ks,rfl,⟨_,.inr λP h' X'=>⟨hs,X' _ _ l,?_⟩⟩,b H⟩);obtain⟨rs,k1,k2,k3,k4⟩:=key P;refine⟨rs,k1,_,es,ep,X' _ _ l,⟨rfl,rfl,rfl⟩,rfl,λe' he=>k3 e' (by simpa using he),k2,?_⟩
 have e2:rs.map (·.1)=(kvs.filterMap (λp=>match p.1 with|.str x=>some x|_=>none)).map λx=>(Sum.inr x:Key):=by
  rw[k4,List.map_filterMap]
  congr 1
  funext p
  cases p.1<;>rfl
 rw[e2];exact JE5 hn
end VI
namespace VI
open PySem PySem.Spec PyProof.Rows L2
mutual
noncomputable def conK(K:Kq):Nat->Value->Option D
 |0,_=>none
 |n+1,u=>match u with
  |.ref a=>(match K.lookup a with
   |some ⟨.type "tuple",_,.seq its 0,_⟩=>if its.size<=1000 then (JGx K n its.toList).map PyData.tuple else none
   |_=>none)
  |u=>conV u
noncomputable def JGx(K:Kq):Nat->List Value->Option (List D)
 |0,_=>none
 |_,[]=>some []
 |n+1,u::us=>(conK K n u).bind λd=>(JGx K n us).map (d::·)
end
mutual
theorem JBL:∀ {n:Nat}{u:Value}{d:D},conK B.K n u=some d->∃v,RelV v u/\∀H,Den B H d v
 |0,u,d,h=>by simp[conK]at h
 |n+1,u,d,h=>by
  unfold conK at h
  split at h
  ·rename_i a
   split at h
   ·rename_i od its sl l
    split at h
    ·rename_i hz;obtain⟨ds,h1,e⟩:=q_d.mp h;subst e;obtain⟨vs,r,q⟩:=JE9 h1;refine⟨.ref a,rfl,λH=>?_⟩;simp only[Den];exact⟨a,vs,rfl,.inr ⟨_,its,_,l,rfl,rfl,by rw[sizeLine_eq];omega,r⟩,q H⟩
    ·cases h
   ·cases h
  ·exact JJ9 h
theorem JE9:∀ {n:Nat}{us:List Value}{ds:List D},JGx B.K n us=some ds->∃vs,Vals vs us/\∀H,DenL B H ds vs
 |0,us,ds,h=>by simp[JGx]at h
 |n+1,[],ds,h=>by
  simp only[JGx,q_j]at h;subst h;exact⟨[],.nil,λH=>by simp only[DenL]⟩
 |n+1,u::us,ds,h=>by
  unfold JGx at h;obtain⟨d,h1,h⟩:=q_a.mp h;obtain⟨r,h2,e⟩:=q_d.mp h;subst e;obtain⟨v,r1,q1⟩:=JBL h1;obtain⟨vs,r2,q2⟩:=JE9 h2;exact⟨v::vs,.cons r1 r2,λH=>by simp only[DenL];exact⟨v,vs,rfl,q1 H,q2 H⟩⟩
end
theorem JAy{K:Kq}{cl:Nat->Addr}{rc:Nat->Addr->Hp->Prop}{rcm:RcM rc}{w:World}{h:Heap}{mg:Mq}{x:Str}{d0:D}(X:K.In h)(Gm:h.Ns mainGlobals mg)
  (e:((PySem.W.nsIn K mainGlobals x).bind λo=>o.bind λu=>conK K 64 u)=some d0) {glo:Nat->R D}{i:Nat}(hg:glo i=.ok d0) :
  ∀d,glo i=.ok d->∃u v,mg x=some u/\RelV v u/\∀H,Den ⟨K,cl,w,rc,rcm⟩ H d v:=by
 intro d hd;rw[hg]at hd;cases hd;obtain⟨o,h1,h2⟩:=q_a.mp e;obtain⟨u,h3,h4⟩:=q_a.mp h2;subst h3;obtain⟨v,r,q⟩:=JBL (B:=⟨K,cl,w,rc,rcm⟩) h4;exact⟨u,v,PySem.W.mg_of X Gm h1,r,q⟩
end VI
end
section
namespace Fr
theorem JBj{a g:Int}(h:g ∣ a):a.fdiv g=a / g:=Int.fdiv_eq_ediv_of_dvd h
theorem JC2(up down:Int)(h:down≠0):up.fdiv (if down<0 then -((up.gcd down:Nat):Int) else ((up.gcd down:Nat):Int))=(Rat.divInt up down).num:=by
 have hg:((up.gcd down:Nat):Int) ∣ up:=Int.gcd_dvd_left ..;rw[Rat.num_divInt,Int.gcd_comm down up]
 by_cases hd:down<0
 ·rw[if_pos hd,JBj (Int.neg_dvd.mpr hg),Int.sign_eq_neg_one_of_neg hd,Int.neg_one_mul,Int.ediv_neg,Int.neg_ediv_of_dvd hg]
 ·rw[if_neg hd,JBj hg,Int.sign_eq_one_of_pos (by omega),Int.one_mul]
theorem JET(up down:Int)(h:down≠0):down.fdiv (if down<0 then -((up.gcd down:Nat):Int) else ((up.gcd down:Nat):Int))=((Rat.divInt up down).den:Int):=by
 have hg:((up.gcd down:Nat):Int) ∣ down:=Int.gcd_dvd_right ..;rw[Rat.den_divInt,if_neg h,Int.gcd_comm down up]
 by_cases hd:down<0
 ·rw[if_pos hd,JBj (Int.neg_dvd.mpr hg),Int.ediv_neg,Int.natCast_ediv,<-Int.neg_ediv_of_dvd hg]
  congr 1
  omega
 ·rw[if_neg hd,JBj hg,Int.natCast_ediv]
  congr 1
  omega
theorem den_pos(q:Rat):(0:Int)<(q.den:Int):=by have:=q.den_pos;omega
theorem JAu(q:Rat):(q.den:Int)≠0:=by have:=den_pos q;omega
theorem JL1(a b:Rat):Rat.divInt (a.num*b.den+b.num*a.den) ((a.den:Int)*b.den)=a+b:=by
 conv=>rhs;rw[<-Rat.num_divInt_den a,<-Rat.num_divInt_den b]
 rw[Rat.divInt_add_divInt _ _ (JAu a) (JAu b)]
theorem JK2(a b:Rat):Rat.divInt (a.num*b.den - b.num*a.den) ((a.den:Int)*b.den)=a - b:=by
 conv=>rhs;rw[<-Rat.num_divInt_den a,<-Rat.num_divInt_den b]
 rw[Rat.divInt_sub_divInt _ _ (JAu a) (JAu b)]
theorem JLJ(a b:Rat):Rat.divInt (a.num*b.num) ((a.den:Int)*b.den)=a*b:=by
 conv=>rhs;rw[<-Rat.num_divInt_den a,<-Rat.num_divInt_den b]
 rw[Rat.divInt_mul_divInt]
theorem JL5(a b:Rat):Rat.divInt (a.num*b.den) ((a.den:Int)*b.num)=a / b:=by
 rw[Rat.div_def,Rat.inv_def]
 conv=>rhs;rw[<-Rat.num_divInt_den a]
 rw[Rat.divInt_mul_divInt]
theorem JM6(q:Rat):q.num.gcd (q.den:Int)=1:=by
 have:=q.reduced;unfold Nat.Coprime at this;unfold Int.gcd;simpa using this
theorem JGS(a b:Int):b.gcd (a.fmod b)=a.gcd b:=by
 have h:=Int.mul_fdiv_add_fmod a b;have e:a.fmod b=a - b*a.fdiv b:=by omega
 rw[e,Int.gcd_comm a b];apply Nat.dvd_antisymm
 ·apply Int.dvd_gcd
  ·exact Int.gcd_dvd_left ..
  ·have h1:((b.gcd (a - b*a.fdiv b):Nat):Int) ∣ b:=Int.gcd_dvd_left ..;have h2:((b.gcd (a - b*a.fdiv b):Nat):Int) ∣ a - b*a.fdiv b:=Int.gcd_dvd_right ..;have h3:=Int.dvd_add h2 (Int.dvd_mul_of_dvd_left (c:=a.fdiv b) h1);have e2:a - b*a.fdiv b+b*a.fdiv b=a:=by omega
   rwa [e2]at h3
 ·apply Int.dvd_gcd
  ·exact Int.gcd_dvd_left ..
  ·exact Int.dvd_sub (Int.gcd_dvd_right ..) (Int.dvd_mul_of_dvd_left (Int.gcd_dvd_left ..))
theorem JIi(a b:Int)(h:b≠0):(a.fmod b).natAbs<b.natAbs:=by
 by_cases hb:0<b
 ·have h1:=Int.fmod_nonneg_of_pos a hb;have h2:=Int.fmod_lt_of_pos a hb;omega
 ·have hb':b<0:=by omega
  have h1:=Int.mul_fdiv_add_fmod a b;rw[Int.fmod_eq_emod];have h2:=Int.emod_nonneg a h;have h3:=Int.emod_lt a h
  split
  ·rename_i q;rcases q with q|q
   ·omega
   ·have:=Int.emod_eq_zero_of_dvd q;omega
  ·rename_i q;have h4:a % b≠0:=λz=>q (.inr (Int.dvd_of_emod_eq_zero z));omega
end Fr
end
section
namespace VI.VP
open PySem
theorem JAA{x:Bool}{tab:Nat->Option Fd}{glo:Nat->R D}{sub:Nat->Nat->Bool}{n f:Nat}{xs:List D}{fd:Fd}(h:tab f=some fd):run x tab glo sub (n+1) f xs=JFW x ⟨run x tab glo sub n,glo,sub⟩ fd xs:=by
 rw[run,h]
@[simp] theorem look_zero (s:Sl) (δ:Env):look (s::δ) 0=s.get:=rfl
@[simp] theorem look_succ (s:Sl) (δ:Env) (i:Nat):look (s::δ) (i+1)=look δ i:=rfl
@[simp] theorem get_val (d:D):(Sl.val d).get=.ok d:=rfl
@[simp] theorem get_own (d:List D):(Sl.own (.list d)).get=.ok (.list d):=rfl
@[simp] theorem bind_ok {α β:Type}(a:α) (f:α->R β):(R.ok a).bind f=f a:=rfl
@[simp] theorem bind_exc {α β:Type}(c:Nat) (f:α->R β):(R.exc c).bind f=.exc c:=rfl
@[simp] theorem stepR_ok {α:Type}(a:α) (f:α->Fl):stepR (.ok a) f=f a:=rfl
@[simp] theorem stepR_exc {α:Type}(c:Nat) (f:α->Fl):stepR (.exc c) f=.ex c:=rfl
theorem JCA(e:E)(i:Nat)(d:D)(r:Env):JAP e i (.val d::r)=JAP e (i+1) r:=by simp[JAP,Sl.isOwn]
theorem JDw(e:E)(i:Nat)(r:Env):JAP e i (.no::r)=JAP e (i+1) r:=by simp[JAP,Sl.isOwn]
theorem JAS(e:E)(i:Nat)(d:D)(r:Env):JAP e i (.own d::r)=(e.uses i || JAP e (i+1) r):=by simp[JAP,Sl.isOwn]
theorem JB3(e:E)(i:Nat):JAP e i []=false:=rfl
theorem JAY(e:E)(i:Nat)(d:D)(r:Env):JA5 e i (.val d::r)=.val d::JA5 e (i+1) r:=by simp[JA5,Sl.frz]
theorem JAm(e:E)(i:Nat)(r:Env):JA5 e i (.no::r)=.no::JA5 e (i+1) r:=by simp[JA5,Sl.frz]
theorem JBf(e:E)(i:Nat)(d:List D)(r:Env):JA5 e i (.own (.list d)::r)=(if e.uses i=true then .val (.list d) else .own (.list d))::JA5 e (i+1) r:=by
 simp only[JA5,Sl.frz]
theorem JAW(e:E)(i:Nat):JA5 e i []=[]:=rfl
theorem JGD(e:E)(d:D)(δ:Env):after e d δ=if (JAP e 0 δ&&!JAI d)=true then JA5 e 0 δ else δ:=rfl
noncomputable def JHb(x:Bool):Fl->R D
 |.nx _=>.ok .none
 |.rt d=>.ok d
 |.ex c=>if x=true then .exc c else .bad
 |_=>.bad
theorem JAB{x:Bool}{C:Cn}{f:Fd}{xs:List D}(h:xs.length=f.par):JFW x C f xs=JHb x (exec C f.body (xs.map Sl.val++List.replicate (f.slots - f.par) Sl.no)):=by
 unfold JFW;rw[if_pos h];cases exec C f.body (xs.map Sl.val++List.replicate (f.slots - f.par) Sl.no)<;>rfl
section
variable{c:Env->R Bool}{b:Env->Fl}
theorem JB6:∀(n:Nat) (δ:Env),JAn c b n δ≠.bad->JAn c b (n+1) δ=JAn c b n δ
 |0,δ,h=>absurd rfl h
 |n+1,δ,h=>by
  unfold JAn at h ⊢;cases hc:c δ with
  |ok k =>
   cases k with
   |true =>
    rw[hc]at h;simp only at h ⊢;cases hb:b δ with
    |nx δ'=>rw[hb]at h;exact JB6 n δ' h
    |ct δ'=>rw[hb]at h;exact JB6 n δ' h
    |bk δ'=>rfl
    |rt d=>rfl
    |ex k=>rfl
    |bad=>rfl
   |false=>rfl
  |exc k=>rfl
  |bad=>rfl
theorem JE0{n m:Nat}(h:JAn c b n δ≠.bad)(hm:n<=m):JAn c b m δ=JAn c b n δ:=by
 induction hm with
 |refl=>rfl
 |step _ ih=>rw[JB6 _ _ (by rw[ih];exact h),ih]
theorem JDV{n:Nat}(h:JAn c b n δ≠.bad):JBt c b δ=JAn c b n δ:=by
 unfold JBt;have hx:∃n,JAn c b n δ≠.bad:=⟨n,h⟩;rw[dif_pos hx];have h2:=hx.choose_spec;rcases Nat.le_total n hx.choose with l|l
 ·exact JE0 h l
 ·exact(JE0 h2 l).symm
theorem JC5(hc:c δ=.ok false):JBt c b δ=.nx δ:=by
 have:JAn c b 1 δ=.nx δ:=by unfold JAn;rw[hc]
 rw[JDV (n:=1) (by rw[this];intro h;cases h),this]
theorem JDN(hc:c δ=.ok true)(hb:b δ=.nx δ'):JBt c b δ=JBt c b δ':=by
 have hs:∀n,JAn c b (n+1) δ=JAn c b n δ':=λn=>by
  conv=>lhs;unfold JAn
  rw[hc];simp only;rw[hb]
 by_cases h:∃n,JAn c b n δ'≠.bad
 ·obtain⟨n,h⟩:=h;rw[JDV h,JDV (n:=n+1) (by rw[hs];exact h),hs]
 ·have h1:JBt c b δ'=.bad:=by unfold JBt;rw[dif_neg h]
  have h2:¬ ∃n,JAn c b n δ≠.bad:=by
   rintro⟨n,q⟩;cases n with
   |zero=>exact q rfl
   |succ n=>exact h ⟨n,by rw[<-hs];exact q⟩
  rw[h1];unfold JBt;rw[dif_neg h2]
end
theorem JBw{i:Int}{k:Nat}(h:i.natAbs<2 ^ k):Builtin.Int.intBits i<=k:=by
 unfold Builtin.Int.intBits
 split
 ·omega
 ·rename_i hz;have hn:i.natAbs≠0:=by simpa using hz
  have:=(Nat.log2_lt hn).mpr h;omega
theorem JIg{i j:Int}(h:j.natAbs<2 ^ 9000):Builtin.divisionGoesByPylong i j=false:=by
 unfold Builtin.divisionGoesByPylong;simp only[Bool.and_eq_false_iff,decide_eq_false_iff_not];left
 split
 ·omega
 ·rename_i hz;have hn:j.natAbs≠0:=by simpa using hz
  have:=(Nat.log2_lt hn).mpr h;omega
end VI.VP
end
section
namespace VI.VP
open PySem Fr
def L(i:Int):Prop:=i.natAbs<2 ^ 4000
theorem L.of{i:Int}{k:Nat}(h:i.natAbs<2 ^ k)(hk:k<=4000):L i:=q_m h (Nat.pow_le_pow_right (by omega) hk)
theorem JQO{i j:Int}(hi:L i)(hj:L j):IntMulOk i j:=by
 have h1:=JBw hi;have h2:=JBw hj;unfold IntMulOk;intro h;simp only[q_i,q_D]at h;have h3:=h.2;unfold Builtin.Int.intTooBig at h3;have:(bitsLine:Int) ≥ 8000:=by decide
 simp only[q_D]at h3;omega
theorem pyl{i j:Int}(hj:L j):Builtin.divisionGoesByPylong i j=false:=JIg (q_m hj (Nat.pow_le_pow_right (by omega) (by omega)))
theorem JCm{i j:Int}(hi:L i)(hj:L j):binD .Mult (.int i) (.int j)=.ok (.int (i*j)):=by
 simp only[binD,if_pos (JQO hi hj)]
theorem JGG{i j:Int}(hj:j.natAbs<2 ^ 64):binD .Mult (.int i) (.int j)=.ok (.int (i*j)):=by
 simp only[binD,if_pos (IntMulOk.of_right (a:=i) (JBw hj))]
theorem JDj{i j:Int}(hj:i.natAbs<2 ^ 64):binD .Mult (.int i) (.int j)=.ok (.int (i*j)):=by
 simp only[binD,if_pos (IntMulOk.of_left (b:=j) (JBw hj))]
theorem JNM{i j:Int}:binD .Add (.int i) (.int j)=.ok (.int (i+j)):=rfl
theorem JRT{i j:Int}:binD .Sub (.int i) (.int j)=.ok (.int (i - j)):=rfl
theorem JI3{i j:Int}(h:j≠0)(hj:L j):binD .FloorDiv (.int i) (.int j)=.ok (.int (i.fdiv j)):=by
 simp only[binD,if_pos (And.intro h (pyl (i:=i) hj))]
theorem JFC{i j:Int}(h:j≠0):binD .Mod (.int i) (.int j)=.ok (.int (i.fmod j)):=by
 simp only[binD,if_pos h]
noncomputable def F(q:Rat):D:=.tuple [.int q.num,.int q.den]
theorem JGo(p q:Rat):PyData.eqv (F p) (F q)=decide (p=q):=by
 simp only[F,PyData.eqv,PyData.eqvAll,Bool.and_true]
 by_cases h:p=q
 ·subst h;simp
 ·rw[q_o h];simp only[Bool.and_eq_false_iff,beq_eq_false_iff_ne,ne_eq]
  by_cases hn:p.num=q.num
  ·right;intro hd;exact h (Rat.ext hn (by omega))
  ·left;exact hn
theorem JKR(q:Rat):shaped (F q)=true:=by
 simp only[shaped,F,PyData.canLay0,PyData.canLayAll0,PyData.depth,PyData.depthAll,Bool.and_true,Bool.true_and];decide
theorem JLP(q:Rat):idxD (F q) (.int 0)=.ok (.int q.num):=rfl
theorem JLL(q:Rat):idxD (F q) (.int 1)=.ok (.int q.den):=rfl
theorem F_eq(p q:Rat):cmpD .Eq (F p) (F q)=.ok (.bool (decide (p=q))):=by
 simp only[cmpD,JKR,Bool.and_self,if_true,JGo]
theorem i_ne(i j:Int):cmpD .NotEq (.int i) (.int j)=.ok (.bool (!decide (i=j))):=by
 have:PyData.eqv (.int i) (.int j)=decide (i=j):=by simp only[PyData.eqv];rfl
 simp only[cmpD,shaped,PyData.canLay0,PyData.depth,this];rfl
theorem i_eq(i j:Int):cmpD .Eq (.int i) (.int j)=.ok (.bool (decide (i=j))):=by
 have:PyData.eqv (.int i) (.int j)=decide (i=j):=by simp only[PyData.eqv];rfl
 simp only[cmpD,shaped,PyData.canLay0,PyData.depth,this];rfl
theorem i_lt(i j:Int):cmpD .Lt (.int i) (.int j)=.ok (.bool (decide (i<j))):=rfl
theorem i_gt(i j:Int):cmpD .Gt (.int i) (.int j)=.ok (.bool (decide (j<i))):=rfl
theorem i_le(i j:Int):cmpD .LtE (.int i) (.int j)=.ok (.bool (decide (i<=j))):=rfl
theorem i_ge(i j:Int):cmpD .GtE (.int i) (.int j)=.ok (.bool (decide (j<=i))):=rfl
theorem JH3(u d:Int)(h:d≠0):(Rat.divInt u d).num.natAbs<=u.natAbs:=by
 rw[<-JC2 u d h];have hg:((u.gcd d:Nat):Int) ∣ u:=Int.gcd_dvd_left ..;have key:∀g:Int,g ∣ u->(u.fdiv g).natAbs<=u.natAbs:=λg hg=>by
  rw[JBj hg];obtain⟨k,rfl⟩:=hg
  by_cases hz:g=0
  ·subst hz;simp
  ·rw[Int.mul_ediv_cancel_left _ hz,Int.natAbs_mul];have:0<g.natAbs:=by omega
   exact Nat.le_mul_of_pos_left _ this
 split
 ·exact key _ (Int.neg_dvd.mpr hg)
 ·exact key _ hg
theorem JGW(u d:Int)(h:d≠0):(Rat.divInt u d).den<=d.natAbs:=by
 rw[Rat.den_divInt,if_neg h];exact Nat.div_le_self _ _
def Sz(k:Nat)(q:Rat):Prop:=q.num.natAbs<2 ^ k/\q.den<2 ^ k
theorem Sz.mono{i k:Nat}{q:Rat}(h:Sz i q)(hk:i<=k):Sz k q:=⟨q_m h.1 (Nat.pow_le_pow_right (by omega) hk),q_m h.2 (Nat.pow_le_pow_right (by omega) hk)⟩
theorem Sz.of{u d:Int}{k:Nat}(h:d≠0)(hu:u.natAbs<2 ^ k)(hd:d.natAbs<2 ^ k):Sz k (Rat.divInt u d):=⟨Nat.lt_of_le_of_lt (JH3 u d h) hu,Nat.lt_of_le_of_lt (JGW u d h) hd⟩
theorem Sz.n{k:Nat}{q:Rat}(h:Sz k q):q.num.natAbs<2 ^ k:=h.1
theorem Sz.d{k:Nat}{q:Rat}(h:Sz k q):(q.den:Int).natAbs<2 ^ k:=by simpa using h.2
theorem JAt{a b:Int}{i j:Nat}(h1:a.natAbs<2 ^ i)(h2:b.natAbs<2 ^ j):(a*b).natAbs<2 ^ (i+j):=by
 rw[Int.natAbs_mul,Nat.pow_add];exact Nat.mul_lt_mul'' h1 h2
theorem JQG{a b:Int}{i:Nat}(h1:a.natAbs<2 ^ i)(h2:b.natAbs<2 ^ i):(a+b).natAbs<2 ^ (i+1):=by
 have:=Int.natAbs_add_le a b;rw[Nat.pow_succ];omega
theorem JRL{a b:Int}{i:Nat}(h1:a.natAbs<2 ^ i)(h2:b.natAbs<2 ^ i):(a - b).natAbs<2 ^ (i+1):=by
 have:=Int.natAbs_sub_le a b;rw[Nat.pow_succ];omega
theorem JEp{a:Int}{i k:Nat}(h:a.natAbs<2 ^ i)(hk:i<=k):a.natAbs<2 ^ k:=q_m h (Nat.pow_le_pow_right (by omega) hk)
section
variable{i j k:Nat}{p q:Rat}
theorem Sz.add(hp:Sz i p)(hq:Sz j q)(hk:i+j+1<=k):Sz k (p+q):=by
 rw[<-JL1];have h1:=JAt hp.n hq.d;have h2:=JAt hq.n hp.d;rw[Nat.add_comm j i]at h2;refine Sz.of (Int.mul_ne_zero (JAu p) (JAu q)) (JEp (JQG h1 h2) hk) (JEp (JAt hp.d hq.d) (by omega))
theorem Sz.sub(hp:Sz i p)(hq:Sz j q)(hk:i+j+1<=k):Sz k (p - q):=by
 rw[<-JK2];have h1:=JAt hp.n hq.d;have h2:=JAt hq.n hp.d;rw[Nat.add_comm j i]at h2;refine Sz.of (Int.mul_ne_zero (JAu p) (JAu q)) (JEp (JRL h1 h2) hk) (JEp (JAt hp.d hq.d) (by omega))
theorem Sz.mul(hp:Sz i p)(hq:Sz j q)(hk:i+j<=k):Sz k (p*q):=by
 rw[<-JLJ];exact Sz.of (Int.mul_ne_zero (JAu p) (JAu q)) (JEp (JAt hp.n hq.n) hk) (JEp (JAt hp.d hq.d) hk)
theorem Sz.div(hp:Sz i p)(hq:Sz j q)(h0:q≠0)(hk:i+j<=k):Sz k (p / q):=by
 rw[<-JL5];have:q.num≠0:=λz=>h0 (Rat.num_eq_zero.mp z);exact Sz.of (Int.mul_ne_zero (JAu p) this) (JEp (JAt hp.n hq.d) hk) (JEp (JAt hp.d hq.n) hk)
end
abbrev Q(q:Rat):Prop:=Sz 1500 q
theorem Sz.Ln{k:Nat}{q:Rat}(h:Sz k q)(hk:k<=4000):L q.num:=L.of h.n hk
theorem Sz.Ld{k:Nat}{q:Rat}(h:Sz k q)(hk:k<=4000):L (q.den:Int):=L.of h.d hk
end VI.VP
end
section
namespace VI.VP
open PySem
section
variable{C:Cn}{δ:Env}{a b c e es o i r:E}{x y z d:D}{xs:List D}
noncomputable def bin1(op:Operator):R D->R D->R D
 |.ok x,.ok y=>binD op x y
 |.ok _,r=>r
 |r,_=>r
noncomputable def neg1:R D->R D
 |.ok (.int i)=>.ok (.int (-i))
 |.exc c=>.exc c
 |_=>.bad
noncomputable def not1:R Bool->R D
 |.ok b=>.ok (.bool (!b))
 |.exc c=>.exc c
 |.bad=>.bad
noncomputable def tr1:R D->R Bool
 |.ok d=>truth d
 |.exc c=>.exc c
 |.bad=>.bad
noncomputable def and1(C:Cn)(b:E)(δ:Env):R D->R D
 |.ok (.bool true)=>ev C b δ
 |.ok (.bool false)=>.ok (.bool false)
 |.exc c=>.exc c
 |_=>.bad
noncomputable def or1(C:Cn)(b:E)(δ:Env):R D->R D
 |.ok (.bool true)=>.ok (.bool true)
 |.ok (.bool false)=>ev C b δ
 |.exc c=>.exc c
 |_=>.bad
noncomputable def cmp1(op:CmpOp):R D->R D->R D
 |.ok x,.ok y=>cmpD op x y
 |.ok _,r=>r
 |r,_=>r
noncomputable def isN1(n:Bool):R D->R D
 |.ok x=>.ok (.bool (if n=true then !isNone x else isNone x))
 |r=>r
noncomputable def isB1(b:Bool):R D->R D
 |.ok (.bool c)=>.ok (.bool (c==b))
 |.exc c=>.exc c
 |_=>.bad
noncomputable def ife1(C:Cn)(a b:E)(δ:Env):R Bool->R D
 |.ok true=>ev C a δ
 |.ok false=>ev C b δ
 |.exc c=>.exc c
 |.bad=>.bad
noncomputable def tup1:R (List D)->R D
 |.ok xs=>.ok (.tuple xs)
 |.exc c=>.exc c
 |.bad=>.bad
noncomputable def lst1:R (List D)->R D
 |.ok xs=>.ok (.list xs)
 |.exc c=>.exc c
 |.bad=>.bad
noncomputable def idx1:R D->R D->R D
 |.ok x,.ok y=>idxD x y
 |.ok _,r=>r
 |r,_=>r
noncomputable def JJL(C:Cn)(f:Nat):R (List D)->R D
 |.ok xs=>C.fn f xs
 |.exc c=>.exc c
 |.bad=>.bad
noncomputable def blt1(b:Blt):R (List D)->R D
 |.ok xs=>bltD b xs
 |.exc c=>.exc c
 |.bad=>.bad
noncomputable def isi1(C:Cn)(t:Ty):R D->R D
 |.ok x=>isiD C.sub x t
 |r=>r
noncomputable def JLa:R D->R D->R D
 |.ok (.list xs),.ok y=>JD5 (.list xs) y
 |.ok (.list _),r=>r
 |.exc c,_=>.exc c
 |_,_=>.bad
noncomputable def JKu:R D->R D->R D
 |.ok (.list xs),.ok y=>JD0 (.list xs) y
 |.ok (.list _),r=>r
 |.exc c,_=>.exc c
 |_,_=>.bad
noncomputable def get1:R D->R D->R D->R D
 |.ok x,r1,r2=>if JPp x=true then (r1.bind λy=>r2.bind λz=>JNH x y z) else .bad
 |.exc c,_,_=>.exc c
 |_,_,_=>.bad
noncomputable def JKL:R D->R (List D)->R (List D)
 |.ok x,.ok xs=>.ok (x::xs)
 |.ok _,r=>r
 |.exc c,_=>.exc c
 |.bad,_=>.bad
noncomputable def JHr(C:Cn)(k:Nat)(elt cond:E)(δ:Env)(x:D):R (Option D):=(push k x δ).bind λδ1=>(evT C cond δ1).bind λt=>if t=true then (ev C elt δ1).bind λy=>.ok (some y) else .ok none
noncomputable def JDc(C:Cn)(k:Nat)(elt cond:E)(δ:Env):R (List D)->R D
 |.ok xs=>if xs.length<=16777216 then (JBM (JHr C k elt cond δ) xs).bind λys=>.ok (.list ys) else .bad
 |.exc c=>.exc c
 |.bad=>.bad
noncomputable def its1:R D->R (List D)
 |.ok d=>JAc d
 |.exc c=>.exc c
 |.bad=>.bad
noncomputable def rng1:R (List D)->R (List D)
 |.ok d=>rngD d
 |r=>r
theorem JDO(r:R D):r.bind truth=tr1 r:=by cases r<;>rfl
theorem JCO(r:R D):r.bind JAc=its1 r:=by cases r<;>rfl
theorem v_var{j:Nat}:ev C (.var j) δ=look δ j:=by simp only[ev]
theorem JRi{j:Int}:ev C (.cint j) δ=.ok (.int j):=by simp only[ev]
theorem v_bl{j:Bool}:ev C (.cbl j) δ=.ok (.bool j):=by simp only[ev]
theorem JPm:ev C (.cstr j) δ=.ok (.str j):=by simp only[ev]
theorem JPf{j:Nat}:ev C (.glo j) δ=C.glo j:=by simp only[ev]
theorem JRj:ev C (.bin op a b) δ=bin1 op (ev C a δ) (ev C b δ):=by
 simp only[ev];cases ev C a δ<;>cases ev C b δ<;>rfl
theorem JO7:ev C (.neg a) δ=neg1 (ev C a δ):=by
 simp only[ev];cases h:ev C a δ with
 |ok d=>cases d<;>rfl
 |exc c=>rfl
 |bad=>rfl
theorem v_not:ev C (.not a) δ=not1 (tr1 (ev C a δ)):=by
 simp only[ev];cases h:ev C a δ with
 |ok d=>simp only[R.bind,tr1];cases truth d<;>rfl
 |exc c=>rfl
 |bad=>rfl
theorem v_and:ev C (.and a b) δ=and1 C b δ (ev C a δ):=by
 simp only[ev];cases h:ev C a δ with
 |ok d =>
  cases d with
  |bool k=>cases k<;>rfl
  |_=>rfl
 |exc c=>rfl
 |bad=>rfl
theorem v_or:ev C (.or a b) δ=or1 C b δ (ev C a δ):=by
 simp only[ev];cases h:ev C a δ with
 |ok d =>
  cases d with
  |bool k=>cases k<;>rfl
  |_=>rfl
 |exc c=>rfl
 |bad=>rfl
theorem JQs:ev C (.cmp op a b) δ=cmp1 op (ev C a δ) (ev C b δ):=by
 simp only[ev];cases ev C a δ<;>cases ev C b δ<;>rfl
theorem JQT:ev C (.ife c a b) δ=ife1 C a b δ (evT C c δ):=by
 simp only[ev];cases h:evT C c δ with
 |ok k=>cases k<;>rfl
 |exc c=>rfl
 |bad=>rfl
theorem JPd:ev C (.tup es) δ=tup1 (evA C es δ):=by simp only[ev];cases evA C es δ<;>rfl
theorem JOt:ev C (.lst es) δ=lst1 (evA C es δ):=by simp only[ev];cases evA C es δ<;>rfl
theorem JRB:ev C (.idx a i) δ=idx1 (ev C a δ) (ev C i δ):=by
 simp only[ev];cases ev C a δ<;>cases ev C i δ<;>rfl
theorem JLD{f:Nat}:ev C (.call f es) δ=JJL C f (evA C es δ):=by simp only[ev];cases evA C es δ<;>rfl
theorem JQS:ev C (.blt f es) δ=blt1 f (evA C es δ):=by simp only[ev];cases evA C es δ<;>rfl
theorem JRR:ev C (.isi a t) δ=isi1 C t (ev C a δ):=by simp only[ev];cases ev C a δ<;>rfl
theorem v_count:ev C (.mcount o a) δ=JLa (ev C o δ) (ev C a δ):=by
 simp only[ev];cases ev C o δ with
 |ok d=>cases d<;>cases ev C a δ<;>rfl
 |exc c=>rfl
 |bad=>rfl
theorem JIq:ev C (.mindex o a) δ=JKu (ev C o δ) (ev C a δ):=by
 simp only[ev];cases ev C o δ with
 |ok d=>cases d<;>cases ev C a δ<;>rfl
 |exc c=>rfl
 |bad=>rfl
theorem JLn{k:Nat}:ev C (.cmpr k e i c) δ=JDc C k e c δ (evI C i δ):=by
 simp only[ev];cases evI C i δ<;>rfl
noncomputable def rep1(k:Nat):R (List D)->R D
 |.ok xs=>.ok (.list (List.replicate k xs).flatten)
 |.exc c=>.exc c
 |.bad=>.bad
noncomputable def fn11(o:O1):R D->R D
 |.ok x=>op1D o x
 |r=>r
noncomputable def JNc(b:Bool):R D->R D
 |.ok (.bool c)=>.ok (.bool (!(c==b)))
 |.exc c=>.exc c
 |_=>.bad
theorem JPx:ev C (.fn1 o1 a) δ=fn11 o1 (ev C a δ):=by simp only[ev];cases ev C a δ<;>rfl
theorem JGi{k:Bool}:evT C (.isnB a k) δ=tr1 (JNc k (ev C a δ)):=by
 simp only[evT];cases h:ev C a δ with
 |ok d=>cases d<;>rfl
 |exc c=>rfl
 |bad=>rfl
noncomputable def xop1(k:XO):R (List D)->R D
 |.ok xs=>xD k xs
 |.exc c=>.exc c
 |.bad=>.bad
theorem JOv:ev C (.xop k es) δ=xop1 k (evA C es δ):=by simp only[ev];cases evA C es δ<;>rfl
theorem JO5:evI C (.xop k es) δ=its1 (xop1 k (evA C es δ)):=by simp only[evI,JCO];cases evA C es δ<;>rfl
theorem JQt:evI C (.fn1 o1 a) δ=its1 (fn11 o1 (ev C a δ)):=by simp only[evI,JCO];cases ev C a δ<;>rfl
theorem JL7:evA C .nil δ=.ok []:=by simp only[evA]
theorem JHc:evA C (.cons a r) δ=JKL (ev C a δ) (evA C r δ):=by
 simp only[evA];cases ev C a δ<;>cases evA C r δ<;>rfl
theorem JJQ:evT C (.not a) δ=tr1 (not1 (evT C a δ)):=by
 simp only[evT];cases evT C a δ<;>rfl
noncomputable def andT(C:Cn)(b:E)(δ:Env):R Bool->R Bool
 |.ok true=>evT C b δ
 |r=>r
noncomputable def orT(C:Cn)(b:E)(δ:Env):R Bool->R Bool
 |.ok false=>evT C b δ
 |r=>r
theorem JQ9:evT C (.and a b) δ=andT C b δ (evT C a δ):=by
 simp only[evT];cases h:evT C a δ with
 |ok k=>cases k<;>rfl
 |exc c=>rfl
 |bad=>rfl
theorem t_or:evT C (.or a b) δ=orT C b δ (evT C a δ):=by
 simp only[evT];cases h:evT C a δ with
 |ok k=>cases k<;>rfl
 |exc c=>rfl
 |bad=>rfl
theorem t_bl{j:Bool}:evT C (.cbl j) δ=.ok j:=by simp only[evT]
theorem JR2:evT C (.cmp op a b) δ=tr1 (cmp1 op (ev C a δ) (ev C b δ)):=by
 simp only[evT,JDO];cases ev C a δ<;>cases ev C b δ<;>rfl
theorem JKM{k:Bool}:evT C (.isN a k) δ=tr1 (isN1 k (ev C a δ)):=by simp only[evT];cases ev C a δ<;>rfl
theorem JJh{k:Bool}:evT C (.isB a k) δ=tr1 (isB1 k (ev C a δ)):=by
 simp only[evT];cases h:ev C a δ with
 |ok d=>cases d<;>rfl
 |exc c=>rfl
 |bad=>rfl
theorem JMC{f:Nat}:evT C (.call f es) δ=tr1 (JJL C f (evA C es δ)):=by simp only[evT,JDO];cases evA C es δ<;>rfl
theorem JQu:evT C (.isi a t) δ=tr1 (isi1 C t (ev C a δ)):=by simp only[evT,JDO];cases ev C a δ<;>rfl
theorem JRa:evI C (.rng es) δ=rng1 (evA C es δ):=by simp only[evI];cases evA C es δ<;>rfl
theorem JQC{j:Nat}:evI C (.var j) δ=its1 (look δ j):=by simp only[evI];cases look δ j<;>rfl
theorem l_idx:evI C (.idx a i) δ=its1 (idx1 (ev C a δ) (ev C i δ)):=by
 simp only[evI,JCO];cases ev C a δ<;>cases ev C i δ<;>rfl
theorem JLe{f:Nat}:evI C (.call f es) δ=its1 (JJL C f (evA C es δ)):=by simp only[evI,JCO];cases evA C es δ<;>rfl
noncomputable def seq1(C:Cn)(r:S):Fl->Fl
 |.nx δ=>exec C r δ
 |f=>f
noncomputable def asg1(i:Nat)(e:E)(δ:Env):R D->Fl
 |.ok x=>if e.fresh=true then .nx ((after e x δ).set i (.own x)) else .nx ((after e x δ).set i (.val x))
 |.exc c=>.ex c
 |.bad=>.bad
noncomputable def unp2(is:List Nat)(δ:Env):R (List D)->Fl
 |.ok xs=>.nx (JBW is xs δ)
 |.exc c=>.ex c
 |.bad=>.bad
noncomputable def unp1(is:List Nat)(e:E)(δ:Env):R D->Fl
 |.ok d=>unp2 is (after e d δ) (JAq is.length d)
 |.exc c=>.ex c
 |.bad=>.bad
noncomputable def ret1:R D->Fl
 |.ok d=>.rt d
 |.exc c=>.ex c
 |.bad=>.bad
noncomputable def ifs1(C:Cn)(a b:S)(δ:Env):R Bool->Fl
 |.ok true=>exec C a δ
 |.ok false=>exec C b δ
 |.exc c=>.ex c
 |.bad=>.bad
noncomputable def app1(i:Nat)(e:E)(δ:Env)(r:R D):Option Sl->Fl
 |some (.own (.list ds))=>(match r with
  |.ok x=>JAk i ds e x δ
  |.exc c=>.ex c
  |.bad=>.bad)
 |_=>.bad
noncomputable def ext1(i:Nat)(e:E)(δ:Env)(r:R D):Option Sl->Fl
 |some (.own (.list ds))=>(match r with
  |.ok x=>JBZ i ds e x δ
  |.exc c=>.ex c
  |.bad=>.bad)
 |_=>.bad
noncomputable def JNC(e:E)(δ:Env):R D->Fl
 |.ok x=>.nx (after e x δ)
 |.exc c=>.ex c
 |.bad=>.bad
noncomputable def for2(C:Cn)(i:Nat)(b:S):List D->Env->Fl:=forL (put1 i) (exec C b)
noncomputable def for1(C:Cn)(i:Nat)(e:E)(b:S)(δ:Env):R (List D)->Fl
 |.ok xs=>for2 C i b xs (JA5 e 0 δ)
 |.exc c=>.ex c
 |.bad=>.bad
noncomputable def whl1(C:Cn)(c:E)(b:S)(δ:Env):Fl:=JBt (evT C c) (exec C b) δ
variable{s t h:S}{j k:Nat}
theorem JPE:exec C .nil δ=.nx δ:=by simp only[exec]
theorem JLN:exec C (.cons s t) δ=seq1 C t (exec C s δ):=by simp only[exec];cases exec C s δ<;>rfl
theorem JQy:exec C (.asg j e) δ=asg1 j e δ (ev C e δ):=by simp only[exec];cases ev C e δ<;>rfl
theorem JOq:exec C (.unp is e) δ=unp1 is e δ (ev C e δ):=by
 simp only[exec];cases ev C e δ with
 |ok d=>simp only[stepR,unp1];cases JAq is.length d<;>rfl
 |exc c=>rfl
 |bad=>rfl
theorem JPo:exec C (.ret e) δ=ret1 (ev C e δ):=by simp only[exec];cases ev C e δ<;>rfl
theorem JQj:exec C (.ife c s t) δ=ifs1 C s t δ (evT C c δ):=by
 simp only[exec];cases h:evT C c δ with
 |ok k=>cases k<;>rfl
 |exc c=>rfl
 |bad=>rfl
theorem JRA:exec C (.app j e) δ=app1 j e δ (ev C e δ) δ[j]?:=by
 simp only[exec];cases h:δ[j]? with
 |none=>rfl
 |some u =>
  cases u with
  |own d =>
   cases d with
   |list ds=>simp only[app1];cases ev C e δ<;>rfl
   |_=>rfl
  |_=>rfl
theorem JPU:exec C (.ext j e) δ=ext1 j e δ (ev C e δ) δ[j]?:=by
 simp only[exec];cases h:δ[j]? with
 |none=>rfl
 |some u =>
  cases u with
  |own d =>
   cases d with
   |list ds=>simp only[ext1];cases ev C e δ<;>rfl
   |_=>rfl
  |_=>rfl
theorem JL0:exec C (.drop e) δ=JNC e δ (ev C e δ):=by simp only[exec];cases ev C e δ<;>rfl
theorem JMB:exec C (.for1 j e s) δ=for1 C j e s δ (evI C e δ):=by simp only[exec];cases evI C e δ<;>rfl
theorem JO4:exec C (.whl c s) δ=whl1 C c s δ:=by simp only[exec];rfl
theorem JF7:exec C (.rais k) δ=.ex k:=by simp only[exec]
noncomputable def forN(C:Cn)(i:Nat)(b:S)(ds:List D):Fl->Fl
 |.nx δ'=>for2 C i b ds δ'
 |.ct δ'=>for2 C i b ds δ'
 |.bk δ'=>.nx δ'
 |r=>r
theorem JH7:for2 C j s [] δ=.nx δ:=rfl
theorem JCH:for2 C j s (d::xs) δ=forN C j s xs (exec C s (δ.set j (.val d))):=by
 unfold for2 forL;simp only[put1];cases exec C s (δ.set j (.val d))<;>rfl
noncomputable def mkl:R (List D)->R D
 |.ok ys=>.ok (.list ys)
 |.exc c=>.exc c
 |.bad=>.bad
theorem JDP{k:Nat}(hl:xs.length<=16777216):JDc C k e c δ (.ok xs)=mkl (JBM (JHr C k e c δ) xs):=by
 simp only[JDc,if_pos hl];cases JBM (JHr C k e c δ) xs<;>rfl
theorem JEw{f:D->R (Option D)}{g:D->D}:∀ {xs:List D},(∀x∈xs,f x=.ok (some (g x)))->JBM f xs=.ok (xs.map g)
 | [],_=>rfl
 |x::xs,h=>by
  unfold JBM;rw[h x (by simp),JEw λy hy=>h y (by simp[hy])]
  rfl
noncomputable def opt1(b:Bool):R D->R (Option D)
 |.ok y=>.ok (some y)
 |.exc c=>.exc c
 |.bad=>.bad
noncomputable def JKa(C:Cn)(e:E)(δ:Env):R Bool->R (Option D)
 |.ok true=>opt1 true (ev C e δ)
 |.ok false=>.ok none
 |.exc c=>.exc c
 |.bad=>.bad
theorem JDH:JHr C 0 e c δ x=JKa C e (.val x::δ) (evT C c (.val x::δ)):=by
 unfold JHr;simp only[push,R.bind];cases h:evT C c (.val x::δ) with
 |ok k =>
  cases k
  ·rfl
  ·simp only[if_true,JKa];cases ev C e (.val x::δ)<;>rfl
 |exc c=>rfl
 |bad=>rfl
end
theorem JMF{i:Nat}{e:E}{d:D}:asg1 i e δ (.ok d)=.nx ((after e d δ).set i (if e.fresh=true then .own d else .val d)):=by
 simp only[asg1]
 split<;>rfl
theorem JFF(s:Sl)(δ:Env):(s::δ)[0]? = some s:=rfl
theorem JFP(s:Sl)(δ:Env)(i:Nat):(s::δ)[i+1]? = δ[i]?:=rfl
theorem JHP(b:Bool):tr1 (.ok (.bool b))=.ok b:=rfl
theorem JR0:bin1 op (.ok x) (.ok y)=binD op x y:=rfl
theorem JOy{i:Int}:neg1 (.ok (.int i))=.ok (.int (-i)):=rfl
theorem JSK{b:Bool}:not1 (.ok b)=.ok (.bool (!b)):=rfl
theorem JLE{b:E}:and1 C b δ (.ok (.bool true))=ev C b δ:=rfl
theorem JK6{b:E}:and1 C b δ (.ok (.bool false))=.ok (.bool false):=rfl
theorem JRI{b:E}:or1 C b δ (.ok (.bool true))=.ok (.bool true):=rfl
theorem JQQ{b:E}:or1 C b δ (.ok (.bool false))=ev C b δ:=rfl
theorem JOz:cmp1 op (.ok x) (.ok y)=cmpD op x y:=rfl
theorem JRu{n:Bool}:isN1 n (.ok x)=.ok (.bool (if n=true then !isNone x else isNone x)):=rfl
theorem JQz{b c:Bool}:isB1 b (.ok (.bool c))=.ok (.bool (c==b)):=rfl
theorem JLx{a b:E}:ife1 C a b δ (.ok true)=ev C a δ:=rfl
theorem JLZ{a b:E}:ife1 C a b δ (.ok false)=ev C b δ:=rfl
theorem JPC:tup1 (.ok xs)=.ok (.tuple xs):=rfl
theorem JP4{k:Nat}:rep1 k (.ok xs)=.ok (.list (List.replicate k xs).flatten):=rfl
theorem JQV:fn11 o (.ok x)=op1D o x:=rfl
theorem JRS:xop1 k (.ok xs)=xD k xs:=rfl
theorem JLb{b c:Bool}:JNc b (.ok (.bool c))=.ok (.bool (!(c==b))):=rfl
theorem JRK{lo hi:Option Int}:op1D (.slice lo hi) (.tuple xs)=.ok (.tuple (cutD xs lo hi)):=rfl
theorem JSC{lo hi:Option Int}:op1D (.slice lo hi) (.list xs)=.ok (.list (cutD xs lo hi)):=rfl
theorem k_tt:op1D .toTup (.tuple xs)=.ok (.tuple xs):=rfl
theorem k_tl:op1D .toTup (.list xs)=.ok (.tuple xs):=rfl
theorem k_lt:op1D .toLst (.tuple xs)=.ok (.list xs):=rfl
theorem k_ll:op1D .toLst (.list xs)=.ok (.list xs):=rfl
theorem JHz{e:E}{c:Nat}:JNC e δ (.exc c)=.ex c:=rfl
theorem JR8:lst1 (.ok xs)=.ok (.list xs):=rfl
theorem JQA:idx1 (.ok x) (.ok y)=idxD x y:=rfl
theorem JLC{f:Nat}:JJL C f (.ok xs)=C.fn f xs:=rfl
theorem JRf{b:Blt}:blt1 b (.ok xs)=bltD b xs:=rfl
theorem JQq:isi1 C t (.ok x)=isiD C.sub x t:=rfl
theorem JI0:JLa (.ok (.list x)) (.ok y)=JD5 (.list x) y:=rfl
theorem JH8:JKu (.ok (.list x)) (.ok y)=JD0 (.list x) y:=rfl
theorem JR7:get1 (.ok (.dict ((.str k,v)::x))) (.ok y) (.ok z)=JNH (.dict ((.str k,v)::x)) y z:=rfl
theorem JKw:JKL (.ok x) (.ok xs)=.ok (x::xs):=rfl
theorem JHR{b:E}:andT C b δ (.ok true)=evT C b δ:=rfl
theorem JII{b:E}:andT C b δ (.ok false)=.ok false:=rfl
theorem JLR{b:E}:orT C b δ (.ok true)=.ok true:=rfl
theorem JLA{b:E}:orT C b δ (.ok false)=evT C b δ:=rfl
theorem JSA{d:D}:its1 (.ok d)=JAc d:=rfl
theorem JR9{d:List D}:rng1 (.ok d)=rngD d:=rfl
theorem JPb:seq1 C r (.nx δ)=exec C r δ:=rfl
theorem JLr{d:D}:seq1 C r (.rt d)=.rt d:=rfl
theorem JKz{c:Nat}:seq1 C r (.ex c)=.ex c:=rfl
theorem JLO:seq1 C r (.bk δ)=.bk δ:=rfl
theorem JLU:seq1 C r (.ct δ)=.ct δ:=rfl
theorem JLo{i:Nat}{e:E}{c:Nat}:asg1 i e δ (.exc c)=.ex c:=rfl
theorem JRx{e:E}{d:D}:unp1 is e δ (.ok d)=unp2 is (after e d δ) (JAq is.length d):=rfl
theorem JLi:unp2 is δ (.ok xs)=.nx (JBW is xs δ):=rfl
theorem JPK{d:D}:ret1 (.ok d)=.rt d:=rfl
theorem JMR{c:Nat}:ret1 (.exc c)=.ex c:=rfl
theorem JL6{a b:S}:ifs1 C a b δ (.ok true)=exec C a δ:=rfl
theorem JLF{a b:S}:ifs1 C a b δ (.ok false)=exec C b δ:=rfl
theorem JL4{a b:S}{c:Nat}:ifs1 C a b δ (.exc c)=.ex c:=rfl
theorem JR6{i:Nat}{e:E}:app1 i e δ (.ok x) (some (.own (.list ds)))=JAk i ds e x δ:=rfl
theorem JQg{i:Nat}{e:E}:ext1 i e δ (.ok x) (some (.own (.list ds)))=JBZ i ds e x δ:=rfl
theorem JLX{e:E}:JNC e δ (.ok x)=.nx (after e x δ):=rfl
theorem JQ3{i:Nat}{e:E}{b:S}:for1 C i e b δ (.ok xs)=for2 C i b xs (JA5 e 0 δ):=rfl
theorem JGJ{C:Cn}{i:Nat}{b:S}{ds:List D}{δ:Env}:forN C i b ds (.nx δ)=for2 C i b ds δ:=rfl
theorem JME{i:Nat}{b:S}:forN C i b ds (.ct δ)=for2 C i b ds δ:=rfl
theorem JMI{i:Nat}{b:S}:forN C i b ds (.bk δ)=.nx δ:=rfl
theorem JKv{i:Nat}{b:S}{d:D}:forN C i b ds (.rt d)=.rt d:=rfl
theorem JLf{i:Nat}{b:S}{c:Nat}:forN C i b ds (.ex c)=.ex c:=rfl
theorem JLm{x:Bool}:JHb x (.nx δ)=.ok .none:=rfl
theorem JMJ{x:Bool}{d:D}:JHb x (.rt d)=.ok d:=rfl
theorem JLT{c:Nat}:JHb true (.ex c)=.exc c:=rfl
theorem JLW{e:E}:JKa C e δ (.ok true)=opt1 true (ev C e δ):=rfl
theorem JIQ{e:E}:JKa C e δ (.ok false)=.ok none:=rfl
theorem JO2{b:Bool}:opt1 b (.ok y)=.ok (some y):=rfl
theorem JIe{f c:Nat}:JJL C f (.exc c)=.exc c:=rfl
theorem JIh{c:Nat}:JKL (.exc c) r=.exc c:=rfl
theorem JFx{c:Nat}:JKL (.ok x) (.exc c)=.exc c:=rfl
theorem JPk:bltD .len [.list xs]=.ok (.int xs.length):=rfl
theorem JLw:bltD .len [.tuple xs]=.ok (.int xs.length):=rfl
theorem JQJ{i:Int}:bltD .abs [.int i]=.ok (.int (if i<0 then -i else i)):=rfl
theorem JD6{i j:Nat}:(E.var i).uses j=(i==j):=rfl
theorem JDm{j:Nat}:E.nil.uses j=false:=rfl
theorem JCh{a r:E}{j:Nat}:(E.cons a r).uses j=(a.uses j || r.uses j):=rfl
theorem JPH{j:Nat}:(E.lst a).uses j=a.uses j:=rfl
theorem JPJ{j:Nat}:(E.tup a).uses j=a.uses j:=rfl
theorem JQE{j:Nat}:(E.isi a t).uses j=a.uses j:=rfl
theorem JEE{a:E}{f:Nat}{j:Nat}:(E.call f a).uses j=a.uses j:=rfl
theorem JHJ{j:Nat}:(E.blt f a).uses j=a.uses j:=rfl
theorem JL8{a b:E}{j:Nat}:(E.idx a b).uses j=(a.uses j || b.uses j):=rfl
theorem JRm{a b:E}{o:Operator}{j:Nat}:(E.bin o a b).uses j=(a.uses j || b.uses j):=rfl
theorem JNO{k:Nat}{a b c:E}{j:Nat}:(E.cmpr k a b c).uses j=(b.uses j || a.uses (j+(if k=0 then 1 else k)) || c.uses (j+(if k=0 then 1 else k))):=rfl
theorem JF9{i:Int}{j:Nat}:(E.cint i).uses j=false:=rfl
theorem us_bl{i:Bool}{j:Nat}:(E.cbl i).uses j=false:=rfl
theorem JPL{j:Nat}:(E.cstr i).uses j=false:=rfl
end VI.VP
end
local macro_rules | `(tactic| dsimp![$ts,*])=>`(tactic| simp only[VI.VP.v_var,VI.VP.JRi,VI.VP.v_bl,VI.VP.JPm,VI.VP.JPf,VI.VP.JRj,VI.VP.JO7,VI.VP.v_not,VI.VP.v_and,VI.VP.v_or,VI.VP.JQs,VI.VP.JQT,VI.VP.JPd,VI.VP.JOt,VI.VP.JRB,VI.VP.JLD,VI.VP.JQS,VI.VP.JRR,
 VI.VP.v_count,VI.VP.JIq,VI.VP.JLn,VI.VP.JPx,VI.VP.JOv,VI.VP.JO5,VI.VP.JRS,VI.VP.JGi,VI.VP.JQt,VI.VP.JQV,VI.VP.JLb,VI.VP.JRK,VI.VP.JSC,VI.VP.k_tt,VI.VP.k_tl,VI.VP.k_lt,VI.VP.k_ll,VI.VP.JL7,VI.VP.JHc,VI.VP.JJQ,VI.VP.JQ9,VI.VP.t_or,VI.VP.t_bl,VI.VP.JR2,VI.VP.JKM,VI.VP.JJh,VI.VP.JMC,VI.VP.JQu,VI.VP.JRa,VI.VP.JQC,VI.VP.l_idx,VI.VP.JLe,
 VI.VP.JPE,VI.VP.JLN,VI.VP.JQy,VI.VP.JOq,VI.VP.JPo,VI.VP.JQj,VI.VP.JRA,VI.VP.JPU,VI.VP.JL0,VI.VP.JMB,VI.VP.JO4,VI.VP.JF7,
 VI.VP.JHP,VI.VP.JMF,VI.VP.JR0,VI.VP.JOy,VI.VP.JSK,VI.VP.JLE,VI.VP.JK6,VI.VP.JRI,VI.VP.JQQ,VI.VP.JOz,VI.VP.JRu,VI.VP.JQz,VI.VP.JLx,VI.VP.JLZ,VI.VP.JPC,VI.VP.JR8,VI.VP.JQA,VI.VP.JLC,VI.VP.JRf,VI.VP.JQq,VI.VP.JI0,VI.VP.JH8,VI.VP.JR7,VI.VP.JKw,VI.VP.JHR,VI.VP.JII,VI.VP.JLR,VI.VP.JLA,VI.VP.JSA,VI.VP.JR9,VI.VP.JPb,VI.VP.JLr,VI.VP.JKz,VI.VP.JLO,VI.VP.JLU,VI.VP.JLo,VI.VP.JRx,VI.VP.JLi,VI.VP.JPK,VI.VP.JMR,VI.VP.JL6,VI.VP.JLF,VI.VP.JL4,VI.VP.JR6,VI.VP.JQg,VI.VP.JLX,VI.VP.JQ3,VI.VP.JGJ,VI.VP.JME,VI.VP.JMI,VI.VP.JKv,VI.VP.JLf,VI.VP.JLm,VI.VP.JMJ,VI.VP.JLT,VI.VP.JLW,VI.VP.JIQ,VI.VP.JO2,VI.VP.JIe,VI.VP.JIh,VI.VP.JFx,VI.VP.JPk,VI.VP.JLw,VI.VP.JQJ,VI.VP.JP4,VI.VP.JHz,
 VI.VP.look_zero,VI.VP.look_succ,VI.VP.get_val,VI.VP.get_own,VI.VP.JFF,VI.VP.JFP,List.map_cons,List.map_nil,List.cons_append,List.nil_append,
 List.replicate_succ,List.replicate_zero,Nat.reduceSub,List.set_cons_zero,List.set_cons_succ,VI.E.fresh,VI.VP.JGD,VI.VP.JCA,VI.VP.JDw,VI.VP.JB3,Bool.false_and,q_v,eq_self,if_true,if_false,VI.VP.i_ne,VI.VP.i_eq,VI.VP.i_lt,VI.VP.i_gt,VI.VP.i_le,VI.VP.i_ge,VI.VP.F_eq,VI.VP.JLP,VI.VP.JLL,VI.VP.JNM,VI.VP.JRT,$ts,*])
section
namespace VI.VP
noncomputable def b_0:S:=(.cons (.asg 2 (.blt .abs (.cons (.var 0) .nil))) (.cons (.asg 3 (.blt .abs (.cons (.var 1) .nil))) (.cons (.whl (.cmp .NotEq (.var 3) (.cint 0)) (.cons (.asg 4 (.bin .Mod (.var 2) (.var 3))) (.cons (.asg 2 (.var 3)) (.cons (.asg 3 (.var 4)) .nil)))) (.cons (.ret (.var 2)) .nil))))
noncomputable def d_0:Fd:=⟨2,5,b_0⟩
noncomputable def b_1:S:=(.cons (.ife (.cmp .Eq (.var 1) (.cint 0)) (.cons (.rais 1) .nil) .nil) (.cons (.asg 2 (.call 0 (.cons (.var 0) (.cons (.var 1) .nil)))) (.cons (.ife (.cmp .Lt (.var 1) (.cint 0)) (.cons (.asg 2 (.neg (.var 2))) .nil) .nil) (.cons (.ret (.tup (.cons (.bin .FloorDiv (.var 0) (.var 2)) (.cons (.bin .FloorDiv (.var 1) (.var 2)) .nil)))) .nil))))
noncomputable def d_1:Fd:=⟨2,3,b_1⟩
noncomputable def b_2:S:=(.cons (.ret (.tup (.cons (.var 0) (.cons (.cint 1) .nil)))) .nil)
noncomputable def d_2:Fd:=⟨1,1,b_2⟩
noncomputable def b_3:S:=(.cons (.ret (.call 1 (.cons (.bin .Add (.bin .Mult (.idx (.var 0) (.cint 0)) (.idx (.var 1) (.cint 1))) (.bin .Mult (.idx (.var 1) (.cint 0)) (.idx (.var 0) (.cint 1)))) (.cons (.bin .Mult (.idx (.var 0) (.cint 1)) (.idx (.var 1) (.cint 1))) .nil)))) .nil)
noncomputable def d_3:Fd:=⟨2,2,b_3⟩
noncomputable def b_4:S:=(.cons (.ret (.call 1 (.cons (.bin .Sub (.bin .Mult (.idx (.var 0) (.cint 0)) (.idx (.var 1) (.cint 1))) (.bin .Mult (.idx (.var 1) (.cint 0)) (.idx (.var 0) (.cint 1)))) (.cons (.bin .Mult (.idx (.var 0) (.cint 1)) (.idx (.var 1) (.cint 1))) .nil)))) .nil)
noncomputable def d_4:Fd:=⟨2,2,b_4⟩
noncomputable def b_5:S:=(.cons (.ret (.call 1 (.cons (.bin .Mult (.idx (.var 0) (.cint 0)) (.idx (.var 1) (.cint 0))) (.cons (.bin .Mult (.idx (.var 0) (.cint 1)) (.idx (.var 1) (.cint 1))) .nil)))) .nil)
noncomputable def d_5:Fd:=⟨2,2,b_5⟩
noncomputable def b_6:S:=(.cons (.ret (.cmp .Lt (.bin .Mult (.idx (.var 0) (.cint 0)) (.idx (.var 1) (.cint 1))) (.bin .Mult (.idx (.var 1) (.cint 0)) (.idx (.var 0) (.cint 1))))) .nil)
noncomputable def d_6:Fd:=⟨2,2,b_6⟩
noncomputable def b_7:S:=(.cons (.asg 1 (.idx (.var 0) (.cint 0))) (.cons (.for1 2 (.var 0) (.cons (.ife (.call 6 (.cons (.var 2) (.cons (.var 1) .nil))) (.cons (.asg 1 (.var 2)) .nil) .nil) .nil)) (.cons (.ret (.var 1)) .nil)))
noncomputable def d_7:Fd:=⟨1,3,b_7⟩
noncomputable def b_8:S:=(.cons (.asg 1 (.idx (.var 0) (.cint 0))) (.cons (.for1 2 (.var 0) (.cons (.ife (.call 6 (.cons (.var 1) (.cons (.var 2) .nil))) (.cons (.asg 1 (.var 2)) .nil) .nil) .nil)) (.cons (.ret (.var 1)) .nil)))
noncomputable def d_8:Fd:=⟨1,3,b_8⟩
noncomputable def b_9:S:=(.cons (.ret (.bin .FloorDiv (.bin .Add (.bin .Mult (.cint 2) (.idx (.var 0) (.cint 0))) (.idx (.var 0) (.cint 1))) (.bin .Mult (.cint 2) (.idx (.var 0) (.cint 1))))) .nil)
noncomputable def d_9:Fd:=⟨1,1,b_9⟩
noncomputable def b_10:S:=(.cons (.ret (.call 3 (.cons (.var 0) (.cons (.call 5 (.cons (.var 2) (.cons (.call 4 (.cons (.var 1) (.cons (.var 0) .nil))) .nil))) .nil)))) .nil)
noncomputable def d_10:Fd:=⟨3,3,b_10⟩
noncomputable def b_11:S:=(.cons (.ife (.cmp .Lt (.var 1) (.blt .len (.cons (.var 0) .nil))) (.cons (.ret (.idx (.var 0) (.var 1))) .nil) .nil) (.cons (.ife (.cmp .Eq (.var 0) (.lst .nil)) (.cons (.ret (.cint 0)) .nil) .nil) (.cons (.ret (.bin .Add (.bin .Mult (.idx (.var 0) (.bin .Mod (.var 1) (.blt .len (.cons (.var 0) .nil)))) (.cint 31)) (.var 1))) .nil)))
noncomputable def d_11:Fd:=⟨2,2,b_11⟩
noncomputable def b_12:S:=(.cons (.asg 3 (.bin .Mod (.bin .Mult (.bin .Add (.call 11 (.cons (.var 0) (.cons (.var 1) .nil))) (.bin .Mult (.cint 6151) (.bin .Add (.var 1) (.cint 1)))) (.cint 40692)) (.cint 2147483399))) (.cons (.ret (.bin .Mod (.bin .Mod (.bin .Add (.bin .Mult (.var 3) (.var 3)) (.bin .FloorDiv (.var 3) (.cint 31))) (.cint 2147483629)) (.var 2))) .nil))
noncomputable def d_12:Fd:=⟨3,4,b_12⟩
noncomputable def b_13:S:=(.cons (.whl (.cmp .NotEq (.var 1) (.cint 0)) (.cons (.unp [0,1] (.tup (.cons (.var 1) (.cons (.bin .Mod (.var 0) (.var 1)) .nil)))) .nil)) (.cons (.ret (.blt .abs (.cons (.var 0) .nil))) .nil))
noncomputable def d_13:Fd:=⟨2,2,b_13⟩
noncomputable def b_14:S:=(.cons (.asg 2 (.bin .Mult (.call 13 (.cons (.var 0) (.cons (.var 1) .nil))) (.ife (.cmp .Gt (.var 1) (.cint 0)) (.cint 1) (.neg (.cint 1))))) (.cons (.ret (.tup (.cons (.bin .FloorDiv (.var 0) (.var 2)) (.cons (.bin .FloorDiv (.var 1) (.var 2)) .nil)))) .nil))
noncomputable def d_14:Fd:=⟨2,3,b_14⟩
noncomputable def b_15:S:=(.cons (.asg 2 (.bin .Add (.cint 1) (.call 12 (.cons (.var 0) (.cons (.var 1) (.cons (.cint 4) .nil)))))) (.cons (.ret (.call 14 (.cons (.bin .Sub (.call 12 (.cons (.var 0) (.cons (.bin .Add (.var 1) (.cint 1)) (.cons (.bin .Add (.bin .Mult (.cint 12) (.var 2)) (.cint 1)) .nil)))) (.bin .Mult (.cint 6) (.var 2))) (.cons (.var 2) .nil)))) .nil))
noncomputable def d_15:Fd:=⟨2,3,b_15⟩
noncomputable def b_16:S:=(.cons (.asg 2 (.bin .Add (.cint 1) (.call 12 (.cons (.var 0) (.cons (.var 1) (.cons (.cint 3) .nil)))))) (.cons (.ret (.call 14 (.cons (.bin .Add (.cint 1) (.call 12 (.cons (.var 0) (.cons (.bin .Add (.var 1) (.cint 1)) (.cons (.bin .Mult (.cint 6) (.var 2)) .nil))))) (.cons (.var 2) .nil)))) .nil))
noncomputable def d_16:Fd:=⟨2,3,b_16⟩
noncomputable def b_17:S:=(.cons (.ret (.call 14 (.cons (.bin .Add (.bin .Mult (.idx (.var 0) (.cint 0)) (.idx (.var 1) (.cint 1))) (.bin .Mult (.idx (.var 1) (.cint 0)) (.idx (.var 0) (.cint 1)))) (.cons (.bin .Mult (.idx (.var 0) (.cint 1)) (.idx (.var 1) (.cint 1))) .nil)))) .nil)
noncomputable def d_17:Fd:=⟨2,2,b_17⟩
noncomputable def b_18:S:=(.cons (.ret (.call 14 (.cons (.bin .Sub (.bin .Mult (.idx (.var 0) (.cint 0)) (.idx (.var 1) (.cint 1))) (.bin .Mult (.idx (.var 1) (.cint 0)) (.idx (.var 0) (.cint 1)))) (.cons (.bin .Mult (.idx (.var 0) (.cint 1)) (.idx (.var 1) (.cint 1))) .nil)))) .nil)
noncomputable def d_18:Fd:=⟨2,2,b_18⟩
noncomputable def b_19:S:=(.cons (.ret (.call 14 (.cons (.bin .Mult (.idx (.var 0) (.cint 0)) (.idx (.var 1) (.cint 0))) (.cons (.bin .Mult (.idx (.var 0) (.cint 1)) (.idx (.var 1) (.cint 1))) .nil)))) .nil)
noncomputable def d_19:Fd:=⟨2,2,b_19⟩
noncomputable def b_20:S:=(.cons (.ret (.call 14 (.cons (.bin .Mult (.idx (.var 0) (.cint 0)) (.idx (.var 1) (.cint 1))) (.cons (.bin .Mult (.idx (.var 0) (.cint 1)) (.idx (.var 1) (.cint 0))) .nil)))) .nil)
noncomputable def d_20:Fd:=⟨2,2,b_20⟩
noncomputable def b_21:S:=(.cons (.ret (.cmp .Lt (.bin .Mult (.idx (.var 0) (.cint 0)) (.idx (.var 1) (.cint 1))) (.bin .Mult (.idx (.var 1) (.cint 0)) (.idx (.var 0) (.cint 1))))) .nil)
noncomputable def d_21:Fd:=⟨2,2,b_21⟩
end VI.VP
end
section
namespace VI.VP
open PySem Fr
structure TabF(tab:Nat->Option Fd):Prop where
 h0:tab 0=some d_0
 h1:tab 1=some d_1
 h2:tab 2=some d_2
 h3:tab 3=some d_3
 h4:tab 4=some d_4
 h5:tab 5=some d_5
 h6:tab 6=some d_6
section
variable{x:Bool}{tab:Nat->Option Fd}{glo:Nat->R D}{sub:Nat->Nat->Bool}{n:Nat}
theorem JKN(one other:D):∀(m:Nat) (a b:Int) (z:Sl),z.isOwn=false->0<=a->0<=b->b.natAbs=m->∃z',whl1 C (.cmp .NotEq (.var 3) (.cint 0)) (.cons (.asg 4 (.bin .Mod (.var 2) (.var 3))) (.cons (.asg 2 (.var 3)) (.cons (.asg 3 (.var 4)) .nil)))
  [.val one,.val other,.val (.int a),.val (.int b),z]=.nx [.val one,.val other,.val (.int (a.gcd b)),.val (.int 0),z']:=by
 intro m
 induction m using Nat.strongRecOn with
 |ind m ih =>
  intro a b z hz ha hb hm
  by_cases h0:b=0
  ·subst h0;refine⟨z,?_⟩;have e:((a.gcd 0:Nat):Int)=a:=by simp;omega
   rw[e];exact JC5 (by dsimp![];simp)
  ·have hf:=JIi a b h0;obtain⟨z',h⟩:=ih (a.fmod b).natAbs (by omega) b (a.fmod b) (.val (.int (a.fmod b))) rfl hb (Int.fmod_nonneg_of_pos a (by omega)) rfl
   refine⟨z',?_⟩;rw[JGS]at h;rw[<-h];refine JDN (by dsimp![];simp[h0]) ?_
   cases z with
   |own d=>cases hz
   |no=>dsimp![JFC h0]
   |val d=>dsimp![JFC h0]
theorem JN4(a b:Int):((if a<0 then -a else a).gcd (if b<0 then -b else b))=a.gcd b:=by
 split<;>split<;>simp
theorem JKj(T:TabF tab)(a b:Int):run x tab glo sub (n+1) 0 [.int a,.int b]=.ok (.int (a.gcd b)):=by
 rw[JAA T.h0,JAB rfl];obtain⟨z',h⟩:=JKN (C:=⟨run x tab glo sub n,glo,sub⟩) (.int a) (.int b) _ (if a<0 then -a else a) (if b<0 then -b else b) .no rfl (by split<;>omega) (by split<;>omega) rfl
 rw[JN4]at h
 dsimp![d_0,b_0,h]
theorem JDU(T:TabF tab)(a b:Int)(hb:b≠0)(lb:L b):run x tab glo sub (n+2) 1 [.int a,.int b]=.ok (F (Rat.divInt a b)):=by
 rw[JAA T.h1,JAB rfl];have hg:a.gcd b≠0:=by
  intro z;exact hb (Int.gcd_eq_zero_iff.mp z).2
 have lg:(a.gcd b)<=b.natAbs:=Int.gcd_le_natAbs_right _ hb;unfold L at lb;have q1:=JC2 a b hb;have q2:=JET a b hb
 by_cases h:b<0
 ·rw[if_pos h]at q1 q2
  dsimp![d_1,b_1,JKj T,hb,h,decide_true,decide_false,JI3 (j:=-((a.gcd b:Nat):Int)) (by omega) (by unfold L;omega),q1,q2,F]
 ·rw[if_neg h]at q1 q2
  dsimp![d_1,b_1,JKj T,hb,h,decide_true,decide_false,JI3 (j:=((a.gcd b:Nat):Int)) (by omega) (by unfold L;omega),q1,q2,F]
theorem JMc(T:TabF tab){p q:Rat}(hp:Q p)(hq:Q q):run x tab glo sub (n+3) 3 [F p,F q]=.ok (F (p+q)):=by
 rw[JAA T.h3,JAB rfl]
 dsimp![d_3,b_3,JCm (hp.Ln (by omega)) (hq.Ld (by omega)),JCm (hq.Ln (by omega)) (hp.Ld (by omega)),JCm (hp.Ld (by omega)) (hq.Ld (by omega)),
  JDU T _ _ (Int.mul_ne_zero (JAu p) (JAu q)) (L.of (JAt hp.d hq.d) (by omega)),JL1]
theorem JEH(T:TabF tab){p q:Rat}(hp:Q p)(hq:Q q):run x tab glo sub (n+3) 4 [F p,F q]=.ok (F (p - q)):=by
 rw[JAA T.h4,JAB rfl]
 dsimp![d_4,b_4,JCm (hp.Ln (by omega)) (hq.Ld (by omega)),JCm (hq.Ln (by omega)) (hp.Ld (by omega)),JCm (hp.Ld (by omega)) (hq.Ld (by omega)),
  JDU T _ _ (Int.mul_ne_zero (JAu p) (JAu q)) (L.of (JAt hp.d hq.d) (by omega)),JK2]
theorem JC3(T:TabF tab){p q:Rat}(hp:Q p)(hq:Q q):run x tab glo sub (n+3) 5 [F p,F q]=.ok (F (p*q)):=by
 rw[JAA T.h5,JAB rfl]
 dsimp![d_5,b_5,JCm (hp.Ln (by omega)) (hq.Ln (by omega)),JCm (hp.Ld (by omega)) (hq.Ld (by omega)),
  JDU T _ _ (Int.mul_ne_zero (JAu p) (JAu q)) (L.of (JAt hp.d hq.d) (by omega)),JLJ]
theorem lt_iff(p q:Rat):p.num*q.den<q.num*p.den↔p<q:=(Rat.lt_iff p q).symm
theorem JC6(T:TabF tab){p q:Rat}(hp:Q p)(hq:Q q):run x tab glo sub (n+1) 6 [F p,F q]=.ok (.bool (decide (p<q))):=by
 rw[JAA T.h6,JAB rfl]
 dsimp![d_6,b_6,JCm (hp.Ln (by omega)) (hq.Ld (by omega)),JCm (hq.Ln (by omega)) (hp.Ld (by omega)),lt_iff]
theorem JD9(T:TabF tab)(i:Int):run x tab glo sub (n+1) 2 [.int i]=.ok (.tuple [.int i,.int 1]):=by
 rw[JAA T.h2,JAB rfl]
 dsimp![d_2,b_2]
structure TabL(tab:Nat->Option Fd):Prop where
 h11:tab 11=some d_11
 h12:tab 12=some d_12
 h13:tab 13=some d_13
 h14:tab 14=some d_14
 h15:tab 15=some d_15
 h16:tab 16=some d_16
 h17:tab 17=some d_17
 h18:tab 18=some d_18
 h19:tab 19=some d_19
 h20:tab 20=some d_20
 h21:tab 21=some d_21
theorem JKJ:∀(m:Nat) (a b:Int),b.natAbs=m->∃g:Int,g.natAbs=a.gcd b/\whl1 C (.cmp .NotEq (.var 1) (.cint 0)) (.cons (.unp [0,1] (.tup (.cons (.var 1) (.cons (.bin .Mod (.var 0) (.var 1)) .nil)))) .nil) [.val (.int a),.val (.int b)]=.nx [.val (.int g),.val (.int 0)]:=by
 intro m
 induction m using Nat.strongRecOn with
 |ind m ih =>
  intro a b hm
  by_cases h0:b=0
  ·subst h0;exact⟨a,by simp,JC5 (by dsimp![];simp)⟩
  ·have hf:=JIi a b h0;obtain⟨g,h1,h2⟩:=ih (a.fmod b).natAbs (by omega) b (a.fmod b) rfl
   refine⟨g,by rw[h1,JGS],?_⟩
   rw[<-h2];refine JDN (by dsimp![];simp[h0]) ?_
   dsimp![JFC h0,JAq,JBW,List.length_cons,List.length_nil]
theorem JDg(T:TabL tab)(a b:Int):run x tab glo sub (n+1) 13 [.int a,.int b]=.ok (.int (a.gcd b)):=by
 rw[JAA T.h13,JAB rfl];obtain⟨g,h1,h2⟩:=JKJ (C:=⟨run x tab glo sub n,glo,sub⟩) _ a b rfl
 dsimp![d_13,b_13,h2]
 congr 2
 split<;>omega
theorem JIJ(T:TabL tab)(a b:Int)(hb:b≠0)(lb:L b):run x tab glo sub (n+2) 14 [.int a,.int b]=.ok (F (Rat.divInt a b)):=by
 rw[JAA T.h14,JAB rfl];have hg:a.gcd b≠0:=by
  intro z;exact hb (Int.gcd_eq_zero_iff.mp z).2
 have lg:(a.gcd b)<=b.natAbs:=Int.gcd_le_natAbs_right _ hb;unfold L at lb;have q1:=JC2 a b hb;have q2:=JET a b hb
 by_cases h:b<0
 ·rw[if_pos h]at q1 q2;have h':¬0<b:=by omega
  dsimp![d_14,b_14,JDg T,h',decide_true,decide_false,JGG (i:=((a.gcd b:Nat):Int)) (j:=-1) (by decide),Int.mul_neg_one,JI3 (j:=-((a.gcd b:Nat):Int)) (by omega) (by unfold L;omega),q1,q2,F]
 ·rw[if_neg h]at q1 q2;have h':0<b:=by omega
  dsimp![d_14,b_14,JDg T,h',decide_true,decide_false,JGG (i:=((a.gcd b:Nat):Int)) (j:=1) (by decide),Int.mul_one,JI3 (j:=((a.gcd b:Nat):Int)) (by omega) (by unfold L;omega),q1,q2,F]
abbrev sc(ns:List Int):D:=.list (ns.map λi=>.int i)
theorem JEq(ns:List Int):shaped (sc ns)=true:=by
 have h1:∀ns:List Int,PyData.canLayAll0 (ns.map λi=>PyData.int i)=true:=λns=>by
  induction ns with
  |nil=>rfl
  |cons a r ih=>simp only[List.map_cons,PyData.canLayAll0,PyData.canLay0,ih,Bool.and_self]
 have h2:∀ns:List Int,PyData.depthAll (ns.map λi=>PyData.int i)=0:=λns=>by
  induction ns with
  |nil=>rfl
  |cons a r ih=>simp only[List.map_cons,PyData.depthAll,PyData.depth,ih];rfl
 simp only[shaped,PyData.canLay0,h1,PyData.depth,h2];decide
theorem JFL(ns:List Int):cmpD .Eq (sc ns) (.list [])=.ok (.bool ns.isEmpty):=by
 have:shaped (.list [])=true:=JEq [];simp only[cmpD,JEq,this,Bool.and_self,if_true];cases ns<;>simp[PyData.eqv,PyData.eqvAll]
theorem JLV(ns:List Int)(k:Int)(h0:0<=k)(h1:k<ns.length):∃i,idxD (sc ns) (.int k)=.ok (.int i):=by
 refine⟨ns[k.toNat]'(by omega),?_⟩
 simp only[sc,idxD,atI,ixN,q_g,if_pos h0,if_pos h1,Option.bind_some];rw[List.getElem?_map,q_q (by omega)]
 rfl
theorem JOR(T:TabL tab)(ns:List Int)(k:Int)(hk:0<=k):∃i,run x tab glo sub (n+1) 11 [sc ns,.int k]=.ok (.int i):=by
 rw[JAA T.h11,JAB rfl]
 by_cases h:k<ns.length
 ·obtain⟨i,hi⟩:=JLV ns k hk h;refine⟨i,?_⟩
  dsimp![d_11,b_11,q_g,h,decide_true,hi]
 ·have hd:decide (k<(ns.length:Int))=false:=q_o h
  by_cases hn:ns=[]
  ·refine⟨0,?_⟩;have e:cmpD .Eq (sc ns) (.list [])=.ok (.bool true):=by rw[JFL,hn];rfl
   dsimp![d_11,b_11,q_g,hd,e]
  ·have hl:0<(ns.length:Int):=by
    have:=List.length_pos_iff.mpr hn;omega
   obtain⟨i,hi⟩:=JLV ns (k.fmod ns.length) (Int.fmod_nonneg_of_pos k hl) (Int.fmod_lt_of_pos k hl);refine⟨i*31+k,?_⟩;have e:cmpD .Eq (sc ns) (.list [])=.ok (.bool false):=by rw[JFL];cases ns<;>simp at hn ⊢
   dsimp![d_11,b_11,q_g,hd,e,JFC (i:=k) (j:=(ns.length:Int)) (by omega),hi,JGG (i:=i) (j:=31) (by decide)]
theorem JCc(T:TabL tab)(ns:List Int)(k m:Int)(hk:0<=k)(hk2:k<2000000)(hm:0<m):∃i,0<=i/\i<m/\run x tab glo sub (n+2) 12 [sc ns,.int k,.int m]=.ok (.int i):=by
 rw[JAA T.h12,JAB rfl];obtain⟨c,hc⟩:=JOR (x:=x) (glo:=glo) (sub:=sub) (n:=n) T ns k hk;obtain⟨d,hd⟩:∃d,d=((c+6151*(k+1))*40692).fmod 2147483399:=⟨_,rfl⟩;have hd0:0<=d:=by rw[hd];exact Int.fmod_nonneg_of_pos _ (by decide)
 have hd1:d<2147483399:=by rw[hd];exact Int.fmod_lt_of_pos _ (by decide)
 have hm1:binD .Mod (.int ((c+6151*(k+1))*40692)) (.int 2147483399)=.ok (.int d):=by rw[JFC (by decide),hd]
 refine⟨((d*d+d.fdiv 31).fmod 2147483629).fmod m,Int.fmod_nonneg_of_pos _ hm,Int.fmod_lt_of_pos _ hm,?_⟩
 dsimp![d_12,b_12,hc,JDj (i:=6151) (j:=k+1) (by decide),JGG (i:=c+6151*(k+1)) (j:=40692) (by decide),hm1,JDj (i:=d) (j:=d) (by omega),JI3 (i:=d) (j:=31) (by decide) (L.of (k:=10) (by decide) (by omega)),
  JFC (j:=2147483629) (by decide),JFC (j:=m) (show m≠0 by omega)]
structure Small(q:Rat):Prop where
 n:q.num.natAbs<=24
 d:q.den<=4
 w:q.num.natAbs<=6*q.den
theorem Small.sz{q:Rat}(h:Small q):Sz 5 q:=⟨by have:=h.n;omega,by have:=h.d;omega⟩
theorem Small.Q{q:Rat}(h:Small q):Q q:=h.sz.mono (by omega)
theorem JCr(a b:Int)(hb:0<b):∃g:Int,0<g/\a=(Rat.divInt a b).num*g/\b=((Rat.divInt a b).den:Int)*g:=by
 have hg:a.gcd b≠0:=by
  intro z;have:=(Int.gcd_eq_zero_iff.mp z).2;omega
 have q1:=JC2 a b (by omega)
 have q2:=JET a b (by omega)
 rw[if_neg (by omega)]at q1 q2
 refine⟨((a.gcd b:Nat):Int),by omega,?_,?_⟩
 ·rw[<-q1,JBj (Int.gcd_dvd_left ..),Int.ediv_mul_cancel (Int.gcd_dvd_left ..)]
 ·rw[<-q2,JBj (Int.gcd_dvd_right ..),Int.ediv_mul_cancel (Int.gcd_dvd_right ..)]
theorem JFH(a b m:Int)(hb:0<b)(h1:-(m*b)<=a)(h2:a<=m*b):-(m*(Rat.divInt a b).den)<=(Rat.divInt a b).num/\(Rat.divInt a b).num<=m*(Rat.divInt a b).den:=by
 obtain⟨g,hg,e1,e2⟩:=JCr a b hb;generalize (Rat.divInt a b).num=u at *;generalize ((Rat.divInt a b).den:Int)=d at *;subst e1;subst e2;rw[<-Int.mul_assoc]at h1 h2;constructor
 ·rw[<-Int.neg_mul]at h1;exact Int.le_of_mul_le_mul_right h1 hg
 ·exact Int.le_of_mul_le_mul_right h2 hg
theorem JJZ(T:TabL tab)(ns:List Int)(k:Int)(hk:0<=k)(hk2:k<1000000):∃q,Small q/\run x tab glo sub (n+3) 15 [sc ns,.int k]=.ok (F q):=by
 rw[JAA T.h15,JAB rfl];obtain⟨i,i0,i1,hi⟩:=JCc (x:=x) (glo:=glo) (sub:=sub) (n:=n) T ns k 4 hk (by omega) (by decide)
 obtain⟨j,j0,j1,hj⟩:=JCc (x:=x) (glo:=glo) (sub:=sub) (n:=n) T ns (k+1) (12*(1+i)+1) (by omega) (by omega) (by omega)
 refine⟨Rat.divInt (j - 6*(1+i)) (1+i),?_,?_⟩
 ·have h1:=JFH (j - 6*(1+i)) (1+i) 6 (by omega) (by omega) (by omega)
  have h2:=JH3 (j - 6*(1+i)) (1+i) (by omega)
  have h3:=JGW (j - 6*(1+i)) (1+i) (by omega)
  exact⟨by omega,by omega,by omega⟩
 ·dsimp![d_15,b_15,hi,JDj (i:=12) (j:=1+i) (by decide),JDj (i:=6) (j:=1+i) (by decide),hj,JIJ T (j - 6*(1+i)) (1+i) (by omega) (L.of (k:=10) (by omega) (by omega))]
theorem JJM(T:TabL tab)(ns:List Int)(k:Int)(hk:0<=k)(hk2:k<1000000):∃q,Small q/\0<q/\q.den<=3/\run x tab glo sub (n+3) 16 [sc ns,.int k]=.ok (F q):=by
 rw[JAA T.h16,JAB rfl];obtain⟨i,i0,i1,hi⟩:=JCc (x:=x) (glo:=glo) (sub:=sub) (n:=n) T ns k 3 hk (by omega) (by decide)
 obtain⟨j,j0,j1,hj⟩:=JCc (x:=x) (glo:=glo) (sub:=sub) (n:=n) T ns (k+1) (6*(1+i)) (by omega) (by omega) (by omega)
 refine⟨Rat.divInt (1+j) (1+i),?_,?_,by have h3:=JGW (1+j) (1+i) (by omega);omega,?_⟩
 ·have h1:=JFH (1+j) (1+i) 6 (by omega) (by omega) (by omega)
  have h2:=JH3 (1+j) (1+i) (by omega)
  have h3:=JGW (1+j) (1+i) (by omega)
  exact⟨by omega,by omega,by omega⟩
 ·rw[Rat.lt_iff];obtain⟨g,hg,e1,e2⟩:=JCr (1+j) (1+i) (by omega)
  have h:0<(Rat.divInt (1+j) (1+i)).num*g:=by omega
  have h2:=Int.pos_of_mul_pos_left h hg;simpa using h2
 ·dsimp![d_16,b_16,hi,JDj (i:=6) (j:=1+i) (by decide),hj,JIJ T (1+j) (1+i) (by omega) (L.of (k:=10) (by omega) (by omega))]
theorem JKD(T:TabL tab)(ns:List Int)(k:Int)(hk:0<=k)(hk2:k<1000000):∃q,Small q/\0<q/\run x tab glo sub (n+3) 16 [sc ns,.int k]=.ok (F q):=by
 obtain⟨q,h1,h2,_,h⟩:=JJM (x:=x) (glo:=glo) (sub:=sub) (n:=n) T ns k hk hk2;exact⟨q,h1,h2,h⟩
end
end VI.VP
end
section
namespace VI
open PySem PySem.Spec PyProof.Rows L2
section
variable{P:Program}{w:World}{B:Bs}{mg:Mq}{base:Heap}
noncomputable def JEI(P:Program)(w:World)(B:Bs)(mg:Mq)(base:Heap)(N:List Str)(qual:Str)(sc:Scope)(f:Addr)(cd:Value)(cl:List (Str×Addr))(A:Around)(outer:List PySem.Env)(s:Shared)(H:Hp)(E:XK):Cx where
 prog:=P
 w:=w
 K:=B.K
 mg:=mg
 base:=base
 A:=A.deeper (PySem.W.envX qual sc s.heap.objs.size f cd cl)
 N:=N
 s₀:=s
 H₀:=H
 env:=PySem.W.envX qual sc s.heap.objs.size f cd cl
 outer:=outer
 stack:=PySem.W.envX qual sc s.heap.objs.size f cd cl::outer
 ex:=[]
 calm:=true
 fn:=λ_=>false
 pn:=[]
 xe:=λe s'=>wpAny (model P w) (A.deeper (PySem.W.envX qual sc s.heap.objs.size f cd cl)) (leaving (PySem.W.envX qual sc s.heap.objs.size f cd cl) e) (λ_ s''=>CXV P w B outer H s E e s'') (λe' s''=>CXV P w B outer H s E e' s'') s'
variable{N:List Str}{qual:Str}{sc:Scope}{f:Addr}{cd:Value}{cl:List (Str×Addr)}{A:Around}{outer:List PySem.Env}{s:Shared}{H:Hp}{E:XK}
theorem JNY:JDv (CXV P w B) (JEI P w B mg base N qual sc f cd cl A outer s H E) (EX B (XXd B E)):=by
 intro pins σ H1 s1 e s' I ⟨ea,T,c,H',e1,os,bare,un,hok,tr,⟨f1,f2⟩,⟨f3,f4⟩,⟨c',ec,hE⟩⟩;subst e1;have I':=I.call' (ch:=[]) os un hok bare (λb hb=>by simp at hb)
 obtain⟨oe,vs,a0,oT,ts,q1,q2,q3,q4,q6,q7,q8,q9⟩:=id tr;have fr0:∀b,s1.heap.get? b=none->s.heap.get? b=none:=λb q=>by
  cases z:s.heap.get? b with
  |none=>rfl
  |some o =>
   obtain⟨o',e2⟩:=I.base.there b o z (by simp[JEI])
   rw[q]at e2;cases e2
 have has:∀b∈(ea::T::frs (JEI P w B mg base N qual sc f cd cl A outer s H E).stack),b∈frs (JEI P w B mg base N qual sc f cd cl A outer s H E).stack\/(s.heap.get? b=none/\H' b=none):=λb hb=>by
  rcases q_n.mp hb with rfl|hb
  ·exact .inr ⟨fr0 _ f1,f2⟩
  ·rcases q_n.mp hb with rfl|hb
   ·exact .inr ⟨fr0 _ f3,f4⟩
   ·exact .inl hb
 refine PySem.wpAny_leaves_onW (base:=PySem.W.hideAll s'.heap (ea::T::frs (JEI P w B mg base N qual sc f cd cl A outer s H E).stack)) (outer:=outer) (cls:=.ref (B.cl c)) (a0:=a0) I'.ok.frames rfl
  ⟨λb o q=>PySem.W.of_hideAll _ q,PySem.W.hideAll_none _ (by simp),PySem.W.funFrames_hide I'.stack (λenv he a hf=>q_s _ (q_s _ (List.mem_filterMap.mpr ⟨env,he,hf⟩))),oe,vs,T,oT,ts,q1,q2,q3,q4,PySem.W.hideAll_none _ (by simp),q6,q7,q8,q9⟩ λh2 fl up=>?_
 obtain⟨u2,hok2,T2,tr2,t1,t2⟩:=JGE I' rfl has fl up;refine⟨ea,T2,c,H',rfl,?_,bare,u2,hok2,tr2,⟨fr0 _ f1,f2⟩,⟨t1,t2⟩,?_⟩
 ·exact os.trans I.os
 ·rw[ec];exact hE H' (Same.refl H')
structure LamSc(sc:Scope):Prop where
 kind:sc.kind=.function
 co:sc.isCoroutine=false
 gen:sc.isGenerator=false
 free:∀y∈sc.names,y.2≠.local/\y.2≠.cell
theorem JMj(S:LamSc sc)(hd:A.handled=none)(e0:Env0 P w B.K mg base A outer s H)(hl:σ.length=N.length)
  (hcl:∀x,sc.names.lookup x=some .free->∃c,cl.lookup x=some c) (hin:∀x y c,cl.lookup x=some c->cl.lookup y=some c->x=y)
  (hce:∀x c,cl.lookup x=some c->(∃v,s.heap.IsCell c v)/\H c=none)
  (hval:∀(i:Nat) (x:Str) (v:V),N[i]? = some x->σ[i]? = some (some v)->sc.names.lookup x=some .free->∃u c,RelV v u/\cl.lookup x=some c/\s.heap.IsCell c (some u))
  {h1:Heap}{m:Mq}{tk:Nat}(hns:h1.Ns s.heap.objs.size m) (hk:∀b o,s.heap.get? b=some o->h1.get? b=some o) :
  Inv (JEI P w B mg base N qual sc f cd cl A outer s H E) [] σ H { s with heap:=h1,toks:=tk }:=by
 have noA:∀b:Addr,b ∉ (JEI P w B mg base N qual sc f cd cl A outer s H E).ex:=λb z=>absurd (show b∈([]:List Addr) from z) (by simp)
 have look:∀ {y:Str}{k:NameKind},sc.names.lookup y=some k->k≠.local/\k≠.cell:=λ{y k} h=>S.free _ (PySem.mem_of_lookup h);have cell:∀ {c:Addr}{v:Option Value},s.heap.IsCell c v->h1.IsCell c v:=λ{c v} ⟨o,ho,hd⟩=>⟨o,hk _ _ ho,hd⟩;refine⟨⟨e0.mod,S.kind,rfl,rfl,q_t _,λy z c h1 h2=>hin y z c h1 h2,λy hy=>?_,λy c h _=>(by cases h),λ_=>hd,Around.frames_deeper e0.frames,.inr ⟨rfl,rfl⟩,λb z=>absurd z (noA b),e0.bs,e0.bsz,λb _ _=>noA b,λb z=>absurd z (noA b),e0.funs,e0.frf⟩,
  rfl,e0.bare,Un.kept hk,⟨m,hns,λi y v h1 h2 h3=>?_⟩,λy c h=>?_,e0.hok.fresh (q_t _),λy c h=>(hce y c h).2,λp hp=>absurd (show p∈([]:Pq) from hp) (by simp),e0.hok.kept hk,hl⟩
 ·have hy:sc.names.lookup y=some .cell\/sc.names.lookup y=some .free:=hy;rcases hy with hy|hy
  · exact absurd rfl (look hy).2
  · exact hcl y hy
 ·have h3:Vis sc y:=h3;rcases h3 with h3|h3|h3
  · exact absurd rfl (look h3).1
  · exact absurd rfl (look h3).2
  · obtain⟨u,c,r,e,z⟩:=hval i y v h1 h2 h3
    exact⟨u,r,.inr ⟨.inr h3,c,e,cell z⟩⟩
 ·obtain⟨⟨v,z⟩,_⟩:=hce y c h;exact⟨v,cell z⟩
theorem JJx{G:List (Str×GK)}{C:Cn}{name pm ctv:Value}{params:Arguments}{body:Expr}{c':Addr}{x:VI.E}{σ:St}{δ:Env}{Q:VK}{nm:Str}
  (hroom:A.depth<recursionLimit) (S:LamSc sc) (hd:A.handled=none) (e0:Env0 P w B.K mg base A outer s H) (hl:σ.length=N.length)
  (hcl:∀x,sc.names.lookup x=some .free->∃c,cl.lookup x=some c) (hin:∀x y c,cl.lookup x=some c->cl.lookup y=some c->x=y)
  (hce:∀x c,cl.lookup x=some c->(∃v,s.heap.IsCell c v)/\H c=none)
  (hval:∀(i:Nat) (x:Str) (v:V),N[i]? = some x->σ[i]? = some (some v)->sc.names.lookup x=some .free->∃u c,RelV v u/\cl.lookup x=some c/\s.heap.IsCell c (some u))
  (ho:s.heap.get? f=some (PySem.W.kla_obj nm qual params body sc cl pm c' ctv)) (hcd:s.heap.CodeRec (.ref c') qual)
  (hbind:bindArgs (PySem.W.kla_fn nm qual params body sc cl pm (.ref c') ctv) ⟨[],[]⟩=pure [])
  (hb:PE (JEI P w B mg base N qual sc f (.ref c') cl A outer s H E) body (RE B C (XXd B E) x)) (ok:Sok B σ H δ) (hq:KE B (XXd B E) (ev C x δ) H Q) :
  codeAny (model P w) A (.call (.ref f) ⟨[],[]⟩) (CR (CXV P w B) outer P w H s Q E) s:=by
 have lim:s.heap.NoLimit:=e0.mod.nolimit.keeps λb o e=>(e0.bs b o e).1;refine PySem.W.kla_callFunE hroom ho rfl S.co S.gen rfl hcd ?_;rw[hbind];refine q_e (wpAny_newFunctionEnv (λy hy=>(S.free y hy).2) (by intro y hy;simp at hy) (λh1 hns hsb=>?_) S.kind)
 have hk:∀b o,s.heap.get? b=some o->h1.get? b=some o:=λb o e=>hsb.extBut b o (q_l (q_h e)) (q_c _ e);refine⟨lim.fresh _ hsb,?_⟩;show codeAny _ _ (.expr body (PySem.W.envX qual sc s.heap.objs.size f (.ref c') cl)) _ _;have I:=JMj (P:=P) (w:=w) (B:=B) (mg:=mg) (base:=base) (N:=N) (qual:=qual) (f:=f) (cd:=.ref c') (E:=E) (tk:=s.toks+([]:List (Str×Value)).length) S hd e0 hl hcl hin hce hval hns hk;refine PySem.W.kla_codeExpr (wpAny_mono (hb [] _ σ H Q I ⟨δ,ok,hq⟩) (λu s' ⟨v,H',J,r,q⟩=>?_) λ_ _ z=>z);exact⟨v,H',J.os,J.bare,J.base,J.hok,r,q⟩
end
end VI
end
section
namespace VI
open PySem PySem.Spec PyProof.Rows L2
def TabP(P:Addr)(q:Str)(p0:Array Value)(tp:Pq):Prop:=∃ps:Array Value,(P,PySem.W.tabObj ps)∈tp/\(∃more,ps=p0++more)/\TriplesOk ps.toList /\
 ∀pos v,codeAmong pos ps.toList=some v->∃(c:Addr) (oc:Obj) (vs:Array Value) (t:Tok),v=.ref c/\(c,oc)∈tp/\oc.data=.fields vs/\vs[1]? = some (.str q t)
theorem JI4{a b:Int}(h:TriplesOk l)(e:codeAmong pos (l++[rawInt a,rawInt b,c])=some v):codeAmong pos l=some v\/v=c:=by
 fun_induction TriplesOk l with
 |case1 =>
  simp only[List.nil_append,codeAmong,rawInt]at e
  split at e
  ·cases e;exact .inr rfl
  ·simp at e
 |case2 a' t b' u x rest ih =>
  simp only[List.cons_append,codeAmong]at e ⊢
  split at e
  ·rename_i hc;rw[if_pos hc];exact .inl e
  ·rename_i hc;rw[if_neg hc];exact ih h e
 |case3 l h1 h2=>exact h.elim
section
variable{X:Cx}{pins pins':Pq}{σ:St}{H:Hp}{s:Shared}{P:Addr}{p0:Array Value}{h2:Heap}
theorem JHY(I:Inv X pins σ H s)(hex:P∈X.ex)(hPn:H P=none)(k:∀b o,b≠P->s.heap.get? b=some o->h2.get? b=some o)
  (hp:∀p∈X.pn++pins',h2.get? p.1=some p.2/\H p.1=none/\p.1≠X.env.locals/\p.1 ∉ X.fs/\∀v,p.2.data≠.cell v) (tk:Nat):Inv X pins' σ H { s with heap:=h2,toks:=tk }:=by
 obtain⟨e1,e2⟩:=I.ok.exf P hex;have U:=I.base;obtain⟨m,⟨oL,es,ep,hoL,r⟩,hl⟩:=id I.loc;have cell:∀ {x:Str}{c:Addr}{v:Option Value},X.env.cells.lookup x=some c->s.heap.IsCell c v->h2.IsCell c v:=λ{x c v} e ⟨o,ho,hd⟩=>⟨o,k _ _ (e2 x c e) ho,hd⟩;have nP:∀b,b ∉ X.ex->b≠P:=λb hb z=>hb (z▸hex);refine⟨I.ok,I.os,I.bare,⟨λb o e n hf hx=>k b o (nP b hx) (U.keep b o e n hf hx),λb o e n hf hx=>?_,U.free,λb o e hx=>?_,U.tups,U.frzs,U.tbls⟩,⟨m,⟨oL,es,ep,k _ _ (Ne.symm e1) hoL,r⟩,λi y v h1 h2' h3=>?_⟩,λx c e=>?_,I.free,I.freeC,hp,λa o e=>?_,I.len⟩
 ·obtain⟨sl,q⟩:=U.slot b o e n hf hx;exact⟨sl,k _ _ (nP b hx) q⟩
 ·obtain⟨o',q⟩:=U.there b o e hx;exact⟨o',k _ _ (nP b hx) q⟩
 ·obtain⟨u,ru,q⟩:=hl i y v h1 h2' h3;refine⟨u,ru,?_⟩;rcases q with q|⟨kk,c,e,z⟩
  · exact .inl q
  · exact .inr ⟨kk,c,e,cell e z⟩
 ·obtain⟨v,z⟩:=I.cell x c e;exact⟨v,cell e z⟩
 ·refine(I.hok a o e).stay (λb u hb q=>k b u (λz=>?_) q) (λ_ q=>q) λ_ _ q=>q;subst z;rcases hb with rfl|hb
  · rw[hPn]at e;cases e
  · rw[hPn]at hb;cases hb
theorem JJj{tp:Pq}{c:Addr}{q:Str}{params:Arguments}{body:Expr}{sc:Scope}{pos:Pos}{R:Vq}(I:Inv X (pins++tp) σ H s)(hT:TabP P q p0 tp)(hpn:∀p∈X.pn++pins,p.1≠P)(hex:P∈X.ex)(hcode:X.env.code=.ref c)(hC:PySem.W.CodeHd X.base c P)
  (hB:X.base.BuiltinsAt X.mg P) (hq:X.env.qual++"<lambda>"=q) (hdef:defaultsOf params X.env=([],[])) (hfree:∀n,(n,NameKind.free)∈sc.names->X.env.kindOf n=some .cell\/X.env.kindOf n=some .free)
  (h:∀(f c':Addr) (ctv:Value) (tp':Pq) (s':Shared),TabP P q p0 tp'->Inv X (pins++tp') σ H s'->(f,PySem.W.kla_obj "<lambda>" q params body sc (JAw X.env.cells sc.names []) ((X.mg "__name__").getD .none) c' ctv)∈tp' ->
    (∃(oc:Obj) (vs:Array Value) (t:Tok),(c',oc)∈tp'/\oc.data=.fields vs/\vs[1]? = some (.str q t))->(∀y∈tp',(∃z∈tp,z.1=y.1)\/s.heap.objs.size<=y.1)->R (.ref f) s') :
  wpAny (model X.prog X.w) X.A (eval (.Lambda params body sc pos) X.env) R X.xe s:=by
 obtain⟨ps,hP,⟨mo,hmo⟩,ht,hcs⟩:=hT;have inTp:∀ {p:Addr×Obj},p∈tp->p∈X.pn++(pins++tp):=λhp=>q_r _ (q_r _ hp);obtain⟨gP,nP,lP,fP,dP⟩:=I.pin _ (inTp hP);have hcl:closureFor sc X.env=pure (JAw X.env.cells sc.names []):=JCD λn hn=>by
  obtain⟨c,e⟩:=I.ok.has n (hfree n hn);rw[e];rfl
 have hg:s.heap.Ns mainGlobals X.mg:=I.mod.glob.keeps I.bk;have hgP:mainGlobals≠P:=λz=>by
  obtain⟨o,es,ep,e,_⟩:=I.mod.glob;exact I.ok.noex _ _ e (z▸hex)
 have hBs:s.heap.BuiltinsAt X.mg P:=by
  obtain⟨bm,ob,b1,b2,b3,b4,b5,b6⟩:=hB;exact⟨bm,ob,b1,b2,b3,b4,I.bk _ _ b5,b6⟩
 have newp:∀ {b:Addr}{o:Obj}{h2:Heap},s.heap.objs.size<=b->h2.get? b=some o->(∀v,o.data≠.cell v)->h2.get? b=some o/\H b=none/\b≠X.env.locals/\b ∉ X.fs/\∀v,o.data≠.cell v:=λ{b o h2} hb e d =>
  ⟨e,I.hok.fresh hb,Nat.ne_of_gt (q_m I.lt hb),I.nofs hb,d⟩
 refine PySem.W.kla_eval hdef ?_;rw[hq];cases hf:codeAmong pos ps.toList with
 |none =>
  refine PySem.W.kla_makeFunction (mg:=X.mg) hcl I.ok.glob hg hcode (hC.keeps I.bk) gP ht hf hgP hBs λc' ctv h' tk hx hge hlt hrec htb=>?_;obtain⟨c2,oc,vs,t,e2,hoc,hd,hv⟩:=hrec;cases e2;have kp:∀b o,b≠P->s.heap.get? b=some o->(h'.push (PySem.W.kla_obj "<lambda>" q params body sc (JAw X.env.cells sc.names []) ((X.mg "__name__").getD .none) c' ctv)).get? b=some o:=λb o hb e=>q_c _ (hx b o hb e);have hle:s.heap.objs.size<=h'.objs.size:=Nat.le_trans hge (Nat.le_of_lt hlt);refine h h'.objs.size c' ctv ((P,PySem.W.tabObj (ps++#[rawInt pos.line,rawInt pos.col,.ref c']))::(c',oc)::(h'.objs.size,PySem.W.kla_obj "<lambda>" q params body sc (JAw X.env.cells sc.names []) ((X.mg "__name__").getD .none) c' ctv)::tp.filter λp=>p.1 != P) _ ?_ (JHY I hex nP kp (λp hp=>?_) tk) (by simp) ⟨oc,vs,t,by simp,hd,hv⟩ (λy hy=>by
    rcases q_n.mp hy with rfl|hy
    · exact .inl ⟨_,hP,rfl⟩
    · rcases q_n.mp hy with rfl|hy
      ·exact .inr hge
      ·rcases q_n.mp hy with rfl|hy
       ·exact .inr hle
       ·exact .inl ⟨y,(List.mem_filter.mp hy).1,rfl⟩)
  · refine⟨_,List.mem_cons_self,⟨mo++#[rawInt pos.line,rawInt pos.col,.ref c'],by rw[hmo,Array.append_assoc]⟩,by rw[Array.toList_append];exact TriplesOk_snoc _ _ _ _ ht,λp2 v e=>?_⟩
    rw[Array.toList_append]at e;rcases JI4 ht e with e|e
    · obtain⟨c3,oc3,vs3,t3,z1,z2,z3,z4⟩:=hcs p2 v e
      refine⟨c3,oc3,vs3,t3,z1,?_,z3,z4⟩;refine q_s _ (q_s _ (q_s _ (List.mem_filter.mpr ⟨z2,?_⟩)));simp only[bne_iff_ne,ne_eq];intro z;have a1:=(I.pin _ (inTp z2)).1;rw[show c3=P from z,gP]at a1;cases a1;have z3:Data.fields ps=Data.fields vs3:=z3;cases z3;have hl1:ps.toList[1]? = some (.str q t3):=by rw[<-z4];simp
      cases hl:ps.toList with
      |nil=>rw[hl]at hl1;simp at hl1
      |cons x1 r1 =>
       cases r1 with
       |nil=>rw[hl]at hl1;simp at hl1
       |cons x2 r2 =>
        rw[hl]at hl1 ht;simp only[List.getElem?_cons_succ,List.getElem?_cons_zero,q_j]at hl1;subst hl1;cases x1<;>simp[TriplesOk]at ht
    · exact⟨c',oc,vs,t,e,by simp,hd,hv⟩
  · rcases List.mem_append.mp hp with hp|hp
    · obtain⟨a1,a2,a3,a4,a5⟩:=I.pin p (List.mem_append_left _ hp)
      exact⟨kp _ _ (hpn p (List.mem_append_left _ hp)) a1,a2,a3,a4,a5⟩
    · rcases List.mem_append.mp hp with hp|hp
      ·obtain⟨a1,a2,a3,a4,a5⟩:=I.pin p (q_r _ (List.mem_append_left _ hp));exact⟨kp _ _ (hpn p (q_r _ hp)) a1,a2,a3,a4,a5⟩
      ·rcases q_n.mp hp with rfl|hp
       ·exact⟨q_c _ htb,nP,lP,fP,by intro v z;cases z⟩
       ·rcases q_n.mp hp with rfl|hp
        ·exact newp hge (q_c _ hoc) (by intro v z;rw[hd]at z;cases z)
        ·rcases q_n.mp hp with rfl|hp
         ·exact newp hle (q_k _ rfl) (by intro v z;cases z)
         ·obtain⟨hp,hne⟩:=List.mem_filter.mp hp;obtain⟨a1,a2,a3,a4,a5⟩:=I.pin p (inTp hp);exact⟨kp _ _ (by simpa using hne) a1,a2,a3,a4,a5⟩
 |some v =>
  obtain⟨c',oc,vs,t,rfl,hm,hd,hv⟩:=hcs pos v hf;refine PySem.W.kla_makeFunctionHit (mg:=X.mg) hcl I.ok.glob hg hcode (hC.keeps I.bk) gP ht hf hBs λctv h' tk hk hle=>?_;have kp:∀b o,s.heap.get? b=some o->(h'.push (PySem.W.kla_obj "<lambda>" q params body sc (JAw X.env.cells sc.names []) ((X.mg "__name__").getD .none) c' ctv)).get? b=some o:=λb o e=>q_c _ (hk b o e);refine h h'.objs.size c' ctv ((h'.objs.size,PySem.W.kla_obj "<lambda>" q params body sc (JAw X.env.cells sc.names []) ((X.mg "__name__").getD .none) c' ctv)::tp) _ ?_ (JHY I hex nP (λb o _ e=>kp b o e) (λp hp=>?_) tk) (by simp) ⟨oc,vs,t,q_s _ hm,hd,hv⟩ (λy hy=>by
    rcases q_n.mp hy with rfl|hy
    · exact .inr hle
    · exact .inl ⟨y,hy,rfl⟩)
  · exact⟨ps,q_s _ hP,⟨mo,hmo⟩,ht,λp2 v e=>by
      obtain⟨c3,oc3,vs3,t3,z1,z2,z3⟩:=hcs p2 v e;exact⟨c3,oc3,vs3,t3,z1,q_s _ z2,z3⟩⟩
  · have old:∀p∈X.pn++(pins++tp),(h'.push (PySem.W.kla_obj "<lambda>" q params body sc (JAw X.env.cells sc.names []) ((X.mg "__name__").getD .none) c' ctv)).get? p.1=some p.2/\H p.1=none/\p.1≠X.env.locals/\p.1 ∉ X.fs/\∀v,p.2.data≠.cell v:=λp hp=>by
      obtain⟨a1,a2,a3,a4,a5⟩:=I.pin p hp;exact⟨kp _ _ a1,a2,a3,a4,a5⟩
    rcases List.mem_append.mp hp with hp|hp
    · exact old p (List.mem_append_left _ hp)
    · rcases List.mem_append.mp hp with hp|hp
      ·exact old p (q_r _ (List.mem_append_left _ hp))
      ·rcases q_n.mp hp with rfl|hp
       ·exact newp hle (q_k _ rfl) (by intro v z;cases z)
       ·exact old p (inTp hp)
end
end VI
end
section
namespace VI
open PySem PySem.Spec PyProof.Rows L2
section
variable{B:Bs}{C:Cn}{G Gh:List (Str×GK)}
structure HotG(G Gh:List (Str×GK)):Prop where
 sub:∀x k,Gh.lookup x=some k->k=.opt\/G.lookup x=some k
 nofn:∀x i,Gh.lookup x≠some (.fn i)
 norc:∀x i j,Gh.lookup x≠some (.rcf i)/\Gh.lookup x≠some (.rcm i j)
 hot:Gh.lookup (".hot":Str)=some .opt
theorem HotG.at(h:HotG G Gh){x:Str}{k:GK}(e:Gh.lookup x=some k)(hk:k≠.opt):G.lookup x=some k:=(h.sub x k e).resolve_left hk
theorem JRz(g:Gk X B C (CXV X.prog X.w B) XX G)(hg:HotG G Gh)(h1:X3.K=X.K)(h2:X3.mg=X.mg)(h3:X3.prog=X.prog)(h4:X3.w=X.w)(hu:X3.A.units+200<cLine):Gk X3 B C (CXV X3.prog X3.w B) (λ_ _=>False) Gh where
 K:=h1.trans g.K
 W:=h4.trans g.W
 anti:=λ_ _ _ _ z=>z
 units:=hu
 calm:=λc=>by have:=c.out;rw[hg.hot]at this;cases this
 fn:=λx i e=>absurd e (hg.nofn x i)
 pas:=λ_ _ _ _ _ _ _ z=>(JFY _ _ _ _ _ z).elim
 con:=λx i d e q=>by rw[h2];exact g.con x i d (hg.at e (by intro z;cases z)) q
 noexg:=g.noexg
 blt:=λx b e=>by rw[h2];exact g.blt x b (hg.at e (by intro z;cases z))
 rng:=λx e=>by rw[h2];exact g.rng x (hg.at e (by intro z;cases z))
 isi:=λx e=>by rw[h2];exact g.isi x (hg.at e (by intro z;cases z))
 ty:=λx t e=>by rw[h2];exact g.ty x t (hg.at e (by intro z;cases z))
 cls:=λx c e=>by rw[h2];exact g.cls x c (hg.at e (by intro z;cases z))
 nam:=λx e=>by rw[h2];exact g.nam x (hg.at e (by intro z;cases z))
 fld:=λx i e=>absurd e (hg.norc x i 0).1
 mth:=λx i j e=>absurd e (hg.norc x i j).2
theorem JJa{X X1:Cx}{XX:Nat->Hp->Prop}{pins:Pq}{σ:St}{H:Hp}{s:Shared}{x:Str}{st:Stmt}{fc:Addr}{fo:FuncData}{N ps:List Str}{fd:Fd}{ds:List D}{vs:List V}{us:List Value}{d:D}{Q:VK}{E:Vq}
  (I:Inv X1 pins σ H s) (g:Gk X B C (CXV X.prog X.w B) XX G) (hg:HotG G Gh) (h1:X1.K=X.K) (h2:X1.mg=X.mg) (h3:X1.prog=X.prog) (h4:X1.w=X.w)
  (hroom:X1.A.depth<recursionLimit) (hu:X1.A.units+203<cLine) (F:Fun X1.K x x st fc fo) (T:Turned Gh st N ps fd) (hb:Binds X1.K fo ps []) (ra:Rare B C (CXV X1.prog X1.w B) Gh) (rr:RareS B C (CXV X1.prog X1.w B) Gh)
  (dn:DenL B H ds vs) (r:Vals vs us) (hl:ds.length=ps.length) (hx:exec C fd.body (ds.map Sl.val++List.replicate (N.length - ds.length) Sl.no)=.rt d) (hQ:∀v H',Same H H'->Den B H' d v->Q v H') :
  wpAny (model X1.prog X1.w) X1.A (call (.ref fc) us) (EP X1 pins σ Q) E s:=by
 obtain⟨oc,od,kV,doc,pm,an,cdv,ct,osl,rfl,lk,hcd⟩:=F.ex;have e0:=I.env0;have KX:X1.K.In s.heap:=I.kIn;have lvs:=DenL.len ds vs dn;have lus:=r.length;have hlu:(us++([]:List Value)).length=ps.length:=by simp;omega
 have hbs:=hb s us KX hlu;simp only[List.append_nil]at hbs hlu;have hkind:∀y∈ps.zip us,(JAD st).names.lookup y.1=some .local\/((JAD st).names.lookup y.1=some .cell/\((cellsFrom (s.heap.objs.size+1) (JAD st).names []).lookup y.1).isSome=true):=λ⟨n,v⟩ hy=>by
  rcases T.sc.par n (List.of_mem_zip hy).1 with q|q
  · exact .inl q
  · exact .inr ⟨q,PySem.W.cellsFrom_some _ _ _ (.inl q)⟩
 refine wpAny_call (codeAny_mono (R:=λr s'=>match r with|.ok (.ret u)=>CE X1.stack X1.prog X1.w H s Q u s'|.ok _=>False|.error _=>False) ?_ λr s' hq=>?_)
 ·refine codeAny_call_function hroom (KX _ _ lk) rfl T.sc.co T.sc.gen rfl (PySem.W.codeRec_of KX hcd) (hbs _ _ _ _ ?_);refine wpAny_newFunctionEnv_cells T.sc.kind hkind λenv he s1 xx=>?_;subst he;refine⟨I.nolimit.keeps xx.toInCall.keep,codeAny_func ?_⟩;have e00:Env0 X1.prog X1.w X1.K X1.mg X1.base { X1.A with handled:=none } X1.stack s H:=⟨e0.frames,e0.mod,e0.bs,e0.bsz,e0.funs,e0.frf,e0.hok,e0.bare⟩
  have I0:=JCK (CX:=CXV X1.prog X1.w B) (E:=λ_ _ _=>False) T.sc rfl e00 (by omega:vs.length=ps.length) r xx
  have I3:Inv (atX (cxOf (CXV X1.prog X1.w B) X1.prog X1.w X1.K X1.mg X1.base N x (JAD st) fc cdv { X1.A with handled:=none } X1.stack s H (λ_ _ _=>False)) (X1.A.deeper (envOfC x (JAD st) s.heap.objs.size fc cdv)) [] (λ_ _=>False) false) [] (start N vs) H s1:=by
    refine JGc I0 ?_ (λz=>by cases z) (λp hp=>by simp at hp)
    show(X1.A.deeper _).frames=(Around.deeper { X1.A with handled:=none } _).frames
    rw[Around.frames_deeper e0.frames,Around.frames_deeper (A:={ X1.A with handled:=none }) e00.frames]
  have g3:=JRz (X3:=atX (cxOf (CXV X1.prog X1.w B) X1.prog X1.w X1.K X1.mg X1.base N x (JAD st) fc cdv { X1.A with handled:=none } X1.stack s H (λ_ _ _=>False)) (X1.A.deeper (envOfC x (JAD st) s.heap.objs.size fc cdv)) [] (λ_ _=>False) false) g hg h1 h2 h3 h4 (by show X1.A.units+3+200<_;omega)
  have hs:=JGH ra rr 60 _ _ _ _ true g3 T.sc.kind rfl rfl T.sc.nd PassesOwn.never (λ_=>rfl) (λ_ nm c m j p1 p2 p3 pos a1 a2 a3 pins s σ H D I z=>z.elim);have hpl:ps.length<=N.length:=by have:=congrArg List.length T.sc.pre;rw[List.length_take]at this;omega
  refine wpAny_mono (JDB hs T.comp [] s1 (start N vs) H { nx:=λ_ _=>False,rt:=Q } I3 ⟨_,_,H,Dm.refl H,JCe dn rfl (by omega),by rw[hx];exact λv H' sm dn'=>hQ v H' sm dn'⟩) (λfl s' hs=>?_) λe s' z=>z.elim
  cases fl with
  |ret u =>
    obtain⟨v,σ',H',J,rv,q⟩:=hs;exact⟨v,H',J.os,J.bare,J.base,J.hok,rv,q⟩
  |next=>obtain⟨_,_,_,z⟩:=hs;exact z.elim
  |brk=>obtain⟨_,_,_,z⟩:=hs;exact z.elim
  |cont=>obtain⟨_,_,_,z⟩:=hs;exact z.elim
 ·cases r with
  |error e=>exact fF hq
  |ok fl =>
    cases fl with
    |ret u=>exact I.after hq
    |next=>exact fF hq
    |brk=>exact fF hq
    |cont=>exact fF hq
end
end VI
end
section
namespace VI
open PySem PySem.Spec PyProof.Rows L2
structure ToldD(st:Stmt)(d en gn cn:Str):Prop where
 body:∃p1 p2 p3 p4 p5 p6 p7 p8 p9 p10,JAX st=[.Try [.Return (some (.Call (.Name d p1) [] [] p2)) p3] [.ExceptHandler (some (.Name gn p4)) (some en) [.Return (some (.Call (.Name cn p5) [.Name en p6] [] p7)) p8] p9] [] [] p10]
 sc:FnScope [d,en] [d] (JAD st)
 ld:(JAD st).names.lookup d=some .local
 le:(JAD st).names.lookup en=some .local
 lg:(JAD st).names.lookup gn=some .globalImplicit
 lc:(JAD st).names.lookup cn=some .globalImplicit
 bd:JAN d=false
 be:JAN en=false
 bg:JAN gn=false
 bc:JAN cn=false
section
variable{X:Cx}{B:Bs}{C:Cn}{XX:Nat->Hp->Prop}{G Gh:List (Str×GK)}{pins:Pq}{σ:St}{H:Hp}{s:Shared}
structure ToldT(X:Cx)(B:Bs)(C:Cn)(G Gh:List (Str×GK))(ft fc:Addr)(tn:Str)(stt:Stmt)(cg:Nat)(fdc:Fd):Prop where
 ex:∃(d en gn cn:Str) (fot foc:FuncData) (stc:Stmt) (Nc psc:List Str),ToldD stt d en gn cn/\Fun X.K tn tn stt ft fot/\Binds X.K fot [d] []/\X.mg gn=some (.ref (B.cl cg))/\X.mg cn=some (.ref fc)/\PySem.W.keepIn X.K (.ref fc)=true/\Fun X.K cn cn stc fc foc/\Turned Gh stc Nc psc fdc/\Binds X.K foc psc []/\psc.length=1/\Nc.length=fdc.slots
 hot:HotG G Gh
 ra:Rare B C (CXV X.prog X.w B) Gh
 rr:RareS B C (CXV X.prog X.w B) Gh
 exm:∀k,C.sub k cg=true->PySem.W.exmOne B.K (.ref (B.cl k)) (.ref (B.cl cg))=some true
noncomputable def JAz(C:Cn)(cg:Nat)(fdc:Fd)(r:R D):R D:=match r with
 |.ok d=>.ok d
 |.exc c=>if C.sub c cg=true then (match exec C fdc.body ([Sl.val (excD c)]++List.replicate (fdc.slots - 1) Sl.no) with
  |.rt d=>.ok d
  |_=>.bad) else .bad
 |.bad=>.bad
theorem JHp{ft fc f:Addr}{tn:Str}{stt:Stmt}{cg:Nat}{fdc:Fd}{r:R D}{Q:VK}
  (I:Inv X pins σ H s) (g:Gk X B C (CXV X.prog X.w B) XX G) (W:ToldT X B C G Gh ft fc tn stt cg fdc) (hst:X.stack=X.env::X.outer) (hh:X.A.handled=none) (hroom:X.A.depth+3<recursionLimit) (hu:X.A.units+220<cLine)
  (hf:∃o fd,s.heap.get? f=some o/\o.data=.func fd/\H f=none/\f ∉ frs X.stack)
  (hdeed:∀(A:Around) (env:PySem.Env) (s1:Shared) (E:XK) (Q:VK),A.handled=none->A.depth=X.A.depth+1->A.units=X.A.units+3->Env0 X.prog X.w B.K X.mg X.base A (env::X.stack) s1 H->(∀b o,s.heap.get? b=some o->H b=none->b ∉ frs X.stack->s1.heap.get? b=some o)->KE B (XXd B E) r H Q ->
    codeAny (model X.prog X.w) A (.call (.ref f) ⟨[],[]⟩) (CR (CXV X.prog X.w B) (env::X.stack) X.prog X.w H s1 Q E) s1)
  (hq:KE B (λ_ _=>False) (JAz C cg fdc r) H Q):wpAny (model X.prog X.w) X.A (call (.ref ft) [.ref f]) (EP X pins σ Q) X.xe s:=by
 obtain⟨d,en,gn,cn,fot,foc,stc,Nc,psc,TD,Ft,bt,mgg,mgc,kic,Fc,Tc,bc,lpc,lNc⟩:=W.ex;obtain⟨p1,p2,p3,p4,p5,p6,p7,p8,p9,p10,hbody⟩:=TD.body;obtain⟨oc,od,kV,doc,pm,an,cdv,ct,osl,rfl,lk,hcd⟩:=Ft.ex;have e0:=I.env0;have KX:X.K.In s.heap:=I.kIn;have hbs:=bt s [.ref f] KX rfl;simp only[List.append_nil]at hbs;have hkind:∀y∈[d].zip [Value.ref f],(JAD stt).names.lookup y.1=some .local\/((JAD stt).names.lookup y.1=some .cell/\((cellsFrom (s.heap.objs.size+1) (JAD stt).names []).lookup y.1).isSome=true):=λ⟨n,v⟩ hy=>by
  simp only[List.zip_cons_cons,List.zip_nil_right,List.mem_singleton,Prod.mk.injEq]at hy;exact .inl (hy.1▸TD.ld)
 refine wpAny_call (codeAny_mono (R:=λr s'=>match r with|.ok (.ret u)=>CE X.stack X.prog X.w H s Q u s'|.ok _=>False|.error _=>False) ?_ λr s' hq=>?_)
 case refine_2 =>
  cases r with
  |error e=>exact fF hq
  |ok fl =>
    cases fl with
    |ret u=>exact I.after hq
    |next=>exact fF hq
    |brk=>exact fF hq
    |cont=>exact fF hq
 refine codeAny_call_function (by omega) (KX _ _ lk) rfl TD.sc.co TD.sc.gen rfl (PySem.W.codeRec_of KX hcd) (hbs _ _ _ _ ?_)
 refine wpAny_newFunctionEnv_cells TD.sc.kind hkind λenv he s1 xx=>?_;subst he;refine⟨I.nolimit.keeps xx.toInCall.keep,codeAny_func ?_⟩;have I1:=JCK (CX:=CXV X.prog X.w B) (E:=λ_ _ _=>False) TD.sc hh e0 (by rfl:[V.ref f].length=[d].length) (.cons rfl .nil) xx
 obtain⟨X1,hX1⟩:∃X1,X1=cxOf (CXV X.prog X.w B) X.prog X.w X.K X.mg X.base [d,en] tn (JAD stt) ft cdv X.A X.stack s H (λ_ _ _=>False):=⟨_,rfl⟩;rw[<-hX1]at I1;have eEnv:X1.env=envOfC tn (JAD stt) s.heap.objs.size ft cdv:=by rw[hX1];rfl
 have eA:X1.A=X.A.deeper (envOfC tn (JAD stt) s.heap.objs.size ft cdv):=by rw[hX1];rfl
 have eSt:X1.stack=X1.env::X.stack:=by rw[hX1];rfl
 have eOu:X1.outer=X.stack:=by rw[hX1];rfl
 have eEx:X1.ex=[]:=by rw[hX1];rfl
 have ePn:X1.pn=[]:=by rw[hX1];rfl
 have eS0:X1.s₀=s:=by rw[hX1];rfl
 have eH0:X1.H₀=H:=by rw[hX1];rfl
 have eN:X1.N=[d,en]:=by rw[hX1];rfl
 have eFr:X1.env.frame=some X1.env.locals:=by rw[hX1];rfl
 have eSc:X1.env.scope=JAD stt:=by rw[hX1];rfl
 have eK:X1.K=X.K:=by rw[hX1];rfl
 have eMg:X1.mg=X.mg:=by rw[hX1];rfl
 have eP:X1.prog=X.prog:=by rw[hX1];rfl
 have eW:X1.w=X.w:=by rw[hX1];rfl
 have eB:X1.base=X.base:=by rw[hX1];rfl
 have eHd:X1.A.handled=none:=by rw[hX1];exact hh
 have eDp:X1.A.depth=X.A.depth+1:=by rw[hX1];rfl
 have eUn:X1.A.units=X.A.units+3:=by rw[hX1];rfl
 have eCa:X1.calm=true:=by rw[hX1];rfl
 have eFn:∀nm,X1.fn nm=true:=by rw[hX1];exact λ_=>rfl
 have ceOf:∀ {X':Cx}{pins':Pq}{σ':St}{u:Value}{s':Shared},X'.prog=X.prog->X'.w=X.w->X'.fs=frs X.stack->X'.ex=[]->X'.s₀=s->X'.H₀=H->EP X' pins' σ' Q u s'->CE X.stack X.prog X.w H s Q u s':=λ{X' pins' σ' u s'} a1 a2 a3 a4 a5 a6 ⟨v,H',J,r,q⟩=>by
  refine⟨v,H',by rw[J.os,a5],J.bare,?_,by rw[<-a1,<-a2];exact J.hok,r,q⟩
  have:=J.base;rw[a3,a4,a5,a6]at this;exact this
 refine wpAny_mono (Q:=λfl s'=>∃u,fl=Flow.ret u/\CE X.stack X.prog X.w H s Q u s') (E:=λ_ _=>False) ?_ (λfl s' ⟨u,e,q⟩=>by subst e;exact q) λ_ _ z=>z.elim
 show wpAny (model X.prog X.w) (X.A.deeper (envOfC tn (JAD stt) s.heap.objs.size ft cdv)) (execs (JAX stt) (envOfC tn (JAD stt) s.heap.objs.size ft cdv)) _ _ s1;rw[<-eA,<-eEnv,hbody,<-eP,<-eW];refine wpAny_execs_cons (wpAny_Try_except ?_);obtain⟨hx,hhx⟩:∃hx:Vq,hx=λe s₁=>wpAny (model X1.prog X1.w) X1.A (noteFrame e X1.env) (λ_ s₂=>wpAny (model X1.prog X1.w) X1.A (setFlight e none) (λ_ s₃=>wpAny (model X1.prog X1.w) X1.A (handleBy e X1.env [.ExceptHandler (some (.Name gn p4)) (some en) [.Return (some (.Call (.Name cn p5) [.Name en p6] [] p7)) p8] p9]) (λf s'=>match f with|.next=>wpAny (model X1.prog X1.w) X1.A (execs [] X1.env) (λfl s'=>∃u,fl=Flow.ret u/\CE X.stack X1.prog X1.w H s Q u s') (λ_ _=>False) s'|f=>∃u,f=Flow.ret u/\CE X.stack X1.prog X1.w H s Q u s') (λ_ _=>False) s₃) (λ_ _=>False) s₂) (λ_ _=>False) s₁:=⟨_,rfl⟩
 show wpAny (model X1.prog X1.w) X1.A _ _ _ s1;refine wpAny_mono (Q:=λfl s'=>∃u,fl=Flow.ret u/\CE X.stack X1.prog X1.w H s Q u s') (E:=hx) ?_ (λfl s' ⟨u,e,q⟩=>by subst e;exact⟨u,rfl,q⟩) (λe s' z=>by rw[hhx]at z;exact z)
 refine wpAny_execs_cons ?_;have hnd:X1.N.Nodup:=by rw[eN];exact TD.sc.nd
 have hi:X1.N[1]? = some en:=by rw[eN];rfl
 have h0:X1.N[0]? = some d:=by rw[eN];rfl
 have hle:X1.env.scope.names.lookup en=some .local:=by rw[eSc];exact TD.le
 have hld:X1.env.scope.names.lookup d=some .local:=by rw[eSc];exact TD.ld
 have hgl:Gl X1 gn:=by show X1.env.scope.names.lookup gn=_;rw[eSc];exact TD.lg
 have hgc:Gl X1 cn:=by show X1.env.scope.names.lookup cn=_;rw[eSc];exact TD.lc
 have hcal:X1.calm=true->X1.A.handled=none:=λ_=>eHd;have I2:Inv (atX X1 X1.A [] hx true) [] (start [d,en] [V.ref f]) H s1:=JGc I1 rfl (λ_=>eHd) (λp hp=>by simp at hp)
 refine wpAny_Return_some (wpAny_Call_Name_kw (thn (JDW (X:=atX X1 X1.A [] hx true) (i:=0) h0 (.inl hld) (JAE TD.bd).1 (JAE TD.bd).2.1 [] s1 _ H (λv H1=>v=.ref f/\H1=H) I2 ⟨.ref f,rfl,rfl,rfl⟩) λu s2 ⟨v,H1,I3,rv,hv,hH⟩=>?_));subst hv;subst hH;have ru:u=.ref f:=rv;subst ru;have I3':Inv X1 [] (start [d,en] [V.ref f]) H1 s2:=JK8 I3 rfl hcal (λp hp=>by rw[ePn]at hp;simpa using hp)
 have kp:∀b o,s.heap.get? b=some o->H1 b=none->b ∉ frs X.stack->s2.heap.get? b=some o:=λb o q1 q2 q3=>by
  have:=I3'.base.keep b o;rw[eS0,eH0,eEx]at this;refine this q1 q2 (λz=>?_) (by simp)
  have e:X1.fs=frs X.stack:=by rw[hX1];rfl
  rw[e]at z;exact q3 z
 obtain⟨fo,ffd,fe,fdd,fH,fst⟩:=hf;rw[<-eP,<-eW]at hdeed;refine callWith_meth0 fdd (kp _ _ fe fH fst) (wpAny_call (codeAny_mono (hdeed X1.A X1.env s2 (λu n H'=>∃c,u=.ref (B.cl c)/\r=.exc c/\Same H1 H') Q eHd eDp eUn ?_ kp ?_) λrr s3 hr=>?_))
 ·have:=I3'.env0;rw[eK,eMg,eB,eSt,g.K]at this;exact this
 ·cases r with
  |ok dd=>exact hq
  |exc c=>exact λH' sm=>⟨c,rfl,rfl,sm⟩
  |bad=>exact hq
 cases rr with
 |ok fl =>
  cases fl with
  |ret u =>
    refine⟨u,rfl,?_⟩;have hr':CE X1.stack X1.prog X1.w H1 s2 Q u s3:=by rw[eSt];exact hr
    rw[eP,eW];exact ceOf (X':=X1) eP eW (by rw[hX1];rfl) eEx eS0 eH0 (I3'.after hr')
  |next=>exact fF hr
  |brk=>exact fF hr
  |cont=>exact fF hr
 |error e =>
  obtain⟨ea,T,c',H',ee,os,bare,un,hok,tr,⟨f1,f2⟩,⟨f3,f4⟩,⟨c2,ec,hr,sm⟩⟩:=hr;subst ee;subst hr;rw[hhx];unfold JAz at hq
  split at hq
  case h_1 e=>cases e
  case h_3 e=>cases e
  rename_i c3 e3;cases e3
  split at hq
  case isFalse=>exact fF hq
  rename_i hs1
  split at hq
  case h_2=>exact fF hq
  rename_i dd hdd;rw[<-eSt]at un;have J0:Inv X1 [] (start [d,en] [V.ref f]) H' s3:=I3'.call' (ch:=[]) os un hok bare (λb hb=>by simp at hb)
  obtain⟨oe,vs,a0,oT,ts,q1,q2,q3,q4,q6,q7,q8,q9⟩:=id tr;have fr0:∀b,s2.heap.get? b=none->X1.s₀.heap.get? b=none:=λb q=>by
    cases z:X1.s₀.heap.get? b with
    |none=>rfl
    |some o =>
     obtain⟨o',e2⟩:=I3'.base.there b o z (by rw[eEx];simp)
     rw[q]at e2;cases e2
  have has:∀b∈(ea::T::frs X1.stack),b∈frs X1.stack\/(X1.s₀.heap.get? b=none/\H' b=none):=λb hb=>by
    rcases q_n.mp hb with rfl|hb
    ·exact .inr ⟨fr0 _ f1,f2⟩
    ·rcases q_n.mp hb with rfl|hb
     ·exact .inr ⟨fr0 _ f3,f4⟩
     ·exact .inl hb
  have hpin:∀p∈X1.pn++[],p.1 ∉ (ea::T::frs X1.stack):=λp hp hm=>by rw[ePn]at hp;simp at hp
  have stk:=J0.stack;have fl0:Heap.FlyingW (PySem.W.hideAll s3.heap (ea::T::frs X1.stack)) X1.stack ea (.ref (B.cl c')) a0 s3.heap :=
    ⟨λb o q=>PySem.W.of_hideAll _ q,PySem.W.hideAll_none _ (by simp),PySem.W.funFrames_hide stk (λenv he a hf=>q_s _ (q_s _ (List.mem_filterMap.mpr ⟨env,he,hf⟩))),oe,vs,T,oT,ts,q1,q2,q3,q4,PySem.W.hideAll_none _ (by simp),q6,q7,q8,q9⟩
  have eSt':X1.stack=X1.env::X1.outer:=by rw[eSt,eOu]
  refine PySem.wpAny_looks_onW (base:=PySem.W.hideAll s3.heap (ea::T::frs X1.stack)) (outer:=X1.outer) (cls:=.ref (B.cl c')) (a0:=a0) (J0.ok.frames.trans (congrArg some eSt')) eFr (by rw[<-eSt'];exact fl0) λh4 held4 up4=>?_
  refine PySem.wpAny_landsW held4 λh5 fl5 up5'=>?_;have up5:=up4.trans up5';have J5:Inv X1 [] (start [d,en] [V.ref f]) H' { s3 with heap:=h5 }:=JHi J0 eEx has hpin fl5 up5 s3.toks
  have J5m:Inv (atX X1 (X1.A.mark (some (.ref ea))) X1.pn (λ_ _=>False) false) [] (start [d,en] [V.ref f]) H' { s3 with heap:=h5 }:=JGc J5 rfl (λz=>by cases z) (λp hp=>hp)
  refine wpAny_handleBy_cons (codeAny_handlers_test (JCY J5m hgl (eMg▸mgg) ?_ (JAE TD.bg).1)) (by intro q;cases q)
  obtain⟨ob,hob,hoc⟩:=fl5.there;have LT:PySem.W.Looks (model X1.prog X1.w) h5 (typeOf (.ref ea)) (.ref (B.cl c')):=by
    rw[<-hoc];exact(PySem.W.Looks.ld hob).andThen .now
  have hex1:PySem.W.exmOne X1.K (.ref (B.cl c')) (.ref (B.cl cg))=some true:=by
    rw[eK,g.K,show Value.ref (B.cl c')=Value.ref (B.cl c2) from ec];exact W.exm c2 hs1
  refine(PySem.W.exm_one J5.kIn LT hex1).here (s:={ s3 with heap:=h5 }) (codeAny_handlers_suite_as ?_)
  refine lands_againW (s:={ s3 with heap:=h5 }) fl5 λh6 fl6 up6=>?_
  have J6:Inv X1 [] (start [d,en] [V.ref f]) H' { s3 with heap:=h6 }:=JHi J0 eEx has hpin fl6 (up5.trans up6) s3.toks
  obtain⟨_,_,_,oe6,vs6,T6,oT6,ts6,w1,⟨w2,_⟩,w3,_⟩:=id fl6;have ecl:B.cl c'=B.cl c2:=by
    have:=ec;injection this
  have J7:=JHM J6 w1 (by rw[w2,ecl]) w3 (fr0 _ f1) f2 (λp hp z=>hpin p hp (by rw[z];simp))
  refine JBB J7 hnd hi (.inl hle) (v:=.ref ea) rfl (λs8 J8'=>?_) (.inr hle);have J8:Inv (atX X1 (X1.A.mark (some (.ref ea))) X1.pn (λ_ _=>False) false) [] ((start [d,en] [V.ref f]).set 1 (some (.ref ea))) (upd H' ea (.ext (ExcAt ea (B.cl c2)))) s8:=JGc J8' rfl (λz=>by cases z) (λp hp=>hp)
  have gC:Gl (atX X1 (X1.A.mark (some (.ref ea))) X1.pn (λ_ _=>False) false) cn:=hgc;obtain⟨H6,hH6⟩:∃H6,H6=upd H' ea (.ext (ExcAt ea (B.cl c2))):=⟨_,rfl⟩;rw[<-hH6]at J8;have sm6:Same H1 H6:=sm.trans λb o e=>by
    rw[hH6,JAH λz=>by rw[z,f2]at e;cases e]
    exact e
  have den6:Den B H6 (excD c2) (.ref ea):=by
    unfold excD;simp only[Den];exact .inl ⟨ea,c2,rfl,rfl,by rw[hH6];exact JAG⟩
  obtain⟨σ8,hσ8⟩:∃σ8,σ8=(start [d,en] [V.ref f]).set 1 (some (.ref ea)):=⟨_,rfl⟩;have hσ1:σ8[1]? = some (some (.ref ea)):=by rw[hσ8];rfl
  rw[<-hσ8]at J8;obtain⟨X3,hX3⟩:∃X3,X3=atX X1 (X1.A.mark (some (.ref ea))) X1.pn (λ_ _=>False) false:=⟨_,rfl⟩;rw[<-hX3]at J8 gC;have a3:X3.A=X1.A.mark (some (.ref ea)):=by rw[hX3];rfl
  have n3:X3.env=X1.env:=by rw[hX3];rfl
  have p3':X3.prog=X1.prog:=by rw[hX3];rfl
  have w3':X3.w=X1.w:=by rw[hX3];rfl
  have m3:X3.mg=X.mg:=by rw[hX3];exact eMg
  have k3:X3.K=X.K:=by rw[hX3];exact eK
  have N3:X3.N=X1.N:=by rw[hX3];rfl
  refine wpAny_mono (Q:=λfl s9=>∃u,fl=Flow.ret u/\EP X3 [] σ8 (λv H9=>Same H6 H9/\Den B H9 dd v) u s9) (E:=λ_ _=>False) ?_ (λfl s9 h9=>?_) λ_ _ z=>z.elim
  · rw[<-a3,<-n3,<-p3',<-w3']
    have hPA:PA X3 [.Name en p6] (JSL (tVar 1) tNil):=JBG (JDW (i:=1) (by rw[N3];exact hi) (.inl (by rw[n3];exact hle)) (JAE TD.be).1 (JAE TD.be).2.1) JBp
    have x3:X3.xe=λ_ _=>False:=by rw[hX3];rfl
    have hPA':=hPA p7 [] s8 σ8 H6 (λvs H9=>vs=[V.ref ea]/\H9=H6) J8 ⟨.ref ea,hσ1,rfl,rfl⟩;rw[x3]at hPA';refine wpAny_execs_cons (wpAny_Return_some (wpAny_Call_Name_kw (JCY J8 gC (by rw[m3];exact mgc) ?_ (JAE TD.bc).1)))
    refine PySem.W.callWith_K (K:=X3.K) (h₀:=X3.base) J8.ok.mod.kin (by rw[k3];exact kic) (thn hPA' λus s9 ⟨vs,H9,J9,rvs,hvs,hH9⟩=>⟨J9.kIn,?_⟩) rfl rfl
    subst hvs;subst hH9;refine thn (JJa (X:=X) (X1:=X3) (Q:=λv H10=>Same H9 H10/\Den B H10 dd v) (ds:=[excD c2]) (vs:=[V.ref ea]) (E:=λ_ _=>False) J9 g W.hot k3 m3 (p3'.trans eP) (w3'.trans eW) (by rw[a3];show X1.A.depth<_;omega) (by rw[a3];show X1.A.units+203<_;omega) (by rw[k3];exact Fc) Tc (by rw[k3];exact bc) (by rw[p3',w3',eP,eW];exact W.ra) (by rw[p3',w3',eP,eW];exact W.rr) (⟨_,_,rfl,den6,rfl⟩) rvs lpc.symm (by rw[lNc];exact hdd) λv H10 a b=>⟨a,b⟩) λu s10 h10=>⟨u,rfl,h10⟩
  obtain⟨u,rfl,v,H9,J9,rv,sm9,dn9⟩:=h9;rw[hX3]at J9;have J9':Inv X1 [] σ8 H9 s9:=JK8 J9 rfl hcal (λp hp=>by rw[ePn]at hp;simpa using hp)
  show wpAny (model X1.prog X1.w) X1.A (do bindName X1.env en .none;unbindBehindTheSuite X1.env en p9) (λ_ s₃=>∃w,Flow.ret u=Flow.ret w/\CE X.stack X1.prog X1.w H1 s Q w s₃) (λ_ _=>False) s9
  refine q_b (wpAny_bindName (JBB J9' hnd hi (.inl hle) (v:=.non) rfl (λs10 J10=>?_) (.inr hle)));unfold unbindBehindTheSuite;have hv:(σ8.set 1 (some V.non))[1]? = some (some V.non):=by
    refine q_z ?_;have:=q_p.mp hσ1;exact this.1
  refine wpAny_onRaise (JJD J10 hnd hi hle hv λs11 J11=>⟨u,rfl,?_⟩);rw[eP,eW];exact ceOf (X':=X1) eP eW (by rw[hX1];rfl) eEx eS0 eH0 ⟨v,H9,J11,rv,hq v H9 (sm6.trans sm9) dn9⟩
end
end VI
end
section
namespace VI
open PySem PySem.Spec PyProof.Rows L2
section
variable{X:Cx}{B:Bs}{C:Cn}{XX:Nat->Hp->Prop}{G Gh:List (Str×GK)}{P:Addr}{q:Str}{p0:Array Value}
def Apart(X:Cx)(pins tp:Pq):Prop:=∀p∈X.pn++pins,∀y∈tp,p.1≠y.1
def PE2(X:Cx)(P:Addr)(q:Str)(p0:Array Value)(e:Expr)(t:TE):Prop:=∀(pins tp:Pq) (s:Shared) (σ:St) (H:Hp) (Q:VK),Apart X pins tp->TabP P q p0 tp->Inv X (pins++tp) σ H s->t σ H Q ->
 wpAny (model X.prog X.w) X.A (eval e X.env) (λu s'=>∃tp',Apart X pins tp'/\TabP P q p0 tp'/\EP X (pins++tp') σ Q u s') X.xe s
structure LamOk(X:Cx)(P:Addr)(q:Str):Prop where
 ex:P∈X.ex
 code:∃c,X.env.code=.ref c/\PySem.W.CodeHd X.base c P
 blt:X.base.BuiltinsAt X.mg P
 qual:X.env.qual++"<lambda>"=q
structure DeepFn(X:Cx)(B:Bs)(C:Cn)(G:List (Str×GK)):Prop where
 fn:∀x i,G.lookup x=some (.fn i)->∃f fd ps k,X.mg x=some (.ref f)/\PySem.W.keepIn X.K (.ref f)=true /\
  FnOk X.prog X.w X.K X.mg X.base (CXV X.prog X.w B) k f fd ps (JCu B ps.length (C.fn i))/\(X.A.depth+2+3*k+5<recursionLimit/\X.A.units+6+16*k+200<cLine)/\Binds X.K fd ps []/\∀ds,C.fn i ds≠.bad->ds.length=ps.length
 mth:∀m i j,G.lookup m=some (.rcm i j)->∀ds,C.fn j ds=.bad
def REt(B:Bs)(C:Cn)(cg:Nat)(fdc:Fd)(x:VI.E):TE:=λσ H Q=>∃δ,Sok B σ H δ/\KE B (λ_ _=>False) (JAz C cg fdc (ev C x δ)) H Q
theorem JPa{E:XK}{N:List Str}{qual:Str}{sc:Scope}{f:Addr}{cd:Value}{cl:List (Str×Addr)}{A:Around}{outer:List PySem.Env}{s:Shared}{H:Hp}(g:Gk X B C (CXV X.prog X.w B) XX G)(D:DeepFn X B C G)(hh:A.handled=none)(h1:A.depth=X.A.depth+1)(h2:A.units=X.A.units+3)(hu:X.A.units+220<cLine) :
  Gk (JEI X.prog X.w B X.mg X.base N qual sc f cd cl A outer s H E) B C (CXV X.prog X.w B) (XXd B E) G where
 K:=rfl
 W:=g.W
 anti:=λc H H' sm z H'' s2=>z H'' (sm.trans s2)
 units:=by show A.units+3+200<_;omega
 calm:=λ_=>rfl
 fn:=λx i e=>by
  obtain⟨f,fd,ps,k,a1,a2,a3,⟨a4,a5⟩,a6,a7⟩:=D.fn x i e;rw[g.K]at a2 a3 a6;exact⟨f,fd,ps,k,a1,a2,a3,⟨hh,by show A.depth+1+3*k+5<_;omega,by show A.units+3+16*k+200<_;omega⟩,a6,a7⟩
 pas:=JNY
 con:=g.con
 noexg:=g.noexg
 blt:=g.blt
 rng:=g.rng
 isi:=g.isi
 ty:=g.ty
 cls:=g.cls
 nam:=g.nam
 fld:=by have h:=g.fld;rw[g.K]at h;exact h
 mth:=λm i j e=>.inl (D.mth m i j e)
theorem JOb{ft fc:Addr}{tn:Str}{stt:Stmt}{cg n:Nat}{fdc:Fd}{params:Arguments}{body:Expr}{sc:Scope}{x:VI.E}{p lp pos:Pos}
  (L:LamOk X P q) (g:Gk X B C (CXV X.prog X.w B) XX G) (D:DeepFn X B C G) (W:ToldT X B C G Gh ft fc tn stt cg fdc) (ra:Rare B C (CXV X.prog X.w B) G) (hst:X.stack=X.env::X.outer) (hh:X.A.handled=none) (hroom:X.A.depth+3<recursionLimit) (hu:X.A.units+220<cLine)
  (hgt:Gl X tn) (hmt:X.mg tn=some (.ref ft)) (hkt:PySem.W.keepIn X.K (.ref ft)=true) (hbt:JAN tn=false)
  (S:LamSc sc) (hdef:defaultsOf params X.env=([],[])) (hfree:∀n,(n,NameKind.free)∈sc.names->X.env.kindOf n=some .cell\/X.env.kindOf n=some .free)
  (hbind:∀(pm ctv:Value) (c':Addr) (cl:List (Str×Addr)),bindArgs (PySem.W.kla_fn "<lambda>" q params body sc cl pm (.ref c') ctv) ⟨[],[]⟩=pure []) (hnd:X.N.Nodup) (hfn:∀nm,X.fn nm=true) (hcomp:JAL G n false sc.names X.N body=some x) :
  PE2 X P q p0 (.Call (.Name tn p) [.Lambda params body sc lp] [] pos) (REt B C cg fdc x):=by
 intro pins tp s σ H Q hp hT I ⟨δ,ok,k⟩;obtain⟨c,hc1,hc2⟩:=L.code;refine wpAny_Call_Name_kw (JCY I hgt hmt ?_ (JAE hbt).1);refine PySem.W.callWith_K (K:=X.K) (h₀:=X.base) I.ok.mod.kin hkt ?_ rfl rfl;show wpAny _ _ (spliced ((false,eval (.Lambda params body sc lp) X.env)::backTo pos (starEach [] X.env))) _ _ s;refine Calls.spliced_cons (JJj I hT (λp hm=>by obtain⟨ps,hP,_⟩:=hT;exact hp p hm _ hP) L.ex hc1 hc2 L.blt L.qual hdef hfree λf c' ctv tp' s1 hT' I1 hf hcd hnew=>?_)
 refine Calls.spliced_nil ⟨I1.kIn,?_⟩;have pin:=λ{y:Addr×Obj}(hy:y∈tp')=>I1.pin y (q_r _ (q_r _ hy));have hap:Apart X pins tp':=λp hm y hy z=>by
  rcases hnew y hy with ⟨w,hw,e⟩|h
  · exact hp p hm w hw (z.trans e.symm)
  · have hlt:=q_h (I.pin p (by rcases List.mem_append.mp hm with a|a;exact List.mem_append_left _ a;exact q_r _ (List.mem_append_left _ a))).1
    rw[z]at hlt;exact absurd (q_m hlt h) (Nat.lt_irrefl _)
 obtain⟨oc,vs,t,hoc,hd,hv⟩:=hcd;have fstk:∀ {y:Addr×Obj},y∈tp'->y.1 ∉ frs X.stack:=λ{y} hy z=>by
  obtain⟨a1,a2,a3,a4,a5⟩:=pin hy;rcases q_n.mp (I1.stkSub _ z) with z|z
  · exact a3 z
  · exact a4 z
 refine thn (JHp (r:=ev C x δ) I1 g W hst hh hroom hu ⟨_,_,(pin hf).1,rfl,(pin hf).2.1,fstk hf⟩ (λA env s2 E Q2 b1 b2 b3 e0 kp hq=>?_) k) λu s' h=>⟨tp',hap,hT',h⟩;have cg':∀ {y:Str}{c:Addr},(JAw X.env.cells sc.names []).lookup y=some c↔(y,NameKind.free)∈sc.names/\X.env.cells.lookup y=some c:=λ{y c}=>by
  rw[JBT]
  by_cases h:(y,NameKind.free)∈sc.names
  · rw[if_pos h]
    obtain⟨d,hd⟩:=I1.ok.has y (hfree y h);rw[hd];simp[h]
  · rw[if_neg h]
    simp[h]
 have cellOk:∀ {y:Str}{c:Addr}{v:Option Value},X.env.cells.lookup y=some c->s1.heap.IsCell c v->s2.heap.IsCell c v:=λ{y c v} e ⟨o,ho,hd⟩=>⟨o,kp _ _ ho (I1.freeC y c e) λz=>by
  rcases q_n.mp (I1.stkSub _ z) with z|z
  · exact I1.cne y c e z
  · obtain⟨_,o',ho',_⟩:=I1.ok.funs.mem z
    exact absurd (q_m (q_h ho') (I1.ok.cab y c (hfn y) e)) (Nat.lt_irrefl _),hd⟩
 refine JJx (name:=.none) (G:=G) (N:=X.N) (σ:=σ) (δ:=δ) (x:=x) (by omega) S b1 e0 I1.len (λy hy=>?_) (λy z c h1 h2=>I1.ok.inj y z c (cg'.mp h1).2 (cg'.mp h2).2) (λy c h=>?_) (λi y v hi hv hy=>?_) (kp _ _ (pin hf).1 (pin hf).2.1 (fstk hf)) ?_ (hbind _ _ _ _) ?_ ok hq
 ·have hm:=PySem.mem_of_lookup hy;obtain⟨c,hc⟩:=I1.ok.has y (hfree y hm);exact⟨c,cg'.mpr ⟨hm,hc⟩⟩
 ·have hc:=(cg'.mp h).2;obtain⟨v,z⟩:=I1.cell y c hc;exact⟨⟨v,cellOk hc z⟩,I1.freeC y c hc⟩
 ·have hm:=PySem.mem_of_lookup hy;obtain⟨m,hn,hl⟩:=I1.loc;obtain⟨u,r,lk⟩:=hl i y v hi hv (.inr (hfree y hm));rcases lk with ⟨lk,_⟩|⟨_,c,hc,z⟩
  · rcases hfree y hm with z|z
    ·rw[show X.env.kindOf y=_ from lk]at z;cases z
    ·rw[show X.env.kindOf y=_ from lk]at z;cases z
  · exact⟨u,c,r,cg'.mpr ⟨hm,hc⟩,cellOk hc z⟩
 ·exact⟨c',oc,vs,t,rfl,kp _ _ (pin hoc).1 (pin hoc).2.1 (fstk hoc),hd,hv⟩
 ·have gl:=JPa (N:=X.N) (qual:=q) (sc:=sc) (f:=f) (cd:=.ref c') (cl:=JAw X.env.cells sc.names []) (outer:=env::X.stack) (s:=s2) (H:=H) (E:=E) g D b1 b2 b3 hu;exact((sound ra n _ _ _ _ gl S.kind rfl rfl hnd).1 _ _ hcomp).1
end
end VI
end
section
namespace VI
open PySem PySem.Spec PyProof.Rows L2
section
variable{X:Cx}{B:Bs}{C:Cn}{CX:CXT}{XX:Nat->Hp->Prop}{G Gh:List (Str×GK)}{P:Addr}{q:Str}{p0:Array Value}{st:Stmt}{rest:List Stmt}{t u:TS}{pos:Pos}{x:VI.E}
def PS2(X:Cx)(P:Addr)(q:Str)(p0:Array Value)(st:Stmt)(t:TS):Prop:=∀(pins tp:Pq) (s:Shared) (σ:St) (H:Hp) (D:Ends),Apart X pins tp->TabP P q p0 tp->Inv X (pins++tp) σ H s->t D σ H ->
 wpAny (model X.prog X.w) X.A (PySem.exec st X.env) (λfl s'=>∃tp',Apart X pins tp'/\TabP P q p0 tp'/\SP X (pins++tp') D fl s') X.xe s
def PSs2(X:Cx)(P:Addr)(q:Str)(p0:Array Value)(st:List Stmt)(t:TS):Prop:=∀(pins tp:Pq) (s:Shared) (σ:St) (H:Hp) (D:Ends),Apart X pins tp->TabP P q p0 tp->Inv X (pins++tp) σ H s->t D σ H ->
 wpAny (model X.prog X.w) X.A (execs st X.env) (λfl s'=>∃tp',Apart X pins tp'/\TabP P q p0 tp'/\SP X (pins++tp') D fl s') X.xe s
theorem PS2.imp{t t':TS}(h:PS2 X P q p0 st t)(i:∀D σ H,t' D σ H->t D σ H):PS2 X P q p0 st t':=λpins tp s σ H D a b I z=>h pins tp s σ H D a b I (i D σ H z)
theorem PSs2.imp{t t':TS}(h:PSs2 X P q p0 rest t)(i:∀D σ H,t' D σ H->t D σ H):PSs2 X P q p0 rest t':=λpins tp s σ H D a b I z=>h pins tp s σ H D a b I (i D σ H z)
theorem JR5(h:PS X st t):PS2 X P q p0 st t:=λpins tp s σ H D a b I z=>thn (h _ s σ H D I z) λf s' z=>⟨tp,a,b,z⟩
theorem JJP:PSs2 X P q p0 [] JJ5:=λpins tp s σ H D a b I h=>wpAny_execs_nil ⟨tp,a,b,σ,H,I,h⟩
theorem JHE(h1:PS2 X P q p0 st t)(h2:PSs2 X P q p0 rest u):PSs2 X P q p0 (st::rest) (tSeq t u):=by
 intro pins tp s σ H D a b I h;refine wpAny_execs_cons (thn (h1 pins tp s σ H { D with nx:=u D } a b I h) λf s1 q=>?_)
 obtain⟨tp1,a1,b1,q⟩:=q;cases f with
 |next =>
  obtain⟨σ',H',I',q⟩:=q;exact h2 pins tp1 s1 σ' H' D a1 b1 I' q
 |ret v=>exact⟨tp1,a1,b1,q⟩
 |brk=>exact⟨tp1,a1,b1,q⟩
 |cont=>exact⟨tp1,a1,b1,q⟩
theorem JIL{i:Nat}{e:Expr}(hN:X.N.Nodup)(hi:X.N[i]? = some y)(hx:Loc X.env.scope y)(he:PE2 X P q p0 e te)(hs:swapsWith e (some (.Name y pos')) pos.line X.env=pure false)(hf:X.fn y=true\/X.env.scope.names.lookup y=some .local) :
  PS2 X P q p0 (.Assign [.Name y pos'] e pos) (tAsg te (JFA i)):=by
 intro pins tp s σ H D a b I h;refine wpAny_Assign_Name (thn (he pins tp s σ H _ a b I h) λv s1 ⟨tp1,a1,b1,y,H1,I1,r1,q1⟩=>?_) hs;exact JBB I1 hN hi hx r1 (λs2 I2=>⟨tp1,a1,b1,_,H1,I2,q1⟩) hf
theorem JNP(hp:PassesOwn (model X.prog X.w) X.A X.env X.xe)(hc:X.calm=true)(hi:PI X tg iter wi)(hg:PG X tg g)(hb:PSs2 X P q p0 body tb)
  (hs:∀x,foldedSetIterable iter X.env x=pure x:=by intro _;rfl):PS2 X P q p0 (.For tg iter body [] pos) (tFor wi g tb):=by
 intro pins tp s σ H D ha hT I h;refine wpAny_For (thn (hi (pins++tp) s σ H _ I h) λv s1 h1=>thn h1 λitv s2 h2=>?_) hs;obtain⟨it,fp,tn,J,H2,e,I2,T,st2,f2,W,⟨m0,w0⟩,turn⟩:=h2;subst e;have stat:∀ {H':Hp}{tp':Pq},(∀b∈fp,H' b=none)->(∀b∈fp,∀y∈tp',y.1≠b)->∀b∈fp,FpOk X (pins++tp') H' b:=λ{H' tp'} hn hy b hb=>by
  obtain⟨_,a2,a3,a4,a5,a6⟩:=f2 b hb;refine⟨hn b hb,a2,a3,a4,a5,λp hp=>?_⟩;rcases List.mem_append.mp hp with z|z
  · exact a6 p (List.mem_append_left _ z)
  · rcases List.mem_append.mp z with z|z
    ·exact a6 p (q_r _ (List.mem_append_left _ z))
    ·exact hy b hb p z
 have hy0:∀b∈fp,∀y∈tp,y.1≠b:=λb hb y hy=>(f2 b hb).2.2.2.2.2 y (q_r _ (q_r _ hy));refine codeAny_forLoop_any (λn s'=>∃tp' i σ' H',Apart X pins tp'/\TabP P q p0 tp'/\(∀b∈fp,∀y∈tp',y.1≠b)/\Inv X (pins++tp') σ' H' s'/\tn i s'.heap/\(∀b∈fp,H' b=none)/\W i n σ' H') ?_ m0 ⟨tp,0,σ,H2,ha,hT,hy0,I2,st2,λb hb=>(f2 b hb).1,w0⟩;rintro n s3 ⟨tp3,i,σ3,H3,ha3,hT3,hy3,I3,st3,fr3,w3⟩;rcases turn i n σ3 H3 w3 with ⟨stop,qn⟩|⟨go,N,hN,step⟩
 ·refine wpAny_passesOwn hp (thn (T.done X rfl rfl rfl hc i (pins++tp3) s3 σ3 H3 X.xe I3 (stat fr3 hy3) st3 stop) λr s4 ⟨hr,I4⟩=>?_);subst hr;exact wpAny_execs_nil ⟨tp3,ha3,hT3,σ3,H3,I4,qn⟩
 ·refine wpAny_passesOwn hp (thn (T.item X rfl rfl rfl hc i (pins++tp3) s3 σ3 H3 X.xe I3 (stat fr3 hy3) st3 go) λr s4 ⟨u,hr,h4⟩=>?_);subst hr;refine wpAny_passesOwn hp (thn h4 λ_ s5 ⟨x,H5,I5,r5,y5,st5,fr5⟩=>?_);have I5':Inv X ((pins++JCG fp s5.heap)++tp3) σ3 H5 s5:=(I5.pinned (stat fr5 hy3) (T.obj _ _ st5)).pins_of λp hp=>(I5.pinned (stat fr5 hy3) (T.obj _ _ st5)).pin p (q_r _ (by
    rcases List.mem_append.mp hp with z|z
    ·rcases List.mem_append.mp z with z|z
     ·exact List.mem_append_left _ (List.mem_append_left _ z)
     ·exact q_r _ z
    ·exact List.mem_append_left _ (q_r _ z)))
  have ha5:Apart X (pins++JCG fp s5.heap) tp3:=λp hp y hy z=>by
    rcases List.mem_append.mp hp with w|w
    ·exact ha3 p (List.mem_append_left _ w) y hy z
    ·rcases List.mem_append.mp w with w|w
     ·exact ha3 p (q_r _ w) y hy z
     ·exact hy3 p.1 (JEg w).1 y hy z.symm
  refine wpAny_passesOwn hp (thn (hg _ s5 σ3 H5 x u _ I5' r5 (step x H5 y5)) λ_ s6 ⟨σ6,H6,I6,q6⟩=>?_);refine wpAny_passesOwn hp (thn (hb _ tp3 s6 σ6 H6 _ ha5 hT3 I6 q6) λf s7 q7=>?_);obtain⟨tp7,ha7,hT7,q7⟩:=q7;have un7:∀ {σ7:St}{H7:Hp},Inv X ((pins++JCG fp s5.heap)++tp7) σ7 H7 s7->Inv X (pins++tp7) σ7 H7 s7:=λ{σ7 H7} I7=>I7.pins_of λp hp=>I7.pin p (q_r _ (by
    rcases List.mem_append.mp hp with z|z
    ·exact List.mem_append_left _ (List.mem_append_left _ z)
    ·exact q_r _ z))
  have hap7:Apart X pins tp7:=λp hp y hy=>ha7 p (by
    rcases List.mem_append.mp hp with w|w
    ·exact List.mem_append_left _ w
    ·exact q_r _ (List.mem_append_left _ w)) y hy
  have again:∀ {σ7:St}{H7:Hp},Inv X ((pins++JCG fp s5.heap)++tp7) σ7 H7 s7->N σ7 H7->∃m,m<n/\∃tp' i σ' H',Apart X pins tp'/\TabP P q p0 tp'/\(∀b∈fp,∀y∈tp',y.1≠b)/\Inv X (pins++tp') σ' H' s7/\tn i s7.heap/\(∀b∈fp,H' b=none)/\W i m σ' H':=λ{σ7 H7} I7 n7=>by
    obtain⟨m',hm,w7⟩:=hN σ7 H7 n7;refine⟨m',hm,tp7,i+1,σ7,H7,hap7,hT7,λb hb y hy z=>?_,un7 I7,T.keep _ _ _ st5 λb hb o e=>(I7.pin (b,o) (q_r _ (List.mem_append_left _ (q_r _ (JA9 hb e))))).1,λb hb=>?_,w7⟩
    ·obtain⟨o,e,d⟩:=T.obj _ _ st5 b hb;exact ha7 (b,o) (q_r _ (q_r _ (JA9 hb e))) y hy z.symm
    obtain⟨o,e,d⟩:=T.obj _ _ st5 b hb;exact(I7.pin (b,o) (q_r _ (List.mem_append_left _ (q_r _ (JA9 hb e))))).2.1
  cases f with
  |next=>obtain⟨σ7,H7,I7,n7⟩:=q7;exact again I7 n7
  |cont=>obtain⟨σ7,H7,I7,n7⟩:=q7;exact again I7 n7
  |brk=>obtain⟨σ7,H7,I7,q7⟩:=q7;exact⟨tp7,hap7,hT7,σ7,H7,un7 I7,q7⟩
  |ret v=>obtain⟨x7,σ7,H7,I7,r7,q7⟩:=q7;exact⟨tp7,hap7,hT7,x7,σ7,H7,un7 I7,r7,q7⟩
def RSf(X:Cx)(B:Bs)(XX:Nat->Hp->Prop)(f:Env->Fl):TS:=λD σ H=>∃δ O Hb,Dm X.H₀ Hb/\SO B Hb σ H δ O/\JBe X B XX Hb D (f δ)
theorem JNE(g:Gk X B C CX XX G){put:D->Env->Option Env}{gt:TG}{tb:TS}{f:Env->Fl}{De:Ends}{σ:St}{H1:Hp}{J:It}{ds:List D}{δ:Env}{O:Ow}{Hb:Hp}(hb:Dm X.H₀ Hb)(so:SO B Hb σ H1 δ O)(io:ItOk B J (hid H1 O) ds)
  (hput:∀(d:D) (v:V) (σ:St) (H:Hp) (δ δ':Env) (O:Ow) (Hb':Hp) (Q:St->Hp->Prop),SO B Hb' σ H δ O->Den B (hid H O) d v->put d δ=some δ'->(∀σ' O',SO B Hb' σ' H δ' O'->Q σ' H)->gt v σ H Q)
  (htb:∀De σ H,RSf X B XX f De σ H->tb De σ H) (k:JBe X B XX Hb De (forL put (f) ds δ)) :
  ∃W:Nat->Nat->St->Hp->Prop,(∃m,W 0 m σ H1)/\∀i m σ H,W i m σ H->(J.stop i H/\De.nx σ H)\/(J.go i H/\∃N:St->Hp->Prop,(∀σ' H',N σ' H'->∃m',m'<m/\W (i+1) m' σ' H')/\∀x H',J.yld i H x H'->gt x σ H' λσ2 H2=>tb { De with nx:=N,ct:=N,bk:=De.nx } σ2 H2):=by
 have hb1:Same Hb (hid H1 O):=JAe so;refine⟨λi m σ H=>m=ds.length - i/\i<=ds.length/\∃δ O',SO B (hid H1 O) σ H δ O'/\JBe X B XX Hb De (forL put (f) (ds.drop i) δ),⟨ds.length,by simp,Nat.zero_le _,δ,O,so.base,by simpa using k⟩,?_⟩
 rintro i m σ H ⟨rfl,hi,δ2,O2,so2,k2⟩
 by_cases hlt:i<ds.length
 ·right;have hd:ds[i]? = some ds[i]:=by simp[hlt]
  obtain⟨go,yl⟩:=(io H (Same.kp so2.same) i).1 ds[i] hd;refine⟨go,λσ' H'=>∃δ O',SO B (hid H1 O) σ' H' δ O'/\JBe X B XX Hb De (forL put (f) (ds.drop (i+1)) δ),λσ' H' ⟨δ3,O3,so3,k3⟩=>⟨ds.length - (i+1),by omega,rfl,hlt,δ3,O3,so3,k3⟩,λv H' y=>?_⟩
  obtain⟨so3',dn2⟩:SO B (hid H1 O) σ H' δ2 O2/\Den B (hid H' O2) ds[i] v:=by
    rcases yl v H' y with ⟨e,dn⟩|⟨p,xs,es,hp,e,ex,ed,dl⟩
    ·subst e;exact⟨so2,Den.mono (JAe so2) _ v dn⟩
    ·subst e;subst ex;have s3:=JDr so2 (o:=.tup xs) hp;refine⟨s3,?_⟩;rw[ed];simp only[Den];refine⟨p,xs,rfl,SqT.of ?_,DenL.mono (JAe s3) _ _ dl⟩;rw[hid,JAJ λ⟨j,hj⟩=>by obtain⟨_,_,_,_,e5,_⟩:=so2.own hj;rw[hp]at e5;cases e5]
     exact JAG
  rw[JDY hlt]at k2;unfold forL at k2;cases qp:put ds[i] δ2 with
  |none=>rw[qp]at k2;exact fF k2
  |some δ3 =>
    rw[qp]at k2;refine hput ds[i] v σ H' δ2 δ3 O2 _ _ so3' dn2 qp λσ3 O3 so3=>?_;refine htb _ _ _ ⟨δ3,O3,_,hb.trans hb1,so3,?_⟩;simp only at k2;cases q2:f δ3 with
    |nx δ'=>rw[q2]at k2;exact λσ4 H4 O4 so4=>⟨δ',O4,so4,k2⟩
    |ct δ'=>rw[q2]at k2;exact λσ4 H4 O4 so4=>⟨δ',O4,so4,k2⟩
    |bk δ'=>rw[q2]at k2;exact λσ4 H4 O4 so4=>k2 σ4 H4 O4 (so4.weak hb1)
    |rt d=>rw[q2]at k2;exact λv4 H4 s4 d4=>k2 v4 H4 (hb1.trans s4) d4
    |ex c=>rw[q2]at k2;exact g.anti c Hb _ hb1 k2
    |bad=>rw[q2]at k2;exact k2
 ·left;have ei:i=ds.length:=by omega
  refine⟨(io H (Same.kp so2.same) i).2 (by omega),?_⟩
  rw[ei,List.drop_length]at k2;exact k2 σ H O2 (so2.weak hb1)
end
end VI
end
section
namespace VI
open PySem PySem.Spec PyProof.Rows L2
section
variable{X:Cx}{B:Bs}{C:Cn}{CX:CXT}{XX:Nat->Hp->Prop}{G Gh:List (Str×GK)}{P:Addr}{q:Str}{p0:Array Value}{pos:Pos}{x:VI.E}{cg:Nat}{fdc:Fd}{e:Expr}
def RSo(X:Cx)(B:Bs)(C:Cn)(cg:Nat)(fdc:Fd)(x:VI.E):TE:=λσ H Q=>∃δ O Hb,Dm X.H₀ Hb/\SO B Hb σ H δ O/\(match JAz C cg fdc (ev C x δ) with
 |.ok d=>∀v H' O',SO B Hb σ H' (after x d δ) O'->Den B (hid H' O') d v->Q v H'
 |.exc _=>False
 |.bad=>False)
theorem JBv{c:Nat}(qq:JAz C cg fdc r=.exc c):False:=by
 revert qq
 unfold JAz
 split
 ·intro z;cases z
 ·split
  ·split
   ·intro z;cases z
   ·intro z;cases z
  ·intro z;cases z
 ·intro z;cases z
theorem JF5(he:PE2 X P q p0 e (REt B C cg fdc x)):PE2 X P q p0 e (RSo X B C cg fdc x):=by
 intro pins tp s σ H Q ha hT I ⟨δ,O,Hb,hb,so,k⟩;have J0:=JBI (ps:=JBX x O δ.length s.heap) I (JAj (x:=x) hb so) JAr;have hev:=(agree C x δ (JAZ x 0 δ) JBV).1;have J1:Inv X ((pins++JBX x O δ.length s.heap)++tp) σ (hidP H (unP x O)) s:=J0.pins_of λp hp=>J0.pin p (q_r _ (by
  rcases List.mem_append.mp hp with z|z
  ·rcases List.mem_append.mp z with z|z
   ·exact List.mem_append_left _ (List.mem_append_left _ z)
   ·exact q_r _ z
  ·exact List.mem_append_left _ (q_r _ z)))
 have ha1:Apart X (pins++JBX x O δ.length s.heap) tp:=λp hp y hy z=>by
  rcases List.mem_append.mp hp with w|w
  ·exact ha p (List.mem_append_left _ w) y hy z
  ·rcases List.mem_append.mp w with w|w
   ·exact ha p (q_r _ w) y hy z
   ·obtain⟨xs,h1,_⟩:=JAj (x:=x) hb so p.1 (JAr p w).1;rw[z,(I.pin y (q_r _ (q_r _ hy))).2.1]at h1;cases h1
 cases qq:JAz C cg fdc (ev C x δ) with
 |ok d =>
  rw[qq]at k;refine thn (he _ tp s σ _ (λv H1=>Same (hidP H (unP x O)) H1/\Den B H1 d v) ha1 hT J1 ⟨JAZ x 0 δ,JAg so,by rw[<-hev,qq];exact λv H1 s1 d1=>⟨s1,d1⟩⟩) λu s1 ⟨tp1,a1,t1,v,H1,J,r,sm,dn⟩=>?_
  have J2:Inv X ([]++JBX x O δ.length s.heap) σ H1 s1:=J.pins_of λp hp=>J.pin p (q_r _ (List.mem_append_left _ (q_r _ (by simpa using hp))))
  have I0:Inv X [] σ H s:=I.pins_of λp hp=>by simp at hp
  obtain⟨I',hz⟩:=JAs I0 J2 (JAj hb so) (JAi I so);obtain⟨O',so',dn'⟩:=JGd so sm hz dn;have I2:Inv X (pins++tp1) σ (mixP H H1 (unP x O)) s1:=I'.pins_of λp hp=>by
   have hJ:p∈X.pn++((pins++JBX x O δ.length s.heap)++tp1):=q_r _ (by
    rcases List.mem_append.mp hp with z|z
    ·exact List.mem_append_left _ (List.mem_append_left _ z)
    ·exact q_r _ z)
   obtain⟨b1,b2,b3,b4,b5⟩:=J.pin p hJ;refine⟨b1,?_,b3,b4,b5⟩;have nu:¬unP x O p.1:=λhu=>by
    rcases List.mem_append.mp hp with z|z
    ·obtain⟨xs,h1,_⟩:=JAj (x:=x) hb so p.1 hu;rw[(I.pin p (q_r _ (List.mem_append_left _ z))).2.1]at h1;cases h1
    ·obtain⟨o,ho,_⟩:=JAi I so p.1 hu;exact a1 _ (q_r _ (q_r _ ho)) p z rfl
   rw[JAO nu];exact b2
  exact⟨tp1,λp hp y hy=>a1 p (by
   rcases List.mem_append.mp hp with w|w
   ·exact List.mem_append_left _ w
   ·exact q_r _ (List.mem_append_left _ w)) y hy,t1,v,_,I2,r,k v _ O' so' dn'⟩
 |exc c=>rw[qq]at k;exact k.elim
 |bad=>rw[qq]at k;exact k.elim
theorem JQW{i:Nat}(he:PE2 X P q p0 e (REt B C cg fdc x))(hnd:X.N.Nodup)(hN:X.N[i]? = some nm)(hx:Loc X.env.scope nm)(hs:swapsWith e (some (.Name nm pos')) pos.line X.env=pure false)
  (hfn:X.fn nm=true\/X.env.scope.names.lookup nm=some .local):PS2 X P q p0 (.Assign [.Name nm pos'] e pos) (RSf X B XX λδ=>stepR (JAz C cg fdc (ev C x δ)) λd=>.nx ((after x d δ).set i (.val d))) :=
 PS2.imp (JIL hnd hN hx (JF5 he) hs hfn) λD σ H ⟨δ,O,Hb,hb,so,k⟩=>by
  refine⟨δ,O,Hb,hb,so,?_⟩;simp only at k;cases qq:JAz C cg fdc (ev C x δ) with
  |ok d =>
    rw[qq]at k;intro v H' O' so' dn;exact k _ _ _ (JEt so' dn)
  |exc c=>exact(JBv qq).elim
  |bad=>rw[qq]at k;exact k
theorem JJ8(he:PE2 X P q p0 e te)(hs:starEach [e] X.env=[(false,eval e X.env)]):PE2 X P q p0 (.List [e] pos) (λσ H Q=>te σ H λv H1=>∀p,H1 p=none->Q (.ref p) (upd H1 p (.lst [v]))):=by
 intro pins tp s σ H Q ha hT I h;refine wpAny_List_spliced ?_;rw[hs];show wpAny _ _ (spliced ((false,eval e X.env)::backTo pos [])) _ _ s;refine Calls.spliced_cons (thn (he pins tp s σ H _ ha hT I h) λu s1 ⟨tp1,a1,t1,v,H1,I1,r1,q1⟩=>Calls.spliced_nil ⟨by simp[sizeLine_eq],?_⟩)
 have hf:H1 s1.heap.objs.size=none:=I1.hok.fresh (q_t _);refine⟨tp1,a1,t1,.ref s1.heap.objs.size,upd H1 s1.heap.objs.size (.lst [v]),I1.laid (t':=s1.toks) (λb u e=>q_c _ e) (q_t _) ?_,rfl,q1 _ hf⟩;exact⟨by simp[sizeLine_eq],[u],0,.cons r1 .nil,q_k _ rfl⟩
theorem JSB{i:Nat}(he:PE2 X P q p0 e (REt B C cg fdc x))(hs1:starEach [e] X.env=[(false,eval e X.env)])(hnd:X.N.Nodup)(hN:X.N[i]? = some nm)(hx:Loc X.env.scope nm)(hs:swapsWith (.List [e] lp) (some (.Name nm pos')) pos.line X.env=pure false)
  (hfn:X.fn nm=true\/X.env.scope.names.lookup nm=some .local):PS2 X P q p0 (.Assign [.Name nm pos'] (.List [e] lp) pos) (RSf X B XX λδ=>stepR (JAz C cg fdc (ev C x δ)) λd=>.nx ((after x d δ).set i (.own (.list [d])))) :=
 PS2.imp (JIL hnd hN hx (JJ8 (JF5 he) hs1) hs hfn) λD σ H ⟨δ,O,Hb,hb,so,k⟩=>by
  refine⟨δ,O,Hb,hb,so,?_⟩;simp only at k;cases qq:JAz C cg fdc (ev C x δ) with
  |ok d =>
    rw[qq]at k;intro v H' O' so' dn p hp;obtain⟨O2,so2⟩:=JDS (i:=i) (ds:=.list [d]) (xs:=.lst [v]) so' hp (by
     simp only[OwnO,DenL];exact⟨v,[],rfl,dn,rfl⟩)
    exact k _ _ O2 so2
  |exc c=>exact(JBv qq).elim
  |bad=>rw[qq]at k;exact k
theorem JQ6{i:Nat}(hN:X.N[i]? = some nm)(hv:Vis X.env.scope nm)(hbn:JAN nm=false)(he:PE2 X P q p0 e (REt B C cg fdc x))(hs:starEach [e] X.env=[(false,eval e X.env)])(hl:(ap.endLine==cp.line)=true) :
  PS2 X P q p0 (.Expr (.Call (.Attribute (.Name nm p1) "append" ap) [e] [] cp) pos) (RSf X B XX λδ=>match δ[i]? with
   |some (.own (.list ds))=>stepR (JAz C cg fdc (ev C x δ)) λd=>JAk i ds x d δ
   |_=>.bad):=by
 intro pins tp s σ H De ha hT I ⟨δ,O,Hb,hb,so,kk⟩
 dsimp only at kk
 split at kk
 case h_2=>exact fF kk
 rename_i ds hd;obtain⟨l,xs,q1,q2,q3,q4⟩:=so.slotOwn hd;refine wpAny_Expr_any ?_ I.quiet (by rfl)
 refine wpAny_Call_method_late rfl (by rw[hs];rfl) hl rfl (thn (JDW hN hv (JAE hbn).1 (JAE hbn).2.1 _ s σ H (λv H1=>v=.ref l/\H1=H) I ⟨_,q2,rfl,rfl⟩) λv s1 ⟨y,H1,I1,r1,e1,e2⟩=>?_)
 subst e1;subst e2;obtain⟨h1,h2⟩:=JK7 (T:="list") I1 r1 (.inl ⟨rfl,xs,SqL.of q3⟩);refine⟨"list","list.append",PySem.F.plainAttrs_list,PySem.F.slot_list_append,PySem.F.type_list_append,h1,h2,?_⟩;rw[hs];refine Calls.callWith_builtin rfl (Calls.evalArgs_plain ?_);show wpAny _ _ (spliced ((false,eval e X.env)::backTo cp [])) _ _ s1;have k2:RSo X B C cg fdc x σ H1 (λv H'=>∃xs',H' l=some (.lst xs')/\xs'.length<sizeLine/\De.nx σ (upd H' l (.lst (xs'++[v])))):=by
  refine⟨δ,O,Hb,hb,so,?_⟩;cases qq:JAz C cg fdc (ev C x δ) with
  |ok d =>
   rw[qq]at kk;intro v H' O' so' dn;have kk:JBe X B XX Hb De (JAk i ds x d δ):=kk;unfold JAk at kk
   split at kk
   ·rename_i hlen
    split at kk
    ·exact fF kk
    ·rename_i hu;have ea:after x d δ=δ:=by unfold after;rw[if_neg hu]
     rw[ea]at so';obtain⟨l',xs',r1,r2,r3,r4⟩:=so'.slotOwn hd;rw[q2]at r2;cases r2;refine⟨xs',r3,by rw[<-DenL.len ds xs' r4,sizeLine_eq];exact hlen,?_⟩
     exact kk _ _ O' (JGF so' r1 (DenL.append ds [d] xs' [v] r4 (by simp only[DenL];exact⟨v,[],rfl,dn,rfl⟩)))
   ·exact fF kk
  |exc c=>exact(JBv qq).elim
  |bad=>rw[qq]at kk;exact kk
 refine Calls.spliced_cons (thn (JF5 he pins tp s1 σ H1 _ ha hT I1 k2) λu s2 ⟨tp2,a2,t2,v2,H2,I2,r2,xs',m1,m2,m3⟩=>Calls.spliced_nil ?_);refine thn (JEo (pins++tp2) s2 σ H2 (.ref l) [v2] v [u] (λ_ H'=>De.nx σ H') I2 r1 (.cons r2 .nil) ⟨l,xs',v2,rfl,rfl,m1,m2,m3⟩) λw s3 ⟨z,H3,I3,r3,q3⟩=>⟨tp2,a2,t2,σ,H3,I3,q3⟩
end
end VI
end
section
namespace VI
open PySem PySem.Spec PyProof.Rows L2
section
variable{X:Cx}{B:Bs}{C:Cn}{CX:CXT}{XX:Nat->Hp->Prop}{G Gh:List (Str×GK)}{P:Addr}{q:Str}{p0:Array Value}{pos:Pos}{x:VI.E}{cg:Nat}{fdc:Fd}{e:Expr}{Hb H H':Hp}{σ:St}{δ:Env}{O:Ow}
theorem JOF(so:SO B Hb σ H δ O)(sm:Same H H'):SO B Hb σ H' δ O:=by
 have hh:Same (hid H O) (hid H' O):=λb o e=>by
  unfold hid hidP at e ⊢
  split at e
  ·cases e
  ·rename_i hb;rw[if_neg hb];exact sm b o e
 refine⟨so.len,so.same.trans sm,so.inj,λi=>?_⟩;have s:=so.slot i;cases qe:δ[i]? with
 |none=>rw[qe]at s;exact s
 |some t =>
  rw[qe]at s;cases t with
  |no=>exact s
  |val d =>
   obtain⟨a,v,b,c⟩:=s;exact⟨a,v,b,Den.mono hh d v c⟩
  |own d =>
   obtain⟨a,ds,xs,e1,e2,e3,e4,e5,e6⟩:=s;exact⟨a,ds,xs,e1,e2,e3,sm _ _ e4,e5,OwnO.mono hh _ _ e6⟩
noncomputable def tneF(C:Cn)(cg:Nat)(fdc:Fd)(x:VI.E)(t:Str)(f:Env->Fl)(δ:Env):Fl:=stepR (JAz C cg fdc (ev C x δ)) λd=>match cmpD .NotEq d (.str t) with
 |.ok (.bool true)=>f (after x d δ)
 |.ok (.bool false)=>.nx (after x d δ)
 |_=>.bad
theorem JQr(g:Gk X B C CX XX G){j:Nat}(he:PE2 X P q p0 e (REt B C cg fdc x))(hbody:PSs2 X P q p0 body (RSf X B XX f))(hm:behindInMarks .NotEq (.Constant (.str t) j p2)=false) :
  PS2 X P q p0 (.If (.Compare e [.NotEq] [.Constant (.str t) j p2] p1) body [] pos) (RSf X B XX (tneF C cg fdc x t f)):=by
 intro pins tp s σ H De ha hT I ⟨δ,O,Hb,hb,so,k⟩;unfold tneF at k;cases qq:JAz C cg fdc (ev C x δ) with
 |exc c=>exact(JBv qq).elim
 |bad=>rw[qq]at k;exact fF k
 |ok d =>
  rw[qq]at k;have k:JBe X B XX Hb De (match cmpD .NotEq d (.str t) with
   |.ok (.bool true)=>f (after x d δ)
   |.ok (.bool false)=>.nx (after x d δ)
   |_=>.bad):=k
  obtain⟨b,eb,kb⟩:∃b:Bool,cmpD .NotEq d (.str t)=.ok (.bool b)/\JBe X B XX Hb De (if b=true then f (after x d δ) else .nx (after x d δ)):=by
   split at k
   ·rename_i e1;exact⟨true,e1,by simpa using k⟩
   ·rename_i e1;exact⟨false,e1,by simpa using k⟩
   ·exact fF k
  refine wpAny_If (wpAny_isTrue_Compare1 (thn (JF5 he pins tp s σ H (λv H1=>∃O1,SO B Hb σ H1 (after x d δ) O1/\Den B (hid H1 O1) d v) ha hT I ⟨δ,O,Hb,hb,so,by rw[qq];exact λv H' O' so' dn=>⟨O',so',dn⟩⟩) λv s1 ⟨tp1,a1,t1,y,H1,I1,r1,O1,so1,dn1⟩ =>
   thn (JMP (pins++tp1) s1 σ H1 (λz H2=>z=.str t/\H2=H1) I1 ⟨rfl,rfl⟩) λu s2 ⟨z,H2,I2,r2,e1,e2⟩=>?_) hm)
  subst e1;subst e2;refine thn (JNy g .NotEq (pins++tp1) s2 σ H2 y (.str t) v u (λz H3=>Same H2 H3/\z=.bl b) I2 r1 r2 ⟨d,.str t,Den.mono same_hidP d y dn1,by simp only[Den],by rw[eb];exact λz H3 sm dn=>⟨sm,by simpa only[Den] using dn⟩⟩) λc s3 ⟨z,H3,I3,r3,sm,ez⟩=>?_
  subst ez;cases r3;have so3:=JOF so1 sm;refine wpAny_truthy_bool ?_;cases b with
  |true=>exact hbody pins tp1 s3 σ H3 De a1 t1 I3 ⟨after x d δ,O1,Hb,hb,so3,by simpa using kb⟩
  |false=>exact wpAny_execs_nil ⟨tp1,a1,t1,σ,H3,I3,(by simpa using kb:JBe X B XX Hb De (.nx (after x d δ))) σ H3 O1 so3⟩
end
end VI
end
section
namespace VI
open PySem PySem.Spec PyProof.Rows L2
inductive S2 where
 |nil|cons (a r:S2)
 |st (s:S)
 |tld (i:Nat) (e:VI.E)|tll (i:Nat) (e:VI.E)|tla (i:Nat) (e:VI.E)
 |for1 (i:Nat) (e:VI.E) (b:S2)
 |tne (e:VI.E) (t:Str) (a:S2)
noncomputable def JAT(C:Cn)(cg:Nat)(fdc:Fd):S2->Env->Fl
 |.nil,δ=>.nx δ
 |.cons a r,δ=>match JAT C cg fdc a δ with
  |.nx δ'=>JAT C cg fdc r δ'
  |f=>f
 |.st s,δ=>exec C s δ
 |.tld i e,δ=>stepR (JAz C cg fdc (ev C e δ)) λd=>.nx ((after e d δ).set i (.val d))
 |.tll i e,δ=>stepR (JAz C cg fdc (ev C e δ)) λd=>.nx ((after e d δ).set i (.own (.list [d])))
 |.tla i e,δ=>match δ[i]? with
  |some (.own (.list ds))=>stepR (JAz C cg fdc (ev C e δ)) λd=>JAk i ds e d δ
  |_=>.bad
 |.for1 i e b,δ=>stepR (evI C e δ) λxs=>forL (put1 i) (JAT C cg fdc b) xs (JA5 e 0 δ)
 |.tne e t a,δ=>tneF C cg fdc e t (JAT C cg fdc a) δ
noncomputable def toldOf(tn:Str):Expr->Option (Arguments×Expr×Scope)
 |.Call (.Name t _) [.Lambda params body sc _] [] _=>if t=tn then some (params,body,sc) else none
 |_=>none
noncomputable def noArgs(a:Arguments):Bool:=a.posonlyargs.isEmpty&&a.args.isEmpty&&a.vararg.isNone&&a.kwonlyargs.isEmpty&&a.kw_defaults.isEmpty&&a.kwarg.isNone&&a.defaults.isEmpty
noncomputable def JQY(outer:Nq)(params:Arguments)(sc:Scope):Bool :=
 noArgs params&&(sc.kind==.function)&&!sc.isCoroutine&&!sc.isGenerator&&sc.names.all λy=>y.2 != .local&&y.2 != .cell&&(y.2 != .free || (outer.lookup y.1==some .cell || outer.lookup y.1==some .free))
noncomputable def JHy(G:List (Str×GK))(tn:Str)(n:Nat)(names:Nq)(N:List Str)(e:Expr):Option VI.E :=
 (toldOf tn e).bind λq=>if JQY names q.1 q.2.2=true/\names.lookup tn=some .globalImplicit then JAL G n false q.2.2.names N q.2.1 else none
noncomputable def JRb:Stmt->Option (Str×Expr)
 |.Assign [.Name y _] e _=>some (y,e)
 |_=>none
noncomputable def oneOf:Expr->Option Expr
 |.List [a] _=>some a
 |_=>none
noncomputable def JO9:Stmt->Option (Str×Expr)
 |.Expr (.Call (.Attribute (.Name y _) m ap) [a] [] cp) _=>if m="append"/\(ap.endLine==cp.line)=true then some (y,a) else none
 |_=>none
noncomputable def JRF:Stmt->Option (Str×Expr×List Stmt)
 |.For (.Name y _) it body [] _=>some (y,it,body)
 |_=>none
noncomputable def neOf:Stmt->Option (Expr×Str×List Stmt)
 |.If (.Compare e [.NotEq] [.Constant (.str t) _ _] _) body [] _=>some (e,t,body)
 |_=>none
noncomputable def JCR(f:Stmt->Option S2):List Stmt->Option S2
 | []=>some .nil
 |st::r=>(f st).bind λa=>(JCR f r).map (S2.cons a)
noncomputable def JCt(G:List (Str×GK))(tn:Str):Nat->Nq->List Str->Stmt->Option S2
 |0,_,_,_=>none
 |n+1,names,N,st=>match JCW G n false names N st with
  |some s=>some (.st s)
  |none=>match JRb st with
   |some q=>(slot names N q.1).bind λi=>(match JHy G tn n names N q.2 with
    |some x=>some (.tld i x)
    |none=>(oneOf q.2).bind λa=>(JHy G tn n names N a).map (S2.tll i))
   |none=>match JO9 st with
    |some q=>if JAN q.1=false then (slot names N q.1).bind λi=>(JHy G tn n names N q.2).map (S2.tla i) else none
    |none=>match JRF st with
     |some q=>(slot names N q.1).bind λi=>(JAL G n true names N q.2.1).bind λe=>(JCR (JCt G tn n names N) q.2.2).map (S2.for1 i e)
     |none=>(neOf st).bind λq=>(JHy G tn n names N q.1).bind λx=>(JCR (JCt G tn n names N) q.2.2).map (S2.tne x q.2.1)
section
variable{X:Cx}{B:Bs}{C:Cn}{XX:Nat->Hp->Prop}{G Gh:List (Str×GK)}{P:Addr}{q:Str}{p0:Array Value}{tn:Str}{cg:Nat}{fdc:Fd}{ft fc:Addr}{stt:Stmt}
theorem JIa(h:noArgs a=true):a={ posonlyargs:=[],args:=[],vararg:=none,kwonlyargs:=[],kw_defaults:=[],kwarg:=none,defaults:=[] }:=by
 obtain⟨a1,a2,a3,a4,a5,a6,a7⟩:=a;simp only[noArgs,q_i,List.isEmpty_iff,Option.isNone_iff_eq_none]at h;obtain⟨⟨⟨⟨⟨⟨rfl,rfl⟩,rfl⟩,rfl⟩,rfl⟩,rfl⟩,rfl⟩:=h;rfl
structure Lm(X:Cx)(B:Bs)(C:Cn)(XX:Nat->Hp->Prop)(G Gh:List (Str×GK))(P:Addr)(q tn:Str)(ft fc:Addr)(stt:Stmt)(cg:Nat)(fdc:Fd):Prop where
 L:LamOk X P q
 g:Gk X B C (CXV X.prog X.w B) XX G
 D:DeepFn X B C G
 W:ToldT X B C G Gh ft fc tn stt cg fdc
 ra:Rare B C (CXV X.prog X.w B) G
 rr:RareS B C (CXV X.prog X.w B) G
 st:X.stack=X.env::X.outer
 hh:X.A.handled=none
 room:X.A.depth+3<recursionLimit
 un:X.A.units+220<cLine
 mt:X.mg tn=some (.ref ft)
 kt:PySem.W.keepIn X.K (.ref ft)=true
 bt:JAN tn=false
 nd:X.N.Nodup
 fn:∀nm,X.fn nm=true
 cool:Cool G
 kind:X.env.scope.kind=.function
 own:PassesOwn (model X.prog X.w) X.A X.env X.xe
theorem JCz(m:Lm X B C XX G Gh P q tn ft fc stt cg fdc){n:Nat}{e:Expr}(h:JHy G tn n X.env.scope.names X.N e=some x):PE2 X P q p0 e (REt B C cg fdc x)/\(∀es env,starEach (e::es) env=(false,eval e env)::starEach es env)/\(∀t l env,swapsWith e t l env=pure false):=by
 obtain⟨q1,h1,h⟩:=q_a.mp h
 split at h
 case isFalse=>cases h
 rename_i hc;obtain⟨hl,hg⟩:=hc;unfold toldOf at h1
 split at h1
 case h_2=>cases h1
 rename_i t p params body sc lp pos
 split at h1
 case isFalse=>cases h1
 rename_i e1;subst e1;cases h1;simp only[JQY,q_i,List.all_eq_true,beq_iff_eq,bne_iff_ne,Bool.not_eq_true',Bool.or_eq_true]at hl;obtain⟨⟨⟨⟨ha,hk⟩,hco⟩,hge⟩,hn⟩:=hl;have ha:=JIa ha;subst ha;refine⟨JOb m.L m.g m.D m.W m.ra m.st m.hh m.room m.un hg m.mt m.kt m.bt ⟨hk,hco,hge,λy hy=>⟨(hn y hy).1.1,(hn y hy).1.2⟩⟩ rfl (λy hy=>?_) (λpm ctv c' cl=>?_) m.nd m.fn h,λ_ _=>rfl,λ_ _ _=>?_⟩
 ·rcases(hn _ hy).2 with z|z
  ·exact absurd rfl z
  ·exact z
 ·rfl
 ·rfl
theorem JOW:PSs2 X P q p0 [] (RSf X B XX (JAT C cg fdc .nil)):=PSs2.imp JJP λD σ H ⟨δ,O,Hb,hb,so,k⟩=>k σ H O so
theorem JKO{st:Stmt}{r:List Stmt}{a b:S2}(h1:PS2 X P q p0 st (RSf X B XX (JAT C cg fdc a)))(h2:PSs2 X P q p0 r (RSf X B XX (JAT C cg fdc b))):PSs2 X P q p0 (st::r) (RSf X B XX (JAT C cg fdc (.cons a b))) :=
 PSs2.imp (JHE h1 h2) λD σ H ⟨δ,O,Hb,hb,so,k⟩=>by
  refine⟨δ,O,Hb,hb,so,?_⟩;simp only[JAT]at k;cases qq:JAT C cg fdc a δ with
  |nx δ'=>rw[qq]at k;exact λσ' H' O' so'=>⟨δ',O',Hb,hb,so',k⟩
  |rt d=>rw[qq]at k;exact k
  |bk d=>rw[qq]at k;exact k
  |ct d=>rw[qq]at k;exact k
  |ex c=>rw[qq]at k;exact k
  |bad=>rw[qq]at k;exact k
theorem JGK(ih:∀st t,f st=some t->PS2 X P q p0 st (RSf X B XX (JAT C cg fdc t))):∀ {sts:List Stmt}{t:S2},JCR f sts=some t->PSs2 X P q p0 sts (RSf X B XX (JAT C cg fdc t))
 | [],t,h=>by unfold JCR at h;cases h;exact JOW
 |st::r,t,h=>by
  unfold JCR at h;obtain⟨a,ha,h⟩:=q_a.mp h;obtain⟨b,hb,rfl⟩:=q_d.mp h;exact JKO (ih st a ha) (JGK ih hb)
theorem JMv(m:Lm X B C XX G Gh P q tn ft fc stt cg fdc){b:S2}{i:Nat}(hi:PI X (.Name nm pos') iter (RI B C XX x))(hb:PSs2 X P q p0 body (RSf X B XX (JAT C cg fdc b)))(hN:X.N[i]? = some nm)(hx:Loc X.env.scope nm)
  (hs:∀v,foldedSetIterable iter X.env v=pure v):PS2 X P q p0 (.For (.Name nm pos') iter body [] pos) (RSf X B XX (JAT C cg fdc (.for1 i x b))) :=
 PS2.imp (JNP m.own (m.g.calm m.cool) (JL9 m.g hi) (JEK m.nd hN hx (.inl (m.fn nm))) hb hs) λDe σ H ⟨δ,O,Hb,hb0,so,k⟩=>by
  refine⟨δ,O,Hb,hb0,so,?_⟩;simp only[JAT]at k;cases qq:evI C x δ with
  |ok ds =>
    rw[qq]at k;intro J H' O' so' io;refine JNE m.g hb0 so' io (put:=put1 i) (λd v σ H δ δ' O Hb' Q so dn e h=>?_) (λ_ _ _ h=>h) k;have e':δ.set i (.val d)=δ':=Option.some.inj e;subst e';exact h _ _ (JEt so dn)
  |exc c=>rw[qq]at k;exact k
  |bad=>rw[qq]at k;exact k
theorem JLY(m:Lm X B C XX G Gh P q tn ft fc stt cg fdc):∀(n:Nat) (st:Stmt) (t:S2),JCt G tn n X.env.scope.names X.N st=some t->PS2 X P q p0 st (RSf X B XX (JAT C cg fdc t))
 |0,st,t,h=>by unfold JCt at h;cases h
 |n+1,st,t,h=>by
  have ih:=JLY m n;unfold JCt at h
  split at h
  ·rename_i s hs;cases h;exact PS2.imp (JR5 (JGH m.ra m.rr n X XX _ _ false m.g m.kind rfl rfl m.nd m.own m.fn (λz=>by cases z) st s hs)) λD σ H ⟨δ,O,Hb,hb,so,k⟩=>⟨δ,O,Hb,hb,so,by simpa only[JAT] using k⟩
  ·split at h
   ·rename_i q1 hq;obtain⟨i,hi,h⟩:=q_a.mp h;obtain⟨q2,q3⟩:=slot_of rfl rfl hi;unfold JRb at hq
    split at hq
    case h_2=>cases hq
    rename_i y p1 e p2 _xx;cases hq
    split at h
    ·rename_i x hx;cases h;obtain⟨a1,a2,a3⟩:=JCz (p0:=p0) m hx;exact PS2.imp (JQW a1 m.nd q2 q3 (a3 _ _ _) (.inl (m.fn _))) λD σ H ⟨δ,O,Hb,hb,so,k⟩=>⟨δ,O,Hb,hb,so,by simpa only[JAT] using k⟩
    ·obtain⟨a,ha,h⟩:=q_a.mp h;obtain⟨x,hx,rfl⟩:=q_d.mp h;obtain⟨a1,a2,a3⟩:=JCz (p0:=p0) m hx;have ha:oneOf e=some a:=ha;unfold oneOf at ha
     split at ha
     case h_2=>cases ha
     cases ha;exact PS2.imp (JSB a1 (a2 _ _) m.nd q2 q3 rfl (.inl (m.fn _))) λD σ H ⟨δ,O,Hb,hb,so,k⟩=>⟨δ,O,Hb,hb,so,by simpa only[JAT] using k⟩
   ·split at h
    ·rename_i q1 hq
     split at h
     case isFalse=>cases h
     rename_i hbn;obtain⟨i,hi,h⟩:=q_a.mp h;obtain⟨x,hx,rfl⟩:=q_d.mp h;obtain⟨a1,a2,a3⟩:=JCz (p0:=p0) m hx;obtain⟨q2,q3⟩:=slot_of rfl rfl hi;unfold JO9 at hq
     split at hq
     case h_2=>cases hq
     rename_i y p1 mm ap a cp p2
     split at hq
     case isFalse=>cases hq
     rename_i hm;obtain⟨hm,hl⟩:=hm;subst hm;cases hq;exact PS2.imp (JQ6 q2 (Or.imp_right Or.inl q3) hbn a1 (a2 _ _) hl) λD σ H ⟨δ,O,Hb,hb,so,k⟩=>⟨δ,O,Hb,hb,so,by simp only[JAT]at k;exact k⟩
    ·split at h
     ·rename_i q1 hq;obtain⟨i,hi,h⟩:=q_a.mp h;obtain⟨x,hx,h⟩:=q_a.mp h;obtain⟨b,hb,rfl⟩:=q_d.mp h;obtain⟨q2,q3⟩:=slot_of rfl rfl hi;unfold JRF at hq
      split at hq
      case h_2=>cases hq
      cases hq;exact JMv m ((sound m.ra n X XX _ _ m.g m.kind rfl rfl m.nd).2 _ _ x hx) (JGK ih hb) q2 q3 (JCa hx X.env)
     ·obtain⟨q1,hq,h⟩:=q_a.mp h;obtain⟨x,hx,h⟩:=q_a.mp h;obtain⟨b,hb,rfl⟩:=q_d.mp h;obtain⟨a1,a2,a3⟩:=JCz (p0:=p0) m hx;unfold neOf at hq
      split at hq
      case h_2=>cases hq
      cases hq;exact PS2.imp (JQr m.g a1 (JGK ih hb) rfl) λD σ H ⟨δ,O,Hb,hb,so,k⟩=>⟨δ,O,Hb,hb,so,by simp only[JAT]at k;exact k⟩
end
end VI
end
section
namespace VI
open PySem PySem.Spec PyProof.Rows L2
noncomputable def cxT(X:Cx)(P:Addr):Cx:={ X with ex:=[P],xe:=λ_ _=>False }
section
variable{X:Cx}{σ:St}{H:Hp}{s:Shared}{P0:Addr}{tp:Pq}
theorem JOs(I:Inv X [] σ H s)(hex:X.ex=[])(hb:X.base.get? P0=none)(hlt:P0<X.s₀.heap.objs.size)(hfn:∀nm,X.fn nm=true)(hfs:X.fs=[])(hp:∀p∈tp,s.heap.get? p.1=some p.2/\H p.1=none/\p.1<X.s₀.heap.objs.size/\∀v,p.2.data≠.cell v)(hpn:X.pn=[]):Inv (cxT X P0) tp σ H s:=by
 have ok:=I.ok;have mem:∀ {b:Addr},b∈(cxT X P0).ex->b=P0:=λ{b} z=>by simpa[cxT] using z
 refine⟨⟨ok.mod,ok.kind,ok.glob,ok.blt,ok.above,ok.inj,ok.has,ok.cab,ok.hd,ok.frames,ok.stk,λb z=>?_,ok.bs,ok.bsz,λb o e z=>?_,λb z=>?_,ok.funs,ok.frf⟩,I.os,I.bare,I.base.mono (λ_ z=>z) (λb z=>?_),I.loc,I.cell,I.free,I.freeC,λp hm=>?_,I.hok,I.len⟩
 ·cases mem z;exact⟨λe=>absurd (q_m hlt ok.above) (by rw[e];exact Nat.lt_irrefl _),λx c e e2=>absurd (q_m hlt (ok.cab x c (hfn x) e)) (by rw[e2];exact Nat.lt_irrefl _)⟩
 ·cases mem z;have e:X.base.get? P0=some o:=e;rw[hb]at e;cases e
 ·show b ∉ X.fs;rw[hfs];simp
 ·rw[hex]at z;simp at z
 ·have hm:p∈X.pn++tp:=hm;rw[hpn]at hm;obtain⟨a1,a2,a3,a4⟩:=hp p (by simpa using hm)
  refine⟨a1,a2,λe=>?_,?_,a4⟩
  ·have e:p.1=X.env.locals:=e;exact absurd (q_m a3 ok.above) (by rw[e];exact Nat.lt_irrefl _)
  ·show p.1 ∉ X.fs;rw[hfs];simp
end
structure Turned2(G:List (Str×GK))(tn:Str)(st:Stmt)(N ps:List Str)(t:S2):Prop where
 comp:JCR (JCt G tn 60 (JAD st).names N) (JAX st)=some t
 sc:FnScope N ps (JAD st)
section
variable{B:Bs}{G Gh:List (Str×GK)}{tab:Nat->Option Fd}{glo:Nat->R D}{sub:Nat->Nat->Bool}
theorem JIU[Cool G]{P:Program}{w:World}(hw:w=B.w){mg mb:Mq}{n:Nat}{fa a P0 c0 ft fc:Addr}{x tn:Str}{s₁:Shared}{vs:List Value}{ns:List Int}{st stt:Stmt}{fo:FuncData}{N:List Str}{t:S2}{cg:Nat}{fdc:Fd}
  (KX:B.K.In s₁.heap) (hK0:B.K.lookup P0=none) (hT0:s₁.heap.get? P0=some (PySem.W.tabObj #[])) (hns:s₁.heap.Ns mainGlobals mg) (hb:s₁.heap.Ns builtinsNs mb) (hbb:∀x:Str,x≠"__name__"->mb x=bootBuiltins x) (hlim:s₁.heap.NoLimit) (hg:s₁.gens=#[])
  (ha:s₁.heap.get? a=some { cls:=.type "list",data:=.seq vs.toArray }) (hi:IntsAre vs ns) (hl:ns.length<=63) (hr:Room (n+1) callerA) (hn1:1<=n)
  (M:Mo mg B G tab glo sub) (ra:∀n,Ra3 B ⟨run true tab glo sub n,glo,sub⟩ G P w) (F:Fun B.K "law" "law" st fa fo) (T:Turned2 G tn st N [x] t) (hbind:∀(s:Shared) (u:Value),BindsTo s fo ⟨[u],[]⟩ [(x,u)])
  (hcode:fo.code=.ref c0) (hC:∀base:Heap,B.K.In base->PySem.W.CodeHd base c0 P0) (hBl:∀base:Heap,B.K.In base->base.BuiltinsAt mg P0)
  (W:∀X:Cx,X.K=B.K->X.mg=mg->X.prog=P->X.w=w->ToldT X B ⟨run true tab glo sub n,glo,sub⟩ G Gh ft fc tn stt cg fdc) (hmt:mg tn=some (.ref ft)) (hkt:PySem.W.keepIn B.K (.ref ft)=true) (hbt:JAN tn=false)
  (ok:JAT ⟨run true tab glo sub n,glo,sub⟩ cg fdc t ([Sl.val (.list (ns.map λi=>PyData.int i))]++List.replicate (N.length - 1) Sl.no)=.rt (.bool true)) :
  codeAny (model P w) callerA (.call (.ref fa) ⟨[.ref a],[]⟩) (λr s'=>r=.ok (.ret (.bool true))/\OldK s₁.heap s'.heap/\s'.os=s₁.os/\AllBare s'.gens) s₁:=by
 have rv:=JDR hi;have lenV:=hi.length;have core:∀H:Hp,Only H->SqL B.K H a (ns.map V.int)->HOk P w H s₁.heap->(∀b,H b≠none->b=a)->(H a≠none->B.K.lookup a=none) ->
    codeAny (model P w) callerA (.call (.ref fa) ⟨[.ref a],[]⟩) (λr s'=>r=.ok (.ret (.bool true))/\OldK s₁.heap s'.heap/\s'.os=s₁.os/\AllBare s'.gens) s₁:=by
  intro H hO hS hok hA hK;have hPa:P0≠a:=λz=>by
    rw[<-z,hT0]at ha;have:=congrArg (·.data) (Option.some.inj ha);cases this
  have hHP:H P0=none:=by
    cases q:H P0 with
    |none=>rfl
    |some u=>exact absurd (hA P0 (by rw[q];simp)) hPa
  obtain⟨Hx,hHx⟩:∃Hx:Hp,Hx=upd H P0 (.tbl #[]):=⟨_,rfl⟩;have nx:∀ {b:Addr},b≠P0->Hx b=H b:=λ{b} hb=>by rw[hHx,JAH hb]
  have base_of:∀ {b:Addr}{o:Obj},s₁.heap.get? b=some o->H b=none->b≠P0->(hidT s₁.heap Hx).get? b=some o:=λ{b o} e n hb=>JF4 e (by rw[nx hb];exact n)
  have noA:∀ {b:Addr}{o:Obj}{es:Array DictEntry}{ep:Nat},s₁.heap.get? b=some o->o.data=.dict es ep->H b=none/\b≠P0:=λ{b o es ep} e d=>by
    refine⟨?_,λz=>?_⟩
    ·cases q:H b with
     |none=>rfl
     |some u =>
      have e':b=a:=hA b (by rw[q];simp)
      subst e';rw[ha]at e;cases e;have d':Data.seq vs.toArray _=Data.dict es ep:=d;cases d'
    ·subst z;rw[hT0]at e;cases e;cases d
  have nsK:∀ {b:Addr}{m:Mq},s₁.heap.Ns b m->(hidT s₁.heap Hx).Ns b m:=λ{b m} ⟨o,es,ep,e,d,r⟩=>⟨o,es,ep,base_of e (noA e d).1 (noA e d).2,d,r⟩;have hKb:B.K.In (hidT s₁.heap Hx):=λb o e=>base_of (KX b o e) (by
    cases q:H b with
    |none=>rfl
    |some u =>
     have e':b=a:=hA b (by rw[q];simp)
     subst e';rw[hK (by rw[q];simp)]at e;cases e) λz=>by rw[z,hK0]at e;cases e
  have hM:Mod B.K mg (hidT s₁.heap Hx):=⟨hKb,nsK hns,⟨mb,nsK hb,hbb⟩,let ⟨mc,h1,h2⟩:=hlim;⟨mc,nsK h1,h2⟩⟩
  have ofb:∀ {b:Addr}{o:Obj},(hidT s₁.heap Hx).get? b=some o->s₁.heap.get? b=some o/\H b=none:=λ{b o} e=>by
    obtain⟨e1,e2⟩:=JFg e;refine⟨e1,?_⟩
    by_cases hb:b=P0
    ·rw[hb,hHx,JAG]at e2;cases e2
    ·rwa [nx hb]at e2
  have hbP:(hidT s₁.heap Hx).get? P0=none:=by
    cases q:(hidT s₁.heap Hx).get? P0 with
    |none=>rfl
    |some o =>
     have:=(JFg q).2;rw[hHx,JAG]at this;cases this
  have e0:Env0 P w B.K mg (hidT s₁.heap Hx) callerA [] s₁ H:=⟨rfl,hM,λb o e=>ofb e,Nat.le_of_eq (JFD _ _),trivial,λb hb=>absurd (show b∈([]:List Addr) from hb) (by simp),hok,.of_eq hg⟩
  obtain⟨oc,od,kV,doc,pm,an,cdv,ct,osl,rfl,lk,hcd⟩:=F.ex;have hcv:cdv=.ref c0:=hcode;have hkind:∀y∈[x].zip [Value.ref a],(JAD st).names.lookup y.1=some .local\/((JAD st).names.lookup y.1=some .cell/\((cellsFrom (s₁.heap.objs.size+1) (JAD st).names []).lookup y.1).isSome=true):=λ⟨n,v⟩ hy=>by
    rcases T.sc.par n (List.of_mem_zip hy).1 with q|q
    ·exact .inl q
    ·exact .inr ⟨q,PySem.W.cellsFrom_some _ _ _ (.inl q)⟩
  refine codeAny_call_function hr.depth (KX _ _ lk) rfl T.sc.co T.sc.gen rfl (PySem.W.codeRec_of KX hcd) (hbind s₁ (.ref a) _ _ _ _ ?_);refine wpAny_newFunctionEnv_cells T.sc.kind hkind λenv he s1 xx=>?_;subst he;refine⟨hlim.keeps xx.toInCall.keep,codeAny_func ?_⟩;have I0:=JCK (CX:=CXV P w B) (E:=λ_ _ _=>False) T.sc hr.hd e0 (by rfl:[V.ref a].length=[x].length) (.cons rfl .nil) xx
  obtain⟨X0,hX0⟩:∃X0,X0=cxOf (CXV P w B) P w B.K mg (hidT s₁.heap Hx) N "law" (JAD st) fa cdv callerA [] s₁ H (λ_ _ _=>False):=⟨_,rfl⟩;have I1:Inv (cxT X0 P0) [(P0,PySem.W.tabObj #[])] (start N [V.ref a]) H s1:=by
    subst hX0;refine JOs I0 rfl hbP (q_h hT0) (λ_=>rfl) rfl (λp hp=>?_) rfl;cases List.mem_singleton.mp hp;exact⟨xx.toInCall.keep _ _ hT0,hHP,q_h hT0,by intro v z;cases z⟩
  have m:Lm (cxT X0 P0) B ⟨run true tab glo sub n,glo,sub⟩ (λ_ _=>False) G Gh P0 ("law"++".<locals>."++"<lambda>") tn ft fc stt cg fdc:=by
    subst hX0;have dp:callerA.depth+3*(n+1)+5<recursionLimit:=hr.dp;have un:callerA.units+16*(n+1)+200<cLine:=hr.un;have fs:=fns (P:=P) (base:=hidT s₁.heap Hx) hw M ra n;exact {
     L:=⟨List.mem_singleton.mpr rfl,⟨c0,hcv,hC _ hKb⟩,hBl _ hKb,rfl⟩
     g:={
      K:=rfl
      W:=hw
      anti:=λ_ _ _ _ z=>z
      units:=by show callerA.units+3+200<_;omega
      calm:=λ_=>rfl
      fn:=λy j hy=>by
       obtain⟨f',fd',ps',w1,w2,w3,w4,w5⟩:=fs y j hy;exact⟨f',fd',ps',n,w1,w2,w3,hr.deeper _,w4,w5⟩
      pas:=λ_ _ _ _ _ _ _ z=>(JFY _ _ _ _ _ z).elim
      con:=M.con
      noexg:=M.noexg
      blt:=M.blt
      rng:=M.rng
      isi:=M.isi
      ty:=M.ty
      cls:=M.cl.mgc
      nam:=M.nam
      fld:=λf i e H ds vs _=>by show(match run true tab glo sub n i ds with|.ok d=>_|.exc _=>_|.bad=>_);rw[JCQ (M.rcf f i e)];trivial
      mth:=λm i j e=>.inl λds=>JCQ (M.rcm m i j e) }
     D:=⟨λy j hy=>by
      obtain⟨f',fd',ps',w1,w2,w3,w4,w5⟩:=fs y j hy;exact⟨f',fd',ps',n,w1,w2,w3,⟨by show callerA.depth+1+2+3*n+5<_;omega,by show callerA.units+3+6+16*n+200<_;omega⟩,w4,w5⟩,λm i j e ds=>JCQ (M.rcm m i j e)⟩
     W:=W _ rfl rfl rfl rfl
     ra:=(ra n).ra
     rr:=(ra n).rr
     st:=rfl
     hh:=hr.hd
     room:=by show callerA.depth+1+3<_;omega
     un:=by show callerA.units+3+220<_;omega
     mt:=hmt
     kt:=hkt
     bt:=hbt
     nd:=T.sc.nd
     fn:=λ_=>rfl
     cool:=inferInstance
     kind:=T.sc.kind
     own:=PassesOwn.never }
  have cp:JCR (JCt G tn 60 (cxT X0 P0).env.scope.names (cxT X0 P0).N) (JAX st)=some t:=by subst hX0;exact T.comp
  have bl:=JGK (p0:=#[]) (JLY (p0:=#[]) m 60) cp;have hpl:1<=N.length:=by have:=congrArg List.length T.sc.pre;rw[List.length_take]at this;simp at this;omega
  have H0:(cxT X0 P0).H₀=H:=by rw[hX0];rfl
  have den:DenL B H [.list (ns.map λi=>PyData.int i)] [V.ref a]:=by
    simp only[DenL];exact⟨_,_,rfl,by simp only[Den];exact⟨a,_,rfl,hS,JGh ns⟩,rfl⟩
  have run:=bl [] [(P0,PySem.W.tabObj #[])] s1 (start N [V.ref a]) H { nx:=λ_ _=>False,rt:=λv _=>v=.bl true } (λp hp=>by subst hX0;simp[cxT,cxOf]at hp) ⟨#[],List.mem_singleton.mpr rfl,⟨#[],rfl⟩,trivial,λp v z=>by simp[codeAmong]at z⟩ I1
    ⟨_,_,H,by rw[H0];exact Dm.refl H,JCe den rfl (by simpa using hpl),by
     show JBe _ _ _ _ _ (JAT _ _ _ _ ([Sl.val (.list (ns.map λi=>PyData.int i))]++List.replicate (N.length - 1) Sl.no));rw[ok];intro v H' sm dn;simp only[Den]at dn;exact dn⟩
  subst hX0;refine wpAny_mono run (λfl s' hs=>?_) λe s' z=>z.elim;obtain⟨tp',_,hT',hs⟩:=hs;cases fl with
  |next=>obtain⟨_,_,_,z⟩:=hs;exact z.elim
  |brk=>obtain⟨_,_,_,z⟩:=hs;exact z.elim
  |cont=>obtain⟨_,_,_,z⟩:=hs;exact z.elim
  |ret u =>
    obtain⟨v,σ',H',J,r',q⟩:=hs;have q':v=.bl true:=q;subst q';obtain rfl:u=Value.bool true:=r';have U:Un [] [P0] H H' s₁.heap s'.heap:=J.base;obtain⟨ps,hP,⟨more,hm⟩,_⟩:=hT';have gP:s'.heap.get? P0=some (PySem.W.tabObj ps):=(J.pin _ (q_r _ (q_r _ hP))).1;refine⟨rfl,⟨λb o e=>?_,λb o e=>?_⟩,J.os,J.bare⟩
    ·by_cases hb:b=P0
     ·subst hb;rw[hT0]at e;cases e;obtain⟨oc0,vs0,_,_,_,_,_,_,_,h1,h2,h3,h4,_⟩:=hC _ hKb;exact .inr (.inl ⟨⟨c0,oc0,vs0,(ofb h1).1,h2,h3,h4⟩,rfl,#[],more,rfl,by rw[gP,hm]⟩)
     ·refine .inl ?_;cases q:H b with
      |none=>exact U.keep b o e q (by simp) (by simpa using hb)
      |some u =>
       rcases hO b with z|⟨ob,xs,z⟩
       ·rw[q]at z;cases z
       ·have z2:=U.frzs b ob _ z;obtain⟨e1,_⟩:=hok b _ z;obtain⟨e2,_⟩:=J.hok b _ z2;rw[e]at e1;cases e1;exact e2
    ·by_cases hb:b=P0
     ·subst hb;exact⟨_,gP⟩
     ·exact U.there b o e (by simpa using hb)
 cases hk:B.K.lookup a with
 |some o =>
  have e:=KX a o hk;rw[ha]at e;cases e;refine core (λ_=>none) (λ_=>.inl rfl) (.inr ⟨_,vs.toArray,_,hk,rfl,rfl,rfl,by rw[q_f,lenV,sizeLine_eq];omega,by simpa using rv⟩) (λb u z=>by have z':(none:Option HO)=some u:=z;cases z') (λb z=>absurd rfl z) λz=>absurd rfl z
 |none =>
  refine core (λb=>if b=a then some (.frz { cls:=.type "list",data:=.seq vs.toArray } (.lst (ns.map V.int))) else none) (λb=>?_) (.inl (.inr ⟨{ cls:=.type "list",data:=.seq vs.toArray },if_pos rfl⟩)) (λb u z=>?_) (λb z=>?_) λ_=>hk
  · by_cases hb:b=a
    ·exact .inr ⟨_,_,if_pos hb⟩
    ·exact .inl (if_neg hb)
  · by_cases hb:b=a
    ·have z':=(if_pos hb).symm.trans z;cases z';subst hb;exact⟨ha,by rw[q_g,sizeLine_eq];omega,vs,_,rv,ha⟩
    ·have z':=(if_neg hb).symm.trans z;cases z'
  · by_cases hb:b=a
    ·exact hb
    ·exact absurd (if_neg hb) z
end
end VI
end
section
namespace VI
open PySem PySem.Spec PyProof.Rows L2
noncomputable def hotK:GK->Bool
 |.rcf _=>false
 |.rcm _ _=>false
 |.fn _=>false
 |.blt _=>false
 |_=>true
noncomputable def JE6(G:List (Str×GK)):List (Str×GK):=((".hot":Str),GK.opt)::G.filter λp=>hotK p.2&&p.1 != (".try":Str)&&(p.2 != GK.opt || p.1==(".met":Str))
theorem JCF{α:Type}:∀ {l:List (Str×α)}{x:Str}{k:α},(l.map (·.1)).Nodup->(x,k)∈l->l.lookup x=some k
 | [],_,_,_,h=>by simp at h
 |(y,j)::r,x,k,hn,h=>by
  rw[List.map_cons,List.nodup_cons]at hn;rw[List.lookup_cons];rcases q_n.mp h with e|e
  · cases e
    rw[beq_self_eq_true]
  · have hx:x≠y:=λz=>hn.1 (z▸List.mem_map.mpr ⟨_,e,rfl⟩)
    rw[beq_eq_false_iff_ne.mpr hx];exact JCF hn.2 e
theorem JML(hn:(G.map (·.1)).Nodup):HotG G (JE6 G):=by
 have get:∀ {x:Str}{k:GK},(JE6 G).lookup x=some k->(x=".hot"/\k=.opt)\/((x,k)∈G/\hotK k=true/\x≠".try"):=λ{x k} h=>by
  rcases q_n.mp (PySem.mem_of_lookup h) with e|e
  ·cases e;exact .inl ⟨rfl,rfl⟩
  ·obtain⟨e1,e2⟩:=List.mem_filter.mp e;simp only[q_i,bne_iff_ne]at e2;exact .inr ⟨e1,e2.1.1,e2.1.2⟩
 refine⟨λx k h=>?_,λx i h=>?_,λx i j=>⟨λh=>?_,λh=>?_⟩,?_⟩
 ·rcases get h with ⟨_,e⟩|⟨e,_⟩
  ·exact .inl e
  ·exact .inr (JCF hn e)
 ·rcases get h with ⟨_,e⟩|⟨_,e,_⟩
  ·cases e
  ·cases e
 ·rcases get h with ⟨_,e⟩|⟨_,e,_⟩
  ·cases e
  ·cases e
 ·rcases get h with ⟨_,e⟩|⟨_,e,_⟩
  ·cases e
  ·cases e
 ·unfold JE6;rw[List.lookup_cons,beq_self_eq_true]
section
variable{B:Bs}{G:List (Str×GK)}
theorem JNw{sub:Nat->Nat->Bool}(hg:HotG G (JE6 G))(I:Isi B G sub):Isi B (JE6 G) sub:=⟨λx c e=>I.own x c (hg.at e (by intro z;cases z)),I.exc,λk hk x c e=>I.rel k hk x c (hg.at e (by intro z;cases z))⟩
end
noncomputable def JBJ(P0:Addr)(K:Kq):Kq:=K.filter λp=>p.1 != P0
theorem JGX{α:Type}:∀ {l:List (Addr×α)}{a:Addr}{o:α},l.lookup a=some o->(a,o)∈l
 | [],_,_,h=>by cases h
 |(b,u)::r,a,o,h=>by
  rw[List.lookup_cons]at h
  split at h
  · rename_i e
    have e:a=b:=by simpa using e
    cases h;rw[e];exact List.mem_cons_self
  · exact q_s _ (JGX h)
theorem JD3{P0:Addr}{K:Kq}:(JBJ P0 K).lookup P0=none:=by
 cases q:(JBJ P0 K).lookup P0 with
 |none=>rfl
 |some o =>
  unfold JBJ at q;have:=(List.mem_filter.mp (JGX q)).2;simp at this
theorem JCf{P0:Addr}:∀ {K:Kq}{a:Addr}{o:Obj},(JBJ P0 K).lookup a=some o->K.lookup a=some o
 | [],a,o,h=>by cases h
 |(b,u)::r,a,o,h=>by
  unfold JBJ at h;rw[List.filter_cons]at h
  split at h
  · rw[List.lookup_cons]at h ⊢
    split at h
    ·exact h
    ·exact JCf h
  · rename_i hb
    have hb:b=P0:=by simpa using hb
    rw[List.lookup_cons];have ha:a≠P0:=λz=>by
     rw[z]at h;have:=JD3 (P0:=P0) (K:=r);unfold JBJ at this;rw[this]at h;cases h
    rw[show(a==b)=false from beq_eq_false_iff_ne.mpr λz=>ha (z.trans hb)];exact JCf h
theorem JJ1{P0:Addr}{K:Kq}{h:Heap}(x:K.In h):(JBJ P0 K).In h:=λa o e=>x a o (JCf e)
theorem JIz{K:Kq}{c P:Addr}{od:Option Addr}{vs:Array Value}{sl:Array (Option Value)}{file text:_}{tf tg tt:Tok}{flags:Int}{inF:Bool}(l:K.lookup c=some ⟨.type "code",od,.fields vs,sl⟩)(e1:vs[11]? = some (.ref P))(e2:vs.getD 11 .none=.ref P)(e3:vs.getD 18 .none=.str file tf)(e4:vs.getD 7 .none=.int flags tg)(e5:vs.getD 9 .none=.bool inF)(e6:vs.getD 10 .none=.int text tt)(e7:c≠P)(base:Heap)(x:K.In base):PySem.W.CodeHd base c P :=
 ⟨_,vs,file,tf,flags,tg,inF,text,tt,x _ _ l,rfl,rfl,e1,e2,e3,e4,e5,e6,e7⟩
theorem JQK{K:Kq}{h:Heap}{mg:Mq}{bm P:Addr}{sl:Array (Option Value)}(X:K.In h)(Gm:h.Ns mainGlobals mg)(e:PySem.W.nsIn K mainGlobals "__builtins__"=some (some (.ref bm)))(n1:bm≠builtinsNs)(n2:bm≠mainGlobals)(n3:bm≠P)(l:K.lookup bm=some ⟨.type "module",some builtinsNs,.plain,sl⟩)(base:Heap)(x:K.In base):base.BuiltinsAt mg P :=
 ⟨bm,_,PySem.W.mg_of X Gm e,n1,n2,n3,x _ _ l,rfl,rfl,rfl⟩
structure LawIn(K:Kq)(st:Stmt)(f c:Addr):Prop where
 ex:∃pm:Value,PySem.W.nsIn K mainGlobals "law"=some (some (.ref f))/\K.lookup f=some ⟨.type "function",none,.func (PySem.W.fnOf "law" "law" (JA8 st) (JAX st) (JAD st) .none .none .none pm none (.ref c) .none),#[]⟩/\PySem.W.codeIn K (.ref c) "law"=true/\PySem.W.keepIn K (.ref f)=true
theorem lawI{K:Kq}{st:Stmt}(f c:Addr)(pm:Value)(a:PySem.W.nsIn K mainGlobals "law"=some (some (.ref f)):=by kernel_rfl)
 (l:K.lookup f=some ⟨.type "function",none,.func (PySem.W.fnOf "law" "law" (JA8 st) (JAX st) (JAD st) .none .none .none pm none (.ref c) .none),#[]⟩:=by kernel_rfl) (cc:PySem.W.codeIn K (.ref c) "law"=true:=by kernel_rfl) (k:PySem.W.keepIn K (.ref f)=true:=by kernel_rfl):LawIn K st f c:=⟨pm,a,l,cc,k⟩
theorem toldI{st:Stmt}{d en gn cn:Str}(h:∃p1 p2 p3 p4 p5 p6 p7 p8 p9 p10,JAX st=[.Try [.Return (some (.Call (.Name d p1) [] [] p2)) p3] [.ExceptHandler (some (.Name gn p4)) (some en) [.Return (some (.Call (.Name cn p5) [.Name en p6] [] p7)) p8] p9] [] [] p10]:=by exact⟨_,_,_,_,_,_,_,_,_,_,rfl⟩)(sc:FnScope [d,en] [d] (JAD st):=by exact⟨rfl,rfl,rfl,by decide +kernel,rfl,by decide +kernel,by decide +kernel⟩)
  (ld:(JAD st).names.lookup d=some .local:=by kernel_rfl) (le:(JAD st).names.lookup en=some .local:=by kernel_rfl) (lg:(JAD st).names.lookup gn=some .globalImplicit:=by kernel_rfl) (lc:(JAD st).names.lookup cn=some .globalImplicit:=by kernel_rfl)
  (bd:JAN d=false:=by kernel_rfl) (be:JAN en=false:=by kernel_rfl) (bg:JAN gn=false:=by kernel_rfl) (bc:JAN cn=false:=by kernel_rfl):ToldD st d en gn cn:=by
 exact⟨h,sc,ld,le,lg,lc,bd,be,bg,bc⟩
theorem tu2{G:List (Str×GK)}{tn:Str}{st:Stmt}{N ps:List Str}{t:S2}(c:JCR (JCt G tn 60 (JAD st).names N) (JAX st)=some t:=by kernel_rfl)(s:FnScope N ps (JAD st):=by exact⟨rfl,rfl,rfl,by decide +kernel,rfl,by decide +kernel,by decide +kernel⟩):Turned2 G tn st N ps t:=⟨c,s⟩
section
variable{G:List (Str×GK)}{tab:Nat->Option Fd}{glo:Nat->R D}{sub:Nat->Nat->Bool}
theorem JJK[Cool G]{l:PySem.W.OpenLaw}{view:Program}{loose:List Str}{XP:(Mq)->Heap->Prop}{YP:World->Heap->Prop}{d:DefRec}{K0:Params->Kq}{cl:Nat->Addr}{rc:Nat->Addr->Hp->Prop}{rcm:RcM rc}{P0 c0 fa0:Addr}{n cg:Nat}{tn cn gn dn en xk x:Str}{st stt stc:Stmt}{N Nc:List Str}{t:S2}{fdc:Fd}
  (hn:l.most=some 63) (hname:d.name="law") (hdf:d.params.defaults=[]) (hr:Room (n+1) callerA) (hn1:1<=n) (hY:∀(w:World) (h:Heap),YP w h->(K0 w.params).In h) (hT0:∀P,(K0 P).lookup P0=some (PySem.W.tabObj #[]))
  (L:∀P,LawIn (JBJ P0 (K0 P)) st fa0 c0) (T:Turned2 G tn st N [x] t) (hbind:JFB "law" st [x]) (hC:∀(P:Params) (base:Heap),(JBJ P0 (K0 P)).In base->PySem.W.CodeHd base c0 P0)
  (hBl:∀(w:World) (h:Heap) (mg:Mq),(JBJ P0 (K0 w.params)).In h->h.Ns mainGlobals mg->∀base:Heap,(JBJ P0 (K0 w.params)).In base->base.BuiltinsAt mg P0)
  (Ft:∀P,FnIn (JBJ P0 (K0 P)) tn stt) (bt:JFB tn stt [dn]) (TD:ToldD stt dn en gn cn) (Fc:∀P,FnIn (JBJ P0 (K0 P)) cn stc) (bc:JFB cn stc [xk]) (Tc:Turned (JE6 G) stc Nc [xk] fdc) (hgc:G.lookup gn=some (.cls cg)) (hbt:JAN tn=false) (hnd:(G.map (·.1)).Nodup)
  (M:∀(w:World) (h:Heap) (mg:Mq),(JBJ P0 (K0 w.params)).In h->h.Ns mainGlobals mg->Mo mg ⟨JBJ P0 (K0 w.params),cl,w,rc,rcm⟩ G tab glo sub)
  (ra:∀(w:World) (h:Heap) (mg:Mq),(JBJ P0 (K0 w.params)).In h->h.Ns mainGlobals mg->∀n,Ra3 ⟨JBJ P0 (K0 w.params),cl,w,rc,rcm⟩ ⟨run true tab glo sub n,glo,sub⟩ G l.prog w)
  (rah:∀(w:World) (h:Heap) (mg:Mq),(JBJ P0 (K0 w.params)).In h->h.Ns mainGlobals mg->∀n,Ra3 ⟨JBJ P0 (K0 w.params),cl,w,rc,rcm⟩ ⟨run true tab glo sub n,glo,sub⟩ (JE6 G) l.prog w)
  (ok:∀ns:List Int,ns.length<=63->JAT ⟨run true tab glo sub n,glo,sub⟩ cg fdc t ([Sl.val (.list (ns.map λi=>PyData.int i))]++List.replicate (N.length - 1) Sl.no)=.rt (.bool true)) :
  PySem.W.WalkO view loose XP YP l.row.toRowW d [] (λf vs=>PySem.call f vs):=by
 refine Att.attach_call hn hdf λw s₀ s₁ mg mb fa o pm cd doc a vs ns Gr Y ho hdd hcd hmg hobj hints hlen hg=>?_;have KX0:=hY w _ Y;have KX:(JBJ P0 (K0 w.params)).In s₁.heap:=JJ1 KX0;have Gm:=Gr.T.g;obtain⟨pm',a1,a2,a3,a4⟩:=(L w.params).ex;rw[hname]at hmg;have e:=hmg.symm.trans (PySem.W.mg_of KX Gm a1);cases e;obtain⟨ft,oc,od,an,sl,kV,dc,pm2,cd2,ct,b1,b2,b3,b4⟩:=(Ft w.params).ex;have Fn:=JF0 (st:=stt) b2 b3 b4;obtain⟨fc,oc',od',an',sl',kV',dc',pm3,cd3,ct',c1,c2,c3,c4⟩:=(Fc w.params).ex;have Fn':=JF0 (st:=stc) c2 c3 c4;have Mm:=M w _ mg KX Gm;have hot:=JML hnd;refine JIU (B:=⟨JBJ P0 (K0 w.params),cl,w,rc,rcm⟩) (Gh:=JE6 G) (ft:=ft) (fc:=fc) (stt:=stt) (N:=N) (t:=t) rfl KX JD3 (KX0 _ _ (hT0 w.params)) Gm Gr.T.b Gr.T.builtins Gr.T.nolimit hg hobj hints hlen hr hn1 Mm (ra w _ mg KX Gm) (JF0 (st:=st) a2 a3 a4) T (λs u=>.of_eq (hbind _ _ _ _ _ _ [u] rfl)) rfl (hC w.params) (hBl w _ mg KX Gm) (λX e1 e2 e3 e4=>?_) (PySem.W.mg_of KX Gm b1) b4 hbt (ok ns hlen);have eB:(⟨JBJ P0 (K0 w.params),cl,w,rc,rcm⟩:Bs).K=JBJ P0 (K0 w.params):=rfl;refine⟨⟨dn,en,gn,cn,_,_,stc,Nc,[xk],TD,by rw[e1];exact Fn,by rw[e1];exact Fn.binds bt,by rw[e2];exact Mm.cl.mgc gn cg hgc,by rw[e2];exact PySem.W.mg_of KX Gm c1,by rw[e1];exact c4,by rw[e1];exact Fn',Tc,by rw[e1];exact Fn'.binds bc,rfl,Tc.slots.symm⟩,hot,?_,?_,Mm.exm gn cg hgc⟩
 ·rw[e3,e4];exact(rah w _ mg KX Gm n).ra
 ·rw[e3,e4];exact(rah w _ mg KX Gm n).rr
end
end VI
end
section
namespace VI
open PySem PySem.Spec PyProof.Rows L2
theorem JHa:typeLookup (.type "list_reverseiterator") "__len__"=pure none:=by rw[typeLookup_type,builtinLookup_eq_fast];kernel_rfl
theorem JJO:typeLookup (.type "list_reverseiterator") "__length_hint__"=pure (some (.builtin "list_reverseiterator.__length_hint__")):=by rw[typeLookup_type,builtinLookup_eq_fast];kernel_rfl
section
variable{prog:Program}{w:World}{A:Around}{E:Vq}{s:Shared}
theorem JJT{I:Addr}(hT:s.TypeIs (.ref I) "list_reverseiterator"){Q:Bool->Shared->Prop}(h:Q false s):wpAny (model prog w) A (Builtin.List.listLengthHint (.ref I)) Q E s:=by
 unfold Builtin.List.listLengthHint;refine q_b (wpAny_specialOf hT JHa ?_);show wpAny _ A (specialOf (Value.ref I) (Str.ofString "__length_hint__") >>= _) _ _ _;refine q_b (wpAny_specialOf hT JJO ?_)
 (generalize hid:("list_reverseiterator.__length_hint__":String)=id0;(fail_if_success (clear hid id0));wp_delta;rw[show splitId id0=some ("list_reverseiterator","__length_hint__") from by subst hid;decide +kernel];subst hid)
 refine q_b (wpAny_isInstance (b:=true) hT (by rw[isSubtype_type];kernel_rfl) ?_)
 exact q_e h
theorem JOQ{R:Result->Shared->Prop}{I l S:Addr}{items:Array Value}{res:Value}{c₀:Nat}(hh:A.handled=none)(hne:l≠I)(hit:s.heap.IsRevIter I l ((items.size:Int) - 1))(hl:s.heap.IsList l items)(hn:items.size<=sizeLine)
  (hSI:S≠I) (hSl:S≠l) (hS:s.heap.get? S=some { cls:=.type "list",data:=.seq #[] c₀ })
  (hR:∀h' tk acc' c',(∀b o,b≠S->b≠I->s.heap.get? b=some o->h'.get? b=some o)->h'.get? S=some { cls:=.type "list",dict:=none,data:=.seq acc' c',slots:=#[] }->ItemsOf (λi v=>items[items.size - 1 - i]? = some v) acc' items.size->R (.ok (.ret res)) { s with heap:=h',toks:=tk }) :
  wpAny (model prog w) A.in1 (Builtin.List.listExtendWith (.ref S) (.ref I) res)
    (λfin s'=>match fin with|.done f=>R (.ok f) s'|.again c'=>c'.quiet=true/\codeAny (model prog w) A c' R s') (λe s'=>R (.error e) s') s:=by
 have hSf:S ∉ [I,l]:=by simp only[q_n,List.not_mem_nil,or_false,not_or];exact⟨hSI,hSl⟩
 have W:=Walks.listRev (prog:=prog) (w:=w) (A:=A.in1) hh I l hne items;have st:0<=items.size/\s.heap.IsRevIter I l ((items.size:Int) - 1 - ((0:Nat):Int))/\s.heap.IsList l items:=⟨Nat.zero_le _,by simpa using hit,hl⟩
 unfold Builtin.List.listExtendWith;refine q_b (wpAny_typeOf (T:="list_reverseiterator") hit.typeIs ?_);have h1:Builtin.List.listSameRef (.ref S) (.ref I)=false:=by simp[Builtin.List.listSameRef,hSI]
 rw[if_neg (by rw[h1];decide)]
 refine q_b (W.self 0 s _ _ st ?_);refine q_b (wpAny_holding (JJT hit.typeIs ?_));rw[if_neg (by decide)]
 refine q_e ⟨plainId_quiet PySem.F.plain_extend_loop _,codeAny_extend_loopS W.toS hn S hSf res items.size 0 s #[] c₀ rfl (Nat.zero_le _) st hS (ItemsOf.nil _) λs' acc' c' hm hS' hacc=>?_⟩;rw[Moved.eq_with hm];refine hR s'.heap s'.toks acc' c' (λb o hb hbI e=>hm.heap b o (λhmem=>?_) e) hS' hacc;rcases q_n.mp hmem with e'|hmem
 ·exact hb e'
 ·exact hbI (List.mem_singleton.mp hmem)
theorem JER{I l:Addr}{items:Array Value}{Q:Vq}(hh:A.handled=none)(hne:l≠I)(hit:s.heap.IsRevIter I l ((items.size:Int) - 1))(hl:s.heap.IsList l items)(hn:items.size<=sizeLine)
  (hQ:∀h' tk acc' c',(∀b o,b≠I->s.heap.get? b=some o->h'.get? b=some o)->h'.get? s.heap.objs.size=some { cls:=.type "list",dict:=none,data:=.seq acc' c',slots:=#[] } ->
    ItemsOf (λi v=>items[items.size - 1 - i]? = some v) acc' items.size->Q (.ref s.heap.objs.size) { s with heap:=h',toks:=tk }) :
  wpAny (model prog w) A (call (.type "list") [.ref I]) Q E s:=by
 have hI:I<s.heap.objs.size:=by obtain⟨o,ho,_⟩:=hit;exact q_h ho
 have hL:l<s.heap.objs.size:=by obtain⟨o,ho,_⟩:=hl;exact q_h ho
 refine callType_codes (Q₁:=λo1 s1=>o1=.ref s.heap.objs.size/\s1={ s with heap:=s.heap.push { cls:=.type "list",data:=.seq #[] } }) PySem.F.called_list (PySem.F.typeCall_list_1 _) PySem.F.entry_list_init (code_list_new _ ⟨rfl,rfl⟩) λo1 s1 q1=>?_
 obtain⟨rfl,rfl⟩:=q1;have hS:(s.heap.push { cls:=.type "list",data:=.seq #[] }).get? s.heap.objs.size=some { cls:=.type "list",data:=.seq #[] }:=q_k _ rfl;refine⟨⟨_,hS,rfl⟩,PySem.F.args_list_init_2 _ _,?_⟩;show wpAny _ _ (do let old<-Builtin.List.listItems (.ref s.heap.objs.size);Builtin.List.listUpdate (.ref s.heap.objs.size) (λ_=>#[]);letGo old.toList.reverse;Builtin.List.listExtendWith (.ref s.heap.objs.size) (.ref I) .none) _ _ _
 refine q_b ?_;unfold Builtin.List.listItems;refine q_b (wpAny_seqItems hS rfl (q_e ?_));show wpAny _ _ (updateSeq s.heap.objs.size (λ_=>#[]) >>= λ_=>letGo (#[]:Array Value).toList.reverse >>= λ_=>Builtin.List.listExtendWith (.ref s.heap.objs.size) (.ref I) .none) _ _ _;refine q_b (wpAny_updateSeq hS rfl ?_);have hS2:=Heap.get?_update_self (Obj.mapSeq (λ_=>(#[]:Array Value))) hS rfl;have kp:∀b o,b≠s.heap.objs.size->s.heap.get? b=some o->((s.heap.push { cls:=.type "list",data:=.seq #[] }).update s.heap.objs.size (Obj.mapSeq (λ_=>(#[]:Array Value)))).get? b=some o :=
  λb o hb e=>(Heap.get?_update_other _ _ (Ne.symm hb)).trans (q_c _ e)
 refine q_b (wpAny_letGo ?_);refine JOQ (A:=A.in1) hh hne (hit.at λo e=>kp _ o (q_l hI) e) (hl.at λo e=>kp _ o (q_l hL) e) hn (Nat.ne_of_gt hI) (Nat.ne_of_gt hL) hS2 λh' tk acc' c' hk hS' hacc=>?_;exact⟨rfl,hQ h' tk acc' c' (λb o hb e=>hk b o (q_l (q_h e)) hb (kp b o (q_l (q_h e)) e)) hS' hacc⟩
end
section
variable{X:Cx}{pins:Pq}{σ:St}{H:Hp}{s:Shared}{h':Heap}
theorem JFo{t':Nat}{it a:Addr}{o:HO}(I:Inv X pins σ H s)(k:∀b u,b≠it->s.heap.get? b=some u->h'.get? b=some u)(f:FpOk X pins H it)(hp:s.heap.objs.size<=a)(new:ObjOk X.prog X.w (upd H a o) h' a o) :
  Inv X pins σ (upd H a o) { s with heap:=h',toks:=t' }:=by
 obtain⟨hn,hL,hfs,h1,h2,h3⟩:=f;have ha:=I.hok.fresh hp;have nit:∀b u,H b=some u->b≠it:=λb u e z=>by rw[z,hn]at e;cases e
 have na:∀b u,s.heap.get? b=some u->b≠a:=λb u e=>q_l (q_m (q_h e) hp);have kp:∀b u,H b=some u->upd H a o b=some u:=λb u e=>by rw[JAH (JAb e ha)];exact e
 refine I.step (g':=s.gens) (d':=s.drawn) (ch:=[it]) (λb hb=>?_) (λb u _ _ hc e _=>k b u (λz=>hc (by simp[z])) e) (λb u _ _ hc e _=>⟨u.slots,k b u (λz=>hc (by simp[z])) e⟩)
  (λb u _ e n=>by rw[JAH (na b u e)];exact n) (λb u hc e=>⟨u,k b u (λz=>hc (by simp[z])) e⟩) (λb xs e=>kp b _ e) (λb u v e=>kp b _ e) (λb ps e=>⟨#[],by rw[kp b _ e];simp⟩) (λm hm=>?_) (λb u e=>?_) I.bare
 ·have e:b=it:=by simpa using hb
  subst e;exact⟨h1,hL,h2,h3⟩
 ·obtain⟨ob,es,ep,ho,r⟩:=hm;exact⟨ob,es,ep,k _ ob (Ne.symm hL) ho,r⟩
 ·by_cases hb:b=a
  · subst hb;rw[JAG]at e;cases e;exact new
  · rw[JAH hb]at e
    refine(I.hok b u e).stay (λc v hc q=>k c v ?_ q) (λc q=>kp c _ q) λc xs q=>kp c _ q;rcases hc with z|z
    ·rw[z];exact nit b u e
    ·exact nit c _ z
end
section
variable{X:Cx}{B:Bs}{C:Cn}{CX:CXT}{XX:Nat->Hp->Prop}{G:List (Str×GK)}
theorem JIw(ds:List D):(∃ys,ds=[.list ys])\/(xD .rev ds=.bad/\xD .sst ds=.bad) :=
 match ds with
 | [.list ys]=>.inl ⟨ys,rfl⟩
 | []=>.inr ⟨rfl,rfl⟩
 | [.none]=>.inr ⟨rfl,rfl⟩
 | [.bool _]=>.inr ⟨rfl,rfl⟩
 | [.int _]=>.inr ⟨rfl,rfl⟩
 | [.str _]=>.inr ⟨rfl,rfl⟩
 | [.tuple _]=>.inr ⟨rfl,rfl⟩
 | [.dict _]=>.inr ⟨rfl,rfl⟩
 |a::b::r=>.inr ⟨by cases a<;>rfl,by cases a<;>first|rfl|(rename_i x;cases x<;>rfl)⟩
theorem DenL.rev{H:Hp}:∀(ds:List D) (vs:List V),DenL B H ds vs->DenL B H ds.reverse vs.reverse
 | [],vs,h=>by simp only[DenL]at h;subst h;simp only[List.reverse_nil,DenL]
 |d::ds,vs,h=>by
  simp only[DenL]at h;obtain⟨v,r,e,q,l⟩:=h;subst e;simp only[List.reverse_cons];refine DenL.append _ _ _ _ (DenL.rev ds r l) ?_;simp only[DenL];exact⟨v,[],rfl,q,rfl⟩
theorem JFw:∀ {vs:List V}{us:List Value},Vals vs us->Vals vs.reverse us.reverse
 | [],us,h=>by cases h;exact .nil
 |v::vs,us,h=>by
  cases h with
  |cons r1 r2 =>
   simp only[List.reverse_cons];exact(JFw r2).append (.cons r1 .nil)
theorem JHB{its:List Value}{acc:Array Value}(h:ItemsOf (λi v=>its.toArray[its.toArray.size - 1 - i]? = some v) acc its.toArray.size):acc=its.reverse.toArray:=by
 apply Array.ext
 ·rw[h.1];simp
 ·intro i h1 h2;have e:=h.2 i acc[i] (Array.getElem?_eq_getElem h1);have hs:acc.size=its.length:=by rw[h.1];simp
  simp only[q_f,List.getElem?_toArray]at e;have h3:its.length - 1 - i<its.length:=by omega
  rw[q_q h3]at e;simp only[q_j]at e;simp only[List.getElem_toArray,List.getElem_reverse];exact e.symm
noncomputable def RvO(X:Cx)(p l:Addr)(n:Nat):HO:=.ext λh=>X.s₀.heap.objs.size<=p/\h.IsRevIter p l ((n:Int) - 1)
theorem JCw:JBm X (.type "reversed") (λxs H Q=>∃l ys,xs=[.ref l]/\SqL X.K H l ys/\∀p,H p=none->Q (.ref p) (upd H p (RvO X p l ys.length))):=by
 intro pins s σ H xs us Q I r ⟨l,ys,e,hq,q⟩;subst e;cases r with
 |cons ra rb =>
  cases rb;cases ra;obtain⟨its,rv,pl,hz⟩:=I.list hq;have hl:=rv.length;refine call_reversed_list pl.isList ?_;refine⟨.ref s.heap.objs.size,_,I.laid (t':=s.toks) (λb o e=>q_c _ e) (q_t _) (o:=RvO X s.heap.objs.size l ys.length) ?_,rfl,q _ I.fresh⟩;have e1:((its.toArray.size:Nat):Int) - 1=(ys.length:Int) - 1:=by rw[q_f,hl]
  rw[e1];exact⟨⟨I.sz,_,q_k _ rfl,rfl,rfl⟩,⟨_,q_k _ rfl⟩,λh1 h2 z k=>⟨z.1,z.2.at k⟩⟩
theorem forget{pins:Pq}{σ:St}{H1:Hp}{s:Shared}{p:Addr}{φ:Heap->Prop}(I:Inv X pins σ (upd H1 p (.ext φ)) s)(h1:H1 p=none)(hs:X.s₀.heap.objs.size<=p):Inv X pins σ H1 s/\FpOk X pins H1 p:=by
 have hp:upd H1 p (.ext φ) p=some (.ext φ):=JAG;have no:∀b,upd H1 p (.ext φ) b=none->b≠p:=λb e z=>by rw[z,hp]at e;cases e
 have f:FpOk X pins H1 p:=by
  refine⟨h1,λz=>no _ I.free z.symm,λhb=>?_,.inr hs,λx c e=>no _ (I.freeC x c e),λq hq=>no _ (I.pin q hq).2.1⟩;obtain⟨_,o,ho,_⟩:=I.ok.funs.mem hb;exact absurd (q_m (q_h ho) hs) (Nat.lt_irrefl _)
 have dn:∀b u,upd H1 p (.ext φ) b=some u->u≠.ext φ->H1 b=some u:=λb u e ne=>by
  by_cases hb:b=p
  · rw[hb,hp]at e;cases e;exact absurd rfl ne
  · rw[JAH hb]at e;exact e
 refine⟨?_,f⟩;refine I.step (g':=s.gens) (d':=s.drawn) (t':=s.toks) (h':=s.heap) (ch:=[]) (λ_ z=>nomatch z) (λb u _ _ _ e _=>e) (λb u _ _ _ e _=>⟨u.slots,e⟩)
  (λb u _ e n=>by rw[JAH (no b n)]at n;exact n) (λb u _ e=>⟨u,e⟩) (λb xs e=>dn b _ e (by simp)) (λb u v e=>dn b _ e (by simp)) (λb ps e=>⟨#[],by rw[dn b _ e (by simp)];simp⟩) (λm hm=>hm) (λb u e=>?_) I.bare
 have hb:b≠p:=λz=>by rw[z,h1]at e;cases e
 exact(I.hok b u (by rw[JAH hb];exact e)).stay (λc v _ q=>q) (λc q=>dn c _ q (by simp)) λc xs q=>dn c _ q (by simp)
theorem JDf(hc:X.calm=true):JBm X (.type "list") (λxs H Q=>∃p l ys H1,xs=[.ref p]/\H=upd H1 p (RvO X p l ys.length)/\H1 p=none/\SqL X.K H1 l ys/\∀q,H1 q=none->Q (.ref q) (upd H1 q (.lst ys.reverse))):=by
 intro pins s σ H xs us Q I r ⟨p,l,ys,H1,e,eH,h1,hq,q⟩;subst e;subst eH;cases r with
 |cons ra rb =>
  cases rb;cases ra;obtain⟨⟨hs,hit⟩,_,_⟩:=I.hok p _ JAG;obtain⟨I1,f⟩:=forget I h1 hs;obtain⟨its,rv,pl,hz⟩:=I1.list hq;have hl:=rv.length;have hne:l≠p:=λz=>by
   subst z;obtain⟨o,ho,c1,_⟩:=pl.isList;obtain⟨o',ho',c2,_⟩:=hit;rw[ho]at ho';cases ho';rw[c1]at c2;exact absurd (Value.type.inj c2) (by decide)
  have hsz:its.toArray.size=ys.length:=by rw[q_f];exact hl.symm
  refine JER (items:=its.toArray) (I.ok.hd hc) hne (by rw[hsz];exact hit) pl.isList (by rw[hsz];exact hz) λh' tk acc' c' hk hS hacc=>?_
  have ea:=JHB hacc;subst ea;exact⟨.ref s.heap.objs.size,_,JFo I1 (λb o hb e=>hk b o hb e) f (q_t _) (show ObjOk X.prog X.w _ h' _ (.lst ys.reverse) from⟨by simpa using hz,its.reverse,c',JFw rv,hS⟩),rfl,q _ I1.fresh⟩
noncomputable def Itv(K:Kq)(a:Addr)(n:Nat):It :=
 ⟨λi H=>∃xs,SqL K H a xs/\xs.length=n/\i<n,λi H x H'=>H'=H/\∀xs,SqL K H a xs->xs.length=n->xs[n - 1 - i]? = some x,λi H=>n<=i⟩
theorem JJ7{P:Program}{w:World}{K:Kq}{tg:Expr}(a it:Addr)(n:Nat):Turn P w K tg (Itv K a n) [it] it (λi h=>i<=n/\h.IsRevIter it a ((n:Int) - 1 - (i:Int))) where
 mem:=by simp
 obj:=λi h st b hb=>by
  have e:b=it:=by simpa using hb
  subst e;obtain⟨_,o,e,c,d⟩:=st;exact⟨o,e,λv z=>by rw[d]at z;cases z⟩
 keep:=λi h h' st k=>⟨st.1,st.2.at λo e=>k it (by simp) o e⟩
 item:=by
  intro X hP hw hK hc i pins s σ H E I hf st hg;subst hP hw hK;obtain⟨xs,hq,hn,hi⟩:=hg;obtain⟨its,rv,p,hz⟩:=I.list hq;have hlt:n - 1 - i<xs.length:=by omega
  obtain⟨u,hu,ru⟩:=rv.get (q_q hlt);obtain⟨f0,f1,f2,f3,f4,f5⟩:=hf it (by simp)
  have hit:=st.2;rw[show(n:Int) - 1 - (i:Int)=((n - 1 - i:Nat):Int) by omega]at hit
  refine wpAny_pyNext_rev_item hit p.isList (x:=u) (by simpa using hu) λh' st' sb=>?_
  have I1:Inv X pins σ H { s with heap:=h' }:=I.turned (t':=s.toks) (λb o hb e=>(sb.2 b hb).trans e) f0 f1 f3 f4 f5
  have st2:h'.IsRevIter it a ((n:Int) - 1 - ((i+1:Nat):Int)):=by
   rw[show(n:Int) - 1 - ((i+1:Nat):Int)=((n - 1 - i:Nat):Int) - 1 by omega];exact st'
  obtain⟨o,e,c,d⟩:=id st';exact⟨u,rfl,JKT (s:={ s with heap:=h' }) e c d (by decide) ⟨xs[n - 1 - i],H,I1,ru,⟨rfl,λys hy _=>by rw[I.list_inj hy hq];exact q_q hlt⟩,⟨hi,st2⟩,λb hb=>(hf b hb).1⟩⟩
 done:=by
  intro X hP hw hK hc i pins s σ H E I hf st hg;subst hP hw hK;obtain⟨f0,f1,f2,f3,f4,f5⟩:=hf it (by simp)
  have hg:n<=i:=hg;have hit:=st.2;rw[show(n:Int) - 1 - (i:Int)=-1 by have:=st.1;omega]at hit
  exact wpAny_pyNext_rev_end (I.ok.hd hc) hit λh' eb=>⟨rfl,I.turned (t':=s.toks) (λb o hb e=>eb b o hb e) f0 f1 f3 f4 f5⟩
 self:=λ_ _ _ _ _ st h=>wpAny_pyIter_revIter st.2 h
theorem JJe{H:Hp}{a:Addr}{ds:List D}{xs:List V}(q:SqL B.K H a xs)(l:DenL B H ds xs):ItOk B (Itv B.K a xs.length) H ds.reverse:=by
 intro H2 s2 i;have q2:=s2.seq q;have el:=DenL.len ds xs l;refine⟨λd e=>?_,λh=>by rw[List.length_reverse,el]at h;exact h⟩
 have hi:i<ds.length:=by
  have:=(q_p.mp e).1;simpa using this
 rw[List.getElem?_reverse hi]at e;obtain⟨v,e1,dn⟩:=DenL.get ds xs _ d l e;refine⟨⟨xs,q2,rfl,by omega⟩,λx H3 y=>?_⟩
 obtain⟨e3,y⟩:=y;have:=y xs q2 rfl;rw[<-el,e1]at this;cases this;exact .inl ⟨e3,dn⟩
theorem JBP{it:Bool}(h:JHZ G names it f a=some (k,args)) :
  (k=.rev/\it=false/\∃b r p pos,args=[b]/\f="list"/\glob G names f=some (.ty .list)/\a=.Call (.Name r p) [b] [] pos/\r="reversed"/\glob G names r=some .nam) \/
  (k=.sst/\f="sorted"/\glob G names f=some .nam/\∃b r p pos,args=[b]/\a=.Call (.Name r p) [b] [] pos/\r="set"/\glob G names r=some .nam) \/
  (k=.rev/\it=true/\args=[a]/\f="reversed"/\glob G names f=some .nam):=by
 unfold JHZ at h
 split at h
 ·rename_i r p b pos
  split at h
  · rename_i q
    cases h;exact .inl ⟨rfl,q.1,b,r,p,pos,rfl,q.2.1,q.2.2.1,rfl,q.2.2.2.1,q.2.2.2.2⟩
  · split at h
    ·rename_i q;cases h;exact .inr (.inl ⟨rfl,q.1,q.2.1,b,r,p,pos,rfl,rfl,q.2.2.1,q.2.2.2⟩)
    ·cases h
 ·split at h
  · rename_i q
    cases h;exact .inr (.inr ⟨rfl,q.1,rfl,q.2.1,q.2.2⟩)
  · cases h
theorem JKt(g:Gk X B C CX XX G){b:Expr}{p pos:Pos}{t:TA}(hg:glob G X.env.scope.names "reversed"=some .nam)(ha:PA X [b] t)(he:starEach [b] X.env=[(false,eval b X.env)]) :
  PE X (.Call (.Name "reversed" p) [b] [] pos) (tCB (λxs H Q=>∃l ys,xs=[.ref l]/\SqL X.K H l ys/\∀p,H p=none->Q (.ref p) (upd H p (RvO X p l ys.length))) t):=by
 obtain⟨_,h2,h3⟩:=JA3 hg;exact JCT (es:=[]) JCw h2 (g.nam _ h3) (by decide +kernel) ha (by decide) (by decide) he rfl
theorem x_rev[Cool G]:XOk B C CX G .rev where
 val:=by
  intro X XX g e args y h _ ha hs hc;unfold xRaw at h
  split at h
  ·rename_i f p a pos;rcases JBP h with ⟨_,_,b,r,p2,pos2,rfl,rfl,h1,rfl,rfl,h2⟩|⟨z,_⟩|⟨_,z,_⟩
   rotate_left
   ·cases z
   ·cases z
   obtain⟨_,h3,h4⟩:=JA3 h1;refine PE.imp (JCT (es:=[]) (JDf (g.calm inferInstance)) h3 (g.ty _ _ h4) (by decide +kernel) (JBG (JKt g h2 ha (hs b (by simp) [] X.env)) JBp rfl) (by decide) (by decide) rfl rfl) λσ H Q ⟨δ,ok,k⟩=>?_
   simp only[ev]at k;refine RA.of (W:=λr H=>KE B XX r H Q) ok (λ_ _ z=>z) (λ_ z=>z) k λds vs H1 s1 d1 k1=>?_;have k1:=KE.mono g s1 k1;rcases JIw ds with ⟨ys,rfl⟩|⟨b1,b3⟩
   rotate_left
   ·rw[b1]at k1;exact fF k1
   ·simp only[DenL,Den]at d1;obtain⟨v,r,e,⟨q,us,e1,sq,l⟩,e2⟩:=d1;subst e2;subst e1;subst e;refine⟨q,us,rfl,g.K▸sq,λp' hp=>⟨p',q,us,H1,rfl,rfl,hp,g.K▸sq,λp3 hp3=>?_⟩⟩;have sm:Same H1 (upd H1 p3 (.lst us.reverse)):=JBE hp3;refine k1 _ _ sm ?_;simp only[Den];exact⟨p3,_,rfl,SqL.of JAG,DenL.mono sm _ _ (DenL.rev _ _ l)⟩
  all_goals first|(cases h;done)|(split at h<;>cases h)
 itr:=by
  intro X XX g tg e args y h ha hs hc;unfold xRaw at h
  split at h
  ·rename_i f p a pos;rcases JBP h with ⟨_,z,_⟩|⟨z,_⟩|⟨_,_,rfl,rfl,h2⟩
   ·cases z
   ·cases z
   intro pins s σ H R I ⟨δ,ok,k⟩;simp only[evI]at k;refine thn (JKt g h2 ha (hs a (by simp) [] X.env) pins s σ H (λv H2=>∃(p l:Addr) (ys:List V) (H1:Hp),v=.ref p/\H2=upd H1 p (RvO X p l ys.length)/\H1 p=none/\R (Itv X.K l ys.length) H1) I ?_) λv s1 ⟨x,H2,I2,rx,p',l,ys,H1,e1,e2,h1,hR⟩=>?_
   ·refine RA.of (W:=λr H=>KI B XX r H R) ok (λ_ _ z=>z) (λ_ z=>z) (by
     cases q:evA C y δ with
     |ok ds=>rw[q]at k;exact k
     |exc c=>rw[q]at k;exact k
     |bad=>rw[q]at k;exact k) (f:=λds=>(xD .rev ds).bind JAc) λds vs H1 s1 d1 k1=>?_
    rcases JIw ds with ⟨ys,rfl⟩|⟨b1,b3⟩
    rotate_left
    ·rw[b1]at k1;exact fF k1
    ·simp only[DenL,Den]at d1;obtain⟨v,r,e,⟨q,us,e1,sq,l⟩,e2⟩:=d1;subst e2;subst e1;subst e;refine⟨q,us,rfl,g.K▸sq,λp' hp=>⟨p',q,us,H1,rfl,rfl,hp,?_⟩⟩;rw[g.K];exact k1 _ _ s1 (JJe sq l)
   ·subst e1;subst e2;cases rx;obtain⟨⟨hs',hit⟩,_,_⟩:=I2.hok p' _ JAG;obtain⟨I1,f⟩:=forget I2 h1 hs';exact wpAny_pyIter_revIter hit ⟨p',[p'],_,_,H1,rfl,I1,JJ7 l p' ys.length,⟨Nat.zero_le _,by simpa using hit⟩,λb hb=>by rw[List.mem_singleton.mp hb];exact f,hR⟩
  all_goals first|(cases h;done)|(split at h<;>cases h)
end
end VI
end
section
namespace VI
open PySem PySem.Spec PyProof.Rows L2
namespace Ft
theorem JJk:Manifest.owners.lookup (String.ofList ['r','o','t','a','r','e','t','i','_','t','e','s'].reverse)=some Manifest.sig_set_iterator:=by kernel_rfl
theorem slot_si_next:Slot "set_iterator" "__next__" "set_iterator.__next__" :=
 .of (owner:="set_iterator") (n:="__next__") (by rw[typeLookup_type,builtinLookup_eq_fast];kernel_rfl) (by decide +kernel) (by decide +kernel) (by decide +kernel)
  (by first|exact .inl (by decide +kernel)|exact .inr (by decide +kernel)) (by rw[isSubtype_type];kernel_rfl)
theorem entry_si_next:entryFor table "set_iterator.__next__"=some Builtin.«set_iterator.__next__»:=entryFor_of_tree (by kernel_rfl)
theorem args_si_next_1(a:Value):argsOk "set_iterator.__next__" ⟨[a],[]⟩:=by
 unfold argsOk;rw[signature?_of (id:="set_iterator.__next__") (n:=['_','_','t','x','e','n','_','_']) (o:=['r','o','t','a','r','e','t','i','_','t','e','s']) (by kernel_rfl) JJk];kernel_rfl
theorem owner_set:Manifest.owners.lookup (String.ofList ['t','e','s'].reverse)=some Manifest.sig_set:=by kernel_rfl
theorem slot_set_iter:Slot "set" "__iter__" "set.__iter__" :=
 .of (owner:="set") (n:="__iter__") (by rw[typeLookup_type,builtinLookup_eq_fast];kernel_rfl) (by decide +kernel) (by decide +kernel) (by decide +kernel)
  (by first|exact .inl (by decide +kernel)|exact .inr (by decide +kernel)) (by rw[isSubtype_type];kernel_rfl)
theorem args_set_iter_1(a:Value):argsOk "set.__iter__" ⟨[a],[]⟩:=by
 unfold argsOk;rw[signature?_of (id:="set.__iter__") (n:=['_','_','r','e','t','i','_','_']) (o:=['t','e','s']) (by kernel_rfl) owner_set];kernel_rfl
theorem entry_set_iter:entryFor table "set.__iter__"=some Builtin.«frozenset.__iter__» :=
 entryFor_alias (id':="frozenset.__iter__") (by kernel_rfl) (by first|rfl|decide +kernel|(unfold String.splitOn;simp +decide [String.splitOnAux])) (by decide +kernel) (by kernel_rfl)
theorem len_set:typeLookup (.type "set") "__len__"=pure (some (.builtin "set.__len__")):=by rw[typeLookup_type,builtinLookup_eq_fast];kernel_rfl
end Ft
section
variable{prog:Program}{w:World}{A:Around}{E:Vq}{s:Shared}{I a:Addr}
def byT(w:World):Bool:=w.params.followText "set-order"
def emO(w:World):Obj:={ cls:=.type "set",dict:=none,data:=.set #[] 0 (.fresh 0 0 (!byT w)) }
def emI(a:Addr):Obj:={ cls:=.type "set_iterator",data:=.fields #[rawInt 0,rawInt 0,.ref a,rawInt 0,rawInt 0] }
theorem JCq{Q:Bool->Shared->Prop}(h:Q (byT w) s):wpAny (model prog w) A setsByText Q E s:=by
 unfold setsByText;exact q_b (wpAny_askSetting (q_e h))
theorem JJf(hh:A.handled=none){Q:Option Value->Shared->Prop}(hQ:∀h',(∀b o,h1.get? b=some o->h'.get? b=some o)->Q none { s with heap:=h' }) :
  wpAny (model prog w) A.in1 (do raiseNew (<-newExc (.type "StopIteration") []))
   (λr s'=>∃v,r=PySem.Fin.done (Flow.ret v)/\wpAny (model prog w) A (pure (some v)) Q E s')
   (λe s'=>wpAny (model prog w) A (do if (<-isInstance e (.type "StopIteration"))=true then pure none else throw e) Q E s') { s with heap:=h1 }:=by
 refine q_b ?_;simp only[newExc,newTuple];refine q_b (wpAny_newObj_type ?_ (by size_fits))
 refine q_b (m:=firstArgMember _ _) (wpAny_of_eq (a:=Value.none) (by first|rfl|(simp only[firstArgMember];rfl)) ?_)
 refine wpAny_newObj_type ?_ (by size_fits)
 simp only[raiseNew];refine q_b (wpAny_handled ?_)
 first|rw[show A.in1.handled=none from hh]|rw[hh]
 refine q_b (q_e (wpAny_throw ?_));refine q_b (wpAny_isInstance (T:="StopIteration") (b:=true) ⟨_,q_k _ rfl,rfl⟩ isSubtype_stop ?_);exact q_e (hQ _ λb o e=>q_c _ (q_c _ e))
theorem JJS{Q:(Array (Int×Value)×Nat×SetTable)->Shared->Prop}(hs:s.heap.get? a=some (emO w))(h:Q (#[],0,.fresh 0 0 (!byT w)) s):wpAny (model prog w) A (setState a) Q E s:=wpAny_setState_of hs rfl rfl h
theorem JMY{Q:Option (Value×Nat)->Shared->Prop}(hs:s.heap.get? a=some (emO w))(h:Q none s):wpAny (model prog w) A (setNext a 0 0 0) Q E s:=by
 unfold setNext;refine q_b (JJS hs ?_)
 dsimp only
 refine q_b (JCq ?_);cases hB:byT w with
 |true =>
  rw[if_pos rfl,if_neg (by simp)]
  refine q_b ?_;unfold setWalk;refine q_b (JJS hs ?_)
  dsimp only
  refine q_b (JCq ?_);rw[hB,if_pos rfl];refine q_b (wpAny_askSetting (q_e ?_));exact q_e h
 |false =>
  rw[if_neg (by decide)]
  split
  ·rename_i hx;have hx:(!(SetTable.fresh 0 0 true).plain&&decide ((#[]:Array (Int×Value)).size > 1))=true:=hx;simp at hx
  ·refine q_b (q_e ?_);exact q_e h
theorem JQU{Q:Option Value->Shared->Prop}(hh:A.handled=none)(hi:s.heap.get? I=some (emI a))(hs:s.heap.get? a=some (emO w))
  (hQ:∀h',(∀b o,b≠I->s.heap.get? b=some o->h'.get? b=some o)->Q none { s with heap:=h' }):wpAny (model prog w) A (pyNext (.ref I)) Q E s:=by
 have ty:s.TypeIs (.ref I) "set_iterator":=⟨_,hi,rfl⟩;unfold pyNext;refine q_b (wpAny_attempt (wpAny_callSpecial?_slot (name:=Str.ofString "__next__") ty Ft.slot_si_next
  (wpAny_call_entry Ft.slot_si_next ty Ft.entry_si_next ?_ (Ft.args_si_next_1 _))))
 unfold Builtin.«set_iterator.__next__»;refine q_b (wpAny_of_eq (a:=(Value.ref I,[])) rfl ?_)
 try dsimp only
 refine q_b (wpAny_fieldsOf hi rfl ?_);show wpAny _ _ (setEntries a >>= _) _ _ s;refine q_b (wpAny_setEntries_of hs rfl rfl ?_);rw[if_neg (by simp)]
 show wpAny _ _ (setNext a 0 0 0 >>= _) _ _ s;refine q_b (JMY hs ?_)
 dsimp only
 refine q_b (wpAny_setField hi rfl (by simp) ?_)
 refine JJf hh λh' hk=>hQ h' λb o hb e=>hk b o ?_;exact((Heap.SameBut.update s.heap I _).2 b hb).trans e
theorem JMX(hs:s.heap.get? a=some (emO w)){Q:Vq}(h:Q (.ref s.heap.objs.size) { s with heap:=s.heap.push (emI a) }):wpAny (model prog w) A (pyIter (.ref a)) Q E s:=by
 have hT:s.TypeIs (.ref a) "set":=⟨_,hs,rfl⟩;refine wpAny_pyIter_slot hT Ft.slot_set_iter (wpAny_call_entry Ft.slot_set_iter hT Ft.entry_set_iter ?_ (Ft.args_set_iter_1 _));unfold Builtin.«frozenset.__iter__»;refine q_b (wpAny_of_eq (a:=a) rfl ?_);refine q_b ?_;unfold Builtin.Frozenset.sizeOf;refine q_b (wpAny_setEntries_of hs rfl rfl (q_e ?_));refine q_b ?_;unfold setDrawn;refine q_b (JJS hs ?_)
 dsimp only
 refine q_b (JCq (q_e ?_));show wpAny _ _ (if (!byT w&&(!(SetTable.fresh 0 0 (!byT w)).plain&&decide ((#[]:Array (Int×Value)).size > 1)))=true then _ else _) _ _ _;rw[if_neg (by simp)]
 refine q_b (q_e ?_);refine q_b ?_;unfold setEpoch;refine q_b (JJS hs (q_e ?_));refine q_b (m:=newFields _ _) (wpAny_newObj_type ?_ (by size_fits))
 exact q_e ⟨_,rfl,"set_iterator",_,⟨_,q_k _ rfl,rfl⟩,Ft.slot_si_next.lookup,h⟩
abbrev hL(s:Shared):Heap:=s.heap.push { cls:=.type "list",data:=.seq ([]:List Value).toArray }
theorem itep{α:Type}{c:Prop}[Decidable c]{m1 m2:Sem α}{Q:α->Shared->Prop}(hc:c)(h:wpAny (model prog w) A m1 Q E s):wpAny (model prog w) A (if c then m1 else m2) Q E s:=by rw[if_pos hc];exact h
theorem JKW(hT:s.TypeIs (.ref a) "set"){Q:Bool->Shared->Prop}(h:Q false s):wpAny (model prog w) A (Builtin.List.listLengthHint (.ref a)) Q E s:=by
 unfold Builtin.List.listLengthHint;refine q_b (wpAny_specialOf hT Ft.len_set ?_)
 (generalize hid:("set.__len__":String)=id0;(fail_if_success (clear hid id0));wp_delta;rw[show splitId id0=some ("set","__len__") from by subst hid;decide +kernel];subst hid)
 refine q_b (wpAny_isInstance (b:=true) hT (by rw[isSubtype_type];kernel_rfl) ?_)
 rw[if_neg (by decide)]
 dsimp only
 refine itep (by decide +kernel) ?_
 refine q_b (wpAny_typeOf hT ?_);exact q_e h
theorem JGr{Q:List Value->Shared->Prop}(hh:A.handled=none)(hs:s.heap.get? a=some (emO w))
  (hQ:∀h',s.heap.objs.size<=h'.objs.size->(∀b o,s.heap.get? b=some o->h'.get? b=some o)->Q [] { s with heap:=h' }):wpAny (model prog w) A (collect (.ref a)) Q E s:=by
 unfold collect;have hlt:a<s.heap.objs.size:=q_h hs;have hsz:(hL s).objs.size=s.heap.objs.size+1:=Heap.size_push _ _;refine q_b (wpAny_runValue (codeAny_builtin PySem.F.entry_proto_collect ?_));rw[Around.under_plainId PySem.F.plain_proto_collect _];show wpAny _ A.in1 (newList [] >>= λl=>again (.builtin "list.__iadd__" ⟨[l,.ref a],[]⟩)) _ _ s;refine q_b (wpAny_newObj_type ?_);refine q_e ⟨plainId_quiet PySem.F.plain_list_iadd _,codeAny_builtin PySem.F.entry_list_iadd ?_⟩;rw[Around.under_plainId PySem.F.plain_list_iadd _];show wpAny _ A.in1 (Builtin.List.listExtendWith (.ref s.heap.objs.size) (.ref a) (.ref s.heap.objs.size)) _ _ _;unfold Builtin.List.listExtendWith;have hs1:(hL s).get? a=some (emO w):=q_c _ hs;refine q_b (wpAny_typeOf ⟨_,hs1,rfl⟩ ?_);have h1:Builtin.List.listSameRef (.ref s.heap.objs.size) (.ref a)=false:=by simp[Builtin.List.listSameRef,Nat.ne_of_gt hlt]
 have h2:(Value.type "set"==Value.type "list")=false:=by decide
 have h3:(Value.type "set"==Value.type "tuple")=false:=by decide
 simp only[h1,h2,h3,Bool.or_false,q_v,if_false];refine q_b (JMX hs1 ?_);have hs2:((hL s).push (emI a)).get? a=some (emO w):=q_c _ hs1;refine q_b (wpAny_holding (JKW ⟨_,hs2,rfl⟩ ?_));refine itep (by decide +kernel) ?_
 have hS:((hL s).push (emI a)).get? s.heap.objs.size=some { cls:=.type "list",data:=.seq ([]:List Value).toArray }:=q_c _ (q_k _ rfl);refine q_b (wpAny_rule ?_);refine q_b ?_;show wpAny _ A.in1 (updateSeq s.heap.objs.size (·.push .none) >>= λ_=>updateSeq s.heap.objs.size (·.pop)) _ _ _;refine q_b (wpAny_updateSeq hS rfl ?_);have hS₂:=Heap.get?_update_self (Obj.mapSeq (·.push Value.none)) hS rfl;refine wpAny_updateSeq hS₂ rfl ?_;have hS₃:=Heap.get?_update_self (Obj.mapSeq (·.pop)) hS₂ rfl;have oth:∀b o,b≠s.heap.objs.size->((hL s).push (emI a)).get? b=some o->((((hL s).push (emI a)).update s.heap.objs.size (Obj.mapSeq (·.push Value.none))).update s.heap.objs.size (Obj.mapSeq (·.pop))).get? b=some o :=
  λb o hb e=>(Heap.get?_update_other _ _ (Ne.symm hb)).trans ((Heap.get?_update_other _ _ (Ne.symm hb)).trans e)
 refine q_e ⟨plainId_quiet PySem.F.plain_extend_loop _,codeAny_builtin PySem.F.entry_extend_loop ?_⟩;rw[Around.under_plainId PySem.F.plain_extend_loop _];show wpAny _ A.in1 (pyNext (.ref (hL s).objs.size) >>= _) _ _ _;refine q_b (JQU (a:=a) hh (oth _ _ (by rw[hsz];exact Nat.ne_of_gt (Nat.lt_succ_self _)) (q_k _ rfl)) (oth _ _ (q_l hlt) hs2) λh' hk=>?_)
 refine q_e ?_;show wpAny _ A (load s.heap.objs.size >>= _) _ _ _;have hl:=hk _ _ (by rw[hsz];exact q_l (Nat.lt_succ_self _)) hS₃
 refine q_b (wpAny_load hl ?_);refine q_e (hQ h' (Nat.le_of_lt (q_h hl)) λb o e=>?_);have hb:=q_h e;exact hk b o (by rw[hsz];exact q_l (q_E hb)) (oth b o (q_l hb) (q_c _ (q_c _ e)))
theorem JNB(x:Value)
  (h:Q₁ (.ref s.heap.objs.size) { s with heap:=s.heap.push (emO w) }) :
  codeAny (model prog w) A (.call (.builtin "set.__new__") ⟨[.type "set",x],[]⟩) (wants Q₁ E) s:=by
 refine codeAny_of_tree ?_;show wpAny _ A.in1 (do checkBuiltinCall "set.__new__" ⟨[.type "set",x],[]⟩;again (.builtin "set.__new__" ⟨[.type "set",x],[]⟩)) _ _ s
 refine q_b (wpAny_of_eq (PySem.F.newCall_set_1 x) (q_e ⟨plainId_quiet PySem.F.plain_set_new _,codeAny_builtin PySem.F.entry_set_new ?_⟩));rw[Around.under_plainId PySem.F.plain_set_new _];unfold Builtin.«set.__new__» Builtin.Frozenset.newClass;have hsub:=sub_set_self;obtain⟨hp,g,d,tk,os⟩:=s
 dsimp only
 wp_walk
 refine wpAny_askSetting (q_e ?_)
 dsimp only
 simp only[newObj];refine q_b (wpAny_alloc (q_e ?_));exact q_e h
set_option maxHeartbeats 3200000 in
theorem call_set_0{l:Addr}{Q:Vq}
  (hh:A.handled=none) (hl:s.heap.IsList l #[])
  (h:∀(h':Heap) (tk:Nat),h'.get? s.heap.objs.size=some (emO w)->(∀b o,b<s.heap.objs.size->s.heap.get? b=some o->h'.get? b=some o)->Q (.ref s.heap.objs.size) { s with heap:=h',toks:=tk }) :
  wpAny (model prog w) A (call (.type "set") [.ref l]) Q E s:=by
 obtain⟨c,tl,hmro⟩:=PySem.F.called_set.mro;have hmade:=PySem.F.called_set.made;have hsub:=PySem.F.called_set.sub;refine wpAny_call (codeAny_of_tree ?_);show wpAny _ _ (callAny (.type "set") _) _ _ _;refine q_e ⟨Code.quiet_builtin _ (by decide +kernel),codeAny_builtin PySem.F.entry_type_call ?_⟩
 rw[Around.under_plain (weight_type_call_type "set" [.ref l] []) rfl];have h1:=PySem.F.called_set.notType;have h2:=PySem.F.called_set.canCreate;have hct:=PySem.F.typeCall_set_1 (.ref l)
 repeat (any_goals (first|assumption|wp_step))
 refine codeAny_mono (JNB (.ref l) (E:=E) (Q₁:=λobj s₁=>obj=.ref s.heap.objs.size/\s₁={ s with heap:=s.heap.push (emO w) }) ⟨rfl,rfl⟩) λr s₁ hr=>?_
 cases r with
 |error e=>exact hr
 |ok fl =>
  cases fl with
  |ret obj =>
    obtain⟨rfl,rfl⟩:=hr;have hS:(s.heap.push (emO w)).get? s.heap.objs.size=some (emO w):=q_k _ rfl;have hT:Shared.TypeIs { s with heap:=s.heap.push (emO w) } (.ref s.heap.objs.size) "set":=⟨_,hS,rfl⟩
    have hli:=PySem.F.called_set.init.lookup;have hbi:=PySem.F.called_set.init.bind (.ref s.heap.objs.size)
    repeat (any_goals (first|assumption|wp_step))
    refine codeAny_mono (codeAny_call_builtin (R:=wants (λr s₂=>r=.none/\∃h' tk,s₂={ s with heap:=h',toks:=tk }/\h'.get? s.heap.objs.size=some (emO w) /\
      (∀b o,b<s.heap.objs.size->s.heap.get? b=some o->h'.get? b=some o)) E) PySem.F.called_set.init.plain PySem.F.entry_set_init (check_set_init_1 hT ?_)) λr₂ s₂ hr₂=>?_
    ·obtain⟨ol,hol,hcl,nl,hdl⟩:=hl;obtain⟨ocls,odict,odata,oslots⟩:=ol;simp only at hcl hdl;subst hcl;subst hdl;have hol':(s.heap.push (emO w)).get? l=some { cls:=.type "list",dict:=odict,data:=.seq #[] nl,slots:=oslots }:=q_c _ hol;have hsls:=PySem.F.sub_list_set;have hslf:=PySem.F.sub_list_frozenset;have hne:(Value.type "list"==Value.type "dict")=false:=by decide
     have hl1:(s.heap.push (emO w)).IsList l #[]:=⟨_,hol',rfl,nl,rfl⟩;unfold Builtin.«set.__init__» noKeywords Builtin.Frozenset.updateFrom;generalize hPI:pyIter=PI
     wp_walk
     subst hPI;refine wpAny_pyIter_list hl1 ?_;refine q_b (wpAny_runValue ?_);have hlS:l<s.heap.objs.size:=q_h hol;have hh3:A.in1.in1.in1.handled=none:=by simp[hh]
     have hneI:l≠(s.heap.push (emO w)).objs.size:=by
      rw[Heap.size_push];exact q_l (q_E hlS)
     have hSf:s.heap.objs.size ∉ [(s.heap.push (emO w)).objs.size,l]:=by
      rw[Heap.size_push];simp only[q_n,List.mem_singleton,List.not_mem_nil,or_false,not_or];exact⟨q_l (Nat.lt_succ_self _),Nat.ne_of_gt hlS⟩
     refine codeAny_builtin PyProof.Rows.F.entry_set_update_loop ?_;rw[Around.under_plainId PyProof.Rows.F.plain_set_update_loop _];show wpAny _ _ (pyNext (.ref _) >>= _) _ _ _;refine q_b ((Walks.list hh3 _ l hneI #[]).toS.done _ _ _ ⟨⟨_,q_k _ rfl,rfl,rfl⟩,(hl1.push _)⟩ λs' hm=>?_);obtain⟨h',g',d',tk',os'⟩:=s';have eg:g'=s.gens:=hm.gens;have ed:d'=s.drawn:=hm.drawn;have eo:os'=s.os:=hm.os;subst eg;subst ed;subst eo;show wpAny _ _ (ret Value.none) _ _ _;refine q_e (q_e (q_e ⟨rfl,h',tk',rfl,hm.heap _ _ (λz=>hSf (by simp only[q_n,List.not_mem_nil,or_false]at z ⊢;exact .inl z)) (q_c _ hS),λb o hb e=>?_⟩))
     have hb2:b≠(s.heap.push (emO w)).objs.size:=by
      rw[Heap.size_push];exact q_l (q_E hb)
     exact hm.heap b o (by simp only[q_n,List.not_mem_nil,or_false];exact hb2) (q_c _ (q_c _ e))
    ·cases r₂ with
     |error e=>exact hr₂
     |ok fl₂ =>
      cases fl₂ with
      |ret r =>
        obtain⟨rfl,h',tk,rfl,hS',hk'⟩:=hr₂
        repeat (any_goals (first|assumption|wp_step))
        exact h _ _ hS' hk'
      |_=>exact hr₂.elim
  |_=>exact hr.elim
variable{s2:Shared}{D:Addr}{vs:List Value}{n:Nat}
theorem JGz(hoL:s2.heap.get? D=some (seqObj "list" vs.toArray n))(h2:vs.length<2)
  (h:∀h' c,(∀b o,b≠D->s2.heap.get? b=some o->h'.get? b=some o)->h'.get? D=some (seqObj "list" vs.toArray c)->P (.done (.ret .none)) { s2 with heap:=h' }) :
  wpAny (model prog w) A (Builtin.«list.sort» ⟨[.ref D],[]⟩) P E s2:=by
 obtain⟨e1,ho1⟩:∃e1,(s2.heap.update D (Obj.mapSeq λ_=>(#[]:Array Value))).get? D=some (seqObj "list" #[] e1):=⟨_,get?_update_seq hoL λ_=>#[]⟩;rw[list_sort_plain];refine q_b (listItems_at hoL rfl ?_);refine q_b (listUpdate_at hoL rfl ?_ (by rw[q_f,sizeLine_eq];omega) (Nat.zero_le _))
 refine q_b (seqEpoch_at ho1 rfl ?_);refine q_b (wpAny_newTuple ?_ (by show vs.length<=_;rw[sizeLine_eq];omega))
 refine q_b (wpAny_newList ?_ (Nat.zero_le _));refine wpAny_holding ?_
 dsimp only
 have hn2:vs.toArray.size<2:=by rw[q_f];omega
 rw[if_pos hn2,if_pos hn2];refine q_b (q_e ?_);refine q_b ?_;refine(show wpAny (model prog w) A (pure ((),SortSt.mk' general' (vs.toArray.zip vs.toArray) #[] 7 none)) _ _ _ from q_e ?_)
 dsimp only
 have ho3:(((s2.heap.update D (Obj.mapSeq λ_=>(#[]:Array Value))).push { cls:=Value.type "tuple",data:=Data.seq vs.toArray }).push { cls:=Value.type "list",data:=Data.seq #[] }).get? D=some (seqObj "list" #[] e1):=q_c _ (q_c _ ho1);have hout:Array.map (λx:Keyed=>x.snd) (arrOf (SortSt.mk' general' (vs.toArray.zip vs.toArray) #[] 7 none))=vs.toArray:=by
  show Array.map (λx:Keyed=>x.snd) (vs.toArray.zip vs.toArray)=vs.toArray;apply Array.ext';simp[List.map_snd_zip]
 refine q_b (seqEpoch_at ho3 rfl ?_);refine q_b (listUpdate_at ho3 rfl ?_ (Nat.zero_le _) (by rw[hout,q_f,sizeLine_eq];omega))
 have hfl:failedOf (SortSt.mk' general' (vs.toArray.zip vs.toArray) #[] 7 none)=none:=rfl;simp only[bne_self_eq_false,q_v,if_false];refine q_e ?_;rw[hout];obtain⟨c2,hc2⟩:∃c2,((((s2.heap.update D (Obj.mapSeq λ_=>(#[]:Array Value))).push { cls:=Value.type "tuple",data:=Data.seq vs.toArray }).push { cls:=Value.type "list",data:=Data.seq #[] }).update D (Obj.mapSeq λ_=>vs.toArray)).get? D=some (seqObj "list" vs.toArray c2):=⟨_,get?_update_seq ho3 λ_=>vs.toArray⟩;refine h _ c2 (λb o hne q=>?_) hc2;rw[Heap.get?_update_ne _ _ _ _ hne];refine q_c _ (q_c _ ?_);rw[Heap.get?_update_ne _ _ _ _ hne];exact q
end
section
variable{X:Cx}{B:Bs}{C:Cn}{CX:CXT}{XX:Nat->Hp->Prop}{G:List (Str×GK)}
noncomputable def StE(X:Cx)(p:Addr):HO:=.ext λh=>X.s₀.heap.objs.size<=p/\h.get? p=some (emO X.w)
theorem JFh(hc:X.calm=true):JBm X (.type "set") (λxs H Q=>∃l,xs=[.ref l]/\SqL X.K H l []/\∀p,H p=none->Q (.ref p) (upd H p (StE X p))):=by
 intro pins s σ H xs us Q I r ⟨l,e,hq,q⟩;subst e;cases r with
 |cons ra rb =>
  cases rb;cases ra;obtain⟨vs,rv,pl,hz⟩:=I.list hq;cases rv;refine call_set_0 (I.ok.hd hc) pl.isList λh' tk hS hk=>?_;exact⟨.ref s.heap.objs.size,_,I.laid (t':=tk) (λb o e=>hk b o (q_h e) e) (q_t _) (o:=StE X s.heap.objs.size) ⟨⟨I.sz,hS⟩,⟨_,hS⟩,λh1 h2 z k=>⟨z.1,k _ z.2⟩⟩,rfl,q _ I.fresh⟩
theorem JDe(hc:X.calm=true):JBm X (.builtin "sorted") (λxs H Q=>∃p H1,xs=[.ref p]/\H=upd H1 p (StE X p)/\H1 p=none/\∀q,H1 q=none->Q (.ref q) (upd H1 q (.lst []))):=by
 intro pins s σ H xs us Q I r ⟨p,H1,e,eH,h1,q⟩;subst e;subst eH;cases r with
 |cons ra rb =>
  cases rb;cases ra;obtain⟨⟨hs,hS⟩,_,_⟩:=I.hok p _ JAG;obtain⟨I1,f⟩:=forget I h1 hs;refine PySem.Calls.call_function_entry kind_sorted plain_sorted entry_sorted (args_sorted1 _) ?_;unfold Builtin.«sorted»;refine q_b (m:=checkCount "sorted" 1 1 _) (q_e ?_);refine q_b (JGr (by first|exact I.ok.hd hc|(simp only[Around.in1_handled];exact I.ok.hd hc)) hS λh2 ge k2=>?_)
  refine q_b (wpAny_newList ?_ (by rw[sizeLine_eq];simp))
  have hoL:(h2.push (seqObj "list" ([]:List Value).toArray 0)).get? h2.objs.size=some (seqObj "list" ([]:List Value).toArray 0):=q_k _ rfl;refine q_b (wpAny_holding (wpAny_call_entry slot_list_sort ⟨_,hoL,rfl⟩ entry_list_sort (JGz hoL (by decide) λh' c hk hd=>?_) (args_list_sort _)))
  refine⟨_,rfl,q_e ⟨_,rfl,?_⟩⟩;exact⟨.ref h2.objs.size,_,I1.laid (t':=s.toks) (λb o e=>hk b o (q_l (q_m (q_h e) ge)) (q_c _ (k2 b o e))) ge (show ObjOk X.prog X.w _ h' _ (.lst []) from⟨Nat.zero_le _,[],c,.nil,hd⟩),rfl,q _ (I1.hok.fresh ge)⟩
theorem JPD[Cool G](g:Gk X B C CX XX G){b:Expr}(hg:glob G X.env.scope.names "set"=some .nam)(ha:PA X [b] t)(he:starEach [b] X.env=[(false,eval b X.env)]) :
  PE X (.Call (.Name "set" p) [b] [] pos) (tCB (λxs H Q=>∃l,xs=[.ref l]/\SqL X.K H l []/\∀p,H p=none->Q (.ref p) (upd H p (StE X p))) t):=by
 obtain⟨_,h2,h3⟩:=JA3 hg;exact JCT (es:=[]) (JFh (g.calm inferInstance)) h2 (g.nam _ h3) (by decide +kernel) ha (by decide) (by decide) he rfl
theorem JMM[Cool G]{it:Bool}(X:Cx)(XX:Nat->Hp->Prop)(g:Gk X B C CX XX G)(e:Expr)(args:List Expr)(y:E)(h:xRaw G X.env.scope.names it e=some (.sst,args))(ha:PA X args (RA B C XX y))(hs:∀a∈args,∀es env,starEach (a::es) env=(false,eval a env)::starEach es env)(hc:cnt y=args.length):PE X e (RE B C XX (.xop .sst y)):=by
 unfold xRaw at h
 split at h
 ·rename_i f p a pos;rcases JBP h with ⟨z,_⟩|⟨_,rfl,h1,b,r,p2,pos2,rfl,rfl,rfl,h2⟩|⟨z,_⟩
  ·cases z
  rotate_left
  ·cases z
  ·obtain⟨_,h3,h4⟩:=JA3 h1;refine PE.imp (JC1 (es:=[]) (JDe (g.calm inferInstance)) h3 (g.nam _ h4) (by decide +kernel) (JBG (JPD g h2 ha (hs b (by simp) [] X.env)) JBp rfl) (by decide) (by decide) rfl rfl) λσ H Q ⟨δ,ok,k⟩=>?_
   simp only[ev]at k;refine RA.of (W:=λr H=>KE B XX r H Q) ok (λ_ _ z=>z) (λ_ z=>z) k λds vs H1 s1 d1 k1=>?_;have k1:=KE.mono g s1 k1;rcases JIw ds with ⟨ys,rfl⟩|⟨b1,b3⟩
   rotate_left
   ·rw[b3]at k1;exact fF k1
   ·simp only[DenL,Den]at d1;obtain⟨v,r,e,⟨q,us,e1,sq,l⟩,e2⟩:=d1;subst e2;subst e1;subst e;simp only[xD]at k1;cases ys with
    |cons y ys=>exact fF k1
    |nil =>
     simp only[DenL]at l;subst l;refine⟨q,rfl,g.K▸sq,λp' hp=>⟨p',H1,rfl,rfl,hp,λp3 hp3=>?_⟩⟩;refine k1 _ _ (JBE hp3) ?_;simp only[Den];exact⟨p3,_,rfl,SqL.of JAG,by simp only[DenL]⟩
 all_goals first|(cases h;done)|(split at h<;>cases h)
theorem x_sst[Cool G]:XOk B C CX G .sst where
 val:=λX XX g e args y h _=>JMM X XX g e args y h
 itr:=by
  intro X XX g tg e args y h ha hs hc;exact JES g (JMM X XX g _ args y h ha hs hc) λδ=>by simp only[evI,ev]
end
end VI
end
section
namespace VI
open PySem PySem.Spec PyProof.Rows L2
section
variable{B:Bs}{C:Cn}{CX:CXT}{G:List (Str×GK)}
theorem s_dtk{a b:Expr}(g:Gk X B C CX XX G)(ha:PE X a (RE B C XX x))(hb:PE X b (RE B C XX y)):PE X (.Subscript a (.Slice none (some b) none p) pos) (RE B C XX (.xop .dtk (.cons x (.cons y .nil)))):=by
 have ee:∀δ,ev C (.xop .dtk (.cons x (.cons y .nil))) δ=(ev C x δ).bind λd=>(ev C y δ).bind λd'=>xD .dtk [d,d']:=λδ=>by
  simp only[ev,evA];cases ev C x δ<;>cases ev C y δ<;>rfl
 refine PE.imp (JGR (SlR.or (SlR.or JLH JIR) JIy) ha JHD (JFd hb)) λσ H Q ⟨δ,ok,kk⟩=>?_;refine two g (r:=λv w H Q=>∃i,w=.int i/\((rSlT X.K v none (some i) H Q\/rSlW X.K v none (some i) H Q)\/rSlL X.K v none (some i) H Q)) (f:=λd d'=>xD .dtk [d,d']) (λv w H1 d dy d1 d2 h1=>?_) ⟨δ,ok,by rw[<-ee δ];exact kk⟩
 cases dy with
 |int n =>
  simp only[Den]at d2;subst d2;refine⟨n,rfl,?_⟩;have h1:KE B XX (op1D (.slice none (some n)) d) H1 Q:=h1;cases d<;>first|exact fF h1|skip
  ·rename_i ds;simp only[Den]at d1;obtain⟨q,vs,e,sq,l⟩:=d1;refine .inr ⟨q,vs,e,g.K▸sq,λp' hp=>?_⟩;have sm:Same H1 (upd H1 p' (.lst (cutV vs none (some n)))):=JBE hp;refine h1 _ _ sm ?_;simp only[Den];exact⟨p',_,rfl,SqL.of JAG,DenL.mono sm _ _ (DenL.cut l none (some n))⟩
  ·rename_i ds;simp only[Den]at d1;obtain⟨q,vs,e,sq,l⟩:=d1;have el:=DenL.len _ _ l
   by_cases hw:HT.sIx vs.length 0 none=0/\HT.sIx vs.length vs.length (some n)=vs.length
   ·refine .inl (.inr ⟨q,vs,e,g.K▸sq,hw,?_⟩);refine h1 _ _ (Same.refl H1) ?_;rw[JEd (by rw[el];exact hw)]
    subst e;simp only[Den];exact⟨q,vs,rfl,sq,l⟩
   ·refine .inl (.inl ⟨q,vs,e,g.K▸sq,hw,λp' hp=>?_⟩);have sm:Same H1 (upd H1 p' (.tup (cutV vs none (some n)))):=JBE hp;refine h1 _ _ sm ?_;simp only[Den];exact⟨p',_,rfl,SqT.of JAG,DenL.mono sm _ _ (DenL.cut l none (some n))⟩
 |_=>exact fF h1
theorem pes1(h:PEs X B C XX [a] y):∃x,y=.cons x .nil/\PE X a (RE B C XX x):=by
 cases y<;>try exact fF h
 rename_i x r;obtain⟨h1,h2⟩:=h;cases r<;>try exact fF h2
 exact⟨x,rfl,h1⟩
theorem pes2{a b:Expr}(h:PEs X B C XX [a,b] y):∃x z,y=.cons x (.cons z .nil)/\PE X a (RE B C XX x)/\PE X b (RE B C XX z):=by
 cases y<;>try exact fF h
 rename_i x r;obtain⟨h1,h2⟩:=h;obtain⟨z,rfl,h3⟩:=pes1 h2;exact⟨x,z,rfl,h1,h3⟩
theorem x_dtk:XOk B C CX G .dtk where
 val:=by
  intro X XX g e args y h hp ha hs hc;unfold xRaw at h
  split at h
  ·rcases JBP h with ⟨z,_⟩|⟨z,_⟩|⟨z,_⟩<;>cases z
  ·split at h<;>cases h
  ·split at h
   ·cases h;obtain⟨x,z,rfl,h1,h2⟩:=pes2 hp;exact s_dtk g h1 h2
   ·cases h
  ·cases h
 itr:=by
  intro X XX g tg e args y h ha hs hc;unfold xRaw at h
  split at h
  ·rcases JBP h with ⟨z,_⟩|⟨z,_⟩|⟨z,_⟩<;>cases z
  all_goals first|(cases h;done)|(split at h<;>rename_i q<;>first|(cases h;done)|(exact Bool.noConfusion q.1))
theorem x_mx2[Cool G]:XOk B C CX G .mx2 where
 val:=by
  intro X XX g e args y h hp ha hs hc;unfold xRaw at h
  split at h
  ·rcases JBP h with ⟨z,_⟩|⟨z,_⟩|⟨z,_⟩<;>cases z
  ·rename_i f p a b pos
   split at h
   ·rename_i q;obtain⟨_,rfl,q⟩:=q;cases h;obtain⟨_,h3,h4⟩:=JA3 q;refine PE.imp (JC1 (es:=[b]) (JIo (g.calm inferInstance)) h3 (g.nam _ h4) (by decide +kernel) ha (by decide) (by decide) (hs a (by simp) [b] X.env) (by rw[hs b (by simp) []];rfl)) λσ H Q ⟨δ,ok,k⟩=>?_
    simp only[ev]at k;refine RA.of (W:=λr H=>KE B XX r H Q) ok (λ_ _ z=>z) (λ_ z=>z) k λds vs H1 s1 d1 k1=>?_;have k1:=KE.mono g s1 k1
    match ds,d1,k1 with
    | [],_,k1=>exact fF k1
    | [d],_,k1=>cases d<;>exact fF k1
    |d::d'::_::_,_,k1=>cases d<;>first|exact fF k1|(cases d'<;>exact fF k1)
    | [d,d'],d1,k1 =>
     cases d<;>first|exact fF k1|(cases d'<;>first|exact fF k1|skip)
     rename_i i j _;simp only[DenL,Den]at d1;obtain⟨v,r',rfl,rfl,v2,r2,rfl,rfl,rfl⟩:=d1;exact⟨i,j,rfl,k1 _ _ (Same.refl H1) (by simp only[Den])⟩
   ·cases h
  ·split at h<;>cases h
  ·cases h
 itr:=by
  intro X XX g tg e args y h ha hs hc;unfold xRaw at h
  split at h
  ·rcases JBP h with ⟨z,_⟩|⟨z,_⟩|⟨z,_⟩<;>cases z
  all_goals first|(cases h;done)|(split at h<;>rename_i q<;>first|(cases h;done)|(exact Bool.noConfusion q.1))
end
end VI
end
section
namespace VI.VP
open PySem Fr
structure TabM(tab:Nat->Option Fd):Prop where
 h7:tab 7=some d_7
 h8:tab 8=some d_8
 h9:tab 9=some d_9
 h10:tab 10=some d_10
section
variable{x:Bool}{tab:Nat->Option Fd}{glo:Nat->R D}{sub:Nat->Nat->Bool}{n:Nat}
theorem JCX(T:TabF tab)(some':D):∀(qs:List Rat) (m:Rat) (z:Sl),z.isOwn=false->Q m->(∀q∈qs,Q q)->∃m' z',(m'=m\/m'∈qs)/\m'<=m/\(∀q∈qs,m'<=q)/\Q m' /\
  for2 ⟨run x tab glo sub (n+1),glo,sub⟩ 2 (.cons (.ife (.call 6 (.cons (.var 2) (.cons (.var 1) .nil))) (.cons (.asg 1 (.var 2)) .nil) .nil) .nil) (qs.map F) [.val some',.val (F m),z]=.nx [.val some',.val (F m'),z']
 | [],m,z,hz,hm,hq=>⟨m,z,.inl rfl,Rat.le_refl,by simp,hm,rfl⟩
 |q::qs,m,z,hz,hm,hq=>by
  have hq0:Q q:=hq q (by simp)
  rw[List.map_cons,JCH]
  by_cases h:q<m
  ·obtain⟨m',z',h1,h2,h3,h4,h5⟩:=JCX T some' qs q (.val (F q)) rfl hq0 (λq hq'=>hq q (by simp[hq']))
   refine⟨m',z',?_,?_,?_,h4,?_⟩
   ·rcases h1 with h1|h1
    ·exact .inr (by simp[h1])
    ·exact .inr (by simp[h1])
   ·grind
   ·intro r hr;rcases q_n.mp hr with e|e
    ·subst e;exact h2
    ·exact h3 r e
   ·dsimp![JC6 T hq0 hm,h,decide_true]
    exact h5
  ·obtain⟨m',z',h1,h2,h3,h4,h5⟩:=JCX T some' qs m (.val (F q)) rfl hm (λq hq'=>hq q (by simp[hq']))
   refine⟨m',z',?_,h2,?_,h4,?_⟩
   ·rcases h1 with h1|h1
    ·exact .inl h1
    ·exact .inr (by simp[h1])
   ·intro r hr;rcases q_n.mp hr with e|e
    ·subst e;grind
    ·exact h3 r e
   ·dsimp![JC6 T hq0 hm,h,decide_false]
    exact h5
theorem JDL(T:TabF tab)(some':D):∀(qs:List Rat) (m:Rat) (z:Sl),z.isOwn=false->Q m->(∀q∈qs,Q q)->∃m' z',(m'=m\/m'∈qs)/\m<=m'/\(∀q∈qs,q<=m')/\Q m' /\
  for2 ⟨run x tab glo sub (n+1),glo,sub⟩ 2 (.cons (.ife (.call 6 (.cons (.var 1) (.cons (.var 2) .nil))) (.cons (.asg 1 (.var 2)) .nil) .nil) .nil) (qs.map F) [.val some',.val (F m),z]=.nx [.val some',.val (F m'),z']
 | [],m,z,hz,hm,hq=>⟨m,z,.inl rfl,Rat.le_refl,by simp,hm,rfl⟩
 |q::qs,m,z,hz,hm,hq=>by
  have hq0:Q q:=hq q (by simp)
  rw[List.map_cons,JCH]
  by_cases h:m<q
  ·obtain⟨m',z',h1,h2,h3,h4,h5⟩:=JDL T some' qs q (.val (F q)) rfl hq0 (λq hq'=>hq q (by simp[hq']))
   refine⟨m',z',?_,?_,?_,h4,?_⟩
   ·rcases h1 with h1|h1
    ·exact .inr (by simp[h1])
    ·exact .inr (by simp[h1])
   ·grind
   ·intro r hr;rcases q_n.mp hr with e|e
    ·subst e;exact h2
    ·exact h3 r e
   ·dsimp![JC6 T hm hq0,h,decide_true]
    exact h5
  ·obtain⟨m',z',h1,h2,h3,h4,h5⟩:=JDL T some' qs m (.val (F q)) rfl hm (λq hq'=>hq q (by simp[hq']))
   refine⟨m',z',?_,h2,?_,h4,?_⟩
   ·rcases h1 with h1|h1
    ·exact .inl h1
    ·exact .inr (by simp[h1])
   ·intro r hr;rcases q_n.mp hr with e|e
    ·subst e;grind
    ·exact h3 r e
   ·dsimp![JC6 T hm hq0,h,decide_false]
    exact h5
theorem JMG(a:D)(r:List D):idxD (.list (a::r)) (.int 0)=.ok a:=by
 simp[idxD,atI,ixN,optR]
theorem JGC(T:TabF tab)(M:TabM tab)(p:Rat)(qs:List Rat)(hq:∀q∈p::qs,Q q):∃m,m∈p::qs/\(∀q∈p::qs,m<=q)/\Q m/\run x tab glo sub (n+2) 7 [.list ((p::qs).map F)]=.ok (F m):=by
 rw[JAA M.h7,JAB rfl];obtain⟨m,z,h1,h2,h3,h4,h5⟩:=JCX (x:=x) (glo:=glo) (sub:=sub) (n:=n) T (.list ((p::qs).map F)) (p::qs) p .no rfl (hq p (by simp)) hq
 refine⟨m,?_,h3,h4,?_⟩
 ·rcases h1 with h1|h1
  ·simp[h1]
  ·exact h1
 ·simp only[List.map_cons]at h5 ⊢
  dsimp![d_7,b_7,JMG,JAc,JAY,JAm,JAW,h5]
theorem JHA(T:TabF tab)(M:TabM tab)(p:Rat)(qs:List Rat)(hq:∀q∈p::qs,Q q):∃m,m∈p::qs/\(∀q∈p::qs,q<=m)/\Q m/\run x tab glo sub (n+2) 8 [.list ((p::qs).map F)]=.ok (F m):=by
 rw[JAA M.h8,JAB rfl];obtain⟨m,z,h1,h2,h3,h4,h5⟩:=JDL (x:=x) (glo:=glo) (sub:=sub) (n:=n) T (.list ((p::qs).map F)) (p::qs) p .no rfl (hq p (by simp)) hq
 refine⟨m,?_,h3,h4,?_⟩
 ·rcases h1 with h1|h1
  ·simp[h1]
  ·exact h1
 ·simp only[List.map_cons]at h5 ⊢
  dsimp![d_8,b_8,JMG,JAc,JAY,JAm,JAW,h5]
end
end VI.VP
end
section
namespace VI.VP
open PySem Fr
theorem JJF(p:Rat):(F p).canLay0=true:=by
 simp only[F,PyData.canLayAll0,PyData.canLay0,Bool.and_self]
theorem JCZ(p:Rat):(F p).depth=1:=by
 simp only[F,PyData.depth,PyData.depthAll];rfl
section
variable{x:Bool}{tab:Nat->Option Fd}{glo:Nat->R D}{sub:Nat->Nat->Bool}{n:Nat}
end
end VI.VP
end
section
namespace VI.VP
noncomputable def b_23:S:=(.cons (.ret (.and (.isi (.var 0) .int) (.not (.isi (.var 0) .bool)))) .nil)
noncomputable def d_23:Fd:=⟨1,1,b_23⟩
noncomputable def b_24:S:=(.cons (.ife (.or (.not (.isi (.var 0) .tuple)) (.cmp .NotEq (.blt .len (.cons (.var 0) .nil)) (.cint 2))) (.cons (.ret (.cbl false)) .nil) .nil) (.cons (.asg 1 (.idx (.var 0) (.cint 0))) (.cons (.asg 2 (.idx (.var 0) (.cint 1))) (.cons (.ife (.or (.not (.call 23 (.cons (.var 1) .nil))) (.not (.call 23 (.cons (.var 2) .nil)))) (.cons (.ret (.cbl false)) .nil) .nil) (.cons (.ret (.and (.cmp .Gt (.var 2) (.cint 0)) (.cmp .Eq (.call 0 (.cons (.var 1) (.cons (.var 2) .nil))) (.cint 1)))) .nil)))))
noncomputable def d_24:Fd:=⟨1,3,b_24⟩
noncomputable def b_25:S:=(.cons (.ret (.call 1 (.cons (.bin .Mult (.idx (.var 0) (.cint 0)) (.idx (.var 1) (.cint 1))) (.cons (.bin .Mult (.idx (.var 0) (.cint 1)) (.idx (.var 1) (.cint 0))) .nil)))) .nil)
noncomputable def d_25:Fd:=⟨2,2,b_25⟩
noncomputable def b_26:S:=(.cons (.asg 1 (.lst (.cons (.isi (.var 0) (.own 1)) (.cons (.isi (.var 0) (.own 2)) (.cons (.isi (.var 0) (.own 6)) (.cons (.isi (.var 0) (.own 3)) .nil)))))) (.cons (.ext 1 (.lst (.cons (.isi (.var 0) (.own 7)) (.cons (.isi (.var 0) (.own 5)) (.cons (.isi (.var 0) (.own 4)) .nil))))) (.cons (.ife (.or (.cmp .NotEq (.mcount (.var 1) (.cbl true)) (.cint 1)) (.not (.isi (.var 0) .valueError))) (.cons (.ret (.cstr "wrong")) .nil) .nil) (.cons (.ret (.idx (.lst (.cons (.cstr "no frac") (.cons (.cstr "no kind") (.cons (.cstr "no name") (.cons (.cstr "no plan") (.cons (.cstr "no text") (.cons (.cstr "no time") (.cons (.cstr "no track") .nil)))))))) (.mindex (.var 1) (.cbl true)))) .nil))))
noncomputable def d_26:Fd:=⟨1,2,b_26⟩
noncomputable def b_27:S:=.pass
noncomputable def d_27:Fd:=⟨3,6,b_27⟩
end VI.VP
end
section
namespace VI.VP
open PySem Fr
structure SubOk(sub:Nat->Nat->Bool)(k:Nat):Prop where
 h0:sub k 0=true
 h1:sub k 1=decide (k=1)
 h2:sub k 2=decide (k=2)
 h3:sub k 3=decide (k=3)
 h4:sub k 4=decide (k=4)
 h5:sub k 5=decide (k=5)
 h6:sub k 6=decide (k=6)
 h7:sub k 7=decide (k=7)
 me:sub k k=true
theorem JOY{sub:Nat->Nat->Bool}{k c:Nat}(h:sub k k=true):isiD sub (excD k) (.own c)=.ok (.bool (sub k c)):=by
 simp only[isiD,excD,Int.toNat_natCast,h,if_true]
theorem JMb{sub:Nat->Nat->Bool}{k:Nat}(h:sub k k=true):isiD sub (excD k) .valueError=.ok (.bool true):=by
 simp only[isiD,excD,Int.toNat_natCast,h,if_true]
section
variable{x:Bool}{tab:Nat->Option Fd}{glo:Nat->R D}{sub:Nat->Nat->Bool}{n:Nat}
structure TabI(tab:Nat->Option Fd):Prop where
 h23:tab 23=some d_23
 h24:tab 24=some d_24
 h25:tab 25=some d_25
noncomputable def isW:D->Bool
 |.int _=>true
 |_=>false
theorem JBc(T:TabI tab)(d:D){b1 b2:Bool}(h1:isiD sub d .int=.ok (.bool b1))(h2:isiD sub d .bool=.ok (.bool b2)):run x tab glo sub (n+1) 23 [d]=.ok (.bool (b1&&!b2)):=by
 rw[JAA T.h23,JAB rfl];cases b1
 ·dsimp![d_23,b_23,h1,h2]
 ·dsimp![d_23,b_23,h1,h2,Bool.true_and]
theorem JHQ(T:TabI tab)(d:D)(h:∀k,d≠.dict k):run x tab glo sub (n+1) 23 [d]=.ok (.bool (isW d)):=by
 cases d with
 |dict k=>exact absurd rfl (h k)
 |none=>exact JBc (b1:=false) (b2:=false) T _ rfl rfl
 |bool k=>exact JBc (b1:=true) (b2:=true) T _ rfl rfl
 |int k=>exact JBc (b1:=true) (b2:=false) T _ rfl rfl
 |str k=>exact JBc (b1:=false) (b2:=false) T _ rfl rfl
 |list k=>exact JBc (b1:=false) (b2:=false) T _ rfl rfl
 |tuple k=>exact JBc (b1:=false) (b2:=false) T _ rfl rfl
theorem JEQ(T:TabF tab)(I:TabI tab)(a b:Int):run x tab glo sub (n+2) 24 [.tuple [.int a,.int b]]=.ok (.bool (decide (0<b)&&decide (a.gcd b=1))):=by
 have w:=λ(d:D) (h:∀k,d≠.dict k)=>JHQ (x:=x) (glo:=glo) (sub:=sub) (n:=n) I d h;have e0:idxD (.tuple [.int a,.int b]) (.int 0)=.ok (.int a):=rfl;have e1:idxD (.tuple [.int a,.int b]) (.int 1)=.ok (.int b):=rfl;have e2:isiD sub (.tuple [.int a,.int b]) .tuple=.ok (.bool true):=rfl;have e3:(2:Int)=(((0+1+1:Nat)):Int):=rfl;have e4:((((a.gcd b:Nat):Int))=1)=(a.gcd b=1):=by apply propext;omega
 rw[JAA I.h24,JAB rfl]
 by_cases hb:0<b
 ·dsimp![d_24,b_24,e0,e1,e2,e3,w (.int a) (λk h=>by cases h),w (.int b) (λk h=>by cases h),isW,List.length_cons,List.length_nil,Nat.reduceAdd,Bool.not_true,hb,decide_true,JKj T,Bool.true_and,e4]
 ·dsimp![d_24,b_24,e0,e1,e2,e3,w (.int a) (λk h=>by cases h),w (.int b) (λk h=>by cases h),isW,List.length_cons,List.length_nil,Nat.reduceAdd,Bool.not_true,hb,decide_true,decide_false,JKj T,Bool.true_and,e4]
theorem isf_F(T:TabF tab)(I:TabI tab)(p:Rat):run x tab glo sub (n+2) 24 [F p]=.ok (.bool true):=by
 rw[F,JEQ T I,JM6];have:=den_pos p;rw[decide_eq_true this];rfl
end
end VI.VP
end
section
namespace VI.VP
noncomputable def b_29:S:=(.cons (.ret (.cmp .In (.var 0) (.glo 41))) .nil)
noncomputable def d_29:Fd:=⟨1,1,b_29⟩
noncomputable def b_30:S:=(.cons (.ife (.not (.call 29 (.cons (.var 0) .nil))) (.cons (.rais 2) .nil) .nil) .nil)
noncomputable def d_30:Fd:=⟨1,1,b_30⟩
noncomputable def b_31:S:=(.cons (.ret (.call 8 (.cons (.lst (.cons (.glo 39) (.cons (.call 7 (.cons (.lst (.cons (.glo 40) (.cons (.var 0) .nil))) .nil)) .nil))) .nil))) .nil)
noncomputable def d_31:Fd:=⟨1,1,b_31⟩
noncomputable def b_32:S:=(.cons (.drop (.call 30 (.cons (.var 0) .nil))) (.cons (.asg 2 (.call 31 (.cons (.var 1) .nil))) (.cons (.ife (.cmp .Eq (.var 0) (.cstr "even")) (.cons (.ret (.var 2)) .nil) .nil) (.cons (.ife (.cmp .Eq (.var 0) (.cstr "in")) (.cons (.ret (.call 5 (.cons (.var 2) (.cons (.var 2) .nil)))) .nil) .nil) (.cons (.ife (.cmp .Eq (.var 0) (.cstr "out")) (.cons (.ret (.call 4 (.cons (.call 5 (.cons (.call 2 (.cons (.cint 2) .nil)) (.cons (.var 2) .nil))) (.cons (.call 5 (.cons (.var 2) (.cons (.var 2) .nil))) .nil)))) .nil) .nil) (.cons (.ife (.cmp .Eq (.var 0) (.cstr "both")) (.cons (.ret (.call 5 (.cons (.call 5 (.cons (.var 2) (.cons (.var 2) .nil))) (.cons (.call 4 (.cons (.call 2 (.cons (.cint 3) .nil)) (.cons (.call 5 (.cons (.call 2 (.cons (.cint 2) .nil)) (.cons (.var 2) .nil))) .nil))) .nil)))) .nil) .nil) (.cons (.ife (.cmp .Eq (.var 0) (.cstr "hold")) (.cons (.ret (.ife (.cmp .Eq (.var 2) (.glo 40)) (.glo 40) (.glo 39))) .nil) .nil) (.cons (.ret (.ife (.cmp .Eq (.var 2) (.glo 39)) (.glo 39) (.glo 40))) .nil))))))))
noncomputable def d_32:Fd:=⟨2,3,b_32⟩
noncomputable def b_33:S:=(.cons (.drop (.call 30 (.cons (.var 0) .nil))) (.cons (.ret (.mget (.glo 42) (.var 0) (.var 0))) .nil))
noncomputable def d_33:Fd:=⟨1,1,b_33⟩
noncomputable def b_34:S:=(.cons (.drop (.call 30 (.cons (.var 0) .nil))) (.cons (.ife (.cmp .Lt (.var 1) (.cint 1)) (.cons (.ret (.lst .nil)) .nil) .nil) (.cons (.ret (.cmpr 0 (.call 32 (.cons (.var 1) (.cons (.call 1 (.cons (.var 0) (.cons (.var 2) .nil))) .nil))) (.rng (.cons (.bin .Add (.var 1) (.cint 1)) .nil)) (.cbl true))) .nil)))
noncomputable def d_34:Fd:=⟨2,2,b_34⟩
noncomputable def b_35:S:=(.cons (.ret (.idx (.lst (.cons (.cstr "even") (.cons (.cstr "in") (.cons (.cstr "out") (.cons (.cstr "both") (.cons (.cstr "hold") (.cons (.cstr "jump") .nil))))))) (.call 12 (.cons (.var 0) (.cons (.var 1) (.cons (.cint 6) .nil)))))) .nil)
noncomputable def d_35:Fd:=⟨2,2,b_35⟩
noncomputable def b_36:S:=(.cons (.ife (.cmp .LtE (.idx (.var 1) (.cint 0)) (.cint 0)) (.cons (.ret (.tup (.cons (.cint 0) (.cons (.cint 1) .nil)))) .nil) .nil) (.cons (.ife (.cmp .GtE (.idx (.var 1) (.cint 0)) (.idx (.var 1) (.cint 1))) (.cons (.ret (.tup (.cons (.cint 1) (.cons (.cint 1) .nil)))) .nil) .nil) (.cons (.ife (.cmp .In (.var 0) (.tup (.cons (.cstr "hold") (.cons (.cstr "jump") .nil)))) (.cons (.ret (.ife (.cmp .Eq (.var 0) (.cstr "hold")) (.tup (.cons (.cint 0) (.cons (.cint 1) .nil))) (.tup (.cons (.cint 1) (.cons (.cint 1) .nil))))) .nil) .nil) (.cons (.unp [2,3] (.var 1)) (.cons (.ife (.cmp .Eq (.var 0) (.cstr "even")) (.cons (.ret (.var 1)) .nil) .nil) (.cons (.ife (.cmp .Eq (.var 0) (.cstr "in")) (.cons (.ret (.call 14 (.cons (.bin .Mult (.var 2) (.var 2)) (.cons (.bin .Mult (.var 3) (.var 3)) .nil)))) .nil) .nil) (.cons (.ife (.cmp .Eq (.var 0) (.cstr "out")) (.cons (.ret (.call 14 (.cons (.bin .Sub (.bin .Mult (.bin .Mult (.cint 2) (.var 2)) (.var 3)) (.bin .Mult (.var 2) (.var 2))) (.cons (.bin .Mult (.var 3) (.var 3)) .nil)))) .nil) .nil) (.cons (.ret (.call 14 (.cons (.bin .Sub (.bin .Mult (.bin .Mult (.bin .Mult (.cint 3) (.var 2)) (.var 2)) (.var 3)) (.bin .Mult (.bin .Mult (.bin .Mult (.cint 2) (.var 2)) (.var 2)) (.var 2))) (.cons (.bin .Mult (.bin .Mult (.var 3) (.var 3)) (.var 3)) .nil)))) .nil))))))))
noncomputable def d_36:Fd:=⟨2,4,b_36⟩
noncomputable def b_37:S:=.pass
noncomputable def d_37:Fd:=⟨2,5,b_37⟩
end VI.VP
end
section
namespace VI.VP
open PySem Fr
inductive Kd where
 |even|inn|out|both|hold|jump
 deriving DecidableEq
noncomputable def Kd.str:Kd->Str
 |.even=>"even"
 |.inn=>"in"
 |.out=>"out"
 |.both=>"both"
 |.hold=>"hold"
 |.jump=>"jump"
noncomputable def Kd.turn:Kd->Kd
 |.inn=>.out
 |.out=>.inn
 |.hold=>.jump
 |.jump=>.hold
 |k=>k
noncomputable def JBR(r:Rat):Rat:=if r<=0 then 0 else if 1<=r then 1 else r
noncomputable def ez(k:Kd)(p:Rat):Rat:=match k with
 |.even=>p
 |.inn=>p*p
 |.out=>2*p - p*p
 |.both=>p*p*(3 - 2*p)
 |.hold=>if p=1 then 1 else 0
 |.jump=>if p=0 then 0 else 1
noncomputable def kinds:D:=.tuple [.str "even",.str "in",.str "out",.str "both",.str "hold",.str "jump"]
noncomputable def turned:D:=.dict [(.str "in",.str "out"),(.str "out",.str "in"),(.str "hold",.str "jump"),(.str "jump",.str "hold")]
structure GloK(glo:Nat->R D):Prop where
 zero:glo 39=.ok (F 0)
 one:glo 40=.ok (F 1)
 kinds:glo 41=.ok VP.kinds
 turned:glo 42=.ok VP.turned
structure TabK(tab:Nat->Option Fd):Prop where
 h29:tab 29=some d_29
 h30:tab 30=some d_30
 h31:tab 31=some d_31
 h32:tab 32=some d_32
 h33:tab 33=some d_33
section
variable{x:Bool}{tab:Nat->Option Fd}{glo:Nat->R D}{sub:Nat->Nat->Bool}{n:Nat}
theorem JLy(g:GloK glo)(T:TabK tab)(d:D){b:Bool}(h:cmpD .In d VP.kinds=.ok (.bool b)):run x tab glo sub (n+1) 29 [d]=.ok (.bool b):=by
 rw[JAA T.h29,JAB rfl]
 dsimp![d_29,b_29,g.kinds,h]
theorem JF8(k:Kd):cmpD .In (.str k.str) VP.kinds=.ok (.bool true):=by
 have h:JCi [.str "even",.str "in",.str "out",.str "both",.str "hold",.str "jump"] (.str k.str)=true:=by cases k<;>decide +kernel
 have h2:([.str "even",.str "in",.str "out",.str "both",.str "hold",.str "jump"]:List D).any (λz=>PyData.eqv z (.str k.str))=true:=by cases k<;>decide +kernel
 simp only[cmpD,VP.kinds,h,if_true,h2]
theorem JMU(g:GloK glo)(T:TabK tab)(k:Kd):run x tab glo sub (n+2) 30 [.str k.str]=.ok .none:=by
 rw[JAA T.h30,JAB rfl]
 dsimp![d_30,b_30,JLy g T _ (JF8 k),Bool.not_true]
theorem JF1{k:Nat}{r:Rat}(hk:1<=k)(h:Sz k r):Sz k (JBR r):=by
 unfold JBR;have h0:Sz 1 (0:Rat):=⟨by decide,by decide⟩
 have h1:Sz 1 (1:Rat):=⟨by decide,by decide⟩
 split
 ·exact h0.mono hk
 ·split
  ·exact h1.mono hk
  ·exact h
theorem JHh(g:GloK glo)(F0:TabF tab)(M:TabM tab)(T:TabK tab){r:Rat}(hr:Q r):run x tab glo sub (n+3) 31 [F r]=.ok (F (JBR r)):=by
 have h0:Q (0:Rat):=⟨by decide +kernel,by decide +kernel⟩
 have h1:Q (1:Rat):=⟨by decide +kernel,by decide +kernel⟩
 obtain⟨a,a1,a2,a3,a4⟩:=JGC (x:=x) (glo:=glo) (sub:=sub) (n:=n) F0 M 1 [r] (by simp[h1,hr])
 obtain⟨b,b1,b2,b3,b4⟩:=JHA (x:=x) (glo:=glo) (sub:=sub) (n:=n) F0 M 0 [a] (by simp[h0,a3])
 simp only[List.map_cons,List.map_nil]at a4 b4;have e:b=JBR r:=by
  have q1:=a2 1 (by simp)
  have q2:=a2 r (by simp)
  have q3:=b2 0 (by simp)
  have q4:=b2 a (by simp)
  simp only[q_n,List.not_mem_nil,or_false]at a1 b1;unfold JBR
  grind
 subst e;rw[JAA T.h31,JAB rfl]
 dsimp![d_31,b_31,g.zero,g.one,a4,b4]
theorem JI9{a b:Str}(ha:shaped (.str a)=true)(hb:shaped (.str b)=true):cmpD .Eq (.str a) (.str b)=.ok (.bool (a==b)):=by
 simp only[cmpD,ha,hb,Bool.and_self,if_true,PyData.eqv]
theorem JDQ(k:Kd):shaped (.str k.str)=true:=by cases k<;>decide +kernel
theorem kd_eq(k j:Kd):cmpD .Eq (.str k.str) (.str j.str)=.ok (.bool (decide (k=j))):=by
 rw[JI9 (JDQ k) (JDQ j)];have:(k.str==j.str)=decide (k=j):=by cases k<;>cases j<;>decide +kernel
 rw[this]
theorem W2:PyData.tuple [.int 2,.int 1]=F 2:=rfl
theorem JJc(g:GloK glo)(F0:TabF tab)(M:TabM tab)(T:TabK tab)(k:Kd){r:Rat}(hr:Sz 200 r):run x tab glo sub (n+4) 32 [.str k.str,F r]=.ok (F (ez k (JBR r))):=by
 have hp:Sz 200 (JBR r):=JF1 (by omega) hr
 obtain⟨p,e⟩:∃p,p=JBR r:=⟨_,rfl⟩;have kp:run x tab glo sub (n+3) 31 [F r]=.ok (F p):=by rw[e];exact JHh g F0 M T (hr.mono (by omega))
 rw[<-e]at hp ⊢;have z2:Sz 2 (2:Rat):=⟨by decide,by decide⟩
 have z3:Sz 2 (3:Rat):=⟨by decide,by decide⟩
 have z1:Sz 2 (1:Rat):=⟨by decide,by decide⟩
 have z0:Sz 2 (0:Rat):=⟨by decide,by decide⟩
 have pp:Sz 400 (p*p):=hp.mul hp (by omega)
 have p2:Sz 202 (2*p):=z2.mul hp (by omega)
 have q3:Sz 205 (3 - 2*p):=z3.sub p2 (by omega)
 obtain⟨ks,hk⟩:∃ks,ks=k.str:=⟨_,rfl⟩;have nk:run x tab glo sub (n+3) 30 [.str ks]=.ok .none:=by rw[hk];exact JMU g T k
 have c:∀j:Kd,cmpD .Eq (.str ks) (.str j.str)=.ok (.bool (decide (k=j))):=by rw[hk];exact kd_eq k
 rw[<-hk];clear hk;have c1:=c .even;have c2:=c .inn;have c3:=c .out;have c4:=c .both;have c5:=c .hold;simp only[Kd.str]at c1 c2 c3 c4 c5;rw[JAA T.h32,JAB rfl];have w2:run x tab glo sub (n+3) 2 [.int 2]=.ok (F 2):=JD9 F0 2;have w3:run x tab glo sub (n+3) 2 [.int 3]=.ok (F 3):=JD9 F0 3;have m1:run x tab glo sub (n+3) 5 [F p,F p]=.ok (F (p*p)):=JC3 F0 (hp.mono (by omega)) (hp.mono (by omega))
 have m2:run x tab glo sub (n+3) 5 [F 2,F p]=.ok (F (2*p)):=JC3 F0 (z2.mono (by omega)) (hp.mono (by omega))
 have m3:run x tab glo sub (n+3) 4 [F (2*p),F (p*p)]=.ok (F (2*p - p*p)):=JEH F0 (p2.mono (by omega)) (pp.mono (by omega))
 have m4:run x tab glo sub (n+3) 4 [F 3,F (2*p)]=.ok (F (3 - 2*p)):=JEH F0 (z3.mono (by omega)) (p2.mono (by omega))
 have m5:run x tab glo sub (n+3) 5 [F (p*p),F (3 - 2*p)]=.ok (F (p*p*(3 - 2*p))):=JC3 F0 (pp.mono (by omega)) (q3.mono (by omega))
 cases k
 case hold =>
  by_cases h:p=1<;>dsimp![d_32,b_32,nk,JAI,kp,c1,c2,c3,c4,c5,reduceCtorEq,decide_true,decide_false,ez,h,g.zero,g.one]
 case jump =>
  by_cases h:p=0<;>dsimp![d_32,b_32,nk,JAI,kp,c1,c2,c3,c4,c5,reduceCtorEq,decide_true,decide_false,ez,h,g.zero,g.one]
 all_goals dsimp![d_32,b_32,nk,JAI,kp,c1,c2,c3,c4,c5,w2,w3,m1,m2,m3,m4,m5,reduceCtorEq,decide_true,decide_false,ez,g.zero,g.one]
end
theorem ez1(k:Kd):ez k 1=1:=by cases k<;>decide +kernel
section
variable{x:Bool}{tab:Nat->Option Fd}{glo:Nat->R D}{sub:Nat->Nat->Bool}{n:Nat}
theorem JOU(i:Int)(h0:0<=i)(h1:i<6):∃k:Kd,idxD (.list [.str "even",.str "in",.str "out",.str "both",.str "hold",.str "jump"]) (.int i)=.ok (.str k.str):=by
 have:i=0\/i=1\/i=2\/i=3\/i=4\/i=5:=by omega
 rcases this with rfl|rfl|rfl|rfl|rfl|rfl
 ·exact⟨.even,rfl⟩
 ·exact⟨.inn,rfl⟩
 ·exact⟨.out,rfl⟩
 ·exact⟨.both,rfl⟩
 ·exact⟨.hold,rfl⟩
 ·exact⟨.jump,rfl⟩
theorem JJp(Lw:TabL tab)(h35:tab 35=some d_35)(ns:List Int)(j:Int)(hj:0<=j)(hj2:j<1000000):∃k:Kd,run x tab glo sub (n+3) 35 [sc ns,.int j]=.ok (.str k.str):=by
 rw[JAA h35,JAB rfl];obtain⟨i,i0,i1,hi⟩:=JCc (x:=x) (glo:=glo) (sub:=sub) (n:=n) Lw ns j 6 hj (by omega) (by decide)
 obtain⟨k,hk⟩:=JOU i i0 i1;refine⟨k,?_⟩
 dsimp![d_35,b_35,hi,hk]
end
section
variable{x:Bool}{tab:Nat->Option Fd}{glo:Nat->R D}{sub:Nat->Nat->Bool}{n:Nat}
end
end VI.VP
end
section
namespace VI.VP
noncomputable def b_43:S:=(.cons (.drop (.call 30 (.cons (.var 0) .nil))) (.cons (.ife (.or (.call 6 (.cons (.var 1) (.cons (.glo 39) .nil))) (.call 6 (.cons (.glo 40) (.cons (.var 1) .nil)))) (.cons (.ret (.glo 39)) .nil) .nil) (.cons (.ife (.cmp .Eq (.var 0) (.cstr "even")) (.cons (.ret (.glo 40)) .nil) .nil) (.cons (.ife (.cmp .Eq (.var 0) (.cstr "in")) (.cons (.ret (.call 5 (.cons (.call 2 (.cons (.cint 2) .nil)) (.cons (.var 1) .nil)))) .nil) .nil) (.cons (.ife (.cmp .Eq (.var 0) (.cstr "out")) (.cons (.ret (.call 4 (.cons (.call 2 (.cons (.cint 2) .nil)) (.cons (.call 5 (.cons (.call 2 (.cons (.cint 2) .nil)) (.cons (.var 1) .nil))) .nil)))) .nil) .nil) (.cons (.ife (.cmp .Eq (.var 0) (.cstr "both")) (.cons (.ret (.call 5 (.cons (.call 2 (.cons (.cint 6) .nil)) (.cons (.call 4 (.cons (.var 1) (.cons (.call 5 (.cons (.var 1) (.cons (.var 1) .nil))) .nil))) .nil)))) .nil) .nil) (.cons (.ret (.glo 39)) .nil)))))))
noncomputable def d_43:Fd:=⟨2,2,b_43⟩
noncomputable def b_44:S:=.pass
noncomputable def d_44:Fd:=⟨1,3,b_44⟩
end VI.VP
end
section
namespace VI.VP
open PySem Fr
noncomputable def slm(k:Kd)(r:Rat):Rat:=match k with
 |.even=>1
 |.inn=>2*r
 |.out=>2 - 2*r
 |.both=>6*(r - r*r)
 |.hold=>0
 |.jump=>0
noncomputable def sl(k:Kd)(r:Rat):Rat:=if r<0\/1<r then 0 else slm k r
section
variable{x:Bool}{tab:Nat->Option Fd}{glo:Nat->R D}{sub:Nat->Nat->Bool}{n:Nat}
end
end VI.VP
end
section
namespace VI.VP
open PySem Fr
class Z (k:outParam Nat) (q:Rat):Prop where
 h:Sz k q
theorem Z.le{k:Nat}{q:Rat}(z:Z k q){n:Nat}(h:k<=n):Sz n q:=z.h.mono h
section
variable{i j:Nat}{p q:Rat}
instance[a:Z i p][b:Z j q]:Z (i+j+1) (p+q):=⟨a.h.add b.h (q_t _)⟩
instance[a:Z i p][b:Z j q]:Z (i+j+1) (p - q):=⟨a.h.sub b.h (q_t _)⟩
instance[a:Z i p][b:Z j q]:Z (i+j) (p*q):=⟨a.h.mul b.h (q_t _)⟩
instance[a:Z i p][b:Z j q]:Z (i+j+1) (p / q):=⟨by
 by_cases h:q=0
 ·subst h;rw[show p / (0:Rat)=0 by rw[Rat.div_def];simp]
  exact⟨Nat.pow_pos (by omega),q_m (by decide:(0:Rat).den<2 ^ 1) (Nat.pow_le_pow_right (by omega) (by omega))⟩
 ·exact a.h.div b.h h (by omega)⟩
instance:Z 3 (1:Rat):=⟨⟨by decide,by decide⟩⟩
instance:Z 3 (2:Rat):=⟨⟨by decide,by decide⟩⟩
instance:Z 3 (3:Rat):=⟨⟨by decide,by decide⟩⟩
instance[a:Z i q]:Z (i+1) (JBR q):=⟨JF1 (by omega) (a.h.mono (by omega))⟩
theorem Small.Z{q:Rat}(h:Small q):Z 5 q:=⟨h.sz⟩
theorem sz01{n:Nat}(h:1<=n):Sz n (0:Rat)/\Sz n (1:Rat):=⟨Sz.mono (i:=1) ⟨by decide,by decide⟩ h,Sz.mono (i:=1) ⟨by decide,by decide⟩ h⟩
instance[a:Z i p]{k:Kd}:Z (4*i+10) (ez k p):=⟨by
 have z2:Z 3 (2:Rat):=inferInstance;have h1:Z (i+i) (p*p):=inferInstance;have h2:Z ((3+i)+(i+i)+1) (2*p - p*p):=inferInstance;have h3:Z ((i+i)+(3+(3+i)+1)) (p*p*(3 - 2*p)):=inferInstance;cases k
 ·exact a.le (by omega)
 ·exact h1.le (by omega)
 ·exact h2.le (by omega)
 ·exact h3.le (by omega)
 ·show Sz _ (if p=1 then 1 else 0);split<;>first|exact(sz01 (by omega)).1|exact(sz01 (by omega)).2
 ·show Sz _ (if p=0 then 0 else 1);split<;>first|exact(sz01 (by omega)).1|exact(sz01 (by omega)).2⟩
end
theorem nd(q:Rat):q*((q.den:Int):Rat)=(q.num:Rat):=by
 have z:((q.den:Int):Rat)≠0:=by exact_mod_cast JAu q
 conv=>lhs;lhs;rw[<-Rat.num_divInt_den q,Rat.divInt_eq_div,Rat.div_def]
 rw[Rat.mul_assoc,Rat.inv_mul_cancel _ z,Rat.mul_one]
theorem JP3{K:Rat}{N D:Int}(h:K*(D:Rat)=(N:Rat))(hD:D≠0):K=Rat.divInt N D:=by
 rw[Rat.divInt_eq_div,Rat.div_def,<-h,Rat.mul_assoc,Rat.mul_inv_cancel _ (by exact_mod_cast hD),Rat.mul_one]
theorem pw_le{x i j:Nat}(h:x<2 ^ i)(e:i<=j):x<2 ^ j:=q_m h (Nat.pow_le_pow_right (by omega) e)
theorem pw1(i:Nat):2 ^ (i+1)=2*2 ^ i/\2 ^ (i+2)=4*2 ^ i/\2 ^ (i+3)=8*2 ^ i/\2 ^ (i+4)=16*2 ^ i:=by
 refine⟨?_,?_,?_,?_⟩<;>(rw[Nat.pow_add];omega)
section
variable{a c i i4 i5 i6:Nat}{s g l u v q:Rat}
theorem JQI{b c:Nat}{e:Rat}(hs:Sz a s)(hg:Sz b g)(he:Sz c e):Sz (a+b+c+2) (s+e*(g - s)):=by
 have d1:=JAu s;have d2:=JAu g;have d3:=JAu e;rw[JP3 (K:=s+e*(g - s)) (N:=s.num*g.den*e.den+(e.num*g.num*s.den - e.num*s.num*g.den)) (D:=s.den*g.den*e.den) ?_ (Int.mul_ne_zero (Int.mul_ne_zero d1 d2) d3)]
 ·have P1:=JAt (JAt hs.n hg.d) he.d;have P2:=JAt (JAt he.n hg.n) hs.d;have P3:=JAt (JAt he.n hs.n) hg.d;rw[show c+b+a=a+b+c by omega]at P2
  rw[show c+a+b=a+b+c by omega]at P3
  have E:=(pw1 (a+b+c)).2.1;exact Sz.of (Int.mul_ne_zero (Int.mul_ne_zero d1 d2) d3) (by omega) (pw_le (JAt (JAt hs.d hg.d) he.d) (by omega))
 ·have e1:=nd s;have e2:=nd g;have e3:=nd e;simp only[Rat.intCast_add,Rat.intCast_mul,Rat.intCast_sub];rw[<-e1,<-e2,<-e3]
  grind
end
instance(priority:=high){i j k:Nat}{s g e:Rat}[a:Z i s][b:Z j g][c:Z k e]:Z (i+j+k+2) (s+e*(g - s)):=⟨JQI a.h b.h c.h⟩
section
variable{j:Nat}{p:Rat}[a:Z j p]
instance(priority:=high):Z (3*j+8) (p*p*p - 2*(p*p)+p):=⟨by
 rw[show p*p*p - 2*(p*p)+p=p*((1 - p)*(1 - p)) by grind]
 exact(inferInstance:Z _ (p*((1 - p)*(1 - p)))).le (by omega)⟩
instance(priority:=high):Z (3*j+4) (p*p*p - p*p):=⟨by
 rw[show p*p*p - p*p=p*p*(p - 1) by grind]
 exact(inferInstance:Z _ (p*p*(p - 1))).le (by omega)⟩
end
end VI.VP
end
section
namespace VI.VP
noncomputable def b_46:S:=(.cons (.ret (.call 25 (.cons (.call 4 (.cons (.var 1) (.cons (.idx (.var 0) (.glo 57)) .nil))) (.cons (.idx (.var 0) (.glo 58)) .nil)))) .nil)
noncomputable def d_46:Fd:=⟨2,2,b_46⟩
noncomputable def b_47:S:=(.cons (.asg 1 (.lst (.cons (.idx (.var 0) (.glo 55)) (.cons (.idx (.var 0) (.glo 56)) .nil)))) (.cons (.ret (.tup (.cons (.call 7 (.cons (.var 1) .nil)) (.cons (.call 8 (.cons (.var 1) .nil)) .nil)))) .nil))
noncomputable def d_47:Fd:=⟨1,2,b_47⟩
noncomputable def b_48:S:=(.cons (.asg 2 (.call 46 (.cons (.var 0) (.cons (.var 1) .nil)))) (.cons (.ife (.cmp .Eq (.idx (.var 0) (.glo 59)) (.glo 61)) (.cons (.ret (.call 49 (.cons (.var 0) (.cons (.call 31 (.cons (.var 2) .nil)) .nil)))) .nil) .nil) (.cons (.ret (.call 10 (.cons (.idx (.var 0) (.glo 55)) (.cons (.idx (.var 0) (.glo 56)) (.cons (.call 32 (.cons (.idx (.var 0) (.glo 59)) (.cons (.var 2) .nil))) .nil))))) .nil)))
noncomputable def d_48:Fd:=⟨2,3,b_48⟩
noncomputable def b_49:S:=(.cons (.asg 2 (.call 5 (.cons (.var 1) (.cons (.var 1) .nil)))) (.cons (.asg 3 (.call 5 (.cons (.var 2) (.cons (.var 1) .nil)))) (.cons (.asg 4 (.call 5 (.cons (.idx (.idx (.var 0) (.glo 60)) (.cint 0)) (.cons (.call 3 (.cons (.call 4 (.cons (.var 3) (.cons (.call 5 (.cons (.call 2 (.cons (.cint 2) .nil)) (.cons (.var 2) .nil))) .nil))) (.cons (.var 1) .nil))) .nil)))) (.cons (.asg 5 (.call 5 (.cons (.idx (.idx (.var 0) (.glo 60)) (.cint 1)) (.cons (.call 4 (.cons (.var 3) (.cons (.var 2) .nil))) .nil)))) (.cons (.asg 6 (.call 5 (.cons (.idx (.var 0) (.glo 58)) (.cons (.call 3 (.cons (.var 4) (.cons (.var 5) .nil))) .nil)))) (.cons (.ret (.call 3 (.cons (.call 10 (.cons (.idx (.var 0) (.glo 55)) (.cons (.idx (.var 0) (.glo 56)) (.cons (.call 32 (.cons (.cstr "both") (.cons (.var 1) .nil))) .nil)))) (.cons (.var 6) .nil)))) .nil))))))
noncomputable def d_49:Fd:=⟨2,7,b_49⟩
noncomputable def b_68:S:=(.cons (.ret (.and (.call 24 (.cons (.var 0) .nil)) (.cmp .Gt (.idx (.var 0) (.cint 0)) (.cint 0)))) .nil)
noncomputable def d_68:Fd:=⟨1,1,b_68⟩
noncomputable def b_69:S:=(.cons (.ret (.and (.isi (.var 0) .tuple) (.and (.cmp .Eq (.blt .len (.cons (.var 0) .nil)) (.cint 2)) (.and (.call 24 (.cons (.idx (.var 0) (.cint 0)) .nil)) (.call 24 (.cons (.idx (.var 0) (.cint 1)) .nil)))))) .nil)
noncomputable def d_69:Fd:=⟨1,1,b_69⟩
noncomputable def b_70:S:=(.cons (.ret (.or (.cmp .Eq (.var 0) (.glo 61)) (.and (.call 29 (.cons (.var 0) .nil)) (.cmp .Eq (.var 1) (.glo 77))))) .nil)
noncomputable def d_70:Fd:=⟨2,2,b_70⟩
noncomputable def b_71:S:=(.cons (.ife (.or (.not (.isi (.var 0) .tuple)) (.cmp .NotEq (.blt .len (.cons (.var 0) .nil)) (.cint 6))) (.cons (.ret (.cbl false)) .nil) .nil) (.cons (.ife (.or (.not (.call 24 (.cons (.idx (.var 0) (.glo 55)) .nil))) (.or (.not (.call 24 (.cons (.idx (.var 0) (.glo 56)) .nil))) (.not (.call 24 (.cons (.idx (.var 0) (.glo 57)) .nil))))) (.cons (.ret (.cbl false)) .nil) .nil) (.cons (.ret (.and (.call 68 (.cons (.idx (.var 0) (.glo 58)) .nil)) (.and (.call 69 (.cons (.idx (.var 0) (.glo 60)) .nil)) (.call 70 (.cons (.idx (.var 0) (.glo 59)) (.cons (.idx (.var 0) (.glo 60)) .nil)))))) .nil)))
noncomputable def d_71:Fd:=⟨1,1,b_71⟩
noncomputable def b_72:S:=(.cons (.ret (.call 3 (.cons (.idx (.var 0) (.glo 57)) (.cons (.idx (.var 0) (.glo 58)) .nil)))) .nil)
noncomputable def d_72:Fd:=⟨1,1,b_72⟩
noncomputable def b_80:S:=(.cons (.ret (.tup (.cons (.var 0) (.cons (.var 1) (.cons (.var 2) (.cons (.var 3) (.cons (.var 4) (.cons (.glo 77) .nil)))))))) .nil)
noncomputable def d_80:Fd:=⟨5,5,b_80⟩
noncomputable def b_81:S:=(.cons (.ife (.or (.not (.isi (.var 0) .tuple)) (.cmp .NotEq (.blt .len (.cons (.var 0) .nil)) (.cint 2))) (.cons (.ret (.cbl false)) .nil) .nil) (.cons (.ife (.or (.not (.call 24 (.cons (.idx (.var 0) (.glo 93)) .nil))) (.not (.isi (.idx (.var 0) (.glo 94)) .tuple))) (.cons (.ret (.cbl false)) .nil) .nil) (.cons (.ret (.and (.blt .all (.cons (.cmpr 0 (.call 71 (.cons (.var 0) .nil)) (.idx (.var 0) (.glo 94)) (.cbl true)) .nil)) (.call 82 (.cons (.idx (.var 0) (.glo 94)) .nil)))) .nil)))
noncomputable def d_81:Fd:=⟨1,1,b_81⟩
noncomputable def b_82:S:=(.cons (.for1 1 (.rng (.cons (.cint 1) (.cons (.blt .len (.cons (.var 0) .nil)) .nil))) (.cons (.ife (.call 6 (.cons (.idx (.idx (.var 0) (.var 1)) (.glo 57)) (.cons (.call 72 (.cons (.idx (.var 0) (.bin .Sub (.var 1) (.cint 1))) .nil)) .nil))) (.cons (.ret (.cbl false)) .nil) .nil) .nil)) (.cons (.ret (.cbl true)) .nil))
noncomputable def d_82:Fd:=⟨1,2,b_82⟩
noncomputable def b_85:S:=(.cons (.ife (.not (.call 81 (.cons (.var 0) .nil))) (.cons (.rais 4) .nil) .nil) .nil)
noncomputable def d_85:Fd:=⟨1,1,b_85⟩
noncomputable def b_96:S:=(.cons (.ret (.cmpr 0 (.var 0) (.idx (.var 0) (.glo 94)) (.not (.call 6 (.cons (.var 2) (.cons (.idx (.var 0) (.glo 57)) .nil)))))) .nil)
noncomputable def d_96:Fd:=⟨2,2,b_96⟩
noncomputable def b_97:S:=(.cons (.asg 2 (.call 96 (.cons (.var 0) (.cons (.var 1) .nil)))) (.cons (.ife (.cmp .Eq (.blt .len (.cons (.var 2) .nil)) (.cint 0)) (.cons (.ret (.idx (.var 0) (.glo 93))) .nil) .nil) (.cons (.ret (.call 48 (.cons (.idx (.var 2) (.neg (.cint 1))) (.cons (.var 1) .nil)))) .nil)))
noncomputable def d_97:Fd:=⟨2,3,b_97⟩
noncomputable def JPj:S:=(.cons (.asg 1 (.glo 39)) (.cons (.for1 2 (.var 0) (.cons (.asg 1 (.call 3 (.cons (.var 1) (.cons (.var 2) .nil)))) .nil)) (.cons (.ret (.var 1)) .nil)))
noncomputable def JOA:Fd:=⟨1,3,JPj⟩
noncomputable def JNh:S:=(.cons (.ret (.call 141 (.cons (.var 0) (.cons (.glo 151) .nil)))) .nil)
noncomputable def JHe:Fd:=⟨1,1,JNh⟩
noncomputable def JCn:S:=(.cons (.ife (.or (.cmp .Eq (.var 1) (.cint 0)) (.or (.not (.isi (.var 0) .tuple)) (.cmp .Eq (.blt .len (.cons (.var 0) .nil)) (.cint 0)))) (.cons (.ret (.cbl false)) .nil) .nil) (.cons (.asg 2 (.idx (.var 0) (.cint 0))) (.cons (.ife (.or (.cmp .Eq (.var 2) (.cstr "go")) (.cmp .Eq (.var 2) (.cstr "by"))) (.cons (.ret (.and (.cmp .Eq (.blt .len (.cons (.var 0) .nil)) (.cint 4)) (.and (.call 24 (.cons (.idx (.var 0) (.cint 1)) .nil)) (.and (.call 68 (.cons (.idx (.var 0) (.cint 2)) .nil)) (.call 29 (.cons (.idx (.var 0) (.cint 3)) .nil)))))) .nil) .nil) (.cons (.ife (.cmp .Eq (.var 2) (.cstr "wait")) (.cons (.ret (.and (.cmp .Eq (.blt .len (.cons (.var 0) .nil)) (.cint 2)) (.call 68 (.cons (.idx (.var 0) (.cint 1)) .nil)))) .nil) .nil) (.cons (.ife (.cmp .Eq (.var 2) (.cstr "then")) (.cons (.ret (.and (.cmp .Eq (.blt .len (.cons (.var 0) .nil)) (.cint 3)) (.and (.call 141 (.cons (.idx (.var 0) (.cint 1)) (.cons (.bin .Sub (.var 1) (.cint 1)) .nil))) (.call 141 (.cons (.idx (.var 0) (.cint 2)) (.cons (.bin .Sub (.var 1) (.cint 1)) .nil)))))) .nil) .nil) (.cons (.ife (.cmp .Eq (.var 2) (.cstr "again")) (.cons (.ret (.and (.cmp .Eq (.blt .len (.cons (.var 0) .nil)) (.cint 3)) (.and (.call 142 (.cons (.idx (.var 0) (.cint 1)) .nil)) (.call 141 (.cons (.idx (.var 0) (.cint 2)) (.cons (.bin .Sub (.var 1) (.cint 1)) .nil)))))) .nil) .nil) (.cons (.ret (.cbl false)) .nil)))))))
noncomputable def JBn:Fd:=⟨2,3,JCn⟩
noncomputable def JOd:S:=(.cons (.ret (.and (.call 23 (.cons (.var 0) .nil)) (.and (.cmp .GtE (.var 0) (.cint 0)) (.cmp .LtE (.var 0) (.glo 152))))) .nil)
noncomputable def JKc:Fd:=⟨1,1,JOd⟩
noncomputable def JIu:S:=(.cons (.ife (.cmp .Eq (.idx (.var 0) (.cint 0)) (.cstr "then")) (.cons (.ret (.bin .Add (.call 143 (.cons (.idx (.var 0) (.cint 1)) .nil)) (.call 143 (.cons (.idx (.var 0) (.cint 2)) .nil)))) .nil) .nil) (.cons (.ife (.cmp .Eq (.idx (.var 0) (.cint 0)) (.cstr "again")) (.cons (.ret (.bin .Mult (.call 143 (.cons (.idx (.var 0) (.cint 2)) .nil)) (.idx (.var 0) (.cint 1)))) .nil) .nil) (.cons (.ret (.lst (.cons (.var 0) .nil))) .nil)))
noncomputable def JEA:Fd:=⟨1,1,JIu⟩
noncomputable def JNi:S:=(.cons (.ret (.ife (.cmp .Eq (.idx (.var 0) (.cint 0)) (.cstr "wait")) (.idx (.var 0) (.cint 1)) (.idx (.var 0) (.cint 2)))) .nil)
noncomputable def JJw:Fd:=⟨1,1,JNi⟩
noncomputable def b_180:S:=(.cons (.ret (.call 179 (.cons (.cmpr 0 (.call 144 (.cons (.var 0) .nil)) (.call 143 (.cons (.var 0) .nil)) (.cbl true)) .nil))) .nil)
noncomputable def d_180:Fd:=⟨1,1,b_180⟩
noncomputable def JEJ:S:=(.cons (.asg 3 (.call 12 (.cons (.var 0) (.cons (.var 1) (.cons (.cint 8) .nil))))) (.cons (.ife (.or (.cmp .Eq (.var 2) (.cint 1)) (.cmp .Lt (.var 3) (.cint 3))) (.cons (.asg 4 (.call 12 (.cons (.var 0) (.cons (.bin .Add (.var 1) (.cint 1)) (.cons (.cint 5) .nil))))) (.cons (.ife (.cmp .Eq (.var 4) (.cint 0)) (.cons (.ret (.tup (.cons (.cstr "wait") (.cons (.call 16 (.cons (.var 0) (.cons (.bin .Add (.var 1) (.cint 2)) .nil))) .nil)))) .nil) .nil) (.cons (.asg 5 (.ife (.cmp .Lt (.var 4) (.cint 3)) (.cstr "go") (.cstr "by"))) (.cons (.ret (.tup (.cons (.var 5) (.cons (.call 15 (.cons (.var 0) (.cons (.bin .Add (.var 1) (.cint 4)) .nil))) (.cons (.call 16 (.cons (.var 0) (.cons (.bin .Add (.var 1) (.cint 6)) .nil))) (.cons (.call 35 (.cons (.var 0) (.cons (.bin .Add (.var 1) (.cint 8)) .nil))) .nil)))))) .nil)))) .nil) (.cons (.ife (.cmp .Lt (.var 3) (.cint 6)) (.cons (.asg 6 (.call 146 (.cons (.var 0) (.cons (.bin .Add (.bin .Mult (.cint 3) (.var 1)) (.cint 11)) (.cons (.bin .Sub (.var 2) (.cint 1)) .nil))))) (.cons (.ret (.tup (.cons (.cstr "then") (.cons (.var 6) (.cons (.call 146 (.cons (.var 0) (.cons (.bin .Add (.bin .Mult (.cint 3) (.var 1)) (.cint 37)) (.cons (.bin .Sub (.var 2) (.cint 1)) .nil)))) .nil))))) .nil)) .nil) (.cons (.ret (.tup (.cons (.cstr "again") (.cons (.call 12 (.cons (.var 0) (.cons (.bin .Add (.var 1) (.cint 9)) (.cons (.cint 4) .nil)))) (.cons (.call 146 (.cons (.var 0) (.cons (.bin .Add (.bin .Mult (.cint 3) (.var 1)) (.cint 23)) (.cons (.bin .Sub (.var 2) (.cint 1)) .nil)))) .nil))))) .nil))))
noncomputable def d_146:Fd:=⟨3,7,JEJ⟩
noncomputable def JIv:S:=(.cons (.ife (.cmp .Eq (.idx (.var 0) (.cint 0)) (.cstr "then")) (.cons (.ret (.bin .Add (.call 147 (.cons (.idx (.var 0) (.cint 1)) .nil)) (.call 147 (.cons (.idx (.var 0) (.cint 2)) .nil)))) .nil) .nil) (.cons (.ife (.cmp .Eq (.idx (.var 0) (.cint 0)) (.cstr "again")) (.cons (.asg 1 (.lst .nil)) (.cons (.for1 2 (.rng (.cons (.idx (.var 0) (.cint 1)) .nil)) (.cons (.ext 1 (.call 147 (.cons (.idx (.var 0) (.cint 2)) .nil))) .nil)) (.cons (.ret (.var 1)) .nil))) .nil) (.cons (.ret (.lst (.cons (.var 0) .nil))) .nil)))
noncomputable def JEC:Fd:=⟨1,3,JIv⟩
noncomputable def JMe:S:=(.cons (.ife (.not (.call 140 (.cons (.var 0) .nil))) (.cons (.rais 3) .nil) .nil) .nil)
noncomputable def JIb:Fd:=⟨1,1,JMe⟩
noncomputable def JJN:S:=(.cons (.ife (.cmp .Eq (.idx (.var 0) (.cint 0)) (.cstr "wait")) (.cons (.ret (.var 1)) .nil) .nil) (.cons (.ife (.cmp .Eq (.idx (.var 0) (.cint 0)) (.cstr "by")) (.cons (.ret (.call 3 (.cons (.var 1) (.cons (.idx (.var 0) (.cint 1)) .nil)))) .nil) .nil) (.cons (.ret (.idx (.var 0) (.cint 1))) .nil)))
noncomputable def JHx:Fd:=⟨2,2,JJN⟩
noncomputable def JG0:S:=(.cons (.drop (.call 153 (.cons (.var 0) .nil))) (.cons (.asg 3 (.lst .nil)) (.cons (.asg 4 (.var 1)) (.cons (.asg 5 (.var 2)) (.cons (.for1 6 (.call 143 (.cons (.var 0) .nil)) (.cons (.asg 7 (.call 154 (.cons (.var 6) (.cons (.var 4) .nil)))) (.cons (.ife (.cmp .NotEq (.idx (.var 6) (.cint 0)) (.cstr "wait")) (.cons (.app 3 (.call 80 (.cons (.var 4) (.cons (.var 7) (.cons (.var 5) (.cons (.idx (.var 6) (.cint 2)) (.cons (.idx (.var 6) (.cint 3)) .nil))))))) .nil) .nil) (.cons (.asg 4 (.var 7)) (.cons (.asg 5 (.call 3 (.cons (.var 5) (.cons (.call 144 (.cons (.var 6) .nil)) .nil)))) .nil))))) (.cons (.ret (.tup (.cons (.var 1) (.cons (.fn1 .toTup (.var 3)) .nil)))) .nil))))))
noncomputable def JM7:Fd:=⟨3,8,JG0⟩
noncomputable def JQZ:S:=(.cons (.asg 1 (.idx (.var 0) (.glo 58))) (.cons (.asg 2 (.call 5 (.cons (.var 1) (.cons (.idx (.var 0) (.glo 55)) .nil)))) (.cons (.asg 3 (.call 5 (.cons (.call 5 (.cons (.var 1) (.cons (.call 4 (.cons (.idx (.var 0) (.glo 56)) (.cons (.idx (.var 0) (.glo 55)) .nil))) .nil))) (.cons (.idx (.glo 192) (.idx (.var 0) (.glo 59))) .nil)))) (.cons (.ret (.call 3 (.cons (.call 3 (.cons (.var 2) (.cons (.var 3) .nil))) (.cons (.call 189 (.cons (.var 0) .nil)) .nil)))) .nil))))
noncomputable def JMa:Fd:=⟨1,4,JQZ⟩
noncomputable def JP9:S:=(.cons (.asg 1 (.idx (.var 0) (.glo 58))) (.cons (.asg 2 (.call 4 (.cons (.idx (.idx (.var 0) (.glo 60)) (.cint 0)) (.cons (.idx (.idx (.var 0) (.glo 60)) (.cint 1)) .nil)))) (.cons (.ret (.call 5 (.cons (.call 5 (.cons (.call 1 (.cons (.cint 1) (.cons (.cint 12) .nil))) (.cons (.call 5 (.cons (.var 1) (.cons (.var 1) .nil))) .nil))) (.cons (.var 2) .nil)))) .nil)))
noncomputable def JNt:Fd:=⟨1,3,JP9⟩
noncomputable def JPz:S:=(.cons (.drop (.call 85 (.cons (.var 0) .nil))) (.cons (.asg 1 (.call 179 (.cons (.cmpr 0 (.call 188 (.cons (.var 0) .nil)) (.idx (.var 0) (.glo 94)) (.cbl true)) .nil))) (.cons (.asg 2 (.call 179 (.cons (.cmpr 0 (.call 194 (.cons (.var 1) (.cons (.var 0) .nil))) (.call 195 (.cons (.var 0) .nil)) (.cbl true)) .nil))) (.cons (.ret (.call 3 (.cons (.var 1) (.cons (.var 2) .nil)))) .nil))))
noncomputable def JMx:Fd:=⟨1,3,JPz⟩
noncomputable def JRg:S:=(.cons (.ret (.call 5 (.cons (.call 4 (.cons (.idx (.var 1) (.cint 1)) (.cons (.idx (.var 1) (.cint 0)) .nil))) (.cons (.call 97 (.cons (.var 0) (.cons (.idx (.var 1) (.cint 0)) .nil))) .nil)))) .nil)
noncomputable def JNo:Fd:=⟨2,2,JRg⟩
noncomputable def JFl:S:=(.cons (.drop (.call 85 (.cons (.var 0) .nil))) (.cons (.asg 1 (.idx (.var 0) (.glo 94))) (.cons (.asg 2 (.lst .nil)) (.cons (.for1 3 (.rng (.cons (.cint 1) (.cons (.blt .len (.cons (.var 1) .nil)) .nil))) (.cons (.asg 4 (.call 72 (.cons (.idx (.var 1) (.bin .Sub (.var 3) (.cint 1))) .nil))) (.cons (.asg 5 (.idx (.idx (.var 1) (.var 3)) (.glo 57))) (.cons (.ife (.call 6 (.cons (.var 4) (.cons (.var 5) .nil))) (.cons (.app 2 (.tup (.cons (.var 4) (.cons (.var 5) .nil)))) .nil) .nil) .nil)))) (.cons (.ret (.var 2)) .nil)))))
noncomputable def JKf:Fd:=⟨1,6,JFl⟩
noncomputable def JSJ:S:=(.cons (.drop (.call 85 (.cons (.var 0) .nil))) (.cons (.ret (.call 179 (.cons (.cmpr 0 (.call 198 (.cons (.var 0) .nil)) (.idx (.var 0) (.glo 94)) (.cbl true)) .nil))) .nil))
noncomputable def JOZ:Fd:=⟨1,1,JSJ⟩
noncomputable def JR1:S:=(.cons (.asg 1 (.call 47 (.cons (.var 0) .nil))) (.cons (.ret (.call 4 (.cons (.idx (.var 1) (.cint 1)) (.cons (.idx (.var 1) (.cint 0)) .nil)))) .nil))
noncomputable def JN1:Fd:=⟨1,2,JR1⟩
noncomputable def JOS:S:=(.cons (.drop (.call 153 (.cons (.var 0) .nil))) (.cons (.asg 2 (.lst .nil)) (.cons (.asg 3 (.var 1)) (.cons (.for1 4 (.call 143 (.cons (.var 0) .nil)) (.cons (.app 2 (.var 3)) (.cons (.asg 3 (.call 3 (.cons (.var 3) (.cons (.call 144 (.cons (.var 4) .nil)) .nil)))) .nil))) (.cons (.ret (.var 2)) .nil)))))
noncomputable def JIl:Fd:=⟨2,5,JOS⟩
noncomputable def JPQ:S:=(.cons (.asg 3 (.cmpr 0 (.var 0) (.call 231 (.cons (.var 0) (.cons (.var 1) .nil))) (.not (.call 6 (.cons (.var 3) (.cons (.var 0) .nil)))))) (.cons (.ife (.or (.cmp .Eq (.blt .len (.cons (.var 3) .nil)) (.cint 0)) (.not (.call 6 (.cons (.var 2) (.cons (.call 3 (.cons (.var 1) (.cons (.call 180 (.cons (.var 0) .nil)) .nil))) .nil))))) (.cons (.ret .cnon) .nil) .nil) (.cons (.ret (.bin .Sub (.blt .len (.cons (.var 3) .nil)) (.cint 1))) .nil)))
noncomputable def JNF:Fd:=⟨3,4,JPQ⟩
noncomputable def b_233:S:=(.cons (.ret (.ife (.cmp .Eq (.idx (.var 0) (.cint 0)) (.cstr "wait")) (.idx (.var 0) (.cint 0)) (.idx (.var 0) (.cint 3)))) .nil)
noncomputable def d_233:Fd:=⟨1,1,b_233⟩
noncomputable def JN5:S:=(.cons (.drop (.call 153 (.cons (.var 0) .nil))) (.cons (.asg 1 (.cmpr 0 (.call 233 (.cons (.var 0) .nil)) (.call 143 (.cons (.var 0) .nil)) (.cbl true))) (.cons (.ret (.cmpr 0 (.tup (.cons (.var 0) (.cons (.mcount (.var 2) (.var 0)) .nil))) (.xop .sst (.cons (.var 1) .nil)) (.cbl true))) .nil)))
noncomputable def JHs:Fd:=⟨1,2,JN5⟩
noncomputable def JO6:S:=(.cons (.asg 1 (.idx (.var 0) (.neg (.cint 1)))) (.cons (.for1 2 (.xop .rev (.cons (.fn1 (.slice none (some (-1))) (.var 0)) .nil)) (.cons (.asg 1 (.tup (.cons (.cstr "then") (.cons (.var 2) (.cons (.var 1) .nil))))) .nil)) (.cons (.ret (.var 1)) .nil)))
noncomputable def JNL:Fd:=⟨1,3,JO6⟩
noncomputable def JJr:S:=(.cons (.drop (.call 153 (.cons (.var 0) .nil))) (.cons (.asg 2 (.call 143 (.cons (.var 0) .nil))) (.cons (.ife (.cmp .Eq (.blt .len (.cons (.var 2) .nil)) (.cint 0)) (.cons (.rais 3) .nil) .nil) (.cons (.ret (.call 252 (.cons (.xop .dtk (.cons (.var 2) (.cons (.xop .mx2 (.cons (.var 1) (.cons (.cint 1) .nil))) .nil))) .nil))) .nil))))
noncomputable def JFr:Fd:=⟨2,3,JJr⟩
noncomputable def JNK:S:=(.cons (.asg 1 (.lst (.cons (.isi (.var 0) (.own 8)) (.cons (.isi (.var 0) (.own 1)) (.cons (.isi (.var 0) (.own 2)) (.cons (.isi (.var 0) (.own 6)) .nil)))))) (.cons (.asg 1 (.bin .Add (.var 1) (.lst (.cons (.isi (.var 0) (.own 3)) (.cons (.isi (.var 0) (.own 7)) (.cons (.isi (.var 0) (.own 5)) .nil)))))) (.cons (.asg 1 (.bin .Add (.var 1) (.lst (.cons (.isi (.var 0) (.own 4)) .nil)))) (.cons (.ife (.or (.cmp .NotEq (.mcount (.var 1) (.cbl true)) (.cint 1)) (.not (.isi (.var 0) .valueError))) (.cons (.ret (.cstr "wrong")) .nil) .nil) (.cons (.ret (.idx (.lst (.cons (.cstr "no back") (.cons (.cstr "no frac") (.cons (.cstr "no kind") (.cons (.cstr "no name") (.cons (.cstr "no plan") (.cons (.cstr "no text") (.cons (.cstr "no time") (.cons (.cstr "no track") .nil))))))))) (.mindex (.var 1) (.cbl true)))) .nil)))))
noncomputable def d_254:Fd:=⟨1,2,JNK⟩
noncomputable def tabA(i:Nat):Option Fd:=match i with
 |0=>some d_0
 |1=>some d_1
 |2=>some d_2
 |3=>some d_3
 |4=>some d_4
 |5=>some d_5
 |6=>some d_6
 |7=>some d_7
 |8=>some d_8
 |9=>some d_9
 |10=>some d_10
 |11=>some d_11
 |12=>some d_12
 |13=>some d_13
 |14=>some d_14
 |15=>some d_15
 |16=>some d_16
 |17=>some d_17
 |18=>some d_18
 |19=>some d_19
 |20=>some d_20
 |21=>some d_21
 |23=>some d_23
 |24=>some d_24
 |25=>some d_25
 |26=>some d_26
 |27=>some d_27
 |29=>some d_29
 |30=>some d_30
 |31=>some d_31
 |32=>some d_32
 |33=>some d_33
 |34=>some d_34
 |35=>some d_35
 |36=>some d_36
 |37=>some d_37
 |43=>some d_43
 |44=>some d_44
 |46=>some d_46
 |47=>some d_47
 |48=>some d_48
 |49=>some d_49
 |68=>some d_68
 |69=>some d_69
 |70=>some d_70
 |71=>some d_71
 |72=>some d_72
 |80=>some d_80
 |81=>some d_81
 |82=>some d_82
 |85=>some d_85
 |96=>some d_96
 |97=>some d_97
 |140=>some JHe
 |141=>some JBn
 |142=>some JKc
 |143=>some JEA
 |144=>some JJw
 |146=>some d_146
 |147=>some JEC
 |153=>some JIb
 |154=>some JHx
 |155=>some JM7
 |179=>some JOA
 |180=>some d_180
 |188=>some JMa
 |189=>some JNt
 |193=>some JMx
 |194=>some JNo
 |195=>some JKf
 |197=>some JOZ
 |198=>some JN1
 |231=>some JIl
 |232=>some JNF
 |233=>some d_233
 |234=>some JHs
 |252=>some JNL
 |253=>some JFr
 |254=>some d_254
 |_=>none
noncomputable def gloA(i:Nat):R D:=match i with
 |39=>.ok (F 0)
 |40=>.ok (F 1)
 |41=>.ok (VI.VP.kinds)
 |42=>.ok (VI.VP.turned)
 |55=>.ok (.int 0)
 |56=>.ok (.int 1)
 |57=>.ok (.int 2)
 |58=>.ok (.int 3)
 |59=>.ok (.int 4)
 |60=>.ok (.int 5)
 |61=>.ok (.str "kept")
 |77=>.ok (.tuple [F 0,F 0])
 |93=>.ok (.int 0)
 |94=>.ok (.int 1)
 |128=>.ok (.int 0)
 |129=>.ok (.int 1)
 |151=>.ok (.int 5)
 |152=>.ok (.int 4)
 |192=>.ok (.dict [(.str "even",.tuple [.int 1,.int 2]),(.str "both",.tuple [.int 1,.int 2]),(.str "kept",.tuple [.int 1,.int 2]),(.str "in",.tuple [.int 1,.int 3]),(.str "out",.tuple [.int 2,.int 3]),(.str "hold",.tuple [.int 0,.int 1]),(.str "jump",.tuple [.int 1,.int 1])])
 |226=>.ok (.int 1)
 |_=>.bad
end VI.VP
end
section
namespace VI.VP
open PySem Fr
theorem tF:TabF tabA:=⟨rfl,rfl,rfl,rfl,rfl,rfl,rfl⟩
theorem tL:TabL tabA:=⟨rfl,rfl,rfl,rfl,rfl,rfl,rfl,rfl,rfl,rfl,rfl⟩
theorem tM:TabM tabA:=⟨rfl,rfl,rfl,rfl⟩
theorem tK:TabK tabA:=⟨rfl,rfl,rfl,rfl,rfl⟩
theorem gK:GloK gloA:=⟨rfl,rfl,rfl,rfl⟩
theorem G39:gloA 39=.ok (F 0):=rfl
theorem G40:gloA 40=.ok (F 1):=rfl
theorem G55:gloA 55=.ok (.int 0):=rfl
theorem G56:gloA 56=.ok (.int 1):=rfl
theorem G57:gloA 57=.ok (.int 2):=rfl
theorem G58:gloA 58=.ok (.int 3):=rfl
theorem G59:gloA 59=.ok (.int 4):=rfl
theorem G60:gloA 60=.ok (.int 5):=rfl
theorem G61:gloA 61=.ok (.str "kept"):=rfl
section
variable{x:Bool}{sub:Nat->Nat->Bool}{m i j:Nat}{p q:Rat}
theorem JAC{k:Nat}(h:k<=m):∃n,m=n+k:=⟨m - k,by omega⟩
theorem JLd[a:Z i p][b:Z j q](hi:i<=1500)(hj:j<=1500)(hm:3<=m):run x tabA gloA sub m 3 [F p,F q]=.ok (F (p+q)):=by
 obtain⟨n,rfl⟩:=JAC hm;exact JMc tF (a.le hi) (b.le hj)
theorem JHf[a:Z i p][b:Z j q](hi:i<=1500)(hj:j<=1500)(hm:3<=m):run x tabA gloA sub m 4 [F p,F q]=.ok (F (p - q)):=by
 obtain⟨n,rfl⟩:=JAC hm;exact JEH tF (a.le hi) (b.le hj)
theorem JHV[a:Z i p][b:Z j q](hi:i<=1500)(hj:j<=1500)(hm:3<=m):run x tabA gloA sub m 5 [F p,F q]=.ok (F (p*q)):=by
 obtain⟨n,rfl⟩:=JAC hm;exact JC3 tF (a.le hi) (b.le hj)
theorem q_less[a:Z i p][b:Z j q](hi:i<=1500)(hj:j<=1500)(hm:1<=m):run x tabA gloA sub m 6 [F p,F q]=.ok (.bool (decide (p<q))):=by
 obtain⟨n,rfl⟩:=JAC hm;exact JC6 tF (a.le hi) (b.le hj)
theorem JRW[a:Z i p][b:Z j q](h0:q≠0)(hi:i<=1500)(hj:j<=1500)(hm:3<=m):run x tabA gloA sub m 25 [F p,F q]=.ok (F (p / q)):=by
 obtain⟨n,rfl⟩:=JAC hm;have hp:=a.le hi;have hq:=b.le hj;have hz:q.num≠0:=λz=>h0 (Rat.num_eq_zero.mp z);rw[JAA (n:=n+2) (show tabA 25=some d_25 from rfl),JAB rfl]
 dsimp![d_25,b_25,JCm (hp.Ln (by omega)) (hq.Ld (by omega)),JCm (hp.Ld (by omega)) (hq.Ln (by omega)),JDU (n:=n) tF _ _ (Int.mul_ne_zero (JAu p) hz) (L.of (JAt hp.d hq.n) (by omega)),JL5]
theorem JOg(k:Int)(hm:1<=m):run x tabA gloA sub m 2 [.int k]=.ok (.tuple [.int k,.int 1]):=by
 obtain⟨n,rfl⟩:=JAC hm;exact JD9 tF k
theorem JIK{r:Rat}{k:Nat}[a:Z i p][b:Z j q][c:Z k r](hi:i<=1500)(hj:j<=1500)(hk:i+j+k<=1498)(hm:4<=m):run x tabA gloA sub m 10 [F p,F q,F r]=.ok (F (p+r*(q - p))):=by
 obtain⟨n,rfl⟩:=JAC hm;have z1:Z (j+i+1) (q - p):=inferInstance;have z2:Z (k+(j+i+1)) (r*(q - p)):=inferInstance;rw[JAA (n:=n+3) (show tabA 10=some d_10 from rfl),JAB rfl]
 dsimp![d_10,b_10,JHf (x:=x) (sub:=sub) (m:=n+3) (p:=q) (q:=p) (by omega) (by omega) (by omega),JHV (x:=x) (sub:=sub) (m:=n+3) (p:=r) (q:=q - p) (by omega) (by omega) (by omega),JLd (x:=x) (sub:=sub) (m:=n+3) (p:=p) (q:=r*(q - p)) (by omega) (by omega) (by omega)]
theorem JRP[a:Z i p](hi:i<=1500)(hm:3<=m):run x tabA gloA sub m 31 [F p]=.ok (F (JBR p)):=by
 obtain⟨n,rfl⟩:=JAC hm;exact JHh gK tF tM tK (a.le hi)
theorem JHo[a:Z i p](hi:i<=200)(hm:4<=m):run x tabA gloA sub m 32 [.str k.str,F p]=.ok (F (ez k (JBR p))):=by
 obtain⟨n,rfl⟩:=JAC hm;exact JJc gK tF tM tK k (a.le hi)
theorem JEa(ns:List Int)(k c:Int)(hm:2<=m)(hk:0<=k)(hk2:k<2000000)(hc:0<c):∃i,0<=i/\i<c/\run x tabA gloA sub m 12 [sc ns,.int k,.int c]=.ok (.int i):=by
 obtain⟨n,rfl⟩:=JAC hm;exact JCc tL ns k c hk hk2 hc
theorem JPO(ns:List Int)(k:Int)(hm:3<=m)(hk:0<=k)(hk2:k<1000000):∃q,Small q/\run x tabA gloA sub m 15 [sc ns,.int k]=.ok (F q):=by
 obtain⟨n,rfl⟩:=JAC hm;exact JJZ tL ns k hk hk2
theorem JLv(ns:List Int)(k:Int)(hm:3<=m)(hk:0<=k)(hk2:k<1000000):∃q,Small q/\0<q/\run x tabA gloA sub m 16 [sc ns,.int k]=.ok (F q):=by
 obtain⟨n,rfl⟩:=JAC hm;exact JKD tL ns k hk hk2
theorem JQn(ns:List Int)(k:Int)(hm:3<=m)(hk:0<=k)(hk2:k<1000000):∃d:Kd,run x tabA gloA sub m 35 [sc ns,.int k]=.ok (.str d.str):=by
 obtain⟨n,rfl⟩:=JAC hm;exact JJp tL rfl ns k hk hk2
end
end VI.VP
end
local macro_rules | `(tactic| dsimp?! [$ts,*])=>`(tactic| simp(disch:=first|omega|assumption) only[VI.VP.v_var,VI.VP.JRi,VI.VP.v_bl,VI.VP.JPm,VI.VP.JPf,VI.VP.JRj,VI.VP.JO7,VI.VP.v_not,VI.VP.v_and,VI.VP.v_or,VI.VP.JQs,VI.VP.JQT,VI.VP.JPd,VI.VP.JOt,VI.VP.JRB,VI.VP.JLD,VI.VP.JQS,VI.VP.JRR,
 VI.VP.v_count,VI.VP.JIq,VI.VP.JLn,VI.VP.JPx,VI.VP.JOv,VI.VP.JO5,VI.VP.JRS,VI.VP.JGi,VI.VP.JQt,VI.VP.JQV,VI.VP.JLb,VI.VP.JRK,VI.VP.JSC,VI.VP.k_tt,VI.VP.k_tl,VI.VP.k_lt,VI.VP.k_ll,VI.VP.JL7,VI.VP.JHc,VI.VP.JJQ,VI.VP.JQ9,VI.VP.t_or,VI.VP.t_bl,VI.VP.JR2,VI.VP.JKM,VI.VP.JJh,VI.VP.JMC,VI.VP.JQu,VI.VP.JRa,VI.VP.JQC,VI.VP.l_idx,VI.VP.JLe,
 VI.VP.JPE,VI.VP.JLN,VI.VP.JQy,VI.VP.JOq,VI.VP.JPo,VI.VP.JQj,VI.VP.JRA,VI.VP.JPU,VI.VP.JL0,VI.VP.JMB,VI.VP.JO4,VI.VP.JF7,
 VI.VP.JHP,VI.VP.JMF,VI.VP.JR0,VI.VP.JOy,VI.VP.JSK,VI.VP.JLE,VI.VP.JK6,VI.VP.JRI,VI.VP.JQQ,VI.VP.JOz,VI.VP.JRu,VI.VP.JQz,VI.VP.JLx,VI.VP.JLZ,VI.VP.JPC,VI.VP.JR8,VI.VP.JQA,VI.VP.JLC,VI.VP.JRf,VI.VP.JQq,VI.VP.JI0,VI.VP.JH8,VI.VP.JR7,VI.VP.JKw,VI.VP.JHR,VI.VP.JII,VI.VP.JLR,VI.VP.JLA,VI.VP.JSA,VI.VP.JR9,VI.VP.JPb,VI.VP.JLr,VI.VP.JKz,VI.VP.JLO,VI.VP.JLU,VI.VP.JLo,VI.VP.JRx,VI.VP.JLi,VI.VP.JPK,VI.VP.JMR,VI.VP.JL6,VI.VP.JLF,VI.VP.JL4,VI.VP.JR6,VI.VP.JQg,VI.VP.JLX,VI.VP.JQ3,VI.VP.JGJ,VI.VP.JME,VI.VP.JMI,VI.VP.JKv,VI.VP.JLf,VI.VP.JLm,VI.VP.JMJ,VI.VP.JLT,VI.VP.JLW,VI.VP.JIQ,VI.VP.JO2,VI.VP.JIe,VI.VP.JIh,VI.VP.JFx,VI.VP.JPk,VI.VP.JLw,VI.VP.JQJ,VI.VP.JP4,VI.VP.JHz,
 VI.VP.look_zero,VI.VP.look_succ,VI.VP.get_val,VI.VP.get_own,VI.VP.JFF,VI.VP.JFP,List.map_cons,List.map_nil,List.cons_append,List.nil_append,
 List.replicate_succ,List.replicate_zero,Nat.reduceSub,List.set_cons_zero,List.set_cons_succ,VI.E.fresh,VI.VP.JGD,VI.VP.JCA,VI.VP.JDw,VI.VP.JB3,Bool.false_and,q_v,eq_self,if_true,if_false,VI.VP.i_ne,VI.VP.i_eq,VI.VP.i_lt,VI.VP.i_gt,VI.VP.i_le,VI.VP.i_ge,VI.VP.F_eq,VI.VP.JLP,VI.VP.JLL,VI.VP.JNM,VI.VP.JRT,
 VI.VP.G39,VI.VP.G40,VI.VP.G55,VI.VP.G56,VI.VP.G57,VI.VP.G58,VI.VP.G59,VI.VP.G60,VI.VP.G61,VI.VP.JLd,VI.VP.JHf,VI.VP.JHV,VI.VP.q_less,VI.VP.JRW,VI.VP.JOg,VI.VP.JIK,VI.VP.JRP,VI.VP.JHo,$ts,*])
section
namespace VI.VP
open PySem Fr
noncomputable def kst:Option Kd->Str
 |some k=>k.str
 |none=>"kept"
noncomputable def mo(s g b l:Rat)(k:Option Kd)(u v:Rat):D:=.tuple [F s,F g,F b,F l,.str (kst k),.tuple [F u,F v]]
noncomputable def kw(s g l u v p:Rat):Rat:=s+ez .both (JBR p)*(g - s)+l*(u*(p*p*p - 2*(p*p)+p)+v*(p*p*p - p*p))
noncomputable def wo(s g b l:Rat)(k:Option Kd)(u v t:Rat):Rat:=match k with
 |some k=>s+ez k (JBR ((t - b) / l))*(g - s)
 |none=>kw s g l u v (JBR ((t - b) / l))
theorem JDn(k:Option Kd):shaped (.str (kst k))=true:=by
 cases k with
 |none=>decide +kernel
 |some k=>exact JDQ k
theorem JJU(k:Option Kd):(kst k=="kept")=k.isNone:=by
 cases k with
 |none=>decide +kernel
 |some k=>cases k<;>decide +kernel
theorem JIf(k:Option Kd):cmpD .Eq (.str (kst k)) (.str "kept")=.ok (.bool k.isNone):=by
 rw[JI9 (JDn k) (by decide +kernel),JJU]
theorem JHn(k:Kd):cmpD .Eq (.str k.str) (.str "kept")=.ok (.bool false):=JIf (some k)
section
variable{s g b l u v:Rat}{k:Option Kd}
theorem mo0:idxD (mo s g b l k u v) (.int 0)=.ok (F s):=rfl
theorem mo1:idxD (mo s g b l k u v) (.int 1)=.ok (F g):=rfl
theorem mo2:idxD (mo s g b l k u v) (.int 2)=.ok (F b):=rfl
theorem mo3:idxD (mo s g b l k u v) (.int 3)=.ok (F l):=rfl
theorem mo4:idxD (mo s g b l k u v) (.int 4)=.ok (.str (kst k)):=rfl
theorem mo5:idxD (mo s g b l k u v) (.int 5)=.ok (.tuple [F u,F v]):=rfl
theorem tp0:idxD (.tuple [a,c]) (.int 0)=.ok a:=rfl
theorem tp1:idxD (.tuple [a,c]) (.int 1)=.ok c:=rfl
theorem JMZ:JAI (mo s g b l k u v)=true:=rfl
end
section
variable{x:Bool}{sub:Nat->Nat->Bool}{m i1 i2 i3 i4 i5 i6 j:Nat}{s g b l u v t p:Rat}
theorem JLB[Z i3 b][Z i4 l][Z j t](hl:l≠0)(h3:i3<=400)(h4:i4<=400)(hj:j<=400)(hm:4<=m):run x tabA gloA sub m 46 [mo s g b l k u v,F t]=.ok (F ((t - b) / l)):=by
 obtain⟨n,rfl⟩:=JAC hm;rw[JAA (n:=n+3) (show tabA 46=some d_46 from rfl),JAB rfl]
 dsimp?! [d_46,b_46,mo2,mo3]
theorem m_kw[Z i1 s][Z i2 g][Z i4 l][Z i5 u][Z i6 v][Z j p](h1:i1+i2+4*j<=1470)(h2:i4+i5+i6+6*j<=1480)(hj:j<=190)(hm:5<=m):run x tabA gloA sub m 49 [mo s g b l k u v,F p]=.ok (F (kw s g l u v p)):=by
 obtain⟨n,rfl⟩:=JAC hm;rw[JAA (n:=n+4) (show tabA 49=some d_49 from rfl),JAB rfl];have eb:run x tabA gloA sub (n+4) 32 [.str "both",F p]=.ok (F (ez .both (JBR p))):=JHo (k:=.both) (by omega) (by omega)
 dsimp?! [d_49,b_49,mo0,mo1,mo2,mo3,mo4,mo5,tp0,tp1,W2,eb,kw]
theorem JKE[Z i1 s][Z i2 g][Z i3 b][Z i4 l][Z i5 u][Z i6 v][Z j t](hl:l≠0)(h1:i1+i2+4*(j+i3+i4)<=1430)(h2:i4+i5+i6+6*(j+i3+i4)<=1450)(h3:j+i3+i4<=180)(hm:6<=m) :
  run x tabA gloA sub m 48 [mo s g b l k u v,F t]=.ok (F (wo s g b l k u v t)):=by
 obtain⟨n,rfl⟩:=JAC hm;rw[JAA (n:=n+5) (show tabA 48=some d_48 from rfl),JAB rfl];cases k with
 |none=>dsimp?! [d_48,b_48,JLB,mo0,mo1,mo4,JIf,Option.isNone_none,m_kw,wo]
 |some k=>dsimp?! [d_48,b_48,JLB,mo0,mo1,mo4,JHn,kst,wo]
end
end VI.VP
end
section
namespace VI.VP
open PySem Fr
section
variable{s g b l u v t:Rat}{k:Option Kd}{i1 i2 i3 i4 i5 i6 j:Nat}
end
section
variable{x:Bool}{sub:Nat->Nat->Bool}{m i1 i2 i3 i4 i5 i6 j:Nat}{s g b l u v t p:Rat}
theorem kw1{s g l u v:Rat}:kw s g l u v 1=g:=by
 have:ez .both (JBR 1)=1:=by decide +kernel
 unfold kw;rw[this];grind
end
def Vs(z:Sl):Prop:=z.isOwn=false
theorem Vs.own{z:Sl}(h:Vs z)(e:E)(i:Nat)(r:Env):JAP e i (z::r)=JAP e (i+1) r:=by
 unfold Vs at h;cases z<;>first|(cases h;done)|simp[JAP,Sl.isOwn]
theorem JM1(p q p' q':Rat):cmpD .Eq (.tuple [F p,F q]) (.tuple [F p',F q'])=.ok (.bool (decide (p=p')&&decide (q=q'))):=by
 have h:∀p q,shaped (.tuple [F p,F q])=true:=λp q=>by
  unfold shaped;rw[q_i];refine⟨by simp only[PyData.canLay0,PyData.canLayAll0,JJF,Bool.and_self],decide_eq_true ?_⟩
  simp only[PyData.depth,PyData.depthAll,JCZ];decide
 simp only[cmpD,h,Bool.and_self,if_true,PyData.eqv,PyData.eqvAll,JGo,Bool.and_true]
end VI.VP
end
section
namespace VI.VP
open PySem Fr
theorem tI:TabI tabA:=⟨rfl,rfl,rfl⟩
theorem G77:gloA 77=.ok (.tuple [F 0,F 0]):=rfl
theorem JHg(s g b l:Rat)(k:Option Kd)(u v:Rat):shaped (mo s g b l k u v)=true:=by
 have hk:=JDn k;unfold shaped at hk ⊢;rw[q_i]at hk ⊢;refine⟨?_,decide_eq_true ?_⟩
 ·simp only[mo,PyData.canLay0,PyData.canLayAll0,JJF,Bool.and_self,Bool.true_and,Bool.and_true];simpa[PyData.canLay0] using hk.1
 ·simp only[mo,PyData.depth,PyData.depthAll,JCZ];decide
theorem JM0{p:Rat}:(0<p.num)=(0<p):=by
 apply propext;rw[Rat.lt_iff];simp
theorem JBY{sub:Nat->Nat->Bool}(ds:List D):isiD sub (.tuple ds) .tuple=.ok (.bool true):=rfl
theorem JQH{sub:Nat->Nat->Bool}(s g b l:Rat)(k:Option Kd)(u v:Rat):isiD sub (mo s g b l k u v) .tuple=.ok (.bool true):=rfl
theorem len2:(([a,c].length:Nat):Int)=2:=rfl
theorem JQx(s g b l:Rat)(k:Option Kd)(u v:Rat):bltD .len [mo s g b l k u v]=.ok (.int 6):=rfl
section
variable{x:Bool}{sub:Nat->Nat->Bool}{m i1 i2 i3 i4 i5 i6 j:Nat}{s g b l u v t p:Rat}
theorem JG9(hm:2<=m):run x tabA gloA sub m 24 [F p]=.ok (.bool true):=by
 obtain⟨n,rfl⟩:=JAC hm;exact isf_F tF tI p
theorem JJ0(hm:3<=m):run x tabA gloA sub m 68 [F p]=.ok (.bool (decide (0<p))):=by
 obtain⟨n,rfl⟩:=JAC hm;rw[JAA (n:=n+2) (show tabA 68=some d_68 from rfl),JAB rfl]
 dsimp?! [d_68,b_68,JG9,JM0]
theorem JKY(hm:3<=m):run x tabA gloA sub m 69 [.tuple [F u,F v]]=.ok (.bool true):=by
 obtain⟨n,rfl⟩:=JAC hm;rw[JAA (n:=n+2) (show tabA 69=some d_69 from rfl),JAB rfl]
 dsimp?! [d_69,b_69,JBY,len2,tp0,tp1,JG9,decide_true]
theorem JNU{k:Kd}(hm:1<=m):run x tabA gloA sub m 29 [.str k.str]=.ok (.bool true):=by
 obtain⟨n,rfl⟩:=JAC hm;exact JLy gK tK _ (JF8 k)
theorem JG7(hu:k≠none->u=0/\v=0)(hm:2<=m):run x tabA gloA sub m 70 [.str (kst k),.tuple [F u,F v]]=.ok (.bool true):=by
 obtain⟨n,rfl⟩:=JAC hm;rw[JAA (n:=n+1) (show tabA 70=some d_70 from rfl),JAB rfl];cases k with
 |none=>dsimp?! [d_70,b_70,JIf,Option.isNone_none]
 |some k =>
  obtain⟨rfl,rfl⟩:=hu (by simp)
  dsimp?! [d_70,b_70,JHn,kst,JNU,G77,JM1,decide_true,Bool.and_self]
theorem q_ismo{k:Option Kd}(hl:0<l)(hu:k≠none->u=0/\v=0)(hm:4<=m):run x tabA gloA sub m 71 [mo s g b l k u v]=.ok (.bool true):=by
 obtain⟨n,rfl⟩:=JAC hm;rw[JAA (n:=n+3) (show tabA 71=some d_71 from rfl),JAB rfl]
 dsimp?! [d_71,b_71,JQH,JQx,Bool.not_true,mo0,mo1,mo2,mo3,mo4,mo5,JG9,JJ0,hl,decide_true,JKY,JG7 hu]
theorem q_end[Z i3 b][Z i4 l]{k:Option Kd}(h3:i3<=400)(h4:i4<=400)(hm:4<=m):run x tabA gloA sub m 72 [mo s g b l k u v]=.ok (F (b+l)):=by
 obtain⟨n,rfl⟩:=JAC hm;rw[JAA (n:=n+3) (show tabA 72=some d_72 from rfl),JAB rfl]
 dsimp?! [d_72,b_72,mo2,mo3]
end
end VI.VP
end
section
namespace VI.VP
open PySem Fr
structure Mv where
 s:Rat
 g:Rat
 b:Rat
 l:Rat
 k:Option Kd
 u:Rat
 v:Rat
noncomputable def Mv.d(m:Mv):D:=mo m.s m.g m.b m.l m.k m.u m.v
structure Mv.Ok(m:Mv):Prop where
 l0:0<m.l
 uv:m.k≠none->m.u=0/\m.v=0
 b:Sz 200 m.b
 l:Sz 20 m.l
 sg:∃i j,Sz i m.s/\Sz j m.g/\i+j<=1180
 us:∃i j,Sz i m.u/\Sz j m.v/\i+j<=900
theorem Mv.Ok.of{m:Mv}(l0:0<m.l)(uv:m.k≠none->m.u=0/\m.v=0)(s:Sz 20 m.s)(g:Sz 20 m.g)(b:Sz 200 m.b)(l:Sz 20 m.l)(u:Sz 20 m.u)(v:Sz 20 m.v):m.Ok :=
 ⟨l0,uv,b,l,⟨20,20,s,g,by omega⟩,⟨20,20,u,v,by omega⟩⟩
noncomputable def Mv.e(m:Mv):Rat:=m.b+m.l
noncomputable def tr(w:Rat)(ms:List Mv):D:=.tuple [F w,.tuple (ms.map Mv.d)]
noncomputable def nov:List Mv->Bool
 | []=>true
 | [_]=>true
 |a::c::r=>!decide (c.b<a.e)&&nov (c::r)
theorem G93:gloA 93=.ok (.int 0):=rfl
theorem G94:gloA 94=.ok (.int 1):=rfl
theorem k_all{xs:List D}:bltD .all [.list xs]=allD xs:=rfl
theorem JMm{α:Type}{ms:List α}{p:α->Bool}:allD (ms.map λm=>.bool (p m))=.ok (.bool (ms.all p)):=by
 induction ms with
 |nil=>rfl
 |cons m r ih=>simp only[List.map_cons,allD,ih,List.all_cons]
theorem JJy:idxD (.tuple ((ms++[m]).map Mv.d)) (.int (-1))=.ok m.d:=by
 simp only[idxD,atI,ixN,q_g,q_u,List.length_cons,List.length_nil];rw[if_neg (by omega),if_pos (by omega)]
 simp only[Option.bind_some];rw[show(-1+(((ms.length+(0+1):Nat)):Int)).toNat=ms.length by omega]
 simp[optR]
theorem JIs{ms:List Mv}{m:Mv}:idxD (.list ((ms++[m]).map Mv.d)) (.int (-1))=.ok m.d:=JJy
theorem JF2{ms:List Mv}{m:Mv}{j:Nat}{i:Int}(hi:i=j)(h:ms[j]? = some m):idxD (.tuple (ms.map Mv.d)) (.int i)=.ok m.d:=by
 subst hi;obtain⟨hl,_⟩:=q_p.mp h;simp only[idxD,atI,ixN,q_g];rw[if_pos (by omega),if_pos (by omega)]
 simp only[Option.bind_some,Int.toNat_natCast,List.getElem?_map,h];rfl
noncomputable def JD4:S:=match b_82 with
 |.cons (.for1 _ _ b) _=>b
 |_=>.nil
section
variable{x:Bool}{sub:Nat->Nat->Bool}{m n:Nat}{w:Rat}{w':D}{ms:List Mv}
theorem Mv.q_ismo{a:Mv}(h:a.Ok)(hm:4<=m):run x tabA gloA sub m 71 [a.d]=.ok (.bool true):=VP.q_ismo h.l0 h.uv hm
theorem Mv.q_end{a:Mv}(h:a.Ok)(hm:4<=m):run x tabA gloA sub m 72 [a.d]=.ok (F a.e):=by
 have:Z 200 a.b:=⟨h.b⟩;have:Z 20 a.l:=⟨h.l⟩;exact VP.q_end (by omega) (by omega) hm
theorem Mv.q_less{a c:Mv}(h:a.Ok)(hc:c.Ok)(hm:1<=m):run x tabA gloA sub m 6 [F c.b,F a.e]=.ok (.bool (decide (c.b<a.e))):=by
 have:Z 200 a.b:=⟨h.b⟩;have:Z 200 c.b:=⟨hc.b⟩;have:Z 20 a.l:=⟨h.l⟩;have:Z 221 a.e:=⟨(inferInstance:Z (200+20+1) (a.b+a.l)).h⟩;exact VP.q_less (by omega) (by omega) hm
theorem JE1(hok:∀a∈ms,a.Ok):∀(r:List Mv) (pre:List Mv) (a:Mv) (y:Sl),ms=pre++a::r->Vs y ->
  (nov (a::r)=true->∃z,Vs z/\for2 ⟨run x tabA gloA sub (n+4),gloA,sub⟩ 1 JD4 ((List.range' (pre.length+1) r.length).map λj=>.int (j:Nat)) [.val (.tuple (ms.map Mv.d)),y]=.nx [.val (.tuple (ms.map Mv.d)),z]) /\
  (nov (a::r)=false->for2 ⟨run x tabA gloA sub (n+4),gloA,sub⟩ 1 JD4 ((List.range' (pre.length+1) r.length).map λj=>.int (j:Nat)) [.val (.tuple (ms.map Mv.d)),y]=.rt (.bool false))
 | [],pre,a,y,_,v=>⟨λ_=>⟨y,v,rfl⟩,λh=>by cases h⟩
 |c::r,pre,a,y,e,v=>by
  have ia:idxD (.tuple (ms.map Mv.d)) (.int (((pre.length+1:Nat):Int) - 1))=.ok a.d:=JF2 (j:=pre.length) (by omega) (by rw[e];simp)
  have ic:idxD (.tuple (ms.map Mv.d)) (.int ((pre.length+1:Nat):Int))=.ok c.d:=JF2 (j:=pre.length+1) rfl (by rw[e];simp[List.getElem?_append])
  have oa:a.Ok:=hok a (by rw[e];simp)
  have oc:c.Ok:=hok c (by rw[e];simp)
  have e1:run x tabA gloA sub (n+4) 72 [a.d]=.ok (F a.e):=Mv.q_end oa (by omega)
  have e2:run x tabA gloA sub (n+4) 6 [F c.b,F a.e]=.ok (.bool (decide (c.b<a.e))):=Mv.q_less oa oc (by omega)
  have m2:idxD c.d (.int 2)=.ok (F c.b):=rfl;simp only[List.length_cons,List.range'_succ,List.map_cons];generalize hC:(Cn.mk (run x tabA gloA sub (n+4)) gloA sub)=C;have fn:C.fn=run x tabA gloA sub (n+4):=by rw[<-hC]
  have fg:C.glo=gloA:=by rw[<-hC]
  have ih:=JE1 hok r (pre++[a]) c (.val (.int ((pre.length+1:Nat):Int))) (by rw[e];simp) rfl
  rw[hC,q_u,List.length_cons,List.length_nil]at ih;rw[JCH]
  by_cases o:c.b<a.e
  · have en:nov (a::c::r)=false:=by simp[nov,o]
    refine⟨λh=>(by rw[en]at h;cases h),λ_=>?_⟩
    dsimp?! [JD4,b_82,fn,fg,ia,ic,e1,e2,m2,o,decide_true]
  · have en:nov (a::c::r)=nov (c::r):=by simp[nov,o]
    have ex:exec C JD4 [.val (.tuple (ms.map Mv.d)),.val (.int ((pre.length+1:Nat):Int))]=.nx [.val (.tuple (ms.map Mv.d)),.val (.int ((pre.length+1:Nat):Int))]:=by
     dsimp?! [JD4,b_82,fn,fg,ia,ic,e1,e2,m2,o,decide_false]
    rw[List.set_cons_succ,List.set_cons_zero,ex,JGJ,en];exact ih
theorem JEv{j:Nat}(h:j<=1000):small ((j:Nat):Int)=true:=by
 unfold small;simp only[q_i,q_D];omega
theorem JRX{j:Nat}(h:j<=1000):rngD [.int 1,.int (j:Int)]=.ok ((List.range' 1 (j - 1)).map λj=>.int (j:Nat)):=by
 have h1:small 1=true:=JEv (j:=1) (by omega)
 simp only[rngD,h1,JEv h,Bool.and_self,if_true,JDz]
 congr 1
 rw[List.range'_eq_map_range,List.map_map];rw[show((j:Int) - 1).toNat=j - 1 by omega]
 refine List.map_congr_left λk _=>?_;simp
theorem JFt(hok:∀a∈ms,a.Ok)(hl:ms.length<=1000)(hm:5<=m):run x tabA gloA sub m 82 [.tuple (ms.map Mv.d)]=.ok (.bool (nov ms)):=by
 obtain⟨n,rfl⟩:=JAC hm;rw[JAA (n:=n+4) (show tabA 82=some d_82 from rfl),JAB rfl];have rg:=JRX hl;cases ms with
 |nil =>
  simp only[List.length_nil,Nat.zero_sub,List.range'_zero]at rg
  dsimp?! [d_82,b_82,List.length_nil,rg,JH7,JAY,JAm,JAW,nov]
 |cons a r =>
  have lp:=JE1 (x:=x) (sub:=sub) (n:=n) hok r [] a .no rfl rfl;have el:((a::r).map Mv.d).length=(a::r).length:=by simp
  generalize (a::r).map Mv.d=ds at *;simp only[List.length_nil,Nat.zero_add,JD4,b_82]at lp;have ec:(a::r).length - 1=r.length:=by simp
  rw[ec,<-el]at rg;generalize (List.range' 1 r.length).map (λj=>(PyData.int (j:Nat):D))=js at *;cases h:nov (a::r)
  ·have lp:=lp.2 h
   dsimp?! [d_82,b_82,rg,lp,JAY,JAm,JAW]
  ·obtain⟨z,v,lp⟩:=lp.1 h
   dsimp?! [d_82,b_82,rg,lp,JAY,JAm,JAW]
theorem JRt:isiD sub (tr w ms) .tuple=.ok (.bool true):=rfl
theorem JOu:bltD .len [tr w ms]=.ok (.int 2):=rfl
theorem tri0:idxD (tr w ms) (.int 0)=.ok (F w):=rfl
theorem JQP(hok:∀a∈ms,a.Ok)(hl:ms.length<=1000)(hm:6<=m):run x tabA gloA sub m 81 [tr w ms]=.ok (.bool (nov ms)):=by
 obtain⟨n,rfl⟩:=JAC hm;rw[JAA (n:=n+5) (show tabA 81=some d_81 from rfl),JAB rfl];have e1:run x tabA gloA sub (n+5) 82 [.tuple (ms.map Mv.d)]=.ok (.bool (nov ms)):=JFt hok hl (by omega)
 obtain⟨C,hC⟩:∃C:Cn,C=⟨run x tabA gloA sub (n+5),gloA,sub⟩:=⟨_,rfl⟩;have fn:C.fn=run x tabA gloA sub (n+5):=by rw[hC]
 have fg:C.glo=gloA:=by rw[hC]
 have fs:C.sub=sub:=by rw[hC]
 rw[<-hC];have cp:∀δ,JDc C 0 (.call 71 (.cons (.var 0) .nil)) (.cbl true) δ (.ok (ms.map Mv.d))=.ok (.list (ms.map λ_=>.bool true)):=by
  intro δ;rw[JDP (by rw[q_g];omega),JEw (g:=λ_=>.bool true) (λy hy=>?_)]
  ·simp only[mkl,List.map_map];rfl
  ·obtain⟨a,ha,rfl⟩:=List.mem_map.mp hy;have e:run x tabA gloA sub (n+5) 71 [a.d]=.ok (.bool true):=Mv.q_ismo (hok a ha) (by omega)
   rw[JDH]
   dsimp?! [fn,e]
 have al:allD (ms.map λ_=>.bool true)=.ok (.bool true):=by
  rw[JMm (p:=λ_=>true)];simp
 have it:JAc (.tuple (ms.map Mv.d))=.ok (ms.map Mv.d):=rfl;have s1:run x tabA gloA sub (n+5) 24 [F w]=.ok (.bool true):=JG9 (by omega)
 have t1:idxD (tr w ms) (.int 1)=.ok (.tuple (ms.map Mv.d)):=rfl;generalize ms.map Mv.d=ds at *
 dsimp?! [d_81,b_81,fn,fg,fs,JRt,JOu,Bool.not_true,decide_true,G93,G94,tri0,t1,s1,JBY,it,cp,k_all,al,e1]
theorem JGl{ms:List Mv}(h:ms≠[]):∃r m,ms=r++[m]:=⟨ms.dropLast,ms.getLast h,(List.dropLast_concat_getLast h).symm⟩
theorem JKV:(((ms++[a]).map Mv.d).length:Int)=ms.length+1:=by simp
theorem JJR(h:run x tabA gloA sub (m - 1) 81 [w']=.ok (.bool true))(hm:1<=m):run x tabA gloA sub m 85 [w']=.ok .none:=by
 obtain⟨n,rfl⟩:=JAC hm;rw[JAA (n:=n) (show tabA 85=some d_85 from rfl),JAB rfl];simp only[Nat.add_sub_cancel]at h
 dsimp?! [d_85,b_85,h,Bool.not_true]
theorem JOB{a b c d e:D}(hm:1<=m):run x tabA gloA sub m 80 [a,b,c,d,e]=.ok (.tuple [a,b,c,d,e,.tuple [F 0,F 0]]):=by
 obtain⟨n,rfl⟩:=JAC hm;rw[JAA (n:=n) (show tabA 80=some d_80 from rfl),JAB rfl]
 dsimp?! [d_80,b_80,G77]
theorem noF{p:Rat}:JAI (F p)=true:=rfl
section
variable{g b l:Rat}{k:Kd}{i:Nat}
end
end
end VI.VP
end
section
namespace VI.VP
open PySem Fr
theorem JBh{C:Cn}{i:Nat}{b:S}{Inv:List D->Env->Prop}(hb:∀d ds δ,Inv (d::ds) δ->∃δ',(exec C b (δ.set i (.val d))=.nx δ'\/exec C b (δ.set i (.val d))=.ct δ')/\Inv ds δ'):∀ {ds:List D}{δ},Inv ds δ->∃δ',for2 C i b ds δ=.nx δ'/\Inv [] δ'
 | [],δ,h=>⟨δ,rfl,h⟩
 |d::ds,δ,h=>by
  obtain⟨δ1,e,h1⟩:=hb d ds δ h;obtain⟨δ2,e2,h2⟩:=JBh hb h1;refine⟨δ2,?_,h2⟩;rw[JCH];rcases e with e|e<;>(rw[e];exact e2)
theorem Mv.can(m:Mv):m.d.canLay0=true:=by
 have:=JHg m.s m.g m.b m.l m.k m.u m.v;unfold shaped at this;rw[q_i]at this;exact this.1
theorem Mv.depth(m:Mv):m.d.depth<=4:=by
 simp only[Mv.d,mo,PyData.depth,PyData.depthAll,JCZ];decide
theorem JLl:∀ms:List Mv,PyData.canLayAll0 (ms.map Mv.d)=true
 | []=>rfl
 |m::r=>by simp only[List.map_cons,PyData.canLayAll0,Mv.can,JLl r,Bool.and_self]
theorem JFz:∀ms:List Mv,PyData.depthAll (ms.map Mv.d)<=4
 | []=>by simp[PyData.depthAll]
 |m::r=>by
  simp only[List.map_cons,PyData.depthAll];have:=m.depth;have:=JFz r;omega
theorem JRN(ms:List Mv):shaped (.tuple (ms.map Mv.d))=true:=by
 have:=JFz ms;unfold shaped;rw[q_i];refine⟨by simp only[PyData.canLay0,JLl],decide_eq_true ?_⟩
 simp only[PyData.depth];omega
theorem Mv.refl(m:Mv):PyData.eqv m.d m.d=true:=by
 simp only[Mv.d,mo,PyData.eqv,PyData.eqvAll,JGo,decide_true,Bool.and_true,beq_self_eq_true]
theorem JI5:∀ms:List Mv,PyData.eqvAll (ms.map Mv.d) (ms.map Mv.d)=true
 | []=>by simp only[List.map_nil,PyData.eqvAll]
 |m::r=>by simp only[List.map_cons,PyData.eqvAll,Mv.refl,JI5 r,Bool.and_self]
def Tw(B:Nat)(q:Rat):Prop:=∃z:Int,z.natAbs<=B/\q=Rat.divInt z 12
theorem Tw.add{A B:Nat}{p q:Rat}(h:Tw A p)(h':Tw B q):Tw (A+B) (p+q):=by
 obtain⟨z,hz,rfl⟩:=h;obtain⟨y,hy,rfl⟩:=h';refine⟨z+y,by omega,?_⟩
 simp only[Rat.divInt_eq_div];have:((z+y:Int):Rat)=z+y:=Rat.intCast_add z y;rw[this]
 grind
theorem Tw.mono{A B:Nat}{p:Rat}(h:Tw A p)(e:A<=B):Tw B p:=by
 obtain⟨z,hz,rfl⟩:=h;exact⟨z,by omega,rfl⟩
theorem Tw.sz{B:Nat}{p:Rat}(h:Tw B p)(e:B<1024):Sz 10 p:=by
 obtain⟨z,hz,rfl⟩:=h;exact Sz.of (by decide) (by omega) (by decide)
theorem Small.tw{q:Rat}(h:Small q):Tw 72 q:=by
 have hd:=h.d;have hp:=q.den_pos;have hw:=h.w;have e:=(Rat.num_divInt_den q).symm;have:q.den=1\/q.den=2\/q.den=3\/q.den=4:=by omega
 rcases this with k|k|k|k
 ·refine⟨q.num*12,by omega,?_⟩
  rw[k]at e;rw[e,Rat.divInt_eq_divInt_iff (by decide) (by decide)]
  rw[<-e];simp
 ·refine⟨q.num*6,by omega,?_⟩
  rw[k]at e
  conv=>lhs;rw[e]
  rw[Rat.divInt_eq_divInt_iff (by decide) (by decide)]
  simp;omega
 ·refine⟨q.num*4,by omega,?_⟩
  rw[k]at e
  conv=>lhs;rw[e]
  rw[Rat.divInt_eq_divInt_iff (by decide) (by decide)]
  simp;omega
 ·refine⟨q.num*3,by omega,?_⟩
  rw[k]at e
  conv=>lhs;rw[e]
  rw[Rat.divInt_eq_divInt_iff (by decide) (by decide)]
  simp;omega
section
variable{x:Bool}{sub:Nat->Nat->Bool}{m n:Nat}{w t:Rat}{ms:List Mv}{ns:List Int}
theorem JLs{a:E}{j:Nat}:(E.rng a).uses j=a.uses j:=rfl
end
end VI.VP
end
section
namespace VI.VP
open PySem Fr
inductive Pl where
 |wait (q:Rat)
 |step (o:Bool) (g q:Rat) (k:Kd)
 |thn (a b:Pl)
 |agn (c:Nat) (a:Pl)
noncomputable def gw(o:Bool):Str:=if o=true then "go" else "by"
theorem gwF:gw false="by":=rfl
theorem gwT:gw true="go":=rfl
noncomputable def Pl.d:Pl->D
 |.wait q=>.tuple [.str "wait",F q]
 |.step o g q k=>.tuple [.str (gw o),F g,F q,.str k.str]
 |.thn a b=>.tuple [.str "then",a.d,b.d]
 |.agn c a=>.tuple [.str "again",.int c,a.d]
noncomputable def Pl.dep:Pl->Nat
 |.wait _=>1
 |.step ..=>1
 |.thn a b=>max a.dep b.dep+1
 |.agn _ a=>a.dep+1
def Pl.Ok:Pl->Prop
 |.wait q=>0<q
 |.step _ _ q _=>0<q
 |.thn a b=>a.Ok/\b.Ok
 |.agn c a=>c<=4/\a.Ok
noncomputable def Pl.steps:Pl->List Pl
 |.thn a b=>a.steps++b.steps
 |.agn c a=>(List.replicate c a.steps).flatten
 |p=>[p]
theorem JA6{a b:Str}{k:Bool}(ha:shaped (.str a)=true)(hb:shaped (.str b)=true)(h:(a==b)=k):cmpD .Eq (.str a) (.str b)=.ok (.bool k):=by
 simp only[cmpD,ha,hb,Bool.and_self,if_true,PyData.eqv,h]
theorem h_go:shaped (.str "go")=true:=by decide +kernel
theorem h_by:shaped (.str "by")=true:=by decide +kernel
theorem JB2:shaped (.str "wait")=true:=by decide +kernel
theorem JB1:shaped (.str "then")=true:=by decide +kernel
theorem JBa:shaped (.str "again")=true:=by decide +kernel
theorem JIx:cmpD .Eq (.str "go") (.str "go")=.ok (.bool true):=JA6 h_go h_go (by decide +kernel)
theorem JFs:cmpD .Eq (.str "go") (.str "by")=.ok (.bool false):=JA6 h_go h_by (by decide +kernel)
theorem JBo:cmpD .Eq (.str "go") (.str "wait")=.ok (.bool false):=JA6 h_go JB2 (by decide +kernel)
theorem JCL:cmpD .Eq (.str "go") (.str "then")=.ok (.bool false):=JA6 h_go JB1 (by decide +kernel)
theorem JBz:cmpD .Eq (.str "go") (.str "again")=.ok (.bool false):=JA6 h_go JBa (by decide +kernel)
theorem JMk:cmpD .Eq (.str "by") (.str "go")=.ok (.bool false):=JA6 h_by h_go (by decide +kernel)
theorem JIS:cmpD .Eq (.str "by") (.str "by")=.ok (.bool true):=JA6 h_by h_by (by decide +kernel)
theorem JCN:cmpD .Eq (.str "by") (.str "wait")=.ok (.bool false):=JA6 h_by JB2 (by decide +kernel)
theorem JDI:cmpD .Eq (.str "by") (.str "then")=.ok (.bool false):=JA6 h_by JB1 (by decide +kernel)
theorem JCd:cmpD .Eq (.str "by") (.str "again")=.ok (.bool false):=JA6 h_by JBa (by decide +kernel)
theorem JFI:cmpD .Eq (.str "wait") (.str "go")=.ok (.bool false):=JA6 JB2 h_go (by decide +kernel)
theorem JEr:cmpD .Eq (.str "wait") (.str "by")=.ok (.bool false):=JA6 JB2 h_by (by decide +kernel)
theorem JBN:cmpD .Eq (.str "wait") (.str "wait")=.ok (.bool true):=JA6 JB2 JB2 (by decide +kernel)
theorem JB8:cmpD .Eq (.str "wait") (.str "then")=.ok (.bool false):=JA6 JB2 JB1 (by decide +kernel)
theorem JBu:cmpD .Eq (.str "wait") (.str "again")=.ok (.bool false):=JA6 JB2 JBa (by decide +kernel)
theorem JCE:cmpD .Eq (.str "then") (.str "go")=.ok (.bool false):=JA6 JB1 h_go (by decide +kernel)
theorem JCC:cmpD .Eq (.str "then") (.str "by")=.ok (.bool false):=JA6 JB1 h_by (by decide +kernel)
theorem JBg:cmpD .Eq (.str "then") (.str "wait")=.ok (.bool false):=JA6 JB1 JB2 (by decide +kernel)
theorem JA7:cmpD .Eq (.str "then") (.str "then")=.ok (.bool true):=JA6 JB1 JB1 (by decide +kernel)
theorem JDs:cmpD .Eq (.str "again") (.str "go")=.ok (.bool false):=JA6 JBa h_go (by decide +kernel)
theorem JDu:cmpD .Eq (.str "again") (.str "by")=.ok (.bool false):=JA6 JBa h_by (by decide +kernel)
theorem JCs:cmpD .Eq (.str "again") (.str "wait")=.ok (.bool false):=JA6 JBa JB2 (by decide +kernel)
theorem JBU:cmpD .Eq (.str "again") (.str "then")=.ok (.bool false):=JA6 JBa JB1 (by decide +kernel)
theorem JBK:cmpD .Eq (.str "again") (.str "again")=.ok (.bool true):=JA6 JBa JBa (by decide +kernel)
theorem G151:gloA 151=.ok (.int 5):=rfl
theorem G152:gloA 152=.ok (.int 4):=rfl
theorem t20{a b:D}:idxD (.tuple [a,b]) (.int 0)=.ok a:=rfl
theorem t21{a b:D}:idxD (.tuple [a,b]) (.int 1)=.ok b:=rfl
theorem t30{a b c:D}:idxD (.tuple [a,b,c]) (.int 0)=.ok a:=rfl
theorem t31{a b c:D}:idxD (.tuple [a,b,c]) (.int 1)=.ok b:=rfl
theorem t32{a b c:D}:idxD (.tuple [a,b,c]) (.int 2)=.ok c:=rfl
theorem t40{a b c e:D}:idxD (.tuple [a,b,c,e]) (.int 0)=.ok a:=rfl
theorem t41{a b c e:D}:idxD (.tuple [a,b,c,e]) (.int 1)=.ok b:=rfl
theorem t42{a b c e:D}:idxD (.tuple [a,b,c,e]) (.int 2)=.ok c:=rfl
theorem t43{a b c e:D}:idxD (.tuple [a,b,c,e]) (.int 3)=.ok e:=rfl
theorem JRe{a b:D}:(([a,b].length:Nat):Int)=2:=rfl
theorem JHK{a b c:D}:(([a,b,c].length:Nat):Int)=3:=rfl
theorem JOC{a b c e:D}:(([a,b,c,e].length:Nat):Int)=4:=rfl
theorem n2{a b:D}:bltD .len [.tuple [a,b]]=.ok (.int 2):=rfl
theorem n3{a b c:D}:bltD .len [.tuple [a,b,c]]=.ok (.int 3):=rfl
theorem n4{a b c e:D}:bltD .len [.tuple [a,b,c,e]]=.ok (.int 4):=rfl
theorem JOT{sub:Nat->Nat->Bool}{i:Int}:isiD sub (.int i) .int=.ok (.bool true):=rfl
theorem JKZ{sub:Nat->Nat->Bool}{i:Int}:isiD sub (.int i) .bool=.ok (.bool false):=rfl
theorem Pl.dep_pos:∀p:Pl,1<=p.dep:=by
 intro p;cases p<;>simp only[Pl.dep]<;>omega
section
variable{x:Bool}{sub:Nat->Nat->Bool}{m:Nat}
theorem JRy{i:Int}(hm:1<=m):run x tabA gloA sub m 23 [.int i]=.ok (.bool true):=by
 obtain⟨n,rfl⟩:=JAC hm;rw[JAA (n:=n) (show tabA 23=some d_23 from rfl),JAB rfl]
 dsimp?! [d_23,b_23,JOT,JKZ,Bool.not_false]
theorem JLh{i:Int}(hm:2<=m):run x tabA gloA sub m 142 [.int i]=.ok (.bool (decide (0<=i/\i<=4))):=by
 obtain⟨n,rfl⟩:=JAC hm;rw[JAA (n:=n+1) (show tabA 142=some JKc from rfl),JAB rfl]
 by_cases h:0<=i
 ·have e:decide (0<=i/\i<=4)=decide (i<=4):=by simp[h]
  rw[e]
  dsimp?! [JKc,JOd,JRy,G152,h,decide_true]
 ·have e:decide (0<=i/\i<=4)=false:=by simp[h]
  rw[e]
  dsimp?! [JKc,JOd,JRy,G152,h,decide_false]
theorem JNp:∀(p:Pl) {m:Nat}(deep:Int),p.Ok->0<=deep->p.dep+4<=m->run x tabA gloA sub m 141 [p.d,.int deep]=.ok (.bool (decide ((p.dep:Int)<=deep))):=by
 intro p
 induction p with
 |wait q =>
  intro m deep ok h0 hm;obtain⟨n,rfl⟩:=JAC (k:=5) hm;rw[JAA (n:=n+4) (show tabA 141=some JBn from rfl),JAB rfl];have oq:0<q:=ok
  by_cases hd:deep=0
  ·subst hd
   dsimp?! [JBn,JCn,Pl.d,Pl.dep,decide_true]
   rfl
  ·have r:decide (((Pl.wait q).dep:Int)<=deep)=true:=decide_eq_true (by simp only[Pl.dep];omega)
   rw[r]
   dsimp?! [JBn,JCn,Pl.d,hd,decide_false,decide_true,JBY,Bool.not_true,n2,JRe,Int.reduceEq,t20,t21,JFI,JEr,JBN,JB8,JBu,JJ0,oq]
 |step o g q k =>
  intro m deep ok h0 hm;obtain⟨n,rfl⟩:=JAC (k:=5) hm;rw[JAA (n:=n+4) (show tabA 141=some JBn from rfl),JAB rfl];have oq:0<q:=ok
  by_cases hd:deep=0
  ·subst hd
   dsimp?! [JBn,JCn,Pl.d,Pl.dep,decide_true]
   rfl
  ·have r:decide (((Pl.step o g q k).dep:Int)<=deep)=true:=decide_eq_true (by simp only[Pl.dep];omega)
   rw[r];cases o
   ·dsimp?! [JBn,JCn,Pl.d,gwF,gwT,hd,decide_false,decide_true,JBY,Bool.not_true,n4,JOC,Int.reduceEq,t40,t41,t42,t43,JMk,JIS,JCN,JDI,JCd,JG9,JJ0,JNU,oq]
   ·dsimp?! [JBn,JCn,Pl.d,gwF,gwT,hd,decide_false,decide_true,JBY,Bool.not_true,n4,JOC,Int.reduceEq,t40,t41,t42,t43,JIx,JFs,JBo,JCL,JBz,JG9,JJ0,JNU,oq]
 |thn a b iha ihb =>
  intro m deep ok h0 hm;obtain⟨n,rfl⟩:=JAC (k:=5) (m:=m) (by have:=(Pl.thn a b).dep_pos;omega)
  rw[JAA (n:=n+4) (show tabA 141=some JBn from rfl),JAB rfl];simp only[Pl.dep]at hm
  by_cases hd:deep=0
  ·subst hd;have r:decide (((Pl.thn a b).dep:Int)<=0)=false:=q_o (by have:=(Pl.thn a b).dep_pos;omega)
   rw[r]
   dsimp?! [JBn,JCn,Pl.d,decide_true]
  ·have ha:=iha (m:=n+4) (deep - 1) ok.1 (by omega) (by omega)
   have hb:=ihb (m:=n+4) (deep - 1) ok.2 (by omega) (by omega)
   generalize hda:a.d=da at *;generalize hdb:b.d=db at *
   by_cases h1:(a.dep:Int)<=deep - 1
   ·by_cases h2:(b.dep:Int)<=deep - 1
    ·have r:decide (((Pl.thn a b).dep:Int)<=deep)=true:=decide_eq_true (by simp only[Pl.dep];omega)
     rw[r]
     dsimp?! [JBn,JCn,Pl.d,hda,hdb,hd,decide_false,decide_true,JBY,Bool.not_true,n3,JHK,Int.reduceEq,t30,t31,t32,JCE,JCC,JBg,JA7,ha,hb,h1,h2]
    ·have r:decide (((Pl.thn a b).dep:Int)<=deep)=false:=q_o (by simp only[Pl.dep];omega)
     rw[r]
     dsimp?! [JBn,JCn,Pl.d,hda,hdb,hd,decide_false,decide_true,JBY,Bool.not_true,n3,JHK,Int.reduceEq,t30,t31,t32,JCE,JCC,JBg,JA7,ha,hb,h1,h2]
   ·have r:decide (((Pl.thn a b).dep:Int)<=deep)=false:=q_o (by simp only[Pl.dep];omega)
    rw[r]
    dsimp?! [JBn,JCn,Pl.d,hda,hdb,hd,decide_false,decide_true,JBY,Bool.not_true,n3,JHK,Int.reduceEq,t30,t31,t32,JCE,JCC,JBg,JA7,ha,h1]
 |agn c a iha =>
  intro m deep ok h0 hm;obtain⟨n,rfl⟩:=JAC (k:=5) (m:=m) (by have:=(Pl.agn c a).dep_pos;omega)
  rw[JAA (n:=n+4) (show tabA 141=some JBn from rfl),JAB rfl];simp only[Pl.dep]at hm
  by_cases hd:deep=0
  ·subst hd;have r:decide (((Pl.agn c a).dep:Int)<=0)=false:=q_o (by have:=(Pl.agn c a).dep_pos;omega)
   rw[r]
   dsimp?! [JBn,JCn,Pl.d,decide_true]
  ·have ha:=iha (m:=n+4) (deep - 1) ok.2 (by omega) (by omega)
   have hc:decide ((0:Int)<=c/\(c:Int)<=4)=true:=decide_eq_true (by have:=ok.1;omega)
   generalize hda:a.d=da at *;have r:decide (((Pl.agn c a).dep:Int)<=deep)=decide ((a.dep:Int)<=deep - 1):=by
    simp only[Pl.dep];apply decide_eq_decide.mpr;omega
   rw[r]
   dsimp?! [JBn,JCn,Pl.d,hda,hd,decide_false,decide_true,JBY,Bool.not_true,n3,JHK,Int.reduceEq,t30,t31,t32,JDs,JDu,JCs,JBU,JBK,JLh,ha,hc]
theorem JDo(p:Pl)(ok:p.Ok)(hm:p.dep+5<=m):run x tabA gloA sub m 140 [p.d]=.ok (.bool (decide (p.dep<=5))):=by
 obtain⟨n,rfl⟩:=JAC (k:=1) (m:=m) (by omega)
 rw[JAA (n:=n) (show tabA 140=some JHe from rfl),JAB rfl];have h:=JNp (x:=x) (sub:=sub) p (m:=n) 5 ok (by omega) (by omega)
 have r:decide ((p.dep:Int)<=5)=decide (p.dep<=5):=decide_eq_decide.mpr (by omega)
 rw[r]at h;generalize p.d=d at *
 dsimp?! [JHe,JNh,G151,h]
end
end VI.VP
end
section
namespace VI.VP
open PySem Fr
theorem JGN:∀p:Pl,p.Ok->p.steps.length<=4 ^ p.dep:=by
 intro p
 induction p with
 |wait q=>intro _;simp[Pl.steps,Pl.dep]
 |step o g q k=>intro _;simp[Pl.steps,Pl.dep]
 |thn a b ha hb =>
  intro ok;simp only[Pl.steps,Pl.dep,q_u];have h1:=ha ok.1;have h2:=hb ok.2;have h3:4 ^ a.dep<=4 ^ max a.dep b.dep:=Nat.pow_le_pow_right (by decide) (by omega)
  have h4:4 ^ b.dep<=4 ^ max a.dep b.dep:=Nat.pow_le_pow_right (by decide) (by omega)
  rw[Nat.pow_succ];omega
 |agn c a ha =>
  intro ok;simp only[Pl.steps,Pl.dep,List.length_flatten,List.map_replicate,List.sum_replicate_nat];have h1:=ha ok.2;rw[Nat.pow_succ,Nat.mul_comm];exact Nat.mul_le_mul h1 ok.1
theorem JBy{p:Pl}(ok:p.Ok)(hd:p.dep<=8):p.steps.length<=65536:=Nat.le_trans (JGN p ok) (Nat.le_trans (Nat.pow_le_pow_right (by decide) hd) (by decide))
theorem JMy{j:Nat}:(E.rng a).uses j=a.uses j:=rfl
noncomputable def Pl.one:Pl->Bool
 |.wait _=>true
 |.step ..=>true
 |_=>false
noncomputable def Pl.q:Pl->Rat
 |.wait q=>q
 |.step _ _ q _=>q
 |_=>0
theorem addL{xs ys:List D}(h:xs.length+ys.length<=16777216):binD .Add (.list xs) (.list ys)=.ok (.list (xs++ys)):=by
 simp only[binD,h,if_true]
theorem mulL{xs:List D}{c:Nat}(hc:c<=1000)(h:xs.length*c<=16777216):binD .Mult (.list xs) (.int c)=.ok (.list (List.replicate c xs).flatten):=by
 simp only[binD,Int.toNat_natCast];rw[if_pos ⟨by omega,by omega,h⟩]
theorem JQF{i:Nat}{e:E}(h:ds.length+zs.length<=16777216)(hu:JAP e 0 δ=false):JBZ i ds e (.list zs) δ=.nx (δ.set i (.own (.list (ds++zs)))):=by
 simp only[JBZ,h,if_true,hu,q_v,if_false]
theorem JOp{c:Nat}{xs:List Pl}:(List.replicate c (xs.map Pl.d)).flatten=((List.replicate c xs).flatten).map Pl.d:=by
 simp[List.map_flatten,List.map_replicate]
noncomputable def JFb:S:=.cons (.ext 1 (.call 147 (.cons (.idx (.var 0) (.cint 2)) .nil))) .nil
section
variable{x:Bool}{sub:Nat->Nat->Bool}{m:Nat}
theorem JCb:∀(p:Pl) {m:Nat},p.Ok->p.dep<=8->p.dep<=m->run x tabA gloA sub m 143 [p.d]=.ok (.list (p.steps.map Pl.d)):=by
 intro p
 induction p with
 |wait q =>
  intro m ok hd hm;obtain⟨n,rfl⟩:=JAC (k:=1) hm;rw[JAA (n:=n) (show tabA 143=some JEA from rfl),JAB rfl]
  dsimp?! [JEA,JIu,Pl.d,Pl.steps,t20,JB8,JBu]
 |step o g q k =>
  intro m ok hd hm;obtain⟨n,rfl⟩:=JAC (k:=1) hm;rw[JAA (n:=n) (show tabA 143=some JEA from rfl),JAB rfl];cases o<;>dsimp?! [JEA,JIu,Pl.d,Pl.steps,gwF,gwT,t40,JCL,JBz,JDI,JCd]
 |thn a b iha ihb =>
  intro m ok hd hm;have s1:=JBy (p:=a) ok.1 (by simp only[Pl.dep]at hd;omega)
  have s2:=JBy (p:=b) ok.2 (by simp only[Pl.dep]at hd;omega)
  simp only[Pl.dep]at hd hm;obtain⟨n,rfl⟩:=JAC (k:=1) (m:=m) (by omega)
  rw[JAA (n:=n) (show tabA 143=some JEA from rfl),JAB rfl];have ha:=iha (m:=n) ok.1 (by omega) (by omega)
  have hb:=ihb (m:=n) ok.2 (by omega) (by omega)
  have hs:binD .Add (.list (a.steps.map Pl.d)) (.list (b.steps.map Pl.d))=.ok (.list ((Pl.thn a b).steps.map Pl.d)):=by
   rw[addL (by simp only[q_g];omega)]
   simp only[Pl.steps,List.map_append]
  generalize (Pl.thn a b).steps.map Pl.d=rs at *;generalize hda:a.d=da at *;generalize hdb:b.d=db at *;generalize a.steps.map Pl.d=xs at *;generalize b.steps.map Pl.d=ys at *
  dsimp?! [JEA,JIu,Pl.d,hda,hdb,t30,t31,t32,JA7,ha,hb,hs]
 |agn c a iha =>
  intro m ok hd hm;have s1:=JBy (p:=a) ok.2 (by simp only[Pl.dep]at hd;omega)
  simp only[Pl.dep]at hd hm;obtain⟨n,rfl⟩:=JAC (k:=1) (m:=m) (by omega)
  rw[JAA (n:=n) (show tabA 143=some JEA from rfl),JAB rfl];have ha:=iha (m:=n) ok.2 (by omega) (by omega)
  have hc:=ok.1;have hs:binD .Mult (.list (a.steps.map Pl.d)) (.int c)=.ok (.list ((Pl.agn c a).steps.map Pl.d)):=by
   rw[mulL (by omega) (by simp only[q_g];have:=Nat.mul_le_mul s1 hc;omega),JOp]
   rfl
  generalize (Pl.agn c a).steps.map Pl.d=rs at *;generalize hda:a.d=da at *;generalize a.steps.map Pl.d=xs at *
  dsimp?! [JEA,JIu,Pl.d,hda,t30,t31,t32,JBU,JBK,ha,hs]
theorem JNn(c:Nat)(hc:c<=1000):rngD [.int c]=.ok (((List.range c).map λj:Nat=>(j:Int)).map PyData.int):=by
 have h:small (c:Int)=true:=by
  unfold small;simp only[q_i,q_D];omega
 simp only[rngD,h,if_true,JDz,List.map_map];simp
theorem JMl:∀(p:Pl) {m:Nat},p.Ok->p.dep<=8->p.dep<=m->run x tabA gloA sub m 147 [p.d]=.ok (.list (p.steps.map Pl.d)):=by
 intro p
 induction p with
 |wait q =>
  intro m ok hd hm;obtain⟨n,rfl⟩:=JAC (k:=1) hm;rw[JAA (n:=n) (show tabA 147=some JEC from rfl),JAB rfl]
  dsimp?! [JEC,JIv,Pl.d,Pl.steps,t20,JB8,JBu]
 |step o g q k =>
  intro m ok hd hm;obtain⟨n,rfl⟩:=JAC (k:=1) hm;rw[JAA (n:=n) (show tabA 147=some JEC from rfl),JAB rfl];cases o<;>dsimp?! [JEC,JIv,Pl.d,Pl.steps,gwF,gwT,t40,JCL,JBz,JDI,JCd]
 |thn a b iha ihb =>
  intro m ok hd hm;have s1:=JBy (p:=a) ok.1 (by simp only[Pl.dep]at hd;omega)
  have s2:=JBy (p:=b) ok.2 (by simp only[Pl.dep]at hd;omega)
  simp only[Pl.dep]at hd hm;obtain⟨n,rfl⟩:=JAC (k:=1) (m:=m) (by omega)
  rw[JAA (n:=n) (show tabA 147=some JEC from rfl),JAB rfl];have ha:=iha (m:=n) ok.1 (by omega) (by omega)
  have hb:=ihb (m:=n) ok.2 (by omega) (by omega)
  have hs:binD .Add (.list (a.steps.map Pl.d)) (.list (b.steps.map Pl.d))=.ok (.list ((Pl.thn a b).steps.map Pl.d)):=by
   rw[addL (by simp only[q_g];omega)]
   simp only[Pl.steps,List.map_append]
  generalize (Pl.thn a b).steps.map Pl.d=rs at *;generalize hda:a.d=da at *;generalize hdb:b.d=db at *;generalize a.steps.map Pl.d=xs at *;generalize b.steps.map Pl.d=ys at *
  dsimp?! [JEC,JIv,Pl.d,hda,hdb,t30,t31,t32,JA7,ha,hb,hs]
 |agn c a iha =>
  intro m ok hd hm;have s1:=JBy (p:=a) ok.2 (by simp only[Pl.dep]at hd;omega)
  simp only[Pl.dep]at hd hm;obtain⟨n,rfl⟩:=JAC (k:=1) (m:=m) (by omega)
  rw[JAA (n:=n) (show tabA 147=some JEC from rfl),JAB rfl];have ha:=iha (m:=n) ok.2 (by omega) (by omega)
  have hc:=ok.1;obtain⟨C,hC⟩:∃C:Cn,C=⟨run x tabA gloA sub n,gloA,sub⟩:=⟨_,rfl⟩;have fn:C.fn=run x tabA gloA sub n:=by rw[hC]
  have fg:C.glo=gloA:=by rw[hC]
  rw[<-hC];generalize hda:a.d=da at *;have rg:=JNn c (by omega)
  obtain⟨δ',lp,k,y2,ek,v2,eδ⟩:=JBh (C:=C) (i:=2) (b:=JFb)
   (Inv:=λds δ=>∃(k:Nat) (y2:Sl),ds.length+k=c/\Vs y2/\δ=[.val (.tuple [.str "again",.int c,da]),.own (.list (((List.replicate k a.steps).flatten).map Pl.d)),y2])
   (λd ds δ ⟨k,y2,ek,v2,e⟩=>by
     subst e;simp only[List.length_cons]at ek;refine⟨[.val (.tuple [.str "again",.int c,da]),.own (.list (((List.replicate (k+1) a.steps).flatten).map Pl.d)),.val d],.inl ?_,k+1,.val d,by omega,rfl,rfl⟩
     have hl:(((List.replicate k a.steps).flatten).map Pl.d).length<=65536*4:=by
      simp only[q_g,List.length_flatten,List.map_replicate,List.sum_replicate_nat];rw[Nat.mul_comm];exact Nat.mul_le_mul s1 (by omega)
     have ex:∀y:Sl,Vs y->JBZ 1 (((List.replicate k a.steps).flatten).map Pl.d) (.call 147 (.cons (.idx (.var 0) (.cint 2)) .nil)) (.list (a.steps.map Pl.d)) [.val (.tuple [.str "again",.int c,da]),.own (.list (((List.replicate k a.steps).flatten).map Pl.d)),y]
       = .nx [.val (.tuple [.str "again",.int c,da]),.own (.list (((List.replicate (k+1) a.steps).flatten).map Pl.d)),y]:=λy v=>by
      rw[JQF (by simp only[q_g]at hl ⊢;omega)
       (by rw[JCA,JAS,v.own,JB3];rfl)]
      rw[List.replicate_succ',List.flatten_append,List.map_append];simp
     generalize ((List.replicate (k+1) a.steps).flatten).map Pl.d=r1 at *;generalize ((List.replicate k a.steps).flatten).map Pl.d=r0 at *;generalize a.steps.map Pl.d=xs at *
     dsimp?! [JFb,fn,fg,t32,ha,ex (.val d) rfl])
   (ds:=((List.range c).map λj:Nat=>(j:Int)).map PyData.int)
   (δ:=[.val (.tuple [.str "again",.int c,da]),.own (.list []),.no])
   ⟨0,.no,by simp,rfl,by simp⟩
  subst eδ;have ek:k=c:=by simpa using ek
  subst ek;have hs:(Pl.agn k a).steps=(List.replicate k a.steps).flatten:=rfl;rw[hs];simp only[JFb]at lp;generalize ((List.replicate k a.steps).flatten).map Pl.d=rs at *;generalize ((List.range k).map λj:Nat=>(j:Int)).map PyData.int=js at *
  dsimp?! [JEC,JIv,Pl.d,hda,fn,fg,t30,t31,t32,JBU,JBK,rg,lp,JAY,JAm,JBf,JAW,JAS,JD6,JDm,JCh,JL8,JEE,JMy,JF9,Nat.reduceAdd,Nat.reduceBEq,Bool.or_false,Bool.or_self,v2.own]
end
end VI.VP
end
section
namespace VI.VP
open PySem Fr
noncomputable def tot:List Rat->Rat->Rat
 | [],s=>s
 |q::r,s=>tot r (s+q)
theorem Tw.sz20{B:Nat}{p:Rat}(h:Tw B p)(e:B<2 ^ 20):Sz 20 p:=by
 obtain⟨z,hz,rfl⟩:=h;exact Sz.of (by decide) (by omega) (by decide)
def Pl.Sm:Pl->Prop
 |.wait q=>Small q
 |.step _ g q _=>Small g/\Small q
 |.thn a b=>a.Sm/\b.Sm
 |.agn _ a=>a.Sm
theorem JDX:∀p:Pl,∀s∈p.steps,s.one=true:=by
 intro p
 induction p with
 |wait q=>intro s h;simp only[Pl.steps,List.mem_singleton]at h;subst h;rfl
 |step o g q k=>intro s h;simp only[Pl.steps,List.mem_singleton]at h;subst h;rfl
 |thn a b ha hb =>
  intro s h;simp only[Pl.steps,List.mem_append]at h;rcases h with h|h
  ·exact ha s h
  ·exact hb s h
 |agn c a ha =>
  intro s h;simp only[Pl.steps,List.mem_flatten,List.mem_replicate]at h;obtain⟨l,⟨_,rfl⟩,h⟩:=h;exact ha s h
theorem JEu{P:Pl->Prop}(h:∀a b,P (.thn a b)->P a/\P b)(h2:∀c a,P (.agn c a)->P a):∀p:Pl,P p->∀s∈p.steps,P s:=by
 intro p
 induction p with
 |wait q=>intro hp s h;simp only[Pl.steps,List.mem_singleton]at h;subst h;exact hp
 |step o g q k=>intro hp s h;simp only[Pl.steps,List.mem_singleton]at h;subst h;exact hp
 |thn a b ha hb =>
  intro hp s hs;simp only[Pl.steps,List.mem_append]at hs;rcases hs with hs|hs
  ·exact ha (h a b hp).1 s hs
  ·exact hb (h a b hp).2 s hs
 |agn c a ha =>
  intro hp s hs;simp only[Pl.steps,List.mem_flatten,List.mem_replicate]at hs;obtain⟨l,⟨_,rfl⟩,hs⟩:=hs;exact ha (h2 c a hp) s hs
theorem Pl.Sm.q{s:Pl}(h:s.Sm)(o:s.one=true):Small s.q:=by
 cases s with
 |wait q=>exact h
 |step o g q k=>exact h.2
 |thn a b=>cases o
 |agn c a=>cases o
section
variable{x:Bool}{sub:Nat->Nat->Bool}{m:Nat}
theorem JI7{p:Pl}(h:p.one=true)(hm:1<=m):run x tabA gloA sub m 144 [p.d]=.ok (F p.q):=by
 obtain⟨n,rfl⟩:=JAC hm;rw[JAA (n:=n) (show tabA 144=some JJw from rfl),JAB rfl];cases p with
 |wait q=>dsimp?! [JJw,JNi,Pl.d,Pl.q,t20,t21,JBN]
 |step o g q k=>cases o<;>dsimp?! [JJw,JNi,Pl.d,Pl.q,gwF,gwT,t40,t42,JBo,JCN]
 |thn a b=>cases h
 |agn c a=>cases h
end
end VI.VP
end
section
namespace VI.VP
open PySem Fr
noncomputable def pB:Nat->Int
 |0=>900000
 |1=>900000
 |2=>299000
 |3=>99000
 |_=>32000
theorem JMz{d:Nat}{a:Int}(hd:d<=3)(h1:1<=d)(h:a<=pB (d+1)):3*a+37<=pB d:=by
 have:d=1\/d=2\/d=3:=by omega
 rcases this with rfl|rfl|rfl<;>simp only[pB]at h ⊢<;>omega
theorem pB_le(d:Nat):pB d<=900000:=by
 unfold pB
 split<;>omega
section
variable{x:Bool}{sub:Nat->Nat->Bool}{m:Nat}
theorem JGb(ns:List Int):∀(d:Nat) {m:Nat}(at':Int),1<=d->d<=4->0<=at'->at'<=pB d->d+3<=m->∃p:Pl,p.Ok/\p.Sm/\p.dep<=d/\run x tabA gloA sub m 146 [sc ns,.int at',.int d]=.ok p.d
 |0,_,_,h,_,_,_,_=>absurd h (by omega)
 |d+1,m,at',_,hd,h0,h1,hm=>by
  obtain⟨n,rfl⟩:=JAC (k:=1) (m:=m) (by omega)
  rw[JAA (n:=n) (show tabA 146=some d_146 from rfl),JAB rfl];have hb:=pB_le (d+1);obtain⟨w,w0,w1,hw⟩:=JEa (x:=x) (sub:=sub) (m:=n) ns at' 8 (by omega) (by omega) (by omega) (by omega)
  have e1:((d+1:Nat):Int) - 1=d:=by omega
  by_cases hs:d=0\/w<3
  ·obtain⟨s,s0,s1,hs1⟩:=JEa (x:=x) (sub:=sub) (m:=n) ns (at'+1) 5 (by omega) (by omega) (by omega) (by omega)
   obtain⟨q2,sq2,q20,h2⟩:=JLv (x:=x) (sub:=sub) (m:=n) ns (at'+2) (by omega) (by omega) (by omega)
   obtain⟨g,sg,hg⟩:=JPO (x:=x) (sub:=sub) (m:=n) ns (at'+4) (by omega) (by omega) (by omega)
   obtain⟨q,sq,q0,hq⟩:=JLv (x:=x) (sub:=sub) (m:=n) ns (at'+6) (by omega) (by omega) (by omega)
   obtain⟨k,hk⟩:=JQn (x:=x) (sub:=sub) (m:=n) ns (at'+8) (by omega) (by omega) (by omega)
   have go:∀b:Bool,decide (((d+1:Nat):Int)=1)=b->(b=false->decide (w<3)=true)->∃p:Pl,p.Ok/\p.Sm/\p.dep<=d+1/\JHb x (exec ⟨run x tabA gloA sub n,gloA,sub⟩ d_146.body ([sc ns,.int at',.int ((d+1:Nat):Int)].map Sl.val++List.replicate (d_146.slots - d_146.par) Sl.no))=.ok p.d:=by
    intro b hb1 hb2
    by_cases z:s=0
    ·refine⟨.wait q2,q20,sq2,by simp only[Pl.dep];omega,?_⟩
     cases b
     ·dsimp?! [d_146,JEJ,hw,hb1,hb2 rfl,hs1,z,decide_true,h2,Pl.d]
     ·dsimp?! [d_146,JEJ,hw,hb1,hs1,z,decide_true,h2,Pl.d]
    ·by_cases z3:s<3
     ·refine⟨.step true g q k,q0,⟨sg,sq⟩,by simp only[Pl.dep];omega,?_⟩
      cases b
      ·dsimp?! [d_146,JEJ,hw,hb1,hb2 rfl,hs1,z,z3,decide_true,decide_false,hg,hq,hk,Pl.d,gwT]
      ·dsimp?! [d_146,JEJ,hw,hb1,hs1,z,z3,decide_true,decide_false,hg,hq,hk,Pl.d,gwT]
     ·refine⟨.step false g q k,q0,⟨sg,sq⟩,by simp only[Pl.dep];omega,?_⟩
      cases b
      ·dsimp?! [d_146,JEJ,hw,hb1,hb2 rfl,hs1,z,z3,decide_true,decide_false,hg,hq,hk,Pl.d,gwF]
      ·dsimp?! [d_146,JEJ,hw,hb1,hs1,z,z3,decide_true,decide_false,hg,hq,hk,Pl.d,gwF]
   by_cases hd0:d=0
   ·exact go true (decide_eq_true (by omega)) (λh=>by cases h)
   ·exact go false (q_o (by omega)) (λ_=>decide_eq_true (by omega))
  ·have hd1:decide (((d+1:Nat):Int)=1)=false:=q_o (by omega)
   have hw3:decide (w<3)=false:=q_o (by omega)
   have bm:binD .Mult (.int 3) (.int at')=.ok (.int (3*at')):=JDj (i:=3) (j:=at') (by decide)
   have hst:=JMz (d:=d) (a:=at') (by omega) (by omega) h1
   by_cases h6:w<6
   ·obtain⟨a,oa,sa,da,ha⟩:=JGb ns d (m:=n) (3*at'+11) (by omega) (by omega) (by omega) (by omega) (by omega)
    obtain⟨b,ob,sb,db,hb⟩:=JGb ns d (m:=n) (3*at'+37) (by omega) (by omega) (by omega) (by omega) (by omega)
    refine⟨.thn a b,⟨oa,ob⟩,⟨sa,sb⟩,by simp only[Pl.dep];omega,?_⟩
    simp only[Pl.d];generalize a.d=ad at *;generalize b.d=bd at *
    dsimp?! [d_146,JEJ,hw,hd1,hw3,h6,decide_true,bm,e1,ha,hb]
   ·obtain⟨c,c0,c1,hc⟩:=JEa (x:=x) (sub:=sub) (m:=n) ns (at'+9) 4 (by omega) (by omega) (by omega) (by omega)
    obtain⟨a,oa,sa,da,ha⟩:=JGb ns d (m:=n) (3*at'+23) (by omega) (by omega) (by omega) (by omega) (by omega)
    have ec:((c.toNat:Nat):Int)=c:=by omega
    refine⟨.agn c.toNat a,⟨by omega,oa⟩,sa,by simp only[Pl.dep];omega,?_⟩
    simp only[Pl.d,ec];generalize a.d=ad at *
    dsimp?! [d_146,JEJ,hw,hd1,hw3,h6,decide_false,bm,e1,ha,hc]
end
end VI.VP
end
section
namespace VI.VP
open PySem Fr
noncomputable def Mv.w(m:Mv)(t:Rat):Rat:=wo m.s m.g m.b m.l m.k m.u m.v t
noncomputable def bg(t:Rat)(ms:List Mv):List Mv:=ms.filter λm=>!decide (t<m.b)
noncomputable def wOf(w:Rat)(ms:List Mv)(t:Rat):Rat:=match (bg t ms).getLast? with
 |none=>w
 |some m=>m.w t
structure Ti(i j:Nat)(ms:List Mv):Prop where
 ok:∀a∈ms,a.Ok
 b:∀a∈ms,Sz i a.b
 l:∀a∈ms,Sz j a.l
theorem JGY{α:Type}{f:D->R (Option D)}{c g:α->D}{p:α->Bool}:∀ {xs:List α},(∀a∈xs,f (c a)=.ok (if p a=true then some (g a) else none))->JBM f (xs.map c)=.ok ((xs.filter p).map g)
 | [],_=>rfl
 |a::xs,h=>by
  simp only[List.map_cons];unfold JBM;rw[h a (by simp)]
  have ih:=JGY (xs:=xs) λy hy=>h y (by simp[hy])
  cases hp:p a
  ·simp only[q_v,if_false];rw[ih,List.filter_cons_of_neg (by simp[hp])]
  ·simp only[if_true];rw[ih,q_y hp];rfl
theorem JIA{ms:List Mv}{a:Mv}:bltD .len [.list ((ms++[a]).map Mv.d)]=.ok (.int (ms.length+1)):=by
 show R.ok _=_;rw[JKV]
theorem JGy(ms:List Mv):ms=[]\/∃r m,ms=r++[m]:=by
 by_cases h:ms=[]
 ·exact .inl h
 ·exact .inr (JGl h)
theorem JDF{r:List Mv}{m:Mv}:(r++[m]).getLast? = some m:=by simp
section
variable{x:Bool}{sub:Nat->Nat->Bool}{m n i3 i4 j:Nat}{w t:Rat}{ms:List Mv}
theorem Mv.q_w{a:Mv}(h:a.Ok)(hb:Sz i3 a.b)(hl:Sz i4 a.l)[Z j t](h3:i3<=30)(h4:i4<=20)(hj:j+i3+i4<=56)(hm:6<=m):run x tabA gloA sub m 48 [a.d,F t]=.ok (F (a.w t)):=by
 obtain⟨i1,i2,hs,hg,h12⟩:=h.sg;obtain⟨i5,i6,hu,hv,h56⟩:=h.us;have:=(⟨hs⟩:Z i1 a.s);have:=(⟨hg⟩:Z i2 a.g);have:=(⟨hb⟩:Z i3 a.b);have:=(⟨hl⟩:Z i4 a.l);have:=(⟨hu⟩:Z i5 a.u);have:=(⟨hv⟩:Z i6 a.v);have h0:=h.l0;exact JKE (by grind) (by omega) (by omega) (by omega) hm
theorem q_bg(hok:∀a∈ms,a.Ok)[Z j t](hj:j<=1500)(hl:ms.length<=1000)(hm:2<=m):run x tabA gloA sub m 96 [tr w ms,F t]=.ok (.list ((bg t ms).map Mv.d)):=by
 obtain⟨n,rfl⟩:=JAC hm;rw[JAA (n:=n+1) (show tabA 96=some d_96 from rfl),JAB rfl];obtain⟨C,hC⟩:∃C:Cn,C=⟨run x tabA gloA sub (n+1),gloA,sub⟩:=⟨_,rfl⟩;have fn:C.fn=run x tabA gloA sub (n+1):=by rw[hC]
 have fg:C.glo=gloA:=by rw[hC]
 rw[<-hC];have t1:idxD (tr w ms) (.int 1)=.ok (.tuple (ms.map Mv.d)):=rfl;have it:JAc (.tuple (ms.map Mv.d))=.ok (ms.map Mv.d):=rfl;have cp:JDc C 0 (.var 0) (.not (.call 6 (.cons (.var 2) (.cons (.idx (.var 0) (.glo 57)) .nil)))) [.val (tr w ms),.val (F t)] (.ok (ms.map Mv.d))=.ok (.list ((bg t ms).map Mv.d)):=by
  rw[JDP (by rw[q_g];omega),JGY (p:=λm=>!decide (t<m.b)) (g:=Mv.d) (λa ha=>?_)]
  ·rfl
  ·have zb:Z 200 a.b:=⟨(hok a ha).b⟩;have m2:idxD a.d (.int 2)=.ok (F a.b):=rfl;rw[JDH]
   by_cases o:t<a.b
   ·dsimp?! [fn,fg,m2,o,decide_true,Bool.not_true]
   ·dsimp?! [fn,fg,m2,o,decide_false,Bool.not_false]
 generalize (bg t ms).map Mv.d=bs at *;generalize ms.map Mv.d=ds at *
 dsimp?! [d_96,b_96,fn,fg,G94,t1,it,cp]
theorem JNT:bltD .len [.list (([]:List Mv).map Mv.d)]=.ok (.int 0):=rfl
theorem q_wof(T:Ti i3 i4 ms)[Z j t](h3:i3<=30)(h4:i4<=20)(hj:j+i3+i4<=56)(hl:ms.length<=1000)(hm:7<=m):run x tabA gloA sub m 97 [tr w ms,F t]=.ok (F (wOf w ms t)):=by
 obtain⟨n,rfl⟩:=JAC hm;rw[JAA (n:=n+6) (show tabA 97=some d_97 from rfl),JAB rfl];have e1:run x tabA gloA sub (n+6) 96 [tr w ms,F t]=.ok (.list ((bg t ms).map Mv.d)):=q_bg T.ok (by omega) hl (by omega)
 have t0:idxD (tr w ms) (.int 0)=.ok (F w):=rfl;unfold wOf;rcases JGy (bg t ms) with h|⟨r,a,h⟩
 ·rw[h]at e1 ⊢;have nl:=JNT;simp only[List.map_nil,List.getLast?_nil]at e1 nl ⊢;generalize tr w ms=T at *
  dsimp?! [d_97,b_97,e1,nl,decide_true,G93,t0]
 ·have ha:a∈ms:=(List.mem_filter.mp (show a∈bg t ms by rw[h];simp)).1
  have e2:run x tabA gloA sub (n+6) 48 [a.d,F t]=.ok (F (a.w t)):=Mv.q_w (T.ok a ha) (T.b a ha) (T.l a ha) h3 h4 hj (by omega)
  rw[h]at e1 ⊢;rw[JDF];have il:=JIs (ms:=r) (m:=a);have ll:=JIA (ms:=r) (a:=a);have t4:¬((r.length:Int)+1=0):=by omega
  generalize (r++[a]).map Mv.d=ds at *;generalize tr w ms=T at *
  dsimp?! [d_97,b_97,e1,il,ll,t4,decide_false,e2]
end
end VI.VP
end
section
namespace VI.VP
open PySem Fr
section
variable{x:Bool}{sub:Nat->Nat->Bool}{m n i3 i4 j:Nat}{w t:Rat}{ms:List Mv}
noncomputable def Mv.mv(y:Rat)(a:Mv):Mv:={ a with b:=a.b+y }
noncomputable def Mv.sl(y:Rat)(a:Mv):Mv:={ a with b:=a.b*y,l:=a.l*y,u:=a.u / y,v:=a.v / y }
end
end VI.VP
end
section
namespace VI.VP
open PySem Fr
section
variable{x:Bool}{sub:Nat->Nat->Bool}{m:Nat}
end
end VI.VP
end
section
namespace VI.VP
open PySem Fr
noncomputable def Pl.goal:Pl->Rat->Rat
 |.step o g _ _,h=>if o=true then g else h+g
 |_,h=>h
noncomputable def Pl.mv:Pl->Rat->Rat->List Mv
 |.step o g q k,h,t=>[⟨h,(Pl.step o g q k).goal h,t,q,some k,0,0⟩]
 |_,_,_=>[]
noncomputable def mvs:List Pl->Rat->Rat->List Mv
 | [],_,_=>[]
 |s::r,h,t=>s.mv h t++mvs r (s.goal h) (t+s.q)
noncomputable def endH:List Pl->Rat->Rat
 | [],h=>h
 |s::r,h=>endH r (s.goal h)
theorem JHu:∀(as bs:List Rat) (s:Rat),tot (as++bs) s=tot bs (tot as s)
 | [],_,_=>rfl
 |a::r,bs,s=>by simp only[List.cons_append,tot];exact JHu r bs _
theorem JH1:∀(as bs:List Pl) (h t:Rat),mvs (as++bs) h t=mvs as h t++mvs bs (endH as h) (tot (as.map Pl.q) t)
 | [],_,_,_=>rfl
 |a::r,bs,h,t=>by
  simp only[List.cons_append,mvs,endH,List.map_cons,tot,List.append_assoc];rw[JH1 r bs]
theorem JHw:∀(ss:List Pl) (h t:Rat),(mvs ss h t).length<=ss.length
 | [],_,_=>q_t _
 |s::r,h,t=>by
  have:=JHw r (s.goal h) (t+s.q);have:(s.mv h t).length<=1:=by cases s<;>simp[Pl.mv]
  simp only[mvs,q_u,List.length_cons];omega
def Sts(ss:List Pl):Prop:=∀a∈ss,a.one=true/\a.Sm/\a.Ok
theorem Sts.of{p:Pl}(ok:p.Ok)(sm:p.Sm):Sts p.steps:=λs hs=>⟨JDX p s hs,JEu (P:=Pl.Sm) (λ_ _ h=>h) (λ_ _ h=>h) p sm s hs,JEu (P:=Pl.Ok) (λ_ _ h=>h) (λ_ _ h=>h.2) p ok s hs⟩
theorem Sts.tl{a:Pl}{r:List Pl}(h:Sts (a::r)):Sts r:=λb hb=>h b (by simp[hb])
theorem JDC{s:Pl}{A:Nat}{h:Rat}(o1:s.one=true)(sm:s.Sm)(hA:Tw A h):Tw (A+72) (s.goal h):=by
 cases s with
 |wait q=>exact hA.mono (by omega)
 |step o g q k =>
  simp only[Pl.goal]
  split
  ·exact sm.1.tw.mono (by omega)
  ·exact hA.add sm.1.tw
 |thn a b=>cases o1
 |agn c a=>cases o1
theorem q_pos{s:Pl}(o1:s.one=true)(ok:s.Ok):0<s.q:=by
 cases s with
 |wait q=>exact ok
 |step o g q k=>exact ok
 |thn a b=>cases o1
 |agn c a=>cases o1
theorem JLj:∀ {ss:List Pl}{A:Nat}{h t:Rat},Sts ss->Tw A h->Tw A t->A+72*ss.length<2 ^ 20->∀a∈mvs ss h t,a.Ok
 | [],_,_,_,_,_,_,_=>λa ha=>by cases ha
 |s::r,A,h,t,hs,hh,ht,hl=>λa ha=>by
  obtain⟨o1,sm,ok⟩:=hs s (by simp)
  simp only[List.length_cons]at hl;simp only[mvs,List.mem_append]at ha;rcases ha with ha|ha
  ·cases s with
   |step o g q k =>
    simp only[Pl.mv,List.mem_singleton]at ha;subst ha;have z:Sz 5 q:=sm.2.sz;have z0:Sz 20 (0:Rat):=⟨by decide,by decide⟩
    exact .of ok (λ_=>⟨rfl,rfl⟩) (hh.sz20 (by omega)) ((JDC (s:=.step o g q k) rfl sm hh).sz20 (by omega)) ((ht.sz20 (by omega)).mono (by omega)) (z.mono (by omega)) z0 z0
   |wait q=>cases ha
   |thn a b=>cases ha
   |agn c a=>cases ha
  ·exact JLj hs.tl (JDC o1 sm hh) (ht.add (Pl.Sm.q sm o1).tw) (by omega) a ha
theorem JLk:∀ {ss:List Pl}{h t:Rat},Sts ss->∀a∈mvs ss h t,t<=a.b
 | [],_,_,_=>λa ha=>by cases ha
 |s::r,h,t,hs=>λa ha=>by
  obtain⟨o,sm,ok⟩:=hs s (by simp)
  have:=q_pos o ok;simp only[mvs,List.mem_append]at ha;rcases ha with ha|ha
  ·cases s with
   |step o g q k =>
    simp only[Pl.mv,List.mem_singleton]at ha;subst ha;exact Rat.le_refl
   |wait q=>cases ha
   |thn a b=>cases ha
   |agn c a=>cases ha
  ·have:=JLk hs.tl a ha
   grind
theorem JJ3(h:nov ms=true)(hg:∀c∈ms,a.e<=c.b):nov (a::ms)=true:=by
 cases ms with
 |nil=>rfl
 |cons c r =>
  have:¬c.b<a.e:=by have:=hg c (by simp);grind
  simp only[nov,this,decide_false,Bool.not_false,h,Bool.and_self]
theorem JIr:∀ {ss:List Pl}{h t:Rat},Sts ss->nov (mvs ss h t)=true
 | [],_,_,_=>rfl
 |s::r,h,t,hs=>by
  have ih:=JIr (h:=s.goal h) (t:=t+s.q) hs.tl;have hg:=JLk (h:=s.goal h) (t:=t+s.q) hs.tl;simp only[mvs];cases s with
  |step o g q k =>
   simp only[Pl.mv,List.cons_append,List.nil_append];exact JJ3 ih hg
  |wait q=>exact ih
  |thn a b=>exact ih
  |agn c a=>exact ih
theorem JPv{i:Nat}{e:E}(h:ds.length<16777216)(hn:JAI x=true):JAk i ds e x δ=.nx (δ.set i (.own (.list (ds++[x])))):=by
 simp only[JAk,h,if_true,hn,Bool.not_true,Bool.and_false,q_v,if_false]
section
variable{x:Bool}{sub:Nat->Nat->Bool}{m:Nat}
theorem s_ne{a b:Str}{k:Bool}(h:cmpD .Eq (.str a) (.str b)=.ok (.bool k)):cmpD .NotEq (.str a) (.str b)=.ok (.bool (!k)):=by
 simp only[cmpD]at h ⊢
 split at h
 ·rename_i z;simp only[R.ok.injEq,PyData.bool.injEq]at h;rw[if_pos z,h]
 ·cases h
theorem JRc{s:Pl}{h:Rat}{i:Nat}(o1:s.one=true)(sm:s.Sm)[Z i h](hi:i<=400)(hm:4<=m):run x tabA gloA sub m 154 [s.d,F h]=.ok (F (s.goal h)):=by
 obtain⟨n,rfl⟩:=JAC hm;rw[JAA (n:=n+3) (show tabA 154=some JHx from rfl),JAB rfl];cases s with
 |wait q=>dsimp?! [JHx,JJN,Pl.d,Pl.goal,t20,JBN]
 |step o g q k =>
  have zg:Z 5 g:=sm.1.Z;cases o
  ·dsimp?! [JHx,JJN,Pl.d,Pl.goal,gwF,t40,t41,JCN,JIS]
  ·dsimp?! [JHx,JJN,Pl.d,Pl.goal,gwT,t40,t41,JBo,JFs]
 |thn a b=>cases o1
 |agn c a=>cases o1
theorem JCJ{d:D}{n:Nat}(h:run x tabA gloA sub n 140 [d]=.ok (.bool true)):run x tabA gloA sub (n+1) 153 [d]=.ok .none:=by
 rw[JAA (n:=n) (show tabA 153=some JIb from rfl),JAB rfl]
 dsimp?! [JIb,JMe,h,Bool.not_true]
theorem JHU{d:D}{n:Nat}(h:run true tabA gloA sub n 140 [d]=.ok (.bool false)):run true tabA gloA sub (n+1) 153 [d]=.exc 3:=by
 rw[JAA (n:=n) (show tabA 153=some JIb from rfl),JAB rfl]
 dsimp?! [JIb,JMe,h,Bool.not_false,JF7]
noncomputable def JJX:S:=match JG0 with
 |.cons _ (.cons _ (.cons _ (.cons _ (.cons (.for1 _ _ b) _))))=>b
 |_=>.nil
theorem JKk{p:Pl}{w t:Rat}(ok:p.Ok)(sm:p.Sm)(hd:p.dep<=5)(hl:p.steps.length<=900)(hw:Tw 20000 w)(ht:Tw 20000 t)(hm:12<=m):run x tabA gloA sub m 155 [p.d,F w,F t]=.ok (tr w (mvs p.steps w t)):=by
 obtain⟨n,rfl⟩:=JAC hm;rw[JAA (n:=n+11) (show tabA 155=some JM7 from rfl),JAB rfl];have hn:run x tabA gloA sub (n+11) 153 [p.d]=.ok .none:=JCJ (n:=n+10) (by rw[JDo p ok (by omega),decide_eq_true hd])
 have hs:=JCb (x:=x) (sub:=sub) p (m:=n+11) ok (by omega) (by omega)
 obtain⟨C,hC⟩:∃C:Cn,C=⟨run x tabA gloA sub (n+11),gloA,sub⟩:=⟨_,rfl⟩;have fn:C.fn=run x tabA gloA sub (n+11):=by rw[hC]
 have fg:C.glo=gloA:=by rw[hC]
 rw[<-hC];have it:JAc (.list (p.steps.map Pl.d))=.ok (p.steps.map Pl.d):=rfl;obtain⟨δ',lp,r,acc,h',t',y6,y7,er,_,_,_,_,ea,v6,v7,eδ⟩:=JBh (C:=C) (i:=6) (b:=JJX)
  (Inv:=λes δ=>∃(r:List Pl) (acc:List Mv) (h u:Rat) (y6 y7:Sl),es=r.map Pl.d/\Sts r/\Tw (20000+72*(900 - r.length)) h/\Tw (20000+72*(900 - r.length)) u/\(r.length<=900/\acc.length+r.length<=900)/\acc++mvs r h u=mvs p.steps w t/\Vs y6/\Vs y7/\δ=[.val p.d,.val (F w),.val (F t),.own (.list (acc.map Mv.d)),.val (F h),.val (F u),y6,y7])
  (λd es δ ⟨r,acc,h,u,y6,y7,er,sr,hh,hu,hl,ha,v6,v7,e⟩=>by
    subst e;cases r with
    |nil=>cases er
    |cons a r =>
     simp only[List.map_cons,List.cons.injEq]at er;obtain⟨rfl,rfl⟩:=er;simp only[List.length_cons]at hh hu hl;obtain⟨o1,sa,oa⟩:=sr a (by simp)
     have tq:=(Pl.Sm.q sa o1).tw;have z1:Z 20 h:=⟨hh.sz20 (by omega)⟩
     have z2:Z 20 u:=⟨hu.sz20 (by omega)⟩
     have z3:Z 20 a.q:=⟨tq.sz20 (by omega)⟩
     have hg:=JRc (x:=x) (sub:=sub) (m:=n+11) (h:=h) o1 sa (by omega) (by omega)
     have hz:=JI7 (x:=x) (sub:=sub) (m:=n+11) o1 (by omega)
     have tg:=JDC o1 sa hh;have ln:(acc++a.mv h u).length+r.length<=900:=by
      have:(a.mv h u).length<=1:=by cases a<;>simp[Pl.mv]
      rw[q_u];omega
     refine⟨[.val p.d,.val (F w),.val (F t),.own (.list ((acc++a.mv h u).map Mv.d)),.val (F (a.goal h)),.val (F (u+a.q)),.val a.d,.val (F (a.goal h))],.inl ?_,r,acc++a.mv h u,a.goal h,u+a.q,.val a.d,.val (F (a.goal h)),rfl,sr.tl,tg.mono (by omega),(hu.add tq).mono (by omega),⟨by omega,ln⟩,by rw[<-ha,mvs,List.append_assoc],rfl,rfl,rfl⟩
     generalize p.d=pd at *;have wn:JAI a.d=true:=by
      cases a with
      |wait q=>rfl
      |step o g q k=>rfl
      |thn a b=>cases o1
      |agn c a=>cases o1
     cases a with
     |wait q =>
      have nw:=s_ne JBN;simp only[Pl.mv,List.append_nil,Pl.goal]at hg ⊢;simp only[Pl.q]at z3 hz ⊢;simp only[Pl.d]at hg hz wn ⊢;generalize acc.map Mv.d=ds at *
      dsimp?! [JJX,JG0,fn,fg,hg,hz,t20,nw,JAI,noF,Bool.not_true,Bool.and_false,v6.own,v7.own,JAS]
     |step o g q k =>
      have nw:cmpD .NotEq (.str (gw o)) (.str "wait")=.ok (.bool true):=by
       cases o
       ·exact s_ne JCN
       ·exact s_ne JBo
      have em:(acc++(Pl.step o g q k).mv h u).map Mv.d=acc.map Mv.d++[.tuple [F h,F ((Pl.step o g q k).goal h),F u,F q,.str k.str,.tuple [F 0,F 0]]]:=by
       simp only[Pl.mv,List.map_append,List.map_cons,List.map_nil];rfl
      have ap:∀δ:Env,∀e:E,JAk 3 (acc.map Mv.d) e (.tuple [F h,F ((Pl.step o g q k).goal h),F u,F q,.str k.str,.tuple [F 0,F 0]]) δ=.nx (δ.set 3 (.own (.list (acc.map Mv.d++[.tuple [F h,F ((Pl.step o g q k).goal h),F u,F q,.str k.str,.tuple [F 0,F 0]]])))):=λδ e=>JPv (by rw[q_g];omega) rfl
      rw[em];generalize (Pl.step o g q k).goal h=gg at *;simp only[Pl.q]at z3 hz ⊢;simp only[Pl.d]at hg hz wn ⊢;generalize acc.map Mv.d=ds at *
      dsimp?! [JJX,JG0,fn,fg,hg,hz,t40,t42,t43,nw,JOB,ap,JAI,noF,Bool.not_true,Bool.and_false,v6.own,v7.own,JAS]
     |thn a b=>cases o1
     |agn c a=>cases o1)
  (ds:=p.steps.map Pl.d) (δ:=[.val p.d,.val (F w),.val (F t),.own (.list []),.val (F w),.val (F t),.no,.no])
  ⟨p.steps,[],w,t,.no,.no,rfl,Sts.of ok sm,hw.mono (by omega),ht.mono (by omega),⟨hl,by simpa using hl⟩,by simp,rfl,rfl,rfl⟩
 subst eδ;cases r with
 |cons q r=>cases er
 |nil =>
  simp only[mvs,List.append_nil]at ea;subst ea;simp only[JJX,JG0]at lp;have tt:op1D .toTup (.list ((mvs p.steps w t).map Mv.d))=.ok (.tuple ((mvs p.steps w t).map Mv.d)):=rfl;have ee:tr w (mvs p.steps w t)=.tuple [F w,.tuple ((mvs p.steps w t).map Mv.d)]:=rfl;rw[ee];generalize (mvs p.steps w t).map Mv.d=ds at *;generalize p.steps.map Pl.d=ps at *;generalize p.d=pd at *
  dsimp?! [JM7,JG0,fn,fg,hn,hs,it,lp,tt,JAY,JAm,JBf,JAW,JAS,JD6,JDm,JCh,JEE,Nat.reduceAdd,Nat.reduceBEq,Bool.or_false,Bool.or_self,JAI,noF,Bool.not_true,Bool.and_false,v6.own,v7.own]
end
end VI.VP
end
section
namespace VI.VP
open PySem Fr
section
variable{x:Bool}{sub:Nat->Nat->Bool}{m:Nat}
end
end VI.VP
end
section
namespace VI.VP
open PySem Fr
noncomputable def cu:List Pl->Rat->List Rat
 | [],_=>[]
 |s::r,t=>t::cu r (t+s.q)
theorem JLt:∀(ss:List Pl) (t:Rat),(cu ss t).length=ss.length
 | [],_=>rfl
 |s::r,t=>by simp only[cu,List.length_cons,JLt r]
theorem JMK:∀(a b:List Pl) (t:Rat),cu (a++b) t=cu a t++cu b (tot (a.map Pl.q) t)
 | [],_,_=>rfl
 |s::r,b,t=>by simp only[List.cons_append,cu,List.map_cons,tot,JMK r b]
noncomputable def Pl.isW:Pl->Bool
 |.wait _=>true
 |_=>false
theorem JLI:∀ {xs:List D},(∀d∈xs,d.canLay0=true/\d.depth<=4/\PyData.eqv d d=true)->PyData.canLayAll0 xs=true/\PyData.depthAll xs<=4/\PyData.eqvAll xs xs=true
 | [],_=>⟨rfl,by simp[PyData.depthAll],by simp only[PyData.eqvAll]⟩
 |d::r,h=>by
  obtain⟨h1,h2,h3⟩:=h d (by simp)
  obtain⟨i1,i2,i3⟩:=JLI (xs:=r) λa ha=>h a (by simp[ha])
  refine⟨by simp only[PyData.canLayAll0,h1,i1,Bool.and_self],?_,by simp only[PyData.eqvAll,h3,i3,Bool.and_self]⟩
  simp only[PyData.depthAll];omega
theorem gl_sh(h:∀d∈xs,d.canLay0=true/\d.depth<=4/\PyData.eqv d d=true):shaped (.list xs)=true/\PyData.eqvAll xs xs=true:=by
 obtain⟨i1,i2,i3⟩:=JLI h;refine⟨?_,i3⟩;unfold shaped;rw[q_i];refine⟨by simp only[PyData.canLay0,i1],decide_eq_true ?_⟩
 simp only[PyData.depth];omega
theorem gl_ne(h:∀d∈xs,d.canLay0=true/\d.depth<=4/\PyData.eqv d d=true):cmpD .NotEq (.list xs) (.list xs)=.ok (.bool false):=by
 obtain⟨h1,h2⟩:=gl_sh h;simp only[cmpD,h1,Bool.and_self,if_true,PyData.eqv,h2,Bool.not_true]
end VI.VP
end
section
namespace VI.VP
open PySem Fr
theorem JH5:∀ {qs:List Rat}{A:Nat}{s:Rat},(∀q∈qs,Tw 72 q)->Tw A s->Tw (A+72*qs.length) (tot qs s)
 | [],A,s,_,h=>h.mono (by omega)
 |q::r,A,s,hq,h=>by
  simp only[tot,List.length_cons];exact(JH5 (λa ha=>hq a (by simp[ha])) (h.add (hq q (by simp)))).mono (by omega)
section
variable{x:Bool}{sub:Nat->Nat->Bool}{m n:Nat}
noncomputable def JMo:S:=.cons (.app 2 (.var 3)) (.cons (.asg 3 (.call 3 (.cons (.var 3) (.cons (.call 144 (.cons (.var 4) .nil)) .nil)))) .nil)
theorem JMW{s:Pl}(h:s.one=true):JAI s.d=true:=by
 cases s with
 |wait q=>rfl
 |step o g q k=>rfl
 |thn a b=>cases h
 |agn c a=>cases h
theorem JMH{p:Pl}{t:Rat}(ok:p.Ok)(hd:p.dep<=5)(hl:p.steps.length<=900)(hq:∀s∈p.steps,Sz 20 s.q)(ht:∀a b,p.steps=a++b->Sz 200 (tot (a.map Pl.q) t))(hm:12<=m):run x tabA gloA sub m 231 [p.d,F t]=.ok (.list ((cu p.steps t).map F)):=by
 obtain⟨n,rfl⟩:=JAC hm;rw[JAA (n:=n+11) (show tabA 231=some JIl from rfl),JAB rfl];have hn:run x tabA gloA sub (n+11) 153 [p.d]=.ok .none:=JCJ (n:=n+10) (by rw[JDo p ok (by omega),decide_eq_true hd])
 have hs:=JCb (x:=x) (sub:=sub) p (m:=n+11) ok (by omega) (by omega)
 obtain⟨C,hC⟩:∃C:Cn,C=⟨run x tabA gloA sub (n+11),gloA,sub⟩:=⟨_,rfl⟩;have fn:C.fn=run x tabA gloA sub (n+11):=by rw[hC]
 have fg:C.glo=gloA:=by rw[hC]
 rw[<-hC];have it:JAc (.list (p.steps.map Pl.d))=.ok (p.steps.map Pl.d):=rfl;obtain⟨δ',lp,pre,r,y4,er,sr,v4,eδ⟩:=JBh (C:=C) (i:=4) (b:=JMo)
  (Inv:=λes δ=>∃(pre r:List Pl) (y4:Sl),es=r.map Pl.d/\p.steps=pre++r/\Vs y4/\δ=[.val p.d,.val (F t),.own (.list ((cu pre t).map F)),.val (F (tot (pre.map Pl.q) t)),y4])
  (λd es δ ⟨pre,r,y4,er,sr,v4,e⟩=>by
    subst e;cases r with
    |nil=>cases er
    |cons a r =>
     simp only[List.map_cons,List.cons.injEq]at er;obtain⟨rfl,rfl⟩:=er;have am:a∈p.steps:=by rw[sr];simp
     have o1:=JDX p a am;have lq:pre.length<900:=by
      rw[sr,q_u,List.length_cons]at hl;omega
     have et:tot ((pre++[a]).map Pl.q) t=tot (pre.map Pl.q) t+a.q:=by rw[List.map_append,JHu];rfl
     have ec:(cu (pre++[a]) t).map F=(cu pre t).map F++[F (tot (pre.map Pl.q) t)]:=by rw[JMK,List.map_append];rfl
     have z1:Z 200 (tot (pre.map Pl.q) t):=⟨ht _ _ sr⟩;have z3:Z 20 a.q:=⟨hq a am⟩;have hz:=JI7 (x:=x) (sub:=sub) (m:=n+11) o1 (by omega)
     have wn:=JMW o1;have ap:∀δ:Env,∀e:E,JAk 2 ((cu pre t).map F) e (F (tot (pre.map Pl.q) t)) δ=.nx (δ.set 2 (.own (.list ((cu pre t).map F++[F (tot (pre.map Pl.q) t)])))):=λδ e=>JPv (by rw[q_g,JLt];omega) rfl
     refine⟨[.val p.d,.val (F t),.own (.list ((cu (pre++[a]) t).map F)),.val (F (tot ((pre++[a]).map Pl.q) t)),.val a.d],.inl ?_,pre++[a],r,.val a.d,rfl,by rw[sr];simp,rfl,rfl⟩
     rw[et,ec];clear hq ht sr et ec;generalize tot (pre.map Pl.q) t=u at *;generalize (cu pre t).map F=ds at *;generalize p.d=pd at *;generalize a.d=ad at *
     dsimp?! [JMo,fn,fg,hz,ap,JAI,noF,wn,Bool.not_true,Bool.and_false,v4.own,JAS])
  (ds:=p.steps.map Pl.d) (δ:=[.val p.d,.val (F t),.own (.list []),.val (F t),.no])
  ⟨[],p.steps,.no,rfl,rfl,rfl,rfl⟩
 subst eδ;cases r with
 |cons q r=>cases er
 |nil =>
  rw[List.append_nil]at sr;rw[<-sr]at lp;simp only[JMo]at lp;clear hq ht;generalize tot (p.steps.map Pl.q) t=uu at *;generalize (cu p.steps t).map F=ds at *;generalize p.steps.map Pl.d=ps at *;generalize p.d=pd at *
  dsimp?! [JIl,JOS,fn,fg,hn,hs,it,lp,JAY,JAm,JBf,JAW,JAS,JD6,JDm,JCh,JEE,Nat.reduceAdd,Nat.reduceBEq,Bool.or_false,Bool.or_self,JAI,noF,Bool.not_true,Bool.and_false,v4.own]
end
end VI.VP
end
section
namespace VI.VP
open PySem Fr
noncomputable def chn(z:Pl):List Pl->Pl
 | []=>z
 |a::r=>.thn a (chn z r)
theorem JEG:∀(l:List Pl) (a z:Pl),chn z (l++[a])=chn (.thn a z) l
 | [],_,_=>rfl
 |b::r,a,z=>by simp only[List.cons_append,chn,JEG r]
theorem JEs{s:Pl}(h:s.one=true):s.steps=[s]/\s.dep=1:=by
 cases s with
 |wait q=>exact⟨rfl,rfl⟩
 |step o g q k=>exact⟨rfl,rfl⟩
 |thn a b=>cases h
 |agn c a=>cases h
theorem JLu:∀ {l:List Pl}{z:Pl},Sts (l++[z])->(chn z l).Ok/\(chn z l).Sm/\(chn z l).dep<=l.length+1/\(chn z l).steps=l++[z]
 | [],z,h=>by
  obtain⟨h1,h2,h3⟩:=h z (by simp)
  obtain⟨e1,e2⟩:=JEs h1;exact⟨h3,h2,by simp only[chn,e2];omega,by simp only[chn,e1,List.nil_append]⟩
 |a::r,z,h=>by
  obtain⟨h1,h2,h3⟩:=h a (by simp)
  obtain⟨i1,i2,i3,i4⟩:=JLu (l:=r) (z:=z) (Sts.tl h);obtain⟨e1,e2⟩:=JEs h1;refine⟨⟨h3,i1⟩,⟨h2,i2⟩,?_,by simp only[chn,Pl.steps,e1,i4,List.cons_append,List.nil_append]⟩
  simp only[chn,Pl.dep,e2,List.length_cons];omega
theorem JKy{α:Type}(xs:List α)(c:Nat):cutD xs none (some (c:Int))=xs.take c:=by
 have h:¬(c:Int)<0:=by omega
 simp only[cutD,sI,if_neg h,List.drop_zero,Nat.sub_zero,Int.toNat_natCast];rw[<-List.take_eq_take_min]
theorem JMi{c:Nat}:xD .dtk [.list xs,.int c]=.ok (.list (xs.take c)):=by
 show VI.R.ok (PyData.list (cutD xs none (some (c:Int))))=_;rw[JKy]
theorem dtk_t{c:Nat}:xD .dtk [.tuple xs,.int c]=.ok (.tuple (xs.take c)):=by
 show VI.R.ok (PyData.tuple (cutD xs none (some (c:Int))))=_;rw[JKy]
theorem JQX:op1D (.slice none (some (-1))) (.list (xs++[z]))=.ok (.list xs):=by
 show VI.R.ok (PyData.list (cutD (xs++[z]) none (some (-1))))=_;have h:(-1:Int)<0:=by decide
 simp only[cutD,sI,if_pos h,List.drop_zero,Nat.sub_zero,q_u,List.length_cons,List.length_nil];rw[show(-1+((xs.length+(0+1):Nat):Int)).toNat=xs.length by omega,List.take_left']
 rfl
theorem JKs:idxD (.list (xs++[z])) (.int (-1))=.ok z:=by
 have h:¬(0:Int)<=-1:=by decide
 simp only[idxD,atI,ixN,if_neg h,q_u,List.length_cons,List.length_nil];rw[if_pos (by omega),show(-1+((xs.length+(0+1):Nat):Int)).toNat=xs.length by omega]
 simp[optR]
theorem Pl.no55:∀p:Pl,JAI p.d=true:=by
 intro p
 induction p with
 |wait q=>rfl
 |step o g q k=>rfl
 |thn a b ha hb=>simp only[Pl.d,JAI,JAf,ha,hb,Bool.and_self]
 |agn c a ha=>simp only[Pl.d,JAI,JAf,ha,Bool.and_self]
noncomputable def bdT:S:=.cons (.asg 1 (.tup (.cons (.cstr "then") (.cons (.var 2) (.cons (.var 1) .nil))))) .nil
section
variable{x:Bool}{sub:Nat->Nat->Bool}{m:Nat}
theorem JQ2(hm:1<=m):run x tabA gloA sub m 252 [.list ((l++[z]).map Pl.d)]=.ok (chn z l).d:=by
 obtain⟨n,rfl⟩:=JAC hm;rw[JAA (n:=n) (show tabA 252=some JNL from rfl),JAB rfl];obtain⟨C,hC⟩:∃C:Cn,C=⟨run x tabA gloA sub n,gloA,sub⟩:=⟨_,rfl⟩;have fg:C.glo=gloA:=by rw[hC]
 rw[<-hC];obtain⟨L,hL⟩:∃L:D,L=.list ((l++[z]).map Pl.d):=⟨_,rfl⟩;have e1:idxD L (.int (-1))=.ok z.d:=by rw[hL,List.map_append];exact JKs
 have e2:op1D (.slice none (some (-1))) L=.ok (.list (l.map Pl.d)):=by rw[hL,List.map_append];exact JQX
 have e3:xD .rev [.list (l.map Pl.d)]=.ok (.list (l.reverse.map Pl.d)):=by rw[List.map_reverse];rfl
 have it:JAc (.list (l.reverse.map Pl.d))=.ok (l.reverse.map Pl.d):=rfl;obtain⟨δ',lp,r,k,y2,er,ek,v2,eδ⟩:=JBh (C:=C) (i:=2) (b:=bdT)
  (Inv:=λes δ=>∃(r:List Pl) (k:Pl) (y2:Sl),es=r.map Pl.d/\chn k r.reverse=chn z l/\Vs y2/\δ=[.val L,.val k.d,y2])
  (λd es δ ⟨r,k,y2,er,ek,v2,e⟩=>by
    subst e;cases r with
    |nil=>cases er
    |cons a r =>
     simp only[List.map_cons,List.cons.injEq]at er;obtain⟨rfl,rfl⟩:=er;refine⟨[.val L,.val (Pl.thn a k).d,.val a.d],.inl ?_,r,.thn a k,.val a.d,rfl,by rw[<-ek,List.reverse_cons,JEG],rfl,rfl⟩
     have na:=a.no55;have nk:=k.no55;simp only[Pl.d];generalize a.d=ad at *;generalize k.d=kd at *
     dsimp?! [bdT,fg,na,nk,JAI,JAf,Bool.and_self,v2.own])
  (ds:=l.reverse.map Pl.d) (δ:=[.val L,.val z.d,.no])
  ⟨l.reverse,z,.no,rfl,by rw[List.reverse_reverse],rfl,rfl⟩
 subst eδ;cases r with
 |cons q r=>cases er
 |nil =>
  have ek:k=chn z l:=ek;rw[<-ek,<-hL];clear hL er ek;simp only[bdT]at lp;have nz:=z.no55;have nk:=k.no55;generalize l.reverse.map Pl.d=ds at *;generalize l.map Pl.d=es at *;generalize z.d=zd at *;generalize k.d=kd at *
  dsimp?! [JNL,JO6,fg,e1,e2,e3,it,lp,nz,nk,JAY,JAm,JAW,v2.own,Int.reduceNeg]
theorem mx_c{c:Nat}(h:1<=c):xD .mx2 [.int (c:Nat),.int 1]=.ok (.int (c:Nat)):=by
 show VI.R.ok (PyData.int (if (1:Int) > c then 1 else c))=_;rw[if_neg (by omega)]
theorem take_snoc{ss:List Pl}{c:Nat}(hc:1<=c)(h:ss≠[]):∃l z,ss.take c=l++[z]/\l.length+1<=c:=by
 have hn:ss.take c≠[]:=by
  cases ss with
  |nil=>exact absurd rfl h
  |cons a r=>obtain⟨k,rfl⟩:∃k,c=k+1:=⟨c - 1,by omega⟩;simp
 refine⟨(ss.take c).dropLast,(ss.take c).getLast hn,(List.dropLast_concat_getLast hn).symm,?_⟩;have h1:(ss.take c).length<=c:=by rw[List.length_take];omega
 have h2:0<(ss.take c).length:=List.length_pos_iff.mpr hn;rw[List.length_dropLast];omega
theorem JMu{p z:Pl}{l:List Pl}{c:Nat}(ok:p.Ok)(hd:p.dep<=5)(hc:1<=c)(e:p.steps.take c=l++[z])(hm:12<=m):run x tabA gloA sub m 253 [p.d,.int (c:Nat)]=.ok (chn z l).d:=by
 obtain⟨n,rfl⟩:=JAC hm;rw[JAA (n:=n+11) (show tabA 253=some JFr from rfl),JAB rfl];have hn:run x tabA gloA sub (n+11) 153 [p.d]=.ok .none:=JCJ (n:=n+10) (by rw[JDo p ok (by omega),decide_eq_true hd])
 have hs:=JCb (x:=x) (sub:=sub) p (m:=n+11) ok (by omega) (by omega)
 have ht:=JQ2 (x:=x) (sub:=sub) (m:=n+11) (l:=l) (z:=z) (by omega)
 have hl:0<p.steps.length:=by
  rcases Nat.eq_zero_or_pos p.steps.length with h|h
  ·rw[q_B.mp h]at e;simp at e
  ·exact h
 have k0:bltD .len [.list (p.steps.map Pl.d)]=.ok (.int (p.steps.length:Nat)):=by simp only[bltD,q_g]
 have k1:cmpD .Eq (.int (p.steps.length:Nat)) (.int 0)=.ok (.bool false):=by rw[i_eq,q_o (by omega)]
 have k2:xD .dtk [.list (p.steps.map Pl.d),.int (c:Nat)]=.ok (.list ((l++[z]).map Pl.d)):=by rw[JMi,<-List.map_take,e]
 have k3:=mx_c hc;clear e;generalize (l++[z]).map Pl.d=ys at *;generalize p.steps.map Pl.d=xs at *;generalize (chn z l).d=cd at *;generalize p.d=pd at *
 dsimp?! [JFr,JJr,hn,hs,k0,k1,k2,k3,ht]
end
end VI.VP
end
section
namespace VI.VP
open PySem Fr
theorem l1':(([a].length:Nat):Int)=1:=rfl
theorem l0':((([]:List D).length:Nat):Int)=0:=rfl
theorem t10:idxD (.tuple [a]) (.int 0)=.ok a:=rfl
theorem n1{a:D}:bltD .len [.tuple [a]]=.ok (.int 1):=rfl
section
variable{x:Bool}{sub:Nat->Nat->Bool}{m:Nat}
end
end VI.VP
end
section
namespace VI.VP
open PySem Fr
noncomputable def w55:D:=.tuple [.str "wait",.tuple [.int 1,.int 1]]
noncomputable def odd55:List D:=[.none,.tuple [],.tuple [.str "go"],.tuple [.str "wait",.tuple [.int 0,.int 1]],.tuple [.str "wait",.tuple [.int 1,.int 0]],.tuple [.str "then",w55],.tuple [.str "again",.int 5,w55],.str "wait",.int 5]
theorem JJz(i:Int)(h0:0<=i)(h1:i<9):∃d∈odd55,idxD (.list odd55) (.int i)=.ok d:=by
 have hl:i.toNat<odd55.length:=by show i.toNat<9;omega
 refine⟨odd55[i.toNat],List.getElem_mem hl,?_⟩;simp only[idxD,atI,ixN,if_pos h0];rw[if_pos (show i<(odd55.length:Int) from h1)];simp only[Option.bind_some,q_q hl];rfl
section
variable{x:Bool}{sub:Nat->Nat->Bool}{m:Nat}
theorem JNu(hm:4<=m):∀d∈odd55,run x tabA gloA sub m 141 [d,.int 5]=.ok (.bool false):=by
 intro d hd;obtain⟨n,rfl⟩:=JAC hm;have tn:isiD sub .none .tuple=.ok (.bool false):=rfl;have ti:isiD sub (.int 5) .tuple=.ok (.bool false):=rfl;have ts:isiD sub (.str "wait") .tuple=.ok (.bool false):=rfl;have dz:decide ((5:Int)=0)=false:=rfl;have m5:decide ((0:Int)<=5/\(5:Int)<=4)=false:=rfl;have z1:run x tabA gloA sub (n+3) 68 [.tuple [.int 0,.int 1]]=.ok (.bool false):=by
  rw[JAA (n:=n+2) (show tabA 68=some d_68 from rfl),JAB rfl];have e:run x tabA gloA sub (n+2) 24 [.tuple [.int 0,.int 1]]=.ok (.bool true):=by rw[JEQ tF tI];rfl
  have c:decide ((0:Int)<0)=false:=rfl
  dsimp?! [d_68,b_68,e,t20,c]
 have z2:run x tabA gloA sub (n+3) 68 [.tuple [.int 1,.int 0]]=.ok (.bool false):=by
  rw[JAA (n:=n+2) (show tabA 68=some d_68 from rfl),JAB rfl];have e:run x tabA gloA sub (n+2) 24 [.tuple [.int 1,.int 0]]=.ok (.bool false):=by rw[JEQ tF tI];rfl
  dsimp?! [d_68,b_68,e]
 rw[JAA (n:=n+3) (show tabA 141=some JBn from rfl),JAB rfl];simp only[odd55,q_n,List.not_mem_nil,or_false]at hd;rcases hd with rfl|rfl|rfl|rfl|rfl|rfl|rfl|rfl|rfl <;>
  dsimp?! [JBn,JCn,dz,tn,ti,ts,JBY,Bool.not_true,Bool.not_false,n1,n2,n3,n4,l1',l0',JRe,JHK,JOC,Int.reduceEq,decide_true,decide_false,t10,t20,t21,t30,t31,t32,JIx,JFs,JBo,JCL,JBz,JFI,JEr,JBN,JCE,JCC,JBg,JA7,JDs,JDu,JCs,JBU,JBK,JLh,m5,z1,z2]
theorem JKe(hm:5<=m):∀d∈odd55,run x tabA gloA sub m 140 [d]=.ok (.bool false):=by
 obtain⟨n,rfl⟩:=JAC hm;intro d hd;have h:=JNu (x:=x) (sub:=sub) (m:=n+4) (by omega) d hd
 rw[JAA (n:=n+4) (show tabA 140=some JHe from rfl),JAB rfl]
 dsimp?! [JHe,JNh,G151,h]
theorem JHN{t t':D}{c:Int}(hm:10<=m):∀d∈odd55,run true tabA gloA sub m 231 [d,t]=.exc 3/\run true tabA gloA sub m 232 [d,t,t']=.exc 3/\run true tabA gloA sub m 253 [d,.int c]=.exc 3/\run true tabA gloA sub m 234 [d]=.exc 3:=by
 obtain⟨n,rfl⟩:=JAC hm;intro d hd;have h:∀k,5<=k->run true tabA gloA sub (k+1) 153 [d]=.exc 3:=λk hk=>JHU (JKe hk d hd);have h1:∀k,6<=k->run true tabA gloA sub (k+1) 231 [d,t]=.exc 3:=λk hk=>by
  obtain⟨j,rfl⟩:∃j,k=j+1:=⟨k - 1,by omega⟩
  have e:=h j (by omega)
  rw[JAA (n:=j+1) (show tabA 231=some JIl from rfl),JAB rfl]
  dsimp?! [JIl,JOS,e]
 refine⟨h1 (n+9) (by omega),?_,?_,?_⟩
 ·have e:=h1 (n+8) (by omega)
  rw[JAA (n:=n+9) (show tabA 232=some JNF from rfl),JAB rfl];have cx:∀(C:Cn) (k:Nat) (a b:E) (δ:Env),JDc C k a b δ (.exc 3)=.exc 3:=λ_ _ _ _ _=>rfl;have ix:its1 (.exc 3)=.exc 3:=rfl
  dsimp?! [JNF,JPQ,e,cx,ix]
 ·have e:=h (n+8) (by omega)
  rw[JAA (n:=n+9) (show tabA 253=some JFr from rfl),JAB rfl]
  dsimp?! [JFr,JJr,e]
 ·have e:=h (n+8) (by omega)
  rw[JAA (n:=n+9) (show tabA 234=some JHs from rfl),JAB rfl]
  dsimp?! [JHs,JN5,e]
theorem JGf{p:Pl}{c:Int}(ok:p.Ok)(hd:p.dep<=5)(e:p.steps=[])(hm:12<=m):run true tabA gloA sub m 253 [p.d,.int c]=.exc 3:=by
 obtain⟨n,rfl⟩:=JAC hm;rw[JAA (n:=n+11) (show tabA 253=some JFr from rfl),JAB rfl];have hn:run true tabA gloA sub (n+11) 153 [p.d]=.ok .none:=JCJ (n:=n+10) (by rw[JDo p ok (by omega),decide_eq_true hd])
 have hs:=JCb (x:=true) (sub:=sub) p (m:=n+11) ok (by omega) (by omega)
 rw[e]at hs;have k0:bltD .len [.list (([]:List Pl).map Pl.d)]=.ok (.int 0):=rfl;have k1:cmpD .Eq (.int 0) (.int 0)=.ok (.bool true):=by rw[i_eq,decide_eq_true rfl]
 generalize p.d=pd at *;generalize ([]:List Pl).map Pl.d=zz at *
 dsimp?! [JFr,JJr,hn,hs,k0,k1,JF7]
theorem JPl{p:Pl}(ok:p.Ok)(hd:p.dep<=5)(e:p.steps=[])(hm:12<=m):run x tabA gloA sub m 234 [p.d]=.ok (.list []):=by
 obtain⟨n,rfl⟩:=JAC hm;rw[JAA (n:=n+11) (show tabA 234=some JHs from rfl),JAB rfl];have hn:run x tabA gloA sub (n+11) 153 [p.d]=.ok .none:=JCJ (n:=n+10) (by rw[JDo p ok (by omega),decide_eq_true hd])
 have hs:=JCb (x:=x) (sub:=sub) p (m:=n+11) ok (by omega) (by omega)
 rw[e]at hs;have hs:run x tabA gloA sub (n+11) 143 [p.d]=.ok (.list []):=hs;have it:JAc (.list [])=.ok []:=rfl;have c0:∀(C:Cn) (a b:E) (δ:Env),JDc C 0 a b δ (.ok [])=.ok (.list []):=λ_ _ _ _=>rfl;have ss:xD .sst [.list []]=.ok (.list []):=rfl;generalize p.d=pd at *
 dsimp?! [JHs,JN5,hn,hs,it,c0,ss]
end
end VI.VP
end
section
namespace VI.VP
open PySem Fr
noncomputable def wop(s g l:Rat)(k:Option Kd)(u v p:Rat):Rat:=match k with
 |some k=>s+ez k (JBR p)*(g - s)
 |none=>kw s g l u v (JBR p)
theorem wo_p{s g b l u v t p:Rat}(h:(t - b) / l=p):wo s g b l k u v t=wop s g l k u v p:=by subst h;cases k<;>rfl
theorem JGP{p:Rat}(h:1<=p):JBR p=1:=by unfold JBR;grind
theorem JPq{s g l u v p:Rat}(k:Option Kd)(h:1<=p):wop s g l k u v p=g:=by
 cases k with
 |none=>simp only[wop,JGP h,kw1]
 |some k=>simp only[wop,JGP h,ez1];grind
end VI.VP
end
section
namespace VI.VP
open PySem Fr
noncomputable def sh:Option Kd->Rat
 |none=>1 / 2
 |some .even=>1 / 2
 |some .both=>1 / 2
 |some .inn=>1 / 3
 |some .out=>2 / 3
 |some .hold=>0
 |some .jump=>1
noncomputable def ar(s g l:Rat)(k:Option Kd)(u v:Rat):Rat:=l*s+l*(g - s)*sh k+1 / 12*(l*l)*(u - v)
noncomputable def JLp:D:=.dict [(.str "even",.tuple [.int 1,.int 2]),(.str "both",.tuple [.int 1,.int 2]),(.str "kept",.tuple [.int 1,.int 2]),(.str "in",.tuple [.int 1,.int 3]),(.str "out",.tuple [.int 2,.int 3]),(.str "hold",.tuple [.int 0,.int 1]),(.str "jump",.tuple [.int 1,.int 1])]
theorem G192:gloA 192=.ok JLp:=rfl
theorem Fh:F (1 / 2)=.tuple [.int 1,.int 2]:=by
 have h1:(1 / 2:Rat).num=1:=by decide +kernel
 have h2:(1 / 2:Rat).den=2:=by decide +kernel
 unfold F;rw[h1,h2];rfl
theorem Ft:F (1 / 3)=.tuple [.int 1,.int 3]:=by
 have h1:(1 / 3:Rat).num=1:=by decide +kernel
 have h2:(1 / 3:Rat).den=3:=by decide +kernel
 unfold F;rw[h1,h2];rfl
theorem Ft2:F (2 / 3)=.tuple [.int 2,.int 3]:=by
 have h1:(2 / 3:Rat).num=2:=by decide +kernel
 have h2:(2 / 3:Rat).den=3:=by decide +kernel
 unfold F;rw[h1,h2];rfl
theorem sh_ok(k:Option Kd):idxD JLp (.str (kst k))=.ok (F (sh k)):=by
 have e:∀(a:Str) (v:D) (r:List (D×D)) (x:Str),getK ((.str a,v)::r) x=if a=x then .ok v else getK r x:=λ_ _ _ _=>rfl;show getK _ _=_;cases k with
 |none =>
  simp only[kst,sh,Fh];rw[e,if_neg (by decide +kernel),e,if_neg (by decide +kernel),e,if_pos (by decide +kernel)]
 |some k =>
  cases k<;>simp only[kst,sh,Fh,Ft,Ft2,Kd.str]
  ·rw[e,if_pos (by decide +kernel)]
  ·rw[e,if_neg (by decide +kernel),e,if_neg (by decide +kernel),e,if_neg (by decide +kernel),e,if_pos (by decide +kernel)]
  ·rw[e,if_neg (by decide +kernel),e,if_neg (by decide +kernel),e,if_neg (by decide +kernel),e,if_neg (by decide +kernel),e,if_pos (by decide +kernel)]
  ·rw[e,if_neg (by decide +kernel),e,if_pos (by decide +kernel)]
  ·rw[e,if_neg (by decide +kernel),e,if_neg (by decide +kernel),e,if_neg (by decide +kernel),e,if_neg (by decide +kernel),e,if_neg (by decide +kernel),e,if_pos (by decide +kernel)];rfl
  ·rw[e,if_neg (by decide +kernel),e,if_neg (by decide +kernel),e,if_neg (by decide +kernel),e,if_neg (by decide +kernel),e,if_neg (by decide +kernel),e,if_neg (by decide +kernel),e,if_pos (by decide +kernel)];rfl
theorem z12:Sz 4 (1 / 12:Rat):=⟨by decide +kernel,by decide +kernel⟩
theorem zsh(k:Option Kd):Sz 3 (sh k):=by
 cases k with
 |none=>exact⟨by decide +kernel,by decide +kernel⟩
 |some k=>cases k<;>exact⟨by decide +kernel,by decide +kernel⟩
section
variable{x:Bool}{sub:Nat->Nat->Bool}{m i1 i2 i4 i5 i6:Nat}{s g b l u v:Rat}{k:Option Kd}
theorem q_12(hm:2<=m):run x tabA gloA sub m 1 [.int 1,.int 12]=.ok (F (1 / 12)):=by
 obtain⟨n,rfl⟩:=JAC hm;have:=JDU (x:=x) (glo:=gloA) (sub:=sub) (n:=n) tF 1 12 (by decide) (L.of (k:=10) (by decide) (by omega))
 rw[this,show Rat.divInt 1 12=1 / 12 by decide +kernel]
theorem JMg[Z i4 l][Z i5 u][Z i6 v](h:i4+i5+i6<=300)(hm:4<=m):run x tabA gloA sub m 189 [mo s g b l k u v]=.ok (F (1 / 12*(l*l)*(u - v))):=by
 obtain⟨n,rfl⟩:=JAC hm;rw[JAA (n:=n+3) (show tabA 189=some JNt from rfl),JAB rfl];have e:=q_12 (x:=x) (sub:=sub) (m:=n+3) (by omega)
 have zz:Z 4 (1 / 12:Rat):=⟨z12⟩;generalize (1 / 12:Rat)=c at *
 dsimp?! [JNt,JP9,mo3,mo5,tp0,tp1,e]
theorem JPV[Z i1 s][Z i2 g][Z i4 l][Z i5 u][Z i6 v](h:i1+i2+i4+i5+i6<=200)(hm:5<=m):run x tabA gloA sub m 188 [mo s g b l k u v]=.ok (F (ar s g l k u v)):=by
 obtain⟨n,rfl⟩:=JAC hm;rw[JAA (n:=n+4) (show tabA 188=some JMa from rfl),JAB rfl];have e:=JMg (x:=x) (sub:=sub) (m:=n+4) (s:=s) (g:=g) (b:=b) (l:=l) (k:=k) (u:=u) (v:=v) (by omega) (by omega)
 have zz:Z 4 (1 / 12:Rat):=⟨z12⟩;have zk:Z 3 (sh k):=⟨zsh k⟩;have hs:=sh_ok k;unfold ar;generalize (1 / 12:Rat)=c at *;generalize sh k=h0 at *
 dsimp?! [JMa,JQZ,mo0,mo1,mo3,mo4,G192,hs,e]
instance[Z i1 s][Z i2 g][Z i4 l][Z i5 u][Z i6 v]:Z (2*i1+i2+4*i4+i5+i6+20) (ar s g l k u v):=⟨by
 have zz:Z 4 (1 / 12:Rat):=⟨z12⟩;have zk:Z 3 (sh k):=⟨zsh k⟩;unfold ar;exact(inferInstance:Z _ (l*s+l*(g - s)*sh k+1 / 12*(l*l)*(u - v))).le (by omega)⟩
end
section
variable{s g l u v y:Rat}{k:Option Kd}
end
end VI.VP
end
section
namespace VI.VP
open PySem Fr
section
variable{y t:Rat}{a:Mv}{ms:List Mv}{w:Rat}
end
end VI.VP
end
section
namespace VI.VP
open PySem Fr
noncomputable def tt:List Rat->Rat->Rat
 | [],s=>s
 |q::r,s=>tt r (s+q)
theorem JLQ:∀(a b:List Rat) (s:Rat),tt (a++b) s=tt b (tt a s)
 | [],_,_=>rfl
 |_::a,b,s=>JLQ a b _
theorem JKK{k:Nat}:∀(a:List Rat) (s:Rat) (j:Nat),(∀q∈a,Sz k q)->Sz j s->Sz (j+a.length*(k+1)) (tt a s)
 | [],s,j,_,h=>by simpa[tt] using h
 |q::a,s,j,ha,h=>by
  have:=JKK a (s+q) (j+k+1) (λq h=>ha q (by simp[h])) (h.add (ha q (by simp)) (q_t _))
  refine this.mono ?_;simp only[List.length_cons,Nat.add_mul];omega
noncomputable def JEX:S:=.cons (.asg 1 (.call 3 (.cons (.var 1) (.cons (.var 2) .nil)))) .nil
section
variable{x:Bool}{sub:Nat->Nat->Bool}{m n k:Nat}{w:Rat}{ms:List Mv}
theorem JNV(qs:List Rat)(hq:∀q∈qs,Sz k q)(hl:qs.length*(k+1)<=1400)(hk:k<=1400)(hm:4<=m):run x tabA gloA sub m 179 [.list (qs.map F)]=.ok (F (tt qs 0)):=by
 obtain⟨n,rfl⟩:=JAC hm;rw[JAA (n:=n+3) (show tabA 179=some JOA from rfl),JAB rfl];obtain⟨C,hC⟩:∃C:Cn,C=⟨run x tabA gloA sub (n+3),gloA,sub⟩:=⟨_,rfl⟩;have fn:C.fn=run x tabA gloA sub (n+3):=by rw[hC]
 have fg:C.glo=gloA:=by rw[hC]
 rw[<-hC];have it:JAc (.list (qs.map F))=.ok (qs.map F):=rfl;generalize hds:qs.map F=ds at *;obtain⟨δ',lp,a,r,y2,er,ea,v2,eδ⟩:=JBh (C:=C) (i:=2) (b:=JEX)
  (Inv:=λes δ=>∃(a r:List Rat) (y2:Sl),es=r.map F/\qs=a++r/\Vs y2/\δ=[.val (.list ds),.val (F (tt a 0)),y2])
  (λd es δ ⟨a,r,y2,er,ea,v2,e⟩=>by
    subst e;cases r with
    |nil=>cases er
    |cons q r =>
     simp only[List.map_cons,List.cons.injEq]at er;obtain⟨rfl,rfl⟩:=er;have hll:a.length*(k+1)<=1400:=Nat.le_trans (Nat.mul_le_mul_right _ (by rw[ea];simp)) hl
     have z1:Z 1410 (tt a 0):=⟨(JKK a 0 3 (λq h=>hq q (by rw[ea];simp[h])) (sz01 (by omega)).1).mono (by omega)⟩
     have z2:Z k q:=⟨hq q (by rw[ea];simp)⟩
     have et:tt (a++[q]) 0=tt a 0+q:=by rw[JLQ];rfl
     refine⟨[.val (.list ds),.val (F (tt (a++[q]) 0)),.val (F q)],.inl ?_,a++[q],r,.val (F q),rfl,by rw[ea];simp,rfl,rfl⟩
     rw[et];generalize tt a 0=s at *
     dsimp?! [JEX,fn,fg])
  (ds:=ds) (δ:=[.val (.list ds),.val (F 0),.no])
  ⟨[],qs,.no,hds.symm,rfl,rfl,rfl⟩
 subst eδ;cases r with
 |cons q r=>cases er
 |nil =>
  rw[List.append_nil]at ea;subst ea;simp only[JEX]at lp;generalize tt qs 0=T at *
  dsimp?! [JOA,JPj,fn,fg,it,lp,G39,JAY,JAm,JAW,v2.own]
structure Fit(a:Mv):Prop where
 ok:a.Ok
 s:Sz 10 a.s
 g:Sz 10 a.g
 b:Sz 16 a.b
 l:Sz 10 a.l
 u:Sz 11 a.u
 v:Sz 11 a.v
noncomputable def Mv.ar(a:Mv):Rat:=VP.ar a.s a.g a.l a.k a.u a.v
theorem Fit.arz{a:Mv}(h:Fit a):Sz 112 a.ar:=by
 have z1:Z 10 a.s:=⟨h.s⟩;have z2:Z 10 a.g:=⟨h.g⟩;have z3:Z 10 a.l:=⟨h.l⟩;have z4:Z 11 a.u:=⟨h.u⟩;have z5:Z 11 a.v:=⟨h.v⟩;exact(inferInstance:Z (2*10+10+4*10+11+11+20) (VP.ar a.s a.g a.l a.k a.u a.v)).le (by omega)
theorem Fit.q_ar{a:Mv}(h:Fit a)(hm:5<=m):run x tabA gloA sub m 188 [a.d]=.ok (F a.ar):=by
 have z1:Z 10 a.s:=⟨h.s⟩;have z2:Z 10 a.g:=⟨h.g⟩;have z3:Z 10 a.l:=⟨h.l⟩;have z4:Z 11 a.u:=⟨h.u⟩;have z5:Z 11 a.v:=⟨h.v⟩;exact JPV (by omega) hm
theorem Fit.ez{a:Mv}(h:Fit a):Sz 27 a.e:=by
 have z1:Z 16 a.b:=⟨h.b⟩;have z2:Z 10 a.l:=⟨h.l⟩;exact(inferInstance:Z (16+10+1) (a.b+a.l)).h
noncomputable def gp(p:Rat×Rat):D:=.tuple [F p.1,F p.2]
noncomputable def rs:List Mv->List (Rat×Rat)
 | []=>[]
 | [_]=>[]
 |a::c::r=>(if a.e<c.b then [(a.e,c.b)] else [])++rs (c::r)
noncomputable def JC9:S:=match JFl with
 |.cons _ (.cons _ (.cons _ (.cons (.for1 _ _ b) _)))=>b
 |_=>.nil
theorem JO0{δ:Env}{i:Nat}{ds:List D}{x:D}{e:E}(h:ds.length<1000)(hn:JAI x=true):JAk i ds e x δ=.nx (δ.set i (.own (.list (ds++[x])))):=by
 unfold JAk;rw[if_pos (by omega),hn]
 simp
theorem JK3:∀ms:List Mv,(rs ms).length<=ms.length
 | []=>q_t _
 | [_]=>by simp[rs]
 |a::c::r=>by
  have:=JK3 (c::r);simp only[rs,q_u,List.length_cons]at this ⊢
  split<;>simp<;>omega
theorem JHW(T:D)(hok:∀a∈ms,Fit a)(hlm:ms.length<=400):∀(r:List Mv) (pre:List Mv) (a:Mv) (acc:List (Rat×Rat)) (y3 y4 y5:Sl),ms=pre++a::r->acc.length<=pre.length->Vs y3->Vs y4->Vs y5 ->
  ∃z3 z4 z5,Vs z3/\Vs z4/\Vs z5/\for2 ⟨run x tabA gloA sub (n+6),gloA,sub⟩ 3 JC9 ((List.range' (pre.length+1) r.length).map λj=>.int (j:Nat)) [.val T,.val (.tuple (ms.map Mv.d)),.own (.list (acc.map gp)),y3,y4,y5]
   = .nx [.val T,.val (.tuple (ms.map Mv.d)),.own (.list ((acc++rs (a::r)).map gp)),z3,z4,z5]
 | [],pre,a,acc,y3,y4,y5,_,_,v3,v4,v5=>⟨y3,y4,y5,v3,v4,v5,by simp only[rs,List.append_nil];rfl⟩
 |c::r,pre,a,acc,y3,y4,y5,e,hl,v3,v4,v5=>by
  have ia:idxD (.tuple (ms.map Mv.d)) (.int (((pre.length+1:Nat):Int) - 1))=.ok a.d:=JF2 (j:=pre.length) (by omega) (by rw[e];simp)
  have ic:idxD (.tuple (ms.map Mv.d)) (.int ((pre.length+1:Nat):Int))=.ok c.d:=JF2 (j:=pre.length+1) rfl (by rw[e];simp[List.getElem?_append])
  have oa:Fit a:=hok a (by rw[e];simp)
  have oc:Fit c:=hok c (by rw[e];simp)
  have e1:run x tabA gloA sub (n+6) 72 [a.d]=.ok (F a.e):=Mv.q_end oa.ok (by omega)
  have z1:Z 27 a.e:=⟨oa.ez⟩;have z2:Z 16 c.b:=⟨oc.b⟩;have m2:idxD c.d (.int 2)=.ok (F c.b):=rfl;have hpl:pre.length<400:=by rw[e]at hlm;simp at hlm;omega
  simp only[List.length_cons,List.range'_succ,List.map_cons];generalize hC:(Cn.mk (run x tabA gloA sub (n+6)) gloA sub)=C;have fn:C.fn=run x tabA gloA sub (n+6):=by rw[<-hC]
  have fg:C.glo=gloA:=by rw[<-hC]
  have ih:=JHW T hok hlm r (pre++[a]) c (acc++(if a.e<c.b then [(a.e,c.b)] else [])) (.val (.int ((pre.length+1:Nat):Int))) (.val (F a.e)) (.val (F c.b)) (by rw[e];simp) (by simp only[q_u,List.length_cons,List.length_nil];split<;>simp<;>omega) rfl rfl rfl
  rw[hC,q_u,List.length_cons,List.length_nil]at ih;obtain⟨w3,w4,w5,u3,u4,u5,ih⟩:=ih;refine⟨w3,w4,w5,u3,u4,u5,?_⟩;rw[JCH];have er:acc++rs (a::c::r)=acc++(if a.e<c.b then [(a.e,c.b)] else [])++rs (c::r):=by simp only[rs,List.append_assoc]
  rw[er];have ex:exec C JC9 [.val T,.val (.tuple (ms.map Mv.d)),.own (.list (acc.map gp)),.val (.int ((pre.length+1:Nat):Int)),y4,y5]
    = .nx [.val T,.val (.tuple (ms.map Mv.d)),.own (.list ((acc++(if a.e<c.b then [(a.e,c.b)] else [])).map gp)),.val (.int ((pre.length+1:Nat):Int)),.val (F a.e),.val (F c.b)]:=by
   have nd:JAI a.d=true:=JMZ;have nc:JAI c.d=true:=JMZ
   by_cases o:a.e<c.b
   ·have ap:∀(δ:Env) (e:E),JAk 2 (acc.map gp) e (.tuple [F a.e,F c.b]) δ=.nx (δ.set 2 (.own (.list (acc.map gp++[.tuple [F a.e,F c.b]])))):=λδ e=>JO0 (by rw[q_g];omega) rfl
    have em:(acc++(if a.e<c.b then [(a.e,c.b)] else [])).map gp=acc.map gp++[.tuple [F a.e,F c.b]]:=by rw[if_pos o,List.map_append];rfl
    rw[em];generalize acc.map gp=ds at *;generalize ms.map Mv.d=es at *;generalize a.e=ae at *
    dsimp?! [JC9,JFl,fn,fg,ia,ic,e1,m2,o,decide_true,ap,v4.own,v5.own,JAS,JAI,JAf,noF,Bool.not_true,Bool.and_false,G57,Bool.and_self]
   ·have em:(acc++(if a.e<c.b then [(a.e,c.b)] else [])).map gp=acc.map gp:=by rw[if_neg o,List.append_nil]
    rw[em];generalize acc.map gp=ds at *;generalize ms.map Mv.d=es at *;generalize a.e=ae at *
    dsimp?! [JC9,JFl,fn,fg,ia,ic,e1,m2,o,decide_false,v4.own,v5.own,JAS,JAI,JAf,noF,Bool.not_true,Bool.and_false,G57,Bool.and_self]
  rw[List.set_cons_succ,List.set_cons_succ,List.set_cons_succ,List.set_cons_zero,ex,JGJ];exact ih
theorem JJG(hok:∀a∈ms,Fit a)(hn:nov ms=true)(hl:ms.length<=400)(hm:7<=m):run x tabA gloA sub m 85 [tr w ms]=.ok .none:=by
 refine JJR ?_ (by omega)
 rw[JQP (λa h=>(hok a h).ok) (by omega) (by omega),hn]
theorem JMT(hok:∀a∈ms,Fit a)(hn:nov ms=true)(hl:ms.length<=400)(hm:8<=m):run x tabA gloA sub m 195 [tr w ms]=.ok (.list ((rs ms).map gp)):=by
 obtain⟨n,rfl⟩:=JAC hm;rw[JAA (n:=n+7) (show tabA 195=some JKf from rfl),JAB rfl];have e0:run x tabA gloA sub (n+7) 85 [tr w ms]=.ok .none:=JJG hok hn hl (by omega)
 have t1:idxD (tr w ms) (.int 1)=.ok (.tuple (ms.map Mv.d)):=rfl;have rg:=JRX (j:=ms.length) (by omega)
 have nt:JAI (.tuple (ms.map Mv.d))=true:=by
  simp only[JAI];clear hok hn hl e0 t1 rg
  induction ms with
  |nil=>rfl
  |cons a r ih=>simp only[List.map_cons,JAf,ih,Bool.and_true];exact JMZ
 generalize htr:tr w ms=TR at *;cases ms with
 |nil =>
  simp only[List.length_nil,Nat.zero_sub,List.range'_zero]at rg;simp only[List.map_nil]at t1 nt
  dsimp?! [JKf,JFl,e0,t1,G94,List.length_nil,rg,JH7,JAY,JAm,JBf,JAW,rs,JD6,JDm,JCh,JLs,JF9,JHJ,Nat.reduceAdd,Nat.reduceBEq,Bool.or_false,Bool.or_self,JAI,JAf,Bool.not_true,Bool.and_false,JAS]
 |cons a r =>
  obtain⟨z3,z4,z5,v3,v4,v5,lp⟩:=JHW (x:=x) (sub:=sub) (n:=n+1) TR hok hl r [] a [] .no .no .no rfl (q_t _) rfl rfl rfl;have el:((a::r).map Mv.d).length=(a::r).length:=by simp
  have ec:(a::r).length - 1=r.length:=by simp
  rw[ec,<-el]at rg;simp only[List.length_nil,Nat.zero_add,JC9,JFl,List.nil_append,List.map_nil]at lp;generalize (a::r).map Mv.d=ds at *;generalize (rs (a::r)).map gp=gs at *;generalize (List.range' 1 r.length).map (λj=>(PyData.int (j:Nat):D))=js at *
  dsimp?! [JKf,JFl,e0,t1,G94,rg,lp,JAY,JAm,JBf,JAW,JD6,JDm,JCh,JLs,JF9,JHJ,Nat.reduceAdd,Nat.reduceBEq,Bool.or_false,Bool.or_self,JAI,JAf,Bool.not_true,Bool.and_false,JAS,v3.own,v4.own,v5.own,nt]
end
end VI.VP
end
section
namespace VI.VP
open PySem Fr
theorem JC4{α:Type}{f:D->R (Option D)}{c g:α->D}:∀ {xs:List α},(∀a∈xs,f (c a)=.ok (some (g a)))->JBM f (xs.map c)=.ok (xs.map g)
 | [],_=>rfl
 |a::xs,h=>by
  simp only[List.map_cons];unfold JBM;rw[h a (by simp),JC4 λy hy=>h y (by simp[hy])]
theorem JJH:∀ {r:List Mv},(∀c∈a::r,c.Ok)->nov (a::r)=true->∀c∈r,a.e<=c.b
 | [],_,_,c,h=>by cases h
 |d::r,hok,hn,c,hc=>by
  simp only[nov,q_i,Bool.not_eq_true',decide_eq_false_iff_not]at hn;have h1:a.e<=d.b:=by grind
  rcases q_n.mp hc with rfl|hc
  ·exact h1
  ·have:=JJH (a:=d) (λc h=>hok c (by simp at h ⊢;right;exact h)) hn.2 c hc
   have l0:=(hok d (by simp)).l0
   have:d.b<=d.e:=by simp only[Mv.e];grind
   grind
theorem JGj(h:nov (a::r)=true):nov r=true:=by
 cases r with
 |nil=>rfl
 |cons c r=>simp only[nov,q_i]at h;exact h.2
theorem JIW:∀ {pre r:List Mv}{a:Mv},(∀c∈pre++a::r,c.Ok)->nov (pre++a::r)=true->(∀c∈pre,c.b<=a.b)/\nov (a::r)=true
 | [],r,a,_,hn=>⟨(λc h=>nomatch h),hn⟩
 |d::pre,r,a,hok,hn=>by
  have h1:=JIW (pre:=pre) (r:=r) (a:=a) (λc h=>hok c (by simp at h ⊢;right;exact h)) (JGj hn)
  refine⟨λc hc=>?_,h1.2⟩;rcases q_n.mp hc with rfl|hc
  ·have:=JJH (a:=c) (r:=pre++a::r) hok hn a (by simp)
   have l0:=(hok c (by simp)).l0
   have:c.b<=c.e:=by simp only[Mv.e];grind
   grind
  ·exact h1.1 c hc
theorem JHj{w:Rat}(hok:∀d∈pre++a::c::r,d.Ok)(hn:nov (pre++a::c::r)=true)(h:a.e<c.b):wOf w (pre++a::c::r) a.e=a.g:=by
 obtain⟨h1,h2⟩:=JIW hok hn;have la:=(hok a (by simp)).l0
 have hab:a.b<a.e:=by simp only[Mv.e];grind
 have h3:=JJH (a:=c) (r:=r) (λd h=>hok d (by simp at h ⊢;right;right;exact h)) (JGj h2)
 have lc:=(hok c (by simp)).l0
 have hc2:c.b<c.e:=by simp only[Mv.e];grind
 have eb:bg a.e (pre++a::c::r)=pre++[a]:=by
  unfold bg;rw[List.filter_append]
  congr 1
  ·refine List.filter_eq_self.mpr λd hd=>?_;have:=h1 d hd;simp;grind
  ·rw[q_y (by simp;grind)]
   congr 1
   refine List.filter_eq_nil_iff.mpr λd hd=>?_;rcases q_n.mp hd with rfl|hd
   ·simp;exact h
   ·have:=h3 d hd;simp;grind
 unfold wOf;rw[eb,JDF];have:a.w a.e=wop a.s a.g a.l a.k a.u a.v 1:=by
  unfold Mv.w;refine wo_p ?_;unfold Mv.e;rw[show a.b+a.l - a.b=a.l by grind,Rat.div_def,Rat.mul_inv_cancel _ (by grind)]
 simp only[this];exact JPq _ (by grind)
noncomputable def ra(w:Rat)(ms:List Mv)(p:Rat×Rat):Rat:=(p.2 - p.1)*wOf w ms p.1
theorem JIE:∀ {ms:List Mv}{p:Rat×Rat},p∈rs ms->∃pre a c r,ms=pre++a::c::r/\p=(a.e,c.b)/\a.e<c.b
 | [],p,h=>by simp[rs]at h
 | [_],p,h=>by simp[rs]at h
 |a::c::r,p,h=>by
  simp only[rs,List.mem_append]at h;rcases h with h|h
  ·split at h
   ·rename_i o;simp only[q_n,List.not_mem_nil,or_false]at h;exact⟨[],a,c,r,rfl,h,o⟩
   ·cases h
  ·obtain⟨pre,a',c',r',e,ep,o⟩:=JIE h;exact⟨a::pre,a',c',r',by rw[e];rfl,ep,o⟩
section
variable{x:Bool}{sub:Nat->Nat->Bool}{m n k:Nat}{w:Rat}{ms:List Mv}
theorem JPg(hok:∀a∈ms,Fit a):Ti 16 10 ms:=⟨λa h=>(hok a h).ok,λa h=>(hok a h).b,λa h=>(hok a h).l⟩
theorem JN3(hok:∀a∈ms,Fit a)(hn:nov ms=true)(h:p∈rs ms):Sz 27 p.1/\Sz 16 p.2/\Sz 10 (wOf w ms p.1):=by
 obtain⟨pre,a,c,r,e,rfl,o⟩:=JIE h;have fa:Fit a:=hok a (by rw[e];simp)
 have fc:Fit c:=hok c (by rw[e];simp)
 refine⟨fa.ez,fc.b,?_⟩;subst e;rw[JHj (λd h=>(hok d h).ok) hn o];exact fa.g
theorem ra_sz(hok:∀a∈ms,Fit a)(hn:nov ms=true){p:Rat×Rat}(h:p∈rs ms):Sz 60 (ra w ms p):=by
 obtain⟨h1,h2,h3⟩:=JN3 (w:=w) hok hn h;have z1:Z 27 p.1:=⟨h1⟩;have z2:Z 16 p.2:=⟨h2⟩;have z3:Z 10 (wOf w ms p.1):=⟨h3⟩;unfold ra;generalize wOf w ms p.1=W at *;exact(inferInstance:Z (16+27+1+10) ((p.2 - p.1)*W)).le (by omega)
theorem JPr(hok:∀a∈ms,Fit a)(hn:nov ms=true)(hl:ms.length<=400)(h:p∈rs ms)(hm:7<=m):run x tabA gloA sub m 97 [tr w ms,F p.1]=.ok (F (wOf w ms p.1)):=by
 obtain⟨h1,h2,h3⟩:=JN3 (w:=w) hok hn h;have z1:Z 27 p.1:=⟨h1⟩;exact q_wof (JPg hok) (by omega) (by omega) (by omega) (by omega) hm
theorem q_ra(hok:∀a∈ms,Fit a)(hn:nov ms=true)(hl:ms.length<=400){p:Rat×Rat}(h:p∈rs ms)(hm:8<=m):run x tabA gloA sub m 194 [tr w ms,gp p]=.ok (F (ra w ms p)):=by
 obtain⟨n,rfl⟩:=JAC hm;rw[JAA (n:=n+7) (show tabA 194=some JNo from rfl),JAB rfl];obtain⟨h1,h2,h3⟩:=JN3 (w:=w) hok hn h;have e1:=JPr (x:=x) (sub:=sub) (w:=w) (m:=n+7) hok hn hl h (by omega)
 have z1:Z 27 p.1:=⟨h1⟩;have z2:Z 16 p.2:=⟨h2⟩;have z3:Z 10 (wOf w ms p.1):=⟨h3⟩;unfold ra gp;generalize wOf w ms p.1=W at *;generalize tr w ms=TR at *;clear h h1 h2 h3;obtain⟨p,q⟩:=p;simp only at *
 dsimp?! [JNo,JRg,tp0,tp1,e1]
noncomputable def tA(w:Rat)(ms:List Mv):Rat:=tt (ms.map Mv.ar) 0+tt ((rs ms).map (ra w ms)) 0
theorem JNX(hok:∀a∈ms,Fit a)(hn:nov ms=true)(hl:ms.length<=5)(hm:9<=m):run x tabA gloA sub m 193 [tr w ms]=.ok (F (tA w ms)):=by
 obtain⟨n,rfl⟩:=JAC hm;rw[JAA (n:=n+8) (show tabA 193=some JMx from rfl),JAB rfl];obtain⟨C,hC⟩:∃C:Cn,C=⟨run x tabA gloA sub (n+8),gloA,sub⟩:=⟨_,rfl⟩;have fn:C.fn=run x tabA gloA sub (n+8):=by rw[hC]
 have fg:C.glo=gloA:=by rw[hC]
 rw[<-hC];have e0:run x tabA gloA sub (n+8) 85 [tr w ms]=.ok .none:=JJG hok hn (by omega) (by omega)
 have e1:run x tabA gloA sub (n+8) 195 [tr w ms]=.ok (.list ((rs ms).map gp)):=JMT hok hn (by omega) (by omega)
 have h2:∀q∈ms.map Mv.ar,Sz 112 q:=λq h=>by obtain⟨a,ha,rfl⟩:=List.mem_map.mp h;exact(hok a ha).arz
 have h3:∀q∈(rs ms).map (ra w ms),Sz 60 q:=λq h=>by obtain⟨a,ha,rfl⟩:=List.mem_map.mp h;exact ra_sz hok hn ha
 have hl2:=JK3 ms;have e2:=JNV (x:=x) (sub:=sub) (m:=n+8) (ms.map Mv.ar) h2 (by rw[q_g];omega) (by omega) (by omega)
 have e3:=JNV (x:=x) (sub:=sub) (m:=n+8) ((rs ms).map (ra w ms)) h3 (by rw[q_g];omega) (by omega) (by omega)
 have z2:Z 600 (tt (ms.map Mv.ar) 0):=⟨(JKK _ 0 3 h2 (sz01 (by omega)).1).mono (by rw[q_g];omega)⟩
 have z3:Z 600 (tt ((rs ms).map (ra w ms)) 0):=⟨(JKK _ 0 3 h3 (sz01 (by omega)).1).mono (by rw[q_g];omega)⟩
 have t1:idxD (tr w ms) (.int 1)=.ok (.tuple (ms.map Mv.d)):=rfl;have i1:JAc (.tuple (ms.map Mv.d))=.ok (ms.map Mv.d):=rfl;have i2:JAc (.list ((rs ms).map gp))=.ok ((rs ms).map gp):=rfl;have c1:∀δ,JDc C 0 (.call 188 (.cons (.var 0) .nil)) (.cbl true) δ (.ok (ms.map Mv.d))=.ok (.list ((ms.map Mv.ar).map F)):=by
  intro δ;rw[JDP (by rw[q_g];omega),JC4 (g:=λa=>F a.ar) (λa ha=>?_),List.map_map]
  ·rfl
  ·have e:=(hok a ha).q_ar (x:=x) (sub:=sub) (m:=n+8) (by omega)
   rw[JDH];generalize a.d=ad at *
   dsimp?! [fn,fg,e]
 have c2:∀y1 y2,JDc C 0 (.call 194 (.cons (.var 1) (.cons (.var 0) .nil))) (.cbl true) [.val (tr w ms),y1,y2] (.ok ((rs ms).map gp))=.ok (.list (((rs ms).map (ra w ms)).map F)):=by
  intro y1 y2;rw[JDP (by rw[q_g];omega),JC4 (g:=λa=>F (ra w ms a)) (λa ha=>?_),List.map_map]
  ·rfl
  ·have e:=q_ra (x:=x) (sub:=sub) (w:=w) (m:=n+8) hok hn (by omega) ha (by omega)
   rw[JDH];generalize gp a=ad at *;generalize tr w ms=TR at *
   dsimp?! [fn,fg,e]
 unfold tA;clear h2 h3;generalize tt (ms.map Mv.ar) 0=S1 at *;generalize tt ((rs ms).map (ra w ms)) 0=S2 at *;generalize (ms.map Mv.ar).map F=l1 at *;generalize ((rs ms).map (ra w ms)).map F=l2 at *;generalize (rs ms).map gp=gs at *;generalize ms.map Mv.d=ds at *;generalize tr w ms=TR at *
 dsimp?! [JMx,JPz,fn,fg,e0,e1,e2,e3,t1,i1,i2,c1,c2,G94]
noncomputable def rab(q:Rat):Rat:=if q<0 then -q else q
noncomputable def Mv.way(a:Mv):Rat:=rab (a.g - a.s)
theorem JPM{k:Nat}{q:Rat}(h:Sz k q):Sz k (rab q):=by
 unfold rab
 split
 ·exact⟨by rw[Rat.neg_num,Int.natAbs_neg];exact h.1,by rw[Rat.neg_den];exact h.2⟩
 ·exact h
theorem Fit.wayz{a:Mv}(h:Fit a):Sz 21 a.way:=JPM (h.g.sub h.s (by omega))
theorem Fit.q_way{a:Mv}(h:Fit a)(hm:5<=m):run x tabA gloA sub m 198 [a.d]=.ok (F a.way):=by
 obtain⟨n,rfl⟩:=JAC hm;have z1:Z 10 a.s:=⟨h.s⟩;have z2:Z 10 a.g:=⟨h.g⟩;have hq:∀q∈[a.s,a.g],Q q:=by
  intro q hq;simp only[q_n,List.not_mem_nil,or_false]at hq;rcases hq with rfl|rfl
  ·exact z1.le (by omega)
  ·exact z2.le (by omega)
 obtain⟨lo,l1,l2,l3,l4⟩:=JGC (x:=x) (glo:=gloA) (sub:=sub) (n:=n+1) tF tM a.s [a.g] hq;obtain⟨hi,m1,m2,m3,m4⟩:=JHA (x:=x) (glo:=gloA) (sub:=sub) (n:=n+1) tF tM a.s [a.g] hq;simp only[List.map_cons,List.map_nil]at l4 m4;simp only[q_n,List.not_mem_nil,or_false]at l1 m1;have zl:Z 10 lo:=⟨by rcases l1 with rfl|rfl<;>first|exact h.s|exact h.g⟩
 have zh:Z 10 hi:=⟨by rcases m1 with rfl|rfl<;>first|exact h.s|exact h.g⟩
 have l5:=l2 a.s (by simp)
 have l6:=l2 a.g (by simp)
 have m5:=m2 a.s (by simp)
 have m6:=m2 a.g (by simp)
 have ew:a.way=hi - lo:=by
  unfold Mv.way rab
  split<;>rcases l1 with rfl|rfl<;>rcases m1 with rfl|rfl<;>grind
 rw[ew];have e1:run x tabA gloA sub (n+4) 47 [a.d]=.ok (.tuple [F lo,F hi]):=by
  rw[JAA (n:=n+3) (show tabA 47=some d_47 from rfl),JAB rfl];unfold Mv.d
  dsimp?! [d_47,b_47,mo0,mo1,l4,m4]
 clear hq l1 l2 l3 l4 l5 l6 m1 m2 m3 m4 m5 m6 ew;rw[JAA (n:=n+4) (show tabA 198=some JN1 from rfl),JAB rfl];generalize a.d=ad at *
 dsimp?! [JN1,JR1,e1,tp0,tp1]
theorem JJb(hok:∀a∈ms,Fit a)(hn:nov ms=true)(hl:ms.length<=5)(hm:8<=m):run x tabA gloA sub m 197 [tr w ms]=.ok (F (tt (ms.map Mv.way) 0)):=by
 obtain⟨n,rfl⟩:=JAC hm;rw[JAA (n:=n+7) (show tabA 197=some JOZ from rfl),JAB rfl];obtain⟨C,hC⟩:∃C:Cn,C=⟨run x tabA gloA sub (n+7),gloA,sub⟩:=⟨_,rfl⟩;have fn:C.fn=run x tabA gloA sub (n+7):=by rw[hC]
 have fg:C.glo=gloA:=by rw[hC]
 rw[<-hC];have e0:run x tabA gloA sub (n+7) 85 [tr w ms]=.ok .none:=JJG hok hn (by omega) (by omega)
 have h2:∀q∈ms.map Mv.way,Sz 21 q:=λq h=>by obtain⟨a,ha,rfl⟩:=List.mem_map.mp h;exact(hok a ha).wayz
 have e2:=JNV (x:=x) (sub:=sub) (m:=n+7) (ms.map Mv.way) h2 (by rw[q_g];omega) (by omega) (by omega)
 have t1:idxD (tr w ms) (.int 1)=.ok (.tuple (ms.map Mv.d)):=rfl;have i1:JAc (.tuple (ms.map Mv.d))=.ok (ms.map Mv.d):=rfl;have c1:∀δ,JDc C 0 (.call 198 (.cons (.var 0) .nil)) (.cbl true) δ (.ok (ms.map Mv.d))=.ok (.list ((ms.map Mv.way).map F)):=by
  intro δ;rw[JDP (by rw[q_g];omega),JC4 (g:=λa=>F a.way) (λa ha=>?_),List.map_map]
  ·rfl
  ·have e:=(hok a ha).q_way (x:=x) (sub:=sub) (m:=n+7) (by omega)
   rw[JDH];generalize a.d=ad at *
   dsimp?! [fn,fg,e]
 clear h2;generalize tt (ms.map Mv.way) 0=S1 at *;generalize (ms.map Mv.way).map F=l1 at *;generalize ms.map Mv.d=ds at *;generalize tr w ms=TR at *
 dsimp?! [JOZ,JSJ,fn,fg,e0,e2,t1,i1,c1,G94]
end
theorem JFZ{s:Pl}(h:s.one=true):s.d.canLay0=true:=by
 cases s with
 |wait q =>
  have:(PyData.str "wait").canLay0=true:=by decide +kernel
  simp only[Pl.d,PyData.canLay0,PyData.canLayAll0,JJF,Bool.and_self,Bool.and_true]at this ⊢;exact this
 |step o g q k =>
  have h1:(PyData.str (gw o)).canLay0=true:=by cases o<;>decide +kernel
  have h2:(PyData.str k.str).canLay0=true:=by cases k<;>decide +kernel
  simp only[Pl.d,PyData.canLay0,PyData.canLayAll0,JJF,Bool.and_self,Bool.and_true,Bool.true_and]at h1 h2 ⊢;rw[h1,h2];rfl
 |thn a b=>cases h
 |agn c a=>cases h
theorem JDM{s:Pl}(h:s.one=true):s.d.depth<=4:=by
 cases s with
 |wait q=>simp only[Pl.d,PyData.depth,PyData.depthAll,JCZ];decide
 |step o g q k=>simp only[Pl.d,PyData.depth,PyData.depthAll,JCZ];decide
 |thn a b=>cases h
 |agn c a=>cases h
theorem JEM{s:Pl}(h:s.one=true):PyData.eqv s.d s.d=true:=by
 cases s with
 |wait q=>simp only[Pl.d,PyData.eqv,PyData.eqvAll,JGo,decide_true,Bool.and_true,beq_self_eq_true]
 |step o g q k=>simp only[Pl.d,PyData.eqv,PyData.eqvAll,JGo,decide_true,Bool.and_true,beq_self_eq_true]
 |thn a b=>cases h
 |agn c a=>cases h
theorem JEB:∀ss:List Pl,(∀s∈ss,s.one=true)->PyData.canLayAll0 (ss.map Pl.d)=true
 | [],_=>rfl
 |s::r,h=>by simp only[List.map_cons,PyData.canLayAll0,JFZ (h s (by simp)),JEB r λa ha=>h a (by simp[ha]),Bool.and_self]
theorem JCj:∀ss:List Pl,(∀s∈ss,s.one=true)->PyData.depthAll (ss.map Pl.d)<=4
 | [],_=>by simp[PyData.depthAll]
 |s::r,h=>by
  simp only[List.map_cons,PyData.depthAll];have:=JDM (h s (by simp))
  have:=JCj r λa ha=>h a (by simp[ha])
  omega
theorem JFK:∀ss:List Pl,(∀s∈ss,s.one=true)->PyData.eqvAll (ss.map Pl.d) (ss.map Pl.d)=true
 | [],_=>by simp only[List.map_nil,PyData.eqvAll]
 |s::r,h=>by simp only[List.map_cons,PyData.eqvAll,JEM (h s (by simp)),JFK r λa ha=>h a (by simp[ha]),Bool.and_self]
theorem JOV{ss:List Pl}(h:∀s∈ss,s.one=true):cmpD .NotEq (.list (ss.map Pl.d)) (.list (ss.map Pl.d))=.ok (.bool false):=by
 have hs:shaped (.list (ss.map Pl.d))=true:=by
  have:=JCj ss h;unfold shaped;rw[q_i];refine⟨by simp only[PyData.canLay0,JEB ss h],decide_eq_true ?_⟩
  simp only[PyData.depth];omega
 simp only[cmpD,hs,Bool.and_self,if_true,PyData.eqv,JFK ss h,Bool.not_true]
end VI.VP
end
section
namespace VI.VP
open PySem Fr
theorem Pl.refl:∀p:Pl,PyData.eqv p.d p.d=true:=by
 intro p
 induction p with
 |wait q=>exact JEM rfl
 |step o g q k=>exact JEM rfl
 |thn a b ha hb=>simp only[Pl.d,PyData.eqv,PyData.eqvAll,ha,hb,Bool.and_true,beq_self_eq_true]
 |agn c a ha=>simp only[Pl.d,PyData.eqv,PyData.eqvAll,ha,Bool.and_true,beq_self_eq_true,decide_true]
theorem Pl.can:∀p:Pl,p.d.canLay0=true:=by
 intro p
 induction p with
 |wait q=>exact JFZ rfl
 |step o g q k=>exact JFZ rfl
 |thn a b ha hb =>
  have h:(PyData.str "then").canLay0=true:=by decide +kernel
  simp only[Pl.d,PyData.canLay0,PyData.canLayAll0,ha,hb,Bool.and_true,Bool.and_self]at h ⊢;exact h
 |agn c a ha =>
  have h:(PyData.str "again").canLay0=true:=by decide +kernel
  simp only[Pl.d,PyData.canLay0,PyData.canLayAll0,ha,Bool.and_true,Bool.and_self]at h ⊢;exact h
theorem Pl.depth:∀p:Pl,p.d.depth<=p.dep+4:=by
 intro p
 induction p with
 |wait q=>exact Nat.le_trans (JDM rfl) (by omega)
 |step o g q k=>exact Nat.le_trans (JDM rfl) (by omega)
 |thn a b ha hb=>simp only[Pl.d,PyData.depth,PyData.depthAll,Pl.dep];omega
 |agn c a ha=>simp only[Pl.d,PyData.depth,PyData.depthAll,Pl.dep];omega
section
variable{x:Bool}{sub:Nat->Nat->Bool}{m n:Nat}
end
end VI.VP
end
section
namespace VI.VP
open PySem Fr
theorem Pl.ne55(p:Pl)(h:p.dep<=5):cmpD .NotEq p.d p.d=.ok (.bool false):=by
 have hs:shaped p.d=true:=by
  unfold shaped;rw[q_i];exact⟨p.can,decide_eq_true (Nat.le_trans p.depth (by omega))⟩
 simp only[cmpD,hs,Bool.and_self,if_true,p.refl,Bool.not_true]
theorem JIt:∀ {ss:List Pl}{A:Nat}{h t:Rat},Sts ss->Tw A h->Tw A t->A+72*ss.length<1024->∀a∈mvs ss h t,Fit a
 | [],_,_,_,_,_,_,_=>λa ha=>by cases ha
 |s::r,A,h,t,hs,hh,ht,hl=>λa ha=>by
  obtain⟨o1,sm,ok⟩:=hs s (by simp)
  simp only[List.length_cons]at hl;have hok:=JLj (ss:=s::r) hs hh ht (by simp only[List.length_cons];omega) a ha
  simp only[mvs,List.mem_append]at ha;rcases ha with ha|ha
  ·cases s with
   |step o g q k =>
    simp only[Pl.mv,List.mem_singleton]at ha;subst ha;have z:Sz 5 q:=sm.2.sz;have z0:Sz 11 (0:Rat):=⟨by decide,by decide⟩
    exact⟨hok,hh.sz (by omega),(JDC (s:=.step o g q k) rfl sm hh).sz (by omega),(ht.sz (by omega)).mono (by omega),z.mono (by omega),z0,z0⟩
   |wait q=>cases ha
   |thn a b=>cases ha
   |agn c a=>cases ha
  ·exact JIt hs.tl (JDC o1 sm hh) (ht.add (Pl.Sm.q sm o1).tw) (by omega) a ha
theorem rab0{q:Rat}(h:rab q=0):q=0:=by
 unfold rab at h
 split at h<;>grind
theorem JP8(q:Rat):0<=rab q:=by
 unfold rab
 split<;>grind
theorem JEx:∀ {ss:List Pl}{h t:Rat},(∀s∈ss,s.one=true)->(∀a∈mvs ss h t,a.way=0)->∀a∈mvs ss h t,a.s=h/\a.g=h/\a.u=0/\a.v=0
 | [],_,_,_,_=>λa ha=>by cases ha
 |s::r,h,t,ho,hw=>λa ha=>by
  have o1:=ho s (by simp)
  have e:s.goal h=h:=by
   cases s with
   |step o g q k =>
    have:=rab0 (hw ⟨h,(Pl.step o g q k).goal h,t,q,some k,0,0⟩ (by simp[mvs,Pl.mv]))
    simp only at this
    grind
   |wait q=>rfl
   |thn a b=>cases o1
   |agn c a=>cases o1
  simp only[mvs,List.mem_append,e]at ha hw;rcases ha with ha|ha
  ·cases s with
   |step o g q k =>
    simp only[Pl.mv,List.mem_singleton]at ha;subst ha;exact⟨rfl,e,rfl,rfl⟩
   |wait q=>cases ha
   |thn a b=>cases ha
   |agn c a=>cases ha
  ·exact JEx (λs hs=>ho s (by simp[hs])) (λa ha=>hw a (.inr ha)) a ha
theorem JRY:∀ {qs:List Rat}{s:Rat},(∀q∈qs,0<=q)->s<=tt qs s
 | [],_,_=>Rat.le_refl
 |q::r,s,h=>by
  have h1:=h q (by simp)
  have h2:=JRY (qs:=r) (s:=s+q) λa ha=>h a (by simp[ha])
  simp only[tt]
  grind
theorem JQf:∀ {qs:List Rat}{s:Rat},0<=s->(∀q∈qs,0<=q)->tt qs s=0->∀q∈qs,q=0
 | [],_,_,_,_=>λq hq=>by cases hq
 |q::r,s,h0,h,e=>λa ha=>by
  have h1:=h q (by simp)
  have h2:=JRY (qs:=r) (s:=s+q) λa ha=>h a (by simp[ha])
  simp only[tt]at e;rcases q_n.mp ha with rfl|ha
  ·grind
  ·exact JQf (s:=s+q) (by grind) (λa ha=>h a (by simp[ha])) e a ha
theorem JIG:∀ {qs:List Rat},(∀q∈qs,q=0)->tt qs 0=0
 | [],_=>rfl
 |q::r,h=>by
  have:=h q (by simp)
  subst this;simp only[tt,Rat.add_zero];exact JIG λa ha=>h a (by simp[ha])
theorem tA_no{ms:List Mv}(hok:∀a∈ms,Fit a)(hn:nov ms=true)(h:∀a∈ms,a.s=0/\a.g=0/\a.u=0/\a.v=0):tA 0 ms=0:=by
 unfold tA;rw[JIG,JIG]
 ·exact Rat.add_zero 0
 ·intro q hq;obtain⟨p,hp,rfl⟩:=List.mem_map.mp hq;obtain⟨pre,a,c,r,e,ep,hl⟩:=JIE hp;subst ep;have:=JHj (w:=0) (pre:=pre) (r:=r) (a:=a) (c:=c) (λd hd=>(hok d (by rw[e];exact hd)).ok) (by rw[<-e];exact hn) hl
  unfold ra;rw[e,this,(h a (by rw[e];simp)).2.1]
  grind
 ·intro q hq;obtain⟨a,ha,rfl⟩:=List.mem_map.mp hq;obtain⟨h1,h2,h3,h4⟩:=h a ha;unfold Mv.ar ar;rw[h1,h2,h3,h4]
  grind
theorem JHT:∀(c:Nat) (ss:List Pl) (t:Rat),(cu ss t).take c=cu (ss.take c) t
 |0,_,_=>by simp[cu]
 |c+1,[],_=>by simp[cu]
 |c+1,s::r,t=>by simp only[cu,List.take_succ_cons,JHT c r]
theorem JJu(c:Nat)(ss:List Pl)(h t:Rat):(mvs ss h t).take (mvs (ss.take c) h t).length=mvs (ss.take c) h t:=by
 have e:=JH1 (ss.take c) (ss.drop c) h t;rw[List.take_append_drop]at e;rw[e,List.take_left'];rfl
theorem fs55(qs:List Rat):∀d∈qs.map F,d.canLay0=true/\d.depth<=4/\PyData.eqv d d=true:=by
 intro d hd;obtain⟨q,_,rfl⟩:=List.mem_map.mp hd;exact⟨JJF q,by rw[JCZ];decide,by rw[JGo];simp⟩
theorem JEV:∀ms:List Mv,JAf (ms.map Mv.d)=true
 | []=>rfl
 |a::r=>by
  have:JAI a.d=true:=rfl;simp only[List.map_cons,JAf,this,JEV r,Bool.and_self]
theorem JFn(w:Rat)(ms:List Mv):JAI (tr w ms)=true:=by
 have:JAI (F w)=true:=rfl;simp only[tr,JAI,JAf,this,JEV,Bool.and_self]
end VI.VP
end
section
namespace VI.VP
open PySem Fr
noncomputable def JMp:S:=(.unp [1,2] (.tup (.cons (.call 146 (.cons (.var 0) (.cons (.cint 100) (.cons (.cint 3) .nil)))) (.cons (.bin .Add (.cint 1) (.call 12 (.cons (.var 0) (.cons (.cint 0) (.cons (.cint 5) .nil))))) .nil))))
noncomputable def JNJ:S:=(.asg 3 (.call 147 (.cons (.var 1) .nil)))
noncomputable def JI6:S:=(.ife (.cmp .NotEq (.cmp .Eq (.var 4) (.cstr "no plan")) (.cmp .Eq (.var 3) (.lst .nil))) (.cons (.ret (.cbl false)) .nil) .nil)
noncomputable def JOe:S:=(.asg 5 (.idx (.xop .dtk (.cons (.var 3) (.cons (.var 2) .nil))) (.neg (.cint 1))))
noncomputable def JJo:S:=(.cons (.asg 5 (.tup (.cons (.cstr "then") (.cons (.var 6) (.cons (.var 5) .nil))))) .nil)
noncomputable def JNg:S:=(.for1 6 (.fn1 .rev (.fn1 (.slice none (some (-1))) (.xop .dtk (.cons (.var 3) (.cons (.var 2) .nil))))) (.cons (.asg 5 (.tup (.cons (.cstr "then") (.cons (.var 6) (.cons (.var 5) .nil))))) .nil))
noncomputable def JOl:S:=(.ife (.or (.cmp .NotEq (.var 4) (.var 5)) (.or (.isnB (.call 140 (.cons (.var 4) .nil)) true) (.cmp .NotEq (.call 143 (.cons (.var 4) .nil)) (.xop .dtk (.cons (.var 3) (.cons (.var 2) .nil)))))) (.cons (.ret (.cbl false)) .nil) .nil)
noncomputable def JMd:S:=(.unp [7,8] (.tup (.cons (.idx (.call 155 (.cons (.var 4) (.cons (.tup (.cons (.cint 3) (.cons (.cint 1) .nil))) (.cons (.tup (.cons (.cint 0) (.cons (.cint 1) .nil))) .nil)))) (.cint 1)) (.cons (.idx (.call 155 (.cons (.var 1) (.cons (.tup (.cons (.cint 3) (.cons (.cint 1) .nil))) (.cons (.tup (.cons (.cint 0) (.cons (.cint 1) .nil))) .nil)))) (.cint 1)) .nil))))
noncomputable def JNq:S:=(.ife (.or (.cmp .NotEq (.call 231 (.cons (.var 4) (.cons (.tup (.cons (.cint 1) (.cons (.cint 2) .nil))) .nil))) (.xop .dtk (.cons (.call 231 (.cons (.var 1) (.cons (.tup (.cons (.cint 1) (.cons (.cint 2) .nil))) .nil))) (.cons (.var 2) .nil)))) (.cmp .NotEq (.var 7) (.xop .dtk (.cons (.var 8) (.cons (.blt .len (.cons (.var 7) .nil)) .nil))))) (.cons (.ret (.cbl false)) .nil) .nil)
noncomputable def JNQ:S:=(.ife (.and (.cmp .Eq (.call 197 (.cons (.call 155 (.cons (.var 4) (.cons (.tup (.cons (.cint 0) (.cons (.cint 1) .nil))) (.cons (.tup (.cons (.cint 0) (.cons (.cint 1) .nil))) .nil)))) .nil)) (.tup (.cons (.cint 0) (.cons (.cint 1) .nil)))) (.cmp .NotEq (.call 193 (.cons (.call 155 (.cons (.var 4) (.cons (.tup (.cons (.cint 0) (.cons (.cint 1) .nil))) (.cons (.tup (.cons (.cint 0) (.cons (.cint 1) .nil))) .nil)))) .nil)) (.tup (.cons (.cint 0) (.cons (.cint 1) .nil))))) (.cons (.ret (.cbl false)) .nil) .nil)
noncomputable def JH2:S:=(.ife (.cmp .NotEq (.var 3) (.lst .nil)) (.cons JOe (.cons JNg (.cons JOl (.cons JMd (.cons JNq (.cons JNQ .nil)))))) .nil)
noncomputable def JPX:S:=(.asg 9 (.lst (.cons .cnon (.cons (.tup .nil) (.cons (.tup (.cons (.cstr "go") .nil)) (.cons (.tup (.cons (.cstr "wait") (.cons (.tup (.cons (.cint 0) (.cons (.cint 1) .nil))) .nil))) (.cons (.tup (.cons (.cstr "wait") (.cons (.tup (.cons (.cint 1) (.cons (.cint 0) .nil))) .nil))) (.cons (.tup (.cons (.cstr "then") (.cons (.tup (.cons (.cstr "wait") (.cons (.tup (.cons (.cint 1) (.cons (.cint 1) .nil))) .nil))) .nil))) .nil))))))))
noncomputable def JPu:S:=(.ext 9 (.lst (.cons (.tup (.cons (.cstr "again") (.cons (.cint 5) (.cons (.tup (.cons (.cstr "wait") (.cons (.tup (.cons (.cint 1) (.cons (.cint 1) .nil))) .nil))) .nil)))) (.cons (.cstr "wait") (.cons (.cint 5) .nil)))))
noncomputable def JNG:S:=(.asg 11 (.idx (.var 9) (.bin .Mod (.bin .Add (.call 12 (.cons (.var 0) (.cons (.cint 1) (.cons (.cint 9) .nil)))) (.bin .Mult (.cint 2) (.var 10))) (.cint 9))))
noncomputable def JNS:S:=(.ife (.cmp .NotEq (.var 12) (.bin .Mult (.lst (.cons (.cstr "no plan") .nil)) (.cint 4))) (.cons (.ret (.cbl false)) .nil) .nil)
noncomputable def JDG:S2:=(.cons (.st JNG) (.cons (.tll 12 (.call 231 (.cons (.var 11) (.cons (.tup (.cons (.cint 0) (.cons (.cint 1) .nil))) .nil)))) (.cons (.tla 12 (.call 232 (.cons (.var 11) (.cons (.tup (.cons (.cint 0) (.cons (.cint 1) .nil))) (.cons (.tup (.cons (.cint 0) (.cons (.cint 1) .nil))) .nil))))) (.cons (.tla 12 (.call 253 (.cons (.var 11) (.cons (.cint 1) .nil)))) (.cons (.tla 12 (.call 234 (.cons (.var 11) .nil))) (.cons (.st JNS) .nil))))))
noncomputable def JPF:S:=(.ret (.and (.cmp .Eq (.call 231 (.cons (.tup (.cons (.cstr "again") (.cons (.cint 0) (.cons (.tup (.cons (.cstr "wait") (.cons (.tup (.cons (.cint 1) (.cons (.cint 1) .nil))) .nil))) .nil)))) (.cons (.tup (.cons (.cint 0) (.cons (.cint 1) .nil))) .nil))) (.lst .nil)) (.cmp .Eq (.call 234 (.cons (.tup (.cons (.cstr "again") (.cons (.cint 0) (.cons (.tup (.cons (.cstr "wait") (.cons (.tup (.cons (.cint 1) (.cons (.cint 1) .nil))) .nil))) .nil)))) .nil)) (.lst .nil))))
noncomputable def JGp:S2:=(.cons (.st JMp) (.cons (.st JNJ) (.cons (.tld 4 (.call 253 (.cons (.var 1) (.cons (.var 2) .nil)))) (.cons (.st JI6) (.cons (.st JH2) (.cons (.st JPX) (.cons (.st JPu) (.cons (.for1 10 (.rng (.cons (.cint 3) .nil)) JDG) (.cons (.tne (.call 253 (.cons (.tup (.cons (.cstr "again") (.cons (.cint 0) (.cons (.tup (.cons (.cstr "wait") (.cons (.tup (.cons (.cint 1) (.cons (.cint 1) .nil))) .nil))) .nil)))) (.cons (.cint 3) .nil))) "no plan" (.cons (.st (.ret (.cbl false))) .nil)) (.cons (.st JPF) .nil))))))))))
theorem cnt55:JD5 (.list [.bool false,.bool false,.bool false,.bool false,.bool true,.bool false,.bool false,.bool false]) (.bool true)=.ok (.int 1):=by rfl
theorem ix55:JD0 (.list [.bool false,.bool false,.bool false,.bool false,.bool true,.bool false,.bool false,.bool false]) (.bool true)=.ok (.int 4):=by rfl
section
variable{sub:Nat->Nat->Bool}{n:Nat}{C:Cn}{ns:List Int}
theorem cls3(hC:C.sub=sub)(s:SubOk sub 3)(s8:sub 3 8=false):exec C d_254.body ([Sl.val (excD 3)]++List.replicate (d_254.slots - 1) Sl.no)=.rt (.str "no plan"):=by
 have w:idxD (.list [.str "no back",.str "no frac",.str "no kind",.str "no name",.str "no plan",.str "no text",.str "no time",.str "no track"]) (.int 4)=.ok (.str "no plan"):=rfl;have a1:binD .Add (.list [.bool false,.bool false,.bool false,.bool false]) (.list [.bool true,.bool false,.bool false])=.ok (.list [.bool false,.bool false,.bool false,.bool false,.bool true,.bool false,.bool false]):=by simp only[binD];rfl
 have a2:binD .Add (.list [.bool false,.bool false,.bool false,.bool false,.bool true,.bool false,.bool false]) (.list [.bool false])=.ok (.list [.bool false,.bool false,.bool false,.bool false,.bool true,.bool false,.bool false,.bool false]):=by simp only[binD];rfl
 subst hC;show exec C JNK [.val (excD 3),.no]=_
 dsimp![JNK,a1,a2,JAY,JBf,JAW,Bool.or_true,Bool.true_or,Bool.not_false,Bool.and_self,Bool.true_and,JOY s.me,JMb s.me,s8,s.h1,s.h2,s.h3,s.h4,s.h5,s.h6,s.h7,Nat.reduceEqDiff,decide_true,decide_false,JAS,JD6,JDm,JCh,JPH,JPJ,JQE,JEE,JHJ,JL8,JRm,JNO,JF9,us_bl,JPL,List.length_cons,List.length_nil,Nat.reduceAdd,Nat.reduceLeDiff,Nat.reduceBEq,Bool.or_false,Bool.not_true,cnt55,ix55,JAI,JAf,w]
theorem JPN(hC:C.sub=sub)(s:SubOk sub 3)(s8:sub 3 8=false):JAz C 0 d_254 (.exc 3)=.ok (.str "no plan"):=by
 unfold JAz;simp only[hC,s.h0,if_true,cls3 hC s s8]
theorem sq2{cg:Nat}{fd:Fd}{a r:S2}{δ δ':Env}(h:JAT C cg fd a δ=.nx δ'):JAT C cg fd (.cons a r) δ=JAT C cg fd r δ':=by
 rw[JAT,h]
theorem sqR{cg:Nat}{d:D}(h:JAT C cg fd a δ=.rt d):JAT C cg fd (.cons a r) δ=.rt d:=by
 rw[JAT,h]
theorem e_st{cg:Nat}{fd:Fd}{s:S}{δ:Env}:JAT C cg fd (.st s) δ=exec C s δ:=by rw[JAT]
theorem aft{e:E}{w:D}(hn:JAI w=true):after e w δ=δ:=by
 unfold after;rw[hn];simp
theorem JRk{cg i:Nat}{fd:Fd}{e:E}{δ:Env}{w:D}(T:JAz C cg fd (ev C e δ)=.ok w)(hn:JAI w=true):JAT C cg fd (.tld i e) δ=.nx (δ.set i (.val w)):=by
 rw[JAT,T];show Fl.nx _=_;rw[aft hn]
theorem x_tll{cg i:Nat}{e:E}{w:D}(T:JAz C cg fd (ev C e δ)=.ok w)(hn:JAI w=true):JAT C cg fd (.tll i e) δ=.nx (δ.set i (.own (.list [w]))):=by
 rw[JAT,T];show Fl.nx _=_;rw[aft hn]
theorem JN8{cg i:Nat}{e:E}{w:D}(hδ:δ[i]? = some (.own (.list ds)))(T:JAz C cg fd (ev C e δ)=.ok w)(hn:JAI w=true)(hl:ds.length<1000):JAT C cg fd (.tla i e) δ=.nx (δ.set i (.own (.list (ds++[w])))):=by
 rw[JAT,hδ];show stepR (JAz C cg fd (ev C e δ)) _=_;rw[T];show JAk i ds e w δ=_;unfold JAk;rw[if_pos (by omega),hn]
 simp
noncomputable def four:List D:=[.str "no plan",.str "no plan",.str "no plan",.str "no plan"]
theorem JKh:binD .Mult (.list [.str "no plan"]) (.int 4)=.ok (.list four):=by
 simp only[binD];rw[if_pos (by simp)]
 rfl
theorem JH4{d:D}(h:shaped d=true)(e:PyData.eqv d d=true):cmpD .NotEq d d=.ok (.bool false):=by
 simp only[cmpD,h,Bool.and_self,if_true,e];rfl
theorem JOX:cmpD .NotEq (.list four) (.list four)=.ok (.bool false):=by
 unfold four;exact JH4 (by decide +kernel) (by decide +kernel)
theorem JJW:∀d∈odd55,JAI d=true:=by
 intro d hd;simp only[odd55,q_n,List.not_mem_nil,or_false]at hd;rcases hd with rfl|rfl|rfl|rfl|rfl|rfl|rfl|rfl|rfl<;>rfl
section
variable{y1 y2 y3 y4 y5 y6 y7 y8 y9 y10 y11 y12:Sl}
theorem asg55{d:D}{k i j:Int}(hk:0<=k/\k<3)(fn12:C.fn 12 [sc ns,.int 1,.int 9]=.ok (.int i))(hj:(i+2*k).fmod 9=j)(hd:idxD (.list odd55) (.int j)=.ok d)(nl:JAI d=true)(h9:y9=.own (.list odd55)\/y9=.val (.list odd55)) :
  exec C JNG [.val (sc ns),y1,y2,y3,y4,y5,y6,y7,y8,y9,.val (.int k),y11,y12]=.nx [.val (sc ns),y1,y2,y3,y4,y5,y6,y7,y8,y9,.val (.int k),.val d,y12]:=by
 have bm:binD .Mult (.int 2) (.int k)=.ok (.int (2*k)):=JCm (L.of (k:=10) (by omega) (by omega)) (L.of (k:=10) (by omega) (by omega))
 have bd:binD .Mod (.int (i+2*k)) (.int 9)=.ok (.int j):=by rw[JFC (by decide),hj]
 have e1:ev C (.idx (.var 9) (.bin .Mod (.bin .Add (.call 12 (.cons (.var 0) (.cons (.cint 1) (.cons (.cint 9) .nil)))) (.bin .Mult (.cint 2) (.var 10))) (.cint 9))) [.val (sc ns),y1,y2,y3,y4,y5,y6,y7,y8,y9,.val (.int k),y11,y12]=.ok d:=by
  rcases h9 with rfl|rfl<;>simp only[ev,evA,look,List.getElem?_cons_zero,List.getElem?_cons_succ,Sl.get,R.bind,fn12,bm,bd,hd,JNM]
 unfold JNG;rw[exec,e1];show Fl.nx _=_;rw[aft nl];rfl
theorem JP2{d:D}{k i j:Int}(T:JAz C 0 d_254 (.exc 3)=.ok (.str "no plan"))(fx:C.fn 231 [d,.tuple [.int 0,.int 1]]=.exc 3/\C.fn 232 [d,.tuple [.int 0,.int 1],.tuple [.int 0,.int 1]]=.exc 3/\C.fn 253 [d,.int 1]=.exc 3/\C.fn 234 [d]=.exc 3)
  (hk:0<=k/\k<3) (fn12:C.fn 12 [sc ns,.int 1,.int 9]=.ok (.int i)) (hj:(i+2*k).fmod 9=j) (hd:idxD (.list odd55) (.int j)=.ok d) (nl:JAI d=true) (h9:y9=.own (.list odd55)\/y9=.val (.list odd55)) :
  JAT C 0 d_254 JDG [.val (sc ns),y1,y2,y3,y4,y5,y6,y7,y8,y9,.val (.int k),y11,y12]=.nx [.val (sc ns),y1,y2,y3,y4,y5,y6,y7,y8,y9,.val (.int k),.val d,.own (.list four)]:=by
 have e1:=asg55 (C:=C) (ns:=ns) (y1:=y1) (y2:=y2) (y3:=y3) (y4:=y4) (y5:=y5) (y6:=y6) (y7:=y7) (y8:=y8) (y11:=y11) (y12:=y12) hk fn12 hj hd nl h9;have np:JAI (PyData.str "no plan":D)=true:=rfl;have t1:∀y12:Sl,JAz C 0 d_254 (ev C (.call 231 (.cons (.var 11) (.cons (.tup (.cons (.cint 0) (.cons (.cint 1) .nil))) .nil))) [.val (sc ns),y1,y2,y3,y4,y5,y6,y7,y8,y9,.val (.int k),.val d,y12])=.ok (.str "no plan"):=λy12=>by
  simp only[ev,evA,look,List.getElem?_cons_zero,List.getElem?_cons_succ,Sl.get,R.bind,fx.1,T]
 have t2:∀y12:Sl,JAz C 0 d_254 (ev C (.call 232 (.cons (.var 11) (.cons (.tup (.cons (.cint 0) (.cons (.cint 1) .nil))) (.cons (.tup (.cons (.cint 0) (.cons (.cint 1) .nil))) .nil)))) [.val (sc ns),y1,y2,y3,y4,y5,y6,y7,y8,y9,.val (.int k),.val d,y12])=.ok (.str "no plan"):=λy12=>by
  simp only[ev,evA,look,List.getElem?_cons_zero,List.getElem?_cons_succ,Sl.get,R.bind,fx.2.1,T]
 have t3:∀y12:Sl,JAz C 0 d_254 (ev C (.call 253 (.cons (.var 11) (.cons (.cint 1) .nil))) [.val (sc ns),y1,y2,y3,y4,y5,y6,y7,y8,y9,.val (.int k),.val d,y12])=.ok (.str "no plan"):=λy12=>by
  simp only[ev,evA,look,List.getElem?_cons_zero,List.getElem?_cons_succ,Sl.get,R.bind,fx.2.2.1,T]
 have t4:∀y12:Sl,JAz C 0 d_254 (ev C (.call 234 (.cons (.var 11) .nil)) [.val (sc ns),y1,y2,y3,y4,y5,y6,y7,y8,y9,.val (.int k),.val d,y12])=.ok (.str "no plan"):=λy12=>by
  simp only[ev,evA,look,List.getElem?_cons_zero,List.getElem?_cons_succ,Sl.get,R.bind,fx.2.2.2,T]
 unfold JDG;refine(sq2 (by rw[e_st];exact e1)).trans ?_
 refine(sq2 (x_tll (t1 _) np)).trans ?_;refine(sq2 (JN8 rfl (t2 _) np (by simp))).trans ?_
 refine(sq2 (JN8 rfl (t3 _) np (by simp))).trans ?_
 refine(sq2 (JN8 rfl (t4 _) np (by simp))).trans ?_
 refine(sq2 (δ':=[.val (sc ns),y1,y2,y3,y4,y5,y6,y7,y8,y9,.val (.int k),.val d,.own (.list four)]) ?_).trans (by rw[JAT])
 rw[e_st];show exec C JNS [.val (sc ns),y1,y2,y3,y4,y5,y6,y7,y8,y9,.val (.int k),.val d,.own (.list four)]=_;have c1:evT C (.cmp .NotEq (.var 12) (.bin .Mult (.lst (.cons (.cstr "no plan") .nil)) (.cint 4))) [.val (sc ns),y1,y2,y3,y4,y5,y6,y7,y8,y9,.val (.int k),.val d,.own (.list four)]=.ok false:=by
  simp only[evT,ev,evA,look,List.getElem?_cons_zero,List.getElem?_cons_succ,Sl.get,R.bind,JKh,JOX,truth]
 unfold JNS;rw[exec,c1];show exec C .nil _=_;rw[exec]
theorem JLc{i:Int}(T:JAz C 0 d_254 (.exc 3)=.ok (.str "no plan"))(fx:∀d∈odd55,C.fn 231 [d,.tuple [.int 0,.int 1]]=.exc 3/\C.fn 232 [d,.tuple [.int 0,.int 1],.tuple [.int 0,.int 1]]=.exc 3/\C.fn 253 [d,.int 1]=.exc 3/\C.fn 234 [d]=.exc 3)
  (fn12:C.fn 12 [sc ns,.int 1,.int 9]=.ok (.int i)) (h9:y9=.own (.list odd55)\/y9=.val (.list odd55)):∀ks:List Int,(∀k∈ks,0<=k/\k<3)->∀y10 y11 y12:Sl,
  ∃z10 z11 z12,forL (put1 10) (JAT C 0 d_254 JDG) (ks.map PyData.int) [.val (sc ns),y1,y2,y3,y4,y5,y6,y7,y8,y9,y10,y11,y12]=.nx [.val (sc ns),y1,y2,y3,y4,y5,y6,y7,y8,y9,z10,z11,z12]
 | [],_,y10,y11,y12=>⟨y10,y11,y12,rfl⟩
 |k::ks,hk,y10,y11,y12=>by
  have b:=hk k (by simp)
  have j0:0<=(i+2*k).fmod 9:=Int.fmod_nonneg_of_pos _ (by decide)
  have j1:(i+2*k).fmod 9<9:=Int.fmod_lt_of_pos _ (by decide)
  obtain⟨d,hd,ed⟩:=JJz _ j0 j1;have e:=JP2 (C:=C) (ns:=ns) (y1:=y1) (y2:=y2) (y3:=y3) (y4:=y4) (y5:=y5) (y6:=y6) (y7:=y7) (y8:=y8) (y11:=y11) (y12:=y12) T (fx d hd) b fn12 rfl ed (JJW d hd) h9;obtain⟨z10,z11,z12,f⟩:=JLc T fx fn12 h9 ks (λq hq=>hk q (by simp[hq])) (.val (.int k)) (.val d) (.own (.list four))
  refine⟨z10,z11,z12,?_⟩;rw[List.map_cons,forL];show(match JAT C 0 d_254 JDG [.val (sc ns),y1,y2,y3,y4,y5,y6,y7,y8,y9,.val (.int k),y11,y12] with
    |.nx δ'=>forL (put1 10) (JAT C 0 d_254 JDG) (ks.map PyData.int) δ'
    |.ct δ'=>forL (put1 10) (JAT C 0 d_254 JDG) (ks.map PyData.int) δ'
    |.bk δ'=>.nx δ'
    |r=>r)=_
  rw[e];exact f
end
end
end VI.VP
end
section
namespace VI.VP
open PySem Fr
noncomputable def z0:D:=.tuple [.int 0,.int 1]
noncomputable def z3:D:=.tuple [.int 3,.int 1]
noncomputable def zh:D:=.tuple [.int 1,.int 2]
section
variable{sub:Nat->Nat->Bool}{n:Nat}{C:Cn}{ns:List Int}
theorem loopT{l:List Pl}{z:Pl}{y1 y2 y3 y4 y7 y8 y9 y10 y11 y12:Sl}{S:D}:∃y6,Vs y6/\for2 C 6 JJo (l.reverse.map Pl.d) [.val S,y1,y2,y3,y4,.val z.d,.no,y7,y8,y9,y10,y11,y12]=.nx [.val S,y1,y2,y3,y4,.val (chn z l).d,y6,y7,y8,y9,y10,y11,y12]:=by
 obtain⟨δ',lp,r,k,y6,er,ek,v6,eδ⟩:=JBh (C:=C) (i:=6) (b:=JJo)
  (Inv:=λes δ=>∃(r:List Pl) (k:Pl) (y6:Sl),es=r.map Pl.d/\chn k r.reverse=chn z l/\Vs y6/\δ=[.val S,y1,y2,y3,y4,.val k.d,y6,y7,y8,y9,y10,y11,y12])
  (λd es δ ⟨r,k,y6,er,ek,v6,e⟩=>by
    subst e;cases r with
    |nil=>cases er
    |cons a r =>
     simp only[List.map_cons,List.cons.injEq]at er;obtain⟨rfl,rfl⟩:=er;refine⟨[.val S,y1,y2,y3,y4,.val (Pl.thn a k).d,.val a.d,y7,y8,y9,y10,y11,y12],.inl ?_,r,.thn a k,.val a.d,rfl,by rw[<-ek,List.reverse_cons,JEG],rfl,rfl⟩
     have na:=a.no55;have nk:=k.no55;simp only[Pl.d];generalize a.d=ad at *;generalize k.d=kd at *
     dsimp?! [JJo,na,nk,JAI,JAf,Bool.and_self,Bool.not_true,Bool.and_false,v6.own])
  (ds:=l.reverse.map Pl.d) (δ:=[.val S,y1,y2,y3,y4,.val z.d,.no,y7,y8,y9,y10,y11,y12])
  ⟨l.reverse,z,.no,rfl,by rw[List.reverse_reverse],rfl,rfl⟩
 subst eδ;cases r with
 |cons q r=>cases er
 |nil =>
  have ek:k=chn z l:=ek;rw[<-ek];exact⟨y6,v6,lp⟩
theorem row55{P K z:Pl}{l ss:List Pl}{c:Nat}{m1 m2:List Mv}{T0:D}{c1 c2:List Rat}{tv:Rat}(hK:K=chn z l)(hd:K.dep<=5)(ho:∀s∈l++[z],s.one=true)(e:ss.take c=l++[z])(hne:cmpD .NotEq (.list (ss.map Pl.d)) (.list [])=.ok (.bool true))
  (f140:C.fn 140 [K.d]=.ok (.bool true)) (f143:C.fn 143 [K.d]=.ok (.list ((l++[z]).map Pl.d))) (p1:C.fn 155 [K.d,z3,z0]=.ok (tr 3 m1)) (p2:C.fn 155 [P.d,z3,z0]=.ok (tr 3 m2)) (em:m2.take m1.length=m1)
  (q1:C.fn 231 [K.d,zh]=.ok (.list (c1.map F))) (q2:C.fn 231 [P.d,zh]=.ok (.list (c2.map F))) (ec:c2.take c=c1) (p3:C.fn 155 [K.d,z0,z0]=.ok T0) (nT:JAI T0=true) (f197:C.fn 197 [T0]=.ok (F tv)) (f193:tv=0->C.fn 193 [T0]=.ok (F 0)) :
  ∃y6,Vs y6/\exec C JH2 [.val (sc ns),.val P.d,.val (.int (c:Nat)),.val (.list (ss.map Pl.d)),.val K.d,.no,.no,.no,.no,.no,.no,.no,.no]=.nx [.val (sc ns),.val P.d,.val (.int (c:Nat)),.val (.list (ss.map Pl.d)),.val K.d,.val K.d,y6,.val (.tuple (m1.map Mv.d)),.val (.tuple (m2.map Mv.d)),.no,.no,.no,.no]:=by
 have k1:xD .dtk [.list (ss.map Pl.d),.int (c:Nat)]=.ok (.list ((l++[z]).map Pl.d)):=by rw[JMi,<-List.map_take,e]
 have k2:idxD (.list ((l++[z]).map Pl.d)) (.int (-1))=.ok z.d:=by rw[List.map_append];exact JKs
 have k3:op1D (.slice none (some (-1))) (.list ((l++[z]).map Pl.d))=.ok (.list (l.map Pl.d)):=by rw[List.map_append];exact JQX
 have k4:op1D .rev (.list (l.map Pl.d))=.ok (.list (l.reverse.map Pl.d)):=by rw[List.map_reverse];rfl
 have k5:JAc (.list (l.reverse.map Pl.d))=.ok (l.reverse.map Pl.d):=rfl;have k6:=Pl.ne55 K hd;have k7:=JOV ho;have k8:idxD (tr 3 m1) (.int 1)=.ok (.tuple (m1.map Mv.d)):=rfl;have k9:idxD (tr 3 m2) (.int 1)=.ok (.tuple (m2.map Mv.d)):=rfl;have k10:xD .dtk [.list (c2.map F),.int (c:Nat)]=.ok (.list (c1.map F)):=by rw[JMi,<-List.map_take,ec]
 have k11:=gl_ne (fs55 c1);have k12:bltD .len [.tuple (m1.map Mv.d)]=.ok (.int (m1.length:Nat)):=by simp only[bltD,q_g]
 have k13:xD .dtk [.tuple (m2.map Mv.d),.int (m1.length:Nat)]=.ok (.tuple (m1.map Mv.d)):=by rw[dtk_t,<-List.map_take,em]
 have k14:cmpD .NotEq (.tuple (m1.map Mv.d)) (.tuple (m1.map Mv.d))=.ok (.bool false):=by
  simp only[cmpD,JRN,Bool.and_self,if_true,PyData.eqv,JI5,Bool.not_true]
 have k15:cmpD .Eq (F tv) (.tuple [.int 0,.int 1])=.ok (.bool (decide (tv=0))):=by rw[<-F_eq];rfl
 have k16:cmpD .NotEq (F 0) (.tuple [.int 0,.int 1])=.ok (.bool false):=JH4 (d:=F 0) (by decide +kernel) (by decide +kernel)
 obtain⟨y6,v6,lp⟩:=loopT (C:=C) (l:=l) (z:=z) (S:=sc ns) (y1:=.val P.d) (y2:=.val (.int (c:Nat))) (y3:=.val (.list (ss.map Pl.d))) (y4:=.val K.d) (y7:=.no) (y8:=.no) (y9:=.no) (y10:=.no) (y11:=.no) (y12:=.no);rw[<-hK]at lp;refine⟨y6,v6,?_⟩;have nz:=z.no55;have nK:=K.no55;have nP:=P.no55;have i1:(true==true)=true:=rfl;have up:∀a b:D,JAq ([7,8]:List Nat).length (.tuple [a,b])=.ok [a,b]:=λ_ _=>rfl;simp only[JJo]at lp;clear e em ec hK ho hd;unfold z0 z3 zh at *;generalize c1.map F=d1 at *;generalize c2.map F=d2 at *;have n1:=JEV m1;have n2:=JEV m2;have n3:JAI (tr 3 m1)=true:=JFn 3 m1;have n4:JAI (tr 3 m2)=true:=JFn 3 m2;generalize tr 3 m1=t1 at *;generalize tr 3 m2=t2 at *;generalize (m1.length:Nat)=ml at *;generalize m1.map Mv.d=e1 at *;generalize m2.map Mv.d=e2 at *;generalize (l++[z]).map Pl.d=lz at *;generalize l.reverse.map Pl.d=lr at *;generalize l.map Pl.d=ll at *;generalize ss.map Pl.d=sd at *;generalize K.d=kd at *;generalize P.d=pd at *;generalize z.d=zd at *
 by_cases h0:tv=0
 ·have f193:=f193 h0;have k15:cmpD .Eq (F tv) (.tuple [.int 0,.int 1])=.ok (.bool true):=by rw[k15,decide_eq_true h0]
  dsimp?! [JH2,JOe,JNg,JOl,JMd,JNq,JNQ,hne,k1,k2,k3,k4,k5,k6,k7,k8,k9,k10,k11,k12,k13,k14,k15,k16,f140,f143,p1,p2,p3,q1,q2,f197,f193,lp,nz,nK,nP,i1,up,JBW,JAI,n1,n2,n3,n4,nT,JAY,JAm,JAW,v6.own,Int.reduceNeg,Bool.and_self,Bool.not_true,Bool.and_false]
 ·have k15:cmpD .Eq (F tv) (.tuple [.int 0,.int 1])=.ok (.bool false):=by rw[k15,q_o h0]
  dsimp?! [JH2,JOe,JNg,JOl,JMd,JNq,JNQ,hne,k1,k2,k3,k4,k5,k6,k7,k8,k9,k10,k11,k12,k13,k14,k15,k16,f140,f143,p1,p2,p3,q1,q2,f197,lp,nz,nK,nP,i1,up,JBW,JAI,n1,n2,n3,n4,nT,JAY,JAm,JAW,v6.own,Int.reduceNeg,Bool.and_self,Bool.not_true,Bool.and_false]
end
end VI.VP
end
section
namespace VI.VP
open PySem Fr
theorem Pl.eq55(p:Pl)(h:p.dep<=5):cmpD .Eq p.d (.str "no plan")=.ok (.bool false):=by
 have hs:shaped p.d=true:=by
  unfold shaped;rw[q_i];exact⟨p.can,decide_eq_true (Nat.le_trans p.depth (by omega))⟩
 have h2:shaped (.str "no plan")=true:=by decide +kernel
 have h3:PyData.eqv p.d (.str "no plan")=false:=by cases p<;>rfl
 simp only[cmpD,hs,h2,Bool.and_self,if_true,h3]
theorem np55:cmpD .Eq (.str "no plan") (.str "no plan")=.ok (.bool true):=JA6 (by decide +kernel) (by decide +kernel) (by decide +kernel)
theorem nil55{ss:List Pl}(h:∀s∈ss,s.one=true):cmpD .Eq (.list (ss.map Pl.d)) (.list [])=.ok (.bool ss.isEmpty)/\cmpD .NotEq (.list (ss.map Pl.d)) (.list [])=.ok (.bool (!ss.isEmpty)):=by
 have hs:shaped (.list (ss.map Pl.d))=true:=by
  have:=JCj ss h;unfold shaped;rw[q_i];refine⟨by simp only[PyData.canLay0,JEB ss h],decide_eq_true ?_⟩
  simp only[PyData.depth];omega
 have h2:shaped (.list [])=true:=by decide +kernel
 have h3:PyData.eqv (.list (ss.map Pl.d)) (.list [])=ss.isEmpty:=by cases ss<;>simp[PyData.eqv,PyData.eqvAll]
 simp only[cmpD,hs,h2,Bool.and_self,if_true,h3,and_self]
noncomputable def p55:Pl:=.agn 0 (.wait 1)
theorem JPR:p55.d=.tuple [.str "again",.int 0,w55]:=rfl
section
variable{sub:Nat->Nat->Bool}{n:Nat}{C:Cn}{ns:List Int}
theorem JQ1{y1 y2 y3 y4 y5 y6 y7 y8:Sl}{i:Int}(hy:Vs y1/\Vs y2/\Vs y3/\Vs y4/\Vs y5/\Vs y6/\Vs y7/\Vs y8)(T:JAz C 0 d_254 (.exc 3)=.ok (.str "no plan"))(fx:∀d∈odd55,C.fn 231 [d,.tuple [.int 0,.int 1]]=.exc 3/\C.fn 232 [d,.tuple [.int 0,.int 1],.tuple [.int 0,.int 1]]=.exc 3/\C.fn 253 [d,.int 1]=.exc 3/\C.fn 234 [d]=.exc 3)
  (fn12:C.fn 12 [sc ns,.int 1,.int 9]=.ok (.int i)) (g1:C.fn 253 [p55.d,.int 3]=.exc 3) (g2:C.fn 231 [p55.d,.tuple [.int 0,.int 1]]=.ok (.list [])) (g3:C.fn 234 [p55.d]=.ok (.list [])) :
  JAT C 0 d_254 (match JGp with|.cons _ (.cons _ (.cons _ (.cons _ (.cons _ r))))=>r|_=>.nil) [.val (sc ns),y1,y2,y3,y4,y5,y6,y7,y8,.no,.no,.no,.no]=.rt (.bool true):=by
 obtain⟨v1,v2,v3,v4,v5,v6,v7,v8⟩:=hy;unfold JGp;simp only[];refine(sq2 (δ':=[.val (sc ns),y1,y2,y3,y4,y5,y6,y7,y8,.own (.list (odd55.take 6)),.no,.no,.no]) ?_).trans ?_
 ·rw[e_st];unfold JPX;rw[exec];simp only[ev,evA,R.bind];rfl
 refine(sq2 (δ':=[.val (sc ns),y1,y2,y3,y4,y5,y6,y7,y8,.own (.list odd55),.no,.no,.no]) ?_).trans ?_
 ·rw[e_st];unfold JPu;rw[exec];simp only[ev,evA,R.bind,List.getElem?_cons_zero,List.getElem?_cons_succ,stepR];exact JQF (ds:=odd55.take 6) (zs:=odd55.drop 6) (by simp[odd55]) rfl
 obtain⟨z10,z11,z12,lp⟩:=JLc (C:=C) (ns:=ns) (y1:=y1) (y2:=y2) (y3:=y3) (y4:=y4) (y5:=y5) (y6:=y6) (y7:=y7) (y8:=y8) (y9:=.own (.list odd55)) T fx fn12 (.inl rfl) [0,1,2] (by decide) .no .no .no
 refine(sq2 (δ':=[.val (sc ns),y1,y2,y3,y4,y5,y6,y7,y8,.own (.list odd55),z10,z11,z12]) ?_).trans ?_
 ·rw[JAT];have rg:evI C (.rng (.cons (.cint 3) .nil)) [.val (sc ns),y1,y2,y3,y4,y5,y6,y7,y8,.own (.list odd55),.no,.no,.no]=.ok ([0,1,2].map PyData.int):=rfl;rw[rg];exact lp
 refine(sq2 (δ':=[.val (sc ns),y1,y2,y3,y4,y5,y6,y7,y8,.own (.list odd55),z10,z11,z12]) ?_).trans ?_
 ·rw[JAT];unfold tneF;have ee:ev C (.call 253 (.cons (.tup (.cons (.cstr "again") (.cons (.cint 0) (.cons (.tup (.cons (.cstr "wait") (.cons (.tup (.cons (.cint 1) (.cons (.cint 1) .nil))) .nil))) .nil)))) (.cons (.cint 3) .nil))) [.val (sc ns),y1,y2,y3,y4,y5,y6,y7,y8,.own (.list odd55),z10,z11,z12]=.exc 3:=by
    rw[JPR]at g1;unfold w55 at g1;simp only[ev,evA,R.bind,g1]
  have ne:cmpD .NotEq (.str "no plan") (.str "no plan")=.ok (.bool false):=JH4 (by decide +kernel) (by decide +kernel)
  rw[ee,T];simp only[stepR,ne];rw[aft rfl]
 refine sqR ?_;have c0:cmpD .Eq (.list []) (.list [])=.ok (.bool true):=by rfl
 rw[JPR]at g2 g3;unfold w55 at g2 g3;rw[e_st];unfold JPF;rw[exec];simp only[ev,evT,evA,R.bind,g2,g3,c0,truth]
 try rfl
theorem JJV(s:SubOk sub 3)(s8:sub 3 8=false)(ns:List Int):JAT ⟨run true tabA gloA sub (n+14),gloA,sub⟩ 0 d_254 JGp ([Sl.val (.list (ns.map λi=>PyData.int i))]++List.replicate 12 Sl.no)=.rt (.bool true):=by
 obtain⟨p,ok,sm,hd,hp⟩:=JGb (x:=true) (sub:=sub) ns 3 (m:=n+14) 100 (by omega) (by omega) (by omega) (by decide) (by omega)
 have hp:run true tabA gloA sub (n+14) 146 [sc ns,.int 100,.int 3]=.ok p.d:=hp;obtain⟨i,i0,i1,ei⟩:=JEa (x:=true) (sub:=sub) (m:=n+14) ns 1 9 (by omega) (by omega) (by omega) (by omega)
 obtain⟨c',c0,c1,ec⟩:=JEa (x:=true) (sub:=sub) (m:=n+14) ns 0 5 (by omega) (by omega) (by omega) (by omega)
 obtain⟨c,hc1,hc5,ecc⟩:∃c:Nat,1<=c/\c<=5/\1+c'=(c:Nat):=⟨(1+c').toNat,by omega,by omega,by omega⟩
 have lp:=JMl (x:=true) (sub:=sub) p (m:=n+14) ok (by omega) (by omega)
 have hpl:p.steps.length<=64:=Nat.le_trans (JGN p ok) (Nat.le_trans (Nat.pow_le_pow_right (by decide) hd) (by decide))
 obtain⟨C,hC⟩:∃C:Cn,C=⟨run true tabA gloA sub (n+14),gloA,sub⟩:=⟨_,rfl⟩;have fn:C.fn=run true tabA gloA sub (n+14):=by rw[hC]
 have fs:C.sub=sub:=by rw[hC]
 rw[<-hC];have T:=JPN (C:=C) fs s s8;have fx:∀d∈odd55,C.fn 231 [d,.tuple [.int 0,.int 1]]=.exc 3/\C.fn 232 [d,.tuple [.int 0,.int 1],.tuple [.int 0,.int 1]]=.exc 3/\C.fn 253 [d,.int 1]=.exc 3/\C.fn 234 [d]=.exc 3:=λd hd=>by rw[fn];exact JHN (by omega) d hd
 have f12:C.fn 12 [sc ns,.int 1,.int 9]=.ok (.int i):=by rw[fn];exact ei
 have t0:Tw 0 (0:Rat):=⟨0,q_t 0,by rw[Rat.zero_divInt]⟩
 have pok:p55.Ok:=⟨by omega,show(0:Rat)<1 by decide⟩
 have g1:C.fn 253 [p55.d,.int 3]=.exc 3:=by rw[fn];exact JGf (p:=p55) pok (by decide) rfl (by omega)
 have g2:C.fn 231 [p55.d,.tuple [.int 0,.int 1]]=.ok (.list []):=by
  rw[fn];exact JMH (p:=p55) (t:=0) pok (by decide) (by decide) (λs hs=>by cases hs) (λa b e=>by
   have e:[]=a++b:=e;cases a with
   |nil=>exact⟨by decide,by decide⟩
   |cons q r=>cases e) (by omega)
 have g3:C.fn 234 [p55.d]=.ok (.list []):=by rw[fn];exact JPl (p:=p55) pok (by decide) rfl (by omega)
 have one:=JDX p;obtain⟨n1,n2⟩:=nil55 one;have S1:Sts p.steps:=Sts.of ok sm;have r0:exec C JMp [.val (sc ns),.no,.no,.no,.no,.no,.no,.no,.no,.no,.no,.no,.no]=.nx [.val (sc ns),.val p.d,.val (.int (c:Nat)),.no,.no,.no,.no,.no,.no,.no,.no,.no,.no]:=by
  have up:∀a b:D,JAq ([1,2]:List Nat).length (.tuple [a,b])=.ok [a,b]:=λ_ _=>rfl;have np:=p.no55;generalize p.d=pd at *
  dsimp?! [JMp,fn,hp,ec,ecc,up,JBW,np,JAI]
 have r1:exec C JNJ [.val (sc ns),.val p.d,.val (.int (c:Nat)),.no,.no,.no,.no,.no,.no,.no,.no,.no,.no]=.nx [.val (sc ns),.val p.d,.val (.int (c:Nat)),.val (.list (p.steps.map Pl.d)),.no,.no,.no,.no,.no,.no,.no,.no,.no]:=by
  generalize p.steps.map Pl.d=sd at *;generalize p.d=pd at *
  dsimp?! [JNJ,fn,lp]
 show JAT C 0 d_254 JGp [.val (sc ns),.no,.no,.no,.no,.no,.no,.no,.no,.no,.no,.no,.no]=_;unfold JGp;refine(sq2 (by rw[e_st];exact r0)).trans ?_
 refine(sq2 (by rw[e_st];exact r1)).trans ?_
 by_cases hs:p.steps=[]
 ·have f1:C.fn 253 [p.d,.int (c:Nat)]=.exc 3:=by rw[fn];exact JGf ok (by omega) hs (by omega)
  rw[hs]at n1 n2 ⊢;refine(sq2 (JRk (w:=.str "no plan") (by simp only[ev,evA,look,List.getElem?_cons_zero,List.getElem?_cons_succ,Sl.get,R.bind,f1,T]) rfl)).trans ?_
  have bb:cmpD .NotEq (.bool true) (.bool true)=.ok (.bool false):=by rfl
  have n1:cmpD .Eq (.list (([]:List Pl).map Pl.d)) (.list [])=.ok (.bool true):=n1;have n2:cmpD .NotEq (.list (([]:List Pl).map Pl.d)) (.list [])=.ok (.bool false):=n2;have np:=np55;clear hs S1 one lp;refine(sq2 (δ':=[.val (sc ns),.val p.d,.val (.int (c:Nat)),.val (.list (([]:List Pl).map Pl.d)),.val (.str "no plan"),.no,.no,.no,.no,.no,.no,.no,.no]) ?_).trans ?_
  ·rw[e_st];show exec C JI6 [.val (sc ns),.val p.d,.val (.int (c:Nat)),.val (.list (([]:List Pl).map Pl.d)),.val (.str "no plan"),.no,.no,.no,.no,.no,.no,.no,.no]=_;generalize ([]:List Pl).map Pl.d=sd at *;generalize p.d=pd at *
   dsimp?! [JI6,np,n1,bb]
  refine(sq2 (δ':=[.val (sc ns),.val p.d,.val (.int (c:Nat)),.val (.list (([]:List Pl).map Pl.d)),.val (.str "no plan"),.no,.no,.no,.no,.no,.no,.no,.no]) ?_).trans ?_
  ·rw[e_st];generalize ([]:List Pl).map Pl.d=sd at *;generalize p.d=pd at *
   dsimp?! [JH2,n2]
  exact JQ1 ⟨rfl,rfl,rfl,rfl,rfl,rfl,rfl,rfl⟩ T fx f12 g1 g2 g3
 ·obtain⟨l,z,et,hl⟩:=take_snoc hc1 hs;obtain⟨K,hK⟩:∃K,K=chn z l:=⟨_,rfl⟩;have hlz:Sts (l++[z]):=λq hq=>S1 q (List.mem_of_mem_take (by rw[et];exact hq))
  have lz1:∀q∈l++[z],q.one=true:=λq hq=>(hlz q hq).1;obtain⟨kok,ksm,kd,ks⟩:=JLu hlz;rw[<-hK]at kok ksm kd ks;have kd5:K.dep<=5:=by omega
  have ks9:K.steps.length<=5:=by rw[ks,q_u,List.length_cons,List.length_nil];omega
  have f1:C.fn 253 [p.d,.int (c:Nat)]=.ok K.d:=by rw[fn,hK];exact JMu ok (by omega) hc1 et (by omega)
  have ie:p.steps.isEmpty=false:=by cases h:p.steps with
   |nil=>exact absurd h hs
   |cons a r=>rfl
  rw[ie]at n1 n2;have bb:cmpD .NotEq (.bool false) (.bool false)=.ok (.bool false):=by rfl
  have nK:=K.no55;refine(sq2 (JRk (w:=K.d) (by simp only[ev,evA,look,List.getElem?_cons_zero,List.getElem?_cons_succ,Sl.get,R.bind,f1];rfl) nK)).trans ?_
  refine(sq2 (δ':=[.val (sc ns),.val p.d,.val (.int (c:Nat)),.val (.list (p.steps.map Pl.d)),.val K.d,.no,.no,.no,.no,.no,.no,.no,.no]) ?_).trans ?_
  ·rw[e_st];show exec C JI6 [.val (sc ns),.val p.d,.val (.int (c:Nat)),.val (.list (p.steps.map Pl.d)),.val K.d,.no,.no,.no,.no,.no,.no,.no,.no]=_;have ke:=K.eq55 kd5;generalize p.steps.map Pl.d=sd at *;generalize p.d=pd at *;generalize K.d=kd at *
   dsimp?! [JI6,ke,n1,bb]
  have tA':∀A,Tw A (0:Rat):=λA=>t0.mono (by omega)
  have t3:Tw 36 (3:Rat):=⟨36,by decide,by decide +kernel⟩
  have th:Tw 6 (1 / 2:Rat):=⟨6,by decide,by decide +kernel⟩
  have qs:∀ss:List Pl,Sts ss->∀q∈ss.map Pl.q,Tw 72 q:=λss h q hq=>by
   obtain⟨a,ha,rfl⟩:=List.mem_map.mp hq;exact(Pl.Sm.q (h a ha).2.1 (h a ha).1).tw
  have cq:∀P:Pl,P.Ok->P.Sm->P.dep<=5->P.steps.length<=64->C.fn 231 [P.d,zh]=.ok (.list ((cu P.steps (1 / 2)).map F)):=λP o sm' d5 h64=>by
   rw[fn];have:=JMH (x:=true) (sub:=sub) (m:=n+14) (p:=P) (t:=1 / 2) o d5 (by omega) (λa ha=>((qs _ (Sts.of o sm') a.q (List.mem_map_of_mem ha)).sz20 (by decide))) (λa b e=>?_) (by omega)
   · rw[Fh]at this
     exact this
   · have hs':Sts a:=λq hq=>Sts.of o sm' q (by rw[e];exact List.mem_append_left _ hq)
     have hl':a.length<=64:=by rw[e,q_u]at h64;omega
     exact((JH5 (qs a hs') th).sz20 (by rw[q_g];omega)).mono (by omega)
  have pq:∀(P:Pl) (w:Rat),P.Ok->P.Sm->P.dep<=5->P.steps.length<=64->Tw 36 w->C.fn 155 [P.d,F w,z0]=.ok (tr w (mvs P.steps w 0)):=λP w o sm' d5 h64 hw=>by
   rw[fn];exact JKk o sm' d5 (by omega) (hw.mono (by omega)) (tA' _) (by omega)
  have m0:∀a∈mvs (l++[z]) 0 0,Fit a:=JIt hlz (tA' 0) (tA' 0) (by rw[ks]at ks9;omega)
  have ml:=JHw (l++[z]) 0 0;rw[ks]at ks9;have nv:nov (mvs (l++[z]) 0 0)=true:=JIr hlz;obtain⟨y6,v6,r4⟩:=row55 (C:=C) (ns:=ns) (P:=p) (K:=K) (z:=z) (l:=l) (ss:=p.steps) (c:=c) (m1:=mvs (l++[z]) 3 0) (m2:=mvs p.steps 3 0) (T0:=tr 0 (mvs (l++[z]) 0 0)) (c1:=cu (l++[z]) (1 / 2)) (c2:=cu p.steps (1 / 2)) (tv:=tt ((mvs (l++[z]) 0 0).map Mv.way) 0)
   hK kd5 lz1 et n2 (by rw[fn,JDo K kok (by omega),decide_eq_true kd5]) (by rw[fn,JCb K kok (by omega) (by omega),ks]) (by rw[<-ks];exact pq K 3 kok ksm kd5 (by rw[ks];omega) t3) (pq p 3 ok sm (by omega) hpl t3) (by rw[<-et];exact JJu c p.steps 3 0)
   (by rw[<-ks];exact cq K kok ksm kd5 (by rw[ks];omega)) (cq p ok sm (by omega) hpl) (by rw[JHT,et]) (by rw[<-ks];exact pq K 0 kok ksm kd5 (by rw[ks];omega) (tA' _)) (JFn _ _) (by rw[fn];exact JJb m0 nv (by omega) (by omega)) (λhz=>by
     have hw:=JQf (qs:=(mvs (l++[z]) 0 0).map Mv.way) (s:=0) Rat.le_refl (λq hq=>by obtain⟨a,_,rfl⟩:=List.mem_map.mp hq;exact JP8 _) hz
     have st:=JEx (ss:=l++[z]) (h:=0) (t:=0) lz1 λa ha=>hw _ (List.mem_map_of_mem ha);rw[fn,JNX m0 nv (by omega) (by omega),tA_no m0 nv st])
  refine(sq2 (by rw[e_st];exact r4)).trans ?_
  exact JQ1 ⟨rfl,rfl,rfl,rfl,rfl,v6,rfl,rfl⟩ T fx f12 g1 g2 g3
end
end VI.VP
end
section
namespace VH
open PySem PySem.W
noncomputable def rP:Pos:=⟨0,0,0,0⟩
noncomputable def dName:Stmt->Str
 |.FunctionDef n _ _ _ _ _ _ _ _ _=>n
 |_=>"?"
noncomputable def dArgs:Stmt->Arguments
 |.FunctionDef _ a _ _ _ _ _ _ _ _=>a
 |_=>⟨[],[],none,[],[],none,[]⟩
noncomputable def JPw:Stmt->List Stmt
 |.FunctionDef _ _ b _ _ _ _ _ _ _=>b
 |_=>[]
noncomputable def JLz:Stmt->Scope
 |.FunctionDef _ _ _ _ _ _ s _ _ _=>s
 |_=>default
noncomputable def tO(xs:List Value):Obj:=⟨.type "tuple",none,.seq xs.toArray 0,#[]⟩
noncomputable def fO(xs:List Value):Obj:=⟨.none,none,.fields xs.toArray,#[]⟩
noncomputable def sqs:Nat->List Str->List Value
 |_,[]=>[]
 |t,x::r=>.str x t::sqs (t+1) r
noncomputable def f1(st:Stmt):Obj:=⟨.none,none,.func { name:=dName st,qualname:=dName st,params:=dArgs st,body:=.stmts (JPw st),scope:=JLz st,globals:=0,closure:=[],defaults:=.none,kwdefaults:=.none },#[]⟩
noncomputable def f2(st:Stmt)(pm:Value)(cd:Addr):Obj:=⟨.type "function",none,.func { name:=dName st,qualname:=dName st,params:=dArgs st,body:=.stmts (JPw st),scope:=JLz st,globals:=mainNs,closure:=[],defaults:=.none,kwdefaults:=.none,pyModule:=pm,code:=.ref cd },#[]⟩
noncomputable def cO(x:Str)(t l k loc a:Nat)(b:Bool)(u t2:Nat):Obj :=
 ⟨.type "code",none,.fields #[.str x t,.str x (t+1),.str "/claim/cut.py" (t+2),.int l 0,.int k 0,.int 0 0,.int 0 0,.int loc 0,.ref a,.bool b,.int 181 0,.ref (a+1),.none,.ref (a+2),.ref (a+3),.ref (a+4),.int t2 0,.int u 0,.str "/claim/cut.py" (t2+1)],#[]⟩
noncomputable def ent(P:Params)(x:Str)(t:Nat)(v:Value):DictEntry:=⟨PyData.keyHash P x,.str x t,v⟩
noncomputable def dO(es:List DictEntry)(n:Nat):Obj:=⟨.type "dict",none,.dict es.toArray n,#[]⟩
def alt:Bool->List Obj->List Obj
 |_,[]=>[]
 |true,o::r=>o::alt false r
 |false,_::r=>alt true r
def bt:Nat->List Obj->BT
 |0,_=>.nil
 |_,[]=>.nil
 |n+1,o::r=>.node o (bt n (alt true r)) (bt n (alt false r))
def put:Nat->Obj->List Obj->List Obj
 |_,_,[]=>[]
 |0,o,_::r=>o::r
 |n+1,o,x::r=>x::put n o r
noncomputable def sT(l:List Obj)(n k:Nat)(os:OsState):SharedT:=⟨bt 12 l,n,{},#[],{},k,os⟩
noncomputable def sH(l:List Obj)(k:Nat)(os:OsState):Shared:=⟨⟨l.toArray,{}⟩,#[],{},k,os⟩
noncomputable def envOf(p:Program):PySem.Env:={ scope:=p.main.scope,locals:=mainNs,globals:=mainNs,cells:=[],code:=.ref 13,frame:=some 14 }
noncomputable def cdOf(p:Program):Code:=.body (behindTheImports p) (envOf p)
end VH
end
section
set_option Elab.async false
set_option maxHeartbeats 0
namespace V55
open PySem PySem.W VH L2 VI VI.VP
noncomputable abbrev prog:Program:=PySem.Challenge.pw_glideways_k55_whole_first_steps
noncomputable def top(i:Nat):Stmt:=prog.main.body.getD i (.Pass ⟨0,0,0,0⟩)
noncomputable def mainE(P:Params):List DictEntry:=[ent P "__name__" 165 (.str "law_glideways_k55_whole_first_steps" 867),ent P "__doc__" 166 (.none),ent P "__package__" 167 (.none),ent P "__loader__" 168 (.builtin "__main__.__loader__#opaque"),ent P "__spec__" 169 (.none),ent P "__annotations__" 170 (.ref 6),ent P "__builtins__" 171 (.ref 4),ent P "__file__" 173 (.str "/claim/cut.py" 172),ent P "__cached__" 174 (.none),ent P "GlideError" 206 (.ref 24),ent P "NoFrac" 222 (.ref 37),ent P "NoKind" 238 (.ref 49),ent P "NoPlan" 254 (.ref 61),ent P "NoTrack" 270 (.ref 73),ent P "NoTime" 286 (.ref 85),ent P "NoName" 302 (.ref 97),ent P "NoText" 318 (.ref 109),ent P "NoBack" 334 (.ref 121),ent P "ZERO" 339 (.ref 124),ent P "ONE" 342 (.ref 125),ent P "is_whole" 349 (.ref 132),ent P "common_divisor" 360 (.ref 139),ent P "is_frac" 369 (.ref 146),ent P "is_size" 376 (.ref 153),ent P "frac" 385 (.ref 160),ent P "whole" 392 (.ref 167),ent P "plus" 400 (.ref 174),ent P "minus" 408 (.ref 181),ent P "times" 416 (.ref 188),ent P "over" 424 (.ref 195),ent P "all_plus" 433 (.ref 202),ent P "is_less" 441 (.ref 209),ent P "least_frac" 450 (.ref 216),ent P "most_frac" 459 (.ref 223),ent P "between" 468 (.ref 230),ent P "KINDS" 477 (.ref 231),ent P "is_kind" 484 (.ref 238),ent P "need_kind" 491 (.ref 245),ent P "kept_within" 498 (.ref 252),ent P "eased" 507 (.ref 259),ent P "START" 511 (.int 0 510),ent P "GOAL" 513 (.int 1 512),ent P "BEGIN" 515 (.int 2 514),ent P "LONG" 517 (.int 3 516),ent P "KIND" 519 (.int 4 518),ent P "SPEEDS" 521 (.int 5 520),ent P "KEPT" 523 (.str "kept" 522),ent P "NO_SPEEDS" 528 (.ref 262),ent P "are_speeds" 535 (.ref 269),ent P "go_together" 543 (.ref 276),ent P "is_motion" 550 (.ref 283),ent P "plain_motion" 561 (.ref 290),ent P "end_of" 568 (.ref 297),ent P "part_at" 576 (.ref 304),ent P "ends_between" 584 (.ref 311),ent P "worth_at" 593 (.ref 318),ent P "kept_worth" 606 (.ref 325),ent P "FIRST" 610 (.int 0 609),ent P "MOTIONS" 612 (.int 1 611),ent P "is_track" 618 (.ref 330),ent P "none_overlap" 626 (.ref 337),ent P "begun_by" 632 (.ref 342),ent P "worth_of" 641 (.ref 349),ent P "need_track" 648 (.ref 356),ent P "DEEPEST" 652 (.int 5 651),ent P "MOST_AGAIN" 654 (.int 4 653),ent P "is_plan" 661 (.ref 363),ent P "is_plan_within" 670 (.ref 370),ent P "is_many" 677 (.ref 377),ent P "need_plan" 684 (.ref 384),ent P "steps_of" 691 (.ref 391),ent P "step_size" 698 (.ref 398),ent P "size_of" 704 (.ref 403),ent P "step_goal" 712 (.ref 410),ent P "played" 726 (.ref 417),ent P "cues" 739 (.ref 424),ent P "step_at" 745 (.ref 429),ent P "in_turn" 754 (.ref 436),ent P "first_steps" 763 (.ref 443),ent P "kind_word" 770 (.ref 450),ent P "kinds_used" 776 (.ref 455),ent P "SHARES" 807 (.ref 456),ent P "area" 817 (.ref 470),ent P "speeds_area" 826 (.ref 477),ent P "track_area" 832 (.ref 482),ent P "rest_area" 840 (.ref 489),ent P "rests" 852 (.ref 496),ent P "travel" 858 (.ref 501),ent P "way_of" 866 (.ref 508),ent P "_law_cell" 876 (.ref 515),ent P "_law_pick" 886 (.ref 522),ent P "_law_divisor" 894 (.ref 529),ent P "_law_made" 903 (.ref 536),ent P "_law_frac" 912 (.ref 543),ent P "_law_size" 921 (.ref 550),ent P "_law_plus" 929 (.ref 557),ent P "_law_minus" 937 (.ref 564),ent P "_law_times" 945 (.ref 571),ent P "_law_over" 953 (.ref 578),ent P "_law_less" 961 (.ref 585),ent P "_law_kind" 969 (.ref 592),ent P "_law_plan" 982 (.ref 599),ent P "_law_steps" 991 (.ref 606),ent P "_law_class" 999 (.ref 613),ent P "_law_told" 1007 (.ref 620),ent P "law" 1026 (.ref 627)]
noncomputable def mainN:Value:=.str "law_glideways_k55_whole_first_steps" 867
noncomputable def JB0(P:Params)(m k:Nat)(v:Value):Obj:=dO (ent P "__name__" 165 v::((mainE P).take m).drop 1) k
noncomputable def twelve:List Value:=[.int 2 0,.int 0 0,.ref 20,.int 4 0,.int 0 0,.ref 33,.int 6 0,.int 0 0,.ref 45,.int 8 0,.int 0 0,.ref 57,.int 10 0,.int 0 0,.ref 69,.int 12 0,.int 0 0,.ref 81,.int 14 0,.int 0 0,.ref 93,.int 16 0,.int 0 0,.ref 105,.int 18 0,.int 0 0,.ref 117,.int 23 0,.int 0 0,.ref 131,.int 25 0,.int 0 0,.ref 138,.int 33 0,.int 0 0,.ref 145,.int 41 0,.int 0 0,.ref 152,.int 43 0,.int 0 0,.ref 159,.int 50 0,.int 0 0,.ref 166,.int 52 0,.int 0 0,.ref 173,.int 54 0,.int 0 0,.ref 180,.int 56 0,.int 0 0,.ref 187,.int 58 0,.int 0 0,.ref 194,.int 60 0,.int 0 0,.ref 201,.int 65 0,.int 0 0,.ref 208,.int 67 0,.int 0 0,.ref 215,.int 73 0,.int 0 0,.ref 222,.int 79 0,.int 0 0,.ref 229,.int 83 0,.int 0 0,.ref 237,.int 85 0,.int 0 0,.ref 244,.int 88 0,.int 0 0,.ref 251,.int 90 0,.int 0 0,.ref 258,.int 113 0,.int 0 0,.ref 268,.int 115 0,.int 0 0,.ref 275,.int 117 0,.int 0 0,.ref 282,.int 123 0,.int 0 0,.ref 289,.int 125 0,.int 0 0,.ref 296,.int 127 0,.int 0 0,.ref 303,.int 129 0,.int 0 0,.ref 310,.int 132 0,.int 0 0,.ref 317,.int 137 0,.int 0 0,.ref 324,.int 147 0,.int 0 0,.ref 329,.int 153 0,.int 0 0,.ref 336,.int 158 0,.int 0 0,.ref 341,.int 160 0,.int 0 0,.ref 348,.int 165 0,.int 0 0,.ref 355,.int 171 0,.int 0 0,.ref 362,.int 173 0,.int 0 0,.ref 369,.int 186 0,.int 0 0,.ref 376,.int 188 0,.int 0 0,.ref 383,.int 191 0,.int 0 0,.ref 390,.int 197 0,.int 0 0,.ref 397,.int 199 0,.int 0 0,.ref 402,.int 201 0,.int 0 0,.ref 409,.int 207 0,.int 0 0,.ref 416,.int 220 0,.int 0 0,.ref 423,.int 228 0,.int 0 0,.ref 428,.int 233 0,.int 0 0,.ref 435,.int 238 0,.int 0 0,.ref 442,.int 244 0,.int 0 0,.ref 449,.int 246 0,.int 0 0,.ref 454,.int 252 0,.int 0 0,.ref 469,.int 257 0,.int 0 0,.ref 476,.int 261 0,.int 0 0,.ref 481,.int 266 0,.int 0 0,.ref 488,.int 268 0,.int 0 0,.ref 495,.int 278 0,.int 0 0,.ref 500,.int 281 0,.int 0 0,.ref 507,.int 285 0,.int 0 0,.ref 514,.int 291 0,.int 0 0,.ref 521,.int 294 0,.int 0 0,.ref 528,.int 298 0,.int 0 0,.ref 535,.int 301 0,.int 0 0,.ref 542,.int 304 0,.int 0 0,.ref 549,.int 307 0,.int 0 0,.ref 556,.int 309 0,.int 0 0,.ref 563,.int 311 0,.int 0 0,.ref 570,.int 313 0,.int 0 0,.ref 577,.int 315 0,.int 0 0,.ref 584,.int 317 0,.int 0 0,.ref 591,.int 319 0,.int 0 0,.ref 598,.int 331 0,.int 0 0,.ref 605,.int 340 0,.int 0 0,.ref 612,.int 347 0,.int 0 0,.ref 619,.int 352 0,.int 0 0,.ref 626]
noncomputable def gE(l:List Value):Obj:=⟨.type "type",none,.cls { name:="GlideError",bases:=[.type "ValueError"],mro:=[.ref 24,.type "ValueError",.type "Exception",.type "BaseException",.type "object"],ns:=23,qualname:="GlideError",hasDict:=true,slotNames:=[],subclasses:=l,abstract:=false,hasDel:=false },#[some (.ref 15),none,some (.str "GlideError" 189),some (.str "GlideError" 197),some (.builtin "ValueError.__new__"),some (.bool true)]⟩
noncomputable def clB(P:Params)(x:Str)(b t n:Nat):List Obj:=[tO [.ref 24],⟨.type "builtin_function_or_method",none,.fields #[.builtin "type.__prepare__",.type "type"],#[]⟩,dO [ent P "__module__" (t+7) (.str "glideways.errors" 187),ent P "__qualname__" (t+9) (.str x (t+8)),ent P "__firstlineno__" (t+11) (.int n (t+10)),ent P "__static_attributes__" (t+12) (.ref (b+7))] 4,tO [],fO [],⟨.type "code",none,.fields #[.str x (t+2),.str x (t+3),.str "/claim/cut.py" (t+4),.int n 0,.int 0 0,.int 0 0,.int 0 0,.int 0 0,.ref (b+3),.bool false,.int 181 0,.ref (b+4),.none,.none,.none,.none,.int (t+5) 0,.int n 0,.str "/claim/cut.py" (t+6)],#[]⟩,⟨.type "frame",none,.plain,#[some (.ref (b+5)),some (.ref 3),some (.ref (b+2)),none,some (.str "glideways.errors" 187),none,some (.ref 0)]⟩,tO [],dO [ent P "__module__" (t+7) (.str "glideways.errors" 187),ent P "__firstlineno__" (t+11) (.int n (t+10)),ent P "__static_attributes__" (t+12) (.ref (b+7)),ent P "__doc__" (t+13) (.none)] 2,⟨.type "type",none,.cls { name:=x,bases:=[.ref 24],mro:=[.ref (b+9),.ref 24,.type "ValueError",.type "Exception",.type "BaseException",.type "object"],ns:=b+8,qualname:=x,hasDict:=true,slotNames:=[],subclasses:=[],abstract:=false,hasDel:=false },#[some (.ref b),none,some (.str x t),some (.str x (t+8)),some (.builtin "ValueError.__new__"),some (.bool true)]⟩,⟨.type "super",none,.fields #[.ref (b+9),.ref (b+9),.ref (b+9)],#[]⟩,⟨.type "builtin_function_or_method",none,.fields #[.builtin "object.__init_subclass__",.ref (b+9)],#[]⟩]
noncomputable def pv0:Value:=.str "glideways.fracs" 335
noncomputable def pv1:Value:=.str "glideways.kinds" 469
noncomputable def pv2:Value:=.str "glideways.motions" 508
noncomputable def pv3:Value:=.str "glideways.tracks" 607
noncomputable def pv4:Value:=.str "glideways.plans" 649
noncomputable def pv5:Value:=.str "glideways.cues" 727
noncomputable def pv6:Value:=.str "glideways.areas" 777
noncomputable def pv7:Value:=.str "law_glideways_k55_whole_first_steps" 867
noncomputable def dB(i t:Nat)(xs:List Str)(c:Obj)(pm:Value)(a:Addr):List Obj:=[tO [],fO [],tO (sqs t xs),tO [],f1 (top i),c,f2 (top i) pm a]
noncomputable def ob(P:Params):List Obj:=[boot_o_0 P,boot_o_1 P,boot_o_2 P,JB0 P 106 106 mainN,boot_o_4 P,boot_o_5 P,boot_o_6 P,boot_o_7 P,boot_o_8 P,boot_o_9 P,boot_o_10 P,tO [],fO twelve,⟨.type "code",none,.fields #[.str "<module>" 182,.str "<module>" 183,.str "/claim/cut.py" 184,.int 1 0,.int 0 0,.int 0 0,.int 0 0,.int 0 0,.ref 11,.bool false,.int 181 0,.ref 12,.none,.none,.none,.none,.int 185 0,.int 1 0,.str "/claim/cut.py" 186],#[]⟩,⟨.type "frame",none,.plain,#[some (.ref 13),some (.ref 3),some (.ref 3),none,some (.str "__main__" 164),none,some (.ref 0)]⟩,tO [.type "ValueError"],⟨.type "builtin_function_or_method",none,.fields #[.builtin "type.__prepare__",.type "type"],#[]⟩,dO [ent P "__module__" 196 (.str "glideways.errors" 187),ent P "__qualname__" 198 (.str "GlideError" 197),ent P "__firstlineno__" 200 (.int 2 199),ent P "__static_attributes__" 201 (.ref 22)] 4,tO [],fO [],⟨.type "code",none,.fields #[.str "GlideError" 191,.str "GlideError" 192,.str "/claim/cut.py" 193,.int 2 0,.int 0 0,.int 0 0,.int 0 0,.int 0 0,.ref 18,.bool false,.int 181 0,.ref 19,.none,.none,.none,.none,.int 194 0,.int 2 0,.str "/claim/cut.py" 195],#[]⟩,⟨.type "frame",none,.plain,#[some (.ref 20),some (.ref 3),some (.ref 17),none,some (.str "glideways.errors" 187),none,some (.ref 0)]⟩,tO [],dO [ent P "__module__" 196 (.str "glideways.errors" 187),ent P "__firstlineno__" 200 (.int 2 199),ent P "__static_attributes__" 201 (.ref 22),ent P "__weakref__" 203 (.ref 25),ent P "__doc__" 204 (.none)] 3,gE [.ref 37,.ref 49,.ref 61,.ref 73,.ref 85,.ref 97,.ref 109,.ref 121],⟨.type "getset_descriptor",none,.fields #[.str "__weakref__" 202,.ref 24,.builtin "ExceptionGroup.__weakref__",.none],#[]⟩,⟨.type "super",none,.fields #[.ref 24,.ref 24,.ref 24],#[]⟩,⟨.type "builtin_function_or_method",none,.fields #[.builtin "object.__init_subclass__",.ref 24],#[]⟩]++((clB P "NoFrac" 28 207 4)++((clB P "NoKind" 40 223 6)++((clB P "NoPlan" 52 239 8)++((clB P "NoTrack" 64 255 10)++((clB P "NoTime" 76 271 12)++((clB P "NoName" 88 287 14)++((clB P "NoText" 100 303 16)++((clB P "NoBack" 112 319 18)++([tO [.int 0 337,.int 1 338],tO [.int 1 340,.int 1 341]]++((dB 13 346 ["thing"] (cO "is_whole" 343 23 1 3 126 true 23 347) pv0 131)++((dB 14 353 ["one","other","found","rest","left"] (cO "common_divisor" 350 25 2 3 133 true 25 358) pv0 138)++((dB 15 364 ["thing","up","down"] (cO "is_frac" 361 33 1 3 140 true 33 367) pv0 145)++((dB 16 373 ["thing"] (cO "is_size" 370 41 1 3 147 true 41 374) pv0 152)++((dB 17 380 ["up","down","divisor"] (cO "frac" 377 43 2 3 154 true 43 383) pv0 159)++((dB 18 389 ["number"] (cO "whole" 386 50 1 3 161 true 50 390) pv0 166)++((dB 19 396 ["one","other"] (cO "plus" 393 52 2 3 168 true 52 398) pv0 173)++((dB 20 404 ["one","other"] (cO "minus" 401 54 2 3 175 true 54 406) pv0 180)++((dB 21 412 ["one","other"] (cO "times" 409 56 2 3 182 true 56 414) pv0 187)++((dB 22 420 ["one","other"] (cO "over" 417 58 2 3 189 true 58 422) pv0 194)++((dB 23 428 ["some","together","one"] (cO "all_plus" 425 60 1 3 196 true 60 431) pv0 201)++((dB 24 437 ["one","other"] (cO "is_less" 434 65 2 3 203 true 65 439) pv0 208)++((dB 25 445 ["some","least","one"] (cO "least_frac" 442 67 1 3 210 true 67 448) pv0 215)++((dB 26 454 ["some","most","one"] (cO "most_frac" 451 73 1 3 217 true 73 457) pv0 222)++((dB 27 463 ["one","other","part"] (cO "between" 460 79 3 3 224 true 79 466) pv0 229)++([tO (sqs 471 ["even","in","out","both","hold","jump"])]++((dB 30 481 ["thing"] (cO "is_kind" 478 83 1 3 232 true 83 482) pv1 237)++((dB 31 488 ["kind"] (cO "need_kind" 485 85 1 3 239 true 85 489) pv1 244)++((dB 32 495 ["part"] (cO "kept_within" 492 88 1 3 246 true 88 496) pv1 251)++((dB 33 502 ["kind","part","p"] (cO "eased" 499 90 2 3 253 true 90 505) pv1 258)++([tO [.int 0 524,.int 1 525],tO [.int 0 526,.int 1 527],tO [.ref 260,.ref 261]]++((dB 43 532 ["thing"] (cO "are_speeds" 529 113 1 3 263 true 113 533) pv2 268)++((dB 44 539 ["kind","speeds"] (cO "go_together" 536 115 2 3 270 true 115 541) pv2 275)++((dB 45 547 ["thing"] (cO "is_motion" 544 117 1 3 277 true 117 548) pv2 282)++((dB 46 554 ["start","goal","begin","long","kind"] (cO "plain_motion" 551 123 5 3 284 true 123 559) pv2 289)++((dB 47 565 ["motion"] (cO "end_of" 562 125 1 3 291 true 125 566) pv2 296)++((dB 48 572 ["motion","time"] (cO "part_at" 569 127 2 3 298 true 127 574) pv2 303)++((dB 49 580 ["motion","ends"] (cO "ends_between" 577 129 1 3 305 true 129 582) pv2 310)++((dB 50 588 ["motion","time","part"] (cO "worth_at" 585 132 2 3 312 true 132 591) pv2 317)++((dB 51 597 ["motion","p","square","cube","by_first","by_last","by_speeds"] (cO "kept_worth" 594 137 2 3 319 true 137 604) pv2 324)++([tO [],fO [],f1 (top 55),⟨.type "code",none,.fields #[.str "is_track" 613,.str "is_track" 614,.str "/claim/cut.py" 615,.int 147 0,.int 1 0,.int 0 0,.int 0 0,.int 3 0,.ref 326,.bool true,.int 181 0,.ref 327,.none,.none,.none,.ref 328,.int 616 0,.int 147 0,.str "/claim/cut.py" 617],#[]⟩,f2 (top 55) (.str "glideways.tracks" 607) 329]++((dB 56 622 ["motions","number"] (cO "none_overlap" 619 153 1 3 331 true 153 624) pv3 336)++([tO [],fO [],f1 (top 57),⟨.type "code",none,.fields #[.str "begun_by" 627,.str "begun_by" 628,.str "/claim/cut.py" 629,.int 158 0,.int 2 0,.int 0 0,.int 0 0,.int 3 0,.ref 338,.bool true,.int 181 0,.ref 339,.none,.none,.none,.ref 340,.int 630 0,.int 158 0,.str "/claim/cut.py" 631],#[]⟩,f2 (top 57) (.str "glideways.tracks" 607) 341]++((dB 58 636 ["track","time","begun"] (cO "worth_of" 633 160 2 3 343 true 160 639) pv3 348)++((dB 59 645 ["track"] (cO "need_track" 642 165 1 3 350 true 165 646) pv3 355)++((dB 63 658 ["thing"] (cO "is_plan" 655 171 1 3 357 true 171 659) pv4 362)++((dB 64 665 ["thing","deep","word"] (cO "is_plan_within" 662 173 2 3 364 true 173 668) pv4 369)++((dB 65 674 ["thing"] (cO "is_many" 671 186 1 3 371 true 186 675) pv4 376)++((dB 66 681 ["plan"] (cO "need_plan" 678 188 1 3 378 true 188 682) pv4 383)++((dB 67 688 ["plan"] (cO "steps_of" 685 191 1 3 385 true 191 689) pv4 390)++((dB 68 695 ["step"] (cO "step_size" 692 197 1 3 392 true 197 696) pv4 397)++([tO [],fO [],f1 (top 69),⟨.type "code",none,.fields #[.str "size_of" 699,.str "size_of" 700,.str "/claim/cut.py" 701,.int 199 0,.int 1 0,.int 0 0,.int 0 0,.int 3 0,.ref 399,.bool true,.int 181 0,.ref 400,.none,.none,.none,.ref 401,.int 702 0,.int 199 0,.str "/claim/cut.py" 703],#[]⟩,f2 (top 69) (.str "glideways.plans" 649) 402]++((dB 70 708 ["step","here"] (cO "step_goal" 705 201 2 3 404 true 201 710) pv4 409)++((dB 71 716 ["plan","worth","begin","motions","here","now","step","goal"] (cO "played" 713 207 3 3 411 true 207 724) pv4 416)++((dB 73 732 ["plan","begin","found","now","step"] (cO "cues" 729 220 2 3 418 true 220 737) pv5 423)++([tO [],fO [],f1 (top 74),⟨.type "code",none,.fields #[.str "step_at" 740,.str "step_at" 741,.str "/claim/cut.py" 742,.int 228 0,.int 3 0,.int 0 0,.int 0 0,.int 3 0,.ref 425,.bool true,.int 181 0,.ref 426,.none,.none,.none,.ref 427,.int 743 0,.int 228 0,.str "/claim/cut.py" 744],#[]⟩,f2 (top 74) (.str "glideways.cues" 727) 428]++((dB 75 749 ["steps","plan","step"] (cO "in_turn" 746 233 1 3 430 true 233 752) pv5 435)++((dB 76 758 ["plan","many","steps"] (cO "first_steps" 755 238 2 3 437 true 238 761) pv5 442)++((dB 77 767 ["step"] (cO "kind_word" 764 244 1 3 444 true 244 768) pv5 449)++([tO [],fO [],f1 (top 78),⟨.type "code",none,.fields #[.str "kinds_used" 771,.str "kinds_used" 772,.str "/claim/cut.py" 773,.int 246 0,.int 1 0,.int 0 0,.int 0 0,.int 3 0,.ref 451,.bool true,.int 181 0,.ref 452,.none,.none,.none,.ref 453,.int 774 0,.int 246 0,.str "/claim/cut.py" 775],#[]⟩,f2 (top 78) (.str "glideways.cues" 727) 454,dO [ent P "even" 779 (.ref 457),ent P "both" 782 (.ref 458),ent P "kept" 785 (.ref 459),ent P "in" 788 (.ref 460),ent P "out" 791 (.ref 461),ent P "hold" 794 (.ref 462),ent P "jump" 797 (.ref 463)] 7,tO [.int 1 780,.int 2 781],tO [.int 1 783,.int 2 784],tO [.int 1 786,.int 2 787],tO [.int 1 789,.int 3 790],tO [.int 2 792,.int 3 793],tO [.int 0 795,.int 1 796],tO [.int 1 798,.int 1 799]]++((dB 81 811 ["motion","long","by_start","by_way"] (cO "area" 808 252 1 3 464 true 252 815) pv6 469)++((dB 82 821 ["motion","long","more"] (cO "speeds_area" 818 257 1 3 471 true 257 824) pv6 476)++([tO [],fO [],f1 (top 83),⟨.type "code",none,.fields #[.str "track_area" 827,.str "track_area" 828,.str "/claim/cut.py" 829,.int 261 0,.int 1 0,.int 0 0,.int 0 0,.int 3 0,.ref 478,.bool true,.int 181 0,.ref 479,.none,.none,.none,.ref 480,.int 830 0,.int 261 0,.str "/claim/cut.py" 831],#[]⟩,f2 (top 83) (.str "glideways.areas" 777) 481]++((dB 84 836 ["track","rest"] (cO "rest_area" 833 266 2 3 483 true 266 838) pv6 488)++((dB 85 844 ["track","motions","found","number","end","begin"] (cO "rests" 841 268 1 3 490 true 268 850) pv6 495)++([tO [],fO [],f1 (top 86),⟨.type "code",none,.fields #[.str "travel" 853,.str "travel" 854,.str "/claim/cut.py" 855,.int 278 0,.int 1 0,.int 0 0,.int 0 0,.int 3 0,.ref 497,.bool true,.int 181 0,.ref 498,.none,.none,.none,.ref 499,.int 856 0,.int 278 0,.str "/claim/cut.py" 857],#[]⟩,f2 (top 86) (.str "glideways.areas" 777) 500]++((dB 87 862 ["motion","ends"] (cO "way_of" 859 281 1 3 502 true 281 864) pv6 507)++((dB 89 872 ["_law_script","_law_k"] (cO "_law_cell" 869 285 2 3 509 true 285 874) pv7 514)++((dB 90 880 ["_law_script","_law_k","_law_many","_law_drawn"] (cO "_law_pick" 877 291 3 3 516 true 291 884) pv7 521)++((dB 91 890 ["_law_one","_law_other"] (cO "_law_divisor" 887 294 2 3 523 true 294 892) pv7 528)++((dB 92 898 ["_law_up","_law_down","_law_size_here"] (cO "_law_made" 895 298 2 3 530 true 298 901) pv7 535)++((dB 93 907 ["_law_script","_law_at","_law_down"] (cO "_law_frac" 904 301 2 3 537 true 301 910) pv7 542)++((dB 94 916 ["_law_script","_law_at","_law_down"] (cO "_law_size" 913 304 2 3 544 true 304 919) pv7 549)++((dB 95 925 ["_law_one","_law_other"] (cO "_law_plus" 922 307 2 3 551 true 307 927) pv7 556)++((dB 96 933 ["_law_one","_law_other"] (cO "_law_minus" 930 309 2 3 558 true 309 935) pv7 563)++((dB 97 941 ["_law_one","_law_other"] (cO "_law_times" 938 311 2 3 565 true 311 943) pv7 570)++((dB 98 949 ["_law_one","_law_other"] (cO "_law_over" 946 313 2 3 572 true 313 951) pv7 577)++((dB 99 957 ["_law_one","_law_other"] (cO "_law_less" 954 315 2 3 579 true 315 959) pv7 584)++((dB 100 965 ["_law_script","_law_at"] (cO "_law_kind" 962 317 2 3 586 true 317 967) pv7 591)++((dB 101 973 ["_law_script","_law_at","_law_deep","_law_way","_law_step","_law_word","_law_one"] (cO "_law_plan" 970 319 3 3 593 true 319 980) pv7 598)++((dB 102 986 ["_law_plan_here","_law_made_here","_law_again"] (cO "_law_steps" 983 331 1 3 600 true 331 989) pv7 605)++((dB 103 995 ["_law_kept","_law_kinds"] (cO "_law_class" 992 340 1 3 607 true 340 997) pv7 612)++((dB 104 1003 ["_law_deed","e"] (cO "_law_told" 1000 347 1 3 614 true 347 1005) pv7 619)++([tO [],fO [],tO (sqs 1011 ["_law_script","_law_some","_law_made_here","_law_due","_law_step","_law_mine","_law_full","_law_odd","_law_k","_law_told_here"]),tO (sqs 1021 ["_law_many","_law_plan_here","_law_thing"]),f1 (top 105),cO "law" 1008 352 1 3 621 true 352 1024,f2 (top 105) (.str "law_glideways_k55_whole_first_steps" 867) 626])))))))))))))))))))))))))))))))))))))))))))))))))))))))))))))))))))))))))))))))))))
noncomputable def l0(P:Params):List Obj:=put 12 (fO (twelve.take 0)) (put 3 (JB0 P 9 9 (.str "__main__" 164)) ((ob P).take 15))
noncomputable def l1(P:Params):List Obj:=put 24 (gE [.ref 37]) (put 12 (fO (twelve.take 6)) (put 3 (JB0 P 11 11 (.str "glideways.errors" 187)) ((ob P).take 40)))
abbrev PR(a b:Nat)(l:Params->List Obj)(n k d t:Nat)(c:Pos)(l2:Params->List Obj)(n2 k2:Nat)(c2:Pos):Prop:=∀(w:World) (os:OsState),segRunT treeTable prog w 11 (some (.ref 6)) a b (sT (l w.params) n k os) (piecesOf ((prog.main.body.drop d).take t) (envOf prog) (cdOf prog) c [topFrame rP])=some (.next,sT (l2 w.params) n2 k2 os,cdOf prog,c2)
theorem p0:PR 1 409 l0 15 187 0 3 ⟨0,0,0,0⟩ l1 40 223 ⟨4,0,5,8⟩:=λw os=>by kernel_rfl
noncomputable def l2(P:Params):List Obj:=put 24 (gE [.ref 37,.ref 49]) (put 12 (fO (twelve.take 9)) (put 3 (JB0 P 12 12 (.str "glideways.errors" 187)) ((ob P).take 52)))
theorem p1:PR 1 214 l1 40 223 3 1 ⟨4,0,5,8⟩ l2 52 239 ⟨6,0,7,8⟩:=λw os=>by kernel_rfl
noncomputable def l3(P:Params):List Obj:=put 24 (gE [.ref 37,.ref 49,.ref 61]) (put 12 (fO (twelve.take 12)) (put 3 (JB0 P 13 13 (.str "glideways.errors" 187)) ((ob P).take 64)))
theorem p2:PR 1 214 l2 52 239 4 1 ⟨6,0,7,8⟩ l3 64 255 ⟨8,0,9,8⟩:=λw os=>by kernel_rfl
noncomputable def l4(P:Params):List Obj:=put 24 (gE [.ref 37,.ref 49,.ref 61,.ref 73]) (put 12 (fO (twelve.take 15)) (put 3 (JB0 P 14 14 (.str "glideways.errors" 187)) ((ob P).take 76)))
theorem p3:PR 1 214 l3 64 255 5 1 ⟨8,0,9,8⟩ l4 76 271 ⟨10,0,11,8⟩:=λw os=>by kernel_rfl
noncomputable def l5(P:Params):List Obj:=put 24 (gE [.ref 37,.ref 49,.ref 61,.ref 73,.ref 85]) (put 12 (fO (twelve.take 18)) (put 3 (JB0 P 15 15 (.str "glideways.errors" 187)) ((ob P).take 88)))
theorem p4:PR 1 214 l4 76 271 6 1 ⟨10,0,11,8⟩ l5 88 287 ⟨12,0,13,8⟩:=λw os=>by kernel_rfl
noncomputable def l6(P:Params):List Obj:=put 24 (gE [.ref 37,.ref 49,.ref 61,.ref 73,.ref 85,.ref 97]) (put 12 (fO (twelve.take 21)) (put 3 (JB0 P 16 16 (.str "glideways.errors" 187)) ((ob P).take 100)))
theorem p5:PR 1 214 l5 88 287 7 1 ⟨12,0,13,8⟩ l6 100 303 ⟨14,0,15,8⟩:=λw os=>by kernel_rfl
noncomputable def l7(P:Params):List Obj:=put 24 (gE [.ref 37,.ref 49,.ref 61,.ref 73,.ref 85,.ref 97,.ref 109]) (put 12 (fO (twelve.take 24)) (put 3 (JB0 P 17 17 (.str "glideways.errors" 187)) ((ob P).take 112)))
theorem p6:PR 1 214 l6 100 303 8 1 ⟨14,0,15,8⟩ l7 112 319 ⟨16,0,17,8⟩:=λw os=>by kernel_rfl
noncomputable def l8(P:Params):List Obj:=put 12 (fO (twelve.take 42)) (put 3 (JB0 P 25 25 (.str "glideways.fracs" 335)) ((ob P).take 161))
theorem p7:PR 1 400 l7 112 319 9 9 ⟨16,0,17,8⟩ l8 161 386 ⟨43,0,49,43⟩:=λw os=>by kernel_rfl
noncomputable def l9(P:Params):List Obj:=put 12 (fO (twelve.take 81)) (put 3 (JB0 P 39 39 (.str "glideways.kinds" 469)) ((ob P).take 253))
theorem p8:PR 1 416 l8 161 386 18 15 ⟨43,0,49,43⟩ l9 253 499 ⟨88,0,89,53⟩:=λw os=>by kernel_rfl
noncomputable def l10(P:Params):List Obj:=put 12 (fO (twelve.take 111)) (put 3 (JB0 P 58 58 (.str "glideways.tracks" 607)) ((ob P).take 326))
theorem p9:PR 1 416 l9 253 499 33 21 ⟨88,0,89,53⟩ l10 326 611 ⟨145,0,145,5⟩:=λw os=>by kernel_rfl
noncomputable def l11(P:Params):List Obj:=put 12 (fO (twelve.take 150)) (put 3 (JB0 P 74 74 (.str "glideways.plans" 649)) ((ob P).take 411))
theorem p10:PR 1 411 l10 326 611 54 17 ⟨145,0,145,5⟩ l11 411 713 ⟨201,0,206,18⟩:=λw os=>by kernel_rfl
noncomputable def l12(P:Params):List Obj:=put 12 (fO (twelve.take 171)) (put 3 (JB0 P 81 81 (.str "glideways.areas" 777)) ((ob P).take 456))
theorem p11:PR 1 231 l11 411 713 71 9 ⟨201,0,206,18⟩ l12 456 779 ⟨250,0,250,8⟩:=λw os=>by kernel_rfl
noncomputable def l13(P:Params):List Obj:=put 12 (fO (twelve.take 171)) (put 3 (JB0 P 82 82 (.str "glideways.areas" 777)) ((ob P).take 464))
theorem p12:∀(w:World) (os:OsState),segRunT treeTable prog w 11 (some (.ref 6)) 1 137 (sT (l12 w.params) 456 779 os) (piecesOf ((prog.main.body.drop 80).take 1) (envOf prog) (cdOf prog) ⟨250,0,250,8⟩ [topFrame rP])=some (.next,sT (l13 w.params) 464 808 os,cdOf prog,⟨251,0,251,6⟩):=byRow2 "special-get-raises" (P:=λw=>∀os:OsState,segRunT treeTable prog w 11 (some (.ref 6)) 1 137 (sT (l12 w.params) 456 779 os) (piecesOf ((prog.main.body.drop 80).take 1) (envOf prog) (cdOf prog) ⟨250,0,250,8⟩ [topFrame rP])=some (.next,sT (l13 w.params) 464 808 os,cdOf prog,⟨251,0,251,6⟩)) (λw os=>by kernel_rfl) (λw os=>by kernel_rfl)
noncomputable def l14(P:Params):List Obj:=put 12 (fO (twelve.take 210)) (put 3 (JB0 P 95 95 (.str "law_glideways_k55_whole_first_steps" 867)) ((ob P).take 551))
theorem p13:PR 1 404 l13 464 808 81 14 ⟨251,0,251,6⟩ l14 551 922 ⟨304,0,306,87⟩:=λw os=>by kernel_rfl
noncomputable def l15(P:Params):List Obj:=ob P
theorem p14:PR 1 348 l14 551 922 95 11 ⟨304,0,306,87⟩ l15 628 1027 ⟨352,0,381,114⟩:=λw os=>by kernel_rfl
theorem pre(w:World)(os:OsState):topGo treeTable prog w 11 (some (.ref 6)) 12 ⟨boot_heap w.params,Array.mk [],boot_drawn,boot_toks,os⟩ (topStub prog)=some (sH (l0 w.params) 187 os,⟨denote treeTable (cdOf prog),cdOf prog,⟨0,0,0,0⟩,[topFrame rP]⟩):=by kernel_rfl
theorem blk(w:World)(os:OsState):segRun treeTable prog w 11 (some (.ref 6)) 1 1 (sH (l0 w.params) 187 os) (blockOf (behindTheImports prog) (envOf prog) (cdOf prog) ⟨0,0,0,0⟩ [topFrame rP])=some (.next,(sT (l0 w.params) 15 187 os).abs,cdOf prog,⟨0,0,0,0⟩):=by kernel_rfl
theorem fin(w:World)(os:OsState):topRun treeTable prog w 11 (some (.ref 6)) 2 (sT (l15 w.params) 628 1027 os).abs ⟨doneF .next,cdOf prog,⟨352,0,381,114⟩,[topFrame rP]⟩=some (sH (l15 w.params) 1027 os):=by kernel_rfl
theorem body:behindTheImports prog=(((prog.main.body.drop 0).take 3)++(((prog.main.body.drop 3).take 1)++(((prog.main.body.drop 4).take 1)++(((prog.main.body.drop 5).take 1)++(((prog.main.body.drop 6).take 1)++(((prog.main.body.drop 7).take 1)++(((prog.main.body.drop 8).take 1)++(((prog.main.body.drop 9).take 9)++(((prog.main.body.drop 18).take 15)++(((prog.main.body.drop 33).take 21)++(((prog.main.body.drop 54).take 17)++(((prog.main.body.drop 71).take 9)++(((prog.main.body.drop 80).take 1)++(((prog.main.body.drop 81).take 14)++(((prog.main.body.drop 95).take 11)++[]))))))))))))))):=by kernel_rfl
theorem rn(w:World)(os:OsState):topRun treeTable prog w 11 (some (.ref 6)) (12+(1+(409+(214+(214+(214+(214+(214+(214+(400+(416+(416+(411+(231+(137+(404+(348+2))))))))))))))))) ⟨boot_heap w.params,Array.mk [],boot_drawn,boot_toks,os⟩ (topStub prog)=some (sH (l15 w.params) 1027 os) :=
 go_top (pre w os) (piece_block (blk w os) (body▸(piece_app (segRun_of (p0 w os)) (piece_app (segRun_of (p1 w os)) (piece_app (segRun_of (p2 w os)) (piece_app (segRun_of (p3 w os)) (piece_app (segRun_of (p4 w os)) (piece_app (segRun_of (p5 w os)) (piece_app (segRun_of (p6 w os)) (piece_app (segRun_of (p7 w os)) (piece_app (segRun_of (p8 w os)) (piece_app (segRun_of (p9 w os)) (piece_app (segRun_of (p10 w os)) (piece_app (segRun_of (p11 w os)) (piece_app (segRun_of (p12 w os)) (piece_app (segRun_of (p13 w os)) (piece_app (segRun_of (p14 w os)) (piece_nil (fin w os)))))))))))))))))))
noncomputable def ktok:Nat:=1027
noncomputable def view:Program:={ prog with main:={ prog.main with body:=[top 105] } }
noncomputable def loose:List Str:=(["GlideError","NoFrac","NoKind","NoPlan","NoTrack","NoTime","NoName","NoText","NoBack","ZERO","ONE","is_whole","common_divisor","is_frac","is_size","frac","whole","plus","minus","times","over","all_plus","is_less","least_frac","most_frac","between","KINDS","is_kind","need_kind","kept_within","eased","START","GOAL","BEGIN","LONG","KIND","SPEEDS","KEPT","NO_SPEEDS","are_speeds","go_together","is_motion","plain_motion","end_of","part_at","ends_between","worth_at","kept_worth","FIRST","MOTIONS","is_track","none_overlap","begun_by","worth_of","need_track","DEEPEST","MOST_AGAIN","is_plan","is_plan_within","is_many","need_plan","steps_of","step_size","size_of","step_goal","played","cues","step_at","in_turn","first_steps","kind_word","kinds_used","SHARES","area","speeds_area","track_area","rest_area","rests","travel","way_of","_law_cell","_law_pick","_law_divisor","_law_made","_law_frac","_law_size","_law_plus","_law_minus","_law_times","_law_over","_law_less","_law_kind","_law_plan","_law_steps","_law_class","_law_told"]:List String).map Str.ofString
noncomputable def K0(P:Params):Frag:=(List.range 628).zip (ob P)
noncomputable def K(P:Params):Frag:=JBJ 622 (K0 P)
noncomputable def hk:Hook:=kHook K0 (List.range 628) (λ_=>by kernel_rfl)
theorem left:LeftO prog view loose (λs=>xlAt view [] s&&recOk (RowW.records PySem.Challenge.rw_glideways_k55_whole_first_steps.row.toRowW) s) hk.obs hk.val 9608 true :=
 LeftO.of_pieces (H₀:=boot_heap) (H₁:=λP=>⟨(l15 P).toArray,{}⟩) (gs₀:=Array.mk []) (gs₁:=#[]) (d₀:=boot_drawn) (d₁:={}) (k₀:=boot_toks) (k₁:=ktok) (m₀:=11) (ann:=some (.ref 6))
  (boot_open (by kernel_rfl) (by decide) (λs=>by kernel_rfl)) (λw=>by kernel_rfl) (λw os=>rn w os) (by decide +kernel) (λw=>by kernel_rfl)
noncomputable def G:List (Str×GK):=[(("is_whole":Str),GK.fn 23),(("common_divisor":Str),GK.fn 0),(("is_frac":Str),GK.fn 24),(("is_size":Str),GK.fn 68),(("frac":Str),GK.fn 1),(("whole":Str),GK.fn 2),(("plus":Str),GK.fn 3),(("minus":Str),GK.fn 4),(("times":Str),GK.fn 5),(("over":Str),GK.fn 25),(("all_plus":Str),GK.fn 179),(("is_less":Str),GK.fn 6),(("least_frac":Str),GK.fn 7),(("most_frac":Str),GK.fn 8),(("between":Str),GK.fn 10),(("is_kind":Str),GK.fn 29),(("need_kind":Str),GK.fn 30),(("kept_within":Str),GK.fn 31),(("eased":Str),GK.fn 32),(("are_speeds":Str),GK.fn 69),(("go_together":Str),GK.fn 70),(("is_motion":Str),GK.fn 71),(("plain_motion":Str),GK.fn 80),(("end_of":Str),GK.fn 72),(("part_at":Str),GK.fn 46),(("ends_between":Str),GK.fn 47),(("worth_at":Str),GK.fn 48),(("kept_worth":Str),GK.fn 49),(("is_track":Str),GK.fn 81),(("none_overlap":Str),GK.fn 82),(("begun_by":Str),GK.fn 96),(("worth_of":Str),GK.fn 97),(("need_track":Str),GK.fn 85),(("is_plan":Str),GK.fn 140),(("is_plan_within":Str),GK.fn 141),(("is_many":Str),GK.fn 142),(("need_plan":Str),GK.fn 153),(("steps_of":Str),GK.fn 143),(("step_size":Str),GK.fn 144),(("size_of":Str),GK.fn 180),(("step_goal":Str),GK.fn 154),(("played":Str),GK.fn 155),(("cues":Str),GK.fn 231),(("step_at":Str),GK.fn 232),(("in_turn":Str),GK.fn 252),(("first_steps":Str),GK.fn 253),(("kind_word":Str),GK.fn 233),(("kinds_used":Str),GK.fn 234),(("area":Str),GK.fn 188),(("speeds_area":Str),GK.fn 189),(("track_area":Str),GK.fn 193),(("rest_area":Str),GK.fn 194),(("rests":Str),GK.fn 195),(("travel":Str),GK.fn 197),(("way_of":Str),GK.fn 198),(("_law_cell":Str),GK.fn 11),(("_law_pick":Str),GK.fn 12),(("_law_divisor":Str),GK.fn 13),(("_law_made":Str),GK.fn 14),(("_law_frac":Str),GK.fn 15),(("_law_size":Str),GK.fn 16),(("_law_kind":Str),GK.fn 35),(("_law_plan":Str),GK.fn 146),(("_law_steps":Str),GK.fn 147),(("ZERO":Str),GK.con 39),(("ONE":Str),GK.con 40),(("KINDS":Str),GK.con 41),(("START":Str),GK.con 55),(("GOAL":Str),GK.con 56),(("BEGIN":Str),GK.con 57),(("LONG":Str),GK.con 58),(("KIND":Str),GK.con 59),(("SPEEDS":Str),GK.con 60),(("KEPT":Str),GK.con 61),(("NO_SPEEDS":Str),GK.con 77),(("FIRST":Str),GK.con 93),(("MOTIONS":Str),GK.con 94),(("DEEPEST":Str),GK.con 151),(("MOST_AGAIN":Str),GK.con 152),(("SHARES":Str),GK.con 192),(("GlideError":Str),GK.cls 0),(("NoFrac":Str),GK.cls 1),(("NoKind":Str),GK.cls 2),(("NoPlan":Str),GK.cls 3),(("NoTrack":Str),GK.cls 4),(("NoTime":Str),GK.cls 5),(("NoName":Str),GK.cls 6),(("NoText":Str),GK.cls 7),(("NoBack":Str),GK.cls 8),(("len":Str),GK.blt Blt.len),(("abs":Str),GK.blt Blt.abs),(("all":Str),GK.blt Blt.all),(("range":Str),GK.rng),(("isinstance":Str),GK.isi),(("reversed":Str),GK.nam),(("sorted":Str),GK.nam),(("set":Str),GK.nam),(("max":Str),GK.nam),(("int":Str),GK.ty Ty.int),(("bool":Str),GK.ty Ty.bool),(("tuple":Str),GK.ty Ty.tuple),(("ValueError":Str),GK.ty Ty.valueError),((".dsp":Str),GK.opt),((".ext":Str),GK.opt),((".met":Str),GK.opt),((".rvs":Str),GK.opt),((".rev":Str),GK.opt),((".sst":Str),GK.opt),((".dtk":Str),GK.opt),((".mx2":Str),GK.opt)]
instance:Cool G:=⟨by kernel_rfl⟩
noncomputable abbrev tab:Nat->Option Fd:=tabA
noncomputable abbrev glo:Nat->R D:=gloA
theorem JI1:∀i c,glo i≠.exc c:=by
 intro i c h;unfold glo gloA at h
 split at h<;>cases h
noncomputable def rs:List (Nat×List Nat):=[(3,[0,3])]
noncomputable def cl(k:Nat):Addr:=match k with|0=>24|1=>37|2=>49|3=>61|4=>73|5=>85|6=>97|7=>109|8=>121|_=>0
noncomputable abbrev Bq(w:World):Bs:=⟨K w.params,cl,w,λ_ _ _=>False,λ_ _ _ _ _ h=>h⟩
noncomputable def pm0:Value:=.str "glideways.fracs" 335
noncomputable def pm1:Value:=.str "glideways.kinds" 469
noncomputable def pm2:Value:=.str "glideways.motions" 508
noncomputable def pm3:Value:=.str "glideways.tracks" 607
noncomputable def pm4:Value:=.str "glideways.plans" 649
noncomputable def pm5:Value:=.str "glideways.cues" 727
noncomputable def pm6:Value:=.str "glideways.areas" 777
noncomputable def pm7:Value:=.str "law_glideways_k55_whole_first_steps" 867
theorem JSI{w:World}{h:Heap}{mg:Mq}(X:(K w.params).In h)(Gm:h.Ns mainGlobals mg):∀d,glo 39=.ok d->∃u v,mg "ZERO"=some u/\RelV v u/\∀H,Den (Bq w) H d v:=JAy X Gm (by kernel_rfl) rfl
theorem k_ONE{w:World}{h:Heap}{mg:Mq}(X:(K w.params).In h)(Gm:h.Ns mainGlobals mg):∀d,glo 40=.ok d->∃u v,mg "ONE"=some u/\RelV v u/\∀H,Den (Bq w) H d v:=JAy X Gm (by kernel_rfl) rfl
theorem JND{w:World}{h:Heap}{mg:Mq}(X:(K w.params).In h)(Gm:h.Ns mainGlobals mg):∀d,glo 41=.ok d->∃u v,mg "KINDS"=some u/\RelV v u/\∀H,Den (Bq w) H d v:=JAy X Gm (by kernel_rfl) rfl
theorem JNv{w:World}{h:Heap}{mg:Mq}(X:(K w.params).In h)(Gm:h.Ns mainGlobals mg):∀d,glo 55=.ok d->∃u v,mg "START"=some u/\RelV v u/\∀H,Den (Bq w) H d v:=JAy X Gm (by kernel_rfl) rfl
theorem JRp{w:World}{h:Heap}{mg:Mq}(X:(K w.params).In h)(Gm:h.Ns mainGlobals mg):∀d,glo 56=.ok d->∃u v,mg "GOAL"=some u/\RelV v u/\∀H,Den (Bq w) H d v:=JAy X Gm (by kernel_rfl) rfl
theorem JN6{w:World}{h:Heap}{mg:Mq}(X:(K w.params).In h)(Gm:h.Ns mainGlobals mg):∀d,glo 57=.ok d->∃u v,mg "BEGIN"=some u/\RelV v u/\∀H,Den (Bq w) H d v:=JAy X Gm (by kernel_rfl) rfl
theorem JRs{w:World}{h:Heap}{mg:Mq}(X:(K w.params).In h)(Gm:h.Ns mainGlobals mg):∀d,glo 58=.ok d->∃u v,mg "LONG"=some u/\RelV v u/\∀H,Den (Bq w) H d v:=JAy X Gm (by kernel_rfl) rfl
theorem JRv{w:World}{h:Heap}{mg:Mq}(X:(K w.params).In h)(Gm:h.Ns mainGlobals mg):∀d,glo 59=.ok d->∃u v,mg "KIND"=some u/\RelV v u/\∀H,Den (Bq w) H d v:=JAy X Gm (by kernel_rfl) rfl
theorem JKi{w:World}{h:Heap}{mg:Mq}(X:(K w.params).In h)(Gm:h.Ns mainGlobals mg):∀d,glo 60=.ok d->∃u v,mg "SPEEDS"=some u/\RelV v u/\∀H,Den (Bq w) H d v:=JAy X Gm (by kernel_rfl) rfl
theorem JR4{w:World}{h:Heap}{mg:Mq}(X:(K w.params).In h)(Gm:h.Ns mainGlobals mg):∀d,glo 61=.ok d->∃u v,mg "KEPT"=some u/\RelV v u/\∀H,Den (Bq w) H d v:=JAy X Gm (by kernel_rfl) rfl
theorem JFX{w:World}{h:Heap}{mg:Mq}(X:(K w.params).In h)(Gm:h.Ns mainGlobals mg):∀d,glo 77=.ok d->∃u v,mg "NO_SPEEDS"=some u/\RelV v u/\∀H,Den (Bq w) H d v:=JAy X Gm (by kernel_rfl) rfl
theorem JN7{w:World}{h:Heap}{mg:Mq}(X:(K w.params).In h)(Gm:h.Ns mainGlobals mg):∀d,glo 93=.ok d->∃u v,mg "FIRST"=some u/\RelV v u/\∀H,Den (Bq w) H d v:=JAy X Gm (by kernel_rfl) rfl
theorem JIT{w:World}{h:Heap}{mg:Mq}(X:(K w.params).In h)(Gm:h.Ns mainGlobals mg):∀d,glo 94=.ok d->∃u v,mg "MOTIONS"=some u/\RelV v u/\∀H,Den (Bq w) H d v:=JAy X Gm (by kernel_rfl) rfl
theorem JID{w:World}{h:Heap}{mg:Mq}(X:(K w.params).In h)(Gm:h.Ns mainGlobals mg):∀d,glo 151=.ok d->∃u v,mg "DEEPEST"=some u/\RelV v u/\∀H,Den (Bq w) H d v:=JAy X Gm (by kernel_rfl) rfl
theorem JEh{w:World}{h:Heap}{mg:Mq}(X:(K w.params).In h)(Gm:h.Ns mainGlobals mg):∀d,glo 152=.ok d->∃u v,mg "MOST_AGAIN"=some u/\RelV v u/\∀H,Den (Bq w) H d v:=JAy X Gm (by kernel_rfl) rfl
theorem JKC{w:World}{h:Heap}{mg:Mq}(X:(K w.params).In h)(Gm:h.Ns mainGlobals mg):∀d,glo 192=.ok d->∃u v,mg "SHARES"=some u/\RelV v u/\∀H,Den (Bq w) H d v:=JMn X Gm (a:=456) (es:=([ent w.params "even" 779 (.ref 457),ent w.params "both" 782 (.ref 458),ent w.params "kept" 785 (.ref 459),ent w.params "in" 788 (.ref 460),ent w.params "out" 791 (.ref 461),ent w.params "hold" 794 (.ref 462),ent w.params "jump" 797 (.ref 463)]:List DictEntry).toArray) (ep:=7) (by kernel_rfl) (by kernel_rfl) (by decide) (show EntOk (Bq w) w ([ent w.params "even" 779 (.ref 457),ent w.params "both" 782 (.ref 458),ent w.params "kept" 785 (.ref 459),ent w.params "in" 788 (.ref 460),ent w.params "out" 791 (.ref 461),ent w.params "hold" 794 (.ref 462),ent w.params "jump" 797 (.ref 463)]:List DictEntry) _ from .cons (x:="even") (t:=779) (d:=.tuple [.int 1,.int 2]) rfl rfl (JBL (B:=(Bq w)) (n:=8) (by kernel_rfl)) (.cons (x:="both") (t:=782) (d:=.tuple [.int 1,.int 2]) rfl rfl (JBL (B:=(Bq w)) (n:=8) (by kernel_rfl)) (.cons (x:="kept") (t:=785) (d:=.tuple [.int 1,.int 2]) rfl rfl (JBL (B:=(Bq w)) (n:=8) (by kernel_rfl)) (.cons (x:="in") (t:=788) (d:=.tuple [.int 1,.int 3]) rfl rfl (JBL (B:=(Bq w)) (n:=8) (by kernel_rfl)) (.cons (x:="out") (t:=791) (d:=.tuple [.int 2,.int 3]) rfl rfl (JBL (B:=(Bq w)) (n:=8) (by kernel_rfl)) (.cons (x:="hold") (t:=794) (d:=.tuple [.int 0,.int 1]) rfl rfl (JBL (B:=(Bq w)) (n:=8) (by kernel_rfl)) (.cons (x:="jump") (t:=797) (d:=.tuple [.int 1,.int 1]) rfl rfl (JBL (B:=(Bq w)) (n:=8) (by kernel_rfl)) (.nil)))))))) (by decide +kernel) rfl
theorem mo(w:World){h:Heap}{mg:Mq}(X:(K w.params).In h)(Gm:h.Ns mainGlobals mg):AllP (MoP mg (Bq w) G tab glo) G :=
 ⟨⟨_,rfl,dI X Gm 132 131 pm0 (top 13) ["thing"] ["thing"] λ_ _ _ _ _ _ _=>rfl⟩,⟨_,rfl,dI X Gm 139 138 pm0 (top 14) ["one","other","found","rest","left"] ["one","other"] λ_ _ _ _ _ _ _ _=>rfl⟩,⟨_,rfl,dI X Gm 146 145 pm0 (top 15) ["thing","up","down"] ["thing"] λ_ _ _ _ _ _ _=>rfl⟩,⟨_,rfl,dI X Gm 153 152 pm0 (top 16) ["thing"] ["thing"] λ_ _ _ _ _ _ _=>rfl⟩,⟨_,rfl,dI X Gm 160 159 pm0 (top 17) ["up","down","divisor"] ["up","down"] λ_ _ _ _ _ _ _ _=>rfl⟩,⟨_,rfl,dI X Gm 167 166 pm0 (top 18) ["number"] ["number"] λ_ _ _ _ _ _ _=>rfl⟩,⟨_,rfl,dI X Gm 174 173 pm0 (top 19) ["one","other"] ["one","other"] λ_ _ _ _ _ _ _ _=>rfl⟩,⟨_,rfl,dI X Gm 181 180 pm0 (top 20) ["one","other"] ["one","other"] λ_ _ _ _ _ _ _ _=>rfl⟩,⟨_,rfl,dI X Gm 188 187 pm0 (top 21) ["one","other"] ["one","other"] λ_ _ _ _ _ _ _ _=>rfl⟩,⟨_,rfl,dI X Gm 195 194 pm0 (top 22) ["one","other"] ["one","other"] λ_ _ _ _ _ _ _ _=>rfl⟩,⟨_,rfl,dI X Gm 202 201 pm0 (top 23) ["some","together","one"] ["some"] λ_ _ _ _ _ _ _=>rfl⟩,⟨_,rfl,dI X Gm 209 208 pm0 (top 24) ["one","other"] ["one","other"] λ_ _ _ _ _ _ _ _=>rfl⟩,⟨_,rfl,dI X Gm 216 215 pm0 (top 25) ["some","least","one"] ["some"] λ_ _ _ _ _ _ _=>rfl⟩,⟨_,rfl,dI X Gm 223 222 pm0 (top 26) ["some","most","one"] ["some"] λ_ _ _ _ _ _ _=>rfl⟩,⟨_,rfl,dI X Gm 230 229 pm0 (top 27) ["one","other","part"] ["one","other","part"] λ_ _ _ _ _ _ _ _ _=>rfl⟩,⟨_,rfl,dI X Gm 238 237 pm1 (top 30) ["thing"] ["thing"] λ_ _ _ _ _ _ _=>rfl⟩,⟨_,rfl,dI X Gm 245 244 pm1 (top 31) ["kind"] ["kind"] λ_ _ _ _ _ _ _=>rfl⟩,⟨_,rfl,dI X Gm 252 251 pm1 (top 32) ["part"] ["part"] λ_ _ _ _ _ _ _=>rfl⟩,⟨_,rfl,dI X Gm 259 258 pm1 (top 33) ["kind","part","p"] ["kind","part"] λ_ _ _ _ _ _ _ _=>rfl⟩,⟨_,rfl,dI X Gm 269 268 pm2 (top 43) ["thing"] ["thing"] λ_ _ _ _ _ _ _=>rfl⟩,⟨_,rfl,dI X Gm 276 275 pm2 (top 44) ["kind","speeds"] ["kind","speeds"] λ_ _ _ _ _ _ _ _=>rfl⟩,⟨_,rfl,dI X Gm 283 282 pm2 (top 45) ["thing"] ["thing"] λ_ _ _ _ _ _ _=>rfl⟩,⟨_,rfl,dI X Gm 290 289 pm2 (top 46) ["start","goal","begin","long","kind"] ["start","goal","begin","long","kind"] λ_ _ _ _ _ _ _ _ _ _ _=>rfl⟩,⟨_,rfl,dI X Gm 297 296 pm2 (top 47) ["motion"] ["motion"] λ_ _ _ _ _ _ _=>rfl⟩,⟨_,rfl,dI X Gm 304 303 pm2 (top 48) ["motion","time"] ["motion","time"] λ_ _ _ _ _ _ _ _=>rfl⟩,⟨_,rfl,dI X Gm 311 310 pm2 (top 49) ["motion","ends"] ["motion"] λ_ _ _ _ _ _ _=>rfl⟩,⟨_,rfl,dI X Gm 318 317 pm2 (top 50) ["motion","time","part"] ["motion","time"] λ_ _ _ _ _ _ _ _=>rfl⟩,⟨_,rfl,dI X Gm 325 324 pm2 (top 51) ["motion","p","square","cube","by_first","by_last","by_speeds"] ["motion","p"] λ_ _ _ _ _ _ _ _=>rfl⟩,⟨_,rfl,dI X Gm 330 329 pm3 (top 55) ["thing"] ["thing"] λ_ _ _ _ _ _ _=>rfl⟩,⟨_,rfl,dI X Gm 337 336 pm3 (top 56) ["motions","number"] ["motions"] λ_ _ _ _ _ _ _=>rfl⟩,⟨_,rfl,dI X Gm 342 341 pm3 (top 57) ["track","time"] ["track","time"] λ_ _ _ _ _ _ _ _=>rfl⟩,⟨_,rfl,dI X Gm 349 348 pm3 (top 58) ["track","time","begun"] ["track","time"] λ_ _ _ _ _ _ _ _=>rfl⟩,⟨_,rfl,dI X Gm 356 355 pm3 (top 59) ["track"] ["track"] λ_ _ _ _ _ _ _=>rfl⟩,⟨_,rfl,dI X Gm 363 362 pm4 (top 63) ["thing"] ["thing"] λ_ _ _ _ _ _ _=>rfl⟩,⟨_,rfl,dI X Gm 370 369 pm4 (top 64) ["thing","deep","word"] ["thing","deep"] λ_ _ _ _ _ _ _ _=>rfl⟩,⟨_,rfl,dI X Gm 377 376 pm4 (top 65) ["thing"] ["thing"] λ_ _ _ _ _ _ _=>rfl⟩,⟨_,rfl,dI X Gm 384 383 pm4 (top 66) ["plan"] ["plan"] λ_ _ _ _ _ _ _=>rfl⟩,⟨_,rfl,dI X Gm 391 390 pm4 (top 67) ["plan"] ["plan"] λ_ _ _ _ _ _ _=>rfl⟩,⟨_,rfl,dI X Gm 398 397 pm4 (top 68) ["step"] ["step"] λ_ _ _ _ _ _ _=>rfl⟩,⟨_,rfl,dI X Gm 403 402 pm4 (top 69) ["plan"] ["plan"] λ_ _ _ _ _ _ _=>rfl⟩,⟨_,rfl,dI X Gm 410 409 pm4 (top 70) ["step","here"] ["step","here"] λ_ _ _ _ _ _ _ _=>rfl⟩,⟨_,rfl,dI X Gm 417 416 pm4 (top 71) ["plan","worth","begin","motions","here","now","step","goal"] ["plan","worth","begin"] λ_ _ _ _ _ _ _ _ _=>rfl⟩,⟨_,rfl,dI X Gm 424 423 pm5 (top 73) ["plan","begin","found","now","step"] ["plan","begin"] λ_ _ _ _ _ _ _ _=>rfl⟩,⟨_,rfl,dI X Gm 429 428 pm5 (top 74) ["plan","begin","time","begun"] ["plan","begin","time"] λ_ _ _ _ _ _ _ _ _=>rfl⟩,⟨_,rfl,dI X Gm 436 435 pm5 (top 75) ["steps","plan","step"] ["steps"] λ_ _ _ _ _ _ _=>rfl⟩,⟨_,rfl,dI X Gm 443 442 pm5 (top 76) ["plan","many","steps"] ["plan","many"] λ_ _ _ _ _ _ _ _=>rfl⟩,⟨_,rfl,dI X Gm 450 449 pm5 (top 77) ["step"] ["step"] λ_ _ _ _ _ _ _=>rfl⟩,⟨_,rfl,dI X Gm 455 454 pm5 (top 78) ["plan","words"] ["plan"] λ_ _ _ _ _ _ _=>rfl⟩,⟨_,rfl,dI X Gm 470 469 pm6 (top 81) ["motion","long","by_start","by_way"] ["motion"] λ_ _ _ _ _ _ _=>rfl⟩,⟨_,rfl,dI X Gm 477 476 pm6 (top 82) ["motion","long","more"] ["motion"] λ_ _ _ _ _ _ _=>rfl⟩,⟨_,rfl,dI X Gm 482 481 pm6 (top 83) ["track","moving","resting"] ["track"] λ_ _ _ _ _ _ _=>rfl⟩,⟨_,rfl,dI X Gm 489 488 pm6 (top 84) ["track","rest"] ["track","rest"] λ_ _ _ _ _ _ _ _=>rfl⟩,⟨_,rfl,dI X Gm 496 495 pm6 (top 85) ["track","motions","found","number","end","begin"] ["track"] λ_ _ _ _ _ _ _=>rfl⟩,⟨_,rfl,dI X Gm 501 500 pm6 (top 86) ["track"] ["track"] λ_ _ _ _ _ _ _=>rfl⟩,⟨_,rfl,dI X Gm 508 507 pm6 (top 87) ["motion","ends"] ["motion"] λ_ _ _ _ _ _ _=>rfl⟩,⟨_,rfl,dI X Gm 515 514 pm7 (top 89) ["_law_script","_law_k"] ["_law_script","_law_k"] λ_ _ _ _ _ _ _ _=>rfl⟩,⟨_,rfl,dI X Gm 522 521 pm7 (top 90) ["_law_script","_law_k","_law_many","_law_drawn"] ["_law_script","_law_k","_law_many"] λ_ _ _ _ _ _ _ _ _=>rfl⟩,⟨_,rfl,dI X Gm 529 528 pm7 (top 91) ["_law_one","_law_other"] ["_law_one","_law_other"] λ_ _ _ _ _ _ _ _=>rfl⟩,⟨_,rfl,dI X Gm 536 535 pm7 (top 92) ["_law_up","_law_down","_law_size_here"] ["_law_up","_law_down"] λ_ _ _ _ _ _ _ _=>rfl⟩,⟨_,rfl,dI X Gm 543 542 pm7 (top 93) ["_law_script","_law_at","_law_down"] ["_law_script","_law_at"] λ_ _ _ _ _ _ _ _=>rfl⟩,⟨_,rfl,dI X Gm 550 549 pm7 (top 94) ["_law_script","_law_at","_law_down"] ["_law_script","_law_at"] λ_ _ _ _ _ _ _ _=>rfl⟩,⟨_,rfl,dI X Gm 592 591 pm7 (top 100) ["_law_script","_law_at"] ["_law_script","_law_at"] λ_ _ _ _ _ _ _ _=>rfl⟩,⟨_,rfl,dI X Gm 599 598 pm7 (top 101) ["_law_script","_law_at","_law_deep","_law_way","_law_step","_law_word","_law_one"] ["_law_script","_law_at","_law_deep"] λ_ _ _ _ _ _ _ _ _=>rfl⟩,⟨_,rfl,dI X Gm 606 605 pm7 (top 102) ["_law_plan_here","_law_made_here","_law_again"] ["_law_plan_here"] λ_ _ _ _ _ _ _=>rfl⟩,JSI X Gm,k_ONE X Gm,JND X Gm,JNv X Gm,JRp X Gm,JN6 X Gm,JRs X Gm,JRv X Gm,JKi X Gm,JR4 X Gm,JFX X Gm,JN7 X Gm,JIT X Gm,JID X Gm,JEh X Gm,JKC X Gm,⟨⟨by kernel_rfl,by kernel_rfl,by kernel_rfl⟩,mg_of X Gm (by kernel_rfl)⟩,⟨⟨by kernel_rfl,by kernel_rfl,by kernel_rfl⟩,mg_of X Gm (by kernel_rfl)⟩,⟨⟨by kernel_rfl,by kernel_rfl,by kernel_rfl⟩,mg_of X Gm (by kernel_rfl)⟩,⟨⟨by kernel_rfl,by kernel_rfl,by kernel_rfl⟩,mg_of X Gm (by kernel_rfl)⟩,⟨⟨by kernel_rfl,by kernel_rfl,by kernel_rfl⟩,mg_of X Gm (by kernel_rfl)⟩,⟨⟨by kernel_rfl,by kernel_rfl,by kernel_rfl⟩,mg_of X Gm (by kernel_rfl)⟩,⟨⟨by kernel_rfl,by kernel_rfl,by kernel_rfl⟩,mg_of X Gm (by kernel_rfl)⟩,⟨⟨by kernel_rfl,by kernel_rfl,by kernel_rfl⟩,mg_of X Gm (by kernel_rfl)⟩,⟨⟨by kernel_rfl,by kernel_rfl,by kernel_rfl⟩,mg_of X Gm (by kernel_rfl)⟩,mg_none_of X Gm (by kernel_rfl),mg_none_of X Gm (by kernel_rfl),mg_none_of X Gm (by kernel_rfl),mg_none_of X Gm (by kernel_rfl),mg_none_of X Gm (by kernel_rfl),mg_none_of X Gm (by kernel_rfl),mg_none_of X Gm (by kernel_rfl),mg_none_of X Gm (by kernel_rfl),mg_none_of X Gm (by kernel_rfl),mg_none_of X Gm (by kernel_rfl),mg_none_of X Gm (by kernel_rfl),mg_none_of X Gm (by kernel_rfl),mg_none_of X Gm (by kernel_rfl),trivial,trivial,trivial,trivial,trivial,trivial,trivial,trivial,trivial⟩
theorem ra(w:World):AllR (RaP (Bq w) G) rs :=
 ⟨⟨⟨⟨by kernel_rfl,by kernel_rfl,by kernel_rfl,by kernel_rfl,by kernel_rfl,by kernel_rfl,by kernel_rfl⟩,by kernel_rfl⟩,trivial,trivial,trivial,trivial,trivial,trivial,trivial,trivial,trivial,trivial,trivial,trivial,trivial,trivial,trivial,trivial,trivial,trivial,trivial,trivial,trivial,trivial,trivial,trivial,trivial,trivial,trivial,trivial,trivial,trivial,trivial,trivial,trivial,trivial,trivial,trivial,trivial,trivial,trivial,trivial,trivial,trivial,trivial,trivial,trivial,trivial,trivial,trivial,trivial,trivial,trivial,trivial,trivial,trivial,trivial,trivial,trivial,trivial,trivial,trivial,trivial,trivial,trivial,trivial,trivial,trivial,trivial,trivial,trivial,trivial,trivial,trivial,trivial,trivial,trivial,trivial,trivial,trivial,trivial,trivial,JRq (by kernel_rfl) (by kernel_rfl),JFk (by kernel_rfl),JFk (by kernel_rfl),JRq (by kernel_rfl) (by kernel_rfl),JFk (by kernel_rfl),JFk (by kernel_rfl),JFk (by kernel_rfl),JFk (by kernel_rfl),JFk (by kernel_rfl),trivial,trivial,trivial,trivial,trivial,trivial,trivial,trivial,trivial,trivial,trivial,trivial,trivial,trivial,trivial,trivial,trivial,trivial,trivial,trivial,trivial,trivial⟩,trivial⟩
theorem gnd:(G.map (·.1)).Nodup:=by decide +kernel
theorem walk{d:DefRec}(hd:d.name="law")(hdf:d.params.defaults=[]):WalkO view loose (XL view []) hk.says PySem.Challenge.rw_glideways_k55_whole_first_steps.row.toRowW d [] (λf vs=>PySem.call f vs) :=
 JJK (l:=PySem.Challenge.rw_glideways_k55_whole_first_steps) (K0:=K0) (P0:=622) (c0:=626) (fa0:=627) (n:=14) (cg:=0) (cl:=cl) (tab:=tab) (glo:=glo) (sub:=JFf rs) (G:=G) (tn:="_law_told") (cn:="_law_class") (gn:="GlideError") (dn:="_law_deed") (en:="e") (xk:="_law_kept") (x:="_law_script") (st:=top 105) (stt:=top 104) (stc:=top 103) (N:=["_law_script","_law_plan_here","_law_many","_law_some","_law_made_here","_law_due","_law_step","_law_mine","_law_full","_law_odd","_law_k","_law_thing","_law_told_here"]) (Nc:=["_law_kept","_law_kinds"]) (t:=JGp) (fdc:=d_254)
  rfl hd hdf ⟨rfl,by decide,by decide⟩ (by decide) (λw h Y=>kIn_of Y) (λP=>by kernel_rfl) (λP=>lawI 627 626 (.str "law_glideways_k55_whole_first_steps" 867)) tu2 (bOk λ_ _ _ _ _ _ _=>rfl)
  (λP base x=>JIz (od:=none) (sl:=#[]) (vs:=#[.str "law" 1008,.str "law" 1009,.str "/claim/cut.py" 1010,.int 352 0,.int 1 0,.int 0 0,.int 0 0,.int 3 0,.ref 621,.bool true,.int 181 0,.ref 622,.none,.ref 623,.ref 624,.ref 625,.int 1024 0,.int 352 0,.str "/claim/cut.py" 1025]) (by kernel_rfl) rfl rfl rfl rfl rfl rfl (by decide) base x) (λw h mg X Gm base x=>JQK (bm:=4) (sl:=#[]) X Gm (by kernel_rfl) (by decide) (by decide) (by decide) (by kernel_rfl) base x)
  (λP=>fnI 620 619 (.str "law_glideways_k55_whole_first_steps" 867)) (bOk λ_ _ _ _ _ _ _=>rfl) toldI (λP=>fnI 613 612 (.str "law_glideways_k55_whole_first_steps" 867)) (bOk λ_ _ _ _ _ _ _=>rfl) tuI (by kernel_rfl) (by kernel_rfl) gnd
  (λw h mg KX Gm=>mo_of (mo w KX Gm) (ra w) JI1) (λw h mg KX Gm n=>⟨JHF (JLM (mo w KX Gm) (ra w)) (by kernel_rfl) (λk z=>by cases k with|rev=>exact x_rev|sst=>exact x_sst|dtk=>exact x_dtk|mx2=>exact x_mx2) ⟨λ_ X XX g=>JJA g,λ_ X XX g=>JIH g,nofl (by kernel_rfl),JPs,JRE⟩ (nofl (by kernel_rfl)),⟨JQl,JPA,nofl (by kernel_rfl)⟩⟩)
  (λw h mg KX Gm n=>⟨JHF (JNw (JML gnd) (JLM (mo w KX Gm) (ra w))) (by kernel_rfl) (λk z=>by cases k with|rev=>exact x_no (by kernel_rfl) z|sst=>exact x_no (by kernel_rfl) z|dtk=>exact x_no (by kernel_rfl) z|mx2=>exact x_no (by kernel_rfl) z) ⟨λ_ X XX g=>JJA g,λ_ X XX g=>JIH g,nofl (by kernel_rfl),nofl (by kernel_rfl),nofl (by kernel_rfl)⟩ (nofl (by kernel_rfl)),⟨nofl (by kernel_rfl),nofl (by kernel_rfl),nofl (by kernel_rfl)⟩⟩)
  (λns hl=>JJV (n:=0) ⟨rfl,rfl,rfl,rfl,rfl,rfl,rfl,rfl,rfl⟩ rfl ns)
end V55
open PySem PySem.W PyProof.Rows
set_option maxRecDepth 100000 in
set_option maxHeartbeats 0 in
theorem PySem.Challenge.cw_glideways_k55_whole_first_steps_holds : PySem.Challenge.rw_glideways_k55_whole_first_steps.Holds := by
 w_on
 refine holds_law V55.said λsaid=>?_;refine holds_open (q:=V55.view) (loose:=V55.loose) (XP:=XL V55.view []) (Yf:=V55.hk.obs) (Ya:=V55.hk.val) (YP:=V55.hk.says) V55.left V55.hk.of V55.hk.keeps (λs e=>xl_of s (Bool.and_eq_true_iff.mp e).1) XL.keeps (by rfl) (by rfl) (by rfl) (λs e=>recFacts_of (Bool.and_eq_true_iff.mp e).2) (by rfl) (by first|assumption|decide +kernel) (by decide +kernel) ⟨rfl,rfl,rfl,rfl,rfl,by decide +kernel⟩ ?hw (V55.walk rfl rfl)
 case hw=>w_witness2
end
