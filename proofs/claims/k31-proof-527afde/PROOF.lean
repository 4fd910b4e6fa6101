import PyProof.Rows.All
import Wide.All
import OpenK.AllK
import Wide.FinOn
import Lean
import PyProof.EqAt
import PyProof.EqKinds
import PyProof.TupleCall
import KE.KIsAll
import KE.KRevIter
import KE.KSortTup
import KE.KTryMore
import OpenK.KRaise
import PyProof.CollectWalk
import PyProof.CompFree
import PyProof.ConsumeWalk
import PyProof.ExcAttrAll.ValueError
import PyProof.FactsAll.list_3
import PyProof.FactsAll.tuple_2
import PyProof.Fits
import PyProof.Lay0
import PyProof.P3Statements
import PyProof.Rows.SetFrom
import PyProof.SetKind
import PyProof.TupleKey
import PySem.Eval
import PySem.Challenge.RW_glideways_k31_whole_tracks
theorem fF{p:Prop}(h:False):p:=h.elim
abbrev Pq:=List (PySem.Addr×PySem.Obj)
abbrev Nq:=List (PySem.Str×PySem.NameKind)
abbrev Mq:=PySem.Str->Option PySem.Value
abbrev Vq:=PySem.Value->PySem.Shared->Prop
abbrev Kq:=PySem.W.Frag
def q_a:=@Option.bind_eq_some_iff
def q_b:=@PySem.wpAny_bind
def q_c:=@PySem.Heap.get?_push_of_some
def q_d:=@Option.map_eq_some_iff
def q_e:=@PySem.wpAny_pure
def q_f:=@List.size_toArray
def q_g:=@List.length_map
def q_h:=@PySem.Heap.lt_size
def q_i:=@Bool.and_eq_true
def q_j:=@Option.some.injEq
def q_k:=@PySem.Heap.get?_push_size
def q_l:=@Nat.ne_of_lt
def q_m:=@Nat.lt_of_lt_of_le
def q_n:=@List.mem_cons
def q_o:=@decide_eq_false
def q_p:=@List.getElem?_eq_some_iff
def q_q:=@List.getElem?_eq_getElem
def q_r:=@List.mem_append_right
def q_s:=@List.mem_cons_of_mem
def q_t:=@Nat.le_refl
def q_u:=@List.length_append
def q_v:=@Bool.false_eq_true
def q_x:=@List.filter_cons_of_neg
def q_y:=@List.filter_cons_of_pos
def q_z:=@List.getElem?_set_self
def q_A:=@List.getElem?_set_ne
def q_B:=@List.length_eq_zero_iff
def q_C:=@List.getElem?_append_left
def q_D:=@decide_eq_true_eq
def q_E:=@Nat.lt_succ_of_lt
def q_F:=@Array.length_toList
set_option genSizeOf false
set_option Elab.async false
set_option compiler.extract_closed false
set_option bootstrap.genMatcherCode false
set_option maxRecDepth 100000 in set_option maxHeartbeats 0 in theorem V31.said:PySem.Challenge.rw_glideways_k31_whole_tracks.wellSaid=true:=by kernel_rfl
set_option maxRecDepth 100000
set_option Elab.async false
set_option linter.all false
namespace L2
open PySem PySem.Spec PyProof.Rows
noncomputable abbrev Key:=Sum Int Str
noncomputable def JJY:Key->Value->Bool
 |.inl k,v=>Value.isInt k v
 |.inr x,v=>Value.isStrOf x v
noncomputable def keyH(w:World):Key->Int
 |.inl k=>hashInt k
 |.inr x=>hashStr w x
theorem JAe:∀ {k:Key}{v:Value},JJY k v=true->(∃i t,k=Sum.inl i/\v=Value.int i t)\/(∃x t,k=Sum.inr x/\v=Value.str x t)
 |.inl i,v,h=>by
  obtain⟨t,e⟩:=Value.isInt_shape (k:=i) (v:=v) h;exact .inl ⟨i,t,rfl,e⟩
 |.inr x,v,h=>by
  obtain⟨t,e⟩:=Value.isStrOf_shape (x:=x) (v:=v) h;exact .inr ⟨x,t,rfl,e⟩
theorem JH9(x:Str)(t:Tok):JJY (.inr x) (.str x t)=true:=by simp[JJY,Value.isStrOf]
theorem JOe(a b:Int):decide ((Sum.inl a:Key)=Sum.inl b)=(a==b):=by
 by_cases e:a=b
 ·subst e;simp
 ·have h:¬(Sum.inl a:Key)=Sum.inl b:=λq=>e (Sum.inl.inj q);rw[q_o h];exact(beq_eq_false_iff_ne.mpr e).symm
theorem JOw(a b:Str):decide ((Sum.inr a:Key)=Sum.inr b)=decide (a=b):=by
 by_cases e:a=b
 ·subst e;simp
 ·have h:¬(Sum.inr a:Key)=Sum.inr b:=λq=>e (Sum.inr.inj q);rw[q_o h,q_o e]
theorem JOs(a:Int)(b:Str):decide ((Sum.inl a:Key)=Sum.inr b)=false:=q_o (λq=>nomatch q)
theorem JP0(a:Str)(b:Int):decide ((Sum.inr a:Key)=Sum.inl b)=false:=q_o (λq=>nomatch q)
noncomputable def JBH(prog:Program)(w:World):PySem.KeyKind prog w Key where
 is:=JJY
 hash:=keyH w
 inj:=λv a b ha hb=>by
  rcases JAe ha with ⟨i,t,rfl,rfl⟩|⟨x,t,rfl,rfl⟩
  ·rcases JAe hb with ⟨j,u,rfl,e⟩|⟨y,u,rfl,e⟩
   ·injection e with e1 _;rw[e1]
   ·exact nomatch e
  ·rcases JAe hb with ⟨j,u,rfl,e⟩|⟨y,u,rfl,e⟩
   ·exact nomatch e
   ·injection e with e1 _;rw[e1]
 byValue:=λk v h=>by
  rcases JAe h with ⟨i,t,rfl,rfl⟩|⟨x,t,rfl,rfl⟩<;>rfl
 pyHash:=λhv h=>by
  rcases JAe hv with ⟨i,t,rfl,rfl⟩|⟨x,t,rfl,rfl⟩
  ·exact wpAny_pyHash_int h
  ·exact wpAny_pyHash_str h
 eqBool:=λhu hv h=>by
  rcases JAe hu with ⟨i,t,rfl,rfl⟩|⟨x,t,rfl,rfl⟩
  ·rcases JAe hv with ⟨j,u,rfl,rfl⟩|⟨y,u,rfl,rfl⟩
   ·rw[JOe]at h;exact wpAny_eqBool_int h
   ·rw[JOs]at h;exact SeqAt.EqAt.int_str i t y u _ _ _ _ h
  ·rcases JAe hv with ⟨j,u,rfl,rfl⟩|⟨y,u,rfl,rfl⟩
   ·rw[JP0]at h;exact SeqAt.EqAt.str_int x t j u _ _ _ _ h
   ·rw[JOw]at h;exact wpAny_eqBool_str h
 «strs»:=λk x t v h=>by
  rcases JAe h with ⟨i,u,rfl,e⟩|⟨y,u,rfl,e⟩
  ·exact nomatch e
  ·injection e with e1 _
   subst e1;cases v<;>rfl
theorem JC4(prog:Program)(w:World)(x:Str)(t:Tok):(JBH prog w).is (.inr x) (.str x t)=true:=JH9 x t
end L2
namespace L2
open PySem PySem.Spec PyProof.Rows
inductive V where
 |non|bl (b:Bool)|int (i:Int)|str (x:Str)|byt (b:Array UInt8)|flt (b:UInt64)|ref (a:Addr)|ty (n:String)
 deriving DecidableEq
def RelV:V->Value->Prop
 |.non,u=>u=Value.none
 |.bl b,u=>u=Value.bool b
 |.int i,u=>∃t,u=Value.int i t
 |.str x,u=>∃t,u=Value.str x t
 |.byt b,u=>∃t,u=Value.bytes b t
 |.flt b,u=>∃t,u=Value.float b t
 |.ref a,u=>u=Value.ref a
 |.ty n,u=>u=Value.type n
abbrev Vals:List V->List Value->Prop:=Paired RelV
theorem Vals.length{xs:List V}{us:List Value}(r:Vals xs us):xs.length=us.length:=Paired.length r
theorem Vals.get:∀ {xs:List V}{us:List Value}{i:Nat}{x:V},Vals xs us->xs[i]? = some x->∃u,us[i]? = some u/\RelV x u
 |_,_,_,_,.nil,e=>by simp at e
 |_,_,0,_,.cons r _,e=>by simp at e;subst e;exact⟨_,rfl,r⟩
 |_,_,i+1,x,.cons _ t,e=>by
  obtain⟨u,h1,h2⟩:=Vals.get (i:=i) (x:=x) t (by simpa using e)
  exact⟨u,by simpa using h1,h2⟩
theorem Vals.append:∀ {xs ys:List V}{us ws:List Value},Vals xs us->Vals ys ws->Vals (xs++ys) (us++ws)
 |_,_,_,_,.nil,s=>s
 |_,_,_,_,.cons r t,s=>.cons r (Vals.append t s)
theorem Vals.take:∀ {xs:List V}{us:List Value}(n:Nat),Vals xs us->Vals (xs.take n) (us.take n)
 |_,_,0,_=>.nil
 |_,_,_+1,.nil=>.nil
 |_,_,n+1,.cons r t=>.cons r (Vals.take n t)
theorem Vals.drop:∀ {xs:List V}{us:List Value}(n:Nat),Vals xs us->Vals (xs.drop n) (us.drop n)
 |_,_,0,r=>r
 |_,_,_+1,.nil=>.nil
 |_,_,n+1,.cons _ t=>Vals.drop n t
def RelO:Option V->Option Value->Prop
 |some v,some u=>RelV v u
 |none,none=>True
 |_,_=>False
def KV{κ:Type}:List (κ×V)->List (κ×Value)->Prop:=Paired λ(p:κ×V) (q:κ×Value)=>p.1=q.1/\RelV p.2 q.2
noncomputable def kV:Key->V
 |.inl i=>.int i
 |.inr x=>.str x
inductive HO where
 |lst (xs:List V)
 |tup (xs:List V)
 |dK (kvs:List (Key×V))|dT (kvs:List (List Key×V))
 |set (S:Int->Bool) (n:Nat)
 |ins (C dx:Addr) (fs:List (Str×V))
 |own (x:Addr)
 |xd (fs:List (Str×V))
 |met (f x:Addr)
 |rng (lo hi:Int)
 |frz (o:Obj) (u:HO)
 |tbl (ps:Array Value)
 |ext (φ:Heap->Prop)
noncomputable abbrev Hp:=Addr->Option HO
noncomputable def upd(H:Hp)(a:Addr)(o:HO):Hp:=λb=>if b=a then some o else H b
theorem JAI{H:Hp}{a:Addr}{o:HO}:upd H a o a=some o:=by unfold upd;rw[if_pos rfl]
theorem JAK{H:Hp}{a b:Addr}{o:HO}(h:b≠a):upd H a o b=H b:=by unfold upd;rw[if_neg h]
theorem JAZ{H:Hp}{a b:Addr}{o:HO}(h:H a=some o)(h':H b=none):a≠b:=by
 intro e;subst e;rw[h]at h';cases h'
section
variable(P:Program)(w:World)
def ObjOk(H:Hp)(h:Heap)(a:Addr):HO->Prop
 |.lst xs=>xs.length<=sizeLine/\∃(its:List Value) (n:Nat),Vals xs its/\h.get? a=some { cls:=.type "list",data:=.seq its.toArray n }
 |.tup xs=>xs.length<=sizeLine/\∃its:List Value,Vals xs its/\IsTup h a its.toArray
 |.dK kvs=>kvs.length<=sizeLine/\(a==sysModules)=false/\∃vs,KV kvs vs/\h.DictOf (JBH P w) a vs
 |.dT kvs=>kvs.length<=sizeLine/\(a==sysModules)=false/\∃xs:List (List Key×Addr×Value),
  Paired (λ(p:List Key×V) (q:List Key×Addr×Value)=>p.1=q.1/\H q.2.1=some (.tup (p.1.map kV))/\RelV p.2 q.2.2) kvs xs /\
  ∃o es ep,h.get? a=some o/\o.ExactDict/\o.data=.dict es ep/\es.toList=xs.map (entryOfKey (tupleKind (JBH P w)))/\(xs.map (·.1)).Nodup
 |.set S n=>h.SetOf (intKind P w) a S n
 |.ins C dx fs=>H dx=some (.own a)/\fs.length<=1000/\dx≠a/\h.get? a=some (PySem.W.instObj C dx) /\
  ∃mA,h.Ns1 dx mA/\(∀f,RelO (fs.lookup f) (mA f))/\PySem.Within mA (fs.map (·.1))
 |.own _=>∃o,h.get? a=some o
 |.xd fs=>∃mA,h.Ns1 a mA/\∀f,RelO (fs.lookup f) (mA f)
 |.rng lo hi=>∃t u v,h.get? a=some { cls:=.type "range",data:=.fields #[.int lo t,.int hi u,.int 1 v] }
 |.frz o u=>h.get? a=some o/\ObjOk H h a u
 |.tbl ps=>h.get? a=some { cls:=.none,data:=.fields ps }
 |.met f x=>h.get? a=some (PySem.W.methodObj (.ref f) (.ref x))
 |.ext φ=>φ h/\(∃o,h.get? a=some o)/\∀h1 h2:Heap,φ h1->(∀o,h1.get? a=some o->h2.get? a=some o)->φ h2
def HOk(H:Hp)(h:Heap):Prop:=∀a o,H a=some o->ObjOk P w H h a o
end
section
variable{P:Program}{w:World}{H H':Hp}{h h':Heap}{a:Addr}{o:HO}
theorem ObjOk.lt(x:ObjOk P w H h a o):a<h.objs.size:=by
 cases o with
 |lst xs=>obtain⟨_,_,_,_,e⟩:=x;exact q_h e
 |tup xs=>obtain⟨_,_,_,p⟩:=x;exact p.lt
 |dK kvs=>obtain⟨_,_,_,_,o,_,_,e,_⟩:=x;exact q_h e
 |dT kvs=>obtain⟨_,_,_,_,o,_,_,e,_⟩:=x;exact q_h e
 |set S n=>obtain⟨o,_,_,_,e,_⟩:=x;exact q_h e
 |ins C dx fs=>obtain⟨_,_,_,e,_⟩:=x;exact q_h e
 |own y=>obtain⟨_,e⟩:=x;exact q_h e
 |xd fs=>obtain⟨_,⟨_,_,_,e,_⟩,_⟩:=x;exact q_h e
 |rng lo hi=>obtain⟨_,_,_,e⟩:=x;exact q_h e
 |frz ob u=>obtain⟨e,_⟩:=x;exact q_h e
 |tbl ps=>exact q_h (show h.get? a=some _ from x)
 |met f y=>exact q_h (show h.get? a=some _ from x)
 |ext φ=>obtain⟨_,⟨_,e⟩,_⟩:=x;exact q_h e
theorem Paired.mapP{α β:Type}{F G:α->β->Prop}:∀ {l₁:List α}{l₂:List β},Paired F l₁ l₂->(∀a b,F a b->G a b)->Paired G l₁ l₂
 |_,_,.nil,_=>.nil
 |_,_,.cons r t,f=>.cons (f _ _ r) (Paired.mapP t f)
theorem ObjOk.stay(x:ObjOk P w H h a o)(k:∀b u,(b=a\/H b=some (.own a))->h.get? b=some u->h'.get? b=some u)
  (ho:∀b,H b=some (.own a)->H' b=some (.own a)) (ht:∀b xs,H b=some (.tup xs)->H' b=some (.tup xs)):ObjOk P w H' h' a o:=by
 induction o with
 |lst xs=>obtain⟨z,its,n,r,e⟩:=x;exact⟨z,its,n,r,k _ _ (.inl rfl) e⟩
 |tup xs=>obtain⟨z,its,r,ob,e,c⟩:=x;exact⟨z,its,r,ob,k _ _ (.inl rfl) e,c⟩
 |dK kvs=>obtain⟨z,y,vs,r,ob,es,ep,e,c⟩:=x;exact⟨z,y,vs,r,ob,es,ep,k _ _ (.inl rfl) e,c⟩
 |dT kvs =>
  obtain⟨z,y,xs,r,ob,es,ep,e,c⟩:=x;exact⟨z,y,xs,Paired.mapP r λp q z=>⟨z.1,ht _ _ z.2.1,z.2.2⟩,ob,es,ep,k _ _ (.inl rfl) e,c⟩
 |set S n=>obtain⟨ob,es,ep,t,e,c⟩:=x;exact⟨ob,es,ep,t,k _ _ (.inl rfl) e,c⟩
 |ins C dx fs =>
  obtain⟨d,z,ne,e,mA,⟨od,es,ep,e2,c⟩,r⟩:=x;exact⟨ho _ d,z,ne,k _ _ (.inl rfl) e,mA,⟨od,es,ep,k _ _ (.inr d) e2,c⟩,r⟩
 |own y=>obtain⟨ob,e⟩:=x;exact⟨ob,k _ _ (.inl rfl) e⟩
 |xd fs=>obtain⟨mA,⟨od,es,ep,e,c⟩,r⟩:=x;exact⟨mA,⟨od,es,ep,k _ _ (.inl rfl) e,c⟩,r⟩
 |rng lo hi=>obtain⟨t,u,v,e⟩:=x;exact⟨t,u,v,k _ _ (.inl rfl) e⟩
 |frz ob u ih=>obtain⟨e,q⟩:=x;exact⟨k _ _ (.inl rfl) e,ih q⟩
 |tbl ps =>
  have e:h.get? a=some { cls:=.none,data:=.fields ps }:=x;show h'.get? a=some { cls:=.none,data:=.fields ps };exact k a _ (.inl rfl) e
 |met f y =>
  have e:h.get? a=some (PySem.W.methodObj (.ref f) (.ref y)):=x;show h'.get? a=some (PySem.W.methodObj (.ref f) (.ref y));exact k a _ (.inl rfl) e
 |ext φ=>obtain⟨p,⟨o,e⟩,st⟩:=x;exact⟨st _ _ p λo q=>k _ _ (.inl rfl) q,⟨o,k _ _ (.inl rfl) e⟩,st⟩
theorem HOk.lt(x:HOk P w H h)(e:H a=some o):a<h.objs.size:=(x a o e).lt
theorem HOk.fresh(x:HOk P w H h)(e:h.objs.size<=a):H a=none:=by
 cases q:H a with
 |none=>rfl
 |some u=>exact absurd (q_m (x.lt q) e) (Nat.lt_irrefl _)
theorem HOk.kept(x:HOk P w H h)(k:∀b u,h.get? b=some u->h'.get? b=some u):HOk P w H h':=λa o e =>
 (x a o e).stay (λb u _ q=>k b u q) (λ_ q=>q) λ_ _ q=>q
theorem HOk.laid(x:HOk P w H h)(k:∀b u,h.get? b=some u->h'.get? b=some u)(hp:h.objs.size<=a)(new:ObjOk P w (upd H a o) h' a o):HOk P w (upd H a o) h':=λb u e=>by
 have hn:=x.fresh hp
 by_cases hb:b=a
 ·subst hb;rw[JAI]at e;cases e;exact new
 ·rw[JAK hb]at e;exact(x b u e).stay (λc v _ q=>k c v q) (λc q=>by rw[JAK (JAZ q hn)];exact q) λc xs q=>by rw[JAK (JAZ q hn)];exact q
end
def Rd(H:Hp)(a:Addr)(u:HO):Prop:=H a=some u\/∃o,H a=some (.frz o u)
theorem Rd.of{H:Hp}{a:Addr}{u:HO}(h:H a=some u):Rd H a u:=.inl h
theorem Rd.ok{P:Program}{w:World}{H:Hp}{h:Heap}{a:Addr}{u:HO}(r:Rd H a u)(x:HOk P w H h):ObjOk P w H h a u:=by
 rcases r with r|⟨o,r⟩
 ·exact x a u r
 ·obtain⟨_,q⟩:=x a _ r;exact q
def Mut:Option HO->Prop
 |some (.lst _)=>True
 |some (.dK _)=>True
 |some (.dT _)=>True
 |some (.set _ _)=>True
 |some (.ins _ _ _)=>True
 |some (.ext _)=>True
 |_=>False
section
variable{P:Program}{w:World}{H:Hp}{h h':Heap}{x e:Addr}{o':HO}
theorem HOk.write(ok:HOk P w H h)(mu:Mut (H x))(he:e=x\/H e=some (.own x))(k:∀b u,b≠e->h.get? b=some u->h'.get? b=some u)(heo:∃u,h'.get? e=some u)
  (new:ObjOk P w (upd H x o') h' x o'):HOk P w (upd H x o') h':=λb u q=>by
 have nown:∀c y,H c=some (.own y)->c≠x:=λc y r z=>by subst z;rw[r]at mu;exact mu
 have ntup:∀c xs,H c=some (.tup xs)->c≠x:=λc xs r z=>by subst z;rw[r]at mu;exact mu
 by_cases hb:b=x
 ·subst hb;rw[JAI]at q;cases q;exact new
 ·rw[JAK hb]at q
  by_cases hbe:b=e
  · have q':H b=some (.own x):=by
     rcases he with z|z
     ·exact absurd (hbe.trans z) hb
     ·rw[hbe];exact z
    rw[q]at q';cases q';obtain⟨v,hv⟩:=heo;exact⟨v,by rw[hbe];exact hv⟩
  · refine(ok b u q).stay (λc v hc r=>k c v ?_ r) (λc r=>by rw[JAK (nown c b r)];exact r) λc xs r=>by rw[JAK (ntup c xs r)];exact r
    rcases hc with rfl|hc
    ·exact hbe
    ·rintro rfl;rcases he with z|z
     ·exact nown c b hc z
     ·rw[hc]at z;cases z;exact hb rfl
end
structure Un(fs ex:List Addr)(H H':Hp)(h h':Heap):Prop where
 keep:∀b o,h.get? b=some o->H b=none->b ∉ fs->b ∉ ex->h'.get? b=some o
 slot:∀b o,h.get? b=some o->H b=none->b∈fs->b ∉ ex->∃sl,h'.get? b=some { o with slots:=sl }
 free:∀b o,h.get? b=some o->H b=none->b ∉ ex->H' b=none
 there:∀b o,h.get? b=some o->b ∉ ex->∃o',h'.get? b=some o'
 tups:∀b xs,H b=some (.tup xs)->H' b=some (.tup xs)
 frzs:∀b o u,H b=some (.frz o u)->H' b=some (.frz o u)
 tbls:∀b ps,H b=some (.tbl ps)->∃more,H' b=some (.tbl (ps++more))
section
variable{fs fs' ex ex':List Addr}{H H1 H2:Hp}{h h1 h2 h':Heap}{a x e:Addr}{o:HO}
theorem Un.any(u:Un fs ex H H1 h h1){b:Addr}{ob:Obj}(q:h.get? b=some ob)(n:H b=none)(hx:b ∉ ex):∃sl,h1.get? b=some { ob with slots:=sl }:=by
 by_cases hb:b∈fs
 ·exact u.slot b ob q n hb hx
 ·exact⟨ob.slots,u.keep b ob q n hb hx⟩
theorem Un.trans(a:Un fs ex H H1 h h1)(b:Un fs ex H1 H2 h1 h2):Un fs ex H H2 h h2 where
 keep:=λc ob q n hc hx=>b.keep c ob (a.keep c ob q n hc hx) (a.free c ob q n hx) hc hx
 slot:=λc ob q n hc hx=>by
  obtain⟨sl,e1⟩:=a.slot c ob q n hc hx;obtain⟨sl',e2⟩:=b.slot c _ e1 (a.free c ob q n hx) hc hx;exact⟨sl',e2⟩
 free:=λc ob q n hx=>by
  obtain⟨o',e1⟩:=a.there c ob q hx;exact b.free c o' e1 (a.free c ob q n hx) hx
 there:=λc ob q hx=>by
  obtain⟨o',e1⟩:=a.there c ob q hx;exact b.there c o' e1 hx
 tups:=λc xs q=>b.tups c xs (a.tups c xs q)
 frzs:=λc ob xs q=>b.frzs c ob xs (a.frzs c ob xs q)
 tbls:=λc ps q=>by
  obtain⟨m1,e1⟩:=a.tbls c ps q;obtain⟨m2,e2⟩:=b.tbls c _ e1;exact⟨m1++m2,by rw[e2,Array.append_assoc]⟩
theorem Un.kept(k:∀b u,h.get? b=some u->h'.get? b=some u):Un fs ex H H h h' :=
 ⟨λb ob q _ _ _=>k b ob q,λb ob q _ _ _=>⟨ob.slots,k b ob q⟩,λ_ _ _ n _=>n,λb ob q _=>⟨ob,k b ob q⟩,λ_ _ q=>q,λ_ _ _ q=>q,λ_ ps q=>⟨#[],by rw[q];simp⟩⟩
theorem Un.refl:Un fs ex H H h h:=Un.kept λ_ _ q=>q
theorem Un.laid(k:∀b u,h.get? b=some u->h'.get? b=some u)(hp:h.objs.size<=a)(hn:H a=none):Un fs ex H (upd H a o) h h' where
 keep:=λb u q _ _ _=>k b u q
 slot:=λb u q _ _ _=>⟨u.slots,k b u q⟩
 free:=λb u q n _=>by rw[JAK (q_l (q_m (q_h q) hp))];exact n
 there:=λb u q _=>⟨u,k b u q⟩
 tups:=λb xs q=>by rw[JAK (JAZ q hn)];exact q
 frzs:=λb u xs q=>by rw[JAK (JAZ q hn)];exact q
 tbls:=λb ps q=>⟨#[],by rw[JAK (JAZ q hn),q];simp⟩
theorem Un.write(mu:Mut (H x))(he:e=x\/H e=some (.own x))(k:∀b u,b≠e->h.get? b=some u->h'.get? b=some u)(heo:∃u,h'.get? e=some u):Un fs ex H (upd H x o) h h':=by
 have hx:∀b,H b=none->b≠x:=λb n z=>by subst z;rw[n]at mu;exact mu
 have hb:∀b,H b=none->b≠e:=λb n z=>by
  subst z;rcases he with r|r
  ·exact hx b n r
  ·rw[n]at r;cases r
 have hm:∀b u,H b=some u->¬Mut (some u)->b≠x:=λb u q nm z=>by subst z;rw[q]at mu;exact nm mu
 refine⟨λb u q n _ _=>k b u (hb b n) q,λb u q n _ _=>⟨u.slots,k b u (hb b n) q⟩,λb u q n _=>by rw[JAK (hx b n)];exact n,λb u q _=>?_,
  λb xs q=>by rw[JAK (hm b _ q λz=>z)];exact q,λb u xs q=>by rw[JAK (hm b _ q λz=>z)];exact q,λb ps q=>⟨#[],by rw[JAK (hm b _ q λz=>z),q];simp⟩⟩
 by_cases hbe:b=e
 ·subst hbe;exact heo
 ·exact⟨u,k b u hbe q⟩
theorem Un.mono(u:Un fs ex H H1 h h1)(hs:∀b∈fs,b∈fs')(hx:∀b∈ex,b∈ex'):Un fs' ex' H H1 h h1 :=
 ⟨λb ob q n hb he=>u.keep b ob q n (λz=>hb (hs b z)) λz=>he (hx b z),λ_ _ q n _ he=>u.any q n λz=>he (hx _ z),λb ob q n he=>u.free b ob q n λz=>he (hx b z),λb ob q he=>u.there b ob q λz=>he (hx b z),u.tups,u.frzs,u.tbls⟩
end
noncomputable def trk(h:Heap)(H:Hp):List Addr:=(List.range h.objs.size).filter λa=>(H a).isSome
noncomputable def hidT(h:Heap)(H:Hp):Heap:=PySem.W.hideAll h (trk h H)
theorem JIh(h:Heap)(H:Hp):(hidT h H).objs.size=h.objs.size:=PySem.W.hideAll_size _ _
theorem JJt{b:Addr}(e:h.get? b=some o)(n:H b=none):(hidT h H).get? b=some o :=
 PySem.W.hideAll_get _ e λhm=>by
  have q:(H b).isSome=true:=(List.mem_filter.mp hm).2;rw[n]at q;simp at q
theorem JMh{b:Addr}(e:(hidT h H).get? b=some o):h.get? b=some o/\H b=none:=by
 have e':h.get? b=some o:=PySem.W.of_hideAll (trk h H) e;refine⟨e',?_⟩;cases q:H b with
 |none=>rfl
 |some x =>
  have hm:b∈trk h H:=List.mem_filter.mpr ⟨List.mem_range.mpr (q_h e'),by simp[q]⟩
  have z:(hidT h H).get? b=none:=PySem.W.hideAll_none (trk h H) hm;rw[z]at e;cases e
noncomputable def JL5(g h:Heap)(L:Addr):Pq:=(List.range h.objs.size).filterMap λa=>if a=L\/(g.get? a).isSome=true then none else (h.get? a).map λo=>(a,o)
noncomputable def rest(g h:Heap)(L d:Addr):Pq:=(JL5 g h L).filter λp=>decide (p.1≠d)
end L2
namespace L2
open PySem PySem.Spec PyProof.Rows
structure Mod(K:Kq)(mg:Mq)(base:Heap):Prop where
 kin:K.In base
 glob:base.Ns mainGlobals mg
 blt:∃mb,base.Ns builtinsNs mb/\∀x:Str,x≠"__name__"->mb x=bootBuiltins x
 nolimit:base.NoLimit
structure Cx where
 prog:Program
 w:World
 K:Kq
 mg:Str->Option Value
 base:Heap
 A:Around
 N:List Str
 s₀:Shared
 H₀:Hp
 env:Env
 outer:List Env
 stack:List Env
 ex:List Addr
 fn:Str->Bool
 calm:Bool
 pn:Pq
 xe:Vq
noncomputable def frs(l:List Env):List Addr:=l.filterMap (·.frame)
noncomputable abbrev Cx.fs(X:Cx):List Addr:=frs X.outer
def Vis(sc:Scope)(x:Str):Prop:=sc.names.lookup x=some .local\/sc.names.lookup x=some .cell\/sc.names.lookup x=some .free
def Loc(sc:Scope)(x:Str):Prop:=sc.names.lookup x=some .local\/sc.names.lookup x=some .cell
def Look(env:Env)(h:Heap)(m:Mq)(x:Str)(u:Value):Prop :=
 (env.kindOf x=some .local/\m x=some u)\/((env.kindOf x=some .cell\/env.kindOf x=some .free)/\∃c,env.cells.lookup x=some c/\h.IsCell c (some u))
structure Cx.Ok(X:Cx):Prop where
 mod:Mod X.K X.mg X.base
 kind:X.env.scope.kind=.function
 glob:X.env.globals=mainGlobals
 blt:X.env.builtins=builtinsNs
 above:X.s₀.heap.objs.size<=X.env.locals
 inj:∀x y c,X.env.cells.lookup x=some c->X.env.cells.lookup y=some c->x=y
 has:∀x,(X.env.kindOf x=some .cell\/X.env.kindOf x=some .free)->∃c,X.env.cells.lookup x=some c
 cab:∀x c,X.fn x=true->X.env.cells.lookup x=some c->X.s₀.heap.objs.size<=c
 hd:X.calm=true->X.A.handled=none
 frames:X.A.frames=some X.stack
 stk:X.stack=X.outer\/(X.stack=X.env::X.outer/\X.env.frame=some X.env.locals)
 exf:∀b∈X.ex,b≠X.env.locals/\∀x c,X.env.cells.lookup x=some c->c≠b
 bs:∀b o,X.base.get? b=some o->X.s₀.heap.get? b=some o/\X.H₀ b=none
 bsz:X.base.objs.size<=X.s₀.heap.objs.size
 noex:∀b o,X.base.get? b=some o->b ∉ X.ex
 exfs:∀b∈X.ex,b ∉ X.fs
 funs:X.s₀.heap.FunFrames X.base X.outer
 frf:∀b∈X.fs,X.H₀ b=none
structure Inv(X:Cx)(pins:Pq)(σ:List (Option V))(H:Hp)(s:Shared):Prop where
 ok:X.Ok
 os:s.os=X.s₀.os
 bare:AllBare s.gens
 base:Un X.fs X.ex X.H₀ H X.s₀.heap s.heap
 loc:∃m,s.heap.Ns X.env.locals m/\∀(i:Nat) (x:Str) (v:V),X.N[i]? = some x->σ[i]? = some (some v)->Vis X.env.scope x->∃u,RelV v u/\Look X.env s.heap m x u
 cell:∀x c,X.env.cells.lookup x=some c->∃v,s.heap.IsCell c v
 free:H X.env.locals=none
 freeC:∀x c,X.env.cells.lookup x=some c->H c=none
 pin:∀p∈X.pn++pins,s.heap.get? p.1=some p.2/\H p.1=none/\p.1≠X.env.locals/\p.1 ∉ X.fs/\∀v,p.2.data≠.cell v
 hok:HOk X.prog X.w H s.heap
 len:σ.length=X.N.length
section
variable{X:Cx}{pins:Pq}{σ:List (Option V)}{H H':Hp}{s:Shared}{h':Heap}
theorem Cx.Ok.nofr(ok:X.Ok){b:Addr}(e:X.base.get? b=some o):b ∉ X.fs:=λhb=>by
 have:=(ok.funs.mem hb).1;rw[e]at this;cases this
theorem Inv.bs(I:Inv X pins σ H s):∀b o,X.base.get? b=some o->s.heap.get? b=some o/\H b=none:=λb o e =>
 ⟨I.base.keep b o (I.ok.bs b o e).1 (I.ok.bs b o e).2 (I.ok.nofr e) (I.ok.noex b o e),I.base.free b o (I.ok.bs b o e).1 (I.ok.bs b o e).2 (I.ok.noex b o e)⟩
theorem Inv.bk(I:Inv X pins σ H s):∀b o,X.base.get? b=some o->s.heap.get? b=some o:=λb o e=>(I.bs b o e).1
theorem Inv.mod(I:Inv X pins σ H s):Mod X.K X.mg X.base:=I.ok.mod
theorem Inv.kIn(I:Inv X pins σ H s):X.K.In s.heap:=I.ok.mod.kin.keeps I.bk
theorem Inv.lt(I:Inv X pins σ H s):X.env.locals<s.heap.objs.size:=let ⟨_,hn,_⟩:=I.loc;hn.lt
theorem Inv.sz(I:Inv X pins σ H s):X.s₀.heap.objs.size<=s.heap.objs.size:=Nat.le_trans I.ok.above (Nat.le_of_lt I.lt)
theorem Inv.nofs(I:Inv X pins σ H s){a:Addr}(h:s.heap.objs.size<=a):a ∉ X.fs:=λhb=>by
 obtain⟨_,o,ho,_⟩:=I.ok.funs.mem hb;exact absurd (q_m (q_h ho) (Nat.le_trans I.sz h)) (Nat.lt_irrefl _)
theorem Inv.cne(I:Inv X pins σ H s):∀x c,X.env.cells.lookup x=some c->c≠X.env.locals:=λx c e z=>by
 obtain⟨v,o,ho,hd⟩:=I.cell x c e;obtain⟨m,⟨o',es,ep,ho',hd',_⟩,_⟩:=I.loc;rw[z,ho']at ho;cases ho;rw[hd']at hd;cases hd
theorem Inv.funs(I:Inv X pins σ H s):s.heap.FunFrames X.base X.outer:=by
 have all:∀(l:List Env),(∀b∈frs l,b∈X.fs)->X.s₀.heap.FunFrames X.base l->s.heap.FunFrames X.base l:=by
  intro l
  induction l with
  |nil=>intro _ _;trivial
  |cons env r ih =>
   intro hs hl;obtain⟨hk,⟨L,o,hf,hn,ho,hd⟩,hr⟩:=hl;have hL:L∈X.fs:=hs L (by unfold frs;rw[List.filterMap_cons,hf];exact List.mem_cons_self)
   obtain⟨sl,e⟩:=I.base.slot L o ho (I.ok.frf L hL) hL λz=>I.ok.exfs L z hL;exact⟨hk,⟨L,_,hf,hn,e,hd⟩,ih (λb hb=>hs b (by unfold frs;rw[List.filterMap_cons,hf];exact q_s _ hb)) hr⟩
 exact all X.outer (λ_ hb=>hb) I.ok.funs
theorem Inv.stack(I:Inv X pins σ H s):s.heap.FunFrames X.base X.stack:=by
 rcases I.ok.stk with e|⟨e,hf⟩
 ·rw[e];exact I.funs
 ·rw[e];obtain⟨m,hn,_⟩:=I.loc;refine .cons (by rw[I.ok.kind];decide) hf hn ?_ I.funs
  exact Heap.get?_none_of_le (Nat.le_trans I.ok.bsz I.ok.above)
theorem Inv.stkSub(I:Inv X pins σ H s):∀b∈frs X.stack,b∈X.env.locals::X.fs:=λb hb=>by
 rcases I.ok.stk with e|⟨e,hf⟩
 ·rw[e]at hb;exact q_s _ hb
 ·rw[e]at hb;unfold frs at hb;rw[List.filterMap_cons,hf]at hb;exact hb
theorem Inv.stkFree(I:Inv X pins σ H s):∀b∈frs X.stack,H b=none:=λb hb=>by
 rcases q_n.mp (I.stkSub b hb) with e|hb
 ·rw[e];exact I.free
 ·obtain⟨_,o,ho,_⟩:=I.ok.funs.mem hb;exact I.base.free b o ho (I.ok.frf b hb) λz=>I.ok.exfs b z hb
theorem Inv.step{g':Array GenState}{t':Nat}{d':Drawn}{ch:List Addr}(I:Inv X pins σ H s)
  (hch:∀b∈ch,(b∈X.ex\/X.s₀.heap.objs.size<=b)/\b≠X.env.locals/\(∀x c,X.env.cells.lookup x=some c->c≠b)/\∀p∈X.pn++pins,p.1≠b)
  (keep:∀b o,b≠X.env.locals->b ∉ X.fs->b ∉ ch->s.heap.get? b=some o->H b=none->h'.get? b=some o)
  (slot:∀b o,b≠X.env.locals->b∈X.fs->b ∉ ch->s.heap.get? b=some o->H b=none->∃sl,h'.get? b=some { o with slots:=sl }) (free:∀b o,b ∉ ch->s.heap.get? b=some o->H b=none->H' b=none)
  (there:∀b o,b ∉ ch->s.heap.get? b=some o->∃o',h'.get? b=some o')
  (tups:∀b xs,H b=some (.tup xs)->H' b=some (.tup xs)) (frzs:∀b o u,H b=some (.frz o u)->H' b=some (.frz o u)) (tbls:∀b ps,H b=some (.tbl ps)->∃more,H' b=some (.tbl (ps++more)))
  (ns:∀m,s.heap.Ns X.env.locals m->h'.Ns X.env.locals m) (hok:HOk X.prog X.w H' h') (hg:AllBare g') :
  Inv X pins σ H' { s with heap:=h',gens:=g',drawn:=d',toks:=t' }:=by
 have neL:∀b o,X.s₀.heap.get? b=some o->b≠X.env.locals:=λb o e=>q_l (q_m (q_h e) I.ok.above);have neC:∀b o,X.s₀.heap.get? b=some o->b ∉ X.ex->b ∉ ch:=λb o e hx hb=>by
  rcases(hch b hb).1 with z|z
  · exact hx z
  · exact absurd (q_m (q_h e) z) (Nat.lt_irrefl _)
 have cellK:∀x c,X.env.cells.lookup x=some c->∀v,s.heap.IsCell c v->h'.IsCell c v:=λx c e v ⟨o,ho,hd⟩=>by
  have nch:c ∉ ch:=λz=>(hch c z).2.2.1 x c e rfl
  by_cases hc:c∈X.fs
  · obtain⟨sl,q⟩:=slot c o (I.cne x c e) hc nch ho (I.freeC x c e)
    exact⟨_,q,hd⟩
  · exact⟨o,keep c o (I.cne x c e) hc nch ho (I.freeC x c e),hd⟩
 refine⟨I.ok,I.os,hg,⟨λb o e n hb hx=>?_,λb o e n hb hx=>?_,λb o e n hx=>?_,λb o e hx=>?_,λb xs e=>tups b xs (I.base.tups b xs e),λb o xs e=>frzs b o xs (I.base.frzs b o xs e),λb ps e=>?_⟩,?_,λx c e=>?_,?_,λx c e=>?_,λp hp=>?_,hok,I.len⟩
 ·exact keep b o (neL b o e) hb (neC b o e hx) (I.base.keep b o e n hb hx) (I.base.free b o e n hx)
 ·obtain⟨sl,e1⟩:=I.base.slot b o e n hb hx;obtain⟨sl',e2⟩:=slot b _ (neL b o e) hb (neC b o e hx) e1 (I.base.free b o e n hx);exact⟨sl',e2⟩
 ·obtain⟨o',e1⟩:=I.base.there b o e hx;exact free b o' (neC b o e hx) e1 (I.base.free b o e n hx)
 ·obtain⟨o',e1⟩:=I.base.there b o e hx;exact there b o' (neC b o e hx) e1
 ·obtain⟨m1,e1⟩:=I.base.tbls b ps e;obtain⟨m2,e2⟩:=tbls b _ e1;exact⟨m1++m2,by rw[e2,Array.append_assoc]⟩
 ·obtain⟨m,hn,hl⟩:=I.loc;refine⟨m,ns m hn,λi x v e1 e2 e3=>?_⟩;obtain⟨u,r,l⟩:=hl i x v e1 e2 e3;refine⟨u,r,?_⟩;rcases l with l|⟨k,c,e,z⟩
  · exact .inl l
  · exact .inr ⟨k,c,e,cellK x c e _ z⟩
 ·obtain⟨v,z⟩:=I.cell x c e;exact⟨v,cellK x c e v z⟩
 ·obtain⟨m,⟨o,_,_,ho,_⟩,_⟩:=I.loc;exact free _ o (λz=>(hch _ z).2.1 rfl) ho I.free
 ·obtain⟨v,o,ho,hd⟩:=I.cell x c e;exact free c o (λz=>(hch c z).2.2.1 x c e rfl) ho (I.freeC x c e)
 ·obtain⟨e,n,ne,nf,d⟩:=I.pin p hp;have nch:p.1 ∉ ch:=λz=>(hch p.1 z).2.2.2 p hp rfl;exact⟨keep p.1 p.2 ne nf nch e n,free p.1 p.2 nch e n,ne,nf,d⟩
theorem Inv.un{t':Nat}(I:Inv X pins σ H s)(u:Un X.fs [] H H' s.heap h')(hok:HOk X.prog X.w H' h'):Inv X pins σ H' { s with heap:=h',toks:=t' }:=by
 obtain⟨m,⟨o,es,ep,ho,r⟩,_⟩:=id I.loc;obtain⟨sl,hL⟩:=u.any ho I.free (by simp)
 exact I.step (g':=s.gens) (d':=s.drawn) (ch:=[]) (λ_ z=>nomatch z) (λb o _ hb _ e n=>u.keep b o e n hb (by simp)) (λb o _ hb _ e n=>u.slot b o e n hb (by simp)) (λb o _ e n=>u.free b o e n (by simp)) (λb o _ e=>u.there b o e (by simp)) u.tups u.frzs u.tbls (λm' hm=>by
  obtain⟨o',es',ep',ho',r'⟩:=hm;rw[ho]at ho';cases ho';exact⟨_,es',ep',hL,r'⟩) hok I.bare
theorem Inv.call{g':Array GenState}{t':Nat}{d':Drawn}{ch:List Addr}(I:Inv X pins σ H s)(u:Un (frs X.stack) ch H H' s.heap h')(hok:HOk X.prog X.w H' h')(hg:AllBare g')
  (hch:∀b∈ch,(b∈X.ex\/X.s₀.heap.objs.size<=b)/\b≠X.env.locals/\(∀x c,X.env.cells.lookup x=some c->c≠b)/\∀p∈X.pn++pins,p.1≠b) :
  Inv X pins σ H' { s with heap:=h',gens:=g',drawn:=d',toks:=t' }:=by
 obtain⟨m,⟨o,es,ep,ho,r⟩,_⟩:=id I.loc;obtain⟨sl,hL⟩:=u.any ho I.free λz=>(hch _ z).2.1 rfl;exact I.step (ch:=ch) hch (λb o hL hb hc e n=>u.keep b o e n (λz=>(q_n.mp (I.stkSub b z)).elim hL hb) hc) (λb o _ _ hc e n=>u.any e n hc) (λb o hc e n=>u.free b o e n hc) (λb o hc e=>u.there b o e hc) u.tups u.frzs u.tbls (λm' hm=>by
  obtain⟨o',es',ep',ho',r'⟩:=hm;rw[ho]at ho';cases ho';exact⟨_,es',ep',hL,r'⟩) hok hg
theorem Inv.turned{t':Nat}{it:Addr}(I:Inv X pins σ H s)(k:∀b o,b≠it->s.heap.get? b=some o->h'.get? b=some o)(hn:H it=none)(hL:it≠X.env.locals)
  (h1:it∈X.ex\/X.s₀.heap.objs.size<=it) (h2:∀x c,X.env.cells.lookup x=some c->c≠it) (h3:∀p∈X.pn++pins,p.1≠it):Inv X pins σ H { s with heap:=h',toks:=t' }:=by
 have nit:∀b u,H b=some u->b≠it:=λb u e z=>by rw[z,hn]at e;cases e
 refine I.step (g':=s.gens) (d':=s.drawn) (ch:=[it]) (λb hb=>?_) (λb o _ _ hc e _=>k b o (λz=>hc (by simp[z])) e) (λb o _ _ hc e _=>⟨o.slots,k b o (λz=>hc (by simp[z])) e⟩) (λ_ _ _ _ n=>n)
  (λb o hc e=>⟨o,k b o (λz=>hc (by simp[z])) e⟩) (λ_ _ e=>e) (λ_ _ _ e=>e) (λb ps e=>⟨#[],by rw[e];simp⟩) (λm hm=>?_) (λb u e=>?_) I.bare
 ·have e:b=it:=by simpa using hb
  subst e;exact⟨h1,hL,h2,h3⟩
 ·obtain⟨o,es,ep,ho,r⟩:=hm;exact⟨o,es,ep,k _ o (Ne.symm hL) ho,r⟩
 ·refine(I.hok b u e).stay (λc v hc q=>k c v ?_ q) (λ_ q=>q) λ_ _ q=>q;rcases hc with z|z
  · rw[z];exact nit b u e
  · exact nit c _ z
theorem Inv.tok(I:Inv X pins σ H s)(t:Nat):Inv X pins σ H { s with toks:=t }:=I.un (h':=s.heap) (t':=t) Un.refl I.hok
theorem Inv.kept{t':Nat}(I:Inv X pins σ H s)(k:∀b u,s.heap.get? b=some u->h'.get? b=some u):Inv X pins σ H { s with heap:=h',toks:=t' }:=I.un (Un.kept k) (I.hok.kept k)
theorem Inv.laid{a:Addr}{o:HO}{t':Nat}(I:Inv X pins σ H s)(k:∀b u,s.heap.get? b=some u->h'.get? b=some u)(hp:s.heap.objs.size<=a)(new:ObjOk X.prog X.w (upd H a o) h' a o) :
 Inv X pins σ (upd H a o) { s with heap:=h',toks:=t' }:=I.un (Un.laid k hp (I.hok.fresh hp)) (I.hok.laid k hp new)
theorem Inv.write{x e:Addr}{t':Nat}(I:Inv X pins σ H s)(mu:Mut (H x))(he:e=x\/H e=some (.own x))(k:∀b u,b≠e->s.heap.get? b=some u->h'.get? b=some u)(heo:∃u,h'.get? e=some u)
 (new:ObjOk X.prog X.w (upd H x o) h' x o):Inv X pins σ (upd H x o) { s with heap:=h',toks:=t' }:=I.un (Un.write mu he k heo) (I.hok.write mu he k heo new)
theorem Inv.weak(I:Inv X pins σ H s)(hl:σ'.length=σ.length)(w:∀(i:Nat) v,σ'[i]? = some (some v)->σ[i]? = some (some v)):Inv X pins σ' H s :=
 ⟨I.ok,I.os,I.bare,I.base,let ⟨m,hn,hl'⟩:=I.loc;⟨m,hn,λi x v e1 e2 e3=>hl' i x v e1 (w i v e2) e3⟩,I.cell,I.free,I.freeC,I.pin,I.hok,hl.trans I.len⟩
theorem Inv.pins_of(I:Inv X pins σ H s)(h:∀p∈pins',s.heap.get? p.1=some p.2/\H p.1=none/\p.1≠X.env.locals/\p.1 ∉ X.fs/\∀v,p.2.data≠.cell v):Inv X pins' σ H s :=
 ⟨I.ok,I.os,I.bare,I.base,I.loc,I.cell,I.free,I.freeC,λp hp=>(List.mem_append.mp hp).elim (λz=>I.pin p (List.mem_append_left _ z)) (h p),I.hok,I.len⟩
theorem JF4{N:List Str}(hN:N.Nodup){i j:Nat}{x:Str}(a:N[i]? = some x)(b:N[j]? = some x):i=j:=by
 obtain⟨h1,e1⟩:=q_p.mp a;obtain⟨h2,e2⟩:=q_p.mp b;exact(List.getElem_inj hN).mp (e1.trans e2.symm)
theorem JEI{M:Model}{A:Around}{E:Vq}{i:Nat}{x:Str}{v:V}{u:Value}{Q:Unit->Shared->Prop}(I:Inv X pins σ H s)(hN:X.N.Nodup)(hi:X.N[i]? = some x)(hx:Loc X.env.scope x)(r:RelV v u)
  (h:∀s',Inv X pins (σ.set i (some v)) H s'->(∃a,Heap.SameBut a s.heap s'.heap/\(a=X.env.locals\/X.env.cells.lookup x=some a))->Q () s') (hf:X.fn x=true\/X.env.scope.names.lookup x=some .local:=by first|exact .inl rfl|exact .inr rfl|assumption):wpAny M A (storeName X.env x u) Q E s:=by
 obtain⟨m,hn,hl⟩:=id I.loc;have hcls:(X.env.scope.kind==.class || (X.env.scope.kind==.module&&X.env.locals != X.env.globals))=false:=by rw[I.ok.kind];rfl
 have hiσ:i<σ.length:=by rw[I.len];exact(q_p.mp hi).1
 have cne:=I.cne;have tracked:∀ {a:Addr}{h':Heap},(∃o,s.heap.get? a=some o/\H a=none)->Heap.SameBut a s.heap h'->HOk X.prog X.w H h':=λ{a h'} ha hs b ob e=>by
  obtain⟨_,_,hfree⟩:=ha;refine(I.hok b ob e).stay (λc w' hc q=>(hs.2 c ?_).trans q) (λ_ q=>q) λ_ _ q=>q;rintro rfl;rcases hc with rfl|hc
  · rw[hfree]at e;cases e
  · rw[hfree]at hc;cases hc
 rcases hx with hk|hk
 ·refine wpAny_storeName_local hk hn (λh' hn' hs=>?_) hcls;obtain⟨oL,_,_,hoL,_⟩:=id hn;refine h _ ⟨I.ok,I.os,I.bare,⟨λb o e n hb hx=>?_,λb o e n hb hx=>?_,I.base.free,λb o e hx=>?_,I.base.tups,I.base.frzs,I.base.tbls⟩,⟨_,hn',λj y v' e1 e2 e3=>?_⟩,λy c e=>?_,I.free,I.freeC,λp hp=>?_,tracked ⟨oL,hoL,I.free⟩ hs,by simpa using I.len⟩ ⟨_,hs,.inl rfl⟩
  · exact(hs.2 b (q_l (q_m (q_h e) I.ok.above))).trans (I.base.keep b o e n hb hx)
  · obtain⟨sl,e1⟩:=I.base.slot b o e n hb hx
    exact⟨sl,(hs.2 b (q_l (q_m (q_h e) I.ok.above))).trans e1⟩
  · obtain⟨o',e1⟩:=I.base.there b o e hx
    exact⟨o',(hs.2 b (q_l (q_m (q_h e) I.ok.above))).trans e1⟩
  · by_cases hj:j=i
    ·subst hj;rw[hi]at e1;cases e1;rw[q_z hiσ]at e2;cases e2;exact⟨u,r,.inl ⟨hk,by simp⟩⟩
    ·rw[q_A (Ne.symm hj)]at e2;obtain⟨u',r',q⟩:=hl j y v' e1 e2 e3;refine⟨u',r',?_⟩;rcases q with ⟨k,e⟩|⟨k,c,e,z⟩
     ·refine .inl ⟨k,?_⟩;have:y≠x:=λe=>hj (JF4 hN e1 (e▸hi));simp[this,e]
     ·exact .inr ⟨k,c,e,z.sameBut hs (cne y c e)⟩
  · obtain⟨w',z⟩:=I.cell y c e
    exact⟨w',z.sameBut hs (cne y c e)⟩
  · obtain⟨e,n,ne,nf,d⟩:=I.pin p hp
    exact⟨(hs.2 p.1 ne).trans e,n,ne,nf,d⟩
 ·have hfn:X.fn x=true:=by
    rcases hf with z|z
    ·exact z
    ·rw[z]at hk;cases hk
  obtain⟨c,hc⟩:=I.ok.has x (.inl hk);obtain⟨w',z⟩:=I.cell x c hc;refine wpAny_storeName_cell I.ok.kind hk hc z (λh' hc' hs=>?_);obtain⟨oc,hoc,hocd⟩:=id z;refine h { s with heap:=h' } ⟨I.ok,I.os,I.bare,⟨λb o e n hb hx=>?_,λb o e n hb hx=>?_,I.base.free,λb o e hx=>?_,I.base.tups,I.base.frzs,I.base.tbls⟩,⟨m,hn.sameBut hs (Ne.symm (cne x c hc)),λj y v' e1 e2 e3=>?_⟩,λy c' e=>?_,I.free,I.freeC,λp hp=>?_,tracked ⟨oc,hoc,I.freeC x c hc⟩ hs,by simpa using I.len⟩ ⟨c,hs,.inr hc⟩
  · exact(hs.2 b (q_l (q_m (q_h e) (I.ok.cab x c hfn hc)))).trans (I.base.keep b o e n hb hx)
  · obtain⟨sl,e1⟩:=I.base.slot b o e n hb hx
    exact⟨sl,(hs.2 b (q_l (q_m (q_h e) (I.ok.cab x c hfn hc)))).trans e1⟩
  · obtain⟨o',e1⟩:=I.base.there b o e hx
    exact⟨o',(hs.2 b (q_l (q_m (q_h e) (I.ok.cab x c hfn hc)))).trans e1⟩
  · by_cases hj:j=i
    ·subst hj;rw[hi]at e1;cases e1;rw[q_z hiσ]at e2;cases e2;exact⟨u,r,.inr ⟨.inl hk,c,hc,hc'⟩⟩
    ·rw[q_A (Ne.symm hj)]at e2;obtain⟨u',r',q⟩:=hl j y v' e1 e2 e3;refine⟨u',r',?_⟩;rcases q with q|⟨k,c',e,z'⟩
     ·exact .inl q
     ·refine .inr ⟨k,c',e,z'.sameBut hs ?_⟩;rintro rfl;exact hj (JF4 hN e1 (I.ok.inj _ _ _ e hc▸hi))
  · by_cases hcc:c'=c
    ·subst hcc;exact⟨_,hc'⟩
    ·obtain⟨w2,z2⟩:=I.cell y c' e;exact⟨w2,z2.sameBut hs hcc⟩
  · obtain⟨e,n,ne,nf,d⟩:=I.pin p hp
    refine⟨(hs.2 p.1 ?_).trans e,n,ne,nf,d⟩;intro q;rw[q,hoc]at e;have q':oc=p.2:=Option.some.inj e;exact d w' (by rw[<-q'];exact hocd)
theorem JCU{M:Model}{A:Around}{E:Vq}{i:Nat}{x:Str}{v:V}{u:Value}{Q:Unit->Shared->Prop}(I:Inv X pins σ H s)(hN:X.N.Nodup)(hi:X.N[i]? = some x)(hx:Loc X.env.scope x)(r:RelV v u)
  (h:∀s',Inv X pins (σ.set i (some v)) H s'->Q () s') (hf:X.fn x=true\/X.env.scope.names.lookup x=some .local:=by first|exact .inl rfl|exact .inr rfl|assumption):wpAny M A (storeName X.env x u) Q E s :=
 JEI I hN hi hx r (λs' I' _=>h s' I') hf
theorem Inv.call'{s':Shared}{ch:List Addr}(I:Inv X pins σ H s)(ho:s'.os=s.os)(u:Un (frs X.stack) ch H H' s.heap s'.heap)(hok:HOk X.prog X.w H' s'.heap)(hg:AllBare s'.gens)
  (hch:∀b∈ch,(b∈X.ex\/X.s₀.heap.objs.size<=b)/\b≠X.env.locals/\(∀x c,X.env.cells.lookup x=some c->c≠b)/\∀p∈X.pn++pins,p.1≠b):Inv X pins σ H' s':=by
 obtain⟨h',g',d',t',o'⟩:=s';have e:o'=s.os:=ho;subst e;exact I.call (g':=g') (t':=t') (d':=d') u hok hg hch
end
noncomputable abbrev XK:=Value->Option Addr->Hp->Prop
noncomputable abbrev St:=List (Option V)
noncomputable abbrev VK:=V->Hp->Prop
noncomputable abbrev TE:=St->Hp->VK->Prop
noncomputable abbrev TT:=St->Hp->(Bool->Hp->Prop)->Prop
noncomputable abbrev TA:=St->Hp->(List V->Hp->Prop)->Prop
structure Ends where
 nx:St->Hp->Prop
 rt:VK
 bk:St->Hp->Prop:=λ_ _=>False
 ct:St->Hp->Prop:=λ_ _=>False
noncomputable abbrev TS:=Ends->St->Hp->Prop
def EP(X:Cx)(pins:Pq)(σ:St)(Q:VK)(u:Value)(s':Shared):Prop:=∃v H',Inv X pins σ H' s'/\RelV v u/\Q v H'
def TP(X:Cx)(pins:Pq)(σ:St)(Q:Bool->Hp->Prop)(b:Bool)(s':Shared):Prop:=∃H',Inv X pins σ H' s'/\Q b H'
def AP(X:Cx)(pins:Pq)(σ:St)(Q:List V->Hp->Prop)(us:List Value)(s':Shared):Prop:=∃vs H',Inv X pins σ H' s'/\Vals vs us/\Q vs H'
def SP(X:Cx)(pins:Pq)(D:Ends)(f:Flow)(s':Shared):Prop :=
 match f with
 |.next=>∃σ' H',Inv X pins σ' H' s'/\D.nx σ' H'
 |.brk=>∃σ' H',Inv X pins σ' H' s'/\D.bk σ' H'
 |.cont=>∃σ' H',Inv X pins σ' H' s'/\D.ct σ' H'
 |.ret u=>∃v σ' H',Inv X pins σ' H' s'/\RelV v u/\D.rt v H'
def PE(X:Cx)(e:Expr)(t:TE):Prop :=
 ∀(pins:Pq) (s:Shared) (σ:St) (H:Hp) (Q:VK),Inv X pins σ H s->t σ H Q->wpAny (model X.prog X.w) X.A (eval e X.env) (EP X pins σ Q) X.xe s
def PT(X:Cx)(e:Expr)(t:TT):Prop :=
 ∀(pins:Pq) (s:Shared) (σ:St) (H:Hp) (Q:Bool->Hp->Prop),Inv X pins σ H s->t σ H Q->wpAny (model X.prog X.w) X.A (isTrue e X.env (eval e X.env)) (TP X pins σ Q) X.xe s
def PW(X:Cx)(e:Expr)(t:TT):Prop :=
 ∀(whole:Sem Value) (pins:Pq) (s:Shared) (σ:St) (H:Hp) (Q:Bool->Hp->Prop),Inv X pins σ H s->t σ H Q->wpAny (model X.prog X.w) X.A (isTrue e X.env whole) (TP X pins σ Q) X.xe s
theorem PW.pt{X:Cx}{e:Expr}{t:TT}(h:PW X e t):PT X e t:=h _
def PA(X:Cx)(es:List Expr)(t:TA):Prop :=
 ∀(pos:Pos) (pins:Pq) (s:Shared) (σ:St) (H:Hp) (Q:List V->Hp->Prop),Inv X pins σ H s->t σ H Q->wpAny (model X.prog X.w) X.A (spliced (backTo pos (starEach es X.env))) (AP X pins σ Q) X.xe s
def PS(X:Cx)(st:Stmt)(t:TS):Prop :=
 ∀(pins:Pq) (s:Shared) (σ:St) (H:Hp) (D:Ends),Inv X pins σ H s->t D σ H->wpAny (model X.prog X.w) X.A (exec st X.env) (SP X pins D) X.xe s
def PSs(X:Cx)(st:List Stmt)(t:TS):Prop :=
 ∀(pins:Pq) (s:Shared) (σ:St) (H:Hp) (D:Ends),Inv X pins σ H s->t D σ H->wpAny (model X.prog X.w) X.A (execs st X.env) (SP X pins D) X.xe s
theorem thn{α:Type}{t:Sem α}{Q Q':α->Shared->Prop}{M:Model}{A:Around}{E:Vq}{s:Shared}(h:wpAny M A t Q E s)(hQ:∀a s,Q a s->Q' a s):wpAny M A t Q' E s:=wpAny_mono h hQ λ_ _ x=>x
end L2
namespace L2
open PySem PySem.Spec PyProof.Rows
section
variable{X:Cx}
theorem bin{a b:Expr}{ta tb:TE}(ha:PE X a ta)(hb:PE X b tb){pins:Pq}{s:Shared}{σ:St}{H:Hp}{R:V->V->Hp->Prop}(I:Inv X pins σ H s)(h:ta σ H λx H1=>tb σ H1 λy H2=>R x y H2)
  {α:Type}{Q:α->Shared->Prop}{f:Value->Value->Sem α}
  (hf:∀v u s2 x y H2,Inv X pins σ H2 s2->RelV x v->RelV y u->R x y H2->wpAny (model X.prog X.w) X.A (f v u) Q X.xe s2) :
  wpAny (model X.prog X.w) X.A (eval a X.env) (λv s₁=>wpAny (model X.prog X.w) X.A (eval b X.env) (λu s₂=>wpAny (model X.prog X.w) X.A (f v u) Q X.xe s₂) X.xe s₁) X.xe s:=by
 refine thn (ha pins s σ H _ I h) λv s1 ⟨x,H1,I1,r1,q1⟩=>?_;refine thn (hb pins s1 σ H1 _ I1 q1) λu s2 ⟨y,H2,I2,r2,q2⟩=>?_;exact hf v u s2 x y H2 I2 r1 r2 q2
def tVar(i:Nat):TE:=λσ H Q=>∃v,σ[i]? = some (some v)/\Q v H
def tC(v:V):TE:=λ_ H Q=>Q v H
theorem JKH{i:Nat}{x:Str}{pos:Pos}(hN:X.N[i]? = some x)(hv:Vis X.env.scope x)(hd:(x==("__debug__":Str))=false:=by decide)(hcd:(x==("__classdict__":Str))=false:=by decide):PE X (.Name x pos) (tVar i):=by
 intro pins s σ H Q I h;obtain⟨v,e,h⟩:=h;obtain⟨m,hn,hl⟩:=I.loc;obtain⟨u,r,l⟩:=hl i x v hN e hv;have fin:EP X pins σ Q u s:=⟨v,H,I,r,h⟩;rcases l with ⟨hk,hm⟩|⟨hk,c,hc,hcell⟩
 ·exact wpAny_Name (wpAny_loadName_local I.ok.kind hk hn hm fin) hd
 ·rcases hk with hk|hk
  ·exact wpAny_Name (wpAny_loadName_cell I.ok.kind hk hc hcell fin) hd
  ·exact wpAny_Name (wpAny_loadName_free I.ok.kind hk hc hcell fin hcd) hd
theorem JEa{i j pos}:PE X (.Constant (.int i) j pos) (tC (.int i)):=λ_ _ _ H _ I h=>wpAny_Constant_int ⟨.int i,H,I.tok _,⟨_,rfl⟩,h⟩
theorem JHp{b j pos}:PE X (.Constant (.bool b) j pos) (tC (.bl b)):=λ_ _ _ H _ I h=>Constant_bool ⟨.bl b,H,I,rfl,h⟩
theorem JQj{j pos}:PE X (.Constant .none j pos) (tC .non):=λ_ _ _ H _ I h=>Constant_none ⟨.non,H,I,rfl,h⟩
theorem JQa{x j pos}:PE X (.Constant (.str x) j pos) (tC (.str x)):=λ_ _ _ H _ I h=>Calls.Constant_str ⟨.str x,H,I.tok _,⟨_,rfl⟩,h⟩
def Gl(X:Cx)(x:Str):Prop:=X.env.kindOf x=some .globalImplicit
theorem JE3{E:Vq}{pins:Pq}{s:Shared}{σ:St}{H:Hp}{x:Str}{u:Value}{pos:Pos}{Q:Vq}(I:Inv X pins σ H s)(hg:Gl X x)(hm:X.mg x=some u)(h:Q u s)
  (hd:(x==("__debug__":Str))=false:=by decide):wpAny (model X.prog X.w) X.A (eval (.Name x pos) X.env) Q E s :=
 Calls.Name_function_global I.ok.kind hg (Calls.loadGlobal_global (by rw[I.ok.glob];exact I.mod.glob.keeps I.bk) hm h) hd
theorem JEK(I:Inv X pins σ H s)(hg:Gl X x)(hm:X.mg x=none)(hv:bootBuiltins x=some u)(h:Q u s)
  (hn:x≠"__name__":=by decide) (hd:(x==("__debug__":Str))=false:=by decide):wpAny (model X.prog X.w) X.A (eval (.Name x pos) X.env) Q E s:=by
 obtain⟨mb,h1,h2⟩:=I.mod.blt;exact Calls.Name_function_global I.ok.kind hg (Calls.loadGlobal_builtin (by rw[I.ok.glob];exact I.mod.glob.keeps I.bk) hm (by rw[I.ok.blt];exact h1.keeps I.bk) ((h2 x hn).trans hv) h) hd
theorem JIr(hg:Gl X x)(hm:X.mg x=some u)(r:RelV v u)(hd:(x==("__debug__":Str))=false:=by decide):PE X (.Name x pos) (tC v) :=
 λ_ _ _ H _ I h=>JE3 I hg hm ⟨v,H,I,r,h⟩ hd
theorem JLt(hg:Gl X x)(hm:X.mg x=none)(hv:bootBuiltins x=some u)(r:RelV v u)(hn:x≠"__name__":=by decide)(hd:(x==("__debug__":Str))=false:=by decide):PE X (.Name x pos) (tC v) :=
 λ_ _ _ H _ I h=>JEK I hg hm hv ⟨v,H,I,r,h⟩ hn hd
variable{a b:Expr}{ta tb:TE}{pos:Pos}
def PC(X:Cx)(op:CmpOp)(a b:Expr)(t:TE):Prop :=
 ∀(pins:Pq) (s:Shared) (σ:St) (H:Hp) (Q:VK),Inv X pins σ H s->t σ H Q ->
  wpAny (model X.prog X.w) X.A (eval a X.env) (λv s₁=>wpAny (model X.prog X.w) X.A (eval b X.env) (λu s₂=>wpAny (model X.prog X.w) X.A (compareOp op v u) (EP X pins σ Q) X.xe s₂) X.xe s₁) X.xe s
theorem JFj(b:Expr)(h:op≠.In)(h2:op≠.NotIn):behindInMarks op b=false:=by
 have e1:(op==CmpOp.In)=false:=by cases op<;>first|rfl|exact absurd rfl h
 have e2:(op==CmpOp.NotIn)=false:=by cases op<;>first|rfl|exact absurd rfl h2
 cases b<;>simp[behindInMarks,e1,e2]
def tIsN(ta:TE):TE:=λσ H Q=>ta σ H λx H1=>Q (.bl (decide (x=.non))) H1
def tNotN(ta:TE):TE:=λσ H Q=>ta σ H λx H1=>Q (.bl (!decide (x=.non))) H1
theorem RelV.none_iff{x:V}{v:Value}(r:RelV x v):(v==Value.none)=decide (x=.non):=by
 cases x with
 |non=>cases r;rfl
 |bl _=>cases r;rfl
 |int _=>obtain⟨t,rfl⟩:=r;rfl
 |str _=>obtain⟨t,rfl⟩:=r;rfl
 |byt _=>obtain⟨t,rfl⟩:=r;rfl
 |flt _=>obtain⟨t,rfl⟩:=r;rfl
 |ref _=>cases r;rfl
 |ty _=>cases r;rfl
theorem JK4{j pos'}(ha:PE X a ta):PC X .Is a (.Constant .none j pos') (tIsN ta):=by
 intro pins s σ H Q I h;refine thn (ha pins s σ H _ I h) λv s1 ⟨x,H1,I1,r1,q1⟩=>?_;exact Constant_none (is_none_gen ⟨.bl _,H1,I1,by rw[r1.none_iff];rfl,q1⟩)
theorem JIJ{j pos'}(ha:PE X a ta):PC X .IsNot a (.Constant .none j pos') (tNotN ta):=by
 intro pins s σ H Q I h;refine thn (ha pins s σ H _ I h) λv s1 ⟨x,H1,I1,r1,q1⟩=>?_;exact Constant_none (isnot_none_gen ⟨.bl _,H1,I1,by rw[r1.none_iff];rfl,q1⟩)
def tB(t:TE):TT:=λσ H Q=>t σ H λx H1=>∃c,x=.bl c/\Q c H1
theorem JLN(h:PC X op a b t)(h1:behindInMarks op b=false:=by first|exact JFj _ (by decide) (by decide)|rfl):PE X (.Compare a [op] [b] pos) t:=λpins s σ H Q I hw=>wpAny_Compare1 (h pins s σ H Q I hw) h1
theorem JLb{op:CmpOp}{t:TE}(h:PC X op a b t)(h1:behindInMarks op b=false:=by first|exact JFj _ (by decide) (by decide)|rfl):PT X (.Compare a [op] [b] pos) (tB t):=by
 intro pins s σ H Q I hw;refine wpAny_isTrue_Compare1 (thn (h pins s σ H _ I hw) λv s1 h1=>thn h1 λu s2 h2=>thn h2 λc s3 ⟨x,H1,I1,r1,q1⟩=>?_) h1;obtain⟨d,rfl,q⟩:=q1;cases r1;exact wpAny_truthy_bool ⟨H1,I1,q⟩
variable{tA tB':TT}{rest:List Expr}
def tAnd(t u:TT):TT:=λσ H Q=>t σ H λc H1=>if c=true then u σ H1 Q else Q false H1
def tOr(t u:TT):TT:=λσ H Q=>t σ H λc H1=>if c=true then Q true H1 else u σ H1 Q
def tNot(t:TT):TT:=λσ H Q=>t σ H λc H1=>Q (!c) H1
theorem JMU(ha:PT X a tA):PW X (.BoolOp .And [a] pos) tA:=by
 intro wh pins s σ H Q I h;refine isTrue_and (thn (ha pins s σ H Q I h) λc s1 e=>?_);cases c with
 |true=>exact isTrue_and_nil e
 |false=>exact e
theorem JPD(ha:PT X a tA):PW X (.BoolOp .Or [a] pos) tA:=by
 intro wh pins s σ H Q I h;refine isTrue_or (thn (ha pins s σ H Q I h) λc s1 e=>?_);cases c with
 |false=>exact isTrue_or_nil e
 |true=>exact e
theorem JP6(ha:PT X a tA)(hb:PW X (.BoolOp .And (b::rest) pos) tB'):PW X (.BoolOp .And (a::b::rest) pos) (tAnd tA tB'):=by
 intro wh pins s σ H Q I h;refine isTrue_and (thn (ha pins s σ H _ I h) λc s1 ⟨H1,I1,q1⟩=>?_);cases c with
 |true=>exact hb wh pins s1 σ H1 Q I1 q1
 |false=>exact⟨H1,I1,q1⟩
theorem pw_or(ha:PT X a tA)(hb:PW X (.BoolOp .Or (b::rest) pos) tB'):PW X (.BoolOp .Or (a::b::rest) pos) (tOr tA tB'):=by
 intro wh pins s σ H Q I h;refine isTrue_or (thn (ha pins s σ H _ I h) λc s1 ⟨H1,I1,q1⟩=>?_);cases c with
 |true=>exact⟨H1,I1,q1⟩
 |false=>exact hb wh pins s1 σ H1 Q I1 q1
theorem JNv(ha:PT X a tA):PT X (.UnaryOp .Not a pos) (tNot tA):=by
 intro pins s σ H Q I h;exact isTrue_not (ha pins s σ H (λc H1=>Q (!c) H1) I h)
def tAndV(ta tb:TE):TE:=λσ H Q=>ta σ H λx H1=>∃c,x=.bl c/\if c=true then tb σ H1 Q else Q (.bl false) H1
def tOrV(ta tb:TE):TE:=λσ H Q=>ta σ H λx H1=>∃c,x=.bl c/\if c=true then Q (.bl true) H1 else tb σ H1 Q
theorem JKq{op}(h:PE X a t):PE X (.BoolOp op [a] pos) t:=λpins s σ H Q I hw=>BoolOp_one (h pins s σ H Q I hw)
theorem JQh(ha:PE X a ta)(hb:PE X (.BoolOp .And (b::rest) pos) tb):PE X (.BoolOp .And (a::b::rest) pos) (tAndV ta tb):=by
 intro pins s σ H Q I h;refine BoolOp_and (thn (ha pins s σ H _ I h) λv s1 ⟨x,H1,I1,r1,q1⟩=>?_);obtain⟨c,rfl,q1⟩:=q1;cases r1;refine wpAny_truthy_bool ?_;cases c with
 |true=>exact hb pins s1 σ H1 Q I1 q1
 |false=>exact⟨.bl false,H1,I1,rfl,q1⟩
theorem pe_or(ha:PE X a ta)(hb:PE X (.BoolOp .Or (b::rest) pos) tb):PE X (.BoolOp .Or (a::b::rest) pos) (tOrV ta tb):=by
 intro pins s σ H Q I h;refine BoolOp_or (thn (ha pins s σ H _ I h) λv s1 ⟨x,H1,I1,r1,q1⟩=>?_);obtain⟨c,rfl,q1⟩:=q1;cases r1;refine wpAny_truthy_bool ?_;cases c with
 |false=>exact hb pins s1 σ H1 Q I1 q1
 |true=>exact⟨.bl true,H1,I1,rfl,q1⟩
def tIf(t:TT)(ta tb:TE):TE:=λσ H Q=>t σ H λc H1=>if c=true then ta σ H1 Q else tb σ H1 Q
theorem JJI{c:Expr}(hc:PT X c tA)(ha:PE X a ta)(hb:PE X b tb):PE X (.IfExp c a b pos) (tIf tA ta tb):=by
 intro pins s σ H Q I h;refine wpAny_IfExp (thn (hc pins s σ H _ I h) λd s1 ⟨H1,I1,q1⟩=>?_);cases d with
 |true=>exact ha pins s1 σ H1 Q I1 q1
 |false=>exact hb pins s1 σ H1 Q I1 q1
end
end L2
namespace L2
open PySem PySem.Spec PyProof.Rows
def SqL(K:Kq)(H:Hp)(a:Addr)(xs:List V):Prop :=
 Rd H a (.lst xs) \/
  ∃(o:Obj) (its:Array Value) (n:Nat),K.lookup a=some o/\o.cls=.type "list"/\o.dict=none/\o.data=.seq its n/\its.size<=sizeLine/\Vals xs its.toList
def SqT(K:Kq)(H:Hp)(a:Addr)(xs:List V):Prop :=
 Rd H a (.tup xs) \/
  ∃(o:Obj) (its:Array Value) (n:Nat),K.lookup a=some o/\o.cls=.type "tuple"/\o.data=.seq its n/\its.size<=sizeLine/\Vals xs its.toList
noncomputable def absV:Value->Option V
 |.none=>some .non
 |.bool b=>some (.bl b)
 |.int i _=>some (.int i)
 |.str x _=>some (.str x)
 |.bytes b _=>some (.byt b)
 |.float b _=>some (.flt b)
 |.ref a=>some (.ref a)
 |.type n=>some (.ty n)
 |_=>none
theorem RelV.abs(r:RelV x u):absV u=some x:=by
 cases x with
 |non=>cases r;rfl
 |bl _=>cases r;rfl
 |int _=>obtain⟨t,rfl⟩:=r;rfl
 |str _=>obtain⟨t,rfl⟩:=r;rfl
 |byt _=>obtain⟨t,rfl⟩:=r;rfl
 |flt _=>obtain⟨t,rfl⟩:=r;rfl
 |ref _=>cases r;rfl
 |ty _=>cases r;rfl
theorem RelV.inj{x y:V}{u:Value}(r:RelV x u)(q:RelV y u):x=y:=Option.some.inj (r.abs.symm.trans q.abs)
theorem Vals.inj:∀ {xs ys:List V}{us:List Value},Vals xs us->Vals ys us->xs=ys
 |_,_,_,.nil,.nil=>rfl
 |_,_,_,.cons r t,.cons r' t'=>by rw[r.inj r',Vals.inj t t']
section
variable{X:Cx}{pins:Pq}{σ:St}{H:Hp}{s:Shared}{a:Addr}{xs ys:List V}
theorem SqL.of{K:Kq}(h:H a=some (.lst xs)):SqL K H a xs:=.inl (.inl h)
theorem SqT.of{K:Kq}(h:H a=some (.tup xs)):SqT K H a xs:=.inl (.inl h)
theorem Inv.list(I:Inv X pins σ H s)(h:SqL X.K H a xs):∃its:List Value,Vals xs its/\PlainL s.heap a its.toArray/\xs.length<=sizeLine:=by
 rcases h with h|⟨o,its,n,hk,hc,hd,hs,hz,r⟩
 ·obtain⟨z,its,n,r,e⟩:=h.ok I.hok;exact⟨its,r,⟨_,n,e,rfl,rfl,rfl⟩,z⟩
 ·refine⟨its.toList,r,⟨o,n,I.kIn a o hk,hc,hd,by simpa using hs⟩,?_⟩
  have e:=r.length;simp only[q_F]at e;omega
theorem Inv.tuple(I:Inv X pins σ H s)(h:SqT X.K H a xs):∃its:List Value,Vals xs its/\IsTup s.heap a its.toArray/\xs.length<=sizeLine:=by
 rcases h with h|⟨o,its,n,hk,hc,hs,hz,r⟩
 ·obtain⟨z,its,r,p⟩:=h.ok I.hok;exact⟨its,r,p,z⟩
 ·refine⟨its.toList,r,⟨o,I.kIn a o hk,hc,n,by simpa using hs⟩,?_⟩
  have e:=r.length;simp only[q_F]at e;omega
theorem Inv.list_inj(I:Inv X pins σ H s)(h:SqL X.K H a xs)(h':SqL X.K H a ys):xs=ys:=by
 obtain⟨its,r,⟨o,n,e,_,_,d⟩,_⟩:=I.list h;obtain⟨its',r',⟨o',n',e',_,_,d'⟩,_⟩:=I.list h';rw[e]at e';cases e';rw[d]at d';injection d' with d1 _
 have:its=its':=by simpa using congrArg Array.toList d1
 subst this;exact r.inj r'
theorem Inv.tuple_inj(I:Inv X pins σ H s)(h:SqT X.K H a xs)(h':SqT X.K H a ys):xs=ys:=by
 obtain⟨its,r,⟨o,e,_,n,d⟩,_⟩:=I.tuple h;obtain⟨its',r',⟨o',e',_,n',d'⟩,_⟩:=I.tuple h';rw[e]at e';cases e';rw[d]at d';injection d' with d1 _
 have:its=its':=by simpa using congrArg Array.toList d1
 subst this;exact r.inj r'
end
noncomputable abbrev Cx.wish(X:Cx)(E:Vq):Cx:={ X with xe:=E }
noncomputable abbrev Cx.nox(X:Cx):Cx:=X.wish λ_ _=>False
theorem Cx.Ok.wish{X:Cx}(ok:X.Ok)(E:Vq):(X.wish E).Ok :=
 ⟨ok.mod,ok.kind,ok.glob,ok.blt,ok.above,ok.inj,ok.has,ok.cab,ok.hd,ok.frames,ok.stk,ok.exf,ok.bs,ok.bsz,ok.noex,ok.exfs,ok.funs,ok.frf⟩
theorem Cx.Ok.unwish{X:Cx}{E:Vq}(ok:(X.wish E).Ok):X.Ok :=
 ⟨ok.mod,ok.kind,ok.glob,ok.blt,ok.above,ok.inj,ok.has,ok.cab,ok.hd,ok.frames,ok.stk,ok.exf,ok.bs,ok.bsz,ok.noex,ok.exfs,ok.funs,ok.frf⟩
section
variable{X:Cx}{pins:Pq}{σ:St}{H:Hp}{s:Shared}{E:Vq}
theorem Inv.wish(I:Inv X pins σ H s)(E:Vq):Inv (X.wish E) pins σ H s:=⟨I.ok.wish E,I.os,I.bare,I.base,I.loc,I.cell,I.free,I.freeC,I.pin,I.hok,I.len⟩
theorem Inv.unwish(I:Inv (X.wish E) pins σ H s):Inv X pins σ H s:=⟨I.ok.unwish,I.os,I.bare,I.base,I.loc,I.cell,I.free,I.freeC,I.pin,I.hok,I.len⟩
theorem SP.unwish{D:Ends}{f:Flow}{s':Shared}(h:SP (X.wish E) pins D f s'):SP X pins D f s':=by
 cases f with
 |next=>obtain⟨σ',H',I,q⟩:=h;exact⟨σ',H',I.unwish,q⟩
 |brk=>obtain⟨σ',H',I,q⟩:=h;exact⟨σ',H',I.unwish,q⟩
 |cont=>obtain⟨σ',H',I,q⟩:=h;exact⟨σ',H',I.unwish,q⟩
 |ret u=>obtain⟨v,σ',H',I,r,q⟩:=h;exact⟨v,σ',H',I.unwish,r,q⟩
theorem PE.nox(h:PE X.nox e t):PE X e t:=λpins s σ H Q I hw =>
 wpAny_mono (h pins s σ H Q (I.wish _) hw) (λ_ _ ⟨v,H',I',r,q⟩=>⟨v,H',I'.unwish,r,q⟩) λ_ _ z=>fF z
theorem PT.nox(h:PT X.nox e t):PT X e t:=λpins s σ H Q I hw =>
 wpAny_mono (h pins s σ H Q (I.wish _) hw) (λ_ _ ⟨H',I',q⟩=>⟨H',I'.unwish,q⟩) λ_ _ z=>fF z
theorem PSs.nox{st:List Stmt}{t:TS}(h:PSs X.nox st t):PSs X st t:=λpins s σ H D I hw =>
 wpAny_mono (h pins s σ H D (I.wish _) hw) (λ_ _ q=>q.unwish) λ_ _ z=>fF z
end
section
variable{X:Cx}{st:Stmt}{rest:List Stmt}{t u:TS}{e:Expr}{te:TE}{pos:Pos}
def JMs:TS:=λD σ H=>D.nx σ H
def tSeq(t u:TS):TS:=λD σ H=>t { D with nx:=u D } σ H
theorem JNI:PSs X [] JMs:=λ_ _ σ H _ I h=>wpAny_execs_nil ⟨σ,H,I,h⟩
theorem JJK(h1:PS X st t)(h2:PSs X rest u):PSs X (st::rest) (tSeq t u):=by
 intro pins s σ H D I h;refine wpAny_execs_cons (thn (h1 pins s σ H { D with nx:=u D } I h) λf s1 q=>?_)
 cases f with
 |next =>
  obtain⟨σ',H',I',q⟩:=q;exact h2 pins s1 σ' H' D I' q
 |ret v=>exact q
 |brk=>exact q
 |cont=>exact q
def JOk:TS:=λD σ H=>D.bk σ H
def tCont:TS:=λD σ H=>D.ct σ H
theorem JM7:PS X (.Pass pos) JMs:=λ_ _ σ H _ I h=>wpAny_Pass ⟨σ,H,I,h⟩
theorem JI9:PS X (.Break pos) JOk:=λ_ _ σ H _ I h=>wpAny_Break ⟨σ,H,I,h⟩
theorem JE7:PS X (.Continue pos) tCont:=λ_ _ σ H _ I h=>wpAny_Continue ⟨σ,H,I,h⟩
theorem Inv.quiet{pins:Pq}{σ:St}{H:Hp}{s:Shared}(I:Inv X pins σ H s):interactive X.env=false:=by simp[interactive,I.ok.kind]
theorem JOi{x j pos pos'}:PS X (.Expr (.Constant (.str x) j pos) pos') JMs:=λ_ s σ H _ I h=>wpAny_Expr (Calls.Constant_str (show SP X _ _ .next { s with toks:=s.toks+1 } from⟨σ,H,I.tok _,h⟩)) I.quiet
def tDrop(te:TE):TS:=λD σ H=>te σ H λ_ H1=>D.nx σ H1
theorem JHi(he:PE X e te)(hs:swapsWith e none pos.line X.env=pure false:=by rfl):PS X (.Expr e pos) (tDrop te):=by
 intro pins s σ H D I h;exact wpAny_Expr_any (thn (he pins s σ H _ I h) λv s1 ⟨x,H1,I1,r1,q1⟩=>⟨σ,H1,I1,q1⟩) I.quiet hs
def tRet(te:TE):TS:=λD σ H=>te σ H D.rt
theorem JQH(he:PE X e te):PS X (.Return (some e) pos) (tRet te):=by
 intro pins s σ H D I h;exact wpAny_Return_some (thn (he pins s σ H _ I h) λv s1 ⟨x,H1,I1,r1,q1⟩=>⟨x,σ,H1,I1,r1,q1⟩)
def tRetN:TS:=λD _ H=>D.rt .non H
theorem JLx:PS X (.Return none pos) tRetN:=λ_ _ σ H _ I h=>wpAny_Return_none ⟨.non,σ,H,I,rfl,h⟩
def tIfS(c:TT)(t u:TS):TS:=λD σ H=>c σ H λb H1=>if b=true then t D σ H1 else u D σ H1
theorem ps_if{c:Expr}{a b:List Stmt}{tc:TT}(hc:PT X c tc)(ha:PSs X a t)(hb:PSs X b u):PS X (.If c a b pos) (tIfS tc t u):=by
 intro pins s σ H D I h;refine wpAny_If (thn (hc pins s σ H _ I h) λd s1 ⟨H1,I1,q1⟩=>?_);cases d with
 |true=>exact ha pins s1 σ H1 D I1 q1
 |false=>exact hb pins s1 σ H1 D I1 q1
end
noncomputable abbrev TG:=V->St->Hp->(St->Hp->Prop)->Prop
noncomputable abbrev TGs:=List V->St->Hp->(St->Hp->Prop)->Prop
def PG(X:Cx)(target:Expr)(t:TG):Prop :=
 ∀(pins:Pq) (s:Shared) (σ:St) (H:Hp) (v:V) (u:Value) (Q:St->Hp->Prop),Inv X pins σ H s->RelV v u->t v σ H Q ->
  wpAny (model X.prog X.w) X.A (assign target X.env u) (λ_ s'=>∃σ' H',Inv X pins σ' H' s'/\Q σ' H') X.xe s
def PGs(X:Cx)(ts:List Expr)(t:TGs):Prop :=
 ∀(pins:Pq) (s:Shared) (σ:St) (H:Hp) (vs:List V) (us:List Value) (Q:St->Hp->Prop),Inv X pins σ H s->Vals vs us->t vs σ H Q ->
  wpAny (model X.prog X.w) X.A (assignInOrder ((assignEach ts X.env).map (·.2)) us) (λ_ s'=>∃σ' H',Inv X pins σ' H' s'/\Q σ' H') X.xe s
noncomputable abbrev TSet:=V->V->V->Hp->(Hp->Prop)->Prop
section
variable{X:Cx}{pos:Pos}
def JFK(i:Nat):TG:=λv σ H Q=>Q (σ.set i (some v)) H
theorem JDT{i:Nat}(hN:X.N.Nodup)(hi:X.N[i]? = some x)(hx:Loc X.env.scope x)(hf:X.fn x=true\/X.env.scope.names.lookup x=some .local:=by first|exact .inl rfl|exact .inr rfl|assumption):PG X (.Name x pos) (JFK i):=by
 intro pins s σ H v u Q I r h;exact wpAny_assign_Name (JCU I hN hi hx r (λs' I'=>⟨_,H,I',h⟩) hf)
noncomputable def gNil:TGs:=λvs σ H Q=>vs=[]/\Q σ H
noncomputable def gCons(t:TG)(u:TGs):TGs:=λvs σ H Q=>∃v r,vs=v::r/\t v σ H λσ' H'=>u r σ' H' Q
theorem JHc:PGs X [] gNil:=by
 intro pins s σ H vs us Q I r h;obtain⟨e,h⟩:=h;subst e;cases r;exact assignInOrder_nil ⟨σ,H,I,h⟩
theorem JFb{e:Expr}{es:List Expr}{t:TG}{u:TGs}(h1:PG X e t)(h2:PGs X es u)
  (hs:(assignEach (e::es) X.env).map (·.2)=assign e X.env::(assignEach es X.env).map (·.2):=by rfl):PGs X (e::es) (gCons t u):=by
 intro pins s σ H vs us Q I r h;obtain⟨v,vr,e1,h⟩:=h;subst e1;cases r with
 |cons r rr =>
  rw[hs];refine assignInOrder_cons (thn (h1 pins s σ H _ _ _ I r h) λ_ s1 ⟨σ1,H1,I1,q1⟩=>?_);exact h2 pins s1 σ1 H1 _ _ Q I1 rr q1
def gTup(K:Kq)(n:Nat)(t:TGs):TG:=λv σ H Q=>∃a xs,v=.ref a/\SqT K H a xs/\xs.length=n/\t xs σ H Q
theorem JLm{k:Nat}{n:Nat}(hc:X.calm=true)(h:PGs X es t)
  (hn:(assignEach es X.env).length=n:=by rfl) (hst:(assignEach es X.env).findIdx? (·.1)=none:=by rfl):PG X (.Tuple es k pos) (gTup X.K n t):=by
 intro pins s σ H v u Q I r hw;obtain⟨a,xs,e1,hq,hl,hw⟩:=hw;subst e1;cases r;obtain⟨its,rv,ht,hz⟩:=I.tuple hq;refine assign_Tuple_tuple (I.ok.hd hc) ht (by simp[hn,<-hl,rv.length]) hst λh' hx=>?_
 have I1:Inv X pins σ H { s with heap:=h' }:=I.kept (t':=s.toks) λb o e=>hx b o (q_l (q_h e)) e
 exact h pins _ σ H xs _ Q I1 (by simpa using rv) hw
def tAsg(te:TE)(g:TG):TS:=λD σ H=>te σ H λx H1=>g x σ H1 D.nx
theorem JO0{tg e:Expr}{te:TE}{g:TG}(he:PE X e te)(hg:PG X tg g)(hs:swapsWithSole [tg] e pos.line X.env=pure false:=by rfl)(hw:swappedStores [tg] e X.env=pure none:=by rfl)
  (h1:(assignEach [tg] X.env).map (·.2)=[assign tg X.env]:=by rfl):PS X (.Assign [tg] e pos) (tAsg te g):=by
 intro pins s σ H D I h;refine wpAny_Assign_stores (thn (he pins s σ H _ I h) λv s1 ⟨x,H1,I1,r1,q1⟩=>?_) hs hw;rw[h1];exact thn (hg pins s1 σ H1 x v _ I1 r1 q1) λ_ s2 q=>q
theorem JKt{i:Nat}{x:Str}{e:Expr}{te:TE}{pos':Pos}(hN:X.N.Nodup)(hi:X.N[i]? = some x)(hx:Loc X.env.scope x)(he:PE X e te)(hs:swapsWith e (some (.Name x pos')) pos.line X.env=pure false:=by rfl)(hf:X.fn x=true\/X.env.scope.names.lookup x=some .local:=by first|exact .inl rfl|exact .inr rfl|assumption) :
  PS X (.Assign [.Name x pos'] e pos) (tAsg te (JFK i)):=by
 intro pins s σ H D I h;refine wpAny_Assign_Name (thn (he pins s σ H _ I h) λv s1 ⟨y,H1,I1,r1,q1⟩=>?_) hs;exact JCU I1 hN hi hx r1 (λs2 I2=>⟨_,H1,I2,q1⟩) hf
def tPar(i j:Nat)(ta:TA):TS:=λD σ H=>ta σ H λvs H1=>∃v w,vs=[v,w]/\D.nx ((σ.set i (some v)).set j (some w)) H1
theorem JOj{i j:Nat}{x y:Str}{a b:Expr}{ta:TA}{px py pt:Pos}{kt k2 pt2}(hc:X.calm=true)(hN:X.N.Nodup)(hi:X.N[i]? = some x)(hj:X.N[j]? = some y)(hij:i≠j)
  (hx:X.env.scope.names.lookup x=some .local) (hy:X.env.scope.names.lookup y=some .local) (ha:PA X [a,b] ta)
  (hw:swappedStores [.Tuple [.Name x px,.Name y py] kt pt] (.Tuple [a,b] k2 pt2) X.env=pure (some [x,y]))
  (hs:swapsWithSole [.Tuple [.Name x px,.Name y py] kt pt] (.Tuple [a,b] k2 pt2) pos.line X.env=pure false:=by rfl) :
  PS X (.Assign [.Tuple [.Name x px,.Name y py] kt pt] (.Tuple [a,b] k2 pt2) pos) (tPar i j ta):=by
 intro pins s σ H D I h;rw[exec_Assign_arm];refine q_b (wpAny_standAt ?_);rw[hs];refine q_b (q_e ?_);rw[if_neg (by decide)]
 refine q_b (Tuple_ (thn (ha _ pins s σ H _ I h) λus s1 ⟨vs,H1,I1,r1,q1⟩=>?_));obtain⟨v,w,e1,q1⟩:=q1;subst e1;obtain⟨u1,u2,rfl,rv,rw'⟩:∃u1 u2,us=[u1,u2]/\RelV v u1/\RelV w u2:=by
  cases r1 with
  |cons p q =>
    cases q with
    |cons p' q' =>
     cases q';exact⟨_,_,rfl,p,p'⟩
 refine wpAny_newObj_type ?_ (by show 2<=sizeLine;decide)
 have I2:Inv X pins σ H1 { s1 with heap:=s1.heap.push { cls:=.type "tuple",data:=.seq [u1,u2].toArray } }:=I1.kept (t':=s1.toks) λb o e=>q_c _ e
 rw[hw];refine q_b (q_e ?_);show wpAny (model X.prog X.w) X.A (do rule "assign.swapped-stores";let items<-unpackItems (.ref s1.heap.objs.size) 2 none;assignInOrder [λv=>bindName X.env y v,λv=>bindName X.env x v] items.reverse;pure Flow.next) _ _ _
 refine q_b (wpAny_rule (q_b (unpackItems_tuple (items:=#[u1,u2]) (I.ok.hd hc) (IsTup.new s1.heap _) λh' hx'=>?_)));have I3:=I2.kept (h':=h') (t':=s1.toks) λb o e=>hx' b o (q_l (q_h e)) e;show wpAny _ _ (assignInOrder [λv=>bindName X.env y v,λv=>bindName X.env x v] [u2,u1] >>= λ_=>pure Flow.next) _ _ _;refine q_b (assignInOrder_cons (wpAny_bindName (JCU I3 hN hj (.inl hy) rw' (λs2 I4=>?_) (.inr hy))));refine assignInOrder_cons (wpAny_bindName (JCU I4 hN hi (.inl hx) rv (λs3 I5=>assignInOrder_nil (q_e ?_)) (.inr hx)));rw[List.set_comm _ _ (Ne.symm hij)]at I5;exact⟨_,H1,I5,q1⟩
end
section
variable{X:Cx}{pos:Pos}
def JQX(c:TT)(tb:TS):TS:=λD σ H=>∃W:Nat->St->Hp->Prop,(∃m,W m σ H)/\∀m σ H,W m σ H ->
 c σ H λb H1=>if b=true then ∃N:St->Hp->Prop,(∀σ' H',N σ' H'->∃m',m'<m/\W m' σ' H')/\tb { D with nx:=N,ct:=N,bk:=D.nx } σ H1 else D.nx σ H1
theorem JJS{c:Expr}{body:List Stmt}{tc:TT}{tb:TS}(hp:PassesOwn (model X.prog X.w) X.A X.env X.xe)(hc:PT X c tc)(hb:PSs X body tb):PS X (.While c body [] pos) (JQX tc tb):=by
 intro pins s σ H D I h;obtain⟨W,⟨m0,w0⟩,turn⟩:=h;refine wpAny_While (codeAny_whileLoop (λn s'=>∃σ' H',Inv X pins σ' H' s'/\W n σ' H') ?_ m0 ⟨σ,H,I,w0⟩);rintro n s1 ⟨σ1,H1,I1,w1⟩;refine wpAny_passesOwn hp (thn (hc pins s1 σ1 H1 _ I1 (turn n σ1 H1 w1)) λb s2 ⟨H2,I2,q2⟩=>?_);cases b with
 |true =>
  obtain⟨N,hN,q2⟩:=q2;rw[if_pos rfl];refine wpAny_passesOwn hp (thn (hb pins s2 σ1 H2 _ I2 q2) λf s3 q3=>?_);cases f with
  |next =>
   obtain⟨σ3,H3,I3,n3⟩:=q3;obtain⟨m',hm,w3⟩:=hN σ3 H3 n3;exact⟨m',hm,σ3,H3,I3,w3⟩
  |cont =>
   obtain⟨σ3,H3,I3,n3⟩:=q3;obtain⟨m',hm,w3⟩:=hN σ3 H3 n3;exact⟨m',hm,σ3,H3,I3,w3⟩
  |brk=>exact q3
  |ret v=>exact q3
 |false =>
  rw[if_neg Bool.false_ne_true];exact wpAny_execs_nil ⟨σ1,H2,I2,q2⟩
end
structure It where
 go:Nat->Hp->Prop
 yld:Nat->Hp->V->Hp->Prop
 stop:Nat->Hp->Prop
def FpOk(X:Cx)(pins:Pq)(H:Hp)(b:Addr):Prop :=
 H b=none/\b≠X.env.locals/\b ∉ X.fs/\(b∈X.ex\/X.s₀.heap.objs.size<=b)/\(∀x c,X.env.cells.lookup x=some c->c≠b)/\∀p∈X.pn++pins,p.1≠b
theorem Inv.fpOk{b:Addr}(I:Inv X pins σ H s)(hb:s.heap.objs.size<=b)(hn:H' b=none):FpOk X pins H' b:=by
 refine⟨hn,Nat.ne_of_gt (q_m I.lt hb),I.nofs hb,.inr (Nat.le_trans I.sz hb),λx c e z=>?_,λp hp z=>?_⟩
 ·obtain⟨v,q⟩:=I.cell x c e;exact absurd (q_m q.lt (by rw[z];exact hb)) (Nat.lt_irrefl _)
 ·exact absurd (q_m (q_h (I.pin p hp).1) (by rw[z];exact hb)) (Nat.lt_irrefl _)
structure Turn(P:Program)(w:World)(K:Kq)(tg:Expr)(J:It)(fp:List Addr)(it:Addr)(tn:Nat->Heap->Prop):Prop where
 mem:it∈fp
 obj:∀i h,tn i h->∀b∈fp,∃o,h.get? b=some o/\∀v,o.data≠.cell v
 keep:∀i h h',tn i h->(∀b∈fp,∀o,h.get? b=some o->h'.get? b=some o)->tn i h'
 item:∀(X:Cx),X.prog=P->X.w=w->X.K=K->X.calm=true->∀(i:Nat) (pins:Pq) (s:Shared) (σ:St) (H:Hp) (E:Vq),Inv X pins σ H s->(∀b∈fp,FpOk X pins H b)->tn i s.heap->J.go i H ->
  wpAny (model P w) X.A (pyNext (.ref it)) (λr s1=>∃u,r=some u /\
   wpAny (model P w) X.A (letOwnedTupleGo tg (.ref it) u) (λ_ s2=>∃x H',Inv X pins σ H' s2/\RelV x u/\J.yld i H x H'/\tn (i+1) s2.heap/\∀b∈fp,H' b=none) E s1) E s
 done:∀(X:Cx),X.prog=P->X.w=w->X.K=K->X.calm=true->∀(i:Nat) (pins:Pq) (s:Shared) (σ:St) (H:Hp) (E:Vq),Inv X pins σ H s->(∀b∈fp,FpOk X pins H b)->tn i s.heap->J.stop i H ->
  wpAny (model P w) X.A (pyNext (.ref it)) (λr s1=>r=none/\Inv X pins σ H s1) E s
 self:∀(A:Around) (i:Nat) (s:Shared) (Q:Vq) (E:Vq),tn i s.heap->Q (.ref it) s->wpAny (model P w) A (pyIter (.ref it)) Q E s
noncomputable abbrev TI:=St->Hp->(It->Hp->Prop)->Prop
def PIE(X:Cx)(pins:Pq)(σ:St)(tg:Expr)(R:It->Hp->Prop)(itv:Value)(s2:Shared):Prop :=
 ∃(it:Addr) (fp:List Addr) (tn:Nat->Heap->Prop) (J:It) (H':Hp),itv=.ref it/\Inv X pins σ H' s2/\Turn X.prog X.w X.K tg J fp it tn/\tn 0 s2.heap/\(∀b∈fp,FpOk X pins H' b)/\R J H'
def PI(X:Cx)(tg iter:Expr)(wi:TI):Prop :=
 ∀(pins:Pq) (s:Shared) (σ:St) (H:Hp) (R:It->Hp->Prop),Inv X pins σ H s->wi σ H R ->
  wpAny (model X.prog X.w) X.A (eval iter X.env) (λv s1=>wpAny (model X.prog X.w) X.A (pyIter v) (PIE X pins σ tg R) X.xe s1) X.xe s
theorem JNP{it:Addr}(ho:s.heap.get? it=some o)(hc:o.cls=.type n)(hd:o.data=.fields vs)
  (hn:["enumerate","zip","dict_itemiterator","dict_reverseitemiterator","odict_iterator","itertools.zip_longest","itertools.pairwise"].contains n=false) (hQ:Q () s):wpAny M A (letOwnedTupleGo tg (.ref it) u) Q E s:=by
 unfold letOwnedTupleGo;cases tg<;>first
  |exact q_e hQ
  |(cases u<;>first
      |exact q_e hQ
      |(refine q_b (wpAny_load ho ?_)
        rw[hc,hd];show wpAny M A (if (["enumerate","zip","dict_itemiterator","dict_reverseitemiterator","odict_iterator","itertools.zip_longest","itertools.pairwise"].contains n&&vs[0]? == some (rawInt _))=true then _ else _) Q E s;rw[if_neg (by intro h;rw[hn,Bool.false_and]at h;cases h)]
        exact q_e hQ))
noncomputable def Itl(K:Kq)(a:Addr):It :=
 ⟨λi H=>∃xs x,SqL K H a xs/\xs[i]? = some x,λi H x H'=>H'=H/\∀xs,SqL K H a xs->xs[i]? = some x,λi H=>∃xs,SqL K H a xs/\xs.length<=i⟩
noncomputable def Itt(K:Kq)(a:Addr):It :=
 ⟨λi H=>∃xs x,SqT K H a xs/\xs[i]? = some x,λi H x H'=>H'=H/\∀xs,SqT K H a xs->xs[i]? = some x,λi H=>∃xs,SqT K H a xs/\xs.length<=i⟩
noncomputable def Itr(lo:Int)(n:Nat):It:=⟨λi _=>i<n,λi H x H'=>H'=H/\x=.int (lo+i),λi _=>n<=i⟩
theorem JHd{P:Program}{w:World}{K:Kq}{tg:Expr}(a it:Addr):Turn P w K tg (Itl K a) [it] it (λi h=>h.IsListIter it a i) where
 mem:=by simp
 obj:=λi h st b hb=>by
  have e:b=it:=by simpa using hb
  subst e;obtain⟨o,e,c,d⟩:=st;exact⟨o,e,λv z=>by rw[d]at z;cases z⟩
 keep:=λi h h' st k=>st.at λo e=>k it (by simp) o e
 item:=by
  intro X hP hw hK hc i pins s σ H E I hf st hg;subst hP hw hK;obtain⟨xs,x,hq,hx⟩:=hg;obtain⟨its,rv,p,hz⟩:=I.list hq;obtain⟨u,hu,ru⟩:=rv.get hx;obtain⟨f0,f1,f2,f3,f4,f5⟩:=hf it (by simp)
  refine wpAny_pyNext_list_item st p.isList (x:=u) (by simpa using hu) λh' st' sb=>?_
  have I1:Inv X pins σ H { s with heap:=h' }:=I.turned (t':=s.toks) (λb o hb e=>(sb.2 b hb).trans e) f0 f1 f3 f4 f5
  obtain⟨o,e,c,d⟩:=id st';exact⟨u,rfl,JNP (s:={ s with heap:=h' }) e c d (by decide) ⟨x,H,I1,ru,⟨rfl,λys hy=>by rw[I.list_inj hy hq];exact hx⟩,st',λb hb=>(hf b hb).1⟩⟩
 done:=by
  intro X hP hw hK hc i pins s σ H E I hf st hg;subst hP hw hK;obtain⟨xs,hq,hx⟩:=hg;obtain⟨its,rv,p,hz⟩:=I.list hq;obtain⟨f0,f1,f2,f3,f4,f5⟩:=hf it (by simp)
  have hl:=rv.length;exact wpAny_pyNext_list_end (I.ok.hd hc) st p.isList (by simp;omega) λh' eb=>⟨rfl,I.turned (t':=s.toks) (λb o hb e=>eb b o hb e) f0 f1 f3 f4 f5⟩
 self:=λ_ _ _ _ _ st h=>wpAny_pyIter_listiter st h
theorem JGT{P:Program}{w:World}{K:Kq}{tg:Expr}(a it:Addr):Turn P w K tg (Itt K a) [it] it (λi h=>h.IsTupleIter it a i) where
 mem:=by simp
 obj:=λi h st b hb=>by
  have e:b=it:=by simpa using hb
  subst e;obtain⟨o,e,c,d⟩:=st;exact⟨o,e,λv z=>by rw[d]at z;cases z⟩
 keep:=λi h h' st k=>st.at λo e=>k it (by simp) o e
 item:=by
  intro X hP hw hK hc i pins s σ H E I hf st hg;subst hP hw hK;obtain⟨xs,x,hq,hx⟩:=hg;obtain⟨its,rv,p,hz⟩:=I.tuple hq;obtain⟨u,hu,ru⟩:=rv.get hx;obtain⟨f0,f1,f2,f3,f4,f5⟩:=hf it (by simp)
  refine wpAny_pyNext_tuple_item st (show s.heap.IsTuple a its.toArray from p) (x:=u) (by simpa using hu) λh' st' sb=>?_
  have I1:Inv X pins σ H { s with heap:=h' }:=I.turned (t':=s.toks) (λb o hb e=>(sb.2 b hb).trans e) f0 f1 f3 f4 f5
  obtain⟨o,e,c,d⟩:=id st';exact⟨u,rfl,JNP (s:={ s with heap:=h' }) e c d (by decide) ⟨x,H,I1,ru,⟨rfl,λys hy=>by rw[I.tuple_inj hy hq];exact hx⟩,st',λb hb=>(hf b hb).1⟩⟩
 done:=by
  intro X hP hw hK hc i pins s σ H E I hf st hg;subst hP hw hK;obtain⟨xs,hq,hx⟩:=hg;obtain⟨its,rv,p,hz⟩:=I.tuple hq;obtain⟨f0,f1,f2,f3,f4,f5⟩:=hf it (by simp)
  have hl:=rv.length;exact wpAny_pyNext_tuple_end (I.ok.hd hc) st (show s.heap.IsTuple a its.toArray from p) (by simp;omega) λh' eb=>⟨rfl,I.turned (t':=s.toks) (λb o hb e=>eb b o hb e) f0 f1 f3 f4 f5⟩
 self:=λ_ _ _ _ _ st h=>wpAny_pyIter_tupleiter st h
theorem JGX{P:Program}{w:World}{K:Kq}{tg:Expr}(it:Addr)(lo:Int)(n:Nat):Turn P w K tg (Itr lo n) [it] it (λi h=>IsRangeIter h it (lo+(i:Nat)*1) ((n:Int) - (i:Nat)) 1) where
 mem:=by simp
 obj:=λi h st b hb=>by
  have e:b=it:=by simpa using hb
  subst e;exact⟨_,st,λv z=>by
   have z':Data.fields _=Data.cell v:=z;cases z'⟩
 keep:=λi h h' st k=>k it (by simp) _ st
 item:=by
  intro X hP hw hK hc i pins s σ H E I hf st hg;subst hP hw hK;obtain⟨f0,f1,f2,f3,f4,f5⟩:=hf it (by simp)
  have W:=Walks.range (prog:=X.prog) (w:=X.w) (I.ok.hd hc) it lo 1 n;refine W.item i s _ _ hg st λv h' tk hv st' kk=>?_;obtain⟨t,rfl⟩:=hv;have I1:Inv X pins σ H { s with heap:=h',toks:=tk }:=I.turned (λb o hb e=>kk b o (by simpa using hb) e) f0 f1 f3 f4 f5
  refine⟨_,rfl,JNP (s:={ s with heap:=h',toks:=tk }) (n:="range_iterator") st' rfl rfl (by decide) ⟨.int (lo+i),H,I1,⟨t,?_⟩,⟨rfl,rfl⟩,st',λb hb=>(hf b hb).1⟩⟩
  rw[Int.mul_one]
 done:=by
  intro X hP hw hK hc i pins s σ H E I hf st hg;subst hP hw hK;obtain⟨f0,f1,f2,f3,f4,f5⟩:=hf it (by simp)
  exact wpAny_pyNext_range_end (I.ok.hd hc) st (by have:n<=i:=hg;omega) λh' eb=>⟨rfl,I.turned (t':=s.toks) (λb o hb e=>eb b o hb e) f0 f1 f3 f4 f5⟩
 self:=λ_ _ _ _ _ st h=>wpAny_pyIter_rangeiter st h
end L2
namespace L2
open PySem PySem.Spec PyProof.Rows
section
variable{X:Cx}{tg:Expr}
def iList(K:Kq)(tl:TE):TI:=λσ H R=>tl σ H λx H1=>∃a,x=.ref a/\(∃xs,SqL K H1 a xs)/\R (Itl K a) H1
def iTup(K:Kq)(tl:TE):TI:=λσ H R=>tl σ H λx H1=>∃a,x=.ref a/\(∃xs,SqT K H1 a xs)/\R (Itt K a) H1
theorem JIA{l:Expr}{tl:TE}(hl:PE X l tl):PI X tg l (iList X.K tl):=by
 intro pins s σ H R I h;refine thn (hl pins s σ H _ I h) λv s1 ⟨x,H1,I1,r1,q1⟩=>?_;obtain⟨a,e,⟨xs,hq⟩,q⟩:=q1;subst e;cases r1;obtain⟨its,rv,p,hz⟩:=I1.list hq;refine wpAny_pyIter_list p.isList ?_;refine⟨s1.heap.objs.size,[s1.heap.objs.size],_,_,H1,rfl,I1.kept (t':=s1.toks) λb o e=>q_c _ e,JHd a _,⟨_,q_k _ rfl,rfl,rfl⟩,λb hb=>?_,q⟩;have e:b=s1.heap.objs.size:=by simpa using hb
 subst e;exact I1.fpOk (q_t _) (I1.hok.fresh (q_t _))
theorem JOq{l:Expr}{tl:TE}(hl:PE X l tl):PI X tg l (iTup X.K tl):=by
 intro pins s σ H R I h;refine thn (hl pins s σ H _ I h) λv s1 ⟨x,H1,I1,r1,q1⟩=>?_;obtain⟨a,e,⟨xs,hq⟩,q⟩:=q1;subst e;cases r1;obtain⟨its,rv,p,hz⟩:=I1.tuple hq;refine wpAny_pyIter_tuple (show s1.heap.IsTuple a its.toArray from p) ?_;refine⟨s1.heap.objs.size,[s1.heap.objs.size],_,_,H1,rfl,I1.kept (t':=s1.toks) λb o e=>q_c _ e,JGT a _,⟨_,q_k _ rfl,rfl,rfl⟩,λb hb=>?_,q⟩;have e:b=s1.heap.objs.size:=by simpa using hb
 subst e;exact I1.fpOk (q_t _) (I1.hok.fresh (q_t _))
theorem JFr{lo hi:Int}{tk:Nat}(I:Inv X pins σ H s)(h1:-(2 ^ 62)<=lo)(h2:lo<2 ^ 62)(h3:-(2 ^ 62)<=hi)(h4:hi<2 ^ 62)
  (q:R (Itr lo (hi - lo).toNat) H):wpAny (model X.prog X.w) X.A (pyIter (.ref s.heap.objs.size)) (PIE X pins σ tg R) E { s with heap:=s.heap.push { cls:=.type "range",data:=.fields #[.int lo t,.int hi u,.int 1 v] },toks:=tk }:=by
 refine wpAny_pyIter_range (IsRange.new ..) (small_one h1 h2 h3 h4) ?_;have I1:Inv X pins σ H { s with heap:=s.heap.push { cls:=.type "range",data:=.fields #[.int lo t,.int hi u,.int 1 v] },toks:=tk }:=I.kept λb o e=>q_c _ e
 refine⟨(s.heap.push { cls:=.type "range",data:=.fields #[.int lo t,.int hi u,.int 1 v] }).objs.size,[(s.heap.push { cls:=.type "range",data:=.fields #[.int lo t,.int hi u,.int 1 v] }).objs.size],_,_,H,rfl,
  I1.kept (t':=tk) λb o e=>q_c _ e,JGX _ lo (hi - lo).toNat,?_,λb hb=>?_,q⟩
 ·have e1:lo+((0:Nat):Int)*1=lo:=by simp
  have e2:(((hi - lo).toNat:Nat):Int) - ((0:Nat):Int)=Builtin.Range.rangeSize lo hi 1:=by rw[rangeSize_one];split<;>omega
  show IsRangeIter _ _ (lo+((0:Nat):Int)*1) ((((hi - lo).toNat:Nat):Int) - ((0:Nat):Int)) 1;rw[e1,e2];exact q_k _ rfl
 ·have e:b=(s.heap.push { cls:=.type "range",data:=.fields #[.int lo t,.int hi u,.int 1 v] }).objs.size:=by simpa using hb
  subst e;exact I1.fpOk (q_t _) (I1.hok.fresh (q_t _))
def iRng1(ta:TA):TI:=λσ H R=>ta σ H λvs H1=>∃j:Int,vs=[.int j]/\-(2 ^ 62)<=j/\j<2 ^ 62/\R (Itr 0 j.toNat) H1
def iRng2(ta:TA):TI:=λσ H R=>ta σ H λvs H1=>∃i j:Int,vs=[.int i,.int j]/\(-(2 ^ 62)<=i/\i<2 ^ 62/\-(2 ^ 62)<=j/\j<2 ^ 62)/\R (Itr i (j - i).toNat) H1
theorem JHn(hg:Gl X "range")(hm:X.mg "range"=none)(ha:PA X [a] ta)(hs:starEach [a] X.env=[(false,eval a X.env)]:=by rfl):PI X tg (.Call (.Name "range" p) [a] [] pos) (iRng1 ta):=by
 intro pins s σ H R I h;refine Call_ (JEK I hg hm boot_range (PyProof.Rows.callWith_type1 (thn (ha pos pins s σ H _ I h) λus s1 ⟨vs,H1,I1,r1,q1⟩=>?_) hs rfl));obtain⟨j,e,q1,q2,q⟩:=q1;subst e;cases r1 with
 |cons r rr =>
  cases rr;obtain⟨t,rfl⟩:=r;exact call_range_1 (JFr I1 (by omega) (by omega) q1 q2 (by simpa using q))
theorem JHk(hg:Gl X "range")(hm:X.mg "range"=none)(ha:PA X [a,b] ta)(hs:starEach [a,b] X.env=[(false,eval a X.env),(false,eval b X.env)]:=by rfl)(hs2:starEach [b] X.env=[(false,eval b X.env)]:=by rfl) :
  PI X tg (.Call (.Name "range" p) [a,b] [] pos) (iRng2 ta):=by
 intro pins s σ H R I h;refine Call_ (JEK I hg hm boot_range (PyProof.Rows.callWith_type1 (thn (ha pos pins s σ H _ I h) λus s1 ⟨vs,H1,I1,r1,q1⟩=>?_) (by rw[hs,hs2]) (by rw[hs2];rfl)))
 obtain⟨i,j,e,⟨q1,q2,q3,q4⟩,q⟩:=q1;subst e;cases r1 with
 |cons r rr =>
  cases rr with
  |cons r' rr =>
   cases rr;obtain⟨t,rfl⟩:=r;obtain⟨t',rfl⟩:=r';exact call_range_2 (JFr I1 q1 q2 q3 q4 q)
def tFor(wi:TI)(g:TG)(tb:TS):TS:=λD σ H=>wi σ H λJ H1=>∃W:Nat->Nat->St->Hp->Prop,(∃m,W 0 m σ H1)/\∀i m σ H,W i m σ H ->
 (J.stop i H/\D.nx σ H)\/(J.go i H/\∃N:St->Hp->Prop,(∀σ' H',N σ' H'->∃m',m'<m/\W (i+1) m' σ' H')/\∀x H',J.yld i H x H'->g x σ H' λσ2 H2=>tb { D with nx:=N,ct:=N,bk:=D.nx } σ2 H2)
noncomputable def JEM(fp:List Addr)(h:Heap):Pq:=fp.filterMap λb=>(h.get? b).map λo=>(b,o)
theorem JBZ{b:Addr}(hb:b∈fp)(e:h.get? b=some o):(b,o)∈JEM fp h:=List.mem_filterMap.mpr ⟨b,hb,by rw[e];rfl⟩
theorem JHR(hp:p∈JEM fp h):p.1∈fp/\h.get? p.1=some p.2:=by
 obtain⟨b,hb,e⟩:=List.mem_filterMap.mp hp;cases q:h.get? b with
 |none=>rw[q]at e;cases e
 |some o =>
  rw[q]at e;have e':(b,o)=p:=Option.some.inj e;subst e';exact⟨hb,q⟩
theorem Inv.pinned(I:Inv X pins σ H s)(hf:∀b∈fp,FpOk X pins H b)(ho:∀b∈fp,∃o,s.heap.get? b=some o/\∀v,o.data≠.cell v):Inv X (pins++JEM fp s.heap) σ H s :=
 I.pins_of λp hp=>(List.mem_append.mp hp).elim (λz=>I.pin p (q_r _ z)) λz=>by
  obtain⟨hb,e⟩:=JHR z;obtain⟨f0,f1,f2,_⟩:=hf p.1 hb;obtain⟨o,e',d⟩:=ho p.1 hb;rw[e]at e';cases e';exact⟨e,f0,f1,f2,d⟩
theorem Inv.unpinned(I:Inv X (pins++pl) σ H s):Inv X pins σ H s:=I.pins_of λp hp=>I.pin p (q_r _ (List.mem_append_left _ hp))
theorem JKj(hp:PassesOwn (model X.prog X.w) X.A X.env X.xe)(hc:X.calm=true)(hi:PI X tg iter wi)(hg:PG X tg g)(hb:PSs X body tb)
  (hs:∀x,foldedSetIterable iter X.env x=pure x:=by intro _;rfl):PS X (.For tg iter body [] pos) (tFor wi g tb):=by
 intro pins s σ H D I h;refine wpAny_For (thn (hi pins s σ H _ I h) λv s1 h1=>thn h1 λitv s2 h2=>?_) hs;obtain⟨it,fp,tn,J,H2,e,I2,T,st2,f2,W,⟨m0,w0⟩,turn⟩:=h2;subst e;have stat:∀ {H':Hp},(∀b∈fp,H' b=none)->∀b∈fp,FpOk X pins H' b:=λhn b hb=>⟨hn b hb,(f2 b hb).2⟩;refine codeAny_forLoop_any (λn s'=>∃i σ' H',Inv X pins σ' H' s'/\tn i s'.heap/\(∀b∈fp,H' b=none)/\W i n σ' H') ?_ m0 ⟨0,σ,H2,I2,st2,λb hb=>(f2 b hb).1,w0⟩;rintro n s3 ⟨i,σ3,H3,I3,st3,fr3,w3⟩;rcases turn i n σ3 H3 w3 with ⟨stop,qn⟩|⟨go,N,hN,step⟩
 ·refine wpAny_passesOwn hp (thn (T.done X rfl rfl rfl hc i pins s3 σ3 H3 X.xe I3 (stat fr3) st3 stop) λr s4 ⟨hr,I4⟩=>?_);subst hr;exact wpAny_execs_nil ⟨σ3,H3,I4,qn⟩
 ·refine wpAny_passesOwn hp (thn (T.item X rfl rfl rfl hc i pins s3 σ3 H3 X.xe I3 (stat fr3) st3 go) λr s4 ⟨u,hr,h4⟩=>?_);subst hr;refine wpAny_passesOwn hp (thn h4 λ_ s5 ⟨x,H5,I5,r5,y5,st5,fr5⟩=>?_);have I5':=I5.pinned (stat fr5) (T.obj _ _ st5);refine wpAny_passesOwn hp (thn (hg _ s5 σ3 H5 x u _ I5' r5 (step x H5 y5)) λ_ s6 ⟨σ6,H6,I6,q6⟩=>?_);refine wpAny_passesOwn hp (thn (hb _ s6 σ6 H6 _ I6 q6) λf s7 q7=>?_);have again:∀ {σ7:St}{H7:Hp},Inv X (pins++JEM fp s5.heap) σ7 H7 s7->N σ7 H7->∃m,m<n/\∃i σ' H',Inv X pins σ' H' s7/\tn i s7.heap/\(∀b∈fp,H' b=none)/\W i m σ' H':=λ{σ7 H7} I7 n7=>by
    obtain⟨m',hm,w7⟩:=hN σ7 H7 n7;refine⟨m',hm,i+1,σ7,H7,I7.unpinned,T.keep _ _ _ st5 λb hb o e=>(I7.pin (b,o) (q_r _ (q_r _ (JBZ hb e)))).1,λb hb=>?_,w7⟩;obtain⟨o,e,d⟩:=T.obj _ _ st5 b hb;exact(I7.pin (b,o) (q_r _ (q_r _ (JBZ hb e)))).2.1
  cases f with
  |next=>obtain⟨σ7,H7,I7,n7⟩:=q7;exact again I7 n7
  |cont=>obtain⟨σ7,H7,I7,n7⟩:=q7;exact again I7 n7
  |brk=>obtain⟨σ7,H7,I7,q7⟩:=q7;exact⟨σ7,H7,I7.unpinned,q7⟩
  |ret v=>obtain⟨x7,σ7,H7,I7,r7,q7⟩:=q7;exact⟨x7,σ7,H7,I7.unpinned,r7,q7⟩
end
end L2
namespace L2
open PySem PySem.Spec PyProof.Rows
noncomputable abbrev R2:=V->V->Hp->VK->Prop
def OpR(X:Cx)(f:Value->Value->Sem Value)(r:R2):Prop :=
 ∀(pins:Pq) (s:Shared) (σ:St) (H:Hp) (x y:V) (v u:Value) (Q:VK),Inv X pins σ H s->RelV x v->RelV y u->r x y H Q ->
  wpAny (model X.prog X.w) X.A (f v u) (EP X pins σ Q) X.xe s
def UnR(X:Cx)(f:Value->Sem Value)(r:V->Hp->VK->Prop):Prop :=
 ∀(pins:Pq) (s:Shared) (σ:St) (H:Hp) (x:V) (v:Value) (Q:VK),Inv X pins σ H s->RelV x v->r x H Q ->
  wpAny (model X.prog X.w) X.A (f v) (EP X pins σ Q) X.xe s
def JBM(X:Cx)(f:Value)(r:List V->Hp->VK->Prop):Prop :=
 ∀(pins:Pq) (s:Shared) (σ:St) (H:Hp) (xs:List V) (us:List Value) (Q:VK),Inv X pins σ H s->Vals xs us->r xs H Q ->
  wpAny (model X.prog X.w) X.A (call f us) (EP X pins σ Q) X.xe s
def TruR(X:Cx)(r:V->Hp->(Bool->Hp->Prop)->Prop):Prop :=
 ∀(pins:Pq) (s:Shared) (σ:St) (H:Hp) (x:V) (v:Value) (Q:Bool->Hp->Prop),Inv X pins σ H s->RelV x v->r x H Q ->
  wpAny (model X.prog X.w) X.A (truthy v) (TP X pins σ Q) X.xe s
def tOp(r:R2)(ta tb:TE):TE:=λσ H Q=>ta σ H λx H1=>tb σ H1 λy H2=>r x y H2 Q
def tUn(r:V->Hp->VK->Prop)(ta:TE):TE:=λσ H Q=>ta σ H λx H1=>r x H1 Q
noncomputable def rI(C:Int->Int->Prop)(g:Int->Int->V):R2:=λx y H Q=>∃i j,x=.int i/\y=.int j/\C i j/\Q (g i j) H
noncomputable def rI0(g:Int->Int->V):R2:=λx y H Q=>∃i j,x=.int i/\y=.int j/\Q (g i j) H
def rU(g:Int->V):V->Hp->VK->Prop:=λx H Q=>∃i,x=.int i/\Q (g i) H
section
variable{X:Cx}{a b c:Expr}{ta tb tc:TE}{pos:Pos}
theorem binT(ha:PE X a ta)(hb:PE X b tb){pins:Pq}{s:Shared}{σ:St}{H:Hp}{R:V->V->Hp->Prop}(I:Inv X pins σ H s)
  (h:ta σ H λx H1=>tb σ H1 λy H2=>R x y H2) {Q:Vq}{f:Value->Value->Sem Value}
  (hf:∀v u s2 x y H2,Inv X pins σ H2 s2->RelV x v->RelV y u->R x y H2->wpAny (model X.prog X.w) X.A (f v u) Q X.xe s2) :
  wpAny (model X.prog X.w) X.A (eval a X.env) (λv s₁=>wpAny (model X.prog X.w) X.A (eval b X.env) (λu s₂=>wpAny (model X.prog X.w) X.A (f v u) Q X.xe s₂) X.xe s₁) X.xe s:=by
 refine thn (ha pins s σ H _ I h) λv s1 ⟨x,H1,I1,r1,q1⟩=>?_;refine thn (hb pins s1 σ H1 _ I1 q1) λu s2 ⟨y,H2,I2,r2,q2⟩=>?_;exact hf v u s2 x y H2 I2 r1 r2 q2
theorem JPK{op:Operator}{r:R2}(ho:OpR X (binaryOp op) r)(ha:PE X a ta)(hb:PE X b tb):PE X (.BinOp a op b pos) (tOp r ta tb):=by
 intro pins s σ H Q I h;exact wpAny_BinOp (binT ha hb I h λv u s2 x y H2 I2 rx ry q=>ho pins s2 σ H2 x y v u Q I2 rx ry q)
theorem JP4(ho:UnR X (unaryOp op) r)(ha:PE X a ta):PE X (.UnaryOp op a pos) (tUn r ta):=by
 intro pins s σ H Q I h;exact UnaryOp_ (thn (ha pins s σ H _ I h) λv s1 ⟨x,H1,I1,r1,q1⟩=>ho pins s1 σ H1 x v Q I1 r1 q1)
theorem opI{f:Value->Value->Sem Value}{C:Int->Int->Prop}{g:Int->Int->Int}
  (rule:∀(i j:Int) (t u:Tok) (s:Shared) (Q:Vq) (E:Vq),C i j->Q (.int (g i j) s.toks) { s with toks:=s.toks+1 }->wpAny (model X.prog X.w) X.A (f (.int i t) (.int j u)) Q E s) :
  OpR X f (rI C λi j=>.int (g i j)):=by
 intro pins s σ H x y v u Q I rx ry h;obtain⟨i,j,rfl,rfl,hc,q⟩:=h;obtain⟨t,rfl⟩:=rx;obtain⟨t',rfl⟩:=ry;exact rule i j t t' s _ _ hc ⟨.int (g i j),H,I.tok _,⟨_,rfl⟩,q⟩
theorem opI0{f:Value->Value->Sem Value}{g:Int->Int->Int}
  (rule:∀(i j:Int) (t u:Tok) (s:Shared) (Q:Vq) (E:Vq),Q (.int (g i j) s.toks) { s with toks:=s.toks+1 }->wpAny (model X.prog X.w) X.A (f (.int i t) (.int j u)) Q E s) :
  OpR X f (rI0 λi j=>.int (g i j)):=by
 intro pins s σ H x y v u Q I rx ry h;obtain⟨i,j,rfl,rfl,q⟩:=h;obtain⟨t,rfl⟩:=rx;obtain⟨t',rfl⟩:=ry;exact rule i j t t' s _ _ ⟨.int (g i j),H,I.tok _,⟨_,rfl⟩,q⟩
theorem opB0{f:Value->Value->Sem Value}{g:Int->Int->Bool}
  (rule:∀(i j:Int) (t u:Tok) (s:Shared) (Q:Vq) (E:Vq),Q (.bool (g i j)) s->wpAny (model X.prog X.w) X.A (f (.int i t) (.int j u)) Q E s) :
  OpR X f (rI0 λi j=>.bl (g i j)):=by
 intro pins s σ H x y v u Q I rx ry h;obtain⟨i,j,rfl,rfl,q⟩:=h;obtain⟨t,rfl⟩:=rx;obtain⟨t',rfl⟩:=ry;exact rule i j t t' s _ _ ⟨.bl (g i j),H,I,rfl,q⟩
def CPow(i j:Int):Prop:=0<=j/\j<=1000000/\i.natAbs<2 ^ 64
def CMul(i j:Int):Prop:=(-(2 ^ 64)<i/\i<2 ^ 64)\/(-(2 ^ 64)<j/\j<2 ^ 64)
theorem CMul.ok{i j:Int}(h:CMul i j):IntMulOk i j:=by
 rcases h with ⟨h1,h2⟩|⟨h1,h2⟩
 ·exact .of_left (intBits_le_64 h1 h2)
 ·exact .of_right (intBits_le_64 h1 h2)
theorem JPU:OpR X (binaryOp .Add) (rI0 λi j=>.int (i+j)):=opI0 λ_ _ _ _ _ _ _ q=>add_int q
theorem JPJ:OpR X (binaryOp .Sub) (rI0 λi j=>.int (i - j)):=opI0 λ_ _ _ _ _ _ _ q=>sub_int q
theorem JMN:OpR X (binaryOp .Mod) (rI (λ_ j=>j≠0) λi j=>.int (i.fmod j)):=opI λ_ _ _ _ _ _ _ hc q=>mod_int' hc q
theorem JOU:OpR X (binaryOp .Pow) (rI CPow λi j=>.int (i ^ j.toNat)):=opI λ_ _ _ _ _ _ _ hc q=>pow_int_small hc.1 hc.2.1 hc.2.2 q
theorem unI{f:Value->Sem Value}{g:Int->Int}
  (rule:∀(i:Int) (t:Tok) (s:Shared) (Q:Vq) (E:Vq),Q (.int (g i) s.toks) { s with toks:=s.toks+1 }->wpAny (model X.prog X.w) X.A (f (.int i t)) Q E s) :
  UnR X f (rU λi=>.int (g i)):=by
 intro pins s σ H x v Q I rx h;obtain⟨i,rfl,q⟩:=h;obtain⟨t,rfl⟩:=rx;exact rule i t s _ _ ⟨.int (g i),H,I.tok _,⟨_,rfl⟩,q⟩
theorem JK6:UnR X (unaryOp .USub) (rU λi=>.int (-i)):=unI λ_ _ _ _ _ q=>neg_int q
end
section
variable{X:Cx}{a b c:Expr}{ta tb tc:TE}{pos:Pos}
theorem op_lt:OpR X (compareOp .Lt) (rI0 λi j=>.bl (decide (i<j))):=opB0 λ_ _ _ _ _ _ _ q=>lt_int q
theorem op_le:OpR X (compareOp .LtE) (rI0 λi j=>.bl (decide (i<=j))):=opB0 λ_ _ _ _ _ _ _ q=>le_int q
theorem op_gt:OpR X (compareOp .Gt) (rI0 λi j=>.bl (decide (j<i))):=opB0 λ_ _ _ _ _ _ _ q=>gt_int q
theorem op_ge:OpR X (compareOp .GtE) (rI0 λi j=>.bl (decide (j<=i))):=opB0 λ_ _ _ _ _ _ _ q=>ge_int q
theorem OpR.or{f:Value->Value->Sem Value}{r r':R2}(h:OpR X f r)(h':OpR X f r'):OpR X f (λx y H Q=>r x y H Q\/r' x y H Q):=by
 intro pins s σ H x y v u Q I rx ry q;rcases q with q|q
 ·exact h pins s σ H x y v u Q I rx ry q
 ·exact h' pins s σ H x y v u Q I rx ry q
theorem JEx{op:CmpOp}{r:R2}(ho:OpR X (compareOp op) r)(ha:PE X a ta)(hb:PE X b tb)(hm:behindInMarks op b=false):PE X (.Compare a [op] [b] pos) (tOp r ta tb):=by
 intro pins s σ H Q I h;exact wpAny_Compare1 (binT ha hb I h λv u s2 x y H2 I2 rx ry q=>ho pins s2 σ H2 x y v u Q I2 rx ry q) hm
def JPn(t:TE):TT:=λσ H Q=>t σ H λx H'=>∃k,x=.bl k/\Q k H'
theorem JE4(ho:OpR X (compareOp op) r)(ha:PE X a ta)(hb:PE X b tb)(hm:behindInMarks op b=false):PT X (.Compare a [op] [b] pos) (JPn (tOp r ta tb)):=by
 intro pins s σ H Q I h;refine wpAny_isTrue_Compare1 (thn (ha pins s σ H _ I h) λv s1 ⟨x,H1,I1,r1,q1⟩=>thn (hb pins s1 σ H1 _ I1 q1) λu s2 ⟨y,H2,I2,r2,q2⟩ =>
  thn (ho pins s2 σ H2 x y v u _ I2 r1 r2 q2) λc s3 ⟨z,H3,I3,r3,k,e,q3⟩=>?_) hm
 subst e;cases r3;exact wpAny_truthy_bool ⟨H3,I3,q3⟩
def TruV(K:Kq)(x:V)(H:Hp)(k:Bool):Prop :=
 match x with
 |.non=>k=false
 |.bl b=>k=b
 |.int i=>k=(i != 0)
 |.str y=>y.length<=sizeLine/\k=((y.length:Int) != 0)
 |.byt y=>y.size<=sizeLine/\k=((y.size:Int) != 0)
 |.ref p=>(∃xs,SqL K H p xs/\k=!xs.isEmpty)\/(∃xs,SqT K H p xs/\k=!xs.isEmpty)\/∃kvs,H p=some (.dK kvs)/\k=!kvs.isEmpty
 |_=>False
theorem JGg{κ:Type}{kvs:List (κ×V)}{vs:List (κ×Value)}(r:KV kvs vs):(!vs.isEmpty)=!kvs.isEmpty:=by
 cases r<;>rfl
theorem JDO{xs:List V}{its:List Value}(r:Vals xs its):(!its.toArray.isEmpty)=!xs.isEmpty:=by
 cases r<;>simp
theorem JEc:(sizeLine:Nat)<2 ^ 63:=by rw[sizeLine_eq];decide
theorem JKy:TruR X (λx H Q=>∃k,TruV X.K x H k/\Q k H):=by
 intro pins s σ H x v Q I rx h;obtain⟨k,e,q⟩:=h;have hl:=JEc;have hs:sizeLine=16777216:=sizeLine_eq;cases x with
 |non =>
  cases rx;have e':k=false:=e;subst e';exact truthy_none ⟨H,I,q⟩
 |bl b =>
  cases rx;have e':k=b:=e;subst e';exact wpAny_truthy_bool ⟨H,I,q⟩
 |int i =>
  obtain⟨t,rfl⟩:=rx;have e':k=(i != 0):=e;subst e';exact PySem.P.truthy_int ⟨H,I,q⟩
 |str y =>
  obtain⟨t,rfl⟩:=rx;obtain⟨hy,e'⟩:y.length<=sizeLine/\k=((y.length:Int) != 0):=e;subst e';exact PySem.P.truthy_str (by omega) ⟨H,I.tok _,q⟩
 |byt y =>
  obtain⟨t,rfl⟩:=rx;obtain⟨hy,e'⟩:y.size<=sizeLine/\k=((y.size:Int) != 0):=e;subst e';exact PySem.W.truthy_bytes (by omega) ⟨H,I.tok _,q⟩
 |ref p =>
  cases rx;have e':(∃xs,SqL X.K H p xs/\k=!xs.isEmpty)\/(∃xs,SqT X.K H p xs/\k=!xs.isEmpty)\/∃kvs,H p=some (.dK kvs)/\k=!kvs.isEmpty:=e;rcases e' with ⟨xs,hx,e'⟩|⟨xs,hx,e'⟩|⟨kvs,hx,e'⟩
  ·subst e';obtain⟨its,r,pl,hz⟩:=I.list hx;have hlen:=r.length;exact wpAny_truthy_list pl.isList (by simp only[q_f];omega) ⟨H,I.tok _,by rw[JDO r];exact q⟩
  ·subst e';obtain⟨its,r,pl,hz⟩:=I.tuple hx;have hlen:=r.length;exact truthy_tuple pl (by simp only[q_f];omega) ⟨H,I.tok _,by rw[JDO r];exact q⟩
  ·subst e';obtain⟨hz,hS,vs,r,m⟩:kvs.length<=sizeLine/\(p==sysModules)=false/\∃vs,KV kvs vs/\s.heap.DictOf (JBH X.prog X.w) p vs:=I.hok p _ hx;have hlen:kvs.length=vs.length:=Paired.length r;exact wpAny_truthy_dict hS m (by omega) ⟨H,I.tok _,by rw[JGg r];exact q⟩
 |_=>exact(show False from e).elim
theorem JJZ(ha:PE X a ta)(he:∀whole,isTrue a X.env whole=(do let v<-whole;standAt a.pos;holding [v] (truthy v))) :
  PT X a (λσ H Q=>ta σ H λx H'=>∃k,TruV X.K x H' k/\Q k H'):=by
 intro pins s σ H Q I h;exact isTrue_plain (thn (ha pins s σ H _ I h) λv s1 ⟨x,H1,I1,r1,q1⟩=>JKy pins s1 σ H1 x v Q I1 r1 q1) (he _)
theorem vals1(r:Vals [x] us):∃u,us=[u]/\RelV x u:=by
 cases r with
 |cons r1 r2=>cases r2;exact⟨_,rfl,r1⟩
theorem JJj:JBM X (.builtin "abs") (λxs H Q=>∃i,xs=[.int i]/\Q (.int (if i<0 then -i else i)) H):=by
 intro pins s σ H xs us Q I r h;obtain⟨i,rfl,q⟩:=h;obtain⟨u,rfl,t,rfl⟩:=vals1 r;exact call_abs_int λu tk=>⟨.int (if i<0 then -i else i),H,I.tok _,⟨_,rfl⟩,q⟩
def LenV(K:Kq)(x:V)(H:Hp)(n:Nat):Prop :=
 match x with
 |.str y=>y.length<=sizeLine/\n=y.length
 |.byt y=>y.size<=sizeLine/\n=y.size
 |.ref p=>(∃xs,SqL K H p xs/\n=xs.length)\/∃xs,SqT K H p xs/\n=xs.length
 |_=>False
theorem JI2:JBM X (.builtin "len") (λxs H Q=>∃x n,xs=[x]/\LenV X.K x H n/\Q (.int n) H):=by
 intro pins s σ H xs us Q I r h;obtain⟨x,n,rfl,e,q⟩:=h;obtain⟨u,rfl,rx⟩:=vals1 r;have hl:=JEc;have hs:sizeLine=16777216:=sizeLine_eq;cases x with
 |str y =>
  obtain⟨t,rfl⟩:=rx;obtain⟨hy,e'⟩:y.length<=sizeLine/\n=y.length:=e;subst e';exact len_str (by omega) ⟨.int _,H,I.tok _,⟨_,rfl⟩,q⟩
 |byt y =>
  obtain⟨t,rfl⟩:=rx;obtain⟨hy,e'⟩:y.size<=sizeLine/\n=y.size:=e;subst e';exact PySem.W.len_bytes (by omega) ⟨.int _,H,I.tok _,⟨_,rfl⟩,q⟩
 |ref p =>
  cases rx;have e':(∃xs,SqL X.K H p xs/\n=xs.length)\/∃xs,SqT X.K H p xs/\n=xs.length:=e;rcases e' with ⟨xs,hx,e'⟩|⟨xs,hx,e'⟩
  ·subst e';obtain⟨its,r',pl,hz⟩:=I.list hx;have hlen:=r'.length;exact Calls.call_len_list pl.isList (by simp only[q_f];omega) ⟨.int xs.length,H,I.tok _,⟨_,by simp only[q_f];rw[hlen]⟩,q⟩
  ·subst e';obtain⟨its,r',pl,hz⟩:=I.tuple hx;have hlen:=r'.length;exact len_tuple pl (by simp only[q_f];omega) ⟨.int xs.length,H,I.tok _,⟨_,by simp only[q_f];rw[hlen]⟩,q⟩
 |_=>exact(show False from e).elim
end
end L2
namespace L2
open PySem PySem.Spec PyProof.Rows
structure ObjM(h:Heap)(x dx C:Addr)(mA:Mq):Prop where
 obj:h.get? x=some (PySem.W.instObj C dx)
 ns:h.Ns1 dx mA
 ne:dx≠x
section
variable{prog:Program}{w:World}{A:Around}{E:Vq}{s:Shared}{K:Kq}{x dx C f:Addr}{mA:Mq}{name:Str}{v:Value}
end
section
variable{P:Program}{w:World}{H H':Hp}{h h':Heap}{a C dx:Addr}{fs fs':List (Str×V)}
theorem JCv(hok:HOk P w H h)(e:H a=some (.ins C dx fs)):∃mA,ObjM h a dx C mA/\(∀f,RelO (fs.lookup f) (mA f))/\PySem.Within mA (fs.map (·.1))/\fs.length<=1000/\H dx=some (.own a):=by
 obtain⟨d,z,ne,ob,mA,n,r,q⟩:=(show ObjOk P w H h a (.ins C dx fs) from hok a _ e);exact⟨mA,⟨ob,n,ne⟩,r,q,z,d⟩
end
structure Cls(K:Kq)(C:Addr):Prop where
 pg:PySem.W.plainGet K C Str.empty=true
 hd:PySem.W.hasDictIn K C=true
 po:PySem.W.plainOver K C=true
 sa:PySem.W.findIn K (.ref C) "__setattr__"=some (some (.builtin "object.__setattr__"))
theorem Cls.get{K:Kq}{C:Addr}(c:Cls K C)(f:Str):PySem.W.plainGet K C f=true:=c.pg
section
variable{X:Cx}{pins:Pq}{σ:St}{H:Hp}{s:Shared}{a C dx:Addr}{fs:List (Str×V)}{f:Str}{v:V}{A:Around}{E:Vq}
theorem Inv.made(I:Inv X pins σ H s):Inv X pins σ (upd (upd H s.heap.objs.size (.own (s.heap.objs.size+1))) (s.heap.objs.size+1) (.ins C s.heap.objs.size []))
  { s with heap:=(s.heap.push PySem.W.emptyDict).push (PySem.W.instObj C s.heap.objs.size) }:=by
 have e1:(s.heap.push PySem.W.emptyDict).get? s.heap.objs.size=some PySem.W.emptyDict:=q_k s.heap rfl;have e2:((s.heap.push PySem.W.emptyDict).push (PySem.W.instObj C s.heap.objs.size)).get? (s.heap.objs.size+1)=some (PySem.W.instObj C s.heap.objs.size):=by
  have:=q_k (s.heap.push PySem.W.emptyDict) (o:=PySem.W.instObj C s.heap.objs.size) rfl
  rwa [Heap.size_push]at this
 have e3:(s.heap.push PySem.W.emptyDict).Ns s.heap.objs.size (λ_=>none):=⟨PySem.W.emptyDict,#[],_,e1,rfl,(λe he=>absurd he (by simp)),λ_=>rfl⟩
 have I1:=I.laid (a:=s.heap.objs.size) (o:=.own (s.heap.objs.size+1)) (h':=s.heap.push PySem.W.emptyDict) (t':=s.toks) (λb u q=>q_c _ q) (q_t _) ⟨_,e1⟩;refine I1.laid (a:=s.heap.objs.size+1) (o:=.ins C s.heap.objs.size []) (t':=s.toks) (λb u q=>q_c _ q) (Nat.le_of_eq (Heap.size_push _ _)) ?_;have ne:s.heap.objs.size≠s.heap.objs.size+1:=q_l (Nat.lt_succ_self _);refine⟨by rw[JAK ne,JAI],Nat.zero_le _,ne,e2,λ_=>none,(Heap.Ns1.of_empty e3).at λo q=>q_c _ q,λ_=>True.intro,λy hy=>absurd rfl hy⟩
end
section
variable{X:Cx}{o e value:Expr}{f:Str}{pos pos' tpos:Pos}{ta tv:TE}
end
section
variable{X:Cx}{pins:Pq}{σ:St}{H:Hp}{s:Shared}{A:Around}{E:Vq}{Q:Vq}{c:Value}{b:Bool}
end
end L2
namespace L2
open PySem PySem.Spec PyProof.Rows
structure Room(k:Nat)(A:Around):Prop where
 hd:A.handled=none
 dp:A.depth+3*k+5<recursionLimit
 un:A.units+16*k+200<cLine
theorem Room.mono{j k:Nat}{A:Around}(r:Room k A)(h:j<=k):Room j A:=⟨r.hd,by have:=r.dp;omega,by have:=r.un;omega⟩
theorem Room.deeper{k:Nat}(r:Room (k+1) A)(env:Env):Room k (A.deeper env) :=
 ⟨r.hd,by have:=r.dp;show A.depth+1+3*k+5<_;omega,by have:=r.un;show A.units+3+16*k+200<_;omega⟩
theorem Room.depth{k:Nat}{A:Around}(r:Room k A):A.depth<recursionLimit:=by have:=r.dp;omega
def tNil:TA:=λ_ H Q=>Q [] H
def tCons(ta:TE)(tr:TA):TA:=λσ H Q=>ta σ H λx H1=>tr σ H1 λxs H2=>Q (x::xs) H2
section
variable{X:Cx}{e:Expr}{es:List Expr}{te:TE}{t:TA}{pos:Pos}
theorem JEW:PA X [] tNil:=λ_ _ _ _ H Q I h=>Calls.spliced_nil ⟨[],H,I,.nil,h⟩
theorem JCE(ha:PE X e te)(hr:PA X es t)(hs:starEach (e::es) X.env=(false,eval e X.env)::starEach es X.env:=by rfl):PA X (e::es) (tCons te t):=by
 intro pos pins s σ H Q I h;rw[hs];show wpAny _ _ (spliced ((false,eval e X.env)::backTo pos (starEach es X.env))) _ _ s;refine Calls.spliced_cons (thn (ha pins s σ H _ I h) λu s1 ⟨x,H1,I1,r1,q1⟩=>?_);exact thn (hr pos pins s1 σ H1 _ I1 q1) λus s2 ⟨xs,H2,I2,r2,q2⟩=>⟨x::xs,H2,I2,.cons r1 r2,q2⟩
def tTup(t:TA):TE:=λσ H Q=>t σ H λxs H1=>xs.length<=sizeLine/\∀p,H1 p=none->Q (.ref p) (upd H1 p (.tup xs))
def tLst(t:TA):TE:=λσ H Q=>t σ H λxs H1=>xs.length<=sizeLine/\∀p,H1 p=none->Q (.ref p) (upd H1 p (.lst xs))
theorem JOE{x1}(h:PA X es t):PE X (.Tuple es x1 pos) (tTup t):=by
 intro pins s σ H Q I hq;refine wpAny_Tuple_spliced (thn (h pos pins s σ H _ I hq) λus s1 ⟨xs,H1,I1,r,z,q⟩=>⟨by rw[<-r.length];exact z,?_⟩)
 have hf:H1 s1.heap.objs.size=none:=I1.hok.fresh (q_t _);refine⟨.ref s1.heap.objs.size,upd H1 s1.heap.objs.size (.tup xs),I1.laid (t':=s1.toks) (λb u e=>q_c _ e) (q_t _) ?_,rfl,q _ hf⟩;exact⟨z,us,r,⟨_,q_k _ rfl,rfl,_,rfl⟩⟩
theorem JKG(h:PA X es t):PE X (.List es pos) (tLst t):=by
 intro pins s σ H Q I hq;refine wpAny_List_spliced (thn (h pos pins s σ H _ I hq) λus s1 ⟨xs,H1,I1,r,z,q⟩=>⟨by rw[<-r.length];exact z,?_⟩)
 have hf:H1 s1.heap.objs.size=none:=I1.hok.fresh (q_t _);refine⟨.ref s1.heap.objs.size,upd H1 s1.heap.objs.size (.lst xs),I1.laid (t':=s1.toks) (λb u e=>q_c _ e) (q_t _) ?_,rfl,q _ hf⟩;exact⟨z,us,0,r,q_k _ rfl⟩
end
noncomputable abbrev Sp:=List V->Hp->VK->XK->Prop
noncomputable abbrev CXT:=List Env->Hp->Shared->XK->Vq
structure Env0(P:Program)(w:World)(K:Kq)(mg:Mq)(base:Heap)(A:Around)(outer:List Env)(s:Shared)(H:Hp):Prop where
 frames:A.frames=some outer
 mod:Mod K mg base
 bs:∀b o,base.get? b=some o->s.heap.get? b=some o/\H b=none
 bsz:base.objs.size<=s.heap.objs.size
 funs:s.heap.FunFrames base outer
 frf:∀b∈frs outer,H b=none
 hok:HOk P w H s.heap
 bare:AllBare s.gens
def CE(outer:List Env)(P:Program)(w:World)(H:Hp)(s:Shared)(Q:VK)(u:Value)(s':Shared):Prop :=
 ∃v H',s'.os=s.os/\AllBare s'.gens/\Un (frs outer) [] H H' s.heap s'.heap/\HOk P w H' s'.heap/\RelV v u/\Q v H'
def CR(CX:CXT)(outer:List Env)(P:Program)(w:World)(H:Hp)(s:Shared)(Q:VK)(E:XK)(r:Result)(s':Shared):Prop :=
 match r with
 |.ok (.ret u)=>CE outer P w H s Q u s'
 |.ok _=>False
 |.error e=>CX outer H s E e s'
structure FnOk(P:Program)(w:World)(K:Kq)(mg:Mq)(base:Heap)(CX:CXT)(k:Nat)(f:Addr)(fd:FuncData)(ps:List Str)(sp:Sp):Prop where
 len:∀vs H Q E,sp vs H Q E->vs.length=ps.length
 run:∀(A:Around) (outer:List Env) (s:Shared) (H:Hp) (args:Args) (us:List Value) (vs:List V) (Q:VK) (E:XK),Room k A->Env0 P w K mg base A outer s H->BindsTo s fd args (ps.zip us)->Vals vs us->sp vs H Q E ->
  codeAny (model P w) A (.call (.ref f) args) (CR CX outer P w H s Q E) s
theorem FnOk.mono{P:Program}{w:World}{K:Kq}{mg:Mq}{base:Heap}{CX:CXT}{j k:Nat}{f:Addr}{fd:FuncData}{ps:List Str}{sp:Sp}(F:FnOk P w K mg base CX j f fd ps sp)(h:j<=k) :
 FnOk P w K mg base CX k f fd ps sp:=⟨F.len,λA outer s H args us vs Q E hr=>F.run A outer s H args us vs Q E (hr.mono h)⟩
theorem FnOk.imp{P:Program}{w:World}{K:Kq}{mg:Mq}{base:Heap}{CX:CXT}{k:Nat}{f:Addr}{fd:FuncData}{ps:List Str}{sp sp':Sp}(F:FnOk P w K mg base CX k f fd ps sp)
  (h:∀vs H Q E,sp' vs H Q E->sp vs H Q E):FnOk P w K mg base CX k f fd ps sp' :=
 ⟨λvs H Q E q=>F.len vs H Q E (h _ _ _ _ q),λA outer s H args us vs Q E hr he hb hv hs=>F.run A outer s H args us vs Q E hr he hb hv (h _ _ _ _ hs)⟩
section
variable{X:Cx}{pins:Pq}{σ:St}{H:Hp}{s s':Shared}
theorem Inv.env0(I:Inv X pins σ H s):Env0 X.prog X.w X.K X.mg X.base X.A X.stack s H :=
 ⟨I.ok.frames,I.ok.mod,I.bs,Nat.le_trans I.ok.bsz I.sz,I.stack,I.stkFree,I.hok,I.bare⟩
theorem Inv.after{Q:VK}{u:Value}(I:Inv X pins σ H s)(h:CE X.stack X.prog X.w H s Q u s'):EP X pins σ Q u s':=by
 obtain⟨v,H',os,bare,un,hok,r,q⟩:=h;obtain⟨hh,g,d,t,os'⟩:=s';obtain rfl:os'=s.os:=os;exact⟨v,H',I.call (h':=hh) (g':=g) (d':=d) (t':=t) (ch:=[]) un hok bare (λb z=>absurd z (by simp)),r,q⟩
end
def tCall(sp:Sp)(dvs:List V)(E:XK)(t:TA):TE:=λσ H Q=>t σ H λvs H1=>sp (vs++dvs) H1 Q E
def Binds(K:Kq)(fd:FuncData)(ps:List Str)(ds:List Value):Prop :=
 ∀(s:Shared) (us:List Value),K.In s.heap->(us++ds).length=ps.length->BindsTo s fd ⟨us,[]⟩ (ps.zip (us++ds))
theorem Binds.all{K:Kq}{fd:FuncData}{ps:List Str}(h:∀us:List Value,us.length=ps.length->bindArgs fd ⟨us,[]⟩=pure (ps.zip us)):Binds K fd ps []:=λs us _ hl=>by
 rw[List.append_nil]at hl ⊢;exact .of_eq (h us hl)
def JEv(CX:CXT)(X:Cx)(E:XK):Prop:=∀(pins:Pq) (σ:St) (H:Hp) (s:Shared) (e:Value) (s':Shared),Inv X pins σ H s->CX X.stack H s E e s'->X.xe e s'
section
variable{X:Cx}{CX:CXT}{k:Nat}{f C:Addr}{fd:FuncData}{ps:List Str}{sp:Sp}{dvs:List V}{ds:List Value}{E:XK}{x m:Str}{p pos apos:Pos}{e o:Expr}{es:List Expr}{ta:TE}{t:TA}
theorem JPL(F:FnOk X.prog X.w X.K X.mg X.base CX k f fd ps sp)(hr:Room k X.A)(hb:Binds X.K fd ps ds)(hd:Vals dvs ds)(hx:JEv CX X E)
  (I:Inv X pins σ H s) (r:Vals vs us) (h:sp (vs++dvs) H Q E):wpAny (model X.prog X.w) X.A (call (.ref f) us) (EP X pins σ Q) X.xe s:=by
 have r2:Vals (vs++dvs) (us++ds):=r.append hd;have hl:(us++ds).length=ps.length:=by rw[<-r2.length];exact F.len _ _ _ _ h
 refine wpAny_call (codeAny_mono (F.run X.A X.stack s H ⟨us,[]⟩ (us++ds) (vs++dvs) Q E hr I.env0 (hb s us I.kIn hl) r2 h) λr s' hq=>?_);cases r with
 |error e=>exact hx pins σ H s e s' I hq
 |ok fl =>
  cases fl with
  |ret u=>exact I.after hq
  |next=>exact fF hq
  |brk=>exact fF hq
  |cont=>exact fF hq
theorem JNT(F:FnOk X.prog X.w X.K X.mg X.base CX k f fd ps sp)(hr:Room k X.A)(hg:Gl X x)(hm:X.mg x=some (.ref f))(hk:PySem.W.keepIn X.K (.ref f)=true)(hb:Binds X.K fd ps ds)(hd:Vals dvs ds)(hx:JEv CX X E)
  (ha:PA X (e::es) t) (hdb:(x==("__debug__":Str))=false:=by decide) (he:starEach (e::es) X.env=(false,eval e X.env)::starEach es X.env:=by rfl) (hpl:(backTo pos (starEach es X.env)).any (·.1)=false:=by rfl) :
  PE X (.Call (.Name x p) (e::es) [] pos) (tCall sp dvs E t):=by
 intro pins s σ H Q I h;refine wpAny_Call_Name_kw (JE3 I hg hm ?_ hdb);refine PySem.W.callWith_K (h₀:=X.base) I.ok.mod.kin hk (thn (ha pos pins s σ H _ I h) λus s1 ⟨vs,H1,I1,r,q⟩=>⟨I1.kIn,?_⟩) he hpl;exact JPL F hr hb hd hx I1 r q
end
section
variable{X:Cx}{CX:CXT}{k:Nat}{f C:Addr}{fd:FuncData}{ps ks:List Str}{sp:Sp}{E:XK}{x m:Str}{p pos apos kpos:Pos}{e o:Expr}{es:List Expr}{kws:List Keyword}{te ta:TE}{t tk:TA}{nm:Option Str}
variable{g:List Value->List Value->List Value}{gV:List V->List V->List V}
end
structure FnScope(N P:List Str)(sc:Scope):Prop where
 kind:sc.kind=.function
 co:sc.isCoroutine=false
 gen:sc.isGenerator=false
 nd:N.Nodup
 pre:N.take P.length=P
 par:∀x∈P,sc.names.lookup x=some .local\/sc.names.lookup x=some .cell
 nofree:∀y∈sc.names,y.2≠.free
theorem JD8{kindOf:Str->Option NameKind}{x:Str}:∀ {binds:List (Str×Value)}{m:Mq},(∀v,(x,v) ∉ binds)->bindL kindOf binds m x=m x
 | [],_,_=>rfl
 |(n,v)::r,m,h=>by
  unfold bindL;rw[JD8 λw hw=>h w (q_s _ hw)]
  split
  · have:x≠n:=by rintro rfl;exact h v List.mem_cons_self
    simp[this]
  · rfl
theorem JEL{kindOf:Str->Option NameKind}{x:Str}:∀ {binds:List (Str×Value)}{m:Mq},(∀v,(x,v) ∉ binds)->bindC kindOf binds m x=m x
 | [],_,_=>rfl
 |(n,v)::r,m,h=>by
  unfold bindC;rw[JEL λw hw=>h w (q_s _ hw)]
  split
  · rfl
  · have:x≠n:=by rintro rfl;exact h v List.mem_cons_self
    simp[this]
theorem JEe{kindOf:Str->Option NameKind}{x:Str}{v:Value}:∀ {P:List Str}{vs:List Value}{i:Nat}{m:Mq},P.Nodup->P[i]? = some x->vs[i]? = some v->kindOf x=some .local ->
  bindL kindOf (P.zip vs) m x=some v
 | [],_,_,_,_,h,_,_=>by simp at h
 |_::_,[],_,_,_,_,h,_=>by simp at h
 |p::P,w::vs,0,m,nd,h1,h2,hk=>by
  simp at h1 h2;subst h1;subst h2;show bindL kindOf ((p,w)::P.zip vs) m p=_;unfold bindL;rw[JD8 λv hv=>(List.nodup_cons.mp nd).1 (List.of_mem_zip hv).1,if_pos hk];simp
 |p::P,w::vs,i+1,m,nd,h1,h2,hk=>by
  show bindL kindOf ((p,w)::P.zip vs) m x=_;unfold bindL;exact JEe (i:=i) (List.nodup_cons.mp nd).2 (by simpa using h1) (by simpa using h2) hk
theorem JEA{kindOf:Str->Option NameKind}{x:Str}{v:Value}:∀ {P:List Str}{vs:List Value}{i:Nat}{m:Mq},P.Nodup->P[i]? = some x->vs[i]? = some v->kindOf x≠some .local ->
  bindC kindOf (P.zip vs) m x=some v
 | [],_,_,_,_,h,_,_=>by simp at h
 |_::_,[],_,_,_,_,h,_=>by simp at h
 |p::P,w::vs,0,m,nd,h1,h2,hk=>by
  simp at h1 h2;subst h1;subst h2;show bindC kindOf ((p,w)::P.zip vs) m p=_;unfold bindC;rw[JEL λv hv=>(List.nodup_cons.mp nd).1 (List.of_mem_zip hv).1,if_neg hk];simp
 |p::P,w::vs,i+1,m,nd,h1,h2,hk=>by
  show bindC kindOf ((p,w)::P.zip vs) m x=_;unfold bindC;exact JEA (i:=i) (List.nodup_cons.mp nd).2 (by simpa using h1) (by simpa using h2) hk
noncomputable def start(N:List Str)(vs:List V):St:=vs.map some++List.replicate (N.length - vs.length) none
noncomputable def cxOf(CX:CXT)(P:Program)(w:World)(K:Kq)(mg:Mq)(base:Heap)(N:List Str)(qual:Str)(scope:Scope)(f:Addr)(cd:Value)(A:Around)(outer:List Env)(s:Shared)(H:Hp)(E:XK):Cx where
 prog:=P
 w:=w
 K:=K
 mg:=mg
 base:=base
 A:=A.deeper (envOfC qual scope s.heap.objs.size f cd)
 N:=N
 s₀:=s
 H₀:=H
 env:=envOfC qual scope s.heap.objs.size f cd
 outer:=outer
 stack:=envOfC qual scope s.heap.objs.size f cd::outer
 ex:=[]
 calm:=true
 fn:=λ_=>true
 pn:=[]
 xe:=λe s'=>wpAny (model P w) (A.deeper (envOfC qual scope s.heap.objs.size f cd)) (leaving (envOfC qual scope s.heap.objs.size f cd) e) (λ_ s''=>CX outer H s E e s'') (λe' s''=>CX outer H s E e' s'') s'
theorem JFZ{sc:Scope}{n:Nat}{x:Str}(h:sc.names.lookup x=some .cell):∃c,(cellsFrom n sc.names []).lookup x=some c:=by
 have q:=PySem.W.cellsFrom_some sc.names n [] (.inl h);exact Option.isSome_iff_exists.mp q
theorem JHM{CX:CXT}{P:Program}{w:World}{K:Kq}{mg:Mq}{base:Heap}{N ps:List Str}{qual:Str}{scope:Scope}{f:Addr}{cd:Value}{A:Around}{outer:List Env}{s s1:Shared}{H:Hp}{E:XK}{us:List Value}{vs:List V}
  (S:FnScope N ps scope) (hd:A.handled=none) (e0:Env0 P w K mg base A outer s H) (hl:vs.length=ps.length) (r:Vals vs us)
  (x:InCallC s s.heap.objs.size (bindL (envOfC qual scope s.heap.objs.size f cd).kindOf (ps.zip us) λ_=>none) (cellsFrom (s.heap.objs.size+1) scope.names []) (bindC (envOfC qual scope s.heap.objs.size f cd).kindOf (ps.zip us) λ_=>none) s1) :
  Inv (cxOf CX P w K mg base N qual scope f cd A outer s H E) [] (start N vs) H s1:=by
 have hpl:ps.length<=N.length:=by have:=congrArg List.length S.pre;rw[List.length_take]at this;omega
 obtain⟨h1,tk,rfl,hk⟩:=x.done;have noA:∀b:Addr,b ∉ (cxOf CX P w K mg base N qual scope f cd A outer s H E).ex:=λb z=>absurd (show b∈([]:List Addr) from z) (by simp)
 refine⟨⟨e0.mod,S.kind,rfl,rfl,q_t _,λy z c h1 h2=>?_,λy hy=>?_,λy c _ h=>?_,λ_=>hd,Around.frames_deeper e0.frames,.inr ⟨rfl,rfl⟩,λb z=>absurd z (noA b),e0.bs,e0.bsz,λb _ _=>noA b,λb z=>absurd z (noA b),e0.funs,e0.frf⟩,
  rfl,e0.bare,Un.kept hk,⟨_,x.toInCall.ns,λi y v h1 h2 h3=>?_⟩,λy c h=>⟨_,x.cell y c h⟩,e0.hok.fresh (q_t _),λy c h=>?_,λp hp=>absurd (show p∈([]:Pq) from hp) (by simp),e0.hok.kept hk,?_⟩
 ·exact name_of_addr x.apart (PySem.mem_of_lookup h1) (PySem.mem_of_lookup h2)
 ·have hy:scope.names.lookup y=some .cell\/scope.names.lookup y=some .free:=hy;rcases hy with hy|hy
  · exact JFZ hy
  · exact absurd rfl (S.nofree _ (PySem.mem_of_lookup hy))
 ·exact Nat.le_of_lt (x.above y c (PySem.mem_of_lookup h))
 ·have hi:i<vs.length:=by
    unfold start at h2
    by_cases hi:i<vs.length
    ·exact hi
    ·rw[List.getElem?_append_right (by simpa using hi)]at h2
     rw[List.getElem?_replicate]at h2
     split at h2<;>cases h2
  have ha:vs[i]? = some v:=by
    unfold start at h2;rw[q_C (by simpa using hi),List.getElem?_map]at h2
    cases e:vs[i]? with
    |none=>rw[e]at h2;cases h2
    |some a=>rw[e]at h2;cases h2;rfl
  obtain⟨u,hu,rv⟩:=r.get ha;have hp:ps[i]? = some y:=by
    rw[<-S.pre,List.getElem?_take_of_lt (by omega)];exact h1
  have ndP:ps.Nodup:=by rw[<-S.pre];exact S.nd.sublist (List.take_sublist _ _)
  refine⟨u,rv,?_⟩;rcases S.par y (List.mem_of_getElem? hp) with k|k
  · exact .inl ⟨k,JEe ndP hp hu k⟩
  · obtain⟨c,e⟩:=JFZ (n:=s.heap.objs.size+1) k
    refine .inr ⟨.inl k,c,e,?_⟩;have q:=x.cell y c e;rw[JEA ndP hp hu (by show scope.names.lookup y≠_;rw[k];decide)]at q
    exact q
 ·exact e0.hok.fresh (Nat.le_of_lt (x.above y c (PySem.mem_of_lookup h)))
 ·unfold start;show _=N.length;rw[q_u,q_g,List.length_replicate];omega
theorem JOD{CX:CXT}{P:Program}{w:World}{K:Kq}{mg:Mq}{base:Heap}{k:Nat}{f:Addr}{name qual:Str}{params:Arguments}{body:List Stmt}{scope:Scope}{dV kV doc pm cdv ct oc:Value}{an od:Option Addr}
  {osl:Array (Option Value)}{N ps:List Str}{sp:Sp}(lk:K.lookup f=some ⟨oc,od,.func (PySem.W.fnOf name qual params body scope dV kV doc pm an cdv ct),osl⟩) (hcd:PySem.W.codeIn K cdv qual=true) (S:FnScope N ps scope)
  (len:∀vs H Q E,sp vs H Q E->vs.length=ps.length)
  (hbody:∀(A:Around) (outer:List Env) (s:Shared) (H:Hp) (vs:List V) (Q:VK) (E:XK),Room k (A.deeper (envOfC qual scope s.heap.objs.size f cdv))->sp vs H Q E ->
    ∃t,PSs (cxOf CX P w K mg base N qual scope f cdv A outer s H E) body t/\t { nx:=λ_ H'=>Q .non H',rt:=Q } (start N vs) H) :
  FnOk P w K mg base CX (k+1) f (PySem.W.fnOf name qual params body scope dV kV doc pm an cdv ct) ps sp:=by
 refine⟨len,λA outer s H args us vs Q E hr e0 hb r hsp=>?_⟩;have hl:=len _ _ _ _ hsp;have KX:K.In s.heap:=e0.mod.kin.keeps λb o e=>(e0.bs b o e).1;have lim:s.heap.NoLimit:=e0.mod.nolimit.keeps λb o e=>(e0.bs b o e).1;have hkind:∀y∈ps.zip us,scope.names.lookup y.1=some .local\/(scope.names.lookup y.1=some .cell/\((cellsFrom (s.heap.objs.size+1) scope.names []).lookup y.1).isSome=true):=λ⟨n,v⟩ hy=>by
  rcases S.par n (List.of_mem_zip hy).1 with q|q
  · exact .inl q
  · exact .inr ⟨q,PySem.W.cellsFrom_some _ _ _ (.inl q)⟩
 refine codeAny_call_function hr.depth (KX _ _ lk) rfl S.co S.gen rfl (PySem.W.codeRec_of KX hcd) (hb _ _ _ _ ?_);refine wpAny_newFunctionEnv_cells S.kind hkind λenv he s1 x=>?_;subst he;refine⟨lim.keeps x.toInCall.keep,codeAny_func ?_⟩;obtain⟨t,ht,hq⟩:=hbody A outer s H vs Q E (hr.deeper _) hsp;have I:Inv (cxOf CX P w K mg base N qual scope f cdv A outer s H E) [] (start N vs) H s1:=JHM S hr.hd e0 hl r x;refine wpAny_mono (ht [] s1 (start N vs) H _ I hq) (λfl s' hs=>?_) λe s' hs=>hs;have fin:∀ {σ':St}{H':Hp}{v:V}{u:Value},Inv (cxOf CX P w K mg base N qual scope f cdv A outer s H E) [] σ' H' s'->RelV v u->Q v H'->CE outer P w H s Q u s' :=
  λ{σ' H' v u} J rv q=>⟨v,H',J.os,J.bare,J.base,J.hok,rv,q⟩
 cases fl with
 |ret u =>
  obtain⟨v,σ',H',J,rv,q⟩:=hs;exact fin J rv q
 |next =>
  obtain⟨σ',H',J,q⟩:=hs;exact fin (v:=V.non) (u:=Value.none) J rfl q
 |brk =>
  obtain⟨_,_,_,q⟩:=hs;exact fF q
 |cont =>
  obtain⟨_,_,_,q⟩:=hs;exact fF q
end L2
namespace L2
open PySem PySem.Spec PyProof.Rows
section
variable{X:Cx}{x:Str}{p pos:Pos}{e:Expr}{es:List Expr}{t:TA}{id T:String}{r:List V->Hp->VK->Prop}
def tCB(r:List V->Hp->VK->Prop)(t:TA):TE:=λσ H Q=>t σ H λvs H1=>r vs H1 Q
theorem JCS(hc:JBM X (.builtin id) r)(hg:Gl X x)(hm:X.mg x=none)(hv:bootBuiltins x=some (.builtin id))(ha:PA X (e::es) t)(hn:x≠"__name__":=by decide)(hdb:(x==("__debug__":Str))=false:=by decide)
  (he:starEach (e::es) X.env=(false,eval e X.env)::starEach es X.env:=by rfl) (hpl:(backTo pos (starEach es X.env)).any (·.1)=false:=by rfl):PE X (.Call (.Name x p) (e::es) [] pos) (tCB r t):=by
 intro pins s σ H Q I h;refine wpAny_Call_Name_kw (JEK I hg hm hv ?_ hn hdb);exact PyProof.Rows.callWith_builtin1 (thn (ha pos pins s σ H _ I h) λus s1 ⟨vs,H1,I1,r1,q1⟩=>hc pins s1 σ H1 vs us Q I1 r1 q1) he hpl
theorem JEJ(hc:JBM X (.type T) r)(hg:Gl X x)(hm:X.mg x=none)(hv:bootBuiltins x=some (.type T))(ha:PA X (e::es) t)(hn:x≠"__name__":=by decide)(hdb:(x==("__debug__":Str))=false:=by decide)
  (he:starEach (e::es) X.env=(false,eval e X.env)::starEach es X.env:=by rfl) (hpl:(backTo pos (starEach es X.env)).any (·.1)=false:=by rfl):PE X (.Call (.Name x p) (e::es) [] pos) (tCB r t):=by
 intro pins s σ H Q I h;refine wpAny_Call_Name_kw (JEK I hg hm hv ?_ hn hdb);exact PyProof.Rows.callWith_type1 (thn (ha pos pins s σ H _ I h) λus s1 ⟨vs,H1,I1,r1,q1⟩=>hc pins s1 σ H1 vs us Q I1 r1 q1) he hpl
end
end L2
namespace HT
open PySem PyProof.Rows
noncomputable def lexLt:List Int->List Int->Bool
 | [],[]=>false
 | [],_::_=>true
 |_::_,[]=>false
 |x::xs,y::ys=>if x=y then lexLt xs ys else decide (x<y)
theorem lexLt_cons(x y:Int)(xs ys:List Int):lexLt (x::xs) (y::ys)=if x=y then lexLt xs ys else decide (x<y):=rfl
theorem JDW:lexLt [] []=false:=rfl
theorem JDB(y:Int)(ys:List Int):lexLt [] (y::ys)=true:=rfl
theorem JDC(x:Int)(xs:List Int):lexLt (x::xs) []=false:=rfl
theorem JI7(A:Around)(s:Shared)(a:Int)(t:Tok)(c:Int)(u:Tok):∃e,SeqAt.EqAt A s (.int a t) (.int c u) e/\(e=true↔a=c) :=
 ⟨(a==c),SeqAt.EqAt.int_int a t c u,by simp⟩
theorem JJH(A:Around)(s:Shared)(a:Int)(t:Tok)(c:Int)(u:Tok)(prog:Program)(w:World)(E:Vq)(Q:Vq)(h:Q (.bool (decide (a<c))) s) :
   wpAny (model prog w) A (richCompare .Lt (.int a t) (.int c u)) Q E s :=
 (PyProof.Rows.lt_int h:wpAny (model prog w) A (compareOp .Lt (.int a t) (.int c u)) Q E s)
section
open PySem.SeqAt
open PySem.AutoSeq1 (wpAny_loadPart')
open PySem.MeetsSeq PySem.MeetsSeq2 PySem.MeetsSeq3
theorem JDz(l b:Addr)(items items2:Array Value)(n n2:Nat)(dd dd2:Option Addr)(sl sl2:Array (Option Value))(ns ms:List Int)(hi:IntsAre items.toList ns)(hj:IntsAre items2.toList ms) :
  Meets (Builtin.«tuple.__lt__» ⟨[.ref l,.ref b],[]⟩)
   (λ_ R s=>s.heap.get? l=some { cls:=.type "tuple",dict:=dd,data:=.seq items n,slots:=sl }/\s.heap.get? b=some { cls:=.type "tuple",dict:=dd2,data:=.seq items2 n2,slots:=sl2 } /\
     R (.ok (.ret (.bool (lexLt ns ms)))) s) :=
 .of_wp λprog w A R s h=>by
  obtain⟨hp,g,d,tk,os⟩:=s;obtain⟨hl,hb,h⟩:=h;have f2:=AutoSeq1.sub_tuple_tuple;have z1:items.size=ns.length:=by rw[<-hi.length];simp
  have z2:items2.size=ms.length:=by rw[<-hj.length];simp
  wp_walk using wpAny_loadPart' hl,wpAny_loadPart' hb,wpAny_forIn_list _ (λrest b s'=>b.1=none/\s'=⟨hp,g,d,tk,os⟩/\∃(vs ws:List Value) (ns' ms':List Int),rest=vs.zip ws /\
   IntsAre vs ns'/\IntsAre ws ms'/\ns'.length+items2.size=ms'.length+items.size/\R (.ok (.ret (.bool (lexLt ns' ms')))) ⟨hp,g,d,tk,os⟩) _
  case turn =>
   rintro⟨y,x⟩ rest b s' ⟨hb',rfl,vs,ws,ns',ms',hz,hvi,hwi,hlen,hR⟩;cases hvi with
   |nil=>rw[List.zip_nil_left]at hz;cases hz
   |cons a t hvi' =>
     cases hwi with
     |nil=>rw[List.zip_nil_right]at hz;cases hz
     |cons c u hwi' =>
      rw[List.zip_cons_cons]at hz;injection hz with hyx hrest
      injection hyx with hy hx
      subst hy hx;rw[lexLt_cons]at hR;simp only[List.length_cons]at hlen;obtain⟨e,he,hiff⟩:=JI7 A.in1 ⟨hp,g,d,tk,os⟩ a t c u;refine q_b (he prog w _ _ ?_);cases e with
      |true =>
       rw[if_pos (hiff.mp rfl)]at hR
       wp_walk
       exact⟨rfl,rfl,_,_,_,_,hrest,hvi',hwi',by omega,hR⟩
      |false =>
       rw[if_neg (λq=>absurd (hiff.mpr q) Bool.false_ne_true)]at hR;have hri:=JJH A.in1 ⟨hp,g,d,tk,os⟩ a t c u prog w
       wp_walk using hri
       exact⟨_,rfl,by simpa using hR⟩
  case fin =>
   rintro⟨b1,b2⟩ s' ⟨hb',rfl,vs,ws,ns',ms',hz,hvi,hwi,hlen,hR⟩;simp only at hb';subst hb';have hv:lexLt ns' ms'=decide (items.size<items2.size):=by
     cases hvi with
     |nil =>
      cases hwi with
      |nil =>
       simp only[List.length_nil]at hlen;rw[JDW];exact(q_o (by omega)).symm
      |cons c u hw =>
       simp only[List.length_nil,List.length_cons]at hlen;rw[JDB];exact(decide_eq_true (by omega)).symm
     |cons a t hv =>
      cases hwi with
      |nil =>
       simp only[List.length_nil,List.length_cons]at hlen;rw[JDC];exact(q_o (by omega)).symm
      |cons c u hw =>
       rw[List.zip_cons_cons]at hz;cases hz
   rw[hv]at hR
   wp_walk
   exact⟨_,rfl,by simpa[Builtin.Tuple.tupleCompareSizes] using hR⟩
  case h =>
   exact⟨rfl,rfl,items.toList,items2.toList,ns,ms,rfl,hi,hj,by omega,h⟩
end
section
variable{prog:Program}{w:World}{A:Around}{E:Vq}{s:Shared}
theorem lt_tupInts{l b:Addr}(hl:IsTup s.heap l items)(hb:IsTup s.heap b items2)(hi:IntsAre items.toList ns)(hj:IntsAre items2.toList ms)
  (hu:A.units<cLine) (h:Q (.bool (lexLt ns ms)) s):wpAny (model prog w) A (compareOp .Lt (.ref l) (.ref b)) Q E s:=by
 obtain⟨⟨cls,dd,data,sl⟩,ho,hc,n,hd⟩:=id hl;obtain⟨⟨cls2,dd2,data2,sl2⟩,ho2,hc2,n2,hd2⟩:=id hb;simp only at hc hd hc2 hd2;subst hc hd hc2 hd2;exact richCompare_meets_room (op:=.Lt) ⟨_,ho,rfl⟩ ⟨_,ho2,rfl⟩ PySem.F.slot_tuple_lt PySem.F.entry_tuple_lt (PySem.F.args_tuple_lt_2 _ _) (JDz l b items items2 n n2 dd dd2 sl sl2 ns ms hi hj)
  ⟨ho,ho2,show Value.bool (lexLt ns ms)≠Value.notImplemented/\Q (.bool (lexLt ns ms)) s from⟨(λx=>nomatch x),h⟩⟩ hu
theorem cat_tup{t b:Addr}(ht:IsTup s.heap t vs.toArray)(hb:IsTup s.heap b ws.toArray)(hv:vs≠[])
  (h1:ws=[]->Q (.ref t) s) (h2:ws≠[]->Q (.ref s.heap.objs.size) { s with heap:=s.heap.push { cls:=.type "tuple",data:=.seq (vs++ws).toArray } })
  (hsz:vs.length+ws.length<=sizeLine):wpAny (model prog w) A (binaryOp .Add (.ref t) (.ref b)) Q E s:=by
 obtain⟨⟨cls,dd,data,sl⟩,ho,hc,n,hd⟩:=id ht;obtain⟨⟨cls2,dd2,data2,sl2⟩,ho2,hc2,n2,hd2⟩:=id hb;simp only at hc hd hc2 hd2;subst hc hd hc2 hd2;have e:vs.toArray++ws.toArray=(vs++ws).toArray:=by simp
 by_cases hw:ws=[]
 ·exact concat_meets ⟨_,ho,rfl⟩ ⟨_,ho2,rfl⟩ noFill_tuple_add seq_tuple_add PySem.F.slot_tuple_add PySem.F.entry_tuple_add (PySem.F.args_tuple_add_2 _ _)
    (tuple_addW1 t b vs.toArray ws.toArray n n2 dd dd2 sl sl2 (by simpa using hv) (by simp[hw])) ⟨ho,ho2,h1 hw⟩
 ·refine concat_meets ⟨_,ho,rfl⟩ ⟨_,ho2,rfl⟩ noFill_tuple_add seq_tuple_add PySem.F.slot_tuple_add PySem.F.entry_tuple_add (PySem.F.args_tuple_add_2 _ _)
    (tuple_addW2 t b vs.toArray ws.toArray n n2 dd dd2 sl sl2 (by simpa using hv) (by simpa using hw) (by rw[q_f,q_f];exact hsz)) ⟨ho,ho2,?_⟩
  rw[e];exact h2 hw
noncomputable def sIx(n d:Nat):Option Int->Nat
 |none=>d
 |some v=>if v<0 then (v+(n:Int)).toNat else min v.toNat n
theorem JPt(n d:Nat)(hd:d<=n)(o:Option Int):sIx n d o<=n:=by
 cases o with
 |none=>exact hd
 |some v =>
  show(if v<0 then (v+(n:Int)).toNat else min v.toNat n)<=n
  by_cases hv:v<0
  ·rw[if_pos hv];omega
  ·rw[if_neg hv];exact Nat.min_le_right _ _
theorem JIS(v:Int)(n d:Nat):(if v<0 then max (v+(n:Int)) 0 else min v (n:Int))=((sIx n d (some v):Nat):Int):=by
 show(if v<0 then max (v+(n:Int)) 0 else min v (n:Int))=(((if v<0 then (v+(n:Int)).toNat else min v.toNat n):Nat):Int)
 by_cases hv:v<0
 ·simp only[if_pos hv];omega
 ·simp only[if_neg hv];omega
theorem JGr(lo hi:Option Int)(n:Nat):Builtin.Slice.sliceAdjust lo hi 1 (n:Int)=(((sIx n 0 lo:Nat):Int),((sIx n n hi:Nat):Int)):=by
 have h1:¬((1:Int)<0):=by omega
 unfold Builtin.Slice.sliceAdjust;simp only[h1,if_false];refine Prod.ext ?_ ?_
 ·cases lo with
  |none=>rfl
  |some v=>exact JIS v n 0
 ·cases hi with
  |none=>rfl
  |some v=>exact JIS v n n
theorem JGW(i j:Nat):Builtin.Slice.slicePlaces (i:Int) (j:Int) 1=j - i:=by
 unfold Builtin.Slice.slicePlaces;have h1:(1:Int) > 0:=by omega
 simp only[h1,if_true,Int.ediv_one]
 split<;>omega
theorem JDJ{o:Option Int}(p:IsPart v o)(h:Q o s):wpAny (model prog w) A (Builtin.Slice.slicePartIndex v) Q E s:=by
 cases p with
 |none=>exact slicePart_none h
 |int i t=>exact slicePart_int h
theorem sliceApplied_gen{sl:Addr}{lo hi:Option Int}{n:Nat}(hs:s.heap.IsSliceOf sl vl vu .none)(pl:IsPart vl lo)(pu:IsPart vu hi)
  (h:Q (((sIx n 0 lo:Nat):Int),1,sIx n n hi - sIx n 0 lo) s):wpAny (model prog w) A (Builtin.Slice.sliceApplied (.ref sl) (pure (n:Int))) Q E s:=by
 obtain⟨os,hos,hcs,hds⟩:=id hs;unfold Builtin.Slice.sliceApplied Builtin.Slice.sliceFields;refine q_b (q_b (wpAny_field hos hds (x:=vl) rfl (q_b (wpAny_field hos hds (x:=vu) rfl (q_b (wpAny_field hos hds (x:=.none) rfl (q_e ?_)))))));refine q_b (slicePart_none ?_);show wpAny _ _ (if ((1:Int)==0)=true then _ else _) _ _ s;rw[if_neg (by decide)]
 refine q_b (JDJ pl (q_b (JDJ pu (q_b (q_e ?_)))));show wpAny _ _ (match Builtin.Slice.sliceAdjust lo hi 1 (n:Int) with|(lo,hi)=>pure (lo,(1:Int),Builtin.Slice.slicePlaces lo hi 1)) _ _ s
 rw[JGr lo hi n];show wpAny _ _ (pure (((sIx n 0 lo:Nat):Int),(1:Int),Builtin.Slice.slicePlaces ((sIx n 0 lo:Nat):Int) ((sIx n n hi:Nat):Int) 1)) _ _ s;rw[JGW];exact q_e h
theorem JJV(xs:Array Value)(i k:Nat):((List.range k).filterMap λ(m:Nat)=>xs[((i:Int)+(m:Int)*1).toNat]?).toArray=((xs.toList.drop i).take k).toArray:=by
 have e:(λ(m:Nat)=>xs[((i:Int)+(m:Int)*1).toNat]?)=λm=>xs[i+m]?:=by
  funext m
  have:((i:Int)+(m:Int)*1).toNat=i+m:=by omega
  rw[this]
 rw[e];have:=pick_run xs i k;rw[List.filterMap_map]at this;have e2:((λx=>xs[x]?) ∘ λx=>i+x)=λm=>xs[i+m]?:=rfl;rw[e2]at this;rw[this]
theorem getItem_tuple_cut{t sl:Addr}{lo hi:Option Int}(ht:IsTup s.heap t items)(hs:s.heap.IsSliceOf sl vl vu .none)(pl:IsPart vl lo)(pu:IsPart vu hi)
  (hw:¬(sIx items.size 0 lo=0/\sIx items.size items.size hi=items.size))
  (h:Q (.ref s.heap.objs.size) { s with heap:=s.heap.push { cls:=.type "tuple",data:=.seq ((items.toList.drop (sIx items.size 0 lo)).take (sIx items.size items.size hi - sIx items.size 0 lo)).toArray } })
  (hsz:items.size<=sizeLine):wpAny (model prog w) A (getItem (.ref t) (.ref sl)) Q E s:=by
 have htake:sizeOk (.seq ((items.toList.drop (sIx items.size 0 lo)).take (sIx items.size items.size hi - sIx items.size 0 lo)).toArray):=by
  show((items.toList.drop (sIx items.size 0 lo)).take (sIx items.size items.size hi - sIx items.size 0 lo)).toArray.size<=sizeLine;rw[q_f,List.length_take,List.length_drop,q_F];omega
 have hj:sIx items.size items.size hi<=items.size:=JPt _ _ (q_t _) hi;obtain⟨os,hos,hcs,hds⟩:=id hs;have hTs:s.TypeIs (.ref sl) "slice":=⟨os,hos,hcs⟩;unfold getItem
 try with_reducible refine wpAny_holding ?_
 first|refine q_b (q_e ?_)|skip
 refine q_b (wpAny_sequenceKey ht.typeIs (by decide) ?_)
 refine q_b (wpAny_callSpecial?_slot (name:=Str.ofString "__getitem__") ht.typeIs PyProof.Rows.slot_tuple_getitem
  (wpAny_call_entry PyProof.Rows.slot_tuple_getitem ht.typeIs entry_tuple_getitem ?_ (args_tuple_getitem _ _)))
 show wpAny _ _ (Builtin.Tuple.tupleItemsOf (.ref t) >>= _) _ _ s;refine q_b (tupleItemsOf_ ht ?_);refine q_b (wpAny_typeOf hTs ?_);rw[if_pos (by decide)]
 refine q_b (sliceApplied_gen hs pl pu ?_);have hno:¬((((sIx items.size 0 lo:Nat):Int)==0&&(1:Int)==1&&(sIx items.size items.size hi - sIx items.size 0 lo)==items.size)=true):=by
  intro q;rw[q_i,q_i]at q;have q1:((sIx items.size 0 lo:Nat):Int)=0:=eq_of_beq q.1.1;have q2:sIx items.size items.size hi - sIx items.size 0 lo=items.size:=eq_of_beq q.2;exact hw ⟨by omega,by omega⟩
 show wpAny _ _ (if (((sIx items.size 0 lo:Nat):Int)==0&&(1:Int)==1&&(sIx items.size items.size hi - sIx items.size 0 lo)==items.size)=true then _ else _) _ _ s;rw[if_neg hno,JJV]
 first
  |exact q_b (m:=Builtin.Tuple.tupleExact _) (wpAny_newObj_type (q_e ⟨_,rfl,q_e h⟩) htake)
  |exact q_b (m:=Builtin.Tuple.tupleExact _) (wpAny_newObj_type (q_b (q_e (q_e ⟨_,rfl,q_e h⟩))) htake)
  |exact q_b (q_b (m:=Builtin.Tuple.tupleExact _) (wpAny_newObj_type (q_e (q_e ⟨_,rfl,q_e h⟩)) htake))
  |exact q_b (q_b (m:=Builtin.Tuple.tupleExact _) (wpAny_newObj_type (q_e ⟨_,rfl,q_e h⟩) htake))
end
end HT
namespace L2
open PySem PySem.Spec PyProof.Rows
noncomputable abbrev TO:=St->Hp->(Option Int->Hp->Prop)->Prop
def PO(X:Cx)(e:Option Expr)(t:TO):Prop :=
 ∀(pins:Pq) (s:Shared) (σ:St) (H:Hp) (Q:Option Int->Hp->Prop),Inv X pins σ H s->t σ H Q ->
  wpAny (model X.prog X.w) X.A (evalPart e X.env) (λu s'=>∃o H',Inv X pins σ H' s'/\IsPart u o/\Q o H') X.xe s
noncomputable def JNG:TO:=λ_ H Q=>Q none H
noncomputable def tPart(t:TE):TO:=λσ H Q=>t σ H λx H1=>∃i,x=.int i/\Q (some i) H1
section
variable{X:Cx}{e:Expr}{te:TE}{lo hi:Option Expr}{tl th:TO}{pos p2:Pos}
theorem JMc:PO X none JNG:=by
 intro pins s σ H Q I h;rw[evalPart_none];exact q_e ⟨none,H,I,.none,h⟩
theorem JIU(h:PE X e te):PO X (some e) (tPart te):=by
 intro pins s σ H Q I hw;rw[evalPart_some];refine thn (h pins s σ H _ I hw) λu s1 ⟨x,H1,I1,r1,q1⟩=>?_;obtain⟨i,rfl,q⟩:=q1;obtain⟨t,rfl⟩:=r1;exact⟨some i,H1,I1,.int i t,q⟩
def SlR(X:Cx)(r:V->Option Int->Option Int->Hp->VK->Prop):Prop :=
 ∀(pins:Pq) (s:Shared) (σ:St) (H:Hp) (x:V) (v vl vu:Value) (lo hi:Option Int) (sl:Addr) (Q:VK),Inv X pins σ H s->RelV x v->s.heap.IsSliceOf sl vl vu .none->IsPart vl lo->IsPart vu hi->r x lo hi H Q ->
  ∃T id,typeLookup (.type T) "__getitem__"=pure (some (.builtin id))/\s.TypeIs v T/\wpAny (model X.prog X.w) X.A (getItem v (.ref sl)) (EP X pins σ Q) X.xe s
theorem SlR.or{r r':V->Option Int->Option Int->Hp->VK->Prop}(h:SlR X r)(h':SlR X r'):SlR X (λx lo hi H Q=>r x lo hi H Q\/r' x lo hi H Q):=by
 intro pins s σ H x v vl vu lo hi sl Q I rx hs pl pu q;rcases q with q|q
 ·exact h pins s σ H x v vl vu lo hi sl Q I rx hs pl pu q
 ·exact h' pins s σ H x v vl vu lo hi sl Q I rx hs pl pu q
def tSl(r:V->Option Int->Option Int->Hp->VK->Prop)(te:TE)(tl th:TO):TE:=λσ H Q=>te σ H λx H1=>tl σ H1 λl H2=>th σ H2 λu H3=>r x l u H3 Q
theorem JJg(hr:SlR X r)(he:PE X e te)(hl:PO X lo tl)(hu:PO X hi th):PE X (.Subscript e (.Slice lo hi none p2) pos) (tSl r te tl th):=by
 intro pins s σ H Q I h;refine Subscript_ (thn (he pins s σ H _ I h) λv s1 ⟨x,H1,I1,r1,q1⟩=>?_);refine wpAny_Slice (thn (hl pins s1 σ H1 _ I1 q1) λvl s2 ⟨l,H2,I2,pl,q2⟩=>thn (hu pins s2 σ H2 _ I2 q2) λvu s3 ⟨u,H3,I3,pu,q3⟩=>?_);rw[evalPart_none];refine q_e ?_;have I4:Inv X pins σ H3 { s3 with heap:=s3.heap.push { cls:=.type "slice",data:=.fields #[vl,vu,.none] } }:=I3.kept (t':=s3.toks) λb ob q=>q_c _ q
 obtain⟨T,id,hT,ht,hg⟩:=hr pins { s3 with heap:=s3.heap.push { cls:=.type "slice",data:=.fields #[vl,vu,.none] } } σ H3 x v vl vu l u s3.heap.objs.size Q I4 r1 (Heap.IsSliceOf.new ..) pl pu q3
 show wpAny (model X.prog X.w) X.A (subscriptTail e (.Slice lo hi none p2) v (.ref s3.heap.objs.size)) (EP X pins σ Q) X.xe { s3 with heap:=s3.heap.push { cls:=.type "slice",data:=.fields #[vl,vu,.none] } }
 exact tail_any (ops:=[.ref s3.heap.objs.size,v]) ht hT hg (by with_unfolding_all rfl)
noncomputable def cutV(xs:List V)(lo hi:Option Int):List V:=(xs.drop (HT.sIx xs.length 0 lo)).take (HT.sIx xs.length xs.length hi - HT.sIx xs.length 0 lo)
theorem JCl(xs:List V)(lo hi:Option Int):(cutV xs lo hi).length<=xs.length:=by
 unfold cutV;rw[List.length_take,List.length_drop];omega
def rSlT(K:Kq):V->Option Int->Option Int->Hp->VK->Prop:=λx lo hi H Q=>∃a xs,x=.ref a/\SqT K H a xs /\
 ¬(HT.sIx xs.length 0 lo=0/\HT.sIx xs.length xs.length hi=xs.length)/\∀p,H p=none->Q (.ref p) (upd H p (.tup (cutV xs lo hi)))
theorem JNu:SlR X (rSlT X.K):=by
 intro pins s σ H x v vl vu lo hi sl Q I rx hs pl pu h;obtain⟨a,xs,rfl,hx,hw,q⟩:=h;cases rx;obtain⟨its,r,ht,hz⟩:=I.tuple hx;have hlen:its.toArray.size=xs.length:=by rw[q_f];exact r.length.symm
 refine⟨"tuple",_,PyProof.Rows.slot_tuple_getitem.lookup,ht.typeIs,?_⟩;refine HT.getItem_tuple_cut ht hs pl pu (by rw[hlen];exact hw) ?_ (by rw[hlen];exact hz)
 rw[hlen];refine⟨.ref s.heap.objs.size,_,I.laid (t':=s.toks) (o:=.tup (cutV xs lo hi)) (λb ob q=>q_c _ q) (q_t _) ?_,rfl,q _ (I.hok.fresh (q_t _))⟩;exact⟨Nat.le_trans (JCl xs lo hi) hz,_,(r.drop (HT.sIx xs.length 0 lo)).take (HT.sIx xs.length xs.length hi - HT.sIx xs.length 0 lo),IsTup.new _ _⟩
noncomputable def rCatT(K:Kq):R2:=λx y H Q=>∃a b xs ys,x=.ref a/\y=.ref b/\SqT K H a xs/\SqT K H b ys/\xs≠[]/\xs.length+ys.length<=sizeLine /\
 (ys=[]->Q (.ref a) H)/\(ys≠[]->∀p,H p=none->Q (.ref p) (upd H p (.tup (xs++ys))))
theorem Vals.nil_iff(r:Vals xs us):us=[]↔xs=[]:=by
 cases r with
 |nil=>simp
 |cons _ _=>simp
theorem JL1:OpR X (binaryOp .Add) (rCatT X.K):=by
 intro pins s σ H x y v u Q I rx ry h;obtain⟨a,b,xs,ys,rfl,rfl,ha,hb,hx,hz,q1,q2⟩:=h;cases rx;cases ry;obtain⟨its,r1,p1,_⟩:=I.tuple ha;obtain⟨its2,r2,p2,_⟩:=I.tuple hb;refine HT.cat_tup p1 p2 (λz=>hx (r1.nil_iff.mp z)) (λz=>⟨.ref a,H,I,rfl,q1 (r2.nil_iff.mp z)⟩) (λz=>?_) (by rw[<-r1.length,<-r2.length];exact hz)
 refine⟨.ref s.heap.objs.size,_,I.laid (t':=s.toks) (o:=.tup (xs++ys)) (λb ob q=>q_c _ q) (q_t _) ?_,rfl,q2 (λw=>z (r2.nil_iff.mpr w)) _ (I.hok.fresh (q_t _))⟩;exact⟨by rw[q_u];exact hz,_,r1.append r2,IsTup.new _ _⟩
end
end L2
namespace L2
open PySem PySem.Spec PyProof.Rows
noncomputable def ixN(n:Nat)(i:Int):Option Nat:=if 0<=i then (if i<n then some i.toNat else none) else if -(n:Int)<=i then some (i+n).toNat else none
noncomputable def atI{α:Type}(xs:List α)(i:Int):Option α:=(ixN xs.length i).bind λj=>xs[j]?
theorem JMr{n:Nat}{i:Int}{j:Nat}(h:ixN n i=some j):seqIndex? i n=some j/\j<n/\-(n:Int)<=i/\i<n:=by
 unfold ixN at h
 by_cases h0:0<=i
 ·rw[if_pos h0]at h
  by_cases h1:i<n
  ·rw[if_pos h1]at h;have e:i.toNat=j:=Option.some.inj h;exact⟨by rw[seqIndex_of h0 h1,e],by omega,by omega,h1⟩
  ·rw[if_neg h1]at h;cases h
 ·rw[if_neg h0]at h
  by_cases h1:-(n:Int)<=i
  ·rw[if_pos h1]at h;have e:(i+n).toNat=j:=Option.some.inj h;exact⟨by rw[seqIndex_neg (by omega) h1,e],by omega,h1,by omega⟩
  ·rw[if_neg h1]at h;cases h
theorem JFR{α:Type}{xs:List α}{i:Int}{v:α}(h:atI xs i=some v):∃j,seqIndex? i xs.length=some j/\xs[j]? = some v/\j<xs.length/\-(xs.length:Int)<=i/\i<xs.length:=by
 unfold atI at h;cases e:ixN xs.length i with
 |none=>rw[e]at h;cases h
 |some j =>
  rw[e]at h;obtain⟨h1,h2,h3,h4⟩:=JMr e;exact⟨j,h1,h,h2,h3,h4⟩
def JIW(b:Expr):Prop:=∀o i,subscripted b false o i=operate [o,i] (getItem o i)
def IxR(X:Cx)(r:R2):Prop :=
 ∀(value slice:Expr) (pins:Pq) (s:Shared) (σ:St) (H:Hp) (x y:V) (v u:Value) (Q:VK),Inv X pins σ H s->RelV x v->RelV y u->r x y H Q ->
  subscripted slice false v u=operate [v,u] (getItem v u)->wpAny (model X.prog X.w) X.A (subscriptTail value slice v u) (EP X pins σ Q) X.xe s
def MtR(X:Cx)(id:String)(r:V->List V->Hp->VK->Prop):Prop :=
 ∀(pins:Pq) (s:Shared) (σ:St) (H:Hp) (x:V) (xs:List V) (v:Value) (us:List Value) (Q:VK),Inv X pins σ H s->RelV x v->Vals xs us->r x xs H Q ->
  wpAny (model X.prog X.w) X.A (call (.builtin id) (v::us)) (EP X pins σ Q) X.xe s
section
variable{X:Cx}{a b:Expr}{ta tb:TE}{pos:Pos}
theorem IxR.or{r r':R2}(h:IxR X r)(h':IxR X r'):IxR X (λx y H Q=>r x y H Q\/r' x y H Q):=by
 intro value slice pins s σ H x y v u Q I rx ry q hs;rcases q with q|q
 ·exact h value slice pins s σ H x y v u Q I rx ry q hs
 ·exact h' value slice pins s σ H x y v u Q I rx ry q hs
theorem pe_ix{r:R2}(hr:IxR X r)(ha:PE X a ta)(hb:PE X b tb)(hs:JIW b):PE X (.Subscript a b pos) (tOp r ta tb):=by
 intro pins s σ H Q I h;exact Subscript_ (binT ha hb I h λv u s2 x y H2 I2 rx ry q=>hr a b pins s2 σ H2 x y v u Q I2 rx ry q (hs _ _))
noncomputable def rIxL(K:Kq):R2:=λx y H Q=>∃p xs i v,x=.ref p/\y=.int i/\SqL K H p xs/\atI xs i=some v/\Q v H
noncomputable def rIxT(K:Kq):R2:=λx y H Q=>∃p xs i v,x=.ref p/\y=.int i/\SqT K H p xs/\atI xs i=some v/\Q v H
noncomputable def rIxS:R2:=λx y H Q=>∃z i c,x=.str z/\y=.int i/\z.length<=sizeLine/\atI z.cps.toList i=some c/\Q (.str ⟨#[c]⟩) H
theorem ix_list:IxR X (rIxL X.K):=by
 intro value slice pins s σ H x y v u Q I rx ry h hs;obtain⟨p,xs,i,z,rfl,rfl,hq,he,q⟩:=h;cases rx;obtain⟨t,rfl⟩:=ry;obtain⟨its,r,pl,hz⟩:=I.list hq;obtain⟨j,h1,h2,h3,h4,h5⟩:=JFR he;obtain⟨w,ew,rw'⟩:=r.get h2;have hl:=r.length;have hn:=JEc;have fin:EP X pins σ Q w s:=⟨z,H,I,rw',q⟩
 by_cases h0:0<=i
 ·have hj:i.toNat=j:=by
   rw[seqIndex_of h0 h5]at h1;exact Option.some.inj h1
  exact item_listR pl.isList h0 (by omega) (by rw[hj];simpa using ew) fin hs
 ·have hj:(i+(its.toArray.size:Int)).toNat=j:=by
   rw[seqIndex_neg (by omega) h4]at h1
   rw[q_f,<-hl];exact Option.some.inj h1
  exact subscriptTail_builtinR (x:=w) pl.isList.typeIs slot_list_getitem.lookup
   (wpAny_getItem_list_neg (Q:=λr s'=>r=w/\EP X pins σ Q r s') pl.isList (by omega) (by rw[q_f]<;>omega) (by omega) (by rw[hj];simpa using ew) ⟨rfl,fin⟩) hs
theorem ix_tup:IxR X (rIxT X.K):=by
 intro value slice pins s σ H x y v u Q I rx ry h hs;obtain⟨p,xs,i,z,rfl,rfl,hq,he,q⟩:=h;cases rx;obtain⟨t,rfl⟩:=ry;obtain⟨its,r,pl,hz⟩:=I.tuple hq;obtain⟨j,h1,h2,h3,h4,h5⟩:=JFR he;obtain⟨w,ew,rw'⟩:=r.get h2;have hl:=r.length;have hn:=JEc;have fin:EP X pins σ Q w s:=⟨z,H,I,rw',q⟩;exact subscriptTail_builtinR (x:=w) pl.typeIs slot_tuple_getitem.lookup
  (getItem_tuple (j:=j) (Q:=λr s'=>r=w/\EP X pins σ Q r s') pl (by omega) (by omega) (by rw[q_f,<-hl];exact h1) (by simpa using ew) ⟨rfl,fin⟩) hs
theorem JNW:IxR X rIxS:=by
 intro value slice pins s σ H x y v u Q I rx ry h hs;obtain⟨z,i,c,rfl,rfl,hz,he,q⟩:=h;obtain⟨t,rfl⟩:=rx;obtain⟨t',rfl⟩:=ry;obtain⟨j,h1,h2,h3,h4,h5⟩:=JFR he;have hl:z.cps.toList.length=z.length:=by simp[Str.length]
 rw[hl]at h1 h4 h5;have hn:=JEc;exact tail_any (typeIs_str s z t) slot_str_getitem.lookup (getItem_str (c:=c) (by
  have e1:decide (i < -(2 ^ 63:Int))=false:=q_o (by omega)
  have e2:decide (i ≥ 2 ^ 63)=false:=q_o (by omega)
  rw[e1,e2,Bool.or_false]) (by rw[h1];simpa using h2) ⟨.str ⟨#[c]⟩,H,I.tok _,⟨_,rfl⟩,q⟩) hs
noncomputable def rIx(K:Kq):R2:=λx y H Q=>rIxL K x y H Q\/rIxT K x y H Q\/rIxS x y H Q
theorem ix_seq:IxR X (rIx X.K):=ix_list.or (ix_tup.or JNW)
theorem JEr(lo hi:Option Int)(n:Nat):(sliceBounds lo hi none n).1=((HT.sIx n 0 lo:Nat):Int)/\(sliceBounds lo hi none n).2.1=((HT.sIx n n hi:Nat):Int)/\(sliceBounds lo hi none n).2.2=1:=by
 refine⟨?_,?_,rfl⟩
 ·cases lo with
  |none=>simp[sliceBounds,HT.sIx]
  |some i =>
   simp only[sliceBounds,HT.sIx,Option.getD_none,show(1:Int) > 0 by decide,if_true]
   by_cases h:i<0
   ·simp only[h,if_true]<;>omega
   ·simp only[h,if_false]<;>omega
 ·cases hi with
  |none=>simp[sliceBounds,HT.sIx]
  |some i =>
   simp only[sliceBounds,HT.sIx,Option.getD_none,show(1:Int) > 0 by decide,if_true]
   by_cases h:i<0
   ·simp only[h,if_true]<;>omega
   ·simp only[h,if_false]<;>omega
theorem JDk(its:List Value)(lo hi:Option Int):slicePick its.toArray lo hi none=((its.drop (HT.sIx its.length 0 lo)).take (HT.sIx its.length its.length hi - HT.sIx its.length 0 lo)).toArray:=by
 obtain⟨h1,h2,h3⟩:=JEr lo hi its.toArray.size;unfold slicePick;rw[h1,h2,h3];simp only[sliceRange_one,pick_run,q_f]<;>rfl
def rSlL(K:Kq):V->Option Int->Option Int->Hp->VK->Prop:=λx lo hi H Q=>∃a xs,x=.ref a/\SqL K H a xs/\∀p,H p=none->Q (.ref p) (upd H p (.lst (cutV xs lo hi)))
theorem JNC:SlR X (rSlL X.K):=by
 intro pins s σ H x v vl vu lo hi sl Q I rx hs pl pu h;obtain⟨a,xs,rfl,hx,q⟩:=h;cases rx;obtain⟨its,r,ht,hz⟩:=I.list hx;have hlen:=r.length;refine⟨"list",_,slot_list_getitem.lookup,ht.isList.typeIs,?_⟩;refine wpAny_getItem_list_slice ht.isList hs pl pu .none (by simp) ?_ (by rw[q_f]<;>omega)
 rw[JDk,<-hlen];refine⟨.ref s.heap.objs.size,_,I.laid (t':=s.toks) (o:=.lst (cutV xs lo hi)) (λb ob q=>q_c _ q) (q_t _) ?_,rfl,q _ (I.hok.fresh (q_t _))⟩;exact⟨Nat.le_trans (JCl xs lo hi) hz,_,0,(r.drop (HT.sIx xs.length 0 lo)).take (HT.sIx xs.length xs.length hi - HT.sIx xs.length 0 lo),q_k _ rfl⟩
theorem JEo:JBM X (.type "list") (λxs H Q=>∃p ys,xs=[.ref p]/\(SqL X.K H p ys\/SqT X.K H p ys)/\∀l,H l=none->Q (.ref l) (upd H l (.lst ys))):=by
 intro pins s σ H xs us Q I r h;obtain⟨p,ys,rfl,hq,q⟩:=h;obtain⟨u,rfl,rx⟩:=vals1 r;cases rx;have fin:∀(its:List Value),Vals ys its->ys.length<=sizeLine->∀(h':Heap) (c':Nat),(∀b o',s.heap.get? b=some o'->h'.get? b=some o') ->
   h'.get? s.heap.objs.size=some { cls:=.type "list",dict:=none,data:=.seq its.toArray c',slots:=#[] }->EP X pins σ Q (.ref s.heap.objs.size) { s with heap:=h' }:=λits r' hz h' c' kp e =>
  ⟨.ref s.heap.objs.size,_,I.laid (t':=s.toks) kp (q_t _) (show ObjOk X.prog X.w _ h' _ (.lst ys) from⟨hz,its,c',r',e⟩),rfl,q _ (I.hok.fresh (q_t _))⟩
 rcases hq with hq|hq
 ·obtain⟨its,r',pl,hz⟩:=I.list hq;have hlen:=r'.length;obtain⟨o,ho,hc,n,hd⟩:=pl.isList;exact call_list_seq p (.inl rfl) ho hc hd (λh' c' kp e=>fin its r' hz h' c' kp e) (by simp only[q_f]<;>omega)
 ·obtain⟨its,r',pl,hz⟩:=I.tuple hq;have hlen:=r'.length;obtain⟨o,ho,hc,n,hd⟩:=pl;exact call_list_seq p (.inr rfl) ho hc hd (λh' c' kp e=>fin its r' hz h' c' kp e) (by simp only[q_f]<;>omega)
theorem JDb:JBM X (.type "tuple") (λxs H Q=>∃p ys,xs=[.ref p]/\((SqL X.K H p ys/\∀l,H l=none->Q (.ref l) (upd H l (.tup ys)))\/(SqT X.K H p ys/\Q (.ref p) H))):=by
 intro pins s σ H xs us Q I r h;obtain⟨p,ys,rfl,h⟩:=h;obtain⟨u,rfl,rx⟩:=vals1 r;cases rx;rcases h with ⟨hq,q⟩|⟨hq,q⟩
 ·obtain⟨its,r',pl,hz⟩:=I.list hq;have hlen:=r'.length;refine call_tuple_list pl.isList (λh' kp=>?_) (by simp only[q_f]<;>omega)
  have I1:Inv X pins σ H { s with heap:=h' }:=I.kept (t':=s.toks) kp
  have I2:Inv X pins σ (upd H h'.objs.size (.tup ys)) { s with heap:=h'.push { cls:=.type "tuple",data:=.seq its.toArray } } :=
   I1.laid (t':=s.toks) (λb o e=>q_c _ e) (q_t _) (show ObjOk X.prog X.w _ _ _ (.tup ys) from⟨hz,its,r',IsTup.new _ _⟩)
  exact⟨.ref h'.objs.size,_,I2,rfl,q _ (I1.hok.fresh (q_t _))⟩
 ·obtain⟨its,r',pl,hz⟩:=I.tuple hq;exact call_tuple_same pl ⟨.ref p,H,I,rfl,q⟩
def tyV(K:Kq)(T:String)(x:V)(H:Hp):Prop:=match x with
 |.str _=>T="str"
 |.int _=>T="int"
 |.ref p=>(T="list"/\∃xs,SqL K H p xs)\/(T="tuple"/\∃o,K.lookup p=some o/\o.cls=.type "tuple"/\o.dict=none) \/
  (T="dict"/\((∃kvs,H p=some (.dK kvs))\/∃kvs,H p=some (.dT kvs)))\/(T="set"/\∃S n,H p=some (.set S n))
 |_=>False
theorem JQR(I:Inv X pins σ H s)(r:RelV x v)(ty:tyV X.K T x H) :
  s.TypeIs v T/\∀a,v=.ref a->∃ob,s.heap.get? a=some ob/\ob.dict=none:=by
 cases x with
 |str z =>
  obtain⟨t,rfl⟩:=r;cases(show T="str" from ty);exact⟨typeIs_str s z t,λ_ e=>nomatch e⟩
 |int i =>
  obtain⟨t,rfl⟩:=r;cases(show T="int" from ty);exact⟨typeIs_int s i t,λ_ e=>nomatch e⟩
 |ref p =>
  cases r;rcases ty with ⟨rfl,xs,hq⟩|⟨rfl,o,hk,hc,hd⟩|⟨rfl,hk⟩|⟨rfl,S,n,hk⟩
  ·obtain⟨its,_,pl,_⟩:=I.list hq;refine⟨pl.isList.typeIs,λa e=>?_⟩;cases e;obtain⟨o,n,e,c,hd,_⟩:=pl;exact⟨o,e,hd⟩
  ·refine⟨⟨o,I.kIn p o hk,hc⟩,λa e=>?_⟩;cases e;exact⟨o,I.kIn _ o hk,hd⟩
  ·have z:∃o,s.heap.get? p=some o/\o.ExactDict:=by
    rcases hk with ⟨kvs,hk⟩|⟨kvs,hk⟩
    ·obtain⟨_,_,_,_,o,_,_,e,ex,_⟩:=I.hok p _ hk;exact⟨o,e,ex⟩
    ·obtain⟨_,_,_,_,o,_,_,e,ex,_⟩:=I.hok p _ hk;exact⟨o,e,ex⟩
   obtain⟨o,e,ex⟩:=z;refine⟨⟨o,e,ex.1⟩,λa e2=>?_⟩;cases e2;exact⟨o,e,ex.2.1⟩
  ·obtain⟨o,_,_,_,e,ex,_⟩:=I.hok p _ hk;refine⟨⟨o,e,ex.1⟩,λa e2=>?_⟩;cases e2;exact⟨o,e,ex.2.1⟩
 |_=>exact fF ty
def tBM(K:Kq)(T:String)(r:V->List V->Hp->VK->Prop)(to:TE)(t:TA):TE:=λσ H Q=>to σ H λx H1=>tyV K T x H1/\t σ H1 λxs H2=>r x xs H2 Q
variable{o e:Expr}{es:List Expr}{to:TE}{t:TA}{name:Str}{apos cpos:Pos}{T id:String}{r:V->List V->Hp->VK->Prop}
theorem pe_bm(pa:PlainAttrs T)(slot:Slot T name id)(hty:typeOf (.builtin id)=pure (.type "method_descriptor"))(hm:MtR X id r)(ho:PE X o to)(ha:PA X (e::es) t)
  (hbase:attributeBase o name X.env (eval o X.env)=eval o X.env:=by rfl)
  (hfew:((backTo cpos (starEach (e::es) X.env)).all (λx=>!x.1)&&(backToKw cpos (keywordEach [] X.env)).all (λx=>x.1.isSome)
    && decide ((e::es).length+([]:List Keyword).length+(if ([]:List Keyword).isEmpty then 0 else 1)<30))=true:=by rfl)
  (hline:(apos.endLine==cpos.line)=true:=by rfl) (hs:starEach (e::es) X.env=(false,eval e X.env)::starEach es X.env:=by rfl) (hplain:(backTo cpos (starEach es X.env)).any (·.1)=false:=by rfl) :
  PE X (.Call (.Attribute o name apos) (e::es) [] cpos) (tBM X.K T r to t):=by
 intro pins s σ H Q I h;refine wpAny_Call_method_late hbase hfew hline rfl (thn (ho pins s σ H _ I h) λv s1 ⟨x,H1,I1,r1,ty,q1⟩=>?_);obtain⟨h1,h2⟩:=JQR I1 r1 ty;refine⟨T,id,pa,slot,hty,h1,h2,?_⟩;have hA:=ha cpos pins s1 σ H1 _ I1 q1;rw[hs]at hA ⊢;refine Calls.callWith_builtin (by show(false || (backTo cpos (starEach es X.env)).any (·.1))=false;rw[hplain]<;>rfl) (Calls.evalArgs_plain ?_)
 exact thn hA λus s2 ⟨vs,H2,I2,r2,q2⟩=>hm pins s2 σ H2 x vs v us Q I2 r1 r2 q2
end
end L2
namespace L2
open PySem PySem.Spec PyProof.Rows
def MtM(X:Cx)(id:String)(r:V->List V->Hp->VK->Prop):Prop :=
 ∀(pins:Pq) (s:Shared) (σ:St) (H:Hp) (x:V) (xs:List V) (v:Value) (us:List Value) (Q:VK),Inv X pins σ H s->RelV x v->Vals xs us->r x xs H Q ->
  wpAny (model X.prog X.w) X.A (call (.builtin id) (v::us)) (EP X pins σ Q) X.xe s
theorem Vals.one:∀ {x:V}{us:List Value},Vals [x] us->∃u,us=[u]/\RelV x u
 |_,_,.cons r .nil=>⟨_,rfl,r⟩
theorem Vals.rep(h:Vals xs us):∀k:Nat,Vals (List.replicate k xs).flatten (List.replicate k us).flatten
 |0=>.nil
 |k+1=>by
  rw[List.replicate_succ,List.replicate_succ,List.flatten_cons,List.flatten_cons];exact Vals.append h (Vals.rep h k)
section
variable{X:Cx}{pins:Pq}{σ:St}{H:Hp}{s:Shared}{l b:Addr}{xs ys zs:List V}
theorem Inv.lset{its its':List Value}{n:Nat}{f:Array Value->Array Value}{t':Nat}(I:Inv X pins σ H s)(hH:H l=some (.lst xs))
  (e:s.heap.get? l=some { cls:=.type "list",data:=.seq its.toArray n }) (hf:f its.toArray=its'.toArray) (hv:Vals ys its') (hz:ys.length<=sizeLine) :
  Inv X pins σ (upd H l (.lst ys)) { s with heap:=s.heap.update l (Obj.mapSeq f),toks:=t' }:=by
 have q:=PySem.IsL.update e f;rw[hf]at q;refine I.write (x:=l) (e:=l) (by rw[hH];exact trivial) (.inl rfl) (λb' u hb hu=>(Heap.get?_update_other s.heap (Obj.mapSeq f) (Ne.symm hb)).trans hu) ⟨_,q⟩ ?_
 exact⟨hz,its',_,hv,q⟩
theorem Inv.lnew{t':Nat}(I:Inv X pins σ H s)(hv:Vals ys its)(hz:ys.length<=sizeLine) :
  Inv X pins σ (upd H s.heap.objs.size (.lst ys)) { s with heap:=s.heap.push { cls:=.type "list",data:=.seq its.toArray },toks:=t' } :=
 I.laid (λ_ _ q=>q_c _ q) (q_t _) ⟨hz,its,0,hv,q_k _ rfl⟩
theorem Inv.fresh(I:Inv X pins σ H s):H s.heap.objs.size=none:=I.hok.fresh (q_t _)
theorem Inv.lstM(I:Inv X pins σ H s)(hH:H l=some (.lst xs)):xs.length<=sizeLine/\∃(its:List Value) (n:Nat),Vals xs its/\xs.length=its.length/\s.heap.get? l=some { cls:=.type "list",data:=.seq its.toArray n }:=by
 obtain⟨z,its,n,r,e⟩:=I.hok l _ hH;exact⟨z,its,n,r,r.length,e⟩
theorem JJ3{n:Nat}(h:n<=sizeLine):Builtin.List.listTooLong n=false:=by
 unfold Builtin.List.listTooLong;exact q_o (by omega)
end
section
variable{X:Cx}
def JNS:V->List V->Hp->VK->Prop:=λx vs H Q=>∃l xs y,x=.ref l/\vs=[y]/\H l=some (.lst xs)/\xs.length<sizeLine/\Q .non (upd H l (.lst (xs++[y])))
theorem JIc:MtM X "list.append" JNS:=by
 intro pins s σ H x vs v us Q I rx rv h;obtain⟨l,xs,y,rfl,rfl,hH,hz,q⟩:=h;cases rx;obtain⟨u,rfl,ru⟩:=rv.one;obtain⟨z,its,n,r,hl,e⟩:=I.lstM hH;refine call_meets F.slot_list_append ⟨_,e,rfl⟩ F.entry_list_append (F.args_list_append_2 _ _) (PySem.list_append l its.toArray n u (by rw[q_f];omega)) ⟨e,?_⟩
 refine⟨.non,_,I.lset (its':=its++[u]) hH e (by simp) (r.append (.cons ru .nil)) ?_,rfl,q⟩
 rw[q_u,List.length_singleton];omega
theorem len_rep{α:Type}(xs:List α)(k:Nat):(List.replicate k xs).flatten.length=k*xs.length:=by
 induction k with
 |zero=>simp
 |succ k ih=>rw[List.replicate_succ,List.flatten_cons,q_u,ih,Nat.succ_mul,Nat.add_comm]
end
section
variable{prog:Program}{w:World}{A:Around}{E:Vq}{s:Shared}
set_option maxRecDepth 100000 in
end
section
variable{X:Cx}
end
end L2
namespace Att
open PySem PySem.W PySem.Calls PyProof.Rows
theorem JCy:∀(ns:List Int) (vs:List Value),WellAll P h vs (ns.map WData.int)->IntsAre vs ns:=by
 intro ns
 induction ns with
 |nil =>
  intro vs w;rw[List.map_nil]at w;cases w;exact .nil
 |cons n ns ih =>
  intro vs w;rw[List.map_cons]at w;cases w with
  |cons a b =>
   cases a;exact .cons _ _ (ih _ b)
theorem JHP{l:OpenLaw}{n:Nat}(hn:l.most=some n){P:Params}{h:Heap}{args:List WData}{vals:List Value}
  (hpre:l.row.toRowW.claim.pre args=true) (hwl:WellAll P h vals args) :
  ∃a vs ns,vals=[Value.ref a]/\args=[WData.list (ns.map WData.int)]/\h.get? a=some { cls:=.type "list",data:=.seq vs.toArray }/\IntsAre vs ns/\ns.length<=n:=by
 have hsh:WShape.hasAll [] args [.list .int]=true:=(pre_splitW hpre).1;have hc:l.pre.holds [] { args:=args }=true:=(pre_splitW hpre).2;obtain⟨d,r,rfl,h1,h2⟩:=hasAllW_cons hsh;obtain rfl:=hasAllW_nil h2;obtain⟨xs,rfl,h3⟩:=hasW_list h1;obtain⟨ns,rfl⟩:=items_int h3;have hlen:ns.length<=n:=by
  unfold OpenLaw.pre at hc;have h4:(WTm.not (.lt (.lit (.int (n:Int))) (.len (.arg 0)))).holds [] { args:=[.list (ns.map .int)] }=true:=by
    have h4:=(holds_andW hc).1;rw[hn]at h4;exact h4
  have h5:=condW_of h4 (w_not (w_lt w_lit (w_len_list (w_arg rfl))));rw[q_g]at h5;refine Nat.le_of_not_lt λq=>?_;have q':(n:Int)<((ns.length:Nat):Int):=by omega
  first
    |(rw[decide_eq_true q']at h5;exact absurd h5 (by decide))
    |(simp at h5;omega)
 cases hwl with
 |cons w1 w2 =>
  cases w2;cases w1 with
  |list ho hall=>exact⟨_,_,ns,rfl,rfl,ho,JCy ns _ hall,hlen⟩
theorem JHT(l:OpenLaw)(args:List WData):l.row.toRowW.claim.post args (.bool true) args=true :=
 postW_of (r:=l.row.toRowW) (X:=(true==true))
  (show WShape.has [] (.bool true) .bool=true by first|rfl|decide|simp[WShape.has,WShape.arms,WShape.armsAll])
  (show(WTm.eq .res (.lit (.bool true))).value [] { args:=args,res:=some (.bool true),after:=args }=some (.bool (true==true)) from w_eq_bool (w_res rfl) w_lit) rfl
theorem attach_call{l:OpenLaw}{n:Nat}{q:Program}{loose:List Str}{XP:(Mq)->Heap->Prop}{YP:World->Heap->Prop}{d:DefRec}
  (hn:l.most=some n) (hdf:d.params.defaults=[])
  (call:∀(w:World) (s₀ s₁:Shared) (mg mb:Mq) (fa:Addr) (o:Obj) (pm cd doc:Value) (a:Addr) (vs:List Value) (ns:List Int),
    Ground q loose [] XP w s₀ mg mb s₁.heap->YP w s₁.heap ->
    s₁.heap.get? fa=some o->o.data=.func (docDef d.name d.params d.body d.scope pm cd doc)->s₁.heap.CodeRec cd d.name->mg d.name=some (.ref fa) ->
    s₁.heap.get? a=some { cls:=.type "list",data:=.seq vs.toArray }->IntsAre vs ns->ns.length<=n->s₁.gens=#[] ->
    codeAny (model l.prog w) callerA (.call (.ref fa) ⟨[.ref a],[]⟩) (λr s'=>r=.ok (.ret (.bool true))/\OldK s₁.heap s'.heap/\s'.os=s₁.os/\AllBare s'.gens) s₁) :
  WalkO q loose XP YP l.row.toRowW d [] (λf vs=>PySem.call f vs):=by
 intro w s₀ s₁ mg mb G Y fa o pm cd doc dV kV ho hd hcd hD hmg hg args vals as hpre hlay hrd hwl hlo;obtain rfl:dV=.none:=Dflts.none hD hdf;obtain rfl:kV=.none:=Dflts.noKw hD;obtain⟨a,vs,ns,rfl,rfl,hobj,hints,hlen⟩:=JHP hn hpre hwl;refine enter_call (codeAny_mono (call w s₀ s₁ mg mb fa o pm cd doc a vs ns G Y ho (fd_plain hd) hcd hmg hobj hints hlen hg) λr s' hq=>?_);obtain⟨rfl,h2,h3,h4⟩:=hq;exact⟨.inl ⟨.bool true,.bool true,[],rfl,λ_=>rfl,.bool true,JHT l _,λ_=>⟨List.Pairwise.nil,λ_ hm=>(nomatch hm)⟩⟩,h2,h3,h4⟩
section
variable{prog:Program}{w:World}{A:Around}{E:Vq}{s:Shared}{K:Frag}
noncomputable def ledger(h:Heap)(L d:Addr):Pq:=(List.range h.objs.size).filterMap λa=>if a=L\/a=d then none else (h.get? a).map λo=>(a,o)
end
end Att
namespace L2
open PySem PySem.Spec PyProof.Rows
theorem JEB:∀ {vs:List Value}{ns:List Int},IntsAre vs ns->Vals (ns.map V.int) vs
 |_,_,.nil=>.nil
 |_,_,.cons n t h=>.cons ⟨t,rfl⟩ (JEB h)
def Only(H:Hp):Prop:=∀b,H b=none\/∃o xs,H b=some (.frz o (.lst xs))
theorem JJX{P:Program}{w:World}{K:Kq}{mg mb:Mq}{CX:CXT}{k:Nat}{fa a:Addr}{fd:FuncData}{x:Str}{sp:Sp}{s₁:Shared}{vs:List Value}{ns:List Int}
  (KX:K.In s₁.heap) (hns:s₁.heap.Ns mainGlobals mg) (hb:s₁.heap.Ns builtinsNs mb) (hbb:∀x:Str,x≠"__name__"->mb x=bootBuiltins x) (hlim:s₁.heap.NoLimit) (hg:s₁.gens=#[])
  (ha:s₁.heap.get? a=some { cls:=.type "list",data:=.seq vs.toArray }) (hi:IntsAre vs ns) (hl:ns.length<=sizeLine) (hr:Room k callerA)
  (F:∀base:Heap,K.In base->base.Ns mainGlobals mg->FnOk P w K mg base CX k fa fd [x] sp) (hbind:∀(s:Shared) (u:Value),BindsTo s fd ⟨[u],[]⟩ [(x,u)])
  (hsp:∀H:Hp,Only H->SqL K H a (ns.map V.int)->sp [.ref a] H (λv _=>v=.bl true) λ_ _ _=>False)
  (hCX:∀H e s',CX [] H s₁ (λ_ _ _=>False) e s'->False) :
  codeAny (model P w) callerA (.call (.ref fa) ⟨[.ref a],[]⟩) (λr s'=>r=.ok (.ret (.bool true))/\OldK s₁.heap s'.heap/\s'.os=s₁.os/\AllBare s'.gens) s₁:=by
 have rv:=JEB hi;have lenV:=hi.length;have core:∀H:Hp,Only H->SqL K H a (ns.map V.int)->HOk P w H s₁.heap->(∀b,H b≠none->b=a)->(H a≠none->K.lookup a=none) ->
    codeAny (model P w) callerA (.call (.ref fa) ⟨[.ref a],[]⟩) (λr s'=>r=.ok (.ret (.bool true))/\OldK s₁.heap s'.heap/\s'.os=s₁.os/\AllBare s'.gens) s₁:=by
  intro H hO hS hok hA hK;have base_of:∀ {b:Addr}{o:Obj},s₁.heap.get? b=some o->H b=none->(hidT s₁.heap H).get? b=some o:=λe n=>JJt e n;have noA:∀ {b:Addr}{o:Obj}{es:Array DictEntry}{ep:Nat},s₁.heap.get? b=some o->o.data=.dict es ep->H b=none:=λ{b o es ep} e d=>by
    cases q:H b with
    |none=>rfl
    |some u =>
     have e':b=a:=hA b (by rw[q];simp)
     subst e';rw[ha]at e;cases e;have d':Data.seq vs.toArray _=Data.dict es ep:=d;cases d'
  have nsK:∀ {b:Addr}{m:Mq},s₁.heap.Ns b m->(hidT s₁.heap H).Ns b m:=λ{b m} ⟨o,es,ep,e,d,r⟩=>⟨o,es,ep,base_of e (noA e d),d,r⟩;have hKb:K.In (hidT s₁.heap H):=λb o e=>base_of (KX b o e) (by
    cases q:H b with
    |none=>rfl
    |some u =>
     have e':b=a:=hA b (by rw[q];simp)
     subst e';rw[hK (by rw[q];simp)]at e;cases e)
  have hM:Mod K mg (hidT s₁.heap H):=⟨hKb,nsK hns,⟨mb,nsK hb,hbb⟩,let ⟨mc,h1,h2⟩:=hlim;⟨mc,nsK h1,h2⟩⟩
  have e0:Env0 P w K mg (hidT s₁.heap H) callerA [] s₁ H:=⟨rfl,hM,λb o e=>JMh e,Nat.le_of_eq (JIh _ _),trivial,λb hb=>absurd (show b∈([]:List Addr) from hb) (by simp),hok,.of_eq hg⟩
  refine codeAny_mono ((F _ hKb (nsK hns)).run callerA [] s₁ H ⟨[.ref a],[]⟩ [.ref a] [.ref a] _ _ hr e0 (hbind s₁ (.ref a)) (.cons rfl .nil) (hsp H hO hS)) λr s' h=>?_;cases r with
  |error e=>exact(hCX H e s' h).elim
  |ok fl =>
    cases fl with
    |next=>exact fF h
    |brk=>exact fF h
    |cont=>exact fF h
    |ret u =>
     obtain⟨v,H',os,bare,un,hok',r',q⟩:=h;have q':v=.bl true:=q;subst q';obtain rfl:u=Value.bool true:=r';refine⟨rfl,OldK.of_keep λb o e=>?_,os,bare⟩;cases q:H b with
     |none=>exact un.keep b o e q (by intro z;exact absurd (show b∈([]:List Addr) from z) (by simp)) (by simp)
     |some u =>
      rcases hO b with z|⟨ob,xs,z⟩
      ·rw[q]at z;cases z
      ·have z2:=un.frzs b ob _ z;obtain⟨e1,_⟩:=hok b _ z;obtain⟨e2,_⟩:=hok' b _ z2;rw[e]at e1;cases e1;exact e2
 cases hk:K.lookup a with
 |some o =>
  have e:=KX a o hk;rw[ha]at e;cases e;refine core (λ_=>none) (λ_=>.inl rfl) (.inr ⟨_,vs.toArray,_,hk,rfl,rfl,rfl,by rw[q_f,lenV];exact hl,by simpa using rv⟩) (λb u z=>by have z':(none:Option HO)=some u:=z;cases z') (λb z=>absurd rfl z) λz=>absurd rfl z
 |none =>
  refine core (λb=>if b=a then some (.frz { cls:=.type "list",data:=.seq vs.toArray } (.lst (ns.map V.int))) else none) (λb=>?_) (.inl (.inr ⟨{ cls:=.type "list",data:=.seq vs.toArray },if_pos rfl⟩)) (λb u z=>?_) (λb z=>?_) λ_=>hk
  · by_cases hb:b=a
    ·exact .inr ⟨_,_,if_pos hb⟩
    ·exact .inl (if_neg hb)
  · by_cases hb:b=a
    ·have z':=(if_pos hb).symm.trans z;cases z';subst hb;exact⟨ha,by rw[q_g];exact hl,vs,_,rv,ha⟩
    ·have z':=(if_neg hb).symm.trans z;cases z'
  · by_cases hb:b=a
    ·exact hb
    ·exact absurd (if_neg hb) z
end L2
namespace L2
open PySem PySem.Spec PyProof.Rows
noncomputable abbrev KOf{K:Kq}{h:Heap}(_:K.In h):Kq:=K
theorem walk_of{l:PySem.W.OpenLaw}{n k:Nat}{q:Program}{loose:List Str}{XP:(Mq)->Heap->Prop}{YP:World->Heap->Prop}{d:DefRec}{K:Params->Kq}{CX:World->CXT}{sp:World->Sp}{x:Str}
  (hn:l.most=some n) (hn2:n<=sizeLine) (hdf:d.params.defaults=[]) (hr:Room k callerA)
  (hY:∀(w:World) (h:Heap),YP w h->(K w.params).In h)
  (F:∀(w:World) (mg:Mq) (fa:Addr) (h:Heap),(K w.params).In h->h.Ns mainGlobals mg->mg d.name=some (.ref fa) ->
    ∃fd:FuncData,(∀(s:Shared) (u:Value),BindsTo s fd ⟨[u],[]⟩ [(x,u)]) /\
     ∀base:Heap,(K w.params).In base->base.Ns mainGlobals mg->FnOk l.prog w (K w.params) mg base (CX w) k fa fd [x] (sp w))
  (hsp:∀(w:World) (H:Hp) (a:Addr) (ns:List Int),ns.length<=n->Only H->SqL (K w.params) H a (ns.map V.int)->sp w [.ref a] H (λv _=>v=.bl true) λ_ _ _=>False)
  (hCX:∀(w:World) (H:Hp) (s:Shared) (e:Value) (s':Shared),CX w [] H s (λ_ _ _=>False) e s'->False) :
  PySem.W.WalkO q loose XP YP l.row.toRowW d [] (λf vs=>PySem.call f vs):=by
 refine Att.attach_call hn hdf λw s₀ s₁ mg mb fa o pm cd doc a vs ns G Y ho hd hcd hmg hobj hints hlen hg=>?_;have KX:=hY w _ Y;obtain⟨fd,hb,hF⟩:=F w mg fa _ KX G.T.g hmg;exact JJX KX G.T.g G.T.b G.T.builtins G.T.nolimit hg hobj hints (Nat.le_trans hlen hn2) hr hF hb (λH hO hS=>hsp w H a ns hlen hO hS) λH e s'=>hCX w H s₁ e s'
end L2
namespace L2
open PySem PySem.Spec PyProof.Rows
noncomputable def JAy(s:Stmt):Arguments:=match s with
 |.FunctionDef _ a _ _ _ _ _ _ _ _=>a
 |_=>{ posonlyargs:=[],args:=[],vararg:=none,kwonlyargs:=[],kw_defaults:=[],kwarg:=none,defaults:=[] }
noncomputable def JAm(s:Stmt):List Stmt:=match s with
 |.FunctionDef _ _ b _ _ _ _ _ _ _=>b
 |_=>[]
noncomputable def JAQ(s:Stmt):Scope:=match s with
 |.FunctionDef _ _ _ _ _ _ sc _ _ _=>sc
 |_=>{ kind:=.function,names:=[],isGenerator:=false,isCoroutine:=false }
noncomputable abbrev CX0:CXT:=λ_ _ _ _ _ _=>False
structure Fun(K:Kq)(x qual:Str)(st:Stmt)(f:Addr)(fd:FuncData):Prop where
 ex:∃(oc:Value) (od:Option Addr) (kV doc pm:Value) (an:Option Addr) (cdv ct:Value) (osl:Array (Option Value)),
  fd=PySem.W.fnOf x qual (JAy st) (JAm st) (JAQ st) .none kV doc pm an cdv ct/\K.lookup f=some ⟨oc,od,.func fd,osl⟩/\PySem.W.codeIn K cdv qual=true
 kp:PySem.W.keepIn K (.ref f)=true
section
variable{P:Program}{w:World}{K:Kq}{mg:Mq}{base:Heap}
theorem Fun.ok{x qual:Str}{st:Stmt}{f:Addr}{fd:FuncData}{N ps:List Str}{k:Nat}{sp:Sp}(F:Fun K x qual st f fd)(S:FnScope N ps (JAQ st))(len:∀vs H Q E,sp vs H Q E->vs.length=ps.length)
  (hbody:∀(cdv:Value) (A:Around) (outer:List Env) (s:Shared) (H:Hp) (vs:List V) (Q:VK) (E:XK),Room k (A.deeper (envOfC qual (JAQ st) s.heap.objs.size f cdv))->sp vs H Q E ->
    ∃t,PSs (cxOf CX0 P w K mg base N qual (JAQ st) f cdv A outer s H E).nox (JAm st) t/\t { nx:=λ_ H'=>Q .non H',rt:=Q } (start N vs) H):FnOk P w K mg base CX0 (k+1) f fd ps sp:=by
 obtain⟨oc,od,kV,doc,pm,an,cdv,ct,osl,rfl,lk,hcd⟩:=F.ex;refine JOD lk hcd S len λA outer s H vs Q E hr hsp=>?_;obtain⟨t,h,q⟩:=hbody cdv A outer s H vs Q E hr hsp;exact⟨t,h.nox,q⟩
theorem Fun.binds{x qual:Str}{st:Stmt}{f:Addr}{fd:FuncData}{ps:List Str}(F:Fun K x qual st f fd)
  (h:∀(kV doc pm:Value) (an:Option Addr) (cdv ct:Value) (us:List Value),us.length=ps.length->bindArgs (PySem.W.fnOf x qual (JAy st) (JAm st) (JAQ st) .none kV doc pm an cdv ct) ⟨us,[]⟩=pure (ps.zip us)):Binds K fd ps []:=by
 obtain⟨oc,od,kV,doc,pm,an,cdv,ct,osl,rfl,lk,hcd⟩:=F.ex;exact .all (h kV doc pm an cdv ct)
theorem JKc{x qual:Str}{st:Stmt}{f:Addr}{oc:Value}{od an:Option Addr}{osl:Array (Option Value)}{kV doc pm cdv ct:Value}(l:K.lookup f=some ⟨oc,od,.func (PySem.W.fnOf x qual (JAy st) (JAm st) (JAQ st) .none kV doc pm an cdv ct),osl⟩)
 (c:PySem.W.codeIn K cdv qual=true) (k:PySem.W.keepIn K (.ref f)=true):Fun K x qual st f (PySem.W.fnOf x qual (JAy st) (JAm st) (JAQ st) .none kV doc pm an cdv ct):=⟨⟨oc,od,kV,doc,pm,an,cdv,ct,osl,rfl,l,c⟩,k⟩
end
section
variable{X:Cx}
end
theorem iteF{A B:Prop}(h:B):if false=true then A else B:=by
 rw[if_neg Bool.false_ne_true];exact h
theorem iteT{A B:Prop}(h:A):if true=true then A else B:=by
 rw[if_pos rfl];exact h
def Same(H H':Hp):Prop:=∀b o,H b=some o->H' b=some o
theorem Same.refl(H:Hp):Same H H:=λ_ _ h=>h
theorem Same.trans{H H1 H2:Hp}(a:Same H H1)(b:Same H1 H2):Same H H2:=λc o h=>b c o (a c o h)
theorem Same.free{H H':Hp}(e:Same H H'){l:Addr}(h:H' l=Option.none):H l=Option.none:=by
 cases q:H l with
 |none=>rfl
 |some o =>
  rw[e l o q]at h;cases h
theorem Same.seq{K:Kq}{H H':Hp}{a:Addr}{xs:List V}(e:Same H H')(h:SqL K H a xs):SqL K H' a xs:=by
 rcases h with (h|⟨o,h⟩)|h
 ·exact .inl (.inl (e _ _ h))
 ·exact .inl (.inr ⟨o,e _ _ h⟩)
 ·exact .inr h
end L2
set_option autoImplicit true
section
set_option backward.eqns.nonrecursive false
namespace VI
open PySem
abbrev D:=PyData
noncomputable def excD(c:Nat):D:=.dict [(.none,.int (c:Int))]
inductive R(α:Type) where
 |ok (a:α)
 |exc (c:Nat)
 |bad
@[reducible] def R.bind {α β:Type}(r:R α) (f:α->R β):R β :=
 match r with
 |.ok a=>f a
 |.exc c=>.exc c
 |.bad=>.bad
inductive Ty where
 |int|bool|str|list|tuple|dict|valueError|own (c:Nat)
 deriving DecidableEq
inductive Blt where
 |len|abs|min|all
 deriving DecidableEq
inductive O1 where
 |slice (lo hi:Option Int)
 |toTup|toLst|rev
 deriving DecidableEq
inductive XO where
 |rev|enm|srt|zip|sst
 |dvs|dit|dls|dcp|dnw|din|dni|deq|dne|dtk|sts|dpr|mx2|ssk
 deriving DecidableEq
inductive E where
 |var (i:Nat)
 |cint (i:Int)|cbl (b:Bool)|cnon|cstr (x:Str)
 |glo (i:Nat)
 |bin (op:Operator) (a b:E)
 |neg (a:E)
 |not (a:E)
 |and (a b:E)
 |or (a b:E)
 |cmp (op:CmpOp) (a b:E)
 |isN (a:E) (neg:Bool)
 |isB (a:E) (b:Bool)
 |ife (c a b:E)
 |nil
 |cons (a r:E)
 |tup (es:E)
 |lst (es:E)
 |idx (a i:E)
 |call (f:Nat) (es:E)
 |blt (b:Blt) (es:E)
 |rng (es:E)
 |isi (a:E) (t:Ty)
 |mcount (o a:E)
 |mindex (o a:E)
 |mget (o a b:E)
 |cmpr (k:Nat) (elt iter cond:E)
 |dct (ks:List Str) (es:E)
 |rep (k:Nat) (es:E)
 |fn1 (o:O1) (a:E)
 |isnB (a:E) (b:Bool)
 |xop (k:XO) (es:E)
inductive Sl where
 |no
 |val (d:D)
 |own (d:D)
noncomputable def Sl.get:Sl->R D
 |.no=>.bad
 |.val d=>.ok d
 |.own (.dict _)=>.bad
 |.own d=>.ok d
noncomputable def Sl.frz:Sl->Sl
 |.own (.dict _)=>.no
 |.own d=>.val d
 |s=>s
noncomputable def Sl.isOwn:Sl->Bool
 |.own _=>true
 |_=>false
abbrev Env:=List Sl
noncomputable def look(δ:Env)(i:Nat):R D:=match δ[i]? with
 |some s=>s.get
 |none=>.bad
structure Cn where
 fn:Nat->List D->R D
 glo:Nat->R D
 sub:Nat->Nat->Bool
noncomputable def truth:D->R Bool
 |.none=>.ok false
 |.bool b=>.ok b
 |.int i=>.ok (i != 0)
 |.str x=>if x.length<=16777216 then .ok ((x.length:Int) != 0) else .bad
 |.list xs=>.ok (!xs.isEmpty)
 |.tuple xs=>.ok (!xs.isEmpty)
 |.dict _=>.bad
open Classical in
noncomputable def binD(op:Operator)(x y:D):R D :=
 match op,x,y with
 |.Add,.int i,.int j=>.ok (.int (i+j))
 |.Sub,.int i,.int j=>.ok (.int (i - j))
 |.Mult,.int i,.int j=>if IntMulOk i j then .ok (.int (i*j)) else .bad
 |.FloorDiv,.int i,.int j=>if j≠0/\Builtin.divisionGoesByPylong i j=false then .ok (.int (i.fdiv j)) else .bad
 |.Mod,.int i,.int j=>if j≠0 then .ok (.int (i.fmod j)) else .bad
 |.Add,.tuple xs,.tuple ys=>if xs.length+ys.length<=16777216 then .ok (.tuple (xs++ys)) else .bad
 |.Add,.list xs,.list ys=>if xs.length+ys.length<=16777216 then .ok (.list (xs++ys)) else .bad
 |.Mult,.tuple xs,.int k=>if 2<=k/\k<=1000/\xs.length<=1000/\xs≠[] then .ok (.tuple (List.replicate k.toNat xs).flatten) else .bad
 |.Mult,.list xs,.int k=>if -(2 ^ 62)<=k/\k<2 ^ 62/\xs.length*k.toNat<=16777216 then .ok (.list (List.replicate k.toNat xs).flatten) else .bad
 |_,_,_=>.bad
noncomputable def shaped(d:D):Bool:=d.canLay0&&decide (d.depth<=64)
noncomputable def JBt(xs:List D)(x:D):Bool:=PyData.canLayAll0 xs&&x.canLay0&&decide (x.depth<=60)
noncomputable def cmpD(op:CmpOp)(x y:D):R D :=
 match op with
 |.Eq=>if (shaped x&&shaped y)=true then .ok (.bool (PyData.eqv x y)) else .bad
 |.NotEq=>if (shaped x&&shaped y)=true then .ok (.bool (!PyData.eqv x y)) else .bad
 |.Lt=>match x,y with|.int i,.int j=>.ok (.bool (decide (i<j)))|_,_=>.bad
 |.LtE=>match x,y with|.int i,.int j=>.ok (.bool (decide (i<=j)))|_,_=>.bad
 |.Gt=>match x,y with|.int i,.int j=>.ok (.bool (decide (j<i)))|_,_=>.bad
 |.GtE=>match x,y with|.int i,.int j=>.ok (.bool (decide (j<=i)))|_,_=>.bad
 |.In=>match y with
  |.list xs=>if JBt xs x=true then .ok (.bool (xs.any λz=>PyData.eqv z x)) else .bad
  |.tuple xs=>if JBt xs x=true then .ok (.bool (xs.any λz=>PyData.eqv z x)) else .bad
  |_=>.bad
 |.NotIn=>match y with
  |.list xs=>if JBt xs x=true then .ok (.bool (!xs.any λz=>PyData.eqv z x)) else .bad
  |.tuple xs=>if JBt xs x=true then .ok (.bool (!xs.any λz=>PyData.eqv z x)) else .bad
  |_=>.bad
 |_=>.bad
noncomputable def isNone:D->Bool
 |.none=>true
 |_=>false
noncomputable def isBool(b:Bool):D->R Bool
 |.bool c=>.ok (c==b)
 |_=>.bad
noncomputable def ixN(n:Nat)(i:Int):Option Nat:=if 0<=i then (if i<n then some i.toNat else none) else if -(n:Int)<=i then some (i+n).toNat else none
noncomputable def atI{α:Type}(xs:List α)(i:Int):Option α:=(ixN xs.length i).bind λj=>xs[j]?
noncomputable def optR{α:Type}:Option α->R α
 |some a=>.ok a
 |none=>.bad
noncomputable def getK:List (D×D)->Str->R D
 | [],_=>.bad
 |(.str k,v)::r,x=>if k=x then .ok v else getK r x
 |_::_,_=>.bad
noncomputable def idxD(x i:D):R D :=
 match x,i with
 |.list xs,.int i=>optR (atI xs i)
 |.tuple xs,.int i=>optR (atI xs i)
 |.dict kvs,.str y=>getK kvs y
 |.str x,.int i=>if x.cps.size<=1000 then optR ((atI x.cps.toList i).map λc=>.str ⟨#[c]⟩) else .bad
 |_,_=>.bad
noncomputable def isiD(sub:Nat->Nat->Bool)(x:D)(t:Ty):R D :=
 match x with
 |.none=>.ok (.bool false)
 |.bool _=>.ok (.bool (t==.int || t==.bool))
 |.int _=>.ok (.bool (t==.int))
 |.str _=>.ok (.bool (t==.str))
 |.list _=>.ok (.bool (t==.list))
 |.tuple _=>.ok (.bool (t==.tuple))
 |.dict [(.none,.int c)]=>if sub c.toNat c.toNat=true then (match t with
  |.own e=>.ok (.bool (sub c.toNat e))
  |.valueError=>.ok (.bool true)
  |_=>.bad) else .bad
 |.dict _=>.bad
noncomputable def lexI:List Int->List Int->Bool
 | [],[]=>false
 | [],_::_=>true
 |_::_,[]=>false
 |a::r,b::t=>if a=b then lexI r t else decide (a<b)
noncomputable def intsOf:List D->Option (List Int)
 | []=>some []
 |.int a::r=>(intsOf r).map (a::·)
 |_=>none
noncomputable def keysOf:List D->Option (List (List Int))
 | []=>some []
 |.tuple a::r=>(intsOf a).bind λk=>(keysOf r).map (k::·)
 |_=>none
noncomputable def s3:List (List Int)->List (List Int)
 | []=>[]
 | [a]=>[a]
 | [a,b]=>if lexI b a=true then [b,a] else [a,b]
 | [a,b,c]=>if lexI b a=true then (if lexI c b=true then [c,b,a] else if lexI c a=true then [b,c,a] else [b,a,c]) else if lexI c b=true then (if lexI c a=true then [c,a,b] else [a,c,b]) else [a,b,c]
 |_::_::_::_::_=>[]
noncomputable def dedK:List (List Int)->List (List Int)
 | []=>[]
 |x::r=>if x∈dedK r then dedK r else x::dedK r
noncomputable def tupI(k:List Int):D:=.tuple (k.map λi=>.int i)
noncomputable def minK:List Int->List (List Int)->List Int
 |k,[]=>k
 |k,b::r=>minK (if lexI b k=true then b else k) r
noncomputable def minD(ds:List D):R D:=match keysOf ds with
 |some (k::ks)=>.ok (.tuple ((minK k ks).map λi=>.int i))
 |_=>.bad
noncomputable def allD:List D->R D
 | []=>.ok (.bool true)
 |.bool b::r=>(match allD r with
  |.ok (.bool c)=>.ok (.bool (b&&c))
  |_=>.bad)
 |_=>.bad
noncomputable def bltD(b:Blt)(xs:List D):R D :=
 match b,xs with
 |.len,[.list ys]=>.ok (.int ys.length)
 |.len,[.tuple ys]=>.ok (.int ys.length)
 |.abs,[.int i]=>.ok (.int (if i<0 then -i else i))
 |.min,[.list ys]=>minD ys
 |.all,[.list ys]=>allD ys
 |_,_=>.bad
noncomputable def JCs(lo hi:Int):List D:=(List.range (hi - lo).toNat).map λ(k:Nat)=>.int (lo+k)
noncomputable def small(i:Int):Bool:=decide (-(2 ^ 62)<=i)&&decide (i<2 ^ 62)
noncomputable def rngD(xs:List D):R (List D) :=
 match xs with
 | [.int j]=>if small j=true then .ok (JCs 0 j) else .bad
 | [.int i,.int j]=>if (small i&&small j)=true then .ok (JCs i j) else .bad
 |_=>.bad
noncomputable def JAs:D->R (List D)
 |.list xs=>.ok xs
 |.tuple xs=>.ok xs
 |_=>.bad
noncomputable def JHA(x y:D):R D :=
 match x with
 |.list xs=>if JBt xs y=true then .ok (.int (xs.countP λz=>PyData.eqv z y:Nat)) else .bad
 |_=>.bad
noncomputable def JG7(x y:D):R D :=
 match x with
 |.list xs=>if JBt xs y=true then
  (match xs.findIdx? λz=>PyData.eqv z y with
   |some j=>.ok (.int j)
   |none=>.bad) else .bad
 |_=>.bad
noncomputable def getD:List (D×D)->Str->D->R D
 | [],_,z=>.ok z
 |(.str k,v)::r,x,z=>if k=x then .ok v else getD r x z
 |_,_,_=>.bad
noncomputable def JNB(x k z:D):R D :=
 match x,k with
 |.dict kvs,.str y=>getD kvs y z
 |_,_=>.bad
def sI(n d:Nat):Option Int->Nat
 |none=>d
 |some v=>if v<0 then (v+(n:Int)).toNat else min v.toNat n
def cutD{α:Type}(xs:List α)(lo hi:Option Int):List α:=(xs.drop (sI xs.length 0 lo)).take (sI xs.length xs.length hi - sI xs.length 0 lo)
noncomputable def op1D(o:O1)(d:D):R D:=match o,d with
 |.slice lo hi,.tuple xs=>.ok (.tuple (cutD xs lo hi))
 |.slice lo hi,.list xs=>.ok (.list (cutD xs lo hi))
 |.toTup,.tuple xs=>.ok (.tuple xs)
 |.toTup,.list xs=>.ok (.tuple xs)
 |.toLst,.tuple xs=>.ok (.list xs)
 |.toLst,.list xs=>.ok (.list xs)
 |.rev,.list xs=>.ok (.list xs.reverse)
 |_,_=>.bad
noncomputable def enmL:Nat->List D->List D
 |_,[]=>[]
 |i,d::r=>.tuple [.int (i:Nat),d]::enmL (i+1) r
noncomputable def kGo{α:Type}(lt:Nat->Nat->Bool):PySem.W.KasT α->α
 |.ret a=>a
 |.ask i j k=>kGo lt (k (lt i j))
noncomputable def JC9(ks:List (List Int)):List Nat:=(kGo (λi j=>lexI (ks.getD i []) (ks.getD j [])) (PySem.W.kas_sort ks.length)).toList
inductive At where
 |i (n:Int)|s (x:Str)|t (k:List Int)
 deriving DecidableEq
noncomputable def At.kd:At->Nat
 |.i _=>0
 |.s _=>1
 |.t _=>2
noncomputable def ltAt:At->At->Bool
 |.i a,.i b=>decide (a<b)
 |.s x,.s y=>decide (x.cps.toList<y.cps.toList)
 |.t a,.t b=>lexI a b
 |_,_=>false
noncomputable def lexA:List At->List At->Bool
 | [],[]=>false
 | [],_::_=>true
 |_::_,[]=>false
 |a::r,b::t=>if a=b then lexA r t else ltAt a b
noncomputable def atOf:D->Option At
 |.int n=>some (.i n)
 |.str x=>some (.s x)
 |.tuple ds=>(intsOf ds).map .t
 |_=>none
noncomputable def JE9:List D->Option (List At)
 | []=>some []
 |d::r=>(atOf d).bind λa=>(JE9 r).map (a::·)
noncomputable def JC7:List D->Option (List (List At))
 | []=>some []
 |.tuple ds::r=>(JE9 ds).bind λk=>(JC7 r).map (k::·)
 |_=>none
noncomputable def JCR(ks:List (List At)):List Nat:=(kGo (λi j=>lexA (ks.getD i []) (ks.getD j [])) (PySem.W.kas_sort ks.length)).toList
noncomputable def JIs:List (List At)->Bool
 | []=>false
 |k::ks=>!k.isEmpty&&ks.all λq=>q.map At.kd==k.map At.kd
noncomputable def strsOf:List D->Option (List Str)
 | []=>some []
 |.str x::r=>(strsOf r).map (x::·)
 |_=>none
noncomputable def ltS(x y:Str):Bool:=decide (x.cps.toList<y.cps.toList)
noncomputable def JBq(zs:List Str):List Str:=if zs.length<2 then zs else (kGo (λi j=>ltS (zs.getD i "") (zs.getD j "")) (PySem.W.kas_sort zs.length)).toList.map λi=>zs.getD i ""
noncomputable def dedS:List Str->List Str
 | []=>[]
 |x::r=>if x∈dedS r then dedS r else x::dedS r
noncomputable def srtS(ys:List D):R D:=match strsOf ys with
 |some xs=>if xs.length<=5 then .ok (.list ((JBq xs).map .str)) else .bad
 |none=>.bad
noncomputable def sstS(ys:List D):R D:=match strsOf ys with
 |some xs=>if xs.length<=1000/\(dedS xs).length<=5 then .ok (.list ((JBq (dedS xs)).map .str)) else .bad
 |none=>.bad
noncomputable def srtA(ys:List D):R D:=match JC7 ys with
 |some ks=>if 2<=ks.length/\ks.length<=5/\JIs ks=true then .ok (.list ((JCR ks).map λi=>ys.getD i .none)) else .bad
 |none=>srtS ys
noncomputable def srtD(ys:List D):R D:=if ys.length<2 then .ok (.list ys) else srtA ys
noncomputable def JGZ:List (D×D)->Option (List D)
 | []=>some []
 |(.str x,_)::r=>(JGZ r).map (.str x::·)
 |_=>none
noncomputable def hasK:List (D×D)->Str->Bool
 | [],_=>false
 |(.str z,_)::r,k=>decide (z=k) || hasK r k
 |_::r,k=>hasK r k
noncomputable def repD:List (D×D)->Str->D->List (D×D)
 | [],_,_=>[]
 |(.str z,v)::r,k,x=>(.str z,if z=k then x else v)::repD r k x
 |p::r,k,x=>p::repD r k x
noncomputable def putD(kvs:List (D×D))(k:Str)(x:D):List (D×D):=if hasK kvs k=true then repD kvs k x else kvs++[(.str k,x)]
noncomputable def JOP(x y:D):R Bool:=match y,x with
 |.dict kvs,.str k=>(match JGZ kvs with
  |some _=>.ok (hasK kvs k)
  |none=>.bad)
 |_,_=>.bad
noncomputable def JQK:D->Bool
 |.dict _=>true
 |_=>false
noncomputable def JLK(kb:List (D×D)):List (D×D)->R Bool
 | []=>.ok true
 |(.str k,v)::r=>(match getK kb k with
  |.ok y=>if (shaped v&&shaped y)=true then (match JLK kb r with
    |.ok b=>.ok (PyData.eqv v y&&b)
    |_=>.bad) else .bad
  |_=>.ok false)
 |_=>.bad
noncomputable def eqD2(ka kb:List (D×D)):R Bool:=match JGZ ka,JGZ kb with
 |some _,some _=>if ka.length=kb.length then JLK kb ka else .ok false
 |_,_=>.bad
noncomputable def JNm:D->D->Option (R Bool)
 |.dict ka,.dict kb=>some (eqD2 ka kb)
 |_,_=>none
noncomputable def keyL(f:List D->R D):D->R D
 |.dict kvs=>(match JGZ kvs with
  |some ks=>if ks.length<=1000000 then f ks else .bad
  |none=>.bad)
 |_=>.bad
noncomputable def delK(kvs:List (D×D))(k:Str):List (D×D):=kvs.filter λp=>match p.1 with
 |.str z=>!decide (z=k)
 |_=>true
noncomputable def JJ9:List D->List (D×D)->Option (List (D×D))
 | [],acc=>some acc
 |.tuple [.str k,v]::r,acc=>JJ9 r (putD acc k v)
 |_,_=>none
noncomputable def dD(k:XO)(xs:List D):R D:=match k,xs with
 |.dvs,[.dict kvs]=>(match JGZ kvs with
  |some _=>.ok (.list (kvs.map Prod.snd))
  |none=>.bad)
 |.dit,[x]=>(match x with
  |.list ys=>.ok (.list ys)
  |.tuple ys=>.ok (.list ys)
  |x=>keyL (λks=>.ok (.list ks)) x)
 |.dls,[x]=>(match x with
  |.list ys=>.ok (.list ys)
  |.tuple ys=>.ok (.list ys)
  |x=>keyL (λks=>.ok (.list ks)) x)
 |.dcp,[x]=>keyL (λ_=>.ok x) x
 |.dnw,[]=>.ok (.dict [])
 |.sts,[.list ys]=>srtS ys
 |.dpr,[.list ys]=>(match JJ9 ys [] with
  |some kvs=>.ok (.dict kvs)
  |none=>.bad)
 |.dtk,[x,.int n]=>op1D (.slice none (some n)) x
 |.din,[x,y]=>if JQK y=true then (JOP x y).bind λb=>.ok (.bool b) else cmpD .In x y
 |.dni,[x,y]=>if JQK y=true then (JOP x y).bind λb=>.ok (.bool (!b)) else cmpD .NotIn x y
 |.deq,[x,y]=>(match JNm x y with
  |some r=>r.bind λb=>.ok (.bool b)
  |none=>cmpD .Eq x y)
 |.dne,[x,y]=>(match JNm x y with
  |some r=>r.bind λb=>.ok (.bool (!b))
  |none=>cmpD .NotEq x y)
 |_,_=>.bad
noncomputable def XO.isT:XO->Bool
 |.din=>true
 |.dni=>true
 |.deq=>true
 |.dne=>true
 |_=>false
noncomputable def xD(k:XO)(xs:List D):R D:=match k,xs with
 |.rev,[.list ys]=>.ok (.list ys.reverse)
 |.enm,[.list ys]=>.ok (.list (enmL 0 ys))
 |.srt,[.list ys]=>srtD ys
 |.sst,[.list ys]=>sstS ys
 |.zip,[.list xs,.list ys]=>.ok (.list (List.zipWith (λa b=>PyData.tuple [a,b]) xs ys))
 |.ssk,[.list ys]=>(match keysOf ys with
  |some ks=>if ks.length<=3/\ks.all (λk=>!k.isEmpty)=true then .ok (.list ((s3 (dedK ks)).map tupI)) else .bad
  |none=>.bad)
 |.mx2,[.int i,.int j]=>.ok (.int (if j > i then j else i))
 |k,xs=>dD k xs
noncomputable def JPx:D->Bool
 |.list _=>true
 |_=>false
noncomputable def JOH:D->Bool
 |.dict []=>true
 |.dict ((.str _,_)::_)=>true
 |_=>false
noncomputable def push(k:Nat)(x:D)(δ:Env):R Env :=
 match k with
 |0=>.ok (.val x::δ)
 |n+1=>match x with
  |.tuple xs=>if xs.length=n+1 then .ok (xs.map Sl.val++δ) else .bad
  |_=>.bad
noncomputable def JBI(f:D->R (Option D)):List D->R (List D)
 | []=>.ok []
 |x::xs=>match f x with
  |.ok (some y)=>(match JBI f xs with
   |.ok ys=>.ok (y::ys)
   |_=>.bad)
  |.ok none=>JBI f xs
  |_=>.bad
mutual
noncomputable def ev(C:Cn):E->Env->R D
 |.var i,δ=>look δ i
 |.cint i,_=>.ok (.int i)
 |.cbl b,_=>.ok (.bool b)
 |.cnon,_=>.ok .none
 |.cstr x,_=>.ok (.str x)
 |.glo i,_=>C.glo i
 |.bin op a b,δ=>(ev C a δ).bind λx=>(ev C b δ).bind λy=>binD op x y
 |.neg a,δ=>(ev C a δ).bind λx=>match x with|.int i=>.ok (.int (-i))|_=>.bad
 |.not a,δ=>((ev C a δ).bind truth).bind λb=>.ok (.bool (!b))
 |.and a b,δ=>(ev C a δ).bind λx=>match x with|.bool true=>ev C b δ|.bool false=>.ok (.bool false)|_=>.bad
 |.or a b,δ=>(ev C a δ).bind λx=>match x with|.bool true=>.ok (.bool true)|.bool false=>ev C b δ|_=>.bad
 |.cmp op a b,δ=>(ev C a δ).bind λx=>(ev C b δ).bind λy=>cmpD op x y
 |.isN a n,δ=>(ev C a δ).bind λx=>.ok (.bool (if n=true then !isNone x else isNone x))
 |.isB a b,δ=>(ev C a δ).bind λx=>(isBool b x).bind λk=>.ok (.bool k)
 |.ife c a b,δ=>(evT C c δ).bind λk=>if k=true then ev C a δ else ev C b δ
 |.nil,_=>.bad
 |.cons _ _,_=>.bad
 |.tup es,δ=>(evA C es δ).bind λxs=>.ok (.tuple xs)
 |.lst es,δ=>(evA C es δ).bind λxs=>.ok (.list xs)
 |.idx a i,δ=>(ev C a δ).bind λx=>(ev C i δ).bind λy=>idxD x y
 |.call f es,δ=>(evA C es δ).bind λxs=>C.fn f xs
 |.blt b es,δ=>(evA C es δ).bind λxs=>bltD b xs
 |.rng _,_=>.bad
 |.isi a t,δ=>(ev C a δ).bind λx=>isiD C.sub x t
 |.mcount o a,δ=>(ev C o δ).bind λx=>if JPx x=true then (ev C a δ).bind λy=>JHA x y else .bad
 |.mindex o a,δ=>(ev C o δ).bind λx=>if JPx x=true then (ev C a δ).bind λy=>JG7 x y else .bad
 |.mget o a b,δ=>(ev C o δ).bind λx=>if JOH x=true then (ev C a δ).bind λy=>(ev C b δ).bind λz=>JNB x y z else .bad
 |.cmpr k elt iter cond,δ=>(evI C iter δ).bind λxs=>if xs.length<=16777216 then (JBI (λx=>(push k x δ).bind λδ1=>(evT C cond δ1).bind λt =>
  if t=true then (ev C elt δ1).bind λy=>.ok (some y) else .ok none) xs).bind λys=>.ok (.list ys) else .bad
 |.dct ks es,δ=>(evA C es δ).bind λxs=>.ok (.dict ((ks.map PyData.str).zip xs))
 |.rep k es,δ=>(evA C es δ).bind λxs=>.ok (.list (List.replicate k xs).flatten)
 |.fn1 o a,δ=>(ev C a δ).bind λx=>op1D o x
 |.isnB a b,δ=>(ev C a δ).bind λx=>(isBool b x).bind λk=>.ok (.bool (!k))
 |.xop k es,δ=>(evA C es δ).bind (xD k)
noncomputable def evT(C:Cn):E->Env->R Bool
 |.not a,δ=>(evT C a δ).bind λb=>.ok (!b)
 |.and a b,δ=>(evT C a δ).bind λx=>if x=true then evT C b δ else .ok false
 |.or a b,δ=>(evT C a δ).bind λx=>if x=true then .ok true else evT C b δ
 |.var i,δ=>(look δ i).bind truth
 |.cbl b,_=>.ok b
 |.cmp op a b,δ=>((ev C a δ).bind λx=>(ev C b δ).bind λy=>cmpD op x y).bind truth
 |.isN a n,δ=>(ev C a δ).bind λx=>.ok (if n=true then !isNone x else isNone x)
 |.isB a b,δ=>(ev C a δ).bind λx=>isBool b x
 |.idx a i,δ=>((ev C a δ).bind λx=>(ev C i δ).bind λy=>idxD x y).bind truth
 |.call f es,δ=>((evA C es δ).bind λxs=>C.fn f xs).bind truth
 |.blt b es,δ=>((evA C es δ).bind λxs=>bltD b xs).bind truth
 |.isi a t,δ=>((ev C a δ).bind λx=>isiD C.sub x t).bind truth
 |.isnB a b,δ=>(ev C a δ).bind λx=>(isBool b x).bind λk=>.ok (!k)
 |.xop k es,δ=>if k.isT=true then ((evA C es δ).bind (xD k)).bind truth else .bad
 |_,_=>.bad
noncomputable def evA(C:Cn):E->Env->R (List D)
 |.nil,_=>.ok []
 |.cons a r,δ=>(ev C a δ).bind λx=>(evA C r δ).bind λxs=>.ok (x::xs)
 |_,_=>.bad
noncomputable def evI(C:Cn):E->Env->R (List D)
 |.rng es,δ=>(evA C es δ).bind rngD
 |.var i,δ=>(look δ i).bind JAs
 |.glo i,_=>(C.glo i).bind JAs
 |.idx a i,δ=>((ev C a δ).bind λx=>(ev C i δ).bind λy=>idxD x y).bind JAs
 |.call f es,δ=>((evA C es δ).bind λxs=>C.fn f xs).bind JAs
 |.tup es,δ=>evA C es δ
 |.lst es,δ=>evA C es δ
 |.fn1 o a,δ=>((ev C a δ).bind λx=>op1D o x).bind JAs
 |.bin op a b,δ=>((ev C a δ).bind λx=>(ev C b δ).bind λy=>binD op x y).bind JAs
 |.xop k es,δ=>((evA C es δ).bind (xD k)).bind JAs
 |_,_=>.bad
end
noncomputable def E.uses:E->Nat->Bool
 |.var i,j=>i==j
 |.bin _ a b,j=>a.uses j || b.uses j
 |.neg a,j=>a.uses j
 |.not a,j=>a.uses j
 |.and a b,j=>a.uses j || b.uses j
 |.or a b,j=>a.uses j || b.uses j
 |.cmp _ a b,j=>a.uses j || b.uses j
 |.isN a _,j=>a.uses j
 |.isB a _,j=>a.uses j
 |.ife c a b,j=>c.uses j || a.uses j || b.uses j
 |.cons a r,j=>a.uses j || r.uses j
 |.tup es,j=>es.uses j
 |.lst es,j=>es.uses j
 |.idx a i,j=>a.uses j || i.uses j
 |.call _ es,j=>es.uses j
 |.blt _ es,j=>es.uses j
 |.rng es,j=>es.uses j
 |.isi a _,j=>a.uses j
 |.mcount o a,j=>o.uses j || a.uses j
 |.mindex o a,j=>o.uses j || a.uses j
 |.mget o a b,j=>o.uses j || a.uses j || b.uses j
 |.dct _ es,j=>es.uses j
 |.rep _ es,j=>es.uses j
 |.fn1 _ a,j=>a.uses j
 |.isnB a _,j=>a.uses j
 |.xop _ es,j=>es.uses j
 |.cmpr k elt iter cond,j=>iter.uses j || elt.uses (j+(if k=0 then 1 else k)) || cond.uses (j+(if k=0 then 1 else k))
 |.cint _,_=>false
 |.cbl _,_=>false
 |.cnon,_=>false
 |.cstr _,_=>false
 |.glo _,_=>false
 |.nil,_=>false
noncomputable def E.fresh:E->Bool
 |.lst _=>true
 |.cmpr ..=>true
 |.xop .dcp _=>true
 |.xop .dnw _=>true
 |.xop .dpr _=>true
 |_=>false
mutual
noncomputable def JAS:D->Bool
 |.none=>true
 |.bool _=>true
 |.int _=>true
 |.str _=>true
 |.list _=>false
 |.tuple xs=>JBO xs
 |.dict [(.none,.int _)]=>true
 |.dict _=>false
noncomputable def JBO:List D->Bool
 | []=>true
 |x::xs=>JAS x&&JBO xs
end
noncomputable def JAk(e:E):Nat->Env->Env
 |_,[]=>[]
 |i,s::r=>(if e.uses i=true then s.frz else s)::JAk e (i+1) r
noncomputable def JAP(e:E):Nat->Env->Bool
 |_,[]=>false
 |i,s::r=>(e.uses i&&s.isOwn) || JAP e (i+1) r
noncomputable def after(e:E)(d:D)(δ:Env):Env:=if (JAP e 0 δ&&!JAS d)=true then JAk e 0 δ else δ
inductive Fl where
 |nx (δ:Env)
 |rt (d:D)
 |bk (δ:Env)
 |ct (δ:Env)
 |ex (c:Nat)
 |bad
inductive S where
 |nil|cons (s r:S)
 |pass|brk|cnt
 |asg (i:Nat) (e:E)
 |unp (is:List Nat) (e:E)
 |ret (e:E)|retN
 |ife (c:E) (a b:S)
 |app (i:Nat) (e:E)
 |ext (i:Nat) (e:E)
 |ins (i:Nat) (es:E)
 |put (i:Nat) (k v:E)
 |pop (i:Nat) (k:E)
 |frz (i:Nat)
 |drop (e:E)
 |for1 (i:Nat) (e:E) (b:S)
 |forT (is:List Nat) (e:E) (b:S)
 |whl (c:E) (b:S)
 |rais (c:Nat)
 |tryx (b:S) (c:Nat) (i:Nat) (h:S)
@[reducible] def stepR {α:Type}(r:R α) (f:α->Fl):Fl :=
 match r with
 |.ok a=>f a
 |.exc c=>.ex c
 |.bad=>.bad
noncomputable def JAl:List Nat->List D->Env->Env
 |i::is,d::ds,δ=>JAl is ds (δ.set i (.val d))
 |_,_,δ=>δ
noncomputable def JAu(n:Nat):D->R (List D)
 |.tuple xs=>if xs.length=n then .ok xs else .bad
 |.list xs=>if xs.length=n then .ok xs else .bad
 |_=>.bad
noncomputable def forL(put:D->Env->Option Env)(body:Env->Fl):List D->Env->Fl
 | [],δ=>.nx δ
 |d::ds,δ=>match put d δ with
  |none=>.bad
  |some δ1=>match body δ1 with
   |.nx δ'=>forL put body ds δ'
   |.ct δ'=>forL put body ds δ'
   |.bk δ'=>.nx δ'
   |r=>r
noncomputable def put1(i:Nat)(d:D)(δ:Env):Option Env:=some (δ.set i (.val d))
noncomputable def putT(is:List Nat)(d:D)(δ:Env):Option Env:=match d with
 |.tuple xs=>if xs.length=is.length then some (JAl is xs δ) else none
 |_=>none
noncomputable def JAi(c:Env->R Bool)(body:Env->Fl):Nat->Env->Fl
 |0,_=>.bad
 |n+1,δ=>match c δ with
  |.ok true=>(match body δ with
   |.nx δ'=>JAi c body n δ'
   |.ct δ'=>JAi c body n δ'
   |.bk δ'=>.nx δ'
   |r=>r)
  |.ok false=>.nx δ
  |.exc k=>.ex k
  |.bad=>.bad
open Classical in
noncomputable def JBW(c:Env->R Bool)(body:Env->Fl)(δ:Env):Fl :=
 if h:∃n,JAi c body n δ≠.bad then JAi c body h.choose δ else .bad
noncomputable def JBA(i:Nat)(ds:List D)(e:E)(x:D)(δ:Env):Fl :=
 if ds.length<16777216 then (if (JAP e 0 δ&&!JAS x)=true then .bad else .nx (δ.set i (.own (.list (ds++[x]))))) else .bad
noncomputable def JE6(i:Nat)(ds:List D)(e:E)(x:D)(δ:Env):Fl :=
 match x with
 |.list zs=>if ds.length+zs.length<=16777216 then (if JAP e 0 δ=true then .bad else .nx (δ.set i (.own (.list (ds++zs))))) else .bad
 |_=>.bad
noncomputable def JNR(i:Nat)(ds:List D)(es:E)(xs:List D)(δ:Env):Fl :=
 match xs with
 | [.int k,y]=>if 0<=k/\k<=ds.length/\ds.length<16777216 then (if (JAP es 0 δ&&!JAS y)=true then .bad else .nx (δ.set i (.own (.list (ds.take k.toNat++y::ds.drop k.toNat))))) else .bad
 |_=>.bad
noncomputable def JM5(i:Nat)(kvs:List (D×D))(kd:D)(e:E)(x:D)(δ:Env):Fl :=
 match kd with
 |.str k=>if kvs.length<1000000 then (if (JAP e 0 δ&&!JAS x)=true then .bad else .nx (δ.set i (.own (.dict (putD kvs k x))))) else .bad
 |_=>.bad
noncomputable def JIN:Nat->Env->Env
 |_,[]=>[]
 |0,.own d::r=>.val d::r
 |0,.val d::r=>.val d::r
 |0,.no::r=>.no::r
 |i+1,s::r=>s::JIN i r
noncomputable def exec(C:Cn):S->Env->Fl
 |.nil,δ=>.nx δ
 |.cons s r,δ=>match exec C s δ with
  |.nx δ'=>exec C r δ'
  |f=>f
 |.pass,δ=>.nx δ
 |.brk,δ=>.bk δ
 |.cnt,δ=>.ct δ
 |.asg i e,δ=>stepR (ev C e δ) λx=>if e.fresh=true then .nx ((after e x δ).set i (.own x)) else .nx ((after e x δ).set i (.val x))
 |.unp is e,δ=>stepR (ev C e δ) λd=>stepR (JAu is.length d) λxs=>.nx (JAl is xs (after e d δ))
 |.ret e,δ=>stepR (ev C e δ) λx=>.rt x
 |.retN,_=>.rt .none
 |.ife c a b,δ=>stepR (evT C c δ) λk=>if k=true then exec C a δ else exec C b δ
 |.app i e,δ=>match δ[i]? with
  |some (.own (.list ds))=>stepR (ev C e δ) λx=>JBA i ds e x δ
  |_=>.bad
 |.ext i e,δ=>match δ[i]? with
  |some (.own (.list ds))=>stepR (ev C e δ) λx=>JE6 i ds e x δ
  |_=>.bad
 |.ins i es,δ=>match δ[i]? with
  |some (.own (.list ds))=>stepR (evA C es δ) λxs=>JNR i ds es xs δ
  |_=>.bad
 |.put i k e,δ=>match δ[i]? with
  |some (.own (.dict kvs))=>stepR (ev C e δ) λx=>(match ev C k δ with
   |.ok y=>JM5 i kvs y e x δ
   |_=>.bad)
  |_=>.bad
 |.pop i k,δ=>match δ[i]? with
  |some (.own (.dict kvs))=>stepR (ev C k δ) λy=>(match y with
   |.str x=>if hasK kvs x=true then .nx (δ.set i (.own (.dict (delK kvs x)))) else .bad
   |_=>.bad)
  |_=>.bad
 |.frz i,δ=>.nx (JIN i δ)
 |.drop e,δ=>stepR (ev C e δ) λx=>.nx (after e x δ)
 |.for1 i e b,δ=>stepR (evI C e δ) λxs=>forL (put1 i) (exec C b) xs (JAk e 0 δ)
 |.forT is e b,δ=>stepR (evI C e δ) λxs=>forL (putT is) (exec C b) xs (JAk e 0 δ)
 |.whl c b,δ=>JBW (evT C c) (exec C b) δ
 |.rais c,_=>.ex c
 |.tryx b c i h,δ=>match exec C b δ with
  |.ex k=>if C.sub k c=true then (match exec C h ((δ.map λ_=>Sl.no).set i (.val (excD k))) with
    |.nx δ2=>.nx (δ2.set i .no)
    |.rt d=>.rt d
    |_=>.bad) else .bad
  |f=>f
structure Fd where
 par:Nat
 slots:Nat
 body:S
noncomputable def JFJ(x:Bool)(C:Cn)(f:Fd)(xs:List D):R D :=
 if xs.length=f.par then
  (match exec C f.body (xs.map Sl.val++List.replicate (f.slots - f.par) Sl.no) with
   |.nx _=>.ok .none
   |.rt d=>.ok d
   |.ex c=>if x=true then .exc c else .bad
   |_=>.bad)
 else .bad
noncomputable def run(x:Bool)(tab:Nat->Option Fd)(glo:Nat->R D)(sub:Nat->Nat->Bool):Nat->Nat->List D->R D
 |0,_,_=>.bad
 |n+1,f,xs=>match tab f with
  |none=>.bad
  |some fd=>JFJ x ⟨run x tab glo sub n,glo,sub⟩ fd xs
end VI
end
section
set_option backward.eqns.nonrecursive false
namespace VI
open PySem
inductive GK where
 |fn (i:Nat)|con (i:Nat)|blt (b:Blt)|ty (t:Ty)|rng|isi|cls (c:Nat)|opt|nam
 deriving DecidableEq
noncomputable def JND:Blt->Str
 |.len=>"len"
 |.abs=>"abs"
 |.min=>"min"
 |.all=>"all"
noncomputable def JA7:Ty->Option Str
 |.int=>some "int"
 |.bool=>some "bool"
 |.str=>some "str"
 |.list=>some "list"
 |.tuple=>some "tuple"
 |.dict=>some "dict"
 |.valueError=>some "ValueError"
 |.own _=>none
noncomputable def idxOf(x:Str):List Str->Option Nat
 | []=>none
 |y::r=>if (x==y)=true then some 0 else (idxOf x r).map (· + 1)
noncomputable def vis:Option NameKind->Bool
 |some .local=>true
 |some .cell=>true
 |some .free=>true
 |_=>false
noncomputable def JAU(x:Str):Bool:=x=="__debug__" || x=="__classdict__" || x=="__name__"
noncomputable def glob(G:List (Str×GK))(names:Nq)(x:Str):Option GK :=
 if JAU x=true then none else if names.lookup x=some .globalImplicit then G.lookup x else none
noncomputable def JAG(f:Expr->Option E):List Expr->Option E
 | []=>some .nil
 |e::r=>(f e).bind λa=>(JAG f r).bind λb=>some (.cons a b)
noncomputable def JAv(mk:E->E->E)(f:Expr->Option E):List Expr->Option E
 | []=>none
 | [e]=>f e
 |e::r=>(f e).bind λa=>(JAv mk f r).bind λb=>some (mk a b)
noncomputable def okBin:Operator->Bool
 |.Add|.Sub|.Mult|.FloorDiv|.Mod=>true
 |_=>false
noncomputable def isSlice:Expr->Bool
 |.Slice ..=>true
 |_=>false
noncomputable def JCD:Expr->Bool
 |.Call _ [] [] _=>true
 |_=>false
noncomputable def JAq(outer:Nq)(names:Nq):Nq :=
 names.map λ(n,k)=>if (k==.free&&true&&outer.lookup n==some .cell)=true then (n,.cell) else (n,k)
noncomputable def dots(i:Nat):Str:=⟨Array.replicate (i+2) 46⟩
noncomputable def mask(xs:List Str):Nat->List Str->List Str
 |_,[]=>[]
 |i,y::r=>(if xs.contains y=true then dots i else y)::mask xs (i+1) r
noncomputable def namesOf:List Expr->Option (List Str)
 | []=>some []
 |.Name x _::r=>(namesOf r).map (x::·)
 |_=>none
noncomputable def JBg:Expr->Option (Nat×List Str)
 |.Name x _=>some (0,[x])
 |.Tuple ts _ _=>(namesOf ts).bind λxs=>if xs=[] then none else some (xs.length,xs)
 |_=>none
noncomputable def itK(k:Nat)(q:Option (XO×List Expr))(f:List Expr->Option E)(d:Option E):Option E :=
 if k=0 then d else match q with
  |some q=>(f q.2).map (E.xop q.1)
  |none=>d
noncomputable def JBk(outer names:Nq)(xs N:List Str):Bool :=
 names.all (λ(n,k)=>k != .cell&&(k != .local || names.lookup n==some .local)&&(k != .free || (outer.lookup n==some .cell || outer.lookup n==some .free)))&&xs.all (λx=>names.lookup x==some .local)
  && N.all (λy=>xs.contains y || names.lookup y != some .local)&&(List.range N.length).all (λi=>!vis ((JAq outer names).lookup (dots i)))&&decide (xs++mask xs 0 N).Nodup
noncomputable def strKeys:List (Option Expr)->Option (List Str)
 | []=>some []
 |some (.Constant (.str k) _ _)::r=>(strKeys r).map (k::·)
 |_=>none
noncomputable def JMW(a:Expr)(op:Operator)(b:Expr):Option (List Expr×Nat):=match a,op,b with
 |.List es _,.Mult,.Constant (.int k) _ _=>if 0<=k/\k<=1000/\es.length<=1000 then some (es,k.toNat) else none
 |_,_,_=>none
noncomputable def JB8:Option Expr->Option (Option Int)
 |none=>some none
 |some (.Constant (.int k) _ _)=>some (some k)
 |some (.UnaryOp .USub (.Constant (.int k) _ _) _)=>some (some (-k))
 |_=>none
noncomputable def sliceOf:Expr->Option (Option Int×Option Int)
 |.Slice lo hi none _=>(JB8 lo).bind λl=>(JB8 hi).bind λh=>some (l,h)
 |_=>none
noncomputable def JPX:Expr->Bool
 |.Slice none none (some (.UnaryOp .USub (.Constant (.int 1) _ _) _)) _=>true
 |_=>false
noncomputable def JMy(a:Expr)(op:Operator)(b:Expr):Option (Int×Int):=match a,op,b with
 |.Constant (.int x) _ _,.Pow,.Constant (.int y) _ _=>if 0<=x/\x<=100/\0<=y/\y<=20 then some (x,y) else none
 |_,_,_=>none
noncomputable def o1Of:Ty->Option O1
 |.tuple=>some .toTup
 |.list=>some .toLst
 |_=>none
noncomputable def XO.flag:XO->Str
 |.rev=>".rev"
 |.enm=>".enm"
 |.srt=>".srt"
 |.zip=>".zip"
 |.sst=>".sst"
 |.dtk=>".dtk"
 |.mx2=>".mx2"
 |.ssk=>".ssk"
 |_=>".-"
noncomputable def JEY(G:List (Str×GK))(names:Nq)(f:Str)(a:Expr):Option (XO×List Expr) :=
 if f="sorted"/\glob G names f=some .nam then (match a with
  |.Call (.Name r _) [b] [] _=>if r="set"/\glob G names r=some .nam then some (if G.lookup (".ssk":Str)=some GK.opt then .ssk else .sst,[b]) else some (.srt,[a])
  |_=>some (.srt,[a]))
 else none
noncomputable def JCJ(G:List (Str×GK))(names:Nq)(it:Bool)(f:Str)(a:Expr):Option (XO×List Expr) :=
 if it=true then (if f="reversed"/\glob G names f=some .nam then some (.rev,[a]) else JEY G names f a)
 else if f="list"/\glob G names f=some (.ty .list) then (match a with
  |.Call (.Name r _) [b] [] _=>if r="reversed"/\glob G names r=some .nam then some (.rev,[b]) else none
  |_=>none)
 else JEY G names f a
noncomputable def xRaw(G:List (Str×GK))(names:Nq)(it:Bool):Expr->Option (XO×List Expr)
 |.Call (.Name f _) [a] [] _=>JCJ G names it f a
 |.Call (.Name f _) [a,b] [] _=>if it=false/\f="max"/\glob G names f=some .nam then some (.mx2,[a,b]) else none
 |.Subscript a (.Slice none (some b) none _) _=>if it=false/\(JB8 (some b)).isNone=true then some (.dtk,[a,b]) else none
 |_=>none
noncomputable def dCmp(op:CmpOp):Option XO:=match op with
 |.In=>some .din
 |.NotIn=>some .dni
 |.Eq=>some .deq
 |.NotEq=>some .dne
 |_=>none
noncomputable def isPrs:Expr->Bool
 |.ListComp ..=>true
 |.BinOp ..=>true
 |_=>false
noncomputable def JP5(G:List (Str×GK))(names:Nq)(f:Str)(a:Expr):Option (XO×List Expr) :=
 if f="dict"/\glob G names f=some (.ty .dict) then some (if isPrs a=true then .dpr else .dcp,[a]) else if f="list"/\glob G names f=some (.ty .list) then some (.dls,[a]) else if f="sorted"/\glob G names f=some .nam then some (.sts,[a]) else none
noncomputable def dVal(o:Expr)(m:Str)(ap cp:Pos):Option (XO×List Expr):=if m="values"/\JCD o=false/\(ap.endLine==cp.line)=true then some (.dvs,[o]) else none
noncomputable def dRaw(G:List (Str×GK))(names:Nq)(it:Bool)(e:Expr):Option (XO×List Expr):=match it,e with
 |true,.Name x p=>if JAU x=false/\vis (names.lookup x)=true then some (.dit,[.Name x p]) else none
 |true,.Call (.Attribute o m ap) [] [] cp=>dVal o m ap cp
 |false,.Dict [] [] _=>some (.dnw,[])
 |false,.Subscript a (.Slice none (some b) none _) _=>if (JB8 (some b)).isNone=true then some (.dtk,[a,b]) else none
 |false,.Compare a [op] [b] _=>if behindInMarks op b=true then none else (dCmp op).map λk=>(k,[a,b])
 |false,.Call (.Name f _) [a] [] _=>JP5 G names f a
 |_,_=>none
noncomputable def dOn(G:List (Str×GK))(names:Nq):Bool:=decide (G.lookup (".dict":Str)=some GK.opt)&&names.any λp=>decide (G.lookup p.1=some GK.opt)
noncomputable def dOf(G:List (Str×GK))(names:Nq)(it:Bool)(e:Expr):Option (XO×List Expr):=(dRaw G names it e).bind λq=>if dOn G names=true then some q else none
noncomputable def xOf(G:List (Str×GK))(names:Nq)(it:Bool)(e:Expr):Option (XO×List Expr):=match dOf G names it e with
 |some q=>some q
 |none=>(xRaw G names it e).bind λq=>if G.lookup q.1.flag=some GK.opt then some q else none
noncomputable def xTgt(G:List (Str×GK))(names:Nq):Expr->Option (XO×List Expr)
 |.Call (.Name f _) [a] [] _=>if f="enumerate"/\glob G names f=some .nam then some (.enm,[a]) else none
 |.Call (.Name f _) [a,b] [] _=>if f="zip"/\glob G names f=some .nam then some (.zip,[a,b]) else none
 |_=>none
noncomputable def xT(G:List (Str×GK))(names:Nq)(e:Expr):Option (XO×List Expr) :=
 (xTgt G names e).bind λq=>if G.lookup q.1.flag=some GK.opt then some q else none
noncomputable def JAL(G:List (Str×GK))(f:Bool->Nq->List Str->Expr->Option E)(it:Bool)(names:Nq)(N:List Str)(e:Expr):Option E:=match e with
 |.Name x _=>if JAU x=true then none else if vis (names.lookup x)=true then (idxOf x N).map E.var
   else (match glob G names x with
   |some (.con i)=>some (.glo i)
   |_=>none)
 |.Constant c _ _=>(match it,c with
  |false,.none=>some .cnon
  |false,.bool b=>some (.cbl b)
  |false,.int i=>some (.cint i)
  |false,.str x=>some (.cstr x)
  |_,_=>none)
 |.Tuple es _ _=>if es.length<=1000 then (JAG (f false names N) es).map E.tup else none
 |.List es _=>if es.length<=1000 then (JAG (f false names N) es).map E.lst else none
 |.Subscript a i _=>if isSlice i=true then (if JPX i=true then (if G.lookup (".rvs":Str)=some GK.opt then (f false names N a).map (E.fn1 .rev) else none) else (sliceOf i).bind λq=>(f false names N a).map (E.fn1 (.slice q.1 q.2))) else (f false names N a).bind λx=>(f false names N i).bind λy=>some (.idx x y)
 |.Call (.Name g _) args [] _=>(match glob G names g with
   |some (.fn i)=>(match args with
       |_::_=>(JAG (f false names N) args).map (E.call i)
       | []=>none)
   |some .rng=>if it=true/\g="range" then (match args with
       | [_]=>(JAG (f false names N) args).map E.rng
       | [_,_]=>(JAG (f false names N) args).map E.rng
       |_=>none) else none
   |some (.blt b)=>if it=false/\g=JND b then (match args with
       |_::_=>(JAG (f false names N) args).map (E.blt b)
       | []=>none) else none
   |some .isi=>if it=false/\g="isinstance" then (match args with
       | [a,.Name t _]=>(match glob G names t with
        |some (.ty y)=>if JA7 y=some t then (f false names N a).map λx=>.isi x y else none
        |some (.cls c)=>(f false names N a).map λx=>.isi x (.own c)
        |_=>none)
       |_=>none) else none
   |some (.ty y)=>if it=false/\JA7 y=some g then (o1Of y).bind λo=>(match args with
       | [a]=>(f false names N a).map (E.fn1 o)
       |_=>none) else none
   |_=>none)
 |.Dict ks vs _=>(match strKeys ks with
  |some xs=>if it=false/\G.lookup (".dct":Str)=some GK.opt/\1<=xs.length/\xs.length<=15/\xs.length=vs.length/\decide xs.Nodup=true then (JAG (f false names N) vs).map (E.dct xs) else none
  |none=>none)
 |.BinOp a op b _=>match (if it=false/\G.lookup (".rep":Str)=some GK.opt then JMW a op b else none) with
  |some (es,k)=>(JAG (f false names N) es).map (E.rep k)
  |none=>match JMy a op b with
   |some (x,y)=>if it=false then some (.cint (x ^ y.toNat)) else none
   |none=>if okBin op=true then (f false names N a).bind λx=>(f false names N b).bind λy=>some (.bin op x y) else none
 |.UnaryOp op a _=>(match it,op with
  |false,.USub=>(f false names N a).map .neg
  |false,.Not=>(f false names N a).map .not
  |_,_=>none)
 |.BoolOp op es _=>(match it,op with
  |false,.And=>JAv .and (f false names N) es
  |false,.Or=>JAv .or (f false names N) es
  |_,_=>none)
 |.Compare a [op] [b] _=>if it=true then none else (match op with
  |.Is=>(match b with
   |.Constant .none _ _=>(f false names N a).map λx=>.isN x false
   |.Constant (.bool k) _ _=>(f false names N a).map λx=>.isB x k
   |_=>none)
  |.IsNot=>(match b with
   |.Constant .none _ _=>(f false names N a).map λx=>.isN x true
   |.Constant (.bool k) _ _=>(f false names N a).map λx=>.isnB x k
   |_=>none)
  |_=>if behindInMarks op b=true then none else (f false names N a).bind λx=>(f false names N b).bind λy=>some (.cmp op x y))
 |.IfExp c a b _=>if it=true then none else (f false names N c).bind λz=>(f false names N a).bind λx=>(f false names N b).bind λy=>some (.ife z x y)
 |.Call (.Attribute o m ap) [a] [] cp=>if (it=false/\JCD o=false/\(ap.endLine==cp.line)=true)/\G.lookup (".met":Str)=some GK.opt then
   (if m="count" then (f false names N o).bind λx=>(f false names N a).bind λy=>some (.mcount x y)
    else if m="index" then (f false names N o).bind λx=>(f false names N a).bind λy=>some (.mindex x y) else none) else none
 |.Call (.Attribute o m ap) [a,b] [] cp=>if (it=false/\JCD o=false/\(ap.endLine==cp.line)=true/\m="get")/\G.lookup (".get":Str)=some GK.opt then
   (f false names N o).bind λx=>(f false names N a).bind λy=>(f false names N b).bind λz=>some (.mget x y z) else none
 |.ListComp elt [⟨tg,iter,ifs,as⟩] sc _=>if it=true\/as≠0\/sc.kind≠.function\/(G.lookup (".hot":Str)).isSome=true then none else (match JBg tg with
  |none=>none
  |some (k,xs)=>if JBk names sc.names xs N=true then
     (itK k (xT G names iter) (JAG (f false names N)) (f true names N iter)).bind λi =>
     (f false (JAq names sc.names) (xs++mask xs 0 N) elt).bind λx =>
     (match ifs with
      | []=>some (.cmpr k x i (.cbl true))
      | [c]=>(f false (JAq names sc.names) (xs++mask xs 0 N) c).bind λy=>some (.cmpr k x i y)
      |_=>none)
   else none)
 |_=>none
noncomputable def JAY(G:List (Str×GK))(f:Bool->Nq->List Str->Expr->Option E)(it:Bool)(names:Nq)(N:List Str)(e:Expr):Option E:=match xOf G names it e with
 |some q=>(JAG (f false names N) q.2).map (E.xop q.1)
 |none=>JAL G f it names N e
noncomputable def JAN(G:List (Str×GK)):Nat->Bool->Nq->List Str->Expr->Option E
 |0,_,_,_,_=>none
 |n+1,it,names,N,e=>JAY G (JAN G n) it names N e
theorem JAA{n:Nat}{it:Bool}(h:xOf G names it e=none):JAN G (n+1) it names N e=JAL G (JAN G n) it names N e:=by
 unfold JAN JAY;rw[h]
theorem JFg{n:Nat}{it:Bool}(h:xOf G names it e=some q):JAN G (n+1) it names N e=(JAG (JAN G n false names N) q.2).map (E.xop q.1):=by
 unfold JAN JAY;rw[h]
theorem JAD{α:Type}{x:α}{P:Prop}(h:(none:Option α)=some x):P:=by cases h
noncomputable def JDl:Option NameKind->Bool
 |some .local=>true
 |some .cell=>true
 |_=>false
noncomputable def slot(names:Nq)(N:List Str)(x:Str):Option Nat:=if JDl (names.lookup x)=true then idxOf x N else none
noncomputable def slots(names:Nq)(N:List Str):List Expr->Option (List Nat)
 | []=>some []
 |.Name x _::r=>(slot names N x).bind λi=>(slots names N r).bind λis=>some (i::is)
 |_=>none
noncomputable def JAc(f:Stmt->Option S):List Stmt->Option S
 | []=>some .nil
 |s::r=>(f s).bind λa=>(JAc f r).bind λb=>some (.cons a b)
noncomputable def JCr:Expr->Bool
 |.ListComp ..=>true
 |_=>false
noncomputable def isTup:Expr->Bool
 |.Tuple ..=>true
 |_=>false
noncomputable def JDS:Expr->Bool
 |.List ..=>true
 |_=>false
noncomputable def JQZ(names:Nq)(t1 t2 e:Expr):Bool:=match t1,t2,e with
 |.Name x px,.Name y py,.Tuple [a,b] _ _=>names.lookup x==some .local&&names.lookup y==some .local&&px.line==py.line&&x != y&&!([a,b].all (foldedForSure 8))&&!([a,b].all (constantsAlone 8))
 |_,_,_=>false
noncomputable def JEC(names:Nq)(ts:List Expr)(e:Expr):Bool:=match ts with
 | [a,b]=>JQZ names a b e
 |_=>false
noncomputable def JMK:Expr->Option (List Expr)
 |.Tuple es _ _=>some es
 |_=>none
noncomputable def JPi:Expr->Bool
 |.List [] _=>true
 |_=>false
noncomputable def three(names:Nq)(t1 t2 t3:Expr)(es:List Expr):Bool:=match t1,t2,t3 with
 |.Name x px,.Name y py,.Name z pz=>es.length==3&&names.lookup x==some .local&&names.lookup y==some .local&&names.lookup z==some .local&&px.line==py.line&&px.line==pz.line&&x != y&&x != z&&y != z&&!(es.all (foldedForSure 8))&&!(es.all (constantsAlone 8))
 |_,_,_=>false
noncomputable def JNa(names:Nq):Expr->Bool
 |.Name x _=>names.lookup x==some .cell
 |_=>false
noncomputable def dispN(names:Nq)(ts es:List Expr):Bool:=match ts with
 | [a,b,c]=>three names a b c es
 |_::_::_::_::_=>ts.length==es.length&&decide (es.length<=1000)
 |_=>false
noncomputable def JLZ(names:Nq)(ts es:List Expr):Bool:=(ts.any (JNa names)&&decide (es.length<=1000)) || dispN names ts es
noncomputable def JMf(f:Expr->Option E):List Expr->List Nat->Option (E×Option Nat)
 | [],_=>some (.nil,none)
 |_::_,[]=>none
 |e::r,i::is=>if JPi e=true then (JAG f r).bind λb=>some (.cons .cnon b,some i) else (f e).bind λa=>(JMf f r is).bind λq=>some (.cons a q.1,q.2)
noncomputable def unpO(is:List Nat)(x:E):Option Nat->S
 |none=>.unp is (.tup x)
 |some i=>.cons (.unp is (.tup x)) (.asg i (.lst .nil))
noncomputable def JFy(e c:Option Expr):Option Str:=match e,c with
 |some (.Call (.Name x _) [.Constant (.str _) _ _] [] _),none=>some x
 |_,_=>none
noncomputable def handOf:List ExceptHandler->Option (Str×Str×Str)
 | [.ExceptHandler (some (.Name cn _)) (some en) [.Assign [.Name kn _] (.Name en2 _) _] _]=>if en2=en then some (cn,en,kn) else none
 |_=>none
noncomputable def JIX:Expr->Option (Str×Str×Expr)
 |.Call (.Attribute (.Name x _) m ap) [a] [] cp=>if (ap.endLine==cp.line)=true then some (x,m,a) else none
 |_=>none
noncomputable def JMo:Expr->Option (Str×Expr×Expr)
 |.Call (.Attribute (.Name x _) m ap) [a,b] [] cp=>if (ap.endLine==cp.line)=true/\m="insert" then some (x,a,b) else none
 |_=>none
noncomputable def docOf:Expr->Bool
 |.Constant (.str _) _ _=>true
 |_=>false
noncomputable def JGS:List Expr->Option (Sum Str (List Expr))
 | [.Name x _]=>some (.inl x)
 | [.Tuple ts _ _]=>some (.inr ts)
 |_=>none
noncomputable def JMm:List Expr->Option (Str×Expr)
 | [.Subscript (.Name x _) k _]=>if isSlice k=true then none else some (x,k)
 |_=>none
noncomputable def preF(G:List (Str×GK)):List Str->Nat->E->S->S
 | [],_,_,s=>s
 |x::r,i,y,s=>if (G.lookup x=some GK.opt\/G.lookup x=some GK.nam)/\y.uses i=true then .cons (.frz i) (preF G r (i+1) y s) else preF G r (i+1) y s
noncomputable def pre(G:List (Str×GK))(names:Nq)(N:List Str)(y:E)(s:S):S:=if dOn G names=true then preF G N 0 y s else s
noncomputable def JNo:XO->Bool
 |.dcp=>true
 |.dnw=>true
 |.dpr=>true
 |_=>false
noncomputable def dFr(G:List (Str×GK))(names:Nq)(e:Expr):Option (XO×List Expr):=(dOf G names false e).bind λq=>if JNo q.1=true then some q else none
noncomputable def JBv(G:List (Str×GK))(fE:Bool->Nq->List Str->Expr->Option E)(fS:Bool->Nq->List Str->Stmt->Option S)(zz:Bool)(names:Nq)(N:List Str)(st:Stmt):Option S:=match st with
 |.Pass _=>some .pass
 |.Break _=>some .brk
 |.Continue _=>some .cnt
 |.Return none _=>some .retN
 |.Return (some e) _=>(fE false names N e).map λy=>pre G names N y (.ret y)
 |.Assign ts e _=>(match JGS ts with
  |some (.inl x)=>(slot names N x).bind λi=>(match dFr G names e with
   |some q=>(JAG (fE false names N) q.2).map λy=>pre G names N (.xop q.1 y) (.asg i (.xop q.1 y))
   |none=>(fE false names N e).bind λy=>if y.fresh=true/\JDS e=false/\JCr e=false then none else some (pre G names N y (.asg i y)))
  |some (.inr ts)=>(slots names N ts).bind λis=>if (decide is.Nodup=true/\(isTup e=false\/JEC names ts e=true))/\(G.lookup (".hot":Str)).isSome=false then (fE false names N e).map (S.unp is)
    else (JMK e).bind λes=>if (decide is.Nodup=true/\JLZ names ts es=true)/\G.lookup (".dsp":Str)=some GK.opt then (JMf (fE false names N) es is).map (λq=>unpO is q.1 q.2) else none
  |none=>(JMm ts).bind λq=>if dOn G names=true/\JAU q.1=false/\JCr e=false then (slot names N q.1).bind λi=>(fE false names N e).bind λy=>(fE false names N q.2).bind λz=>some (.put i z y) else none)
 |.If c a b _=>(fE false names N c).bind λz=>(JAc (fS zz names N) a).bind λx=>(JAc (fS zz names N) b).bind λy=>some (pre G names N z (.ife z x y))
 |.Expr e _=>(match JIX e with
  |some (x,m,a)=>if JAU x=false then
    (if m="append" then (slot names N x).bind λi=>(fE false names N a).map (S.app i)
     else if (m="extend"/\JCr a=false)/\G.lookup (".ext":Str)=some GK.opt then (slot names N x).bind λi=>(fE false names N a).map (S.ext i) else if m="pop"/\dOn G names=true then (slot names N x).bind λi=>(fE false names N a).map (S.pop i) else none) else none
  |none=>(match JMo e with
   |some (x,a,b)=>if JAU x=false/\G.lookup (".ins":Str)=some GK.opt then (slot names N x).bind λi=>(JAG (fE false names N) [a,b]).map (S.ins i) else none
   |none=>if docOf e=true then some .pass else if JCr e=true then none else (fE false names N e).map S.drop))
 |.For tg iter body [] _=>if (G.lookup (".hot":Str)).isSome=true then none else (match JGS [tg] with
  |some (.inl x)=>(slot names N x).bind λi=>(fE true names N iter).bind λe=>(JAc (fS zz names N) body).bind λb=>some (.for1 i e b)
  |some (.inr ts)=>(slots names N ts).bind λis=>(match xT G names iter with
   |some q=>(JAG (fE false names N) q.2).map (E.xop q.1)
   |none=>fE true names N iter).bind λe=>(JAc (fS zz names N) body).bind λb=>some (.forT is e b)
  |none=>none)
 |.While c body [] _=>(fE false names N c).bind λz=>(JAc (fS zz names N) body).bind λb=>some (.whl z b)
 |.Raise e c _=>(JFy e c).bind λx=>(match glob G names x with
   |some (.cls c)=>if zz=true then some (.rais c) else none
   |_=>none)
 |.Try body hs [] [] _=>(handOf hs).bind λq =>
   if zz=true/\G.lookup (".try":Str)=some GK.opt/\JAU q.2.1=false/\names.lookup q.2.1=some .local then (match glob G names q.1 with
   |some (.cls c)=>(JAc (fS false names N) body).bind λb=>(idxOf q.2.1 N).bind λi=>(slot names N q.2.2).bind λj =>
      if i=j then none else some (.tryx b c i (.cons (.asg j (.var i)) .nil))
   |_=>none) else none
 |_=>none
noncomputable def JB7(G:List (Str×GK)):Nat->Bool->Nq->List Str->Stmt->Option S
 |0,_,_,_,_=>none
 |n+1,zz,names,N,st=>JBv G (JAN G n) (JB7 G n) zz names N st
end VI
end
section
namespace VI
open PySem
def JA6(cells:List (Str×Addr)):Nq->List (Str×Addr)->List (Str×Addr)
 | [],cs=>cs
 |(n,k)::r,cs=>if (k==NameKind.free)=true then JA6 cells r ((n,(cells.lookup n).getD 0)::cs) else JA6 cells r cs
theorem JBp:∀(names:Nq) (cs:List (Str×Addr)),(∀n,(n,NameKind.free)∈names->(env.cells.lookup n).isSome=true) ->
  (forIn names cs (λ(x:Str×NameKind) (r:List (Str×Addr))=>if (x.2==NameKind.free)=true then (do let c<-cellOf env x.1;pure (ForInStep.yield ((x.1,c)::r))) else pure (ForInStep.yield r)):Sem (List (Str×Addr)))=pure (JA6 env.cells names cs)
 | [],cs,_=>rfl
 |(n,k)::r,cs,h=>by
  rw[List.forIn_cons];have ih:=λcs=>JBp (env:=env) r cs λm hm=>h m (q_s _ hm)
  by_cases hk:(k==NameKind.free)=true
  · have e:k=.free:=eq_of_beq hk
    subst e;have q:=h n List.mem_cons_self;obtain⟨c,hc⟩:=Option.isSome_iff_exists.mp q;simp only[hk,if_true];have e2:cellOf env n=pure c:=by unfold cellOf;rw[hc]
    rw[e2,pure_bind,pure_bind];show(forIn r ((n,c)::cs) _:Sem _)=_;rw[ih];show pure (JA6 env.cells r ((n,c)::cs))=pure (JA6 env.cells ((n,NameKind.free)::r) cs);rw[show JA6 env.cells ((n,NameKind.free)::r) cs=JA6 env.cells r ((n,(env.cells.lookup n).getD 0)::cs) from if_pos rfl,hc];rfl
  · rw[if_neg hk,pure_bind]
    show(forIn r cs _:Sem _)=_;rw[ih];show _=pure (JA6 env.cells ((n,k)::r) cs);rw[show JA6 env.cells ((n,k)::r) cs=JA6 env.cells r cs from if_neg hk]
theorem JDo(h:∀n,(n,NameKind.free)∈sc.names->(env.cells.lookup n).isSome=true):closureFor sc env=pure (JA6 env.cells sc.names []):=by
 have:=JBp (env:=env) sc.names [] h;unfold closureFor
 first
  |exact this
  |(simp only[]at this ⊢;rw[show(forIn sc.names [] _:Sem (List (Str×Addr)))=_ from this];rfl)
  |(rw[this];rfl)
theorem JBU{cells:List (Str×Addr)}{x:Str}:∀(names:Nq) (cs:List (Str×Addr)),(JA6 cells names cs).lookup x =
  if (x,NameKind.free)∈names then some ((cells.lookup x).getD 0) else cs.lookup x
 | [],cs=>by simp[JA6]
 |(n,k)::r,cs=>by
  unfold JA6
  by_cases hk:(k==NameKind.free)=true
  · have e:k=.free:=eq_of_beq hk
    subst e;rw[if_pos hk,JBU r]
    by_cases hr:(x,NameKind.free)∈r
    ·rw[if_pos hr,if_pos (q_s _ hr)]
    ·rw[if_neg hr]
     by_cases hx:x=n
     ·subst hx;rw[if_pos List.mem_cons_self,List.lookup_cons,beq_self_eq_true]
     ·have hb:(x==n)=false:=beq_eq_false_iff_ne.mpr hx;rw[List.lookup_cons,hb,if_neg];intro hm;rcases q_n.mp hm with e|e
      ·exact hx (Prod.mk.inj e).1
      ·exact hr e
  · rw[if_neg hk,JBU r]
    have:((x,NameKind.free)∈(n,k)::r)↔(x,NameKind.free)∈r:=by
     constructor
     ·intro hm;rcases q_n.mp hm with e|e
      ·exfalso;apply hk;rw[<-(Prod.mk.inj e).2];rfl
      ·exact e
     ·exact q_s _
    simp only[this]
end VI
end
section
namespace VI
open PySem PySem.Spec PyProof.Rows L2
section
variable{X:Cx}
noncomputable def rCat2(K:Kq):R2:=λx y H Q=>∃a b xs ys,x=.ref a/\y=.ref b/\SqT K H a xs/\SqT K H b ys/\xs.length+ys.length<=sizeLine /\
 (xs=[]->Q (.ref b) H)/\(xs≠[]->ys=[]->Q (.ref a) H)/\(xs≠[]->ys≠[]->∀p,H p=none->Q (.ref p) (upd H p (.tup (xs++ys))))
theorem JJp:OpR X (binaryOp .Add) (rCat2 X.K):=by
 intro pins s σ H x y v u Q I rx ry h;obtain⟨a,b,xs,ys,e1,e2,ha,hb,hz,q0,q1,q2⟩:=h
 by_cases hx:xs=[]
 ·subst e1 e2;cases rx;cases ry;obtain⟨its,r1,p1,_⟩:=I.tuple ha;obtain⟨its2,r2,p2,_⟩:=I.tuple hb;obtain⟨⟨cls,dd,data,sl⟩,ho,hc,n,hd⟩:=id p1;obtain⟨⟨cls2,dd2,data2,sl2⟩,ho2,hc2,n2,hd2⟩:=id p2;simp only at hc hd hc2 hd2;subst hc hd hc2 hd2;have hv:its=[]:=r1.nil_iff.mpr hx;exact concat_meets ⟨_,ho,rfl⟩ ⟨_,ho2,rfl⟩ noFill_tuple_add seq_tuple_add PySem.F.slot_tuple_add PySem.F.entry_tuple_add (PySem.F.args_tuple_add_2 _ _)
   (tuple_addW0 a b its.toArray its2.toArray n n2 dd dd2 sl sl2 (by simp[hv])) ⟨ho,ho2,⟨.ref b,H,I,rfl,q0 hx⟩⟩
 ·exact JL1 pins s σ H x y v u Q I rx ry ⟨a,b,xs,ys,e1,e2,ha,hb,hx,hz,q1 hx,q2 hx⟩
noncomputable def rCatL(K:Kq):R2:=λx y H Q=>∃a b xs ys,x=.ref a/\y=.ref b/\SqL K H a xs/\SqL K H b ys/\xs.length+ys.length<=sizeLine/\∀p,H p=none->Q (.ref p) (upd H p (.lst (xs++ys)))
theorem JMV:OpR X (binaryOp .Add) (rCatL X.K):=by
 intro pins s σ H x y v u Q I rx ry h;obtain⟨a,b,xs,ys,rfl,rfl,ha,hb,hz,q⟩:=h;cases rx;cases ry;obtain⟨its,r,⟨⟨cls,dd,data,sl⟩,n,ho,hc,hdd,hd⟩,_⟩:=I.list ha;obtain⟨its2,r2,⟨⟨cls2,dd2,data2,sl2⟩,n2,ho2,hc2,hdd2,hd2⟩,_⟩:=I.list hb;simp only at hc hd hc2 hd2;subst hc hd hc2 hd2;have e:its.toArray++its2.toArray=(its++its2).toArray:=by simp
 have hl:its.toArray.size+its2.toArray.size<=sizeLine:=by
  rw[q_f,q_f,<-r.length,<-r2.length];exact hz
 refine concat_meets ⟨_,ho,rfl⟩ ⟨_,ho2,rfl⟩ noFill_list_add seq_list_add PySem.F.slot_list_add PySem.F.entry_list_add (PySem.F.args_list_add_2 _ _) (list_addW a b its.toArray its2.toArray n n2 dd dd2 sl sl2 hl) ⟨ho,ho2,?_⟩;rw[e];exact⟨.ref _,_,I.lnew (t':=s.toks) (r.append r2) (by rw[q_u];omega),rfl,q _ I.fresh⟩
noncomputable def rRepL(K:Kq):R2:=λx y H Q=>∃a k xs,x=.ref a/\y=.int k/\SqL K H a xs/\-(2 ^ 63)<=k/\k<2 ^ 63/\xs.length*k.toNat<=sizeLine/\∀p,H p=none->Q (.ref p) (upd H p (.lst (List.replicate k.toNat xs).flatten))
theorem JLw:OpR X (binaryOp .Mult) (rRepL X.K):=by
 intro pins s σ H x y v u Q I rx ry h;obtain⟨a,k,xs,rfl,rfl,ha,h1,h2,hz,q⟩:=h;cases rx;obtain⟨t,rfl⟩:=ry;obtain⟨its,r,⟨⟨cls,dd,data,sl⟩,n,ho,hc,hdd,hd⟩,_⟩:=I.list ha;simp only at hc hd;subst hc hd;have hlen:its.toArray.size*k.toNat<=sizeLine:=by rw[q_f,<-r.length];exact hz
 have hcap:¬its.toArray.size*k.toNat > (2 ^ 63 - 1) / 8:=by
  have:(sizeLine:Nat)<=(2 ^ 63 - 1) / 8:=by decide
  omega
 have hfit:¬(!Builtin.List.listFitsIndex k)=true:=by
  rw[fitsIndex_both h1 h2];exact Bool.false_ne_true
 have hlong:¬Builtin.List.listTooLong (its.toArray.size*k.toNat)=true:=by
  rw[JJ3 hlen];exact Bool.false_ne_true
 refine wpAny_binaryOp_repeat_ref (T:="list") (U:="int") (by decide) ⟨_,ho,rfl⟩ (λs'=>typeIs_int s' k t) noFill_list_mul PySem.F.fills_int_mul PySem.F.slot_int_rmul repeat_list PySem.F.slot_int_index.lookup
  (call_meets PySem.F.slot_int_rmul (typeIs_int s k t) PySem.F.entry_int_rmul (PySem.F.args_int_rmul_2 _ _) (lm_int_rmul_list_any k t a its.toArray n dd sl)
    ⟨ho,rfl,⟨_,ho,rfl⟩,call_meets PySem.F.slot_list_mul ⟨_,ho,rfl⟩ PySem.F.entry_list_mul (PySem.F.args_list_mul_2 _ _) (lm_list_mul_any a its.toArray n dd sl k t hfit hcap hlong) ⟨ho,?_⟩⟩)
 rw[listMul_foldl_if];exact⟨.ref _,_,I.lnew (t':=s.toks) (r.rep k.toNat) (by rw[len_rep,Nat.mul_comm];exact hz),rfl,q _ I.fresh⟩
theorem JCQ:fillsNumberSlot (.type "tuple") "mul"=pure false :=
 PySem.fillsNumberSlot_seq (id:="tuple.__mul__") (r:=some (.builtin "tuple.__rmul__")) PySem.F.slot_tuple_mul.lookup (by decide +kernel) PySem.F.slot_tuple_rmul.lookup (by decide +kernel)
theorem JET:seqRepeat? (.type "tuple")=pure (some (.builtin "tuple.__mul__")):=by
 unfold seqRepeat?;rw[PySem.seqSlot_of (T:="tuple") (name:="__mul__") (id:="tuple.__mul__") PySem.F.slot_tuple_mul.lookup (by decide +kernel),PySem.seqSlot_of (T:="tuple") (name:="__rmul__") (id:="tuple.__rmul__") PySem.F.slot_tuple_rmul.lookup (by decide +kernel)]
 rfl
theorem JC8(a:Int)(t:Tok)(l:Addr)(items:Array Value)(n:Nat)(d:Option Addr)(sl:Array (Option Value)) :
  Meets (Builtin.«int.__rmul__» ⟨[.int a t,.ref l],[]⟩) (λ_ R s=>s.heap.get? l=some { cls:=.type "tuple",dict:=d,data:=.seq items n,slots:=sl }/\R (.ok (.ret Value.notImplemented)) s) :=
 .of_wp λprog w A R s h=>by obtain⟨hp,g,d,tk,os⟩:=s;obtain⟨hl,h⟩:=h;wp_walk;exact⟨_,rfl,h⟩
theorem JDe(l:Addr)(items:Array Value)(n:Nat)(d:Option Addr)(sl:Array (Option Value))(x:Int)(u:Tok)(h1:2<=x)(h2:x<=1000)(h3:items.size<=1000)(h4:items.isEmpty=false)(h5:(List.foldl (λx1 x2=>x1++x2) #[] (List.replicate x.toNat items)).size<=sizeLine) :
  Meets (Builtin.«tuple.__mul__» ⟨[.ref l,.int x u],[]⟩) (λ_ R s=>s.heap.get? l=some { cls:=.type "tuple",dict:=d,data:=.seq items n,slots:=sl }/\R (.ok (.ret (Value.ref s.heap.objs.size))) { s with heap:=s.heap.push { cls:=Value.type "tuple",data:=Data.seq (List.foldl (λx1 x2=>x1++x2) #[] (List.replicate x.toNat items)) },toks:=s.toks }) :=
 .of_wp λprog w A R s h=>by
  obtain⟨hp,g,d,tk,os⟩:=s;obtain⟨hl,h⟩:=h;have c1:(decide (x < -(2 ^ 63)) || decide (x ≥ 2 ^ 63))=false:=by simp;omega
  have c2:(items.isEmpty || x==1)=false:=by rw[h4];simp;omega
  have c3:(decide (x<=0) || items.isEmpty)=false:=by rw[h4];simp;omega
  have c4:((items.size:Int)*x)<=1000*1000:=Int.mul_le_mul (by omega) h2 (by omega) (by omega)
  have c5:¬((items.size:Int)*x > (2 ^ 63 - 1) / 8):=by omega
  have c6:Builtin.Tuple.tupleTooMany ((items.size:Int)*x)=false:=by
   unfold Builtin.Tuple.tupleTooMany;rw[sizeLine_eq];exact q_o (by omega)
  wp_walk
  rw[if_neg (by rw[c1];decide)]
  wp_walk
  rw[if_neg (by rw[c2];decide)]
  dsimp only
  rw[if_neg (by rw[c3];decide)]
  rw[if_neg c5];rw[if_neg (by rw[c6];decide)]
  unfold Builtin.Tuple.tupleExact;refine q_b (wpAny_newObj_type (q_e ⟨_,rfl,h⟩) h5)
noncomputable def rRepT(K:Kq):R2:=λx y H Q=>∃a k xs,x=.ref a/\y=.int k/\SqT K H a xs/\2<=k/\k<=1000/\xs.length<=1000/\xs≠[]/\∀p,H p=none->Q (.ref p) (upd H p (.tup (List.replicate k.toNat xs).flatten))
theorem JM3:OpR X (binaryOp .Mult) (rRepT X.K):=by
 intro pins s σ H x y v u Q I rx ry h;obtain⟨a,k,xs,rfl,rfl,ha,h1,h2,h3,h4,q⟩:=h;cases rx;obtain⟨t,rfl⟩:=ry;obtain⟨its,r,⟨⟨cls,dd,data,sl⟩,ho,hc,n,hd⟩,_⟩:=I.tuple ha;simp only at hc hd;subst hc hd;have hl:=r.length;have he:its.toArray.isEmpty=false:=by
  cases its with
  |nil=>exact absurd (q_B.mp (by simpa using hl)) h4
  |cons _ _=>rfl
 have ef:List.foldl (λx1 x2=>x1++x2) #[] (List.replicate k.toNat its.toArray)=(List.replicate k.toNat its).flatten.toArray:=by
  have:=listMul_foldl_if its.toArray k.toNat;rw[he]at this;simpa using this
 have hz:(List.replicate k.toNat its).flatten.length<=1000000:=by
  rw[len_rep];exact Nat.le_trans (Nat.mul_le_mul (show k.toNat<=1000 by omega) (show its.length<=1000 by omega)) (by decide)
 refine wpAny_binaryOp_repeat_ref (T:="tuple") (U:="int") (by decide) ⟨_,ho,rfl⟩ (λs'=>typeIs_int s' k t) JCQ PySem.F.fills_int_mul PySem.F.slot_int_rmul JET PySem.F.slot_int_index.lookup
  (call_meets PySem.F.slot_int_rmul (typeIs_int s k t) PySem.F.entry_int_rmul (PySem.F.args_int_rmul_2 _ _) (JC8 k t a its.toArray n dd sl)
    ⟨ho,rfl,⟨_,ho,rfl⟩,call_meets PySem.F.slot_tuple_mul ⟨_,ho,rfl⟩ PySem.F.entry_tuple_mul (PySem.F.args_tuple_mul_2 _ _) (JDe a its.toArray n dd sl k t h1 h2 (by simp only[q_f];omega) he (by rw[ef,sizeLine_eq];simp only[q_f];omega)) ⟨ho,?_⟩⟩)
 rw[ef];refine⟨.ref s.heap.objs.size,upd H s.heap.objs.size (.tup (List.replicate k.toNat xs).flatten),I.laid (t':=s.toks) (λb u e=>q_c _ e) (q_t _) ?_,rfl,q _ I.fresh⟩;exact⟨by rw[(r.rep k.toNat).length,sizeLine_eq];omega,_,r.rep k.toNat,⟨_,q_k _ rfl,rfl,_,rfl⟩⟩
end
section
variable{prog:Program}{w:World}{A:Around}{E:Vq}{s:Shared}
theorem JBl{t sl:Addr}{lo hi:Option Int}(ht:IsTup s.heap t items)(hs:s.heap.IsSliceOf sl vl vu .none)(pl:IsPart vl lo)(pu:IsPart vu hi)
  (hw:HT.sIx items.size 0 lo=0/\HT.sIx items.size items.size hi=items.size) (h:Q (.ref t) s):wpAny (model prog w) A (getItem (.ref t) (.ref sl)) Q E s:=by
 obtain⟨os,hos,hcs,hds⟩:=id hs;have hTs:s.TypeIs (.ref sl) "slice":=⟨os,hos,hcs⟩;unfold getItem
 try with_reducible refine wpAny_holding ?_
 first|refine q_b (q_e ?_)|skip
 refine q_b (wpAny_sequenceKey ht.typeIs (by decide) ?_)
 refine q_b (wpAny_callSpecial?_slot (name:=Str.ofString "__getitem__") ht.typeIs PyProof.Rows.slot_tuple_getitem
  (wpAny_call_entry PyProof.Rows.slot_tuple_getitem ht.typeIs entry_tuple_getitem ?_ (args_tuple_getitem _ _)))
 show wpAny _ _ (Builtin.Tuple.tupleItemsOf (.ref t) >>= _) _ _ s;refine q_b (tupleItemsOf_ ht ?_);refine q_b (wpAny_typeOf hTs ?_);rw[if_pos (by decide)]
 refine q_b (HT.sliceApplied_gen hs pl pu ?_);have hyes:(((HT.sIx items.size 0 lo:Nat):Int)==0&&(1:Int)==1&&(HT.sIx items.size items.size hi - HT.sIx items.size 0 lo)==items.size)=true:=by
  rw[hw.1,hw.2];simp
 show wpAny _ _ (if (((HT.sIx items.size 0 lo:Nat):Int)==0&&(1:Int)==1&&(HT.sIx items.size items.size hi - HT.sIx items.size 0 lo)==items.size)=true then _ else _) _ _ s;rw[if_pos hyes];refine q_b ?_;unfold Builtin.Tuple.tupleIsExact;refine q_b (wpAny_typeOf ht.typeIs (q_e ?_));rw[if_pos (by decide)]
 refine q_b (wpAny_rule ?_);exact q_e ⟨_,rfl,q_e h⟩
end
section
variable{X:Cx}
def rSlW(K:Kq):V->Option Int->Option Int->Hp->VK->Prop:=λx lo hi H Q=>∃a xs,x=.ref a/\SqT K H a xs/\(HT.sIx xs.length 0 lo=0/\HT.sIx xs.length xs.length hi=xs.length)/\Q (.ref a) H
theorem JMJ:SlR X (rSlW X.K):=by
 intro pins s σ H x v vl vu lo hi sl Q I rx hs pl pu h;obtain⟨a,xs,rfl,hx,hw,q⟩:=h;cases rx;obtain⟨its,r,ht,hz⟩:=I.tuple hx;have hlen:its.toArray.size=xs.length:=by rw[q_f];exact r.length.symm
 refine⟨"tuple",_,PyProof.Rows.slot_tuple_getitem.lookup,ht.typeIs,?_⟩;exact JBl ht hs pl pu (by rw[hlen];exact hw) ⟨.ref a,H,I,rfl,q⟩
end
end VI
end
section
namespace VI
open PySem PySem.Spec PyProof.Rows L2
abbrev St:=L2.St
structure Bs where
 K:Kq
 cl:Nat->Addr
 w:World
def ExcAt(a C:Addr)(h:Heap):Prop:=∃o,h.get? a=some o/\o.cls=.ref C
def SqDo(K:Kq)(w:World)(H:Hp)(a:Addr)(o:Obj)(xs:List (Key×V)):Prop :=
 H a=some (.frz o (.dK xs))\/∀(P:Program) (h:Heap),K.In h->(a==sysModules)=false/\h.get? a=some o/\∃vs,KV xs vs/\h.DictOf (JBH P w) a vs
def SqD(K:Kq)(w:World)(H:Hp)(a:Addr)(xs:List (Key×V)):Prop:=∃o,SqDo K w H a o xs
mutual
def Den(B:Bs)(H:Hp):D->V->Prop
 |.none,v=>v=.non
 |.bool b,v=>v=.bl b
 |.int i,v=>v=.int i
 |.str x,v=>v=.str x
 |.tuple ds,v=>∃a xs,v=.ref a/\SqT B.K H a xs/\DenL B H ds xs
 |.list ds,v=>∃a xs,v=.ref a/\SqL B.K H a xs/\DenL B H ds xs
 |.dict kvs,v=>(∃a c,v=.ref a/\kvs=[(.none,.int ((c:Nat):Int))]/\H a=some (.ext (ExcAt a (B.cl c))))\/∃a xs,v=.ref a/\SqD B.K B.w H a xs/\DenK B H kvs xs
def DenL(B:Bs)(H:Hp):List D->List V->Prop
 | [],vs=>vs=[]
 |d::ds,vs=>∃v r,vs=v::r/\Den B H d v/\DenL B H ds r
def DenK(B:Bs)(H:Hp):List (D×D)->List (Key×V)->Prop
 | [],vs=>vs=[]
 |(k,d)::ds,vs=>∃x v r,vs=(Sum.inr x,v)::r/\k=.str x/\Den B H d v/\DenK B H ds r
end
theorem JJO{K:Kq}{H H':Hp}{a:Addr}{xs:List V}(e:Same H H')(h:SqT K H a xs):SqT K H' a xs:=by
 rcases h with (h|⟨o,h⟩)|h
 ·exact .inl (.inl (e _ _ h))
 ·exact .inl (.inr ⟨o,e _ _ h⟩)
 ·exact .inr h
theorem JPI{K:Kq}{w:World}{H H':Hp}{a:Addr}{o:Obj}{xs:List (Key×V)}(e:Same H H')(h:SqDo K w H a o xs):SqDo K w H' a o xs:=h.imp (λh=>e _ _ h) λh=>h
theorem sameD{K:Kq}{w:World}{H H':Hp}{a:Addr}{xs:List (Key×V)}(e:Same H H')(h:SqD K w H a xs):SqD K w H' a xs:=h.imp λ_ h=>JPI e h
mutual
theorem Den.mono{B:Bs}{H H':Hp}(s:Same H H'):∀(d:D) (v:V),Den B H d v->Den B H' d v
 |.none,_,h=>h
 |.bool _,_,h=>h
 |.int _,_,h=>h
 |.str _,_,h=>h
 |.tuple ds,v,h=>by
  simp only[Den]at h ⊢;obtain⟨a,xs,e,q,l⟩:=h;exact⟨a,xs,e,JJO s q,DenL.mono s ds xs l⟩
 |.list ds,v,h=>by
  simp only[Den]at h ⊢;obtain⟨a,xs,e,q,l⟩:=h;exact⟨a,xs,e,s.seq q,DenL.mono s ds xs l⟩
 |.dict kvs,v,h=>by
  simp only[Den]at h ⊢;rcases h with ⟨a,c,e,k,q⟩|⟨a,xs,e,q,l⟩
  ·exact .inl ⟨a,c,e,k,s _ _ q⟩
  ·exact .inr ⟨a,xs,e,sameD s q,DenK.mono s kvs xs l⟩
theorem DenL.mono{B:Bs}{H H':Hp}(s:Same H H'):∀(ds:List D) (vs:List V),DenL B H ds vs->DenL B H' ds vs
 | [],_,h=>h
 |d::ds,vs,h=>by
  simp only[DenL]at h ⊢;obtain⟨v,r,e,q,l⟩:=h;exact⟨v,r,e,Den.mono s d v q,DenL.mono s ds r l⟩
theorem DenK.mono{B:Bs}{H H':Hp}(s:Same H H'):∀(ds:List (D×D)) (vs:List (Key×V)),DenK B H ds vs->DenK B H' ds vs
 | [],_,h=>h
 |(k,d)::ds,vs,h=>by
  simp only[DenK]at h ⊢;obtain⟨x,v,r,e,e',q,l⟩:=h;exact⟨x,v,r,e,e',Den.mono s d v q,DenK.mono s ds r l⟩
end
theorem DenL.len{B:Bs}{H:Hp}:∀(ds:List D) (vs:List V),DenL B H ds vs->ds.length=vs.length
 | [],_,h=>by simp only[DenL]at h;subst h;rfl
 |d::ds,vs,h=>by
  simp only[DenL]at h;obtain⟨v,r,e,q,l⟩:=h;subst e;simp only[List.length_cons,DenL.len ds r l]
theorem DenL.get{B:Bs}{H:Hp}:∀(ds:List D) (vs:List V) (i:Nat) (d:D),DenL B H ds vs->ds[i]? = some d->∃v,vs[i]? = some v/\Den B H d v
 | [],_,_,_,_,e=>by simp at e
 |d::ds,vs,i,x,h,e=>by
  simp only[DenL]at h;obtain⟨v,r,e1,q,l⟩:=h;subst e1;cases i with
  |zero =>
   simp only[List.getElem?_cons_zero,q_j]at e;subst e;exact⟨v,rfl,q⟩
  |succ i =>
   simp only[List.getElem?_cons_succ]at e;obtain⟨u,e2,q2⟩:=DenL.get ds r i x l e;exact⟨u,by simpa using e2,q2⟩
theorem DenL.append{B:Bs}{H:Hp}:∀(ds es:List D) (vs us:List V),DenL B H ds vs->DenL B H es us->DenL B H (ds++es) (vs++us)
 | [],es,_,us,h,h2=>by simp only[DenL]at h;subst h;exact h2
 |d::ds,es,vs,us,h,h2=>by
  simp only[DenL,List.cons_append]at h ⊢;obtain⟨v,r,e,q,l⟩:=h;subst e;exact⟨v,r++us,rfl,q,DenL.append ds es r us l h2⟩
mutual
theorem Den.reads(hK:X.K=B.K)(I:Inv X pins σ H s) :
  ∀(d:D) (v:V) (u:Value),d.canLay0=true->Den B H d v->RelV v u->∃as,Reads s.heap u d as
 |.none,v,u,_,h,r=>by simp only[Den]at h;subst h;cases r;exact⟨_,.none⟩
 |.bool b,v,u,_,h,r=>by simp only[Den]at h;subst h;cases r;exact⟨_,.bool b⟩
 |.int i,v,u,_,h,r=>by simp only[Den]at h;subst h;obtain⟨t,rfl⟩:=r;exact⟨_,.int i t⟩
 |.str x,v,u,_,h,r=>by simp only[Den]at h;subst h;obtain⟨t,rfl⟩:=r;exact⟨_,.str x t⟩
 |.tuple ds,v,u,c,h,r=>by
  simp only[Den]at h;obtain⟨a,xs,e,q,l⟩:=h;subst e;cases r;obtain⟨its,rv,⟨o,h1,h2,n,h3⟩,_⟩:=I.tuple (hK▸q);obtain⟨as,ra⟩:=DenL.reads hK I ds xs its (by simpa only[PyData.canLay0] using c) l rv
  exact⟨as,.tuple h1 h2 h3 (by simpa using ra)⟩
 |.list ds,v,u,c,h,r=>by
  simp only[Den]at h;obtain⟨a,xs,e,q,l⟩:=h;subst e;cases r;obtain⟨its,rv,⟨o,n,h1,h2,_,h3⟩,_⟩:=I.list (hK▸q);obtain⟨as,ra⟩:=DenL.reads hK I ds xs its (by simpa only[PyData.canLay0] using c) l rv
  exact⟨a::as,.list h1 h2 h3 (by simpa using ra)⟩
 |.dict kvs,v,u,c,h,r=>by simp only[PyData.canLay0]at c;cases c
theorem DenL.reads(hK:X.K=B.K)(I:Inv X pins σ H s) :
  ∀(ds:List D) (vs:List V) (us:List Value),PyData.canLayAll0 ds=true->DenL B H ds vs->Vals vs us->∃as,ReadsAll s.heap us ds as
 | [],vs,us,_,h,r=>by simp only[DenL]at h;subst h;cases r;exact⟨_,.nil⟩
 |d::ds,vs,us,c,h,r=>by
  simp only[DenL]at h;obtain⟨v,t,e,q,l⟩:=h;subst e;simp only[PyData.canLayAll0,q_i]at c;cases r with
  |cons r1 r2 =>
   obtain⟨as,h1⟩:=Den.reads hK I d v _ c.1 q r1;obtain⟨bs,h2⟩:=DenL.reads hK I ds t _ c.2 l r2;exact⟨_,.cons h1 h2⟩
end
def KE(B:Bs)(XX:Nat->Hp->Prop)(r:R D)(H:Hp)(Q:VK):Prop:=match r with
 |.ok d=>∀v H',Same H H'->Den B H' d v->Q v H'
 |.exc c=>XX c H
 |.bad=>False
def KL(B:Bs)(XX:Nat->Hp->Prop)(r:R (List D))(H:Hp)(Q:List V->Hp->Prop):Prop:=match r with
 |.ok ds=>∀vs H',Same H H'->DenL B H' ds vs->Q vs H'
 |.exc c=>XX c H
 |.bad=>False
def KB(XX:Nat->Hp->Prop)(r:R Bool)(H:Hp)(Q:Bool->Hp->Prop):Prop:=match r with
 |.ok b=>∀H',Same H H'->Q b H'
 |.exc c=>XX c H
 |.bad=>False
def Sok(B:Bs)(σ:St)(H:Hp)(δ:Env):Prop:=∀i d,look δ i=.ok d->∃v,σ[i]? = some (some v)/\Den B H d v
theorem Sok.mono{B:Bs}{σ:St}{H H':Hp}{δ:Env}(h:Sok B σ H δ)(s:Same H H'):Sok B σ H' δ:=λi d e =>
 let ⟨v,e1,q⟩:=h i d e
 ⟨v,e1,Den.mono s d v q⟩
noncomputable def JCM(B:Bs)(n:Nat)(fn:List D->R D):Sp:=λvs H Q E=>vs.length=n/\∃ds,DenL B H ds vs/\(match fn ds with
 |.ok d=>∀v H',Same H H'->Den B H' d v->Q v H'
 |.exc c=>∀H',Same H H'->E (.ref (B.cl c)) none H'
 |.bad=>False)
noncomputable def EX(B:Bs)(XX:Nat->Hp->Prop):XK:=λu _ H=>∃c,u=.ref (B.cl c)/\XX c H
class Cool (G:List (Str×GK)):Prop where
 out:G.lookup (".hot":Str)=none
theorem JC1(h:¬(G.lookup (".hot":Str)).isSome=true):Cool G:=⟨by
 cases q:G.lookup (".hot":Str) with
 |none=>rfl
 |some k=>rw[q]at h;exact absurd rfl h⟩
structure Gk(X:Cx)(B:Bs)(C:Cn)(CX:CXT)(XX:Nat->Hp->Prop)(G:List (Str×GK)):Prop where
 K:X.K=B.K
 W:X.w=B.w
 anti:∀c H H',Same H H'->XX c H->XX c H'
 units:X.A.units+200<cLine
 calm:Cool G->X.calm=true
 fn:∀x i,G.lookup x=some (.fn i)->∃f fd ps k,X.mg x=some (.ref f)/\PySem.W.keepIn X.K (.ref f)=true /\
  FnOk X.prog X.w X.K X.mg X.base CX k f fd ps (JCM B ps.length (C.fn i))/\Room k X.A/\Binds X.K fd ps []/\∀ds,C.fn i ds≠.bad->ds.length=ps.length
 pas:JEv CX X (EX B XX)
 con:∀x i d,G.lookup x=some (.con i)->C.glo i=.ok d->∃u v,X.mg x=some u/\RelV v u/\∀H,Den B H d v
 noexg:∀i c,C.glo i≠.exc c
 blt:∀x b,G.lookup x=some (.blt b)->X.mg x=none
 rng:∀x,G.lookup x=some .rng->X.mg x=none
 isi:∀x,G.lookup x=some .isi->X.mg x=none
 ty:∀x t,G.lookup x=some (.ty t)->X.mg x=none
 cls:∀x c,G.lookup x=some (.cls c)->X.mg x=some (.ref (B.cl c))
 nam:∀x,G.lookup x=some .nam->X.mg x=none
section
variable{X:Cx}{B:Bs}{C:Cn}{CX:CXT}{XX:Nat->Hp->Prop}{G:List (Str×GK)}
def RE(B:Bs)(C:Cn)(XX:Nat->Hp->Prop)(e:E):TE:=λσ H Q=>∃δ,Sok B σ H δ/\KE B XX (ev C e δ) H Q
def RT(B:Bs)(C:Cn)(XX:Nat->Hp->Prop)(e:E):TT:=λσ H Q=>∃δ,Sok B σ H δ/\KB XX (evT C e δ) H Q
def RA(B:Bs)(C:Cn)(XX:Nat->Hp->Prop)(e:E):TA:=λσ H Q=>∃δ,Sok B σ H δ/\KL B XX (evA C e δ) H Q
theorem PE.imp{e:Expr}{t t':TE}(h:PE X e t)(i:∀σ H Q,t' σ H Q->t σ H Q):PE X e t':=λpins s σ H Q I q=>h pins s σ H Q I (i σ H Q q)
theorem PT.imp{e:Expr}{t t':TT}(h:PT X e t)(i:∀σ H Q,t' σ H Q->t σ H Q):PT X e t':=λpins s σ H Q I q=>h pins s σ H Q I (i σ H Q q)
theorem PA.imp{e:List Expr}{t t':TA}(h:PA X e t)(i:∀σ H Q,t' σ H Q->t σ H Q):PA X e t':=λpos pins s σ H Q I q=>h pos pins s σ H Q I (i σ H Q q)
theorem RE.of{e:E}{δ:Env}{σ:St}{H:Hp}{Q:VK}{α:Type}{f:D->R α}{W:R α->Hp->Prop}(ok:Sok B σ H δ)
  (hx:∀c H,W (.exc c) H->XX c H) (hb:∀H,W .bad H->False) (h:W ((ev C e δ).bind f) H)
  (go:∀d v H1,Same H H1->Den B H1 d v->W (f d) H->Q v H1):RE B C XX e σ H Q:=by
 refine⟨δ,ok,?_⟩;cases q:ev C e δ with
 |ok d =>
  rw[q]at h;exact λv H1 s1 d1=>go d v H1 s1 d1 h
 |exc c =>
  rw[q]at h;exact hx c H h
 |bad =>
  rw[q]at h;exact(hb H h).elim
theorem RT.of{e:E}{δ:Env}{σ:St}{H:Hp}{Q:Bool->Hp->Prop}{α:Type}{f:Bool->R α}{W:R α->Hp->Prop}(ok:Sok B σ H δ)
  (hx:∀c H,W (.exc c) H->XX c H) (hb:∀H,W .bad H->False) (h:W ((evT C e δ).bind f) H)
  (go:∀b H1,Same H H1->W (f b) H->Q b H1):RT B C XX e σ H Q:=by
 refine⟨δ,ok,?_⟩;cases q:evT C e δ with
 |ok d =>
  rw[q]at h;exact λH1 s1=>go d H1 s1 h
 |exc c =>
  rw[q]at h;exact hx c H h
 |bad =>
  rw[q]at h;exact(hb H h).elim
theorem RA.of{e:E}{δ:Env}{σ:St}{H:Hp}{Q:List V->Hp->Prop}{α:Type}{f:List D->R α}{W:R α->Hp->Prop}(ok:Sok B σ H δ)
  (hx:∀c H,W (.exc c) H->XX c H) (hb:∀H,W .bad H->False) (h:W ((evA C e δ).bind f) H)
  (go:∀ds vs H1,Same H H1->DenL B H1 ds vs->W (f ds) H->Q vs H1):RA B C XX e σ H Q:=by
 refine⟨δ,ok,?_⟩;cases q:evA C e δ with
 |ok d =>
  rw[q]at h;exact λv H1 s1 d1=>go d v H1 s1 d1 h
 |exc c =>
  rw[q]at h;exact hx c H h
 |bad =>
  rw[q]at h;exact(hb H h).elim
theorem KE.mono(g:Gk X B C CX XX G){r:R D}{H H':Hp}{Q:VK}(s:Same H H')(h:KE B XX r H Q):KE B XX r H' Q:=by
 cases r with
 |ok d=>exact λv H2 s2 d2=>h v H2 (s.trans s2) d2
 |exc c=>exact g.anti c H H' s h
 |bad=>exact h
theorem KB.mono(g:Gk X B C CX XX G){r:R Bool}{H H':Hp}{Q:Bool->Hp->Prop}(s:Same H H')(h:KB XX r H Q):KB XX r H' Q:=by
 cases r with
 |ok d=>exact λH2 s2=>h H2 (s.trans s2)
 |exc c=>exact g.anti c H H' s h
 |bad=>exact h
theorem KL.mono(g:Gk X B C CX XX G){r:R (List D)}{H H':Hp}{Q:List V->Hp->Prop}(s:Same H H')(h:KL B XX r H Q):KL B XX r H' Q:=by
 cases r with
 |ok d=>exact λv H2 s2 d2=>h v H2 (s.trans s2) d2
 |exc c=>exact g.anti c H H' s h
 |bad=>exact h
theorem KE.ok{d:D}{v:V}{H:Hp}{Q:VK}(h:KE B XX (.ok d) H Q)(q:Den B H d v):Q v H:=h v H (Same.refl H) q
theorem two(g:Gk X B C CX XX G){a b:E}{σ:St}{H:Hp}{Q:VK}{f:D->D->R D}{r:R2}
  (hr:∀x y H dx dy,Den B H dx x->Den B H dy y->KE B XX (f dx dy) H Q->r x y H Q) :
  (∃δ,Sok B σ H δ/\KE B XX ((ev C a δ).bind λx=>(ev C b δ).bind λy=>f x y) H Q)->tOp r (RE B C XX a) (RE B C XX b) σ H Q:=by
 rintro⟨δ,ok,h⟩;refine RE.of (W:=λr H=>KE B XX r H Q) ok (λ_ _ z=>z) (λ_ z=>z) h λdx x H1 s1 d1 h1=>?_;refine RE.of (W:=λr H=>KE B XX r H Q) (ok.mono s1) (λ_ _ z=>z) (λ_ z=>z) (KE.mono g s1 h1) λdy y H2 s2 d2 h2=>?_;exact hr x y H2 dx dy (Den.mono s2 dx x d1) d2 (KE.mono g s2 h2)
theorem DenL.repN(h:DenL B H ds vs):∀k:Nat,DenL B H (List.replicate k ds).flatten (List.replicate k vs).flatten
 |0=>by simp only[List.replicate_zero,List.flatten_nil,DenL]
 |k+1=>by
  simp only[List.replicate_succ,List.flatten_cons];exact DenL.append _ _ _ _ h (DenL.repN h k)
theorem binOk(g:Gk X B C CX XX G)(op:Operator):OpR X (binaryOp op) (λx y H Q=>∃dx dy,Den B H dx x/\Den B H dy y/\KE B XX (binD op dx dy) H Q):=by
 intro pins s σ H x y v u Q I rx ry ⟨dx,dy,hx,hy,k⟩;cases dx<;>cases dy<;>first
  |(exfalso;cases op<;>exact k)
  |skip
 case list.list xs ys =>
  cases op<;>first
   |exact fF k
   |skip
  simp only[binD]at k
  split at k
  ·rename_i hz;simp only[Den]at hx hy;obtain⟨a,us,e1,q1,l1⟩:=hx;obtain⟨c,ws,e2,q2,l2⟩:=hy;subst e1;subst e2;have n1:=DenL.len _ _ l1;have n2:=DenL.len _ _ l2;refine JMV pins s σ H _ _ v u Q I rx ry ⟨a,c,us,ws,rfl,rfl,g.K▸q1,g.K▸q2,by rw[sizeLine_eq];omega,λp hp=>?_⟩
   have sm:Same H (upd H p (.lst (us++ws))):=λb o e=>by rw[JAK (JAZ e hp)];exact e
   refine k _ _ sm ?_;simp only[Den];exact⟨p,_,rfl,SqL.of JAI,DenL.append _ _ _ _ (DenL.mono sm _ _ l1) (DenL.mono sm _ _ l2)⟩
  ·exact k.elim
 case list.int xs j =>
  cases op<;>first
   |exact fF k
   |skip
  simp only[binD]at k
  split at k
  ·rename_i hz;simp only[Den]at hx hy;obtain⟨a,us,e1,q1,l1⟩:=hx;subst e1;subst hy;have n1:=DenL.len _ _ l1;refine JLw pins s σ H _ _ v u Q I rx ry ⟨a,j,us,rfl,rfl,g.K▸q1,by omega,by omega,by rw[sizeLine_eq,<-n1];exact hz.2.2,λp hp=>?_⟩
   have sm:Same H (upd H p (.lst (List.replicate j.toNat us).flatten)):=λb o e=>by rw[JAK (JAZ e hp)];exact e
   refine k _ _ sm ?_;simp only[Den];exact⟨p,_,rfl,SqL.of JAI,DenL.repN (DenL.mono sm _ _ l1) _⟩
  ·exact k.elim
 case tuple.int xs j =>
  cases op<;>first
   |exact fF k
   |skip
  simp only[binD]at k
  split at k
  ·rename_i hz;simp only[Den]at hx hy;obtain⟨a,us,e1,q1,l1⟩:=hx;subst e1;subst hy;have n1:=DenL.len _ _ l1;refine JM3 pins s σ H _ _ v u Q I rx ry ⟨a,j,us,rfl,rfl,g.K▸q1,hz.1,hz.2.1,by omega,λz=>hz.2.2.2 (by rw[z]at n1;exact q_B.mp n1),λp hp=>?_⟩
   have sm:Same H (upd H p (.tup (List.replicate j.toNat us).flatten)):=λb o e=>by rw[JAK (JAZ e hp)];exact e
   refine k _ _ sm ?_;simp only[Den];exact⟨p,_,rfl,SqT.of JAI,DenL.repN (DenL.mono sm _ _ l1) _⟩
  ·exact k.elim
 case tuple.tuple xs ys =>
  cases op<;>first
   |exact fF k
   |skip
  simp only[binD]at k
  split at k
  ·rename_i hz;simp only[Den]at hx hy;obtain⟨a,us,e1,q1,l1⟩:=hx;obtain⟨c,ws,e2,q2,l2⟩:=hy;subst e1;subst e2;have n1:=DenL.len _ _ l1;have n2:=DenL.len _ _ l2;refine JJp pins s σ H _ _ v u Q I rx ry ⟨a,c,us,ws,rfl,rfl,g.K▸q1,g.K▸q2,by rw[sizeLine_eq];omega,λh=>?_,λh h2=>?_,λh h2 p hp=>?_⟩
   · have:xs=[]:=by rw[h]at n1;exact List.eq_nil_of_length_eq_zero n1
     subst this;refine k _ _ (Same.refl H) ?_;simp only[Den,List.nil_append];exact⟨c,ws,rfl,q2,l2⟩
   · have:ys=[]:=by rw[h2]at n2;exact List.eq_nil_of_length_eq_zero n2
     subst this;refine k _ _ (Same.refl H) ?_;simp only[Den,List.append_nil];exact⟨a,us,rfl,q1,l1⟩
   · have sm:Same H (upd H p (.tup (us++ws))):=λb o e=>by rw[JAK (JAZ e hp)];exact e
     refine k _ _ sm ?_;simp only[Den];exact⟨p,_,rfl,SqT.of JAI,DenL.append _ _ _ _ (DenL.mono sm _ _ l1) (DenL.mono sm _ _ l2)⟩
  ·exact k.elim
 rename_i i j;simp only[Den]at hx hy;subst hx;subst hy;cases op<;>first
  |exact fF k
  |skip
 ·exact JPU pins s σ H _ _ v u Q I rx ry ⟨i,j,rfl,rfl,KE.ok k (by simp only[Den])⟩
 ·exact JPJ pins s σ H _ _ v u Q I rx ry ⟨i,j,rfl,rfl,KE.ok k (by simp only[Den])⟩
 ·simp only[binD]at k
  split at k
  ·rename_i hm;obtain⟨t,rfl⟩:=rx;obtain⟨t',rfl⟩:=ry;exact mul_int ⟨.int _,H,I.tok _,⟨_,rfl⟩,KE.ok k (by simp only[Den])⟩ hm
  ·exact k.elim
 ·simp only[binD]at k
  split at k
  ·rename_i hm;exact JMN pins s σ H _ _ v u Q I rx ry ⟨i,j,rfl,rfl,hm,KE.ok k (by simp only[Den])⟩
  ·exact k.elim
 ·simp only[binD]at k
  split at k
  ·rename_i hm;obtain⟨t,rfl⟩:=rx;obtain⟨t',rfl⟩:=ry;exact floordiv_int hm.1 ⟨.int _,H,I.tok _,⟨_,rfl⟩,KE.ok k (by simp only[Den])⟩ (.inl hm.2)
  ·exact k.elim
theorem JHS(g:Gk X B C CX XX G):X.A.units+64<cLine:=by have:=g.units;omega
theorem JPA(g:Gk X B C CX XX G)(op:CmpOp):OpR X (compareOp op) (λx y H Q=>∃dx dy,Den B H dx x/\Den B H dy y/\KE B XX (cmpD op dx dy) H Q):=by
 intro pins s σ H x y v u Q I rx ry ⟨dx,dy,hx,hy,k⟩;cases op with
 |Eq =>
  simp only[cmpD]at k
  split at k
  ·rename_i hs;simp only[q_i]at hs;have c1:dx.canLay0=true:=(Bool.and_eq_true_iff.mp hs.1).1;have c2:dy.canLay0=true:=(Bool.and_eq_true_iff.mp hs.2).1;obtain⟨as,ra⟩:=Den.reads g.K I dx x v c1 hx rx;obtain⟨bs,rb⟩:=Den.reads g.K I dy y u c2 hy ry;exact SeqAt.compareEq_shaped ra rb hs.1 hs.2 (JHS g) ⟨.bl _,H,I,rfl,KE.ok k (by simp only[Den])⟩
  ·exact k.elim
 |NotEq =>
  simp only[cmpD]at k
  split at k
  ·rename_i hs;simp only[q_i]at hs;have c1:dx.canLay0=true:=(Bool.and_eq_true_iff.mp hs.1).1;have c2:dy.canLay0=true:=(Bool.and_eq_true_iff.mp hs.2).1;obtain⟨as,ra⟩:=Den.reads g.K I dx x v c1 hx rx;obtain⟨bs,rb⟩:=Den.reads g.K I dy y u c2 hy ry;exact SeqAt.compareNe_shaped ra rb hs.1 hs.2 (JHS g) ⟨.bl _,H,I,rfl,KE.ok k (by simp only[Den])⟩
  ·exact k.elim
 |Lt =>
  cases dx<;>cases dy<;>first|exact fF k|skip
  rename_i i j;simp only[Den]at hx hy;subst hx;subst hy;exact op_lt pins s σ H _ _ v u Q I rx ry ⟨i,j,rfl,rfl,KE.ok k (by simp only[Den])⟩
 |LtE =>
  cases dx<;>cases dy<;>first|exact fF k|skip
  rename_i i j;simp only[Den]at hx hy;subst hx;subst hy;exact op_le pins s σ H _ _ v u Q I rx ry ⟨i,j,rfl,rfl,KE.ok k (by simp only[Den])⟩
 |Gt =>
  cases dx<;>cases dy<;>first|exact fF k|skip
  rename_i i j;simp only[Den]at hx hy;subst hx;subst hy;exact op_gt pins s σ H _ _ v u Q I rx ry ⟨i,j,rfl,rfl,KE.ok k (by simp only[Den])⟩
 |GtE =>
  cases dx<;>cases dy<;>first|exact fF k|skip
  rename_i i j;simp only[Den]at hx hy;subst hx;subst hy;exact op_ge pins s σ H _ _ v u Q I rx ry ⟨i,j,rfl,rfl,KE.ok k (by simp only[Den])⟩
 |Is=>exact fF k
 |IsNot=>exact fF k
 |In =>
  cases dy with
  |list ds =>
   simp only[cmpD]at k
   split at k
   ·rename_i hs;simp only[JBt,q_i,q_D]at hs;obtain⟨as,ra⟩:=Den.reads g.K I dx x v hs.1.2 hx rx;obtain⟨bs,rb⟩:=Den.reads g.K I (.list ds) y u (by simpa only[PyData.canLay0] using hs.1.1) hy ry
    have hu:=g.units;refine SeqAt.in_list_reads rb ra hs.1.1 hs.1.2 ?_ ⟨.bl _,H,I,rfl,KE.ok k (by simp only[Den])⟩
    have:=Nat.min_le_right (PyData.depthAll ds) dx.depth;omega
   ·exact k.elim
  |tuple ds =>
   simp only[cmpD]at k
   split at k
   ·rename_i hs;simp only[JBt,q_i,q_D]at hs;obtain⟨as,ra⟩:=Den.reads g.K I dx x v hs.1.2 hx rx;obtain⟨bs,rb⟩:=Den.reads g.K I (.tuple ds) y u (by simpa only[PyData.canLay0] using hs.1.1) hy ry
    have hu:=g.units;refine SeqAt.in_tuple_reads rb ra hs.1.1 hs.1.2 ?_ ⟨.bl _,H,I,rfl,KE.ok k (by simp only[Den])⟩
    have:=Nat.min_le_right (PyData.depthAll ds) dx.depth;omega
   ·exact k.elim
  |_=>exact fF k
 |NotIn =>
  cases dy with
  |list ds =>
   simp only[cmpD]at k
   split at k
   ·rename_i hs;simp only[JBt,q_i,q_D]at hs;obtain⟨as,ra⟩:=Den.reads g.K I dx x v hs.1.2 hx rx;obtain⟨bs,rb⟩:=Den.reads g.K I (.list ds) y u (by simpa only[PyData.canLay0] using hs.1.1) hy ry
    have hu:=g.units;refine SeqAt.notIn_list_reads rb ra hs.1.1 hs.1.2 ?_ ⟨.bl _,H,I,rfl,KE.ok k (by simp only[Den])⟩
    have:=Nat.min_le_right (PyData.depthAll ds) dx.depth;omega
   ·exact k.elim
  |tuple ds =>
   simp only[cmpD]at k
   split at k
   ·rename_i hs;simp only[JBt,q_i,q_D]at hs;obtain⟨as,ra⟩:=Den.reads g.K I dx x v hs.1.2 hx rx;obtain⟨bs,rb⟩:=Den.reads g.K I (.tuple ds) y u (by simpa only[PyData.canLay0] using hs.1.1) hy ry
    have hu:=g.units;refine SeqAt.notIn_tuple_reads rb ra hs.1.1 hs.1.2 ?_ ⟨.bl _,H,I,rfl,KE.ok k (by simp only[Den])⟩
    have:=Nat.min_le_right (PyData.depthAll ds) dx.depth;omega
   ·exact k.elim
  |_=>exact fF k
end
def NewT(B:Bs)(H H2 H3:Hp)(d:D)(x:V):Prop:=∃p xs es,H2 p=none/\H3=upd H2 p (.tup xs)/\x=.ref p/\d=.tuple es/\DenL B H es xs
def ItOk(B:Bs)(J:It)(H:Hp)(ds:List D):Prop:=∀H2,Same H H2->∀i:Nat,
 (∀d,ds[i]? = some d->J.go i H2/\∀x H3,J.yld i H2 x H3->(H3=H2/\Den B H d x)\/NewT B H H2 H3 d x)/\(ds.length<=i->J.stop i H2)
def KI(B:Bs)(XX:Nat->Hp->Prop)(r:R (List D))(H:Hp)(Q:It->Hp->Prop):Prop:=match r with
 |.ok ds=>∀J H',Same H H'->ItOk B J H' ds->Q J H'
 |.exc c=>XX c H
 |.bad=>False
def RI(B:Bs)(C:Cn)(XX:Nat->Hp->Prop)(e:E):TI:=λσ H Q=>∃δ,Sok B σ H δ/\KI B XX (evI C e δ) H Q
theorem JJn{i c:Nat}:look δ i≠.exc c:=by
 unfold look;cases δ[i]? with
 |none=>intro h;cases h
 |some s=>cases s with
  |own d=>cases d<;>(intro h;cases h)
  |_=>intro h;cases h
theorem JCc:∀ {N:List Str}{x:Str}{i:Nat},idxOf x N=some i->N[i]? = some x
 | [],x,i,h=>by simp[idxOf]at h
 |y::r,x,i,h=>by
  unfold idxOf at h
  split at h
  ·rename_i hy;cases h;have:x=y:=eq_of_beq hy;subst this;rfl
  ·cases q:idxOf x r with
   |none=>rw[q]at h;cases h
   |some j =>
    rw[q]at h;simp only[Option.map_some,q_j]at h;subst h;simpa using JCc q
theorem JBC{p:Addr}(h:H p=none):Same H (upd H p o):=λb u e=>by rw[JAK (JAZ e h)];exact e
theorem JAX{n:Nat}{it:Bool}(h:JAN G n it names N e=some x)(es:List Expr)(env:PySem.Env) :
  starEach (e::es) env=(false,eval e env)::starEach es env:=by
 cases n with
 |zero=>simp[JAN,JAY,JAL]at h
 |succ n=>cases e<;>first|rfl|(cases it<;>simp[JAN,JAY,JAL,xOf,dOf,dRaw,Option.bind_none,ite_self,xRaw]at h)
theorem JBX{n:Nat}{it:Bool}:∀ {es:List Expr}{x:E},JAG (JAN G n it names N) es=some x ->
  (backTo pos (starEach es env)).any (·.1)=false
 | [],_,_=>rfl
 |e::es,x,h=>by
  unfold JAG at h;cases h1:JAN G n it names N e with
  |none=>rw[h1]at h;cases h
  |some a =>
    rw[h1]at h;cases h2:JAG (JAN G n it names N) es with
    |none=>simp[h2]at h
    |some b =>
     rw[JAX h1 es env];show(false || (backTo pos (starEach es env)).any (·.1))=false
     rw[JBX h2];rfl
theorem JMQ(h:isSlice b=false):JIW b:=by
 intro o i;cases b<;>first|rfl|cases h
theorem JAJ{x:Str}(h:JAU x=false):(x==("__debug__":Str))=false/\(x==("__classdict__":Str))=false/\x≠"__name__":=by
 unfold JAU at h;simp only[Bool.or_eq_false_iff]at h;exact⟨h.1.1,h.1.2,λe=>by have:=h.2;rw[e]at this;simp at this⟩
noncomputable def cnt:E->Nat
 |.cons _ r=>cnt r+1
 |_=>0
theorem JB5:∀(e:E) (δ:Env) (ds:List D),evA C e δ=.ok ds->ds.length=cnt e
 |.nil,δ,ds,h=>by simp only[evA]at h;cases h;rfl
 |.cons a r,δ,ds,h=>by
  simp only[evA]at h;cases q:ev C a δ with
  |ok d =>
   cases q2:evA C r δ with
   |ok es =>
    rw[q,q2]at h;cases h;simp only[List.length_cons,cnt,JB5 r δ es q2]
   |exc c=>rw[q,q2]at h;cases h
   |bad=>rw[q,q2]at h;cases h
  |exc c=>rw[q]at h;cases h
  |bad=>rw[q]at h;cases h
 |.var _,_,_,h|.cint _,_,_,h|.cbl _,_,_,h|.cnon,_,_,h|.cstr _,_,_,h|.glo _,_,_,h|.bin _ _ _,_,_,h|.neg _,_,_,h|.not _,_,_,h|.and _ _,_,_,h|.or _ _,_,_,h|.cmp _ _ _,_,_,h
 |.isN _ _,_,_,h|.isB _ _,_,_,h|.ife _ _ _,_,_,h|.tup _,_,_,h|.lst _,_,_,h|.idx _ _,_,_,h|.call _ _,_,_,h|.blt _ _,_,_,h|.rng _,_,_,h|.isi _ _,_,_,h|.mcount _ _,_,_,h|.mindex _ _,_,_,h|.mget _ _ _,_,_,h|.cmpr _ _ _ _,_,_,h=>by simp only[evA]at h;cases h
theorem JAW:∀ {es:List Expr}{x:E},JAG f es=some x->cnt x=es.length
 | [],x,h=>by unfold JAG at h;cases h;rfl
 |e::es,x,h=>by
  unfold JAG at h;cases h1:f e with
  |none=>rw[h1]at h;cases h
  |some a =>
   cases h2:JAG f es with
   |none=>simp[h1,h2]at h
   |some b =>
    simp only[h1,h2,Option.bind_some,q_j]at h;subst h;simp only[cnt,List.length_cons,JAW h2]
section
variable{X:Cx}{B:Bs}{C:Cn}{CX:CXT}{XX:Nat->Hp->Prop}{G:List (Str×GK)}{a b c:Expr}{x y z:E}{pos:Pos}
theorem s_bad(h:∀δ,ev C x δ=.bad):PE X e (RE B C XX x):=λ_ _ _ _ _ _ ⟨δ,_,k⟩=>by rw[h δ]at k;exact k.elim
theorem t_bad(h:∀δ,evT C x δ=.bad):PT X e (RT B C XX x):=λ_ _ _ _ _ _ ⟨δ,_,k⟩=>by rw[h δ]at k;exact k.elim
theorem s_var{i:Nat}(hN:X.N[i]? = some nm)(hv:Vis X.env.scope nm)(hb:JAU nm=false):PE X (.Name nm pos) (RE B C XX (.var i)) :=
 PE.imp (JKH hN hv (JAJ hb).1 (JAJ hb).2.1) λσ H Q ⟨δ,ok,k⟩=>by
  simp only[ev]at k;cases q:look δ i with
  |ok d =>
   obtain⟨v,e,dn⟩:=ok i d q;rw[q]at k;exact⟨v,e,KE.ok k dn⟩
  |exc c=>exact(JJn q).elim
  |bad=>rw[q]at k;exact k.elim
theorem s_int{i:Int}{j:Nat}:PE X (.Constant (.int i) j pos) (RE B C XX (.cint i)):=PE.imp JEa λσ H Q ⟨δ,ok,k⟩=>KE.ok k (by simp only[Den])
theorem s_bl{i:Bool}{j:Nat}:PE X (.Constant (.bool i) j pos) (RE B C XX (.cbl i)):=PE.imp JHp λσ H Q ⟨δ,ok,k⟩=>KE.ok k (by simp only[Den])
theorem s_non{j:Nat}:PE X (.Constant .none j pos) (RE B C XX .cnon):=PE.imp JQj λσ H Q ⟨δ,ok,k⟩=>KE.ok k (by simp only[Den])
theorem s_str{j:Nat}:PE X (.Constant (.str i) j pos) (RE B C XX (.cstr i)):=PE.imp JQa λσ H Q ⟨δ,ok,k⟩=>KE.ok k (by simp only[Den])
theorem s_glo(g:Gk X B C CX XX G){i:Nat}(hg:Gl X nm)(hl:G.lookup nm=some (.con i))(hb:JAU nm=false):PE X (.Name nm pos) (RE B C XX (.glo i)):=by
 cases q:C.glo i with
 |ok d =>
  obtain⟨u,v,hm,r,dn⟩:=g.con nm i d hl q;exact PE.imp (JIr hg hm r (JAJ hb).1) λσ H Q ⟨δ,ok,k⟩=>by
   simp only[ev]at k;rw[q]at k;exact KE.ok k (dn H)
 |exc c=>exact(g.noexg i c q).elim
 |bad=>exact s_bad λδ=>by simp only[ev];exact q
theorem JO7(g:Gk X B C CX XX G)(ha:PE X a (RE B C XX x))(hb:PE X b (RE B C XX y)):PE X (.BinOp a op b pos) (RE B C XX (.bin op x y)) :=
 PE.imp (JPK (binOk g op) ha hb) λσ H Q ⟨δ,ok,k⟩=>two g (f:=binD op) (λx y H dx dy h1 h2 k=>⟨dx,dy,h1,h2,k⟩) ⟨δ,ok,by simpa only[ev] using k⟩
theorem s_cmp(g:Gk X B C CX XX G)(ha:PE X a (RE B C XX x))(hb:PE X b (RE B C XX y))(hm:behindInMarks op b=false):PE X (.Compare a [op] [b] pos) (RE B C XX (.cmp op x y)) :=
 PE.imp (JEx (JPA g op) ha hb hm) λσ H Q ⟨δ,ok,k⟩=>two g (f:=cmpD op) (λx y H dx dy h1 h2 k=>⟨dx,dy,h1,h2,k⟩) ⟨δ,ok,by simpa only[ev] using k⟩
theorem s_neg(g:Gk X B C CX XX G)(ha:PE X a (RE B C XX x)):PE X (.UnaryOp .USub a pos) (RE B C XX (.neg x)) :=
 PE.imp (JP4 JK6 ha) λσ H Q ⟨δ,ok,k⟩=>by
  simp only[ev]at k;refine RE.of (W:=λr H=>KE B XX r H Q) ok (λ_ _ z=>z) (λ_ z=>z) k λd v H1 s1 d1 h1=>?_;have h2:=KE.mono g s1 h1;cases d<;>first|exact fF h2|skip
  rename_i i;simp only[Den]at d1;exact⟨i,d1,KE.ok h2 (by simp only[Den])⟩
theorem truV{K:Kq}(hK:K=B.K){d:D}{v:V}{H:Hp}{k:Bool}(h:Den B H d v)(t:truth d=.ok k):TruV K v H k:=by
 subst hK;cases d with
 |none=>simp only[Den]at h;subst h;simp only[truth]at t;cases t;rfl
 |bool b=>simp only[Den]at h;subst h;simp only[truth]at t;cases t;rfl
 |int i=>simp only[Den]at h;subst h;simp only[truth]at t;cases t;rfl
 |str s =>
  simp only[Den]at h;subst h;simp only[truth]at t
  split at t
  ·rename_i hl;cases t;exact⟨by rw[sizeLine_eq];exact hl,rfl⟩
  ·cases t
 |list ds =>
  simp only[Den]at h;obtain⟨p,xs,e,q,l⟩:=h;subst e;simp only[truth]at t;cases t;refine .inl ⟨xs,q,?_⟩;have:=DenL.len ds xs l;cases ds<;>cases xs<;>simp_all
 |tuple ds =>
  simp only[Den]at h;obtain⟨p,xs,e,q,l⟩:=h;subst e;simp only[truth]at t;cases t;refine .inr (.inl ⟨xs,q,?_⟩);have:=DenL.len ds xs l;cases ds<;>cases xs<;>simp_all
 |dict kvs=>simp only[truth]at t;cases t
theorem JEf{c:Nat}:truth d≠.exc c:=by
 cases d<;>simp only[truth]<;>(try split)<;>(intro h;cases h)
theorem s_not(g:Gk X B C CX XX G)(ha:PE X a (RE B C XX x)):PE X (.UnaryOp .Not a pos) (RE B C XX (.not x)):=by
 intro pins s σ H Q I ⟨δ,ok,k⟩;refine UnaryOp_ (thn (ha pins s σ H (λv H1=>∃t,TruV X.K v H1 t/\Q (.bl (!t)) H1) I ?_) λv s1 ⟨w,H1,I1,r1,t,tv,q⟩=>?_)
 ·refine⟨δ,ok,?_⟩;simp only[ev]at k;cases q:ev C x δ with
  |ok d =>
   rw[q]at k;cases q2:truth d with
   |ok t =>
    simp only[R.bind,q2]at k;exact λv H1 s1 d1=>⟨t,truV g.K d1 q2,k _ H1 s1 (by simp only[Den])⟩
   |exc c=>exact(JEf q2).elim
   |bad=>simp only[R.bind,q2]at k;exact k.elim
  |exc c=>rw[q]at k;exact k
  |bad=>rw[q]at k;exact k.elim
 ·exact not_of (thn (JKy pins s1 σ H1 w v (λb H=>b=t/\H=H1) I1 r1 ⟨t,tv,rfl,rfl⟩) λb s2 ⟨H2,I2,e1,e2⟩=>by subst e1;subst e2;exact⟨.bl (!b),H2,I2,rfl,q⟩)
theorem s_and(g:Gk X B C CX XX G){rest:List Expr}(ha:PE X a (RE B C XX x))(hb:PE X (.BoolOp .And (b::rest) pos) (RE B C XX y)):PE X (.BoolOp .And (a::b::rest) pos) (RE B C XX (.and x y)) :=
 PE.imp (JQh ha hb) λσ H Q ⟨δ,ok,k⟩=>by
  simp only[ev]at k;refine RE.of (W:=λr H=>KE B XX r H Q) ok (λ_ _ z=>z) (λ_ z=>z) k λd v H1 s1 d1 h1=>?_;cases d<;>first|exact fF h1|skip
  rename_i t;simp only[Den]at d1;refine⟨t,d1,?_⟩;cases t with
  |true=>exact iteT ⟨δ,ok.mono s1,KE.mono g s1 h1⟩
  |false=>exact iteF (KE.ok (KE.mono g s1 h1) (by simp only[Den]))
theorem s_or(g:Gk X B C CX XX G){rest:List Expr}(ha:PE X a (RE B C XX x))(hb:PE X (.BoolOp .Or (b::rest) pos) (RE B C XX y)):PE X (.BoolOp .Or (a::b::rest) pos) (RE B C XX (.or x y)) :=
 PE.imp (pe_or ha hb) λσ H Q ⟨δ,ok,k⟩=>by
  simp only[ev]at k;refine RE.of (W:=λr H=>KE B XX r H Q) ok (λ_ _ z=>z) (λ_ z=>z) k λd v H1 s1 d1 h1=>?_;cases d<;>first|exact fF h1|skip
  rename_i t;simp only[Den]at d1;refine⟨t,d1,?_⟩;cases t with
  |true=>exact iteT (KE.ok (KE.mono g s1 h1) (by simp only[Den]))
  |false=>exact iteF ⟨δ,ok.mono s1,KE.mono g s1 h1⟩
theorem JCX(h:Den B H d v):decide (v=.non)=isNone d:=by
 cases d with
 |none=>simp only[Den]at h;subst h;rfl
 |bool _=>simp only[Den]at h;subst h;rfl
 |int _=>simp only[Den]at h;subst h;rfl
 |str _=>simp only[Den]at h;subst h;rfl
 |list _=>simp only[Den]at h;obtain⟨p,xs,e,_⟩:=h;subst e;rfl
 |tuple _=>simp only[Den]at h;obtain⟨p,xs,e,_⟩:=h;subst e;rfl
 |dict _ =>
  simp only[Den]at h;rcases h with ⟨p,xs,e,_⟩|⟨p,xs,e,_⟩
  ·subst e;rfl
  ·subst e;rfl
theorem s_isN(g:Gk X B C CX XX G){j:Nat}(ha:PE X a (RE B C XX x)):PE X (.Compare a [.Is] [.Constant .none j pos'] pos) (RE B C XX (.isN x false)) :=
 PE.imp (JLN (JK4 ha)) λσ H Q ⟨δ,ok,k⟩=>by
  simp only[ev]at k;refine RE.of (W:=λr H=>KE B XX r H Q) ok (λ_ _ z=>z) (λ_ z=>z) k λd v H1 s1 d1 h1=>?_;rw[JCX d1];exact KE.ok (KE.mono g s1 h1) (by simp[Den])
theorem JMv(g:Gk X B C CX XX G){j:Nat}(ha:PE X a (RE B C XX x)):PE X (.Compare a [.IsNot] [.Constant .none j pos'] pos) (RE B C XX (.isN x true)) :=
 PE.imp (JLN (JIJ ha)) λσ H Q ⟨δ,ok,k⟩=>by
  simp only[ev]at k;refine RE.of (W:=λr H=>KE B XX r H Q) ok (λ_ _ z=>z) (λ_ z=>z) k λd v H1 s1 d1 h1=>?_;rw[JCX d1];exact KE.ok (KE.mono g s1 h1) (by simp[Den])
theorem JLX:OpR X (compareOp .Is) (λv u H Q=>∃c d,v=.bl c/\u=.bl d/\Q (.bl (c==d)) H):=by
 intro pins s σ H v u w t Q I rx ry ⟨c,d,e1,e2,q⟩;subst e1;subst e2;cases rx;cases ry;exact is_bool ⟨.bl _,H,I,rfl,q⟩
theorem s_isB(g:Gk X B C CX XX G){j:Nat}{k:Bool}(ha:PE X a (RE B C XX x)):PE X (.Compare a [.Is] [.Constant (.bool k) j pos'] pos) (RE B C XX (.isB x k)) :=
 PE.imp (JEx JLX ha JHp rfl) λσ H Q ⟨δ,ok,kk⟩=>by
  simp only[ev]at kk;refine RE.of (W:=λr H=>KE B XX r H Q) ok (λ_ _ z=>z) (λ_ z=>z) kk λd v H1 s1 d1 h1=>?_;cases d<;>first|exact fF h1|skip
  rename_i t;simp only[Den]at d1;exact⟨t,k,d1,rfl,KE.ok (KE.mono g s1 h1) (by simp only[Den])⟩
theorem s_ife(g:Gk X B C CX XX G)(hc:PT X c (RT B C XX z))(ha:PE X a (RE B C XX x))(hb:PE X b (RE B C XX y)):PE X (.IfExp c a b pos) (RE B C XX (.ife z x y)) :=
 PE.imp (JJI hc ha hb) λσ H Q ⟨δ,ok,k⟩=>by
  simp only[ev]at k;refine RT.of (W:=λr H=>KE B XX r H Q) ok (λ_ _ z=>z) (λ_ z=>z) k λt H1 s1 h1=>?_;cases t with
  |true=>exact iteT ⟨δ,ok.mono s1,KE.mono g s1 h1⟩
  |false=>exact iteF ⟨δ,ok.mono s1,KE.mono g s1 h1⟩
theorem a_nil:PA X [] (RA B C XX .nil):=PA.imp JEW λσ H Q ⟨δ,ok,k⟩=>k [] H (Same.refl H) (by simp only[DenL])
theorem JNg(g:Gk X B C CX XX G)(ha:PE X a (RE B C XX x))(hr:PA X es (RA B C XX y))(hs:starEach (a::es) X.env=(false,eval a X.env)::starEach es X.env):PA X (a::es) (RA B C XX (.cons x y)) :=
 PA.imp (JCE ha hr hs) λσ H Q ⟨δ,ok,k⟩=>by
  simp only[evA]at k;refine RE.of (W:=λr H=>KL B XX r H Q) ok (λ_ _ z=>z) (λ_ z=>z) k λd v H1 s1 d1 h1=>?_;refine RA.of (W:=λr H=>KL B XX r H Q) (ok.mono s1) (λ_ _ z=>z) (λ_ z=>z) (KL.mono g s1 h1) λds vs H2 s2 d2 h2=>?_;exact h2 (v::vs) H2 s2 (by simp only[DenL];exact⟨v,vs,rfl,Den.mono s2 d v d1,d2⟩)
theorem s_tup(g:Gk X B C CX XX G){k2:Nat}(h:PA X es (RA B C XX x))(hl:cnt x<=1000):PE X (.Tuple es k2 pos) (RE B C XX (.tup x)) :=
 PE.imp (JOE h) λσ H Q ⟨δ,ok,k⟩=>by
  simp only[ev]at k;cases q:evA C x δ with
  |ok ds =>
   rw[q]at k;refine⟨δ,ok,?_⟩;rw[q];intro vs H1 s1 d1;have e1:=DenL.len ds vs d1;have e2:=JB5 x δ ds q;refine⟨by rw[sizeLine_eq];omega,λp hp=>k _ _ (s1.trans (JBC hp)) ?_⟩
   simp only[Den];exact⟨p,vs,rfl,SqT.of JAI,DenL.mono (JBC hp) ds vs d1⟩
  |exc c=>rw[q]at k;exact⟨δ,ok,by rw[q];exact k⟩
  |bad=>rw[q]at k;exact k.elim
theorem s_lst(g:Gk X B C CX XX G)(h:PA X es (RA B C XX x))(hl:cnt x<=1000):PE X (.List es pos) (RE B C XX (.lst x)) :=
 PE.imp (JKG h) λσ H Q ⟨δ,ok,k⟩=>by
  simp only[ev]at k;cases q:evA C x δ with
  |ok ds =>
   rw[q]at k;refine⟨δ,ok,?_⟩;rw[q];intro vs H1 s1 d1;have e1:=DenL.len ds vs d1;have e2:=JB5 x δ ds q;refine⟨by rw[sizeLine_eq];omega,λp hp=>k _ _ (s1.trans (JBC hp)) ?_⟩
   simp only[Den];exact⟨p,vs,rfl,SqL.of JAI,DenL.mono (JBC hp) ds vs d1⟩
  |exc c=>rw[q]at k;exact⟨δ,ok,by rw[q];exact k⟩
  |bad=>rw[q]at k;exact k.elim
theorem JIp{H:Hp}{ds:List D}{vs:List V}{i:Int}{d:D}(h:DenL B H ds vs)(e:VI.atI ds i=some d):∃v,L2.atI vs i=some v/\Den B H d v:=by
 have hl:=DenL.len ds vs h;unfold VI.atI at e;cases q:VI.ixN ds.length i with
 |none=>rw[q]at e;cases e
 |some j =>
  rw[q]at e;obtain⟨v,e1,dn⟩:=DenL.get ds vs j d h e;refine⟨v,?_,dn⟩;unfold L2.atI;have q':L2.ixN vs.length i=some j:=by rw[<-hl];exact q
  rw[q'];exact e1
theorem SqDo.at{pins:Pq}{σ:St}{H:Hp}{s:Shared}{a:Addr}{o:Obj}{xs:List (Key×V)}(I:Inv X pins σ H s)(h:SqDo X.K X.w H a o xs):(a==sysModules)=false/\s.heap.get? a=some o/\∃vs,KV xs vs/\s.heap.DictOf (JBH X.prog X.w) a vs:=by
 rcases h with h|h
 ·obtain⟨e,_,h1,h2⟩:=I.hok a _ h;exact⟨h1,e,h2⟩
 ·exact h X.prog s.heap I.kIn
theorem SqD.at{pins:Pq}{σ:St}{H:Hp}{s:Shared}{a:Addr}{xs:List (Key×V)}(I:Inv X pins σ H s)(h:SqD X.K X.w H a xs):(a==sysModules)=false/\∃vs,KV xs vs/\s.heap.DictOf (JBH X.prog X.w) a vs:=by
 obtain⟨o,h⟩:=h;obtain⟨h1,_,h2⟩:=SqDo.at I h;exact⟨h1,h2⟩
theorem JMY{ks:List (Key×V)}{vs:List (Key×Value)}{x:Str}(h:KV ks vs):(∀v,(ks.find? λp=>p.1=Sum.inr x).map (·.2)=some v->∃u,valueAt vs (Sum.inr x:Key)=some u/\RelV v u)/\((ks.find? λp=>p.1=Sum.inr x).map (·.2)=none->valueAt vs (Sum.inr x:Key)=none):=by
 induction h with
 |nil=>exact⟨λv e=>(by simp at e),λ_=>rfl⟩
 | @cons p q ps qs hq t ih =>
  obtain⟨k,v⟩:=p;obtain⟨k',u⟩:=q;obtain⟨e1,e2⟩:=hq;simp only at e1 e2;subst e1;unfold valueAt at ih ⊢;simp only[List.find?_cons]
  by_cases hk:k=Sum.inr x
  ·simp only[hk,decide_true,Option.map_some,q_j];exact⟨λv' e=>⟨u,rfl,e▸e2⟩,λe=>by cases e⟩
  ·simp only[hk,decide_false];exact ih
theorem JLy:IxR X (λx y H Q=>∃p xs k v,x=.ref p/\y=.str k/\SqD X.K X.w H p xs/\((xs.find? λp=>p.1=Sum.inr k).map (·.2))=some v/\Q v H):=by
 intro value slice pins s σ H x y v u Q I rx ry h hs;obtain⟨p,xs,k,z,rfl,rfl,hq,he,q⟩:=h;cases rx;obtain⟨t,rfl⟩:=ry;obtain⟨hsys,vs,kv,dd⟩:=SqD.at I hq;obtain⟨u,g1,g2⟩:=(JMY kv).1 z he;exact subscriptTail_builtinR (x:=u) dd.typeIs slot_dict_getitem.lookup (wpAny_getItem_of (Q:=λr s'=>r=u/\EP X pins σ Q r s') (JC4 _ _ k t) dd.mapOf g1 ⟨rfl,z,H,I.tok _,g2,q⟩) hs
theorem JES{H:Hp}{x:Str}{d:D}:∀ {kvs:List (D×D)}{xs:List (Key×V)},DenK B H kvs xs->getK kvs x=.ok d->∃v,(xs.find? λp=>p.1=Sum.inr x).map (·.2)=some v/\Den B H d v
 | [],xs,h,e=>by cases e
 |(k,b)::r,xs,h,e=>by
  simp only[DenK]at h;obtain⟨y,v,r',rfl,rfl,h1,h2⟩:=h;simp only[getK]at e
  by_cases hk:y=x
  · rw[if_pos hk]at e
    cases e;exact⟨v,by simp[List.find?,hk],h1⟩
  · rw[if_neg hk]at e
    obtain⟨v',e1,e2⟩:=JES h2 e;have:¬((Sum.inr y:Key)=Sum.inr x):=λz=>hk (Sum.inr.inj z);exact⟨v',by simpa[List.find?,this] using e1,e2⟩
theorem JGR{x:Str}{c:Nat}:∀ {kvs:List (D×D)},getK kvs x≠.exc c
 | []=>by intro h;cases h
 |(k,b)::r=>by
  cases k<;>simp only[getK]<;>first|(intro h;cases h;done)|skip
  split
  · intro h;cases h
  · exact JGR
theorem idxOk(g:Gk X B C CX XX G):IxR X (λv u H Q=>∃dx dy,Den B H dx v/\Den B H dy u/\KE B XX (idxD dx dy) H Q):=by
 intro value slice pins s σ H v u w t Q I rx ry ⟨dx,dy,hx,hy,k⟩ hs;refine(ix_seq.or JLy) value slice pins s σ H v u w t Q I rx ry ?_ hs;cases dx with
 |list ds =>
  cases dy<;>first|exact fF k|skip
  rename_i i;simp only[Den]at hx hy;obtain⟨p,xs,e,q,l⟩:=hx;simp only[idxD]at k;cases qa:VI.atI ds i with
  |none=>rw[qa]at k;exact k.elim
  |some d =>
   rw[qa]at k;obtain⟨z,e2,dn⟩:=JIp l qa;exact .inl (.inl ⟨p,xs,i,z,e,hy,g.K▸q,e2,KE.ok k dn⟩)
 |tuple ds =>
  cases dy<;>first|exact fF k|skip
  rename_i i;simp only[Den]at hx hy;obtain⟨p,xs,e,q,l⟩:=hx;simp only[idxD]at k;cases qa:VI.atI ds i with
  |none=>rw[qa]at k;exact k.elim
  |some d =>
   rw[qa]at k;obtain⟨z,e2,dn⟩:=JIp l qa;exact .inl (.inr (.inl ⟨p,xs,i,z,e,hy,g.K▸q,e2,KE.ok k dn⟩))
 |dict kvs =>
  cases dy<;>first|exact fF k|skip
  rename_i y;simp only[Den]at hx hy;simp only[idxD]at k;rcases hx with ⟨p,c,e1,e2,_⟩|⟨p,xs,e1,e2,e3⟩
  ·subst e2;exact fF k
  ·cases qg:getK kvs y with
   |ok d =>
    rw[qg]at k;obtain⟨z,f1,f2⟩:=JES e3 qg;exact .inr ⟨p,xs,y,z,e1,hy,by rw[g.K,g.W];exact e2,f1,KE.ok k f2⟩
   |exc c=>exact(JGR qg).elim
   |bad=>rw[qg]at k;exact k.elim
 |str z =>
  cases dy<;>first|exact fF k|skip
  rename_i i;simp only[Den]at hx hy;simp only[idxD]at k
  split at k
  ·rename_i hz;cases qa:VI.atI z.cps.toList i with
   |none=>rw[qa]at k;exact k.elim
   |some c =>
    rw[qa]at k;exact .inl (.inr (.inr ⟨z,i,c,hx,hy,by rw[sizeLine_eq];exact Nat.le_trans hz (by decide),qa,k _ _ (Same.refl H) (by simp only[Den])⟩))
  ·exact k.elim
 |_=>exact fF k
theorem s_idx(g:Gk X B C CX XX G)(ha:PE X a (RE B C XX x))(hb:PE X b (RE B C XX y))(hs:isSlice b=false):PE X (.Subscript a b pos) (RE B C XX (.idx x y)) :=
 PE.imp (pe_ix (idxOk g) ha hb (JMQ hs)) λσ H Q ⟨δ,ok,k⟩=>two g (f:=idxD) (λx y H dx dy h1 h2 k=>⟨dx,dy,h1,h2,k⟩) ⟨δ,ok,by simpa only[ev] using k⟩
theorem JMq(g:Gk X B C CX XX G){n:Nat}(hn:fn ds≠.bad->ds.length=n)(dn:DenL B H ds vs)(k:KE B XX (fn ds) H Q):JCM B n fn vs H Q (EX B XX):=by
 have hb:fn ds≠.bad:=λz=>by rw[z]at k;exact k
 refine⟨by rw[<-DenL.len ds vs dn];exact hn hb,ds,dn,?_⟩
 cases q:fn ds with
 |ok d=>rw[q]at k;exact k
 |exc c=>rw[q]at k;exact λH' s'=>⟨c,rfl,g.anti c H H' s' k⟩
 |bad=>exact(hb q).elim
end
section
variable{X:Cx}{B:Bs}{C:Cn}{CX:CXT}{XX:Nat->Hp->Prop}{G:List (Str×GK)}{a b c:Expr}{x y z:E}{pos p:Pos}
theorem s_call(g:Gk X B C CX XX G){i:Nat}(hg:Gl X nm)(hl:G.lookup nm=some (.fn i))(hb:JAU nm=false)(ha:PA X (e::r) (RA B C XX x))
  (he:starEach (e::r) X.env=(false,eval e X.env)::starEach r X.env) (hpl:(backTo pos (starEach (e::r) X.env)).any (·.1)=false):PE X (.Call (.Name nm p) (e::r) [] pos) (RE B C XX (.call i x)):=by
 obtain⟨f,fd,ps,k,hm,hk,F,hr,hbi,hn⟩:=g.fn nm i hl;refine PE.imp (JNT F hr hg hm hk hbi .nil g.pas ha (JAJ hb).1 he ?_) ?_
 ·rw[he]at hpl;exact hpl
 ·rintro σ H Q ⟨δ,ok,kk⟩;simp only[ev]at kk;refine RA.of (W:=λr H=>KE B XX r H Q) ok (λ_ _ z=>z) (λ_ z=>z) kk λds vs H1 s1 d1 h1=>?_;show JCM B ps.length (C.fn i) (vs++[]) H1 Q (EX B XX);rw[List.append_nil];exact JMq g (hn ds) d1 (KE.mono g s1 h1)
theorem JHE(g:Gk X B C CX XX G):JBM X (.builtin "len") (λvs H Q=>∃ds,DenL B H ds vs/\KE B XX (bltD .len ds) H Q):=by
 intro pins s σ H vs us Q I r ⟨ds,dn,k⟩;refine JI2 pins s σ H vs us Q I r ?_
 match ds,dn,k with
 | [.list ys],dn,k =>
  simp only[DenL,Den]at dn;obtain⟨v,r',e,⟨a,xs,e1,q,l⟩,e2⟩:=dn;subst e2;subst e;subst e1;exact⟨_,xs.length,rfl,.inl ⟨xs,g.K▸q,rfl⟩,by rw[<-DenL.len ys xs l];exact KE.ok k (by simp only[Den])⟩
 | [.tuple ys],dn,k =>
  simp only[DenL,Den]at dn;obtain⟨v,r',e,⟨a,xs,e1,q,l⟩,e2⟩:=dn;subst e2;subst e;subst e1;exact⟨_,xs.length,rfl,.inr ⟨xs,g.K▸q,rfl⟩,by rw[<-DenL.len ys xs l];exact KE.ok k (by simp only[Den])⟩
 | [],_,k=>exact fF k
 | [.none],_,k=>exact fF k
 | [.bool _],_,k=>exact fF k
 | [.int _],_,k=>exact fF k
 | [.str _],_,k=>exact fF k
 | [.dict _],_,k=>exact fF k
 |d::_::_,_,k=>cases d<;>exact fF k
theorem JHK(g:Gk X B C CX XX G):JBM X (.builtin "abs") (λvs H Q=>∃ds,DenL B H ds vs/\KE B XX (bltD .abs ds) H Q):=by
 intro pins s σ H vs us Q I r ⟨ds,dn,k⟩;refine JJj pins s σ H vs us Q I r ?_
 match ds,dn,k with
 | [.int i],dn,k =>
  simp only[DenL,Den]at dn;obtain⟨v,r',e,e1,e2⟩:=dn;subst e2;subst e;subst e1;exact⟨i,rfl,KE.ok k (by simp only[Den])⟩
 | [],_,k=>exact fF k
 | [.none],_,k=>exact fF k
 | [.bool _],_,k=>exact fF k
 | [.list _],_,k=>exact fF k
 | [.tuple _],_,k=>exact fF k
 | [.str _],_,k=>exact fF k
 | [.dict _],_,k=>exact fF k
 |d::_::_,_,k=>cases d<;>exact fF k
theorem JJ2(g:Gk X B C CX XX G){bl:Blt}{id:String}{nm:Str}{e:Expr}{r:List Expr}(hc:JBM X (.builtin id) (λvs H Q=>∃ds,DenL B H ds vs/\KE B XX (bltD bl ds) H Q))(hv:bootBuiltins nm=some (.builtin id))
  (hg:Gl X nm) (hl:G.lookup nm=some (.blt bl)) (hb:JAU nm=false) (ha:PA X (e::r) (RA B C XX x))
  (he:starEach (e::r) X.env=(false,eval e X.env)::starEach r X.env) (hpl:(backTo pos (starEach (e::r) X.env)).any (·.1)=false):PE X (.Call (.Name nm p) (e::r) [] pos) (RE B C XX (.blt bl x)):=by
 refine PE.imp (JCS hc hg (g.blt nm bl hl) hv ha (JAJ hb).2.2 (JAJ hb).1 he ?_) ?_
 ·rw[he]at hpl;exact hpl
 ·rintro σ H Q ⟨δ,ok,kk⟩;simp only[ev]at kk;refine RA.of (W:=λr H=>KE B XX r H Q) ok (λ_ _ z=>z) (λ_ z=>z) kk λds vs H1 s1 d1 h1=>?_;exact⟨ds,d1,KE.mono g s1 h1⟩
theorem JM0(g:Gk X B C CX XX G)(ha:PE X a (RE B C XX x))(he:∀whole,isTrue a X.env whole=(do let v<-whole;standAt a.pos;holding [v] (truthy v)))(ht:∀δ,evT C x δ=(ev C x δ).bind truth):PT X a (RT B C XX x) :=
 PT.imp (JJZ ha he) λσ H Q ⟨δ,ok,k⟩=>by
  rw[ht]at k;refine RE.of (W:=λr H=>KB XX r H Q) ok (λ_ _ z=>z) (λ_ z=>z) k λd v H1 s1 d1 h1=>?_;cases q:truth d with
  |ok t=>rw[q]at h1;exact⟨t,truV g.K d1 q,h1 H1 s1⟩
  |exc c=>exact(JEf q).elim
  |bad=>rw[q]at h1;exact h1.elim
theorem JNn(op:CmpOp)(h:PT X (.Compare a [op] [b] pos) (JPn t))(ht:∀σ H Q,RE B C XX x σ H Q->t σ H Q)(hb:∀δ,evT C x δ=(ev C x δ).bind truth)(hbool:∀δ d,ev C x δ=.ok d->∃k,d=.bool k):PT X (.Compare a [op] [b] pos) (RT B C XX x) :=
 PT.imp h λσ H Q ⟨δ,ok,k⟩=>by
  refine ht σ H _ ⟨δ,ok,?_⟩;rw[hb]at k;cases q:ev C x δ with
  |ok d =>
   rw[q]at k;obtain⟨t',rfl⟩:=hbool δ d q;intro v H1 s1 d1;simp only[Den]at d1;exact⟨t',d1,k H1 s1⟩
  |exc c=>rw[q]at k;exact k
  |bad=>rw[q]at k;exact k.elim
theorem JJw(g:Gk X B C CX XX G)(ha:PT X a (RT B C XX x)):PT X (.UnaryOp .Not a pos) (RT B C XX (.not x)) :=
 PT.imp (JNv ha) λσ H Q ⟨δ,ok,k⟩=>by
  simp only[evT]at k;exact RT.of (W:=λr H=>KB XX r H Q) ok (λ_ _ z=>z) (λ_ z=>z) k λt H1 s1 h1=>h1 H1 s1
theorem w_and(g:Gk X B C CX XX G){rest:List Expr}(ha:PT X a (RT B C XX x))(hb:PW X (.BoolOp .And (b::rest) pos) (RT B C XX y)):PW X (.BoolOp .And (a::b::rest) pos) (RT B C XX (.and x y)) :=
 λwh pins s σ H Q I ⟨δ,ok,k⟩=>JP6 ha hb wh pins s σ H Q I (by
  simp only[evT]at k;refine RT.of (W:=λr H=>KB XX r H Q) ok (λ_ _ z=>z) (λ_ z=>z) k λt H1 s1 h1=>?_;cases t with
  |true=>exact iteT ⟨δ,ok.mono s1,KB.mono g s1 h1⟩
  |false=>exact iteF (h1 H1 s1))
theorem w_or(g:Gk X B C CX XX G){rest:List Expr}(ha:PT X a (RT B C XX x))(hb:PW X (.BoolOp .Or (b::rest) pos) (RT B C XX y)):PW X (.BoolOp .Or (a::b::rest) pos) (RT B C XX (.or x y)) :=
 λwh pins s σ H Q I ⟨δ,ok,k⟩=>pw_or ha hb wh pins s σ H Q I (by
  simp only[evT]at k;refine RT.of (W:=λr H=>KB XX r H Q) ok (λ_ _ z=>z) (λ_ z=>z) k λt H1 s1 h1=>?_;cases t with
  |true=>exact iteT (h1 H1 s1)
  |false=>exact iteF ⟨δ,ok.mono s1,KB.mono g s1 h1⟩)
end
theorem JDA{prog:Program}{w:World}{A:Around}{R:Result->Shared->Prop}{s:Shared}{elt target iter:Expr}{ifs:List Expr}{scope:Scope}{pos:Pos}{it acc:Value}{env:PySem.Env}(I:Nat->Shared->Prop)
  (turn:∀n s,I n s->wpAny (model prog w) A (pyNext it) (λr s₁=>match r with
    |none=>R (.ok .next) s₁
    |some v=>wpAny (model prog w) A (letOwnedTupleGo target it v) (λ_ s₁'=>wpAny (model prog w) A (assign target env v) (λ_ s₂ =>
     wpAny (model prog w) A (forIn ifs true λc r=>if r=true then do let ok<-isTrue c env (eval c env);pure (ForInStep.yield ok) else pure (ForInStep.yield r)) (λok s₃ =>
      if ok=true then wpAny (model prog w) A (eval elt env) (λx s₄ =>
       wpAny (model prog w) A (call (.builtin "list.append") [acc,x]) (λ_ s₅=>∃m,m<n/\I m s₅) (notedBy (model prog w) A env λe s'=>R (.error e) s') s₄) (notedBy (model prog w) A env λe s'=>R (.error e) s') s₃
      else ∃m,m<n/\I m s₃) (notedBy (model prog w) A env λe s'=>R (.error e) s') s₂) (notedBy (model prog w) A env λe s'=>R (.error e) s') s₁') (notedBy (model prog w) A env λe s'=>R (.error e) s') s₁) (notedBy (model prog w) A env λe s'=>R (.error e) s') s)
  (n:Nat) (h:I n s) :
  codeAny (model prog w) A (.compLoop (.ListComp elt [⟨target,iter,ifs,0⟩] scope pos) 0 it acc env) R s:=by
 refine codeAny_loop rfl I (λn s hI=>?_) n h;show wpAny _ A ((compTurn (.ListComp elt [⟨target,iter,ifs,0⟩] scope pos) 0 it acc env).onRaise (λx=>do noteFrame x env;theTreesLotGoes x)) _ _ s
 refine wpAny_noted ?_;rw[compTurn_list];refine q_b (wpAny_standAt (q_b (wpAny_mono (turn n s hI) (λr s₁ h₁=>?_) λ_ _ h'=>h')));cases r with
 |none=>exact q_e h₁
 |some v =>
  refine q_b (wpAny_mono h₁ (λ_ s₁' h₁'=>?_) λ_ _ h'=>h');refine q_b (wpAny_mono h₁' (λ_ s₂ h₂=>q_b (wpAny_mono h₂ (λok s₃ h₃=>?_) λ_ _ h'=>h')) λ_ _ h'=>h');cases ok with
  |false=>exact q_e ⟨rfl,h₃⟩
  |true =>
    exact q_b (q_b (wpAny_mono h₃ (λx s₄ h₄=>q_b (wpAny_mono h₄ (λ_ s₅ h₅=>q_e (q_e ⟨rfl,h₅⟩)) λ_ _ h'=>h')) λ_ _ h'=>h'))
noncomputable def JAd(X:Cx)(sc:Scope)(Cc:Addr)(N':List Str)(fp:List Addr)(s:Shared)(H:Hp):Cx where
 prog:=X.prog
 w:=X.w
 K:=X.K
 mg:=X.mg
 base:=X.base
 A:=X.A
 N:=N'
 s₀:=s
 H₀:=H
 env:=compEnvC sc (JA6 X.env.cells sc.names []) Cc X.env
 outer:=X.stack
 stack:=X.stack
 ex:=fp
 fn:=λ_=>false
 calm:=true
 pn:=[]
 xe:=λ_ _=>False
theorem JAV{X:Cx}{sc:Scope}{Cc:Addr}(hk:X.env.scope.kind=.function):(compEnvC sc (JA6 X.env.cells sc.names []) Cc X.env).scope.names=JAq X.env.scope.names sc.names:=by
 show(sc.names.map λ(x:Str×NameKind)=>match x with|(n,k)=>if (k==NameKind.free&&X.env.scope.kind==ScopeKind.function&&X.env.kindOf n==some NameKind.cell)=true then (n,NameKind.cell) else (n,k))=_
 have:(X.env.scope.kind==ScopeKind.function)=true:=by rw[hk];rfl
 simp only[this];rfl
theorem JA0:∀ {names:Nq}{x:Str},names.lookup x=some .local->(JAq outer names).lookup x=some .local
 | [],x,h=>by simp at h
 |(n,k)::r,x,h=>by
  unfold JAq;rw[List.map_cons];rw[List.lookup_cons]at h;cases q:x==n with
  |true =>
    rw[q]at h;cases h;show List.lookup x ((if (NameKind.local==NameKind.free&&true&&outer.lookup n==some NameKind.cell)=true then (n,NameKind.cell) else (n,NameKind.local))::_)=_;rw[if_neg (by simp),List.lookup_cons,q]
  |false =>
    rw[q]at h;have e:∀kk,List.lookup x ((n,kk)::JAq outer r)=List.lookup x (JAq outer r):=λkk=>by rw[List.lookup_cons,q]
    show List.lookup x ((if (k==NameKind.free&&true&&outer.lookup n==some NameKind.cell)=true then (n,NameKind.cell) else (n,k))::JAq outer r)=_
    split
    ·rw[e];exact JA0 h
    ·rw[e];exact JA0 h
theorem JBN:∀ {names:Nq}{x:Str},(∀y∈names,y.2≠.cell)->(JAq outer names).lookup x=some .cell\/(JAq outer names).lookup x=some .free->(x,NameKind.free)∈names
 | [],x,_,h=>by simp[JAq]at h
 |(n,k)::r,x,hc,h=>by
  have hc':∀y∈r,y.2≠.cell:=λy hy=>hc y (q_s _ hy);have hk:k≠.cell:=hc (n,k) List.mem_cons_self;have e0:JAq outer ((n,k)::r)=(if (k==NameKind.free&&true&&outer.lookup n==some NameKind.cell)=true then (n,NameKind.cell) else (n,k))::JAq outer r:=rfl;rw[e0]at h;cases q:x==n with
  |true =>
    have e:x=n:=eq_of_beq q;subst e
    by_cases hf:k=.free
    ·subst hf;exact List.mem_cons_self
    ·rw[if_neg (by simp[hf]),List.lookup_cons,q]at h
     rcases h with h|h
     ·exact absurd (Option.some.inj h) hk
     ·exact absurd (Option.some.inj h) hf
  |false =>
    have e:∀kk,List.lookup x ((n,kk)::JAq outer r)=List.lookup x (JAq outer r):=λkk=>by rw[List.lookup_cons,q]
    have h':List.lookup x (JAq outer r)=some .cell\/List.lookup x (JAq outer r)=some .free:=by
     split at h
     ·rw[e]at h;exact h
     ·rw[e]at h;exact h
    exact q_s _ (JBN hc' h')
section
variable{X:Cx}{B:Bs}{C:Cn}{CX:CXT}{G:List (Str×GK)}{pins:Pq}{σ:St}{H:Hp}{s:Shared}{sc:Scope}{fp:List Addr}{N':List Str}{Cc:Addr}
structure BlkOk(X:Cx)(sc:Scope)(xs:List Str):Prop where
 kind:sc.kind=.function
 nocell:∀y∈sc.names,y.2≠.cell
 loc:∀y∈sc.names,y.2=.local->sc.names.lookup y.1=some .local
 free:∀n,(n,NameKind.free)∈sc.names->X.env.kindOf n=some .cell\/X.env.kindOf n=some .free
 tg:∀x∈xs,sc.names.lookup x=some .local
 out:∀y∈X.N,y ∉ xs->sc.names.lookup y≠some .local
 dots:∀i,i<X.N.length->Vis (compEnvC sc (JA6 X.env.cells sc.names []) 0 X.env).scope (dots i)->False
 nd:(xs++mask xs 0 X.N).Nodup
theorem vis_same{Cc C':Addr}:Vis (compEnvC sc (JA6 X.env.cells sc.names []) Cc X.env).scope x↔Vis (compEnvC sc (JA6 X.env.cells sc.names []) C' X.env).scope x:=Iff.rfl
theorem BlkOk.clos(b:BlkOk X sc xs)(ok:X.Ok):closureFor sc X.env=pure (JA6 X.env.cells sc.names []) :=
 JDo λn hn=>by
  obtain⟨c,hc⟩:=ok.has n (b.free n hn);rw[hc];rfl
theorem JBJ(b:BlkOk X sc xs)(ok:X.Ok){c:Addr}:(JA6 X.env.cells sc.names []).lookup x=some c↔(x,NameKind.free)∈sc.names/\X.env.cells.lookup x=some c:=by
 rw[JBU]
 by_cases h:(x,NameKind.free)∈sc.names
 ·rw[if_pos h];obtain⟨d,hd⟩:=ok.has x (b.free x h);rw[hd];simp[h]
 ·rw[if_neg h];simp[h]
theorem JMH{xs:List Str}(b:BlkOk X sc xs)(hcalm:X.calm=true)(I:Inv X pins σ H s)(hf:∀b∈fp,FpOk X pins H b)(hlt:∀b∈fp,b<s.heap.objs.size)(hC:s.heap.objs.size<=Cc):(JAd X sc Cc N' fp s H).Ok where
 mod:=I.mod
 kind:=b.kind
 glob:=I.ok.glob
 blt:=I.ok.blt
 above:=hC
 inj:=λx y c h1 h2=>I.ok.inj x y c ((JBJ b I.ok).mp h1).2 ((JBJ b I.ok).mp h2).2
 has:=λx h=>by
  have e:=JAV (X:=X) (sc:=sc) (Cc:=Cc) I.ok.kind;have h':(JAq X.env.scope.names sc.names).lookup x=some .cell\/(JAq X.env.scope.names sc.names).lookup x=some .free:=by
   rw[<-e];exact h
  have hm:=JBN b.nocell h';obtain⟨c,hc⟩:=I.ok.has x (b.free x hm);exact⟨c,(JBJ b I.ok).mpr ⟨hm,hc⟩⟩
 cab:=λ_ _ z=>by cases z
 hd:=λ_=>I.ok.hd hcalm
 frames:=I.ok.frames
 stk:=.inl rfl
 exf:=λa ha=>⟨q_l (q_m (hlt a ha) hC),λx c e=>(hf a ha).2.2.2.2.1 x c ((JBJ b I.ok).mp e).2⟩
 bs:=I.bs
 bsz:=Nat.le_trans I.ok.bsz I.sz
 noex:=λa o e ha=>by
  rcases(hf a ha).2.2.2.1 with z|z
  ·exact I.ok.noex a o e z
  ·exact absurd (q_m (q_h e) (Nat.le_trans I.ok.bsz z)) (Nat.lt_irrefl _)
 exfs:=λa ha hm=>by
  rcases q_n.mp (I.stkSub a hm) with z|z
  ·exact(hf a ha).2.1 z
  ·exact(hf a ha).2.2.1 z
 funs:=I.stack
 frf:=I.stkFree
theorem JGP:∀(N:List Str) (i j:Nat) (y:Str),(mask xs i N)[j]? = some y->∃z,N[j]? = some z/\((z ∉ xs/\y=z)\/(z∈xs/\y=dots (i+j)))
 | [],_,_,_,h=>by simp[mask]at h
 |z::r,i,0,y,h=>by
  unfold mask at h;simp only[List.getElem?_cons_zero,q_j]at h;refine⟨z,rfl,?_⟩
  split at h
  ·rename_i hc;exact .inr ⟨by simpa using hc,h.symm⟩
  ·rename_i hc;exact .inl ⟨by simpa using hc,h.symm⟩
 |z::r,i,j+1,y,h=>by
  unfold mask at h;simp only[List.getElem?_cons_succ]at h;obtain⟨w,e,q⟩:=JGP r (i+1) j y h;refine⟨w,by simpa using e,?_⟩
  rw[show i+(j+1)=i+1+j by omega]
  exact q
theorem JGG:∀(N:List Str) (i:Nat),(mask xs i N).length=N.length
 | [],_=>rfl
 |_::r,i=>by simp only[mask,List.length_cons,JGG r]
theorem JGc{xs:List Str}(b:BlkOk X sc xs)(hcalm:X.calm=true)(I:Inv X pins σ H s)(hf:∀b∈fp,FpOk X pins H b)(hlt:∀b∈fp,b<s.heap.objs.size)(hC:s.heap.objs.size<=Cc)
  {h':Heap}{t':Nat}{m:Mq}(k:∀b o,s.heap.get? b=some o->h'.get? b=some o) (hn:h'.Ns Cc m) :
  Inv (JAd X sc Cc (xs++mask xs 0 X.N) fp s H) [] (xs.map (λ_=>none)++σ) H { s with heap:=h',toks:=t' } where
 ok:=JMH b hcalm I hf hlt hC
 os:=rfl
 bare:=I.bare
 base:=Un.kept k
 loc:=by
  refine⟨m,hn,λi y v e1 e2 e3=>?_⟩
  by_cases hi:i<xs.length
  ·rw[q_C (by simpa using hi)]at e2
   simp[hi]at e2
  ·have hi':xs.length<=i:=by omega
   rw[List.getElem?_append_right (by simpa using hi')]at e2
   simp only[q_g]at e2;have e1':(mask xs 0 X.N)[i - xs.length]? = some y:=by
    have:(xs++mask xs 0 X.N)[i]? = some y:=e1
    rwa [List.getElem?_append_right hi']at this
   obtain⟨z,ez,q⟩:=JGP X.N 0 _ y e1';rcases q with ⟨hz,rfl⟩|⟨hz,rfl⟩
   ·have e3':Vis (compEnvC sc (JA6 X.env.cells sc.names []) Cc X.env).scope y:=e3;have hfree:(y,NameKind.free)∈sc.names:=by
     have en:=JAV (X:=X) (sc:=sc) (Cc:=Cc) I.ok.kind;unfold Vis at e3';rw[en]at e3';rcases e3' with e|e|e
     ·exfalso;refine b.out y (List.mem_of_getElem? ez) hz ?_;have:∀(names:Nq),(JAq X.env.scope.names names).lookup y=some .local->names.lookup y=some .local:=by
       intro names
       induction names with
       |nil=>intro h;simp[JAq]at h
       |cons p r ih =>
        obtain⟨n,kk⟩:=p;intro h;have e0:JAq X.env.scope.names ((n,kk)::r)=(if (kk==NameKind.free&&true&&X.env.scope.names.lookup n==some NameKind.cell)=true then (n,NameKind.cell) else (n,kk))::JAq X.env.scope.names r:=rfl;rw[e0]at h;rw[List.lookup_cons]
        split at h
        ·rw[List.lookup_cons]at h;cases q:y==n with
         |true=>rw[q]at h;cases h
         |false=>rw[q]at h;exact ih h
        ·rw[List.lookup_cons]at h;cases q:y==n with
         |true=>rw[q]at h;exact h
         |false=>rw[q]at h;exact ih h
      exact this sc.names e
     ·exact JBN b.nocell (.inl e)
     ·exact JBN b.nocell (.inr e)
    have hvis:Vis X.env.scope y:=by
     rcases b.free y hfree with e|e
     ·exact .inr (.inl e)
     ·exact .inr (.inr e)
    obtain⟨mm,hmm,hl⟩:=I.loc;obtain⟨u,r,l⟩:=hl (i - xs.length) y v ez e2 hvis;refine⟨u,r,.inr ⟨?_,?_⟩⟩
    ·have en:=JAV (X:=X) (sc:=sc) (Cc:=Cc) I.ok.kind;rcases e3' with e|e|e
     ·exfalso;have e':(JAq X.env.scope.names sc.names).lookup y=some .local:=by rw[<-en];exact e
      have hh:=JBN (outer:=X.env.scope.names) (names:=sc.names) (x:=y) b.nocell;have:∀(names:Nq),(JAq X.env.scope.names names).lookup y=some .local->names.lookup y=some .local:=by
       intro names
       induction names with
       |nil=>intro h;simp[JAq]at h
       |cons p r ih =>
        obtain⟨n,kk⟩:=p;intro h;have e0:JAq X.env.scope.names ((n,kk)::r)=(if (kk==NameKind.free&&true&&X.env.scope.names.lookup n==some NameKind.cell)=true then (n,NameKind.cell) else (n,kk))::JAq X.env.scope.names r:=rfl;rw[e0]at h;rw[List.lookup_cons]
        split at h
        ·rw[List.lookup_cons]at h;cases q:y==n with
         |true=>rw[q]at h;cases h
         |false=>rw[q]at h;exact ih h
        ·rw[List.lookup_cons]at h;cases q:y==n with
         |true=>rw[q]at h;exact h
         |false=>rw[q]at h;exact ih h
      exact b.out y (List.mem_of_getElem? ez) hz (this sc.names e')
     ·exact .inl e
     ·exact .inr e
    ·rcases l with ⟨hk,_⟩|⟨_,c,hc,hcell⟩
     ·exfalso;rcases b.free y hfree with e|e
      ·rw[e]at hk;cases hk
      ·rw[e]at hk;cases hk
     ·refine⟨c,(JBJ b I.ok).mpr ⟨hfree,hc⟩,?_⟩;obtain⟨o,ho,hd⟩:=hcell;exact⟨o,k _ _ ho,hd⟩
   ·exfalso;have hlt':i - xs.length<X.N.length:=(q_p.mp ez).1;have:dots (0+(i - xs.length))=dots (i - xs.length):=by rw[Nat.zero_add]
    exact b.dots (i - xs.length) hlt' (by rw[<-this];exact vis_same.mp e3)
 cell:=λx c e=>by
  obtain⟨v,o,ho,hd⟩:=I.cell x c ((JBJ b I.ok).mp e).2;exact⟨v,o,k _ _ ho,hd⟩
 free:=I.hok.fresh hC
 freeC:=λx c e=>I.freeC x c ((JBJ b I.ok).mp e).2
 pin:=λp hp=>absurd (show p∈([]:Pq) from hp) (by simp)
 hok:=I.hok.kept k
 len:=by
  show(xs.map (λ_=>(none:Option V))++σ).length=(xs++mask xs 0 X.N).length;rw[q_u,q_u,q_g,JGG,I.len]
end
section
variable{X:Cx}{B:Bs}{C:Cn}{CX:CXT}{XX:Nat->Hp->Prop}{G:List (Str×GK)}{pins:Pq}{σ:St}{H:Hp}{s:Shared}{sc:Scope}{N':List Str}{Cc:Addr}
abbrev noE:Vq:=λ_ _=>False
def JBn(X':Cx)(B:Bs)(σ:St)(n:Nat)(δ:Env)(target elt:Expr)(ifs:List Expr)(F:D->R (Option D)):Prop :=
 ∀(pins:Pq) (s:Shared) (pre:St) (H:Hp) (d:D) (o:Option D) (v:V) (u:Value),pre.length=n->F d=.ok o->Inv X' pins (pre++σ) H s->RelV v u->Den B H d v->Sok B σ H δ ->
  wpAny (model X'.prog X'.w) X'.A (assign target X'.env u) (λ_ s₂ =>
   wpAny (model X'.prog X'.w) X'.A (forIn ifs true λc r=>if r=true then do let ok<-isTrue c X'.env (eval c X'.env);pure (ForInStep.yield ok) else pure (ForInStep.yield r)) (λok s₃ =>
    if ok=true then ∃y,o=some y/\wpAny (model X'.prog X'.w) X'.A (eval elt X'.env) (λx s₄=>∃pre' H' w,pre'.length=n/\Inv X' pins (pre'++σ) H' s₄/\Same H H'/\RelV w x/\Den B H' y w) noE s₃
    else o=none/\∃pre' H',pre'.length=n/\Inv X' pins (pre'++σ) H' s₃/\Same H H') noE s₂) noE s
theorem JEV{α:Type}{l:List α}{j:Nat}(h:j<l.length):l.drop j=l[j]::l.drop (j+1):=List.drop_eq_getElem_cons h
theorem JHV[Cool G]{elt iter target:Expr}{ifs:List Expr}{pos pos':Pos}{i:E}{δ:Env}{xs:List Str}{ds zs:List D}{F:D->R (Option D)}{use:Option (Value->Sem Unit)}{Q:Vq}
  (g:Gk X B C CX XX G) (b:BlkOk X sc xs) (hi:PI X target iter (RI B C XX i)) (hs:∀x,foldedSetIterable iter X.env x=pure x)
  (hrun:∀Cc fp s0 H0,JBn (JAd X sc Cc (xs++mask xs 0 X.N) fp s0 H0) B σ xs.length δ target elt ifs F)
  (I:Inv X pins σ H s) (ok:Sok B σ H δ) (hds:evI C i δ=.ok ds) (hlen:ds.length<=16777216) (hz:JBI F ds=.ok zs)
  (fin:∀(D Cc:Addr) (s':Shared) (m:Mq) (H3:Hp) (yv:List V),s'.heap.Ns Cc m->Inv X pins σ (upd H3 D (.lst yv)) s'->Same H H3->H3 D=none->DenL B H3 zs yv->(upd H3 D (.lst yv)) Cc=none->Cc≠X.env.locals->X.s₀.heap.objs.size<=Cc ->
    (∀x c,X.env.cells.lookup x=some c->c≠Cc)->(∀p∈X.pn++pins,p.1≠Cc)->compPost (model X.prog X.w) X.A X.xe use Q (.ref D) Cc (.ok .next) s') :
  wpAny (model X.prog X.w) X.A (comprehension (.ListComp elt [⟨target,iter,ifs,0⟩] sc pos) sc X.env pos' (newList []) false (eval iter X.env) use) Q X.xe s:=by
 refine wpAny_comprehension_free rfl hs (b.clos I.ok) b.kind b.loc (wpAny_mono (hi pins s σ H (λJ H1=>Same H H1/\ItOk B J H1 ds) I ⟨δ,ok,?_⟩) (λxv s₁ h₁=>wpAny_mono h₁ (λitv s₂ h₂=>?_) (λ_ _ e=>e)) (λ_ _ e=>e))
 ·rw[hds];exact λJ H' s' io=>⟨s',io⟩
 obtain⟨it,fp,tn,J,H2,e,I2,T,st2,f2,sm2,io⟩:=h₂;subst e;have hlt:∀b∈fp,b<s₂.heap.objs.size:=λb hb=>by
  obtain⟨o,ho,_⟩:=T.obj 0 _ st2 b hb;exact q_h ho
 refine wpAny_newObj_type (wpAny_newFunctionEnv b.nocell (by intro y hy;simp at hy) (λh₁ hns₁ hsb₁=>?_) b.kind)
 dsimp only at hns₁ hsb₁ ⊢
 generalize hH2:s₂.heap.push { cls:=.type "list",dict:=none,data:=.seq ([]:List Value).toArray }=P2 at hns₁ hsb₁ ⊢;have hC:P2.objs.size=s₂.heap.objs.size+1:=by rw[<-hH2,Heap.size_push]
 have hCle:s₂.heap.objs.size<=P2.objs.size:=by rw[hC];exact Nat.le_succ _
 have hDC:s₂.heap.objs.size≠P2.objs.size:=by rw[hC];exact q_l (Nat.lt_succ_self _)
 have below:∀b,b<s₂.heap.objs.size->b≠P2.objs.size:=λb hb=>by rw[hC];exact q_l (q_E hb)
 have old:∀b o,s₂.heap.get? b=some o->h₁.get? b=some o:=λb o e=>hsb₁.extBut b o (below b (q_h e)) (q_c _ (hH2▸q_c _ e));have hacc:h₁.get? s₂.heap.objs.size=some { cls:=.type "list",dict:=none,data:=.seq ([]:List Value).toArray }:=hsb₁.extBut _ _ hDC (q_c _ (hH2▸q_k _ rfl));have I4:=JGc (fp:=fp) (t':=s₂.toks+([]:List (Str×Value)).length) b (g.calm inferInstance) I2 f2 hlt hCle old hns₁;have st4:tn 0 h₁:=T.keep _ _ _ st2 λb _ o e=>old b o e;have hH2D:H2 s₂.heap.objs.size=none:=I2.hok.fresh (q_t _);have fpX:∀ {ps:Pq}{H':Hp},(∀b∈fp,H' b=none)->(∀p∈ps,p.1=s₂.heap.objs.size)->∀b∈fp,FpOk (JAd X sc P2.objs.size (xs++mask xs 0 X.N) fp s₂ H2) ps H' b:=λ{ps H'} hn hp a ha=>by
  refine⟨hn a ha,below a (hlt a ha),I4.ok.exfs a ha,.inl ha,λx c e=>(I4.ok.exf a ha).2 x c e,λp hpp=>?_⟩;have hpp':p∈ps:=hpp;rw[hp p hpp'];exact Nat.ne_of_gt (hlt a ha)
 have loop:∀s₃:Shared,s₃={ s₂ with heap:=h₁,toks:=s₂.toks+([]:List (Str×Value)).length } ->
    codeAny (model X.prog X.w) X.A (.compLoop (.ListComp elt [⟨target,iter,ifs,0⟩] sc pos) 0 (.ref it) (.ref s₂.heap.objs.size) (JAd X sc P2.objs.size (xs++mask xs 0 X.N) fp s₂ H2).env)
      (compPost (model X.prog X.w) X.A X.xe use Q (.ref s₂.heap.objs.size) P2.objs.size) s₃:=by
  rintro s₃ rfl;refine JDA (λn s'=>∃(j:Nat) (pre:St) (H':Hp) (ys:List D) (yv:List V) (its:List Value) (ep:Nat) (rest:List D),n=ds.length - j/\j<=ds.length/\pre.length=xs.length /\
    Inv (JAd X sc P2.objs.size (xs++mask xs 0 X.N) fp s₂ H2) [] (pre++σ) H' s'/\tn j s'.heap/\(∀b∈fp,H' b=none)/\Same H2 H'/\H' s₂.heap.objs.size=none /\
    s'.heap.get? s₂.heap.objs.size=some { cls:=.type "list",data:=.seq its.toArray ep }/\Vals yv its/\DenL B H' ys yv/\ys.length<=j/\JBI F (ds.drop j)=.ok rest/\zs=ys++rest) ?_ ds.length
    ⟨0,xs.map (λ_=>none),H2,[],[],[],0,zs,by simp,Nat.zero_le _,by simp,I4,st4,λb hb=>(f2 b hb).1,Same.refl _,hH2D,hacc,.nil,by simp only[DenL],q_t _,by simpa using hz,rfl⟩
  rintro n s3 ⟨j,pre,H3,ys,yv,its,ep,rest,hn,hj,hpl,I3,st3,fr3,sm3,hD3,ho3,rv3,dn3,hyl,hr3,hzs⟩;subst hn;have I3p:Inv (JAd X sc P2.objs.size (xs++mask xs 0 X.N) fp s₂ H2) [(s₂.heap.objs.size,{ cls:=.type "list",data:=.seq its.toArray ep })] (pre++σ) H3 s3:=I3.pins_of λp hp=>by
    have e:p=(s₂.heap.objs.size,{ cls:=.type "list",data:=.seq its.toArray ep }):=by simpa using hp
    subst e;refine⟨ho3,hD3,hDC,λhm=>?_,λv z=>?_⟩
    · obtain⟨_,o,ho,_⟩:=I4.ok.funs.mem hm
      exact absurd (q_h ho) (Nat.lt_irrefl _)
    · have z':Data.seq its.toArray ep=Data.cell v:=z
      cases z'
  have sameE:∀(e:Value) (s':Shared),noE e s'->notedBy (model X.prog X.w) X.A (JAd X sc P2.objs.size (xs++mask xs 0 X.N) fp s₂ H2).env (λe s'=>compPost (model X.prog X.w) X.A X.xe use Q (.ref s₂.heap.objs.size) P2.objs.size (.error e) s') e s':=λ_ _ z=>z.elim
  by_cases hlt3:j<ds.length
  ·
    have hd:ds[j]? = some ds[j]:=by simp[hlt3]
    obtain⟨go,yl⟩:=(io H3 sm3 j).1 ds[j] hd;refine wpAny_mono (T.item (JAd X sc P2.objs.size (xs++mask xs 0 X.N) fp s₂ H2) rfl rfl rfl rfl j [(s₂.heap.objs.size,{ cls:=.type "list",data:=.seq its.toArray ep })] s3 (pre++σ) H3 noE I3p (fpX fr3 (λp hp=>by rw[List.mem_singleton.mp hp])) st3 go) (λr s4 h4=>?_) sameE
    obtain⟨u,hu,h4⟩:=h4;subst hu;show wpAny _ _ (letOwnedTupleGo target (.ref it) u) _ _ s4;refine wpAny_mono h4 (λ_ s5 h5=>?_) sameE;obtain⟨v,H5,I5,r5,y5,st5,fr5⟩:=h5;obtain⟨s35,d5⟩:Same H3 H5/\Den B H5 ds[j] v:=by
      rcases yl v H5 y5 with ⟨e5,d5⟩|⟨p,ws,es,hp,e5,ex,ed,dl⟩
      · subst e5;exact⟨Same.refl _,Den.mono sm3 _ _ d5⟩
      · subst e5;subst ex
        have s35:Same H3 (upd H3 p (.tup ws)):=JBC hp;refine⟨s35,?_⟩;rw[ed];simp only[Den];exact⟨p,ws,rfl,SqT.of JAI,DenL.mono (sm3.trans s35) _ _ dl⟩
    replace sm3:=sm3.trans s35
    replace dn3:=DenL.mono s35 ys yv dn3
    have I5p:=I5.pinned (fpX fr5 (λp hp=>by rw[List.mem_singleton.mp hp])) (T.obj _ _ st5)
    rw[JEV hlt3]at hr3;unfold JBI at hr3;have okσ:Sok B σ H5 δ:=(ok.mono sm2).mono sm3;cases qF:F ds[j] with
    |exc c=>rw[qF]at hr3;cases hr3
    |bad=>rw[qF]at hr3;cases hr3
    |ok o =>
      have hstep:=hrun P2.objs.size fp s₂ H2 _ s5 pre H5 ds[j] o v u hpl qF I5p r5 d5 okσ;refine wpAny_mono hstep (λ_ s6 h6=>wpAny_mono h6 (λokb s7 h7=>?_) sameE) sameE;have back:∀ {σ':St}{H':Hp}{s':Shared},Inv (JAd X sc P2.objs.size (xs++mask xs 0 X.N) fp s₂ H2) ([(s₂.heap.objs.size,{ cls:=.type "list",data:=.seq its.toArray ep })]++JEM fp s5.heap) σ' H' s' ->
         s'.heap.get? s₂.heap.objs.size=some { cls:=.type "list",data:=.seq its.toArray ep }/\H' s₂.heap.objs.size=none/\tn (j+1) s'.heap/\(∀b∈fp,H' b=none):=λ{σ' H' s'} J'=>by
        have p0:=J'.pin (s₂.heap.objs.size,{ cls:=.type "list",data:=.seq its.toArray ep }) (q_r _ (List.mem_append_left _ (by simp)))
        refine⟨p0.1,p0.2.1,T.keep _ _ _ st5 λa ha o e=>(J'.pin (a,o) (q_r _ (q_r _ (JBZ ha e)))).1,λa ha=>?_⟩;obtain⟨o,e,_⟩:=T.obj _ _ st5 a ha;exact(J'.pin (a,o) (q_r _ (q_r _ (JBZ ha e)))).2.1
      cases okb with
      |false =>
        obtain⟨eo,pre',H',hp',I',sm'⟩:=h7;subst eo;rw[qF]at hr3;obtain⟨b1,b2,b3,b4⟩:=back I';rw[if_neg Bool.false_ne_true];refine⟨ds.length - (j+1),by omega,j+1,pre',H',ys,yv,its,ep,rest,rfl,hlt3,hp',I'.pins_of (λp hp=>absurd hp (by simp)),b3,b4,sm3.trans sm',b2,b1,rv3,DenL.mono sm' ys yv dn3,by omega,hr3,hzs⟩
      |true =>
        rw[if_pos rfl]at h7 ⊢;obtain⟨y,eo,h7⟩:=h7;subst eo;rw[qF]at hr3;cases qr:JBI F (ds.drop (j+1)) with
        |exc c=>simp only[qr]at hr3;cases hr3
        |bad=>simp only[qr]at hr3;cases hr3
        |ok rs =>
         simp only[qr]at hr3;have hr3':y::rs=rest:=by injection hr3
         refine wpAny_mono h7 (λx s8 h8=>?_) sameE;obtain⟨pre',H',w',hp',I',sm',rw8,d8⟩:=h8;obtain⟨b1,b2,b3,b4⟩:=back I';have hsz:its.length<=j:=by rw[<-rv3.length,<-DenL.len ys yv dn3];exact hyl
         have hlim:its.toArray.size<sizeLine:=by rw[q_f,sizeLine_eq];omega
         refine call_meets PySem.F.slot_list_append ⟨_,b1,rfl⟩ PySem.F.entry_list_append (PySem.F.args_list_append_2 _ _) (PySem.list_append s₂.heap.objs.size its.toArray ep x (by omega)) ⟨b1,?_⟩
         have q8:=PySem.IsL.update b1 (λa=>a.push x);have q8':(s8.heap.update s₂.heap.objs.size (Obj.mapSeq (λa=>a.push x))).get? s₂.heap.objs.size=some { cls:=.type "list",data:=.seq (its++[x]).toArray (if (its.toArray.push x).size==its.toArray.size then ep else ep+1) }:=by simpa using q8
         have I0:Inv (JAd X sc P2.objs.size (xs++mask xs 0 X.N) fp s₂ H2) [] (pre'++σ) H' s8:=I'.pins_of (λp hp=>absurd hp (by simp))
         have I9:=I0.turned (h':=s8.heap.update s₂.heap.objs.size (Obj.mapSeq (λa=>a.push x))) (t':=s8.toks) (it:=s₂.heap.objs.size) (λb o hb e=>(Heap.get?_update_other _ _ (Ne.symm hb)).trans e) b2 hDC (.inr (q_t _))
          (λx c e z=>by
            obtain⟨v',o',ho',_⟩:=I2.cell x c ((JBJ b I.ok).mp e).2;rw[z]at ho';exact absurd (q_h ho') (Nat.lt_irrefl _)) (λp hp=>absurd (show p∈([]:Pq) from hp) (by simp))
         refine⟨ds.length - (j+1),by omega,j+1,pre',H',ys++[y],yv++[w'],its++[x],_,rs,rfl,hlt3,hp',I9,T.keep _ _ _ b3 λa ha o e=>(Heap.get?_update_other _ _ (Nat.ne_of_gt (hlt a ha))).trans e,b4,sm3.trans sm',b2,q8',rv3.append (.cons rw8 .nil),
          DenL.append ys [y] yv [w'] (DenL.mono sm' ys yv dn3) (by simp only[DenL];exact⟨w',[],rfl,d8,rfl⟩),by rw[q_u,List.length_singleton];omega,qr,by rw[hzs,<-hr3'];simp⟩
  ·
    have ej:j=ds.length:=by omega
    have stop:=(io H3 sm3 j).2 (by omega)
    refine wpAny_mono (T.done (JAd X sc P2.objs.size (xs++mask xs 0 X.N) fp s₂ H2) rfl rfl rfl rfl j [(s₂.heap.objs.size,{ cls:=.type "list",data:=.seq its.toArray ep })] s3 (pre++σ) H3 noE I3p (fpX fr3 (λp hp=>by rw[List.mem_singleton.mp hp])) st3 stop) (λr s4 h4=>?_) sameE
    obtain⟨hr,I5⟩:=h4;subst hr;show compPost _ _ _ _ _ _ _ _ s4;have p0:=I5.pin (s₂.heap.objs.size,{ cls:=.type "list",data:=.seq its.toArray ep }) (q_r _ (by simp))
    have hrest:rest=[]:=by
      rw[ej,List.drop_length]at hr3;unfold JBI at hr3;injection hr3 with hr3
      exact hr3.symm
    have u0:Un (frs X.stack) fp H2 H3 s₂.heap s4.heap:=I5.base;have neD:∀b o,s₂.heap.get? b=some o->b≠s₂.heap.objs.size:=λb o e=>q_l (q_h e);have nD:∀b o,H3 b=some o->b≠s₂.heap.objs.size:=λb o e z=>by rw[z,hD3]at e;cases e
    have u1:Un (frs X.stack) fp H2 (upd H3 s₂.heap.objs.size (.lst yv)) s₂.heap s4.heap :=
      ⟨u0.keep,u0.slot,λb o e n hx=>by rw[JAK (neD b o e)];exact u0.free b o e n hx,u0.there,λb xs' e=>by rw[JAK (nD b _ (u0.tups b xs' e))];exact u0.tups b xs' e,
        λb o u e=>by rw[JAK (nD b _ (u0.frzs b o u e))];exact u0.frzs b o u e,λb ps e=>by
         obtain⟨more,q⟩:=u0.tbls b ps e;exact⟨more,by rw[JAK (nD b _ q)];exact q⟩⟩
    have hvl:yv.length<=sizeLine:=by rw[<-DenL.len ys yv dn3,sizeLine_eq];omega
    have hok1:HOk X.prog X.w (upd H3 s₂.heap.objs.size (.lst yv)) s4.heap:=λa u e=>by
      by_cases ha:a=s₂.heap.objs.size
      · subst ha
        rw[JAI]at e;cases e;exact⟨hvl,its,ep,rv3,p0.1⟩
      · rw[JAK ha]at e
        exact(I5.hok a u e).stay (λc w' _ q=>q) (λc q=>by rw[JAK (nD c _ q)];exact q) λc xs' q=>by rw[JAK (nD c _ q)];exact q
    have J:=I2.call' (s':=s4) I5.os u1 hok1 I5.bare λa ha=>⟨(f2 a ha).2.2.2.1,(f2 a ha).2.1,(f2 a ha).2.2.2.2.1,(f2 a ha).2.2.2.2.2⟩;obtain⟨m4,hn4,_⟩:=I5.loc;refine fin s₂.heap.objs.size P2.objs.size s4 m4 H3 yv hn4 J (sm2.trans sm3) hD3 ?_ ?_ ?_ ?_ ?_ ?_
    · rw[hzs,hrest,List.append_nil]
      exact dn3
    · rw[JAK (Ne.symm hDC)];exact I5.free
    · exact Nat.ne_of_gt (q_m I2.lt hCle)
    · exact Nat.le_trans I2.sz hCle
    · intro x c e z
      obtain⟨v',o',ho',_⟩:=I2.cell x c e;rw[z]at ho';exact absurd (q_m (q_h ho') hCle) (Nat.lt_irrefl _)
    · intro p hp z
      exact absurd (q_m (q_h (I2.pin p hp).1) (by rw[z];exact hCle)) (Nat.lt_irrefl _)
 exact codeAny_compStart_list (loop _ rfl) (T.self _ _ _ _ _ st4 (loop _ rfl))
end
theorem JIm{a:Addr}(q:SqL B.K H a xs)(l:DenL B H ds xs):ItOk B (Itl B.K a) H ds:=by
 intro H2 s2 i;have q2:=s2.seq q;refine⟨λd e=>?_,λh=>⟨xs,q2,by rw[<-DenL.len ds xs l];exact h⟩⟩
 obtain⟨v,e1,dn⟩:=DenL.get ds xs i d l e;refine⟨⟨xs,v,q2,e1⟩,λx H3 y=>?_⟩;obtain⟨e3,y⟩:=y;have:=y xs q2;rw[e1]at this;cases this;exact .inl ⟨e3,dn⟩
theorem JIx{a:Addr}(q:SqT B.K H a xs)(l:DenL B H ds xs):ItOk B (Itt B.K a) H ds:=by
 intro H2 s2 i;have q2:=JJO s2 q;refine⟨λd e=>?_,λh=>⟨xs,q2,by rw[<-DenL.len ds xs l];exact h⟩⟩
 obtain⟨v,e1,dn⟩:=DenL.get ds xs i d l e;refine⟨⟨xs,v,q2,e1⟩,λx H3 y=>?_⟩;obtain⟨e3,y⟩:=y;have:=y xs q2;rw[e1]at this;cases this;exact .inl ⟨e3,dn⟩
theorem JGI{lo hi:Int}:ItOk B (Itr lo (hi - lo).toNat) H (JCs lo hi):=by
 intro H2 s2 i;unfold JCs;refine⟨λd e=>?_,λh=>show(hi - lo).toNat<=i by simpa using h⟩
 rw[List.getElem?_map]at e
 by_cases hi':i<(hi - lo).toNat
 ·rw[List.getElem?_range hi']at e;simp only[Option.map_some,q_j]at e;refine⟨hi',λx H3 y=>?_⟩;obtain⟨e3,y⟩:=y;refine .inl ⟨e3,?_⟩;rw[<-e,y];simp only[Den]
 ·rw[List.getElem?_eq_none_iff.mpr (by simpa using hi')]at e
  cases e
section
variable{X:Cx}{B:Bs}{C:Cn}{CX:CXT}{XX:Nat->Hp->Prop}{G:List (Str×GK)}{a b c tg:Expr}{x y z:E}{pos p:Pos}
theorem JD1(g:Gk X B C CX XX G)(ha:PE X a (RE B C XX x))(hi:∀δ,evI C x δ=(ev C x δ).bind JAs):PI X tg a (RI B C XX x):=by
 intro pins s σ H R I ⟨δ,ok,k⟩;rw[hi]at k;cases q:ev C x δ with
 |ok d =>
  rw[q]at k;cases d with
  |list ds =>
   refine JIA ha pins s σ H R I ⟨δ,ok,?_⟩;rw[q];intro v H1 s1 d1;simp only[Den]at d1;obtain⟨p,xs,e,hq,l⟩:=d1;refine⟨p,e,⟨xs,g.K▸hq⟩,?_⟩;rw[g.K];exact k _ H1 s1 (JIm hq l)
  |tuple ds =>
   refine JOq ha pins s σ H R I ⟨δ,ok,?_⟩;rw[q];intro v H1 s1 d1;simp only[Den]at d1;obtain⟨p,xs,e,hq,l⟩:=d1;refine⟨p,e,⟨xs,g.K▸hq⟩,?_⟩;rw[g.K];exact k _ H1 s1 (JIx hq l)
  |_=>exact fF k
 |exc c =>
  rw[q]at k;refine JIA ha pins s σ H R I ⟨δ,ok,?_⟩;rw[q];exact k
 |bad=>rw[q]at k;exact k.elim
theorem JCo{i:Int}(h:small i=true):-(2 ^ 62)<=i/\i<2 ^ 62:=by
 unfold small at h;simp only[q_i,q_D]at h;exact h
theorem JNX(g:Gk X B C CX XX G)(hg:Gl X "range")(hm:X.mg "range"=none)(ha:PA X [a] (RA B C XX x))(hc:cnt x=1)(hs:starEach [a] X.env=[(false,eval a X.env)]):PI X tg (.Call (.Name "range" p) [a] [] pos) (RI B C XX (.rng x)):=by
 intro pins s σ H R I ⟨δ,ok,k⟩;refine JHn hg hm ha hs pins s σ H R I ?_;simp only[evI]at k;refine⟨δ,ok,?_⟩;cases q:evA C x δ with
 |ok ds =>
  rw[q]at k;intro vs H1 s1 d1;have hl:=JB5 x δ ds q;rw[hc]at hl
  match ds,hl,k,d1 with
  | [.none],_,k,_=>exact fF k
  | [.bool _],_,k,_=>exact fF k
  | [.str _],_,k,_=>exact fF k
  | [.list _],_,k,_=>exact fF k
  | [.tuple _],_,k,_=>exact fF k
  | [.dict _],_,k,_=>exact fF k
  | [.int j],_,k,d1 =>
   simp only[VI.R.bind,rngD]at k
   split at k
   ·rename_i hsm;simp only[DenL,Den]at d1;obtain⟨v,r,e,e1,e2⟩:=d1;subst e2;subst e;subst e1;obtain⟨b1,b2⟩:=JCo hsm;refine⟨j,rfl,b1,b2,?_⟩;have:=k (Itr 0 (j - 0).toNat) H1 s1 JGI;simpa using this
   ·exact k.elim
 |exc c=>rw[q]at k;exact k
 |bad=>rw[q]at k;exact k.elim
theorem JNr(g:Gk X B C CX XX G)(hg:Gl X "range")(hm:X.mg "range"=none)(ha:PA X [a,b] (RA B C XX x))(hc:cnt x=2)(hs:starEach [a,b] X.env=[(false,eval a X.env),(false,eval b X.env)])(hs2:starEach [b] X.env=[(false,eval b X.env)]) :
  PI X tg (.Call (.Name "range" p) [a,b] [] pos) (RI B C XX (.rng x)):=by
 intro pins s σ H R I ⟨δ,ok,k⟩;refine JHk hg hm ha hs hs2 pins s σ H R I ?_;simp only[evI]at k;refine⟨δ,ok,?_⟩;cases q:evA C x δ with
 |ok ds =>
  rw[q]at k;intro vs H1 s1 d1;have hl:=JB5 x δ ds q;rw[hc]at hl
  match ds,hl,k,d1 with
  | [.none,_],_,k,_=>exact fF k
  | [.bool _,_],_,k,_=>exact fF k
  | [.str _,_],_,k,_=>exact fF k
  | [.list _,_],_,k,_=>exact fF k
  | [.tuple _,_],_,k,_=>exact fF k
  | [.dict _,_],_,k,_=>exact fF k
  | [.int _,.none],_,k,_=>exact fF k
  | [.int _,.bool _],_,k,_=>exact fF k
  | [.int _,.str _],_,k,_=>exact fF k
  | [.int _,.list _],_,k,_=>exact fF k
  | [.int _,.tuple _],_,k,_=>exact fF k
  | [.int _,.dict _],_,k,_=>exact fF k
  | [.int i,.int j],_,k,d1 =>
   simp only[VI.R.bind,rngD]at k
   split at k
   ·rename_i hsm;simp only[q_i]at hsm;simp only[DenL,Den]at d1;obtain⟨v,r,e,e1,v',r',e',e1',e2⟩:=d1;subst e2;subst e';subst e;subst e1;subst e1';obtain⟨b1,b2⟩:=JCo hsm.1;obtain⟨b3,b4⟩:=JCo hsm.2;exact⟨i,j,rfl,⟨b1,b2,b3,b4⟩,k _ H1 s1 JGI⟩
   ·exact k.elim
 |exc c=>rw[q]at k;exact k
 |bad=>rw[q]at k;exact k.elim
end
def Ownb:HO->Prop
 |.lst _=>True
 |.dK _=>True
 |_=>False
def OwnO(B:Bs)(H:Hp):D->HO->Prop
 |.list ds,.lst xs=>DenL B H ds xs
 |.dict kvs,.dK xs=>DenK B H kvs xs
 |_,_=>False
theorem OwnO.nil{B:Bs}{H:Hp}:OwnO B H (.list []) (.lst []):=by show DenL B H [] [];simp only[DenL]
theorem OwnO.mono{B:Bs}{H H':Hp}(s:Same H H')(d:D)(o:HO)(h:OwnO B H d o):OwnO B H' d o:=by
 cases d<;>cases o<;>first|exact fF h|exact DenL.mono s _ _ h|exact DenK.mono s _ _ h
theorem OwnO.b{B:Bs}{H:Hp}{d:D}{o:HO}(h:OwnO B H d o):Ownb o:=by
 cases d<;>cases o<;>first|exact fF h|exact trivial
theorem OwnO.den{a:Addr}(h:OwnO B H (.list d) o)(e:H a=some o):Den B H (.list d) (.ref a):=by
 cases o<;>first
  |exact fF h
  |(simp only[Den];exact⟨a,_,rfl,SqL.of e,h⟩)
theorem OwnO.nl{B:Bs}{H:Hp}{d:D}{o:HO}(h:OwnO B H d o):JAS d=false:=by
 cases d with
 |list ds=>simp only[JAS]
 |dict kvs =>
  cases o with
  |dK xs =>
   cases kvs with
   |nil=>simp only[JAS]
   |cons p r =>
    obtain⟨k,w⟩:=p;have h:DenK B H ((k,w)::r) xs:=h;simp only[DenK]at h;obtain⟨x,v',r',_,ek,_⟩:=h;subst ek;simp[JAS]
  |_=>exact fF h
 |_=>cases o<;>exact fF h
theorem JBS{n:Nat}{it:Bool}(h:JAN G n it names N e=some x)(env:PySem.Env)(v:Value):foldedSetIterable e env v=pure v:=by
 cases n with
 |zero=>simp[JAN,JAY,JAL]at h
 |succ n=>cases e<;>first|rfl|(cases it<;>simp[JAN,JAY,JAL,xOf,dOf,dRaw,Option.bind_none,ite_self,xRaw]at h)
theorem Gk.nox(g:Gk X B C CX XX G)(h1:X'.K=X.K)(h2:X'.A=X.A)(h3:X'.mg=X.mg)(h4:X'.prog=X.prog)(h5:X'.w=X.w)(h6:X'.base=X.base)(h7:X'.calm=true)
  (hp:JEv CX X' (EX B λ_ _=>False)):Gk X' B C CX (λ_ _=>False) G where
 K:=h1.trans g.K
 W:=h5.trans g.W
 anti:=λ_ _ _ _ z=>z
 units:=by rw[h2];exact g.units
 calm:=λ_=>h7
 fn:=by rw[h1,h2,h3,h4,h5,h6];exact g.fn
 pas:=hp
 con:=by rw[h3];exact g.con
 noexg:=g.noexg
 blt:=by rw[h3];exact g.blt
 rng:=by rw[h3];exact g.rng
 isi:=by rw[h3];exact g.isi
 ty:=by rw[h3];exact g.ty
 cls:=by rw[h3];exact g.cls
 nam:=by rw[h3];exact g.nam
theorem JB0{c:Nat}:∀ {ds:List D},JBI f ds≠.exc c
 | []=>λh=>by unfold JBI at h;cases h
 |x::xs=>λh=>by
  unfold JBI at h;cases q:f x with
  |ok o =>
   rw[q]at h;cases o with
   |none=>exact JB0 h
   |some y =>
    cases q2:JBI f xs with
    |ok ys=>simp only[q2]at h;cases h
    |exc c=>simp only[q2]at h;cases h
    |bad=>simp only[q2]at h;cases h
  |exc c=>rw[q]at h;cases h
  |bad=>rw[q]at h;cases h
section
variable{X:Cx}{B:Bs}{C:Cn}{CX:CXT}{XX:Nat->Hp->Prop}{G:List (Str×GK)}{a b c tg:Expr}{x y z:E}{pos p:Pos}
noncomputable def itemF(C:Cn)(k:Nat)(x y:E)(δ:Env)(d:D):R (Option D):=(push k d δ).bind λδ1=>(evT C y δ1).bind λt=>if t=true then (ev C x δ1).bind λz=>.ok (some z) else .ok none
theorem JGF(ok:Sok B σ H δ)(dn:Den B H d v):Sok B (some v::σ) H (.val d::δ):=by
 intro i d' e;cases i with
 |zero =>
  have:d=d':=by
   have e':(R.ok d:R D)=.ok d':=e;injection e'
  subst this;exact⟨v,rfl,dn⟩
 |succ i=>exact ok i d' e
theorem JBo(hN0:X'.N.Nodup)(hN:X'.N[0]? = some nm)(hloc:X'.env.scope.names.lookup nm=some .local)
  (he:PE X' elt (RE B C (λ_ _=>False) x)) (hc:∀c,ifs=[c]->PT X' c (RT B C (λ_ _=>False) y)) (hifs:ifs=[]/\y=.cbl true\/∃c,ifs=[c]) (hxe:X'.xe=noE) :
  JBn X' B σ 1 δ (.Name nm px) elt ifs (itemF C 0 x y δ):=by
 intro pins s pre H d o v u hpre hF I r dn ok;obtain⟨p0,rfl⟩:∃p0,pre=[p0]:=by
  match pre,hpre with
  | [p0],_=>exact⟨p0,rfl⟩
 have hF':(evT C y (.val d::δ)).bind (λt=>if t=true then (ev C x (.val d::δ)).bind λz=>.ok (some z) else .ok none)=.ok o:=hF;have ok1:=JGF ok dn;have hst:=JDT (X:=X') (pos:=px) hN0 hN (.inl hloc) (.inr hloc) pins s ([p0]++σ) H v u (λσ' H'=>σ'=some v::σ/\H'=H) I r ⟨rfl,rfl⟩;rw[hxe]at hst;refine thn hst λ_ s2 ⟨σ2,H2,I2,e1,e2⟩=>?_;subst e1;subst e2;have elt_go:∀(s3:Shared) (H3:Hp) (t:Bool),Inv X' pins (some v::σ) H3 s3->Same H2 H3->evT C y (.val d::δ)=.ok t ->
    (if t=true then ∃z,o=some z/\wpAny (model X'.prog X'.w) X'.A (eval elt X'.env) (λx s₄=>∃pre' H' w,pre'.length=1/\Inv X' pins (pre'++σ) H' s₄/\Same H2 H'/\RelV w x/\Den B H' z w) noE s3
      else o=none/\∃pre' H',pre'.length=1/\Inv X' pins (pre'++σ) H' s3/\Same H2 H'):=by
  intro s3 H3 t I3 s23 qt;rw[qt]at hF';cases t with
  |true =>
    rw[if_pos rfl];simp only[R.bind,if_true]at hF';cases qx:ev C x (.val d::δ) with
    |ok z =>
      simp only[qx]at hF';have eo:o=some z:=by injection hF' with h;exact h.symm
      refine⟨z,eo,?_⟩;have hh:=he pins s3 (some v::σ) H3 (λw H'=>Same H3 H'/\Den B H' z w) I3 ⟨_,ok1.mono s23,by rw[qx];exact λw H' s' d'=>⟨s',d'⟩⟩
      rw[hxe]at hh;exact thn hh λx' s4 ⟨w,H',I4,rw4,s34,d4⟩=>⟨[some v],H',w,rfl,I4,s23.trans s34,rw4,d4⟩
    |exc c=>simp only[qx]at hF';cases hF'
    |bad=>simp only[qx]at hF';cases hF'
  |false =>
    rw[if_neg Bool.false_ne_true];simp only[R.bind,q_v,if_false]at hF';have eo:o=none:=by injection hF' with h;exact h.symm
    exact⟨eo,[some v],H3,rfl,I3,s23⟩
 rcases hifs with ⟨e1,e2⟩|⟨c',e1⟩
 ·subst e1;subst e2;exact wpAny_tests_nil (elt_go s2 H2 true I2 (Same.refl _) (by simp only[evT]))
 ·subst e1;refine wpAny_tests_one ?_;cases qt:evT C y (.val d::δ) with
  |ok t =>
    have hh:=hc c' rfl pins s2 (some v::σ) H2 (λt' H'=>t'=t/\Same H2 H') I2 ⟨_,ok1,by rw[qt];exact λH' s'=>⟨rfl,s'⟩⟩
    rw[hxe]at hh;refine thn hh λt' s3 ⟨H3,I3,e3,s23⟩=>?_;subst e3;exact elt_go s3 H3 t' I3 s23 qt
  |exc c=>rw[qt]at hF';cases hF'
  |bad=>rw[qt]at hF';cases hF'
theorem JCI(h:namesOf (e::r)=some xs):∃nm p ys,e=.Name nm p/\namesOf r=some ys/\xs=nm::ys:=by
 unfold namesOf at h
 split at h
 ·rename_i q;cases q
 ·rename_i q;cases q;obtain⟨ys,h1,h2⟩:=q_d.mp h;exact⟨_,_,ys,rfl,h1,h2.symm⟩
 ·cases h
theorem JCL:∀ {ts:List Expr}{xs:List Str},namesOf ts=some xs->(assignEach ts env).findIdx? (·.1)=none/\(assignEach ts env).length=xs.length
 | [],xs,h=>by unfold namesOf at h;cases h;exact⟨rfl,rfl⟩
 |e::r,xs,h=>by
  obtain⟨nm,p,ys,rfl,h1,rfl⟩:=JCI h;obtain⟨q1,q2⟩:=JCL (env:=env) h1;refine⟨?_,by show(assignEach r env).length+1=_;rw[q2];rfl⟩
  show List.findIdx? (·.1) ((false,assign (.Name nm p) env)::assignEach r env)=none;rw[List.findIdx?_cons];simp[q1]
noncomputable def JDv:Nat->List V->St->St
 |_,[],σ=>σ
 |j,v::r,σ=>JDv (j+1) r (σ.set j (some v))
theorem JCf:∀(vs:List V) (a pre σ:St),pre.length=vs.length->JDv a.length vs (a++(pre++σ))=a++(vs.map some++σ)
 | [],a,pre,σ,h=>by
  have:pre=[]:=q_B.mp h;subst this;rfl
 |v::r,a,[],σ,h=>by cases h
 |v::r,a,p::pre,σ,h=>by
  simp only[JDv];have e:(a++(p::pre++σ)).set a.length (some v)=(a++[some v])++(pre++σ):=by
   rw[List.set_append_right _ _ (q_t _),Nat.sub_self];simp
  rw[e,show a.length+1=(a++[some v]).length by simp,JCf r (a++[some v]) pre σ (by simpa using h)]
  simp
theorem JF9(hN0:X'.N.Nodup):∀ {ts:List Expr}{xs:List Str}{j:Nat},namesOf ts=some xs->(∀(i:Nat) (nm:Str),xs[i]? = some nm->X'.N[j+i]? = some nm)->(∀nm∈xs,X'.env.scope.names.lookup nm=some .local)->PGs X' ts (λvs σ H Q=>vs.length=xs.length/\Q (JDv j vs σ) H)
 | [],xs,j,h,_,_=>by
  unfold namesOf at h;cases h;intro pins s σ H vs us Q I r ⟨e,q⟩;have ev:vs=[]:=q_B.mp e;subst ev;exact JHc pins s σ H [] us Q I r ⟨rfl,q⟩
 |e::r,xs,j,h,hN,hl=>by
  obtain⟨nm,p,ys,rfl,h1,rfl⟩:=JCI h;have hx:X'.env.scope.names.lookup nm=some .local:=hl nm (by simp)
  have ih:=JF9 hN0 (j:=j+1) h1 (λi z e=>by have:=hN (i+1) z (by simpa using e);rw[show j+1+i=j+(i+1) by omega];exact this) (λz hz=>hl z (by simp[hz]))
  intro pins s σ H vs us Q I rv ⟨e,q⟩;refine JFb (JDT hN0 (hN 0 nm rfl) (.inl hx) (.inr hx)) ih rfl pins s σ H vs us Q I rv ?_
  match vs,e,q with
  |v::vr,e,q=>exact⟨v,vr,rfl,by simpa using e,q⟩
theorem JDK:∀ {ds:List D}{vs:List V},Sok B σ H δ->DenL B H ds vs->Sok B (vs.map some++σ) H (ds.map Sl.val++δ)
 | [],vs,ok,dn=>by simp only[DenL]at dn;subst dn;exact ok
 |d::ds,vs,ok,dn=>by
  simp only[DenL]at dn;obtain⟨v,r,rfl,d1,d2⟩:=dn;exact JGF (JDK ok d2) d1
theorem item_tup{kt:Nat}(hcalm:X'.calm=true)(hK:X'.K=B.K)(hx:namesOf ts=some xs)(hne:xs≠[])(hN0:X'.N.Nodup)(hN:∀(i:Nat) (nm:Str),xs[i]? = some nm->X'.N[i]? = some nm)(hloc:∀nm∈xs,X'.env.scope.names.lookup nm=some .local)
  (he:PE X' elt (RE B C (λ_ _=>False) x)) (hc:∀c,ifs=[c]->PT X' c (RT B C (λ_ _=>False) y)) (hifs:ifs=[]/\y=.cbl true\/∃c,ifs=[c]) (hxe:X'.xe=noE) :
  JBn X' B σ xs.length δ (.Tuple ts kt pt) elt ifs (itemF C xs.length x y δ):=by
 intro pins s pre H d o v u hpre hF I r dn ok;obtain⟨ds,ed,hdl,hF'⟩:∃ds,d=.tuple ds/\ds.length=xs.length/\(evT C y (ds.map Sl.val++δ)).bind (λt=>if t=true then (ev C x (ds.map Sl.val++δ)).bind λz=>.ok (some z) else .ok none)=.ok o:=by
  obtain⟨n,hn⟩:∃n,xs.length=n+1:=⟨xs.length - 1,by have:=List.length_pos_iff.mpr hne;omega⟩
  rw[hn]at hF ⊢;unfold itemF push at hF;cases d<;>first|(cases hF;done)|skip
  rename_i ds;simp only at hF
  split at hF
  · rename_i h;exact⟨ds,rfl,h,hF⟩
  · cases hF
 subst ed;simp only[Den]at dn;obtain⟨a,vs,rfl,sq,dl⟩:=dn;have hvl:=DenL.len ds vs dl;have ok1:=JDK ok dl;obtain⟨st1,st2⟩:=JCL (env:=X'.env) hx;have hst:=JLm (X:=X') (pos:=pt) (k:=kt) hcalm (JF9 (j:=0) hN0 hx (λi nm e=>by rw[Nat.zero_add];exact hN i nm e) hloc) st2 st1 pins s (pre++σ) H (.ref a) u (λσ' H'=>σ'=vs.map some++σ/\H'=H) I r
  ⟨a,vs,rfl,by rw[hK];exact sq,by omega,by omega,by have:=JCf vs [] pre σ (by omega);simpa using this,rfl⟩
 rw[hxe]at hst;refine thn hst λ_ s2 ⟨σ2,H2,I2,e1,e2⟩=>?_;subst e1;subst e2;have hlen:(vs.map some:St).length=xs.length:=by simp;omega
 generalize (vs.map some:St)=P at *;generalize ds.map Sl.val++δ=δ1 at *;have elt_go:∀(s3:Shared) (H3:Hp) (t:Bool),Inv X' pins (P++σ) H3 s3->Same H2 H3->evT C y δ1=.ok t ->
    (if t=true then ∃z,o=some z/\wpAny (model X'.prog X'.w) X'.A (eval elt X'.env) (λx s₄=>∃pre' H' w,pre'.length=xs.length/\Inv X' pins (pre'++σ) H' s₄/\Same H2 H'/\RelV w x/\Den B H' z w) noE s3
      else o=none/\∃pre' H',pre'.length=xs.length/\Inv X' pins (pre'++σ) H' s3/\Same H2 H'):=by
  intro s3 H3 t I3 s23 qt;rw[qt]at hF';cases t with
  |true =>
    rw[if_pos rfl];simp only[R.bind,if_true]at hF';cases qx:ev C x δ1 with
    |ok z =>
      simp only[qx]at hF';have eo:o=some z:=by injection hF' with h;exact h.symm
      refine⟨z,eo,?_⟩;have hh:=he pins s3 (P++σ) H3 (λw H'=>Same H3 H'/\Den B H' z w) I3 ⟨_,ok1.mono s23,by rw[qx];exact λw H' s' d'=>⟨s',d'⟩⟩
      rw[hxe]at hh;exact thn hh λx' s4 ⟨w,H',I4,rw4,s34,d4⟩=>⟨P,H',w,hlen,I4,s23.trans s34,rw4,d4⟩
    |exc c=>simp only[qx]at hF';cases hF'
    |bad=>simp only[qx]at hF';cases hF'
  |false =>
    rw[if_neg Bool.false_ne_true];simp only[R.bind,q_v,if_false]at hF';have eo:o=none:=by injection hF' with h;exact h.symm
    exact⟨eo,P,H3,hlen,I3,s23⟩
 rcases hifs with ⟨e1,e2⟩|⟨c',e1⟩
 ·subst e1;subst e2;exact wpAny_tests_nil (elt_go s2 H2 true I2 (Same.refl _) (by simp only[evT]))
 ·subst e1;refine wpAny_tests_one ?_;cases qt:evT C y δ1 with
  |ok t =>
    have hh:=hc c' rfl pins s2 (P++σ) H2 (λt' H'=>t'=t/\Same H2 H') I2 ⟨_,ok1,by rw[qt];exact λH' s'=>⟨rfl,s'⟩⟩
    rw[hxe]at hh;refine thn hh λt' s3 ⟨H3,I3,e3,s23⟩=>?_;subst e3;exact elt_go s3 H3 t' I3 s23 qt
  |exc c=>rw[qt]at hF';cases hF'
  |bad=>rw[qt]at hF';cases hF'
def REF(B:Bs)(C:Cn)(XX:Nat->Hp->Prop)(x:E):TE:=λσ H Q=>∃δ,Sok B σ H δ/\(match ev C x δ with
 |.ok d=>∀D ds xs H1,d=ds->Same H H1->H1 D=none->OwnO B H1 ds xs->Q (.ref D) (upd H1 D xs)
 |.exc c=>XX c H
 |.bad=>False)
theorem REF.of{e:Expr}(h:PE X e (REF B C XX x))(hl:∀δ d,ev C x δ=.ok d->∃ds,d=.list ds):PE X e (RE B C XX x) :=
 PE.imp h λσ H Q ⟨δ,ok,k⟩=>by
  refine⟨δ,ok,?_⟩;cases q:ev C x δ with
  |ok d =>
   rw[q]at k;intro D ds xs H1 e s1 hD dn;refine k _ _ (s1.trans (JBC hD)) ?_;subst e;obtain⟨ys,rfl⟩:=hl δ _ q;exact(OwnO.mono (JBC hD) _ xs dn).den JAI
  |exc c=>rw[q]at k;exact k
  |bad=>rw[q]at k;exact k
theorem JOF(g:Gk X B C CX XX G)(h:PA X es (RA B C XX x))(hl:cnt x<=1000):PE X (.List es pos) (REF B C XX (.lst x)) :=
 PE.imp (JKG h) λσ H Q ⟨δ,ok,k⟩=>by
  simp only[ev]at k;refine⟨δ,ok,?_⟩;cases q:evA C x δ with
  |ok ds =>
   rw[q]at k;intro vs H1 s1 d1;have e1:=DenL.len ds vs d1;have e2:=JB5 x δ ds q;exact⟨by rw[sizeLine_eq];omega,λp hp=>k p _ (.lst vs) H1 rfl s1 hp d1⟩
  |exc c=>rw[q]at k;exact k
  |bad=>rw[q]at k;exact k.elim
theorem JFk[Cool G](g:Gk X B C CX XX G){k:Nat}(b:BlkOk X sc xs)(hi:PI X target iter (RI B C XX z))(hs:∀v,foldedSetIterable iter X.env v=pure v)
  (hrun:∀Cc fp s0 H0 σ δ,JBn (JAd X sc Cc (xs++mask xs 0 X.N) fp s0 H0) B σ xs.length δ target elt ifs (itemF C k x y δ))
  {pins:Pq}{s:Shared}{σ:St}{H:Hp}{Q:VK}{pos':Pos}{use:Option (Value->Sem Unit)}{Q':Vq}(I:Inv X pins σ H s) (h:REF B C XX (.cmpr k x z y) σ H Q)
  (fin:∀(D Cc:Addr) (s':Shared) (m:Mq) (H':Hp),s'.heap.Ns Cc m->Inv X pins σ H' s'->Q (.ref D) H'->H' Cc=none->Cc≠X.env.locals->X.s₀.heap.objs.size<=Cc ->
    (∀x c,X.env.cells.lookup x=some c->c≠Cc)->(∀p∈X.pn++pins,p.1≠Cc)->compPost (model X.prog X.w) X.A X.xe use Q' (.ref D) Cc (.ok .next) s') :
  wpAny (model X.prog X.w) X.A (comprehension (.ListComp elt [⟨target,iter,ifs,0⟩] sc pos) sc X.env pos' (newList []) false (eval iter X.env) use) Q' X.xe s:=by
 obtain⟨δ,ok,kk⟩:=h;simp only[ev]at kk;cases q:evI C z δ with
 |ok ds =>
  simp only[q,R.bind]at kk
  split at kk
  · rename_i d hd
    split at hd
    · rename_i hlen
      cases qz:JBI (itemF C k x y δ) ds with
      |ok zs =>
       have qz':=qz;unfold itemF at qz';simp only[R.bind]at qz';rw[qz']at hd;have hd':PyData.list zs=d:=by injection hd
       refine JHV g b hi hs (λCc fp s0 H0=>hrun Cc fp s0 H0 σ δ) I ok q hlen qz ?_;intro D Cc s' m H3 yv hn J sm hD dn h1 h2 h3 h4 h5;exact fin D Cc s' m _ hn J (kk D _ (.lst yv) H3 hd'.symm sm hD dn) h1 h2 h3 h4 h5
      |exc c=>exact(JB0 qz).elim
      |bad=>unfold itemF at qz;simp only[R.bind]at qz;rw[qz]at hd;cases hd
    · cases hd
  · rename_i c hd
    exfalso
    split at hd
    · cases qz:JBI (itemF C k x y δ) ds with
      |ok zs=>unfold itemF at qz;simp only[R.bind]at qz;rw[qz]at hd;cases hd
      |exc c=>exact(JB0 qz).elim
      |bad=>unfold itemF at qz;simp only[R.bind]at qz;rw[qz]at hd;cases hd
    · cases hd
  · exact kk.elim
 |exc c =>
  simp only[q,R.bind]at kk;refine wpAny_comprehension_free rfl hs (b.clos I.ok) b.kind b.loc (wpAny_mono (hi pins s σ H (λ_ _=>False) I ⟨δ,ok,by rw[q];exact kk⟩) (λxv s₁ h₁=>wpAny_mono h₁ (λitv s₂ h₂=>?_) (λ_ _ e=>e)) (λ_ _ e=>e))
  obtain⟨_,_,_,_,_,_,_,_,_,_,f⟩:=h₂;exact f.elim
 |bad=>simp only[q,R.bind]at kk
theorem JCd[Cool G](g:Gk X B C CX XX G){k:Nat}(b:BlkOk X sc xs)(hi:PI X target iter (RI B C XX z))(hs:∀v,foldedSetIterable iter X.env v=pure v)
  (hrun:∀Cc fp s0 H0 σ δ,JBn (JAd X sc Cc (xs++mask xs 0 X.N) fp s0 H0) B σ xs.length δ target elt ifs (itemF C k x y δ)) :
  PE X (.ListComp elt [⟨target,iter,ifs,0⟩] sc pos) (REF B C XX (.cmpr k x z y)):=by
 intro pins s σ H Q I h;rw[eval_ListComp];refine JFk (use:=none) g b hi hs hrun I h ?_;intro D Cc s' m H' hn J hq h1 h2 h3 h4 h5;refine⟨m,hn,λh' hsb=>?_⟩;have J':=J.turned (h':=h') (t':=s'.toks) (it:=Cc) (λb o hb e=>(hsb.2 b hb).trans e) h1 h2 (.inr h3) h4 h5;exact⟨.ref D,H',J',rfl,hq⟩
theorem JJE[Cool G](g:Gk X B C CX XX G){k i:Nat}(b:BlkOk X sc xs)(hi:PI X target iter (RI B C XX z))(hs:∀v,foldedSetIterable iter X.env v=pure v)
  (hrun:∀Cc fp s0 H0 σ δ,JBn (JAd X sc Cc (xs++mask xs 0 X.N) fp s0 H0) B σ xs.length δ target elt ifs (itemF C k x y δ))
  (hsw:swapsWith (.ListComp elt [⟨target,iter,ifs,0⟩] sc pos) (some (.Name nm px)) spos.line X.env=pure true) (hnd:X.N.Nodup) (hN:X.N[i]? = some nm) (hloc:X.env.scope.names.lookup nm=some .local) :
  PS X (.Assign [.Name nm px] (.ListComp elt [⟨target,iter,ifs,0⟩] sc pos) spos) (tAsg (REF B C XX (.cmpr k x z y)) (JFK i)):=by
 intro pins s σ H D I h;rw[exec_Assign_Name_used _ _ _ _ hsw];refine q_b (wpAny_standAt (q_b ?_));show wpAny _ _ (do let _<-comprehension (.ListComp elt [⟨target,iter,ifs,0⟩] sc pos) sc X.env _ (newList []) false (eval iter X.env) (some (assign (.Name nm px) X.env))) _ _ s
 refine q_b (wpAny_mono (JFk (use:=some (assign (.Name nm px) X.env)) (Q':=λ_ s'=>SP X pins D .next s') g b hi hs hrun I h ?_) (λ_ s' hq=>q_e (q_e hq)) λ_ _ e=>e);intro Da Cc s' m H' hn J hq h1 h2 h3 h4 h5;show wpAny _ _ (assign (.Name nm px) X.env (.ref Da)) _ _ s';refine wpAny_assign_Name (JEI J hnd hN (.inl hloc) (v:=.ref Da) rfl (λs2 J2 hch=>?_) (.inr hloc));obtain⟨a,sb,ha⟩:=hch;have hne:Cc≠a:=by
  rcases ha with z|z
  · rw[z];exact h2
  · exact λe=>h4 nm a z e.symm
 refine⟨m,hn.sameBut sb hne,λh' hsb=>?_⟩;exact⟨_,H',J2.turned (h':=h') (t':=s2.toks) (it:=Cc) (λb o hb e=>(hsb.2 b hb).trans e) h1 h2 (.inr h3) h4 h5,hq⟩
end
theorem JK0(hk:X.env.scope.kind=.function)(hn:X.env.scope.names=names)(hN:X.N=N)(hs:sc.kind=.function)(h:JBk names sc.names xs N=true):BlkOk X sc xs:=by
 subst hn;subst hN;unfold JBk at h;simp only[q_i,List.all_eq_true]at h;obtain⟨⟨⟨⟨h1,h2⟩,h3⟩,h4⟩,h5⟩:=h;refine⟨hs,λy hy=>?_,λy hy hl=>?_,λn hm=>?_,λx hx=>?_,λy hy hx=>?_,λi hi hv=>?_,of_decide_eq_true h5⟩
 ·have:=(h1 y hy).1.1;intro e;rw[e]at this;simp at this
 ·have:=(h1 y hy).1.2;rw[hl]at this;simpa using this
 ·have:=(h1 (n,.free) hm).2;simpa[PySem.Env.kindOf] using this
 ·simpa using h2 x hx
 ·have:=h3 y hy;simp only[Bool.or_eq_true,bne_iff_ne,ne_eq]at this;rcases this with e|e
  ·exact absurd (by simpa using e) hx
  ·exact e
 ·have:=h4 i (List.mem_range.mpr hi);unfold Vis at hv;rw[JAV hk]at hv;rcases hv with e|e|e<;>(rw[e]at this;simp[vis]at this)
section
variable{X:Cx}{B:Bs}{C:Cn}{CX:CXT}{XX:Nat->Hp->Prop}{G:List (Str×GK)}{pos p:Pos}{names:Nq}{N:List Str}{n:Nat}
theorem allA(g:Gk X B C CX XX G)(ih:∀e x,JAN G n false names N e=some x->PE X e (RE B C XX x)):∀ {es:List Expr}{x:E},JAG (JAN G n false names N) es=some x->PA X es (RA B C XX x)
 | [],x,h=>by unfold JAG at h;cases h;exact a_nil
 |e::es,x,h=>by
  unfold JAG at h;obtain⟨a,h1,h⟩:=q_a.mp h;obtain⟨b,h2,h⟩:=q_a.mp h;cases h;exact JNg g (ih e a h1) (allA g ih h2) (JAX h1 es X.env)
theorem JLP(g:Gk X B C CX XX G)(ih:∀e x,JAN G n false names N e=some x->PE X e (RE B C XX x)/\PT X e (RT B C XX x)):∀ {es:List Expr}{x:E},JAv .and (JAN G n false names N) es=some x ->
  PE X (.BoolOp .And es pos) (RE B C XX x)/\PW X (.BoolOp .And es pos) (RT B C XX x)
 | [],x,h=>by unfold JAv at h;cases h
 | [e],x,h=>by
  unfold JAv at h;exact⟨JKq (ih e x h).1,JMU (ih e x h).2⟩
 |e::e'::es,x,h=>by
  unfold JAv at h;obtain⟨a,h1,h⟩:=q_a.mp h;obtain⟨b,h2,h⟩:=q_a.mp h;cases h;obtain⟨q1,q2⟩:=JLP g ih h2;exact⟨s_and g (ih e a h1).1 q1,w_and g (ih e a h1).2 q2⟩
theorem JNj(g:Gk X B C CX XX G)(ih:∀e x,JAN G n false names N e=some x->PE X e (RE B C XX x)/\PT X e (RT B C XX x)):∀ {es:List Expr}{x:E},JAv .or (JAN G n false names N) es=some x ->
  PE X (.BoolOp .Or es pos) (RE B C XX x)/\PW X (.BoolOp .Or es pos) (RT B C XX x)
 | [],x,h=>by unfold JAv at h;cases h
 | [e],x,h=>by
  unfold JAv at h;exact⟨JKq (ih e x h).1,JPD (ih e x h).2⟩
 |e::e'::es,x,h=>by
  unfold JAv at h;obtain⟨a,h1,h⟩:=q_a.mp h;obtain⟨b,h2,h⟩:=q_a.mp h;cases h;obtain⟨q1,q2⟩:=JNj g ih h2;exact⟨s_or g (ih e a h1).1 q1,w_or g (ih e a h1).2 q2⟩
theorem JA1{x:Str}{k:GK}(h:glob G names x=some k):JAU x=false/\names.lookup x=some .globalImplicit/\G.lookup x=some k:=by
 unfold glob at h
 split at h
 ·cases h
 ·rename_i hb
  split at h
  ·rename_i hg;exact⟨by simpa using hb,hg,h⟩
  ·cases h
theorem JDH(hn:X.env.scope.names=names)(h:vis (names.lookup x)=true):Vis X.env.scope x:=by
 unfold Vis;rw[hn];cases q:names.lookup x with
 |none=>rw[q]at h;cases h
 |some k=>cases k<;>simp_all [vis]
theorem JBm(hn:X.env.scope.names=names)(h:names.lookup x=some .globalImplicit):Gl X x:=by
 show X.env.scope.names.lookup x=_;rw[hn];exact h
theorem JJL(h:cmpD op d d'=.ok r):∃k,r=.bool k:=by
 cases op<;>simp only[cmpD]at h<;>(repeat' split at h)<;>first|(cases h;exact⟨_,rfl⟩)|cases h
theorem JEy(h:ev C (.cmp op x y) δ=.ok d):∃k,d=.bool k:=by
 simp only[ev]at h;cases q:ev C x δ with
 |ok dx =>
  cases q2:ev C y δ with
  |ok dy=>rw[q,q2]at h;exact JJL h
  |exc c=>rw[q,q2]at h;cases h
  |bad=>rw[q,q2]at h;cases h
 |exc c=>rw[q]at h;cases h
 |bad=>rw[q]at h;cases h
end
end VI
end
section
namespace VI
open PySem PySem.Spec PyProof.Rows L2
section
variable{X:Cx}{B:Bs}{C:Cn}{CX:CXT}{XX:Nat->Hp->Prop}{G:List (Str×GK)}{a b c:Expr}{x y z:E}{pos p:Pos}
theorem JQN(n d:Nat)(o:Option Int):sI n d o=HT.sIx n d o:=by cases o<;>rfl
theorem JFq{o:Option Int}(h:JB8 e=some o):∃t,PO X e t/\∀σ H Q,Q o H->t σ H Q:=by
 unfold JB8 at h
 split at h
 ·cases h;exact⟨_,JMc,λσ H Q q=>q⟩
 ·cases h;exact⟨_,JIU JEa,λσ H Q q=>⟨_,rfl,q⟩⟩
 ·cases h;exact⟨_,JIU (JP4 JK6 JEa),λσ H Q q=>⟨_,rfl,_,rfl,q⟩⟩
 ·cases h
theorem DenL.drop:∀(n:Nat) (ds:List D) (vs:List V),DenL B H ds vs->DenL B H (ds.drop n) (vs.drop n)
 |0,ds,vs,h=>h
 |n+1,[],vs,h=>by simp only[DenL]at h;subst h;simp only[List.drop_nil,DenL]
 |n+1,d::ds,vs,h=>by
  simp only[DenL]at h;obtain⟨v,r,e,q,l⟩:=h;subst e;exact DenL.drop n ds r l
theorem DenL.take:∀(n:Nat) (ds:List D) (vs:List V),DenL B H ds vs->DenL B H (ds.take n) (vs.take n)
 |0,ds,vs,h=>by simp only[List.take_zero,DenL]
 |n+1,[],vs,h=>by simp only[DenL]at h;subst h;simp only[List.take_nil,DenL]
 |n+1,d::ds,vs,h=>by
  simp only[DenL]at h;obtain⟨v,r,e,q,l⟩:=h;subst e;simp only[List.take_succ_cons,DenL];exact⟨v,_,rfl,q,DenL.take n ds r l⟩
theorem DenL.cut(h:DenL B H ds vs)(lo hi:Option Int):DenL B H (cutD ds lo hi) (cutV vs lo hi):=by
 unfold cutD cutV;have e:=DenL.len _ _ h;simp only[JQN,e];exact DenL.take _ _ _ (DenL.drop _ _ _ h)
theorem JHu{lo hi:Option Int}(h:HT.sIx xs.length 0 lo=0/\HT.sIx xs.length xs.length hi=xs.length):cutD xs lo hi=xs:=by
 unfold cutD;simp only[JQN,h.1,h.2];simp
theorem JBD{H:Hp}{q:Addr}{o:HO}(h:H q=none):Same H (upd H q o):=λb u e=>by rw[JAK (JAZ e h)];exact e
theorem JLv(g:Gk X B C CX XX G){lo hi:Option Int}(hs:sliceOf i=some (lo,hi))(ha:PE X a (RE B C XX x)):PE X (.Subscript a i pos) (RE B C XX (.fn1 (.slice lo hi) x)):=by
 unfold sliceOf at hs
 split at hs
 ·rename_i l h p2;obtain⟨l',h1,hs⟩:=q_a.mp hs;obtain⟨h',h2,hs⟩:=q_a.mp hs;cases hs;obtain⟨tl,pl,ql⟩:=JFq (X:=X) h1;obtain⟨th,ph,qh⟩:=JFq (X:=X) h2;refine PE.imp (JJg (SlR.or (SlR.or JNu JMJ) JNC) ha pl ph) λσ H Q ⟨δ,ok,k⟩=>?_;simp only[ev]at k;refine RE.of (W:=λr H=>KE B XX r H Q) ok (λ_ _ z=>z) (λ_ z=>z) k λd v H1 s1 d1 h1=>?_;refine ql _ _ _ (qh _ _ _ ?_);have h1:=KE.mono g s1 h1;cases d<;>first|exact fF h1|skip
  ·rename_i ds;simp only[Den]at d1;obtain⟨q,vs,e,sq,l⟩:=d1;refine .inr ⟨q,vs,e,g.K▸sq,λp' hp=>?_⟩;have sm:Same H1 (upd H1 p' (.lst (cutV vs lo hi))):=JBD hp;refine h1 _ _ sm ?_;simp only[Den];exact⟨p',_,rfl,SqL.of JAI,DenL.mono sm _ _ (DenL.cut l lo hi)⟩
  ·rename_i ds;simp only[Den]at d1;obtain⟨q,vs,e,sq,l⟩:=d1;have el:=DenL.len _ _ l
   by_cases hw:HT.sIx vs.length 0 lo=0/\HT.sIx vs.length vs.length hi=vs.length
   ·refine .inl (.inr ⟨q,vs,e,g.K▸sq,hw,?_⟩);refine h1 _ _ (Same.refl H1) ?_;rw[JHu (by rw[el];exact hw)]
    subst e;simp only[Den];exact⟨q,vs,rfl,sq,l⟩
   ·refine .inl (.inl ⟨q,vs,e,g.K▸sq,hw,λp' hp=>?_⟩);have sm:Same H1 (upd H1 p' (.tup (cutV vs lo hi))):=JBD hp;refine h1 _ _ sm ?_;simp only[Den];exact⟨p',_,rfl,SqT.of JAI,DenL.mono sm _ _ (DenL.cut l lo hi)⟩
 ·cases hs
theorem JPO(g:Gk X B C CX XX G)(ho:o1Of ty=some o)(hf:JA7 ty=some f)(hg:Gl X f)(hl:G.lookup f=some (.ty ty))(hb:JAU f=false)(ha:PE X a (RE B C XX x))
  (he:starEach [a] X.env=[(false,eval a X.env)]):PE X (.Call (.Name f p) [a] [] pos) (RE B C XX (.fn1 o x)):=by
 have key:∀ {T:String}{r:List V->Hp->VK->Prop},JBM X (.type T) r->bootBuiltins f=some (.type T) ->
    (∀d v H Q,Den B H d v->KE B XX (op1D o d) H Q->r [v] H Q)->PE X (.Call (.Name f p) [a] [] pos) (RE B C XX (.fn1 o x)):=λ{T r} hc hv hr=>by
  refine PE.imp (JEJ (es:=[]) hc hg (g.ty f ty hl) hv (JCE ha JEW he) (JAJ hb).2.2 (JAJ hb).1 he rfl) λσ H Q ⟨δ,ok,k⟩=>?_;simp only[ev]at k;refine RE.of (W:=λr H=>KE B XX r H Q) ok (λ_ _ z=>z) (λ_ z=>z) k λd v H1 s1 d1 h1=>?_;exact hr d v H1 Q d1 (KE.mono g s1 h1)
 cases ty<;>simp only[o1Of,q_j,reduceCtorEq]at ho
 ·subst ho;simp only[JA7,q_j]at hf;subst hf;refine key JEo (by decide +kernel) λd v H Q dn k=>?_
  cases d<;>first|exact fF k|skip
  · simp only[Den]at dn
    obtain⟨q,vs,e,sq,l⟩:=dn;subst e;refine⟨q,vs,rfl,.inl (g.K▸sq),λp' hp=>?_⟩;have sm:Same H (upd H p' (.lst vs)):=JBD hp;refine k _ _ sm ?_;simp only[Den];exact⟨p',_,rfl,SqL.of JAI,DenL.mono sm _ _ l⟩
  · simp only[Den]at dn
    obtain⟨q,vs,e,sq,l⟩:=dn;subst e;refine⟨q,vs,rfl,.inr (g.K▸sq),λp' hp=>?_⟩;have sm:Same H (upd H p' (.lst vs)):=JBD hp;refine k _ _ sm ?_;simp only[Den];exact⟨p',_,rfl,SqL.of JAI,DenL.mono sm _ _ l⟩
 ·subst ho;simp only[JA7,q_j]at hf;subst hf;refine key JDb (by decide +kernel) λd v H Q dn k=>?_
  cases d<;>first|exact fF k|skip
  · simp only[Den]at dn
    obtain⟨q,vs,e,sq,l⟩:=dn;subst e;refine⟨q,vs,rfl,.inl ⟨g.K▸sq,λp' hp=>?_⟩⟩;have sm:Same H (upd H p' (.tup vs)):=JBD hp;refine k _ _ sm ?_;simp only[Den];exact⟨p',_,rfl,SqT.of JAI,DenL.mono sm _ _ l⟩
  · have dn':=dn
    simp only[Den]at dn;obtain⟨q,vs,e,sq,l⟩:=dn;subst e;exact⟨q,vs,rfl,.inr ⟨g.K▸sq,KE.ok k dn'⟩⟩
theorem s_pow{i j:Nat}{u v:Int}(h0:0<=u)(h1:u<=100)(h2:0<=v)(h3:v<=20):PE X (.BinOp (.Constant (.int u) i p1) .Pow (.Constant (.int v) j p2) pos) (RE B C XX (.cint (u ^ v.toNat))) :=
 PE.imp (JPK JOU JEa JEa) λσ H Q ⟨δ,ok,k⟩=>by
  simp only[ev]at k;exact⟨u,v,rfl,rfl,⟨h2,by omega,by omega⟩,KE.ok k (by simp only[Den])⟩
theorem JHL:OpR X (compareOp .IsNot) (λv u H Q=>∃c d,v=.bl c/\u=.bl d/\Q (.bl (!(c==d))) H):=by
 intro pins s σ H v u w t Q I rx ry ⟨c,d,e1,e2,q⟩;subst e1;subst e2;cases rx;cases ry;exact isnot_bool ⟨.bl _,H,I,rfl,q⟩
theorem JOm(g:Gk X B C CX XX G){j:Nat}{k:Bool}(ha:PE X a (RE B C XX x)):PE X (.Compare a [.IsNot] [.Constant (.bool k) j pos'] pos) (RE B C XX (.isnB x k)) :=
 PE.imp (JEx JHL ha JHp rfl) λσ H Q ⟨δ,ok,kk⟩=>by
  simp only[ev]at kk;refine RE.of (W:=λr H=>KE B XX r H Q) ok (λ_ _ z=>z) (λ_ z=>z) kk λd v H1 s1 d1 h1=>?_;cases d<;>first|exact fF h1|skip
  rename_i t;simp only[Den]at d1;exact⟨t,k,d1,rfl,KE.ok (KE.mono g s1 h1) (by simp only[Den])⟩
theorem JFs(g:Gk X B C CX XX G){j:Nat}{k:Bool}(ha:PE X a (RE B C XX x)):PT X (.Compare a [.IsNot] [.Constant (.bool k) j pos'] pos) (RT B C XX (.isnB x k)) :=
 PT.imp (JE4 JHL ha JHp rfl) λσ H Q ⟨δ,ok,kk⟩=>by
  simp only[evT]at kk;refine RE.of (W:=λr H=>KB XX r H Q) ok (λ_ _ z=>z) (λ_ z=>z) kk λd v H1 s1 d1 h1=>?_;cases d<;>first|exact fF h1|skip
  rename_i t;simp only[Den]at d1;exact⟨t,k,d1,rfl,!(t==k),rfl,h1 H1 s1⟩
end
end VI
end
section
namespace VI
open PySem PySem.Spec PyProof.Rows L2
section
variable{X:Cx}{B:Bs}{C:Cn}{CX:CXT}{XX:Nat->Hp->Prop}{G:List (Str×GK)}{a b c tg:Expr}{x y z:E}{pos p:Pos}
theorem JIy(g:Gk X B C CX XX G){j:Nat}(ha:PE X a (RE B C XX x)):PT X (.Compare a [.Is] [.Constant .none j pos'] pos) (RT B C XX (.isN x false)) :=
 PT.imp (JLb (JK4 ha)) λσ H Q ⟨δ,ok,k⟩=>by
  simp only[evT]at k;refine RE.of (W:=λr H=>KB XX r H Q) ok (λ_ _ z=>z) (λ_ z=>z) k λd v H1 s1 d1 h1=>?_;exact⟨isNone d,by rw[JCX d1],by simpa using h1 H1 s1⟩
theorem JNQ(g:Gk X B C CX XX G){j:Nat}(ha:PE X a (RE B C XX x)):PT X (.Compare a [.IsNot] [.Constant .none j pos'] pos) (RT B C XX (.isN x true)) :=
 PT.imp (JLb (JIJ ha)) λσ H Q ⟨δ,ok,k⟩=>by
  simp only[evT]at k;refine RE.of (W:=λr H=>KB XX r H Q) ok (λ_ _ z=>z) (λ_ z=>z) k λd v H1 s1 d1 h1=>?_;exact⟨!isNone d,by rw[JCX d1],by simpa using h1 H1 s1⟩
theorem JJo(g:Gk X B C CX XX G){j:Nat}{k:Bool}(ha:PE X a (RE B C XX x)):PT X (.Compare a [.Is] [.Constant (.bool k) j pos'] pos) (RT B C XX (.isB x k)) :=
 PT.imp (JE4 JLX ha JHp rfl) λσ H Q ⟨δ,ok,kk⟩=>by
  simp only[evT]at kk;refine RE.of (W:=λr H=>KB XX r H Q) ok (λ_ _ z=>z) (λ_ z=>z) kk λd v H1 s1 d1 h1=>?_;cases d<;>first|exact fF h1|skip
  rename_i t;simp only[Den]at d1;exact⟨t,k,d1,rfl,t==k,rfl,h1 H1 s1⟩
end
theorem JBr{k:Nat}(δ:Env)(d:D)(h:ev C (.cmpr k x z y) δ=.ok d):∃ds,d=.list ds:=by
 simp only[ev]at h;cases q:evI C z δ with
 |ok xs =>
  simp only[q,R.bind]at h
  split at h
  ·cases qz:JBI (itemF C k x y δ) xs with
   |ok zs=>unfold itemF at qz;simp only[R.bind]at qz;rw[qz]at h;cases h;exact⟨zs,rfl⟩
   |exc c=>exact(JB0 qz).elim
   |bad=>unfold itemF at qz;simp only[R.bind]at qz;rw[qz]at h;cases h
  ·cases h
 |exc c=>simp only[q,R.bind]at h;cases h
 |bad=>simp only[q,R.bind]at h;cases h
theorem JGt{k:Nat}(h:JMW a op b=some (es,k)):∃p kk j p2,a=.List es p/\op=.Mult/\b=.Constant (.int kk) j p2/\k=kk.toNat/\0<=kk/\kk<=1000/\es.length<=1000:=by
 unfold JMW at h
 split at h
 ·split at h
  ·rename_i hc;cases h;exact⟨_,_,_,_,rfl,rfl,rfl,rfl,hc.1,hc.2.1,hc.2.2⟩
  ·cases h
 ·cases h
theorem JGs{u v:Int}(h:JMy a op b=some (u,v)):∃i p j p2,a=.Constant (.int u) i p/\op=.Pow/\b=.Constant (.int v) j p2/\0<=u/\u<=100/\0<=v/\v<=20:=by
 unfold JMy at h
 split at h
 ·split at h
  ·rename_i hc;cases h;exact⟨_,_,_,_,rfl,rfl,rfl,hc.1,hc.2.1,hc.2.2.1,hc.2.2.2⟩
  ·cases h
 ·cases h
abbrev Ow:=Nat->Option Addr
open Classical in
noncomputable def hidP(H:Hp)(P:Addr->Prop):Hp:=λb=>if P b then none else H b
def ownP(O:Ow)(b:Addr):Prop:=∃i,O i=some b
noncomputable abbrev hid(H:Hp)(O:Ow):Hp:=hidP H (ownP O)
def JAM(B:Bs)(H₀ H:Hp)(O:Ow)(σ:St)(i:Nat):Option Sl->Prop
 |some (.own d)=>∃a ds xs,O i=some a/\d=ds/\σ[i]? = some (some (.ref a))/\H a=some xs/\H₀ a=none/\OwnO B (hid H O) ds xs
 |some (.val d)=>O i=none/\∃v,σ[i]? = some (some v)/\Den B (hid H O) d v
 |_=>O i=none
structure SO(B:Bs)(H₀:Hp)(σ:St)(H:Hp)(δ:Env)(O:Ow):Prop where
 len:σ.length=δ.length
 same:Same H₀ H
 inj:∀i j a,O i=some a->O j=some a->i=j
 slot:∀i,JAM B H₀ H O σ i δ[i]?
def JEs(X:Cx)(B:Bs)(XX:Nat->Hp->Prop)(Hb:Hp)(D:Ends):Fl->Prop
 |.nx δ=>∀σ H O,SO B Hb σ H δ O->D.nx σ H
 |.rt d=>∀v H,Same Hb H->Den B H d v->D.rt v H
 |.bk δ=>∀σ H O,SO B Hb σ H δ O->D.bk σ H
 |.ct δ=>∀σ H O,SO B Hb σ H δ O->D.ct σ H
 |.ex c=>XX c Hb
 |.bad=>False
def RSt(X:Cx)(B:Bs)(C:Cn)(XX:Nat->Hp->Prop)(t:S):TS:=λD σ H=>∃δ O Hb,Same X.H₀ Hb/\SO B Hb σ H δ O/\JEs X B XX Hb D (exec C t δ)
section
variable{B:Bs}{C:Cn}{CX:CXT}{G:List (Str×GK)}
def PEs(X:Cx)(B:Bs)(C:Cn)(XX:Nat->Hp->Prop):List Expr->E->Prop
 | [],.nil=>True
 |a::r,.cons x y=>PE X a (RE B C XX x)/\PEs X B C XX r y
 |_,_=>False
structure XOk(B:Bs)(C:Cn)(CX:CXT)(G:List (Str×GK))(k:XO):Prop where
 val:∀(X:Cx) (XX:Nat->Hp->Prop),Gk X B C CX XX G->∀(e:Expr) (args:List Expr) (y:E),xRaw G X.env.scope.names false e=some (k,args)->PEs X B C XX args y->PA X args (RA B C XX y)->(∀a∈args,∀es env,starEach (a::es) env=(false,eval a env)::starEach es env)->cnt y=args.length->PE X e (RE B C XX (.xop k y))
 itr:∀(X:Cx) (XX:Nat->Hp->Prop),Gk X B C CX XX G->∀(tg e:Expr) (args:List Expr) (y:E),xRaw G X.env.scope.names true e=some (k,args)->PA X args (RA B C XX y)->(∀a∈args,∀es env,starEach (a::es) env=(false,eval a env)::starEach es env)->cnt y=args.length->PI X tg e (RI B C XX (.xop k y))
 tgt:∀(X:Cx) (XX:Nat->Hp->Prop),Gk X B C CX XX G->∀(ts:List Expr) (kt:Nat) (pt:Pos) (e:Expr) (args:List Expr) (y:E),xTgt G X.env.scope.names e=some (k,args)->PA X args (RA B C XX y)->(∀a∈args,∀es env,starEach (a::es) env=(false,eval a env)::starEach es env)->cnt y=args.length->PI X (.Tuple ts kt pt) e (RI B C XX (.xop k y))
structure DOk(B:Bs)(C:Cn)(CX:CXT)(G:List (Str×GK)):Prop where
 val:∀(X:Cx) (XX:Nat->Hp->Prop),Gk X B C CX XX G->∀(e:Expr) (k:XO) (args:List Expr) (y:E),dRaw G X.env.scope.names false e=some (k,args)->PEs X B C XX args y->(∀a∈args,∀es env,starEach (a::es) env=(false,eval a env)::starEach es env)->PE X e (RE B C XX (.xop k y))/\PT X e (RT B C XX (.xop k y))
 itr:∀(X:Cx) (XX:Nat->Hp->Prop),Gk X B C CX XX G->∀(tg e:Expr) (k:XO) (args:List Expr) (y:E),dRaw G X.env.scope.names true e=some (k,args)->PEs X B C XX args y->(∀a∈args,∀es env,starEach (a::es) env=(false,eval a env)::starEach es env)->PI X tg e (RI B C XX (.xop k y))
 own:∀(X:Cx) (XX:Nat->Hp->Prop),Gk X B C CX XX G->∀(e:Expr) (k:XO) (args:List Expr) (y:E),dRaw G X.env.scope.names false e=some (k,args)->JNo k=true->PEs X B C XX args y->(∀a∈args,∀es env,starEach (a::es) env=(false,eval a env)::starEach es env)->PE X e (REF B C XX (.xop k y))
 frz:∀(X:Cx) (XX:Nat->Hp->Prop),Gk X B C CX XX G->∀(st:Stmt) (t:S) (i:Nat),PS X st (RSt X B C XX t)->PS X st (RSt X B C XX (.cons (.frz i) t))
 put:∀(X:Cx) (XX:Nat->Hp->Prop),Gk X B C CX XX G->∀(nm:Str) (i:Nat) (p1 p2 pos:Pos) (ke v:Expr) (z y:E),X.N[i]? = some nm->Vis X.env.scope nm->JAU nm=false->isSlice ke=false->PE X v (RE B C XX y)->PE X ke (RE B C XX z) ->
  (∀t l,swapsWith v t l X.env=pure false)->PS X (.Assign [.Subscript (.Name nm p1) ke p2] v pos) (RSt X B C XX (.put i z y))
 pop:∀(X:Cx) (XX:Nat->Hp->Prop),Gk X B C CX XX G->∀(nm:Str) (i:Nat) (p1 ap cp pos:Pos) (a:Expr) (y:E),X.N[i]? = some nm->Vis X.env.scope nm->JAU nm=false->PE X a (RE B C XX y)->starEach [a] X.env=[(false,eval a X.env)]->(ap.endLine==cp.line)=true ->
  PS X (.Expr (.Call (.Attribute (.Name nm p1) "pop" ap) [a] [] cp) pos) (RSt X B C XX (.pop i y))
structure RO(B:Bs)(C:Cn)(CX:CXT)(G:List (Str×GK)):Prop where
 count:G.lookup (".met":Str)=some GK.opt->∀(X:Cx) (XX:Nat->Hp->Prop),Gk X B C CX XX G->∀(o a:Expr) (x y:E) (ap cp:Pos),JCD o=false->(ap.endLine==cp.line)=true->PE X o (RE B C XX x)->PE X a (RE B C XX y)->starEach [a] X.env=[(false,eval a X.env)] ->
  PE X (.Call (.Attribute o "count" ap) [a] [] cp) (RE B C XX (.mcount x y))
 index:G.lookup (".met":Str)=some GK.opt->∀(X:Cx) (XX:Nat->Hp->Prop),Gk X B C CX XX G->∀(o a:Expr) (x y:E) (ap cp:Pos),JCD o=false->(ap.endLine==cp.line)=true->PE X o (RE B C XX x)->PE X a (RE B C XX y)->starEach [a] X.env=[(false,eval a X.env)] ->
  PE X (.Call (.Attribute o "index" ap) [a] [] cp) (RE B C XX (.mindex x y))
 get:G.lookup (".get":Str)=some GK.opt->∀(X:Cx) (XX:Nat->Hp->Prop),Gk X B C CX XX G->∀(o a b:Expr) (x y z:E) (ap cp:Pos),JCD o=false->(ap.endLine==cp.line)=true->PE X o (RE B C XX x)->PE X a (RE B C XX y)->PE X b (RE B C XX z) ->
  starEach [a,b] X.env=[(false,eval a X.env),(false,eval b X.env)]->starEach [b] X.env=[(false,eval b X.env)]->PE X (.Call (.Attribute o "get" ap) [a,b] [] cp) (RE B C XX (.mget x y z))
 all:G.lookup ("all":Str)=some (.blt .all)->∀(X:Cx) (XX:Nat->Hp->Prop),Gk X B C CX XX G->JBM X (.builtin "all") (λvs H Q=>∃ds,DenL B H ds vs/\KE B XX (bltD .all ds) H Q)
 rvs:G.lookup (".rvs":Str)=some GK.opt->∀(X:Cx) (XX:Nat->Hp->Prop),Gk X B C CX XX G->∀(a i:Expr) (x:E) (pos:Pos),JPX i=true->PE X a (RE B C XX x)->PE X (.Subscript a i pos) (RE B C XX (.fn1 .rev x))
structure Rare(B:Bs)(C:Cn)(CX:CXT)(G:List (Str×GK)):Prop where
 nox:∀outer H s e s',¬CX outer H s (EX B λ_ _=>False) e s'
 isi:∀(X:Cx) (XX:Nat->Hp->Prop),Gk X B C CX XX G->∀(a:Expr) (x:E) (t:Str) (ty:Ty) (p pt pos:Pos),Gl X "isinstance"->Gl X t->G.lookup ("isinstance":Str)=some GK.isi->(G.lookup t=some (.ty ty)/\JA7 ty=some t\/∃c,ty=.own c/\G.lookup t=some (.cls c))->JAU t=false ->
  PE X a (RE B C XX x)->starEach [a,.Name t pt] X.env=(false,eval a X.env)::starEach [.Name t pt] X.env->PE X (.Call (.Name "isinstance" p) [a,.Name t pt] [] pos) (RE B C XX (.isi x ty))
 min:G.lookup ("min":Str)=some (.blt .min)->∀(X:Cx) (XX:Nat->Hp->Prop),Gk X B C CX XX G->JBM X (.builtin "min") (λvs H Q=>∃ds,DenL B H ds vs/\KE B XX (bltD .min ds) H Q)
 dct:G.lookup (".dct":Str)=some GK.opt->∀(X:Cx) (XX:Nat->Hp->Prop),Gk X B C CX XX G->∀(n:Nat) (names:Nq) (N:List Str) (ks:List (Option Expr)) (vs:List Expr) (xs:List Str) (x:E) (pos:Pos),(∀e x,JAN G n false names N e=some x->PE X e (RE B C XX x)) ->
  strKeys ks=some xs->1<=xs.length->xs.length<=15->xs.length=vs.length->xs.Nodup->JAG (JAN G n false names N) vs=some x->PE X (.Dict ks vs pos) (RE B C XX (.dct xs x))
 rep:G.lookup (".rep":Str)=some GK.opt->∀(X:Cx) (XX:Nat->Hp->Prop),Gk X B C CX XX G->∀(es:List Expr) (x:E) (k:Int) (j:Nat) (p p2 pos:Pos),PA X es (RA B C XX x)->cnt x<=1000->0<=k->k<=1000->PE X (.BinOp (.List es p) .Mult (.Constant (.int k) j p2) pos) (RE B C XX (.rep k.toNat x))
 xop:∀k:XO,G.lookup k.flag=some GK.opt->XOk B C CX G k
 dop:G.lookup (".dict":Str)=some GK.opt->DOk B C CX G
 ro:RO B C CX G
theorem JDQ(h:xT G names e=some q):xTgt G names e=some q/\G.lookup q.1.flag=some GK.opt:=by
 unfold xT at h;obtain⟨r,h1,h2⟩:=q_a.mp h
 split at h2
 ·cases h2;exact⟨h1,by assumption⟩
 ·cases h2
theorem JFM(h:xT G names e=some q)(env:PySem.Env)(v:Value):foldedSetIterable e env v=pure v:=by
 obtain⟨h1,_⟩:=JDQ h;unfold xTgt at h1
 split at h1
 ·rfl
 ·rfl
 ·cases h1
theorem JFl(h:dOn G names=true):G.lookup (".dict":Str)=some GK.opt:=of_decide_eq_true (Bool.and_eq_true_iff.mp h).1
theorem JGB{it:Bool}(h:dOf G names it e=some q):dRaw G names it e=some q/\G.lookup (".dict":Str)=some GK.opt:=by
 obtain⟨r,h1,h2⟩:=q_a.mp h
 split at h2
 ·cases h2;exact⟨h1,JFl (by assumption)⟩
 ·cases h2
theorem JFa{it:Bool}(h:xOf G names it e=some q):(dRaw G names it e=some q/\G.lookup (".dict":Str)=some GK.opt)\/xRaw G names it e=some q/\G.lookup q.1.flag=some GK.opt:=by
 unfold xOf at h;cases hd:dOf G names it e with
 |some r =>
  rw[hd]at h;cases h;exact .inl (JGB hd)
 |none =>
  rw[hd]at h;obtain⟨r,h1,h2⟩:=q_a.mp h
  split at h2
  ·rename_i hf;cases h2;exact .inr ⟨h1,hf⟩
  ·cases h2
theorem JJ1{it:Bool}(h:xRaw G names it e=some q):q.1.isT=false:=by
 have srt:∀ {f:Str}{a:Expr}{q:XO×List Expr},JEY G names f a=some q->q.1.isT=false:=λ{f a q} h=>by
  unfold JEY at h
  split at h
  ·split at h
   ·split at h
    ·cases h;dsimp only;split<;>rfl
    ·cases h;rfl
   ·cases h;rfl
  ·cases h
 unfold xRaw at h
 split at h
 rotate_left
 ·split at h<;>cases h;rfl
 ·split at h<;>cases h;rfl
 ·cases h
 unfold JCJ at h
 split at h
 ·split at h
  ·cases h;rfl
  ·exact srt h
 ·split at h
  ·split at h
   ·split at h
    ·cases h;rfl
    ·cases h
   ·cases h
  ·exact srt h
theorem JC6{n:Nat}:∀ {es:List Expr}{x:E},JAG (JAN G n false names N) es=some x->∀a∈es,∀r env,starEach (a::r) env=(false,eval a env)::starEach r env
 |e::es,x,h,a,ha,r,env=>by
  unfold JAG at h;obtain⟨y,h1,h⟩:=q_a.mp h;obtain⟨z,h2,h⟩:=q_a.mp h;rcases q_n.mp ha with z|ha
  ·subst z;exact JAX h1 r env
  ·exact JC6 h2 a ha r env
theorem pes{n:Nat}(ih:∀e x,JAN G n false names N e=some x->PE X e (RE B C XX x)):∀ {es:List Expr}{x:E},JAG (JAN G n false names N) es=some x->PEs X B C XX es x
 | [],x,h=>by unfold JAG at h;cases h;exact trivial
 |e::r,x,h=>by
  unfold JAG at h;obtain⟨y,h1,h⟩:=q_a.mp h;obtain⟨z,h2,h⟩:=q_a.mp h;cases h;exact⟨ih e y h1,pes ih h2⟩
theorem sound(ra:Rare B C CX G):∀(n:Nat) (X:Cx) (XX:Nat->Hp->Prop) (names:Nq) (N:List Str),Gk X B C CX XX G->X.env.scope.kind=.function->X.env.scope.names=names->X.N=N->N.Nodup ->
  (∀e x,JAN G n false names N e=some x->PE X e (RE B C XX x)/\PT X e (RT B C XX x))/\(∀tg e x,JAN G n true names N e=some x->PI X tg e (RI B C XX x))
 |0,X,XX,names,N,g,hk,hn,hN,hnd=>⟨λe x h=>by simp[JAN,JAY,JAL]at h,λtg e x h=>by simp[JAN,JAY,JAL]at h⟩
 |n+1,X,XX,names,N,g,hk,hn,hN,hnd=>by
  obtain⟨ih,ihI⟩:=sound ra n X XX names N g hk hn hN hnd;have ihE:∀e x,JAN G n false names N e=some x->PE X e (RE B C XX x):=λe x h=>(ih e x h).1;have truthOf:∀ {e:Expr}{x:E},PE X e (RE B C XX x)->(∀whole,isTrue e X.env whole=(do let v<-whole;standAt e.pos;holding [v] (truthy v)))->(∀δ,evT C x δ=(ev C x δ).bind truth)->PE X e (RE B C XX x)/\PT X e (RT B C XX x) :=
    λh1 h2 h3=>⟨h1,JM0 g h1 h2 h3⟩
  have valOnly:∀ {e:Expr}{x:E},PE X e (RE B C XX x)->(∀δ,evT C x δ=.bad)->PE X e (RE B C XX x)/\PT X e (RT B C XX x):=λh1 h2=>⟨h1,t_bad h2⟩;have nameE:∀(b:Bool) (x:Str) (p:Pos) (y:E),xOf G names b (.Name x p)=none->JAN G (n+1) b names N (.Name x p)=some y->PE X (.Name x p) (RE B C XX y)/\((∀δ,evT C y δ=(ev C y δ).bind truth)\/∀δ,evT C y δ=.bad)/\∀δ,evI C y δ=(ev C y δ).bind JAs:=by
    intro b x p y hxx h;rw[JAA hxx]at h;dsimp only[JAL]at h
    split at h
    ·cases h
    ·rename_i hb;have hb':JAU x=false:=by simpa using hb
     split at h
     · rename_i hv
       obtain⟨i,hi,e⟩:=q_d.mp h;subst e;exact⟨s_var (by rw[hN];exact JCc hi) (JDH hn hv) hb',(.inl λδ=>by simp only[evT,ev]),λδ=>by simp only[evI,ev]⟩
     · split at h
       ·rename_i i hg;cases h;obtain⟨_,h2,h3⟩:=JA1 hg;exact⟨s_glo g (JBm hn h2) h3 hb',(.inr λδ=>by simp only[evT]),λδ=>by simp only[evI,ev]⟩
       ·cases h
  have callE:∀(b:Bool) (f:Str) (p pos:Pos) (args:List Expr) (y:E),xOf G names b (.Call (.Name f p) args [] pos)=none->JAN G (n+1) b names N (.Call (.Name f p) args [] pos)=some y->(∃i x,y=.call i x/\PE X (.Call (.Name f p) args [] pos) (RE B C XX y)) \/
     (b=false/\((∃i x,y=.blt i x)\/(∃a t,y=.isi a t)\/∃o a,y=.fn1 o a)/\PE X (.Call (.Name f p) args [] pos) (RE B C XX y))\/(b=true/\∃x,y=.rng x/\∀tg,PI X tg (.Call (.Name f p) args [] pos) (RI B C XX y)):=by
    intro b f p pos args y hxx h;rw[JAA hxx]at h;dsimp only[JAL]at h
    split at h
    ·rename_i i hg;obtain⟨h1,h2,h3⟩:=JA1 hg
     split at h
     · rename_i e r
       obtain⟨x,hx,e'⟩:=q_d.mp h;subst e';obtain⟨a,ha,hx'⟩:=q_a.mp (by unfold JAG at hx;exact hx)
       exact .inl ⟨i,x,rfl,s_call g (JBm hn h2) h3 h1 (allA g ihE hx) (JAX ha r X.env) (JBX hx)⟩
     · cases h
    ·rename_i hg;obtain⟨h1,h2,h3⟩:=JA1 hg
     split at h
     · rename_i hb
       obtain⟨hb1,hb2⟩:=hb;subst hb2
       split at h
       ·rename_i a;obtain⟨x,hx,e'⟩:=q_d.mp h;subst e';obtain⟨a',ha,_⟩:=q_a.mp (by unfold JAG at hx;exact hx)
        exact .inr (.inr ⟨hb1,x,rfl,λtg=>JNX g (JBm hn h2) (g.rng _ h3) (allA g ihE hx) (JAW hx) (JAX ha [] X.env)⟩)
       ·rename_i a a2;obtain⟨x,hx,e'⟩:=q_d.mp h;subst e';obtain⟨a',ha,hr⟩:=q_a.mp (by unfold JAG at hx;exact hx)
        obtain⟨r',hr',_⟩:=q_a.mp hr;obtain⟨a2',ha2,_⟩:=q_a.mp (by unfold JAG at hr';exact hr')
        exact .inr (.inr ⟨hb1,x,rfl,λtg=>JNr g (JBm hn h2) (g.rng _ h3) (allA g ihE hx) (JAW hx) (by rw[JAX ha [a2] X.env,JAX ha2 [] X.env];rfl) (JAX ha2 [] X.env)⟩)
       ·cases h
     · cases h
    ·rename_i bl hg;obtain⟨h1,h2,h3⟩:=JA1 hg
     split at h
     · rename_i hb
       obtain⟨hb1,hb2⟩:=hb
       split at h
       ·rename_i e r;obtain⟨x,hx,e'⟩:=q_d.mp h;subst e';obtain⟨a,ha,hx'⟩:=q_a.mp (by unfold JAG at hx;exact hx)
        refine .inr (.inl ⟨hb1,.inl ⟨bl,x,rfl⟩,?_⟩);subst hb2;cases bl with
        |len=>exact JJ2 g (JHE g) PySem.boot_len (JBm hn h2) h3 h1 (allA g ihE hx) (JAX ha r X.env) (JBX hx)
        |abs=>exact JJ2 (id:="abs") g (JHK g) (by decide +kernel) (JBm hn h2) h3 h1 (allA g ihE hx) (JAX ha r X.env) (JBX hx)
        |all=>exact JJ2 (id:="all") g (ra.ro.all h3 X XX g) (by decide +kernel) (JBm hn h2) h3 h1 (allA g ihE hx) (JAX ha r X.env) (JBX hx)
        |min=>exact JJ2 (id:="min") g (ra.min h3 X XX g) (by decide +kernel) (JBm hn h2) h3 h1 (allA g ihE hx) (JAX ha r X.env) (JBX hx)
       ·cases h
     · cases h
    ·rename_i hg;obtain⟨h1,h2,h3⟩:=JA1 hg
     split at h
     · rename_i hb
       obtain⟨hb1,hb2⟩:=hb;subst hb2
       split at h
       ·rename_i a t pt
        split at h
        ·rename_i ty hgt;obtain⟨t1,t2,t3⟩:=JA1 hgt
         split at h
         · rename_i ht
           obtain⟨x,hx,e'⟩:=q_d.mp h;subst e';exact .inr (.inl ⟨hb1,.inr (.inl ⟨x,ty,rfl⟩),ra.isi X XX g a x t ty p pt pos (JBm hn h2) (JBm hn t2) h3 (.inl ⟨t3,ht⟩) t1 (ihE a x hx) (JAX hx _ X.env)⟩)
         · cases h
        ·rename_i c hgt;obtain⟨t1,t2,t3⟩:=JA1 hgt;obtain⟨x,hx,e'⟩:=q_d.mp h;subst e';exact .inr (.inl ⟨hb1,.inr (.inl ⟨x,.own c,rfl⟩),ra.isi X XX g a x t (.own c) p pt pos (JBm hn h2) (JBm hn t2) h3 (.inr ⟨c,rfl,t3⟩) t1 (ihE a x hx) (JAX hx _ X.env)⟩)
        ·cases h
       ·cases h
     · cases h
    ·rename_i ty hg;obtain⟨h1,h2,h3⟩:=JA1 hg
     split at h
     · rename_i hb
       obtain⟨hb1,hb2⟩:=hb;obtain⟨o,ho,h⟩:=q_a.mp h
       match args,h with
       | [a],h =>
        obtain⟨x,hx,e'⟩:=q_d.mp h;subst e';exact .inr (.inl ⟨hb1,.inr (.inr ⟨o,x,rfl⟩),JPO g ho hb2 (JBm hn h2) h3 h1 (ihE a x hx) (JAX hx [] X.env)⟩)
       | [],h=>cases h
       |_::_::_,h=>cases h
     · cases h
    ·cases h
  have tupE:∀(b:Bool) (es:List Expr) (k:Nat) (p:Pos) (y:E),xOf G names b (.Tuple es k p)=none->JAN G (n+1) b names N (.Tuple es k p)=some y->∃x,y=.tup x/\PE X (.Tuple es k p) (RE B C XX y):=by
    intro b es k p y hxx h;rw[JAA hxx]at h;dsimp only[JAL]at h
    split at h
    ·rename_i hl;obtain⟨x,hx,e'⟩:=q_d.mp h;subst e';exact⟨x,rfl,s_tup g (allA g ihE hx) (by rw[JAW hx];exact hl)⟩
    ·cases h
  have lstE:∀(b:Bool) (es:List Expr) (p:Pos) (y:E),xOf G names b (.List es p)=none->JAN G (n+1) b names N (.List es p)=some y->∃x,y=.lst x/\PE X (.List es p) (RE B C XX y):=by
    intro b es p y hxx h;rw[JAA hxx]at h;dsimp only[JAL]at h
    split at h
    ·rename_i hl;obtain⟨x,hx,e'⟩:=q_d.mp h;subst e';exact⟨x,rfl,s_lst g (allA g ihE hx) (by rw[JAW hx];exact hl)⟩
    ·cases h
  have subE:∀(b:Bool) (a i:Expr) (p:Pos) (y:E),xOf G names b (.Subscript a i p)=none->JAN G (n+1) b names N (.Subscript a i p)=some y->((∃x z,y=.idx x z)\/∃o x,y=.fn1 o x)/\PE X (.Subscript a i p) (RE B C XX y):=by
    intro b a i p y hxx h;rw[JAA hxx]at h;dsimp only[JAL]at h
    split at h
    ·split at h
     · rename_i hr
       split at h
       case isFalse=>cases h
       rename_i hfl;obtain⟨x,hx,e'⟩:=q_d.mp h;subst e';exact⟨.inr ⟨_,x,rfl⟩,ra.ro.rvs hfl X XX g a i x p hr (ihE a x hx)⟩
     · obtain⟨q,hq,h⟩:=q_a.mp h
       obtain⟨x,hx,e'⟩:=q_d.mp h;subst e';exact⟨.inr ⟨_,x,rfl⟩,JLv g hq (ihE a x hx)⟩
    ·rename_i hs;obtain⟨x,hx,h⟩:=q_a.mp h;obtain⟨z,hz,h⟩:=q_a.mp h;cases h;exact⟨.inl ⟨x,z,rfl⟩,s_idx g (ihE a x hx) (ihE i z hz) (by simpa using hs)⟩
  constructor
  · intro e x h
    cases hxx:xOf G names false e with
    |some q =>
     rw[JFg hxx]at h;obtain⟨y,hy,e'⟩:=q_d.mp h;subst e';rcases JFa hxx with ⟨q1,q2⟩|⟨q1,q2⟩
     · exact(ra.dop q2).val X XX g e q.1 q.2 y (by rw[hn];exact q1) (pes ihE hy) (JC6 hy)
     · exact valOnly ((ra.xop q.1 q2).val X XX g e q.2 y (by rw[hn];exact q1) (pes ihE hy) (allA g ihE hy) (JC6 hy) (JAW hy)) λδ=>by simp only[evT,JJ1 q1,q_v,if_false]
    |none =>
    cases e with
    |Name nm p =>
     obtain⟨h1,h2,_⟩:=nameE false nm p x hxx h;rcases h2 with h2|h2
     · exact truthOf h1 (λ_=>rfl) h2
     · exact valOnly h1 h2
    |Constant c j p =>
     rw[JAA hxx]at h;dsimp only[JAL]at h;cases c<;>simp only[q_j,reduceCtorEq]at h<;>subst h
     · exact valOnly s_non λδ=>by simp only[evT]
     · exact truthOf s_bl (λ_=>rfl) λδ=>by simp only[evT,ev,R.bind,truth]
     · exact valOnly s_int λδ=>by simp only[evT]
     · exact valOnly s_str λδ=>by simp only[evT]
    |Tuple es k p =>
     obtain⟨y,rfl,h1⟩:=tupE false es k p x hxx h;exact valOnly h1 λδ=>by simp only[evT]
    |List es p =>
     obtain⟨y,rfl,h1⟩:=lstE false es p x hxx h;exact valOnly h1 λδ=>by simp only[evT]
    |Subscript a i p =>
     obtain⟨⟨y,z,rfl⟩|⟨o,y,rfl⟩,h1⟩:=subE false a i p x hxx h
     · exact truthOf h1 (λ_=>rfl) λδ=>by simp only[evT,ev]
     · exact valOnly h1 λδ=>by simp only[evT]
    |Dict ks vs p =>
     rw[JAA hxx]at h;dsimp only[JAL]at h
     split at h
     · rename_i xs hks
       split at h
       ·rename_i hc;obtain⟨y,hy,e'⟩:=q_d.mp h;subst e';exact valOnly (ra.dct hc.2.1 X XX g n names N ks vs xs y p ihE hks hc.2.2.1 hc.2.2.2.1 hc.2.2.2.2.1 (of_decide_eq_true hc.2.2.2.2.2) hy) λδ=>by simp only[evT]
       ·cases h
     · cases h
    |BinOp a op b p =>
     rw[JAA hxx]at h;dsimp only[JAL]at h
     split at h
     · rename_i es k hr
       split at hr
       case isFalse=>cases hr
       rename_i hz;obtain⟨p1,kk,j,p2,rfl,rfl,rfl,rfl,hr1,hr2,hr3⟩:=JGt hr;obtain⟨y,hy,e'⟩:=q_d.mp h;subst e';exact valOnly (ra.rep hz.2 X XX g es y kk j p1 p2 p (allA g ihE hy) (by rw[JAW hy];exact hr3) hr1 hr2) λδ=>by simp only[evT]
     · split at h
       ·rename_i u v hp;obtain⟨i1,q1,i2,q2,rfl,rfl,rfl,hp1,hp2,hp3,hp4⟩:=JGs hp
        split at h
        case isFalse=>cases h
        cases h;exact valOnly (s_pow hp1 hp2 hp3 hp4) λδ=>by simp only[evT]
       ·split at h
        ·rename_i ho;obtain⟨y,hy,h⟩:=q_a.mp h;obtain⟨z,hz,h⟩:=q_a.mp h;cases h;exact valOnly (JO7 g (ihE a y hy) (ihE b z hz)) λδ=>by simp only[evT]
        ·cases h
    |UnaryOp op a p =>
     rw[JAA hxx]at h;dsimp only[JAL]at h;cases op<;>simp only[q_d,reduceCtorEq]at h
     · obtain⟨y,hy,e'⟩:=h
       subst e';exact⟨s_not g (ihE a y hy),JJw g (ih a y hy).2⟩
     · obtain⟨y,hy,e'⟩:=h
       subst e';exact valOnly (s_neg g (ihE a y hy)) λδ=>by simp only[evT]
    |BoolOp op es p =>
     rw[JAA hxx]at h;dsimp only[JAL]at h;cases op
     · obtain⟨q1,q2⟩:=JLP g ih h
       exact⟨q1,q2.pt⟩
     · obtain⟨q1,q2⟩:=JNj g ih h
       exact⟨q1,q2.pt⟩
    |Compare a ops bs p =>
     match ops,bs,h with
     | [op],[b],h =>
       rw[JAA hxx]at h;dsimp only[JAL]at h;rw[if_neg Bool.false_ne_true]at h;have cmpd:∀(y z:E),PE X a (RE B C XX y)->PE X b (RE B C XX z)->behindInMarks op b=false->PE X (.Compare a [op] [b] p) (RE B C XX (.cmp op y z))/\PT X (.Compare a [op] [b] p) (RT B C XX (.cmp op y z)):=λy z h1 h2 hm =>
        ⟨s_cmp g h1 h2 hm,JNn op (JE4 (JPA g op) h1 h2 hm) (λσ H Q ⟨δ,ok,k⟩=>two g (f:=cmpD op) (λx y H dx dy h1 h2 k=>⟨dx,dy,h1,h2,k⟩) ⟨δ,ok,by simpa only[ev] using k⟩) (λδ=>by simp only[evT,ev]) λδ d h=>JEy h⟩
       cases op<;>simp only at h<;>first
        |(split at h
          · cases h
          · rename_i hm
            obtain⟨y,hy,h⟩:=q_a.mp h;obtain⟨z,hz,h⟩:=q_a.mp h;cases h;exact cmpd y z (ihE a y hy) (ihE b z hz) (by simpa using hm))
        |skip
       ·split at h
        ·obtain⟨y,hy,e'⟩:=q_d.mp h;subst e';exact⟨s_isN g (ihE a y hy),JIy g (ihE a y hy)⟩
        ·obtain⟨y,hy,e'⟩:=q_d.mp h;subst e';exact⟨s_isB g (ihE a y hy),JJo g (ihE a y hy)⟩
        ·cases h
       ·split at h
        ·obtain⟨y,hy,e'⟩:=q_d.mp h;subst e';exact⟨JMv g (ihE a y hy),JNQ g (ihE a y hy)⟩
        ·obtain⟨y,hy,e'⟩:=q_d.mp h;subst e';exact⟨JOm g (ihE a y hy),JFs g (ihE a y hy)⟩
        ·cases h
     | [],_,h=>exact JAD ((JAA hxx).symm.trans h)
     |_::_::_,_,h=>exact JAD ((JAA hxx).symm.trans h)
     | [_],[],h=>exact JAD ((JAA hxx).symm.trans h)
     | [_],_::_::_,h=>exact JAD ((JAA hxx).symm.trans h)
    |IfExp c a b p =>
     rw[JAA hxx]at h;dsimp only[JAL]at h;rw[if_neg Bool.false_ne_true]at h;obtain⟨z,hz,h⟩:=q_a.mp h;obtain⟨y,hy,h⟩:=q_a.mp h;obtain⟨w,hw,h⟩:=q_a.mp h;cases h;exact valOnly (s_ife g (ih c z hz).2 (ihE a y hy) (ihE b w hw)) λδ=>by simp only[evT]
    |Call f args kws p =>
     cases f with
     |Name nm p2 =>
       cases kws with
       |nil =>
        rcases callE false nm p2 p args x hxx h with ⟨i,y,rfl,h1⟩|⟨_,hs,h1⟩|⟨hb,_⟩
        ·exact truthOf h1 (λ_=>rfl) λδ=>by simp only[evT,ev]
        ·rcases hs with ⟨i,y,rfl⟩|⟨y,t,rfl⟩|⟨o,y,rfl⟩
         · exact truthOf h1 (λ_=>rfl) λδ=>by simp only[evT,ev]
         · exact truthOf h1 (λ_=>rfl) λδ=>by simp only[evT,ev]
         · exact valOnly h1 λδ=>by simp only[evT]
        ·cases hb
       |cons k ks=>exact JAD ((JAA hxx).symm.trans h)
     |Attribute o m ap =>
       cases kws with
       |cons k ks=>match args,h with
        | [],h=>exact JAD ((JAA hxx).symm.trans h)
        | [_],h=>exact JAD ((JAA hxx).symm.trans h)
        | [_,_],h=>exact JAD ((JAA hxx).symm.trans h)
        |_::_::_::_,h=>exact JAD ((JAA hxx).symm.trans h)
       |nil=>match args,h with
        | [],h=>exact JAD ((JAA hxx).symm.trans h)
        |_::_::_::_,h=>exact JAD ((JAA hxx).symm.trans h)
        | [a],hh =>
         clear h;rw[JAA hxx]at hh;dsimp only[JAL]at hh
         split at hh
         · rename_i hc
           split at hh
           · rename_i hm
             subst hm;obtain⟨y,hy,hh⟩:=q_a.mp hh;obtain⟨z,hz,hh⟩:=q_a.mp hh;cases hh;exact valOnly (ra.ro.count hc.2 X XX g o a y z ap p hc.1.2.1 hc.1.2.2 (ihE o y hy) (ihE a z hz) (JAX hz [] X.env)) λδ=>by simp only[evT]
           · split at hh
             ·rename_i hm;subst hm;obtain⟨y,hy,hh⟩:=q_a.mp hh;obtain⟨z,hz,hh⟩:=q_a.mp hh;cases hh;exact valOnly (ra.ro.index hc.2 X XX g o a y z ap p hc.1.2.1 hc.1.2.2 (ihE o y hy) (ihE a z hz) (JAX hz [] X.env)) λδ=>by simp only[evT]
             ·cases hh
         · cases hh
        | [a,b],hh =>
         clear h;rw[JAA hxx]at hh;dsimp only[JAL]at hh
         split at hh
         · rename_i hc
           obtain⟨⟨_,h1,h2,h3⟩,hfl⟩:=hc;subst h3;obtain⟨y,hy,hh⟩:=q_a.mp hh;obtain⟨z,hz,hh⟩:=q_a.mp hh;obtain⟨w,hw,hh⟩:=q_a.mp hh;cases hh;exact valOnly (ra.ro.get hfl X XX g o a b y z w ap p h1 h2 (ihE o y hy) (ihE a z hz) (ihE b w hw) (by rw[JAX hz [b] X.env,JAX hw [] X.env];rfl) (JAX hw [] X.env)) λδ=>by simp only[evT]
         · cases hh
     |_=>exact JAD ((JAA hxx).symm.trans h)
    |ListComp elt gens sc p =>
     match gens,h with
     | [],h=>exact JAD ((JAA hxx).symm.trans h)
     |⟨_,_,_,_⟩::_::_,h=>exact JAD ((JAA hxx).symm.trans h)
     | [⟨tg,iter,ifs,as⟩],h =>
       rw[JAA hxx]at h;dsimp only[JAL]at h
       split at h
       ·cases h
       ·rename_i hc;have hc1:as=0:=Decidable.byContradiction λz=>hc (.inr (.inl z));have hc2:sc.kind=.function:=Decidable.byContradiction λz=>hc (.inr (.inr (.inl z)))
        haveI:Cool G:=JC1 λz=>hc (.inr (.inr (.inr z)))
        subst hc1
        split at h
        ·cases h
        ·rename_i k xs htg
         split at h
         · rename_i hs
           obtain⟨i,hi,h⟩:=q_a.mp h;obtain⟨y,hy,h⟩:=q_a.mp h;have bk:=JK0 hk hn hN hc2 hs;refine valOnly ?_ λδ=>?_
           · cases tg with
             |Name nm px =>
              simp only[JBg,q_j,Prod.mk.injEq]at htg;obtain⟨e1,e2⟩:=htg;subst e1;subst e2;unfold itK at hi;rw[if_pos rfl]at hi;have inner:=λ(Cc:Addr) (fp:List Addr) (s0:Shared) (H0:Hp)=>sound ra n (JAd X sc Cc ([nm]++mask [nm] 0 X.N) fp s0 H0) (λ_ _=>False) (JAq names sc.names) ([nm]++mask [nm] 0 N)
               (Gk.nox g rfl rfl rfl rfl rfl rfl rfl λ_ _ _ _ _ _ _ z=>(ra.nox _ _ _ _ _ z).elim) hc2 (by rw[<-hn];exact JAV hk) (by rw[<-hN];rfl) (by rw[<-hN];exact bk.nd)
              have hloc:∀Cc fp s0 H0,(JAd X sc Cc ([nm]++mask [nm] 0 X.N) fp s0 H0).env.scope.names.lookup nm=some .local:=λCc fp s0 H0=>by
               show(compEnvC sc (JA6 X.env.cells sc.names []) Cc X.env).scope.names.lookup nm=_;rw[JAV hk];exact JA0 (bk.tg nm (by simp))
              match ifs,h with
              | [],h =>
               cases h;exact REF.of (JCd g bk (ihI _ iter i hi) (JBS hi X.env) λCc fp s0 H0 σ δ=>JBo (by exact bk.nd) rfl (hloc Cc fp s0 H0) ((inner Cc fp s0 H0).1 elt y hy).1 (λc hc=>by cases hc) (.inl ⟨rfl,rfl⟩) rfl) JBr
              | [c],h =>
               obtain⟨w,hw,h⟩:=q_a.mp h;cases h;exact REF.of (JCd g bk (ihI _ iter i hi) (JBS hi X.env) λCc fp s0 H0 σ δ=>JBo (by exact bk.nd) rfl (hloc Cc fp s0 H0) ((inner Cc fp s0 H0).1 elt y hy).1 (λc' hc=>by cases hc;exact((inner Cc fp s0 H0).1 c w hw).2) (.inr ⟨c,rfl⟩) rfl) JBr
              |_::_::_,h=>cases h
             |Tuple ts kt pt =>
              simp only[JBg]at htg;obtain⟨xs',hx,htg⟩:=q_a.mp htg
              split at htg
              ·cases htg
              ·rename_i hne;simp only[q_j,Prod.mk.injEq]at htg;obtain⟨e1,e2⟩:=htg;subst e2;subst e1;have hk0:xs'.length≠0:=λz=>hne (q_B.mp z);unfold itK at hi;rw[if_neg hk0]at hi;have inner:=λ(Cc:Addr) (fp:List Addr) (s0:Shared) (H0:Hp)=>sound ra n (JAd X sc Cc (xs'++mask xs' 0 X.N) fp s0 H0) (λ_ _=>False) (JAq names sc.names) (xs'++mask xs' 0 N)
                 (Gk.nox g rfl rfl rfl rfl rfl rfl rfl λ_ _ _ _ _ _ _ z=>(ra.nox _ _ _ _ _ z).elim) hc2 (by rw[<-hn];exact JAV hk) (by rw[<-hN];rfl) (by rw[<-hN];exact bk.nd)
               have hloc:∀Cc fp s0 H0,∀nm∈xs',(JAd X sc Cc (xs'++mask xs' 0 X.N) fp s0 H0).env.scope.names.lookup nm=some .local:=λCc fp s0 H0 nm hnm=>by
                 show(compEnvC sc (JA6 X.env.cells sc.names []) Cc X.env).scope.names.lookup nm=_;rw[JAV hk];exact JA0 (bk.tg nm hnm)
               have hat:∀Cc fp s0 H0 (i:Nat) (nm:Str),xs'[i]? = some nm->(JAd X sc Cc (xs'++mask xs' 0 X.N) fp s0 H0).N[i]? = some nm:=λCc fp s0 H0 i nm e=>by
                 show(xs'++mask xs' 0 X.N)[i]? = some nm;rw[q_C (q_p.mp e).1];exact e
               obtain⟨hpi,hfo⟩:PI X (.Tuple ts kt pt) iter (RI B C XX i)/\∀v,foldedSetIterable iter X.env v=pure v:=by
                 cases hq:xT G names iter with
                 |none=>rw[hq]at hi;exact⟨ihI _ iter i hi,JBS hi X.env⟩
                 |some q =>
                   rw[hq]at hi;obtain⟨y',hy',rfl⟩:=q_d.mp hi;obtain⟨q1,q2⟩:=JDQ hq;exact⟨(ra.xop q.1 q2).tgt X XX g ts kt pt iter q.2 y' (by rw[hn];exact q1) (allA g ihE hy') (JC6 hy') (JAW hy'),JFM hq X.env⟩
               match ifs,h with
               | [],h =>
                 cases h;exact REF.of (JCd g bk hpi hfo λCc fp s0 H0 σ δ=>item_tup rfl g.K hx hne (by exact bk.nd) (hat Cc fp s0 H0) (hloc Cc fp s0 H0) ((inner Cc fp s0 H0).1 elt y hy).1 (λc hc=>by cases hc) (.inl ⟨rfl,rfl⟩) rfl) JBr
               | [c],h =>
                 obtain⟨w,hw,h⟩:=q_a.mp h;cases h;exact REF.of (JCd g bk hpi hfo λCc fp s0 H0 σ δ=>item_tup rfl g.K hx hne (by exact bk.nd) (hat Cc fp s0 H0) (hloc Cc fp s0 H0) ((inner Cc fp s0 H0).1 elt y hy).1 (λc' hc=>by cases hc;exact((inner Cc fp s0 H0).1 c w hw).2) (.inr ⟨c,rfl⟩) rfl) JBr
               |_::_::_,h=>cases h
             |_=>simp[JBg]at htg
           · match ifs,h with
             | [],h=>cases h;simp only[evT]
             | [c],h =>
              obtain⟨w,hw,h⟩:=q_a.mp h;cases h;simp only[evT]
             |_::_::_,h=>cases h
         · cases h
    |_=>exact JAD ((JAA hxx).symm.trans h)
  · intro tg e x h
    cases hxx:xOf G names true e with
    |some q =>
     rw[JFg hxx]at h;obtain⟨y,hy,e'⟩:=q_d.mp h;subst e';rcases JFa hxx with ⟨q1,q2⟩|⟨q1,q2⟩
     · exact(ra.dop q2).itr X XX g tg e q.1 q.2 y (by rw[hn];exact q1) (pes ihE hy) (JC6 hy)
     · exact(ra.xop q.1 q2).itr X XX g tg e q.2 y (by rw[hn];exact q1) (allA g ihE hy) (JC6 hy) (JAW hy)
    |none =>
    cases e with
    |Name nm p =>
     obtain⟨h1,_,h3⟩:=nameE true nm p x hxx h;exact JD1 g h1 h3
    |Tuple es k p =>
     obtain⟨y,rfl,h1⟩:=tupE true es k p x hxx h;refine JD1 g h1 λδ=>?_;simp only[evI,ev];cases evA C y δ<;>rfl
    |List es p =>
     obtain⟨y,rfl,h1⟩:=lstE true es p x hxx h;refine JD1 g h1 λδ=>?_;simp only[evI,ev];cases evA C y δ<;>rfl
    |Subscript a i p =>
     obtain⟨⟨y,z,rfl⟩|⟨o,y,rfl⟩,h1⟩:=subE true a i p x hxx h
     · exact JD1 g h1 λδ=>by simp only[evI,ev]
     · exact JD1 g h1 λδ=>by simp only[evI,ev]
    |Call f args kws p =>
     cases f with
     |Name nm p2 =>
       cases kws with
       |nil =>
        rcases callE true nm p2 p args x hxx h with ⟨i,y,rfl,h1⟩|⟨hb,_⟩|⟨_,y,rfl,h1⟩
        ·exact JD1 g h1 λδ=>by simp only[evI,ev]
        ·cases hb
        ·exact h1 tg
       |cons k ks=>exact JAD ((JAA hxx).symm.trans h)
     |Attribute o m ap =>
       cases kws with
       |cons k ks=>match args,h with
        | [],h=>exact JAD ((JAA hxx).symm.trans h)
        | [_],h=>exact JAD ((JAA hxx).symm.trans h)
        | [_,_],h=>exact JAD ((JAA hxx).symm.trans h)
        |_::_::_::_,h=>exact JAD ((JAA hxx).symm.trans h)
       |nil=>match args,h with
        | [],h=>exact JAD ((JAA hxx).symm.trans h)
        | [_],h=>exact JAD ((JAA hxx).symm.trans h)
        | [_,_],h=>exact JAD ((JAA hxx).symm.trans h)
        |_::_::_::_,h=>exact JAD ((JAA hxx).symm.trans h)
     |_=>exact JAD ((JAA hxx).symm.trans h)
    |Compare a ops bs p=>match ops,bs,h with
     | [_],[_],h=>exact JAD ((JAA hxx).symm.trans h)
     | [],_,h=>exact JAD ((JAA hxx).symm.trans h)
     |_::_::_,_,h=>exact JAD ((JAA hxx).symm.trans h)
     | [_],[],h=>exact JAD ((JAA hxx).symm.trans h)
     | [_],_::_::_,h=>exact JAD ((JAA hxx).symm.trans h)
    |ListComp elt gens sc p=>match gens,h with
     | [],h=>exact JAD ((JAA hxx).symm.trans h)
     |⟨_,_,_,_⟩::_::_,h=>exact JAD ((JAA hxx).symm.trans h)
     | [⟨tg,iter,ifs,as⟩],h=>exact JAD ((JAA hxx).symm.trans h)
    |BinOp a op b p =>
     rw[JAA hxx]at h;dsimp only[JAL]at h
     split at h
     · rename_i hr
       simp at hr
     · split at h
       ·simp at h
       ·split at h
        ·obtain⟨y,hy,h⟩:=q_a.mp h;obtain⟨z,hz,h⟩:=q_a.mp h;cases h;exact JD1 g (JO7 g (ihE a y hy) (ihE b z hz)) λδ=>by simp only[evI,ev]
        ·cases h
    |Dict ks vs p =>
     rw[JAA hxx]at h;dsimp only[JAL]at h
     split at h
     · simp at h
     · cases h
    |_=>exact JAD ((JAA hxx).symm.trans h)
theorem JH2(ra:Rare B C CX G){n:Nat}(g:Gk X B C CX XX G)(hk:X.env.scope.kind=.function)(hn:X.env.scope.names=names)(hN:X.N=N)(hnd:N.Nodup)
  {elt:Expr}{gens:List Comprehension}{sc:Scope}{p:Pos}{x:E}(h:JAN G n false names N (.ListComp elt gens sc p)=some x) :
  ∃target iter ifs xs k y z w,gens=[⟨target,iter,ifs,0⟩]/\x=.cmpr k y z w/\BlkOk X sc xs/\PI X target iter (RI B C XX z)/\(∀v,foldedSetIterable iter X.env v=pure v) /\
   ∀Cc fp s0 H0 σ δ,JBn (JAd X sc Cc (xs++mask xs 0 X.N) fp s0 H0) B σ xs.length δ target elt ifs (itemF C k y w δ):=by
 cases n with
 |zero=>simp[JAN,JAY,JAL,xOf,dOf,dRaw,Option.bind_none,ite_self,xRaw]at h
 |succ n =>
  match gens,h with
  | [],h=>simp[JAN,JAY,JAL,xOf,dOf,dRaw,Option.bind_none,ite_self,xRaw]at h
  |⟨_,_,_,_⟩::_::_,h=>simp[JAN,JAY,JAL,xOf,dOf,dRaw,Option.bind_none,ite_self,xRaw]at h
  | [⟨tg,iter,ifs,as⟩],h =>
   simp only[JAN,JAY,JAL,xOf,dOf,dRaw,Option.bind_none,ite_self,xRaw,Option.bind_none]at h
   split at h
   ·cases h
   ·rename_i hc;have hc1:as=0:=Decidable.byContradiction λz=>hc (.inr (.inl z));have hc2:sc.kind=.function:=Decidable.byContradiction λz=>hc (.inr (.inr (.inl z)))
    haveI:Cool G:=JC1 λz=>hc (.inr (.inr (.inr z)))
    subst hc1
    split at h
    ·cases h
    ·rename_i k xs htg
     split at h
     ·rename_i hs;obtain⟨i,hi,h⟩:=q_a.mp h;obtain⟨y,hy,h⟩:=q_a.mp h;have bk:=JK0 hk hn hN hc2 hs;have ihI:=(sound ra n X XX names N g hk hn hN hnd).2;cases tg with
      |Name nm px =>
       simp only[JBg,q_j,Prod.mk.injEq]at htg;obtain⟨e1,e2⟩:=htg;subst e1;subst e2;unfold itK at hi;rw[if_pos rfl]at hi;have inner:=λ(Cc:Addr) (fp:List Addr) (s0:Shared) (H0:Hp)=>sound ra n (JAd X sc Cc ([nm]++mask [nm] 0 X.N) fp s0 H0) (λ_ _=>False) (JAq names sc.names) ([nm]++mask [nm] 0 N)
        (Gk.nox g rfl rfl rfl rfl rfl rfl rfl λ_ _ _ _ _ _ _ z=>(ra.nox _ _ _ _ _ z).elim) hc2 (by rw[<-hn];exact JAV hk) (by rw[<-hN];rfl) (by rw[<-hN];exact bk.nd)
       have hloc:∀Cc fp s0 H0,(JAd X sc Cc ([nm]++mask [nm] 0 X.N) fp s0 H0).env.scope.names.lookup nm=some .local:=λCc fp s0 H0=>by
        show(compEnvC sc (JA6 X.env.cells sc.names []) Cc X.env).scope.names.lookup nm=_;rw[JAV hk];exact JA0 (bk.tg nm (by simp))
       match ifs,h with
       | [],h =>
        cases h;exact⟨_,iter,[],[nm],0,y,i,_,rfl,rfl,bk,ihI _ iter i hi,JBS hi X.env,λCc fp s0 H0 σ δ=>JBo (by exact bk.nd) rfl (hloc Cc fp s0 H0) ((inner Cc fp s0 H0).1 elt y hy).1 (λc hc=>by cases hc) (.inl ⟨rfl,rfl⟩) rfl⟩
       | [c],h =>
        obtain⟨w,hw,h⟩:=q_a.mp h;cases h;exact⟨_,iter,[c],[nm],0,y,i,w,rfl,rfl,bk,ihI _ iter i hi,JBS hi X.env,λCc fp s0 H0 σ δ=>JBo (by exact bk.nd) rfl (hloc Cc fp s0 H0) ((inner Cc fp s0 H0).1 elt y hy).1 (λc' hc=>by cases hc;exact((inner Cc fp s0 H0).1 c w hw).2) (.inr ⟨c,rfl⟩) rfl⟩
       |_::_::_,h=>cases h
      |Tuple ts kt pt =>
       simp only[JBg]at htg;obtain⟨xs',hx,htg⟩:=q_a.mp htg
       split at htg
       ·cases htg
       ·rename_i hne;simp only[q_j,Prod.mk.injEq]at htg;obtain⟨e1,e2⟩:=htg;subst e2;subst e1;have hk0:xs'.length≠0:=λz=>hne (q_B.mp z);unfold itK at hi;rw[if_neg hk0]at hi;have inner:=λ(Cc:Addr) (fp:List Addr) (s0:Shared) (H0:Hp)=>sound ra n (JAd X sc Cc (xs'++mask xs' 0 X.N) fp s0 H0) (λ_ _=>False) (JAq names sc.names) (xs'++mask xs' 0 N)
          (Gk.nox g rfl rfl rfl rfl rfl rfl rfl λ_ _ _ _ _ _ _ z=>(ra.nox _ _ _ _ _ z).elim) hc2 (by rw[<-hn];exact JAV hk) (by rw[<-hN];rfl) (by rw[<-hN];exact bk.nd)
        have hloc:∀Cc fp s0 H0,∀nm∈xs',(JAd X sc Cc (xs'++mask xs' 0 X.N) fp s0 H0).env.scope.names.lookup nm=some .local:=λCc fp s0 H0 nm hnm=>by
          show(compEnvC sc (JA6 X.env.cells sc.names []) Cc X.env).scope.names.lookup nm=_;rw[JAV hk];exact JA0 (bk.tg nm hnm)
        have hat:∀Cc fp s0 H0 (i:Nat) (nm:Str),xs'[i]? = some nm->(JAd X sc Cc (xs'++mask xs' 0 X.N) fp s0 H0).N[i]? = some nm:=λCc fp s0 H0 i nm e=>by
          show(xs'++mask xs' 0 X.N)[i]? = some nm;rw[q_C (q_p.mp e).1];exact e
        obtain⟨hpi,hfo⟩:PI X (.Tuple ts kt pt) iter (RI B C XX i)/\∀v,foldedSetIterable iter X.env v=pure v:=by
          cases hq:xT G names iter with
          |none=>rw[hq]at hi;exact⟨ihI _ iter i hi,JBS hi X.env⟩
          |some q =>
            rw[hq]at hi;obtain⟨y',hy',rfl⟩:=q_d.mp hi;obtain⟨q1,q2⟩:=JDQ hq;exact⟨(ra.xop q.1 q2).tgt X XX g ts kt pt iter q.2 y' (by rw[hn];exact q1) (allA g (λe x h=>((sound ra n X XX names N g hk hn hN hnd).1 e x h).1) hy') (JC6 hy') (JAW hy'),JFM hq X.env⟩
        match ifs,h with
        | [],h =>
          cases h;exact⟨_,iter,[],xs',_,y,i,_,rfl,rfl,bk,hpi,hfo,λCc fp s0 H0 σ δ=>item_tup rfl g.K hx hne (by exact bk.nd) (hat Cc fp s0 H0) (hloc Cc fp s0 H0) ((inner Cc fp s0 H0).1 elt y hy).1 (λc hc=>by cases hc) (.inl ⟨rfl,rfl⟩) rfl⟩
        | [c],h =>
          obtain⟨w,hw,h⟩:=q_a.mp h;cases h;exact⟨_,iter,[c],xs',_,y,i,w,rfl,rfl,bk,hpi,hfo,λCc fp s0 H0 σ δ=>item_tup rfl g.K hx hne (by exact bk.nd) (hat Cc fp s0 H0) (hloc Cc fp s0 H0) ((inner Cc fp s0 H0).1 elt y hy).1 (λc' hc=>by cases hc;exact((inner Cc fp s0 H0).1 c w hw).2) (.inr ⟨c,rfl⟩) rfl⟩
        |_::_::_,h=>cases h
      |_=>simp[JBg]at htg
     ·cases h
theorem JHH{n:Nat}(h:JAN G n false names N (.ListComp elt gens sc p)=some x):Cool G:=by
 cases n with
 |zero=>simp[JAN,JAY,JAL,xOf,dOf,dRaw,Option.bind_none,ite_self,xRaw]at h
 |succ n =>
  match gens,h with
  | [],h=>simp[JAN,JAY,JAL,xOf,dOf,dRaw,Option.bind_none,ite_self,xRaw]at h
  |⟨_,_,_,_⟩::_::_,h=>simp[JAN,JAY,JAL,xOf,dOf,dRaw,Option.bind_none,ite_self,xRaw]at h
  | [⟨tg,iter,ifs,as⟩],h =>
   simp only[JAN,JAY,JAL,xOf,dOf,dRaw,Option.bind_none,ite_self,xRaw,Option.bind_none]at h
   split at h
   ·cases h
   ·rename_i hc;exact JC1 λz=>hc (.inr (.inr (.inr z)))
theorem JEP(ra:Rare B C CX G){n:Nat}(g:Gk X B C CX XX G)(hk:X.env.scope.kind=.function)(hn:X.env.scope.names=names)(hN:X.N=N)(hnd:N.Nodup)
  {es:List Expr}{p:Pos}{x:E}(h:JAN G n false names N (.List es p)=some x):PE X (.List es p) (REF B C XX x):=by
 cases n with
 |zero=>simp[JAN,JAY,JAL,xOf,dOf,dRaw,Option.bind_none,ite_self,xRaw]at h
 |succ n =>
  simp only[JAN,JAY,JAL,xOf,dOf,dRaw,Option.bind_none,ite_self,xRaw,Option.bind_none]at h
  split at h
  ·rename_i hl;obtain⟨y,hx,e'⟩:=q_d.mp h;subst e';exact JOF g (allA g (λe x h=>((sound ra n X XX names N g hk hn hN hnd).1 e x h).1) hx) (by rw[JAW hx];exact hl)
  ·cases h
end
def Agr(x:E)(δ δ':Env):Prop:=∀i,x.uses i=true->δ[i]? = δ'[i]?
theorem JJA{i:Nat}(h:δ[i]? = δ'[i]?):look δ i=look δ' i:=by unfold look;rw[h]
theorem JI6{k:Nat}(h:push k d δ=.ok δ1):∃δ1',push k d δ'=.ok δ1'/\∀x:E,(∀i,x.uses (i+(if k=0 then 1 else k))=true->δ[i]? = δ'[i]?)->Agr x δ1 δ1':=by
 cases k with
 |zero =>
  have e:(.val d::δ)=δ1:=by injection h
  subst e;refine⟨_,rfl,λx hx i hi=>?_⟩;cases i with
  |zero=>rfl
  |succ i=>simpa using hx i hi
 |succ k =>
  unfold push at h ⊢;cases d<;>first|cases h|skip
  rename_i ds;simp only at h ⊢
  split at h
  ·rename_i hl;have e:ds.map Sl.val++δ=δ1:=by injection h
   subst e;rw[if_pos hl];refine⟨_,rfl,λx hx i hi=>?_⟩
   by_cases hi2:i<ds.length
   ·rw[q_C (by simpa using hi2),q_C (by simpa using hi2)]
   ·rw[List.getElem?_append_right (by simpa using hi2),List.getElem?_append_right (by simpa using hi2)]
    simp only[q_g];refine hx _ ?_;rw[if_neg (Nat.succ_ne_zero k),<-hl,Nat.sub_add_cancel (by omega)]
    exact hi
  ·cases h
theorem JJi{k:Nat}(h:push k d δ=.bad):push k d δ'=.bad:=by
 cases k with
 |zero=>cases h
 |succ k =>
  unfold push at h ⊢;cases d<;>first|rfl|skip
  simp only at h ⊢
  split at h
  ·cases h
  ·rename_i hl;rw[if_neg hl]
theorem JJU{k c:Nat}:push k d δ≠.exc c:=by
 cases k with
 |zero=>intro h;cases h
 |succ k =>
  unfold push;cases d<;>simp only<;>(try split)<;>(intro h;cases h)
theorem ub_l{a b:Bool}(h:a=true):(a || b)=true:=by rw[h];rfl
theorem ub_r{a b:Bool}(h:b=true):(a || b)=true:=by rw[h];exact Bool.or_true a
theorem JAg{a b c:Bool}(h:a=true):(a || b || c)=true:=ub_l (ub_l h)
theorem JAf{a b c:Bool}(h:b=true):(a || b || c)=true:=ub_l (ub_r h)
theorem agree(C:Cn)(x:E):∀(δ δ':Env),Agr x δ δ'->ev C x δ=ev C x δ'/\evT C x δ=evT C x δ'/\evA C x δ=evA C x δ'/\evI C x δ=evI C x δ':=by
 induction x with
 |var i=>intro δ δ' h;simp only[ev,evT,evA,evI,JJA (h i (show(i==i)=true from beq_self_eq_true i)),and_self]
 |cint _|cbl _|cnon|cstr _|glo _|nil=>intro δ δ' h;simp only[ev,evT,evA,evI,and_self]
 |bin op a b iha ihb =>
  intro δ δ' h;have ha:=iha δ δ' λi hi=>h i (by first|exact hi|exact ub_l hi|exact ub_r hi|exact JAg hi|exact JAf hi)
  have hb:=ihb δ δ' λi hi=>h i (by first|exact hi|exact ub_l hi|exact ub_r hi|exact JAg hi|exact JAf hi)
  simp only[ev,evT,evA,evI,ha.1,hb.1,and_self]
 |neg a iha =>
  intro δ δ' h;have ha:=iha δ δ' λi hi=>h i (by first|exact hi|exact ub_l hi|exact ub_r hi|exact JAg hi|exact JAf hi)
  simp only[ev,evT,evA,evI,ha.1,and_self]
 |not a iha =>
  intro δ δ' h;have ha:=iha δ δ' λi hi=>h i (by first|exact hi|exact ub_l hi|exact ub_r hi|exact JAg hi|exact JAf hi)
  simp only[ev,evT,evA,evI,ha.1,ha.2.1,and_self]
 |and a b iha ihb =>
  intro δ δ' h;have ha:=iha δ δ' λi hi=>h i (by first|exact hi|exact ub_l hi|exact ub_r hi|exact JAg hi|exact JAf hi)
  have hb:=ihb δ δ' λi hi=>h i (by first|exact hi|exact ub_l hi|exact ub_r hi|exact JAg hi|exact JAf hi)
  simp only[ev,evT,evA,evI,ha.1,hb.1,ha.2.1,hb.2.1,and_self]
 |or a b iha ihb =>
  intro δ δ' h;have ha:=iha δ δ' λi hi=>h i (by first|exact hi|exact ub_l hi|exact ub_r hi|exact JAg hi|exact JAf hi)
  have hb:=ihb δ δ' λi hi=>h i (by first|exact hi|exact ub_l hi|exact ub_r hi|exact JAg hi|exact JAf hi)
  simp only[ev,evT,evA,evI,ha.1,hb.1,ha.2.1,hb.2.1,and_self]
 |cmp op a b iha ihb =>
  intro δ δ' h;have ha:=iha δ δ' λi hi=>h i (by first|exact hi|exact ub_l hi|exact ub_r hi|exact JAg hi|exact JAf hi)
  have hb:=ihb δ δ' λi hi=>h i (by first|exact hi|exact ub_l hi|exact ub_r hi|exact JAg hi|exact JAf hi)
  simp only[ev,evT,evA,evI,ha.1,hb.1,and_self]
 |isN a n iha =>
  intro δ δ' h;have ha:=iha δ δ' λi hi=>h i (by first|exact hi|exact ub_l hi|exact ub_r hi|exact JAg hi|exact JAf hi)
  simp only[ev,evT,evA,evI,ha.1,and_self]
 |isB a n iha =>
  intro δ δ' h;have ha:=iha δ δ' λi hi=>h i (by first|exact hi|exact ub_l hi|exact ub_r hi|exact JAg hi|exact JAf hi)
  simp only[ev,evT,evA,evI,ha.1,and_self]
 |ife c a b ihc iha ihb =>
  intro δ δ' h;have hc:=ihc δ δ' λi hi=>h i (by first|exact hi|exact ub_l hi|exact ub_r hi|exact JAg hi|exact JAf hi)
  have ha:=iha δ δ' λi hi=>h i (by first|exact hi|exact ub_l hi|exact ub_r hi|exact JAg hi|exact JAf hi)
  have hb:=ihb δ δ' λi hi=>h i (by first|exact hi|exact ub_l hi|exact ub_r hi|exact JAg hi|exact JAf hi)
  simp only[ev,evT,evA,evI,ha.1,hb.1,hc.2.1,and_self]
 |cons a r iha ihr =>
  intro δ δ' h;have ha:=iha δ δ' λi hi=>h i (by first|exact hi|exact ub_l hi|exact ub_r hi|exact JAg hi|exact JAf hi)
  have hr:=ihr δ δ' λi hi=>h i (by first|exact hi|exact ub_l hi|exact ub_r hi|exact JAg hi|exact JAf hi)
  simp only[ev,evT,evA,evI,ha.1,hr.2.2.1,and_self]
 |tup es ih =>
  intro δ δ' h;have ha:=ih δ δ' λi hi=>h i (by first|exact hi|exact ub_l hi|exact ub_r hi|exact JAg hi|exact JAf hi)
  simp only[ev,evT,evA,evI,ha.2.2.1,and_self]
 |lst es ih =>
  intro δ δ' h;have ha:=ih δ δ' λi hi=>h i (by first|exact hi|exact ub_l hi|exact ub_r hi|exact JAg hi|exact JAf hi)
  simp only[ev,evT,evA,evI,ha.2.2.1,and_self]
 |fn1 o a iha =>
  intro δ δ' h;have ha:=iha δ δ' λi hi=>h i (by first|exact hi|exact ub_l hi|exact ub_r hi|exact JAg hi|exact JAf hi)
  simp only[ev,evT,evA,evI,ha.1,and_self]
 |xop k es ih =>
  intro δ δ' h;have ha:=ih δ δ' λi hi=>h i (by first|exact hi|exact ub_l hi|exact ub_r hi|exact JAg hi|exact JAf hi)
  simp only[ev,evT,evA,evI,ha.2.2.1,and_self]
 |isnB a n iha =>
  intro δ δ' h;have ha:=iha δ δ' λi hi=>h i (by first|exact hi|exact ub_l hi|exact ub_r hi|exact JAg hi|exact JAf hi)
  simp only[ev,evT,evA,evI,ha.1,and_self]
 |dct ks es ih =>
  intro δ δ' h;have ha:=ih δ δ' λi hi=>h i (by first|exact hi|exact ub_l hi|exact ub_r hi|exact JAg hi|exact JAf hi)
  simp only[ev,evT,evA,evI,ha.2.2.1,and_self]
 |rep k es ih =>
  intro δ δ' h;have ha:=ih δ δ' λi hi=>h i (by first|exact hi|exact ub_l hi|exact ub_r hi|exact JAg hi|exact JAf hi)
  simp only[ev,evT,evA,evI,ha.2.2.1,and_self]
 |idx a b iha ihb =>
  intro δ δ' h;have ha:=iha δ δ' λi hi=>h i (by first|exact hi|exact ub_l hi|exact ub_r hi|exact JAg hi|exact JAf hi)
  have hb:=ihb δ δ' λi hi=>h i (by first|exact hi|exact ub_l hi|exact ub_r hi|exact JAg hi|exact JAf hi)
  simp only[ev,evT,evA,evI,ha.1,hb.1,and_self]
 |call f es ih =>
  intro δ δ' h;have ha:=ih δ δ' λi hi=>h i (by first|exact hi|exact ub_l hi|exact ub_r hi|exact JAg hi|exact JAf hi)
  simp only[ev,evT,evA,evI,ha.2.2.1,and_self]
 |blt b es ih =>
  intro δ δ' h;have ha:=ih δ δ' λi hi=>h i (by first|exact hi|exact ub_l hi|exact ub_r hi|exact JAg hi|exact JAf hi)
  simp only[ev,evT,evA,evI,ha.2.2.1,and_self]
 |rng es ih =>
  intro δ δ' h;have ha:=ih δ δ' λi hi=>h i (by first|exact hi|exact ub_l hi|exact ub_r hi|exact JAg hi|exact JAf hi)
  simp only[ev,evT,evA,evI,ha.2.2.1,and_self]
 |isi a t iha =>
  intro δ δ' h;have ha:=iha δ δ' λi hi=>h i (by first|exact hi|exact ub_l hi|exact ub_r hi|exact JAg hi|exact JAf hi)
  simp only[ev,evT,evA,evI,ha.1,and_self]
 |mcount a b iha ihb =>
  intro δ δ' h;have ha:=iha δ δ' λi hi=>h i (by first|exact hi|exact ub_l hi|exact ub_r hi|exact JAg hi|exact JAf hi)
  have hb:=ihb δ δ' λi hi=>h i (by first|exact hi|exact ub_l hi|exact ub_r hi|exact JAg hi|exact JAf hi)
  simp only[ev,evT,evA,evI,ha.1,hb.1,and_self]
 |mindex a b iha ihb =>
  intro δ δ' h;have ha:=iha δ δ' λi hi=>h i (by first|exact hi|exact ub_l hi|exact ub_r hi|exact JAg hi|exact JAf hi)
  have hb:=ihb δ δ' λi hi=>h i (by first|exact hi|exact ub_l hi|exact ub_r hi|exact JAg hi|exact JAf hi)
  simp only[ev,evT,evA,evI,ha.1,hb.1,and_self]
 |mget a b c iha ihb ihc =>
  intro δ δ' h;have ha:=iha δ δ' λi hi=>h i (by first|exact hi|exact ub_l hi|exact ub_r hi|exact JAg hi|exact JAf hi)
  have hb:=ihb δ δ' λi hi=>h i (by first|exact hi|exact ub_l hi|exact ub_r hi|exact JAg hi|exact JAf hi)
  have hc:=ihc δ δ' λi hi=>h i (by first|exact hi|exact ub_l hi|exact ub_r hi|exact JAg hi|exact JAf hi)
  simp only[ev,evT,evA,evI,ha.1,hb.1,hc.1,and_self]
 |cmpr k elt iter cond ihe ihi ihc =>
  intro δ δ' h;have hi:=ihi δ δ' λi hi=>h i (by first|exact hi|exact ub_l hi|exact ub_r hi|exact JAg hi|exact JAf hi)
  refine⟨?_,by simp only[evT],by simp only[evA],by simp only[evI]⟩
  simp only[ev,hi.2.2.2]
  congr 1
  funext xs
  congr 2
  congr 1
  funext d
  cases q:push k d δ with
  |ok δ1 =>
   obtain⟨δ1',q',ag⟩:=JI6 (δ':=δ') q;rw[q'];have h1:=ihc δ1 δ1' (ag cond λi hi=>h i (by exact ub_r hi))
   have h2:=ihe δ1 δ1' (ag elt λi hi=>h i (by exact JAf hi))
   simp only[R.bind,h1.2.1,h2.1]
  |exc c=>exact(JJU q).elim
  |bad=>rw[JJi (δ':=δ') q]
theorem JBB{b:Addr}(h:P b):hidP H P b=none:=by unfold hidP;rw[if_pos h]
theorem JAH{b:Addr}(h:¬P b):hidP H P b=H b:=by unfold hidP;rw[if_neg h]
theorem JA5{b:Addr}(h:hidP H P b=some o):¬P b/\H b=some o:=by
 by_cases hp:P b
 ·rw[JBB hp]at h;cases h
 ·rw[JAH hp]at h;exact⟨hp,h⟩
open Classical in
noncomputable def mixP(H H1:Hp)(P:Addr->Prop):Hp:=λb=>if P b then H b else H1 b
theorem JB2{b:Addr}(h:P b):mixP H H1 P b=H b:=by unfold mixP;rw[if_pos h]
theorem JAO{b:Addr}(h:¬P b):mixP H H1 P b=H1 b:=by unfold mixP;rw[if_neg h]
section
variable{X:Cx}{pins ps:Pq}{σ:St}{H H1:Hp}{s s1:Shared}{P:Addr->Prop}
theorem JIg(I:Inv X pins σ H s){a:Addr}(h:H a=some xs)(h0:X.H₀ a=none):a≠X.env.locals/\a ∉ X.fs:=by
 refine⟨λz=>(by rw[z,I.free]at h;cases h),λz=>?_⟩
 obtain⟨_,o,ho,_⟩:=I.ok.funs.mem z;have:=I.base.free a o ho (I.ok.frf a z) λq=>I.ok.exfs a q z;rw[h]at this;cases this
theorem JBd(I:Inv X pins σ H s)(hP:∀a,P a->∃xs,H a=some xs/\X.H₀ a=none/\Ownb xs)(hps:∀p∈ps,P p.1/\s.heap.get? p.1=some p.2):Inv X (pins++ps) σ (hidP H P) s where
 ok:=I.ok
 os:=I.os
 bare:=I.bare
 base:=by
  have nP:∀b u,H b=some u->¬Ownb u->¬P b:=λb u e hu hp=>by
   obtain⟨xs,h1,_,h3⟩:=hP b hp;rw[e]at h1;cases h1;exact hu h3
  refine⟨I.base.keep,I.base.slot,λb o e n hx=>?_,I.base.there,λb xs e=>?_,λb o u e=>?_,λb t e=>?_⟩
  ·have:=I.base.free b o e n hx
   by_cases hp:P b
   ·exact JBB hp
   ·rw[JAH hp];exact this
  ·have q:=I.base.tups b xs e;rw[JAH (nP b _ q λz=>z)];exact q
  ·have q:=I.base.frzs b o u e;rw[JAH (nP b _ q λz=>z)];exact q
  ·obtain⟨m,q⟩:=I.base.tbls b t e;exact⟨m,by rw[JAH (nP b _ q λz=>z)];exact q⟩
 loc:=I.loc
 cell:=I.cell
 free:=by
  by_cases hp:P X.env.locals
  ·exact JBB hp
  ·rw[JAH hp];exact I.free
 freeC:=λx c e=>by
  by_cases hp:P c
  ·exact JBB hp
  ·rw[JAH hp];exact I.freeC x c e
 pin:=λp hp=>by
  have old:∀p∈X.pn++pins,s.heap.get? p.1=some p.2/\hidP H P p.1=none/\p.1≠X.env.locals/\p.1 ∉ X.fs/\∀v,p.2.data≠.cell v:=λp hp=>by
   obtain⟨h1,h2,h3⟩:=I.pin p hp;refine⟨h1,?_,h3⟩
   by_cases hq:P p.1
   ·exact JBB hq
   ·rw[JAH hq];exact h2
  rcases List.mem_append.mp hp with z|z
  ·exact old p (List.mem_append_left _ z)
  ·rcases List.mem_append.mp z with z|z
   ·exact old p (q_r _ z)
   ·obtain⟨hq,ho⟩:=hps p z;obtain⟨xs,h1,h0,h9⟩:=hP _ hq;obtain⟨n1,n2⟩:=JIg I h1 h0;refine⟨ho,JBB hq,n1,n2,λv e=>?_⟩;cases xs with
    |lst xs =>
     obtain⟨_,its,n,_,e2⟩:=I.hok _ _ h1;rw[ho]at e2;have e3:p.2={ cls:=.type "list",data:=.seq its.toArray n }:=Option.some.inj e2;rw[e3]at e;have e4:Data.seq its.toArray n=Data.cell v:=e;cases e4
    |dK kvs =>
     obtain⟨_,_,vs,_,o2,es,ep,e2,_,e3,_⟩:=I.hok _ _ h1;rw[ho]at e2;cases e2;rw[e]at e3;cases e3
    |_=>exact h9.elim
 hok:=λb u e=>by
  obtain⟨hb,e⟩:=JA5 e;refine(I.hok b u e).stay (λc w _ q=>q) (λc q=>?_) λc xs q=>?_
  ·rw[JAH λhc=>by obtain⟨xs,h1,_,h9⟩:=hP c hc;rw[q]at h1;cases h1;exact h9];exact q
  ·rw[JAH λhc=>by obtain⟨ys,h1,_,h9⟩:=hP c hc;rw[q]at h1;cases h1;exact h9];exact q
 len:=I.len
theorem JBF(I:Inv X pins σ H s)(J:Inv X (pins++ps) σ' H1 s1)(hP:∀a,P a->∃xs,H a=some xs/\X.H₀ a=none/\Ownb xs)(hps:∀a,P a->∃o,(a,o)∈ps/\s.heap.get? a=some o) :
  Inv X pins σ' (mixP H H1 P) s1/\∀a,P a->H1 a=none:=by
 have hpin:∀a,P a->∃o,s1.heap.get? a=some o/\H1 a=none/\s.heap.get? a=some o:=λa ha=>by
  obtain⟨o,hm,ho⟩:=hps a ha;obtain⟨h1,h2,_⟩:=J.pin (a,o) (q_r _ (q_r _ hm));exact⟨o,h1,h2,ho⟩
 have nP:∀b u,H1 b=some u->¬P b:=λb u e hp=>by obtain⟨_,_,h,_⟩:=hpin b hp;rw[e]at h;cases h
 have nS:∀b o,X.s₀.heap.get? b=some o->X.H₀ b=none->b ∉ X.ex->¬P b:=λb o e n hx hp=>by
  obtain⟨xs,h1,_⟩:=hP b hp;have:=I.base.free b o e n hx;rw[h1]at this;cases this
 refine⟨⟨J.ok,J.os,J.bare,⟨J.base.keep,J.base.slot,λb o e n hx=>?_,J.base.there,λb xs e=>?_,λb o u e=>?_,λb t e=>?_⟩,J.loc,J.cell,?_,λx c e=>?_,λp hp=>?_,λb u e=>?_,J.len⟩,λa ha=>?_⟩
 ·rw[JAO (nS b o e n hx)];exact J.base.free b o e n hx
 ·have q:=J.base.tups b xs e;rw[JAO (nP b _ q)];exact q
 ·have q:=J.base.frzs b o u e;rw[JAO (nP b _ q)];exact q
 ·obtain⟨m,q⟩:=J.base.tbls b t e;exact⟨m,by rw[JAO (nP b _ q)];exact q⟩
 ·rw[JAO λhp=>by obtain⟨xs,h1,_⟩:=hP _ hp;rw[I.free]at h1;cases h1];exact J.free
 ·rw[JAO λhp=>by obtain⟨xs,h1,_⟩:=hP _ hp;rw[I.freeC x c e]at h1;cases h1];exact J.freeC x c e
 ·have hp':p∈X.pn++(pins++ps):=by
   rcases List.mem_append.mp hp with z|z
   ·exact List.mem_append_left _ z
   ·exact q_r _ (List.mem_append_left _ z)
  obtain⟨h1,h2,h3⟩:=J.pin p hp';refine⟨h1,?_,h3⟩;rw[JAO λhq=>by
   obtain⟨xs,g1,_⟩:=hP _ hq;have:=(I.pin p hp).2.1;rw[g1]at this;cases this]
  exact h2
 ·by_cases hb:P b
  ·rw[JB2 hb]at e;obtain⟨xs,h1,_,h9⟩:=hP b hb;rw[h1]at e;cases e;obtain⟨o,g1,_,g3⟩:=hpin b hb;cases u with
   |lst xs =>
    obtain⟨z,its,n,r,e2⟩:=I.hok b _ h1;rw[g3]at e2;cases e2;exact⟨z,its,n,r,g1⟩
   |dK kvs =>
    obtain⟨z,z2,vs,r,o2,es,ep,e2,z3⟩:=I.hok b _ h1;rw[g3]at e2;cases e2;exact⟨z,z2,vs,r,o,es,ep,g1,z3⟩
   |_=>exact h9.elim
  ·rw[JAO hb]at e;refine(J.hok b u e).stay (λc w _ q=>q) (λc q=>?_) λc xs q=>?_
   ·rw[JAO (nP c _ q)];exact q
   ·rw[JAO (nP c _ q)];exact q
 ·obtain⟨_,_,h,_⟩:=hpin a ha;exact h
end
noncomputable def JAh(x:E):Nat->Env->Env
 |_,[]=>[]
 |i,s::r=>(if x.uses i=true then s else if s.isOwn=true then .no else s)::JAh x (i+1) r
theorem JCB(x:E):∀(δ:Env) (k i:Nat),(JAh x k δ)[i]? = (δ[i]?).map λs=>if x.uses (k+i)=true then s else if s.isOwn=true then .no else s
 | [],_,_=>by simp[JAh]
 |s::r,k,0=>by simp[JAh]
 |s::r,k,i+1=>by
  have:=JCB x r (k+1) i;rw[show k+1+i=k+(i+1) by omega]at this
  simpa[JAh] using this
theorem JD7(x:E):∀(δ:Env) (k i:Nat),(JAk x k δ)[i]? = (δ[i]?).map λs=>if x.uses (k+i)=true then s.frz else s
 | [],_,_=>by simp[JAk]
 |s::r,k,0=>by simp[JAk]
 |s::r,k,i+1=>by
  have:=JD7 x r (k+1) i;rw[show k+1+i=k+(i+1) by omega]at this
  simpa[JAk] using this
theorem JEn(x:E):∀(δ:Env) (k:Nat),(JAk x k δ).length=δ.length
 | [],_=>rfl
 |s::r,k=>by simp only[JAk,List.length_cons,JEn x r]
theorem JBP(x:E):∀(δ:Env) (k i:Nat) (s:Sl),JAP x k δ=false->δ[i]? = some s->x.uses (k+i)=true->s.isOwn=false
 | [],_,_,_,_,e,_=>by simp at e
 |s::r,k,0,t,h,e,hu=>by
  unfold JAP at h;simp only[Bool.or_eq_false_iff,Bool.and_eq_false_iff]at h;simp only[List.getElem?_cons_zero,q_j]at e;subst e;rcases h.1 with z|z
  ·rw[Nat.add_zero]at hu;rw[hu]at z;cases z
  ·exact z
 |s::r,k,i+1,t,h,e,hu=>by
  unfold JAP at h;simp only[Bool.or_eq_false_iff]at h;exact JBP x r (k+1) i t h.2 (by simpa using e) (by rw[show k+1+i=k+(i+1) by omega];exact hu)
mutual
theorem JDL(hk:∀b o,H1 b=some o->¬Ownb o->H2 b=some o):∀(d:D) (v:V),JAS d=true->Den B H1 d v->Den B H2 d v
 |.none,_,_,h=>h
 |.bool _,_,_,h=>h
 |.int _,_,_,h=>h
 |.str _,_,_,h=>h
 |.list _,_,n,_=>by simp only[JAS]at n;cases n
 |.tuple ds,v,n,h=>by
  simp only[Den]at h ⊢;obtain⟨a,xs,e,q,l⟩:=h;refine⟨a,xs,e,?_,JBj hk ds xs (by simpa only[JAS] using n) l⟩
  rcases q with (q|⟨o,q⟩)|q
  ·exact .inl (.inl (hk _ _ q λz=>z))
  ·exact .inl (.inr ⟨o,hk _ _ q λz=>z⟩)
  ·exact .inr q
 |.dict kvs,v,n,h=>by
  simp only[Den]at h ⊢;rcases h with ⟨a,c,e,k,q⟩|⟨a,xs,e,q,l⟩
  ·exact .inl ⟨a,c,e,k,hk _ _ q λz=>z⟩
  ·exfalso
   match kvs,n,l with
   | [],n,_=>simp[JAS]at n
   |(k,w)::r,n,l =>
    simp only[DenK]at l;obtain⟨x,v',r',_,ek,_⟩:=l;subst ek;simp[JAS]at n
theorem JBj(hk:∀b o,H1 b=some o->¬Ownb o->H2 b=some o):∀(ds:List D) (vs:List V),JBO ds=true->DenL B H1 ds vs->DenL B H2 ds vs
 | [],_,_,h=>h
 |d::ds,vs,n,h=>by
  simp only[DenL]at h ⊢;simp only[JBO,q_i]at n;obtain⟨v,r,e,q,l⟩:=h;exact⟨v,r,e,JDL hk d v n.1 q,JBj hk ds r n.2 l⟩
end
section
variable{X:Cx}{B:Bs}{C:Cn}{CX:CXT}{XX:Nat->Hp->Prop}{G:List (Str×GK)}{pins:Pq}{σ:St}{H:Hp}{s:Shared}{δ:Env}{O:Ow}{x:E}{Hb:Hp}
def unP(x:E)(O:Ow)(b:Addr):Prop:=∃i,O i=some b/\x.uses i=false
theorem SO.own(so:SO B Hb σ H δ O){i:Nat}{a:Addr}(h:O i=some a):∃ds xs,δ[i]? = some (.own ds)/\σ[i]? = some (some (.ref a))/\H a=some xs/\Hb a=none/\OwnO B (hid H O) ds xs:=by
 have q:=so.slot i;cases e:δ[i]? with
 |none=>rw[e]at q;simp only[JAM]at q;rw[h]at q;cases q
 |some t =>
  rw[e]at q;cases t with
  |no=>simp only[JAM]at q;rw[h]at q;cases q
  |val d=>simp only[JAM]at q;rw[h]at q;cases q.1
  |own d =>
   simp only[JAM]at q;obtain⟨a',ds,xs,e1,e2,e3,e4,e5,e6⟩:=q;rw[h]at e1;cases e1;subst e2;exact⟨_,xs,rfl,e3,e4,e5,e6⟩
noncomputable def JCK(x:E)(O:Ow)(n:Nat)(h:Heap):Pq :=
 (List.range n).filterMap λi=>match O i with
   |some a=>if x.uses i=true then none else (h.get? a).map λo=>(a,o)
   |none=>none
theorem JA9(hb:Same X.H₀ Hb)(so:SO B Hb σ H δ O):∀a,unP x O a->∃xs,H a=some xs/\X.H₀ a=none/\Ownb xs:=λa ⟨i,h,_⟩=>by
 obtain⟨ds,xs,_,_,e4,e5,e6⟩:=so.own h;exact⟨xs,e4,hb.free e5,e6.b⟩
theorem JBE{n:Nat}:∀p∈JCK x O n h,unP x O p.1/\h.get? p.1=some p.2:=λp hp=>by
 obtain⟨i,_,e⟩:=List.mem_filterMap.mp hp;cases q:O i with
 |none=>rw[q]at e;cases e
 |some a =>
  rw[q]at e;simp only at e
  split at e
  ·cases e
  ·rename_i hu;obtain⟨o,ho,e2⟩:=q_d.mp e;subst e2;exact⟨⟨i,q,by simpa using hu⟩,ho⟩
theorem JAz(I:Inv X pins σ H s)(so:SO B Hb σ H δ O):∀a,unP x O a->∃o,(a,o)∈JCK x O δ.length s.heap/\s.heap.get? a=some o:=λa ⟨i,h,hu⟩=>by
 obtain⟨ds,xs,e1,_,e4,_,e9⟩:=so.own h;obtain⟨oo,ho⟩:∃oo,s.heap.get? a=some oo:=by
  have h9:=e9.b;cases xs with
  |lst xs=>obtain⟨_,its,n,_,ho⟩:=I.hok a _ e4;exact⟨_,ho⟩
  |dK kvs=>obtain⟨_,_,vs,_,o2,es,ep,e2,_⟩:=I.hok _ _ e4;exact⟨_,e2⟩
  |_=>exact h9.elim
 refine⟨_,List.mem_filterMap.mpr ⟨i,List.mem_range.mpr (q_p.mp e1).1,?_⟩,ho⟩;rw[h];simp only[hu,q_v,if_false,ho,Option.map_some]
theorem JA2(so:SO B Hb σ H δ O):Same Hb (hid H O):=λb o e=>by
 rw[hid,JAH λ⟨i,h⟩=>by obtain⟨_,_,_,_,_,e5,_⟩:=so.own h;rw[e]at e5;cases e5]
 exact so.same b o e
theorem same_un:Same (hid H O) (hidP H (unP x O)):=λb o e=>by
 obtain⟨h1,h2⟩:=JA5 e;rw[JAH λ⟨i,h,_⟩=>h1 ⟨i,h⟩];exact h2
theorem JAt(so:SO B Hb σ H δ O):Sok B σ (hidP H (unP x O)) (JAh x 0 δ):=λi d e=>by
 unfold look at e;rw[JCB,Nat.zero_add]at e;have q:=so.slot i;cases e1:δ[i]? with
 |none=>rw[e1]at e;cases e
 |some t =>
  rw[e1]at e q;simp only[Option.map_some]at e;cases t with
  |no =>
   simp only[Sl.isOwn,q_v,if_false,ite_self,Sl.get]at e;cases e
  |val d' =>
   simp only[Sl.isOwn,q_v,if_false,ite_self,Sl.get]at e;cases e;simp only[JAM]at q;obtain⟨_,v,e2,dn⟩:=q;exact⟨v,e2,Den.mono same_un d v dn⟩
  |own d' =>
   by_cases hu:x.uses i=true
   ·rw[if_pos hu]at e;simp only[JAM]at q;obtain⟨a,ds,xs,q1,q2,q3,q4,q5,q6⟩:=q;subst q2;obtain⟨ys,rfl,rfl⟩:∃ys,d'=.list ys/\d=.list ys:=by
     cases d' with
     |list ys=>simp only[Sl.get]at e;cases e;exact⟨ys,rfl,rfl⟩
     |dict kvs=>simp only[Sl.get]at e;cases e
     |_=>cases xs<;>exact fF q6
    refine⟨_,q3,(OwnO.mono same_un _ xs q6).den ?_⟩;rw[JAH λ⟨j,hj,hu2⟩=>by
     have:=so.inj i j a q1 hj;subst this;rw[hu]at hu2;cases hu2]
    exact q4
   ·rw[if_neg hu]at e;simp only[Sl.isOwn,if_true,Sl.get]at e;cases e
theorem JBY:Agr x δ (JAh x 0 δ):=λi hi=>by
 rw[JCB,Nat.zero_add];cases δ[i]? with
 |none=>rfl
 |some t=>simp[hi]
theorem JCh(so:SO B Hb σ H δ O)(sm:Same (hidP H (unP x O)) H1)(hz:∀a,unP x O a->H1 a=none):SO B Hb σ (mixP H H1 (unP x O)) δ O:=by
 have s1:Same (hid H O) (hid (mixP H H1 (unP x O)) O):=λb o e=>by
  obtain⟨h1,h2⟩:=JA5 e;rw[hid,JAH h1,JAO λ⟨i,h,_⟩=>h1 ⟨i,h⟩];exact sm b o (by rw[JAH λ⟨i,h,_⟩=>h1 ⟨i,h⟩];exact h2)
 refine⟨so.len,λb o e=>?_,so.inj,λi=>?_⟩
 ·have e1:=JA2 so b o e;obtain⟨_,h2⟩:=JA5 (s1 b o e1);exact h2
 ·have q:=so.slot i;cases e1:δ[i]? with
  |none=>rw[e1]at q;exact q
  |some t =>
   rw[e1]at q;cases t with
   |no=>exact q
   |val d =>
    simp only[JAM]at q ⊢;obtain⟨h0,v,e2,dn⟩:=q;exact⟨h0,v,e2,Den.mono s1 d v dn⟩
   |own d =>
    simp only[JAM]at q ⊢;obtain⟨a,ds,xs,q1,q2,q3,q4,q5,q6⟩:=q;refine⟨a,ds,xs,q1,q2,q3,?_,q5,OwnO.mono s1 ds xs q6⟩
    by_cases hp:unP x O a
    ·rw[JB2 hp];exact q4
    ·rw[JAO hp];exact sm a _ (by rw[JAH hp];exact q4)
noncomputable def frzO(x:E)(O:Ow):Ow:=λi=>if x.uses i=true then none else O i
theorem ownP_frz{b:Addr}:ownP (frzO x O) b↔unP x O b:=by
 constructor
 ·rintro⟨i,h⟩;unfold frzO at h
  split at h
  ·cases h
  ·rename_i hu;exact⟨i,h,by simpa using hu⟩
 ·rintro⟨i,h,hu⟩;exact⟨i,by unfold frzO;rw[if_neg (by rw[hu];exact Bool.false_ne_true)];exact h⟩
theorem JA4(hz:∀a,unP x O a->H1 a=none):Same H1 (hid (mixP H H1 (unP x O)) (frzO x O)):=λb o e=>by
 have hb:¬unP x O b:=λh=>by rw[hz b h]at e;cases e
 rw[hid,JAH (λh=>hb (ownP_frz.mp h)),JAO hb];exact e
theorem JGC(so:SO B Hb σ H δ O)(sm:Same (hidP H (unP x O)) H1)(hz:∀a,unP x O a->H1 a=none):SO B Hb σ (mixP H H1 (unP x O)) (JAk x 0 δ) (frzO x O):=by
 have s1:Same (hid H O) (hid (mixP H H1 (unP x O)) (frzO x O)):=(same_un.trans sm).trans (JA4 hz);have k:=JCh so sm hz;refine⟨by rw[JEn];exact so.len,k.same,λi j a h1 h2=>?_,λi=>?_⟩
 ·unfold frzO at h1 h2
  split at h1
  ·cases h1
  ·split at h2
   ·cases h2
   ·exact so.inj i j a h1 h2
 ·rw[JD7,Nat.zero_add];have q:=so.slot i;cases e1:δ[i]? with
  |none=>rw[e1]at q;simp only[JAM,Option.map_none]at q ⊢;unfold frzO;split<;>first|rfl|exact q
  |some t =>
   rw[e1]at q;simp only[Option.map_some];cases t with
   |no =>
    simp only[Sl.frz,ite_self,JAM]at q ⊢;unfold frzO;split<;>first|rfl|exact q
   |val d =>
    simp only[Sl.frz,ite_self,JAM]at q ⊢;obtain⟨h0,v,e2,dn⟩:=q;exact⟨by unfold frzO;split<;>first|rfl|exact h0,v,e2,Den.mono s1 d v dn⟩
   |own d =>
    by_cases hu:x.uses i=true
    ·rw[if_pos hu];have ho:frzO x O i=none:=by unfold frzO;rw[if_pos hu]
     simp only[JAM]at q;obtain⟨a,ds,xs,q1,q2,q3,q4,q5,q6⟩:=q;subst q2;cases d with
     |dict kvs=>simp only[Sl.frz,JAM];exact ho
     |none=>cases xs<;>exact fF q6
     |bool _=>cases xs<;>exact fF q6
     |int _=>cases xs<;>exact fF q6
     |str _=>cases xs<;>exact fF q6
     |tuple _=>cases xs<;>exact fF q6
     |list ys =>
     simp only[Sl.frz,JAM];refine⟨ho,_,q3,(OwnO.mono s1 _ xs q6).den ?_⟩;have hp:¬unP x O a:=λ⟨j,hj,hu2⟩=>by
      have:=so.inj i j a q1 hj;subst this;rw[hu]at hu2;cases hu2
     exact JA4 hz a _ (sm a _ (by rw[JAH hp];exact q4))
    ·rw[if_neg hu];simp only[JAM]at q ⊢;obtain⟨a,ds,xs,q1,q2,q3,q4,q5,q6⟩:=q;have hp:unP x O a:=⟨i,q1,by simpa using hu⟩
     refine⟨a,ds,xs,by unfold frzO;rw[if_neg hu];exact q1,q2,q3,by rw[JB2 hp];exact q4,q5,OwnO.mono s1 ds xs q6⟩
theorem JJs(so:SO B Hb σ H δ O)(sm:Same (hidP H (unP x O)) H1)(hz:∀a,unP x O a->H1 a=none)(dn:Den B H1 d v) :
  ∃O',SO B Hb σ (mixP H H1 (unP x O)) (after x d δ) O'/\Den B (hid (mixP H H1 (unP x O)) O') d v:=by
 unfold after
 split
 ·exact⟨_,JGC so sm hz,Den.mono (JA4 hz) d v dn⟩
 ·rename_i hb;refine⟨O,JCh so sm hz,?_⟩;cases hu:JAP x 0 δ with
  |false =>
   refine Den.mono (λb o e=>?_) d v dn;have hb':¬unP x O b:=λh=>by rw[hz b h]at e;cases e
   have hb2:¬ownP O b:=λ⟨i,h⟩=>by
    obtain⟨ds,xs,e1,_⟩:=so.own h;refine hb' ⟨i,h,?_⟩;cases q:x.uses i with
    |false=>rfl
    |true =>
     have:=JBP x δ 0 i _ hu e1 (by rw[Nat.zero_add];exact q)
     cases this
   rw[hid,JAH hb2,JAO hb'];exact e
  |true =>
   have hl:JAS d=true:=by
    rw[hu]at hb;cases q:JAS d with
    |true=>rfl
    |false=>rw[q]at hb;exact absurd rfl hb
   refine JDL (λb o e ho=>?_) d v hl dn;have hb':¬unP x O b:=λh=>by rw[hz b h]at e;cases e
   have hb2:¬ownP O b:=λ⟨i,h⟩=>by
    obtain⟨ds,xs,_,_,e4,_,e9⟩:=so.own h;have:=sm b _ (by rw[JAH hb'];exact e4)
    rw[e]at this;cases this;exact ho e9.b
   rw[hid,JAH hb2,JAO hb'];exact e
def RS(X:Cx)(B:Bs)(C:Cn)(XX:Nat->Hp->Prop)(x:E):TE:=λσ H Q=>∃δ O Hb,Same X.H₀ Hb/\SO B Hb σ H δ O/\(match ev C x δ with
 |.ok d=>∀v H' O',SO B Hb σ H' (after x d δ) O'->Den B (hid H' O') d v->Q v H'
 |.exc c=>XX c Hb
 |.bad=>False)
def RTS(X:Cx)(B:Bs)(C:Cn)(XX:Nat->Hp->Prop)(x:E):TT:=λσ H Q=>∃δ O Hb,Same X.H₀ Hb/\SO B Hb σ H δ O/\(match evT C x δ with
 |.ok b=>∀H',SO B Hb σ H' δ O->Q b H'
 |.exc c=>XX c Hb
 |.bad=>False)
def RIS(X:Cx)(B:Bs)(C:Cn)(XX:Nat->Hp->Prop)(x:E):TI:=λσ H Q=>∃δ O Hb,Same X.H₀ Hb/\SO B Hb σ H δ O/\(match evI C x δ with
 |.ok ds=>∀J H' O',SO B Hb σ H' (JAk x 0 δ) O'->ItOk B J (hid H' O') ds->Q J H'
 |.exc c=>XX c Hb
 |.bad=>False)
theorem JIQ(g:Gk X B C CX XX G)(he:PE X e (RE B C XX x)):PE X e (RS X B C XX x):=by
 intro pins s σ H Q I ⟨δ,O,Hb,hb,so,k⟩;have J0:=JBd (ps:=JCK x O δ.length s.heap) I (JA9 (x:=x) hb so) JBE;have hev:=(agree C x δ (JAh x 0 δ) JBY).1;cases q:ev C x δ with
 |ok d =>
  rw[q]at k;refine thn (he _ s σ _ (λv H1=>Same (hidP H (unP x O)) H1/\Den B H1 d v) J0 ⟨JAh x 0 δ,JAt so,by rw[<-hev,q];exact λv H1 s1 d1=>⟨s1,d1⟩⟩) λu s1 ⟨v,H1,J,r,sm,dn⟩=>?_
  obtain⟨I',hz⟩:=JBF I J (JA9 hb so) (JAz I so);obtain⟨O',so',dn'⟩:=JJs so sm hz dn;exact⟨v,_,I',r,k v _ O' so' dn'⟩
 |exc c =>
  rw[q]at k;exact thn (he _ s σ _ (λv H1=>False) J0 ⟨JAh x 0 δ,JAt so,by rw[<-hev,q];exact g.anti c _ _ ((JA2 so).trans same_un) k⟩) λu s1 ⟨v,H1,J,r,f⟩=>f.elim
 |bad=>rw[q]at k;exact k.elim
theorem JLj(g:Gk X B C CX XX G)(he:PT X e (RT B C XX x)):PT X e (RTS X B C XX x):=by
 intro pins s σ H Q I ⟨δ,O,Hb,hb,so,k⟩;have J0:=JBd (ps:=JCK x O δ.length s.heap) I (JA9 (x:=x) hb so) JBE;have hev:=(agree C x δ (JAh x 0 δ) JBY).2.1;cases q:evT C x δ with
 |ok d =>
  rw[q]at k;refine thn (he _ s σ _ (λb H1=>b=d/\Same (hidP H (unP x O)) H1) J0 ⟨JAh x 0 δ,JAt so,by rw[<-hev,q];exact λH1 s1=>⟨rfl,s1⟩⟩) λu s1 ⟨H1,J,e,sm⟩=>?_
  subst e;obtain⟨I',hz⟩:=JBF I J (JA9 hb so) (JAz I so);exact⟨_,I',k _ (JCh so sm hz)⟩
 |exc c =>
  rw[q]at k;exact thn (he _ s σ _ (λv H1=>False) J0 ⟨JAh x 0 δ,JAt so,by rw[<-hev,q];exact g.anti c _ _ ((JA2 so).trans same_un) k⟩) λu s1 ⟨H1,J,f⟩=>f.elim
 |bad=>rw[q]at k;exact k.elim
theorem JLF(g:Gk X B C CX XX G)(he:PI X tg e (RI B C XX x)):PI X tg e (RIS X B C XX x):=by
 intro pins s σ H Q I ⟨δ,O,Hb,hb,so,k⟩;have J0:=JBd (ps:=JCK x O δ.length s.heap) I (JA9 (x:=x) hb so) JBE;have hev:=(agree C x δ (JAh x 0 δ) JBY).2.2.2;cases q:evI C x δ with
 |ok ds =>
  rw[q]at k;refine thn (he _ s σ _ (λJt H1=>Same (hidP H (unP x O)) H1/\ItOk B Jt H1 ds) J0 ⟨JAh x 0 δ,JAt so,by rw[<-hev,q];exact λJt H1 s1 d1=>⟨s1,d1⟩⟩) λu s1 h1=>thn h1 λitv s2 h2=>?_
  obtain⟨it,fp,tn,Jt,H1,e,J,T,st,f,sm,io⟩:=h2;obtain⟨I',hz⟩:=JBF I J (JA9 hb so) (JAz I so);refine⟨it,fp,tn,Jt,_,e,I',T,st,λb hb=>?_,k Jt _ _ (JGC so sm hz) λH2 s2 i=>⟨λd e=>⟨((io H2 ((JA4 hz).trans s2) i).1 d e).1,λv H3 y=>(((io H2 ((JA4 hz).trans s2) i).1 d e).2 v H3 y).imp (λq=>⟨q.1,Den.mono (JA4 hz) d v q.2⟩) λ⟨p,xs,es,z1,z2,z3,z4,z5⟩=>⟨p,xs,es,z1,z2,z3,z4,DenL.mono (JA4 hz) _ _ z5⟩⟩,(io H2 ((JA4 hz).trans s2) i).2⟩⟩;obtain⟨f1,f2,f3,f4,f5,f6⟩:=f b hb;refine⟨?_,f2,f3,f4,f5,λp hp=>f6 p ?_⟩
  ·rw[JAO λhp=>by
    obtain⟨o,hm,_⟩:=JAz I so b hp;exact f6 (b,o) (q_r _ (q_r _ hm)) rfl]
   exact f1
  ·rcases List.mem_append.mp hp with z|z
   ·exact List.mem_append_left _ z
   ·exact q_r _ (List.mem_append_left _ z)
 |exc c =>
  rw[q]at k;refine thn (he _ s σ _ (λ_ _=>False) J0 ⟨JAh x 0 δ,JAt so,by rw[<-hev,q];exact g.anti c _ _ ((JA2 so).trans same_un) k⟩) λu s1 h1=>thn h1 λitv s2 h2=>?_
  obtain⟨_,_,_,_,_,_,_,_,_,_,f⟩:=h2;exact f.elim
 |bad=>rw[q]at k;exact k.elim
end
theorem same_hidP:Same (hidP H P) H:=λb o e=>(JA5 e).2
section
variable{X:Cx}{B:Bs}{C:Cn}{CX:CXT}{XX:Nat->Hp->Prop}{G:List (Str×GK)}{pins:Pq}{σ:St}{H:Hp}{s:Shared}{δ:Env}{O:Ow}{x:E}{Hb Hb':Hp}
theorem SO.weak(so:SO B Hb' σ H δ O)(h:Same Hb Hb'):SO B Hb σ H δ O:=by
 refine⟨so.len,h.trans so.same,so.inj,λi=>?_⟩;have q:=so.slot i;cases e:δ[i]? with
 |none=>rw[e]at q;exact q
 |some t =>
  rw[e]at q;cases t with
  |no=>exact q
  |val d=>exact q
  |own d =>
   simp only[JAM]at q ⊢;obtain⟨a,ds,xs,q1,q2,q3,q4,q5,q6⟩:=q;exact⟨a,ds,xs,q1,q2,q3,q4,h.free q5,q6⟩
theorem SO.base(so:SO B Hb σ H δ O):SO B (hid H O) σ H δ O:=by
 refine⟨so.len,same_hidP,so.inj,λi=>?_⟩;have q:=so.slot i;cases e:δ[i]? with
 |none=>rw[e]at q;exact q
 |some t =>
  rw[e]at q;cases t with
  |no=>exact q
  |val d=>exact q
  |own d =>
   simp only[JAM]at q ⊢;obtain⟨a,ds,xs,q1,q2,q3,q4,q5,q6⟩:=q;exact⟨a,ds,xs,q1,q2,q3,q4,JBB ⟨i,q1⟩,q6⟩
noncomputable def setO(O:Ow)(i:Nat)(a:Option Addr):Ow:=λj=>if j=i then a else O j
theorem JAw{i:Nat}:setO O i a i=a:=if_pos rfl
theorem JAr{i j:Nat}(h:j≠i):setO O i a j=O j:=if_neg h
theorem JA3{i:Nat}:Same (hid H O) (hid H (setO O i none)):=λb o e=>by
 obtain⟨h1,h2⟩:=JA5 e;rw[hid,JAH λ⟨j,hj⟩=>h1 ⟨j,by
  by_cases hji:j=i
  ·subst hji;rw[JAw]at hj;cases hj
  ·rw[JAr hji]at hj;exact hj⟩]
 exact h2
theorem JIi(so:SO B Hb σ H δ O){i:Nat}(dn:Den B (hid H O) d v):SO B Hb (σ.set i (some v)) H (δ.set i (.val d)) (setO O i none):=by
 refine⟨by simpa using so.len,so.same,λj k a h1 h2=>?_,λj=>?_⟩
 ·by_cases hj:j=i
  ·subst hj;rw[JAw]at h1;cases h1
  ·by_cases hk:k=i
   ·subst hk;rw[JAw]at h2;cases h2
   ·rw[JAr hj]at h1;rw[JAr hk]at h2;exact so.inj j k a h1 h2
 ·by_cases hj:j=i
  ·subst hj
   by_cases hl:j<δ.length
   ·rw[q_z hl];simp only[JAM];exact⟨JAw,v,q_z (by rw[so.len];exact hl),Den.mono JA3 d v dn⟩
   ·rw[List.getElem?_eq_none_iff.mpr (by simpa using hl)]
    exact JAw
  ·rw[q_A (Ne.symm hj)];have q:=so.slot j;cases e:δ[j]? with
   |none=>rw[e]at q;simp only[JAM]at q ⊢;rw[JAr hj];exact q
   |some t =>
    rw[e]at q;cases t with
    |no=>simp only[JAM]at q ⊢;rw[JAr hj];exact q
    |val d' =>
     simp only[JAM]at q ⊢;rw[JAr hj,q_A (Ne.symm hj)];obtain⟨h0,w,e2,dn'⟩:=q;exact⟨h0,w,e2,Den.mono JA3 d' w dn'⟩
    |own d' =>
     simp only[JAM]at q ⊢;rw[JAr hj,q_A (Ne.symm hj)];obtain⟨a,ds,xs,q1,q2,q3,q4,q5,q6⟩:=q;exact⟨a,ds,xs,q1,q2,q3,q4,q5,OwnO.mono JA3 ds xs q6⟩
theorem JLe(so:SO B Hb σ H δ O){Da:Addr}(hD:H Da=none):SO B Hb σ (upd H Da o) δ O:=by
 have own:∀j a,O j=some a->∃xs,H a=some xs:=λj a h=>by
  have q:=so.slot j;cases e:δ[j]? with
  |none=>rw[e]at q;simp only[JAM]at q;rw[h]at q;cases q
  |some t =>
   rw[e]at q;cases t with
   |no=>simp only[JAM]at q;rw[h]at q;cases q
   |val d=>simp only[JAM]at q;rw[h]at q;cases q.1
   |own d =>
    simp only[JAM]at q;obtain⟨a',ds',xs',e1,e2,e3,e4,_⟩:=q;rw[h]at e1;cases e1;exact⟨xs',e4⟩
 have s1:Same (hid H O) (hid (upd H Da o) O):=λb u e=>by
  obtain⟨h1,h2⟩:=JA5 e;have hb:b≠Da:=λz=>by rw[z,hD]at h2;cases h2
  rw[hid,JAH h1,JAK hb];exact h2
 refine⟨so.len,so.same.trans (JBC hD),so.inj,λj=>?_⟩;have q:=so.slot j;cases e:δ[j]? with
 |none=>rw[e]at q;exact q
 |some t =>
  rw[e]at q;cases t with
  |no=>exact q
  |val d' =>
   simp only[JAM]at q ⊢;obtain⟨h0,w,e2,dn'⟩:=q;exact⟨h0,w,e2,Den.mono s1 d' w dn'⟩
  |own d' =>
   simp only[JAM]at q ⊢;obtain⟨a,ds',xs',q1,q2,q3,q4,q5,q6⟩:=q;exact⟨a,ds',xs',q1,q2,q3,by rw[JAK λz=>by rw[z,hD]at q4;cases q4];exact q4,q5,OwnO.mono s1 ds' xs' q6⟩
theorem JGo(so:SO B Hb σ H δ O){i:Nat}(hil:i<δ.length){Da:Addr}(hD:H Da=none)(dn:OwnO B (hid H O) ds xs):SO B Hb (σ.set i (some (.ref Da))) (upd H Da xs) (δ.set i (.own ds)) (setO O i (some Da)):=by
 have nO:∀j a,O j=some a->a≠Da:=λj a h z=>by
  subst z;have q:=so.slot j;cases e:δ[j]? with
  |none=>rw[e]at q;simp only[JAM]at q;rw[h]at q;cases q
  |some t =>
   rw[e]at q;cases t with
   |no=>simp only[JAM]at q;rw[h]at q;cases q
   |val d=>simp only[JAM]at q;rw[h]at q;cases q.1
   |own d =>
    simp only[JAM]at q;obtain⟨a',ds',xs',e1,e2,e3,e4,_⟩:=q;rw[h]at e1;cases e1;rw[hD]at e4;cases e4
 have s1:Same (hid H O) (hid (upd H Da xs) (setO O i (some Da))):=λb o e=>by
  obtain⟨h1,h2⟩:=JA5 e;have hb:b≠Da:=λz=>by rw[z,hD]at h2;cases h2
  rw[hid,JAH λ⟨j,hj⟩=>by
   by_cases hji:j=i
   ·subst hji;rw[JAw]at hj;exact hb (Option.some.inj hj).symm
   ·rw[JAr hji]at hj;exact h1 ⟨j,hj⟩,JAK hb]
  exact h2
 refine⟨by simpa using so.len,so.same.trans (JBC hD),λj k a h1 h2=>?_,λj=>?_⟩
 ·by_cases hj:j=i
  ·subst hj;rw[JAw]at h1
   by_cases hk:k=j
   ·exact hk.symm
   ·rw[JAr hk]at h2;exact absurd (Option.some.inj h1).symm (nO k a h2)
  ·by_cases hk:k=i
   ·subst hk;rw[JAw]at h2;rw[JAr hj]at h1;exact absurd (Option.some.inj h2).symm (nO j a h1)
   ·rw[JAr hj]at h1;rw[JAr hk]at h2;exact so.inj j k a h1 h2
 ·by_cases hj:j=i
  ·subst hj
   by_cases hl:j<δ.length
   ·rw[q_z hl];simp only[JAM];exact⟨Da,ds,xs,JAw,rfl,q_z (by rw[so.len];exact hl),JAI,so.same.free hD,OwnO.mono s1 ds xs dn⟩
   ·exact absurd hil hl
  ·rw[q_A (Ne.symm hj)];have q:=so.slot j;cases e:δ[j]? with
   |none=>rw[e]at q;simp only[JAM]at q ⊢;rw[JAr hj];exact q
   |some t =>
    rw[e]at q;cases t with
    |no=>simp only[JAM]at q ⊢;rw[JAr hj];exact q
    |val d' =>
     simp only[JAM]at q ⊢;rw[JAr hj,q_A (Ne.symm hj)];obtain⟨h0,w,e2,dn'⟩:=q;exact⟨h0,w,e2,Den.mono s1 d' w dn'⟩
    |own d' =>
     simp only[JAM]at q ⊢;rw[JAr hj,q_A (Ne.symm hj)];obtain⟨a,ds',xs',q1,q2,q3,q4,q5,q6⟩:=q;exact⟨a,ds',xs',q1,q2,q3,by rw[JAK (nO j a q1)];exact q4,q5,OwnO.mono s1 ds' xs' q6⟩
theorem JG6(so:SO B Hb σ H δ O){i:Nat}{Da:Addr}(hD:H Da=none)(dn:OwnO B (hid H O) ds xs):∃O',SO B Hb (σ.set i (some (.ref Da))) (upd H Da xs) (δ.set i (.own ds)) O':=by
 by_cases hi:i<δ.length
 ·exact⟨_,JGo so hi hD dn⟩
 ·rw[List.set_eq_of_length_le (l:=σ) (by rw[so.len];omega),List.set_eq_of_length_le (l:=δ) (by omega)]
  exact⟨O,JLe so hD⟩
theorem JPF(so:SO B Hb σ H δ O){i:Nat}{a:Addr}(ha:O i=some a)(dn:OwnO B (hid H O) ds xs):SO B Hb σ (upd H a xs) (δ.set i (.own ds)) O:=by
 have eh:hid (upd H a xs) O=hid H O:=by
  funext b
  by_cases hb:ownP O b
  ·rw[hid,hid,JBB hb,JBB hb]
  ·rw[hid,hid,JAH hb,JAH hb,JAK λz=>hb ⟨i,by rw[z];exact ha⟩]
 have own:=λ(j:Nat) (b:Addr) (h:O j=some b)=>so.inj i j;have hq:=so.slot i;obtain⟨ds0,xs0,e1,e2,e3,e4⟩:∃ds0 xs0,δ[i]? = some (.own ds0)/\σ[i]? = some (some (.ref a))/\H a=some xs0/\Hb a=none:=by
  cases e:δ[i]? with
  |none=>rw[e]at hq;simp only[JAM]at hq;rw[ha]at hq;cases hq
  |some t =>
   rw[e]at hq;cases t with
   |no=>simp only[JAM]at hq;rw[ha]at hq;cases hq
   |val d=>simp only[JAM]at hq;rw[ha]at hq;cases hq.1
   |own d =>
    simp only[JAM]at hq;obtain⟨a',ds',xs',f1,f2,f3,f4,f5,_⟩:=hq;rw[ha]at f1;cases f1;subst f2;exact⟨_,xs',rfl,f3,f4,f5⟩
 refine⟨by simpa using so.len,λb o e=>?_,so.inj,λj=>?_⟩
 ·rw[JAK λz=>by rw[z,e4]at e;cases e]
  exact so.same b o e
 ·by_cases hj:j=i
  ·subst hj;rw[q_z (q_p.mp e1).1];simp only[JAM];exact⟨a,ds,xs,ha,rfl,e2,JAI,e4,by rw[eh];exact dn⟩
  ·rw[q_A (Ne.symm hj)];have q:=so.slot j;cases e:δ[j]? with
   |none=>rw[e]at q;exact q
   |some t =>
    rw[e]at q;cases t with
    |no=>exact q
    |val d' =>
     simp only[JAM]at q ⊢;rw[eh];exact q
    |own d' =>
     simp only[JAM]at q ⊢;obtain⟨a',ds',xs',q1,q2,q3,q4,q5,q6⟩:=q;refine⟨a',ds',xs',q1,q2,q3,?_,q5,by rw[eh];exact q6⟩
     rw[JAK λz=>hj (so.inj j i a (by rw[<-z];exact q1) ha)]
     exact q4
def RSF(X:Cx)(B:Bs)(C:Cn)(XX:Nat->Hp->Prop)(x:E):TE:=λσ H Q=>∃δ O Hb,Same X.H₀ Hb/\SO B Hb σ H δ O/\(match ev C x δ with
 |.ok d=>∀Da ds xs H1 O',d=ds->SO B Hb σ H1 (after x d δ) O'->H1 Da=none->OwnO B (hid H1 O') ds xs->Q (.ref Da) (upd H1 Da xs)
 |.exc c=>XX c Hb
 |.bad=>False)
theorem JG9{Da:Addr}(h:¬P Da):mixP H (upd H1 Da o) P=upd (mixP H H1 P) Da o:=by
 funext b
 by_cases hb:b=Da
 ·subst hb;rw[JAO h,JAI,JAI]
 ·rw[JAK hb]
  by_cases hp:P b
  ·rw[JB2 hp,JB2 hp]
  ·rw[JAO hp,JAO hp,JAK hb]
theorem JEH(so:SO B Hb σ H δ O)(sm:Same (hidP H (unP x O)) H1)(hz:∀a,unP x O a->H1 a=none)(dn:OwnO B H1 ds xs) :
  ∃O',SO B Hb σ (mixP H H1 (unP x O)) (after x ds δ) O'/\OwnO B (hid (mixP H H1 (unP x O)) O') ds xs:=by
 unfold after
 split
 ·exact⟨_,JGC so sm hz,OwnO.mono (JA4 hz) ds xs dn⟩
 ·rename_i hb;have hu:JAP x 0 δ=false:=by
   cases q:JAP x 0 δ with
   |false=>rfl
   |true=>rw[q]at hb;exact absurd (by rw[dn.nl];rfl) hb
  refine⟨O,JCh so sm hz,OwnO.mono (λb o e=>?_) ds xs dn⟩;have hb':¬unP x O b:=λh=>by rw[hz b h]at e;cases e
  have hb2:¬ownP O b:=λ⟨i,h⟩=>by
   obtain⟨ds,xs,e1,_⟩:=so.own h;refine hb' ⟨i,h,?_⟩;cases q:x.uses i with
   |false=>rfl
   |true =>
    have:=JBP x δ 0 i _ hu e1 (by rw[Nat.zero_add];exact q)
    cases this
  rw[hid,JAH hb2,JAO hb'];exact e
theorem JPd(g:Gk X B C CX XX G)(he:PE X e (REF B C XX x)):PE X e (RSF X B C XX x):=by
 intro pins s σ H Q I ⟨δ,O,Hb,hb,so,k⟩;have J0:=JBd (ps:=JCK x O δ.length s.heap) I (JA9 (x:=x) hb so) JBE;have hev:=(agree C x δ (JAh x 0 δ) JBY).1;cases q:ev C x δ with
 |ok d =>
  rw[q]at k;refine thn (he _ s σ _ (λv H1=>∃Da ds xs H2,v=.ref Da/\H1=upd H2 Da xs/\d=ds/\Same (hidP H (unP x O)) H2/\H2 Da=none/\OwnO B H2 ds xs) J0
   ⟨JAh x 0 δ,JAt so,by rw[<-hev,q];exact λDa ds xs H1 e s1 hD dn=>⟨Da,ds,xs,H1,rfl,rfl,e,s1,hD,dn⟩⟩) λu s1 ⟨v,H1,J,r,Da,ds,xs,H2,e1,e2,e3,sm,hD,dn⟩=>?_
  subst e1;subst e2;subst e3;obtain⟨I',hz⟩:=JBF I J (JA9 hb so) (JAz I so);have nD:¬unP x O Da:=λh=>by have:=hz Da h;rw[JAI]at this;cases this
  have hz2:∀a,unP x O a->H2 a=none:=λa h=>by
   have:=hz a h
   rwa [JAK λz=>nD (by rw[<-z];exact h)]at this
  rw[JG9 nD]at I';obtain⟨O',so',dn'⟩:=JEH so sm hz2 dn;exact⟨_,_,I',r,k Da _ xs _ O' rfl so' (by rw[JAO nD];exact hD) dn'⟩
 |exc c =>
  rw[q]at k;exact thn (he _ s σ _ (λv H1=>False) J0 ⟨JAh x 0 δ,JAt so,by rw[<-hev,q];exact g.anti c _ _ ((JA2 so).trans same_un) k⟩) λu s1 ⟨v,H1,J,r,f⟩=>f.elim
 |bad=>rw[q]at k;exact k.elim
theorem JQG(g:Gk X B C CX XX G){st:Stmt}{i:Nat}(he:PS X st (tAsg (REF B C XX x) (JFK i))):PS X st (tAsg (RSF X B C XX x) (JFK i)):=by
 intro pins s σ H D I h;obtain⟨δ,O,Hb,hb,so,k⟩:=h;have J0:=JBd (ps:=JCK x O δ.length s.heap) I (JA9 (x:=x) hb so) JBE;have hev:=(agree C x δ (JAh x 0 δ) JBY).1;cases q:ev C x δ with
 |ok d =>
  rw[q]at k;refine thn (he _ s σ _ { nx:=λσ' H1=>∃Da ds xs H2,σ'=σ.set i (some (.ref Da))/\H1=upd H2 Da xs/\d=ds/\Same (hidP H (unP x O)) H2/\H2 Da=none/\OwnO B H2 ds xs,rt:=λ_ _=>False } J0
   ⟨JAh x 0 δ,JAt so,by rw[<-hev,q];exact λDa ds xs H1 e s1 hD dn=>⟨Da,ds,xs,H1,rfl,rfl,e,s1,hD,dn⟩⟩) λf s1 hf=>?_
  cases f with
  |next =>
   obtain⟨σ',H1,J,Da,ds,xs,H2,e1,e2,e3,sm,hD,dn⟩:=hf;subst e1;subst e2;subst e3;obtain⟨I',hz⟩:=JBF I J (JA9 hb so) (JAz I so);have nD:¬unP x O Da:=λh=>by have:=hz Da h;rw[JAI]at this;cases this
   have hz2:∀a,unP x O a->H2 a=none:=λa h=>by
    have:=hz a h
    rwa [JAK λz=>nD (by rw[<-z];exact h)]at this
   rw[JG9 nD]at I';obtain⟨O',so',dn'⟩:=JEH so sm hz2 dn;exact⟨_,_,I',k Da _ xs _ O' rfl so' (by rw[JAO nD];exact hD) dn'⟩
  |ret v=>obtain⟨_,_,_,_,_,f⟩:=hf;exact f.elim
  |brk=>obtain⟨_,_,_,f⟩:=hf;exact fF f
  |cont=>obtain⟨_,_,_,f⟩:=hf;exact fF f
 |exc c =>
  rw[q]at k;refine thn (he _ s σ _ { nx:=λ_ _=>False,rt:=λ_ _=>False } J0 ⟨JAh x 0 δ,JAt so,by rw[<-hev,q];exact g.anti c _ _ ((JA2 so).trans same_un) k⟩) λf s1 hf=>?_
  cases f with
  |next=>obtain⟨_,_,_,f⟩:=hf;exact f.elim
  |ret v=>obtain⟨_,_,_,_,_,f⟩:=hf;exact f.elim
  |brk=>obtain⟨_,_,_,f⟩:=hf;exact fF f
  |cont=>obtain⟨_,_,_,f⟩:=hf;exact fF f
 |bad=>rw[q]at k;exact k.elim
end
section
variable{X:Cx}{B:Bs}{C:Cn}{CX:CXT}{XX:Nat->Hp->Prop}{G:List (Str×GK)}{x:E}{pos:Pos}
theorem PS.imp{st:Stmt}{t t':TS}(h:PS X st t)(i:∀D σ H,t' D σ H->t D σ H):PS X st t':=λpins s σ H D I q=>h pins s σ H D I (i D σ H q)
theorem PSs.imp{st:List Stmt}{t t':TS}(h:PSs X st t)(i:∀D σ H,t' D σ H->t D σ H):PSs X st t':=λpins s σ H D I q=>h pins s σ H D I (i D σ H q)
theorem JPj:PSs X [] (RSt X B C XX .nil):=PSs.imp JNI λD σ H ⟨δ,O,Hb,hb,so,k⟩=>k σ H O so
theorem JNO{st:Stmt}{r:List Stmt}{a b:S}(h1:PS X st (RSt X B C XX a))(h2:PSs X r (RSt X B C XX b)):PSs X (st::r) (RSt X B C XX (.cons a b)) :=
 PSs.imp (JJK h1 h2) λD σ H ⟨δ,O,Hb,hb,so,k⟩=>by
  refine⟨δ,O,Hb,hb,so,?_⟩;simp only[exec]at k;cases q:exec C a δ with
  |nx δ'=>rw[q]at k;exact λσ' H' O' so'=>⟨δ',O',Hb,hb,so',k⟩
  |rt d=>rw[q]at k;exact k
  |bk d=>rw[q]at k;exact k
  |ct d=>rw[q]at k;exact k
  |ex c=>rw[q]at k;exact k
  |bad=>rw[q]at k;exact k
theorem JMI:PS X (.Pass pos) (RSt X B C XX .pass):=PS.imp JM7 λD σ H ⟨δ,O,Hb,hb,so,k⟩=>k σ H O so
theorem JOu:PS X (.Break pos) (RSt X B C XX .brk):=PS.imp JI9 λD σ H ⟨δ,O,Hb,hb,so,k⟩=>k σ H O so
theorem JNx:PS X (.Continue pos) (RSt X B C XX .cnt):=PS.imp JE7 λD σ H ⟨δ,O,Hb,hb,so,k⟩=>k σ H O so
theorem JPv{y:Str}{j:Nat}{pos':Pos}:PS X (.Expr (.Constant (.str y) j pos) pos') (RSt X B C XX .pass):=PS.imp JOi λD σ H ⟨δ,O,Hb,hb,so,k⟩=>k σ H O so
theorem JMR:PS X (.Return none pos) (RSt X B C XX .retN):=PS.imp JLx λD σ H ⟨δ,O,Hb,hb,so,k⟩=>k .non H so.same (by simp only[Den])
theorem JOd(g:Gk X B C CX XX G){e:Expr}(he:PE X e (RE B C XX x)):PS X (.Return (some e) pos) (RSt X B C XX (.ret x)) :=
 PS.imp (JQH (JIQ g he)) λD σ H ⟨δ,O,Hb,hb,so,k⟩=>by
  refine⟨δ,O,Hb,hb,so,?_⟩;simp only[exec]at k;cases q:ev C x δ with
  |ok d=>rw[q]at k;exact λv H' O' so' dn=>k v H' so'.same (Den.mono same_hidP d v dn)
  |exc c=>rw[q]at k;exact k
  |bad=>rw[q]at k;exact k
theorem JNZ(g:Gk X B C CX XX G){c:Expr}{a b:List Stmt}{s1 s2:S}(hc:PT X c (RT B C XX x))(ha:PSs X a (RSt X B C XX s1))(hb:PSs X b (RSt X B C XX s2)):PS X (.If c a b pos) (RSt X B C XX (.ife x s1 s2)) :=
 PS.imp (ps_if (JLj g hc) ha hb) λD σ H ⟨δ,O,Hb,hb,so,k⟩=>by
  refine⟨δ,O,Hb,hb,so,?_⟩;simp only[exec]at k;cases q:evT C x δ with
  |ok t =>
   rw[q]at k;intro H' so';cases t with
   |true=>exact iteT ⟨δ,O,Hb,hb,so',k⟩
   |false=>exact iteF ⟨δ,O,Hb,hb,so',k⟩
  |exc c=>rw[q]at k;exact k
  |bad=>rw[q]at k;exact k
theorem JNM(g:Gk X B C CX XX G){e:Expr}(he:PE X e (RE B C XX x))(hs:swapsWith e none pos.line X.env=pure false):PS X (.Expr e pos) (RSt X B C XX (.drop x)) :=
 PS.imp (JHi (JIQ g he) hs) λD σ H ⟨δ,O,Hb,hb,so,k⟩=>by
  refine⟨δ,O,Hb,hb,so,?_⟩;simp only[exec]at k;cases q:ev C x δ with
  |ok d=>rw[q]at k;exact λv H' O' so' dn=>k σ H' O' so'
  |exc c=>rw[q]at k;exact k
  |bad=>rw[q]at k;exact k
theorem JP8(g:Gk X B C CX XX G){e:Expr}{i:Nat}{nm:Str}{pos':Pos}(he:PE X e (RE B C XX x))(hf:x.fresh=false)(hnd:X.N.Nodup)(hN:X.N[i]? = some nm)(hx:Loc X.env.scope nm)(hs:swapsWith e (some (.Name nm pos')) pos.line X.env=pure false)
  (hfn:X.fn nm=true\/X.env.scope.names.lookup nm=some .local):PS X (.Assign [.Name nm pos'] e pos) (RSt X B C XX (.asg i x)) :=
 PS.imp (JKt hnd hN hx (JIQ g he) hs hfn) λD σ H ⟨δ,O,Hb,hb,so,k⟩=>by
  refine⟨δ,O,Hb,hb,so,?_⟩;simp only[exec,hf,q_v,if_false]at k;cases q:ev C x δ with
  |ok d=>rw[q]at k;exact λv H' O' so' dn=>k _ H' _ (JIi so' dn)
  |exc c=>rw[q]at k;exact k
  |bad=>rw[q]at k;exact k
theorem JEp{i:Nat}(hf:x.fresh=true){D:Ends}{σ:St}{H:Hp}(h:RSt X B C XX (.asg i x) D σ H):tAsg (RSF X B C XX x) (JFK i) D σ H:=by
 obtain⟨δ,O,Hb,hb,so,k⟩:=h;refine⟨δ,O,Hb,hb,so,?_⟩;simp only[exec,hf,if_true]at k;cases q:ev C x δ with
 |ok d =>
  rw[q]at k;intro Da ds xs H1 O' e so' hD dn;subst e;obtain⟨O2,so2⟩:=JG6 (i:=i) so' hD dn;exact k _ _ O2 so2
 |exc c=>rw[q]at k;exact k
 |bad=>rw[q]at k;exact k
theorem JFA(g:Gk X B C CX XX G){i:Nat}(he:PE X e (REF B C XX x))(hf:x.fresh=true)(hnd:X.N.Nodup)(hN:X.N[i]? = some nm)(hx:Loc X.env.scope nm)(hs:swapsWith e (some (.Name nm pos')) pos.line X.env=pure false)
  (hfn:X.fn nm=true\/X.env.scope.names.lookup nm=some .local):PS X (.Assign [.Name nm pos'] e pos) (RSt X B C XX (.asg i x)) :=
 PS.imp (JKt hnd hN hx (JPd g he) hs hfn) λD σ H h=>JEp hf h
theorem JLs(g:Gk X B C CX XX G){st:Stmt}{i:Nat}(h:PS X st (tAsg (REF B C XX x) (JFK i)))(hf:x.fresh=true):PS X st (RSt X B C XX (.asg i x)) :=
 PS.imp (JQG g h) λD σ H h=>JEp hf h
theorem JQi(g:Gk X B C CX XX G)(hp:PassesOwn (model X.prog X.w) X.A X.env X.xe){c:Expr}{body:List Stmt}{b:S}(hc:PT X c (RT B C XX x))(hb:PSs X body (RSt X B C XX b)):PS X (.While c body [] pos) (RSt X B C XX (.whl x b)) :=
 PS.imp (JJS hp (JLj g hc) hb) λD σ H ⟨δ,O,Hb,hb0,so,k⟩=>by
  simp only[exec]at k;unfold JBW at k
  split at k
  ·rename_i hex;refine⟨λm σ H=>∃δ O,SO B Hb σ H δ O/\JEs X B XX Hb D (JAi (evT C x) (exec C b) m δ),⟨hex.choose,δ,O,so,k⟩,?_⟩;rintro m σ H ⟨δ,O,so,k⟩;cases m with
   |zero=>exact fF k
   |succ m =>
    refine⟨δ,O,Hb,hb0,so,?_⟩;simp only[JAi]at k;cases q:evT C x δ with
    |ok t =>
     rw[q]at k;intro H' so';cases t with
     |true =>
      refine iteT ⟨λσ' H'=>∃δ O,SO B Hb σ' H' δ O/\JEs X B XX Hb D (JAi (evT C x) (exec C b) m δ),λσ' H' h=>⟨m,Nat.lt_succ_self m,h⟩,δ,O,Hb,hb0,so',?_⟩;simp only at k;cases q2:exec C b δ with
      |nx δ'=>rw[q2]at k;exact λσ2 H2 O2 so2=>⟨δ',O2,so2,k⟩
      |ct δ'=>rw[q2]at k;exact λσ2 H2 O2 so2=>⟨δ',O2,so2,k⟩
      |bk δ'=>rw[q2]at k;exact k
      |rt d=>rw[q2]at k;exact k
      |ex c=>rw[q2]at k;exact k
      |bad=>rw[q2]at k;exact k
     |false=>exact iteF (k σ H' O so')
    |exc c=>rw[q]at k;exact k
    |bad=>rw[q]at k;exact k
  ·exact fF k
theorem JK9(g:Gk X B C CX XX G){put:D->Env->Option Env}{gt:TG}{tb:TS}{b:S}{De:Ends}{σ:St}{H1:Hp}{J:It}{ds:List D}{δ:Env}{O:Ow}{Hb:Hp}(hb:Same X.H₀ Hb)(so:SO B Hb σ H1 δ O)(io:ItOk B J (hid H1 O) ds)
  (hput:∀(d:D) (v:V) (σ:St) (H:Hp) (δ δ':Env) (O:Ow) (Hb':Hp) (Q:St->Hp->Prop),SO B Hb' σ H δ O->Den B (hid H O) d v->put d δ=some δ'->(∀σ' O',SO B Hb' σ' H δ' O'->Q σ' H)->gt v σ H Q)
  (htb:∀De σ H,RSt X B C XX b De σ H->tb De σ H) (k:JEs X B XX Hb De (forL put (exec C b) ds δ)) :
  ∃W:Nat->Nat->St->Hp->Prop,(∃m,W 0 m σ H1)/\∀i m σ H,W i m σ H->(J.stop i H/\De.nx σ H)\/(J.go i H/\∃N:St->Hp->Prop,(∀σ' H',N σ' H'->∃m',m'<m/\W (i+1) m' σ' H')/\∀x H',J.yld i H x H'->gt x σ H' λσ2 H2=>tb { De with nx:=N,ct:=N,bk:=De.nx } σ2 H2):=by
 have hb1:Same Hb (hid H1 O):=JA2 so;refine⟨λi m σ H=>m=ds.length - i/\i<=ds.length/\∃δ O',SO B (hid H1 O) σ H δ O'/\JEs X B XX Hb De (forL put (exec C b) (ds.drop i) δ),⟨ds.length,by simp,Nat.zero_le _,δ,O,so.base,by simpa using k⟩,?_⟩
 rintro i m σ H ⟨rfl,hi,δ2,O2,so2,k2⟩
 by_cases hlt:i<ds.length
 ·right;have hd:ds[i]? = some ds[i]:=by simp[hlt]
  obtain⟨go,yl⟩:=(io H so2.same i).1 ds[i] hd;refine⟨go,λσ' H'=>∃δ O',SO B (hid H1 O) σ' H' δ O'/\JEs X B XX Hb De (forL put (exec C b) (ds.drop (i+1)) δ),λσ' H' ⟨δ3,O3,so3,k3⟩=>⟨ds.length - (i+1),by omega,rfl,hlt,δ3,O3,so3,k3⟩,λv H' y=>?_⟩
  obtain⟨so3',dn2⟩:SO B (hid H1 O) σ H' δ2 O2/\Den B (hid H' O2) ds[i] v:=by
    rcases yl v H' y with ⟨e,dn⟩|⟨p,xs,es,hp,e,ex,ed,dl⟩
    ·subst e;exact⟨so2,Den.mono (JA2 so2) _ v dn⟩
    ·subst e;subst ex;have s3:=JLe so2 (o:=.tup xs) hp;refine⟨s3,?_⟩;rw[ed];simp only[Den];refine⟨p,xs,rfl,SqT.of ?_,DenL.mono (JA2 s3) _ _ dl⟩;rw[hid,JAH λ⟨j,hj⟩=>by obtain⟨_,_,_,_,e5,_⟩:=so2.own hj;rw[hp]at e5;cases e5]
     exact JAI
  rw[JEV hlt]at k2;unfold forL at k2;cases qp:put ds[i] δ2 with
  |none=>rw[qp]at k2;exact fF k2
  |some δ3 =>
    rw[qp]at k2;refine hput ds[i] v σ H' δ2 δ3 O2 _ _ so3' dn2 qp λσ3 O3 so3=>?_;refine htb _ _ _ ⟨δ3,O3,_,hb.trans hb1,so3,?_⟩;simp only at k2;cases q2:exec C b δ3 with
    |nx δ'=>rw[q2]at k2;exact λσ4 H4 O4 so4=>⟨δ',O4,so4,k2⟩
    |ct δ'=>rw[q2]at k2;exact λσ4 H4 O4 so4=>⟨δ',O4,so4,k2⟩
    |bk δ'=>rw[q2]at k2;exact λσ4 H4 O4 so4=>k2 σ4 H4 O4 (so4.weak hb1)
    |rt d=>rw[q2]at k2;exact λv4 H4 s4 d4=>k2 v4 H4 (hb1.trans s4) d4
    |ex c=>rw[q2]at k2;exact g.anti c Hb _ hb1 k2
    |bad=>rw[q2]at k2;exact k2
 ·left;have ei:i=ds.length:=by omega
  refine⟨(io H so2.same i).2 (by omega),?_⟩
  rw[ei,List.drop_length]at k2;exact k2 σ H O2 (so2.weak hb1)
theorem JMZ[Cool G](g:Gk X B C CX XX G)(hp:PassesOwn (model X.prog X.w) X.A X.env X.xe){iter:Expr}{body:List Stmt}{b:S}{i:Nat}{nm:Str}{pos':Pos}(hi:PI X (.Name nm pos') iter (RI B C XX x))(hb:PSs X body (RSt X B C XX b))(hnd:X.N.Nodup)(hN:X.N[i]? = some nm)(hx:Loc X.env.scope nm)
  (hfn:X.fn nm=true\/X.env.scope.names.lookup nm=some .local) (hs:∀v,foldedSetIterable iter X.env v=pure v):PS X (.For (.Name nm pos') iter body [] pos) (RSt X B C XX (.for1 i x b)) :=
 PS.imp (JKj hp (g.calm inferInstance) (JLF g hi) (JDT hnd hN hx hfn) hb hs) λDe σ H ⟨δ,O,Hb,hb0,so,k⟩=>by
  refine⟨δ,O,Hb,hb0,so,?_⟩;simp only[exec]at k;cases q:evI C x δ with
  |ok ds =>
    rw[q]at k;intro J H' O' so' io;refine JK9 g hb0 so' io (put:=put1 i) (λd v σ H δ δ' O Hb' Q so dn e h=>?_) (λ_ _ _ h=>h) k;have e':δ.set i (.val d)=δ':=Option.some.inj e;subst e';exact h _ _ (JIi so dn)
  |exc c=>rw[q]at k;exact k
  |bad=>rw[q]at k;exact k
end
section
variable{prog:Program}{w:World}{A:Around}{E:Vq}
theorem JD4{it t:Addr}(hne:t≠it):∀(n i:Nat) (s:Shared) (Q:List Value->Shared->Prop),s.heap.IsListIter it t i->s.heap.IsList t items->i+n<=items.size ->
  (∀h':Heap,h'.IsListIter it t (i+n)->Heap.SameBut it s.heap h'->Q ((items.toList.drop i).take n) { s with heap:=h' })->wpAny (model prog w) A (draw (.ref it) n) Q E s
 |0,i,s,Q,hit,_,_,hQ=>by
  show wpAny _ _ (pure []) Q E s;exact q_e (by simpa using hQ s.heap hit (Heap.SameBut.refl ..))
 |n+1,i,s,Q,hit,ht,hle,hQ=>by
  have hlt:i<items.size:=by omega
  show wpAny _ _ (pyNext (.ref it) >>= _) Q E s;refine q_b (wpAny_pyNext_list_item hit ht (x:=items[i]) (by simp[hlt]) λh₁ hit₁ hs₁=>?_)
  refine q_b (wpAny_holding (JD4 hne n (i+1) _ _ hit₁ (ht.extBut hs₁.extBut hne) (by omega) λh₂ hit₂ hs₂=>q_e ?_))
  have hd:items.toList.drop i=items[i]::items.toList.drop (i+1):=by simp[List.drop_eq_getElem_cons,hlt]
  have:=hQ h₂ (by rw[show i+(n+1)=i+1+n by omega];exact hit₂) (hs₁.trans hs₂)
  rw[hd,List.take_succ_cons]at this;exact this
theorem JB4{x1:Nat}{t:Addr}(hh:A.handled=none)(ht:s.heap.IsList t items)
  (hn:(assignEach elts env).length=items.size) (hstar:(assignEach elts env).findIdx? (·.1)=none)
  (h:∀h',Heap.ExtBut s.heap.objs.size s.heap h'->wpAny (model prog w) A (assignInOrder ((assignEach elts env).map (·.2)) items.toList) Q E { s with heap:=h' }) :
  wpAny (model prog w) A (assign (.Tuple elts x1 pos) env (.ref t)) Q E s:=by
 have hlt:t≠s.heap.objs.size:=by obtain⟨o,ho,_⟩:=ht;exact q_l (q_h ho)
 rw[assign_Tuple];refine q_b (wpAny_standAt ?_);unfold unpack;rw[hn,hstar];refine q_b (wpAny_holding ?_);unfold unpackItems;refine q_b ?_;unfold notIterableAtAll;refine q_b (wpAny_specialOf ht.typeIs slot_list_iter.lookup ?_);refine q_e ?_;simp only[q_v,if_false];refine q_b (wpAny_holding (wpAny_pyIter_list ht ?_));refine q_b (wpAny_holding (JD4 hlt items.size 0 _ _ ⟨_,q_k _ rfl,rfl,rfl⟩ (ht.extBut (λb o _ e=>q_c _ e) (q_l (q_E (by obtain⟨o,ho,_⟩:=ht;exact q_h ho)))) (by omega) λh₁ hit₁ hs₁=>?_))
 have hall:List.take items.size (List.drop 0 items.toList)=items.toList:=by
  rw[List.drop_zero];exact List.take_of_length_le (by simp)
 rw[hall];rw[if_neg (by simp)]
 have ht1:h₁.IsList t items:=by
  refine Heap.IsList.extBut ?_ hs₁.extBut hlt;exact ht.extBut (λb o _ e=>q_c _ e) hlt
 refine q_b (wpAny_holding (wpAny_pyNext_list_end hh hit₁ ht1 (by simp) λh₂ he₂=>?_))
 simp only[Option.isSome_none,q_v,if_false];refine q_e (h h₂ λb o hb e=>he₂ b o hb (hs₁.extBut b o hb (q_c _ e)))
end
noncomputable def setV:List Nat->List V->St->St
 |i::is,v::vs,σ=>setV is vs (σ.set i (some v))
 |_,_,σ=>σ
section
variable{X:Cx}{B:Bs}{C:Cn}{CX:CXT}{XX:Nat->Hp->Prop}{G:List (Str×GK)}{x:E}{pos:Pos}{names:Nq}{N:List Str}
theorem JEX(hn:X.env.scope.names=names)(h:JDl (names.lookup nm)=true):L2.Loc X.env.scope nm:=by
 unfold L2.Loc;rw[hn];cases q:names.lookup nm with
 |none=>rw[q]at h;cases h
 |some k=>cases k<;>simp_all [JDl]
theorem slot_of{i:Nat}(hn:X.env.scope.names=names)(hN:X.N=N)(h:slot names N nm=some i):X.N[i]? = some nm/\L2.Loc X.env.scope nm:=by
 unfold slot at h
 split at h
 ·rename_i hb;exact⟨by rw[hN];exact JCc h,JEX hn hb⟩
 ·cases h
theorem JDI(h:slots names N (e::r)=some is):∃nm p i js,e=.Name nm p/\slot names N nm=some i/\slots names N r=some js/\is=i::js:=by
 unfold slots at h
 split at h
 ·rename_i q;cases q
 ·rename_i q;cases q;obtain⟨i,h1,h⟩:=q_a.mp h;obtain⟨js,h2,h⟩:=q_a.mp h;cases h;exact⟨_,_,i,js,rfl,h1,h2,rfl⟩
 ·cases h
theorem JCA:∀ {ts:List Expr}{is:List Nat},slots names N ts=some is->(assignEach ts env).findIdx? (·.1)=none/\(assignEach ts env).length=is.length
 | [],is,h=>by unfold slots at h;cases h;exact⟨rfl,rfl⟩
 |e::r,is,h=>by
  obtain⟨nm,p,i,js,rfl,h1,h2,rfl⟩:=JDI h;obtain⟨q1,q2⟩:=JCA (env:=env) h2;refine⟨?_,by show(assignEach r env).length+1=_;rw[q2];rfl⟩
  show List.findIdx? (·.1) ((false,assign (.Name nm p) env)::assignEach r env)=none;rw[List.findIdx?_cons];simp[q1]
theorem JCm(hn:X.env.scope.names=names)(hN:X.N=N)(hnd:N.Nodup)(hfn:∀nm,X.fn nm=true\/X.env.scope.names.lookup nm≠some .cell):∀ {ts:List Expr}{is:List Nat},slots names N ts=some is->PGs X ts (λvs σ H Q=>vs.length=is.length/\Q (setV is vs σ) H)
 | [],is,h=>by
  unfold slots at h;cases h;intro pins s σ H vs us Q I r ⟨e,q⟩;refine JHc pins s σ H vs us Q I r ⟨q_B.mp e,?_⟩;cases vs<;>exact q
 |e::r,is,h=>by
  obtain⟨nm,p,i,js,rfl,h1,h2,rfl⟩:=JDI h;obtain⟨q1,q2⟩:=slot_of hn hN h1;have hf:X.fn nm=true\/X.env.scope.names.lookup nm=some .local:=by
   rcases hfn nm with z|z
   ·exact .inl z
   ·rcases q2 with k|k
    ·exact .inr k
    ·exact absurd k z
  intro pins s σ H vs us Q I rv ⟨e,q⟩;refine JFb (JDT (by rw[hN];exact hnd) q1 q2 hf) (JCm hn hN hnd hfn h2) rfl pins s σ H vs us Q I rv ?_
  match vs,e,q with
  |v::vr,e,q=>exact⟨v,vr,rfl,by simpa using e,q⟩
theorem JLR[Cool G](g:Gk X B C CX XX G){k n:Nat}(h:PGs X es t)(hn:(assignEach es X.env).length=n)(hst:(assignEach es X.env).findIdx? (·.1)=none) :
  PG X (.Tuple es k pos) (λv σ H Q=>∃a xs,v=.ref a/\(SqT X.K H a xs\/SqL X.K H a xs)/\xs.length=n/\t xs σ H Q):=by
 intro pins s σ H v u Q I r ⟨a,xs,e1,hq,hl,hw⟩;rcases hq with hq|hq
 ·exact JLm (g.calm inferInstance) h hn hst pins s σ H v u Q I r ⟨a,xs,e1,hq,hl,hw⟩
 ·subst e1;cases r;obtain⟨its,rv,⟨o,m,ho,hc,hd,hs⟩,hz⟩:=I.list hq;refine JB4 (I.ok.hd (g.calm inferInstance)) (items:=its.toArray) ⟨o,ho,hc,m,hs⟩ (by simp[hn,<-hl,rv.length]) hst λh' hx=>?_
  have I1:Inv X pins σ H { s with heap:=h' }:=I.kept (t':=s.toks) λb o e=>hx b o (q_l (q_h e)) e
  exact h pins _ σ H xs _ Q I1 (by simpa using rv) hw
theorem JB1:∀(is:List Nat) (ds:List D) (vs:List V) {Hb:Hp}{σ:St}{H:Hp}{δ:Env}{O:Ow},SO B Hb σ H δ O->DenL B (hid H O) ds vs->∃O',SO B Hb (setV is vs σ) H (JAl is ds δ) O'
 | [],ds,vs,_,_,_,_,O,so,dn=>by cases ds<;>cases vs<;>exact⟨O,so⟩
 |i::is,[],vs,_,_,_,_,O,so,dn=>by
  simp only[DenL]at dn;subst dn;exact⟨O,so⟩
 |i::is,d::ds,vs,_,_,_,_,O,so,dn=>by
  simp only[DenL]at dn;obtain⟨v,r,e,q,l⟩:=dn;subst e;exact JB1 is ds r (JIi (i:=i) so q) (DenL.mono JA3 ds r l)
theorem JEw{n c:Nat}:JAu n d≠.exc c:=by
 cases d<;>simp only[JAu]<;>(try split)<;>(intro h;cases h)
theorem JQD[Cool G](g:Gk X B C CX XX G){k:Nat}(he:PE X e (RE B C XX x))(hn:X.env.scope.names=names)(hN:X.N=N)(hnd:N.Nodup)(hfn:∀nm,X.fn nm=true\/X.env.scope.names.lookup nm≠some .cell)
  (h:slots names N ts=some is) (hs:swapsWithSole [.Tuple ts k pt] e pos.line X.env=pure false) (hw:swappedStores [.Tuple ts k pt] e X.env=pure none):PS X (.Assign [.Tuple ts k pt] e pos) (RSt X B C XX (.unp is x)):=by
 obtain⟨q1,q2⟩:=JCA (env:=X.env) h;refine PS.imp (JO0 (JIQ g he) (JLR g (JCm hn hN hnd hfn h) q2 q1) hs hw rfl) λDe σ H ⟨δ,O,Hb,hb,so,kk⟩=>?_;refine⟨δ,O,Hb,hb,so,?_⟩;simp only[exec]at kk;cases q:ev C x δ with
 |ok d =>
  rw[q]at kk;intro v H' O' so' dn;have kk:JEs X B XX Hb De (stepR (JAu is.length d) λxs=>Fl.nx (JAl is xs (after x d δ))):=kk;cases qu:JAu is.length d with
  |ok ds =>
    rw[qu]at kk;have hl:ds.length=is.length/\∃a xs,v=.ref a/\(SqT X.K H' a xs\/SqL X.K H' a xs)/\DenL B (hid H' O') ds xs:=by
     cases d with
     |tuple ys =>
      simp only[JAu]at qu
      split at qu
      ·rename_i hy;cases qu;simp only[Den]at dn;obtain⟨a,xs,e1,e2,e3⟩:=dn;exact⟨hy,a,xs,e1,.inl (JJO same_hidP (g.K▸e2)),e3⟩
      ·cases qu
     |list ys =>
      simp only[JAu]at qu
      split at qu
      ·rename_i hy;cases qu;simp only[Den]at dn;obtain⟨a,xs,e1,e2,e3⟩:=dn;exact⟨hy,a,xs,e1,.inr (same_hidP.seq (g.K▸e2)),e3⟩
      ·cases qu
     |_=>simp only[JAu]at qu;cases qu
    obtain⟨hl1,a,xs,e1,e2,e3⟩:=hl;have hlx:=DenL.len ds xs e3;obtain⟨O2,so2⟩:=JB1 is ds xs so' e3;exact⟨a,xs,e1,e2,by omega,by omega,kk _ _ O2 so2⟩
  |exc c=>exact(JEw qu).elim
  |bad=>rw[qu]at kk;exact kk.elim
 |exc c=>rw[q]at kk;exact kk
 |bad=>rw[q]at kk;exact kk
theorem JIB[Cool G](g:Gk X B C CX XX G)(hp:PassesOwn (model X.prog X.w) X.A X.env X.xe){k:Nat}(hi:PI X (.Tuple ts k pt) iter (RI B C XX x))(hb:PSs X body (RSt X B C XX b))(hn:X.env.scope.names=names)(hN:X.N=N)(hnd:N.Nodup)(hfn:∀nm,X.fn nm=true\/X.env.scope.names.lookup nm≠some .cell)
  (h:slots names N ts=some is) (hs:∀v,foldedSetIterable iter X.env v=pure v):PS X (.For (.Tuple ts k pt) iter body [] pos) (RSt X B C XX (.forT is x b)):=by
 obtain⟨q1,q2⟩:=JCA (env:=X.env) h;refine PS.imp (JKj hp (g.calm inferInstance) (JLF g hi) (JLR g (JCm hn hN hnd hfn h) q2 q1) hb hs) λDe σ H ⟨δ,O,Hb,hb0,so,kk⟩=>?_;refine⟨δ,O,Hb,hb0,so,?_⟩;simp only[exec]at kk;cases q:evI C x δ with
 |ok ds =>
  rw[q]at kk;intro J H' O' so' io;refine JK9 g hb0 so' io (put:=putT is) (gt:=λv σ H Q=>∃a xs,v=.ref a/\(SqT X.K H a xs\/SqL X.K H a xs)/\xs.length=is.length/\(xs.length=is.length/\Q (setV is xs σ) H)) (λd v σ H δ δ' O Hb' Q so dn e h=>?_) (λ_ _ _ h=>h) kk;cases d with
  |tuple ys =>
    simp only[putT]at e
    split at e
    ·rename_i hy;cases e;simp only[Den]at dn;obtain⟨a,xs,e1,e2,e3⟩:=dn;have hlx:=DenL.len ys xs e3;obtain⟨O2,so2⟩:=JB1 is ys xs so e3;exact⟨a,xs,e1,.inl (JJO same_hidP (g.K▸e2)),by omega,by omega,h _ O2 so2⟩
    ·cases e
  |_=>simp only[putT]at e;cases e
 |exc c=>rw[q]at kk;exact kk
 |bad=>rw[q]at kk;exact kk
def RAS(X:Cx)(B:Bs)(C:Cn)(XX:Nat->Hp->Prop)(x:E):TA:=λσ H Q=>∃δ O Hb,Same X.H₀ Hb/\SO B Hb σ H δ O/\(match evA C x δ with
 |.ok ds=>∀vs H' O',SO B Hb σ H' (after (.tup x) (.tuple ds) δ) O'->DenL B (hid H' O') ds vs->Q vs H'
 |.exc c=>XX c Hb
 |.bad=>False)
theorem JH0(so:SO B Hb σ H δ O)(sm:Same (hidP H (unP x O)) H1)(hz:∀a,unP x O a->H1 a=none)(dn:DenL B H1 ds vs) :
  ∃O',SO B Hb σ (mixP H H1 (unP x O)) (after x (.tuple ds) δ) O'/\DenL B (hid (mixP H H1 (unP x O)) O') ds vs:=by
 unfold after
 split
 ·exact⟨_,JGC so sm hz,DenL.mono (JA4 hz) ds vs dn⟩
 ·rename_i hb;refine⟨O,JCh so sm hz,?_⟩;cases hu:JAP x 0 δ with
  |false =>
   refine DenL.mono (λb o e=>?_) ds vs dn;have hb':¬unP x O b:=λh=>by rw[hz b h]at e;cases e
   have hb2:¬ownP O b:=λ⟨i,h⟩=>by
    obtain⟨ds,xs,e1,_⟩:=so.own h;refine hb' ⟨i,h,?_⟩;cases q:x.uses i with
    |false=>rfl
    |true =>
     have:=JBP x δ 0 i _ hu e1 (by rw[Nat.zero_add];exact q)
     cases this
   rw[hid,JAH hb2,JAO hb'];exact e
  |true =>
   have hl:JBO ds=true:=by
    rw[hu]at hb;cases q:JBO ds with
    |true=>rfl
    |false=>exact absurd (by simp[JAS,q]) hb
   refine JBj (λb o e ho=>?_) ds vs hl dn;have hb':¬unP x O b:=λh=>by rw[hz b h]at e;cases e
   have hb2:¬ownP O b:=λ⟨i,h⟩=>by
    obtain⟨ds,xs,_,_,e4,_,e9⟩:=so.own h;have:=sm b _ (by rw[JAH hb'];exact e4)
    rw[e]at this;cases this;exact ho e9.b
   rw[hid,JAH hb2,JAO hb'];exact e
theorem JJd{j:Nat}:(E.tup es).uses j=es.uses j:=rfl
theorem JC2:∀(δ:Env) (k:Nat),JAP (.tup x) k δ=JAP x k δ
 | [],_=>rfl
 |s::r,k=>by simp only[JAP,JJd,JC2 r]
theorem JD6:∀(δ:Env) (k:Nat),JAk (.tup x) k δ=JAk x k δ
 | [],_=>rfl
 |s::r,k=>by simp only[JAk,JD6 r];rfl
theorem JQJ(g:Gk X B C CX XX G)(he:PA X es (RA B C XX x)):PA X es (RAS X B C XX x):=by
 intro pos pins s σ H Q I ⟨δ,O,Hb,hb,so,k⟩;have J0:=JBd (ps:=JCK x O δ.length s.heap) I (JA9 (x:=x) hb so) JBE;have hev:=(agree C x δ (JAh x 0 δ) JBY).2.2.1;cases q:evA C x δ with
 |ok ds =>
  rw[q]at k;refine thn (he pos _ s σ _ (λvs H1=>Same (hidP H (unP x O)) H1/\DenL B H1 ds vs) J0 ⟨JAh x 0 δ,JAt so,by rw[<-hev,q];exact λv H1 s1 d1=>⟨s1,d1⟩⟩) λu s1 ⟨vs,H1,J,r,sm,dn⟩=>?_
  obtain⟨I',hz⟩:=JBF I J (JA9 hb so) (JAz I so);obtain⟨O',so',dn'⟩:=JH0 so sm hz dn;refine⟨vs,_,I',r,k vs _ O' ?_ dn'⟩;have:after (.tup x) (.tuple ds) δ=after x (.tuple ds) δ:=by unfold after;rw[JC2,JD6]
  rw[this];exact so'
 |exc c =>
  rw[q]at k;exact thn (he pos _ s σ _ (λv H1=>False) J0 ⟨JAh x 0 δ,JAt so,by rw[<-hev,q];exact g.anti c _ _ ((JA2 so).trans same_un) k⟩) λu s1 ⟨v,H1,J,r,f⟩=>f.elim
 |bad=>rw[q]at k;exact k.elim
theorem JPq[Cool G](g:Gk X B C CX XX G){i j:Nat}{kt k2:Nat}(ha:PA X [a,b] (RA B C XX x))(hnd:X.N.Nodup)(hi:X.N[i]? = some nx)(hj:X.N[j]? = some ny)(hij:i≠j)
  (hx:X.env.scope.names.lookup nx=some .local) (hy:X.env.scope.names.lookup ny=some .local)
  (hw:swappedStores [.Tuple [.Name nx px,.Name ny py] kt pt] (.Tuple [a,b] k2 pt2) X.env=pure (some [nx,ny])):PS X (.Assign [.Tuple [.Name nx px,.Name ny py] kt pt] (.Tuple [a,b] k2 pt2) pos) (RSt X B C XX (.unp [i,j] (.tup x))) :=
 PS.imp (JOj (g.calm inferInstance) hnd hi hj hij hx hy (JQJ g ha) hw) λDe σ H ⟨δ,O,Hb,hb,so,kk⟩=>by
  refine⟨δ,O,Hb,hb,so,?_⟩;simp only[exec,ev]at kk;cases q:evA C x δ with
  |ok ds =>
    rw[q]at kk;intro vs H' O' so' dn;simp only[R.bind,JAu,List.length_cons,List.length_nil]at kk
    match ds,vs,dn,kk,so' with
    | [d1,d2],vs,dn,kk,so' =>
     obtain⟨O2,so2⟩:=JB1 [i,j] [d1,d2] vs so' dn;simp only[DenL]at dn;obtain⟨v1,r,e,q1,v2,r2,e2,q2,e3⟩:=dn;subst e3;subst e2;subst e;exact⟨v1,v2,rfl,kk _ _ O2 so2⟩
    | [],_,_,kk,_=>exact fF kk
    | [_],_,_,kk,_=>exact fF kk
    |_::_::_::_,_,_,kk,_=>simp at kk;exact fF kk
  |exc c=>rw[q]at kk;exact kk
  |bad=>rw[q]at kk;exact kk
end
section
variable{X:Cx}{B:Bs}{C:Cn}{CX:CXT}{XX:Nat->Hp->Prop}{G:List (Str×GK)}{x:E}{pos:Pos}
theorem SO.slotOwn(so:SO B Hb σ H δ O){i:Nat}(h:δ[i]? = some (.own (.list ds))):∃a xs,O i=some a/\σ[i]? = some (some (.ref a))/\H a=some (.lst xs)/\DenL B (hid H O) ds xs:=by
 have q:=so.slot i;rw[h]at q;simp only[JAM]at q;obtain⟨a,ds',xs,q1,q2,q3,q4,q5,q6⟩:=q;cases q2;cases xs with
 |lst xs=>exact⟨a,xs,q1,q3,q4,q6⟩
 |_=>exact fF q6
theorem JPm(g:Gk X B C CX XX G){i:Nat}(hN:X.N[i]? = some nm)(hv:Vis X.env.scope nm)(hbn:JAU nm=false)(he:PE X a (RE B C XX x))(hs:starEach [a] X.env=[(false,eval a X.env)])(hl:(ap.endLine==cp.line)=true) :
  PS X (.Expr (.Call (.Attribute (.Name nm p1) "append" ap) [a] [] cp) pos) (RSt X B C XX (.app i x)):=by
 refine PS.imp (JHi (pe_bm PySem.F.plainAttrs_list PySem.F.slot_list_append PySem.F.type_list_append JIc (JKH hN hv (JAJ hbn).1 (JAJ hbn).2.1) (JCE (JIQ g he) JEW hs) rfl (by rw[hs];rfl) hl hs rfl) rfl) λDe σ H ⟨δ,O,Hb,hb,so,kk⟩=>?_
 simp only[exec]at kk
 split at kk
 ·rename_i ds hd;obtain⟨l,xs,q1,q2,q3,q4⟩:=so.slotOwn hd;refine⟨_,q2,.inl ⟨rfl,xs,SqL.of q3⟩,δ,O,Hb,hb,so,?_⟩;cases q:ev C x δ with
  |ok d =>
   rw[q]at kk;intro v H' O' so' dn;have kk:JEs X B XX Hb De (JBA i ds x d δ):=kk;unfold JBA at kk
   split at kk
   ·rename_i hlen
    split at kk
    ·exact fF kk
    ·rename_i hu;have ea:after x d δ=δ:=by unfold after;rw[if_neg hu]
     rw[ea]at so';obtain⟨l',xs',r1,r2,r3,r4⟩:=so'.slotOwn hd;rw[q2]at r2;cases r2;refine⟨l,xs',v,rfl,rfl,r3,by rw[<-DenL.len ds xs' r4,sizeLine_eq];exact hlen,?_⟩
     exact kk _ _ O' (JPF so' r1 (DenL.append ds [d] xs' [v] r4 (by simp only[DenL];exact⟨v,[],rfl,dn,rfl⟩)))
   ·exact fF kk
  |exc c=>rw[q]at kk;exact kk
  |bad=>rw[q]at kk;exact kk
 ·exact fF kk
end
theorem JDy{n:Nat}{it:Bool}(h:JAN G n it names N e=some x)(hc:JCr e=false)(t:Option Expr)(l:Nat)(env:PySem.Env):swapsWith e t l env=pure false:=by
 cases n with
 |zero=>simp[JAN,JAY,JAL]at h
 |succ n=>cases e<;>first|rfl|(cases it<;>simp[JAN,JAY,JAL,xOf,dOf,dRaw,Option.bind_none,ite_self,xRaw]at h<;>done)|cases hc
theorem JIO{n:Nat}{it:Bool}(h:JAN G n it names N e=some x)(ts:List Expr)(k:Nat)(p:Pos)(l:Nat)(env:PySem.Env):swapsWithSole [.Tuple ts k p] e l env=pure false:=by
 cases n with
 |zero=>simp[JAN,JAY,JAL]at h
 |succ n=>cases e<;>first|rfl|(cases it<;>simp[JAN,JAY,JAL,xOf,dOf,dRaw,Option.bind_none,ite_self,xRaw]at h)
theorem JEO(hc:isTup e=false)(ts:List Expr)(k:Nat)(p:Pos)(env:PySem.Env):swappedStores [.Tuple ts k p] e env=pure none:=by
 cases e<;>first|rfl|cases hc
theorem JCz{P:Prop}(h:false=true):P:=by cases h
theorem JFL(h:JEC names ts e=true):∃nx px ny py a b k2 pt2,ts=[.Name nx px,.Name ny py]/\e=.Tuple [a,b] k2 pt2:=by
 rcases ts with _|⟨t1,_|⟨t2,_|⟨_,_⟩⟩⟩<;>try exact JCz h
 cases t1<;>try exact JCz h
 cases t2<;>try exact JCz h
 cases e<;>try exact JCz h
 rename_i es k p;rcases es with _|⟨a,_|⟨b,_|⟨_,_⟩⟩⟩<;>try exact JCz h
 exact⟨_,_,_,_,_,_,_,_,rfl,rfl⟩
theorem JER{kt k2:Nat}(hk:env.scope.kind=.function)(hn:env.scope.names=names)(hs:∀es:List Expr,es=[a,b]->(es.any λ|.Starred ..=>true|_=>false)=false)
  (h:JEC names [.Name nx px,.Name ny py] (.Tuple [a,b] k2 pt2)=true) :
  swappedStores [.Tuple [.Name nx px,.Name ny py] kt pt] (.Tuple [a,b] k2 pt2) env=pure (some [nx,ny])/\nx≠ny/\env.scope.names.lookup nx=some .local/\env.scope.names.lookup ny=some .local:=by
 simp only[JEC,JQZ,q_i,beq_iff_eq,Bool.not_eq_true',bne_iff_ne,ne_eq]at h;obtain⟨⟨⟨⟨⟨h1,h2⟩,h3⟩,h4⟩,h5⟩,h6⟩:=h;have hb:env.blockKind=.function:=by unfold PySem.Env.blockKind;rw[hk];rfl
 have e1:env.kindOf nx=some .local:=by show env.scope.names.lookup nx=_;rw[hn];exact h1
 have e2:env.kindOf ny=some .local:=by show env.scope.names.lookup ny=_;rw[hn];exact h2
 refine⟨?_,h4,e1,e2⟩;have hst:=hs [a,b] rfl;unfold swappedStores;simp only[List.length_cons,List.length_nil,hb,List.head?_cons,Option.map_some,Option.getD_some,List.filterMap_cons,List.filterMap_nil,e1,e2];have l1:((Expr.Name nx px).pos).line=px.line:=rfl;simp only[l1,h3,beq_self_eq_true,Bool.and_self,Bool.true_or,Bool.or_true,Bool.true_and,if_true,bne_self_eq_false,Bool.or_false,Bool.not_true,Bool.false_or,q_v,if_false,h5,h6,hst];have l2:([nx,ny]:List Str).eraseDups.length=2:=by
  have hne:(ny==nx)=false:=beq_eq_false_iff_ne.mpr (Ne.symm h4);simp[List.eraseDups_cons,List.filter_cons,hne,bne]
 have hst':∀q:Expr->Bool,([a,b].any q)=false->q a=false/\q b=false:=λq h=>by simpa using h
 have hab:=hst' _ hst;simp[l2];intro hz;exfalso;rcases hz with z|z
 ·have:=hab.1;cases a<;>first|(cases z;done)|(cases this;done)
 ·have:=hab.2;cases b<;>first|(cases z;done)|(cases this;done)
theorem JFW(h:JDS e=true):∃es p,e=.List es p:=by
 cases e<;>first|exact⟨_,_,rfl⟩|cases h
theorem JI5(h:JCr e=true):∃a b c p,e=.ListComp a b c p:=by
 cases e<;>first|exact⟨_,_,_,_,rfl⟩|cases h
section
variable{B:Bs}{C:Cn}{CX:CXT}{G:List (Str×GK)}
def JKu(X:Cx)(B:Bs)(G:List (Str×GK))(XX:Nat->Hp->Prop):Prop:=∀(nm:Str) (c:Nat) (m:Str) (j:Nat) (p1 p2 p3 pos:Pos),Gl X nm->JAU nm=false->G.lookup nm=some (.cls c) ->
 ∀(pins:Pq) (s:Shared) (σ:St) (H:Hp) (D:Ends),Inv X pins σ H s->XX c H->wpAny (model X.prog X.w) X.A (PySem.exec (.Raise (some (.Call (.Name nm p1) [.Constant (.str m) j p2] [] p3)) none pos) X.env) (SP X pins D) X.xe s
noncomputable def atX(X:Cx)(A:Around)(pn:Pq)(xe:Vq)(calm:Bool):Cx:={ X with A:=A,pn:=pn,xe:=xe,calm:=calm }
def Tries(X:Cx)(B:Bs)(C:Cn)(CX:CXT)(G:List (Str×GK))(XX:Nat->Hp->Prop):Prop:=∀(body:List Stmt) (b:S) (cn en kn:Str) (c i j:Nat) (np p1 p2 p3 hpos pos:Pos),
 (∀(pn:Pq) (xe:Vq) (XX':Nat->Hp->Prop),PassesOwn (model X.prog X.w) X.A X.env xe->Gk (atX X X.A pn xe true) B C CX XX' G->PSs (atX X X.A pn xe true) body (RSt (atX X X.A pn xe true) B C XX' b)) ->
 Gl X cn->JAU cn=false->JAU en=false->G.lookup cn=some (.cls c)->X.N.Nodup->X.N[i]? = some en->X.env.scope.names.lookup en=some .local->X.N[j]? = some kn->Loc X.env.scope kn->i≠j ->
 PS X (.Try body [.ExceptHandler (some (.Name cn np)) (some en) [.Assign [.Name kn p1] (.Name en p2) p3] hpos] [] [] pos) (RSt X B C XX (.tryx b c i (.cons (.asg j (.var i)) .nil)))
theorem JDr(h:JFy e c=some x):∃p1 m j p2 p3,e=some (.Call (.Name x p1) [.Constant (.str m) j p2] [] p3)/\c=none:=by
 rcases e with _|e
 ·exact JAD h
 cases e<;>try exact JAD h
 rename_i f as ks p3;cases f<;>try exact JAD h
 rename_i x' p1;rcases as with _|⟨a,as⟩
 ·exact JAD h
 cases a<;>try exact JAD h
 rename_i k j p2;cases k<;>try exact JAD h
 rcases as with _|⟨_,_⟩<;>try exact JAD h
 rcases ks with _|⟨_,_⟩<;>try exact JAD h
 rcases c with _|c<;>try exact JAD h
 cases h;exact⟨_,_,_,_,_,rfl,rfl⟩
theorem JFP(h:handOf hs=some q):∃np p1 p2 p3 hp,hs=[.ExceptHandler (some (.Name q.1 np)) (some q.2.1) [.Assign [.Name q.2.2 p1] (.Name q.2.1 p2) p3] hp]:=by
 rcases hs with _|⟨⟨ty,en,b,hp⟩,hs⟩
 ·exact JAD h
 rcases ty with _|ty
 ·exact JAD h
 cases ty<;>try exact JAD h
 rename_i cn np;rcases en with _|en
 ·exact JAD h
 rcases b with _|⟨st,b⟩
 ·exact JAD h
 cases st<;>try exact JAD h
 rename_i ts v p3;rcases ts with _|⟨t1,ts⟩
 ·exact JAD h
 cases t1<;>try exact JAD h
 rcases ts with _|⟨_,_⟩<;>try exact JAD h
 cases v<;>try exact JAD h
 rcases b with _|⟨_,_⟩<;>try exact JAD h
 rcases hs with _|⟨_,_⟩<;>try exact JAD h
 dsimp only[handOf]at h
 split at h
 ·rename_i e;cases h;subst e;exact⟨_,_,_,_,_,rfl⟩
 ·cases h
theorem JFO(h:JIX e=some (x,m,a)):∃p1 ap cp,e=.Call (.Attribute (.Name x p1) m ap) [a] [] cp/\(ap.endLine==cp.line)=true:=by
 cases e<;>try exact JAD h
 rename_i f as ks cp;cases f<;>try exact JAD h
 rename_i o m ap;cases o<;>try exact JAD h
 rcases as with _|⟨a,_|⟨_,_⟩⟩<;>try exact JAD h
 rcases ks with _|⟨_,_⟩<;>try exact JAD h
 dsimp only[JIX]at h
 split at h
 ·rename_i e;cases h;exact⟨_,_,_,rfl,e⟩
 ·cases h
theorem JGi(h:JMo e=some (x,a,b)):∃p1 ap cp,e=.Call (.Attribute (.Name x p1) "insert" ap) [a,b] [] cp/\(ap.endLine==cp.line)=true:=by
 cases e<;>try exact JAD h
 rename_i f as ks cp;cases f<;>try exact JAD h
 rename_i o m ap;cases o<;>try exact JAD h
 rcases as with _|⟨a,_|⟨b,_|⟨_,_⟩⟩⟩<;>try exact JAD h
 rcases ks with _|⟨_,_⟩<;>try exact JAD h
 dsimp only[JMo]at h
 split at h
 ·rename_i e;cases h;obtain⟨e1,e2⟩:=e;subst e2;exact⟨_,_,_,rfl,e1⟩
 ·cases h
theorem JGp(h:docOf e=true):∃y j p,e=.Constant (.str y) j p:=by
 unfold docOf at h
 split at h
 ·exact⟨_,_,_,rfl⟩
 ·cases h
theorem JEN(h:JGS ts=some (.inl x)):∃p,ts=[.Name x p]:=by
 unfold JGS at h
 split at h
 ·cases h;exact⟨_,rfl⟩
 ·cases h
 ·cases h
theorem JEg(h:JGS ts=some (.inr us)):∃k p,ts=[.Tuple us k p]:=by
 unfold JGS at h
 split at h
 ·cases h
 ·cases h;exact⟨_,_,rfl⟩
 ·cases h
theorem JGY(h:JMK e=some es):∃k p,e=.Tuple es k p:=by
 unfold JMK at h
 split at h
 ·cases h;exact⟨_,_,rfl⟩
 ·cases h
theorem JBz(ih:∀st t,f st=some t->PS X st (RSt X B C XX t)):∀ {sts:List Stmt}{t:S},JAc f sts=some t->PSs X sts (RSt X B C XX t)
 | [],t,h=>by unfold JAc at h;cases h;exact JPj
 |st::r,t,h=>by
  unfold JAc at h;obtain⟨a,h1,h⟩:=q_a.mp h;obtain⟨b,h2,h⟩:=q_a.mp h;cases h;exact JNO (ih st a h1) (JBz ih h2)
theorem JE8{X:Cx}{XX:Nat->Hp->Prop}(ra:Rare B C CX G)(g:Gk X B C CX XX G)(hf:G.lookup (".dict":Str)=some GK.opt){st:Stmt}{t:S}(h:PS X st (RSt X B C XX t)):∀(N:List Str) (i:Nat) (y:E),PS X st (RSt X B C XX (preF G N i y t))
 | [],_,_=>h
 |x::r,i,y=>by
  unfold preF
  split
  ·exact(ra.dop hf).frz X XX g st _ i (JE8 ra g hf h r (i+1) y)
  ·exact JE8 ra g hf h r (i+1) y
theorem JFp{X:Cx}{XX:Nat->Hp->Prop}(ra:Rare B C CX G)(g:Gk X B C CX XX G){st:Stmt}{t:S}{names:Nq}{N:List Str}{y:E}(h:PS X st (RSt X B C XX t)):PS X st (RSt X B C XX (pre G names N y t)):=by
 unfold pre
 split
 ·exact JE8 ra g (JFl (by assumption)) h N 0 y
 ·exact h
theorem JII(h:dRaw G names false e=some q)(t:Option Expr)(l:Nat)(env:PySem.Env):swapsWith e t l env=pure false:=by
 cases e<;>first|rfl|exact JAD h
theorem JGe(h:JMm ts=some q):∃p1 p2,ts=[.Subscript (.Name q.1 p1) q.2 p2]/\isSlice q.2=false:=by
 rcases ts with _|⟨t,ts⟩
 ·exact JAD h
 cases t<;>try exact JAD h
 rename_i o k p2;cases o<;>try exact JAD h
 rcases ts with _|⟨_,_⟩<;>try exact JAD h
 dsimp only[JMm]at h
 split at h
 ·cases h
 ·rename_i hs;cases h;exact⟨_,_,rfl,by simpa using hs⟩
structure RareS(B:Bs)(C:Cn)(CX:CXT)(G:List (Str×GK)):Prop where
 dsp:G.lookup (".dsp":Str)=some GK.opt->∀(X:Cx) (XX:Nat->Hp->Prop) (n:Nat) (names:Nq) (N:List Str),Gk X B C CX XX G->(∀e x,JAN G n false names N e=some x->PE X e (RE B C XX x))->X.env.scope.kind=.function->X.env.scope.names=names->X.N=N->N.Nodup->(∀nm,X.fn nm=true\/X.env.scope.names.lookup nm≠some .cell) ->
  ∀(ts es:List Expr) (is:List Nat) (k k2:Nat) (pt pt2 pos:Pos) (q:E×Option Nat),slots names N ts=some is->is.Nodup->JLZ names ts es=true->JMf (JAN G n false names N) es is=some q->PS X (.Assign [.Tuple ts k pt] (.Tuple es k2 pt2) pos) (RSt X B C XX (unpO is q.1 q.2))
 ext:G.lookup (".ext":Str)=some GK.opt->∀(X:Cx) (XX:Nat->Hp->Prop),Gk X B C CX XX G->∀(x:E) (a:Expr) (i:Nat) (nm:Str) (p1 ap cp pos:Pos),X.N[i]? = some nm->Vis X.env.scope nm->JAU nm=false->(PE X a (REF B C XX x)\/PE X a (RE B C XX x))->starEach [a] X.env=[(false,eval a X.env)]->(ap.endLine==cp.line)=true ->
  PS X (.Expr (.Call (.Attribute (.Name nm p1) "extend" ap) [a] [] cp) pos) (RSt X B C XX (.ext i x))
 ins:G.lookup (".ins":Str)=some GK.opt->∀(X:Cx) (XX:Nat->Hp->Prop),Gk X B C CX XX G->∀(x:E) (a b:Expr) (i:Nat) (nm:Str) (p1 ap cp pos:Pos),X.N[i]? = some nm->Vis X.env.scope nm->JAU nm=false->PA X [a,b] (RA B C XX x)->starEach [a,b] X.env=[(false,eval a X.env),(false,eval b X.env)]->starEach [b] X.env=[(false,eval b X.env)]->(ap.endLine==cp.line)=true ->
  PS X (.Expr (.Call (.Attribute (.Name nm p1) "insert" ap) [a,b] [] cp) pos) (RSt X B C XX (.ins i x))
theorem JH6(ra:Rare B C CX G)(rr:RareS B C CX G):∀(n:Nat) (X:Cx) (XX:Nat->Hp->Prop) (names:Nq) (N:List Str) (zz:Bool),Gk X B C CX XX G->X.env.scope.kind=.function->X.env.scope.names=names->X.N=N->N.Nodup ->
  PassesOwn (model X.prog X.w) X.A X.env X.xe->(∀nm,X.fn nm=true)->(zz=true->JKu X B G XX)->(zz=true->G.lookup (".try":Str)=some GK.opt->Tries X B C CX G XX)->∀(st:Stmt) (t:S),JB7 G n zz names N st=some t->PS X st (RSt X B C XX t)
 |0,X,XX,names,N,zz,g,hk,hn,hN,hnd,hpo,hfn,hr,ht,st,t,h=>JAD h
 |n+1,X,XX,names,N,zz,g,hk,hn,hN,hnd,hpo,hfn,hr,ht,st,t,h=>by
  have ih:=JH6 ra rr n X XX names N zz g hk hn hN hnd hpo hfn hr ht;obtain⟨ihE,ihI⟩:=sound ra n X XX names N g hk hn hN hnd;cases st with
  |Pass p=>cases h;exact JMI
  |Break p=>cases h;exact JOu
  |Continue p=>cases h;exact JNx
  |Return e p =>
   cases e with
   |none=>cases h;exact JMR
   |some e =>
    dsimp only[JB7,JBv]at h
    obtain⟨x,hx,e'⟩:=q_d.mp h;subst e';exact JFp ra g (JOd g (ihE e x hx).1)
  |If c a b p =>
   dsimp only[JB7,JBv]at h
   obtain⟨z,hz,h⟩:=q_a.mp h;obtain⟨x,hx,h⟩:=q_a.mp h;obtain⟨y,hy,h⟩:=q_a.mp h;cases h;exact JFp ra g (JNZ g (ihE c z hz).2 (JBz ih hx) (JBz ih hy))
  |While c body orelse p =>
   cases orelse with
   |cons a b=>exact JAD h
   |nil =>
    dsimp only[JB7,JBv]at h
    obtain⟨z,hz,h⟩:=q_a.mp h;obtain⟨x,hx,h⟩:=q_a.mp h;cases h;exact JQi g hpo (ihE c z hz).2 (JBz ih hx)
  |For tg iter body orelse p =>
   cases orelse with
   |cons a b=>exact JAD h
   |nil =>
    dsimp only[JB7,JBv]at h
    split at h
    case isTrue=>cases h
    rename_i hcool
    haveI:Cool G:=JC1 hcool
    split at h
    ·rename_i nm ht;obtain⟨p2,e2⟩:=JEN ht;cases e2;obtain⟨i,hi,h⟩:=q_a.mp h;obtain⟨x,hx,h⟩:=q_a.mp h;obtain⟨b,hb,h⟩:=q_a.mp h;cases h;obtain⟨q1,q2⟩:=slot_of hn hN hi;exact JMZ g hpo (ihI _ iter x hx) (JBz ih hb) (by rw[hN];exact hnd) q1 q2 (.inl (hfn nm)) (JBS hx X.env)
    ·rename_i ts ht;obtain⟨k,p2,e2⟩:=JEg ht;cases e2;obtain⟨is,hi,h⟩:=q_a.mp h;obtain⟨x,hx,h⟩:=q_a.mp h;obtain⟨b,hb,h⟩:=q_a.mp h;cases h;cases hxx:xT G names iter with
     |none =>
      rw[hxx]at hx;exact JIB g hpo (ihI _ iter x hx) (JBz ih hb) hn hN hnd (λnm=>.inl (hfn nm)) hi (JBS hx X.env)
     |some q =>
      rw[hxx]at hx;obtain⟨y,hy,rfl⟩:=q_d.mp hx;obtain⟨q1,q2⟩:=JDQ hxx;exact JIB g hpo ((ra.xop q.1 q2).tgt X XX g ts k p2 iter q.2 y (by rw[hn];exact q1) (allA g (λa x h=>(ihE a x h).1) hy) (JC6 hy) (JAW hy)) (JBz ih hb) hn hN hnd (λnm=>.inl (hfn nm)) hi (JFM hxx X.env)
    ·cases h
  |Raise exc cause p =>
   dsimp only[JB7,JBv]at h
   obtain⟨nm,hr0,h9⟩:=q_a.mp h;clear h;obtain⟨p1,m,j,p2,p3,rfl,rfl⟩:=JDr hr0;have h:=h9;clear h9
   split at h
   ·rename_i c hg
    split at h
    case isFalse=>cases h
    rename_i hz;cases h;obtain⟨g1,g2,g3⟩:=JA1 hg;intro pins s σ H D I ⟨δ,O,Hb,hb,so,k⟩;simp only[exec]at k;exact hr hz nm c m j p1 p2 p3 p (JBm hn g2) g1 g3 pins s σ H D I (g.anti c Hb H so.same k)
   ·cases h
  |Assign ts e p =>
   have hfn':∀nm,X.fn nm=true\/X.env.scope.names.lookup nm=some .local:=λnm=>.inl (hfn nm)
   dsimp only[JB7,JBv]at h
   split at h
   ·rename_i nm ht;obtain⟨p1,rfl⟩:=JEN ht;obtain⟨i,hi,h⟩:=q_a.mp h;cases hd:dFr G names e with
    |some q =>
     rw[hd]at h;obtain⟨y,hy,rfl⟩:=q_d.mp h;obtain⟨r,hd1,hd2⟩:=q_a.mp hd
     split at hd2
     case isFalse=>cases hd2
     rename_i hk2;cases hd2;obtain⟨hd1,hfl⟩:=JGB hd1;obtain⟨q1,q2⟩:=slot_of hn hN hi;refine JFp ra g ?_;exact JFA g ((ra.dop hfl).own X XX g e _ _ y (by rw[hn];exact hd1) hk2 (pes (λa x h=>(ihE a x h).1) hy) (JC6 hy)) (by cases hk3:q.1<;>rw[hk3]at hk2<;>first|rfl|cases hk2) (by rw[hN];exact hnd) q1 q2 (JII hd1 _ _ _) (hfn' nm)
    |none =>
    rw[hd]at h;obtain⟨y,hy,h⟩:=q_a.mp h
    split at h
    ·cases h
    ·rename_i hc;cases h;refine JFp ra g ?_;obtain⟨q1,q2⟩:=slot_of hn hN hi;have hnd':X.N.Nodup:=by rw[hN];exact hnd
     by_cases h1:JDS e=true
     ·obtain⟨es,p2,rfl⟩:=JFW h1;have hf:y.fresh=true:=by
       cases n with
       |zero=>simp[JAN,JAY,JAL]at hy
       |succ n =>
        simp only[JAN,JAY,JAL,xOf,dOf,dRaw,Option.bind_none,ite_self,xRaw,Option.bind_none]at hy
        split at hy
        ·obtain⟨z,_,e'⟩:=q_d.mp hy;subst e';rfl
        ·cases hy
      exact JFA g (JEP ra g hk hn hN hnd hy) hf hnd' q1 q2 rfl (hfn' nm)
     ·by_cases h2:JCr e=true
      ·obtain⟨elt,gens,sc,p2,rfl⟩:=JI5 h2
       haveI:Cool G:=JHH hy
       obtain⟨target,iter,ifs,xs,k,y1,z1,w1,e1,e2,bk,hi2,hs2,hrun⟩:=JH2 ra g hk hn hN hnd hy;subst e1;subst e2;cases hb:(X.env.blockKind==.function&&X.env.kindOf nm==some .local&&p1.line==(Expr.ListComp elt [⟨target,iter,ifs,0⟩] sc p2).pos.line&&!(sc.names.any λ(n,k)=>n==nm&&(k==.local || k==.cell))) with
       |true =>
        have hsw:swapsWith (.ListComp elt [⟨target,iter,ifs,0⟩] sc p2) (some (.Name nm p1)) p.line X.env=pure true:=by rw[<-hb];rfl
        have hloc:X.env.scope.names.lookup nm=some .local:=by
         simp only[q_i,beq_iff_eq]at hb;exact hb.1.1.2
        exact JLs g (JJE g bk hi2 hs2 hrun hsw hnd' q1 hloc) rfl
       |false =>
        have hsw:swapsWith (.ListComp elt [⟨target,iter,ifs,0⟩] sc p2) (some (.Name nm p1)) p.line X.env=pure false:=by rw[<-hb];rfl
        exact JFA g (JCd g bk hi2 hs2 hrun) rfl hnd' q1 q2 hsw (hfn' nm)
      ·have hf:y.fresh=false:=by
        cases hz:y.fresh with
        |false=>rfl
        |true=>exact absurd ⟨hz,by simpa using h1,by simpa using h2⟩ hc
       exact JP8 g (ihE e y hy).1 hf hnd' q1 q2 (JDy hy (by simpa using h2) _ _ _) (hfn' nm)
   ·rename_i ts ht;obtain⟨k,pt,rfl⟩:=JEg ht;obtain⟨is,hi,h⟩:=q_a.mp h
    split at h
    ·rename_i hc0;obtain⟨hc,hcool⟩:=hc0
     haveI:Cool G:=JC1 (by rw[hcool];decide)
     obtain⟨y,hy,e'⟩:=q_d.mp h;subst e'
     by_cases ht:isTup e=true
     ·have hp:JEC names ts e=true:=by
       rcases hc.2 with z|z
       ·rw[ht]at z;cases z
       ·exact z
      obtain⟨nx,px,ny,py,a,b,k2,pt2,e7,e8⟩:=JFL hp;subst e7;subst e8
      ·skip
       obtain⟨w1,w2,w3,w4⟩:=JER (env:=X.env) (kt:=k) (pt:=pt) hk hn (λes e=>by
        subst e;cases n with
        |zero=>simp[JAN,JAY,JAL]at hy
        |succ n =>
         simp only[JAN,JAY,JAL,xOf,dOf,dRaw,Option.bind_none,ite_self,xRaw,Option.bind_none]at hy
         split at hy
         ·obtain⟨z,hz,_⟩:=q_d.mp hy;unfold JAG at hz;obtain⟨z1,hz1,hz⟩:=q_a.mp hz;obtain⟨z2,hz2,hz⟩:=q_a.mp hz;unfold JAG at hz2;obtain⟨z3,hz3,hz2⟩:=q_a.mp hz2;have t1:∀ {e:Expr}{x:E},JAN G n false names N e=some x->(match e with|.Starred ..=>true|_=>false)=false:=by
           intro e x h;cases e<;>first|rfl|(cases n<;>simp[JAN,JAY,JAL,xOf,dOf,dRaw,Option.bind_none,ite_self,xRaw]at h)
          simp only[List.any_cons,List.any_nil,t1 hz1,t1 hz3,Bool.or_self,Bool.or_false]
         ·cases hy) hp
       simp only[slots]at hi;obtain⟨i,hi1,hi⟩:=q_a.mp hi;obtain⟨js,hi2,hi⟩:=q_a.mp hi;obtain⟨j,hi3,hi2⟩:=q_a.mp hi2;simp only[Option.bind_some,q_j]at hi2;subst hi2;cases hi;have hy':=hy;cases n with
       |zero=>simp[JAN,JAY,JAL]at hy
       |succ n =>
        simp only[JAN,JAY,JAL,xOf,dOf,dRaw,Option.bind_none,ite_self,xRaw,Option.bind_none]at hy
        split at hy
        ·obtain⟨z,hz,e'⟩:=q_d.mp hy;subst e';have hij:i≠j:=by
          have:=of_decide_eq_true hc.1;simp at this;exact this
         exact JPq g (allA g (λe x h=>((sound ra n X XX names N g hk hn hN hnd).1 e x h).1) hz) (by rw[hN];exact hnd) (slot_of hn hN hi1).1 (slot_of hn hN hi3).1 hij w3 w4 w1
        ·cases hy
     ·exact JQD g (ihE e y hy).1 hn hN hnd (λnm=>.inl (hfn nm)) hi (JIO hy _ _ _ _ _) (JEO (by simpa using ht) _ _ _ _)
    ·obtain⟨es,he,h9⟩:=q_a.mp h;clear h;obtain⟨k2,pt2,rfl⟩:=JGY he
     split at h9
     case isFalse=>cases h9
     rename_i hc;obtain⟨q,hq,rfl⟩:=q_d.mp h9;exact rr.dsp hc.2 X XX n names N g (λe x h=>((sound ra n X XX names N g hk hn hN hnd).1 e x h).1) hk hn hN hnd (λnm=>.inl (hfn nm)) ts es is k k2 pt pt2 p q hi (of_decide_eq_true hc.1.1) hc.1.2 hq
   ·obtain⟨q,hq,h9⟩:=q_a.mp h;clear h
    split at h9
    case isFalse=>cases h9
    rename_i hc;obtain⟨p1,p2,hts,hsl⟩:=JGe hq;subst hts;obtain⟨i,hi,h9⟩:=q_a.mp h9;obtain⟨y,hy,h9⟩:=q_a.mp h9;obtain⟨z,hz,h9⟩:=q_a.mp h9;cases h9;obtain⟨q1,q2⟩:=slot_of hn hN hi;exact(ra.dop (JFl hc.1)).put X XX g q.1 i p1 p2 p q.2 e z y q1 (by
     rcases q2 with k|k
     ·exact .inl k
     ·exact .inr (.inl k)) hc.2.1 hsl (ihE e y hy).1 (ihE q.2 z hz).1 λt l=>JDy hy hc.2.2 t l X.env
  |Expr e p =>
   dsimp only[JB7,JBv]at h
   split at h
   ·rename_i nm m a hm;obtain⟨p1,ap,cp,rfl,hc1⟩:=JFO hm
    split at h
    ·rename_i hc2;have JDH:∀ {i},slot names N nm=some i->Vis X.env.scope nm:=λhi=>by
      rcases(slot_of hn hN hi).2 with k|k
      ·exact .inl k
      ·exact .inr (.inl k)
     split at h
     ·rename_i hm;subst hm;obtain⟨i,hi,h⟩:=q_a.mp h;obtain⟨y,hy,e'⟩:=q_d.mp h;subst e';exact JPm g (slot_of hn hN hi).1 (JDH hi) hc2 (ihE a y hy).1 (JAX hy [] _) hc1
     ·split at h
      ·rename_i hm;obtain⟨⟨hm,hl⟩,hfl⟩:=hm;subst hm;obtain⟨i,hi,h⟩:=q_a.mp h;obtain⟨y,hy,e'⟩:=q_d.mp h;subst e'
       by_cases hl2:JDS a=true
       ·obtain⟨es,p2,rfl⟩:=JFW hl2;exact rr.ext hfl X XX g y _ i nm p1 ap cp p (slot_of hn hN hi).1 (JDH hi) hc2 (.inl (JEP ra g hk hn hN hnd hy)) (JAX hy [] _) hc1
       ·exact rr.ext hfl X XX g y a i nm p1 ap cp p (slot_of hn hN hi).1 (JDH hi) hc2 (.inr (ihE a y hy).1) (JAX hy [] _) hc1
      ·split at h
       ·rename_i hm;obtain⟨hm,hfl⟩:=hm;subst hm;obtain⟨i,hi,h⟩:=q_a.mp h;obtain⟨y,hy,e'⟩:=q_d.mp h;subst e';exact(ra.dop (JFl hfl)).pop X XX g nm i p1 ap cp p a y (slot_of hn hN hi).1 (JDH hi) hc2 (ihE a y hy).1 (JAX hy [] _) hc1
       ·cases h
    ·cases h
   ·split at h
    ·rename_i nm a b hm;obtain⟨p1,ap,cp,rfl,hc1⟩:=JGi hm
     split at h
     ·rename_i hc2;obtain⟨i,hi,h⟩:=q_a.mp h;obtain⟨y,hy,e'⟩:=q_d.mp h;subst e';have vs:Vis X.env.scope nm:=by
       rcases(slot_of hn hN hi).2 with k|k
       ·exact .inl k
       ·exact .inr (.inl k)
      have s1:=JC6 hy a (by simp) [b] X.env
      have s2:=JC6 hy b (by simp) [] X.env
      have s3:starEach ([]:List Expr) X.env=[]:=rfl;rw[s3]at s2;rw[s2]at s1;exact rr.ins hc2.2 X XX g y a b i nm p1 ap cp p (slot_of hn hN hi).1 vs hc2.1 (allA g (λe x h=>((sound ra n X XX names N g hk hn hN hnd).1 e x h).1) hy) s1 s2 hc1
     ·cases h
    ·split at h
     ·rename_i hd;obtain⟨y,j,p2,rfl⟩:=JGp hd;cases h;exact JPv
     ·split at h
      ·cases h
      ·rename_i hc;obtain⟨y,hy,e'⟩:=q_d.mp h;subst e';exact JNM g (ihE e y hy).1 (JDy hy (by simpa using hc) _ _ _)
  |Try body hs orelse fin p =>
   cases orelse with
   |cons a b=>exact JAD h
   |nil =>
    cases fin with
    |cons a b=>exact JAD h
    |nil =>
     dsimp only[JB7,JBv]at h
     obtain⟨⟨cn,en,kn⟩,hq,h9⟩:=q_a.mp h;clear h;obtain⟨np,p1,p2,p3,hp,rfl⟩:=JFP hq;have h:=h9;clear h9 hq;simp only at h ⊢
     split at h
     case isFalse=>cases h
     rename_i hc;obtain⟨hz,ho,hb,hl⟩:=hc
     split at h
     case h_2=>cases h
     rename_i c hg;obtain⟨b,hbb,h⟩:=q_a.mp h;obtain⟨i,hi,h⟩:=q_a.mp h;obtain⟨j,hj,h⟩:=q_a.mp h
     split at h
     case isTrue=>cases h
     rename_i hij;cases h;obtain⟨g1,g2,g3⟩:=JA1 hg;have hie:slot names N en=some i:=by unfold slot;rw[hl];exact hi
     refine ht hz ho _ _ _ _ _ _ _ _ _ _ _ _ _ _ (λpn xe XX' po gk=>?_) (JBm hn g2) g1 hb g3 (by rw[hN];exact hnd) (slot_of hn hN hie).1 (by rw[hn];exact hl) (slot_of hn hN hj).1 (slot_of hn hN hj).2 hij
     exact JBz (JH6 ra rr n (atX X X.A pn xe true) XX' names N false gk hk hn hN hnd po hfn (λz=>by cases z) (λz=>by cases z)) hbb
  |_=>exact JAD h
end
structure Turned(G:List (Str×GK))(st:Stmt)(N ps:List Str)(fd:Fd):Prop where
 comp:JAc (JB7 G 60 true (JAQ st).names N) (JAm st)=some fd.body
 sc:FnScope N ps (JAQ st)
 par:fd.par=ps.length
 slots:fd.slots=N.length
structure DefAt(K:Kq)(mg:Mq)(G:List (Str×GK))(x:Str)(fd:Fd):Prop where
 ex:∃f fo st N ps,mg x=some (.ref f)/\Fun K x x st f fo/\Binds K fo ps []/\Turned G st N ps fd
theorem JGU{m:Nat}(h:DenL B H ds vs)(hl:N.length=m)(hv:vs.length<=m):SO B H (start N vs) H (ds.map Sl.val++List.replicate (m - ds.length) Sl.no) (λ_=>none):=by
 have hlen:=DenL.len ds vs h;refine⟨?_,Same.refl H,(λi j a e=>by cases e),λi=>?_⟩
 ·simp only[L2.start,q_u,q_g,List.length_replicate];omega
 ·have hh:hid H (λ_=>none)=H:=by
   funext b
   unfold hid hidP;rw[if_neg];rintro⟨i,e⟩;cases e
  by_cases hi:i<ds.length
  ·rw[q_C (by simpa using hi),List.getElem?_map]
   obtain⟨d,hd⟩:∃d,ds[i]? = some d:=⟨_,q_q hi⟩;obtain⟨v,hv,dn⟩:=DenL.get ds vs i d h hd;rw[hd];refine⟨rfl,v,?_,by rw[hh];exact dn⟩
   unfold L2.start;rw[q_C (by rw[q_g];omega),List.getElem?_map,hv]
   rfl
  ·rw[List.getElem?_append_right (by simpa using hi),List.getElem?_replicate]
   split
   ·rfl
   ·rfl
section
variable{B:Bs}{G:List (Str×GK)}{tab:Nat->Option Fd}{glo:Nat->R D}{sub:Nat->Nat->Bool}
theorem JMb{x:Bool}{n i:Nat}(h:run x tab glo sub n i ds≠.bad):∃fd,tab i=some fd/\ds.length=fd.par:=by
 cases n with
 |zero=>exact absurd rfl h
 |succ n =>
  unfold run at h;cases e:tab i with
  |none=>rw[e]at h;exact absurd rfl h
  |some fd =>
   have h:JFJ x ⟨run x tab glo sub n,glo,sub⟩ fd ds≠.bad:=by rw[e]at h;exact h
   refine⟨fd,rfl,?_⟩;unfold JFJ at h
   by_cases hl:ds.length=fd.par
   ·exact hl
   ·rw[if_neg hl]at h;exact absurd rfl h
noncomputable def JMp(K:Kq):Sp:=λvs H Q E=>∃(a:Addr) (ns:List Int),vs=[.ref a]/\ns.length<=63/\SqL K H a (ns.map V.int)/\∀H',Q (.bl true) H'
theorem JF3:∀ns:List Int,DenL B H (ns.map λi=>PyData.int i) (ns.map V.int)
 | []=>by simp only[List.map_nil,DenL]
 |n::ns=>by
  simp only[List.map_cons,DenL];exact⟨_,_,rfl,by simp only[Den],JF3 ns⟩
end
structure FnIn(K:Kq)(x:Str)(st:Stmt):Prop where
 ex:∃(f:Addr) (oc:Value) (od an:Option Addr) (sl:Array (Option Value)) (kV dc pm cd ct:Value),PySem.W.nsIn K mainGlobals x=some (some (.ref f)) /\
  K.lookup f=some ⟨oc,od,.func (PySem.W.fnOf x x (JAy st) (JAm st) (JAQ st) .none kV dc pm an cd ct),sl⟩/\PySem.W.codeIn K cd x=true/\PySem.W.keepIn K (.ref f)=true
theorem JNV{K:Kq}{x:Str}{st:Stmt}{f:Addr}{oc:Value}{od an:Option Addr}{sl:Array (Option Value)}{kV dc pm cd ct:Value}(a:PySem.W.nsIn K mainGlobals x=some (some (.ref f)))
  (l:K.lookup f=some ⟨oc,od,.func (PySem.W.fnOf x x (JAy st) (JAm st) (JAQ st) .none kV dc pm an cd ct),sl⟩) (c:PySem.W.codeIn K cd x=true) (k:PySem.W.keepIn K (.ref f)=true):FnIn K x st :=
 ⟨f,oc,od,an,sl,kV,dc,pm,cd,ct,a,l,c,k⟩
def JFe(x:Str)(st:Stmt)(ps:List Str):Prop:=∀(kV doc pm:Value) (an:Option Addr) (cdv ct:Value) (us:List Value),us.length=ps.length->bindArgs (PySem.W.fnOf x x (JAy st) (JAm st) (JAQ st) .none kV doc pm an cdv ct) ⟨us,[]⟩=pure (ps.zip us)
theorem FnIn.at{K:Kq}{h:Heap}{mg:Mq}{G:List (Str×GK)}{x:Str}{st:Stmt}{N ps:List Str}{fd:Fd}(F:FnIn K x st)(X:K.In h)(Gm:h.Ns mainGlobals mg)(b:JFe x st ps)(T:Turned G st N ps fd):DefAt K mg G x fd:=by
 obtain⟨f,oc,od,an,sl,kV,dc,pm,cd,ct,a,l,c,k⟩:=F.ex;have Fn:=JKc (st:=st) l c k;exact⟨f,_,st,N,ps,PySem.W.mg_of X Gm a,Fn,Fn.binds b,T⟩
def AllP(P:Str->GK->Prop):List (Str×GK)->Prop
 | []=>True
 |(x,k)::r=>P x k/\AllP P r
theorem AllP.get{P:Str->GK->Prop}:∀ {G:List (Str×GK)}{x:Str}{k:GK},AllP P G->G.lookup x=some k->P x k
 | [],x,k,_,h=>by cases h
 |(y,j)::r,x,k,⟨h1,h2⟩,h=>by
  rw[List.lookup_cons]at h
  by_cases e:(x==y)=true
  · rw[e]at h
    have e':x=y:=by simpa using e
    cases h;subst e';exact h1
  · have e':(x==y)=false:=by simpa using e
    rw[e']at h;exact AllP.get h2 h
section
variable{X:Cx}{B:Bs}{C:Cn}{CX:CXT}{XX:Nat->Hp->Prop}{G:List (Str×GK)}
end
def TrAt(h:Heap)(e T:Addr)(cls:Value):Prop:=∃oe vs a0 oT ts,h.get? e=some oe/\(oe.cls=cls/\vs[0]? = some a0)/\oe.data=.fields vs/\vs[1]? = some (.ref T)/\T≠e/\h.get? T=some oT/\oT.data=.fields ts/\ts[3]? = some .none
noncomputable def CXV(P:Program)(w:World)(B:Bs):CXT:=λouter H s E e s'=>∃(ea T:Addr) (c:Nat) (H':Hp),e=.ref ea/\s'.os=s.os/\AllBare s'.gens/\Un (frs outer) [] H H' s.heap s'.heap/\HOk P w H' s'.heap /\
 TrAt s'.heap ea T (.ref (B.cl c))/\(s.heap.get? ea=none/\H' ea=none)/\(s.heap.get? T=none/\H' T=none)/\E (.ref (B.cl c)) none H'
theorem JFn{a:Addr}(x:HOk P w H h)(q:H a=some o):∃u,h.get? a=some u:=by
 have:=x a o q;cases o with
 |lst xs=>obtain⟨_,_,_,_,e⟩:=this;exact⟨_,e⟩
 |tup xs=>obtain⟨_,_,_,_,e,_⟩:=this;exact⟨_,e⟩
 |dK kvs=>obtain⟨_,_,_,_,_,_,_,e,_⟩:=this;exact⟨_,e⟩
 |dT kvs=>obtain⟨_,_,_,_,_,_,_,e,_⟩:=this;exact⟨_,e⟩
 |set S n=>obtain⟨_,_,_,_,e,_⟩:=this;exact⟨_,e⟩
 |ins C dx fs=>obtain⟨_,_,_,e,_⟩:=this;exact⟨_,e⟩
 |own y=>exact this
 |xd fs=>obtain⟨_,⟨_,_,_,e,_⟩,_⟩:=this;exact⟨_,e⟩
 |rng lo hi=>obtain⟨_,_,_,e⟩:=this;exact⟨_,e⟩
 |frz ob u=>exact⟨_,this.1⟩
 |tbl ps=>exact⟨_,this⟩
 |met f y=>exact⟨_,this⟩
 |ext φ=>exact this.2.1
theorem JJM{P:Program}{w:World}{H:Hp}{h:Heap}{a:Addr}(x:HOk P w H h)(q:h.get? a=none):H a=none:=by
 cases z:H a with
 |none=>rfl
 |some o =>
  obtain⟨u,e⟩:=JFn x z;rw[q]at e;cases e
section
variable{X:Cx}{pins:Pq}{σ:St}{H':Hp}{s1:Shared}{h2:Heap}
theorem JDM(I:Inv X pins σ H' s1)(up:s1.heap.UpToSlots h2){b:Addr}(hb:b∈frs X.stack):∃o,h2.get? b=some o/\∀vs,o.data≠.fields vs:=by
 obtain⟨_,o,ho,hd⟩:=I.stack.mem hb;obtain⟨sl,hs⟩:=up b o ho hd;exact⟨_,hs,hd⟩
theorem JKV(I:Inv X pins σ H' s1)(hex:X.ex=[]){as:List Addr}(has:∀b∈as,b∈frs X.stack\/(X.s₀.heap.get? b=none/\H' b=none)){ea:Addr}{cls a0:Value}{l:List PySem.Env}
  (fl:Heap.FlyingW (PySem.W.hideAll s1.heap as) l ea cls a0 h2) (up:s1.heap.UpToSlots h2) :
  Un X.fs [] X.H₀ H' X.s₀.heap h2/\HOk X.prog X.w H' h2/\∃T,TrAt h2 ea T cls/\X.s₀.heap.get? T=none/\H' T=none:=by
 obtain⟨st,fe,ff,oe,vs,T,oT,ts,q1,q2,q3,q4,q5,q6,q7,q8,q9⟩:=fl;have U:=I.base;rw[hex]at U;have sub:∀b∈X.fs,b∈frs X.stack:=λb hb=>by
  rcases I.ok.stk with e|⟨e,hf⟩
  · rw[e];exact hb
  · rw[e]
    unfold frs;rw[List.filterMap_cons,hf];exact q_s _ hb
 have loc:∀b o,X.s₀.heap.get? b=some o->b ∉ X.fs->b ∉ frs X.stack:=λb o e n z=>by
  rcases q_n.mp (I.stkSub b z) with q|q
  · rw[q]at e
    exact absurd (q_h e) (Nat.not_lt.mpr I.ok.above)
  · exact n q
 have out:∀b o,X.s₀.heap.get? b=some o->b ∉ frs X.stack->b ∉ as:=λb o e n z=>by
  rcases has b z with q|⟨q,_⟩
  · exact n q
  · rw[q]at e;cases e
 have keep:∀b o,s1.heap.get? b=some o->b ∉ as->h2.get? b=some o:=λb o e n=>st b o (PySem.W.hideAll_get _ e n);have trk:∀b o,H' b=some o->b ∉ as:=λb o e z=>by
  rcases has b z with q|⟨_,q⟩
  · rw[I.stkFree b q]at e;cases e
  · rw[q]at e;cases e
 refine⟨⟨λb o e n hf hx=>keep b o (U.keep b o e n hf hx) (out b o e (loc b o e hf)),λb o e n hf hx=>?_,U.free,λb o e hx=>?_,U.tups,U.frzs,U.tbls⟩,λa o e=>?_,T,⟨oe,vs,a0,oT,ts,q1,q2,q3,q4,q6,q7,q8,q9⟩,?_,?_⟩
 ·obtain⟨sl,e1⟩:=U.slot b o e n hf hx;obtain⟨_,o',ho',hd'⟩:=I.stack.mem (sub b hf);rw[e1]at ho';cases ho';obtain⟨sl',e2⟩:=up b _ e1 hd';exact⟨sl',e2⟩
 ·obtain⟨o',e1⟩:=U.there b o e hx
  by_cases hb:b∈frs X.stack
  · obtain⟨o2,e2,_⟩:=JDM I up hb
    exact⟨o2,e2⟩
  · exact⟨o',keep b o' e1 (out b o e hb)⟩
 ·refine(I.hok a o e).stay (λb u hb eb=>keep b u eb ?_) (λ_ q=>q) λ_ _ q=>q;rcases hb with rfl|hb
  · exact trk _ _ e
  · exact trk _ _ hb
 ·cases q:X.s₀.heap.get? T with
  |none=>rfl
  |some o =>
    exfalso;obtain⟨o',e1⟩:=U.there T o q (by simp)
    by_cases hb:T∈frs X.stack
    ·obtain⟨o2,e2,hd⟩:=JDM I up hb;rw[q7]at e2;cases e2;exact hd _ q8
    ·have:=PySem.W.hideAll_get as e1 (out T o q hb);rw[q5]at this;cases this
 ·cases q:H' T with
  |none=>rfl
  |some o =>
    exfalso;have hl:=(I.hok T o q).lt;have hn:=trk T o q;obtain⟨u,e⟩:=JFn I.hok q;have:=PySem.W.hideAll_get as e hn;rw[q5]at this;cases this
end
section
variable{P:Program}{w:World}{B:Bs}{mg:Mq}{base:Heap}{N:List Str}{qual:Str}{scope:Scope}{f:Addr}{cd:Value}{A:Around}{outer:List PySem.Env}{s:Shared}{H:Hp}{E:XK}
abbrev XXd(B:Bs)(E:XK):Nat->Hp->Prop:=λc H1=>∀H',Same H1 H'->E (.ref (B.cl c)) none H'
theorem JL8:JEv (CXV P w B) (cxOf (CXV P w B) P w B.K mg base N qual scope f cd A outer s H E) (EX B (XXd B E)):=by
 intro pins σ H1 s1 e s' I ⟨ea,T,c,H',e1,os,bare,un,hok,tr,⟨f1,f2⟩,⟨f3,f4⟩,⟨c',ec,hE⟩⟩;subst e1;have I':=I.call' (ch:=[]) os un hok bare (λb hb=>by simp at hb)
 obtain⟨oe,vs,a0,oT,ts,q1,q2,q3,q4,q6,q7,q8,q9⟩:=id tr;have fr0:∀b,s1.heap.get? b=none->s.heap.get? b=none:=λb q=>by
  cases z:s.heap.get? b with
  |none=>rfl
  |some o =>
   obtain⟨o',e2⟩:=I.base.there b o z (by simp[cxOf])
   rw[q]at e2;cases e2
 have has:∀b∈(ea::T::frs (cxOf (CXV P w B) P w B.K mg base N qual scope f cd A outer s H E).stack),b∈frs (cxOf (CXV P w B) P w B.K mg base N qual scope f cd A outer s H E).stack\/(s.heap.get? b=none/\H' b=none):=λb hb=>by
  rcases q_n.mp hb with rfl|hb
  ·exact .inr ⟨fr0 _ f1,f2⟩
  ·rcases q_n.mp hb with rfl|hb
   ·exact .inr ⟨fr0 _ f3,f4⟩
   ·exact .inl hb
 refine PySem.wpAny_leaves_onW (base:=PySem.W.hideAll s'.heap (ea::T::frs (cxOf (CXV P w B) P w B.K mg base N qual scope f cd A outer s H E).stack)) (outer:=outer) (cls:=.ref (B.cl c)) (a0:=a0) I'.ok.frames rfl
  ⟨λb o q=>PySem.W.of_hideAll _ q,PySem.W.hideAll_none _ (by simp),PySem.W.funFrames_hide I'.stack (λenv he a hf=>q_s _ (q_s _ (List.mem_filterMap.mpr ⟨env,he,hf⟩))),oe,vs,T,oT,ts,q1,q2,q3,q4,PySem.W.hideAll_none _ (by simp),q6,q7,q8,q9⟩ λh2 fl up=>?_
 obtain⟨u2,hok2,T2,tr2,t1,t2⟩:=JKV I' rfl has fl up;refine⟨ea,T2,c,H',rfl,?_,bare,u2,hok2,tr2,⟨fr0 _ f1,f2⟩,⟨t1,t2⟩,?_⟩
 ·exact os.trans I.os
 ·rw[ec];exact hE H' (Same.refl H')
theorem JNA:∀(outer:List PySem.Env) (H:Hp) (s:Shared) (e:Value) (s':Shared),¬CXV P w B outer H s (EX B λ_ _=>False) e s':=by
 rintro outer H s e s' ⟨ea,T,c,H',_,_,_,_,_,_,_,_,c',_,z⟩;exact z
end
abbrev bmV:List Value:=[.type "ValueError",.type "Exception",.type "BaseException",.type "object"]
theorem JL4{K:Kq}{h:Heap}{C:Addr}{bmB:List Value}{newId:String}(X:K.In h)(q:PySem.W.excIn K C bmB newId=true) :
  ∃(bm:List Value) (N:Addr) (nm qn:Str) (bs:List Value) (hdct:Bool) (sn:List Str) (sub:List Value) (ab:Bool) (col:Option Bool) (dd:Option Addr) (k0 k1 k2 k3 k5:Option Value) (mN:Mq),
   h.get? C=some (excClassObj nm qn C N bs bm hdct sn sub ab col dd k0 k1 k2 k3 k5 newId)/\h.Ns N mN/\mN "__init__"=none/\OwnTail h bmB bm:=by
 unfold PySem.W.excIn at q
 split at q
 case h_2=>cases q
 rename_i od cdat slots hlook
 split at q
 case h_2=>cases q
 rename_i C2 tl a0 a1 a2 a3 idn a5 hmro hsl;simp only[q_i,beq_iff_eq,Bool.not_eq_true']at q;obtain⟨⟨⟨⟨⟨e1,e2⟩,e3⟩,e4⟩,e5⟩,e6⟩:=q;subst e1;subst e2;cases cdat with
 |mk nm bs mro ns qn hd sn sub ab col del =>
  simp only at hmro e3 e5 e6;subst hmro;subst e3;cases slots with
  |mk l =>
   simp only at hsl;subst hsl;exact⟨tl,ns,nm,qn,bs,hd,sn,sub,ab,col,od,a0,a1,a2,a3,a5,_,X _ _ hlook,.of_isNs (PySem.W.isNs_of_in X e5),PySem.W.nsMap_none_of_in X e5 e6,PySem.W.tail_of_in X e4⟩
section
variable{P:Program}{w:World}{B:Bs}{mg:Mq}{base:Heap}{N:List Str}{qual:Str}{scope:Scope}{f:Addr}{cd:Value}{A:Around}{outer:List PySem.Env}{s:Shared}{H:Hp}{E:XK}{G:List (Str×GK)}
structure Cl(mg:Mq)(B:Bs)(G:List (Str×GK)):Prop where
 mgc:∀x c,G.lookup x=some (.cls c)->mg x=some (.ref (B.cl c))
 exc:∀x c,G.lookup x=some (.cls c)->∃Bn inN bmN newId,ExcBaseFacts Bn newId inN bmN/\bmV.contains (.type Bn)=true/\PySem.W.excIn B.K (B.cl c) bmV newId=true
theorem JGq(cl:Cl mg B G)(hA:A.handled=none):JKu (cxOf (CXV P w B) P w B.K mg base N qual scope f cd A outer s H E) B G (XXd B E):=by
 intro nm c m j p1 p2 p3 pos hg hb hl pins s1 σ H1 D I hx;obtain⟨Bn,inN,bmN,newId,Fn,hBn,q⟩:=cl.exc nm c hl;obtain⟨bm,N',nm',qn,bs,hdct,sn,sub,ab,col,dd,k0,k1,k2,k3,k5,mN,hC,hN,hni,TL⟩:=JL4 I.kIn q;refine wpAny_Raise_call_subU (C:=B.cl c) (nm:=nm') (q:=qn) (N:=N') (bs:=bs) (bm:=bm) (hdct:=hdct) (sn:=sn) (sub:=sub) (ab:=ab) (col:=col) (dd:=dd) (k0:=k0) (k1:=k1) (k2:=k2) (k3:=k3) (k5:=k5)
  Fn hBn PySem.F.excBase_ValueError (mN:=mN) (TL.hasType PySem.F.excBase_ValueError.hasBase) hA rfl hni (JE3 I hg (cl.mgc nm c hl) ⟨rfl,?_⟩ (JAJ hb).1)
 refine Calls.evalArgs_plain (Calls.spliced_cons (Calls.Constant_str (k:=j) (pos:=p2) (Calls.spliced_nil ⟨rfl,(show(1:Nat)<=sizeLine by decide),hC,hN,TL,λh' e hx'=>?_⟩)))
 have none0:s.heap.get? e=none:=by
  cases z:s.heap.get? e with
  |none=>rfl
  |some o =>
    obtain⟨o',e2⟩:=I.base.there e o z (by simp[cxOf])
    have:=hx'.new;rw[e2]at this;cases this
 refine PySem.wpAny_leaves_madeW (base:=PySem.W.hideAll s1.heap (frs (cxOf (CXV P w B) P w B.K mg base N qual scope f cd A outer s H E).stack)) (outer:=outer) I.ok.frames rfl (λb o q=>PySem.W.of_hideAll _ q)
  (PySem.W.funFrames_hide I.stack (λenv he a hf=>List.mem_filterMap.mpr ⟨env,he,hf⟩)) hx' λh2 t x1 x2 x3 x4=>?_
 obtain⟨u2,hok2,T2,tr2,t1,t2⟩:=JKV I rfl (λb hb=>.inl hb) x1 ((Heap.UpToSlots.of_keeps hx'.keeps).trans x4);exact⟨e,T2,c,H1,rfl,I.os,I.bare,u2,hok2,tr2,⟨none0,JJM I.hok hx'.new⟩,⟨t1,t2⟩,hx H1 (Same.refl H1)⟩
end
section
variable{X:Cx}{pins pins' pn:Pq}{σ:St}{H:Hp}{s:Shared}{A:Around}{xe:Vq}{calm:Bool}{h2:Heap}
end
section
variable{X:Cx}{B:Bs}{C:Cn}{XX:Nat->Hp->Prop}{G:List (Str×GK)}
def TryOk(B:Bs)(C:Cn)(G:List (Str×GK)):Prop:=∀(X:Cx) (XX:Nat->Hp->Prop),Gk X B C (CXV X.prog X.w B) XX G->X.stack=X.env::X.outer->X.env.frame=some X.env.locals->X.ex=[]->X.N.Nodup->(∀nm,X.fn nm=true)->X.A.handled=none ->
 ∀(body:List Stmt) (b:S) (cn en kn:Str) (c i j:Nat) (np p1 p2 p3 hpos pos:Pos),(∀(pn:Pq) (xe:Vq) (XX':Nat->Hp->Prop),PassesOwn (model X.prog X.w) X.A X.env xe->Gk (atX X X.A pn xe true) B C (CXV X.prog X.w B) XX' G->PSs (atX X X.A pn xe true) body (RSt (atX X X.A pn xe true) B C XX' b)) ->
 Gl X cn->X.mg cn=some (.ref (B.cl c))->JAU cn=false->JAU en=false->(∀k,C.sub k c=true->PySem.W.exmOne B.K (.ref (B.cl k)) (.ref (B.cl c))=some true)->X.N[i]? = some en->X.env.scope.names.lookup en=some .local->X.N[j]? = some kn->Loc X.env.scope kn->i≠j ->
 PS X (.Try body [.ExceptHandler (some (.Name cn np)) (some en) [.Assign [.Name kn p1] (.Name en p2) p3] hpos] [] [] pos) (RSt X B C XX (.tryx b c i (.cons (.asg j (.var i)) .nil)))
end
section
variable{B:Bs}{G:List (Str×GK)}{tab:Nat->Option Fd}{glo:Nat->R D}{sub:Nat->Nat->Bool}
structure Mo(mg:Mq)(B:Bs)(G:List (Str×GK))(tab:Nat->Option Fd)(glo:Nat->R D)(sub:Nat->Nat->Bool):Prop where
 fn:∀x i,G.lookup x=some (.fn i)->∃fd,tab i=some fd/\DefAt B.K mg G x fd
 con:∀x i d,G.lookup x=some (.con i)->glo i=.ok d->∃u v,mg x=some u/\RelV v u/\∀H,Den B H d v
 noexg:∀i c,glo i≠.exc c
 blt:∀x b,G.lookup x=some (.blt b)->mg x=none
 rng:∀x,G.lookup x=some .rng->mg x=none
 isi:∀x,G.lookup x=some .isi->mg x=none
 ty:∀x t,G.lookup x=some (.ty t)->mg x=none
 nam:∀x,G.lookup x=some .nam->mg x=none
 cl:Cl mg B G
 exm:∀x c,G.lookup x=some (.cls c)->∀k,sub k c=true->PySem.W.exmOne B.K (.ref (B.cl k)) (.ref (B.cl c))=some true
structure Ra3(B:Bs)(C:Cn)(G:List (Str×GK))(P:Program)(w:World):Prop where
 ra:Rare B C (CXV P w B) G
 rr:RareS B C (CXV P w B) G
 tr:G.lookup (".try":Str)=some GK.opt->TryOk B C G
theorem JQT[Cool G]{P:Program}{w:World}(hw:w=B.w){mg:Mq}{base:Heap}(M:Mo mg B G tab glo sub)(ra:∀n,Ra3 B ⟨run true tab glo sub n,glo,sub⟩ G P w){n i:Nat}{x:Str}{f:Addr}{fo:FuncData}{st:Stmt}{N ps:List Str}{fd:Fd}
  (ih:∀(y:Str) (j:Nat),G.lookup y=some (.fn j)->∃f fd ps,mg y=some (.ref f)/\PySem.W.keepIn B.K (.ref f)=true/\FnOk P w B.K mg base (CXV P w B) n f fd ps (JCM B ps.length (run true tab glo sub n j))/\Binds B.K fd ps []/\∀ds,run true tab glo sub n j ds≠.bad->ds.length=ps.length)
  (F:Fun B.K x x st f fo) (T:Turned G st N ps fd) (ht:tab i=some fd):FnOk P w B.K mg base (CXV P w B) (n+1) f fo ps (JCM B ps.length (run true tab glo sub (n+1) i)):=by
 obtain⟨oc,od,kV,doc,pm,an,cdv,ct,osl,rfl,lk,hcd⟩:=F.ex;refine JOD lk hcd T.sc (λvs H Q E q=>q.1) λA outer s H vs Q E hr q=>?_;obtain⟨hl,ds,dn,q⟩:=q;have hA:A.handled=none:=hr.hd;have g:Gk (cxOf (CXV P w B) P w B.K mg base N x (JAQ st) f cdv A outer s H E) B ⟨run true tab glo sub n,glo,sub⟩ (CXV P w B) (XXd B E) G:={
  K:=rfl
  W:=hw
  anti:=λc H1 H2 sm z H' s'=>z H' (sm.trans s')
  units:=by have:=hr.un;show(A.deeper _).units+200<_;omega
  calm:=λ_=>rfl
  fn:=λy j hy=>by
    obtain⟨f',fd',ps',w1,w2,w3,w4,w5⟩:=ih y j hy;exact⟨f',fd',ps',n,w1,w2,w3,hr,w4,w5⟩
  pas:=JL8
  con:=M.con
  noexg:=M.noexg
  blt:=M.blt
  rng:=M.rng
  isi:=M.isi
  ty:=M.ty
  cls:=M.cl.mgc
  nam:=M.nam }
 have hs:=JH6 (ra n).ra (ra n).rr 60 _ _ _ _ true g T.sc.kind rfl rfl T.sc.nd PassesOwn.leaving (λ_=>rfl) (λ_=>JGq M.cl hA)
  (λ_ hfl body b cn en kn c i j np p1 p2 p3 hpos pos hbody hgl hbn hben hlk hnd hi hle hj hlj hij =>
    (ra n).tr hfl _ _ g rfl rfl rfl hnd (λ_=>rfl) hA body b cn en kn c i j np p1 p2 p3 hpos pos hbody hgl (M.cl.mgc cn c hlk) hbn hben (λk hk=>M.exm cn c hlk k hk) hi hle hj hlj hij)
 refine⟨_,JBz hs T.comp,?_⟩;have hlen:=DenL.len ds vs dn;have hN:N.length=fd.slots:=T.slots.symm;have hpl:ps.length<=N.length:=by have:=congrArg List.length T.sc.pre;rw[List.length_take]at this;omega
 refine⟨_,_,H,Same.refl H,JGU dn rfl (by omega),?_⟩
 unfold run at q;rw[ht]at q;simp only[JFJ]at q;rw[if_pos (by rw[T.par];omega)]at q
 rw[show fd.slots - fd.par=N.length - ds.length by rw[T.slots,T.par];omega]at q
 split at q
 ·rename_i r d hd
  split at hd
  · rename_i δ he
    cases hd;rw[he];exact λσ' H' O' so'=>q .non H' so'.same (by simp only[Den])
  · rename_i d' he
    cases hd;rw[he];exact λv H' sm dn'=>q v H' sm dn'
  · simp at hd
  · cases hd
 ·rename_i r c hd
  split at hd
  · cases hd
  · cases hd
  · rename_i c' he
    simp only[if_true,R.exc.injEq]at hd;subst hd;rw[he];exact q
  · cases hd
 ·exact q.elim
theorem fns[Cool G](hw:w=B.w)(M:Mo mg B G tab glo sub)(ra:∀n,Ra3 B ⟨run true tab glo sub n,glo,sub⟩ G P w):∀(n:Nat) (x:Str) (i:Nat),G.lookup x=some (.fn i) ->
  ∃f fd ps,mg x=some (.ref f)/\PySem.W.keepIn B.K (.ref f)=true/\FnOk P w B.K mg base (CXV P w B) n f fd ps (JCM B ps.length (run true tab glo sub n i))/\Binds B.K fd ps []/\∀ds,run true tab glo sub n i ds≠.bad->ds.length=ps.length
 |0,x,i,h=>by
  obtain⟨fd,ht,⟨f,fo,st,N,ps,e1,F,bi,T⟩⟩:=M.fn x i h;refine⟨f,fo,ps,e1,F.kp,⟨λvs H Q E q=>q.1,λA outer s H args us vs Q E hr he hb hv ⟨_,ds,_,q⟩=>?_⟩,bi,λds q=>absurd rfl q⟩;exact fF q
 |n+1,x,i,h=>by
  obtain⟨fd,ht,⟨f,fo,st,N,ps,e1,F,bi,T⟩⟩:=M.fn x i h;refine⟨f,fo,ps,e1,F.kp,JQT hw M ra (fns hw M ra n) F T ht,bi,λds q=>?_⟩;obtain⟨fd',h1,h2⟩:=JMb q;rw[ht]at h1;cases h1;rw[h2,T.par]
theorem JQB[Cool G]{P:Program}{w:World}(hw:w=B.w){mg:Mq}{base:Heap}(M:Mo mg B G tab glo sub)(ra:∀n,Ra3 B ⟨run true tab glo sub n,glo,sub⟩ G P w){x:Str}{i:Nat}{f:Addr}{fo:FuncData}{st:Stmt}{N ps:List Str}{fd:Fd}
  (F:Fun B.K x x st f fo) (T:Turned G st N ps fd) (ht:tab i=some fd):∀n,FnOk P w B.K mg base (CXV P w B) n f fo ps (JCM B ps.length (run true tab glo sub n i))
 |0=>⟨λvs H Q E q=>q.1,λA outer s H args us vs Q E hr he hb hv ⟨_,ds,_,q⟩=>fF q⟩
 |n+1=>JQT hw M ra (fns hw M ra n) F T ht
theorem JQl{f:Addr}{n:Nat}(F:FnOk P w B.K mg base (CXV P w B) n f fd ps (JCM B ps.length r))(hp:ps.length=1)
  (h:∀ns:List Int,ns.length<=63->r [.list (ns.map λi=>PyData.int i)]=.ok (.bool true)):FnOk P w B.K mg base CX0 n f fd ps (JMp B.K):=by
 refine⟨λvs H Q E ⟨a,ns,e,_⟩=>by subst e;rw[hp];rfl,λA outer s H args us vs Q E hr he hb hv ⟨a,ns,e,hl,hS,k⟩=>?_⟩
 subst e;refine codeAny_mono (F.run A outer s H args us [.ref a] Q (λ_ _ _=>False) hr he hb hv ⟨by rw[hp];rfl,[.list (ns.map λi=>PyData.int i)],?_,?_⟩) λr s' z=>?_
 ·simp only[DenL];exact⟨_,_,rfl,by simp only[Den];exact⟨a,_,rfl,hS,JF3 ns⟩,rfl⟩
 ·rw[h ns hl];intro v H' sm dn;simp only[Den]at dn;subst dn;exact k H'
 ·cases r with
  |ok v=>cases v<;>exact z
  |error e =>
    obtain⟨ea,T,c,H',_,_,_,_,_,_,_,_,z⟩:=z;exact z
theorem JQn[Cool G]{P:Program}{w:World}{K:Kq}{h:Heap}{mg:Mq}{cl:Nat->Addr}{fa:Addr}{st:Stmt}{N:List Str}{x:Str}{fd:Fd}{i n:Nat}
  (X:K.In h) (Gm:h.Ns mainGlobals mg) (hfa:mg "law"=some (.ref fa)) (F:FnIn K "law" st) (T:Turned G st N [x] fd) (hb:JFe "law" st [x]) (hl:G.lookup ("law":Str)=some (.fn i)) (ht:tab i=some fd)
  (M:∀base:Heap,K.In base->base.Ns mainGlobals mg->Mo mg ⟨K,cl,w⟩ G tab glo sub) (ra:∀n,Ra3 ⟨K,cl,w⟩ ⟨run true tab glo sub n,glo,sub⟩ G P w)
  (hbind:∀(kV doc pm:Value) (an:Option Addr) (cdv ct:Value) (s:Shared) (u:Value),BindsTo s (PySem.W.fnOf "law" "law" (JAy st) (JAm st) (JAQ st) .none kV doc pm an cdv ct) ⟨[u],[]⟩ [(x,u)])
  (ok:∀ns:List Int,ns.length<=63->run true tab glo sub n i [.list (ns.map λi=>PyData.int i)]=.ok (.bool true)) :
  ∃fo:FuncData,(∀(s:Shared) (u:Value),BindsTo s fo ⟨[u],[]⟩ [(x,u)])/\∀base:Heap,K.In base->base.Ns mainGlobals mg->FnOk P w K mg base CX0 n fa fo [x] (JMp K):=by
 obtain⟨f,oc,od,an,sl,kV,dc,pm,cd,ct,a,l,c,k⟩:=F.ex;have e:=hfa.symm.trans (PySem.W.mg_of X Gm a);cases e;refine⟨PySem.W.fnOf "law" "law" (JAy st) (JAm st) (JAQ st) .none kV dc pm an cd ct,λs u=>hbind kV dc pm an cd ct s u,λbase kb nb=>?_⟩;have:=JQB (P:=P) (w:=w) (base:=base) (B:=⟨K,cl,w⟩) rfl (M base kb nb) ra (JKc (st:=st) l c k) T ht n;exact JQl this rfl ok
end
end VI
end
section
namespace VI
open PySem PySem.Spec PyProof.Rows L2 Builtin Builtin.ObjectAttr Builtin.Getset_descriptor
structure ExcK(K:Kq)(C:Addr):Prop where
 ga:PySem.W.findIn K (.ref C) "__getattribute__"=some (some (.builtin "BaseException.__getattribute__"))
 gh:PySem.W.findIn K (.ref C) "__getattr__"=some none
 cl:PySem.W.findIn K (.ref C) "__class__"=some (some (.builtin "object.__class__"))
 ob:PySem.W.mroIn K C (.type "object")=some true
 bx:PySem.W.mroIn K C (.type "BaseException")=some true
 gt:PySem.W.specialIn K (.builtin "object.__class__") "__get__"=some (some (.builtin "getset_descriptor.__get__"))
 st:PySem.W.takesIn K (.builtin "object.__class__")=some true
section
variable{K:Kq}{a C:Addr}{prog:Program}{w:World}{A:Around}{s:Shared}
theorem JCZ(p:ExcAt a C h):PySem.W.Looks M h (typeOf (.ref a)) (.ref C):=by
 obtain⟨o,h1,h2⟩:=p;rw[<-h2];exact(PySem.W.Looks.ld h1).andThen .now
theorem JHY(X:K.In h)(h1:PySem.W.findIn K (.ref C) nm=some (some d))(h2:PySem.W.specialIn K d "__get__"=some (some g))(h3:PySem.W.takesIn K d=some true) :
   PySem.W.Looks M h (find (.ref a) (.ref C) nm) (.bind g d) :=
 (PySem.W.looks_findIn X h1).andThen ((show PySem.W.Looks M h (getOf (some d)) (some g) from PySem.W.looks_specialIn X h2).andThen
   ((show PySem.W.Looks M h (dataDescriptor? (some d) (some g)) (some (g,d)) from(PySem.W.looks_takesIn X h3).andThen .now).andThen (PySem.W.Looks.tag .now)))
theorem JL0{R:Result->Shared->Prop}{tp:Value}(X:K.In s.heap)(p:ExcAt a C s.heap)(hm:PySem.W.mroIn K C (.type "object")=some true)(h:R (.ok (.ret (.ref C))) s) :
  codeAny (model prog w) A (.call (.builtin "getset_descriptor.__get__") ⟨[.builtin "object.__class__",.ref a,tp],[]⟩) R s:=by
 obtain⟨hp,gs,dn,tk,os⟩:=s;have q0:=JCZ (M:=model prog w) p;have q1:=PySem.W.looks_mroIn (M:=model prog w) X hm;refine codeAny_call_builtin PySem.W.KF.slot_gs.plain PySem.W.KF.entry_gs (PySem.W.KF.slot_gs.check _ _ _ _ _ _ _ _ PySem.W.KF.type_class (PySem.W.KF.args_gs _ _ _) ?_);unfold Builtin.«getset_descriptor.__get__» descrGet;rw[PySem.W.dga_obj];refine q_b (q_e ?_);unfold descrGetter descrCheckInstance descrNameAndClass isInstance;simp only[PySem.W.KF.owner_class];repeat lk
 refine⟨Code.quiet_builtin _ (by decide +kernel),codeAny_builtin PySem.W.KF.entry_class ?_⟩
 unfold Builtin.«object.__class__» shownTypeOf;repeat lk
 exact h
theorem JJQ{nameV:Value}{E:Vq}{Q:Unit->Shared->Prop}(F:ExcK K C)(X:K.In s.heap)(p:ExcAt a C s.heap)(h:Q () s):wpAny (model prog w) A (checkBuiltinCall "BaseException.__getattribute__" ⟨[.ref a,nameV],[]⟩) Q E s:=by
 obtain⟨hp,gs,dn,tk,os⟩:=s;have q:PySem.W.Looks (model prog w) hp (isInstance (.ref a) (.type "BaseException")) true:=(JCZ p).andThen (PySem.W.looks_mroIn X F.bx);have k1:builtinKind "BaseException.__getattribute__"=some .slot:=by decide +kernel
 have k2:splitId "BaseException.__getattribute__"=some ("BaseException","__getattribute__"):=by decide +kernel
 have ha:=PySem.F.args_bexc_ga (.ref a) nameV;simp only[checkBuiltinCall,k1,k2];refine q_b (q.at ?_)
 repeat (first|exact h|wp_step)
theorem JIk{E:Vq}{Q:Option Value->Shared->Prop}(F:ExcK K C)(X:K.In s.heap)(p:ExcAt a C s.heap)(h:Q (some (.ref C)) { s with toks:=s.toks+1 }) :
  wpAny (model prog w) A (getAttr? (.ref a) "__class__") Q E s:=by
 obtain⟨hp,gs,dn,tk,os⟩:=s;have q0:=JCZ (M:=model prog w) p;have q1:=PySem.W.looks_findIn (M:=model prog w) X F.ga;have q2:=PySem.W.looks_findIn (M:=model prog w) X F.gh;have q3:=JHY (M:=model prog w) (a:=a) X F.cl F.gt F.st;have B:=PySem.F.attr_ValueError.ga;unfold getAttr? getAttrBy? getAttrBy;refine q_b (wpAny_mkText (q_b (wpAny_attempt (wpAny_holding (q_b (q0.at (q_b (q1.at ?_))))))));show wpAny _ _ (getAttrByItsOwn _ _ _ _ _ _) _ _ _;refine q_b (q2.at (q_b (wpAny_attempt (wpAny_holding ?_))));show wpAny _ _ (boundAndCalled _ _ _) _ _ _;unfold boundAndCalled;rw[B.bind];refine q_b (q_e (wpAny_call (codeAny_call_builtin B.plain PySem.F.entry_bexc_ga (JJQ F X p ?_))));refine q_b (q_e (q_b (q_e (q_b (q0.at (q_b (q3.at ?_)))))));show wpAny _ _ (holding [Value.builtin "object.__class__"] (call (.builtin "getset_descriptor.__get__") [Value.builtin "object.__class__",.ref a,.ref C]) >>= ret) _ _ _;refine q_b (wpAny_holding (wpAny_call (JL0 X p F.ob (q_e ?_))));show wpAny _ _ (handedOut (.ref C)) _ _ _;exact PySem.W.handed_on rfl (q_e h)
theorem JFf(F:ExcK K C):PySem.W.KitX K (.ref a) (.ref C) (ExcAt a C) where
 ty:=λM h _ p=>JCZ p
 it:=λM h X _=>by
  obtain⟨cd,e1,_⟩:=q_a.mp F.ob;unfold PySem.W.clsIn at e1
  split at e1
  ·rename_i ho;intro A' Q' E' s' k q;unfold isType loadHead;exact q_b (wpAny_loadPart (k _ _ (X _ _ ho)) (q_e q))
  ·cases e1
 ne:=λh tp dd its n sl X ht=>by
  obtain⟨cd,e1,_⟩:=q_a.mp F.ob;refine Bool.eq_false_iff.mpr λq=>?_;have e:C=tp:=Value.ref.inj (beq_iff_eq.mp q);subst e;unfold PySem.W.clsIn at e1
  split at e1
  ·rename_i ho;have z:=(X _ _ ho).symm.trans ht;cases z
  ·cases e1
 ca:=λX p k=>JIk F X p k
end
noncomputable def nmOf:Ty->String
 |.int=>"int"
 |.bool=>"bool"
 |.str=>"str"
 |.list=>"list"
 |.tuple=>"tuple"
 |.dict=>"dict"
 |.valueError=>"ValueError"
 |.own _=>""
theorem JMD(h:JA7 ty=some t):bootBuiltins t=some (.type (nmOf ty)):=by
 cases ty<;>simp only[JA7,q_j,reduceCtorEq]at h<;>subst h<;>boot_by_name
section
variable{K:Kq}
theorem JOz(h:(JA7 ty).isSome=true):PySem.W.kitOne K (.type "NoneType") (.type (nmOf ty))=some false:=by
 cases ty<;>first|(cases h;done)|kernel_rfl
theorem JM1(h:(JA7 ty).isSome=true):PySem.W.kitOne K (.type "bool") (.type (nmOf ty))=some (ty==.int || ty==.bool):=by
 cases ty<;>first|(cases h;done)|kernel_rfl
theorem JPG(h:(JA7 ty).isSome=true):PySem.W.kitOne K (.type "int") (.type (nmOf ty))=some (ty==.int):=by
 cases ty<;>first|(cases h;done)|kernel_rfl
theorem JNU(h:(JA7 ty).isSome=true):PySem.W.kitOne K (.type "str") (.type (nmOf ty))=some (ty==.str):=by
 cases ty<;>first|(cases h;done)|kernel_rfl
theorem JL3(h:(JA7 ty).isSome=true):PySem.W.kitOne K (.type "list") (.type (nmOf ty))=some (ty==.list):=by
 cases ty<;>first|(cases h;done)|kernel_rfl
theorem JJb(h:(JA7 ty).isSome=true):PySem.W.kitOne K (.type "tuple") (.type (nmOf ty))=some (ty==.tuple):=by
 cases ty<;>first|(cases h;done)|kernel_rfl
theorem ko_of{C:Addr}(h:PySem.W.kitOne K (.type "NoneType") (.ref C)=some false)(hs:PySem.W.subIn K (.type T) (.ref C)=some false):PySem.W.kitOne K (.type T) (.ref C)=some false:=by
 have n1:∀T:String,((Value.type T)==Value.ref C)=false:=λT=>rfl;unfold PySem.W.kitOne PySem.W.kitCls at h ⊢;rw[n1]at h ⊢;simp only[q_v,if_false]at h ⊢
 split at h
 ·rename_i z;rw[if_pos z];exact hs
 ·cases h
theorem JMe{C:Addr}:PySem.W.subIn K (.type "bool") (.ref C)=some false:=by kernel_rfl
theorem JNq{C:Addr}:PySem.W.subIn K (.type "int") (.ref C)=some false:=by kernel_rfl
theorem JPk{C:Addr}:PySem.W.subIn K (.type "str") (.ref C)=some false:=by kernel_rfl
theorem JNE{C:Addr}:PySem.W.subIn K (.type "list") (.ref C)=some false:=by kernel_rfl
theorem JJv{C:Addr}:PySem.W.subIn K (.type "tuple") (.ref C)=some false:=by kernel_rfl
end
structure Isi(B:Bs)(G:List (Str×GK))(sub:Nat->Nat->Bool):Prop where
 own:∀x c,G.lookup x=some (.cls c)->PySem.W.kitOne B.K (.type "NoneType") (.ref (B.cl c))=some false
 exc:∀k,sub k k=true->ExcK B.K (B.cl k)/\PySem.W.kitOne B.K (.ref (B.cl k)) (.type "ValueError")=some true
 rel:∀k,sub k k=true->∀x c,G.lookup x=some (.cls c)->PySem.W.kitOne B.K (.ref (B.cl k)) (.ref (B.cl c))=some (sub k c)
section
variable{X:Cx}{B:Bs}{C:Cn}{CX:CXT}{XX:Nat->Hp->Prop}{G:List (Str×GK)}
def TyV(B:Bs)(G:List (Str×GK))(ty:Ty)(v:V):Prop:=((JA7 ty).isSome=true/\v=.ty (nmOf ty))\/∃x c,ty=.own c/\G.lookup x=some (.cls c)/\v=.ref (B.cl c)
theorem JJ4(I0:Isi B G C.sub)(g:Gk X B C CX XX G)(ty:Ty):JBM X (.builtin "isinstance") (λvs H Q=>∃d v1 v2,vs=[v1,v2]/\Den B H d v1/\TyV B G ty v2/\KE B XX (isiD C.sub d ty) H Q):=by
 intro pins s σ H vs us Q I r ⟨d,v1,v2,e,dn,tv,k⟩;subst e;obtain⟨u1,us',rfl,r1,rs⟩:∃u1 us',us=u1::us'/\RelV v1 u1/\Vals [v2] us':=by cases r;exact⟨_,_,rfl,‹_›,‹_›⟩
 obtain⟨u2,rfl,r2⟩:=rs.one;have KI:B.K.In s.heap:=g.K▸I.kIn;have fin:∀ {x t:Value}{Hh:Heap->Prop}{b:Bool},PySem.W.KitX B.K x t Hh->Hh s.heap->isiD C.sub d ty=.ok (.bool b)->x=u1->x≠.builtin "__main__.__loader__#opaque"->PySem.W.kitOne B.K t u2=some b->wpAny (model X.prog X.w) X.A (call (.builtin "isinstance") [u1,u2]) (EP X pins σ Q) X.xe s:=by
  intro x t Hh b Z p e hx hne e2;subst hx;rw[e]at k;exact PySem.W.kia_one Z KI p e2 hne λtk=>⟨.bl b,H,I.tok tk,rfl,KE.ok k (by simp only[Den])⟩
 have u2e:∀(T:String) (f:Ty->Bool),((JA7 ty).isSome=true->PySem.W.kitOne B.K (.type T) (.type (nmOf ty))=some (f ty))->(∀c,f (.own c)=false)->(∀c,PySem.W.subIn B.K (.type T) (.ref c)=some false)->PySem.W.kitOne B.K (.type T) u2=some (f ty):=by
  intro T f h1 h2 h3;rcases tv with ⟨t1,rfl⟩|⟨x,c,rfl,hl,rfl⟩
  ·cases r2;exact h1 t1
  ·cases r2;rw[h2];exact ko_of (I0.own x c hl) (h3 _)
 cases d with
 |none =>
  simp only[Den]at dn;subst dn;cases r1;refine fin PySem.W.kitx_none trivial rfl rfl (by intro q;cases q) (u2e "NoneType" (λ_=>false) (λh=>JOz h) (λ_=>rfl) λc=>?_)
  kernel_rfl
 |bool b =>
  simp only[Den]at dn;subst dn;cases r1;exact fin PySem.W.kitx_bool trivial rfl rfl (by intro q;cases q) (u2e "bool" (λty=>ty==.int || ty==.bool) (λh=>JM1 h) (λ_=>rfl) λc=>JMe)
 |int b =>
  simp only[Den]at dn;subst dn;obtain⟨t,rfl⟩:=r1;exact fin PySem.W.kitx_int trivial rfl rfl (by intro q;cases q) (u2e "int" (λty=>ty==.int) (λh=>JPG h) (λ_=>rfl) λc=>JNq)
 |str b =>
  simp only[Den]at dn;subst dn;obtain⟨t,rfl⟩:=r1;exact fin PySem.W.kitx_str trivial rfl rfl (by intro q;cases q) (u2e "str" (λty=>ty==.str) (λh=>JNU h) (λ_=>rfl) λc=>JPk)
 |list b =>
  simp only[Den]at dn;obtain⟨l,xs,rfl,q,_⟩:=dn;cases r1;obtain⟨its,_,⟨o,n,e1,e2,_⟩,_⟩:=I.list (g.K▸q);exact fin PySem.W.kitx_list ⟨o,e1,e2⟩ rfl rfl (by intro q;cases q) (u2e "list" (λty=>ty==.list) (λh=>JL3 h) (λ_=>rfl) λc=>JNE)
 |tuple b =>
  simp only[Den]at dn;obtain⟨l,xs,rfl,q,_⟩:=dn;cases r1;obtain⟨its,_,⟨o,e1,e2,_⟩,_⟩:=I.tuple (g.K▸q);exact fin PySem.W.kitx_tuple ⟨o,e1,e2⟩ rfl rfl (by intro q;cases q) (u2e "tuple" (λty=>ty==.tuple) (λh=>JJb h) (λ_=>rfl) λc=>JJv)
 |dict kvs =>
  simp only[Den]at dn;rcases dn with ⟨l,c,rfl,rfl,q⟩|⟨l,xs,rfl,q,dk⟩
  ·cases r1;simp only[isiD,Int.toNat_natCast]at k fin
   by_cases hk:C.sub c c=true
   ·rw[if_pos hk]at k fin;have p:ExcAt l (B.cl c) s.heap:=by
     have:=I.hok l _ q;exact this.1
    rcases tv with ⟨t1,rfl⟩|⟨x,e,rfl,hl,rfl⟩
    ·cases r2;cases ty with
     |valueError=>exact fin (JFf (I0.exc c hk).1) p rfl rfl (by intro q;cases q) (I0.exc c hk).2
     |own e=>cases t1
     |_=>exact fF k
    ·cases r2;exact fin (JFf (I0.exc c hk).1) p rfl rfl (by intro q;cases q) (I0.rel c hk x e hl)
   ·rw[if_neg hk]at k;exact fF k
  ·cases kvs with
   |nil=>exact fF k
   |cons p r =>
    obtain⟨p1,p2⟩:=p;simp only[DenK]at dk;obtain⟨_,_,_,_,rfl,_⟩:=dk;exact fF k
theorem r_isi(I0:Isi B G C.sub)(g:Gk X B C CX XX G)(a:Expr)(x:E)(t:Str)(ty:Ty)(p pt pos:Pos)(h1:Gl X "isinstance")(h2:Gl X t)(h3:G.lookup ("isinstance":Str)=some GK.isi)
  (h4:G.lookup t=some (.ty ty)/\JA7 ty=some t\/∃c,ty=.own c/\G.lookup t=some (.cls c)) (h5:JAU t=false) (ha:PE X a (RE B C XX x)) (hs:starEach [a,.Name t pt] X.env=(false,eval a X.env)::starEach [.Name t pt] X.env) :
  PE X (.Call (.Name "isinstance" p) [a,.Name t pt] [] pos) (RE B C XX (.isi x ty)):=by
 have hst:starEach [.Name t pt] X.env=[(false,eval (.Name t pt) X.env)]:=rfl;obtain⟨v2,tv,hn⟩:∃v2,TyV B G ty v2/\PE X (.Name t pt) (tC v2):=by
  rcases h4 with ⟨e1,e2⟩|⟨c,rfl,e1⟩
  · exact⟨_,.inl ⟨by rw[e2];rfl,rfl⟩,JLt h2 (g.ty t ty e1) (JMD e2) rfl (JAJ h5).2.2 (JAJ h5).1⟩
  · exact⟨_,.inr ⟨t,c,rfl,e1,rfl⟩,JIr h2 (g.cls t c e1) rfl (JAJ h5).1⟩
 refine PE.imp (JCS (JJ4 I0 g ty) h1 (g.isi _ h3) (by boot_by_name) (JCE ha (JCE hn JEW hst) hs) (by decide) (by decide) hs (by rw[hst];rfl)) ?_
 rintro σ H Q ⟨δ,ok,kk⟩;simp only[ev]at kk;refine RE.of (W:=λr H=>KE B XX r H Q) ok (λ_ _ z=>z) (λ_ z=>z) kk λd v H1 s1 d1 h1=>?_;exact⟨d,v,v2,rfl,d1,tv,KE.mono g s1 h1⟩
end
end VI
end
section
namespace VI
open PySem PySem.Spec PyProof.Rows L2
theorem JMF(I0:Isi B G C.sub)
  (mn:G.lookup ("min":Str)=some (.blt .min)->∀(X:Cx) (XX:Nat->Hp->Prop),Gk X B C (CXV P w B) XX G->JBM X (.builtin "min") (λvs H Q=>∃ds,DenL B H ds vs/\KE B XX (bltD .min ds) H Q))
  (dc:G.lookup (".dct":Str)=some GK.opt->∀(X:Cx) (XX:Nat->Hp->Prop),Gk X B C (CXV P w B) XX G->∀(n:Nat) (names:Nq) (N:List Str) (ks:List (Option Expr)) (vs:List Expr) (xs:List Str) (x:E) (pos:Pos),(∀e x,JAN G n false names N e=some x->PE X e (RE B C XX x)) ->
    strKeys ks=some xs->1<=xs.length->xs.length<=15->xs.length=vs.length->xs.Nodup->JAG (JAN G n false names N) vs=some x->PE X (.Dict ks vs pos) (RE B C XX (.dct xs x)))
  (xo:∀k:XO,G.lookup k.flag=some GK.opt->XOk B C (CXV P w B) G k)
  (rp:G.lookup (".rep":Str)=some GK.opt->∀(X:Cx) (XX:Nat->Hp->Prop),Gk X B C (CXV P w B) XX G->∀(es:List Expr) (x:E) (k:Int) (j:Nat) (p p2 pos:Pos),PA X es (RA B C XX x)->cnt x<=1000->0<=k->k<=1000->PE X (.BinOp (.List es p) .Mult (.Constant (.int k) j p2) pos) (RE B C XX (.rep k.toNat x))) (dp:G.lookup (".dict":Str)=some GK.opt->DOk B C (CXV P w B) G) (ro:RO B C (CXV P w B) G):Rare B C (CXV P w B) G where
 nox:=λouter H s e s'=>JNA outer H s e s'
 isi:=λX XX g a x t ty p pt pos h1 h2 h3 h4 h5 h6 h7=>r_isi I0 g a x t ty p pt pos h1 h2 h3 h4 h5 h6 h7
 min:=mn
 dct:=dc
 rep:=rp
 xop:=xo
 dop:=dp
 ro:=ro
theorem nofl{P:Prop}(h:l=none)(z:l=some x):P:=by rw[h]at z;cases z
section
variable{B:Bs}{C:Cn}{CX:CXT}{G:List (Str×GK)}
end
theorem x_no(h:G.lookup k.flag=none)(z:G.lookup k.flag=some GK.opt):XOk B C CX G k:=by rw[h]at z;cases z
theorem JL6(I0:Isi B G C.sub)(h1:G.lookup ("min":Str)=none)(h2:G.lookup (".dct":Str)=none)(h3:G.lookup (".rep":Str)=none)(dp:G.lookup (".dict":Str)=some GK.opt->DOk B C (CXV P w B) G)(xo:∀k:XO,G.lookup k.flag=some GK.opt->XOk B C (CXV P w B) G k)(ro:RO B C (CXV P w B) G):Rare B C (CXV P w B) G :=
 JMF I0 (λz=>by rw[h1]at z;cases z) (λz=>by rw[h2]at z;cases z) xo (λz=>by rw[h3]at z;cases z) dp ro
theorem d_no(h:G.lookup (".dict":Str)=none)(z:G.lookup (".dict":Str)=some GK.opt):DOk B C CX G:=by rw[h]at z;cases z
def allN:Nat->(List Value->Prop)->Prop
 |0,P=>P []
 |n+1,P=>∀a,allN n λr=>P (a::r)
theorem JIT:∀ {n:Nat}{P:List Value->Prop},allN n P->∀us:List Value,us.length=n->P us
 |0,P,h,us,e=>by rw[q_B.mp e];exact h
 |n+1,P,h,us,e=>by
  cases us with
  |nil=>cases e
  |cons a r=>exact JIT (h a) r (by simpa using e)
theorem bOk{x:Str}{st:Stmt}{ps:List Str}(h:allN ps.length λus=>∀(kV doc pm:Value) (an:Option Addr) (cdv ct:Value),bindArgs (PySem.W.fnOf x x (JAy st) (JAm st) (JAQ st) .none kV doc pm an cdv ct) ⟨us,[]⟩=pure (ps.zip us)):JFe x st ps :=
 λkV doc pm an cdv ct us hl=>JIT h us hl kV doc pm an cdv ct
theorem fnI{K:Kq}{x:Str}{st:Stmt}(f c:Addr)(pm:Value)(a:PySem.W.nsIn K mainGlobals x=some (some (.ref f)):=by kernel_rfl)
 (l:K.lookup f=some ⟨.type "function",none,.func (PySem.W.fnOf x x (JAy st) (JAm st) (JAQ st) .none .none .none pm none (.ref c) .none),#[]⟩:=by kernel_rfl) (cc:PySem.W.codeIn K (.ref c) x=true:=by kernel_rfl) (k:PySem.W.keepIn K (.ref f)=true:=by kernel_rfl):FnIn K x st:=JNV a l cc k
theorem tuI{G:List (Str×GK)}{st:Stmt}{N ps:List Str}{fd:Fd}(c:JAc (JB7 G 60 true (JAQ st).names N) (JAm st)=some fd.body:=by kernel_rfl)
 (s:FnScope N ps (JAQ st):=by exact⟨rfl,rfl,rfl,by decide +kernel,rfl,by decide +kernel,by decide +kernel⟩) (p:fd.par=ps.length:=by rfl) (l:fd.slots=N.length:=by rfl):Turned G st N ps fd:=⟨c,s,p,l⟩
theorem dI{K:Kq}{h:Heap}{mg:Mq}{G:List (Str×GK)}{x:Str}{fd:Fd}(X:K.In h)(Gm:h.Ns mainGlobals mg)(f c:Addr)(pm:Value)(st:Stmt)(N ps:List Str)(b:allN ps.length λus=>∀(kV doc pm:Value) (an:Option Addr) (cdv ct:Value),bindArgs (PySem.W.fnOf x x (JAy st) (JAm st) (JAQ st) .none kV doc pm an cdv ct) ⟨us,[]⟩=pure (ps.zip us))(a:PySem.W.nsIn K mainGlobals x=some (some (.ref f)):=by kernel_rfl)(l:K.lookup f=some ⟨.type "function",none,.func (PySem.W.fnOf x x (JAy st) (JAm st) (JAQ st) .none .none .none pm none (.ref c) .none),#[]⟩:=by kernel_rfl)(cc:PySem.W.codeIn K (.ref c) x=true:=by kernel_rfl)(k:PySem.W.keepIn K (.ref f)=true:=by kernel_rfl)(t:JAc (JB7 G 60 true (JAQ st).names N) (JAm st)=some fd.body:=by kernel_rfl)(s:FnScope N ps (JAQ st):=by exact⟨rfl,rfl,rfl,by decide +kernel,rfl,by decide +kernel,by decide +kernel⟩)(p:fd.par=ps.length:=by rfl)(z:fd.slots=N.length:=by rfl):DefAt K mg G x fd:=(JNV a l cc k:FnIn K x st).at X Gm (bOk b) ⟨t,s,p,z⟩
noncomputable def JFB(rs:List (Nat×List Nat))(k c:Nat):Bool:=match rs.lookup k with
 |some l=>l.contains c
 |none=>false
def AllR(P:Nat->List Nat->Prop):List (Nat×List Nat)->Prop
 | []=>True
 |(k,l)::r=>P k l/\AllR P r
theorem AllR.get{P:Nat->List Nat->Prop}:∀ {rs:List (Nat×List Nat)}{k:Nat}{l:List Nat},AllR P rs->rs.lookup k=some l->P k l
 | [],k,l,_,h=>by cases h
 |(j,m)::r,k,l,⟨h1,h2⟩,h=>by
  rw[List.lookup_cons]at h
  by_cases e:(k==j)=true
  · rw[e]at h
    have e':k=j:=by simpa using e
    cases h;subst e';exact h1
  · have e':(k==j)=false:=by simpa using e
    rw[e']at h;exact AllR.get h2 h
structure ClIn(K:Kq)(x:Str)(C:Addr):Prop where
 ns:PySem.W.nsIn K mainGlobals x=some (some (.ref C))
 ex:PySem.W.excIn K C bmV "ValueError.__new__"=true
 ty:PySem.W.kitOne K (.type "NoneType") (.ref C)=some false
structure RaIn(K:Kq)(C:Addr):Prop where
 k:ExcK K C
 v:PySem.W.kitOne K (.ref C) (.type "ValueError")=some true
def JPC(K:Kq)(C D:Addr)(b:Bool):Prop:=PySem.W.kitOne K (.ref C) (.ref D)=some b/\(b=true->PySem.W.exmOne K (.ref C) (.ref D)=some true)
section
variable{B:Bs}{G:List (Str×GK)}{tab:Nat->Option Fd}{glo:Nat->R D}{rs:List (Nat×List Nat)}{mg:Mq}
def MoP(mg:Mq)(B:Bs)(G:List (Str×GK))(tab:Nat->Option Fd)(glo:Nat->R D)(x:Str):GK->Prop
 |.fn i=>∃fd,tab i=some fd/\DefAt B.K mg G x fd
 |.con i=>∀d,glo i=.ok d->∃u v,mg x=some u/\RelV v u/\∀H,Den B H d v
 |.blt _=>mg x=none
 |.rng=>mg x=none
 |.isi=>mg x=none
 |.ty _=>mg x=none
 |.nam=>mg x=none
 |.cls c=>ClIn B.K x (B.cl c)/\mg x=some (.ref (B.cl c))
 |.opt=>True
def RaP(B:Bs)(G:List (Str×GK))(k:Nat)(l:List Nat):Prop:=RaIn B.K (B.cl k)/\AllP (λ_ gk=>match gk with
 |.cls c=>JPC B.K (B.cl k) (B.cl c) (l.contains c)
 |_=>True) G
theorem JCG{k c:Nat}(h:JFB rs k c=true):∃l,rs.lookup k=some l/\l.contains c=true:=by
 unfold JFB at h
 split at h
 ·rename_i l e;exact⟨l,e,h⟩
 ·cases h
theorem JKr(hr:AllR (RaP B G) rs){k c:Nat}(hx:G.lookup x=some (.cls c))(hk:rs.lookup k=some l):JPC B.K (B.cl k) (B.cl c) (l.contains c):=(hr.get hk).2.get hx
theorem JOW(h:AllP (MoP mg B G tab glo) G)(hr:AllR (RaP B G) rs):Isi B G (JFB rs) where
 own:=λx c e=>(h.get e).1.ty
 exc:=λk hk=>by
  obtain⟨l,e,_⟩:=JCG hk;exact⟨(hr.get e).1.k,(hr.get e).1.v⟩
 rel:=λk hk x c e=>by
  obtain⟨l,el,_⟩:=JCG hk;have:JFB rs k c=l.contains c:=by unfold JFB;rw[el]
  rw[this];exact(JKr hr e el).1
theorem mo_of(h:AllP (MoP mg B G tab glo) G)(hr:AllR (RaP B G) rs)(hg:∀i c,glo i≠.exc c):Mo mg B G tab glo (JFB rs) where
 fn:=λx i e=>h.get e
 con:=λx i d e q=>h.get e d q
 noexg:=hg
 blt:=λx b e=>h.get e
 rng:=λx e=>h.get e
 isi:=λx e=>h.get e
 ty:=λx t e=>h.get e
 nam:=λx e=>h.get e
 cl:=⟨λx c e=>(h.get e).2,λx c e=>⟨_,_,_,_,PySem.F.excBase_ValueError,by decide,(h.get e).1.ex⟩⟩
 exm:=λx c e k hk=>by
  obtain⟨l,el,hc⟩:=JCG hk;exact(JKr hr e el).2 hc
end
noncomputable def conV:Value->Option D
 |.none=>some .none
 |.bool b=>some (.bool b)
 |.int i _=>some (.int i)
 |.str x _=>some (.str x)
 |_=>none
theorem JIz(h:conV u=some d):∃v,RelV v u/\∀H,Den B H d v:=by
 cases u<;>simp only[conV,q_j,reduceCtorEq]at h<;>subst h
 ·exact⟨.non,rfl,λH=>by simp only[Den]⟩
 ·exact⟨.bl _,rfl,λH=>by simp only[Den]⟩
 ·exact⟨.int _,⟨_,rfl⟩,λH=>by simp only[Den]⟩
 ·exact⟨.str _,⟨_,rfl⟩,λH=>by simp only[Den]⟩
inductive EntOk(B:Bs)(w:World):List DictEntry->List (D×D)->Prop
 |nil:EntOk B w [] []
 |cons {en:DictEntry}{x:Str}{t:Tok}{d:D}{es:List DictEntry}{kvs:List (D×D)}:en.key=.str x t->en.hash=hashStr w x->(∃v,RelV v en.val/\∀H,Den B H d v)->EntOk B w es kvs->EntOk B w (en::es) ((.str x,d)::kvs)
theorem EntOk.den(h:EntOk B w es kvs):∃ks:List (Key×V),(∀H,DenK B H kvs ks)/\∀P:Program,∃rs:List (Key×Value),KV ks rs/\Pairs (JBH P w) es rs/\(∀e∈es,∃k,(JBH P w).is k e.key=true/\e.hash=(JBH P w).hash k)/\rs.map (·.1)=kvs.filterMap (λp=>match p.1 with|.str x=>some (Sum.inr x:Key)|_=>none):=by
 induction h with
 |nil=>exact⟨[],λH=>by simp only[DenK],λP=>⟨[],.nil,.nil,λe he=>(by simp at he),rfl⟩⟩
 | @cons en x t d es kvs h1 h2 h3 _ ih =>
  obtain⟨ks,b,ih⟩:=ih;obtain⟨v,r,q⟩:=h3;refine⟨(Sum.inr x,v)::ks,λH=>?_,λP=>?_⟩
  ·simp only[DenK];exact⟨x,v,ks,rfl,rfl,q H,b H⟩
  ·obtain⟨rs,a,c,e,f⟩:=ih P;have hk:(JBH P w).is (Sum.inr x) en.key=true:=by rw[h1];exact JC4 P w x t
   refine⟨(Sum.inr x,en.val)::rs,.cons ⟨rfl,r⟩ a,.cons hk rfl c,λe' he=>?_,by simp only[List.map_cons,f];rfl⟩
   rcases q_n.mp he with rfl|he
   ·exact⟨Sum.inr x,hk,h2⟩
   ·exact e e' he
end VI
namespace VI
open PySem PySem.Spec PyProof.Rows L2
mutual
noncomputable def conK(K:Kq):Nat->Value->Option D
 |0,_=>none
 |n+1,u=>match u with
  |.ref a=>(match K.lookup a with
   |some ⟨.type "tuple",_,.seq its 0,_⟩=>if its.size<=1000 then (JGf K n its.toList).map PyData.tuple else none
   |_=>none)
  |u=>conV u
noncomputable def JGf(K:Kq):Nat->List Value->Option (List D)
 |0,_=>none
 |_,[]=>some []
 |n+1,u::us=>(conK K n u).bind λd=>(JGf K n us).map (d::·)
end
mutual
theorem JFu:∀ {n:Nat}{u:Value}{d:D},conK B.K n u=some d->∃v,RelV v u/\∀H,Den B H d v
 |0,u,d,h=>by simp[conK]at h
 |n+1,u,d,h=>by
  unfold conK at h
  split at h
  ·rename_i a
   split at h
   ·rename_i od its sl l
    split at h
    ·rename_i hz;obtain⟨ds,h1,e⟩:=q_d.mp h;subst e;obtain⟨vs,r,q⟩:=JD2 h1;refine⟨.ref a,rfl,λH=>?_⟩;simp only[Den];exact⟨a,vs,rfl,.inr ⟨_,its,_,l,rfl,rfl,by rw[sizeLine_eq];omega,r⟩,q H⟩
    ·cases h
   ·cases h
  ·exact JIz h
theorem JD2:∀ {n:Nat}{us:List Value}{ds:List D},JGf B.K n us=some ds->∃vs,Vals vs us/\∀H,DenL B H ds vs
 |0,us,ds,h=>by simp[JGf]at h
 |n+1,[],ds,h=>by
  simp only[JGf,q_j]at h;subst h;exact⟨[],.nil,λH=>by simp only[DenL]⟩
 |n+1,u::us,ds,h=>by
  unfold JGf at h;obtain⟨d,h1,h⟩:=q_a.mp h;obtain⟨r,h2,e⟩:=q_d.mp h;subst e;obtain⟨v,r1,q1⟩:=JFu h1;obtain⟨vs,r2,q2⟩:=JD2 h2;exact⟨v::vs,.cons r1 r2,λH=>by simp only[DenL];exact⟨v,vs,rfl,q1 H,q2 H⟩⟩
end
theorem JA8{K:Kq}{cl:Nat->Addr}{w:World}{h:Heap}{mg:Mq}{x:Str}{d0:D}(X:K.In h)(Gm:h.Ns mainGlobals mg)
  (e:((PySem.W.nsIn K mainGlobals x).bind λo=>o.bind λu=>conK K 64 u)=some d0) {glo:Nat->R D}{i:Nat}(hg:glo i=.ok d0) :
  ∀d,glo i=.ok d->∃u v,mg x=some u/\RelV v u/\∀H,Den ⟨K,cl,w⟩ H d v:=by
 intro d hd;rw[hg]at hd;cases hd;obtain⟨o,h1,h2⟩:=q_a.mp e;obtain⟨u,h3,h4⟩:=q_a.mp h2;subst h3;obtain⟨v,r,q⟩:=JFu (B:=⟨K,cl,w⟩) h4;exact⟨u,v,PySem.W.mg_of X Gm h1,r,q⟩
end VI
end
section
namespace Fr
theorem JBR{a g:Int}(h:g ∣ a):a.fdiv g=a / g:=Int.fdiv_eq_ediv_of_dvd h
theorem JCW(up down:Int)(h:down≠0):up.fdiv (if down<0 then -((up.gcd down:Nat):Int) else ((up.gcd down:Nat):Int))=(Rat.divInt up down).num:=by
 have hg:((up.gcd down:Nat):Int) ∣ up:=Int.gcd_dvd_left ..;rw[Rat.num_divInt,Int.gcd_comm down up]
 by_cases hd:down<0
 ·rw[if_pos hd,JBR (Int.neg_dvd.mpr hg),Int.sign_eq_neg_one_of_neg hd,Int.neg_one_mul,Int.ediv_neg,Int.neg_ediv_of_dvd hg]
 ·rw[if_neg hd,JBR hg,Int.sign_eq_one_of_pos (by omega),Int.one_mul]
theorem JDs(up down:Int)(h:down≠0):down.fdiv (if down<0 then -((up.gcd down:Nat):Int) else ((up.gcd down:Nat):Int))=((Rat.divInt up down).den:Int):=by
 have hg:((up.gcd down:Nat):Int) ∣ down:=Int.gcd_dvd_right ..;rw[Rat.den_divInt,if_neg h,Int.gcd_comm down up]
 by_cases hd:down<0
 ·rw[if_pos hd,JBR (Int.neg_dvd.mpr hg),Int.ediv_neg,Int.natCast_ediv,<-Int.neg_ediv_of_dvd hg]
  congr 1
  omega
 ·rw[if_neg hd,JBR hg,Int.natCast_ediv]
  congr 1
  omega
theorem den_pos(q:Rat):(0:Int)<(q.den:Int):=by have:=q.den_pos;omega
theorem JAT(q:Rat):(q.den:Int)≠0:=by have:=den_pos q;omega
theorem JHy(a b:Rat):Rat.divInt (a.num*b.den+b.num*a.den) ((a.den:Int)*b.den)=a+b:=by
 conv=>rhs;rw[<-Rat.num_divInt_den a,<-Rat.num_divInt_den b]
 rw[Rat.divInt_add_divInt _ _ (JAT a) (JAT b)]
theorem JHq(a b:Rat):Rat.divInt (a.num*b.den - b.num*a.den) ((a.den:Int)*b.den)=a - b:=by
 conv=>rhs;rw[<-Rat.num_divInt_den a,<-Rat.num_divInt_den b]
 rw[Rat.divInt_sub_divInt _ _ (JAT a) (JAT b)]
theorem JGA(a b:Rat):Rat.divInt (a.num*b.num) ((a.den:Int)*b.den)=a*b:=by
 conv=>rhs;rw[<-Rat.num_divInt_den a,<-Rat.num_divInt_den b]
 rw[Rat.divInt_mul_divInt]
theorem JHD(a b:Rat):Rat.divInt (a.num*b.den) ((a.den:Int)*b.num)=a / b:=by
 rw[Rat.div_def,Rat.inv_def]
 conv=>rhs;rw[<-Rat.num_divInt_den a]
 rw[Rat.divInt_mul_divInt]
theorem JF6(a b:Int):b.gcd (a.fmod b)=a.gcd b:=by
 have h:=Int.mul_fdiv_add_fmod a b;have e:a.fmod b=a - b*a.fdiv b:=by omega
 rw[e,Int.gcd_comm a b];apply Nat.dvd_antisymm
 ·apply Int.dvd_gcd
  ·exact Int.gcd_dvd_left ..
  ·have h1:((b.gcd (a - b*a.fdiv b):Nat):Int) ∣ b:=Int.gcd_dvd_left ..;have h2:((b.gcd (a - b*a.fdiv b):Nat):Int) ∣ a - b*a.fdiv b:=Int.gcd_dvd_right ..;have h3:=Int.dvd_add h2 (Int.dvd_mul_of_dvd_left (c:=a.fdiv b) h1);have e2:a - b*a.fdiv b+b*a.fdiv b=a:=by omega
   rwa [e2]at h3
 ·apply Int.dvd_gcd
  ·exact Int.gcd_dvd_left ..
  ·exact Int.dvd_sub (Int.gcd_dvd_right ..) (Int.dvd_mul_of_dvd_left (Int.gcd_dvd_left ..))
theorem JIe(a b:Int)(h:b≠0):(a.fmod b).natAbs<b.natAbs:=by
 by_cases hb:0<b
 ·have h1:=Int.fmod_nonneg_of_pos a hb;have h2:=Int.fmod_lt_of_pos a hb;omega
 ·have hb':b<0:=by omega
  have h1:=Int.mul_fdiv_add_fmod a b;rw[Int.fmod_eq_emod];have h2:=Int.emod_nonneg a h;have h3:=Int.emod_lt a h
  split
  ·rename_i q;rcases q with q|q
   ·omega
   ·have:=Int.emod_eq_zero_of_dvd q;omega
  ·rename_i q;have h4:a % b≠0:=λz=>q (.inr (Int.dvd_of_emod_eq_zero z));omega
end Fr
end
section
namespace VI.VP
open PySem
theorem JAB{x:Bool}{tab:Nat->Option Fd}{glo:Nat->R D}{sub:Nat->Nat->Bool}{n f:Nat}{xs:List D}{fd:Fd}(h:tab f=some fd):run x tab glo sub (n+1) f xs=JFJ x ⟨run x tab glo sub n,glo,sub⟩ fd xs:=by
 rw[run,h]
@[simp] theorem look_zero (s:Sl) (δ:Env):look (s::δ) 0=s.get:=rfl
@[simp] theorem look_succ (s:Sl) (δ:Env) (i:Nat):look (s::δ) (i+1)=look δ i:=rfl
@[simp] theorem get_val (d:D):(Sl.val d).get=.ok d:=rfl
@[simp] theorem get_own (d:List D):(Sl.own (.list d)).get=.ok (.list d):=rfl
@[simp] theorem bind_ok {α β:Type}(a:α) (f:α->R β):(R.ok a).bind f=f a:=rfl
@[simp] theorem bind_exc {α β:Type}(c:Nat) (f:α->R β):(R.exc c).bind f=.exc c:=rfl
@[simp] theorem stepR_ok {α:Type}(a:α) (f:α->Fl):stepR (.ok a) f=f a:=rfl
@[simp] theorem stepR_exc {α:Type}(c:Nat) (f:α->Fl):stepR (.exc c) f=.ex c:=rfl
theorem JCb(e:E)(i:Nat)(d:D)(r:Env):JAP e i (.val d::r)=JAP e (i+1) r:=by simp[JAP,Sl.isOwn]
theorem JDF(e:E)(i:Nat)(r:Env):JAP e i (.no::r)=JAP e (i+1) r:=by simp[JAP,Sl.isOwn]
theorem JBQ(e:E)(i:Nat)(d:D)(r:Env):JAP e i (.own d::r)=(e.uses i || JAP e (i+1) r):=by simp[JAP,Sl.isOwn]
theorem JCa(e:E)(i:Nat):JAP e i []=false:=rfl
theorem JAa(e:E)(i:Nat)(d:D)(r:Env):JAk e i (.val d::r)=.val d::JAk e (i+1) r:=by simp[JAk,Sl.frz]
theorem JAj(e:E)(i:Nat)(r:Env):JAk e i (.no::r)=.no::JAk e (i+1) r:=by simp[JAk,Sl.frz]
theorem JC0(e:E)(i:Nat)(d:List D)(r:Env):JAk e i (.own (.list d)::r)=(if e.uses i=true then .val (.list d) else .own (.list d))::JAk e (i+1) r:=by
 simp only[JAk,Sl.frz]
theorem JAb(e:E)(i:Nat):JAk e i []=[]:=rfl
theorem JFt(e:E)(d:D)(δ:Env):after e d δ=if (JAP e 0 δ&&!JAS d)=true then JAk e 0 δ else δ:=rfl
noncomputable def JJG(x:Bool):Fl->R D
 |.nx _=>.ok .none
 |.rt d=>.ok d
 |.ex c=>if x=true then .exc c else .bad
 |_=>.bad
theorem JAC{x:Bool}{C:Cn}{f:Fd}{xs:List D}(h:xs.length=f.par):JFJ x C f xs=JJG x (exec C f.body (xs.map Sl.val++List.replicate (f.slots - f.par) Sl.no)):=by
 unfold JFJ;rw[if_pos h];cases exec C f.body (xs.map Sl.val++List.replicate (f.slots - f.par) Sl.no)<;>rfl
section
variable{c:Env->R Bool}{b:Env->Fl}
theorem JBi:∀(n:Nat) (δ:Env),JAi c b n δ≠.bad->JAi c b (n+1) δ=JAi c b n δ
 |0,δ,h=>absurd rfl h
 |n+1,δ,h=>by
  unfold JAi at h ⊢;cases hc:c δ with
  |ok k =>
   cases k with
   |true =>
    rw[hc]at h;simp only at h ⊢;cases hb:b δ with
    |nx δ'=>rw[hb]at h;exact JBi n δ' h
    |ct δ'=>rw[hb]at h;exact JBi n δ' h
    |bk δ'=>rfl
    |rt d=>rfl
    |ex k=>rfl
    |bad=>rfl
   |false=>rfl
  |exc k=>rfl
  |bad=>rfl
theorem JEE{n m:Nat}(h:JAi c b n δ≠.bad)(hm:n<=m):JAi c b m δ=JAi c b n δ:=by
 induction hm with
 |refl=>rfl
 |step _ ih=>rw[JBi _ _ (by rw[ih];exact h),ih]
theorem JCj{n:Nat}(h:JAi c b n δ≠.bad):JBW c b δ=JAi c b n δ:=by
 unfold JBW;have hx:∃n,JAi c b n δ≠.bad:=⟨n,h⟩;rw[dif_pos hx];have h2:=hx.choose_spec;rcases Nat.le_total n hx.choose with l|l
 ·exact JEE h l
 ·exact(JEE h2 l).symm
theorem JCw(hc:c δ=.ok false):JBW c b δ=.nx δ:=by
 have:JAi c b 1 δ=.nx δ:=by unfold JAi;rw[hc]
 rw[JCj (n:=1) (by rw[this];intro h;cases h),this]
theorem JCx(hc:c δ=.ok true)(hb:b δ=.nx δ'):JBW c b δ=JBW c b δ':=by
 have hs:∀n,JAi c b (n+1) δ=JAi c b n δ':=λn=>by
  conv=>lhs;unfold JAi
  rw[hc];simp only;rw[hb]
 by_cases h:∃n,JAi c b n δ'≠.bad
 ·obtain⟨n,h⟩:=h;rw[JCj h,JCj (n:=n+1) (by rw[hs];exact h),hs]
 ·have h1:JBW c b δ'=.bad:=by unfold JBW;rw[dif_neg h]
  have h2:¬ ∃n,JAi c b n δ≠.bad:=by
   rintro⟨n,q⟩;cases n with
   |zero=>exact q rfl
   |succ n=>exact h ⟨n,by rw[<-hs];exact q⟩
  rw[h1];unfold JBW;rw[dif_neg h2]
end
theorem JBa{i:Int}{k:Nat}(h:i.natAbs<2 ^ k):Builtin.Int.intBits i<=k:=by
 unfold Builtin.Int.intBits
 split
 ·omega
 ·rename_i hz;have hn:i.natAbs≠0:=by simpa using hz
  have:=(Nat.log2_lt hn).mpr h;omega
theorem JIF{i j:Int}(h:j.natAbs<2 ^ 9000):Builtin.divisionGoesByPylong i j=false:=by
 unfold Builtin.divisionGoesByPylong;simp only[Bool.and_eq_false_iff,decide_eq_false_iff_not];left
 split
 ·omega
 ·rename_i hz;have hn:j.natAbs≠0:=by simpa using hz
  have:=(Nat.log2_lt hn).mpr h;omega
end VI.VP
end
section
namespace VI.VP
open PySem Fr
def L(i:Int):Prop:=i.natAbs<2 ^ 4000
theorem L.of{i:Int}{k:Nat}(h:i.natAbs<2 ^ k)(hk:k<=4000):L i:=q_m h (Nat.pow_le_pow_right (by omega) hk)
theorem JQE{i j:Int}(hi:L i)(hj:L j):IntMulOk i j:=by
 have h1:=JBa hi;have h2:=JBa hj;unfold IntMulOk;intro h;simp only[q_i,q_D]at h;have h3:=h.2;unfold Builtin.Int.intTooBig at h3;have:(bitsLine:Int) ≥ 8000:=by decide
 simp only[q_D]at h3;omega
theorem pyl{i j:Int}(hj:L j):Builtin.divisionGoesByPylong i j=false:=JIF (q_m hj (Nat.pow_le_pow_right (by omega) (by omega)))
theorem JAp{i j:Int}(hi:L i)(hj:L j):binD .Mult (.int i) (.int j)=.ok (.int (i*j)):=by
 simp only[binD,if_pos (JQE hi hj)]
theorem JFw{i j:Int}(hj:j.natAbs<2 ^ 64):binD .Mult (.int i) (.int j)=.ok (.int (i*j)):=by
 simp only[binD,if_pos (IntMulOk.of_right (a:=i) (JBa hj))]
theorem JCp{i j:Int}(hj:i.natAbs<2 ^ 64):binD .Mult (.int i) (.int j)=.ok (.int (i*j)):=by
 simp only[binD,if_pos (IntMulOk.of_left (b:=j) (JBa hj))]
theorem JO4{i j:Int}:binD .Add (.int i) (.int j)=.ok (.int (i+j)):=rfl
theorem JNw{i j:Int}:binD .Sub (.int i) (.int j)=.ok (.int (i - j)):=rfl
theorem JIK{i j:Int}(h:j≠0)(hj:L j):binD .FloorDiv (.int i) (.int j)=.ok (.int (i.fdiv j)):=by
 simp only[binD,if_pos (And.intro h (pyl (i:=i) hj))]
theorem JFG{i j:Int}(h:j≠0):binD .Mod (.int i) (.int j)=.ok (.int (i.fmod j)):=by
 simp only[binD,if_pos h]
noncomputable def F(q:Rat):D:=.tuple [.int q.num,.int q.den]
theorem JG2(p q:Rat):PyData.eqv (F p) (F q)=decide (p=q):=by
 simp only[F,PyData.eqv,PyData.eqvAll,Bool.and_true]
 by_cases h:p=q
 ·subst h;simp
 ·rw[q_o h];simp only[Bool.and_eq_false_iff,beq_eq_false_iff_ne,ne_eq]
  by_cases hn:p.num=q.num
  ·right;intro hd;exact h (Rat.ext hn (by omega))
  ·left;exact hn
theorem JFY(q:Rat):shaped (F q)=true:=by
 simp only[shaped,F,PyData.canLay0,PyData.canLayAll0,PyData.depth,PyData.depthAll,Bool.and_true,Bool.true_and];decide
theorem JLJ(q:Rat):idxD (F q) (.int 0)=.ok (.int q.num):=rfl
theorem JK3(q:Rat):idxD (F q) (.int 1)=.ok (.int q.den):=rfl
theorem F_ne(p q:Rat):cmpD .NotEq (F p) (F q)=.ok (.bool (!decide (p=q))):=by
 simp only[cmpD,JFY,Bool.and_self,if_true,JG2]
theorem F_eq(p q:Rat):cmpD .Eq (F p) (F q)=.ok (.bool (decide (p=q))):=by
 simp only[cmpD,JFY,Bool.and_self,if_true,JG2]
theorem i_ne(i j:Int):cmpD .NotEq (.int i) (.int j)=.ok (.bool (!decide (i=j))):=by
 have:PyData.eqv (.int i) (.int j)=decide (i=j):=by simp only[PyData.eqv];rfl
 simp only[cmpD,shaped,PyData.canLay0,PyData.depth,this];rfl
theorem i_eq(i j:Int):cmpD .Eq (.int i) (.int j)=.ok (.bool (decide (i=j))):=by
 have:PyData.eqv (.int i) (.int j)=decide (i=j):=by simp only[PyData.eqv];rfl
 simp only[cmpD,shaped,PyData.canLay0,PyData.depth,this];rfl
theorem i_lt(i j:Int):cmpD .Lt (.int i) (.int j)=.ok (.bool (decide (i<j))):=rfl
theorem i_gt(i j:Int):cmpD .Gt (.int i) (.int j)=.ok (.bool (decide (j<i))):=rfl
theorem i_le(i j:Int):cmpD .LtE (.int i) (.int j)=.ok (.bool (decide (i<=j))):=rfl
theorem i_ge(i j:Int):cmpD .GtE (.int i) (.int j)=.ok (.bool (decide (j<=i))):=rfl
theorem JIC(u d:Int)(h:d≠0):(Rat.divInt u d).num.natAbs<=u.natAbs:=by
 rw[<-JCW u d h];have hg:((u.gcd d:Nat):Int) ∣ u:=Int.gcd_dvd_left ..;have key:∀g:Int,g ∣ u->(u.fdiv g).natAbs<=u.natAbs:=λg hg=>by
  rw[JBR hg];obtain⟨k,rfl⟩:=hg
  by_cases hz:g=0
  ·subst hz;simp
  ·rw[Int.mul_ediv_cancel_left _ hz,Int.natAbs_mul];have:0<g.natAbs:=by omega
   exact Nat.le_mul_of_pos_left _ this
 split
 ·exact key _ (Int.neg_dvd.mpr hg)
 ·exact key _ hg
theorem JGM(u d:Int)(h:d≠0):(Rat.divInt u d).den<=d.natAbs:=by
 rw[Rat.den_divInt,if_neg h];exact Nat.div_le_self _ _
def Sz(k:Nat)(q:Rat):Prop:=q.num.natAbs<2 ^ k/\q.den<2 ^ k
theorem Sz.mono{i k:Nat}{q:Rat}(h:Sz i q)(hk:i<=k):Sz k q:=⟨q_m h.1 (Nat.pow_le_pow_right (by omega) hk),q_m h.2 (Nat.pow_le_pow_right (by omega) hk)⟩
theorem Sz.of{u d:Int}{k:Nat}(h:d≠0)(hu:u.natAbs<2 ^ k)(hd:d.natAbs<2 ^ k):Sz k (Rat.divInt u d):=⟨Nat.lt_of_le_of_lt (JIC u d h) hu,Nat.lt_of_le_of_lt (JGM u d h) hd⟩
theorem Sz.n{k:Nat}{q:Rat}(h:Sz k q):q.num.natAbs<2 ^ k:=h.1
theorem Sz.d{k:Nat}{q:Rat}(h:Sz k q):(q.den:Int).natAbs<2 ^ k:=by simpa using h.2
theorem JAE{a b:Int}{i j:Nat}(h1:a.natAbs<2 ^ i)(h2:b.natAbs<2 ^ j):(a*b).natAbs<2 ^ (i+j):=by
 rw[Int.natAbs_mul,Nat.pow_add];exact Nat.mul_lt_mul'' h1 h2
theorem JOL{a b:Int}{i:Nat}(h1:a.natAbs<2 ^ i)(h2:b.natAbs<2 ^ i):(a+b).natAbs<2 ^ (i+1):=by
 have:=Int.natAbs_add_le a b;rw[Nat.pow_succ];omega
theorem JPu{a b:Int}{i:Nat}(h1:a.natAbs<2 ^ i)(h2:b.natAbs<2 ^ i):(a - b).natAbs<2 ^ (i+1):=by
 have:=Int.natAbs_sub_le a b;rw[Nat.pow_succ];omega
theorem JDD{a:Int}{i k:Nat}(h:a.natAbs<2 ^ i)(hk:i<=k):a.natAbs<2 ^ k:=q_m h (Nat.pow_le_pow_right (by omega) hk)
section
variable{i j k:Nat}{p q:Rat}
theorem Sz.add(hp:Sz i p)(hq:Sz j q)(hk:i+j+1<=k):Sz k (p+q):=by
 rw[<-JHy];have h1:=JAE hp.n hq.d;have h2:=JAE hq.n hp.d;rw[Nat.add_comm j i]at h2;refine Sz.of (Int.mul_ne_zero (JAT p) (JAT q)) (JDD (JOL h1 h2) hk) (JDD (JAE hp.d hq.d) (by omega))
theorem Sz.sub(hp:Sz i p)(hq:Sz j q)(hk:i+j+1<=k):Sz k (p - q):=by
 rw[<-JHq];have h1:=JAE hp.n hq.d;have h2:=JAE hq.n hp.d;rw[Nat.add_comm j i]at h2;refine Sz.of (Int.mul_ne_zero (JAT p) (JAT q)) (JDD (JPu h1 h2) hk) (JDD (JAE hp.d hq.d) (by omega))
theorem Sz.mul(hp:Sz i p)(hq:Sz j q)(hk:i+j<=k):Sz k (p*q):=by
 rw[<-JGA];exact Sz.of (Int.mul_ne_zero (JAT p) (JAT q)) (JDD (JAE hp.n hq.n) hk) (JDD (JAE hp.d hq.d) hk)
theorem Sz.div(hp:Sz i p)(hq:Sz j q)(h0:q≠0)(hk:i+j<=k):Sz k (p / q):=by
 rw[<-JHD];have:q.num≠0:=λz=>h0 (Rat.num_eq_zero.mp z);exact Sz.of (Int.mul_ne_zero (JAT p) this) (JDD (JAE hp.n hq.d) hk) (JDD (JAE hp.d hq.n) hk)
end
abbrev Q(q:Rat):Prop:=Sz 1500 q
theorem Sz.Ln{k:Nat}{q:Rat}(h:Sz k q)(hk:k<=4000):L q.num:=L.of h.n hk
theorem Sz.Ld{k:Nat}{q:Rat}(h:Sz k q)(hk:k<=4000):L (q.den:Int):=L.of h.d hk
end VI.VP
end
section
namespace VI.VP
open PySem
section
variable{C:Cn}{δ:Env}{a b c e es o i r:E}{x y z d:D}{xs:List D}
noncomputable def bin1(op:Operator):R D->R D->R D
 |.ok x,.ok y=>binD op x y
 |.ok _,r=>r
 |r,_=>r
noncomputable def neg1:R D->R D
 |.ok (.int i)=>.ok (.int (-i))
 |.exc c=>.exc c
 |_=>.bad
noncomputable def not1:R Bool->R D
 |.ok b=>.ok (.bool (!b))
 |.exc c=>.exc c
 |.bad=>.bad
noncomputable def tr1:R D->R Bool
 |.ok d=>truth d
 |.exc c=>.exc c
 |.bad=>.bad
noncomputable def and1(C:Cn)(b:E)(δ:Env):R D->R D
 |.ok (.bool true)=>ev C b δ
 |.ok (.bool false)=>.ok (.bool false)
 |.exc c=>.exc c
 |_=>.bad
noncomputable def or1(C:Cn)(b:E)(δ:Env):R D->R D
 |.ok (.bool true)=>.ok (.bool true)
 |.ok (.bool false)=>ev C b δ
 |.exc c=>.exc c
 |_=>.bad
noncomputable def cmp1(op:CmpOp):R D->R D->R D
 |.ok x,.ok y=>cmpD op x y
 |.ok _,r=>r
 |r,_=>r
noncomputable def isN1(n:Bool):R D->R D
 |.ok x=>.ok (.bool (if n=true then !isNone x else isNone x))
 |r=>r
noncomputable def isB1(b:Bool):R D->R D
 |.ok (.bool c)=>.ok (.bool (c==b))
 |.exc c=>.exc c
 |_=>.bad
noncomputable def ife1(C:Cn)(a b:E)(δ:Env):R Bool->R D
 |.ok true=>ev C a δ
 |.ok false=>ev C b δ
 |.exc c=>.exc c
 |.bad=>.bad
noncomputable def tup1:R (List D)->R D
 |.ok xs=>.ok (.tuple xs)
 |.exc c=>.exc c
 |.bad=>.bad
noncomputable def lst1:R (List D)->R D
 |.ok xs=>.ok (.list xs)
 |.exc c=>.exc c
 |.bad=>.bad
noncomputable def idx1:R D->R D->R D
 |.ok x,.ok y=>idxD x y
 |.ok _,r=>r
 |r,_=>r
noncomputable def JHm(C:Cn)(f:Nat):R (List D)->R D
 |.ok xs=>C.fn f xs
 |.exc c=>.exc c
 |.bad=>.bad
noncomputable def blt1(b:Blt):R (List D)->R D
 |.ok xs=>bltD b xs
 |.exc c=>.exc c
 |.bad=>.bad
noncomputable def isi1(C:Cn)(t:Ty):R D->R D
 |.ok x=>isiD C.sub x t
 |r=>r
noncomputable def JLQ:R D->R D->R D
 |.ok (.list xs),.ok y=>JHA (.list xs) y
 |.ok (.list _),r=>r
 |.exc c,_=>.exc c
 |_,_=>.bad
noncomputable def JLO:R D->R D->R D
 |.ok (.list xs),.ok y=>JG7 (.list xs) y
 |.ok (.list _),r=>r
 |.exc c,_=>.exc c
 |_,_=>.bad
noncomputable def get1:R D->R D->R D->R D
 |.ok x,r1,r2=>if JOH x=true then (r1.bind λy=>r2.bind λz=>JNB x y z) else .bad
 |.exc c,_,_=>.exc c
 |_,_,_=>.bad
noncomputable def JJy:R D->R (List D)->R (List D)
 |.ok x,.ok xs=>.ok (x::xs)
 |.ok _,r=>r
 |.exc c,_=>.exc c
 |.bad,_=>.bad
noncomputable def JId(C:Cn)(k:Nat)(elt cond:E)(δ:Env)(x:D):R (Option D):=(push k x δ).bind λδ1=>(evT C cond δ1).bind λt=>if t=true then (ev C elt δ1).bind λy=>.ok (some y) else .ok none
noncomputable def JFF(C:Cn)(k:Nat)(elt cond:E)(δ:Env):R (List D)->R D
 |.ok xs=>if xs.length<=16777216 then (JBI (JId C k elt cond δ) xs).bind λys=>.ok (.list ys) else .bad
 |.exc c=>.exc c
 |.bad=>.bad
noncomputable def its1:R D->R (List D)
 |.ok d=>JAs d
 |.exc c=>.exc c
 |.bad=>.bad
noncomputable def rng1:R (List D)->R (List D)
 |.ok d=>rngD d
 |r=>r
theorem JCi(r:R D):r.bind truth=tr1 r:=by cases r<;>rfl
theorem JBw(r:R D):r.bind JAs=its1 r:=by cases r<;>rfl
theorem v_var{j:Nat}:ev C (.var j) δ=look δ j:=by simp only[ev]
theorem JN2{j:Int}:ev C (.cint j) δ=.ok (.int j):=by simp only[ev]
theorem v_bl{j:Bool}:ev C (.cbl j) δ=.ok (.bool j):=by simp only[ev]
theorem JPN:ev C (.cstr j) δ=.ok (.str j):=by simp only[ev]
theorem JOt{j:Nat}:ev C (.glo j) δ=C.glo j:=by simp only[ev]
theorem JOV:ev C (.bin op a b) δ=bin1 op (ev C a δ) (ev C b δ):=by
 simp only[ev];cases ev C a δ<;>cases ev C b δ<;>rfl
theorem JOo:ev C (.neg a) δ=neg1 (ev C a δ):=by
 simp only[ev];cases h:ev C a δ with
 |ok d=>cases d<;>rfl
 |exc c=>rfl
 |bad=>rfl
theorem v_not:ev C (.not a) δ=not1 (tr1 (ev C a δ)):=by
 simp only[ev];cases h:ev C a δ with
 |ok d=>simp only[R.bind,tr1];cases truth d<;>rfl
 |exc c=>rfl
 |bad=>rfl
theorem v_and:ev C (.and a b) δ=and1 C b δ (ev C a δ):=by
 simp only[ev];cases h:ev C a δ with
 |ok d =>
  cases d with
  |bool k=>cases k<;>rfl
  |_=>rfl
 |exc c=>rfl
 |bad=>rfl
theorem v_or:ev C (.or a b) δ=or1 C b δ (ev C a δ):=by
 simp only[ev];cases h:ev C a δ with
 |ok d =>
  cases d with
  |bool k=>cases k<;>rfl
  |_=>rfl
 |exc c=>rfl
 |bad=>rfl
theorem JQP:ev C (.cmp op a b) δ=cmp1 op (ev C a δ) (ev C b δ):=by
 simp only[ev];cases ev C a δ<;>cases ev C b δ<;>rfl
theorem JO2{k:Bool}:ev C (.isN a k) δ=isN1 k (ev C a δ):=by
 simp only[ev];cases ev C a δ<;>rfl
theorem JN6{k:Bool}:ev C (.isB a k) δ=isB1 k (ev C a δ):=by
 simp only[ev];cases h:ev C a δ with
 |ok d=>cases d<;>rfl
 |exc c=>rfl
 |bad=>rfl
theorem JQo:ev C (.ife c a b) δ=ife1 C a b δ (evT C c δ):=by
 simp only[ev];cases h:evT C c δ with
 |ok k=>cases k<;>rfl
 |exc c=>rfl
 |bad=>rfl
theorem JOx:ev C (.tup es) δ=tup1 (evA C es δ):=by simp only[ev];cases evA C es δ<;>rfl
theorem JN4:ev C (.lst es) δ=lst1 (evA C es δ):=by simp only[ev];cases evA C es δ<;>rfl
theorem JQg:ev C (.idx a i) δ=idx1 (ev C a δ) (ev C i δ):=by
 simp only[ev];cases ev C a δ<;>cases ev C i δ<;>rfl
theorem JLf{f:Nat}:ev C (.call f es) δ=JHm C f (evA C es δ):=by simp only[ev];cases evA C es δ<;>rfl
theorem JP2:ev C (.blt f es) δ=blt1 f (evA C es δ):=by simp only[ev];cases evA C es δ<;>rfl
theorem JQk:ev C (.isi a t) δ=isi1 C t (ev C a δ):=by simp only[ev];cases ev C a δ<;>rfl
theorem v_count:ev C (.mcount o a) δ=JLQ (ev C o δ) (ev C a δ):=by
 simp only[ev];cases ev C o δ with
 |ok d=>cases d<;>cases ev C a δ<;>rfl
 |exc c=>rfl
 |bad=>rfl
theorem JIw:ev C (.mindex o a) δ=JLO (ev C o δ) (ev C a δ):=by
 simp only[ev];cases ev C o δ with
 |ok d=>cases d<;>cases ev C a δ<;>rfl
 |exc c=>rfl
 |bad=>rfl
theorem v_get:ev C (.mget o a b) δ=get1 (ev C o δ) (ev C a δ) (ev C b δ):=by
 simp only[ev];cases ev C o δ with
 |ok d=>rfl
 |exc c=>rfl
 |bad=>rfl
theorem JKQ{k:Nat}:ev C (.cmpr k e i c) δ=JFF C k e c δ (evI C i δ):=by
 simp only[ev];cases evI C i δ<;>rfl
noncomputable def dct1(ks:List Str):R (List D)->R D
 |.ok xs=>.ok (.dict ((ks.map PyData.str).zip xs))
 |.exc c=>.exc c
 |.bad=>.bad
noncomputable def rep1(k:Nat):R (List D)->R D
 |.ok xs=>.ok (.list (List.replicate k xs).flatten)
 |.exc c=>.exc c
 |.bad=>.bad
theorem JNc:ev C (.dct ks es) δ=dct1 ks (evA C es δ):=by simp only[ev];cases evA C es δ<;>rfl
theorem JPo{k:Nat}:ev C (.rep k es) δ=rep1 k (evA C es δ):=by simp only[ev];cases evA C es δ<;>rfl
noncomputable def fn11(o:O1):R D->R D
 |.ok x=>op1D o x
 |r=>r
noncomputable def JMg(b:Bool):R D->R D
 |.ok (.bool c)=>.ok (.bool (!(c==b)))
 |.exc c=>.exc c
 |_=>.bad
theorem JNz:ev C (.fn1 o1 a) δ=fn11 o1 (ev C a δ):=by simp only[ev];cases ev C a δ<;>rfl
theorem JKb{k:Bool}:ev C (.isnB a k) δ=JMg k (ev C a δ):=by
 simp only[ev];cases h:ev C a δ with
 |ok d=>cases d<;>rfl
 |exc c=>rfl
 |bad=>rfl
theorem JFs{k:Bool}:evT C (.isnB a k) δ=tr1 (JMg k (ev C a δ)):=by
 simp only[evT];cases h:ev C a δ with
 |ok d=>cases d<;>rfl
 |exc c=>rfl
 |bad=>rfl
noncomputable def xop1(k:XO):R (List D)->R D
 |.ok xs=>xD k xs
 |.exc c=>.exc c
 |.bad=>.bad
theorem JPV:ev C (.xop k es) δ=xop1 k (evA C es δ):=by simp only[ev];cases evA C es δ<;>rfl
theorem JOA:evI C (.xop k es) δ=its1 (xop1 k (evA C es δ)):=by simp only[evI,JBw];cases evA C es δ<;>rfl
theorem JN1:evI C (.fn1 o1 a) δ=its1 (fn11 o1 (ev C a δ)):=by simp only[evI,JBw];cases ev C a δ<;>rfl
theorem JP9:evI C (.bin op a b) δ=its1 (bin1 op (ev C a δ) (ev C b δ)):=by
 simp only[evI,JBw];cases ev C a δ<;>cases ev C b δ<;>rfl
theorem JK2:evA C .nil δ=.ok []:=by simp only[evA]
theorem JG1:evA C (.cons a r) δ=JJy (ev C a δ) (evA C r δ):=by
 simp only[evA];cases ev C a δ<;>cases evA C r δ<;>rfl
theorem JJw:evT C (.not a) δ=tr1 (not1 (evT C a δ)):=by
 simp only[evT];cases evT C a δ<;>rfl
noncomputable def andT(C:Cn)(b:E)(δ:Env):R Bool->R Bool
 |.ok true=>evT C b δ
 |r=>r
noncomputable def orT(C:Cn)(b:E)(δ:Env):R Bool->R Bool
 |.ok false=>evT C b δ
 |r=>r
theorem JNp:evT C (.and a b) δ=andT C b δ (evT C a δ):=by
 simp only[evT];cases h:evT C a δ with
 |ok k=>cases k<;>rfl
 |exc c=>rfl
 |bad=>rfl
theorem t_or:evT C (.or a b) δ=orT C b δ (evT C a δ):=by
 simp only[evT];cases h:evT C a δ with
 |ok k=>cases k<;>rfl
 |exc c=>rfl
 |bad=>rfl
theorem JOc{j:Nat}:evT C (.var j) δ=tr1 (look δ j):=by simp only[evT];cases look δ j<;>rfl
theorem JOl:evT C (.cmp op a b) δ=tr1 (cmp1 op (ev C a δ) (ev C b δ)):=by
 simp only[evT,JCi];cases ev C a δ<;>cases ev C b δ<;>rfl
theorem JIy{k:Bool}:evT C (.isN a k) δ=tr1 (isN1 k (ev C a δ)):=by simp only[evT];cases ev C a δ<;>rfl
theorem JJo{k:Bool}:evT C (.isB a k) δ=tr1 (isB1 k (ev C a δ)):=by
 simp only[evT];cases h:ev C a δ with
 |ok d=>cases d<;>rfl
 |exc c=>rfl
 |bad=>rfl
theorem JQc:evT C (.idx a i) δ=tr1 (idx1 (ev C a δ) (ev C i δ)):=by
 simp only[evT,JCi];cases ev C a δ<;>cases ev C i δ<;>rfl
theorem JKx{f:Nat}:evT C (.call f es) δ=tr1 (JHm C f (evA C es δ)):=by simp only[evT,JCi];cases evA C es δ<;>rfl
theorem JQF:evT C (.blt f es) δ=tr1 (blt1 f (evA C es δ)):=by simp only[evT,JCi];cases evA C es δ<;>rfl
theorem JQe:evT C (.isi a t) δ=tr1 (isi1 C t (ev C a δ)):=by simp only[evT,JCi];cases ev C a δ<;>rfl
theorem JOh:evI C (.rng es) δ=rng1 (evA C es δ):=by simp only[evI];cases evA C es δ<;>rfl
theorem JPw{j:Nat}:evI C (.var j) δ=its1 (look δ j):=by simp only[evI];cases look δ j<;>rfl
theorem JOY{j:Nat}:evI C (.glo j) δ=its1 (C.glo j):=by simp only[evI];cases C.glo j<;>rfl
theorem l_idx:evI C (.idx a i) δ=its1 (idx1 (ev C a δ) (ev C i δ)):=by
 simp only[evI,JBw];cases ev C a δ<;>cases ev C i δ<;>rfl
theorem JLk{f:Nat}:evI C (.call f es) δ=its1 (JHm C f (evA C es δ)):=by simp only[evI,JBw];cases evA C es δ<;>rfl
theorem JQM:evI C (.tup es) δ=evA C es δ:=by simp only[evI]
noncomputable def seq1(C:Cn)(r:S):Fl->Fl
 |.nx δ=>exec C r δ
 |f=>f
noncomputable def asg1(i:Nat)(e:E)(δ:Env):R D->Fl
 |.ok x=>if e.fresh=true then .nx ((after e x δ).set i (.own x)) else .nx ((after e x δ).set i (.val x))
 |.exc c=>.ex c
 |.bad=>.bad
noncomputable def unp2(is:List Nat)(δ:Env):R (List D)->Fl
 |.ok xs=>.nx (JAl is xs δ)
 |.exc c=>.ex c
 |.bad=>.bad
noncomputable def unp1(is:List Nat)(e:E)(δ:Env):R D->Fl
 |.ok d=>unp2 is (after e d δ) (JAu is.length d)
 |.exc c=>.ex c
 |.bad=>.bad
noncomputable def ret1:R D->Fl
 |.ok d=>.rt d
 |.exc c=>.ex c
 |.bad=>.bad
noncomputable def ifs1(C:Cn)(a b:S)(δ:Env):R Bool->Fl
 |.ok true=>exec C a δ
 |.ok false=>exec C b δ
 |.exc c=>.ex c
 |.bad=>.bad
noncomputable def app1(i:Nat)(e:E)(δ:Env)(r:R D):Option Sl->Fl
 |some (.own (.list ds))=>(match r with
  |.ok x=>JBA i ds e x δ
  |.exc c=>.ex c
  |.bad=>.bad)
 |_=>.bad
noncomputable def ext1(i:Nat)(e:E)(δ:Env)(r:R D):Option Sl->Fl
 |some (.own (.list ds))=>(match r with
  |.ok x=>JE6 i ds e x δ
  |.exc c=>.ex c
  |.bad=>.bad)
 |_=>.bad
noncomputable def JLz(e:E)(δ:Env):R D->Fl
 |.ok x=>.nx (after e x δ)
 |.exc c=>.ex c
 |.bad=>.bad
noncomputable def for2(C:Cn)(i:Nat)(b:S):List D->Env->Fl:=forL (put1 i) (exec C b)
noncomputable def for1(C:Cn)(i:Nat)(e:E)(b:S)(δ:Env):R (List D)->Fl
 |.ok xs=>for2 C i b xs (JAk e 0 δ)
 |.exc c=>.ex c
 |.bad=>.bad
noncomputable def whl1(C:Cn)(c:E)(b:S)(δ:Env):Fl:=JBW (evT C c) (exec C b) δ
noncomputable def try1(C:Cn)(c i:Nat)(h:S)(δ:Env):Fl->Fl
 |.ex k=>if C.sub k c=true then (match exec C h ((δ.map λ_=>Sl.no).set i (.val (excD k))) with
  |.nx δ2=>.nx (δ2.set i .no)
  |.rt d=>.rt d
  |_=>.bad) else .bad
 |f=>f
variable{s t h:S}{j k:Nat}
theorem JQO:exec C .nil δ=.nx δ:=by simp only[exec]
theorem JKX:exec C (.cons s t) δ=seq1 C t (exec C s δ):=by simp only[exec];cases exec C s δ<;>rfl
theorem JN5:exec C (.asg j e) δ=asg1 j e δ (ev C e δ):=by simp only[exec];cases ev C e δ<;>rfl
theorem JQQ:exec C (.unp is e) δ=unp1 is e δ (ev C e δ):=by
 simp only[exec];cases ev C e δ with
 |ok d=>simp only[stepR,unp1];cases JAu is.length d<;>rfl
 |exc c=>rfl
 |bad=>rfl
theorem JOb:exec C (.ret e) δ=ret1 (ev C e δ):=by simp only[exec];cases ev C e δ<;>rfl
theorem JOJ:exec C (.ife c s t) δ=ifs1 C s t δ (evT C c δ):=by
 simp only[exec];cases h:evT C c δ with
 |ok k=>cases k<;>rfl
 |exc c=>rfl
 |bad=>rfl
theorem JQb:exec C (.app j e) δ=app1 j e δ (ev C e δ) δ[j]?:=by
 simp only[exec];cases h:δ[j]? with
 |none=>rfl
 |some u =>
  cases u with
  |own d =>
   cases d with
   |list ds=>simp only[app1];cases ev C e δ<;>rfl
   |_=>rfl
  |_=>rfl
theorem JOa:exec C (.ext j e) δ=ext1 j e δ (ev C e δ) δ[j]?:=by
 simp only[exec];cases h:δ[j]? with
 |none=>rfl
 |some u =>
  cases u with
  |own d =>
   cases d with
   |list ds=>simp only[ext1];cases ev C e δ<;>rfl
   |_=>rfl
  |_=>rfl
theorem JLV:exec C (.drop e) δ=JLz e δ (ev C e δ):=by simp only[exec];cases ev C e δ<;>rfl
theorem JKz:exec C (.for1 j e s) δ=for1 C j e s δ (evI C e δ):=by simp only[exec];cases evI C e δ<;>rfl
theorem JNt:exec C (.whl c s) δ=whl1 C c s δ:=by simp only[exec];rfl
theorem JKl:exec C (.tryx s k j h) δ=try1 C k j h δ (exec C s δ):=by simp only[exec];cases exec C s δ<;>rfl
noncomputable def forN(C:Cn)(i:Nat)(b:S)(ds:List D):Fl->Fl
 |.nx δ'=>for2 C i b ds δ'
 |.ct δ'=>for2 C i b ds δ'
 |.bk δ'=>.nx δ'
 |r=>r
theorem for_nil:for2 C j s [] δ=.nx δ:=rfl
theorem JDp:for2 C j s (d::xs) δ=forN C j s xs (exec C s (δ.set j (.val d))):=by
 unfold for2 forL;simp only[put1];cases exec C s (δ.set j (.val d))<;>rfl
noncomputable def pushc:R (Option D)->R (List D)->R (List D)
 |.ok (some y),.ok ys=>.ok (y::ys)
 |.ok none,r=>r
 |_,_=>.bad
noncomputable def mkl:R (List D)->R D
 |.ok ys=>.ok (.list ys)
 |.exc c=>.exc c
 |.bad=>.bad
theorem JDU{k:Nat}(hl:xs.length<=16777216):JFF C k e c δ (.ok xs)=mkl (JBI (JId C k e c δ) xs):=by
 simp only[JFF,if_pos hl];cases JBI (JId C k e c δ) xs<;>rfl
noncomputable def opt1(b:Bool):R D->R (Option D)
 |.ok y=>.ok (some y)
 |.exc c=>.exc c
 |.bad=>.bad
noncomputable def JJe(C:Cn)(e:E)(δ:Env):R Bool->R (Option D)
 |.ok true=>opt1 true (ev C e δ)
 |.ok false=>.ok none
 |.exc c=>.exc c
 |.bad=>.bad
theorem JDY:JId C 0 e c δ x=JJe C e (.val x::δ) (evT C c (.val x::δ)):=by
 unfold JId;simp only[push,R.bind];cases h:evT C c (.val x::δ) with
 |ok k =>
  cases k
  ·rfl
  ·simp only[if_true,JJe];cases ev C e (.val x::δ)<;>rfl
 |exc c=>rfl
 |bad=>rfl
end
theorem JKv{i:Nat}:asg1 i e δ (.ok d)=.nx ((after e d δ).set i (if e.fresh=true then .own d else .val d)):=by
 simp only[asg1]
 split<;>rfl
theorem JEu(s:Sl)(δ:Env):(s::δ)[0]? = some s:=rfl
theorem JEd(s:Sl)(δ:Env)(i:Nat):(s::δ)[i+1]? = δ[i]?:=rfl
theorem JIt(b:Bool):tr1 (.ok (.bool b))=.ok b:=rfl
theorem JO3:bin1 op (.ok x) (.ok y)=binD op x y:=rfl
theorem JOM{i:Int}:neg1 (.ok (.int i))=.ok (.int (-i)):=rfl
theorem JNe{b:Bool}:not1 (.ok b)=.ok (.bool (!b)):=rfl
theorem JKP:and1 C b δ (.ok (.bool true))=ev C b δ:=rfl
theorem JKd:and1 C b δ (.ok (.bool false))=.ok (.bool false):=rfl
theorem JOT:or1 C b δ (.ok (.bool true))=.ok (.bool true):=rfl
theorem JPg:or1 C b δ (.ok (.bool false))=ev C b δ:=rfl
theorem JPa:cmp1 op (.ok x) (.ok y)=cmpD op x y:=rfl
theorem JQV{n:Bool}:isN1 n (.ok x)=.ok (.bool (if n=true then !isNone x else isNone x)):=rfl
theorem JOI{b c:Bool}:isB1 b (.ok (.bool c))=.ok (.bool (c==b)):=rfl
theorem JLG:ife1 C a b δ (.ok true)=ev C a δ:=rfl
theorem JKh:ife1 C a b δ (.ok false)=ev C b δ:=rfl
theorem JPP:tup1 (.ok xs)=.ok (.tuple xs):=rfl
theorem JP3:dct1 ks (.ok xs)=.ok (.dict ((ks.map PyData.str).zip xs)):=rfl
theorem JPZ{k:Nat}:rep1 k (.ok xs)=.ok (.list (List.replicate k xs).flatten):=rfl
theorem JO6:fn11 o (.ok x)=op1D o x:=rfl
theorem JOB:xop1 k (.ok xs)=xD k xs:=rfl
theorem us_xop{j:Nat}:(E.xop k es).uses j=es.uses j:=rfl
theorem JKM{b c:Bool}:JMg b (.ok (.bool c))=.ok (.bool (!(c==b))):=rfl
theorem JOv{lo hi:Option Int}:op1D (.slice lo hi) (.tuple xs)=.ok (.tuple (cutD xs lo hi)):=rfl
theorem JPT{lo hi:Option Int}:op1D (.slice lo hi) (.list xs)=.ok (.list (cutD xs lo hi)):=rfl
theorem k_tt:op1D .toTup (.tuple xs)=.ok (.tuple xs):=rfl
theorem k_tl:op1D .toTup (.list xs)=.ok (.tuple xs):=rfl
theorem k_lt:op1D .toLst (.tuple xs)=.ok (.list xs):=rfl
theorem k_ll:op1D .toLst (.list xs)=.ok (.list xs):=rfl
theorem JGy{c:Nat}:JLz e δ (.exc c)=.ex c:=rfl
theorem JN7:lst1 (.ok xs)=.ok (.list xs):=rfl
theorem JPb:idx1 (.ok x) (.ok y)=idxD x y:=rfl
theorem JKp{f:Nat}:JHm C f (.ok xs)=C.fn f xs:=rfl
theorem JNs:blt1 b (.ok xs)=bltD b xs:=rfl
theorem JPh:isi1 C t (.ok x)=isiD C.sub x t:=rfl
theorem JIo:JLQ (.ok (.list x)) (.ok y)=JHA (.list x) y:=rfl
theorem JHa:JLO (.ok (.list x)) (.ok y)=JG7 (.list x) y:=rfl
theorem JQq:get1 (.ok (.dict ((.str k,v)::x))) (.ok y) (.ok z)=JNB (.dict ((.str k,v)::x)) y z:=rfl
theorem JLA:JJy (.ok x) (.ok xs)=.ok (x::xs):=rfl
theorem JHg:andT C b δ (.ok true)=evT C b δ:=rfl
theorem JHO:andT C b δ (.ok false)=.ok false:=rfl
theorem JLH:orT C b δ (.ok true)=.ok true:=rfl
theorem JLd:orT C b δ (.ok false)=evT C b δ:=rfl
theorem JQY:its1 (.ok d)=JAs d:=rfl
theorem JN9:rng1 (.ok d)=rngD d:=rfl
theorem JPz:seq1 C r (.nx δ)=exec C r δ:=rfl
theorem JLI:seq1 C r (.rt d)=.rt d:=rfl
theorem JKA{c:Nat}:seq1 C r (.ex c)=.ex c:=rfl
theorem JLC:seq1 C r (.bk δ)=.bk δ:=rfl
theorem JKa:seq1 C r (.ct δ)=.ct δ:=rfl
theorem JKf{i:Nat}{c:Nat}:asg1 i e δ (.exc c)=.ex c:=rfl
theorem JQI:unp1 is e δ (.ok d)=unp2 is (after e d δ) (JAu is.length d):=rfl
theorem JJ8:unp2 is δ (.ok xs)=.nx (JAl is xs δ):=rfl
theorem JNd:ret1 (.ok d)=.rt d:=rfl
theorem JKC{c:Nat}:ret1 (.exc c)=.ex c:=rfl
theorem JKm:ifs1 C a b δ (.ok true)=exec C a δ:=rfl
theorem JLY:ifs1 C a b δ (.ok false)=exec C b δ:=rfl
theorem JKW{c:Nat}:ifs1 C a b δ (.exc c)=.ex c:=rfl
theorem JOX{i:Nat}:app1 i e δ (.ok x) (some (.own (.list ds)))=JBA i ds e x δ:=rfl
theorem JQU{i:Nat}:ext1 i e δ (.ok x) (some (.own (.list ds)))=JE6 i ds e x δ:=rfl
theorem JLa:JLz e δ (.ok x)=.nx (after e x δ):=rfl
theorem JN3{i:Nat}:for1 C i e b δ (.ok xs)=for2 C i b xs (JAk e 0 δ):=rfl
theorem JKD{C:Cn}{i:Nat}{b:S}{ds:List D}{δ:Env}:forN C i b ds (.nx δ)=for2 C i b ds δ:=rfl
theorem JKK{i:Nat}:forN C i b ds (.ct δ)=for2 C i b ds δ:=rfl
theorem JLn{i:Nat}:forN C i b ds (.bk δ)=.nx δ:=rfl
theorem JLT{i:Nat}:forN C i b ds (.rt d)=.rt d:=rfl
theorem JKe{i:Nat}{c:Nat}:forN C i b ds (.ex c)=.ex c:=rfl
theorem JLD{x:Bool}:JJG x (.nx δ)=.ok .none:=rfl
theorem JKi{x:Bool}:JJG x (.rt d)=.ok d:=rfl
theorem JKE{c:Nat}:JJG true (.ex c)=.exc c:=rfl
theorem JKF{c i:Nat}:try1 C c i h δ (.nx δ')=.nx δ':=rfl
theorem JLc{c i:Nat}:try1 C c i h δ (.rt d)=.rt d:=rfl
theorem JK1:JJe C e δ (.ok true)=opt1 true (ev C e δ):=rfl
theorem JG3:JJe C e δ (.ok false)=.ok none:=rfl
theorem JNk{b:Bool}:opt1 b (.ok y)=.ok (some y):=rfl
theorem JIn{f c:Nat}:JHm C f (.exc c)=.exc c:=rfl
theorem JHI{c:Nat}:JJy (.exc c) r=.exc c:=rfl
theorem JF7{c:Nat}:JJy (.ok x) (.exc c)=.exc c:=rfl
theorem JPr:bltD .len [.list xs]=.ok (.int xs.length):=rfl
theorem JLl:bltD .len [.tuple xs]=.ok (.int xs.length):=rfl
theorem JOZ{i:Int}:bltD .abs [.int i]=.ok (.int (if i<0 then -i else i)):=rfl
theorem JOQ:bltD .min [.list xs]=minD xs:=rfl
theorem JH4{i j:Nat}:(E.var i).uses j=(i==j):=rfl
theorem JKT{j:Nat}:E.nil.uses j=false:=rfl
theorem JIH{a r:E}{j:Nat}:(E.cons a r).uses j=(a.uses j || r.uses j):=rfl
theorem JPs{j:Nat}:(E.lst a).uses j=a.uses j:=rfl
theorem JN0{j:Nat}:(E.tup a).uses j=a.uses j:=rfl
theorem us_isi{j:Nat}:(E.isi a t).uses j=a.uses j:=rfl
theorem JHo{a:E}{f:Nat}{j:Nat}:(E.call f a).uses j=a.uses j:=rfl
theorem JO9{j:Nat}:(E.blt f a).uses j=a.uses j:=rfl
theorem JK7{j:Nat}:(E.idx a b).uses j=(a.uses j || b.uses j):=rfl
theorem JKZ{a b:E}{o:Operator}{j:Nat}:(E.bin o a b).uses j=(a.uses j || b.uses j):=rfl
theorem JLp{k:Nat}{j:Nat}:(E.cmpr k a b c).uses j=(b.uses j || a.uses (j+(if k=0 then 1 else k)) || c.uses (j+(if k=0 then 1 else k))):=rfl
theorem JK5{i:Int}{j:Nat}:(E.cint i).uses j=false:=rfl
theorem us_bl{i:Bool}{j:Nat}:(E.cbl i).uses j=false:=rfl
theorem us_str{j:Nat}:(E.cstr i).uses j=false:=rfl
end VI.VP
end
local macro_rules | `(tactic| dsimp![$ts,*])=>`(tactic| simp only[VI.VP.v_var,VI.VP.JN2,VI.VP.v_bl,VI.VP.JPN,VI.VP.JOt,VI.VP.JOV,VI.VP.JOo,VI.VP.v_not,VI.VP.v_and,VI.VP.v_or,VI.VP.JQP,VI.VP.JO2,VI.VP.JN6,VI.VP.JQo,VI.VP.JOx,VI.VP.JN4,VI.VP.JQg,VI.VP.JLf,VI.VP.JP2,VI.VP.JQk,
 VI.VP.v_count,VI.VP.JIw,VI.VP.v_get,VI.VP.JKQ,VI.VP.JNc,VI.VP.JPo,VI.VP.JNz,VI.VP.JPV,VI.VP.JOA,VI.VP.JOB,VI.VP.JKb,VI.VP.JFs,VI.VP.JN1,VI.VP.JP9,VI.VP.JO6,VI.VP.JKM,VI.VP.JOv,VI.VP.JPT,VI.VP.k_tt,VI.VP.k_tl,VI.VP.k_lt,VI.VP.k_ll,VI.VP.JK2,VI.VP.JG1,VI.VP.JJw,VI.VP.JNp,VI.VP.t_or,VI.VP.JOc,VI.VP.JOl,VI.VP.JIy,VI.VP.JJo,VI.VP.JQc,VI.VP.JKx,VI.VP.JQF,VI.VP.JQe,VI.VP.JOh,VI.VP.JPw,VI.VP.JOY,VI.VP.l_idx,VI.VP.JLk,VI.VP.JQM,
 VI.VP.JQO,VI.VP.JKX,VI.VP.JN5,VI.VP.JQQ,VI.VP.JOb,VI.VP.JOJ,VI.VP.JQb,VI.VP.JOa,VI.VP.JLV,VI.VP.JKz,VI.VP.JNt,VI.VP.JKl,
 VI.VP.JIt,VI.VP.JKv,VI.VP.JO3,VI.VP.JOM,VI.VP.JNe,VI.VP.JKP,VI.VP.JKd,VI.VP.JOT,VI.VP.JPg,VI.VP.JPa,VI.VP.JQV,VI.VP.JOI,VI.VP.JLG,VI.VP.JKh,VI.VP.JPP,VI.VP.JN7,VI.VP.JPb,VI.VP.JKp,VI.VP.JNs,VI.VP.JPh,VI.VP.JIo,VI.VP.JHa,VI.VP.JQq,VI.VP.JLA,VI.VP.JHg,VI.VP.JHO,VI.VP.JLH,VI.VP.JLd,VI.VP.JQY,VI.VP.JN9,VI.VP.JPz,VI.VP.JLI,VI.VP.JKA,VI.VP.JLC,VI.VP.JKa,VI.VP.JKf,VI.VP.JQI,VI.VP.JJ8,VI.VP.JNd,VI.VP.JKC,VI.VP.JKm,VI.VP.JLY,VI.VP.JKW,VI.VP.JOX,VI.VP.JQU,VI.VP.JLa,VI.VP.JN3,VI.VP.JKD,VI.VP.JKK,VI.VP.JLn,VI.VP.JLT,VI.VP.JKe,VI.VP.JLD,VI.VP.JKi,VI.VP.JKE,VI.VP.JKF,VI.VP.JLc,VI.VP.JK1,VI.VP.JG3,VI.VP.JNk,VI.VP.JIn,VI.VP.JHI,VI.VP.JF7,VI.VP.JPr,VI.VP.JLl,VI.VP.JOZ,VI.VP.JOQ,VI.VP.JP3,VI.VP.JPZ,VI.VP.JGy,
 VI.VP.look_zero,VI.VP.look_succ,VI.VP.get_val,VI.VP.get_own,VI.VP.JEu,VI.VP.JEd,List.map_cons,List.map_nil,List.cons_append,List.nil_append,
 List.replicate_succ,List.replicate_zero,Nat.reduceSub,List.set_cons_zero,List.set_cons_succ,VI.E.fresh,VI.VP.JFt,VI.VP.JCb,VI.VP.JDF,VI.VP.JCa,Bool.false_and,q_v,eq_self,if_true,if_false,VI.VP.i_ne,VI.VP.i_eq,VI.VP.i_lt,VI.VP.i_gt,VI.VP.i_le,VI.VP.i_ge,
 VI.VP.F_ne,VI.VP.F_eq,VI.VP.JLJ,VI.VP.JK3,VI.VP.JO4,VI.VP.JNw,$ts,*])
section
namespace VI.VP
noncomputable def b_0:S:=(.cons (.asg 2 (.blt .abs (.cons (.var 0) .nil))) (.cons (.asg 3 (.blt .abs (.cons (.var 1) .nil))) (.cons (.whl (.cmp .NotEq (.var 3) (.cint 0)) (.cons (.asg 4 (.bin .Mod (.var 2) (.var 3))) (.cons (.asg 2 (.var 3)) (.cons (.asg 3 (.var 4)) .nil)))) (.cons (.ret (.var 2)) .nil))))
noncomputable def d_0:Fd:=⟨2,5,b_0⟩
noncomputable def b_1:S:=(.cons (.ife (.cmp .Eq (.var 1) (.cint 0)) (.cons (.rais 1) .nil) .nil) (.cons (.asg 2 (.call 0 (.cons (.var 0) (.cons (.var 1) .nil)))) (.cons (.ife (.cmp .Lt (.var 1) (.cint 0)) (.cons (.asg 2 (.neg (.var 2))) .nil) .nil) (.cons (.ret (.tup (.cons (.bin .FloorDiv (.var 0) (.var 2)) (.cons (.bin .FloorDiv (.var 1) (.var 2)) .nil)))) .nil))))
noncomputable def d_1:Fd:=⟨2,3,b_1⟩
noncomputable def b_2:S:=(.cons (.ret (.tup (.cons (.var 0) (.cons (.cint 1) .nil)))) .nil)
noncomputable def d_2:Fd:=⟨1,1,b_2⟩
noncomputable def b_3:S:=(.cons (.ret (.call 1 (.cons (.bin .Add (.bin .Mult (.idx (.var 0) (.cint 0)) (.idx (.var 1) (.cint 1))) (.bin .Mult (.idx (.var 1) (.cint 0)) (.idx (.var 0) (.cint 1)))) (.cons (.bin .Mult (.idx (.var 0) (.cint 1)) (.idx (.var 1) (.cint 1))) .nil)))) .nil)
noncomputable def d_3:Fd:=⟨2,2,b_3⟩
noncomputable def b_4:S:=(.cons (.ret (.call 1 (.cons (.bin .Sub (.bin .Mult (.idx (.var 0) (.cint 0)) (.idx (.var 1) (.cint 1))) (.bin .Mult (.idx (.var 1) (.cint 0)) (.idx (.var 0) (.cint 1)))) (.cons (.bin .Mult (.idx (.var 0) (.cint 1)) (.idx (.var 1) (.cint 1))) .nil)))) .nil)
noncomputable def d_4:Fd:=⟨2,2,b_4⟩
noncomputable def b_5:S:=(.cons (.ret (.call 1 (.cons (.bin .Mult (.idx (.var 0) (.cint 0)) (.idx (.var 1) (.cint 0))) (.cons (.bin .Mult (.idx (.var 0) (.cint 1)) (.idx (.var 1) (.cint 1))) .nil)))) .nil)
noncomputable def d_5:Fd:=⟨2,2,b_5⟩
noncomputable def b_6:S:=(.cons (.ret (.cmp .Lt (.bin .Mult (.idx (.var 0) (.cint 0)) (.idx (.var 1) (.cint 1))) (.bin .Mult (.idx (.var 1) (.cint 0)) (.idx (.var 0) (.cint 1))))) .nil)
noncomputable def d_6:Fd:=⟨2,2,b_6⟩
noncomputable def b_7:S:=(.cons (.asg 1 (.idx (.var 0) (.cint 0))) (.cons (.for1 2 (.var 0) (.cons (.ife (.call 6 (.cons (.var 2) (.cons (.var 1) .nil))) (.cons (.asg 1 (.var 2)) .nil) .nil) .nil)) (.cons (.ret (.var 1)) .nil)))
noncomputable def d_7:Fd:=⟨1,3,b_7⟩
noncomputable def b_8:S:=(.cons (.asg 1 (.idx (.var 0) (.cint 0))) (.cons (.for1 2 (.var 0) (.cons (.ife (.call 6 (.cons (.var 1) (.cons (.var 2) .nil))) (.cons (.asg 1 (.var 2)) .nil) .nil) .nil)) (.cons (.ret (.var 1)) .nil)))
noncomputable def d_8:Fd:=⟨1,3,b_8⟩
noncomputable def b_9:S:=(.cons (.ret (.bin .FloorDiv (.bin .Add (.bin .Mult (.cint 2) (.idx (.var 0) (.cint 0))) (.idx (.var 0) (.cint 1))) (.bin .Mult (.cint 2) (.idx (.var 0) (.cint 1))))) .nil)
noncomputable def d_9:Fd:=⟨1,1,b_9⟩
noncomputable def b_10:S:=(.cons (.ret (.call 3 (.cons (.var 0) (.cons (.call 5 (.cons (.var 2) (.cons (.call 4 (.cons (.var 1) (.cons (.var 0) .nil))) .nil))) .nil)))) .nil)
noncomputable def d_10:Fd:=⟨3,3,b_10⟩
noncomputable def b_11:S:=(.cons (.ife (.cmp .Lt (.var 1) (.blt .len (.cons (.var 0) .nil))) (.cons (.ret (.idx (.var 0) (.var 1))) .nil) .nil) (.cons (.ife (.cmp .Eq (.var 0) (.lst .nil)) (.cons (.ret (.cint 0)) .nil) .nil) (.cons (.ret (.bin .Add (.bin .Mult (.idx (.var 0) (.bin .Mod (.var 1) (.blt .len (.cons (.var 0) .nil)))) (.cint 31)) (.var 1))) .nil)))
noncomputable def d_11:Fd:=⟨2,2,b_11⟩
noncomputable def b_12:S:=(.cons (.asg 3 (.bin .Mod (.bin .Mult (.bin .Add (.call 11 (.cons (.var 0) (.cons (.var 1) .nil))) (.bin .Mult (.cint 6151) (.bin .Add (.var 1) (.cint 1)))) (.cint 40692)) (.cint 2147483399))) (.cons (.ret (.bin .Mod (.bin .Mod (.bin .Add (.bin .Mult (.var 3) (.var 3)) (.bin .FloorDiv (.var 3) (.cint 31))) (.cint 2147483629)) (.var 2))) .nil))
noncomputable def d_12:Fd:=⟨3,4,b_12⟩
noncomputable def b_13:S:=(.cons (.whl (.cmp .NotEq (.var 1) (.cint 0)) (.cons (.unp [0,1] (.tup (.cons (.var 1) (.cons (.bin .Mod (.var 0) (.var 1)) .nil)))) .nil)) (.cons (.ret (.blt .abs (.cons (.var 0) .nil))) .nil))
noncomputable def d_13:Fd:=⟨2,2,b_13⟩
noncomputable def b_14:S:=(.cons (.asg 2 (.bin .Mult (.call 13 (.cons (.var 0) (.cons (.var 1) .nil))) (.ife (.cmp .Gt (.var 1) (.cint 0)) (.cint 1) (.neg (.cint 1))))) (.cons (.ret (.tup (.cons (.bin .FloorDiv (.var 0) (.var 2)) (.cons (.bin .FloorDiv (.var 1) (.var 2)) .nil)))) .nil))
noncomputable def d_14:Fd:=⟨2,3,b_14⟩
noncomputable def b_15:S:=(.cons (.asg 2 (.bin .Add (.cint 1) (.call 12 (.cons (.var 0) (.cons (.var 1) (.cons (.cint 4) .nil)))))) (.cons (.ret (.call 14 (.cons (.bin .Sub (.call 12 (.cons (.var 0) (.cons (.bin .Add (.var 1) (.cint 1)) (.cons (.bin .Add (.bin .Mult (.cint 12) (.var 2)) (.cint 1)) .nil)))) (.bin .Mult (.cint 6) (.var 2))) (.cons (.var 2) .nil)))) .nil))
noncomputable def d_15:Fd:=⟨2,3,b_15⟩
noncomputable def b_16:S:=(.cons (.asg 2 (.bin .Add (.cint 1) (.call 12 (.cons (.var 0) (.cons (.var 1) (.cons (.cint 3) .nil)))))) (.cons (.ret (.call 14 (.cons (.bin .Add (.cint 1) (.call 12 (.cons (.var 0) (.cons (.bin .Add (.var 1) (.cint 1)) (.cons (.bin .Mult (.cint 6) (.var 2)) .nil))))) (.cons (.var 2) .nil)))) .nil))
noncomputable def d_16:Fd:=⟨2,3,b_16⟩
noncomputable def b_17:S:=(.cons (.ret (.call 14 (.cons (.bin .Add (.bin .Mult (.idx (.var 0) (.cint 0)) (.idx (.var 1) (.cint 1))) (.bin .Mult (.idx (.var 1) (.cint 0)) (.idx (.var 0) (.cint 1)))) (.cons (.bin .Mult (.idx (.var 0) (.cint 1)) (.idx (.var 1) (.cint 1))) .nil)))) .nil)
noncomputable def d_17:Fd:=⟨2,2,b_17⟩
noncomputable def b_18:S:=(.cons (.ret (.call 14 (.cons (.bin .Sub (.bin .Mult (.idx (.var 0) (.cint 0)) (.idx (.var 1) (.cint 1))) (.bin .Mult (.idx (.var 1) (.cint 0)) (.idx (.var 0) (.cint 1)))) (.cons (.bin .Mult (.idx (.var 0) (.cint 1)) (.idx (.var 1) (.cint 1))) .nil)))) .nil)
noncomputable def d_18:Fd:=⟨2,2,b_18⟩
noncomputable def b_19:S:=(.cons (.ret (.call 14 (.cons (.bin .Mult (.idx (.var 0) (.cint 0)) (.idx (.var 1) (.cint 0))) (.cons (.bin .Mult (.idx (.var 0) (.cint 1)) (.idx (.var 1) (.cint 1))) .nil)))) .nil)
noncomputable def d_19:Fd:=⟨2,2,b_19⟩
noncomputable def b_20:S:=(.cons (.ret (.call 14 (.cons (.bin .Mult (.idx (.var 0) (.cint 0)) (.idx (.var 1) (.cint 1))) (.cons (.bin .Mult (.idx (.var 0) (.cint 1)) (.idx (.var 1) (.cint 0))) .nil)))) .nil)
noncomputable def d_20:Fd:=⟨2,2,b_20⟩
noncomputable def b_21:S:=(.cons (.ret (.cmp .Lt (.bin .Mult (.idx (.var 0) (.cint 0)) (.idx (.var 1) (.cint 1))) (.bin .Mult (.idx (.var 1) (.cint 0)) (.idx (.var 0) (.cint 1))))) .nil)
noncomputable def d_21:Fd:=⟨2,2,b_21⟩
end VI.VP
end
section
namespace VI.VP
open PySem Fr
structure TabF(tab:Nat->Option Fd):Prop where
 h0:tab 0=some d_0
 h1:tab 1=some d_1
 h2:tab 2=some d_2
 h3:tab 3=some d_3
 h4:tab 4=some d_4
 h5:tab 5=some d_5
 h6:tab 6=some d_6
section
variable{x:Bool}{tab:Nat->Option Fd}{glo:Nat->R D}{sub:Nat->Nat->Bool}{n:Nat}
theorem JJf(one other:D):∀(m:Nat) (a b:Int) (z:Sl),z.isOwn=false->0<=a->0<=b->b.natAbs=m->∃z',whl1 C (.cmp .NotEq (.var 3) (.cint 0)) (.cons (.asg 4 (.bin .Mod (.var 2) (.var 3))) (.cons (.asg 2 (.var 3)) (.cons (.asg 3 (.var 4)) .nil)))
  [.val one,.val other,.val (.int a),.val (.int b),z]=.nx [.val one,.val other,.val (.int (a.gcd b)),.val (.int 0),z']:=by
 intro m
 induction m using Nat.strongRecOn with
 |ind m ih =>
  intro a b z hz ha hb hm
  by_cases h0:b=0
  ·subst h0;refine⟨z,?_⟩;have e:((a.gcd 0:Nat):Int)=a:=by simp;omega
   rw[e];exact JCw (by dsimp![];simp)
  ·have hf:=JIe a b h0;obtain⟨z',h⟩:=ih (a.fmod b).natAbs (by omega) b (a.fmod b) (.val (.int (a.fmod b))) rfl hb (Int.fmod_nonneg_of_pos a (by omega)) rfl
   refine⟨z',?_⟩;rw[JF6]at h;rw[<-h];refine JCx (by dsimp![];simp[h0]) ?_
   cases z with
   |own d=>cases hz
   |no=>dsimp![JFG h0]
   |val d=>dsimp![JFG h0]
theorem JM9(a b:Int):((if a<0 then -a else a).gcd (if b<0 then -b else b))=a.gcd b:=by
 split<;>split<;>simp
theorem JPl(T:TabF tab)(a b:Int):run x tab glo sub (n+1) 0 [.int a,.int b]=.ok (.int (a.gcd b)):=by
 rw[JAB T.h0,JAC rfl];obtain⟨z',h⟩:=JJf (C:=⟨run x tab glo sub n,glo,sub⟩) (.int a) (.int b) _ (if a<0 then -a else a) (if b<0 then -b else b) .no rfl (by split<;>omega) (by split<;>omega) rfl
 rw[JM9]at h
 dsimp![d_0,b_0,h]
theorem JDV(T:TabF tab)(a b:Int)(hb:b≠0)(lb:L b):run x tab glo sub (n+2) 1 [.int a,.int b]=.ok (F (Rat.divInt a b)):=by
 rw[JAB T.h1,JAC rfl];have hg:a.gcd b≠0:=by
  intro z;exact hb (Int.gcd_eq_zero_iff.mp z).2
 have lg:(a.gcd b)<=b.natAbs:=Int.gcd_le_natAbs_right _ hb;unfold L at lb;have q1:=JCW a b hb;have q2:=JDs a b hb
 by_cases h:b<0
 ·rw[if_pos h]at q1 q2
  dsimp![d_1,b_1,JPl T,hb,h,decide_true,decide_false,JIK (j:=-((a.gcd b:Nat):Int)) (by omega) (by unfold L;omega),q1,q2,F]
 ·rw[if_neg h]at q1 q2
  dsimp![d_1,b_1,JPl T,hb,h,decide_true,decide_false,JIK (j:=((a.gcd b:Nat):Int)) (by omega) (by unfold L;omega),q1,q2,F]
theorem JMG(T:TabF tab){p q:Rat}(hp:Q p)(hq:Q q):run x tab glo sub (n+3) 3 [F p,F q]=.ok (F (p+q)):=by
 rw[JAB T.h3,JAC rfl]
 dsimp![d_3,b_3,JAp (hp.Ln (by omega)) (hq.Ld (by omega)),JAp (hq.Ln (by omega)) (hp.Ld (by omega)),JAp (hp.Ld (by omega)) (hq.Ld (by omega)),
  JDV T _ _ (Int.mul_ne_zero (JAT p) (JAT q)) (L.of (JAE hp.d hq.d) (by omega)),JHy]
theorem JDR(T:TabF tab){p q:Rat}(hp:Q p)(hq:Q q):run x tab glo sub (n+3) 4 [F p,F q]=.ok (F (p - q)):=by
 rw[JAB T.h4,JAC rfl]
 dsimp![d_4,b_4,JAp (hp.Ln (by omega)) (hq.Ld (by omega)),JAp (hq.Ln (by omega)) (hp.Ld (by omega)),JAp (hp.Ld (by omega)) (hq.Ld (by omega)),
  JDV T _ _ (Int.mul_ne_zero (JAT p) (JAT q)) (L.of (JAE hp.d hq.d) (by omega)),JHq]
theorem JCT(T:TabF tab){p q:Rat}(hp:Q p)(hq:Q q):run x tab glo sub (n+3) 5 [F p,F q]=.ok (F (p*q)):=by
 rw[JAB T.h5,JAC rfl]
 dsimp![d_5,b_5,JAp (hp.Ln (by omega)) (hq.Ln (by omega)),JAp (hp.Ld (by omega)) (hq.Ld (by omega)),
  JDV T _ _ (Int.mul_ne_zero (JAT p) (JAT q)) (L.of (JAE hp.d hq.d) (by omega)),JGA]
theorem lt_iff(p q:Rat):p.num*q.den<q.num*p.den↔p<q:=(Rat.lt_iff p q).symm
theorem JCk(T:TabF tab){p q:Rat}(hp:Q p)(hq:Q q):run x tab glo sub (n+1) 6 [F p,F q]=.ok (.bool (decide (p<q))):=by
 rw[JAB T.h6,JAC rfl]
 dsimp![d_6,b_6,JAp (hp.Ln (by omega)) (hq.Ld (by omega)),JAp (hq.Ln (by omega)) (hp.Ld (by omega)),lt_iff]
theorem JDj(T:TabF tab)(i:Int):run x tab glo sub (n+1) 2 [.int i]=.ok (.tuple [.int i,.int 1]):=by
 rw[JAB T.h2,JAC rfl]
 dsimp![d_2,b_2]
structure TabL(tab:Nat->Option Fd):Prop where
 h11:tab 11=some d_11
 h12:tab 12=some d_12
 h13:tab 13=some d_13
 h14:tab 14=some d_14
 h15:tab 15=some d_15
 h16:tab 16=some d_16
 h17:tab 17=some d_17
 h18:tab 18=some d_18
 h19:tab 19=some d_19
 h20:tab 20=some d_20
 h21:tab 21=some d_21
theorem JJm:∀(m:Nat) (a b:Int),b.natAbs=m->∃g:Int,g.natAbs=a.gcd b/\whl1 C (.cmp .NotEq (.var 1) (.cint 0)) (.cons (.unp [0,1] (.tup (.cons (.var 1) (.cons (.bin .Mod (.var 0) (.var 1)) .nil)))) .nil) [.val (.int a),.val (.int b)]=.nx [.val (.int g),.val (.int 0)]:=by
 intro m
 induction m using Nat.strongRecOn with
 |ind m ih =>
  intro a b hm
  by_cases h0:b=0
  ·subst h0;exact⟨a,by simp,JCw (by dsimp![];simp)⟩
  ·have hf:=JIe a b h0;obtain⟨g,h1,h2⟩:=ih (a.fmod b).natAbs (by omega) b (a.fmod b) rfl
   refine⟨g,by rw[h1,JF6],?_⟩
   rw[<-h2];refine JCx (by dsimp![];simp[h0]) ?_
   dsimp![JFG h0,JAu,JAl,List.length_cons,List.length_nil]
theorem JDE(T:TabL tab)(a b:Int):run x tab glo sub (n+1) 13 [.int a,.int b]=.ok (.int (a.gcd b)):=by
 rw[JAB T.h13,JAC rfl];obtain⟨g,h1,h2⟩:=JJm (C:=⟨run x tab glo sub n,glo,sub⟩) _ a b rfl
 dsimp![d_13,b_13,h2]
 congr 2
 split<;>omega
theorem JBK(T:TabL tab)(a b:Int)(hb:b≠0)(lb:L b):run x tab glo sub (n+2) 14 [.int a,.int b]=.ok (F (Rat.divInt a b)):=by
 rw[JAB T.h14,JAC rfl];have hg:a.gcd b≠0:=by
  intro z;exact hb (Int.gcd_eq_zero_iff.mp z).2
 have lg:(a.gcd b)<=b.natAbs:=Int.gcd_le_natAbs_right _ hb;unfold L at lb;have q1:=JCW a b hb;have q2:=JDs a b hb
 by_cases h:b<0
 ·rw[if_pos h]at q1 q2;have h':¬0<b:=by omega
  dsimp![d_14,b_14,JDE T,h',decide_true,decide_false,JFw (i:=((a.gcd b:Nat):Int)) (j:=-1) (by decide),Int.mul_neg_one,JIK (j:=-((a.gcd b:Nat):Int)) (by omega) (by unfold L;omega),q1,q2,F]
 ·rw[if_neg h]at q1 q2;have h':0<b:=by omega
  dsimp![d_14,b_14,JDE T,h',decide_true,decide_false,JFw (i:=((a.gcd b:Nat):Int)) (j:=1) (by decide),Int.mul_one,JIK (j:=((a.gcd b:Nat):Int)) (by omega) (by unfold L;omega),q1,q2,F]
theorem JJR(T:TabL tab){p q:Rat}(hp:Q p)(hq:Q q):run x tab glo sub (n+3) 17 [F p,F q]=.ok (F (p+q)):=by
 rw[JAB T.h17,JAC rfl]
 dsimp![d_17,b_17,JAp (hp.Ln (by omega)) (hq.Ld (by omega)),JAp (hq.Ln (by omega)) (hp.Ld (by omega)),JAp (hp.Ld (by omega)) (hq.Ld (by omega)),
  JBK T _ _ (Int.mul_ne_zero (JAT p) (JAT q)) (L.of (JAE hp.d hq.d) (by omega)),JHy]
theorem JIE(T:TabL tab){p q:Rat}(hp:Q p)(hq:Q q):run x tab glo sub (n+3) 18 [F p,F q]=.ok (F (p - q)):=by
 rw[JAB T.h18,JAC rfl]
 dsimp![d_18,b_18,JAp (hp.Ln (by omega)) (hq.Ld (by omega)),JAp (hq.Ln (by omega)) (hp.Ld (by omega)),JAp (hp.Ld (by omega)) (hq.Ld (by omega)),
  JBK T _ _ (Int.mul_ne_zero (JAT p) (JAT q)) (L.of (JAE hp.d hq.d) (by omega)),JHq]
theorem JHe(T:TabL tab){p q:Rat}(hp:Q p)(hq:Q q):run x tab glo sub (n+3) 19 [F p,F q]=.ok (F (p*q)):=by
 rw[JAB T.h19,JAC rfl]
 dsimp![d_19,b_19,JAp (hp.Ln (by omega)) (hq.Ln (by omega)),JAp (hp.Ld (by omega)) (hq.Ld (by omega)),
  JBK T _ _ (Int.mul_ne_zero (JAT p) (JAT q)) (L.of (JAE hp.d hq.d) (by omega)),JGA]
theorem JJD(T:TabL tab){p q:Rat}(hp:Q p)(hq:Q q)(h0:q≠0):run x tab glo sub (n+3) 20 [F p,F q]=.ok (F (p / q)):=by
 have hz:q.num≠0:=λz=>h0 (Rat.num_eq_zero.mp z);rw[JAB T.h20,JAC rfl]
 dsimp![d_20,b_20,JAp (hp.Ln (by omega)) (hq.Ld (by omega)),JAp (hp.Ld (by omega)) (hq.Ln (by omega)),
  JBK T _ _ (Int.mul_ne_zero (JAT p) hz) (L.of (JAE hp.d hq.n) (by omega)),JHD]
theorem JJJ(T:TabL tab){p q:Rat}(hp:Q p)(hq:Q q):run x tab glo sub (n+1) 21 [F p,F q]=.ok (.bool (decide (p<q))):=by
 rw[JAB T.h21,JAC rfl]
 dsimp![d_21,b_21,JAp (hp.Ln (by omega)) (hq.Ld (by omega)),JAp (hq.Ln (by omega)) (hp.Ld (by omega)),lt_iff]
abbrev sc(ns:List Int):D:=.list (ns.map λi=>.int i)
theorem JEG(ns:List Int):shaped (sc ns)=true:=by
 have h1:∀ns:List Int,PyData.canLayAll0 (ns.map λi=>PyData.int i)=true:=λns=>by
  induction ns with
  |nil=>rfl
  |cons a r ih=>simp only[List.map_cons,PyData.canLayAll0,PyData.canLay0,ih,Bool.and_self]
 have h2:∀ns:List Int,PyData.depthAll (ns.map λi=>PyData.int i)=0:=λns=>by
  induction ns with
  |nil=>rfl
  |cons a r ih=>simp only[List.map_cons,PyData.depthAll,PyData.depth,ih];rfl
 simp only[shaped,PyData.canLay0,h1,PyData.depth,h2];decide
theorem JEi(ns:List Int):cmpD .Eq (sc ns) (.list [])=.ok (.bool ns.isEmpty):=by
 have:shaped (.list [])=true:=JEG [];simp only[cmpD,JEG,this,Bool.and_self,if_true];cases ns<;>simp[PyData.eqv,PyData.eqvAll]
theorem JKg(ns:List Int)(k:Int)(h0:0<=k)(h1:k<ns.length):∃i,idxD (sc ns) (.int k)=.ok (.int i):=by
 refine⟨ns[k.toNat]'(by omega),?_⟩
 simp only[sc,idxD,atI,ixN,q_g,if_pos h0,if_pos h1,Option.bind_some];rw[List.getElem?_map,q_q (by omega)]
 rfl
theorem JMz(T:TabL tab)(ns:List Int)(k:Int)(hk:0<=k):∃i,run x tab glo sub (n+1) 11 [sc ns,.int k]=.ok (.int i):=by
 rw[JAB T.h11,JAC rfl]
 by_cases h:k<ns.length
 ·obtain⟨i,hi⟩:=JKg ns k hk h;refine⟨i,?_⟩
  dsimp![d_11,b_11,q_g,h,decide_true,hi]
 ·have hd:decide (k<(ns.length:Int))=false:=q_o h
  by_cases hn:ns=[]
  ·refine⟨0,?_⟩;have e:cmpD .Eq (sc ns) (.list [])=.ok (.bool true):=by rw[JEi,hn];rfl
   dsimp![d_11,b_11,q_g,hd,e]
  ·have hl:0<(ns.length:Int):=by
    have:=List.length_pos_iff.mpr hn;omega
   obtain⟨i,hi⟩:=JKg ns (k.fmod ns.length) (Int.fmod_nonneg_of_pos k hl) (Int.fmod_lt_of_pos k hl);refine⟨i*31+k,?_⟩;have e:cmpD .Eq (sc ns) (.list [])=.ok (.bool false):=by rw[JEi];cases ns<;>simp at hn ⊢
   dsimp![d_11,b_11,q_g,hd,e,JFG (i:=k) (j:=(ns.length:Int)) (by omega),hi,JFw (i:=i) (j:=31) (by decide)]
theorem JCC(T:TabL tab)(ns:List Int)(k m:Int)(hk:0<=k)(hk2:k<2000000)(hm:0<m):∃i,0<=i/\i<m/\run x tab glo sub (n+2) 12 [sc ns,.int k,.int m]=.ok (.int i):=by
 rw[JAB T.h12,JAC rfl];obtain⟨c,hc⟩:=JMz (x:=x) (glo:=glo) (sub:=sub) (n:=n) T ns k hk;obtain⟨d,hd⟩:∃d,d=((c+6151*(k+1))*40692).fmod 2147483399:=⟨_,rfl⟩;have hd0:0<=d:=by rw[hd];exact Int.fmod_nonneg_of_pos _ (by decide)
 have hd1:d<2147483399:=by rw[hd];exact Int.fmod_lt_of_pos _ (by decide)
 have hm1:binD .Mod (.int ((c+6151*(k+1))*40692)) (.int 2147483399)=.ok (.int d):=by rw[JFG (by decide),hd]
 refine⟨((d*d+d.fdiv 31).fmod 2147483629).fmod m,Int.fmod_nonneg_of_pos _ hm,Int.fmod_lt_of_pos _ hm,?_⟩
 dsimp![d_12,b_12,hc,JCp (i:=6151) (j:=k+1) (by decide),JFw (i:=c+6151*(k+1)) (j:=40692) (by decide),hm1,JCp (i:=d) (j:=d) (by omega),JIK (i:=d) (j:=31) (by decide) (L.of (k:=10) (by decide) (by omega)),
  JFG (j:=2147483629) (by decide),JFG (j:=m) (show m≠0 by omega)]
structure Small(q:Rat):Prop where
 n:q.num.natAbs<=24
 d:q.den<=4
 w:q.num.natAbs<=6*q.den
theorem Small.sz{q:Rat}(h:Small q):Sz 5 q:=⟨by have:=h.n;omega,by have:=h.d;omega⟩
theorem Small.Q{q:Rat}(h:Small q):Q q:=h.sz.mono (by omega)
theorem JCN(a b:Int)(hb:0<b):∃g:Int,0<g/\a=(Rat.divInt a b).num*g/\b=((Rat.divInt a b).den:Int)*g:=by
 have hg:a.gcd b≠0:=by
  intro z;have:=(Int.gcd_eq_zero_iff.mp z).2;omega
 have q1:=JCW a b (by omega)
 have q2:=JDs a b (by omega)
 rw[if_neg (by omega)]at q1 q2
 refine⟨((a.gcd b:Nat):Int),by omega,?_,?_⟩
 ·rw[<-q1,JBR (Int.gcd_dvd_left ..),Int.ediv_mul_cancel (Int.gcd_dvd_left ..)]
 ·rw[<-q2,JBR (Int.gcd_dvd_right ..),Int.ediv_mul_cancel (Int.gcd_dvd_right ..)]
theorem JEj(a b m:Int)(hb:0<b)(h1:-(m*b)<=a)(h2:a<=m*b):-(m*(Rat.divInt a b).den)<=(Rat.divInt a b).num/\(Rat.divInt a b).num<=m*(Rat.divInt a b).den:=by
 obtain⟨g,hg,e1,e2⟩:=JCN a b hb;generalize (Rat.divInt a b).num=u at *;generalize ((Rat.divInt a b).den:Int)=d at *;subst e1;subst e2;rw[<-Int.mul_assoc]at h1 h2;constructor
 ·rw[<-Int.neg_mul]at h1;exact Int.le_of_mul_le_mul_right h1 hg
 ·exact Int.le_of_mul_le_mul_right h2 hg
theorem JJT(T:TabL tab)(ns:List Int)(k:Int)(hk:0<=k)(hk2:k<1000000):∃q,Small q/\run x tab glo sub (n+3) 15 [sc ns,.int k]=.ok (F q):=by
 rw[JAB T.h15,JAC rfl];obtain⟨i,i0,i1,hi⟩:=JCC (x:=x) (glo:=glo) (sub:=sub) (n:=n) T ns k 4 hk (by omega) (by decide)
 obtain⟨j,j0,j1,hj⟩:=JCC (x:=x) (glo:=glo) (sub:=sub) (n:=n) T ns (k+1) (12*(1+i)+1) (by omega) (by omega) (by omega)
 refine⟨Rat.divInt (j - 6*(1+i)) (1+i),?_,?_⟩
 ·have h1:=JEj (j - 6*(1+i)) (1+i) 6 (by omega) (by omega) (by omega)
  have h2:=JIC (j - 6*(1+i)) (1+i) (by omega)
  have h3:=JGM (j - 6*(1+i)) (1+i) (by omega)
  exact⟨by omega,by omega,by omega⟩
 ·dsimp![d_15,b_15,hi,JCp (i:=12) (j:=1+i) (by decide),JCp (i:=6) (j:=1+i) (by decide),hj,JBK T (j - 6*(1+i)) (1+i) (by omega) (L.of (k:=10) (by omega) (by omega))]
theorem JHF(T:TabL tab)(ns:List Int)(k:Int)(hk:0<=k)(hk2:k<1000000):∃q,Small q/\0<q/\q.den<=3/\run x tab glo sub (n+3) 16 [sc ns,.int k]=.ok (F q):=by
 rw[JAB T.h16,JAC rfl];obtain⟨i,i0,i1,hi⟩:=JCC (x:=x) (glo:=glo) (sub:=sub) (n:=n) T ns k 3 hk (by omega) (by decide)
 obtain⟨j,j0,j1,hj⟩:=JCC (x:=x) (glo:=glo) (sub:=sub) (n:=n) T ns (k+1) (6*(1+i)) (by omega) (by omega) (by omega)
 refine⟨Rat.divInt (1+j) (1+i),?_,?_,by have h3:=JGM (1+j) (1+i) (by omega);omega,?_⟩
 ·have h1:=JEj (1+j) (1+i) 6 (by omega) (by omega) (by omega)
  have h2:=JIC (1+j) (1+i) (by omega)
  have h3:=JGM (1+j) (1+i) (by omega)
  exact⟨by omega,by omega,by omega⟩
 ·rw[Rat.lt_iff];obtain⟨g,hg,e1,e2⟩:=JCN (1+j) (1+i) (by omega)
  have h:0<(Rat.divInt (1+j) (1+i)).num*g:=by omega
  have h2:=Int.pos_of_mul_pos_left h hg;simpa using h2
 ·dsimp![d_16,b_16,hi,JCp (i:=6) (j:=1+i) (by decide),hj,JBK T (1+j) (1+i) (by omega) (L.of (k:=10) (by omega) (by omega))]
theorem JJc(T:TabL tab)(ns:List Int)(k:Int)(hk:0<=k)(hk2:k<1000000):∃q,Small q/\0<q/\run x tab glo sub (n+3) 16 [sc ns,.int k]=.ok (F q):=by
 obtain⟨q,h1,h2,_,h⟩:=JHF (x:=x) (glo:=glo) (sub:=sub) (n:=n) T ns k hk hk2;exact⟨q,h1,h2,h⟩
end
end VI.VP
end
section
namespace VI
open PySem PySem.Spec PyProof.Rows L2
section
variable{prog:Program}{w:World}{A:Around}{E:Vq}{s:Shared}
end
section
variable{X:Cx}{pins:Pq}{σ:St}{H:Hp}{s:Shared}{h':Heap}
end
section
variable{X:Cx}{B:Bs}{C:Cn}{CX:CXT}{XX:Nat->Hp->Prop}{G:List (Str×GK)}
theorem JKB(ds:List D):(∃ys,ds=[.list ys])\/(xD .rev ds=.bad/\xD .srt ds=.bad/\xD .sst ds=.bad) :=
 match ds with
 | [.list ys]=>.inl ⟨ys,rfl⟩
 | []=>.inr ⟨rfl,rfl,rfl⟩
 | [.none]=>.inr ⟨rfl,rfl,rfl⟩
 | [.bool _]=>.inr ⟨rfl,rfl,rfl⟩
 | [.int _]=>.inr ⟨rfl,rfl,rfl⟩
 | [.str _]=>.inr ⟨rfl,rfl,rfl⟩
 | [.tuple _]=>.inr ⟨rfl,rfl,rfl⟩
 | [.dict _]=>.inr ⟨rfl,rfl,rfl⟩
 |d1::d2::r=>.inr (by cases d1<;>exact⟨rfl,rfl,rfl⟩)
theorem forget{pins:Pq}{σ:St}{H1:Hp}{s:Shared}{p:Addr}{φ:Heap->Prop}(I:Inv X pins σ (upd H1 p (.ext φ)) s)(h1:H1 p=none)(hs:X.s₀.heap.objs.size<=p):Inv X pins σ H1 s/\FpOk X pins H1 p:=by
 have hp:upd H1 p (.ext φ) p=some (.ext φ):=JAI;have no:∀b,upd H1 p (.ext φ) b=none->b≠p:=λb e z=>by rw[z,hp]at e;cases e
 have f:FpOk X pins H1 p:=by
  refine⟨h1,λz=>no _ I.free z.symm,λhb=>?_,.inr hs,λx c e=>no _ (I.freeC x c e),λq hq=>no _ (I.pin q hq).2.1⟩;obtain⟨_,o,ho,_⟩:=I.ok.funs.mem hb;exact absurd (q_m (q_h ho) hs) (Nat.lt_irrefl _)
 have dn:∀b u,upd H1 p (.ext φ) b=some u->u≠.ext φ->H1 b=some u:=λb u e ne=>by
  by_cases hb:b=p
  · rw[hb,hp]at e;cases e;exact absurd rfl ne
  · rw[JAK hb]at e;exact e
 refine⟨?_,f⟩;refine I.step (g':=s.gens) (d':=s.drawn) (t':=s.toks) (h':=s.heap) (ch:=[]) (λ_ z=>nomatch z) (λb u _ _ _ e _=>e) (λb u _ _ _ e _=>⟨u.slots,e⟩)
  (λb u _ e n=>by rw[JAK (no b n)]at n;exact n) (λb u _ e=>⟨u,e⟩) (λb xs e=>dn b _ e (by simp)) (λb u v e=>dn b _ e (by simp)) (λb ps e=>⟨#[],by rw[dn b _ e (by simp)];simp⟩) (λm hm=>hm) (λb u e=>?_) I.bare
 have hb:b≠p:=λz=>by rw[z,h1]at e;cases e
 exact(I.hok b u (by rw[JAK hb];exact e)).stay (λc v _ q=>q) (λc q=>dn c _ q (by simp)) λc xs q=>dn c _ q (by simp)
theorem JD5(h:JEY G names f a=some (k,args)):k=.srt/\args=[a]/\f="sorted"/\glob G names f=some .nam \/
  (k=.sst\/k=.ssk)/\f="sorted"/\glob G names f=some .nam/\∃b r p pos,args=[b]/\a=.Call (.Name r p) [b] [] pos/\r="set"/\glob G names r=some .nam:=by
 unfold JEY at h
 split at h
 ·rename_i hf
  split at h
  · rename_i r p b pos
    split at h
    ·rename_i hr;cases h;exact .inr ⟨by split<;>simp,hf.1,hf.2,b,r,p,pos,rfl,rfl,hr.1,hr.2⟩
    ·cases h;exact .inl ⟨rfl,rfl,hf.1,hf.2⟩
  · cases h;exact .inl ⟨rfl,rfl,hf.1,hf.2⟩
 ·cases h
theorem JEU{names:Nq}{f:Str}{a:Expr}{k:XO}{args:List Expr}(h:JCJ G names false f a=some (k,args)):k=.rev\/k=.srt/\args=[a]/\f="sorted"/\glob G names f=some .nam \/
  (k=.sst\/k=.ssk)/\f="sorted"/\glob G names f=some .nam/\∃b r p pos,args=[b]/\a=.Call (.Name r p) [b] [] pos/\r="set"/\glob G names r=some .nam:=by
 unfold JCJ at h;rw[if_neg (by decide)]at h
 split at h
 ·split at h
  · split at h
    ·cases h;exact .inl rfl
    ·cases h
  · cases h
 ·exact .inr (JD5 h)
theorem JFc{names:Nq}{f:Str}{a:Expr}{k:XO}{args:List Expr}(h:JCJ G names true f a=some (k,args)):(k=.rev/\args=[a]/\f="reversed"/\glob G names f=some .nam)\/JEY G names f a=some (k,args):=by
 unfold JCJ at h;rw[if_pos rfl]at h
 split at h
 ·rename_i hf;cases h;exact .inl ⟨rfl,rfl,hf.1,hf.2⟩
 ·exact .inr h
theorem JED(h:JEY G names f a=some (k,args)):xRaw G names false (.Call (.Name f p) [a] [] pos)=some (k,args):=by
 have hf:f="sorted":=by
  rcases JD5 h with ⟨_,_,z,_⟩|⟨_,z,_⟩<;>exact z
 show JCJ G names false f a=_;unfold JCJ;rw[if_neg (by decide),if_neg (by rw[hf];intro z;exact absurd z.1 (by decide))]
 exact h
end
end VI
end
section
namespace VI
open PySem PySem.Spec PyProof.Rows L2
open PySem.W (KasT kas_sort kas_ask KatTups KatLex KasFin UpdF)
noncomputable def kIn{α:Type}(n:Nat):KasT α->Bool
 |.ret _=>true
 |.ask i j k=>decide (i<n)&&decide (j<n)&&kIn n (k true)&&kIn n (k false)
theorem JF5{α:Type}{n:Nat}{cmp:Nat->Nat->(Bool->Shared->Prop)->Shared->Prop}{lt:Nat->Nat->Bool}{Q:α->Shared->Prop}{s:Shared}(h:∀i j C,i<n->j<n->C (lt i j) s->cmp i j C s) :
  ∀t:KasT α,kIn n t=true->Q (kGo lt t) s->t.kasWp cmp Q s
 |.ret a,_,q=>q
 |.ask i j k,hk,q=>by
  simp only[kIn,q_i,q_D]at hk;refine h i j _ hk.1.1.1 hk.1.1.2 ?_;refine JF5 h (k (lt i j)) ?_ q;cases lt i j
  ·exact hk.2
  ·exact hk.1.2
theorem kIn2:kIn 2 (kas_sort 2)=true:=by decide +kernel
theorem kIn3:kIn 3 (kas_sort 3)=true:=by decide +kernel
theorem kIn4:kIn 4 (kas_sort 4)=true:=by decide +kernel
theorem kIn5:kIn 5 (kas_sort 5)=true:=by decide +kernel
theorem JH1{a:Addr}(x:ObjOk P w H h a o):∃u,h.get? a=some u:=by
 cases o with
 |lst xs=>obtain⟨_,_,_,_,e⟩:=x;exact⟨_,e⟩
 |tup xs=>obtain⟨_,_,_,o,e,_⟩:=x;exact⟨_,e⟩
 |dK kvs=>obtain⟨_,_,_,_,o,_,_,e,_⟩:=x;exact⟨_,e⟩
 |dT kvs=>obtain⟨_,_,_,_,o,_,_,e,_⟩:=x;exact⟨_,e⟩
 |set S n=>obtain⟨o,_,_,_,e,_⟩:=x;exact⟨_,e⟩
 |ins C dx fs=>obtain⟨_,_,_,e,_⟩:=x;exact⟨_,e⟩
 |own y=>obtain⟨_,e⟩:=x;exact⟨_,e⟩
 |xd fs=>obtain⟨_,⟨_,_,_,e,_⟩,_⟩:=x;exact⟨_,e⟩
 |rng lo hi=>obtain⟨_,_,_,e⟩:=x;exact⟨_,e⟩
 |frz ob u=>obtain⟨e,_⟩:=x;exact⟨_,e⟩
 |tbl ps=>exact⟨_,x⟩
 |met f y=>exact⟨_,x⟩
 |ext φ=>obtain⟨_,⟨_,e⟩,_⟩:=x;exact⟨_,e⟩
noncomputable def below(h:Heap)(L:Nat):Heap:={ h with objs:=h.objs.extract 0 L }
theorem below_get{h:Heap}{L b:Nat}{o:Obj}:(below h L).get? b=some o↔b<L/\h.get? b=some o:=by
 unfold below Heap.get?;simp only;constructor
 ·intro e
  by_cases hb:b<L
  ·refine⟨hb,?_⟩;rw[Array.getElem?_extract]at e;simp only[Nat.sub_zero,Nat.zero_add]at e
   by_cases hs:b<min L h.objs.size
   ·rw[if_pos hs]at e;exact e
   ·rw[if_neg hs]at e;cases e
  ·rw[Array.getElem?_extract]at e;rw[if_neg (by omega)]at e
   cases e
 ·rintro⟨hb,e⟩;rw[Array.getElem?_extract];simp only[Nat.sub_zero,Nat.zero_add];have hs:b<h.objs.size:=q_h (h:=h) (o:=o) (by unfold Heap.get?;exact e)
  rw[if_pos (by omega)]
  exact e
noncomputable def JGN(h:Heap)(L:Nat):Pq:=(List.range h.objs.size).filterMap λb=>if b<=L then none else (h.get? b).map λo=>(b,o)
theorem above_mem{h:Heap}{L:Nat}{p:Addr×Obj}:p∈JGN h L↔L<p.1/\h.get? p.1=some p.2:=by
 unfold JGN;rw[List.mem_filterMap];constructor
 ·rintro⟨b,_,e⟩
  split at e
  ·cases e
  ·rename_i hb;obtain⟨o,ho,e⟩:=q_d.mp e;subst e;exact⟨by omega,ho⟩
 ·rintro⟨h1,h2⟩;refine⟨p.1,List.mem_range.mpr (q_h h2),?_⟩;rw[if_neg (by omega),h2]
  rfl
theorem JDf{h:Heap}{L:Addr}{m:Mq}(hn:h.Ns L m):Fr (below h L) L h m :=
 ⟨hn,λb o e=>(below_get.mp e).2,by
  show(h.objs.extract 0 L).size<=L;simp;omega⟩
theorem JAx{h:Heap}{L:Addr}:News (below h L) L h (JGN h L):=λp hp=>by
 obtain⟨h1,h2⟩:=above_mem.mp hp;refine⟨h2,Nat.ne_of_gt h1,?_⟩;cases e:(below h L).get? p.1 with
 |none=>rfl
 |some o=>exact absurd (below_get.mp e).1 (by omega)
theorem JBs{h h':Heap}{L:Addr}{m:Mq}{r:Pq}(F:Fr (below h L) L h' m)(N:News (below h L) L h' r)(hr:∀p∈JGN h L,p∈r):∀b o,b≠L->h.get? b=some o->h'.get? b=some o:=λb o hb e=>by
 by_cases hl:b<L
 ·exact F.keep b o (below_get.mpr ⟨hl,e⟩)
 ·exact(N (b,o) (hr _ (above_mem.mpr ⟨Nat.lt_of_le_of_ne (Nat.le_of_not_lt hl) (Ne.symm hb),e⟩))).1
theorem JNy{h:Heap}{L:Addr}{m m':Mq}(h1:h.Ns L m)(h2:h.Ns L m'):m=m':=by
 obtain⟨o,es,ep,e1,e2,_,e3⟩:=h1;obtain⟨o',es',ep',f1,f2,_,f3⟩:=h2;rw[e1]at f1;cases f1;rw[e2]at f2;cases f2
 funext x
 rw[<-e3,<-f3]
theorem JDw{X:Cx}{pins:Pq}{σ:St}{H:Hp}{s:Shared}{h':Heap}{D:Addr}{o:HO}{m:Mq}(I:Inv X pins σ H s)(hn:s.heap.Ns X.env.locals m)(hn':h'.Ns X.env.locals m)(kp:∀b u,b≠X.env.locals->s.heap.get? b=some u->h'.get? b=some u)(hD:s.heap.get? D=none)(new:ObjOk X.prog X.w (upd H D o) h' D o) :
  H D=none/\Inv X pins σ (upd H D o) { s with heap:=h' }:=by
 have h0:H D=none:=by
  cases e:H D with
  |none=>rfl
  |some u=>obtain⟨v,hv⟩:=JH1 (I.hok D u e);rw[hD]at hv;cases hv
 refine⟨h0,?_⟩;have na:∀b u,s.heap.get? b=some u->b≠D:=λb u e z=>by rw[z,hD]at e;cases e
 have ku:∀b u,H b=some u->upd H D o b=some u:=λb u e=>by rw[JAK (JAZ e h0)];exact e
 have there:∀b u,s.heap.get? b=some u->∃v,h'.get? b=some v:=λb u e=>by
  by_cases hb:b=X.env.locals
  · subst hb;obtain⟨ob,_,_,ho,_⟩:=hn';exact⟨ob,ho⟩
  · exact⟨u,kp b u hb e⟩
 refine I.step (g':=s.gens) (d':=s.drawn) (t':=s.toks) (ch:=[]) (λ_ z=>nomatch z) (λb u hL _ _ e _=>kp b u hL e) (λb u hL _ _ e _=>⟨u.slots,kp b u hL e⟩)
  (λb u _ e n=>by rw[JAK (na b u e)];exact n) (λb u _ e=>there b u e) (λb xs e=>ku b _ e) (λb u v e=>ku b _ e) (λb ps e=>⟨#[],by rw[ku b _ e];simp⟩) (λm' hm=>?_) (λb u e=>?_) I.bare
 ·rw[JNy hm hn];exact hn'
 ·by_cases hb:b=D
  · subst hb;rw[JAI]at e;cases e;exact new
  · rw[JAK hb]at e
    refine(I.hok b u e).stay (λc v hc q=>kp c v ?_ q) (λc q=>ku c _ q) λc xs q=>ku c _ q;rcases hc with z|z
    ·rw[z];exact λz2=>by rw[z2,I.free]at e;cases e
    ·exact λz2=>by rw[z2,I.free]at z;cases z
def TI(h:Heap):List (List Int)->List Value->Prop
 | [],[]=>True
 |k::ks,v::vs=>(∃a o xs n,v=.ref a/\h.get? a=some o/\o.cls=.type "tuple"/\o.data=.seq (List.toArray xs) n/\Vals (k.map V.int) xs)/\TI h ks vs
 |_,_=>False
theorem TI.get{h:Heap}:∀ {ks:List (List Int)}{vs:List Value}{i:Nat},TI h ks vs->i<ks.length->∃a o xs n,vs.getD i Value.none=.ref a/\h.get? a=some o/\o.cls=.type "tuple"/\o.data=.seq (List.toArray xs) n/\Vals ((ks.getD i []).map V.int) xs
 | [],_,_,_,hi=>by simp at hi
 |_::_,[],_,t,_=>t.elim
 |k::ks,v::vs,0,t,_=>by
  obtain⟨⟨a,o,xs,n,e1,e2,e3,e4,e5⟩,_⟩:=t;exact⟨a,o,xs,n,by simpa using e1,e2,e3,e4,by simpa using e5⟩
 |k::ks,v::vs,i+1,t,hi=>by
  obtain⟨a,o,xs,n,e1,r⟩:=TI.get (i:=i) t.2 (by simpa using hi)
  exact⟨a,o,xs,n,by simpa using e1,by simpa using r⟩
theorem TI.len{h:Heap}:∀ {ks:List (List Int)}{vs:List Value},TI h ks vs->vs.length=ks.length
 | [],[],_=>rfl
 | [],_::_,t=>t.elim
 |_::_,[],t=>t.elim
 |_::_,_::_,t=>by simp[TI.len t.2]
theorem TI.mono{h h':Heap}{L:Addr}{m:Mq}(hn:h.Ns L m)(kp:∀b o,b≠L->h.get? b=some o->h'.get? b=some o):∀ {ks:List (List Int)}{vs:List Value},TI h ks vs->TI h' ks vs
 | [],[],_=>trivial
 | [],_::_,t=>t.elim
 |_::_,[],t=>t.elim
 |k::ks,v::vs,⟨⟨a,o,xs,n,e1,e2,e3,e4,e5⟩,r⟩=>by
  refine⟨⟨a,o,xs,n,e1,kp a o (λz=>?_) e2,e3,e4,e5⟩,TI.mono hn kp r⟩;subst z;obtain⟨o',es,ep,f1,f2,_⟩:=hn;rw[e2]at f1;cases f1;rw[e4]at f2;cases f2
theorem TI.firsts{h:Heap}:∀ {ks:List (List Int)}{vs:List Value},TI h ks vs->(∀k∈ks,k≠[])->∃fs,KatTups h vs fs/\fs.length=ks.length/\∀f∈fs,∃i t,f=Value.int i t
 | [],[],_,_=>⟨[],trivial,rfl,(λ_ z=>nomatch z)⟩
 | [],_::_,t,_=>t.elim
 |_::_,[],t,_=>t.elim
 |k::ks,v::vs,⟨⟨a,o,xs,n,e1,e2,e3,e4,e5⟩,r⟩,hne=>by
  obtain⟨fs,h1,h2,h3⟩:=TI.firsts r λk hk=>hne k (by simp[hk])
  cases k with
  |nil=>exact absurd rfl (hne [] (by simp))
  |cons i k =>
   cases e5 with
   |cons p q =>
    rename_i f xr;obtain⟨t,rfl⟩:=p;refine⟨Value.int i t::fs,e1▸PySem.W.KatTups.cons e2 e3 e4 (by simp) h1,by simp[h2],λg hg=>?_⟩
    rcases q_n.mp hg with rfl|hg
    ·exact⟨_,_,rfl⟩
    ·exact h3 g hg
section
variable{prog:Program}{w:World}{A:Around}{s:Shared}
theorem JKk{fin:Bool}:∀(a b:List Int) (xs ys:List Value) (i:Nat),Vals (a.map V.int) xs->Vals (b.map V.int) ys->(lexI a b=lexI a b)->fin=decide (xs.length<ys.length)->Q (lexI a b) s->KatLex prog w A true fin Q (xs.zip ys) i s
 | [],[],xs,ys,i,va,vb,_,hf,q=>by
  cases va;cases vb;simp only[lexI]at q;simp only[List.length_nil,Nat.lt_irrefl,decide_false]at hf;subst hf;exact PySem.W.kat_nil q
 | [],_::_,xs,ys,i,va,vb,_,hf,q=>by
  cases va;cases vb with
  |cons p r =>
   simp only[lexI]at q;simp only[List.length_nil,List.length_cons,Nat.zero_lt_succ,decide_true]at hf;subst hf;exact PySem.W.kat_nil q
 |_::_,[],xs,ys,i,va,vb,_,hf,q=>by
  cases vb;cases va with
  |cons p r =>
   simp only[lexI]at q;simp only[List.length_nil,Nat.not_lt_zero,decide_false]at hf;subst hf;exact PySem.W.kat_nil q
 |x::a,y::b,xs,ys,i,va,vb,_,hf,q=>by
  cases va with
  |cons p r =>
   cases vb with
   |cons p' r' =>
    obtain⟨t,rfl⟩:=p;obtain⟨t',rfl⟩:=p';refine PySem.W.kat_cons (wpAny_eqBool_int ?_);simp only[lexI]at q
    by_cases e:x=y
    ·rw[if_pos e]at q;rw[beq_iff_eq.mpr e];refine PySem.W.kat_yes (JKk a b _ _ (i+1) r r' rfl ?_ q);rw[hf];simp
    ·rw[if_neg e]at q;rw[beq_eq_false_iff_ne.mpr e];refine PySem.W.kat_no ?_
     by_cases hi:i=0
     ·subst hi;exact PySem.W.kat_lt_int q
     ·have:(true&&i==0)=false:=by simp[hi]
      rw[this];exact PySem.W.kat_one _ _ (PySem.wpAny_lt_int q)
theorem JOg{h₀:Heap}{ks:List (List Int)}{vs:List Value}(t:TI s.heap ks vs){i j:Nat}(hi:i<ks.length)(hj:j<ks.length){C:Bool->Shared->Prop}(q:C (lexI (ks.getD i []) (ks.getD j [])) s):kas_ask prog w A (tuples' true) vs i j C s:=by
 obtain⟨a,o,xs,n,e1,e2,e3,e4,e5⟩:=t.get hi;obtain⟨b,o',ys,n',f1,f2,f3,f4,f5⟩:=t.get hj;unfold kas_ask;rw[e1,f1];refine PySem.W.kat_lt e2 e4 f2 f4 ?_;exact JKk _ _ _ _ 0 e5 f5 rfl (by simp) q
end
def AtV(h:Heap):At->Value->Prop
 |.i n,v=>∃t,v=.int n t
 |.s x,v=>∃t,v=.str x t
 |.t k,v=>∃a o xs n,v=.ref a/\h.get? a=some o/\o.cls=.type "tuple"/\o.data=.seq (List.toArray xs) n/\Vals (k.map V.int) xs
def AtsV(h:Heap):List At->List Value->Prop
 | [],[]=>True
 |a::r,v::vs=>AtV h a v/\AtsV h r vs
 |_,_=>False
theorem AtsV.len{h:Heap}:∀ {a:List At}{vs:List Value},AtsV h a vs->vs.length=a.length
 | [],[],_=>rfl
 | [],_::_,t=>t.elim
 |_::_,[],t=>t.elim
 |_::_,_::_,t=>by simp[AtsV.len t.2]
def TA'(h:Heap):List (List At)->List Value->Prop
 | [],[]=>True
 |k::ks,v::vs=>(∃a o xs n,v=.ref a/\h.get? a=some o/\o.cls=.type "tuple"/\o.data=.seq (List.toArray xs) n/\AtsV h k xs)/\TA' h ks vs
 |_,_=>False
theorem TA'.get{h:Heap}:∀ {ks:List (List At)}{vs:List Value}{i:Nat},TA' h ks vs->i<ks.length->∃a o xs n,vs.getD i Value.none=.ref a/\h.get? a=some o/\o.cls=.type "tuple"/\o.data=.seq (List.toArray xs) n/\AtsV h (ks.getD i []) xs
 | [],_,_,_,hi=>by simp at hi
 |_::_,[],_,t,_=>t.elim
 |k::ks,v::vs,0,t,_=>by
  obtain⟨⟨a,o,xs,n,e1,e2,e3,e4,e5⟩,_⟩:=t;exact⟨a,o,xs,n,by simpa using e1,e2,e3,e4,by simpa using e5⟩
 |k::ks,v::vs,i+1,t,hi=>by
  obtain⟨a,o,xs,n,e1,r⟩:=TA'.get (i:=i) t.2 (by simpa using hi)
  exact⟨a,o,xs,n,by simpa using e1,by simpa using r⟩
theorem TA'.len{h:Heap}:∀ {ks:List (List At)}{vs:List Value},TA' h ks vs->vs.length=ks.length
 | [],[],_=>rfl
 | [],_::_,t=>t.elim
 |_::_,[],t=>t.elim
 |_::_,_::_,t=>by simp[TA'.len t.2]
theorem AtV.mono{h h':Heap}{L:Addr}{m:Mq}(hn:h.Ns L m)(kp:∀b o,b≠L->h.get? b=some o->h'.get? b=some o):∀ {a:At}{v:Value},AtV h a v->AtV h' a v
 |.i _,_,t=>t
 |.s _,_,t=>t
 |.t k,v,⟨a,o,xs,n,e1,e2,e3,e4,e5⟩=>by
  refine⟨a,o,xs,n,e1,kp a o (λz=>?_) e2,e3,e4,e5⟩;subst z;obtain⟨o',es,ep,f1,f2,_⟩:=hn;rw[e2]at f1;cases f1;rw[e4]at f2;cases f2
theorem AtsV.mono{h h':Heap}{L:Addr}{m:Mq}(hn:h.Ns L m)(kp:∀b o,b≠L->h.get? b=some o->h'.get? b=some o):∀ {a:List At}{vs:List Value},AtsV h a vs->AtsV h' a vs
 | [],[],_=>trivial
 | [],_::_,t=>t.elim
 |_::_,[],t=>t.elim
 |_::_,_::_,t=>⟨t.1.mono hn kp,AtsV.mono hn kp t.2⟩
theorem TA'.mono{h h':Heap}{L:Addr}{m:Mq}(hn:h.Ns L m)(kp:∀b o,b≠L->h.get? b=some o->h'.get? b=some o):∀ {ks:List (List At)}{vs:List Value},TA' h ks vs->TA' h' ks vs
 | [],[],_=>trivial
 | [],_::_,t=>t.elim
 |_::_,[],t=>t.elim
 |k::ks,v::vs,⟨⟨a,o,xs,n,e1,e2,e3,e4,e5⟩,r⟩=>by
  refine⟨⟨a,o,xs,n,e1,kp a o (λz=>?_) e2,e3,e4,e5.mono hn kp⟩,TA'.mono hn kp r⟩;subst z;obtain⟨o',es,ep,f1,f2,_⟩:=hn;rw[e2]at f1;cases f1;rw[e4]at f2;cases f2
noncomputable def tyAt:Nat->Value
 |0=>.type "int"
 |1=>.type "str"
 |_=>.type "tuple"
theorem AtV.looks:∀ {a:At}{v:Value},AtV h a v->PySem.W.Looks M h (typeOf v) (tyAt a.kd)
 |.i _,_,⟨_,e⟩=>by subst e;exact PySem.W.Looks.of_pure rfl
 |.s _,_,⟨_,e⟩=>by subst e;exact PySem.W.Looks.of_pure rfl
 |.t _,_,⟨a,o,xs,n,e1,e2,e3,e4,e5⟩=>by
  subst e1;have:=(PySem.W.Looks.ld (M:=M) (part:=Option.none) e2).andThen (f:=λo=>pure o.cls) .now;rw[e3]at this;exact this
theorem TA'.firsts{M:Model}{h:Heap}{c:Nat}:∀ {ks:List (List At)}{vs:List Value},TA' h ks vs->(∀k∈ks,(k.map At.kd).head? = some c)->∃fs,KatTups h vs fs/\fs.length=ks.length/\∀f∈fs,PySem.W.Looks M h (typeOf f) (tyAt c)
 | [],[],_,_=>⟨[],trivial,rfl,(λ_ z=>nomatch z)⟩
 | [],_::_,t,_=>t.elim
 |_::_,[],t,_=>t.elim
 |k::ks,v::vs,⟨⟨a,o,xs,n,e1,e2,e3,e4,e5⟩,r⟩,hne=>by
  obtain⟨fs,h1,h2,h3⟩:=TA'.firsts (M:=M) r λk hk=>hne k (by simp[hk])
  have hc:=hne k (by simp)
  match k,xs,e5,hc,e4 with
  |q::k,f::xs,e5,hc,e4 =>
   simp only[List.map_cons,List.head?_cons,q_j]at hc;refine⟨f::fs,e1▸PySem.W.KatTups.cons e2 e3 e4 (by simp) h1,by simp[h2],λg hg=>?_⟩
   rcases q_n.mp hg with rfl|hg
   ·rw[<-hc];exact e5.1.looks
   ·exact h3 g hg
section
variable{prog:Program}{w:World}{A:Around}{s:Shared}
theorem JBc:∀ {k:List Int}{xs:List Value},Vals (k.map V.int) xs->ItemsAre (intKind prog w) k xs
 | [],_,r=>by cases r;exact .nil
 |n::k,_,r=>by
  cases r with
  |cons p q =>
   obtain⟨t,rfl⟩:=p;exact .cons (by simp[intKind,Value.isInt]) (JBc q)
theorem JDg:∀ {k:List Int}{xs:List Value},Vals (k.map V.int) xs->IntsAre xs k
 | [],_,r=>by cases r;exact .nil
 |n::k,_,r=>by
  cases r with
  |cons p q =>
   obtain⟨t,rfl⟩:=p;exact .cons _ _ (JDg q)
theorem atEq{Q:Bool->Shared->Prop}{E:Vq}(hu:A.units+10<cLine){a b:At}{p q:Value}(ha:AtV s.heap a p)(hb:AtV s.heap b q)(hk:a.kd=b.kd)(h:Q (decide (a=b)) s):wpAny (model prog w) A (eqBool p q) Q E s:=by
 cases a with
 |i x =>
  cases b with
  |i y =>
   obtain⟨t,rfl⟩:=ha;obtain⟨t',rfl⟩:=hb;refine wpAny_eqBool_int ?_;have e:(x==y)=decide (At.i x=At.i y):=by
    by_cases z:x=y
    ·subst z;simp
    ·simp[z]
   rw[e];exact h
  |s y=>cases hk
  |t y=>cases hk
 |s x =>
  cases b with
  |s y =>
   obtain⟨t,rfl⟩:=ha;obtain⟨t',rfl⟩:=hb;refine wpAny_eqBool_str ?_;have e:decide (x=y)=decide (At.s x=At.s y):=by
    by_cases z:x=y
    ·subst z;simp
    ·simp[z]
   rw[e];exact h
  |i y=>cases hk
  |t y=>cases hk
 |t x =>
  cases b with
  |t y =>
   obtain⟨a,o,xs,n,rfl,e2,e3,e4,e5⟩:=ha;obtain⟨a',o',xs',n',rfl,f2,f3,f4,f5⟩:=hb;refine wpAny_eqBool_tuple (knd:=intKind prog w) (x:=x) (y:=y) (by omega) ⟨o,_,n,e2,e3,e4,by simpa using JBc e5⟩ ⟨o',_,n',f2,f3,f4,by simpa using JBc f5⟩ ?_
   have e:decide (x=y)=decide (At.t x=At.t y):=by
    by_cases z:x=y
    ·subst z;simp
    ·simp[z]
   rw[e];exact h
  |s y=>cases hk
  |i y=>cases hk
theorem JHC:∀a b:List Int,HT.lexLt a b=lexI a b
 | [],[]=>rfl
 | [],_::_=>rfl
 |_::_,[]=>rfl
 |a::r,b::t=>by rw[HT.lexLt_cons,lexI,JHC r t]
theorem atLt{Q:Bool->Shared->Prop}{E:Vq}(hu:A.units+10<cLine){a b:At}{p q:Value}{f:Bool}(hf:f=true->a.kd≠2)(ha:AtV s.heap a p)(hb:AtV s.heap b q)(hk:a.kd=b.kd)(h:Q (ltAt a b) s):wpAny (model prog w) A (oneLt' f p q) Q E s:=by
 cases a with
 |i x =>
  cases b with
  |i y =>
   obtain⟨t,rfl⟩:=ha;obtain⟨t',rfl⟩:=hb;cases f with
   |true=>exact PySem.W.kat_lt_int h
   |false=>exact PySem.W.kat_one _ _ (PySem.wpAny_lt_int h)
  |s y=>cases hk
  |t y=>cases hk
 |s x =>
  cases b with
  |s y =>
   obtain⟨t,rfl⟩:=ha;obtain⟨t',rfl⟩:=hb;cases f with
   |true=>exact PySem.W.kas_lt_str h
   |false=>exact PySem.W.kat_one _ _ (PyProof.Rows.lt_str h)
  |i y=>cases hk
  |t y=>cases hk
 |t x =>
  cases b with
  |t y =>
   obtain⟨a,o,xs,n,rfl,e2,e3,e4,e5⟩:=ha;obtain⟨a',o',xs',n',rfl,f2,f3,f4,f5⟩:=hb;cases f with
   |true=>exact absurd rfl (hf rfl)
   |false =>
    refine PySem.W.kat_one _ _ ?_;refine HT.lt_tupInts (items:=List.toArray xs) (items2:=List.toArray xs') ⟨o,e2,e3,n,e4⟩ ⟨o',f2,f3,n',f4⟩ (by simpa using JDg e5) (by simpa using JDg f5) (by omega) ?_
    rw[JHC];exact h
  |s y=>cases hk
  |i y=>cases hk
theorem JHN{fin fl:Bool}(hu:A.units+10<cLine):∀(a b:List At) (xs ys:List Value) (i:Nat),AtsV s.heap a xs->AtsV s.heap b ys->a.map At.kd=b.map At.kd->(fl=true->i=0->∀q∈a.head?,q.kd≠2)->fin=decide (xs.length<ys.length)->Q (lexA a b) s->KatLex prog w A fl fin Q (xs.zip ys) i s
 | [],[],xs,ys,i,va,vb,_,_,hf,q=>by
  cases xs with
  |cons _ _=>exact va.elim
  |nil =>
   cases ys with
   |cons _ _=>exact vb.elim
   |nil =>
    simp only[lexA]at q;simp only[List.length_nil,Nat.lt_irrefl,decide_false]at hf;subst hf;exact PySem.W.kat_nil q
 | [],_::_,_,_,_,_,_,hk,_,_,_=>by simp at hk
 |_::_,[],_,_,_,_,_,hk,_,_,_=>by simp at hk
 |x::a,y::b,xs,ys,i,va,vb,hk,hfl,hf,q=>by
  cases xs with
  |nil=>exact va.elim
  |cons p xs =>
   cases ys with
   |nil=>exact vb.elim
   |cons p' ys =>
    simp only[List.map_cons,List.cons.injEq]at hk;refine PySem.W.kat_cons (atEq hu va.1 vb.1 hk.1 ?_);simp only[lexA]at q
    by_cases e:x=y
    ·rw[if_pos e]at q;rw[decide_eq_true e];refine PySem.W.kat_yes (JHN hu a b _ _ (i+1) va.2 vb.2 hk.2 (λ_ z=>by omega) ?_ q)
     rw[hf];simp
    ·rw[if_neg e]at q;rw[q_o e];refine PySem.W.kat_no (atLt hu (λz=>?_) va.1 vb.1 hk.1 q);simp only[q_i,beq_iff_eq]at z;exact hfl z.1 z.2 x rfl
theorem JMO{ks:List (List At)}{vs:List Value}{c:Nat}(hu:A.units+10<cLine)(t:TA' s.heap ks vs)(hc:∀k∈ks,(k.map At.kd).head? = some c)(hs:∀k∈ks,∀k'∈ks,k.map At.kd=k'.map At.kd){i j:Nat}(hi:i<ks.length)(hj:j<ks.length){C:Bool->Shared->Prop}(q:C (lexA (ks.getD i []) (ks.getD j [])) s):kas_ask prog w A (tuples' (tyAt c != Value.type "tuple")) vs i j C s:=by
 obtain⟨a,o,xs,n,e1,e2,e3,e4,e5⟩:=t.get hi;obtain⟨b,o',ys,n',f1,f2,f3,f4,f5⟩:=t.get hj;have m1:ks.getD i []∈ks:=by
  have:ks.getD i []=ks[i]:=by simp[hi]
  rw[this];exact List.getElem_mem hi
 have m2:ks.getD j []∈ks:=by
  have:ks.getD j []=ks[j]:=by simp[hj]
  rw[this];exact List.getElem_mem hj
 unfold kas_ask;rw[e1,f1];refine PySem.W.kat_lt e2 e4 f2 f4 ?_;refine JHN hu _ _ _ _ 0 e5 f5 (hs _ m1 _ m2) (λz _ q hq hk=>?_) (by simp) q
 have h1:=hc _ m1;rw[List.head?_map]at h1;rw[hq]at h1;simp only[Option.map_some,q_j]at h1;rw[hk]at h1;subst h1;exact absurd z (by decide)
end
section
variable{X:Cx}{B:Bs}{C:Cn}{CX:CXT}{XX:Nat->Hp->Prop}{G:List (Str×GK)}
def IT(K:Kq)(H:Hp):List (List Int)->List V->Prop
 | [],[]=>True
 |k::ks,y::ys=>(∃a,y=.ref a/\SqT K H a (k.map V.int))/\IT K H ks ys
 |_,_=>False
theorem IT.ti{pins:Pq}{σ:St}{H:Hp}{s:Shared}(I:Inv X pins σ H s):∀ {ks:List (List Int)}{ys:List V}{us:List Value},IT X.K H ks ys->Vals ys us->TI s.heap ks us
 | [],[],_,_,r=>by cases r;trivial
 | [],_::_,_,t,_=>t.elim
 |_::_,[],_,t,_=>t.elim
 |k::ks,y::ys,us,⟨⟨a,e,q⟩,t⟩,r=>by
  cases r with
  |cons p r =>
   subst e;cases p;obtain⟨its,rv,⟨o,ho,hc,n,hd⟩,_⟩:=I.tuple q;exact⟨⟨a,o,its,n,rfl,ho,hc,hd,rv⟩,IT.ti I t r⟩
theorem IT.len{K:Kq}{H:Hp}:∀ {ks:List (List Int)}{ys:List V},IT K H ks ys->ys.length=ks.length
 | [],[],_=>rfl
 | [],_::_,t=>t.elim
 |_::_,[],t=>t.elim
 |_::_,_::_,t=>by simp[IT.len t.2]
theorem JKN{n:Nat}(h2:2<=n)(h5:n<=5):kIn n (kas_sort n)=true:=by
 have:n=2\/n=3\/n=4\/n=5:=by omega
 rcases this with rfl|rfl|rfl|rfl
 ·exact kIn2
 ·exact kIn3
 ·exact kIn4
 ·exact kIn5
theorem JCe{ys:List V}{us:List Value}(r:Vals ys us):∀l:List Nat,(∀i∈l,i<ys.length)->Vals (l.map λi=>ys.getD i .non) (l.map λi=>us.getD i Value.none)
 | [],_=>.nil
 |i::l,h=>by
  have hi:=h i (by simp)
  obtain⟨u,hu,ru⟩:=r.get (q_q hi);refine .cons ?_ (JCe r l λj hj=>h j (by simp[hj]))
  have e1:ys.getD i .non=ys[i]:=by simp[hi]
  have e2:us.getD i Value.none=u:=by simp[hu]
  show RelV (ys.getD i .non) (us.getD i Value.none);rw[e1,e2];exact ru
noncomputable def kOut(n:Nat):KasT (Array Nat)->Bool
 |.ret a=>a.toList.all λi=>decide (i<n)
 |.ask _ _ k=>kOut n (k true)&&kOut n (k false)
theorem JDh{n:Nat}:∀t:KasT (Array Nat),kOut n t=true->∀i∈(kGo lt t).toList,i<n
 |.ret a,h,i,hi=>by
  simp only[kOut,List.all_eq_true,q_D]at h;exact h i hi
 |.ask i j k,h,x,hx=>by
  simp only[kOut,q_i]at h;simp only[kGo]at hx;refine JDh (k (lt i j)) ?_ x hx;cases lt i j
  ·exact h.2
  ·exact h.1
theorem kOut2:kOut 2 (kas_sort 2)=true:=by decide +kernel
theorem kOut3:kOut 3 (kas_sort 3)=true:=by decide +kernel
theorem kOut4:kOut 4 (kas_sort 4)=true:=by decide +kernel
theorem kOut5:kOut 5 (kas_sort 5)=true:=by decide +kernel
theorem JG5{n:Nat}(h2:2<=n)(h5:n<=5):kOut n (kas_sort n)=true:=by
 have:n=2\/n=3\/n=4\/n=5:=by omega
 rcases this with rfl|rfl|rfl|rfl
 ·exact kOut2
 ·exact kOut3
 ·exact kOut4
 ·exact kOut5
theorem JGE{ks:List (List Int)}(h2:2<=ks.length)(h5:ks.length<=5):∀i∈JC9 ks,i<ks.length:=JDh _ (JG5 h2 h5)
noncomputable def kLen(n:Nat):KasT (Array Nat)->Bool
 |.ret a=>decide (a.size<=n)
 |.ask _ _ k=>kLen n (k true)&&kLen n (k false)
theorem JFI{n:Nat}:∀t:KasT (Array Nat),kLen n t=true->(kGo lt t).size<=n
 |.ret a,h=>by simpa[kLen,kGo] using h
 |.ask i j k,h=>by
  simp only[kLen,q_i]at h;simp only[kGo];refine JFI (k (lt i j)) ?_;cases lt i j
  ·exact h.2
  ·exact h.1
theorem kLen2:kLen 5 (kas_sort 2)=true:=by decide +kernel
theorem kLen3:kLen 5 (kas_sort 3)=true:=by decide +kernel
theorem kLen4:kLen 5 (kas_sort 4)=true:=by decide +kernel
theorem kLen5:kLen 5 (kas_sort 5)=true:=by decide +kernel
def IAt(K:Kq)(H:Hp):At->V->Prop
 |.i n,v=>v=.int n
 |.s x,v=>v=.str x
 |.t k,v=>∃a,v=.ref a/\SqT K H a (k.map V.int)
def IAs(K:Kq)(H:Hp):List At->List V->Prop
 | [],[]=>True
 |a::r,v::vs=>IAt K H a v/\IAs K H r vs
 |_,_=>False
def IA(K:Kq)(H:Hp):List (List At)->List V->Prop
 | [],[]=>True
 |k::ks,y::ys=>(∃a zs,y=.ref a/\SqT K H a zs/\IAs K H k zs)/\IA K H ks ys
 |_,_=>False
theorem IAt.at{pins:Pq}{σ:St}{H:Hp}{s:Shared}(I:Inv X pins σ H s){a:At}{v:V}{u:Value}(h:IAt X.K H a v)(r:RelV v u):AtV s.heap a u:=by
 cases a with
 |i n=>have h:v=.int n:=h;subst h;exact r
 |s x=>have h:v=.str x:=h;subst h;exact r
 |t k =>
  obtain⟨a,rfl,q⟩:=h;cases r;obtain⟨its,rv,⟨o,ho,hc,n,hd⟩,_⟩:=I.tuple q;exact⟨a,o,its,n,rfl,ho,hc,hd,rv⟩
theorem IAs.ats(I:Inv X pins σ H s):∀ {a:List At}{vs:List V}{us:List Value},IAs X.K H a vs->Vals vs us->AtsV s.heap a us
 | [],[],_,_,r=>by cases r;trivial
 | [],_::_,_,t,_=>t.elim
 |_::_,[],_,t,_=>t.elim
 |_::_,_::_,_,t,r=>by
  cases r with
  |cons p q=>exact⟨t.1.at I p,IAs.ats I t.2 q⟩
theorem IA.ta{pins:Pq}{σ:St}{H:Hp}{s:Shared}(I:Inv X pins σ H s):∀ {ks:List (List At)}{ys:List V}{us:List Value},IA X.K H ks ys->Vals ys us->TA' s.heap ks us
 | [],[],_,_,r=>by cases r;trivial
 | [],_::_,_,t,_=>t.elim
 |_::_,[],_,t,_=>t.elim
 |k::ks,y::ys,us,⟨⟨a,zs,e,q,t0⟩,t⟩,r=>by
  cases r with
  |cons p r =>
   subst e;cases p;obtain⟨its,rv,⟨o,ho,hc,n,hd⟩,_⟩:=I.tuple q;exact⟨⟨a,o,its,n,rfl,ho,hc,hd,t0.ats I rv⟩,IA.ta I t r⟩
theorem IA.len{K:Kq}{H:Hp}:∀ {ks:List (List At)}{ys:List V},IA K H ks ys->ys.length=ks.length
 | [],[],_=>rfl
 | [],_::_,t=>t.elim
 |_::_,[],t=>t.elim
 |_::_,_::_,t=>by simp[IA.len t.2]
theorem JGH{ks:List (List At)}(h2:2<=ks.length)(h5:ks.length<=5):∀i∈JCR ks,i<ks.length:=JDh _ (JG5 h2 h5)
theorem JIu{ks:List (List At)}(h2:2<=ks.length)(h5:ks.length<=5):(JCR ks).length<=5:=by
 unfold JCR;rw[q_F];refine JFI _ ?_;have:ks.length=2\/ks.length=3\/ks.length=4\/ks.length=5:=by omega
 rcases this with e|e|e|e<;>rw[e]
 ·exact kLen2
 ·exact kLen3
 ·exact kLen4
 ·exact kLen5
theorem JDn(hu:X.A.units+200<cLine):JBM X (.builtin "sorted") (λxs H Q=>∃l ys ks c,xs=[.ref l]/\SqL X.K H l ys/\IA X.K H ks ys/\2<=ks.length/\ks.length<=5/\(∀k∈ks,(k.map At.kd).head? = some c)/\(∀k∈ks,∀k'∈ks,k.map At.kd=k'.map At.kd)/\∀p,H p=none->Q (.ref p) (upd H p (.lst ((JCR ks).map λi=>ys.getD i .non)))):=by
 intro pins s σ H xs us Q I r ⟨l,ys,ks,cc,e,hq,it,h2,h5,hc,hsg,q⟩;subst e;cases r with
 |cons ra rb =>
  cases rb;cases ra;obtain⟨its,rv,pl,hz⟩:=I.list hq;have ti:=it.ta I rv;have hl:=ti.len;obtain⟨m,hn,_⟩:=I.loc;have F:=JDf hn;refine PySem.W.kat_sorted (vs:=its) F JAx pl.isList (by omega) (by omega) λD e1 h' F' N' hD=>?_
  have kp:∀b o,b≠X.env.locals->s.heap.get? b=some o->h'.get? b=some o:=JBs F' N' λp hp=>q_s _ hp;have ti':=ti.mono hn kp;obtain⟨fs,t1,t2,t3⟩:=ti'.firsts (M:=model X.prog X.w) hc;refine PySem.W.kat_kind (s:={ s with heap:=h' }) (T:=tyAt cc) t1 (by omega) t3 (by unfold tyAt;split<;>decide) ?_
  rw[hl];refine JF5 (n:=ks.length) (lt:=λi j=>lexA (ks.getD i []) (ks.getD j [])) (λi j C hi hj c=>JMO (show X.A.units+1+1+10<cLine by omega) ti' hc hsg hi hj c) _ (JKN h2 h5) ?_
  refine KasFin.intro F' N' (UpdF.head λp hp=>q_l (hD p hp)) λh2' c F2 N2=>?_;have hDn:s.heap.get? D=none:=by
   cases e:s.heap.get? D with
   |none=>rfl
   |some o =>
    have hL:D≠X.env.locals:=(N' _ (.head _)).2.1
    by_cases hb:D<X.env.locals
    ·have:=(N' _ (.head _)).2.2;rw[below_get.mpr ⟨hb,e⟩]at this;cases this
    ·exact absurd (hD (D,o) (above_mem.mpr ⟨Nat.lt_of_le_of_ne (Nat.le_of_not_lt hb) (Ne.symm hL),e⟩)) (Nat.lt_irrefl _)
  have kp2:∀b o,b≠X.env.locals->s.heap.get? b=some o->h2'.get? b=some o:=JBs F2 N2 λp hp=>q_s _ hp;have ok:ObjOk X.prog X.w (upd H D (.lst ((JCR ks).map λi=>ys.getD i .non))) h2' D (.lst ((JCR ks).map λi=>ys.getD i .non)):=by
   refine⟨?_,_,c,JCe rv (JCR ks) λi hi=>?_,(N2 _ (.head _)).1⟩
   ·have:=JIu h2 h5;rw[q_g,sizeLine_eq];omega
   ·have:=JGH h2 h5 i hi;have:=it.len;omega
  obtain⟨h0,I2⟩:=JDw (D:=D) I hn F2.ns kp2 hDn ok;exact⟨.ref D,_,I2,rfl,q D h0⟩
section
variable{prog:Program}{w:World}{A:Around}{E:Vq}{s:Shared}
theorem JEh{l:Addr}{vs:List Value}{Q:Vq}(hl:s.heap.IsList l vs.toArray)(h2:vs.length<2)
  (h:∀h' c,(∀b o,s.heap.get? b=some o->h'.get? b=some o)->h'.get? (s.heap.objs.size+1)=some (seqObj "list" vs.toArray c)->Q (.ref (s.heap.objs.size+1)) { s with heap:=h' }) :
  wpAny (model prog w) A (call (.builtin "sorted") [.ref l]) Q E s:=by
 refine Calls.call_function_entry kind_sorted plain_sorted entry_sorted (args_sorted1 _) ?_;unfold Builtin.«sorted»;refine q_b (m:=checkCount "sorted" 1 1 _) (q_e ?_);refine q_b (collect_list hl ?_ (by rw[sizeLine_eq];omega))
 refine q_b (wpAny_newList ?_ (by rw[sizeLine_eq];omega))
 have hsz:((s.heap.push (seqObj "list" #[] 0)).update s.heap.objs.size (Obj.mapSeq (·++vs.toArray))).objs.size=s.heap.objs.size+1:=by
  rw[Heap.size_update,size_push']
 have hoL:(((s.heap.push (seqObj "list" #[] 0)).update s.heap.objs.size (Obj.mapSeq (·++vs.toArray))).push (seqObj "list" vs.toArray 0)).get? (s.heap.objs.size+1)=some (seqObj "list" vs.toArray 0):=by
  rw[<-hsz];exact q_k _ rfl
 have keep:∀b o,s.heap.get? b=some o->(((s.heap.push (seqObj "list" #[] 0)).update s.heap.objs.size (Obj.mapSeq (·++vs.toArray))).push (seqObj "list" vs.toArray 0)).get? b=some o:=λb o q=>by
  have hlt:b<s.heap.objs.size:=q_h q;rw[Heap.get?_push_ne _ _ _ (by rw[hsz];exact q_l (q_E hlt)),Heap.get?_update_ne _ _ _ _ (q_l hlt),Heap.get?_push_ne _ _ _ (q_l hlt)]
  exact q
 show wpAny _ _ _ _ _ { s with heap:=((s.heap.push (seqObj "list" #[] 0)).update s.heap.objs.size (Obj.mapSeq (·++vs.toArray))).push (seqObj "list" vs.toArray 0) }
 rw[hsz];generalize hgA:((s.heap.push (seqObj "list" #[] 0)).update s.heap.objs.size (Obj.mapSeq (·++vs.toArray))).push (seqObj "list" vs.toArray 0)=hA at *;generalize hga:s.heap.objs.size+1=a at *;refine q_b (wpAny_holding (wpAny_call_entry slot_list_sort ⟨_,hoL,rfl⟩ entry_list_sort ?body (args_list_sort _)))
 case body =>
  obtain⟨e1,ho1⟩:∃e1,(hA.update a (Obj.mapSeq λ_=>(#[]:Array Value))).get? a=some (seqObj "list" #[] e1):=⟨_,get?_update_seq hoL λ_=>#[]⟩;rw[list_sort_plain];refine q_b (listItems_at hoL rfl ?_);refine q_b (listUpdate_at hoL rfl ?_ (by rw[q_f,sizeLine_eq];omega) (Nat.zero_le _))
  refine q_b (seqEpoch_at ho1 rfl ?_);refine q_b (wpAny_newTuple ?_ (by show vs.length<=_;rw[sizeLine_eq];omega))
  refine q_b (wpAny_newList ?_ (Nat.zero_le _));refine wpAny_holding ?_
  dsimp only
  have hn2:vs.toArray.size<2:=by rw[q_f];omega
  rw[if_pos hn2,if_pos hn2];refine q_b (q_e ?_);have hr:((pure ():StateT SortSt Sem Unit).run (SortSt.mk' general' (vs.toArray.zip vs.toArray) #[] 7 none))=pure ((),SortSt.mk' general' (vs.toArray.zip vs.toArray) #[] 7 none):=rfl;refine q_b ?_;refine(show wpAny (model prog w) A.in1.in1 (pure ((),SortSt.mk' general' (vs.toArray.zip vs.toArray) #[] 7 none)) _ _ _ from q_e ?_)
  dsimp only
  have ho3:(((hA.update a (Obj.mapSeq λ_=>(#[]:Array Value))).push { cls:=Value.type "tuple",data:=Data.seq vs.toArray }).push { cls:=Value.type "list",data:=Data.seq #[] }).get? a=some (seqObj "list" #[] e1):=q_c _ (q_c _ ho1);have hout:Array.map (λx:Keyed=>x.snd) (arrOf (SortSt.mk' general' (vs.toArray.zip vs.toArray) #[] 7 none))=vs.toArray:=by
    show Array.map (λx:Keyed=>x.snd) (vs.toArray.zip vs.toArray)=vs.toArray;apply Array.ext';simp[List.map_snd_zip]
  refine q_b (seqEpoch_at ho3 rfl ?_);refine q_b (listUpdate_at ho3 rfl ?_ (Nat.zero_le _) (by rw[hout,q_f,sizeLine_eq];omega))
  have hfl:failedOf (SortSt.mk' general' (vs.toArray.zip vs.toArray) #[] 7 none)=none:=rfl;simp only[bne_self_eq_false,q_v,if_false];refine q_e ⟨_,rfl,q_e ⟨_,rfl,?_⟩⟩;rw[hout];obtain⟨c2,hc2⟩:∃c2,((((hA.update a (Obj.mapSeq λ_=>(#[]:Array Value))).push { cls:=Value.type "tuple",data:=Data.seq vs.toArray }).push { cls:=Value.type "list",data:=Data.seq #[] }).update a (Obj.mapSeq λ_=>vs.toArray)).get? a=some (seqObj "list" vs.toArray c2):=⟨_,get?_update_seq ho3 λ_=>vs.toArray⟩;refine h _ c2 (λb o q=>?_) hc2;have hne:b≠a:=by rw[<-hga];exact q_l (q_E (q_h q))
  rw[Heap.get?_update_ne _ _ _ _ hne];refine q_c _ (q_c _ ?_);rw[Heap.get?_update_ne _ _ _ _ hne];exact keep b o q
end
theorem JG0(K:X.K=B.K):∀ {ds:List D}{ys:List V}{ks:List (List Int)},keysOf ds=some ks->DenL B H ds ys->IT X.K H ks ys
 | [],ys,ks,h,d=>by
  simp only[keysOf,q_j]at h;simp only[DenL]at d;subst h;subst d;trivial
 |d::ds,ys,ks,h,dn=>by
  simp only[DenL]at dn;obtain⟨v,r,e,q,l⟩:=dn;subst e;cases d<;>simp only[keysOf]at h<;>try (cases h;done)
  rename_i xs;obtain⟨k,hk,h⟩:=q_a.mp h;obtain⟨kr,hkr,h⟩:=q_d.mp h;subst h;simp only[Den]at q;obtain⟨a,us,e1,sq,dl⟩:=q;subst e1;refine⟨⟨a,rfl,?_⟩,JG0 K hkr l⟩;have:∀(xs:List D) (k:List Int) (us:List V),intsOf xs=some k->DenL B H xs us->us=k.map V.int:=by
   intro xs
   induction xs with
   |nil=>intro k us h d;simp only[intsOf,q_j]at h;simp only[DenL]at d;subst h;subst d;rfl
   |cons x xs ih =>
    intro k us h d;cases x<;>simp only[intsOf]at h<;>try (cases h;done)
    obtain⟨k2,hk2,h⟩:=q_d.mp h;subst h;simp only[DenL,Den]at d;obtain⟨v,r,e,q,l⟩:=d;subst e;subst q;rw[ih k2 r hk2 l];rfl
  rw[this xs k us hk dl]at sq;rw[K];exact sq
theorem JF8:∀ {xs:List D}{k:List Int}{us:List V},intsOf xs=some k->DenL B H xs us->us=k.map V.int
 | [],k,us,h,d=>by simp only[intsOf,q_j]at h;simp only[DenL]at d;subst h;subst d;rfl
 |x::xs,k,us,h,d=>by
  cases x<;>simp only[intsOf]at h<;>try (cases h;done)
  obtain⟨k2,hk2,h⟩:=q_d.mp h;subst h;simp only[DenL,Den]at d;obtain⟨v,r,e,q,l⟩:=d;subst e;subst q;rw[JF8 hk2 l];rfl
theorem JGL(dn:DenL B H ds ys):∀l:List Nat,(∀i∈l,i<ds.length)->DenL B H (l.map λi=>ds.getD i .none) (l.map λi=>ys.getD i .non)
 | [],_=>by simp only[List.map_nil,DenL]
 |i::l,h=>by
  have hi:=h i (by simp)
  obtain⟨v,e1,d1⟩:=DenL.get ds ys i ds[i] dn (q_q hi);simp only[List.map_cons,DenL];refine⟨_,_,rfl,?_,JGL dn l λj hj=>h j (by simp[hj])⟩
  have e2:ds.getD i .none=ds[i]:=by simp[hi]
  have e3:ys.getD i .non=v:=by simp[e1]
  rw[e2,e3];exact d1
theorem JFm(K:X.K=B.K):∀ {ds:List D}{ys:List V}{ks:List (List At)},JC7 ds=some ks->DenL B H ds ys->IA X.K H ks ys
 | [],ys,ks,h,d=>by
  simp only[JC7,q_j]at h;simp only[DenL]at d;subst h;subst d;trivial
 |d::ds,ys,ks,h,dn=>by
  simp only[DenL]at dn;obtain⟨v,r,e,q,l⟩:=dn;subst e;cases d<;>simp only[JC7]at h<;>try (cases h;done)
  rename_i xs;obtain⟨k,hk,h⟩:=q_a.mp h;obtain⟨kr,hkr,h⟩:=q_d.mp h;subst h;simp only[Den]at q;obtain⟨a,us,e1,sq,dl⟩:=q;subst e1;refine⟨⟨a,us,rfl,by rw[K];exact sq,?_⟩,JFm K hkr l⟩
  have:∀(xs:List D) (k:List At) (us:List V),JE9 xs=some k->DenL B H xs us->IAs X.K H k us:=by
   intro xs
   induction xs with
   |nil=>intro k us h d;simp only[JE9,q_j]at h;simp only[DenL]at d;subst h;subst d;trivial
   |cons x xs ih =>
    intro k us h d;simp only[JE9]at h;obtain⟨at1,ha,h⟩:=q_a.mp h;obtain⟨k2,hk2,h⟩:=q_d.mp h;subst h;simp only[DenL]at d;obtain⟨v,r,e,q,l⟩:=d;subst e;refine⟨?_,ih k2 r hk2 l⟩;cases x<;>simp only[atOf]at ha<;>try (cases ha;done)
    ·cases ha;simp only[Den]at q;exact q
    ·cases ha;simp only[Den]at q;exact q
    ·obtain⟨ki,hki,rfl⟩:=q_d.mp ha;simp only[Den]at q;obtain⟨b,ws,e1,sq2,dl2⟩:=q;refine⟨b,e1,?_⟩;rw[JF8 hki dl2]at sq2;rw[K];exact sq2
  exact this xs k us hk dl
theorem JEZ:∀ {ds:List D}{ks:List (List At)},JC7 ds=some ks->ds.length=ks.length
 | [],ks,h=>by simp only[JC7,q_j]at h;subst h;rfl
 |d::ds,ks,h=>by
  cases d<;>simp only[JC7]at h<;>try (cases h;done)
  obtain⟨k,hk,h⟩:=q_a.mp h;obtain⟨kr,hkr,h⟩:=q_d.mp h;subst h;simp[JEZ hkr]
theorem JMi(h:JIs ks=true):∃c,(∀k∈ks,(k.map At.kd).head? = some c)/\∀k∈ks,∀k'∈ks,k.map At.kd=k'.map At.kd:=by
 cases ks with
 |nil=>cases h
 |cons k ks =>
  simp only[JIs,q_i,List.all_eq_true,beq_iff_eq]at h;obtain⟨h1,h2⟩:=h;have h3:∀q∈k::ks,q.map At.kd=k.map At.kd:=λq hq=>by
   rcases q_n.mp hq with rfl|hq
   ·rfl
   ·exact h2 q hq
  cases k with
  |nil=>simp at h1
  |cons a k=>exact⟨a.kd,λq hq=>by rw[h3 q hq];rfl,λq hq q' hq'=>by rw[h3 q hq,h3 q' hq']⟩
theorem JB3:JBM X (.builtin "sorted") (λxs H Q=>∃l ys,xs=[.ref l]/\SqL X.K H l ys/\ys.length<2/\∀p,H p=none->Q (.ref p) (upd H p (.lst ys))):=by
 intro pins s σ H xs us Q I r ⟨l,ys,e,hq,h2,q⟩;subst e;cases r with
 |cons ra rb =>
  cases rb;cases ra;obtain⟨its,rv,pl,hz⟩:=I.list hq;have hl:=rv.length;refine JEh pl.isList (by omega) λh' c kp ho=>?_
  have hf:H (s.heap.objs.size+1)=none:=I.hok.fresh (Nat.le_succ _);exact⟨.ref _,_,I.laid (t':=s.toks) kp (Nat.le_succ _) (show ObjOk X.prog X.w _ h' _ (.lst ys) from⟨hz,its,c,rv,ho⟩),rfl,q _ hf⟩
end
end VI
end
section
namespace VI
open PySem PySem.Spec PyProof.Rows L2
namespace Ft
theorem JGO:Manifest.owners.lookup (String.ofList ['r','o','t','a','r','e','t','i','_','t','e','s'].reverse)=some Manifest.sig_set_iterator:=by kernel_rfl
theorem slot_si_next:Slot "set_iterator" "__next__" "set_iterator.__next__" :=
 .of (owner:="set_iterator") (n:="__next__") (by rw[typeLookup_type,builtinLookup_eq_fast];kernel_rfl) (by decide +kernel) (by decide +kernel) (by decide +kernel)
  (by first|exact .inl (by decide +kernel)|exact .inr (by decide +kernel)) (by rw[isSubtype_type];kernel_rfl)
theorem entry_si_next:entryFor table "set_iterator.__next__"=some Builtin.«set_iterator.__next__»:=entryFor_of_tree (by kernel_rfl)
theorem args_si_next_1(a:Value):argsOk "set_iterator.__next__" ⟨[a],[]⟩:=by
 unfold argsOk;rw[signature?_of (id:="set_iterator.__next__") (n:=['_','_','t','x','e','n','_','_']) (o:=['r','o','t','a','r','e','t','i','_','t','e','s']) (by kernel_rfl) JGO];kernel_rfl
theorem slot_si_iter:Slot "set_iterator" "__iter__" "set_iterator.__iter__" :=
 .of (owner:="set_iterator") (n:="__iter__") (by rw[typeLookup_type,builtinLookup_eq_fast];kernel_rfl) (by decide +kernel) (by decide +kernel) (by decide +kernel)
  (by first|exact .inl (by decide +kernel)|exact .inr (by decide +kernel)) (by rw[isSubtype_type];kernel_rfl)
theorem args_si_iter_1(a:Value):argsOk "set_iterator.__iter__" ⟨[a],[]⟩:=by
 unfold argsOk;rw[signature?_of (id:="set_iterator.__iter__") (n:=['_','_','r','e','t','i','_','_']) (o:=['r','o','t','a','r','e','t','i','_','t','e','s']) (by kernel_rfl) JGO];kernel_rfl
theorem entry_si_iter:entryFor table "set_iterator.__iter__"=some Builtin.«dict_keyiterator.__iter__» :=
 entryFor_alias (id':="dict_keyiterator.__iter__") (by kernel_rfl) (by first|rfl|decide +kernel|(unfold String.splitOn;simp +decide [String.splitOnAux])) (by decide +kernel) (by kernel_rfl)
theorem owner_set:Manifest.owners.lookup (String.ofList ['t','e','s'].reverse)=some Manifest.sig_set:=by kernel_rfl
theorem slot_set_iter:Slot "set" "__iter__" "set.__iter__" :=
 .of (owner:="set") (n:="__iter__") (by rw[typeLookup_type,builtinLookup_eq_fast];kernel_rfl) (by decide +kernel) (by decide +kernel) (by decide +kernel)
  (by first|exact .inl (by decide +kernel)|exact .inr (by decide +kernel)) (by rw[isSubtype_type];kernel_rfl)
theorem args_set_iter_1(a:Value):argsOk "set.__iter__" ⟨[a],[]⟩:=by
 unfold argsOk;rw[signature?_of (id:="set.__iter__") (n:=['_','_','r','e','t','i','_','_']) (o:=['t','e','s']) (by kernel_rfl) owner_set];kernel_rfl
theorem entry_set_iter:entryFor table "set.__iter__"=some Builtin.«frozenset.__iter__» :=
 entryFor_alias (id':="frozenset.__iter__") (by kernel_rfl) (by first|rfl|decide +kernel|(unfold String.splitOn;simp +decide [String.splitOnAux])) (by decide +kernel) (by kernel_rfl)
theorem len_set:typeLookup (.type "set") "__len__"=pure (some (.builtin "set.__len__")):=by rw[typeLookup_type,builtinLookup_eq_fast];kernel_rfl
end Ft
section
variable{prog:Program}{w:World}{A:Around}{E:Vq}{s:Shared}
theorem JFE{α:Type}:∀ {l:List α}{i:Nat}(h:i<l.length),(l[i]::l.eraseIdx i).Perm l
 | [],i,h=>by simp at h
 |a::l,0,h=>by simp
 |a::l,i+1,h=>by
  simp only[List.getElem_cons_succ,List.eraseIdx_cons_succ];exact(List.Perm.swap _ _ _).trans (List.Perm.cons a (JFE (by simpa using h)))
theorem JGd{n:Nat}(hn:n≠0)(h:∀i d,i<n->Q i { s with drawn:=d }):wpAny (model prog w) A (choose src n) Q E s:=by
 intro Γ p hΓ;unfold choose;rw[Sem.wp_choose];exact⟨hn,by rw[Sem.wp_pure];exact h _ _ (Nat.mod_lt _ (Nat.pos_of_ne_zero hn))⟩
theorem JEq{α:Type}:∀(n:Nat) (xs:List α) {s:Shared}{Q:List α->Shared->Prop},n=xs.length->(∀ys d,ys.Perm xs->Q ys { s with drawn:=d })->wpAny (model prog w) A (drawOrder n xs) Q E s
 |0,xs,s,Q,hn,h=>by
  have:xs=[]:=q_B.mp hn.symm;subst this;exact q_e (h [] s.drawn (List.Perm.refl _))
 |n+1,[],s,Q,hn,h=>by simp at hn
 |n+1,x::xs,s,Q,hn,h=>by
  simp only[drawOrder];refine q_b (JGd (by simp) λi d hi=>?_)
  rw[q_q hi];have hl:((x::xs).eraseIdx i).length=n:=by rw[List.length_eraseIdx_of_lt hi];simp only[List.length_cons]at hn ⊢;omega
  refine q_b (JEq n _ hl.symm λys d' p=>?_);refine q_e (h _ d' ?_);exact(List.Perm.cons _ p).trans (JFE hi)
theorem JEl{α:Type}(next:Nat->Nat):∀(n k:Nat) (left:List α) (out:Array α),n=left.length->∃ys,ys.Perm left/\(pickOrder.go next n k left out).toList=out.toList++ys
 |0,k,left,out,hn=>by
  have:left=[]:=q_B.mp hn.symm;subst this;exact⟨[],List.Perm.refl _,by simp[pickOrder.go]⟩
 |n+1,k,left,out,hn=>by
  have hi:next k % left.length<left.length:=Nat.mod_lt _ (by omega)
  have hl:(left.eraseIdx (next k % left.length)).length=n:=by rw[List.length_eraseIdx_of_lt hi];omega
  obtain⟨ys,p,e⟩:=JEl next n (k+1) (left.eraseIdx (next k % left.length)) (out.push left[next k % left.length]) hl.symm
  refine⟨left[next k % left.length]::ys,(List.Perm.cons _ p).trans (JFE hi),?_⟩
  simp only[pickOrder.go];rw[q_q hi];simp only;rw[e];simp
theorem JGj{α:Type}(next:Nat->Nat)(xs:Array α):(pickOrder next xs).toList.Perm xs.toList:=by
 obtain⟨ys,p,e⟩:=JEl next xs.size 0 xs.toList #[] (by simp)
 unfold pickOrder;rw[e];simpa using p
end
end VI
end
section
namespace VI
open PySem PySem.Spec PyProof.Rows L2
def IsSI(h:Heap)(I:Addr)(first:Value)(i:Int)(a:Addr)(n ep:Nat):Prop:=∃o,h.get? I=some o/\o.cls=.type "set_iterator"/\o.data=.fields #[first,rawInt i,.ref a,rawInt n,rawInt ep]
theorem IsSI.ty{s:Shared}{I a:Addr}{first:Value}{i:Int}{n ep:Nat}(x:IsSI s.heap I first i a n ep):s.TypeIs (.ref I) "set_iterator":=let ⟨o,ho,hc,_⟩:=x;⟨o,ho,hc⟩
theorem IsSI.at{h h':Heap}{I a:Addr}{first:Value}{i:Int}{n ep:Nat}(x:IsSI h I first i a n ep)(e:∀o,h.get? I=some o->h'.get? I=some o):IsSI h' I first i a n ep:=let ⟨o,ho,r⟩:=x;⟨o,e _ ho,r⟩
structure SetAt(h:Heap)(a:Addr)(so:Obj)(es:Array (Int×Value))(ep:Nat)(t:SetTable):Prop where
 get:h.get? a=some so
 cls:so.cls=.type "set"
 data:so.data=.set es ep t
 fits:t.fits es.size=true
theorem SetAt.at{h h':Heap}{a:Addr}{so:Obj}{es:Array (Int×Value)}{ep:Nat}{t:SetTable}(x:SetAt h a so es ep t)(e:∀o,h.get? a=some o->h'.get? a=some o):SetAt h' a so es ep t:=⟨e _ x.get,x.cls,x.data,x.fits⟩
section
variable{prog:Program}{w:World}{A:Around}{E:Vq}{s:Shared}{I a:Addr}{so:Obj}{es:Array (Int×Value)}{ep:Nat}{t:SetTable}{i:Nat}
def byT(w:World):Bool:=w.params.followText "set-order"
theorem JBb(h:Q (byT w) s):wpAny (model prog w) A setsByText Q E s:=by
 unfold setsByText;exact q_b (wpAny_askSetting (q_e h))
theorem JCg{slot nxt:Nat}(hit:IsSI s.heap I (rawInt slot) i a es.size ep)(hs:SetAt s.heap a so es ep t)
  (hn:∀(Q':Option (Value×Nat)->Shared->Prop) (E':Vq),Q' (some (x,nxt)) s->wpAny (model prog w) A.in1 (setNext a slot i ep) Q' E' s)
  (hQ:∀h',IsSI h' I (rawInt nxt) ((i+1:Nat):Int) a es.size ep->Heap.SameBut I s.heap h'->Q (some x) { s with heap:=h' }):wpAny (model prog w) A (pyNext (.ref I)) Q E s:=by
 obtain⟨o,ho,hc,hd⟩:=id hit;unfold pyNext;refine q_b (wpAny_attempt (wpAny_callSpecial?_slot (name:=Str.ofString "__next__") hit.ty Ft.slot_si_next
  (wpAny_call_entry Ft.slot_si_next hit.ty Ft.entry_si_next ?_ (Ft.args_si_next_1 _))))
 unfold Builtin.«set_iterator.__next__»;refine q_b (wpAny_of_eq (a:=(Value.ref I,[])) rfl ?_)
 try dsimp only
 refine q_b (wpAny_fieldsOf ho hd ?_);show wpAny _ _ (setEntries a >>= _) _ _ s;refine q_b (wpAny_setEntries_of hs.get hs.data hs.fits ?_);rw[if_neg (by simp)]
 show wpAny _ _ (setNext a (slot:Int).toNat (i:Int).toNat (ep:Int).toNat >>= _) _ _ s;simp only[Int.toNat_natCast];refine q_b (hn _ _ ?_)
 dsimp only
 refine q_b (wpAny_setField ho hd (by simp) ?_)
 have g1:=Heap.get?_update_self (Obj.mapFields (·.setIfInBounds 0 (rawInt nxt))) ho (Obj.isFreed_of_fields (Obj.data_mapFields hd _));have d1:=Obj.data_mapFields hd (·.setIfInBounds 0 (rawInt nxt));refine q_b (wpAny_setField g1 d1 (by simp) ?_)
 refine q_e ⟨x,rfl,q_e (hQ _ ?_ ((Heap.SameBut.update ..).trans (Heap.SameBut.update ..)))⟩;refine⟨_,Heap.get?_update_self _ g1 (Obj.isFreed_of_fields (Obj.data_mapFields d1 _)),(Obj.cls_mapFields ..).trans ((Obj.cls_mapFields ..).trans hc),?_⟩;rw[Obj.data_mapFields d1];simp
theorem JGQ(hh:A.handled=none)(hQ:∀h',(∀b o,h1.get? b=some o->h'.get? b=some o)->Q none { s with heap:=h' }) :
  wpAny (model prog w) A.in1 (do raiseNew (<-newExc (.type "StopIteration") []))
   (λr s'=>∃v,r=PySem.Fin.done (Flow.ret v)/\wpAny (model prog w) A (pure (some v)) Q E s')
   (λe s'=>wpAny (model prog w) A (do if (<-isInstance e (.type "StopIteration"))=true then pure none else throw e) Q E s') { s with heap:=h1 }:=by
 refine q_b ?_;simp only[newExc,newTuple];refine q_b (wpAny_newObj_type ?_ (by size_fits))
 refine q_b (m:=firstArgMember _ _) (wpAny_of_eq (a:=Value.none) (by first|rfl|(simp only[firstArgMember];rfl)) ?_)
 refine wpAny_newObj_type ?_ (by size_fits)
 simp only[raiseNew];refine q_b (wpAny_handled ?_)
 first|rw[show A.in1.handled=none from hh]|rw[hh]
 refine q_b (q_e (wpAny_throw ?_));refine q_b (wpAny_isInstance (T:="StopIteration") (b:=true) ⟨_,q_k _ rfl,rfl⟩ isSubtype_stop ?_);exact q_e (hQ _ λb o e=>q_c _ (q_c _ e))
theorem JDN{slot:Nat}(hh:A.handled=none)(hit:IsSI s.heap I (rawInt slot) i a es.size ep)(hs:SetAt s.heap a so es ep t)
  (hn:∀(Q':Option (Value×Nat)->Shared->Prop) (E':Vq),Q' none s->wpAny (model prog w) A.in1 (setNext a slot i ep) Q' E' s)
  (hQ:∀h',(∀b o,b≠I->s.heap.get? b=some o->h'.get? b=some o)->Q none { s with heap:=h' }):wpAny (model prog w) A (pyNext (.ref I)) Q E s:=by
 obtain⟨o,ho,hc,hd⟩:=id hit;unfold pyNext;refine q_b (wpAny_attempt (wpAny_callSpecial?_slot (name:=Str.ofString "__next__") hit.ty Ft.slot_si_next
  (wpAny_call_entry Ft.slot_si_next hit.ty Ft.entry_si_next ?_ (Ft.args_si_next_1 _))))
 unfold Builtin.«set_iterator.__next__»;refine q_b (wpAny_of_eq (a:=(Value.ref I,[])) rfl ?_)
 try dsimp only
 refine q_b (wpAny_fieldsOf ho hd ?_);show wpAny _ _ (setEntries a >>= _) _ _ s;refine q_b (wpAny_setEntries_of hs.get hs.data hs.fits ?_);rw[if_neg (by simp)]
 show wpAny _ _ (setNext a (slot:Int).toNat (i:Int).toNat (ep:Int).toNat >>= _) _ _ s;simp only[Int.toNat_natCast];refine q_b (hn _ _ ?_)
 dsimp only
 refine q_b (wpAny_setField ho hd (by simp) ?_)
 refine JGQ hh λh' hk=>hQ h' λb o hb e=>hk b o ?_;exact((Heap.SameBut.update s.heap I _).2 b hb).trans e
theorem JDc{T:Addr}{c place:Nat}{z:Int}(hit:IsSI s.heap I (.ref T) i a es.size ep)(hs:SetAt s.heap a so es ep t)
  (hT:s.heap.get? T=some to) (hTd:to.data=.seq ps c) (hp:ps[i]? = some (rawInt place)) (hx:es[place]? = some (z,x))
  (hQ:∀h',IsSI h' I (.ref T) ((i+1:Nat):Int) a es.size ep->Heap.SameBut I s.heap h'->Q (some x) { s with heap:=h' }):wpAny (model prog w) A (pyNext (.ref I)) Q E s:=by
 obtain⟨o,ho,hc,hd⟩:=id hit;unfold pyNext;refine q_b (wpAny_attempt (wpAny_callSpecial?_slot (name:=Str.ofString "__next__") hit.ty Ft.slot_si_next
  (wpAny_call_entry Ft.slot_si_next hit.ty Ft.entry_si_next ?_ (Ft.args_si_next_1 _))))
 unfold Builtin.«set_iterator.__next__»;refine q_b (wpAny_of_eq (a:=(Value.ref I,[])) rfl ?_)
 try dsimp only
 refine q_b (wpAny_fieldsOf ho hd ?_);show wpAny _ _ (setEntries a >>= _) _ _ s;refine q_b (wpAny_setEntries_of hs.get hs.data hs.fits ?_);rw[if_neg (by simp)]
 show wpAny _ _ (seqItems? (.ref T) >>= _) _ _ s;refine q_b (wpAny_seqItems hT hTd ?_);simp only[Int.toNat_natCast,hp];show wpAny _ _ (setNextDrawn a (place:Int).toNat (ep:Int).toNat >>= _) _ _ s;simp only[Int.toNat_natCast];refine q_b ?_;unfold setNextDrawn;refine q_b (wpAny_setState_of hs.get hs.data hs.fits ?_)
 dsimp only
 rw[if_neg (by simp),hx]
 refine q_e ?_;refine q_b (wpAny_setField ho hd (by simp) ?_)
 refine q_e ⟨x,rfl,q_e (hQ _ ?_ (Heap.SameBut.update ..))⟩;refine⟨_,Heap.get?_update_self _ ho (Obj.isFreed_of_fields (Obj.data_mapFields hd _)),(Obj.cls_mapFields ..).trans hc,?_⟩;rw[Obj.data_mapFields hd];simp
theorem JEb{T:Addr}{c:Nat}(hh:A.handled=none)(hit:IsSI s.heap I (.ref T) i a es.size ep)(hs:SetAt s.heap a so es ep t)
  (hT:s.heap.get? T=some to) (hTd:to.data=.seq ps c) (hp:ps[i]? = none)
  (hQ:∀h',(∀b o,b≠I->s.heap.get? b=some o->h'.get? b=some o)->Q none { s with heap:=h' }):wpAny (model prog w) A (pyNext (.ref I)) Q E s:=by
 obtain⟨o,ho,hc,hd⟩:=id hit;unfold pyNext;refine q_b (wpAny_attempt (wpAny_callSpecial?_slot (name:=Str.ofString "__next__") hit.ty Ft.slot_si_next
  (wpAny_call_entry Ft.slot_si_next hit.ty Ft.entry_si_next ?_ (Ft.args_si_next_1 _))))
 unfold Builtin.«set_iterator.__next__»;refine q_b (wpAny_of_eq (a:=(Value.ref I,[])) rfl ?_)
 try dsimp only
 refine q_b (wpAny_fieldsOf ho hd ?_);show wpAny _ _ (setEntries a >>= _) _ _ s;refine q_b (wpAny_setEntries_of hs.get hs.data hs.fits ?_);rw[if_neg (by simp)]
 show wpAny _ _ (seqItems? (.ref T) >>= _) _ _ s;refine q_b (wpAny_seqItems hT hTd ?_);simp only[Int.toNat_natCast,hp];refine q_b (wpAny_setField ho hd (by simp) ?_)
 have g1:=Heap.get?_update_self (Obj.mapFields (·.setIfInBounds 0 (rawInt 0))) ho (Obj.isFreed_of_fields (Obj.data_mapFields hd _));have d1:=Obj.data_mapFields hd (·.setIfInBounds 0 (rawInt 0));refine q_b (wpAny_setField g1 d1 (by simp) ?_)
 refine JGQ hh λh' hk=>hQ h' λb o hb e=>hk b o ?_;exact(((Heap.SameBut.update s.heap I _).trans (Heap.SameBut.update _ I _)).2 b hb).trans e
theorem JIL(hs:SetAt s.heap a so es ep t)(hB:byT w=true)(h:Q (pickOrder (w.params.setOrder a ep) es) s):wpAny (model prog w) A (setWalk a) Q E s:=by
 unfold setWalk;refine q_b (wpAny_setState_of hs.get hs.data hs.fits ?_)
 dsimp only
 refine q_b (JBb ?_);rw[hB,if_pos rfl];exact q_b (wpAny_askSetting (q_e h))
theorem JG8{slot:Nat}(hs:SetAt s.heap a so es ep t)(hB:byT w=true)(h:Q (((pickOrder (w.params.setOrder a ep) es)[i]?).map λe=>(e.2,slot)) s):wpAny (model prog w) A (setNext a slot i ep) Q E s:=by
 unfold setNext;refine q_b (wpAny_setState_of hs.get hs.data hs.fits ?_)
 dsimp only
 refine q_b (JBb ?_);rw[hB,if_pos rfl,if_neg (by simp)]
 exact q_b (JIL hs hB (q_e h))
theorem JKI{slot:Nat}(hs:SetAt s.heap a so es ep t)(hB:byT w=false)(hd:(!t.plain&&decide (es.size > 1))=false)(hl:t.led=true)
  (h:Q (match es[SetTable.below t.place slot]?,t.place[SetTable.below t.place slot]? with|some (_,x),some j=>some (x,j+1)|_,_=>none) s):wpAny (model prog w) A (setNext a slot i ep) Q E s:=by
 unfold setNext;refine q_b (wpAny_setState_of hs.get hs.data hs.fits ?_)
 dsimp only
 refine q_b (JBb ?_);rw[hB,if_neg (by decide)]
 split
 ·rename_i hx;have hx:(!t.plain&&decide (es.size > 1))=true:=hx;rw[hd]at hx;cases hx
 ·refine q_b ?_;show wpAny _ _ (if (!t.led&&!es.isEmpty)=true then unsupported "set:maker-not-led" else pure ()) _ _ _;rw[hl,Bool.not_true,Bool.false_and,if_neg (by decide)]
  exact q_e (q_e h)
theorem JJh(hs:SetAt s.heap a so es ep t)(hz:es.size<=100)
  {Q:Vq}
  (h1:(byT w=true\/(t.plain=true\/es.size<=1))->Q (.ref s.heap.objs.size) { s with heap:=s.heap.push { cls:=.type "set_iterator",data:=.fields #[rawInt 0,rawInt 0,.ref a,rawInt es.size,rawInt ep] } })
  (h2:byT w=false->t.plain=false->∀(ord:List Nat) d,ord.Perm (List.range es.size)->Q (.ref (s.heap.objs.size+1)) { s with drawn:=d,heap:=(s.heap.push { cls:=.type "tuple",data:=.seq (ord.map λi:Nat=>rawInt i).toArray }).push { cls:=.type "set_iterator",data:=.fields #[.ref s.heap.objs.size,rawInt 0,.ref a,rawInt es.size,rawInt ep] } }) :
  wpAny (model prog w) A (pyIter (.ref a)) Q E s:=by
 have hT:s.TypeIs (.ref a) "set":=⟨so,hs.get,hs.cls⟩;refine wpAny_pyIter_slot hT Ft.slot_set_iter (wpAny_call_entry Ft.slot_set_iter hT Ft.entry_set_iter ?_ (Ft.args_set_iter_1 _));unfold Builtin.«frozenset.__iter__»;refine q_b (wpAny_of_eq (a:=a) rfl ?_);refine q_b ?_;unfold Builtin.Frozenset.sizeOf;refine q_b (wpAny_setEntries_of hs.get hs.data hs.fits (q_e ?_));refine q_b ?_;unfold setDrawn;refine q_b (wpAny_setState_of hs.get hs.data hs.fits ?_)
 dsimp only
 refine q_b (JBb (q_e ?_));show wpAny _ _ (if (!byT w&&(!t.plain&&decide (es.size > 1)))=true then _ else _) _ _ _
 by_cases hd:(!byT w&&(!t.plain&&decide (es.size > 1)))=true
 ·rw[if_pos hd];simp only[q_i,Bool.not_eq_true',q_D]at hd;refine q_b (JEq es.size (List.range es.size) (by simp) λord d po=>?_)
  refine q_b (wpAny_newTuple ?_ ?_)
  rotate_left
  · rw[q_g,po.length_eq,List.length_range,sizeLine_eq];omega
  dsimp only
  have hs1:SetAt (s.heap.push { cls:=.type "tuple",data:=.seq (ord.map λi:Nat=>rawInt i).toArray }) a so es ep t:=hs.at λo e=>q_c _ e;refine q_b ?_;unfold setEpoch;refine q_b (wpAny_setState_of hs1.get hs1.data hs1.fits (q_e ?_));refine q_b (m:=newFields _ _) (wpAny_newObj_type ?_ (by size_fits))
  refine q_e ⟨_,rfl,"set_iterator",_,⟨_,q_k _ rfl,rfl⟩,Ft.slot_si_next.lookup,?_⟩;rw[Heap.size_push];exact h2 hd.1 hd.2.1 ord d po
 ·rw[if_neg hd];refine q_b (q_e ?_);refine q_b ?_;unfold setEpoch;refine q_b (wpAny_setState_of hs.get hs.data hs.fits (q_e ?_));refine q_b (m:=newFields _ _) (wpAny_newObj_type ?_ (by size_fits))
  refine q_e ⟨_,rfl,"set_iterator",_,⟨_,q_k _ rfl,rfl⟩,Ft.slot_si_next.lookup,?_⟩;refine h1 ?_;cases hb:byT w
  · right
    rw[hb]at hd;cases hp:t.plain
    ·right;rw[hp]at hd;simp only[Bool.not_false,Bool.true_and,q_D]at hd;omega
    ·exact .inl rfl
  · exact .inl rfl
end
end VI
end
section
namespace VI
open PySem PySem.Spec PyProof.Rows L2
section
variable{prog:Program}{w:World}{A:Around}{E:Vq}{s:Shared}{I a:Addr}{so:Obj}{es:Array (Int×Value)}{ep:Nat}{t:SetTable}{i:Nat}
theorem JPB(hh:A.handled=none)(hne:a≠I)(hB:byT w=true):Walks prog w A I [I,a] [I] (pickOrder (w.params.setOrder a ep) es).size (λi v=>((pickOrder (w.params.setOrder a ep) es)[i]?).map (·.2)=some v) (λi h=>IsSI h I (rawInt 0) i a es.size ep/\SetAt h a so es ep t) where
 sub:=λb hb=>by simp at hb;simp[hb]
 frame:=λ_ _ _ st hk=>⟨st.1.at λo e=>hk I (by simp) o e,st.2.at λo e=>hk a (by simp) o e⟩
 item:=λi s Q E hi st hQ=>by
  have hg:(pickOrder (w.params.setOrder a ep) es)[i]? = some (pickOrder (w.params.setOrder a ep) es)[i]:=Array.getElem?_eq_getElem hi;refine JCg (slot:=0) (nxt:=0) (x:=((pickOrder (w.params.setOrder a ep) es)[i]).2) st.1 st.2 (λQ' E' q=>JG8 st.2 hB (by rw[hg];exact q)) λh' st' sb=>?_
  exact hQ _ h' s.toks (by rw[hg];rfl) ⟨st',st.2.at λo e=>(sb.2 a hne).trans e⟩ λb o hb e=>(sb.2 b λz=>hb (by simp[z])).trans e
 done:=λs Q E st hQ=>by
  refine JDN (slot:=0) hh st.1 st.2 (λQ' E' q=>JG8 st.2 hB (by rw[Array.getElem?_eq_none (q_t _)];exact q)) λh' hk=>?_
  exact hQ h' s.toks λb o hb e=>hk b o (λz=>hb (by simp[z])) e
 self:=λ_ s _ _ st hQ=>by
  refine wpAny_pyIter_slot st.1.ty Ft.slot_si_iter (wpAny_call_entry Ft.slot_si_iter st.1.ty Ft.entry_si_iter ?_ (Ft.args_si_iter_1 _));show wpAny _ _ (ret (.ref I)) _ _ s;exact q_e ⟨_,rfl,"set_iterator",_,st.1.ty,Ft.slot_si_next.lookup,hQ⟩
theorem JNH{T:Addr}{to:Obj}{c:Nat}{ord:List Nat}(hh:A.handled=none)(hne:a≠I)(hnT:T≠I)(hTd:to.data=.seq (ord.map λi:Nat=>rawInt i).toArray c)(ho:ord.Perm (List.range es.size)) :
  Walks prog w A I [I,a,T] [I] es.size (λi v=>(ord[i]?.bind λp=>es[p]?).map (·.2)=some v) (λi h=>IsSI h I (.ref T) i a es.size ep/\SetAt h a so es ep t/\h.get? T=some to) where
 sub:=λb hb=>by simp at hb;simp[hb]
 frame:=λ_ _ _ st hk=>⟨st.1.at λo e=>hk I (by simp) o e,st.2.1.at λo e=>hk a (by simp) o e,hk T (by simp) _ st.2.2⟩
 item:=λi s Q E hi st hQ=>by
  have hl:ord.length=es.size:=by rw[ho.length_eq,List.length_range]
  have hi':i<ord.length:=by omega
  have hp:ord[i]<es.size:=List.mem_range.mp (ho.mem_iff.mp (List.getElem_mem hi'));have g1:ord[i]? = some ord[i]:=q_q hi';have g2:es[ord[i]]? = some es[ord[i]]:=Array.getElem?_eq_getElem hp;refine JDc (place:=ord[i]) (z:=(es[ord[i]]).1) (x:=(es[ord[i]]).2) st.1 st.2.1 st.2.2 hTd (by simp[g1]) g2 λh' st' sb=>?_
  exact hQ _ h' s.toks (by rw[g1,Option.bind_some,g2];rfl) ⟨st',st.2.1.at λo e=>(sb.2 a hne).trans e,(sb.2 T hnT).trans st.2.2⟩ λb o hb e=>(sb.2 b λz=>hb (by simp[z])).trans e
 done:=λs Q E st hQ=>by
  have hl:ord.length=es.size:=by rw[ho.length_eq,List.length_range]
  refine JEb hh st.1 st.2.1 st.2.2 hTd (by simp;omega) λh' hk=>?_
  exact hQ h' s.toks λb o hb e=>hk b o (λz=>hb (by simp[z])) e
 self:=λ_ s _ _ st hQ=>by
  refine wpAny_pyIter_slot st.1.ty Ft.slot_si_iter (wpAny_call_entry Ft.slot_si_iter st.1.ty Ft.entry_si_iter ?_ (Ft.args_si_iter_1 _));show wpAny _ _ (ret (.ref I)) _ _ s;exact q_e ⟨_,rfl,"set_iterator",_,st.1.ty,Ft.slot_si_next.lookup,hQ⟩
theorem JNY(h:xs.size<=1):SetTable.below xs 0=0:=by
 unfold SetTable.below;obtain e|e:xs.size=0\/xs.size=1:=by omega
 ·rw[e];rfl
 ·rw[e];simp[SetTable.below.go]
theorem JNh{j:Nat}(h:xs.size=1)(hj:xs[0]? = some j):SetTable.below xs (j+1)=1:=by
 unfold SetTable.below;rw[h];simp[SetTable.below.go,Array.getD_eq_getD_getElem?,hj]
def JFH(t:SetTable):Prop:=SetTable.below t.place 0=0/\∀(i j:Nat),t.place[i]? = some j->SetTable.below t.place (j+1)=i+1
theorem JL7(h:t.place.size<=1):JFH t:=⟨JNY h,λi j e=>by
 obtain⟨hi,_⟩:=Array.getElem?_eq_some_iff.mp e;have i0:i=0:=by omega
 subst i0;exact JNh (by omega) e⟩
theorem W_one(hh:A.handled=none)(hne:a≠I)(hB:byT w=false)(hd:(!t.plain&&decide (es.size > 1))=false)(hl:t.led=true)(hf:t.place.size=es.size)(hb:JFH t) :
  Walks prog w A I [I,a] [I] es.size (λi v=>es[i]?.map (·.2)=some v) (λi h=>∃slot:Nat,IsSI h I (rawInt slot) i a es.size ep/\SetAt h a so es ep t/\SetTable.below t.place slot=i) where
 sub:=λb hb=>by simp at hb;simp[hb]
 frame:=λ_ _ _ ⟨slot,st1,st2,st3⟩ hk=>⟨slot,st1.at λo e=>hk I (by simp) o e,st2.at λo e=>hk a (by simp) o e,st3⟩
 item:=λi s Q E hi ⟨slot,st1,st2,st3⟩ hQ=>by
  have hp:i<t.place.size:=by omega
  have g1:es[i]? = some es[i]:=Array.getElem?_eq_getElem hi;have g2:t.place[i]? = some t.place[i]:=Array.getElem?_eq_getElem hp;refine JCg (slot:=slot) (nxt:=t.place[i]+1) (x:=(es[i]).2) st1 st2 (λQ' E' q=>JKI st2 hB hd hl (by rw[st3,g1,g2];exact q)) λh' st' sb=>?_
  exact hQ _ h' s.toks (by rw[g1];rfl) ⟨_,st',st2.at λo e=>(sb.2 a hne).trans e,hb.2 i _ g2⟩ λb o hb e=>(sb.2 b λz=>hb (by simp[z])).trans e
 done:=λs Q E ⟨slot,st1,st2,st3⟩ hQ=>by
  refine JDN (slot:=slot) hh st1 st2 (λQ' E' q=>JKI st2 hB hd hl ?_) λh' hk=>hQ h' s.toks λb o hb e=>hk b o (λz=>hb (by simp[z])) e
  rw[st3,Array.getElem?_eq_none (by omega)];exact q
 self:=λ_ s _ _ ⟨slot,st1,st2,st3⟩ hQ=>by
  refine wpAny_pyIter_slot st1.ty Ft.slot_si_iter (wpAny_call_entry Ft.slot_si_iter st1.ty Ft.entry_si_iter ?_ (Ft.args_si_iter_1 _));show wpAny _ _ (ret (.ref I)) _ _ s;exact q_e ⟨_,rfl,"set_iterator",_,st1.ty,Ft.slot_si_next.lookup,hQ⟩
abbrev hL(s:Shared):Heap:=s.heap.push { cls:=.type "list",data:=.seq ([]:List Value).toArray }
abbrev siO(first:Value)(a:Addr)(n ep:Nat):Obj:={ cls:=.type "set_iterator",data:=.fields #[first,rawInt 0,.ref a,rawInt n,rawInt ep] }
theorem itep{α:Type}{c:Prop}[Decidable c]{m1 m2:Sem α}{Q:α->Shared->Prop}(hc:c)(h:wpAny (model prog w) A m1 Q E s):wpAny (model prog w) A (if c then m1 else m2) Q E s:=by rw[if_pos hc];exact h
theorem JF2(hT:s.TypeIs (.ref a) "set"){Q:Bool->Shared->Prop}(h:Q false s):wpAny (model prog w) A (Builtin.List.listLengthHint (.ref a)) Q E s:=by
 unfold Builtin.List.listLengthHint;refine q_b (wpAny_specialOf hT Ft.len_set ?_)
 (generalize hid:("set.__len__":String)=id0;(fail_if_success (clear hid id0));wp_delta;rw[show splitId id0=some ("set","__len__") from by subst hid;decide +kernel];subst hid)
 refine q_b (wpAny_isInstance (b:=true) hT (by rw[isSubtype_type];kernel_rfl) ?_)
 rw[if_neg (by decide)]
 dsimp only
 refine itep (by decide +kernel) ?_
 refine q_b (wpAny_typeOf hT ?_);exact q_e h
theorem JDX{S:Addr}{fp:List Addr}{n:Nat}{P:Nat->Value->Prop}{St:Nat->Heap->Prop}{R:Result->Shared->Prop}{res:Value}(W:Walks prog w A.in1 I fp [I] n P St)(hn:n<=sizeLine)(hst:St 0 s.heap)(hSf:S ∉ fp)
  (hS:s.heap.get? S=some { cls:=.type "list",data:=.seq ([]:List Value).toArray })
  (hR:∀h' tk acc' c',(∀b o,b≠S->b≠I->s.heap.get? b=some o->h'.get? b=some o)->h'.get? S=some { cls:=.type "list",dict:=none,data:=.seq acc' c',slots:=#[] }->ItemsOf P acc' n->R (.ok (.ret res)) { s with heap:=h',toks:=tk }) :
  wpAny (model prog w) A.in1 (rule "list.extend.makes-room" >>= λ_=>Builtin.List.listTouch (.ref S) >>= λ_=>again (.builtin "list.extend.loop" ⟨[.ref S,.ref I,res],[]⟩))
    (λfin s'=>match fin with|.done f=>R (.ok f) s'|.again c'=>c'.quiet=true/\codeAny (model prog w) A c' R s') (λe s'=>R (.error e) s') s:=by
 refine q_b (wpAny_rule ?_);refine q_b ?_;show wpAny _ A.in1 (updateSeq S (·.push .none) >>= λ_=>updateSeq S (·.pop)) _ _ _;refine q_b (wpAny_updateSeq hS rfl ?_);have hS₂:=Heap.get?_update_self (Obj.mapSeq (·.push Value.none)) hS rfl;refine wpAny_updateSeq hS₂ rfl ?_;have hS₃:=Heap.get?_update_self (Obj.mapSeq (·.pop)) hS₂ rfl;have oth:∀b o,b≠S->s.heap.get? b=some o->((s.heap.update S (Obj.mapSeq (·.push Value.none))).update S (Obj.mapSeq (·.pop))).get? b=some o :=
  λb o hb e=>(Heap.get?_update_other _ _ (Ne.symm hb)).trans ((Heap.get?_update_other _ _ (Ne.symm hb)).trans e)
 have hst2:St 0 ((s.heap.update S (Obj.mapSeq (·.push Value.none))).update S (Obj.mapSeq (·.pop))):=W.frame 0 _ _ hst λb hb o e=>oth b o (λh=>hSf (h▸hb)) e;refine q_e ⟨plainId_quiet PySem.F.plain_extend_loop _,codeAny_extend_loopS W.toS hn S hSf res n 0 _ _ _ rfl (Nat.zero_le _) hst2 hS₃ (ItemsOf.nil P) λs' acc' c' hm hS' hacc=>?_⟩;have e:=Moved.eq_with hm;rw[e];refine hR s'.heap s'.toks acc' c' (λb o hb hbI e=>hm.heap b o (λhmem=>?_) (oth b o hb e)) hS' hacc;rcases q_n.mp hmem with e'|hmem
 ·exact hb e'
 ·exact hbI (List.mem_singleton.mp hmem)
theorem JCP{R:Result->Shared->Prop}(hh:A.handled=none)(hs:SetAt s.heap a so es ep t)(hz:es.size<=100)(hc:byT w=false->t.led=true/\(JFH t\/t.plain=false))
  (fin:∀(h':Heap) (d:Drawn) (tk:Nat) (acc:Array Value) (c:Nat),(∀b o,s.heap.get? b=some o->h'.get? b=some o)->h'.get? s.heap.objs.size=some { cls:=.type "list",dict:=none,data:=.seq acc c,slots:=#[] }->acc.toList.Perm (es.toList.map (·.2)) ->
    R (.ok (.ret (.ref s.heap.objs.size))) { s with heap:=h',drawn:=d,toks:=tk }) :
  codeAny (model prog w) A (.builtin "proto.collect" ⟨[.ref a],[]⟩) R s:=by
 have hlt:a<s.heap.objs.size:=q_h hs.get;refine codeAny_builtin PySem.F.entry_proto_collect ?_;rw[Around.under_plainId PySem.F.plain_proto_collect _];show wpAny _ A.in1 (newList [] >>= λl=>again (.builtin "list.__iadd__" ⟨[l,.ref a],[]⟩)) _ _ s;refine q_b (wpAny_newObj_type ?_);refine q_e ⟨plainId_quiet PySem.F.plain_list_iadd _,codeAny_builtin PySem.F.entry_list_iadd ?_⟩;rw[Around.under_plainId PySem.F.plain_list_iadd _];show wpAny _ A.in1 (Builtin.List.listExtendWith (.ref s.heap.objs.size) (.ref a) (.ref s.heap.objs.size)) _ _ _;unfold Builtin.List.listExtendWith;have hs1:SetAt (hL s) a so es ep t:=hs.at λo e=>q_c _ e;have hT1:∀h',(∀o,(hL s).get? a=some o->h'.get? a=some o)->∀s2:Shared,s2.heap=h'->s2.TypeIs (.ref a) "set":=λh' k s2 e=>by
  subst e;exact⟨so,k _ hs1.get,hs.cls⟩
 refine q_b (wpAny_typeOf (hT1 _ (λo e=>e) _ rfl) ?_);have h1:Builtin.List.listSameRef (.ref s.heap.objs.size) (.ref a)=false:=by simp[Builtin.List.listSameRef,Nat.ne_of_gt hlt]
 have h2:(Value.type "set"==Value.type "list")=false:=by decide
 have h3:(Value.type "set"==Value.type "tuple")=false:=by decide
 simp only[h1,h2,h3,Bool.or_false,q_v,if_false];have hS:(hL s).get? s.heap.objs.size=some { cls:=.type "list",data:=.seq ([]:List Value).toArray }:=q_k _ rfl;have hsz:(hL s).objs.size=s.heap.objs.size+1:=Heap.size_push _ _;have items:∀ {acc:Array Value}{n:Nat}{P:Nat->Value->Prop}{xs:List Value},ItemsOf P acc n->n=xs.length->(∀i v,P i v->xs[i]? = some v)->acc.toList=xs:=λ{acc n P xs} hi hn hp=>by
  refine List.ext_getElem? λi=>?_
  by_cases o:i<acc.size
  · have e:acc[i]? = some acc[i]:=Array.getElem?_eq_getElem o
    rw[Array.getElem?_toList,e,hp i _ (hi.2 i _ e)]
  · rw[Array.getElem?_toList,Array.getElem?_eq_none (by omega),List.getElem?_eq_none (by have:=hi.1;omega)]
 refine q_b (JJh hs1 hz (λho=>?_) (λhB hp ord d po=>?_))
 ·have hI:(hL s).objs.size≠s.heap.objs.size:=by rw[hsz];omega
  have hIa:a≠(hL s).objs.size:=by rw[hsz];exact q_l (q_E hlt)
  refine q_b (wpAny_holding (JF2 (hT1 _ (λo e=>q_c _ e) _ rfl) ?_));refine itep (by decide +kernel) ?_
  have hSf:s.heap.objs.size ∉ [(hL s).objs.size,a]:=by
    simp only[q_n,List.not_mem_nil,or_false,not_or];exact⟨Ne.symm hI,Nat.ne_of_gt hlt⟩
  have hs2:=hs1.at (h':=(hL s).push (siO (rawInt 0) a es.size ep)) λo e=>q_c _ e;have hit:IsSI ((hL s).push (siO (rawInt 0) a es.size ep)) (hL s).objs.size (rawInt 0) ((0:Nat):Int) a es.size ep:=⟨_,q_k _ rfl,rfl,rfl⟩;cases hB:byT w with
  |true =>
    have pp:=JGj (w.params.setOrder a ep) es;have hps:(pickOrder (w.params.setOrder a ep) es).size=es.size:=by rw[<-q_F,pp.length_eq,q_F]
    refine JDX (s:={ s with heap:=(hL s).push (siO (rawInt 0) a es.size ep) }) (JPB (A:=A.in1) (so:=so) (es:=es) (ep:=ep) (t:=t) hh hIa hB) (by rw[hps,sizeLine_eq];omega) ⟨hit,hs2⟩ hSf (q_c _ hS) λh' tk acc c hk hS' hi=>?_
    refine fin h' s.drawn tk acc c (λb o e=>hk b o (q_l (q_h e)) (by rw[hsz];exact q_l (q_E (q_h e))) (q_c _ (q_c _ e))) hS' ?_
    rw[items (xs:=(pickOrder (w.params.setOrder a ep) es).toList.map (·.2)) hi (by simp) (λi v e=>by rw[List.getElem?_map,Array.getElem?_toList];exact e)]
    exact pp.map _
  |false =>
    obtain⟨hl,hc2⟩:=hc hB;have hf:t.place.size=es.size:=by
     have:=hs.fits;simp only[SetTable.fits,q_i,beq_iff_eq]at this;exact this.1
    have hd:(!t.plain&&decide (es.size > 1))=false:=by
     rcases ho with z|z|z
     ·rw[hB]at z;cases z
     ·rw[z];rfl
     ·rw[show decide (es.size > 1)=false from q_o (by omega),Bool.and_false]
    have hbel:JFH t:=by
     rcases hc2 with z'|z'
     ·exact z'
     ·rw[z',Bool.not_false,Bool.true_and]at hd;have:=of_decide_eq_false hd;exact JL7 (by omega)
    refine JDX (s:={ s with heap:=(hL s).push (siO (rawInt 0) a es.size ep) }) (W_one (A:=A.in1) (so:=so) (es:=es) (ep:=ep) (t:=t) hh hIa hB hd hl hf hbel) (by rw[sizeLine_eq];omega) ⟨0,hit,hs2,hbel.1⟩ hSf (q_c _ hS) λh' tk acc c hk hS' hi=>?_
    refine fin h' s.drawn tk acc c (λb o e=>hk b o (q_l (q_h e)) (by rw[hsz];exact q_l (q_E (q_h e))) (q_c _ (q_c _ e))) hS' ?_
    rw[items (xs:=es.toList.map (·.2)) hi (by simp) (λi v e=>by rw[List.getElem?_map,Array.getElem?_toList];exact e)]
 ·have hI:(hL s).objs.size+1≠s.heap.objs.size:=by rw[hsz];omega
  have hIa:a≠(hL s).objs.size+1:=by rw[hsz];exact q_l (q_E (q_E hlt))
  obtain⟨to,eto⟩:∃to:Obj,to={ cls:=.type "tuple",data:=.seq (ord.map λi:Nat=>rawInt i).toArray }:=⟨_,rfl⟩;rw[<-eto];have k1:∀b o,(hL s).get? b=some o->(((hL s).push to).push (siO (.ref (hL s).objs.size) a es.size ep)).get? b=some o:=λb o e=>q_c _ (q_c _ e);have hfz:to.isFreed=false:=by rw[eto];rfl
  have hTg:(((hL s).push to).push (siO (.ref (hL s).objs.size) a es.size ep)).get? (hL s).objs.size=some to:=q_c _ (q_k _ hfz);have hgI:(((hL s).push to).push (siO (.ref (hL s).objs.size) a es.size ep)).get? ((hL s).objs.size+1)=some (siO (.ref (hL s).objs.size) a es.size ep):=by
    have:=q_k (o:=siO (.ref (hL s).objs.size) a es.size ep) ((hL s).push to) rfl
    rwa [show((hL s).push to).objs.size=(hL s).objs.size+1 from Heap.size_push _ _]at this
  refine q_b (wpAny_holding (JF2 (hT1 _ (λo e=>k1 a o e) _ rfl) ?_));refine itep (by decide +kernel) ?_
  have hSf:s.heap.objs.size ∉ [(hL s).objs.size+1,a,(hL s).objs.size]:=by
    simp only[q_n,List.not_mem_nil,or_false,not_or];exact⟨Ne.symm hI,Nat.ne_of_gt hlt,by rw[hsz];omega⟩
  have hs2:=hs1.at (h':=((hL s).push to).push (siO (.ref (hL s).objs.size) a es.size ep)) λo e=>k1 a o e;have hit:IsSI (((hL s).push to).push (siO (.ref (hL s).objs.size) a es.size ep)) ((hL s).objs.size+1) (.ref (hL s).objs.size) ((0:Nat):Int) a es.size ep:=⟨_,hgI,rfl,rfl⟩;have hTd:to.data=.seq (ord.map λi:Nat=>rawInt i).toArray 0:=by rw[eto]
  refine JDX (s:={ s with drawn:=d,heap:=((hL s).push to).push (siO (.ref (hL s).objs.size) a es.size ep) }) (JNH (A:=A.in1) (so:=so) (es:=es) (ep:=ep) (t:=t) hh hIa (q_l (Nat.lt_succ_self _)) hTd po) (by rw[sizeLine_eq];omega) ⟨hit,hs2,hTg⟩ hSf (k1 _ _ hS) λh' tk acc c hk hS' hi=>?_
  refine fin h' d tk acc c (λb o e=>hk b o (q_l (q_h e)) (by rw[hsz];exact q_l (q_E (q_E (q_h e)))) (k1 b o (q_c _ e))) hS' ?_
  have hl:ord.length=es.size:=by rw[po.length_eq,List.length_range]
  have hb:∀p∈ord,p<es.size:=λp hp=>List.mem_range.mp (po.mem_iff.mp hp);have e0:∀(l:List Nat),(∀p∈l,p<es.size)->∀(i:Nat) (v:Value),(l[i]?.bind λp:Nat=>es[p]?).map (λe:Int×Value=>e.2)=some v->(l.filterMap λp=>es[p]?.map (·.2))[i]? = some v:=by
    intro l
    induction l with
    |nil=>intro _ i v e;simp at e
    |cons p l ih =>
     intro h i v e;have g:=Array.getElem?_eq_getElem (h p (by simp))
     rw[List.filterMap_cons_some (b:=(es[p]'(h p (by simp))).2) (by rw[g];rfl)]
     cases i with
     |zero=>simpa[g] using e
     |succ i=>simpa using ih (λq hq=>h q (by simp[hq])) i v (by simpa using e)
  have e1:∀(l:List Nat),(∀p∈l,p<es.size)->(l.filterMap λp=>es[p]?.map (·.2)).length=l.length:=by
    intro l
    induction l with
    |nil=>intro _;rfl
    |cons p l ih =>
     intro h;have g:=Array.getElem?_eq_getElem (h p (by simp))
     rw[List.filterMap_cons_some (b:=(es[p]'(h p (by simp))).2) (by rw[g];rfl),List.length_cons,List.length_cons,ih λq hq=>h q (by simp[hq])]
  rw[items (xs:=ord.filterMap λp=>es[p]?.map (·.2)) hi (by rw[e1 ord hb,hl]) (e0 ord hb)]
  refine(po.filterMap _).trans ?_;have:(List.range es.size).filterMap (λp=>es[p]?.map (·.2))=es.toList.map (·.2):=by
    refine List.ext_getElem? λi=>?_
    by_cases o:i<es.size
    ·have hx:=e0 (List.range es.size) (λp hp=>List.mem_range.mp hp) i (es[i]).2 (by simp[o])
     rw[hx];simp[o]
    ·rw[List.getElem?_eq_none (by rw[e1 _ (λp hp=>List.mem_range.mp hp),List.length_range];omega),List.getElem?_eq_none (by simp;omega)]
  rw[this]
theorem JFN{Q:List Value->Shared->Prop}(hh:A.handled=none)(hs:SetAt s.heap a so es ep t)(hz:es.size<=100)(hc:byT w=false->t.led=true/\(JFH t\/t.plain=false))
  (hQ:∀h' d tk (vs:List Value),(∀b o,s.heap.get? b=some o->h'.get? b=some o)->vs.Perm (es.toList.map (·.2))->Q vs { s with heap:=h',drawn:=d,toks:=tk }) :
  wpAny (model prog w) A (collect (.ref a)) Q E s:=by
 unfold collect;refine q_b (wpAny_runValue (JCP hh hs hz hc λh' d tk acc c hk hS' hp=>?_));show wpAny _ A (load s.heap.objs.size >>= _) _ _ _;refine q_b (wpAny_load hS' ?_);exact q_e (hQ h' d tk _ hk hp)
end
end VI
end
section
namespace VI
open PySem PySem.Spec PyProof.Rows L2
def keyOf:Int×Value->Str
 |(_,.str s _)=>s
 |_=>""
structure TSet(prog:Program)(w:World)(h:Heap)(a:Addr)(so:Obj)(es:Array (Int×Value))(ep:Nat)(t:SetTable)(l:List Str):Prop where
 at':SetAt h a so es ep t
 ex:so.ExactSet
 el:ElemsOf (strKind prog w) es.toList
 nd:(es.toList.map keyOf).Nodup
 mem:∀k,k∈es.toList.map keyOf↔k∈l
 sz:es.size<=l.length
 led:byT w=false->t.led=true/\(es.size=0\/t.plain=false)
def TS(prog:Program)(w:World)(h:Heap)(a:Addr)(l:List Str):Prop:=∃so es ep t,TSet prog w h a so es ep t l
theorem TS.at{prog:Program}{w:World}{h h':Heap}{a:Addr}{l:List Str}(x:TS prog w h a l)(e:∀o,h.get? a=some o->h'.get? a=some o):TS prog w h' a l :=
 let ⟨so,es,ep,t,y⟩:=x;⟨so,es,ep,t,y.at'.at e,y.ex,y.el,y.nd,y.mem,y.sz,y.led⟩
section
variable{prog:Program}{w:World}{A:Around}{E:Vq}{s:Shared}{a:Addr}{so:Obj}{es:Array (Int×Value)}{ep:Nat}{t:SetTable}{l:List Str}{k:Str}{tk:Tok}
theorem JLq(x:Value)
  (h:Q₁ (.ref s.heap.objs.size) { s with heap:=s.heap.push { cls:=.type "set",dict:=none,data:=.set #[] 0 (.fresh 0 0 (!byT w)) } }) :
  codeAny (model prog w) A (.call (.builtin "set.__new__") ⟨[.type "set",x],[]⟩) (wants Q₁ E) s:=by
 refine codeAny_of_tree ?_;show wpAny _ A.in1 (do checkBuiltinCall "set.__new__" ⟨[.type "set",x],[]⟩;again (.builtin "set.__new__" ⟨[.type "set",x],[]⟩)) _ _ s
 refine q_b (wpAny_of_eq (PySem.F.newCall_set_1 x) (q_e ⟨plainId_quiet PySem.F.plain_set_new _,codeAny_builtin PySem.F.entry_set_new ?_⟩));rw[Around.under_plainId PySem.F.plain_set_new _];unfold Builtin.«set.__new__» Builtin.Frozenset.newClass;have hsub:=sub_set_self;obtain⟨hp,g,d,tk,os⟩:=s
 dsimp only
 wp_walk
 refine wpAny_askSetting (q_e ?_)
 dsimp only
 simp only[newObj];refine q_b (wpAny_alloc (q_e ?_));exact q_e h
set_option maxHeartbeats 3200000 in
end
end VI
end
section
namespace VI
open PySem PySem.W
namespace So
noncomputable def inn{α:Type}(n:Nat):KasT α->Bool
 |.ret _=>true
 |.ask i j k=>decide (i<n)&&decide (j<n)&&inn n (k true)&&inn n (k false)
theorem go_congr{α:Type}{n:Nat}{lt lt':Nat->Nat->Bool}(h:∀i j,i<n->j<n->lt i j=lt' i j):∀t:KasT α,inn n t=true->kGo lt t=kGo lt' t
 |.ret a,_=>rfl
 |.ask i j k,hk=>by
  simp only[inn,q_i,q_D]at hk;simp only[kGo];rw[h i j hk.1.1.1 hk.1.1.2];refine go_congr h _ ?_;cases lt' i j
  ·exact hk.2
  ·exact hk.1.2
noncomputable def wel(n:Nat):KasT (Array Nat)->Bool
 |.ret a=>decide (a.size<=n)&&a.toList.all (λi=>decide (i<n))
 |.ask i j k=>decide (i<n)&&decide (j<n)&&wel n (k true)&&wel n (k false)
theorem wel2:wel 2 (kas_sort 2)=true:=by decide +kernel
theorem wel3:wel 3 (kas_sort 3)=true:=by decide +kernel
theorem wel4:wel 4 (kas_sort 4)=true:=by decide +kernel
theorem wel5:wel 5 (kas_sort 5)=true:=by decide +kernel
theorem wel_all{n:Nat}(h2:2<=n)(h7:n<=5):wel n (kas_sort n)=true:=by
 obtain rfl|rfl|rfl|rfl:n=2\/n=3\/n=4\/n=5:=by omega
 ·exact wel2
 ·exact wel3
 ·exact wel4
 ·exact wel5
theorem JFQ{n:Nat}:∀t:KasT (Array Nat),wel n t=true->inn n t=true
 |.ret a,_=>rfl
 |.ask i j k,h=>by
  simp only[wel,q_i]at h;simp only[inn,q_i];exact⟨⟨h.1.1,JFQ _ h.1.2⟩,JFQ _ h.2⟩
theorem JNN{n:Nat}(h2:2<=n)(h7:n<=5):inn n (kas_sort n)=true:=JFQ _ (wel_all h2 h7)
theorem inn3:inn 3 (kas_sort 3)=true:=JNN (by omega) (by omega)
theorem ded_nd:∀xs:List Str,(dedS xs).Nodup
 | []=>List.nodup_nil
 |x::r=>by
  unfold dedS
  split
  ·exact ded_nd r
  ·rename_i h;exact List.nodup_cons.mpr ⟨h,ded_nd r⟩
theorem ded_mem{x:Str}:∀ {xs:List Str},x∈dedS xs↔x∈xs
 | []=>Iff.rfl
 |y::r=>by
  unfold dedS;have ih:=ded_mem (x:=x) (xs:=r)
  split
  ·rename_i h;rw[ih,q_n];exact⟨.inr,λz=>z.elim (λz=>z▸ded_mem.mp h) id⟩
  ·rw[q_n,q_n,ih]
end So
end VI
end
section
namespace VI
open PySem PySem.Spec PySem.W PyProof.Rows L2
theorem JEz{n:Nat}:∀t:KasT (Array Nat),So.wel n t=true->kIn n t=true
 |.ret a,_=>rfl
 |.ask i j k,h=>by
  simp only[So.wel,q_i]at h;simp only[kIn,q_i];exact⟨⟨h.1.1,JEz _ h.1.2⟩,JEz _ h.2⟩
theorem JDd{n:Nat}:∀t:KasT (Array Nat),So.wel n t=true->kOut n t=true
 |.ret a,h=>by
  simp only[So.wel,q_i]at h;exact h.2
 |.ask i j k,h=>by
  simp only[So.wel,q_i]at h;simp only[kOut,q_i];exact⟨JDd _ h.1.2,JDd _ h.2⟩
theorem JD0{n:Nat}:∀t:KasT (Array Nat),So.wel n t=true->kLen n t=true
 |.ret a,h=>by
  simp only[So.wel,q_i]at h;exact h.1
 |.ask i j k,h=>by
  simp only[So.wel,q_i]at h;simp only[kLen,q_i];exact⟨JD0 _ h.1.2,JD0 _ h.2⟩
theorem JG4{zs:List Str}{vs:List Value}(h:Vals (zs.map V.str) vs){i:Nat}(hi:i<zs.length):∃t,vs.getD i Value.none=.str (zs.getD i "") t:=by
 obtain⟨u,hu,ru⟩:=h.get (i:=i) (x:=V.str zs[i]) (by simp[hi])
 obtain⟨t,rfl⟩:∃t,u=.str zs[i] t:=ru;exact⟨t,by simp[List.getD_eq_getElem?_getD,hu,hi]⟩
theorem JPE{zs:List Str}{vs:List Value}(h:Vals (zs.map V.str) vs):∀v∈vs,∃x t,v=.str x t:=λv hv=>by
 obtain⟨i,hi,rfl⟩:=List.mem_iff_getElem.mp hv;have hl:=h.length;rw[q_g]at hl;obtain⟨t,e⟩:=JG4 h (i:=i) (by omega)
 exact⟨_,t,by simpa[List.getD_eq_getElem?_getD,hi] using e⟩
theorem JMC{zs:List Str}{vs:List Value}(h:Vals (zs.map V.str) vs)(l:List Nat)(hl:∀i∈l,i<zs.length):Vals ((l.map λi=>zs.getD i "").map V.str) (l.map λi=>vs.getD i Value.none):=by
 have:=JCe h l λi hi=>by rw[q_g];exact hl i hi
 have e:(l.map λi=>(zs.map V.str).getD i .non)=(l.map λi=>zs.getD i "").map V.str:=by
  rw[List.map_map];refine List.map_congr_left λi hi=>?_;have:=hl i hi;simp[List.getD_eq_getElem?_getD,this]
 rwa [e]at this
section
variable{prog:Program}{w:World}{A:Around}{E:Vq}{s s2:Shared}{L D:Addr}{m:Mq}{vs:List Value}{zs:List Str}{n:Nat}
theorem JDG{P:PySem.Fin->Shared->Prop}(hoL:s2.heap.get? D=some (seqObj "list" vs.toArray n))(h2:vs.length<2)
  (h:∀h' c,(∀b o,b≠D->s2.heap.get? b=some o->h'.get? b=some o)->h'.get? D=some (seqObj "list" vs.toArray c)->P (.done (.ret .none)) { s2 with heap:=h' }) :
  wpAny (model prog w) A (Builtin.«list.sort» ⟨[.ref D],[]⟩) P E s2:=by
 obtain⟨e1,ho1⟩:∃e1,(s2.heap.update D (Obj.mapSeq λ_=>(#[]:Array Value))).get? D=some (seqObj "list" #[] e1):=⟨_,get?_update_seq hoL λ_=>#[]⟩;rw[list_sort_plain];refine q_b (listItems_at hoL rfl ?_);refine q_b (listUpdate_at hoL rfl ?_ (by rw[q_f,sizeLine_eq];omega) (Nat.zero_le _))
 refine q_b (seqEpoch_at ho1 rfl ?_);refine q_b (wpAny_newTuple ?_ (by show vs.length<=_;rw[sizeLine_eq];omega))
 refine q_b (wpAny_newList ?_ (Nat.zero_le _));refine wpAny_holding ?_
 dsimp only
 have hn2:vs.toArray.size<2:=by rw[q_f];omega
 rw[if_pos hn2,if_pos hn2];refine q_b (q_e ?_);refine q_b ?_;refine(show wpAny (model prog w) A (pure ((),SortSt.mk' general' (vs.toArray.zip vs.toArray) #[] 7 none)) _ _ _ from q_e ?_)
 dsimp only
 have ho3:(((s2.heap.update D (Obj.mapSeq λ_=>(#[]:Array Value))).push { cls:=Value.type "tuple",data:=Data.seq vs.toArray }).push { cls:=Value.type "list",data:=Data.seq #[] }).get? D=some (seqObj "list" #[] e1):=q_c _ (q_c _ ho1);have hout:Array.map (λx:Keyed=>x.snd) (arrOf (SortSt.mk' general' (vs.toArray.zip vs.toArray) #[] 7 none))=vs.toArray:=by
  show Array.map (λx:Keyed=>x.snd) (vs.toArray.zip vs.toArray)=vs.toArray;apply Array.ext';simp[List.map_snd_zip]
 refine q_b (seqEpoch_at ho3 rfl ?_);refine q_b (listUpdate_at ho3 rfl ?_ (Nat.zero_le _) (by rw[hout,q_f,sizeLine_eq];omega))
 have hfl:failedOf (SortSt.mk' general' (vs.toArray.zip vs.toArray) #[] 7 none)=none:=rfl;simp only[bne_self_eq_false,q_v,if_false];refine q_e ?_;rw[hout];obtain⟨c2,hc2⟩:∃c2,((((s2.heap.update D (Obj.mapSeq λ_=>(#[]:Array Value))).push { cls:=Value.type "tuple",data:=Data.seq vs.toArray }).push { cls:=Value.type "list",data:=Data.seq #[] }).update D (Obj.mapSeq λ_=>vs.toArray)).get? D=some (seqObj "list" vs.toArray c2):=⟨_,get?_update_seq ho3 λ_=>vs.toArray⟩;refine h _ c2 (λb o hne q=>?_) hc2;rw[Heap.get?_update_ne _ _ _ _ hne];refine q_c _ (q_c _ ?_);rw[Heap.get?_update_ne _ _ _ _ hne];exact q
theorem JHQ(hn:s.heap.Ns L m)(keep:∀b o,s.heap.get? b=some o->s2.heap.get? b=some o)(hDn:s.heap.get? D=none)(ho:s2.heap.get? D=some (seqObj "list" vs.toArray n))(tv:Vals (zs.map V.str) vs)(h5:zs.length<=5)
  (h:∀h' c out,(∀b o,b≠L->s.heap.get? b=some o->h'.get? b=some o)->h'.Ns L m->h'.get? D=some (seqObj "list" (List.toArray out) c)->Vals ((JBq zs).map V.str) out->P (.done (.ret .none)) { s2 with heap:=h' }) :
  wpAny (model prog w) A (Builtin.«list.sort» ⟨[.ref D],[]⟩) P E s2:=by
 have hl:=tv.length;rw[q_g]at hl;have ne:∀b o,s.heap.get? b=some o->b≠D:=λb o q z=>by rw[z,hDn]at q;cases q
 have hLD:D≠L:=by
  obtain⟨o,_,_,q,_⟩:=hn;exact Ne.symm (ne L o q)
 by_cases h2:zs.length<2
 ·have e:JBq zs=zs:=by unfold JBq;rw[if_pos h2]
  rw[e]at h;refine JDG ho (by omega) λh' c hk hd=>?_
  have kp:∀b o,s.heap.get? b=some o->h'.get? b=some o:=λb o q=>hk b o (ne b o q) (keep b o q);exact h h' c vs (λb o _ q=>kp b o q) (hn.at' λo q=>kp L o q) hd tv
 ·have F:=(JDf hn).kept keep;have N:=(JAx (h:=s.heap) (L:=L)).grown keep;refine kas_list_sort (T:=.type "str") F N ho hLD ?_ (λp hp=>?_) (by omega) (by omega) (λe1 h' F' N' v hv=>?_) (by decide) (by decide) λe1 h' F' N'=>?_
  · cases e:(below s.heap L).get? D with
    |none=>rfl
    |some o=>rw[(below_get.mp e).2]at hDn;cases hDn
  · exact ne _ _ (JAx (h:=s.heap) (L:=L) p hp).1
  · obtain⟨x,t,rfl⟩:=JPE tv v hv
    exact Looks.of_pure rfl
  · rw[<-hl]
    refine JF5 (n:=zs.length) (lt:=λi j=>ltS (zs.getD i "") (zs.getD j "")) (λi j C hi hj c=>?_) _ (JEz _ (So.wel_all (by omega) h5)) ?_
    ·unfold kas_ask;obtain⟨t1,e1⟩:=JG4 tv hi;obtain⟨t2,e2⟩:=JG4 tv hj;rw[e1,e2];exact kas_lt_str c
    ·refine KasFin.intro F' N' (UpdF.head λp hp=>ne _ _ (JAx (h:=s.heap) (L:=L) p hp).1) λh2' c F2 N2=>?_;have kp2:∀b o,b≠L->s.heap.get? b=some o->h2'.get? b=some o:=JBs F2 N2 λp hp=>q_s _ hp;refine h h2' c _ kp2 F2.ns (N2 _ (.head _)).1 ?_;have e:JBq zs=(kGo (λi j=>ltS (zs.getD i "") (zs.getD j "")) (kas_sort zs.length)).toList.map λi=>zs.getD i "":=by unfold JBq;rw[if_neg h2]
     rw[e];exact JMC tv _ λi hi=>JDh _ (JDd _ (So.wel_all (by omega) h5)) i hi
end
end VI
end
section
namespace VI
open PySem PySem.Spec PyProof.Rows L2
open PySem.W (KasT kas_sort kas_ask KatTups KatLex KasFin UpdF)
theorem JIP(h5:zs.length<=5):(JBq zs).length<=5:=by
 unfold JBq
 split
 ·exact h5
 ·rw[q_g,q_F];have:=JFI (lt:=λi j=>ltS (zs.getD i "") (zs.getD j "")) _ (JD0 _ (So.wel_all (n:=zs.length) (by omega) h5))
  omega
section
variable{X:Cx}{B:Bs}{C:Cn}{CX:CXT}{XX:Nat->Hp->Prop}{G:List (Str×GK)}
theorem JDu:JBM X (.builtin "sorted") (λxs H Q=>∃l zs,xs=[.ref l]/\SqL X.K H l (zs.map V.str)/\zs.length<=5/\∀p,H p=none->Q (.ref p) (upd H p (.lst ((JBq zs).map V.str)))):=by
 intro pins s σ H xs us Q I r ⟨l,zs,e,hq,h5,q⟩;subst e;cases r with
 |cons ra rb =>
  cases rb;cases ra;obtain⟨vs,rv,pl,hz⟩:=I.list hq;have hl:=rv.length;rw[q_g]at hl;obtain⟨m,hn,_⟩:=I.loc;refine PySem.Calls.call_function_entry kind_sorted plain_sorted entry_sorted (args_sorted1 _) ?_;unfold Builtin.«sorted»;refine q_b (m:=checkCount "sorted" 1 1 _) (q_e ?_);refine q_b (collect_list pl.isList ?_ (by rw[sizeLine_eq];omega))
  refine q_b (wpAny_newList ?_ (by rw[sizeLine_eq];omega))
  have hsz:((s.heap.push (seqObj "list" #[] 0)).update s.heap.objs.size (Obj.mapSeq (·++vs.toArray))).objs.size=s.heap.objs.size+1:=by
   rw[Heap.size_update,size_push']
  have hoL:(((s.heap.push (seqObj "list" #[] 0)).update s.heap.objs.size (Obj.mapSeq (·++vs.toArray))).push (seqObj "list" vs.toArray 0)).get? (s.heap.objs.size+1)=some (seqObj "list" vs.toArray 0):=by
   rw[<-hsz];exact q_k _ rfl
  have keep:∀b o,s.heap.get? b=some o->(((s.heap.push (seqObj "list" #[] 0)).update s.heap.objs.size (Obj.mapSeq (·++vs.toArray))).push (seqObj "list" vs.toArray 0)).get? b=some o:=λb o q=>by
   have hlt:b<s.heap.objs.size:=q_h q;rw[Heap.get?_push_ne _ _ _ (by rw[hsz];exact q_l (q_E hlt)),Heap.get?_update_ne _ _ _ _ (q_l hlt),Heap.get?_push_ne _ _ _ (q_l hlt)]
   exact q
  have hDn:s.heap.get? (s.heap.objs.size+1)=none:=Heap.get?_none_of_le (Nat.le_succ _);show wpAny _ _ _ _ _ { s with heap:=((s.heap.push (seqObj "list" #[] 0)).update s.heap.objs.size (Obj.mapSeq (·++vs.toArray))).push (seqObj "list" vs.toArray 0) }
  rw[hsz];refine q_b (wpAny_holding (wpAny_call_entry slot_list_sort ⟨_,hoL,rfl⟩ entry_list_sort (JHQ (s:=s) hn keep hDn hoL rv h5 λh' c out kp hn' hd tv=>?_) (args_list_sort _)));refine⟨_,rfl,q_e ⟨_,rfl,?_⟩⟩;have ok:ObjOk X.prog X.w (upd H (s.heap.objs.size+1) (.lst ((JBq zs).map V.str))) h' (s.heap.objs.size+1) (.lst ((JBq zs).map V.str)):=by
   refine⟨?_,out,c,tv,hd⟩;have:=JIP h5;rw[q_g,sizeLine_eq];omega
  obtain⟨h0,I2⟩:=JDw (D:=s.heap.objs.size+1) I hn hn' kp hDn ok;exact⟨.ref (s.heap.objs.size+1),_,I2,rfl,q _ h0⟩
end
end VI
end
section
namespace VI
open PySem PySem.Spec PyProof.Rows L2
section
variable{X:Cx}{B:Bs}{C:Cn}{CX:CXT}{XX:Nat->Hp->Prop}{G:List (Str×GK)}
theorem JGK:∀ {ds:List D}{us:List V}{zs:List Str},strsOf ds=some zs->DenL B H ds us->us=zs.map V.str
 | [],us,zs,h,l=>by
  simp only[strsOf,q_j]at h;simp only[DenL]at l;subst h;subst l;rfl
 |d::ds,us,zs,h,l=>by
  simp only[DenL]at l;obtain⟨v,r,e,dv,l⟩:=l;subst e;cases d with
  |str x =>
   simp only[strsOf,q_d]at h;obtain⟨zs',h1,rfl⟩:=h;simp only[Den]at dv;subst dv;rw[JGK h1 l];rfl
  |_=>simp[strsOf]at h
theorem JEF{H:Hp}:∀(zs:List Str) (H':Hp),DenL B H' (zs.map PyData.str) (zs.map V.str)
 | [],_=>by simp only[List.map_nil,DenL]
 |z::zs,H'=>by
  simp only[List.map_cons,DenL];exact⟨_,_,rfl,by simp only[Den],JEF (H:=H) zs H'⟩
theorem JCq(hu:X.A.units+200<cLine):JBM X (.builtin "sorted") (λxs H Q=>((∃l ys,xs=[.ref l]/\SqL X.K H l ys/\ys.length<2/\∀p,H p=none->Q (.ref p) (upd H p (.lst ys))) \/
  (∃l ys ks c,xs=[.ref l]/\SqL X.K H l ys/\IA X.K H ks ys/\2<=ks.length/\ks.length<=5/\(∀k∈ks,(k.map At.kd).head? = some c)/\(∀k∈ks,∀k'∈ks,k.map At.kd=k'.map At.kd)/\∀p,H p=none->Q (.ref p) (upd H p (.lst ((JCR ks).map λi=>ys.getD i .non))))) \/
  (∃l zs,xs=[.ref l]/\SqL X.K H l (zs.map V.str)/\zs.length<=5/\∀p,H p=none->Q (.ref p) (upd H p (.lst ((JBq zs).map V.str))))):=by
 intro pins s σ H xs us Q I r h;rcases h with (h|h)|h
 ·exact JB3 pins s σ H xs us Q I r h
 ·exact JDn hu pins s σ H xs us Q I r h
 ·exact JDu pins s σ H xs us Q I r h
theorem JLg(X:Cx)(XX:Nat->Hp->Prop)(g:Gk X B C CX XX G)(e:Expr)(args:List Expr)(y:E)(h:xRaw G X.env.scope.names false e=some (.srt,args))(ha:PA X args (RA B C XX y))(hs:∀a∈args,∀es env,starEach (a::es) env=(false,eval a env)::starEach es env)(hc:cnt y=args.length):PE X e (RE B C XX (.xop .srt y)):=by
 unfold xRaw at h
 split at h
 ·rename_i f p a pos;rcases JEU h with z|⟨_,rfl,rfl,h2⟩|⟨z,_⟩
  ·cases z
  rotate_left
  ·rcases z with z|z<;>cases z
  ·obtain⟨_,h3,h4⟩:=JA1 h2;refine PE.imp (JCS (es:=[]) (JCq g.units) h3 (g.nam _ h4) (by decide +kernel) ha (by decide) (by decide) (hs a (by simp) [] X.env) rfl) λσ H Q ⟨δ,ok,k⟩=>?_
   simp only[ev]at k;refine RA.of (W:=λr H=>KE B XX r H Q) ok (λ_ _ z=>z) (λ_ z=>z) k λds vs H1 s1 d1 k1=>?_;have k1:=KE.mono g s1 k1;rcases JKB ds with ⟨ys,rfl⟩|⟨b1,b2,b3⟩
   rotate_left
   ·rw[b2]at k1;exact fF k1
   ·simp only[DenL,Den]at d1;obtain⟨v,r,e,⟨q,us,e1,sq,l⟩,e2⟩:=d1;subst e2;subst e1;subst e;simp only[xD]at k1;unfold srtD at k1
    split at k1
    ·rename_i hsm;refine .inl (.inl ⟨q,us,rfl,g.K▸sq,by rw[<-DenL.len _ _ l];exact hsm,λp3 hp3=>?_⟩)
     have sm:Same H1 (upd H1 p3 (.lst us)):=JBD hp3;refine k1 _ _ sm ?_;simp only[Den];exact⟨p3,_,rfl,SqL.of JAI,DenL.mono sm _ _ l⟩
    ·unfold srtA at k1;cases hka:JC7 ys with
     |none =>
      rw[hka]at k1;simp only at k1;unfold srtS at k1;cases hst:strsOf ys with
      |none=>rw[hst]at k1;exact fF k1
      |some zs =>
       rw[hst]at k1;simp only at k1
       split at k1
       ·rename_i h5;have eu:=JGK hst l;subst eu;refine .inr ⟨q,zs,rfl,g.K▸sq,h5,λp3 hp3=>?_⟩;have sm:Same H1 (upd H1 p3 (.lst ((JBq zs).map V.str))):=JBD hp3;refine k1 _ _ sm ?_;simp only[Den];exact⟨p3,_,rfl,SqL.of JAI,JEF (H:=H1) _ _⟩
       ·exact fF k1
     |some ks =>
      rw[hka]at k1;simp only at k1
      split at k1
      ·rename_i hc;obtain⟨c2,c5,cs⟩:=hc;obtain⟨c,s1,s2⟩:=JMi cs;refine .inl (.inr ⟨q,us,ks,c,rfl,g.K▸sq,JFm g.K hka l,c2,c5,s1,s2,λp3 hp3=>?_⟩);have sm:Same H1 (upd H1 p3 (.lst ((JCR ks).map λi=>us.getD i .non))):=JBD hp3;refine k1 _ _ sm ?_;simp only[Den];refine⟨p3,_,rfl,SqL.of JAI,DenL.mono sm _ _ (JGL l _ λi hi=>?_)⟩;have:=JGH c2 c5 i hi;have:=JEZ hka;omega
      ·exact fF k1
 all_goals first|(cases h;done)|(split at h<;>cases h)
theorem x_srt:XOk B C CX G .srt where
 val:=λX XX g e args y h _=>JLg X XX g e args y h
 itr:=by
  intro X XX g tg e args y h ha hs hc;unfold xRaw at h
  split at h
  ·rcases JFc h with ⟨z,_⟩|z
   ·cases z
   ·exact JD1 g (JLg X XX g _ args y (JED z) ha hs hc) λδ=>by simp only[evI,ev]
  all_goals first|(cases h;done)|(split at h<;>cases h)
 tgt:=by
  intro X XX g ts kt pt e args y h ha hs hc;unfold xTgt at h
  split at h
  ·split at h<;>cases h
  ·split at h<;>cases h
  ·cases h
end
end VI
end
section
namespace VI
open PySem
structure Tb(t:SetTable)(p:List Nat):Prop where
 mask:t.mask=7
 dum:t.dummies=#[]
 pl:t.place=p.toArray
 inc:p.Pairwise (· < ·)
 le:∀j∈p,j<=7
theorem JAo{j:Nat}:SetTable.below #[] j=0:=rfl
theorem JDZ{x j:Nat}:SetTable.below #[x] j=if x<j then 1 else 0:=by
 simp[SetTable.below,SetTable.below.go]
theorem JDq{x y j:Nat}(h:x<y):SetTable.below #[x,y] j=if y<j then 2 else if x<j then 1 else 0:=by
 simp only[SetTable.below,SetTable.below.go,Array.getD,q_f,List.length_cons,List.length_nil];simp
theorem JE0{x y z j:Nat}(h:x<y)(h2:y<z):SetTable.below #[x,y,z] j=if z<j then 3 else if y<j then 2 else if x<j then 1 else 0:=by
 simp only[SetTable.below,SetTable.below.go,Array.getD,q_f,List.length_cons,List.length_nil];simp
 by_cases h3:y<j
 ·simp[h3]
 ·simp[h3]
  by_cases h4:z<j
  ·omega
  ·by_cases h5:x<j
   ·simp[h4,h5]
   ·simp[h4,h5]
theorem JH5(h:Tb t p)(hl:p.length<=3)(j:Nat):t.slot j=if j∈p then .live (p.idxOf j) else .empty:=by
 unfold SetTable.slot SetTable.has;rw[h.dum,h.pl];have hi:=h.inc
 match p,hl,hi with
 | [],_,_=>simp[JAo]
 | [x],_,_ =>
  rw[JDZ]
  by_cases e:x<j
  ·have:j≠x:=by omega
   simp[e,this,JAo]
  ·by_cases e2:j=x
   ·subst e2;simp
   ·have:x≠j:=Ne.symm e2;simp[e,e2,this,JAo]
 | [x,y],_,hi =>
  simp at hi;rw[JDq hi]
  by_cases e:y<j
  ·have h1:j≠y:=by omega
   have h2:j≠x:=by omega
   simp[e,h1,h2,JAo]
  ·by_cases e2:x<j
   ·have h2:j≠x:=by omega
    have h2':¬x=j:=by omega
    by_cases e3:y=j
    ·subst e3;simp[e2,h2,List.idxOf_cons,beq_eq_false_iff_ne.mpr h2']
    ·simp[e,e2,e3,h2,Ne.symm e3,JAo]
   ·by_cases e3:x=j
    ·subst e3;simp[e]
    ·have h1:j≠y:=by omega
     simp[e,e2,e3,h1,Ne.symm e3,JAo]
 | [x,y,z],_,hi =>
  simp at hi;obtain⟨⟨a1,a2⟩,a3⟩:=hi;rw[JE0 a1 a3]
  by_cases e:z<j
  ·have h1:j≠y:=by omega
   have h2:j≠x:=by omega
   have h3:j≠z:=by omega
   simp[e,h1,h2,h3,JAo]
  ·by_cases e2:y<j
   ·have h2:j≠x:=by omega
    have h2':¬x=j:=by omega
    have h3:j≠y:=by omega
    have h3':¬y=j:=by omega
    by_cases e3:z=j
    ·subst e3;simp[e2,h2,h3,List.idxOf_cons,beq_eq_false_iff_ne.mpr h2',beq_eq_false_iff_ne.mpr h3']
    ·simp[e,e2,e3,h2,h3,Ne.symm e3,JAo]
   ·by_cases e4:x<j
    ·have h2:j≠x:=by omega
     have h2':¬x=j:=by omega
     have h5:j≠z:=by omega
     by_cases e3:y=j
     ·subst e3;simp[e,e4,h2,List.idxOf_cons,beq_eq_false_iff_ne.mpr h2']
     ·simp[e,e2,e3,e4,h2,h5,Ne.symm e3,JAo]
    ·by_cases e3:x=j
     ·subst e3;simp[e,e2]
     ·have h1:j≠y:=by omega
      have h5:j≠z:=by omega
      simp[e,e2,e3,e4,h1,h5,Ne.symm e3,JAo]
structure Pb(p:SetTable.Probe):Prop where
 more:p.more=0
 at':p.j=p.i
 lt:p.i<8
 dum:p.dummy=none
theorem JD9(h:Tb t l)(q:Pb p):Pb (t.advance p)/\(t.advance p).j=(p.i*5+1+p.perturb / 32) % 8/\(t.advance p).perturb=p.perturb / 32:=by
 unfold SetTable.advance;rw[if_neg (by rw[q.more];omega)]
 simp only[SetTable.leap,h.mask];refine⟨⟨?_,rfl,Nat.mod_lt _ (by omega),q.dum⟩,by first|rfl|trivial,by first|rfl|trivial⟩
 simp only[SetTable.runEnd];rw[if_neg (by omega)]
 omega
theorem JFo(h:Tb t l)(x:Int):Pb (t.probeStart x)/\(t.probeStart x).perturb=SetTable.bits x:=by
 unfold SetTable.probeStart;simp only[h.mask];refine⟨⟨?_,rfl,Nat.mod_lt _ (by omega),rfl⟩,by first|rfl|trivial⟩
 simp only[SetTable.runEnd];rw[if_neg (by omega)]
 omega
inductive Good(t:SetTable)(l:List Nat):Nat->SetTable.Probe->Prop where
 |stop {k:Nat}{p:SetTable.Probe}:p.j ∉ l->Good t l (k+1) p
 |step {k:Nat}{p:SetTable.Probe}:Good t l k (t.advance p)->Good t l (k+1) p
theorem JGv(h:Tb t l)(hl:l.length<=2)(q:Pb p)(z:p.perturb=0):Good t l 3 p:=by
 obtain⟨q1,j1,e1⟩:=JD9 h q;obtain⟨q2,j2,e2⟩:=JD9 h q1;rw[z]at j1 e1;rw[e1]at j2
 by_cases c0:p.j∈l
 ·by_cases c1:(t.advance p).j∈l
  ·by_cases c2:(t.advance (t.advance p)).j∈l
   ·exfalso;rw[<-q1.at']at j2;rw[q.at']at c0;rw[j1]at c1 j2;rw[j2]at c2;have lt:=q.lt;have key:∀i:Fin 8,i.val≠(i.val*5+1+0 / 32) % 8/\i.val≠((i.val*5+1+0 / 32) % 8*5+1+0 / 32 / 32) % 8/\(i.val*5+1+0 / 32) % 8≠((i.val*5+1+0 / 32) % 8*5+1+0 / 32 / 32) % 8:=by decide
    obtain⟨k1,k2,k3⟩:=key ⟨p.i,lt⟩;simp only at k1 k2 k3
    match l,hl with
    | [],_=>simp at c0
    | [a],_ =>
     simp only[List.mem_singleton]at c0 c1;omega
    | [a,b],_ =>
     simp only[q_n,List.not_mem_nil,or_false]at c0 c1 c2;omega
   ·exact .step (.step (.stop c2))
  ·exact .step (.stop c1)
 ·exact .stop c0
theorem Good.mono{t:SetTable}{l:List Nat}{k:Nat}{p:SetTable.Probe}(g:Good t l k p):Good t l (k+1) p:=by
 induction g with
 |stop h=>exact .stop h
 |step _ ih=>exact .step ih
theorem JIl(h:Tb t l)(hl:l.length<=2):∀(n:Nat) {p:SetTable.Probe},Pb p->p.perturb<32 ^ n->Good t l (n+3) p
 |0,p,q,z=>JGv h hl q (by simpa using z)
 |n+1,p,q,z=>by
  obtain⟨q1,j1,e1⟩:=JD9 h q;refine .step (JIl h hl n q1 ?_);rw[e1];rw[Nat.pow_succ]at z;exact Nat.div_lt_of_lt_mul (by omega)
theorem JGh(h:Tb t l)(hl:l.length<=2)(x:Int):Good t l 16 (t.probeStart x):=by
 obtain⟨q,e⟩:=JFo h x;refine JIl h hl 13 q ?_;rw[e];unfold SetTable.bits;have:=Int.emod_lt_of_pos x (show(0:Int)<2 ^ 64 by decide)
 have:=Int.emod_nonneg x (show(2 ^ 64:Int)≠0 by decide)
 omega
inductive Path(t:SetTable)(l:List Nat)(j:Nat):SetTable.Probe->Prop where
 |here {p:SetTable.Probe}:p.j=j->Path t l j p
 |step {p:SetTable.Probe}:p.j∈l->Path t l j (t.advance p)->Path t l j p
theorem Path.mono{t t':SetTable}{l l':List Nat}{j:Nat}(hm:t'.mask=t.mask)(hl:∀x∈l,x∈l'){p:SetTable.Probe}(h:Path t l j p):Path t' l' j p:=by
 induction h with
 |here e=>exact .here e
 |step e _ ih =>
  refine .step (hl _ e) ?_;have:∀p,t'.advance p=t.advance p:=λp=>by unfold SetTable.advance;rw[hm]
  rw[this];exact ih
theorem JFS(h:Tb t l)(hl:l.length<=3)(hs:Nat->Int)(x:Int):∀(k f:Nat) (p:SetTable.Probe),Pb p->Good t l k p->k<=f ->
  (∃j,SetTable.probe.go t hs x f p=some (.empty j none)/\j ∉ l/\j<8/\Path t l j p/\∀j',j'∈l->hs (l.idxOf j')=x->¬Path t l j' p) \/
  ∃j p' k',SetTable.probe.go t hs x f p=some (.candidate j (l.idxOf j) (t.advance p'))/\j∈l/\hs (l.idxOf j)=x/\Pb (t.advance p')/\Good t l k' (t.advance p')/\k'<k/\p'.j=j/\(∀j',Path t l j' (t.advance p')->Path t l j' p)/\∀j',hs (l.idxOf j')=x->Path t l j' p->j'=j\/Path t l j' (t.advance p')
 |0,_,_,_,g,_=>by cases g
 |k+1,0,_,_,_,hf=>absurd hf (by omega)
 |k+1,f+1,p,q,g,hf=>by
  rw[SetTable.probe.go,JH5 h hl]
  by_cases c:p.j∈l
  · rw[if_pos c]
    simp only;have g':Good t l k (t.advance p):=by
     cases g with
     |stop z=>exact absurd c z
     |step z=>exact z
    by_cases e:hs (l.idxOf p.j)=x
    ·rw[if_pos (by simpa using e)]
     refine .inr ⟨p.j,p,k,rfl,c,e,(JD9 h q).1,g',by omega,rfl,λj' w=>.step c w,λj' hx w=>?_⟩
     cases w with
     |here z=>exact .inl z.symm
     |step _ w=>exact .inr w
    ·rw[if_neg (by simpa using e)]
     rcases JFS h hl hs x k f (t.advance p) (JD9 h q).1 g' (by omega) with ⟨j,a1,a2,a3,a4,a5⟩|⟨j,p',k',a1,a2,a3,a4,a5,a6,a7,a8,a9⟩
     ·refine .inl ⟨j,a1,a2,a3,.step c a4,λj' m1 m2 w=>?_⟩;cases w with
      |here z=>exact e (z▸m2)
      |step _ w=>exact a5 j' m1 m2 w
     ·refine .inr ⟨j,p',k',a1,a2,a3,a4,a5,by omega,a7,λj' w=>.step c (a8 j' w),λj' m2 w=>?_⟩
      cases w with
      |here z=>exact absurd (z▸m2) e
      |step _ w=>exact a9 j' m2 w
  · rw[if_neg c]
    simp only;rw[q.dum];refine .inl ⟨p.j,rfl,c,by rw[q.at'];exact q.lt,.here rfl,λj' m1 m2 w=>?_⟩
    cases w with
    |here z=>exact c (z▸m1)
    |step z _=>exact c z
end VI
end
section
namespace VI
open PySem PySem.Spec PyProof.Rows
section
variable{prog:Program}{w:World}{A:Around}{E:Vq}{s:Shared}
abbrev iK(prog:Program)(w:World):KeyKind prog w Int:=intKind prog w
noncomputable abbrev tH(prog:Program)(w:World)(k:List Int):Int:=tupleKeyHash (iK prog w) k
theorem JKY{a:Addr}(hk:IsTupleKey (iK prog w) s.heap k a)(h:Q false s):wpAny (model prog w) A (ofAClassStatement 8 (.ref a)) Q E s:=by
 have hT:=hk.typeIs;obtain⟨o,items,n,ho,hc,hd,hi⟩:=hk;unfold ofAClassStatement;refine q_b (wpAny_typeOf hT ?_)
 dsimp only
 rw[if_pos (by decide)]
 refine q_b (q_e ?_);rw[if_neg (by decide)]
 refine q_b (wpAny_seqItems ho hd ?_);refine q_b ?_;show wpAny _ _ (forIn items _ _) _ _ s;rw[<-Array.forIn_toList];refine wpAny_forIn_list _ (λrest r s'=>r.1=none/\s'=s/\∀v∈rest,carriedByValue v=true) _ ?_ ?_ _ _ ⟨rfl,rfl,hi.byValue⟩
 ·rintro v rest r s' ⟨hr,rfl,hall⟩;have e:ofAClassStatement 7 v=pure false:=by
   have:=hall v List.mem_cons_self;cases v with
   |ref a=>simp[carriedByValue]at this
   |_=>first|rfl|simp[ofAClassStatement]|(unfold ofAClassStatement;rfl)
  rw[e];refine q_b (q_e ?_);simp only[q_v,if_false];exact q_e ⟨rfl,rfl,λu hu'=>hall u (q_s _ hu')⟩
 ·rintro⟨r1,r2⟩ s' ⟨hr,rfl,_⟩;simp only at hr;subst hr;exact q_e h
theorem JQd{b:Addr}(hk:IsTupleKey (iK prog w) s.heap k b)(hy:∀y∈ys,∃k' c,y=.ref c/\IsTupleKey (iK prog w) s.heap k' c)(h:Q false s):wpAny (model prog w) A (searchCouldBeSeen (.ref b) ys) Q E s:=by
 unfold searchCouldBeSeen;refine q_b ?_;refine wpAny_forIn_list _ (λrest r s'=>r.1=none/\s'=s/\∀y∈rest,∃k' c,y=.ref c/\IsTupleKey (iK prog w) s.heap k' c) _ ?_ ?_ _ _ ⟨rfl,rfl,hy⟩
 ·rintro y rest r s' ⟨hr,rfl,hall⟩;obtain⟨k',c,rfl,hc⟩:=hall y List.mem_cons_self;have hrest:∀y∈rest,∃k' c,y=.ref c/\IsTupleKey (iK prog w) s'.heap k' c:=λu hu'=>hall u (q_s _ hu')
  dsimp only
  by_cases e:(b==c)=true
  ·rw[if_pos (by rw[e];rfl)]
   exact q_e ⟨rfl,rfl,hrest⟩
  ·have e':(b==c)=false:=by simpa using e
   rw[if_neg (by rw[e'];simp[carriedByValue])]
   refine q_b (wpAny_eqIsQuiet_tuple hk ?_);simp only[Bool.not_true,q_v,if_false];refine q_b (wpAny_eqIsQuiet_tuple hc ?_);simp only[Bool.not_true,q_v,if_false];refine q_b (JKY hk ?_);simp only[q_v,if_false];refine q_b (JKY hc ?_);simp only[q_v,if_false];exact q_e ⟨rfl,rfl,hrest⟩
 ·rintro⟨r1,r2⟩ s' ⟨hr,rfl,_⟩;simp only at hr;subst hr;exact q_e h
end
end VI
end
section
namespace VI
open PySem PySem.Spec PyProof.Rows
noncomputable def sHA(es:Array (Int×Value))(i:Nat):Int:=(es[i]?.map (·.1)).getD 0
structure KSet(prog:Program)(w:World)(h:Heap)(a:Addr)(so:Obj)(es:Array (Int×Value))(ep:Nat)(t:SetTable)(p:List Nat)(ks:List (List Int))(Pi:List Int->Addr->Prop):Prop where
 at':SetAt h a so es ep t
 ex:so.ExactSet
 tb:Tb t p
 n1:es.size=p.length
 n2:ks.length=p.length
 el:∀(i:Nat) k,ks[i]? = some k->∃b,Pi k b/\es[i]? = some (tH prog w k,.ref b)
 nd:ks.Nodup
 path:∀(i j:Nat) k,p[i]? = some j->ks[i]? = some k->Path t p j (t.probeStart (tH prog w k))
 led:byT w=false->t.led=true
 plain:t.plain=true
section
variable{prog:Program}{w:World}{A:Around}{E:Vq}{s:Shared}{a:Addr}{so:Obj}{es:Array (Int×Value)}{ep:Nat}{t:SetTable}{p:List Nat}{ks:List (List Int)}{kx:List Int}{bx:Addr}{Pi:List Int->Addr->Prop}
theorem KSet.key(hT:∀k b,Pi k b->IsTupleKey (iK prog w) s.heap k b)(T:KSet prog w s.heap a so es ep t p ks Pi){i:Nat}(hi:i<p.length):∃k b,ks[i]? = some k/\es[i]? = some (tH prog w k,.ref b)/\IsTupleKey (iK prog w) s.heap k b:=by
 have h2:i<ks.length:=by rw[T.n2];exact hi
 obtain⟨b,e2,e1⟩:=T.el i ks[i] (q_q h2);exact⟨_,b,q_q h2,e1,hT _ _ e2⟩
theorem JIa{j:Nat}(h:j∈p):p[p.idxOf j]? = some j/\p.idxOf j<p.length:=by
 have:=List.idxOf_lt_length_iff.mpr h;exact⟨by rw[q_q this,List.getElem_idxOf],this⟩
theorem JIj:∀ {p:List Nat},p.Nodup->∀ {i j:Nat},p[i]? = some j->p.idxOf j=i
 | [],_,i,j,e=>by simp at e
 |x::r,h,0,j,e=>by
  simp only[List.getElem?_cons_zero,q_j]at e;subst e;exact List.idxOf_cons_self
 |x::r,h,i+1,j,e=>by
  rw[List.getElem?_cons_succ]at e;obtain⟨h1,h2⟩:=List.nodup_cons.mp h;have:(x==j)=false:=beq_eq_false_iff_ne.mpr λz=>h1 (z▸List.mem_of_getElem? e);rw[List.idxOf_cons,this,cond_false,JIj h2 e]
theorem JEt(hu:A.units<cLine)(hT:∀k b,Pi k b->IsTupleKey (iK prog w) s.heap k b)(T:KSet prog w s.heap a so es ep t p ks Pi)(hl:p.length<=3)(hx:IsTupleKey (iK prog w) s.heap kx bx)
  (h1:kx∈ks->Q (.there none) s) (h2:kx ∉ ks->∀j,j ∉ p->j<8->Path t p j (t.probeStart (tH prog w kx))->Q (.free j false) s) :
  ∀(k f:Nat) (stand:Option SetTable.Probe),Pb (stand.getD (t.probeStart (tH prog w kx)))->Good t p k (stand.getD (t.probeStart (tH prog w kx)))->k<=f->k<=200 ->
    (∀j',Path t p j' (stand.getD (t.probeStart (tH prog w kx)))->Path t p j' (t.probeStart (tH prog w kx))) ->
    (∀(i j:Nat),p[i]? = some j->ks[i]? = some kx->Path t p j (stand.getD (t.probeStart (tH prog w kx)))) ->
    wpAny (model prog w) A (setSearchFrom a (.ref bx) (tH prog w kx) true f stand) Q E s
 |0,_,_,_,g,_,_,_,_=>by cases g
 |k+1,0,_,_,_,hf,_,_,_=>absurd hf (by omega)
 |k+1,f+1,stand,q,g,hf,hk,hback,hpath=>by
  obtain⟨p0,hp0⟩:∃p0,p0=stand.getD (t.probeStart (tH prog w kx)):=⟨_,rfl⟩;rw[<-hp0]at q g hback hpath;unfold setSearchFrom;refine q_b (wpAny_setState_of T.at'.get T.at'.data T.at'.fits ?_)
  dsimp only
  rw[if_neg (by rw[SetTable.gaveWay,T.tb.mask];decide),<-hp0]
  have hhash:∀i,i<p.length->∃k b,ks[i]? = some k/\es[i]? = some (tH prog w k,.ref b)/\IsTupleKey (iK prog w) s.heap k b/\sHA es i=tH prog w k:=λi hi=>by
    obtain⟨k,b,e1,e2,e3⟩:=KSet.key hT T hi;exact⟨k,b,e1,e2,e3,by unfold sHA;rw[e2];rfl⟩
  have fuel:10*SetTable.turns t.mask=220:=by rw[T.tb.mask];rfl
  rcases JFS T.tb hl (sHA es) (tH prog w kx) (k+1) 220 p0 q g (by omega) with ⟨j,a1,a2,a3,a4,a5⟩|⟨j,p',k',a1,a2,a3,a4,a5,a6,a7,a8,a9⟩
  · have hp:t.probe (sHA es) (tH prog w kx) p0=some (.empty j none):=by unfold SetTable.probe;rw[fuel];exact a1
    have zz:∀M,t.probe (sHA es) (tH prog w kx) p0=M->M=some (.empty j none):=λM e=>e.symm.trans hp
    split
    rotate_left
    · rename_i heq;exact(heq _ hp).elim
    rename_i met heq;cases Option.some.inj (zz _ heq)
    dsimp only
    refine q_e (h2 (λhm=>?_) j a2 a3 (hback j a4));obtain⟨i,hi,e⟩:=List.getElem_of_mem hm;have hi2:i<p.length:=by rw[<-T.n2];exact hi
    obtain⟨k2,b,e1,e2,e3,e4⟩:=hhash i hi2;have e1':ks[i]? = some kx:=by rw[q_q hi,e]
    rw[e1]at e1';cases e1';have pi:p[i]? = some p[i]:=q_q hi2;have hix:p.idxOf p[i]=i:=by
      have nd:p.Nodup:=T.tb.inc.imp λh=>q_l h;exact JIj nd pi
    exact a5 p[i] (List.getElem_mem hi2) (by rw[hix];exact e4) (hpath i p[i] pi e1)
  · have hp:t.probe (sHA es) (tH prog w kx) p0=some (.candidate j (p.idxOf j) (t.advance p')):=by unfold SetTable.probe;rw[fuel];exact a1
    have zz:∀M,t.probe (sHA es) (tH prog w kx) p0=M->M=some (.candidate j (p.idxOf j) (t.advance p')):=λM e=>e.symm.trans hp
    split
    rotate_left
    · rename_i heq;exact(heq _ hp).elim
    rename_i met heq;cases Option.some.inj (zz _ heq)
    dsimp only
    obtain⟨ij,il⟩:=JIa a2;obtain⟨k2,b,e1,e2,e3,e4⟩:=hhash _ il;have go:wpAny (model prog w) A (do
       let some (_,y):=es[p.idxOf j]? | unsupported "internal:set-entry"
       let equal<-holding [y] (eqBool y (.ref bx))
       let (es',_,t')<-setState a
       if true&&equal then return .there none
       let some same:=t'.sameMemory t.moves t.mask|unsupported "set.changed-during-lookup:is-the-new-block-at-the-old-address"
       let still<-match (if same then t'.slot j else .empty) with
        |.live i'=>match es'[i']? with
         |some (_,y')=>do pure (if<-isSame y' y then some i' else none)
         |none=>pure none
        |_=>pure none
       match still with
       |none=>rule "set.search.anew";setSearchFrom a (.ref bx) (tH prog w kx) true f none
       |some i'=>if equal then return .there (some i') else setSearchFrom a (.ref bx) (tH prog w kx) true f (some (t.advance p'))) Q E s:=by
      rw[e2]
      dsimp only
      refine q_b (wpAny_holding (wpAny_eqBool_tuple hu e3 hx ?_));refine q_b (wpAny_setState_of T.at'.get T.at'.data T.at'.fits ?_)
      dsimp only
      by_cases ek:k2=kx
      ·subst ek;rw[decide_eq_true rfl,if_pos (by decide)]
       exact q_e (h1 (List.mem_of_getElem? e1))
      ·rw[q_o ek,if_neg (by decide)]
       have sm:t.sameMemory t.moves t.mask=some true:=by unfold SetTable.sameMemory;rw[if_pos (by simp)]
       rw[sm]
       dsimp only
       rw[if_pos rfl,JH5 T.tb hl,if_pos a2]
       dsimp only
       rw[e2]
       dsimp only
       have is:isSame (.ref b) (.ref b)=pure true:=by unfold isSame;simp
       rw[is];refine q_b (q_e ?_);rw[if_pos rfl];refine q_b (q_e ?_)
       dsimp only
       rw[if_neg (by decide)]
       refine JEt hu hT T hl hx h1 h2 k' f (some (t.advance p')) a4 a5 (by omega) (by omega) (λj' w=>hback j' (a8 j' w)) λi j' m1 m2=>?_
       have il2:i<p.length:=(q_p.mp m1).1;obtain⟨k3,b3,f1,f2,f3,f4⟩:=hhash i il2;rw[f1]at m2;cases m2;have hix:p.idxOf j'=i:=by
        have nd:p.Nodup:=T.tb.inc.imp λh=>q_l h;exact JIj nd m1
       rcases a9 j' (by rw[hix];exact f4) (hpath i j' m1 f1) with z|z
       ·subst z;rw[hix]at e1;rw[f1]at e1;cases e1;exact absurd rfl ek
       ·exact z
    cases hled:t.led with
    |true =>
      rw[if_neg (by decide)]
      exact go
    |false =>
      rw[if_pos (by decide)]
      refine q_b (JQd hx (λy hy=>?_) ?_)
      ·obtain⟨e,he,rfl⟩:=List.mem_map.mp hy;have he:=(Array.mem_filter.mp (Array.mem_def.mpr he)).1;obtain⟨i,hi,ee⟩:=Array.getElem_of_mem he;obtain⟨k3,b3,f1,f2,f3,f4⟩:=hhash i (by rw[<-T.n1];exact hi)
       rw[Array.getElem?_eq_getElem hi]at f2;rw[<-ee,Option.some.inj f2];exact⟨k3,b3,rfl,f3⟩
      ·rw[if_neg (by decide)]
       exact go
end
end VI
end
section
namespace VI
open PySem PySem.Spec PyProof.Rows
def ins{α:Type}(l:List α)(i:Nat)(x:α):List α:=l.take i++x::l.drop i
theorem JBV{α:Type}{l:List α}{i:Nat}{x:α}(h:i<=l.length):(ins l i x).length=l.length+1:=by
 unfold ins;rw[q_u,List.length_cons,List.length_take,List.length_drop];omega
theorem JCv{α:Type}{l:List α}{i m:Nat}{x:α}(h:i<=l.length):(ins l i x)[m]? = if m<i then l[m]? else if m=i then some x else l[m - 1]?:=by
 unfold ins;have ht:(l.take i).length=i:=by rw[List.length_take];omega
 by_cases h1:m<i
 ·rw[if_pos h1,q_C (by omega),List.getElem?_take,if_pos h1]
 ·rw[if_neg h1,List.getElem?_append_right (by omega),ht]
  by_cases h2:m=i
  ·subst h2;simp
  ·rw[if_neg h2];obtain⟨d,hd⟩:∃d,m - i=d+1:=⟨m - i - 1,by omega⟩
   rw[hd,List.getElem?_cons_succ,List.getElem?_drop]
   congr 1
   omega
theorem ins_mem{α:Type}{l:List α}{i:Nat}{x y:α}:y∈ins l i x↔y=x\/y∈l:=by
 unfold ins;rw[List.mem_append,q_n];constructor
 ·rintro(h|h|h)
  ·exact .inr (List.mem_of_mem_take h)
  ·exact .inl h
  ·exact .inr (List.mem_of_mem_drop h)
 ·rintro(h|h)
  ·exact .inr (.inl h)
  ·rw[<-List.take_append_drop i l,List.mem_append]at h;rcases h with h|h
   ·exact .inl h
   ·exact .inr (.inr h)
theorem JIY{α:Type}(xs:Array α)(i:Nat)(x:α)(h:i<=xs.size):(SetTable.insertAt xs i x).toList=ins xs.toList i x:=by
 unfold SetTable.insertAt ins;simp;rw[List.take_of_length_le (by simp)]
theorem JJC{j:Nat}(hi:p.Pairwise (· < ·))(hl:p.length<=2)(hj:j ∉ p):SetTable.below p.toArray j<=p.length/\(ins p (SetTable.below p.toArray j) j).Pairwise (· < ·):=by
 match p,hl,hi,hj with
 | [],_,_,_=>simp[JAo,ins]
 | [x],_,_,hj =>
  simp at hj;rw[show([x]:List Nat).toArray=#[x] from rfl,JDZ]
  by_cases e:x<j
  ·simp[e,ins]
  ·have:j<x:=by omega
   simp[e,ins,this]
 | [x,y],_,hi,hj =>
  simp at hi hj;rw[show([x,y]:List Nat).toArray=#[x,y] from rfl,JDq hi]
  by_cases e:y<j
  ·have:x<j:=by omega
   simp[e,ins,hi,this]
  ·by_cases e2:x<j
   ·have h1:j<y:=by omega
    simp[e,e2,ins,hi,h1]
   ·have h1:j<y:=by omega
    have h2:j<x:=by omega
    simp[e,e2,ins,hi,h1,h2]
section
variable{prog:Program}{w:World}{A:Around}{E:Vq}{s:Shared}
theorem hbv{a:Addr}(hk:IsTupleKey (iK prog w) s.heap k a)(h:Q true s):wpAny (model prog w) A (hashByValue 8 (.ref a)) Q E s:=by
 have hT:=hk.typeIs;obtain⟨o,items,n,ho,hc,hd,hi⟩:=hk;unfold hashByValue;refine q_b (wpAny_specialOf hT F.slot_tuple_hash.lookup ?_)
 dsimp only
 refine q_b (wpAny_seqItems ho hd ?_);refine q_b ?_;show wpAny _ _ (forIn items _ _) _ _ s;rw[<-Array.forIn_toList];have hv:∀v∈items.toList,∃i t,v=.int i t:=by
  intro v hv;clear hd ho;generalize items.toList=l at hi hv
  induction hi with
  |nil=>simp at hv
  |cons h1 _ ih =>
   rcases q_n.mp hv with rfl|hv
   ·obtain⟨t,e⟩:=Value.isInt_shape h1;exact⟨_,t,e⟩
   ·exact ih hv
 refine wpAny_forIn_list _ (λrest r s'=>r.1=none/\s'=s/\∀v∈rest,∃i t,v=Value.int i t) _ ?_ ?_ _ _ ⟨rfl,rfl,hv⟩
 ·rintro v rest r s' ⟨hr,rfl,hall⟩;obtain⟨i,t,rfl⟩:=hall v List.mem_cons_self;have e:hashByValue 7 (.int i t)=pure true:=rfl;rw[e];refine q_b (q_e ?_);simp only[Bool.not_true,q_v,if_false];exact q_e ⟨rfl,rfl,λu hu'=>hall u (q_s _ hu')⟩
 ·rintro⟨r1,r2⟩ s' ⟨hr,rfl,_⟩;simp only at hr;subst hr;exact q_e h
end
end VI
end
section
namespace VI
open PySem PySem.Spec PyProof.Rows
def KS(prog:Program)(w:World)(h:Heap)(a:Addr)(l:List (List Int))(Pi:List Int->Addr->Prop):Prop:=∃so es ep t p ks,KSet prog w h a so es ep t p ks Pi/\(∀k,k∈ks↔k∈l)/\p.length<=l.length
theorem KS.at{prog:Program}{w:World}{h h':Heap}{a:Addr}{l:List (List Int)}{Pi:List Int->Addr->Prop}(x:KS prog w h a l Pi)(e:∀o,h.get? a=some o->h'.get? a=some o):KS prog w h' a l Pi:=by
 obtain⟨so,es,ep,t,p,ks,T,m,n⟩:=x;exact⟨so,es,ep,t,p,ks,⟨T.at'.at e,T.ex,T.tb,T.n1,T.n2,T.el,T.nd,T.path,T.led,T.plain⟩,m,n⟩
theorem JON{α:Type}{l:List α}{i:Nat}{x:α}(h:l.Nodup)(hx:x ∉ l):(ins l i x).Nodup:=by
 unfold ins;have h':=h;rw[<-List.take_append_drop i l,List.nodup_append]at h';rw[List.nodup_append,List.nodup_cons];refine⟨h'.1,⟨λz=>hx (List.mem_of_mem_drop z),h'.2.1⟩,λa ha b hb=>?_⟩;rcases q_n.mp hb with rfl|hb
 ·exact λz=>hx (z▸List.mem_of_mem_take ha)
 ·exact h'.2.2 a ha b hb
section
variable{prog:Program}{w:World}{A:Around}{E:Vq}{s:Shared}{a:Addr}{l:List (List Int)}{kx:List Int}{bx:Addr}{Pi:List Int->Addr->Prop}
theorem JMu(hu:A.units<cLine){Q:Bool->Shared->Prop}(hT:∀k b,Pi k b->IsTupleKey (iK prog w) s.heap k b)(hS:KS prog w s.heap a l Pi)(hl:l.length<=2)(hp:Pi kx bx)
  (h:∀h' b,Heap.SameBut a s.heap h'->KS prog w h' a (l++[kx]) Pi->Q b { s with heap:=h' }):wpAny (model prog w) A (setAddHashed a (.ref bx) (tH prog w kx)) Q E s:=by
 obtain⟨so,es,ep,t,p,ks,T,hm,hn⟩:=hS;have hp2:p.length<=2:=by omega
 have hx:=hT kx bx hp;have eself:s={ s with heap:=s.heap }:=by cases s;rfl
 unfold setAddHashed setAddHashedIn;refine wpAny_holding (q_b (wpAny_setState_of T.at'.get T.at'.data T.at'.fits ?_))
 dsimp only
 rw[if_neg (by simp[byScan,Value.scannable])]
 refine q_b ?_;unfold setSearch;obtain⟨q0,_⟩:=JFo T.tb (tH prog w kx);refine JEt hu hT T (by omega) hx (λhk=>?_) (λhk j hj hj8 hpath=>?_) 16 100000 none q0 (JGh T.tb hp2 _) (by omega) (by omega) (λj' z=>z) (λi j m1 m2=>T.path i j kx m1 m2)
 ·dsimp only
  refine q_e ?_;rw[eself];refine h s.heap _ (Heap.SameBut.refl a s.heap) ⟨so,es,ep,t,p,ks,T,λk=>?_,by rw[q_u];omega⟩
  rw[hm k,List.mem_append,List.mem_singleton];exact⟨.inl,λz=>z.elim id λz=>z▸(hm kx).mp hk⟩
 ·dsimp only
  refine q_b (wpAny_setState_of T.at'.get T.at'.data T.at'.fits ?_)
  dsimp only
  obtain⟨i,hi⟩:∃i,i=SetTable.below t.place j:=⟨_,rfl⟩;have hi':=hi;rw[T.tb.pl]at hi';obtain⟨ile,inc⟩:=JJC T.tb.inc hp2 hj;rw[<-hi']at ile inc;have hput:t.put j=({ t with place:=SetTable.insertAt t.place i j,dummies:=t.dummies },i):=by
    unfold SetTable.put;rw[<-hi,T.tb.dum];rfl
  rw[hput]
  dsimp only
  rw[if_pos T.plain];refine q_b (hbv hx ?_);rw[if_pos rfl];obtain⟨t',ht'⟩:∃t':SetTable,t'={ t with place:=SetTable.insertAt t.place i j,dummies:=t.dummies }:=⟨_,rfl⟩
  obtain⟨es',hes'⟩:∃es',es'=SetTable.insertAt es i (tH prog w kx,Value.ref bx):=⟨_,rfl⟩;rw[<-ht',<-hes'];have hpl:t'.place=(ins p i j).toArray:=by
    rw[ht'];have:=JIY t.place i j (by rw[T.tb.pl];simpa using ile)
    rw[T.tb.pl]at this;rw[show({ t with place:=SetTable.insertAt t.place i j,dummies:=t.dummies }:SetTable).place=SetTable.insertAt t.place i j from rfl,T.tb.pl,<-this]
  have hel:es'.toList=ins es.toList i (tH prog w kx,.ref bx):=by rw[hes'];exact JIY es i _ (by rw[T.n1];exact ile)
  have hle:es'.size=es.size+1:=by rw[<-q_F,hel,JBV (by rw[q_F,T.n1];exact ile),q_F]
  have hmask:t'.mask=t.mask:=by rw[ht']
  have hdum:t'.dummies=t.dummies:=by rw[ht']
  have hb1:es'.size<scanBound:=by rw[hle,T.n1];have:(3:Nat)<scanBound:=(by decide);omega
  refine q_b (wpAny_storeSet_of T.at'.get T.at'.data ?_ (fits_of_scanBound hb1));have g1:(s.heap.update a (Obj.putSet es' t')).get? a=some { so with data:=.set es' (ep+1) t' }:=by
    have:=Heap.get?_update_self (Obj.putSet es' t') T.at'.get (by rw[putSet_of es' t' T.at'.data];rfl)
    rw[putSet_of es' t' T.at'.data]at this;exact this
  have hfill:t'.tooFull=false:=by
    unfold SetTable.tooFull SetTable.fill;rw[hpl,hdum,T.tb.dum,hmask,T.tb.mask,q_f,JBV ile];exact q_o (by simp;omega)
  rw[hfill,if_neg (by simp)]
  refine q_e (h _ _ (Heap.SameBut.update s.heap a (Obj.putSet es' t')) ?_);have sb:=Heap.SameBut.update s.heap a (Obj.putSet es' t');have hjn:j ∉ p:=hj;have hTb:Tb t' (ins p i j):=⟨hmask.trans T.tb.mask,hdum.trans T.tb.dum,hpl,inc,λx hx=>by
    rcases ins_mem.mp hx with rfl|hx
    ·omega
    ·exact T.tb.le x hx⟩
  have hps:∀x:Int,t'.probeStart x=t.probeStart x:=λx=>by unfold SetTable.probeStart;rw[hmask]
  refine⟨_,es',ep+1,t',ins p i j,ins ks i kx,⟨⟨g1,T.at'.cls,rfl,?_⟩,T.ex,hTb,by rw[hle,T.n1,JBV ile],by rw[JBV (by rw[T.n2];exact ile),JBV ile,T.n2],λm k e=>?_,JON T.nd hk,λm j' k e1 e2=>?_,λhB=>by rw[ht'];exact T.led hB,by rw[ht'];exact T.plain⟩,λk=>?_,?_⟩
  · simp only[SetTable.fits,q_i,beq_iff_eq,q_D]
    refine⟨by rw[hpl,q_f,JBV ile,hle,T.n1],?_⟩
    unfold SetTable.fill;rw[hpl,hdum,T.tb.dum,hmask,T.tb.mask,q_f,JBV ile];simp;omega
  · rw[JCv (by rw[T.n2];exact ile)]at e
    rw[<-Array.getElem?_toList,hel,JCv (by rw[q_F,T.n1];exact ile)]
    split at e
    ·rename_i c;rw[if_pos c,Array.getElem?_toList];exact T.el m k e
    ·rename_i c;rw[if_neg c]
     split at e
     ·rename_i c2;cases e;rw[if_pos c2];exact⟨bx,hp,rfl⟩
     ·rename_i c2;rw[if_neg c2,Array.getElem?_toList];exact T.el _ k e
  · rw[hps]
    have mono:∀ {j' p0},Path t p j' p0->Path t' (ins p i j) j' p0:=λ{j' p0} z=>z.mono hmask λx hx=>ins_mem.mpr (.inr hx);rw[JCv ile]at e1;rw[JCv (by rw[T.n2];exact ile)]at e2
    split at e1
    ·rename_i c;rw[if_pos c]at e2;exact mono (T.path m j' k e1 e2)
    ·rename_i c;rw[if_neg c]at e2
     split at e1
     ·rename_i c2;cases e1;rw[if_pos c2]at e2;cases e2;exact mono hpath
     ·rename_i c2;rw[if_neg c2]at e2;exact mono (T.path _ j' k e1 e2)
  · rw[ins_mem,List.mem_append,List.mem_singleton,hm k]
    exact or_comm
  · rw[JBV ile,q_u]
    simp;omega
end
end VI
end
section
namespace VI
open PySem PySem.Spec PyProof.Rows L2
section
variable{prog:Program}{w:World}{A:Around}{E:Vq}{s:Shared}
theorem JHs{I:Addr}{fp wr:List Addr}{G:Array GenState->Array GenState->Prop}{n:Nat}{P:Nat->Value->Prop}{St:Nat->Shared->Prop}{R:Result->Shared->Prop}
  (W:WalksS prog w A.in1 I fp wr G n P St) (S:Addr) (hSf:S ∉ fp) (hu:A.in1.units<cLine) {N:Nat}(hN:N<=S) (hw:∀b∈wr,N<=b) (h0:Heap) {Pi:List Int->Addr->Prop}(hT:∀k b,Pi k b->b<N/\IsTupleKey (iK prog w) h0 k b) (xs:List (List Int)) (hn:xs.length=n) (hval:∀(i:Nat) v,P i v->∃k b,xs[i]? = some k/\v=.ref b/\Pi k b) (hb:n<=3) :
  ∀(k i:Nat) (s:Shared),n - i=k->i<=n->St i s->(∀b o,b<N->h0.get? b=some o->s.heap.get? b=some o)->KS prog w s.heap S (xs.take i) Pi ->
    (∀s',Moved (S::wr) G s s'->KS prog w s'.heap S xs Pi->R (.ok (.ret .none)) s') ->
    codeAny (model prog w) A (.builtin "set.update.loop" ⟨[.ref S,.ref I],[]⟩) R s:=by
 have hSw:S ∉ wr:=λh=>hSf (W.sub _ h);have hsub:∀b∈wr,b∈S::wr:=λb hb=>q_s _ hb;have nw:∀b,b<N->b ∉ wr:=λb lt hm=>Nat.lt_irrefl _ (q_m lt (hw b hm));intro k
 induction k with
 |zero =>
  intro i s hk hi hst hkp hS hR;have hin:i=n:=by omega
  subst hin;refine codeAny_builtin PyProof.Rows.F.entry_set_update_loop ?_;rw[Around.under_plainId PyProof.Rows.F.plain_set_update_loop _];show wpAny _ A.in1 (pyNext (.ref I) >>= _) _ _ s;refine q_b (W.done s _ _ hst λs' hm=>?_);show wpAny _ A.in1 (ret Value.none) _ _ s';rw[<-hn,List.take_length]at hS;exact q_e (hR s' (hm.mono hsub) (hS.at (λo e=>hm.heap S _ hSw e)))
 |succ k ih =>
  intro i s hk hi hst hkp hS hR;have hlt:i<n:=by omega
  refine codeAny_builtin PyProof.Rows.F.entry_set_update_loop ?_;rw[Around.under_plainId PyProof.Rows.F.plain_set_update_loop _];show wpAny _ A.in1 (pyNext (.ref I) >>= _) _ _ s;refine q_b (W.item i s _ _ hlt hst λv s' hP hst' hm=>?_);obtain⟨x,b,hx,rfl,hpi⟩:=hval i v hP;have hS':KS prog w s'.heap S (xs.take i) Pi:=hS.at (λo e=>hm.heap S _ hSw e);have hkp':∀b o,b<N->h0.get? b=some o->s'.heap.get? b=some o:=λb o lt e=>hm.heap b o (nw b lt) (hkp b o lt e);have hTs:∀k b,Pi k b->IsTupleKey (iK prog w) s'.heap k b:=λk b q=>by
    obtain⟨lt,o,items,nn,g1,g2⟩:=hT k b q;exact⟨o,items,nn,hkp' b o lt g1,g2⟩
  have hkx:=hTs x b hpi;show wpAny _ A.in1 (holding [Value.ref b] (setAdd S (.ref b)) >>= _) _ _ s';refine q_b (wpAny_holding ?_);unfold setAdd;refine wpAny_holding ?_;refine q_b (wpAny_pyHash_tuple hu hkx ?_);refine JMu (s:={ s' with toks:=s'.toks+(x.length+1) }) hu hTs hS' (by rw[List.length_take];omega) hpi λh' b hsb hS2=>?_
  have hSi:KS prog w h' S (xs.take (i+1)) Pi:=by
    rw[List.take_succ,hx];exact hS2
  refine q_e ⟨plainId_quiet PyProof.Rows.F.plain_set_update_loop _,ih (i+1) _ (by omega) hlt (W.frame _ s' _ _ hst' (Nat.le_add_right _ _) λb hb o e=>?_) (λb o lt e=>(hsb.2 b (q_l (q_m lt hN))).trans (hkp' b o lt e)) hSi λs'' hm'' hS''=>?_⟩
  · rw[hsb.2 b (λh:b=S=>hSf (by rw[<-h];exact hb))];exact e
  · refine hR s'' (Moved.trans W.gtrans ((hm.mono hsub).then_heap (Nat.le_add_right _ _) λb o hb e=>?_) hm'') hS''
    rw[hsb.2 b (λh:b=S=>hb (by rw[h];exact List.mem_cons_self))];exact e
set_option maxHeartbeats 3200000 in
theorem JD3{l:Addr}{items:Array Value}{xs:List (List Int)}{Pi:List Int->Addr->Prop}{Q:Vq}
  (hh:A.handled=none) (hu:A.units+20<cLine) (hl:s.heap.IsList l items) (hn:xs.length=items.size) (hi:∀(i:Nat) v,items[i]? = some v->∃k b,xs[i]? = some k/\v=.ref b/\Pi k b) (hTP:∀k b,Pi k b->IsTupleKey (iK prog w) s.heap k b) (hb:items.size<=3)
  (h:∀(h':Heap) (tk:Nat),KS prog w h' s.heap.objs.size xs Pi->(∀b o,b<s.heap.objs.size->s.heap.get? b=some o->h'.get? b=some o)->Q (.ref s.heap.objs.size) { s with heap:=h',toks:=tk }) :
  wpAny (model prog w) A (call (.type "set") [.ref l]) Q E s:=by
 obtain⟨c,tl,hmro⟩:=PySem.F.called_set.mro;have hmade:=PySem.F.called_set.made;have hsub:=PySem.F.called_set.sub;refine wpAny_call (codeAny_of_tree ?_);show wpAny _ _ (callAny (.type "set") _) _ _ _;refine q_e ⟨Code.quiet_builtin _ (by decide +kernel),codeAny_builtin PySem.F.entry_type_call ?_⟩
 rw[Around.under_plain (weight_type_call_type "set" [.ref l] []) rfl];have h1:=PySem.F.called_set.notType;have h2:=PySem.F.called_set.canCreate;have hct:=PySem.F.typeCall_set_1 (.ref l)
 repeat (any_goals (first|assumption|wp_step))
 refine codeAny_mono (JLq (.ref l) (E:=E) (Q₁:=λobj s₁=>obj=.ref s.heap.objs.size/\s₁={ s with heap:=s.heap.push { cls:=.type "set",dict:=none,data:=.set #[] 0 (.fresh 0 0 (!byT w)) } }) ⟨rfl,rfl⟩) λr s₁ hr=>?_
 cases r with
 |error e=>exact hr
 |ok fl =>
  cases fl with
  |ret obj =>
    obtain⟨rfl,rfl⟩:=hr;generalize hled:(!byT w)=led at *;have hS:(s.heap.push { cls:=.type "set",dict:=none,data:=.set #[] 0 (.fresh 0 0 led) }).get? s.heap.objs.size=some { cls:=.type "set",dict:=none,data:=.set #[] 0 (.fresh 0 0 led) }:=q_k _ rfl;have hT:Shared.TypeIs { s with heap:=s.heap.push { cls:=.type "set",dict:=none,data:=.set #[] 0 (.fresh 0 0 led) } } (.ref s.heap.objs.size) "set":=⟨_,hS,rfl⟩
    have hli:=PySem.F.called_set.init.lookup;have hbi:=PySem.F.called_set.init.bind (.ref s.heap.objs.size)
    repeat (any_goals (first|assumption|wp_step))
    refine codeAny_mono (codeAny_call_builtin (R:=wants (λr s₂=>r=.none/\∃h' tk,s₂={ s with heap:=h',toks:=tk }/\KS prog w h' s.heap.objs.size xs Pi /\
      (∀b o,b<s.heap.objs.size->s.heap.get? b=some o->h'.get? b=some o)) E) PySem.F.called_set.init.plain PySem.F.entry_set_init (check_set_init_1 hT ?_)) λr₂ s₂ hr₂=>?_
    ·obtain⟨ol,hol,hcl,nl,hdl⟩:=hl;obtain⟨ocls,odict,odata,oslots⟩:=ol;simp only at hcl hdl;subst hcl;subst hdl;have hol':(s.heap.push { cls:=.type "set",dict:=none,data:=.set #[] 0 (.fresh 0 0 led) }).get? l=some { cls:=.type "list",dict:=odict,data:=.seq items nl,slots:=oslots }:=q_c _ hol;have hsls:=PySem.F.sub_list_set;have hslf:=PySem.F.sub_list_frozenset;have hne:(Value.type "list"==Value.type "dict")=false:=by decide
     have hl1:(s.heap.push { cls:=.type "set",dict:=none,data:=.set #[] 0 (.fresh 0 0 led) }).IsList l items:=⟨_,hol',rfl,nl,rfl⟩;unfold Builtin.«set.__init__» noKeywords Builtin.Frozenset.updateFrom;generalize hPI:pyIter=PI
     wp_walk
     subst hPI;refine wpAny_pyIter_list hl1 ?_;refine q_b (wpAny_runValue ?_);have hlS:l<s.heap.objs.size:=q_h hol;have hh3:A.in1.in1.in1.handled=none:=by simp[hh]
     have hneI:l≠(s.heap.push { cls:=.type "set",dict:=none,data:=.set #[] 0 (.fresh 0 0 led) }).objs.size:=by
      rw[Heap.size_push];exact q_l (q_E hlS)
     have hSf:s.heap.objs.size ∉ [(s.heap.push { cls:=.type "set",dict:=none,data:=.set #[] 0 (.fresh 0 0 led) }).objs.size,l]:=by
      rw[Heap.size_push];simp only[q_n,List.mem_singleton,List.not_mem_nil,or_false,not_or];exact⟨q_l (Nat.lt_succ_self _),Nat.ne_of_gt hlS⟩
     refine JHs ((Walks.list hh3 _ l hneI items).toS) s.heap.objs.size
      hSf (by simp only[Around.in1_units];omega) (N:=s.heap.objs.size) (q_t _) (λb hb=>by rw[List.mem_singleton.mp hb,Heap.size_push];exact Nat.le_succ _) s.heap (λk b q=>by
        obtain⟨o,_,_,g1,_⟩:=id (hTP k b q);exact⟨q_h g1,hTP k b q⟩) xs hn hi hb (items.size - 0) 0 _ (by omega) (Nat.zero_le _)
      ⟨⟨_,q_k _ rfl,rfl,rfl⟩,(hl1.push _)⟩ (λb o lt e=>q_c _ (q_c _ e)) ?hS0 ?hR
     case hS0 =>
      have hget:((s.heap.push { cls:=.type "set",dict:=none,data:=.set #[] 0 (.fresh 0 0 led) }).push { cls:=.type "list_iterator",data:=.fields #[.ref l,.int 0 0] }).get? s.heap.objs.size
         = some { cls:=.type "set",dict:=none,data:=.set #[] 0 (.fresh 0 0 led) }:=q_c _ hS
      exact⟨_,#[],0,.fresh 0 0 led,[],[],⟨⟨hget,rfl,rfl,rfl⟩,⟨rfl,rfl,rfl⟩,⟨rfl,rfl,rfl,List.Pairwise.nil,λj h=>by simp at h⟩,rfl,rfl,λi k h=>by simp at h,List.nodup_nil,λi j k h=>by simp at h,λhB=>by rw[<-hled,hB];rfl,rfl⟩,λk=>by simp,Nat.zero_le _⟩
     case hR =>
      intro s' hm hS';obtain⟨h',g',d',tk',os'⟩:=s';have eg:g'=s.gens:=hm.gens;have ed:d'=s.drawn:=hm.drawn;have eo:os'=s.os:=hm.os;subst eg;subst ed;subst eo;show wpAny _ _ _ _ _ _;refine q_e ?_;show wpAny _ _ (ret Value.none) _ _ _;refine q_e ⟨rfl,h',tk',rfl,hS',λb o hb e=>?_⟩;have hb1:b≠s.heap.objs.size:=q_l hb;have hb2:b≠(s.heap.push { cls:=.type "set",dict:=none,data:=.set #[] 0 (.fresh 0 0 led) }).objs.size:=by
        rw[Heap.size_push];exact q_l (q_E hb)
      exact hm.heap b o (by simp only[q_n,List.mem_singleton,List.not_mem_nil,or_false,not_or];exact⟨hb1,hb2⟩) (q_c _ (q_c _ e))
    ·cases r₂ with
     |error e=>exact hr₂
     |ok fl₂ =>
      cases fl₂ with
      |ret r =>
        obtain⟨rfl,h',tk,rfl,hS',hk'⟩:=hr₂
        repeat (any_goals (first|assumption|wp_step))
        exact h _ _ hS' hk'
      |_=>exact hr₂.elim
  |_=>exact hr.elim
end
end VI
end
section
namespace VI
open PySem PySem.W
namespace So3
theorem irr:∀a:List Int,lexI a a=false
 | []=>rfl
 |a::r=>by simp only[lexI,if_true];exact irr r
theorem tr:∀ {a b c:List Int},lexI a b=true->lexI b c=true->lexI a c=true
 | [],[],_,h,_=>by cases h
 | [],_::_,[],_,h=>by cases h
 | [],_::_,_::_,_,_=>rfl
 |_::_,[],_,h,_=>by cases h
 |_::_,_::_,[],_,h=>by cases h
 |x::a,y::b,z::c,h1,h2=>by
  simp only[lexI]at h1 h2 ⊢
  by_cases e1:x=y
  ·subst e1;rw[if_pos rfl]at h1
   by_cases e2:x=z
   ·subst e2;rw[if_pos rfl]at h2 ⊢;exact tr h1 h2
   ·rw[if_neg e2]at h2 ⊢;exact h2
  ·rw[if_neg e1]at h1;have l1:=of_decide_eq_true h1
   by_cases e2:y=z
   ·subst e2;rw[if_neg e1];exact h1
   ·rw[if_neg e2]at h2;have l2:=of_decide_eq_true h2;rw[if_neg (by omega)]
    exact decide_eq_true (by omega)
theorem same:∀ {a b:List Int},lexI a b=false->lexI b a=false->a=b
 | [],[],_,_=>rfl
 | [],_::_,h,_=>by cases h
 |_::_,[],_,h=>by cases h
 |x::a,y::b,h1,h2=>by
  simp only[lexI]at h1 h2
  by_cases e:x=y
  ·subst e;rw[if_pos rfl]at h1 h2;rw[same h1 h2]
  ·rw[if_neg e]at h1;rw[if_neg (Ne.symm e)]at h2;have:=of_decide_eq_false h1;have:=of_decide_eq_false h2;omega
theorem asym(h:lexI a b=true):lexI b a=false:=by
 cases e:lexI b a with
 |false=>rfl
 |true=>have:=tr h e;rw[irr]at this;cases this
theorem tot(h:a≠b)(h1:lexI a b=false):lexI b a=true:=by
 cases e:lexI b a with
 |true=>rfl
 |false=>exact absurd (same h1 e) h
def Inc(l:List (List Int)):Prop:=l.Pairwise λa b=>lexI a b=true
theorem uniq:∀ {l l':List (List Int)},Inc l->Inc l'->l.Perm l'->l=l'
 | [],l',_,_,p=>(List.nil_perm.mp p).symm
 |a::r,[],_,_,p=>absurd p.symm (by simp)
 |a::r,b::t,h1,h2,p=>by
  obtain⟨m1,i1⟩:=List.pairwise_cons.mp h1;obtain⟨m2,i2⟩:=List.pairwise_cons.mp h2;have e:a=b:=by
   have ha:=p.mem_iff.mp (List.mem_cons_self (a:=a) (l:=r));have hb:=p.mem_iff.mpr (List.mem_cons_self (a:=b) (l:=t));rcases q_n.mp ha with e|ha
   ·exact e
   ·rcases q_n.mp hb with e|hb
    ·exact e.symm
    ·have:=tr (m1 b hb) (m2 a ha);rw[irr]at this;cases this
  subst e;rw[uniq i1 i2 p.cons_inv]
theorem s3_ok:∀ {l:List (List Int)},l.Nodup->l.length<=3->Inc (s3 l)/\(s3 l).Perm l
 | [],_,_=>⟨List.Pairwise.nil,List.Perm.refl _⟩
 | [a],_,_=>⟨by simp[s3,Inc],List.Perm.refl _⟩
 | [a,b],h,_=>by
  simp only[List.nodup_cons,List.mem_singleton,List.not_mem_nil,not_false_eq_true,List.nodup_nil,and_true]at h;simp only[s3]
  by_cases e:lexI b a=true
  ·rw[if_pos e];exact⟨by simp[Inc,e],List.Perm.swap _ _ _⟩
  ·rw[if_neg e];have:=tot (Ne.symm h) (by simpa using e)
   exact⟨by simp[Inc,this],List.Perm.refl _⟩
 | [a,b,c],h,_=>by
  simp only[List.nodup_cons,q_n,List.not_mem_nil,or_false,not_or,not_false_eq_true,List.nodup_nil,and_true]at h;obtain⟨⟨n1,n2⟩,n3⟩:=h;simp only[s3]
  by_cases e1:lexI b a=true
  ·rw[if_pos e1]
   by_cases e2:lexI c b=true
   ·rw[if_pos e2];have:=tr e2 e1;exact⟨by simp[Inc,e1,e2,this],(List.Perm.cons c (List.Perm.swap a b [])).trans ((List.Perm.swap a c [b]).trans (List.Perm.cons a (List.Perm.swap b c [])))⟩
   ·rw[if_neg e2];have f2:=tot (Ne.symm n3) (by simpa using e2)
    by_cases e3:lexI c a=true
    ·rw[if_pos e3];exact⟨by simp[Inc,e1,f2,e3],(List.Perm.cons b (List.Perm.swap a c [])).trans (List.Perm.swap a b [c])⟩
    ·rw[if_neg e3];have f3:=tot (Ne.symm n2) (by simpa using e3)
     exact⟨by simp[Inc,e1,f2,f3],List.Perm.swap a b [c]⟩
  ·rw[if_neg e1];have f1:=tot (Ne.symm n1) (by simpa using e1)
   by_cases e2:lexI c b=true
   ·rw[if_pos e2]
    by_cases e3:lexI c a=true
    ·rw[if_pos e3];exact⟨by simp[Inc,f1,e2,e3],(List.Perm.swap a c [b]).trans (List.Perm.cons a (List.Perm.swap b c []))⟩
    ·rw[if_neg e3];have f3:=tot (Ne.symm n2) (by simpa using e3)
     exact⟨by simp[Inc,f1,e2,f3],List.Perm.cons a (List.Perm.swap b c [])⟩
   ·rw[if_neg e2];have f2:=tot (Ne.symm n3) (by simpa using e2)
    have:=tr f1 f2;exact⟨by simp[Inc,f1,f2,this],List.Perm.refl _⟩
theorem s3_perm{l l':List (List Int)}(h:l.Nodup)(hl:l.length<=3)(p:l'.Perm l):s3 l'=s3 l:=by
 obtain⟨a1,a2⟩:=s3_ok h hl;obtain⟨b1,b2⟩:=s3_ok (p.nodup_iff.mpr h) (by rw[p.length_eq];exact hl)
 exact uniq b1 a1 (b2.trans (p.trans a2.symm))
theorem ded_nd:∀xs:List (List Int),(dedK xs).Nodup
 | []=>List.nodup_nil
 |x::r=>by
  unfold dedK
  split
  ·exact ded_nd r
  ·rename_i h;exact List.nodup_cons.mpr ⟨h,ded_nd r⟩
theorem ded_mem{x:List Int}:∀ {xs:List (List Int)},x∈dedK xs↔x∈xs
 | []=>Iff.rfl
 |y::r=>by
  unfold dedK;have ih:=ded_mem (x:=x) (xs:=r)
  split
  ·rename_i h;rw[ih,q_n];exact⟨.inr,λz=>z.elim (λe=>by subst e;exact ded_mem.mp h) id⟩
  ·rw[q_n,q_n,ih]
theorem ded_len:∀xs:List (List Int),(dedK xs).length<=xs.length
 | []=>q_t _
 |x::r=>by
  unfold dedK;have:=ded_len r
  split
  ·simp only[List.length_cons];omega
  ·simp only[List.length_cons];omega
theorem byR{n:Nat}(e:ks.length=n)(r:List Nat)(hr:∀i j,i<n->j<n->lexI (ks.getD i []) (ks.getD j [])=decide (r.getD i n<r.getD j n))(hi:So.inn n (kas_sort n)=true) :
  JC9 ks=(kGo (λi j=>decide (r.getD i n<r.getD j n)) (kas_sort n)).toList:=by
 subst e;unfold JC9;rw[So.go_congr hr _ hi]
theorem inn2:So.inn 2 (kas_sort 2)=true:=by decide +kernel
theorem inn3:So.inn 3 (kas_sort 3)=true:=by decide +kernel
theorem k01:(kGo (λi j=>decide ([0,1].getD i 2 < [0,1].getD j 2)) (kas_sort 2)).toList=[0,1]:=by decide +kernel
theorem k10:(kGo (λi j=>decide ([1,0].getD i 2 < [1,0].getD j 2)) (kas_sort 2)).toList=[1,0]:=by decide +kernel
theorem k012:(kGo (λi j=>decide ([0,1,2].getD i 3 < [0,1,2].getD j 3)) (kas_sort 3)).toList=[0,1,2]:=by decide +kernel
theorem k021:(kGo (λi j=>decide ([0,2,1].getD i 3 < [0,2,1].getD j 3)) (kas_sort 3)).toList=[0,2,1]:=by decide +kernel
theorem k102:(kGo (λi j=>decide ([1,0,2].getD i 3 < [1,0,2].getD j 3)) (kas_sort 3)).toList=[1,0,2]:=by decide +kernel
theorem k120:(kGo (λi j=>decide ([1,2,0].getD i 3 < [1,2,0].getD j 3)) (kas_sort 3)).toList=[2,0,1]:=by decide +kernel
theorem k201:(kGo (λi j=>decide ([2,0,1].getD i 3 < [2,0,1].getD j 3)) (kas_sort 3)).toList=[1,2,0]:=by decide +kernel
theorem k210:(kGo (λi j=>decide ([2,1,0].getD i 3 < [2,1,0].getD j 3)) (kas_sort 3)).toList=[2,1,0]:=by decide +kernel
theorem two(h:lexI a b=true):∀i j,i<2->j<2->lexI ([a,b].getD i []) ([a,b].getD j [])=decide ([0,1].getD i 2 < [0,1].getD j 2):=by
 intro i j hi hj;have h':=asym h;obtain rfl|rfl:i=0\/i=1:=by omega
 all_goals obtain rfl|rfl:j=0\/j=1:=by omega
 all_goals simp[irr,h,h']
theorem two'(h:lexI b a=true):∀i j,i<2->j<2->lexI ([a,b].getD i []) ([a,b].getD j [])=decide ([1,0].getD i 2 < [1,0].getD j 2):=by
 intro i j hi hj;have h':=asym h;obtain rfl|rfl:i=0\/i=1:=by omega
 all_goals obtain rfl|rfl:j=0\/j=1:=by omega
 all_goals simp[irr,h,h']
theorem tri{a b c:List Int}{r:List Nat}(h1:lexI a b=decide (r.getD 0 3<r.getD 1 3))(h2:lexI b a=decide (r.getD 1 3<r.getD 0 3))(h3:lexI a c=decide (r.getD 0 3<r.getD 2 3))(h4:lexI c a=decide (r.getD 2 3<r.getD 0 3))(h5:lexI b c=decide (r.getD 1 3<r.getD 2 3))(h6:lexI c b=decide (r.getD 2 3<r.getD 1 3)) :
  ∀i j,i<3->j<3->lexI ([a,b,c].getD i []) ([a,b,c].getD j [])=decide (r.getD i 3<r.getD j 3):=by
 intro i j hi hj;obtain rfl|rfl|rfl:i=0\/i=1\/i=2:=by omega
 all_goals obtain rfl|rfl|rfl:j=0\/j=1\/j=2:=by omega
 all_goals first|exact h1|exact h2|exact h3|exact h4|exact h5|exact h6|(rw[irr,q_o (Nat.lt_irrefl _)])
theorem sort2{ks:List (List Int)}(h2:2<=ks.length)(h3:ks.length<=3)(hn:ks.Nodup):(JC9 ks).map (λi=>ks.getD i [])=s3 ks:=by
 match ks,h2,h3,hn with
 | [a,b],_,_,hn =>
  simp only[List.nodup_cons,List.mem_singleton,List.not_mem_nil,not_false_eq_true,List.nodup_nil,and_true]at hn;simp only[s3]
  by_cases e:lexI b a=true
  ·rw[if_pos e,byR (ks:=[a,b]) (n:=2) rfl [1,0] (two' e) inn2];show List.map _ (kGo _ (kas_sort 2)).toList=_;rw[k10];rfl
  ·rw[if_neg e,byR (ks:=[a,b]) (n:=2) rfl [0,1] (two (tot (Ne.symm hn) (by simpa using e))) inn2]
   show List.map _ (kGo _ (kas_sort 2)).toList=_;rw[k01];rfl
 | [a,b,c],_,_,hn =>
  simp only[List.nodup_cons,q_n,List.not_mem_nil,or_false,not_or,not_false_eq_true,List.nodup_nil,and_true]at hn;obtain⟨⟨n1,n2⟩,n3⟩:=hn;simp only[s3]
  by_cases e1:lexI b a=true
  ·rw[if_pos e1];have g1:=asym e1
   by_cases e2:lexI c b=true
   ·rw[if_pos e2];have g2:=asym e2;have e3:=tr e2 e1;have g3:=asym e3;rw[byR (ks:=[a,b,c]) (n:=3) rfl [2,1,0] (tri (r:=[2,1,0]) g1 e1 g3 e3 g2 e2) inn3];show List.map _ (kGo _ (kas_sort 3)).toList=_;rw[k210];rfl
   ·rw[if_neg e2];have f2:=tot (Ne.symm n3) (by simpa using e2)
    have g2:=asym f2
    by_cases e3:lexI c a=true
    ·rw[if_pos e3];have g3:=asym e3;rw[byR (ks:=[a,b,c]) (n:=3) rfl [2,0,1] (tri (r:=[2,0,1]) g1 e1 g3 e3 f2 g2) inn3];show List.map _ (kGo _ (kas_sort 3)).toList=_;rw[k201];rfl
    ·rw[if_neg e3];have f3:=tot (Ne.symm n2) (by simpa using e3)
     have g3:=asym f3;rw[byR (ks:=[a,b,c]) (n:=3) rfl [1,0,2] (tri (r:=[1,0,2]) g1 e1 f3 g3 f2 g2) inn3];show List.map _ (kGo _ (kas_sort 3)).toList=_;rw[k102];rfl
  ·rw[if_neg e1];have f1:=tot (Ne.symm n1) (by simpa using e1)
   have g1:=asym f1
   by_cases e2:lexI c b=true
   ·rw[if_pos e2];have g2:=asym e2
    by_cases e3:lexI c a=true
    ·rw[if_pos e3];have g3:=asym e3;rw[byR (ks:=[a,b,c]) (n:=3) rfl [1,2,0] (tri (r:=[1,2,0]) f1 g1 g3 e3 g2 e2) inn3];show List.map _ (kGo _ (kas_sort 3)).toList=_;rw[k120];rfl
    ·rw[if_neg e3];have f3:=tot (Ne.symm n2) (by simpa using e3)
     have g3:=asym f3;rw[byR (ks:=[a,b,c]) (n:=3) rfl [0,2,1] (tri (r:=[0,2,1]) f1 g1 f3 g3 g2 e2) inn3];show List.map _ (kGo _ (kas_sort 3)).toList=_;rw[k021];rfl
   ·rw[if_neg e2];have f2:=tot (Ne.symm n3) (by simpa using e2)
    have g2:=asym f2;have f3:=tr f1 f2;have g3:=asym f3;rw[byR (ks:=[a,b,c]) (n:=3) rfl [0,1,2] (tri (r:=[0,1,2]) f1 g1 f3 g3 f2 g2) inn3];show List.map _ (kGo _ (kas_sort 3)).toList=_;rw[k012];rfl
end So3
end VI
end
section
namespace VI
open PySem PySem.Spec PyProof.Rows PySem.W L2
theorem JOK{t:SetTable}{p:List Nat}(h:Tb t p)(hl:p.length<=3):JFH t:=by
 unfold JFH;rw[h.pl];have hi:=h.inc
 match p,hl,hi with
 | [],_,_=>exact⟨rfl,λi j e=>by simp at e⟩
 | [x],_,_ =>
  refine⟨by rw[show([x]:List Nat).toArray=#[x] from rfl,JDZ];simp,λi j e=>?_⟩
  rw[show([x]:List Nat).toArray=#[x] from rfl]at e ⊢;rw[JDZ]
  match i,e with
  |0,e=>simp at e;subst e;simp
  |i+1,e=>simp at e
 | [x,y],_,hi =>
  simp at hi;rw[show([x,y]:List Nat).toArray=#[x,y] from rfl];refine⟨by rw[JDq hi];simp,λi j e=>?_⟩
  rw[JDq hi]
  match i,e with
  |0,e=>simp at e;subst e;rw[if_neg (by omega),if_pos (by omega)]
  |1,e=>simp at e;subst e;rw[if_pos (by omega)]
  |i+2,e=>simp at e
 | [x,y,z],_,hi =>
  simp at hi;obtain⟨⟨a1,a2⟩,a3⟩:=hi;rw[show([x,y,z]:List Nat).toArray=#[x,y,z] from rfl];refine⟨by rw[JE0 a1 a3];simp,λi j e=>?_⟩
  rw[JE0 a1 a3]
  match i,e with
  |0,e=>simp at e;subst e;rw[if_neg (by omega),if_neg (by omega),if_pos (by omega)]
  |1,e=>simp at e;subst e;rw[if_neg (by omega),if_pos (by omega)]
  |2,e=>simp at e;subst e;rw[if_pos (by omega)]
  |i+3,e=>simp at e
theorem JJ0{α β:Type}{f:α->β}{l M:List β}(p:l.Perm M):∀ {L:List α},M=L.map f->∃L':List α,L'.Perm L/\l=L'.map f:=by
 induction p with
 |nil=>intro L e;exact⟨[],by rw[List.map_eq_nil_iff.mp e.symm],rfl⟩
 |cons x _ ih =>
  intro L e;cases L with
  |nil=>cases e
  |cons a L =>
   simp only[List.map_cons,List.cons.injEq]at e;obtain⟨L',p',e'⟩:=ih e.2;exact⟨a::L',p'.cons a,by rw[List.map_cons,e',e.1]⟩
 |swap x y l =>
  intro L e
  match L,e with
  |a::b::L,e =>
   simp only[List.map_cons,List.cons.injEq]at e;exact⟨b::a::L,List.Perm.swap a b L,by rw[List.map_cons,List.map_cons,e.1,e.2.1,e.2.2]⟩
 |trans _ _ ih1 ih2 =>
  intro L e;obtain⟨L2,p2,e2⟩:=ih2 e;obtain⟨L1,p1,e1⟩:=ih1 e2;exact⟨L1,p1.trans p2,e1⟩
abbrev Pr:=List Int×Addr
noncomputable def rf(p:Pr):Value:=.ref p.2
theorem JFU{f:List Int->Int}{Pi:List Int->Addr->Prop}:∀(ks:List (List Int)) (es:List (Int×Value)),ks.length=es.length->(∀(i:Nat) k,ks[i]? = some k->∃b,Pi k b/\es[i]? = some (f k,.ref b)) ->
  ∃prs:List Pr,prs.map (·.1)=ks/\es.map (·.2)=prs.map rf/\∀p∈prs,Pi p.1 p.2
 | [],[],_,_=>⟨[],rfl,rfl,λp h=>by cases h⟩
 | [],_::_,h,_=>by simp at h
 |_::_,[],h,_=>by simp at h
 |k::ks,e::es,hl,h=>by
  obtain⟨b,hb,eb⟩:=h 0 k rfl;obtain⟨prs,p1,p2,p3⟩:=JFU ks es (by simpa using hl) λi k' hk=>h (i+1) k' (by simpa using hk)
  simp only[List.getElem?_cons_zero,q_j]at eb;subst eb;refine⟨(k,b)::prs,by simp[p1],by simp[p2,rf],λp hp=>?_⟩
  rcases q_n.mp hp with rfl|hp
  ·exact hb
  ·exact p3 p hp
section
variable{prog:Program}{w:World}{A:Around}{E:Vq}{s s2:Shared}{L D:Addr}{m:Mq}{prs:List Pr}{n:Nat}
theorem JPW{h:Heap}:∀ {prs:List Pr},(∀p∈prs,∃o xs n,h.get? p.2=some o/\o.cls=.type "tuple"/\o.data=.seq (List.toArray xs) n/\Vals (p.1.map V.int) xs)->TI h (prs.map (·.1)) (prs.map rf)
 | [],_=>trivial
 |p::r,h=>by
  obtain⟨o,xs,n,e1,e2,e3,e4⟩:=h p (by simp)
  exact⟨⟨p.2,o,xs,n,rfl,e1,e2,e3,e4⟩,JPW λq hq=>h q (by simp[hq])⟩
theorem JGn{P:PySem.Fin->Shared->Prop}(hn:s.heap.Ns L m)(keep:∀b o,s.heap.get? b=some o->s2.heap.get? b=some o)(hDn:s.heap.get? D=none)(ho:s2.heap.get? D=some (seqObj "list" (prs.map rf).toArray n))(ti:TI s.heap (prs.map (·.1)) (prs.map rf))
  (h3:prs.length<=3) (hne:∀p∈prs,p.1≠[]) (hnd:(prs.map (·.1)).Nodup)
  (h:∀(h':Heap) (c:Nat) (prs2:List Pr),(∀b o,b≠L->s.heap.get? b=some o->h'.get? b=some o)->h'.Ns L m->h'.get? D=some (seqObj "list" (List.toArray (prs2.map rf)) c)->prs2.map (·.1)=s3 (prs.map (·.1))->(∀p∈prs2,p∈prs)->P (.done (.ret .none)) { s2 with heap:=h' }) :
  wpAny (model prog w) A (Builtin.«list.sort» ⟨[.ref D],[]⟩) P E s2:=by
 have ne:∀b o,s.heap.get? b=some o->b≠D:=λb o q z=>by rw[z,hDn]at q;cases q
 have hLD:D≠L:=by
  obtain⟨o,_,_,q,_⟩:=hn;exact Ne.symm (ne L o q)
 have hk1:(prs.map (·.1)).length=prs.length:=by rw[q_g]
 have hv1:(prs.map rf).length=prs.length:=by rw[q_g]
 by_cases h2:prs.length<2
 ·refine JDG ho (by omega) λh' c hk hd=>?_
  have kp:∀b o,s.heap.get? b=some o->h'.get? b=some o:=λb o q=>hk b o (ne b o q) (keep b o q);refine h h' c prs (λb o _ q=>kp b o q) (hn.at' λo q=>kp L o q) hd ?_ λp hp=>hp
  match prs,h2 with
  | [],_=>rfl
  | [_],_=>rfl
  |_::_::_,h2=>simp only[List.length_cons]at h2;omega
 ·have F:=(JDf hn).kept keep;have N:=(JAx (h:=s.heap) (L:=L)).grown keep;refine kat_list_sort F N ho hLD ?_ (λp hp=>?_) (by omega) (by omega) λe1 h' F' N'=>?_
  · cases e:(below s.heap L).get? D with
    |none=>rfl
    |some o=>rw[(below_get.mp e).2]at hDn;cases hDn
  · exact ne _ _ (JAx (h:=s.heap) (L:=L) p hp).1
  · have kp:∀b o,b≠L->s.heap.get? b=some o->h'.get? b=some o:=JBs F' N' λp hp=>q_s _ hp
    have ti':=ti.mono hn kp;obtain⟨fs,t1,t2,t3⟩:=ti'.firsts λk hk=>by obtain⟨p,hp,rfl⟩:=List.mem_map.mp hk;exact hne p hp
    refine PySem.W.kat_kind (s:={ s2 with heap:=h' }) (T:=.type "int") t1 (by omega) (λv hv=>?_) (by decide) ?_
    ·obtain⟨i,t,rfl⟩:=t3 v hv;exact PySem.W.Looks.of_pure rfl
    ·rw[show(Value.type "int" != Value.type "tuple")=true by decide,hv1,<-hk1]
     refine JF5 (n:=(prs.map (·.1)).length) (lt:=λi j=>lexI ((prs.map (·.1)).getD i []) ((prs.map (·.1)).getD j [])) (λi j C hi hj c=>JOg (h₀:=s.heap) ti' hi hj c) _ (JKN (by omega) (by omega)) ?_
     refine KasFin.intro F' N' (UpdF.head λp hp=>ne _ _ (JAx (h:=s.heap) (L:=L) p hp).1) λh2' c F2 N2=>?_;have kp2:∀b o,b≠L->s.heap.get? b=some o->h2'.get? b=some o:=JBs F2 N2 λp hp=>q_s _ hp;have lt:=JGE (ks:=prs.map (·.1)) (by omega) (by omega)
     have e2:(JC9 (prs.map (·.1))).map (λi=>(prs.map rf).getD i Value.none)=((JC9 (prs.map (·.1))).map λi=>prs.getD i ([],0)).map rf:=by
      rw[List.map_map];refine List.map_congr_left λi hi=>?_;have hi2:i<prs.length:=by have:=lt i hi;omega
      simp[List.getD_eq_getElem?_getD,hi2]
     refine h h2' c ((JC9 (prs.map (·.1))).map λi=>prs.getD i ([],0)) kp2 F2.ns ?_ ?_ λp hp=>?_
     ·rw[<-e2];exact(N2 _ (.head _)).1
     ·rw[<-So3.sort2 (by omega) (by omega) hnd,List.map_map]
      refine List.map_congr_left λi hi=>?_;have hi2:i<prs.length:=by have:=lt i hi;omega
      simp[List.getD_eq_getElem?_getD,hi2]
     ·obtain⟨i,hi,rfl⟩:=List.mem_map.mp hp;have hi2:i<prs.length:=by have:=lt i hi;omega
      simp[List.getD_eq_getElem?_getD,hi2]
end
section
variable{X:Cx}{B:Bs}{C:Cn}{CX:CXT}{XX:Nat->Hp->Prop}{G:List (Str×GK)}
def PiH(K:Kq)(H:Hp)(k:List Int)(b:Addr):Prop:=SqT K H b (k.map V.int)
theorem PiH.at{pins:Pq}{σ:St}{H:Hp}{s:Shared}(I:Inv X pins σ H s){k:List Int}{b:Addr}(h:PiH X.K H k b):∃o xs n,s.heap.get? b=some o/\o.cls=.type "tuple"/\o.data=.seq (List.toArray xs) n/\Vals (k.map V.int) xs:=by
 obtain⟨its,rv,⟨o,ho,hc,n,hd⟩,_⟩:=I.tuple h;exact⟨o,its,n,ho,hc,hd,rv⟩
theorem PiH.key(I:Inv X pins σ H s){b:Addr}(h:PiH X.K H k b):IsTupleKey (iK X.prog X.w) s.heap k b:=by
 obtain⟨o,xs,n,e1,e2,e3,e4⟩:=h.at I;exact⟨o,_,n,e1,e2,e3,JBc e4⟩
noncomputable def StK(X:Cx)(p:Addr)(ks:List (List Int))(H:Hp):HO:=.ext λh=>X.s₀.heap.objs.size<=p/\KS X.prog X.w h p ks (PiH X.K H)
theorem IT.at{K:Kq}{H:Hp}:∀ {ks:List (List Int)}{ys:List V}{i:Nat},IT K H ks ys->i<ks.length->∃b,ys[i]? = some (.ref b)/\PiH K H (ks.getD i []) b
 | [],_,_,_,hi=>by simp at hi
 |_::_,[],_,t,_=>t.elim
 |k::ks,y::ys,0,⟨⟨a,e,q⟩,_⟩,_=>⟨a,by simp[e],q⟩
 |k::ks,y::ys,i+1,⟨_,t⟩,hi=>by
  obtain⟨b,e,q⟩:=IT.at (i:=i) t (by simpa using hi)
  exact⟨b,by simpa using e,by simpa using q⟩
theorem JEQ(hc:X.calm=true)(hu:X.A.units+200<cLine):JBM X (.type "set") (λxs H Q=>∃l ys ks,xs=[.ref l]/\SqL X.K H l ys/\IT X.K H ks ys/\ks.length<=3/\∀p,H p=none->Q (.ref p) (upd H p (StK X p ks H))):=by
 intro pins s σ H xs us Q I r ⟨l,ys,ks,e,hq,it,h3,q⟩;subst e;cases r with
 |cons ra rb =>
  cases rb;cases ra;obtain⟨vs,rv,pl,hz⟩:=I.list hq;have hl:=rv.length;have hl2:=it.len;refine JD3 (xs:=ks) (Pi:=PiH X.K H) (items:=vs.toArray) (I.ok.hd hc) (by omega) pl.isList (by rw[q_f];omega) (λi v hv=>?_) (λk b z=>z.key I) (by rw[q_f];omega) λh' tk hS hk=>?_
  ·have hi:i<vs.length:=by
    have:=(Array.getElem?_eq_some_iff.mp hv).1;simpa using this
   have hi2:i<ks.length:=by omega
   obtain⟨b,e1,e2⟩:=it.at hi2;obtain⟨u,hu',ru⟩:=rv.get e1;rw[List.getElem?_toArray]at hv;rw[hv]at hu';cases hu';refine⟨ks[i],b,by simp[hi2],ru,?_⟩
   simpa[List.getD_eq_getElem?_getD,hi2] using e2
  ·refine⟨.ref s.heap.objs.size,_,I.laid (t':=tk) (λb o e=>hk b o (q_h e) e) (q_t _) (o:=StK X s.heap.objs.size ks H) ?_,rfl,q _ I.fresh⟩;have g:∃o,h'.get? s.heap.objs.size=some o:=by obtain⟨so,_,_,_,_,_,T,_⟩:=hS;exact⟨so,T.at'.get⟩
   exact⟨⟨I.sz,hS⟩,g,λh1 h2 z k=>⟨z.1,z.2.at k⟩⟩
theorem JO8{K:Kq}{H:Hp}:∀ {prs:List Pr},(∀p∈prs,PiH K H p.1 p.2)->IT K H (prs.map (·.1)) (prs.map λp=>V.ref p.2)
 | [],_=>trivial
 |p::r,h=>⟨⟨p.2,rfl,h p (by simp)⟩,JO8 λq hq=>h q (by simp[hq])⟩
theorem JH8:∀prs:List Pr,Vals (prs.map λp=>V.ref p.2) (prs.map rf)
 | []=>.nil
 |p::r=>.cons rfl (JH8 r)
theorem JCO(hc:X.calm=true):JBM X (.builtin "sorted") (λxs H Q=>∃p ks H1,xs=[.ref p]/\H=upd H1 p (StK X p ks H1)/\H1 p=none/\(∀k∈ks,k≠[])/\ks.length<=3/\∀q ys,H1 q=none->IT X.K H1 (s3 (dedK ks)) ys->Q (.ref q) (upd H1 q (.lst ys))):=by
 intro pins s σ H xs us Q I r ⟨p,ks,H1,e,eH,h1,hne,h3,q⟩;subst e;subst eH;cases r with
 |cons ra rb =>
  cases rb;cases ra;obtain⟨⟨hs,so,es,ep,t,pl,kk,T,hm,hn3⟩,_,_⟩:=I.hok p _ JAI;obtain⟨I1,f⟩:=forget I h1 hs;obtain⟨m,hn,_⟩:=I1.loc;have esz:es.size<=3:=by rw[T.n1];omega
  refine PySem.Calls.call_function_entry kind_sorted plain_sorted entry_sorted (args_sorted1 _) ?_;unfold Builtin.«sorted»;refine q_b (m:=checkCount "sorted" 1 1 _) (q_e ?_);refine q_b (JFN (by first|exact I.ok.hd hc|(simp only[Around.in1_handled];exact I.ok.hd hc)) T.at' (by omega) (λhB=>⟨T.led hB,.inl (JOK T.tb (by omega))⟩) λh2 d tk vs k2 pv=>?_)
  obtain⟨prs0,q1,q2,q3⟩:=JFU (f:=tH X.prog X.w) (Pi:=PiH X.K H1) kk es.toList (by rw[T.n2,<-T.n1,q_F]) λi k hk=>by
   obtain⟨b,b1,b2⟩:=T.el i k hk;exact⟨b,b1,by rw[Array.getElem?_toList];exact b2⟩
  rw[q2]at pv;obtain⟨prs,pp,rfl⟩:=JJ0 pv rfl;have hPi:∀z∈prs,PiH X.K H1 z.1 z.2:=λz hz=>q3 z (pp.mem_iff.mp hz);have pk:(prs.map (·.1)).Perm (dedK ks):=by
   have a1:(prs.map (·.1)).Perm kk:=by rw[<-q1];exact pp.map _
   refine a1.trans ((List.perm_ext_iff_of_nodup T.nd (So3.ded_nd ks)).mpr λk=>?_);rw[hm k,So3.ded_mem]
  have hpl:prs.length<=3:=by
   have:=pk.length_eq;have:=So3.ded_len ks;rw[q_g]at *;omega
  have hnd:(prs.map (·.1)).Nodup:=pk.nodup_iff.mpr (So3.ded_nd ks);refine q_b (wpAny_newList ?_ (by rw[q_g,sizeLine_eq];omega))
  have hoL:(h2.push (seqObj "list" (prs.map rf).toArray 0)).get? h2.objs.size=some (seqObj "list" (prs.map rf).toArray 0):=q_k _ rfl;have keep:∀b o,s.heap.get? b=some o->(h2.push (seqObj "list" (prs.map rf).toArray 0)).get? b=some o:=λb o e=>q_c _ (k2 b o e);have hDn:s.heap.get? h2.objs.size=none:=by
   cases e:s.heap.get? h2.objs.size with
   |none=>rfl
   |some o=>exact absurd (q_h (k2 _ o e)) (Nat.lt_irrefl _)
  show wpAny _ _ _ _ _ { s with heap:=h2.push (seqObj "list" (prs.map rf).toArray 0),drawn:=d,toks:=tk }
  refine q_b (wpAny_holding (wpAny_call_entry slot_list_sort ⟨_,hoL,rfl⟩ entry_list_sort (JGn (s:=s) (prs:=prs) hn keep hDn hoL (JPW λz hz=>(hPi z hz).at I1) hpl (λz hz=>hne _ (So3.ded_mem.mp (pk.mem_iff.mp (List.mem_map_of_mem hz)))) hnd λh' c prs2 kp hn' hd e2 sub=>?_) (args_list_sort _)));refine⟨_,rfl,q_e ⟨_,rfl,?_⟩⟩;rw[So3.s3_perm (So3.ded_nd ks) (Nat.le_trans (So3.ded_len ks) h3) pk]at e2;have it2:=JO8 (K:=X.K) (H:=H1) (prs:=prs2) λz hz=>hPi z (sub z hz);rw[e2]at it2;have ok:ObjOk X.prog X.w (upd H1 h2.objs.size (.lst (prs2.map λp=>V.ref p.2))) h' h2.objs.size (.lst (prs2.map λp=>V.ref p.2)):=by
   refine⟨?_,prs2.map rf,c,JH8 prs2,hd⟩;have:=it2.len;have l1:=(So3.s3_ok (So3.ded_nd ks) (Nat.le_trans (So3.ded_len ks) h3)).2.length_eq;have:=So3.ded_len ks;rw[q_g]at *;rw[sizeLine_eq];omega
  have I3:Inv X pins σ H1 { s with drawn:=d,toks:=tk } :=
   I1.step (g':=s.gens) (d':=d) (t':=tk) (h':=s.heap) (ch:=[]) (λ_ z=>nomatch z) (λb u _ _ _ e _=>e) (λb u _ _ _ e _=>⟨u.slots,e⟩)
    (λb u _ e n=>n) (λb u _ e=>⟨u,e⟩) (λb xs e=>e) (λb u v e=>e) (λb ps e=>⟨#[],by rw[e];simp⟩) (λm hm=>hm) I1.hok I1.bare
  obtain⟨h0,I2⟩:=JDw (D:=h2.objs.size) I3 hn hn' kp hDn ok;exact⟨.ref h2.objs.size,_,I2,rfl,q _ _ h0 it2⟩
end
end VI
end
section
namespace VI
open PySem PySem.Spec PyProof.Rows L2
section
variable{X:Cx}{B:Bs}{C:Cn}{CX:CXT}{XX:Nat->Hp->Prop}{G:List (Str×GK)}
theorem JKs(K:X.K=B.K):∀ {ks:List (List Int)}{ys:List V},IT X.K H ks ys->DenL B H (ks.map tupI) ys
 | [],[],_=>by simp only[List.map_nil,DenL]
 | [],_::_,t=>t.elim
 |_::_,[],t=>t.elim
 |k::ks,y::ys,⟨⟨a,e,q⟩,t⟩=>by
  simp only[List.map_cons,DenL];refine⟨y,ys,rfl,?_,JKs K t⟩;unfold tupI;simp only[Den];refine⟨a,_,e,K▸q,?_⟩;clear q
  induction k with
  |nil=>simp only[List.map_nil,DenL]
  |cons i r ih =>
   simp only[List.map_cons,DenL,Den];exact⟨_,_,rfl,rfl,ih⟩
theorem JMl[Cool G](g:Gk X B C CX XX G)(hg:glob G X.env.scope.names "set"=some .nam)(ha:PA X [b] t)(he:starEach [b] X.env=[(false,eval b X.env)]) :
  PE X (.Call (.Name "set" p) [b] [] pos) (tCB (λxs H Q=>∃l ys ks,xs=[.ref l]/\SqL X.K H l ys/\IT X.K H ks ys/\ks.length<=3/\∀p,H p=none->Q (.ref p) (upd H p (StK X p ks H))) t):=by
 obtain⟨_,h2,h3⟩:=JA1 hg;exact JEJ (es:=[]) (JEQ (g.calm inferInstance) g.units) h2 (g.nam _ h3) (by decide +kernel) ha (by decide) (by decide) he rfl
theorem JKO[Cool G](X:Cx)(XX:Nat->Hp->Prop)(g:Gk X B C CX XX G)(e:Expr)(args:List Expr)(y:E)(h:xRaw G X.env.scope.names false e=some (.ssk,args))(ha:PA X args (RA B C XX y))(hs:∀a∈args,∀es env,starEach (a::es) env=(false,eval a env)::starEach es env)(hc:cnt y=args.length):PE X e (RE B C XX (.xop .ssk y)):=by
 unfold xRaw at h
 split at h
 ·rename_i f p a pos;rcases JEU h with z|⟨z,_⟩|⟨_,rfl,h1,b,r,p2,pos2,rfl,rfl,rfl,h2⟩
  ·cases z
  ·cases z
  ·obtain⟨_,h3,h4⟩:=JA1 h1;refine PE.imp (JCS (es:=[]) (JCO (g.calm inferInstance)) h3 (g.nam _ h4) (by decide +kernel) (JCE (JMl g h2 ha (hs b (by simp) [] X.env)) JEW rfl) (by decide) (by decide) rfl rfl) λσ H Q ⟨δ,ok,k⟩=>?_
   simp only[ev]at k;refine RA.of (W:=λr H=>KE B XX r H Q) ok (λ_ _ z=>z) (λ_ z=>z) k λds vs H1 s1 d1 k1=>?_;have k1:=KE.mono g s1 k1;rcases JKB ds with ⟨ys,rfl⟩|⟨b1,b2,b3⟩
   rotate_left
   ·exfalso
    match ds,b1,b2,b3,k1 with
    | [],_,_,_,k1=>exact k1
    | [d],b1,_,_,k1=>cases d<;>first|exact k1|cases b1
    |d::d'::_,_,_,_,k1=>cases d<;>first|exact k1|(cases d'<;>first|exact k1|(rename_i t _ _ _ _;cases t<;>exact k1))
   ·simp only[DenL,Den]at d1;obtain⟨v,r,e,⟨q,us,e1,sq,l⟩,e2⟩:=d1;subst e2;subst e1;subst e;simp only[xD]at k1;cases hst:keysOf ys with
    |none=>rw[hst]at k1;exact fF k1
    |some ks =>
     rw[hst]at k1;simp only at k1
     split at k1
     ·rename_i h5;have it:=JG0 g.K hst l;refine⟨q,us,ks,rfl,g.K▸sq,it,h5.1,λp' hp=>⟨p',ks,H1,rfl,rfl,hp,λk hk z=>?_,h5.1,λp3 ys3 hp3 it3=>?_⟩⟩
      ·have:=List.all_eq_true.mp h5.2 k hk;rw[z]at this;cases this
      ·have sm:Same H1 (upd H1 p3 (.lst ys3)):=JBD hp3;refine k1 _ _ sm ?_;simp only[Den];exact⟨p3,_,rfl,SqL.of JAI,DenL.mono sm _ _ (JKs g.K it3)⟩
     ·exact fF k1
 all_goals first|(cases h;done)|(split at h<;>cases h)
theorem x_ssk[Cool G]:XOk B C CX G .ssk where
 val:=λX XX g e args y h _=>JKO X XX g e args y h
 itr:=by
  intro X XX g tg e args y h ha hs hc;unfold xRaw at h
  split at h
  ·rcases JFc h with ⟨z,_⟩|z
   ·cases z
   ·exact JD1 g (JKO X XX g _ args y (JED z) ha hs hc) λδ=>by simp only[evI,ev]
  all_goals first|(cases h;done)|(split at h<;>cases h)
 tgt:=by
  intro X XX g ts kt pt e args y h ha hs hc;unfold xTgt at h
  split at h
  ·split at h<;>cases h
  ·split at h<;>cases h
  ·cases h
end
end VI
end
section
namespace VI.VP
open PySem Fr
structure TabM(tab:Nat->Option Fd):Prop where
 h7:tab 7=some d_7
 h8:tab 8=some d_8
 h9:tab 9=some d_9
 h10:tab 10=some d_10
section
variable{x:Bool}{tab:Nat->Option Fd}{glo:Nat->R D}{sub:Nat->Nat->Bool}{n:Nat}
theorem JB9(T:TabF tab)(some':D):∀(qs:List Rat) (m:Rat) (z:Sl),z.isOwn=false->Q m->(∀q∈qs,Q q)->∃m' z',(m'=m\/m'∈qs)/\m'<=m/\(∀q∈qs,m'<=q)/\Q m' /\
  for2 ⟨run x tab glo sub (n+1),glo,sub⟩ 2 (.cons (.ife (.call 6 (.cons (.var 2) (.cons (.var 1) .nil))) (.cons (.asg 1 (.var 2)) .nil) .nil) .nil) (qs.map F) [.val some',.val (F m),z]=.nx [.val some',.val (F m'),z']
 | [],m,z,hz,hm,hq=>⟨m,z,.inl rfl,Rat.le_refl,by simp,hm,rfl⟩
 |q::qs,m,z,hz,hm,hq=>by
  have hq0:Q q:=hq q (by simp)
  rw[List.map_cons,JDp]
  by_cases h:q<m
  ·obtain⟨m',z',h1,h2,h3,h4,h5⟩:=JB9 T some' qs q (.val (F q)) rfl hq0 (λq hq'=>hq q (by simp[hq']))
   refine⟨m',z',?_,?_,?_,h4,?_⟩
   ·rcases h1 with h1|h1
    ·exact .inr (by simp[h1])
    ·exact .inr (by simp[h1])
   ·grind
   ·intro r hr;rcases q_n.mp hr with e|e
    ·subst e;exact h2
    ·exact h3 r e
   ·dsimp![JCk T hq0 hm,h,decide_true]
    exact h5
  ·obtain⟨m',z',h1,h2,h3,h4,h5⟩:=JB9 T some' qs m (.val (F q)) rfl hm (λq hq'=>hq q (by simp[hq']))
   refine⟨m',z',?_,h2,?_,h4,?_⟩
   ·rcases h1 with h1|h1
    ·exact .inl h1
    ·exact .inr (by simp[h1])
   ·intro r hr;rcases q_n.mp hr with e|e
    ·subst e;grind
    ·exact h3 r e
   ·dsimp![JCk T hq0 hm,h,decide_false]
    exact h5
theorem JCt(T:TabF tab)(some':D):∀(qs:List Rat) (m:Rat) (z:Sl),z.isOwn=false->Q m->(∀q∈qs,Q q)->∃m' z',(m'=m\/m'∈qs)/\m<=m'/\(∀q∈qs,q<=m')/\Q m' /\
  for2 ⟨run x tab glo sub (n+1),glo,sub⟩ 2 (.cons (.ife (.call 6 (.cons (.var 1) (.cons (.var 2) .nil))) (.cons (.asg 1 (.var 2)) .nil) .nil) .nil) (qs.map F) [.val some',.val (F m),z]=.nx [.val some',.val (F m'),z']
 | [],m,z,hz,hm,hq=>⟨m,z,.inl rfl,Rat.le_refl,by simp,hm,rfl⟩
 |q::qs,m,z,hz,hm,hq=>by
  have hq0:Q q:=hq q (by simp)
  rw[List.map_cons,JDp]
  by_cases h:m<q
  ·obtain⟨m',z',h1,h2,h3,h4,h5⟩:=JCt T some' qs q (.val (F q)) rfl hq0 (λq hq'=>hq q (by simp[hq']))
   refine⟨m',z',?_,?_,?_,h4,?_⟩
   ·rcases h1 with h1|h1
    ·exact .inr (by simp[h1])
    ·exact .inr (by simp[h1])
   ·grind
   ·intro r hr;rcases q_n.mp hr with e|e
    ·subst e;exact h2
    ·exact h3 r e
   ·dsimp![JCk T hm hq0,h,decide_true]
    exact h5
  ·obtain⟨m',z',h1,h2,h3,h4,h5⟩:=JCt T some' qs m (.val (F q)) rfl hm (λq hq'=>hq q (by simp[hq']))
   refine⟨m',z',?_,h2,?_,h4,?_⟩
   ·rcases h1 with h1|h1
    ·exact .inl h1
    ·exact .inr (by simp[h1])
   ·intro r hr;rcases q_n.mp hr with e|e
    ·subst e;grind
    ·exact h3 r e
   ·dsimp![JCk T hm hq0,h,decide_false]
    exact h5
theorem JKS(a:D)(r:List D):idxD (.list (a::r)) (.int 0)=.ok a:=by
 simp[idxD,atI,ixN,optR]
theorem JJr(T:TabF tab)(M:TabM tab)(p:Rat)(qs:List Rat)(hq:∀q∈p::qs,Q q):∃m,m∈p::qs/\(∀q∈p::qs,m<=q)/\Q m/\run x tab glo sub (n+2) 7 [.list ((p::qs).map F)]=.ok (F m):=by
 rw[JAB M.h7,JAC rfl];obtain⟨m,z,h1,h2,h3,h4,h5⟩:=JB9 (x:=x) (glo:=glo) (sub:=sub) (n:=n) T (.list ((p::qs).map F)) (p::qs) p .no rfl (hq p (by simp)) hq
 refine⟨m,?_,h3,h4,?_⟩
 ·rcases h1 with h1|h1
  ·simp[h1]
  ·exact h1
 ·simp only[List.map_cons]at h5 ⊢
  dsimp![d_7,b_7,JKS,JAs,JAa,JAj,JAb,h5]
theorem JL2(T:TabF tab)(M:TabM tab)(p:Rat)(qs:List Rat)(hq:∀q∈p::qs,Q q):∃m,m∈p::qs/\(∀q∈p::qs,q<=m)/\Q m/\run x tab glo sub (n+2) 8 [.list ((p::qs).map F)]=.ok (F m):=by
 rw[JAB M.h8,JAC rfl];obtain⟨m,z,h1,h2,h3,h4,h5⟩:=JCt (x:=x) (glo:=glo) (sub:=sub) (n:=n) T (.list ((p::qs).map F)) (p::qs) p .no rfl (hq p (by simp)) hq
 refine⟨m,?_,h3,h4,?_⟩
 ·rcases h1 with h1|h1
  ·simp[h1]
  ·exact h1
 ·simp only[List.map_cons]at h5 ⊢
  dsimp![d_8,b_8,JKS,JAs,JAa,JAj,JAb,h5]
end
end VI.VP
end
section
namespace VI.VP
open PySem Fr
theorem r3:rngD [.int 3]=.ok [.int 0,.int 1,.int 2]:=rfl
theorem JL9(p:Rat):(F p).canLay0=true:=by
 simp only[F,PyData.canLayAll0,PyData.canLay0,Bool.and_self]
theorem JDx(p:Rat):(F p).depth=1:=by
 simp only[F,PyData.depth,PyData.depthAll];rfl
section
variable{x:Bool}{tab:Nat->Option Fd}{glo:Nat->R D}{sub:Nat->Nat->Bool}{n:Nat}
end
end VI.VP
end
section
namespace VI.VP
noncomputable def b_23:S:=(.cons (.ret (.and (.isi (.var 0) .int) (.not (.isi (.var 0) .bool)))) .nil)
noncomputable def d_23:Fd:=⟨1,1,b_23⟩
noncomputable def b_24:S:=(.cons (.ife (.or (.not (.isi (.var 0) .tuple)) (.cmp .NotEq (.blt .len (.cons (.var 0) .nil)) (.cint 2))) (.cons (.ret (.cbl false)) .nil) .nil) (.cons (.asg 1 (.idx (.var 0) (.cint 0))) (.cons (.asg 2 (.idx (.var 0) (.cint 1))) (.cons (.ife (.or (.not (.call 23 (.cons (.var 1) .nil))) (.not (.call 23 (.cons (.var 2) .nil)))) (.cons (.ret (.cbl false)) .nil) .nil) (.cons (.ret (.and (.cmp .Gt (.var 2) (.cint 0)) (.cmp .Eq (.call 0 (.cons (.var 1) (.cons (.var 2) .nil))) (.cint 1)))) .nil)))))
noncomputable def d_24:Fd:=⟨1,3,b_24⟩
noncomputable def b_25:S:=(.cons (.ret (.call 1 (.cons (.bin .Mult (.idx (.var 0) (.cint 0)) (.idx (.var 1) (.cint 1))) (.cons (.bin .Mult (.idx (.var 0) (.cint 1)) (.idx (.var 1) (.cint 0))) .nil)))) .nil)
noncomputable def d_25:Fd:=⟨2,2,b_25⟩
noncomputable def b_26:S:=(.cons (.asg 1 (.lst (.cons (.isi (.var 0) (.own 1)) (.cons (.isi (.var 0) (.own 2)) (.cons (.isi (.var 0) (.own 6)) (.cons (.isi (.var 0) (.own 3)) .nil)))))) (.cons (.ext 1 (.lst (.cons (.isi (.var 0) (.own 7)) (.cons (.isi (.var 0) (.own 5)) (.cons (.isi (.var 0) (.own 4)) .nil))))) (.cons (.ife (.or (.cmp .NotEq (.mcount (.var 1) (.cbl true)) (.cint 1)) (.not (.isi (.var 0) .valueError))) (.cons (.ret (.cstr "wrong")) .nil) .nil) (.cons (.ret (.idx (.lst (.cons (.cstr "no frac") (.cons (.cstr "no kind") (.cons (.cstr "no name") (.cons (.cstr "no plan") (.cons (.cstr "no text") (.cons (.cstr "no time") (.cons (.cstr "no track") .nil)))))))) (.mindex (.var 1) (.cbl true)))) .nil))))
noncomputable def d_26:Fd:=⟨1,2,b_26⟩
noncomputable def b_27:S:=(.cons (.asg 3 .cnon) (.cons (.asg 4 .cnon) (.cons (.tryx (.cons (.asg 4 (.ife (.cmp .Eq (.var 0) (.cint 0)) (.call 1 (.cons (.var 1) (.cons (.var 2) .nil))) (.call 25 (.cons (.var 1) (.cons (.var 2) .nil))))) .nil) 0 5 (.cons (.asg 3 (.var 5)) .nil)) (.cons (.ife (.isN (.var 3) false) (.cons (.ret (.var 4)) .nil) .nil) (.cons (.ret (.call 26 (.cons (.var 3) .nil))) .nil)))))
noncomputable def d_27:Fd:=⟨3,6,b_27⟩
end VI.VP
end
section
namespace VI.VP
open PySem Fr
section
variable{x:Bool}{tab:Nat->Option Fd}{glo:Nat->R D}{sub:Nat->Nat->Bool}{n:Nat}
structure TabI(tab:Nat->Option Fd):Prop where
 h23:tab 23=some d_23
 h24:tab 24=some d_24
 h25:tab 25=some d_25
end
end VI.VP
end
section
namespace VI.VP
noncomputable def b_29:S:=(.cons (.ret (.cmp .In (.var 0) (.glo 41))) .nil)
noncomputable def d_29:Fd:=⟨1,1,b_29⟩
noncomputable def b_30:S:=(.cons (.ife (.not (.call 29 (.cons (.var 0) .nil))) (.cons (.rais 2) .nil) .nil) .nil)
noncomputable def d_30:Fd:=⟨1,1,b_30⟩
noncomputable def b_31:S:=(.cons (.ret (.call 8 (.cons (.lst (.cons (.glo 39) (.cons (.call 7 (.cons (.lst (.cons (.glo 40) (.cons (.var 0) .nil))) .nil)) .nil))) .nil))) .nil)
noncomputable def d_31:Fd:=⟨1,1,b_31⟩
noncomputable def b_32:S:=(.cons (.drop (.call 30 (.cons (.var 0) .nil))) (.cons (.asg 2 (.call 31 (.cons (.var 1) .nil))) (.cons (.ife (.cmp .Eq (.var 0) (.cstr "even")) (.cons (.ret (.var 2)) .nil) .nil) (.cons (.ife (.cmp .Eq (.var 0) (.cstr "in")) (.cons (.ret (.call 5 (.cons (.var 2) (.cons (.var 2) .nil)))) .nil) .nil) (.cons (.ife (.cmp .Eq (.var 0) (.cstr "out")) (.cons (.ret (.call 4 (.cons (.call 5 (.cons (.call 2 (.cons (.cint 2) .nil)) (.cons (.var 2) .nil))) (.cons (.call 5 (.cons (.var 2) (.cons (.var 2) .nil))) .nil)))) .nil) .nil) (.cons (.ife (.cmp .Eq (.var 0) (.cstr "both")) (.cons (.ret (.call 5 (.cons (.call 5 (.cons (.var 2) (.cons (.var 2) .nil))) (.cons (.call 4 (.cons (.call 2 (.cons (.cint 3) .nil)) (.cons (.call 5 (.cons (.call 2 (.cons (.cint 2) .nil)) (.cons (.var 2) .nil))) .nil))) .nil)))) .nil) .nil) (.cons (.ife (.cmp .Eq (.var 0) (.cstr "hold")) (.cons (.ret (.ife (.cmp .Eq (.var 2) (.glo 40)) (.glo 40) (.glo 39))) .nil) .nil) (.cons (.ret (.ife (.cmp .Eq (.var 2) (.glo 39)) (.glo 39) (.glo 40))) .nil))))))))
noncomputable def d_32:Fd:=⟨2,3,b_32⟩
noncomputable def b_33:S:=(.cons (.drop (.call 30 (.cons (.var 0) .nil))) (.cons (.ret (.mget (.glo 42) (.var 0) (.var 0))) .nil))
noncomputable def d_33:Fd:=⟨1,1,b_33⟩
noncomputable def b_34:S:=(.cons (.drop (.call 30 (.cons (.var 0) .nil))) (.cons (.ife (.cmp .Lt (.var 1) (.cint 1)) (.cons (.ret (.lst .nil)) .nil) .nil) (.cons (.ret (.cmpr 0 (.call 32 (.cons (.var 1) (.cons (.call 1 (.cons (.var 0) (.cons (.var 2) .nil))) .nil))) (.rng (.cons (.bin .Add (.var 1) (.cint 1)) .nil)) (.cbl true))) .nil)))
noncomputable def d_34:Fd:=⟨2,2,b_34⟩
noncomputable def b_35:S:=(.cons (.ret (.idx (.lst (.cons (.cstr "even") (.cons (.cstr "in") (.cons (.cstr "out") (.cons (.cstr "both") (.cons (.cstr "hold") (.cons (.cstr "jump") .nil))))))) (.call 12 (.cons (.var 0) (.cons (.var 1) (.cons (.cint 6) .nil)))))) .nil)
noncomputable def d_35:Fd:=⟨2,2,b_35⟩
noncomputable def b_36:S:=(.cons (.ife (.cmp .LtE (.idx (.var 1) (.cint 0)) (.cint 0)) (.cons (.ret (.tup (.cons (.cint 0) (.cons (.cint 1) .nil)))) .nil) .nil) (.cons (.ife (.cmp .GtE (.idx (.var 1) (.cint 0)) (.idx (.var 1) (.cint 1))) (.cons (.ret (.tup (.cons (.cint 1) (.cons (.cint 1) .nil)))) .nil) .nil) (.cons (.ife (.cmp .In (.var 0) (.tup (.cons (.cstr "hold") (.cons (.cstr "jump") .nil)))) (.cons (.ret (.ife (.cmp .Eq (.var 0) (.cstr "hold")) (.tup (.cons (.cint 0) (.cons (.cint 1) .nil))) (.tup (.cons (.cint 1) (.cons (.cint 1) .nil))))) .nil) .nil) (.cons (.unp [2,3] (.var 1)) (.cons (.ife (.cmp .Eq (.var 0) (.cstr "even")) (.cons (.ret (.var 1)) .nil) .nil) (.cons (.ife (.cmp .Eq (.var 0) (.cstr "in")) (.cons (.ret (.call 14 (.cons (.bin .Mult (.var 2) (.var 2)) (.cons (.bin .Mult (.var 3) (.var 3)) .nil)))) .nil) .nil) (.cons (.ife (.cmp .Eq (.var 0) (.cstr "out")) (.cons (.ret (.call 14 (.cons (.bin .Sub (.bin .Mult (.bin .Mult (.cint 2) (.var 2)) (.var 3)) (.bin .Mult (.var 2) (.var 2))) (.cons (.bin .Mult (.var 3) (.var 3)) .nil)))) .nil) .nil) (.cons (.ret (.call 14 (.cons (.bin .Sub (.bin .Mult (.bin .Mult (.bin .Mult (.cint 3) (.var 2)) (.var 2)) (.var 3)) (.bin .Mult (.bin .Mult (.bin .Mult (.cint 2) (.var 2)) (.var 2)) (.var 2))) (.cons (.bin .Mult (.bin .Mult (.var 3) (.var 3)) (.var 3)) .nil)))) .nil))))))))
noncomputable def d_36:Fd:=⟨2,4,b_36⟩
noncomputable def b_37:S:=(.cons (.asg 2 .cnon) (.cons (.asg 3 .cnon) (.cons (.tryx (.cons (.asg 3 (.ife (.cmp .Eq (.var 0) (.cint 0)) (.call 32 (.cons (.var 1) (.cons (.tup (.cons (.cint 1) (.cons (.cint 2) .nil))) .nil))) (.call 33 (.cons (.var 1) .nil)))) .nil) 0 4 (.cons (.asg 2 (.var 4)) .nil)) (.cons (.ife (.isN (.var 2) false) (.cons (.ret (.var 3)) .nil) .nil) (.cons (.ret (.call 26 (.cons (.var 2) .nil))) .nil)))))
noncomputable def d_37:Fd:=⟨2,5,b_37⟩
end VI.VP
end
section
namespace VI.VP
open PySem Fr
inductive Kd where
 |even|inn|out|both|hold|jump
 deriving DecidableEq
noncomputable def Kd.str:Kd->Str
 |.even=>"even"
 |.inn=>"in"
 |.out=>"out"
 |.both=>"both"
 |.hold=>"hold"
 |.jump=>"jump"
noncomputable def Kd.turn:Kd->Kd
 |.inn=>.out
 |.out=>.inn
 |.hold=>.jump
 |.jump=>.hold
 |k=>k
noncomputable def JAR(r:Rat):Rat:=if r<=0 then 0 else if 1<=r then 1 else r
noncomputable def ez(k:Kd)(p:Rat):Rat:=match k with
 |.even=>p
 |.inn=>p*p
 |.out=>2*p - p*p
 |.both=>p*p*(3 - 2*p)
 |.hold=>if p=1 then 1 else 0
 |.jump=>if p=0 then 0 else 1
noncomputable def kinds:D:=.tuple [.str "even",.str "in",.str "out",.str "both",.str "hold",.str "jump"]
noncomputable def turned:D:=.dict [(.str "in",.str "out"),(.str "out",.str "in"),(.str "hold",.str "jump"),(.str "jump",.str "hold")]
structure GloK(glo:Nat->R D):Prop where
 zero:glo 39=.ok (F 0)
 one:glo 40=.ok (F 1)
 kinds:glo 41=.ok VP.kinds
 turned:glo 42=.ok VP.turned
structure TabK(tab:Nat->Option Fd):Prop where
 h29:tab 29=some d_29
 h30:tab 30=some d_30
 h31:tab 31=some d_31
 h32:tab 32=some d_32
 h33:tab 33=some d_33
section
variable{x:Bool}{tab:Nat->Option Fd}{glo:Nat->R D}{sub:Nat->Nat->Bool}{n:Nat}
theorem JPe(g:GloK glo)(T:TabK tab)(d:D){b:Bool}(h:cmpD .In d VP.kinds=.ok (.bool b)):run x tab glo sub (n+1) 29 [d]=.ok (.bool b):=by
 rw[JAB T.h29,JAC rfl]
 dsimp![d_29,b_29,g.kinds,h]
theorem JJx(k:Kd):cmpD .In (.str k.str) VP.kinds=.ok (.bool true):=by
 have h:JBt [.str "even",.str "in",.str "out",.str "both",.str "hold",.str "jump"] (.str k.str)=true:=by cases k<;>decide +kernel
 have h2:([.str "even",.str "in",.str "out",.str "both",.str "hold",.str "jump"]:List D).any (λz=>PyData.eqv z (.str k.str))=true:=by cases k<;>decide +kernel
 simp only[cmpD,VP.kinds,h,if_true,h2]
theorem JMM(g:GloK glo)(T:TabK tab)(k:Kd):run x tab glo sub (n+2) 30 [.str k.str]=.ok .none:=by
 rw[JAB T.h30,JAC rfl]
 dsimp![d_30,b_30,JPe g T _ (JJx k),Bool.not_true]
theorem JCV{k:Nat}{r:Rat}(hk:1<=k)(h:Sz k r):Sz k (JAR r):=by
 unfold JAR;have h0:Sz 1 (0:Rat):=⟨by decide,by decide⟩
 have h1:Sz 1 (1:Rat):=⟨by decide,by decide⟩
 split
 ·exact h0.mono hk
 ·split
  ·exact h1.mono hk
  ·exact h
theorem JIq(g:GloK glo)(F0:TabF tab)(M:TabM tab)(T:TabK tab){r:Rat}(hr:Q r):run x tab glo sub (n+3) 31 [F r]=.ok (F (JAR r)):=by
 have h0:Q (0:Rat):=⟨by decide +kernel,by decide +kernel⟩
 have h1:Q (1:Rat):=⟨by decide +kernel,by decide +kernel⟩
 obtain⟨a,a1,a2,a3,a4⟩:=JJr (x:=x) (glo:=glo) (sub:=sub) (n:=n) F0 M 1 [r] (by simp[h1,hr])
 obtain⟨b,b1,b2,b3,b4⟩:=JL2 (x:=x) (glo:=glo) (sub:=sub) (n:=n) F0 M 0 [a] (by simp[h0,a3])
 simp only[List.map_cons,List.map_nil]at a4 b4;have e:b=JAR r:=by
  have q1:=a2 1 (by simp)
  have q2:=a2 r (by simp)
  have q3:=b2 0 (by simp)
  have q4:=b2 a (by simp)
  simp only[q_n,List.not_mem_nil,or_false]at a1 b1;unfold JAR
  grind
 subst e;rw[JAB T.h31,JAC rfl]
 dsimp![d_31,b_31,g.zero,g.one,a4,b4]
theorem JIv(ha:shaped (.str a)=true)(hb:shaped (.str b)=true):cmpD .Eq (.str a) (.str b)=.ok (.bool (a==b)):=by
 simp only[cmpD,ha,hb,Bool.and_self,if_true,PyData.eqv]
theorem JCn(k:Kd):shaped (.str k.str)=true:=by cases k<;>decide +kernel
theorem JO5(k j:Kd):cmpD .Eq (.str k.str) (.str j.str)=.ok (.bool (decide (k=j))):=by
 rw[JIv (JCn k) (JCn j)];have:(k.str==j.str)=decide (k=j):=by cases k<;>cases j<;>decide +kernel
 rw[this]
theorem W2:PyData.tuple [.int 2,.int 1]=F 2:=rfl
theorem JJa(g:GloK glo)(F0:TabF tab)(M:TabM tab)(T:TabK tab)(k:Kd){r:Rat}(hr:Sz 200 r):run x tab glo sub (n+4) 32 [.str k.str,F r]=.ok (F (ez k (JAR r))):=by
 have hp:Sz 200 (JAR r):=JCV (by omega) hr
 obtain⟨p,e⟩:∃p,p=JAR r:=⟨_,rfl⟩;have kp:run x tab glo sub (n+3) 31 [F r]=.ok (F p):=by rw[e];exact JIq g F0 M T (hr.mono (by omega))
 rw[<-e]at hp ⊢;have z2:Sz 2 (2:Rat):=⟨by decide,by decide⟩
 have z3:Sz 2 (3:Rat):=⟨by decide,by decide⟩
 have z1:Sz 2 (1:Rat):=⟨by decide,by decide⟩
 have z0:Sz 2 (0:Rat):=⟨by decide,by decide⟩
 have pp:Sz 400 (p*p):=hp.mul hp (by omega)
 have p2:Sz 202 (2*p):=z2.mul hp (by omega)
 have q3:Sz 205 (3 - 2*p):=z3.sub p2 (by omega)
 obtain⟨ks,hk⟩:∃ks,ks=k.str:=⟨_,rfl⟩;have nk:run x tab glo sub (n+3) 30 [.str ks]=.ok .none:=by rw[hk];exact JMM g T k
 have c:∀j:Kd,cmpD .Eq (.str ks) (.str j.str)=.ok (.bool (decide (k=j))):=by rw[hk];exact JO5 k
 rw[<-hk];clear hk;have c1:=c .even;have c2:=c .inn;have c3:=c .out;have c4:=c .both;have c5:=c .hold;simp only[Kd.str]at c1 c2 c3 c4 c5;rw[JAB T.h32,JAC rfl];have w2:run x tab glo sub (n+3) 2 [.int 2]=.ok (F 2):=JDj F0 2;have w3:run x tab glo sub (n+3) 2 [.int 3]=.ok (F 3):=JDj F0 3;have m1:run x tab glo sub (n+3) 5 [F p,F p]=.ok (F (p*p)):=JCT F0 (hp.mono (by omega)) (hp.mono (by omega))
 have m2:run x tab glo sub (n+3) 5 [F 2,F p]=.ok (F (2*p)):=JCT F0 (z2.mono (by omega)) (hp.mono (by omega))
 have m3:run x tab glo sub (n+3) 4 [F (2*p),F (p*p)]=.ok (F (2*p - p*p)):=JDR F0 (p2.mono (by omega)) (pp.mono (by omega))
 have m4:run x tab glo sub (n+3) 4 [F 3,F (2*p)]=.ok (F (3 - 2*p)):=JDR F0 (z3.mono (by omega)) (p2.mono (by omega))
 have m5:run x tab glo sub (n+3) 5 [F (p*p),F (3 - 2*p)]=.ok (F (p*p*(3 - 2*p))):=JCT F0 (pp.mono (by omega)) (q3.mono (by omega))
 cases k
 case hold =>
  by_cases h:p=1<;>dsimp![d_32,b_32,nk,JAS,kp,c1,c2,c3,c4,c5,reduceCtorEq,decide_true,decide_false,ez,h,g.zero,g.one]
 case jump =>
  by_cases h:p=0<;>dsimp![d_32,b_32,nk,JAS,kp,c1,c2,c3,c4,c5,reduceCtorEq,decide_true,decide_false,ez,h,g.zero,g.one]
 all_goals dsimp![d_32,b_32,nk,JAS,kp,c1,c2,c3,c4,c5,w2,w3,m1,m2,m3,m4,m5,reduceCtorEq,decide_true,decide_false,ez,g.zero,g.one]
end
theorem ez0(k:Kd):ez k 0=0:=by cases k<;>decide +kernel
theorem ez1(k:Kd):ez k 1=1:=by cases k<;>decide +kernel
theorem JLB(r:Rat):r=(r.num:Rat) / ((r.den:Int):Rat):=by
 conv=>lhs;rw[<-Rat.num_divInt_den r,Rat.divInt_eq_div]
theorem JHB(r:Rat):((r.den:Int):Rat)≠0:=by
 intro h;have:=den_pos r;have h2:((r.den:Int):Rat)=((0:Int):Rat):=h;rw[Rat.intCast_inj]at h2;omega
theorem JMd(r:Rat):Rat.divInt (2*r.num*r.den - r.num*r.num) ((r.den:Int)*r.den)=2*r - r*r:=by
 have hd:=JHB r;have e:=JLB r;rw[Rat.divInt_eq_div];simp only[Rat.intCast_sub,Rat.intCast_mul,Rat.intCast_ofNat];generalize ((r.den:Int):Rat)=d at *;generalize (r.num:Rat)=u at *;subst e
 grind
theorem JJq(r:Rat):Rat.divInt (3*r.num*r.num*r.den - 2*r.num*r.num*r.num) ((r.den:Int)*r.den*r.den)=r*r*(3 - 2*r):=by
 have hd:=JHB r;have e:=JLB r;rw[Rat.divInt_eq_div];simp only[Rat.intCast_sub,Rat.intCast_mul,Rat.intCast_ofNat];generalize ((r.den:Int):Rat)=d at *;generalize (r.num:Rat)=u at *;subst e
 grind
theorem JAn(r:Rat):r.num<=0↔r<=0:=by
 rw[Rat.le_iff];simp
theorem JBG(r:Rat):(r.den:Int)<=r.num↔1<=r:=by
 rw[Rat.le_iff];simp
section
variable{x:Bool}{tab:Nat->Option Fd}{glo:Nat->R D}{sub:Nat->Nat->Bool}{n:Nat}
theorem in_hj(k:Kd):cmpD .In (.str k.str) (.tuple [.str "hold",.str "jump"])=.ok (.bool (decide (k=.hold) || decide (k=.jump))):=by
 have h:JBt [.str "hold",.str "jump"] (.str k.str)=true:=by cases k<;>decide +kernel
 have h2:([.str "hold",.str "jump"]:List D).any (λz=>PyData.eqv z (.str k.str))=(decide (k=.hold) || decide (k=.jump)):=by cases k<;>decide +kernel
 simp only[cmpD,h,if_true,h2]
theorem F0':PyData.tuple [.int 0,.int 1]=F 0:=rfl
theorem F1':PyData.tuple [.int 1,.int 1]=F 1:=rfl
theorem F_unp(r:Rat):JAu 2 (F r)=.ok [.int r.num,.int r.den]:=rfl
theorem JGz(Lw:TabL tab)(h36:tab 36=some d_36)(k:Kd){r:Rat}(hr:Sz 200 r):run x tab glo sub (n+3) 36 [.str k.str,F r]=.ok (F (ez k (JAR r))):=by
 rw[JAB h36,JAC rfl]
 by_cases h1:r.num<=0
 ·have e:JAR r=0:=by unfold JAR;rw[if_pos ((JAn r).mp h1)]
  rw[e,ez0]
  dsimp![d_36,b_36,h1,decide_true,F0']
 ·by_cases h2:(r.den:Int)<=r.num
  ·have e:JAR r=1:=by
    unfold JAR;rw[if_neg (λz=>h1 ((JAn r).mpr z)),if_pos ((JBG r).mp h2)]
   rw[e,ez1]
   dsimp![d_36,b_36,h1,h2,decide_true,decide_false,F1']
  ·have e:JAR r=r:=by
    unfold JAR;rw[if_neg (λz=>h1 ((JAn r).mpr z)),if_neg (λz=>h2 ((JBG r).mpr z))]
   have hn0:r≠0:=λz=>h1 (by rw[z];decide)
   have hn1:r≠1:=λz=>h2 (by rw[z];decide)
   rw[e];have ln:L r.num:=hr.Ln (by omega)
   have ld:L (r.den:Int):=hr.Ld (by omega)
   have an:=hr.n;have ad:=hr.d;have u2:(2*r.num).natAbs<2 ^ 202:=JDD (JAE (i:=2) (a:=2) (by decide) an) (by omega)
   have u3:(3*r.num).natAbs<2 ^ 202:=JDD (JAE (i:=2) (a:=3) (by decide) an) (by omega)
   have nn:(r.num*r.num).natAbs<2 ^ 400:=JAE an an;have dd:((r.den:Int)*r.den).natAbs<2 ^ 400:=JAE ad ad;have u2n:(2*r.num*r.num).natAbs<2 ^ 402:=JAE u2 an;have u3n:(3*r.num*r.num).natAbs<2 ^ 402:=JAE u3 an;have ddd:((r.den:Int)*r.den*r.den).natAbs<2 ^ 600:=JAE dd ad;have d0:(r.den:Int)*r.den≠0:=Int.mul_ne_zero (JAT r) (JAT r);have d1:(r.den:Int)*r.den*r.den≠0:=Int.mul_ne_zero d0 (JAT r);have m1:run x tab glo sub (n+2) 14 [.int (r.num*r.num),.int (r.den*r.den)]=.ok (F (r*r)):=by rw[JBK Lw _ _ d0 (L.of dd (by omega)),JGA]
   have m2:run x tab glo sub (n+2) 14 [.int (2*r.num*r.den - r.num*r.num),.int (r.den*r.den)]=.ok (F (2*r - r*r)):=by rw[JBK Lw _ _ d0 (L.of dd (by omega)),JMd]
   have m3:run x tab glo sub (n+2) 14 [.int (3*r.num*r.num*r.den - 2*r.num*r.num*r.num),.int (r.den*r.den*r.den)]=.ok (F (r*r*(3 - 2*r))):=by rw[JBK Lw _ _ d1 (L.of ddd (by omega)),JJq]
   have hj:=in_hj k;obtain⟨ks,hk⟩:∃ks,ks=k.str:=⟨_,rfl⟩;have c:∀j:Kd,cmpD .Eq (.str ks) (.str j.str)=.ok (.bool (decide (k=j))):=by rw[hk];exact JO5 k
   rw[<-hk]at hj ⊢;clear hk;have c1:=c .even;have c2:=c .inn;have c3:=c .out;have c5:=c .hold;simp only[Kd.str]at c1 c2 c3 c5;cases k<;>dsimp![d_36,b_36,h1,h2,decide_true,decide_false,hj,reduceCtorEq,Bool.or_false,Bool.or_true,Bool.or_self,c1,c2,c3,c5,F0',F1',ez,hn0,hn1,List.length_cons,List.length_nil,Nat.reduceAdd,F_unp,JAl,
    JAp ln ln,JAp ld ld,JAp (L.of dd (by omega)) ld,JCp (i:=2) (j:=r.num) (by decide),JCp (i:=3) (j:=r.num) (by decide),JAp (L.of u2 (by omega)) ld,JAp (L.of u2 (by omega)) ln,JAp (L.of u3 (by omega)) ln,JAp (L.of u3n (by omega)) ld,JAp (L.of u2n (by omega)) ln,m1,m2,m3]
theorem JMS(i:Int)(h0:0<=i)(h1:i<6):∃k:Kd,idxD (.list [.str "even",.str "in",.str "out",.str "both",.str "hold",.str "jump"]) (.int i)=.ok (.str k.str):=by
 have:i=0\/i=1\/i=2\/i=3\/i=4\/i=5:=by omega
 rcases this with rfl|rfl|rfl|rfl|rfl|rfl
 ·exact⟨.even,rfl⟩
 ·exact⟨.inn,rfl⟩
 ·exact⟨.out,rfl⟩
 ·exact⟨.both,rfl⟩
 ·exact⟨.hold,rfl⟩
 ·exact⟨.jump,rfl⟩
theorem JJB(Lw:TabL tab)(h35:tab 35=some d_35)(ns:List Int)(j:Int)(hj:0<=j)(hj2:j<1000000):∃k:Kd,run x tab glo sub (n+3) 35 [sc ns,.int j]=.ok (.str k.str):=by
 rw[JAB h35,JAC rfl];obtain⟨i,i0,i1,hi⟩:=JCC (x:=x) (glo:=glo) (sub:=sub) (n:=n) Lw ns j 6 hj (by omega) (by decide)
 obtain⟨k,hk⟩:=JMS i i0 i1;refine⟨k,?_⟩
 dsimp![d_35,b_35,hi,hk]
end
noncomputable def e8(k:Kd)(s:Int):Rat:=ez k (JAR (Rat.divInt s 8))
section
variable{x:Bool}{tab:Nat->Option Fd}{glo:Nat->R D}{sub:Nat->Nat->Bool}{n:Nat}
theorem JHw:∀qs:List Rat,PyData.canLayAll0 (qs.map F)=true
 | []=>rfl
 |q::qs=>by simp only[List.map_cons,PyData.canLayAll0,JL9,JHw qs,Bool.and_self]
theorem JFX:∀qs:List Rat,PyData.depthAll (qs.map F)<=1
 | []=>by decide
 |q::qs=>by
  simp only[List.map_cons,PyData.depthAll,JDx];have:=JFX qs;omega
theorem JHx(qs:List Rat):shaped (.list (qs.map F))=true:=by
 have:=JFX qs;unfold shaped;rw[q_i];refine⟨by simp only[PyData.canLay0,JHw],decide_eq_true ?_⟩
 simp only[PyData.depth];omega
theorem JIG:∀qs:List Rat,PyData.eqvAll (qs.map F) (qs.map F)=true
 | []=>by simp only[List.map_nil,PyData.eqvAll]
 |q::qs=>by simp only[List.map_cons,PyData.eqvAll,JG2,JIG qs,decide_true,Bool.and_self]
theorem JQf(qs:List Rat):cmpD .NotEq (.list (qs.map F)) (.list (qs.map F))=.ok (.bool false):=by
 simp only[cmpD,JHx,Bool.and_self,if_true,PyData.eqv,JIG,Bool.not_true]
noncomputable def parts(k:Kd)(m:Int):List Rat:=(List.range (m+1).toNat).map λj:Nat=>ez k (JAR (Rat.divInt (j:Int) m))
end
end VI.VP
end
section
namespace VI.VP
noncomputable def b_43:S:=(.cons (.drop (.call 30 (.cons (.var 0) .nil))) (.cons (.ife (.or (.call 6 (.cons (.var 1) (.cons (.glo 39) .nil))) (.call 6 (.cons (.glo 40) (.cons (.var 1) .nil)))) (.cons (.ret (.glo 39)) .nil) .nil) (.cons (.ife (.cmp .Eq (.var 0) (.cstr "even")) (.cons (.ret (.glo 40)) .nil) .nil) (.cons (.ife (.cmp .Eq (.var 0) (.cstr "in")) (.cons (.ret (.call 5 (.cons (.call 2 (.cons (.cint 2) .nil)) (.cons (.var 1) .nil)))) .nil) .nil) (.cons (.ife (.cmp .Eq (.var 0) (.cstr "out")) (.cons (.ret (.call 4 (.cons (.call 2 (.cons (.cint 2) .nil)) (.cons (.call 5 (.cons (.call 2 (.cons (.cint 2) .nil)) (.cons (.var 1) .nil))) .nil)))) .nil) .nil) (.cons (.ife (.cmp .Eq (.var 0) (.cstr "both")) (.cons (.ret (.call 5 (.cons (.call 2 (.cons (.cint 6) .nil)) (.cons (.call 4 (.cons (.var 1) (.cons (.call 5 (.cons (.var 1) (.cons (.var 1) .nil))) .nil))) .nil)))) .nil) .nil) (.cons (.ret (.glo 39)) .nil)))))))
noncomputable def d_43:Fd:=⟨2,2,b_43⟩
noncomputable def b_44:S:=(.cons (.asg 1 .cnon) (.cons (.tryx (.cons (.drop (.call 43 (.cons (.var 0) (.cons (.tup (.cons (.cint 1) (.cons (.cint 2) .nil))) .nil)))) .nil) 0 2 (.cons (.asg 1 (.var 2)) .nil)) (.cons (.ret (.isi (.var 1) (.own 2))) .nil)))
noncomputable def d_44:Fd:=⟨1,3,b_44⟩
end VI.VP
end
section
namespace VI.VP
open PySem Fr
noncomputable def slm(k:Kd)(r:Rat):Rat:=match k with
 |.even=>1
 |.inn=>2*r
 |.out=>2 - 2*r
 |.both=>6*(r - r*r)
 |.hold=>0
 |.jump=>0
noncomputable def sl(k:Kd)(r:Rat):Rat:=if r<0\/1<r then 0 else slm k r
section
variable{x:Bool}{tab:Nat->Option Fd}{glo:Nat->R D}{sub:Nat->Nat->Bool}{n:Nat}
theorem JBy{r:Rat}(h0:0<=r)(h1:r<=1):JAR r=r:=by unfold JAR;grind
end
end VI.VP
end
section
namespace VI.VP
open PySem Fr
class Z (k:outParam Nat) (q:Rat):Prop where
 h:Sz k q
theorem Z.le{k:Nat}{q:Rat}(z:Z k q){n:Nat}(h:k<=n):Sz n q:=z.h.mono h
section
variable{i j:Nat}{p q:Rat}
instance[a:Z i p][b:Z j q]:Z (i+j+1) (p+q):=⟨a.h.add b.h (q_t _)⟩
instance[a:Z i p][b:Z j q]:Z (i+j+1) (p - q):=⟨a.h.sub b.h (q_t _)⟩
instance[a:Z i p][b:Z j q]:Z (i+j) (p*q):=⟨a.h.mul b.h (q_t _)⟩
instance[a:Z i p][b:Z j q]:Z (i+j+1) (p / q):=⟨by
 by_cases h:q=0
 ·subst h;rw[show p / (0:Rat)=0 by rw[Rat.div_def];simp]
  exact⟨Nat.pow_pos (by omega),q_m (by decide:(0:Rat).den<2 ^ 1) (Nat.pow_le_pow_right (by omega) (by omega))⟩
 ·exact a.h.div b.h h (by omega)⟩
instance:Z 3 (0:Rat):=⟨⟨by decide,by decide⟩⟩
instance:Z 3 (1:Rat):=⟨⟨by decide,by decide⟩⟩
instance:Z 3 (2:Rat):=⟨⟨by decide,by decide⟩⟩
instance:Z 3 (3:Rat):=⟨⟨by decide,by decide⟩⟩
instance[a:Z i q]:Z (i+1) (JAR q):=⟨JCV (by omega) (a.h.mono (by omega))⟩
theorem Small.Z{q:Rat}(h:Small q):Z 5 q:=⟨h.sz⟩
theorem sz01{n:Nat}(h:1<=n):Sz n (0:Rat)/\Sz n (1:Rat):=⟨Sz.mono (i:=1) ⟨by decide,by decide⟩ h,Sz.mono (i:=1) ⟨by decide,by decide⟩ h⟩
instance[a:Z i p]{k:Kd}:Z (4*i+10) (ez k p):=⟨by
 have z2:Z 3 (2:Rat):=inferInstance;have h1:Z (i+i) (p*p):=inferInstance;have h2:Z ((3+i)+(i+i)+1) (2*p - p*p):=inferInstance;have h3:Z ((i+i)+(3+(3+i)+1)) (p*p*(3 - 2*p)):=inferInstance;cases k
 ·exact a.le (by omega)
 ·exact h1.le (by omega)
 ·exact h2.le (by omega)
 ·exact h3.le (by omega)
 ·show Sz _ (if p=1 then 1 else 0);split<;>first|exact(sz01 (by omega)).1|exact(sz01 (by omega)).2
 ·show Sz _ (if p=0 then 0 else 1);split<;>first|exact(sz01 (by omega)).1|exact(sz01 (by omega)).2⟩
end
theorem nd(q:Rat):q*((q.den:Int):Rat)=(q.num:Rat):=by
 have z:((q.den:Int):Rat)≠0:=by exact_mod_cast JAT q
 conv=>lhs;lhs;rw[<-Rat.num_divInt_den q,Rat.divInt_eq_div,Rat.div_def]
 rw[Rat.mul_assoc,Rat.inv_mul_cancel _ z,Rat.mul_one]
theorem JKR{K:Rat}{N D:Int}(h:K*(D:Rat)=(N:Rat))(hD:D≠0):K=Rat.divInt N D:=by
 rw[Rat.divInt_eq_div,Rat.div_def,<-h,Rat.mul_assoc,Rat.mul_inv_cancel _ (by exact_mod_cast hD),Rat.mul_one]
theorem JGl{x i j:Nat}(h:x<2 ^ i)(e:i<=j):x<2 ^ j:=q_m h (Nat.pow_le_pow_right (by omega) e)
theorem pw1(i:Nat):2 ^ (i+1)=2*2 ^ i/\2 ^ (i+2)=4*2 ^ i/\2 ^ (i+3)=8*2 ^ i/\2 ^ (i+4)=16*2 ^ i:=by
 refine⟨?_,?_,?_,?_⟩<;>(rw[Nat.pow_add];omega)
section
variable{a c i i4 i5 i6:Nat}{s g l u v q:Rat}
theorem JHj{b c:Nat}{e:Rat}(hs:Sz a s)(hg:Sz b g)(he:Sz c e):Sz (a+b+c+2) (s+e*(g - s)):=by
 have d1:=JAT s;have d2:=JAT g;have d3:=JAT e;rw[JKR (K:=s+e*(g - s)) (N:=s.num*g.den*e.den+(e.num*g.num*s.den - e.num*s.num*g.den)) (D:=s.den*g.den*e.den) ?_ (Int.mul_ne_zero (Int.mul_ne_zero d1 d2) d3)]
 ·have P1:=JAE (JAE hs.n hg.d) he.d;have P2:=JAE (JAE he.n hg.n) hs.d;have P3:=JAE (JAE he.n hs.n) hg.d;rw[show c+b+a=a+b+c by omega]at P2
  rw[show c+a+b=a+b+c by omega]at P3
  have E:=(pw1 (a+b+c)).2.1;exact Sz.of (Int.mul_ne_zero (Int.mul_ne_zero d1 d2) d3) (by omega) (JGl (JAE (JAE hs.d hg.d) he.d) (by omega))
 ·have e1:=nd s;have e2:=nd g;have e3:=nd e;simp only[Rat.intCast_add,Rat.intCast_mul,Rat.intCast_sub];rw[<-e1,<-e2,<-e3]
  grind
theorem kw_sz(hs:Sz a s)(hg:Sz c g)(hq:Sz i q)(hl:Sz i4 l)(hu:Sz i5 u)(hv:Sz i6 v):Sz (a+c+3*i+i4+i5+i6+5) (s+q*q*(3 - 2*q)*(g - s)+l*(u*(q*q*q - 2*(q*q)+q)+v*(q*q*q - q*q))):=by
 have d1:=JAT s;have d2:=JAT g;have d3:=JAT l;have d4:=JAT u;have d5:=JAT v;have d6:=JAT q;have dD:(s.den:Int)*g.den*l.den*u.den*v.den*(q.den*q.den*q.den)≠0:=Int.mul_ne_zero (Int.mul_ne_zero (Int.mul_ne_zero (Int.mul_ne_zero (Int.mul_ne_zero d1 d2) d3) d4) d5) (Int.mul_ne_zero (Int.mul_ne_zero d6 d6) d6);rw[JKR (K:=s+q*q*(3 - 2*q)*(g - s)+l*(u*(q*q*q - 2*(q*q)+q)+v*(q*q*q - q*q)))
  (N:=s.num*g.den*l.den*u.den*v.den*((q.den - q.num)*(q.den - q.num)*(q.den+2*q.num))+s.den*g.num*l.den*u.den*v.den*(q.num*q.num*(3*q.den - 2*q.num))+s.den*g.den*l.num*u.num*v.den*(q.num*(q.den - q.num)*(q.den - q.num))+s.den*g.den*l.num*u.den*v.num*(q.num*q.num*(q.num - q.den)))
  (D:=s.den*g.den*l.den*u.den*v.den*(q.den*q.den*q.den)) ?_ dD]
 ·have n6:=hq.n;have m6:=hq.d;obtain⟨p1,p2,p3,p4⟩:=pw1 i;have b1:((q.den:Int) - q.num).natAbs<2 ^ (i+1):=by omega
  have b2:((q.den:Int)+2*q.num).natAbs<2 ^ (i+2):=by omega
  have b3:(3*(q.den:Int) - 2*q.num).natAbs<2 ^ (i+3):=by omega
  have b4:(q.num - (q.den:Int)).natAbs<2 ^ (i+1):=by omega
  have T1:=JAE (JAE (JAE (JAE (JAE hs.n hg.d) hl.d) hu.d) hv.d) (JAE (JAE b1 b1) b2);have T2:=JAE (JAE (JAE (JAE (JAE hs.d hg.n) hl.d) hu.d) hv.d) (JAE (JAE n6 n6) b3);have T3:=JAE (JAE (JAE (JAE (JAE hs.d hg.d) hl.n) hu.n) hv.d) (JAE (JAE n6 b1) b1);have T4:=JAE (JAE (JAE (JAE (JAE hs.d hg.d) hl.n) hu.d) hv.n) (JAE (JAE n6 n6) b4);have T5:=JAE (JAE (JAE (JAE (JAE hs.d hg.d) hl.d) hu.d) hv.d) (JAE (JAE m6 m6) m6);generalize hB:a+c+3*i+i4+i5+i6=B;obtain⟨r1,r2,r3,r4⟩:=pw1 B;have r5:2 ^ (B+5)=32*2 ^ B:=by rw[Nat.pow_add];omega
  have T1:=JGl T1 (j:=B+4) (by omega)
  have T2:=JGl T2 (j:=B+3) (by omega)
  have T3:=JGl T3 (j:=B+2) (by omega)
  have T4:=JGl T4 (j:=B+1) (by omega)
  refine Sz.of dD ?_ (JGl T5 (by omega))
  rw[r5];rw[r4]at T1;rw[r3]at T2;rw[r2]at T3;rw[r1]at T4;omega
 ·have e1:=nd s;have e2:=nd g;have e3:=nd l;have e4:=nd u;have e5:=nd v;have e6:=nd q;simp only[Rat.intCast_add,Rat.intCast_mul,Rat.intCast_sub,Rat.intCast_ofNat];rw[<-e1,<-e2,<-e3,<-e4,<-e5,<-e6];generalize ((s.den:Int):Rat)=x1;generalize ((g.den:Int):Rat)=x2;generalize ((l.den:Int):Rat)=x3;generalize ((u.den:Int):Rat)=x4;generalize ((v.den:Int):Rat)=x5;generalize ((q.den:Int):Rat)=x6
  grind
end
instance(priority:=high){i j k:Nat}{s g e:Rat}[a:Z i s][b:Z j g][c:Z k e]:Z (i+j+k+2) (s+e*(g - s)):=⟨JHj a.h b.h c.h⟩
instance(priority:=high){i j k:Nat}{s g e:Rat}[a:Z i s][b:Z j g][c:Z k e]:Z (i+j+k+2) (s+(g - s)*e):=⟨by
 rw[Rat.mul_comm];exact JHj a.h b.h c.h⟩
section
variable{j:Nat}{p:Rat}[a:Z j p]
instance(priority:=high):Z (3*j+8) (p*p*p - 2*(p*p)+p):=⟨by
 rw[show p*p*p - 2*(p*p)+p=p*((1 - p)*(1 - p)) by grind]
 exact(inferInstance:Z _ (p*((1 - p)*(1 - p)))).le (by omega)⟩
instance(priority:=high):Z (3*j+4) (p*p*p - p*p):=⟨by
 rw[show p*p*p - p*p=p*p*(p - 1) by grind]
 exact(inferInstance:Z _ (p*p*(p - 1))).le (by omega)⟩
end
end VI.VP
end
section
namespace VI.VP
noncomputable def b_46:S:=(.cons (.ret (.call 25 (.cons (.call 4 (.cons (.var 1) (.cons (.idx (.var 0) (.glo 57)) .nil))) (.cons (.idx (.var 0) (.glo 58)) .nil)))) .nil)
noncomputable def d_46:Fd:=⟨2,2,b_46⟩
noncomputable def b_48:S:=(.cons (.asg 2 (.call 46 (.cons (.var 0) (.cons (.var 1) .nil)))) (.cons (.ife (.cmp .Eq (.idx (.var 0) (.glo 59)) (.glo 61)) (.cons (.ret (.call 49 (.cons (.var 0) (.cons (.call 31 (.cons (.var 2) .nil)) .nil)))) .nil) .nil) (.cons (.ret (.call 10 (.cons (.idx (.var 0) (.glo 55)) (.cons (.idx (.var 0) (.glo 56)) (.cons (.call 32 (.cons (.idx (.var 0) (.glo 59)) (.cons (.var 2) .nil))) .nil))))) .nil)))
noncomputable def d_48:Fd:=⟨2,3,b_48⟩
noncomputable def b_49:S:=(.cons (.asg 2 (.call 5 (.cons (.var 1) (.cons (.var 1) .nil)))) (.cons (.asg 3 (.call 5 (.cons (.var 2) (.cons (.var 1) .nil)))) (.cons (.asg 4 (.call 5 (.cons (.idx (.idx (.var 0) (.glo 60)) (.cint 0)) (.cons (.call 3 (.cons (.call 4 (.cons (.var 3) (.cons (.call 5 (.cons (.call 2 (.cons (.cint 2) .nil)) (.cons (.var 2) .nil))) .nil))) (.cons (.var 1) .nil))) .nil)))) (.cons (.asg 5 (.call 5 (.cons (.idx (.idx (.var 0) (.glo 60)) (.cint 1)) (.cons (.call 4 (.cons (.var 3) (.cons (.var 2) .nil))) .nil)))) (.cons (.asg 6 (.call 5 (.cons (.idx (.var 0) (.glo 58)) (.cons (.call 3 (.cons (.var 4) (.cons (.var 5) .nil))) .nil)))) (.cons (.ret (.call 3 (.cons (.call 10 (.cons (.idx (.var 0) (.glo 55)) (.cons (.idx (.var 0) (.glo 56)) (.cons (.call 32 (.cons (.cstr "both") (.cons (.var 1) .nil))) .nil)))) (.cons (.var 6) .nil)))) .nil))))))
noncomputable def d_49:Fd:=⟨2,7,b_49⟩
noncomputable def b_51:S:=(.cons (.asg 3 (.call 35 (.cons (.var 0) (.cons (.var 1) .nil)))) (.cons (.asg 4 (.tup (.cons (.tup (.cons (.cint 0) (.cons (.cint 1) .nil))) (.cons (.tup (.cons (.cint 0) (.cons (.cint 1) .nil))) .nil)))) (.cons (.ife (.cmp .Eq (.call 12 (.cons (.var 0) (.cons (.bin .Add (.var 1) (.cint 1)) (.cons (.cint 4) .nil)))) (.cint 0)) (.cons (.asg 3 (.cstr "kept")) (.cons (.asg 4 (.tup (.cons (.call 15 (.cons (.var 0) (.cons (.bin .Add (.var 1) (.cint 2)) .nil))) (.cons (.call 15 (.cons (.var 0) (.cons (.bin .Add (.var 1) (.cint 4)) .nil))) .nil)))) .nil)) .nil) (.cons (.ret (.tup (.cons (.call 15 (.cons (.var 0) (.cons (.bin .Add (.var 1) (.cint 6)) .nil))) (.cons (.call 15 (.cons (.var 0) (.cons (.bin .Add (.var 1) (.cint 8)) .nil))) (.cons (.var 2) (.cons (.call 16 (.cons (.var 0) (.cons (.bin .Add (.var 1) (.cint 10)) .nil))) (.cons (.var 3) (.cons (.var 4) .nil)))))))) .nil))))
noncomputable def d_51:Fd:=⟨3,5,b_51⟩
noncomputable def b_52:S:=(.cons (.unp [2,3,4,5,6,7] (.var 0)) (.cons (.asg 8 (.call 20 (.cons (.call 18 (.cons (.var 1) (.cons (.var 4) .nil))) (.cons (.var 5) .nil)))) (.cons (.ife (.or (.cmp .NotEq (.var 6) (.cstr "kept")) (.or (.cmp .LtE (.idx (.var 8) (.cint 0)) (.cint 0)) (.cmp .GtE (.idx (.var 8) (.cint 0)) (.idx (.var 8) (.cint 1))))) (.cons (.ret (.call 17 (.cons (.var 2) (.cons (.call 19 (.cons (.call 18 (.cons (.var 3) (.cons (.var 2) .nil))) (.cons (.call 36 (.cons (.var 6) (.cons (.var 8) .nil))) .nil))) .nil)))) .nil) .nil) (.cons (.asg 9 (.call 17 (.cons (.var 2) (.cons (.call 19 (.cons (.call 18 (.cons (.var 3) (.cons (.var 2) .nil))) (.cons (.call 36 (.cons (.cstr "both") (.cons (.var 8) .nil))) .nil))) .nil)))) (.cons (.asg 10 (.call 18 (.cons (.tup (.cons (.cint 1) (.cons (.cint 1) .nil))) (.cons (.var 8) .nil)))) (.cons (.asg 11 (.call 19 (.cons (.call 19 (.cons (.var 10) (.cons (.var 10) .nil))) (.cons (.var 8) .nil)))) (.cons (.asg 12 (.call 19 (.cons (.call 19 (.cons (.var 8) (.cons (.var 8) .nil))) (.cons (.var 10) .nil)))) (.cons (.asg 13 (.call 18 (.cons (.call 19 (.cons (.idx (.var 7) (.cint 0)) (.cons (.var 11) .nil))) (.cons (.call 19 (.cons (.idx (.var 7) (.cint 1)) (.cons (.var 12) .nil))) .nil)))) (.cons (.ret (.call 17 (.cons (.var 9) (.cons (.call 19 (.cons (.var 5) (.cons (.var 13) .nil))) .nil)))) .nil)))))))))
noncomputable def d_52:Fd:=⟨2,14,b_52⟩
noncomputable def b_53:S:=(.cons (.asg 3 (.call 14 (.cons (.bin .Sub (.call 12 (.cons (.var 0) (.cons (.var 1) (.cons (.cint 17) .nil)))) (.cint 4)) (.cons (.cint 8) .nil)))) (.cons (.ret (.call 17 (.cons (.idx (.var 2) (.cint 2)) (.cons (.call 19 (.cons (.var 3) (.cons (.idx (.var 2) (.cint 3)) .nil))) .nil)))) .nil))
noncomputable def d_53:Fd:=⟨3,4,b_53⟩
noncomputable def b_72:S:=(.cons (.ret (.call 3 (.cons (.idx (.var 0) (.glo 57)) (.cons (.idx (.var 0) (.glo 58)) .nil)))) .nil)
noncomputable def d_72:Fd:=⟨1,1,b_72⟩
noncomputable def b_88:S:=(.cons (.asg 3 (.call 15 (.cons (.var 0) (.cons (.var 1) .nil)))) (.cons (.asg 4 (.call 15 (.cons (.var 0) (.cons (.bin .Add (.var 1) (.cint 2)) .nil)))) (.cons (.asg 5 (.lst .nil)) (.cons (.for1 6 (.rng (.cons (.call 12 (.cons (.var 0) (.cons (.bin .Add (.var 1) (.cint 4)) (.cons (.bin .Add (.var 2) (.cint 1)) .nil)))) .nil)) (.cons (.asg 7 (.bin .Add (.bin .Add (.var 1) (.cint 10)) (.bin .Mult (.cint 20) (.var 6)))) (.cons (.asg 8 (.call 51 (.cons (.var 0) (.cons (.var 7) (.cons (.var 4) .nil))))) (.cons (.asg 8 (.bin .Add (.tup (.cons (.ife (.cmp .NotEq (.var 5) (.lst .nil)) (.idx (.idx (.var 5) (.neg (.cint 1))) (.cint 1)) (.var 3)) .nil)) (.fn1 (.slice (some 1) none) (.var 8)))) (.cons (.app 5 (.var 8)) (.cons (.asg 4 (.call 17 (.cons (.var 4) (.cons (.idx (.var 8) (.cint 3)) .nil)))) (.cons (.ife (.cmp .Eq (.call 12 (.cons (.var 0) (.cons (.bin .Add (.var 7) (.cint 14)) (.cons (.cint 2) .nil)))) (.cint 0)) (.cons (.asg 4 (.call 17 (.cons (.var 4) (.cons (.call 16 (.cons (.var 0) (.cons (.bin .Add (.var 7) (.cint 15)) .nil))) .nil)))) .nil) .nil) .nil))))))) (.cons (.ret (.tup (.cons (.var 3) (.cons (.fn1 .toTup (.var 5)) .nil)))) .nil)))))
noncomputable def d_88:Fd:=⟨3,9,b_88⟩
noncomputable def b_89:S:=(.cons (.ife (.cmp .Eq (.idx (.var 2) (.cint 1)) (.tup .nil)) (.cons (.ret (.call 15 (.cons (.var 0) (.cons (.var 1) .nil)))) .nil) .nil) (.cons (.ret (.call 53 (.cons (.var 0) (.cons (.var 1) (.cons (.idx (.idx (.var 2) (.cint 1)) (.call 12 (.cons (.var 0) (.cons (.bin .Add (.var 1) (.cint 1)) (.cons (.blt .len (.cons (.idx (.var 2) (.cint 1)) .nil)) .nil))))) .nil))))) .nil))
noncomputable def d_89:Fd:=⟨3,3,b_89⟩
noncomputable def b_90:S:=(.cons (.asg 2 (.idx (.var 0) (.cint 0))) (.cons (.for1 3 (.idx (.var 0) (.cint 1)) (.cons (.ife (.not (.call 21 (.cons (.var 1) (.cons (.idx (.var 3) (.cint 2)) .nil)))) (.cons (.asg 2 (.call 52 (.cons (.var 3) (.cons (.var 1) .nil)))) .nil) .nil) .nil)) (.cons (.ret (.var 2)) .nil)))
noncomputable def d_90:Fd:=⟨2,4,b_90⟩
noncomputable def b_95:S:=(.cons (.ret (.cmpr 0 (.var 0) (.idx (.var 0) (.glo 94)) (.call 6 (.cons (.idx (.var 0) (.glo 57)) (.cons (.var 2) .nil))))) .nil)
noncomputable def d_95:Fd:=⟨2,2,b_95⟩
noncomputable def b_96:S:=(.cons (.ret (.cmpr 0 (.var 0) (.idx (.var 0) (.glo 94)) (.not (.call 6 (.cons (.var 2) (.cons (.idx (.var 0) (.glo 57)) .nil)))))) .nil)
noncomputable def d_96:Fd:=⟨2,2,b_96⟩
noncomputable def b_97:S:=(.cons (.asg 2 (.call 96 (.cons (.var 0) (.cons (.var 1) .nil)))) (.cons (.ife (.cmp .Eq (.blt .len (.cons (.var 2) .nil)) (.cint 0)) (.cons (.ret (.idx (.var 0) (.glo 93))) .nil) .nil) (.cons (.ret (.call 48 (.cons (.idx (.var 2) (.neg (.cint 1))) (.cons (.var 1) .nil)))) .nil)))
noncomputable def d_97:Fd:=⟨2,3,b_97⟩
noncomputable def b_98:S:=(.cons (.asg 2 (.call 95 (.cons (.var 0) (.cons (.var 1) .nil)))) (.cons (.ife (.cmp .Eq (.blt .len (.cons (.var 2) .nil)) (.cint 0)) (.cons (.ret (.idx (.var 0) (.glo 93))) .nil) .nil) (.cons (.asg 3 (.idx (.var 2) (.neg (.cint 1)))) (.cons (.ife (.and (.cmp .Eq (.idx (.var 3) (.glo 59)) (.cstr "hold")) (.cmp .Eq (.call 72 (.cons (.var 3) .nil)) (.var 1))) (.cons (.ret (.idx (.var 3) (.glo 55))) .nil) .nil) (.cons (.ret (.call 48 (.cons (.var 3) (.cons (.var 1) .nil)))) .nil)))))
noncomputable def d_98:Fd:=⟨2,4,b_98⟩
noncomputable def b_99:S:=(.cons (.asg 2 (.call 96 (.cons (.var 0) (.cons (.var 1) .nil)))) (.cons (.ife (.cmp .Eq (.blt .len (.cons (.var 2) .nil)) (.cint 0)) (.cons (.ret (.idx (.var 0) (.glo 93))) .nil) .nil) (.cons (.asg 3 (.idx (.var 2) (.neg (.cint 1)))) (.cons (.ife (.cmp .Eq (.idx (.var 3) (.glo 59)) (.cstr "jump")) (.cons (.ret (.idx (.var 3) (.glo 56))) .nil) .nil) (.cons (.ret (.call 48 (.cons (.var 3) (.cons (.var 1) .nil)))) .nil)))))
noncomputable def d_99:Fd:=⟨2,4,b_99⟩
noncomputable def JFC:S:=(.cons (.asg 1 (.lst .nil)) (.cons (.for1 2 (.idx (.var 0) (.glo 94)) (.cons (.ife (.or (.cmp .Eq (.blt .len (.cons (.var 1) .nil)) (.cint 0)) (.cmp .NotEq (.idx (.var 1) (.neg (.cint 1))) (.idx (.var 2) (.glo 57)))) (.cons (.app 1 (.idx (.var 2) (.glo 57))) .nil) .nil) (.cons (.app 1 (.call 72 (.cons (.var 2) .nil))) .nil))) (.cons (.ret (.var 1)) .nil)))
noncomputable def JMa:Fd:=⟨1,3,JFC⟩
noncomputable def JMX:S:=(.cons (.asg 2 (.call 97 (.cons (.var 0) (.cons (.var 1) .nil)))) (.cons (.ret (.or (.cmp .NotEq (.call 98 (.cons (.var 0) (.cons (.var 1) .nil))) (.var 2)) (.cmp .NotEq (.call 99 (.cons (.var 0) (.cons (.var 1) .nil))) (.var 2)))) .nil))
noncomputable def JJl:Fd:=⟨2,3,JMX⟩
noncomputable def JOO:S:=(.cons (.ret (.cmpr 0 (.var 0) (.call 100 (.cons (.var 0) .nil)) (.call 101 (.cons (.var 1) (.cons (.var 0) .nil))))) .nil)
noncomputable def JMk:Fd:=⟨1,1,JOO⟩
noncomputable def JBT:S:=(.cons (.asg 1 (.call 88 (.cons (.var 0) (.cons (.cint 0) (.cons (.cint 3) .nil))))) (.cons (.asg 2 (.lst .nil)) (.cons (.forT [3,4,5,6,7,8] (.idx (.var 1) (.cint 1)) (.cons (.ife (.and (.cmp .NotEq (.var 3) (.var 4)) (.cmp .Eq (.var 7) (.cstr "hold"))) (.cons (.app 2 (.call 17 (.cons (.var 5) (.cons (.var 6) .nil)))) .nil) .nil) (.cons (.ife (.and (.cmp .NotEq (.var 3) (.var 4)) (.cmp .Eq (.var 7) (.cstr "jump"))) (.cons (.app 2 (.var 5)) .nil) .nil) .nil))) (.cons (.asg 9 (.call 102 (.cons (.var 1) .nil))) (.cons (.asg 10 (.cmpr 0 (.var 0) (.rng (.cons (.bin .Sub (.blt .len (.cons (.var 9) .nil)) (.cint 1)) .nil)) (.not (.call 21 (.cons (.idx (.var 10) (.var 0)) (.cons (.idx (.var 10) (.bin .Add (.var 0) (.cint 1))) .nil)))))) (.cons (.ife (.or (.cmp .NotEq (.xop .srt (.cons (.var 9) .nil)) (.xop .ssk (.cons (.var 2) .nil))) (.cmp .NotEq (.var 10) (.lst .nil))) (.cons (.ret (.cbl false)) .nil) .nil) (.cons (.asg 11 (.tup (.cons (.cint 1) (.cons (.cint 1000000) .nil)))) (.cons (.for1 12 (.rng (.cons (.cint 4) .nil)) (.cons (.asg 13 (.call 89 (.cons (.var 0) (.cons (.bin .Add (.cint 100) (.bin .Mult (.cint 3) (.var 12))) (.cons (.var 1) .nil))))) (.cons (.asg 14 (.call 97 (.cons (.var 1) (.cons (.var 13) .nil)))) (.cons (.ife (.cmp .NotEq (.var 14) (.call 90 (.cons (.var 1) (.cons (.var 13) .nil)))) (.cons (.ret (.cbl false)) .nil) .nil) (.cons (.asg 15 (.call 98 (.cons (.var 1) (.cons (.var 13) .nil)))) (.cons (.asg 16 (.call 99 (.cons (.var 1) (.cons (.var 13) .nil)))) (.cons (.ife (.cmp .NotEq (.and (.cmp .Eq (.var 15) (.var 14)) (.cmp .Eq (.var 14) (.var 16))) (.cmp .NotIn (.var 13) (.var 2))) (.cons (.ret (.cbl false)) .nil) .nil) (.cons (.forT [17,18] (.tup (.cons (.tup (.cons (.var 15) (.cons (.call 18 (.cons (.var 13) (.cons (.var 11) .nil))) .nil))) (.cons (.tup (.cons (.var 16) (.cons (.call 17 (.cons (.var 13) (.cons (.var 11) .nil))) .nil))) .nil))) (.cons (.asg 19 (.call 18 (.cons (.call 90 (.cons (.var 1) (.cons (.var 18) .nil))) (.cons (.var 17) .nil)))) (.cons (.ife (.call 21 (.cons (.tup (.cons (.cint 1) (.cons (.cint 1000) .nil))) (.cons (.tup (.cons (.blt .abs (.cons (.idx (.var 19) (.cint 0)) .nil)) (.cons (.idx (.var 19) (.cint 1)) .nil))) .nil))) (.cons (.ret (.cbl false)) .nil) .nil) .nil))) .nil)))))))) (.cons (.ret (.cbl true)) .nil)))))))))
noncomputable def JI8:Fd:=⟨1,20,JBT⟩
noncomputable def tabA(i:Nat):Option Fd:=match i with
 |0=>some d_0
 |1=>some d_1
 |2=>some d_2
 |3=>some d_3
 |4=>some d_4
 |5=>some d_5
 |6=>some d_6
 |7=>some d_7
 |8=>some d_8
 |9=>some d_9
 |10=>some d_10
 |11=>some d_11
 |12=>some d_12
 |13=>some d_13
 |14=>some d_14
 |15=>some d_15
 |16=>some d_16
 |17=>some d_17
 |18=>some d_18
 |19=>some d_19
 |20=>some d_20
 |21=>some d_21
 |23=>some d_23
 |24=>some d_24
 |25=>some d_25
 |26=>some d_26
 |27=>some d_27
 |29=>some d_29
 |30=>some d_30
 |31=>some d_31
 |32=>some d_32
 |33=>some d_33
 |34=>some d_34
 |35=>some d_35
 |36=>some d_36
 |37=>some d_37
 |43=>some d_43
 |44=>some d_44
 |46=>some d_46
 |48=>some d_48
 |49=>some d_49
 |51=>some d_51
 |52=>some d_52
 |53=>some d_53
 |72=>some d_72
 |88=>some d_88
 |89=>some d_89
 |90=>some d_90
 |95=>some d_95
 |96=>some d_96
 |97=>some d_97
 |98=>some d_98
 |99=>some d_99
 |100=>some JMa
 |101=>some JJl
 |102=>some JMk
 |103=>some JI8
 |_=>none
noncomputable def gloA(i:Nat):R D:=match i with
 |39=>.ok (F 0)
 |40=>.ok (F 1)
 |41=>.ok (VI.VP.kinds)
 |42=>.ok (VI.VP.turned)
 |55=>.ok (.int 0)
 |56=>.ok (.int 1)
 |57=>.ok (.int 2)
 |58=>.ok (.int 3)
 |59=>.ok (.int 4)
 |60=>.ok (.int 5)
 |61=>.ok (.str "kept")
 |77=>.ok (.tuple [F 0,F 0])
 |93=>.ok (.int 0)
 |94=>.ok (.int 1)
 |128=>.ok (.int 0)
 |129=>.ok (.int 1)
 |151=>.ok (.int 5)
 |152=>.ok (.int 4)
 |192=>.ok (.dict [(.str "even",.tuple [.int 1,.int 2]),(.str "both",.tuple [.int 1,.int 2]),(.str "kept",.tuple [.int 1,.int 2]),(.str "in",.tuple [.int 1,.int 3]),(.str "out",.tuple [.int 2,.int 3]),(.str "hold",.tuple [.int 0,.int 1]),(.str "jump",.tuple [.int 1,.int 1])])
 |226=>.ok (.int 1)
 |_=>.bad
end VI.VP
end
section
namespace VI.VP
open PySem Fr
theorem tF:TabF tabA:=⟨rfl,rfl,rfl,rfl,rfl,rfl,rfl⟩
theorem tL:TabL tabA:=⟨rfl,rfl,rfl,rfl,rfl,rfl,rfl,rfl,rfl,rfl,rfl⟩
theorem tM:TabM tabA:=⟨rfl,rfl,rfl,rfl⟩
theorem tK:TabK tabA:=⟨rfl,rfl,rfl,rfl,rfl⟩
theorem gK:GloK gloA:=⟨rfl,rfl,rfl,rfl⟩
theorem G39:gloA 39=.ok (F 0):=rfl
theorem G40:gloA 40=.ok (F 1):=rfl
theorem G55:gloA 55=.ok (.int 0):=rfl
theorem G56:gloA 56=.ok (.int 1):=rfl
theorem G57:gloA 57=.ok (.int 2):=rfl
theorem G58:gloA 58=.ok (.int 3):=rfl
theorem G59:gloA 59=.ok (.int 4):=rfl
theorem G60:gloA 60=.ok (.int 5):=rfl
theorem G61:gloA 61=.ok (.str "kept"):=rfl
section
variable{x:Bool}{sub:Nat->Nat->Bool}{m i j:Nat}{p q:Rat}
theorem JAF{k:Nat}(h:k<=m):∃n,m=n+k:=⟨m - k,by omega⟩
theorem JLW[a:Z i p][b:Z j q](hi:i<=1500)(hj:j<=1500)(hm:3<=m):run x tabA gloA sub m 3 [F p,F q]=.ok (F (p+q)):=by
 obtain⟨n,rfl⟩:=JAF hm;exact JMG tF (a.le hi) (b.le hj)
theorem JGw[a:Z i p][b:Z j q](hi:i<=1500)(hj:j<=1500)(hm:3<=m):run x tabA gloA sub m 4 [F p,F q]=.ok (F (p - q)):=by
 obtain⟨n,rfl⟩:=JAF hm;exact JDR tF (a.le hi) (b.le hj)
theorem JHJ[a:Z i p][b:Z j q](hi:i<=1500)(hj:j<=1500)(hm:3<=m):run x tabA gloA sub m 5 [F p,F q]=.ok (F (p*q)):=by
 obtain⟨n,rfl⟩:=JAF hm;exact JCT tF (a.le hi) (b.le hj)
theorem JOS[a:Z i p][b:Z j q](hi:i<=1500)(hj:j<=1500)(hm:1<=m):run x tabA gloA sub m 6 [F p,F q]=.ok (.bool (decide (p<q))):=by
 obtain⟨n,rfl⟩:=JAF hm;exact JCk tF (a.le hi) (b.le hj)
theorem JPR[a:Z i p][b:Z j q](h0:q≠0)(hi:i<=1500)(hj:j<=1500)(hm:3<=m):run x tabA gloA sub m 25 [F p,F q]=.ok (F (p / q)):=by
 obtain⟨n,rfl⟩:=JAF hm;have hp:=a.le hi;have hq:=b.le hj;have hz:q.num≠0:=λz=>h0 (Rat.num_eq_zero.mp z);rw[JAB (n:=n+2) (show tabA 25=some d_25 from rfl),JAC rfl]
 dsimp![d_25,b_25,JAp (hp.Ln (by omega)) (hq.Ld (by omega)),JAp (hp.Ld (by omega)) (hq.Ln (by omega)),JDV (n:=n) tF _ _ (Int.mul_ne_zero (JAT p) hz) (L.of (JAE hp.d hq.n) (by omega)),JHD]
theorem JM6(k:Int)(hm:1<=m):run x tabA gloA sub m 2 [.int k]=.ok (.tuple [.int k,.int 1]):=by
 obtain⟨n,rfl⟩:=JAF hm;exact JDj tF k
theorem JID{r:Rat}{k:Nat}[a:Z i p][b:Z j q][c:Z k r](hi:i<=1500)(hj:j<=1500)(hk:i+j+k<=1498)(hm:4<=m):run x tabA gloA sub m 10 [F p,F q,F r]=.ok (F (p+r*(q - p))):=by
 obtain⟨n,rfl⟩:=JAF hm;have z1:Z (j+i+1) (q - p):=inferInstance;have z2:Z (k+(j+i+1)) (r*(q - p)):=inferInstance;rw[JAB (n:=n+3) (show tabA 10=some d_10 from rfl),JAC rfl]
 dsimp![d_10,b_10,JGw (x:=x) (sub:=sub) (m:=n+3) (p:=q) (q:=p) (by omega) (by omega) (by omega),JHJ (x:=x) (sub:=sub) (m:=n+3) (p:=r) (q:=q - p) (by omega) (by omega) (by omega),JLW (x:=x) (sub:=sub) (m:=n+3) (p:=p) (q:=r*(q - p)) (by omega) (by omega) (by omega)]
theorem JP1[a:Z i p](hi:i<=1500)(hm:3<=m):run x tabA gloA sub m 31 [F p]=.ok (F (JAR p)):=by
 obtain⟨n,rfl⟩:=JAF hm;exact JIq gK tF tM tK (a.le hi)
theorem JHf[a:Z i p](hi:i<=200)(hm:4<=m):run x tabA gloA sub m 32 [.str k.str,F p]=.ok (F (ez k (JAR p))):=by
 obtain⟨n,rfl⟩:=JAF hm;exact JJa gK tF tM tK k (a.le hi)
theorem JHZ[a:Z i p][b:Z j q](hi:i<=1500)(hj:j<=1500)(hm:3<=m):run x tabA gloA sub m 17 [F p,F q]=.ok (F (p+q)):=by
 obtain⟨n,rfl⟩:=JAF hm;exact JJR tL (a.le hi) (b.le hj)
theorem JE1[a:Z i p][b:Z j q](hi:i<=1500)(hj:j<=1500)(hm:3<=m):run x tabA gloA sub m 18 [F p,F q]=.ok (F (p - q)):=by
 obtain⟨n,rfl⟩:=JAF hm;exact JIE tL (a.le hi) (b.le hj)
theorem JNF[a:Z i p][b:Z j q](hi:i<=1500)(hj:j<=1500)(hm:3<=m):run x tabA gloA sub m 19 [F p,F q]=.ok (F (p*q)):=by
 obtain⟨n,rfl⟩:=JAF hm;exact JHe tL (a.le hi) (b.le hj)
theorem JNi[a:Z i p][b:Z j q](h0:q≠0)(hi:i<=1500)(hj:j<=1500)(hm:3<=m):run x tabA gloA sub m 20 [F p,F q]=.ok (F (p / q)):=by
 obtain⟨n,rfl⟩:=JAF hm;exact JJD tL (a.le hi) (b.le hj) h0
theorem JH7[a:Z i p][b:Z j q](hi:i<=1500)(hj:j<=1500)(hm:1<=m):run x tabA gloA sub m 21 [F p,F q]=.ok (.bool (decide (p<q))):=by
 obtain⟨n,rfl⟩:=JAF hm;exact JJJ tL (a.le hi) (b.le hj)
theorem JPp{a b:Int}(hb:b≠0)(lb:b.natAbs<2 ^ 64)(hm:2<=m):run x tabA gloA sub m 14 [.int a,.int b]=.ok (F (Rat.divInt a b)):=by
 obtain⟨n,rfl⟩:=JAF hm;exact JBK tL a b hb (L.of lb (by omega))
theorem JHv[a:Z i p](hi:i<=200)(hm:3<=m):run x tabA gloA sub m 36 [.str k.str,F p]=.ok (F (ez k (JAR p))):=by
 obtain⟨n,rfl⟩:=JAF hm;exact JGz tL rfl k (a.le hi)
theorem JEm(ns:List Int)(k c:Int)(hm:2<=m)(hk:0<=k)(hk2:k<2000000)(hc:0<c):∃i,0<=i/\i<c/\run x tabA gloA sub m 12 [sc ns,.int k,.int c]=.ok (.int i):=by
 obtain⟨n,rfl⟩:=JAF hm;exact JCC tL ns k c hk hk2 hc
theorem JC3(ns:List Int)(k:Int)(hm:3<=m)(hk:0<=k)(hk2:k<1000000):∃q,Small q/\run x tabA gloA sub m 15 [sc ns,.int k]=.ok (F q):=by
 obtain⟨n,rfl⟩:=JAF hm;exact JJT tL ns k hk hk2
theorem JKo(ns:List Int)(k:Int)(hm:3<=m)(hk:0<=k)(hk2:k<1000000):∃q,Small q/\0<q/\run x tabA gloA sub m 16 [sc ns,.int k]=.ok (F q):=by
 obtain⟨n,rfl⟩:=JAF hm;exact JJc tL ns k hk hk2
theorem JQp(ns:List Int)(k:Int)(hm:3<=m)(hk:0<=k)(hk2:k<1000000):∃d:Kd,run x tabA gloA sub m 35 [sc ns,.int k]=.ok (.str d.str):=by
 obtain⟨n,rfl⟩:=JAF hm;exact JJB tL rfl ns k hk hk2
end
end VI.VP
end
local macro_rules | `(tactic| dsimp?! [$ts,*])=>`(tactic| simp(disch:=first|omega|assumption) only[VI.VP.v_var,VI.VP.JN2,VI.VP.v_bl,VI.VP.JPN,VI.VP.JOt,VI.VP.JOV,VI.VP.JOo,VI.VP.v_not,VI.VP.v_and,VI.VP.v_or,VI.VP.JQP,VI.VP.JO2,VI.VP.JN6,VI.VP.JQo,VI.VP.JOx,VI.VP.JN4,VI.VP.JQg,VI.VP.JLf,VI.VP.JP2,VI.VP.JQk,
 VI.VP.v_count,VI.VP.JIw,VI.VP.v_get,VI.VP.JKQ,VI.VP.JNc,VI.VP.JPo,VI.VP.JNz,VI.VP.JPV,VI.VP.JOA,VI.VP.JOB,VI.VP.JKb,VI.VP.JFs,VI.VP.JN1,VI.VP.JP9,VI.VP.JO6,VI.VP.JKM,VI.VP.JOv,VI.VP.JPT,VI.VP.k_tt,VI.VP.k_tl,VI.VP.k_lt,VI.VP.k_ll,VI.VP.JK2,VI.VP.JG1,VI.VP.JJw,VI.VP.JNp,VI.VP.t_or,VI.VP.JOc,VI.VP.JOl,VI.VP.JIy,VI.VP.JJo,VI.VP.JQc,VI.VP.JKx,VI.VP.JQF,VI.VP.JQe,VI.VP.JOh,VI.VP.JPw,VI.VP.JOY,VI.VP.l_idx,VI.VP.JLk,VI.VP.JQM,
 VI.VP.JQO,VI.VP.JKX,VI.VP.JN5,VI.VP.JQQ,VI.VP.JOb,VI.VP.JOJ,VI.VP.JQb,VI.VP.JOa,VI.VP.JLV,VI.VP.JKz,VI.VP.JNt,VI.VP.JKl,
 VI.VP.JIt,VI.VP.JKv,VI.VP.JO3,VI.VP.JOM,VI.VP.JNe,VI.VP.JKP,VI.VP.JKd,VI.VP.JOT,VI.VP.JPg,VI.VP.JPa,VI.VP.JQV,VI.VP.JOI,VI.VP.JLG,VI.VP.JKh,VI.VP.JPP,VI.VP.JN7,VI.VP.JPb,VI.VP.JKp,VI.VP.JNs,VI.VP.JPh,VI.VP.JIo,VI.VP.JHa,VI.VP.JQq,VI.VP.JLA,VI.VP.JHg,VI.VP.JHO,VI.VP.JLH,VI.VP.JLd,VI.VP.JQY,VI.VP.JN9,VI.VP.JPz,VI.VP.JLI,VI.VP.JKA,VI.VP.JLC,VI.VP.JKa,VI.VP.JKf,VI.VP.JQI,VI.VP.JJ8,VI.VP.JNd,VI.VP.JKC,VI.VP.JKm,VI.VP.JLY,VI.VP.JKW,VI.VP.JOX,VI.VP.JQU,VI.VP.JLa,VI.VP.JN3,VI.VP.JKD,VI.VP.JKK,VI.VP.JLn,VI.VP.JLT,VI.VP.JKe,VI.VP.JLD,VI.VP.JKi,VI.VP.JKE,VI.VP.JKF,VI.VP.JLc,VI.VP.JK1,VI.VP.JG3,VI.VP.JNk,VI.VP.JIn,VI.VP.JHI,VI.VP.JF7,VI.VP.JPr,VI.VP.JLl,VI.VP.JOZ,VI.VP.JOQ,VI.VP.JP3,VI.VP.JPZ,VI.VP.JGy,
 VI.VP.look_zero,VI.VP.look_succ,VI.VP.get_val,VI.VP.get_own,VI.VP.JEu,VI.VP.JEd,List.map_cons,List.map_nil,List.cons_append,List.nil_append,
 List.replicate_succ,List.replicate_zero,Nat.reduceSub,List.set_cons_zero,List.set_cons_succ,VI.E.fresh,VI.VP.JFt,VI.VP.JCb,VI.VP.JDF,VI.VP.JCa,Bool.false_and,q_v,eq_self,if_true,if_false,VI.VP.i_ne,VI.VP.i_eq,VI.VP.i_lt,VI.VP.i_gt,VI.VP.i_le,VI.VP.i_ge,
 VI.VP.F_ne,VI.VP.F_eq,VI.VP.JLJ,VI.VP.JK3,VI.VP.JO4,VI.VP.JNw,
 VI.VP.G39,VI.VP.G40,VI.VP.G55,VI.VP.G56,VI.VP.G57,VI.VP.G58,VI.VP.G59,VI.VP.G60,VI.VP.G61,VI.VP.JLW,VI.VP.JGw,VI.VP.JHJ,VI.VP.JOS,VI.VP.JPR,VI.VP.JM6,VI.VP.JID,VI.VP.JP1,VI.VP.JHf,VI.VP.JHZ,VI.VP.JE1,VI.VP.JNF,VI.VP.JNi,VI.VP.JH7,VI.VP.JHv,$ts,*])
section
namespace VI.VP
open PySem Fr
noncomputable def kst:Option Kd->Str
 |some k=>k.str
 |none=>"kept"
noncomputable def mo(s g b l:Rat)(k:Option Kd)(u v:Rat):D:=.tuple [F s,F g,F b,F l,.str (kst k),.tuple [F u,F v]]
noncomputable def kw(s g l u v p:Rat):Rat:=s+ez .both (JAR p)*(g - s)+l*(u*(p*p*p - 2*(p*p)+p)+v*(p*p*p - p*p))
noncomputable def wo(s g b l:Rat)(k:Option Kd)(u v t:Rat):Rat:=match k with
 |some k=>s+ez k (JAR ((t - b) / l))*(g - s)
 |none=>kw s g l u v (JAR ((t - b) / l))
noncomputable def ks(s g l u v p:Rat):Rat:=(g - s) / l*sl .both p+(u*(3*(p*p) - 4*p+1)+v*(3*(p*p) - 2*p))
noncomputable def sd(s g b l:Rat)(k:Option Kd)(u v t:Rat):Rat:=match k with
 |some k=>(g - s) / l*sl k ((t - b) / l)
 |none=>if (t - b) / l<0\/1<(t - b) / l then 0 else ks s g l u v ((t - b) / l)
theorem JBL(k:Option Kd):shaped (.str (kst k))=true:=by
 cases k with
 |none=>decide +kernel
 |some k=>exact JCn k
theorem JFT(k:Option Kd):(kst k=="kept")=k.isNone:=by
 cases k with
 |none=>decide +kernel
 |some k=>cases k<;>decide +kernel
theorem JJ7(k:Option Kd):cmpD .Eq (.str (kst k)) (.str "kept")=.ok (.bool k.isNone):=by
 rw[JIv (JBL k) (by decide +kernel),JFT]
theorem JIR(k:Option Kd):cmpD .NotEq (.str (kst k)) (.str "kept")=.ok (.bool (!k.isNone)):=by
 simp only[cmpD,JBL k,show shaped (.str "kept")=true by decide +kernel,Bool.and_self,if_true,PyData.eqv,JFT]
theorem JME(k:Kd):cmpD .Eq (.str k.str) (.str "kept")=.ok (.bool false):=JJ7 (some k)
theorem JJP(k:Kd):cmpD .NotEq (.str k.str) (.str "kept")=.ok (.bool true):=JIR (some k)
section
variable{s g b l u v:Rat}{k:Option Kd}
theorem mo0:idxD (mo s g b l k u v) (.int 0)=.ok (F s):=rfl
theorem mo1:idxD (mo s g b l k u v) (.int 1)=.ok (F g):=rfl
theorem mo2:idxD (mo s g b l k u v) (.int 2)=.ok (F b):=rfl
theorem mo3:idxD (mo s g b l k u v) (.int 3)=.ok (F l):=rfl
theorem mo4:idxD (mo s g b l k u v) (.int 4)=.ok (.str (kst k)):=rfl
theorem mo5:idxD (mo s g b l k u v) (.int 5)=.ok (.tuple [F u,F v]):=rfl
theorem tp0{a c:D}:idxD (.tuple [a,c]) (.int 0)=.ok a:=rfl
theorem tp1{a c:D}:idxD (.tuple [a,c]) (.int 1)=.ok c:=rfl
theorem JI4:JAS (mo s g b l k u v)=true:=rfl
theorem JFv:JAu 6 (mo s g b l k u v)=.ok [F s,F g,F b,F l,.str (kst k),.tuple [F u,F v]]:=rfl
end
section
variable{x:Bool}{sub:Nat->Nat->Bool}{m i1 i2 i3 i4 i5 i6 j:Nat}{s g b l u v t p:Rat}
theorem JLU[Z i3 b][Z i4 l][Z j t](hl:l≠0)(h3:i3<=400)(h4:i4<=400)(hj:j<=400)(hm:4<=m):run x tabA gloA sub m 46 [mo s g b l k u v,F t]=.ok (F ((t - b) / l)):=by
 obtain⟨n,rfl⟩:=JAF hm;rw[JAB (n:=n+3) (show tabA 46=some d_46 from rfl),JAC rfl]
 dsimp?! [d_46,b_46,mo2,mo3]
theorem m_kw[Z i1 s][Z i2 g][Z i4 l][Z i5 u][Z i6 v][Z j p](h1:i1+i2+4*j<=1470)(h2:i4+i5+i6+6*j<=1480)(hj:j<=190)(hm:5<=m):run x tabA gloA sub m 49 [mo s g b l k u v,F p]=.ok (F (kw s g l u v p)):=by
 obtain⟨n,rfl⟩:=JAF hm;rw[JAB (n:=n+4) (show tabA 49=some d_49 from rfl),JAC rfl];have eb:run x tabA gloA sub (n+4) 32 [.str "both",F p]=.ok (F (ez .both (JAR p))):=JHf (k:=.both) (by omega) (by omega)
 dsimp?! [d_49,b_49,mo0,mo1,mo2,mo3,mo4,mo5,tp0,tp1,W2,eb,kw]
theorem JI0[Z i1 s][Z i2 g][Z i3 b][Z i4 l][Z i5 u][Z i6 v][Z j t](hl:l≠0)(h1:i1+i2+4*(j+i3+i4)<=1430)(h2:i4+i5+i6+6*(j+i3+i4)<=1450)(h3:j+i3+i4<=180)(hm:6<=m) :
  run x tabA gloA sub m 48 [mo s g b l k u v,F t]=.ok (F (wo s g b l k u v t)):=by
 obtain⟨n,rfl⟩:=JAF hm;rw[JAB (n:=n+5) (show tabA 48=some d_48 from rfl),JAC rfl];cases k with
 |none=>dsimp?! [d_48,b_48,JLU,mo0,mo1,mo4,JJ7,Option.isNone_none,m_kw,wo]
 |some k=>dsimp?! [d_48,b_48,JLU,mo0,mo1,mo4,JME,kst,wo]
end
end VI.VP
end
section
namespace VI.VP
open PySem Fr
section
variable{s g b l u v t:Rat}{k:Option Kd}{i1 i2 i3 i4 i5 i6 j:Nat}
end
section
variable{x:Bool}{sub:Nat->Nat->Bool}{m i1 i2 i3 i4 i5 i6 j:Nat}{s g b l u v t p:Rat}
theorem JFx[a:Z j p](h:p<=0\/1<=p)(hm:1<=m):run x tabA gloA sub m 36 [.str "kept",F p]=.ok (F (JAR p)):=by
 obtain⟨n,rfl⟩:=JAF hm;rw[JAB (n:=n) (show tabA 36=some d_36 from rfl),JAC rfl]
 by_cases h1:p.num<=0
 ·have e:JAR p=0:=by unfold JAR;rw[if_pos ((JAn p).mp h1)]
  rw[e]
  dsimp![d_36,b_36,h1,decide_true,F0']
 ·have h2:(p.den:Int)<=p.num:=by
   rcases h with h|h
   ·exact absurd ((JAn p).mpr h) h1
   ·exact(JBG p).mpr h
  have e:JAR p=1:=by
   unfold JAR;rw[if_neg (λz=>h1 ((JAn p).mpr z)),if_pos ((JBG p).mp h2)]
  rw[e]
  dsimp![d_36,b_36,h1,h2,decide_true,decide_false,F1']
theorem kw0{s g l u v:Rat}:kw s g l u v 0=s:=by
 have:ez .both (JAR 0)=0:=by decide +kernel
 unfold kw;rw[this];grind
theorem kw1{s g l u v:Rat}:kw s g l u v 1=g:=by
 have:ez .both (JAR 1)=1:=by decide +kernel
 unfold kw;rw[this];grind
theorem JLo{s g l u v p:Rat}(h0:0<=p)(h1:p<=1):s+(g - s)*ez .both (JAR p)+l*(u*((1 - p)*(1 - p)*p) - v*(p*p*(1 - p)))=kw s g l u v p:=by
 unfold kw;grind
theorem JHb[Z i1 s][Z i2 g][Z i3 b][Z i4 l][Z i5 u][Z i6 v][Z j t](hl:l≠0)(h1:i1+i2+4*(j+i3+i4)<=1430)(h2:i4+i5+i6+9*(j+i3+i4)<=1430)(h3:j+i3+i4<=180)(hm:5<=m) :
  run x tabA gloA sub m 52 [mo s g b l k u v,F t]=.ok (F (wo s g b l k u v t)):=by
 obtain⟨n,rfl⟩:=JAF hm;rw[JAB (n:=n+4) (show tabA 52=some d_52 from rfl),JAC rfl];have zp:Z (j+i3+1+i4+1) ((t - b) / l):=inferInstance;cases k with
 |some k =>
  have e:s+(g - s)*ez k (JAR ((t - b) / l))=wo s g b l (some k) u v t:=by simp only[wo];grind
  dsimp?! [d_52,b_52,List.length_cons,List.length_nil,Nat.reduceAdd,JFv,JAl,kst,JJP,e]
 |none =>
  have c:cmpD .NotEq (.str (kst none)) (.str "kept")=.ok (.bool false):=JIR none;simp only[kst]at c
  by_cases a1:((t - b) / l).num<=0
  ·have q1:(t - b) / l<=0:=(JAn _).mp a1;have cl:JAR ((t - b) / l)=0:=by unfold JAR;rw[if_pos q1]
   have e:s+(g - s)*0=wo s g b l none u v t:=by simp only[wo,cl,kw0];grind
   have ek:run x tabA gloA sub (n+4) 36 [.str "kept",F ((t - b) / l)]=.ok (F 0):=by rw[<-cl];exact JFx (.inl q1) (by omega)
   dsimp?! [d_52,b_52,List.length_cons,List.length_nil,Nat.reduceAdd,JFv,JAl,kst,c,a1,decide_true,ek,e]
  ·have q1:¬(t - b) / l<=0:=λz=>a1 ((JAn _).mpr z)
   by_cases a2:(((t - b) / l).den:Int)<=((t - b) / l).num
   ·have q2:1<=(t - b) / l:=(JBG _).mp a2;have cl:JAR ((t - b) / l)=1:=by unfold JAR;rw[if_neg q1,if_pos q2]
    have e:s+(g - s)*1=wo s g b l none u v t:=by simp only[wo,cl,kw1];grind
    have ek:run x tabA gloA sub (n+4) 36 [.str "kept",F ((t - b) / l)]=.ok (F 1):=by rw[<-cl];exact JFx (.inr q2) (by omega)
    dsimp?! [d_52,b_52,List.length_cons,List.length_nil,Nat.reduceAdd,JFv,JAl,kst,c,a1,a2,decide_true,decide_false,ek,e]
   ·have q2:¬1<=(t - b) / l:=λz=>a2 ((JBG _).mpr z);have cl:JAR ((t - b) / l)=(t - b) / l:=by unfold JAR;rw[if_neg q1,if_neg q2]
    have e:=JLo (s:=s) (g:=g) (l:=l) (u:=u) (v:=v) (p:=(t - b) / l) (by grind) (by grind)
    have e2:kw s g l u v ((t - b) / l)=wo s g b l none u v t:=by simp only[wo,cl]
    have eb:run x tabA gloA sub (n+4) 36 [.str "both",F ((t - b) / l)]=.ok (F (ez .both (JAR ((t - b) / l)))):=JHv (k:=.both) (by omega) (by omega)
    dsimp?! [d_52,b_52,List.length_cons,List.length_nil,Nat.reduceAdd,JFv,JAl,kst,c,a1,a2,decide_true,decide_false,eb,F1',tp0,tp1,e,e2]
theorem JJ6(ns:List Int)(at':Int)(b:Rat)(hm:4<=m)(h0:0<=at')(h1:at'<880):∃(s g l:Rat) (k:Option Kd) (u v:Rat),Small s/\Small g/\Small l/\0<l/\Small u/\Small v/\(k≠none->u=0/\v=0) /\
  run x tabA gloA sub m 51 [sc ns,.int at',F b]=.ok (mo s g b l k u v):=by
 obtain⟨n,rfl⟩:=JAF hm;rw[JAB (n:=n+3) (show tabA 51=some d_51 from rfl),JAC rfl];obtain⟨k,hk⟩:=JQp (x:=x) (sub:=sub) (m:=n+3) ns at' (by omega) h0 (by omega)
 obtain⟨i,i0,i1,hi⟩:=JEm (x:=x) (sub:=sub) (m:=n+3) ns (at'+1) 4 (by omega) (by omega) (by omega) (by omega)
 obtain⟨u,su,hu⟩:=JC3 (x:=x) (sub:=sub) (m:=n+3) ns (at'+2) (by omega) (by omega) (by omega)
 obtain⟨v,sv,hv⟩:=JC3 (x:=x) (sub:=sub) (m:=n+3) ns (at'+4) (by omega) (by omega) (by omega)
 obtain⟨s,ss,hs⟩:=JC3 (x:=x) (sub:=sub) (m:=n+3) ns (at'+6) (by omega) (by omega) (by omega)
 obtain⟨g,sg,hg⟩:=JC3 (x:=x) (sub:=sub) (m:=n+3) ns (at'+8) (by omega) (by omega) (by omega)
 obtain⟨l,sl',l0,hl⟩:=JKo (x:=x) (sub:=sub) (m:=n+3) ns (at'+10) (by omega) (by omega) (by omega)
 have z0:Small 0:=⟨by decide,by decide,by decide⟩
 by_cases e:i=0
 ·refine⟨s,g,l,none,u,v,ss,sg,sl',l0,su,sv,λz=>absurd rfl z,?_⟩
  dsimp?! [d_51,b_51,hk,hi,e,decide_true,hu,hv,hs,hg,hl]
  rfl
 ·refine⟨s,g,l,some k,0,0,ss,sg,sl',l0,z0,z0,λ_=>⟨rfl,rfl⟩,?_⟩
  dsimp?! [d_51,b_51,hk,hi,e,decide_true,decide_false,hu,hv,hs,hg,hl]
  rfl
theorem JO1(ns:List Int)(at':Int)[Z i3 b][Z i4 l](hm:4<=m)(h0:0<=at')(h1:at'<1000)(h3:i3<=400)(h4:i4<=400):∃i:Int,0<=i/\i<17/\Z 6 (Rat.divInt (i - 4) 8)/\run x tabA gloA sub m 53 [sc ns,.int at',mo s g b l k u v]=.ok (F (b+Rat.divInt (i - 4) 8*l)):=by
 obtain⟨n,rfl⟩:=JAF hm;obtain⟨i,i0,i1,hi⟩:=JEm (x:=x) (sub:=sub) (m:=n+3) ns at' 17 (by omega) (by omega) (by omega) (by omega)
 have zz:Z 6 (Rat.divInt (i - 4) 8):=⟨Sz.of (by decide) (by omega) (by omega)⟩
 refine⟨i,i0,i1,zz,?_⟩;rw[JAB (n:=n+3) (show tabA 53=some d_53 from rfl),JAC rfl];have hmade:run x tabA gloA sub (n+3) 14 [.int (i - 4),.int 8]=.ok (F (Rat.divInt (i - 4) 8)):=JPp (by decide) (by decide) (by omega)
 dsimp?! [d_53,b_53,hi,hmade,mo2,mo3]
end
def Vs(z:Sl):Prop:=z.isOwn=false
theorem Vs.own{z:Sl}(h:Vs z)(e:E)(i:Nat)(r:Env):JAP e i (z::r)=JAP e (i+1) r:=by
 unfold Vs at h;cases z<;>first|(cases h;done)|simp[JAP,Sl.isOwn]
end VI.VP
end
section
namespace VI.VP
open PySem Fr
theorem JHr(s g b l:Rat)(k:Option Kd)(u v:Rat):shaped (mo s g b l k u v)=true:=by
 have hk:=JBL k;unfold shaped at hk ⊢;rw[q_i]at hk ⊢;refine⟨?_,decide_eq_true ?_⟩
 ·simp only[mo,PyData.canLay0,PyData.canLayAll0,JL9,Bool.and_self,Bool.true_and,Bool.and_true];simpa[PyData.canLay0] using hk.1
 ·simp only[mo,PyData.depth,PyData.depthAll,JDx];decide
section
variable{x:Bool}{sub:Nat->Nat->Bool}{m i1 i2 i3 i4 i5 i6 j:Nat}{s g b l u v t p:Rat}
theorem q_end[Z i3 b][Z i4 l]{k:Option Kd}(h3:i3<=400)(h4:i4<=400)(hm:4<=m):run x tabA gloA sub m 72 [mo s g b l k u v]=.ok (F (b+l)):=by
 obtain⟨n,rfl⟩:=JAF hm;rw[JAB (n:=n+3) (show tabA 72=some d_72 from rfl),JAC rfl]
 dsimp?! [d_72,b_72,mo2,mo3]
end
end VI.VP
end
section
namespace VI.VP
open PySem Fr
structure Mv where
 s:Rat
 g:Rat
 b:Rat
 l:Rat
 k:Option Kd
 u:Rat
 v:Rat
noncomputable def Mv.d(m:Mv):D:=mo m.s m.g m.b m.l m.k m.u m.v
structure Mv.Ok(m:Mv):Prop where
 l0:0<m.l
 uv:m.k≠none->m.u=0/\m.v=0
 b:Sz 200 m.b
 l:Sz 20 m.l
 sg:∃i j,Sz i m.s/\Sz j m.g/\i+j<=1180
 us:∃i j,Sz i m.u/\Sz j m.v/\i+j<=900
theorem Mv.Ok.of{m:Mv}(l0:0<m.l)(uv:m.k≠none->m.u=0/\m.v=0)(s:Sz 20 m.s)(g:Sz 20 m.g)(b:Sz 200 m.b)(l:Sz 20 m.l)(u:Sz 20 m.u)(v:Sz 20 m.v):m.Ok :=
 ⟨l0,uv,b,l,⟨20,20,s,g,by omega⟩,⟨20,20,u,v,by omega⟩⟩
noncomputable def Mv.e(m:Mv):Rat:=m.b+m.l
noncomputable def tr(w:Rat)(ms:List Mv):D:=.tuple [F w,.tuple (ms.map Mv.d)]
noncomputable def nov:List Mv->Bool
 | []=>true
 | [_]=>true
 |a::c::r=>!decide (c.b<a.e)&&nov (c::r)
theorem G93:gloA 93=.ok (.int 0):=rfl
theorem G94:gloA 94=.ok (.int 1):=rfl
theorem JJW:idxD (.tuple ((ms++[m]).map Mv.d)) (.int (-1))=.ok m.d:=by
 simp only[idxD,atI,ixN,q_g,q_u,List.length_cons,List.length_nil];rw[if_neg (by omega),if_pos (by omega)]
 simp only[Option.bind_some];rw[show(-1+(((ms.length+(0+1):Nat)):Int)).toNat=ms.length by omega]
 simp[optR]
theorem JBx{ms:List Mv}{m:Mv}:idxD (.list ((ms++[m]).map Mv.d)) (.int (-1))=.ok m.d:=JJW
theorem JIa{ms:List Mv}{m:Mv}{j:Nat}{i:Int}(hi:i=j)(h:ms[j]? = some m):idxD (.tuple (ms.map Mv.d)) (.int i)=.ok m.d:=by
 subst hi;obtain⟨hl,_⟩:=q_p.mp h;simp only[idxD,atI,ixN,q_g];rw[if_pos (by omega),if_pos (by omega)]
 simp only[Option.bind_some,Int.toNat_natCast,List.getElem?_map,h];rfl
section
variable{x:Bool}{sub:Nat->Nat->Bool}{m n:Nat}{w:Rat}{w':D}{ms:List Mv}
theorem Mv.q_end{a:Mv}(h:a.Ok)(hm:4<=m):run x tabA gloA sub m 72 [a.d]=.ok (F a.e):=by
 have:Z 200 a.b:=⟨h.b⟩;have:Z 20 a.l:=⟨h.l⟩;exact VP.q_end (by omega) (by omega) hm
theorem JCH{ms:List Mv}(h:ms≠[]):∃r m,ms=r++[m]:=⟨ms.dropLast,ms.getLast h,(List.dropLast_concat_getLast h).symm⟩
theorem JJF:(((ms++[a]).map Mv.d).length:Int)=ms.length+1:=by simp
noncomputable def endT:List Mv->Option Rat
 | []=>none
 | [a]=>some a.e
 |_::r=>endT r
noncomputable def JBe(w:Rat):List Mv->Rat
 | []=>w
 |a::r=>JBe a.g r
theorem JGJ{a:Mv}:∀ {ms:List Mv},endT (ms++[a])=some a.e
 | []=>rfl
 | [_]=>rfl
 |_::c::r=>by simp only[List.cons_append,endT];exact JGJ (ms:=c::r)
theorem JCu{a:Mv}:∀ {ms:List Mv}{w:Rat},JBe w (ms++[a])=a.g
 | [],w=>rfl
 |c::r,w=>by simp only[List.cons_append,JBe];exact JCu
theorem JOC(h:xs.length+ys.length<=16777216):binD .Add (.tuple xs) (.tuple ys)=.ok (.tuple (xs++ys)):=by
 simp only[binD,if_pos h]
theorem noF{p:Rat}:JAS (F p)=true:=rfl
section
variable{g b l:Rat}{k:Kd}{i:Nat}
end
end
end VI.VP
end
section
namespace VI.VP
open PySem Fr
theorem JBu{C:Cn}{i:Nat}{b:S}{Inv:List D->Env->Prop}(hb:∀d ds δ,Inv (d::ds) δ->∃δ',(exec C b (δ.set i (.val d))=.nx δ'\/exec C b (δ.set i (.val d))=.ct δ')/\Inv ds δ'):∀ {ds:List D}{δ},Inv ds δ->∃δ',for2 C i b ds δ=.nx δ'/\Inv [] δ'
 | [],δ,h=>⟨δ,rfl,h⟩
 |d::ds,δ,h=>by
  obtain⟨δ1,e,h1⟩:=hb d ds δ h;obtain⟨δ2,e2,h2⟩:=JBu hb h1;refine⟨δ2,?_,h2⟩;rw[JDp];rcases e with e|e<;>(rw[e];exact e2)
theorem Mv.can(m:Mv):m.d.canLay0=true:=by
 have:=JHr m.s m.g m.b m.l m.k m.u m.v;unfold shaped at this;rw[q_i]at this;exact this.1
theorem Mv.depth(m:Mv):m.d.depth<=4:=by
 simp only[Mv.d,mo,PyData.depth,PyData.depthAll,JDx];decide
theorem JHX:∀ms:List Mv,PyData.canLayAll0 (ms.map Mv.d)=true
 | []=>rfl
 |m::r=>by simp only[List.map_cons,PyData.canLayAll0,Mv.can,JHX r,Bool.and_self]
theorem JDa:∀ms:List Mv,PyData.depthAll (ms.map Mv.d)<=4
 | []=>by simp[PyData.depthAll]
 |m::r=>by
  simp only[List.map_cons,PyData.depthAll];have:=m.depth;have:=JDa r;omega
theorem JLh(ms:List Mv):shaped (.list (ms.map Mv.d))=true:=by
 have:=JDa ms;unfold shaped;rw[q_i];refine⟨by simp only[PyData.canLay0,JHX],decide_eq_true ?_⟩
 simp only[PyData.depth];omega
theorem JLi(ms:List Mv):shaped (.tuple (ms.map Mv.d))=true:=by
 have:=JDa ms;unfold shaped;rw[q_i];refine⟨by simp only[PyData.canLay0,JHX],decide_eq_true ?_⟩
 simp only[PyData.depth];omega
theorem JMT(ms:List Mv):cmpD .NotEq (.list (ms.map Mv.d)) (.list [])=.ok (.bool (!ms.isEmpty)):=by
 have h:=JLh [];simp only[List.map_nil]at h;simp only[cmpD,JLh,h,Bool.and_self,if_true];cases ms<;>simp[PyData.eqv,PyData.eqvAll]
theorem JM4(ms:List Mv):cmpD .Eq (.tuple (ms.map Mv.d)) (.tuple [])=.ok (.bool ms.isEmpty):=by
 have h:=JLi [];simp only[List.map_nil]at h;simp only[cmpD,JLi,h,Bool.and_self,if_true];cases ms<;>simp[PyData.eqv,PyData.eqvAll]
theorem JIV{a:Mv}:∀ {ms:List Mv},nov ms=true->(∀e,endT ms=some e->¬a.b<e)->nov (ms++[a])=true
 | [],_,_=>rfl
 | [c],_,h=>by
  have:=h c.e rfl;simp only[List.cons_append,List.nil_append,nov,this,decide_false,Bool.not_false,Bool.and_self]
 |c::d::r,hn,h=>by
  simp only[nov,q_i]at hn;have:=JIV (ms:=d::r) hn.2 h;simp only[List.cons_append]at this ⊢;simp only[nov,hn.1,this,Bool.and_self]
def Ch:Rat->List Mv->Prop
 |_,[]=>True
 |w,m::r=>m.s=w/\Ch m.g r
theorem JKU{a:Mv}:∀ {ms:List Mv}{w:Rat},Ch w ms->a.s=JBe w ms->Ch w (ms++[a])
 | [],w,_,h=>⟨h,trivial⟩
 |c::r,w,h,e=>⟨h.1,JKU h.2 e⟩
theorem JHG{P:Rat->Prop}{ms:List Mv}{w:Rat}(hg:∀a∈ms,P a.g)(h:P w):P (JBe w ms):=by
 by_cases h0:ms=[]
 ·subst h0;exact h
 ·obtain⟨r,a,rfl⟩:=JCH h0;rw[JCu];exact hg a (by simp)
def Tw(B:Nat)(q:Rat):Prop:=∃z:Int,z.natAbs<=B/\q=Rat.divInt z 12
theorem Tw.add{A B:Nat}{p q:Rat}(h:Tw A p)(h':Tw B q):Tw (A+B) (p+q):=by
 obtain⟨z,hz,rfl⟩:=h;obtain⟨y,hy,rfl⟩:=h';refine⟨z+y,by omega,?_⟩
 simp only[Rat.divInt_eq_div];have:((z+y:Int):Rat)=z+y:=Rat.intCast_add z y;rw[this]
 grind
theorem Tw.mono{A B:Nat}{p:Rat}(h:Tw A p)(e:A<=B):Tw B p:=by
 obtain⟨z,hz,rfl⟩:=h;exact⟨z,by omega,rfl⟩
theorem Tw.sz{B:Nat}{p:Rat}(h:Tw B p)(e:B<1024):Sz 10 p:=by
 obtain⟨z,hz,rfl⟩:=h;exact Sz.of (by decide) (by omega) (by decide)
theorem Small.tw{q:Rat}(h:Small q):Tw 72 q:=by
 have hd:=h.d;have hp:=q.den_pos;have hw:=h.w;have e:=(Rat.num_divInt_den q).symm;have:q.den=1\/q.den=2\/q.den=3\/q.den=4:=by omega
 rcases this with k|k|k|k
 ·refine⟨q.num*12,by omega,?_⟩
  rw[k]at e;rw[e,Rat.divInt_eq_divInt_iff (by decide) (by decide)]
  rw[<-e];simp
 ·refine⟨q.num*6,by omega,?_⟩
  rw[k]at e
  conv=>lhs;rw[e]
  rw[Rat.divInt_eq_divInt_iff (by decide) (by decide)]
  simp;omega
 ·refine⟨q.num*4,by omega,?_⟩
  rw[k]at e
  conv=>lhs;rw[e]
  rw[Rat.divInt_eq_divInt_iff (by decide) (by decide)]
  simp;omega
 ·refine⟨q.num*3,by omega,?_⟩
  rw[k]at e
  conv=>lhs;rw[e]
  rw[Rat.divInt_eq_divInt_iff (by decide) (by decide)]
  simp;omega
structure Dr(a:Mv):Prop where
 s:Small a.s
 g:Small a.g
 l:Small a.l
 u:Small a.u
 v:Small a.v
 b:Tw 1023 a.b
noncomputable def JEk:S:=match b_88 with
 |.cons _ (.cons _ (.cons _ (.cons (.for1 _ _ b) _)))=>b
 |_=>.nil
theorem JK8{s s' g b l u v:Rat}{k:Option Kd}:binD .Add (.tuple [F s']) (.tuple (cutD [F s,F g,F b,F l,.str (kst k),.tuple [F u,F v]] (some 1) none))=.ok (mo s' g b l k u v):=JOC (show 1+5<=16777216 by decide)
theorem JKL{s g b l u v:Rat}{k:Option Kd}:op1D (.slice (some 1) none) (mo s g b l k u v)=.ok (.tuple (cutD [F s,F g,F b,F l,.str (kst k),.tuple [F u,F v]] (some 1) none)):=rfl
theorem JM8{δ:Env}{i j:Nat}{ds:List D}{x:D}(h:ds.length<1000)(hn:JAS x=true):JBA i ds (.var j) x δ=.nx (δ.set i (.own (.list (ds++[x])))):=by
 unfold JBA;rw[if_pos (by omega),hn]
 simp
section
variable{x:Bool}{sub:Nat->Nat->Bool}{m n:Nat}{w t:Rat}{ms:List Mv}{ns:List Int}
theorem JIM{i A:Nat}(at' most κ:Int)[Z i t](hA:Tw A t)(hi:i<=180)(hw:Small w)(h0:0<=at')(h1:at'<=500)(k0:0<=κ)(k1:κ<10)(hok:∀a∈ms,Dr a)(hn:ms.length<1000)(y7 y8:Sl)(v7:Vs y7)(v8:Vs y8) :
  ∃(a:Mv) (t':Rat) (z7:D),a.Ok/\(Small a.s/\Small a.g/\Small a.l/\Small a.u/\Small a.v)/\a.s=JBe w ms/\a.b=t/\a.e<=t'/\Tw (A+144) t'/\exec ⟨run x tabA gloA sub (n+4),gloA,sub⟩ JEk [.val (sc ns),.val (.int at'),.val (.int most),.val (F w),.val (F t),.own (.list (ms.map Mv.d)),.val (.int κ),y7,y8]
   = .nx [.val (sc ns),.val (.int at'),.val (.int most),.val (F w),.val (F t'),.own (.list ((ms++[a]).map Mv.d)),.val (.int κ),.val z7,.val a.d]:=by
 obtain⟨s,g,l,k,u,v,ss,sg,sl',l0,su,sv,hu,hm⟩:=JJ6 (x:=x) (sub:=sub) (m:=n+4) ns (at'+10+20*κ) t (by omega) (by omega) (by omega)
 obtain⟨p,p0,p1,hp⟩:=JEm (x:=x) (sub:=sub) (m:=n+4) ns (at'+10+20*κ+14) 2 (by omega) (by omega) (by omega) (by omega)
 obtain⟨q,sq,q0,hq⟩:=JKo (x:=x) (sub:=sub) (m:=n+4) ns (at'+10+20*κ+15) (by omega) (by omega) (by omega)
 have zl:=sl'.Z;have zq:=sq.Z;have bm:binD .Mult (.int 20) (.int κ)=.ok (.int (20*κ)):=JAp (L.of (k:=10) (by omega) (by omega)) (L.of (k:=10) (by omega) (by omega))
 have sl2:Small (JBe w ms):=JHG (λa ha=>(hok a ha).g) hw;have oa:(Mv.mk (JBe w ms) g t l k u v).Ok:=.of l0 hu (sl2.sz.mono (by omega)) (sg.sz.mono (by omega)) ((inferInstance:Z i t).le (by omega)) (sl'.sz.mono (by omega)) (su.sz.mono (by omega)) (sv.sz.mono (by omega))
 have em:(ms++[Mv.mk (JBe w ms) g t l k u v]).map Mv.d=ms.map Mv.d++[mo (JBe w ms) g t l k u v]:=by rw[List.map_append];rfl
 have ap:∀δ:Env,JBA 5 (ms.map Mv.d) (.var 8) (mo (JBe w ms) g t l k u v) δ=.nx (δ.set 5 (.own (.list (ms.map Mv.d++[mo (JBe w ms) g t l k u v])))):=λδ=>JM8 (by rw[q_g];exact hn) JI4
 have sh:∀s',JAS (mo s' g t l k u v)=true:=λ_=>JI4;have zt1:Z (i+5+1) (t+l):=inferInstance;have zt2:Z (i+5+1+5+1) (t+l+q):=inferInstance;obtain⟨C,hC⟩:∃C:Cn,C=⟨run x tabA gloA sub (n+4),gloA,sub⟩:=⟨_,rfl⟩;have fn:C.fn=run x tabA gloA sub (n+4):=by rw[hC]
 have fg:C.glo=gloA:=by rw[hC]
 have hf:∀z7 z8:Sl,ev C (.ife (.cmp .NotEq (.var 5) (.lst .nil)) (.idx (.idx (.var 5) (.neg (.cint 1))) (.cint 1)) (.var 3)) [.val (sc ns),.val (.int at'),.val (.int most),.val (F w),.val (F t),.own (.list (ms.map Mv.d)),.val (.int κ),z7,z8]=.ok (F (JBe w ms)):=by
  intro z7 z8;have ne:=JMT ms
  by_cases hms:ms=[]
  ·subst hms;simp only[List.map_nil,List.isEmpty_nil,Bool.not_true]at ne
   dsimp?! [ne,JBe]
  ·obtain⟨r,c,rfl⟩:=JCH hms;have il:=JBx (ms:=r) (m:=c);have em:(r++[c]).isEmpty=false:=by simp
   have lw:JBe w (r++[c])=c.g:=JCu;have c1:idxD c.d (.int 1)=.ok (F c.g):=rfl;have ng:(-(1:Int))=-1:=rfl;rw[em,Bool.not_false]at ne;rw[lw];generalize (r++[c]).map Mv.d=ds at *
   dsimp?! [ne,ng,il,c1]
 rw[<-hC];generalize hds:ms.map Mv.d=ds at *;generalize hlw:JBe w ms=lw at *
 by_cases hp0:p=0
 ·refine⟨_,t+l+q,.int (at'+10+20*κ),oa,⟨sl2,sg,sl',su,sv⟩,rfl,rfl,by simp only[Mv.e];grind,((hA.add sl'.tw).add sq.tw).mono (by omega),?_⟩
  rw[em]
  dsimp?! [JEk,b_88,fn,fg,↓hf,v7.own,v8.own,JBQ,bm,hm,hp,hq,hp0,decide_true,JKL,JK8,JI4,Bool.not_true,Bool.and_false,ap,mo3,sh,JAS,noF]
  rfl
 ·refine⟨_,t+l,.int (at'+10+20*κ),oa,⟨sl2,sg,sl',su,sv⟩,rfl,rfl,by simp only[Mv.e];grind,(hA.add sl'.tw).mono (by omega),?_⟩
  rw[em]
  dsimp?! [JEk,b_88,fn,fg,↓hf,v7.own,v8.own,JBQ,bm,hm,hp,hq,hp0,decide_false,JKL,JK8,JI4,Bool.not_true,Bool.and_false,ap,mo3,sh,JAS,noF]
  rfl
theorem JPM{a:E}{j:Nat}:(E.rng a).uses j=a.uses j:=rfl
theorem JNL(ns:List Int)(at':Int)(most:Nat)(hm:5<=m)(h0:0<=at')(h1:at'<=500)(h2:most<=6):∃(w:Rat) (ms:List Mv),Small w/\(∀a∈ms,a.Ok)/\(∀a∈ms,Dr a)/\ms.length<=most/\nov ms=true/\Ch w ms/\run x tabA gloA sub m 88 [sc ns,.int at',.int most]=.ok (tr w ms):=by
 obtain⟨n,rfl⟩:=JAF hm;rw[JAB (n:=n+4) (show tabA 88=some d_88 from rfl),JAC rfl];obtain⟨w,sw,hw⟩:=JC3 (x:=x) (sub:=sub) (m:=n+4) ns at' (by omega) (by omega) (by omega)
 obtain⟨t,st,ht⟩:=JC3 (x:=x) (sub:=sub) (m:=n+4) ns (at'+2) (by omega) (by omega) (by omega)
 obtain⟨p,p0,p1,hp⟩:=JEm (x:=x) (sub:=sub) (m:=n+4) ns (at'+4) ((most:Int)+1) (by omega) (by omega) (by omega) (by omega)
 obtain⟨C,hC⟩:∃C:Cn,C=⟨run x tabA gloA sub (n+4),gloA,sub⟩:=⟨_,rfl⟩;have hw7:Sz 20 w:=sw.sz.mono (by omega)
 have rg:rngD [.int p]=.ok (((List.range p.toNat).map λj:Nat=>(j:Int)).map PyData.int):=by
  have h:small p=true:=by
    unfold small;simp only[q_i,q_D];omega
  simp only[rngD,h,if_true,JCs,List.map_map];simp
 obtain⟨δ',lp,is,t',ms,y6,y7,y8,v6,v7,v8,ei,_,_,_,mo,mt,ml,mn,me,mc,eδ⟩:=JBu (C:=C) (i:=6) (b:=JEk)
  (Inv:=λds δ=>∃(is:List Int) (t:Rat) (ms:List Mv) (y6 y7 y8:Sl),Vs y6/\Vs y7/\Vs y8/\ds=is.map PyData.int/\(∀κ∈is,0<=κ/\κ<10)/\is.length<=p.toNat/\Tw (72+144*(p.toNat - is.length)) t/\(∀a∈ms,a.Ok)/\(∀a∈ms,Dr a)/\ms.length<=p.toNat - is.length/\nov ms=true/\(∀e,endT ms=some e->¬t<e)/\Ch w ms /\
    δ=[.val (sc ns),.val (.int at'),.val (.int most),.val (F w),.val (F t),.own (.list (ms.map Mv.d)),y6,y7,y8])
  (λd ds δ ⟨is,t,ms,y6,y7,y8,v6,v7,v8,ed,hk,hl,zt,mo,mt,ml,mn,me,mc,e⟩=>by
    subst e;cases is with
    |nil=>cases ed
    |cons κ is =>
     simp only[List.map_cons,List.cons.injEq]at ed;obtain⟨rfl,rfl⟩:=ed;obtain⟨k0,k1⟩:=hk κ (by simp)
     simp only[List.length_cons]at hl zt ml;have zs:=zt.sz (by omega)
     have:Z 10 t:=⟨zs⟩;obtain⟨a,t',z7,ao,al,as',ab,ae,zt',hb⟩:=JIM (x:=x) (sub:=sub) (n:=n) (ns:=ns) (w:=w) (t:=t) (ms:=ms) (i:=10) at' most κ zt (by omega) sw h0 h1 k0 k1 mt (by omega) y7 y8 v7 v8
     refine⟨_,.inl (by rw[hC];exact hb),is,t',ms++[a],.val (.int κ),.val z7,.val a.d,rfl,rfl,rfl,rfl,λκ' h=>hk κ' (by simp[h]),by omega,zt'.mono (by omega),λc hc=>?_,λc hc=>?_,?_,JIV mn (λe he=>by rw[ab];exact me e he),λe he=>?_,JKU mc as',rfl⟩
     ·rcases List.mem_append.mp hc with h|h
      ·exact mo c h
      ·simp only[q_n,List.not_mem_nil,or_false]at h;exact h▸ao
     ·rcases List.mem_append.mp hc with h|h
      ·exact mt c h
      ·simp only[q_n,List.not_mem_nil,or_false]at h;subst h;exact⟨al.1,al.2.1,al.2.2.1,al.2.2.2.1,al.2.2.2.2,ab▸zt.mono (by omega)⟩
     ·rw[q_u,List.length_cons,List.length_nil];omega
     ·rw[JGJ]at he;cases he
      grind)
  (ds:=((List.range p.toNat).map λj:Nat=>(j:Int)).map PyData.int)
  (δ:=[.val (sc ns),.val (.int at'),.val (.int most),.val (F w),.val (F t),.own (.list []),.no,.no,.no])
  ⟨_,t,[],.no,.no,.no,rfl,rfl,rfl,rfl,λκ hκ=>by
    obtain⟨j,hj,rfl⟩:=List.mem_map.mp hκ;have:=List.mem_range.mp hj;omega,by simp,st.tw.mono (by omega),(λ_ h=>absurd h (by simp)),(λ_ h=>absurd h (by simp)),(by simp),rfl,(λ_ h=>by cases h),trivial,rfl⟩
 subst eδ;refine⟨w,ms,sw,mo,mt,by omega,mn,mc,?_⟩
 have fn:C.fn=run x tabA gloA sub (n+4):=by rw[hC]
 have fg:C.glo=gloA:=by rw[hC]
 rw[<-hC];simp only[JEk,b_88]at lp;have tt:op1D .toTup (.list (ms.map Mv.d))=.ok (.tuple (ms.map Mv.d)):=rfl;have ee:tr w ms=.tuple [F w,.tuple (ms.map Mv.d)]:=rfl;rw[ee];generalize ms.map Mv.d=ds at *;generalize ((List.range p.toNat).map λj:Nat=>(j:Int)).map PyData.int=js at *
 dsimp?! [d_88,b_88,fn,fg,hw,ht,hp,rg,lp,JAa,JAj,JC0,JAb,JBQ,JH4,JKT,JIH,JKZ,JHo,JPM,JK5,Nat.reduceAdd,Nat.reduceBEq,Bool.or_false,Bool.or_self,JAS,noF,Bool.not_true,Bool.and_false,v6.own,v7.own,v8.own,tt]
end
end VI.VP
end
section
namespace VI.VP
open PySem Fr
noncomputable def Mv.w(m:Mv)(t:Rat):Rat:=wo m.s m.g m.b m.l m.k m.u m.v t
noncomputable def Mv.sp(m:Mv)(t:Rat):Rat:=sd m.s m.g m.b m.l m.k m.u m.v t
noncomputable def bg(t:Rat)(ms:List Mv):List Mv:=ms.filter λm=>!decide (t<m.b)
noncomputable def ba(t:Rat)(ms:List Mv):List Mv:=ms.filter λm=>decide (m.b<t)
noncomputable def wOf(w:Rat)(ms:List Mv)(t:Rat):Rat:=match (bg t ms).getLast? with
 |none=>w
 |some m=>m.w t
noncomputable def wA(w:Rat)(ms:List Mv)(t:Rat):Rat:=match (ba t ms).getLast? with
 |none=>w
 |some m=>if m.k=some .hold/\m.e=t then m.s else m.w t
noncomputable def wB(w:Rat)(ms:List Mv)(t:Rat):Rat:=match (bg t ms).getLast? with
 |none=>w
 |some m=>if m.k=some .jump then m.g else m.w t
noncomputable def lpAt(w:Rat)(ms:List Mv)(t:Rat):Bool:=!decide (wA w ms t=wOf w ms t) || !decide (wB w ms t=wOf w ms t)
structure Ti(i j:Nat)(ms:List Mv):Prop where
 ok:∀a∈ms,a.Ok
 b:∀a∈ms,Sz i a.b
 l:∀a∈ms,Sz j a.l
theorem JCY{α:Type}{f:D->R (Option D)}{c g:α->D}{p:α->Bool}:∀ {xs:List α},(∀a∈xs,f (c a)=.ok (if p a=true then some (g a) else none))->JBI f (xs.map c)=.ok ((xs.filter p).map g)
 | [],_=>rfl
 |a::xs,h=>by
  simp only[List.map_cons];unfold JBI;rw[h a (by simp)]
  have ih:=JCY (xs:=xs) λy hy=>h y (by simp[hy])
  cases hp:p a
  ·simp only[q_v,if_false];rw[ih,q_x (by simp[hp])]
  ·simp only[if_true];rw[ih,q_y hp];rfl
theorem JKn(k:Option Kd):cmpD .Eq (.str (kst k)) (.str "hold")=.ok (.bool (decide (k=some .hold))):=by
 have h:(kst k=="hold")=decide (k=some .hold):=by
  cases k with
  |none=>decide +kernel
  |some k=>cases k<;>decide +kernel
 simp only[cmpD,JBL k,show shaped (.str "hold")=true by decide +kernel,Bool.and_self,if_true,PyData.eqv,h]
theorem JKw(k:Option Kd):cmpD .Eq (.str (kst k)) (.str "jump")=.ok (.bool (decide (k=some .jump))):=by
 have h:(kst k=="jump")=decide (k=some .jump):=by
  cases k with
  |none=>decide +kernel
  |some k=>cases k<;>decide +kernel
 simp only[cmpD,JBL k,show shaped (.str "jump")=true by decide +kernel,Bool.and_self,if_true,PyData.eqv,h]
theorem JC5{ms:List Mv}{a:Mv}:bltD .len [.list ((ms++[a]).map Mv.d)]=.ok (.int (ms.length+1)):=by
 show R.ok _=_;rw[JJF]
theorem JB6(ms:List Mv):ms=[]\/∃r m,ms=r++[m]:=by
 by_cases h:ms=[]
 ·exact .inl h
 ·exact .inr (JCH h)
theorem JBh{r:List Mv}{m:Mv}:(r++[m]).getLast? = some m:=by simp
section
variable{x:Bool}{sub:Nat->Nat->Bool}{m n i3 i4 j:Nat}{w t:Rat}{ms:List Mv}
theorem Mv.q_w{a:Mv}(h:a.Ok)(hb:Sz i3 a.b)(hl:Sz i4 a.l)[Z j t](h3:i3<=30)(h4:i4<=20)(hj:j+i3+i4<=56)(hm:6<=m):run x tabA gloA sub m 48 [a.d,F t]=.ok (F (a.w t)):=by
 obtain⟨i1,i2,hs,hg,h12⟩:=h.sg;obtain⟨i5,i6,hu,hv,h56⟩:=h.us;have:=(⟨hs⟩:Z i1 a.s);have:=(⟨hg⟩:Z i2 a.g);have:=(⟨hb⟩:Z i3 a.b);have:=(⟨hl⟩:Z i4 a.l);have:=(⟨hu⟩:Z i5 a.u);have:=(⟨hv⟩:Z i6 a.v);have h0:=h.l0;exact JI0 (by grind) (by omega) (by omega) (by omega) hm
theorem q_bg(hok:∀a∈ms,a.Ok)[Z j t](hj:j<=1500)(hl:ms.length<=1000)(hm:2<=m):run x tabA gloA sub m 96 [tr w ms,F t]=.ok (.list ((bg t ms).map Mv.d)):=by
 obtain⟨n,rfl⟩:=JAF hm;rw[JAB (n:=n+1) (show tabA 96=some d_96 from rfl),JAC rfl];obtain⟨C,hC⟩:∃C:Cn,C=⟨run x tabA gloA sub (n+1),gloA,sub⟩:=⟨_,rfl⟩;have fn:C.fn=run x tabA gloA sub (n+1):=by rw[hC]
 have fg:C.glo=gloA:=by rw[hC]
 rw[<-hC];have t1:idxD (tr w ms) (.int 1)=.ok (.tuple (ms.map Mv.d)):=rfl;have it:JAs (.tuple (ms.map Mv.d))=.ok (ms.map Mv.d):=rfl;have cp:JFF C 0 (.var 0) (.not (.call 6 (.cons (.var 2) (.cons (.idx (.var 0) (.glo 57)) .nil)))) [.val (tr w ms),.val (F t)] (.ok (ms.map Mv.d))=.ok (.list ((bg t ms).map Mv.d)):=by
  rw[JDU (by rw[q_g];omega),JCY (p:=λm=>!decide (t<m.b)) (g:=Mv.d) (λa ha=>?_)]
  ·rfl
  ·have zb:Z 200 a.b:=⟨(hok a ha).b⟩;have m2:idxD a.d (.int 2)=.ok (F a.b):=rfl;rw[JDY]
   by_cases o:t<a.b
   ·dsimp?! [fn,fg,m2,o,decide_true,Bool.not_true]
   ·dsimp?! [fn,fg,m2,o,decide_false,Bool.not_false]
 generalize (bg t ms).map Mv.d=bs at *;generalize ms.map Mv.d=ds at *
 dsimp?! [d_96,b_96,fn,fg,G94,t1,it,cp]
theorem q_ba(hok:∀a∈ms,a.Ok)[Z j t](hj:j<=1500)(hl:ms.length<=1000)(hm:2<=m):run x tabA gloA sub m 95 [tr w ms,F t]=.ok (.list ((ba t ms).map Mv.d)):=by
 obtain⟨n,rfl⟩:=JAF hm;rw[JAB (n:=n+1) (show tabA 95=some d_95 from rfl),JAC rfl];obtain⟨C,hC⟩:∃C:Cn,C=⟨run x tabA gloA sub (n+1),gloA,sub⟩:=⟨_,rfl⟩;have fn:C.fn=run x tabA gloA sub (n+1):=by rw[hC]
 have fg:C.glo=gloA:=by rw[hC]
 rw[<-hC];have t1:idxD (tr w ms) (.int 1)=.ok (.tuple (ms.map Mv.d)):=rfl;have it:JAs (.tuple (ms.map Mv.d))=.ok (ms.map Mv.d):=rfl;have cp:JFF C 0 (.var 0) (.call 6 (.cons (.idx (.var 0) (.glo 57)) (.cons (.var 2) .nil))) [.val (tr w ms),.val (F t)] (.ok (ms.map Mv.d))=.ok (.list ((ba t ms).map Mv.d)):=by
  rw[JDU (by rw[q_g];omega),JCY (p:=λm=>decide (m.b<t)) (g:=Mv.d) (λa ha=>?_)]
  ·rfl
  ·have zb:Z 200 a.b:=⟨(hok a ha).b⟩;have m2:idxD a.d (.int 2)=.ok (F a.b):=rfl;rw[JDY]
   by_cases o:a.b<t
   ·dsimp?! [fn,fg,m2,o,decide_true]
   ·dsimp?! [fn,fg,m2,o,decide_false]
 generalize (ba t ms).map Mv.d=bs at *;generalize ms.map Mv.d=ds at *
 dsimp?! [d_95,b_95,fn,fg,G94,t1,it,cp]
theorem JE2:bltD .len [.list (([]:List Mv).map Mv.d)]=.ok (.int 0):=rfl
theorem JPS(T:Ti i3 i4 ms)[Z j t](h3:i3<=30)(h4:i4<=20)(hj:j+i3+i4<=56)(hl:ms.length<=1000)(hm:7<=m):run x tabA gloA sub m 97 [tr w ms,F t]=.ok (F (wOf w ms t)):=by
 obtain⟨n,rfl⟩:=JAF hm;rw[JAB (n:=n+6) (show tabA 97=some d_97 from rfl),JAC rfl];have e1:run x tabA gloA sub (n+6) 96 [tr w ms,F t]=.ok (.list ((bg t ms).map Mv.d)):=q_bg T.ok (by omega) hl (by omega)
 have t0:idxD (tr w ms) (.int 0)=.ok (F w):=rfl;unfold wOf;rcases JB6 (bg t ms) with h|⟨r,a,h⟩
 ·rw[h]at e1 ⊢;have nl:=JE2;simp only[List.map_nil,List.getLast?_nil]at e1 nl ⊢;generalize tr w ms=T at *
  dsimp?! [d_97,b_97,e1,nl,decide_true,G93,t0]
 ·have ha:a∈ms:=(List.mem_filter.mp (show a∈bg t ms by rw[h];simp)).1
  have e2:run x tabA gloA sub (n+6) 48 [a.d,F t]=.ok (F (a.w t)):=Mv.q_w (T.ok a ha) (T.b a ha) (T.l a ha) h3 h4 hj (by omega)
  rw[h]at e1 ⊢;rw[JBh];have il:=JBx (ms:=r) (m:=a);have ll:=JC5 (ms:=r) (a:=a);have t4:¬((r.length:Int)+1=0):=by omega
  generalize (r++[a]).map Mv.d=ds at *;generalize tr w ms=T at *
  dsimp?! [d_97,b_97,e1,il,ll,t4,decide_false,e2]
theorem q_wb(T:Ti i3 i4 ms)[Z j t](h3:i3<=30)(h4:i4<=20)(hj:j+i3+i4<=56)(hl:ms.length<=1000)(hm:7<=m):run x tabA gloA sub m 99 [tr w ms,F t]=.ok (F (wB w ms t)):=by
 obtain⟨n,rfl⟩:=JAF hm;rw[JAB (n:=n+6) (show tabA 99=some d_99 from rfl),JAC rfl];have e1:run x tabA gloA sub (n+6) 96 [tr w ms,F t]=.ok (.list ((bg t ms).map Mv.d)):=q_bg T.ok (by omega) hl (by omega)
 have t0:idxD (tr w ms) (.int 0)=.ok (F w):=rfl;unfold wB;rcases JB6 (bg t ms) with h|⟨r,a,h⟩
 ·rw[h]at e1 ⊢;have nl:=JE2;simp only[List.map_nil,List.getLast?_nil]at e1 nl ⊢;generalize tr w ms=T at *
  dsimp?! [d_99,b_99,e1,nl,decide_true,G93,t0]
 ·have ha:a∈ms:=(List.mem_filter.mp (show a∈bg t ms by rw[h];simp)).1
  have e2:run x tabA gloA sub (n+6) 48 [a.d,F t]=.ok (F (a.w t)):=Mv.q_w (T.ok a ha) (T.b a ha) (T.l a ha) h3 h4 hj (by omega)
  rw[h]at e1 ⊢;rw[JBh];have il:=JBx (ms:=r) (m:=a);have ll:=JC5 (ms:=r) (a:=a);have t4:¬((r.length:Int)+1=0):=by omega
  have a4:idxD a.d (.int 4)=.ok (.str (kst a.k)):=rfl;have a1:idxD a.d (.int 1)=.ok (F a.g):=rfl;have cj:=JKw a.k;generalize (r++[a]).map Mv.d=ds at *;generalize tr w ms=T at *
  by_cases hk:a.k=some .jump
  ·rw[decide_eq_true hk]at cj;simp only[if_pos hk]
   dsimp?! [d_99,b_99,e1,il,ll,t4,decide_false,e2,a4,cj,a1]
  ·rw[q_o hk]at cj;simp only[if_neg hk]
   dsimp?! [d_99,b_99,e1,il,ll,t4,decide_false,e2,a4,cj,a1]
theorem q_wa(T:Ti i3 i4 ms)[Z j t](h3:i3<=30)(h4:i4<=20)(hj:j+i3+i4<=56)(hl:ms.length<=1000)(hm:7<=m):run x tabA gloA sub m 98 [tr w ms,F t]=.ok (F (wA w ms t)):=by
 obtain⟨n,rfl⟩:=JAF hm;rw[JAB (n:=n+6) (show tabA 98=some d_98 from rfl),JAC rfl];have e1:run x tabA gloA sub (n+6) 95 [tr w ms,F t]=.ok (.list ((ba t ms).map Mv.d)):=q_ba T.ok (by omega) hl (by omega)
 have t0:idxD (tr w ms) (.int 0)=.ok (F w):=rfl;unfold wA;rcases JB6 (ba t ms) with h|⟨r,a,h⟩
 ·rw[h]at e1 ⊢;have nl:=JE2;simp only[List.map_nil,List.getLast?_nil]at e1 nl ⊢;generalize tr w ms=T at *
  dsimp?! [d_98,b_98,e1,nl,decide_true,G93,t0]
 ·have ha:a∈ms:=(List.mem_filter.mp (show a∈ba t ms by rw[h];simp)).1
  have e2:run x tabA gloA sub (n+6) 48 [a.d,F t]=.ok (F (a.w t)):=Mv.q_w (T.ok a ha) (T.b a ha) (T.l a ha) h3 h4 hj (by omega)
  have e3:run x tabA gloA sub (n+6) 72 [a.d]=.ok (F a.e):=Mv.q_end (T.ok a ha) (by omega)
  rw[h]at e1 ⊢;rw[JBh];have il:=JBx (ms:=r) (m:=a);have ll:=JC5 (ms:=r) (a:=a);have t4:¬((r.length:Int)+1=0):=by omega
  have a4:idxD a.d (.int 4)=.ok (.str (kst a.k)):=rfl;have a0:idxD a.d (.int 0)=.ok (F a.s):=rfl;have cj:=JKn a.k;have ce:cmpD .Eq (F a.e) (F t)=.ok (.bool (decide (a.e=t))):=F_eq _ _;generalize (r++[a]).map Mv.d=ds at *;generalize tr w ms=T at *
  by_cases hk:a.k=some .hold
  ·rw[decide_eq_true hk]at cj
   by_cases ht:a.e=t
   ·rw[decide_eq_true ht]at ce;simp only[if_pos (And.intro hk ht)]
    dsimp?! [d_98,b_98,e1,il,ll,t4,decide_false,e2,e3,a4,cj,↓ce,a0]
   ·rw[q_o ht]at ce;simp only[if_neg (λz:a.k=some .hold/\a.e=t=>ht z.2)]
    dsimp?! [d_98,b_98,e1,il,ll,t4,decide_false,e2,e3,a4,cj,↓ce,a0]
  ·rw[q_o hk]at cj;simp only[if_neg (λz:a.k=some .hold/\a.e=t=>hk z.1)]
   dsimp?! [d_98,b_98,e1,il,ll,t4,decide_false,e2,e3,a4,cj,a0]
theorem JP7(T:Ti i3 i4 ms)[Z j t](h3:i3<=30)(h4:i4<=20)(hj:j+i3+i4<=56)(hl:ms.length<=1000)(hm:8<=m):run x tabA gloA sub m 101 [tr w ms,F t]=.ok (.bool (lpAt w ms t)):=by
 obtain⟨n,rfl⟩:=JAF hm;rw[JAB (n:=n+7) (show tabA 101=some JJl from rfl),JAC rfl];have e1:run x tabA gloA sub (n+7) 97 [tr w ms,F t]=.ok (F (wOf w ms t)):=JPS T h3 h4 hj hl (by omega)
 have e2:run x tabA gloA sub (n+7) 98 [tr w ms,F t]=.ok (F (wA w ms t)):=q_wa T h3 h4 hj hl (by omega)
 have e3:run x tabA gloA sub (n+7) 99 [tr w ms,F t]=.ok (F (wB w ms t)):=q_wb T h3 h4 hj hl (by omega)
 unfold lpAt;generalize tr w ms=T at *;generalize wOf w ms t=q at *;generalize wA w ms t=qa at *;generalize wB w ms t=qb at *
 by_cases h:qa=q
 ·dsimp?! [JJl,JMX,e1,e2,e3,h,decide_true,Bool.not_true,Bool.false_or]
 ·dsimp?! [JJl,JMX,e1,e2,e3,h,decide_false,Bool.not_false,Bool.true_or]
end
end VI.VP
end
section
namespace VI.VP
open PySem Fr
noncomputable def eput(acc:List Rat)(m:Mv):List Rat:=(if acc.getLast? = some m.b then acc else acc++[m.b])++[m.e]
noncomputable def edg:List Rat->List Mv->List Rat
 |acc,[]=>acc
 |acc,m::r=>edg (eput acc m) r
theorem JH3:∀ {ms:List Mv}{acc:List Rat}{q:Rat},q∈edg acc ms->q∈acc\/∃a∈ms,q=a.b\/q=a.e
 | [],acc,q,h=>.inl h
 |m::r,acc,q,h=>by
  rcases JH3 (ms:=r) h with h|⟨a,ha,h⟩
  ·unfold eput at h;rcases List.mem_append.mp h with h|h
   ·split at h
    ·exact .inl h
    ·rcases List.mem_append.mp h with h|h
     ·exact .inl h
     ·simp only[q_n,List.not_mem_nil,or_false]at h;exact .inr ⟨m,by simp,.inl h⟩
   ·simp only[q_n,List.not_mem_nil,or_false]at h;exact .inr ⟨m,by simp,.inr h⟩
  ·exact .inr ⟨a,by simp[ha],h⟩
noncomputable def JCF:S:=match JFC with
 |.cons _ (.cons (.for1 _ _ b) _)=>b
 |_=>.nil
theorem JQA{i j:Nat}:(E.glo i).uses j=false:=rfl
theorem JHl{q:Rat}:idxD (.list ((qs++[q]).map F)) (.int (-1))=.ok (F q):=by
 simp only[idxD,atI,ixN,q_g,q_u,List.length_cons,List.length_nil];rw[if_neg (by omega),if_pos (by omega)]
 simp only[Option.bind_some];rw[show(-1+(((qs.length+(0+1):Nat)):Int)).toNat=qs.length by omega]
 simp[optR]
section
variable{x:Bool}{sub:Nat->Nat->Bool}{m n i3 i4 j:Nat}{w t:Rat}{ms:List Mv}
theorem JGV(h:a.Ok)(hl:acc.length<900)(T:D):exec ⟨run x tabA gloA sub (n+4),gloA,sub⟩ JCF [.val T,.own (.list (acc.map F)),.val a.d]=.nx [.val T,.own (.list ((eput acc a).map F)),.val a.d]:=by
 have e1:run x tabA gloA sub (n+4) 72 [a.d]=.ok (F a.e):=Mv.q_end h (by omega)
 have a2:idxD a.d (.int 2)=.ok (F a.b):=rfl;have ap:∀(ds:List D) (e:E) (δ:Env) (q:Rat),ds.length<1000->JBA 1 ds e (F q) δ=.nx (δ.set 1 (.own (.list (ds++[F q])))):=λds e δ q hd=>by
  unfold JBA;rw[if_pos (by omega),noF]
  simp
 by_cases h0:acc=[]
 ·subst h0;have ee:(eput [] a).map F=[F a.b,F a.e]:=rfl;have a1:=λe δ=>ap [] e δ a.b (by decide)
  have a3:=λe δ=>ap [F a.b] e δ a.e (show 1<1000 by decide)
  rw[ee]
  dsimp?! [JCF,JFC,List.length_nil,Int.natCast_zero,Int.ofNat_zero,decide_true,a1,a2,a3,e1]
 ·obtain⟨r,q,rfl⟩:∃r q,acc=r++[q]:=⟨acc.dropLast,acc.getLast h0,(List.dropLast_concat_getLast h0).symm⟩;have il:=JHl (qs:=r) (q:=q);have ln:bltD .len [.list ((r++[q]).map F)]=.ok (.int (r.length+1)):=by show R.ok _=_;simp
  have t4:¬((r.length:Int)+1=0):=by omega
  have gl:(r++[q]).getLast? = some q:=by simp
  have lr:((r++[q]).map F).length<900:=by rw[q_g];exact hl
  have a1:=λe δ=>ap ((r++[q]).map F) e δ a.b (by omega)
  have a1':=λe δ=>ap ((r++[q]).map F) e δ a.e (by omega)
  have a3:=λe δ=>ap ((r++[q]).map F++[F a.b]) e δ a.e (by rw[q_u,List.length_cons,List.length_nil];omega)
  by_cases hq:q=a.b
  ·have ee:(eput (r++[q]) a).map F=(r++[q]).map F++[F a.e]:=by
    unfold eput;rw[gl,if_pos (by rw[hq]),List.map_append]
    rfl
   rw[ee];generalize (r++[q]).map F=ds at *
   dsimp?! [JCF,JFC,ln,t4,il,a2,hq,decide_false,decide_true,Bool.not_true,a1',e1]
  ·have ee:(eput (r++[q]) a).map F=(r++[q]).map F++[F a.b]++[F a.e]:=by
    unfold eput;rw[gl,if_neg (λz=>hq (by injection z)),List.map_append,List.map_append]
    rfl
   rw[ee];generalize (r++[q]).map F=ds at *
   dsimp?! [JCF,JFC,ln,t4,il,a2,hq,decide_false,Bool.not_false,a1,a3,e1]
theorem JFV:(eput acc a).length<=acc.length+2:=by
 unfold eput
 split<;>simp
theorem JLu(hok:∀a∈ms,a.Ok)(hl:ms.length<=400)(hm:5<=m):run x tabA gloA sub m 100 [tr w ms]=.ok (.list ((edg [] ms).map F)):=by
 obtain⟨n,rfl⟩:=JAF hm;rw[JAB (n:=n+4) (show tabA 100=some JMa from rfl),JAC rfl];obtain⟨C,hC⟩:∃C:Cn,C=⟨run x tabA gloA sub (n+4),gloA,sub⟩:=⟨_,rfl⟩;obtain⟨δ',lp,r,acc,y,vy,er,_,ea,_,eδ⟩:=JBu (C:=C) (i:=2) (b:=JCF)
  (Inv:=λds δ=>∃(r:List Mv) (acc:List Rat) (y:Sl),Vs y/\ds=r.map Mv.d/\(∀a∈r,a∈ms)/\edg acc r=edg [] ms/\acc.length+2*r.length<=800/\δ=[.val (tr w ms),.own (.list (acc.map F)),y])
  (λd ds δ ⟨r,acc,y,vy,ed,hr,ea,hn,e⟩=>by
    subst e;cases r with
    |nil=>cases ed
    |cons a r =>
     simp only[List.map_cons,List.cons.injEq]at ed;obtain⟨rfl,rfl⟩:=ed;simp only[List.length_cons]at hn;have:=JFV (acc:=acc) (a:=a);exact⟨_,.inl (by rw[hC];exact JGV (hok a (hr a (by simp))) (by omega) _),r,eput acc a,.val a.d,rfl,rfl,λc hc=>hr c (by simp[hc]),ea,by omega,rfl⟩)
  (ds:=ms.map Mv.d) (δ:=[.val (tr w ms),.own (.list []),.no])
  ⟨ms,[],.no,rfl,rfl,λa h=>h,rfl,by simp;omega,rfl⟩
 have er:r=[]:=by cases r with|nil=>rfl|cons _ _=>cases er
 subst er;subst eδ;have ea:acc=edg [] ms:=ea;subst ea;have fn:C.fn=run x tabA gloA sub (n+4):=by rw[hC]
 have fg:C.glo=gloA:=by rw[hC]
 rw[<-hC];have t1:idxD (tr w ms) (.int 1)=.ok (.tuple (ms.map Mv.d)):=rfl;have it:JAs (.tuple (ms.map Mv.d))=.ok (ms.map Mv.d):=rfl;simp only[JCF,JFC]at lp;generalize (edg [] ms).map F=es at *;generalize ms.map Mv.d=ds at *;generalize tr w ms=T at *
 dsimp?! [JMa,JFC,fn,fg,G94,t1,it,lp,JAa,JAj,JC0,JAb,JK7,JH4,JQA,Nat.reduceAdd,Nat.reduceBEq,Bool.or_false,Bool.or_self]
noncomputable def lps(w:Rat)(ms:List Mv):List Rat:=(edg [] ms).filter (lpAt w ms)
theorem JIb:∀ {ms:List Mv}{acc:List Rat},(edg acc ms).length<=acc.length+2*ms.length
 | [],acc=>by simp[edg]
 |m::r,acc=>by
  have:=JIb (ms:=r) (acc:=eput acc m);have:=JFV (acc:=acc) (a:=m);simp only[edg,List.length_cons];omega
theorem JMA(T:Ti i3 i4 ms)(h3:i3<=30)(h4:i4<=20)(hj:i3+i4+1+i3+i4<=56)(hl:ms.length<=400)(hm:9<=m):run x tabA gloA sub m 102 [tr w ms]=.ok (.list ((lps w ms).map F)):=by
 obtain⟨n,rfl⟩:=JAF hm;rw[JAB (n:=n+8) (show tabA 102=some JMk from rfl),JAC rfl];obtain⟨C,hC⟩:∃C:Cn,C=⟨run x tabA gloA sub (n+8),gloA,sub⟩:=⟨_,rfl⟩;have fn:C.fn=run x tabA gloA sub (n+8):=by rw[hC]
 have fg:C.glo=gloA:=by rw[hC]
 rw[<-hC];have e1:run x tabA gloA sub (n+8) 100 [tr w ms]=.ok (.list ((edg [] ms).map F)):=JLu T.ok hl (by omega)
 have it:JAs (.list ((edg [] ms).map F))=.ok ((edg [] ms).map F):=rfl;have cp:JFF C 0 (.var 0) (.call 101 (.cons (.var 1) (.cons (.var 0) .nil))) [.val (tr w ms)] (.ok ((edg [] ms).map F))=.ok (.list ((lps w ms).map F)):=by
  have:=JIb (ms:=ms) (acc:=[]);rw[JDU (by rw[q_g];simp only[List.length_nil]at this;omega),JCY (p:=lpAt w ms) (g:=F) (λq hq=>?_)]
  ·rfl
  ·have zq:Z (i3+i4+1) q:=⟨by
    rcases JH3 hq with h|⟨a,ha,h|h⟩
    ·simp at h
    ·rw[h];exact(T.b a ha).mono (by omega)
    ·have zb:Z i3 a.b:=⟨T.b a ha⟩;have zl:Z i4 a.l:=⟨T.l a ha⟩;rw[h];exact(inferInstance:Z (i3+i4+1) (a.b+a.l)).h⟩
   have e2:run x tabA gloA sub (n+8) 101 [tr w ms,F q]=.ok (.bool (lpAt w ms q)):=JP7 T h3 h4 hj (by omega) (by omega)
   rw[JDY];cases h:lpAt w ms q
   ·rw[h]at e2
    dsimp?! [fn,fg,e2]
   ·rw[h]at e2
    dsimp?! [fn,fg,e2]
 generalize (lps w ms).map F=ls at *;generalize (edg [] ms).map F=es at *;generalize tr w ms=T at *
 dsimp?! [JMk,JOO,fn,fg,e1,it,cp]
noncomputable def Mv.mv(y:Rat)(a:Mv):Mv:={ a with b:=a.b+y }
noncomputable def Mv.sl(y:Rat)(a:Mv):Mv:={ a with b:=a.b*y,l:=a.l*y,u:=a.u / y,v:=a.v / y }
end
end VI.VP
end
section
namespace VI.VP
open PySem Fr
section
variable{y t:Rat}{a:Mv}{ms:List Mv}{w:Rat}
end
end VI.VP
end
section
namespace VI.VP
open PySem Fr
theorem JFd(p:Rat):0<=JAR p/\JAR p<=1:=by unfold JAR;grind
theorem JGm(p:Rat):JAR (JAR p)=JAR p:=JBy (JFd p).1 (JFd p).2
noncomputable def sdp(s g l:Rat)(k:Option Kd)(u v p:Rat):Rat:=match k with
 |some k=>(g - s) / l*sl k p
 |none=>if p<0\/1<p then 0 else ks s g l u v p
noncomputable def wop(s g l:Rat)(k:Option Kd)(u v p:Rat):Rat:=match k with
 |some k=>s+ez k (JAR p)*(g - s)
 |none=>kw s g l u v (JAR p)
theorem wo_p{s g b l u v t p:Rat}(h:(t - b) / l=p):wo s g b l k u v t=wop s g l k u v p:=by subst h;cases k<;>rfl
theorem JDi{p:Rat}(h:p<=0):JAR p=0:=by unfold JAR;rw[if_pos h]
theorem JDm{p:Rat}(h:1<=p):JAR p=1:=by unfold JAR;grind
end VI.VP
end
section
namespace VI.VP
open PySem Fr
def Nw(B:Nat)(q:Rat):Prop:=∃z:Int,z.natAbs<=B/\q=Rat.divInt z 96
theorem Nw.mono{A B:Nat}{p:Rat}(h:Nw A p)(e:A<=B):Nw B p:=by
 obtain⟨z,hz,rfl⟩:=h;exact⟨z,by omega,rfl⟩
theorem Nw.add{A B:Nat}{p q:Rat}(h:Nw A p)(h':Nw B q):Nw (A+B) (p+q):=by
 obtain⟨z,hz,rfl⟩:=h;obtain⟨y,hy,rfl⟩:=h';refine⟨z+y,by omega,?_⟩
 simp only[Rat.divInt_eq_div];rw[Rat.intCast_add]
 grind
theorem Nw.sub{A B:Nat}{p q:Rat}(h:Nw A p)(h':Nw B q):Nw (A+B) (p - q):=by
 obtain⟨z,hz,rfl⟩:=h;obtain⟨y,hy,rfl⟩:=h';refine⟨z - y,by omega,?_⟩
 simp only[Rat.divInt_eq_div];rw[Rat.intCast_sub]
 grind
theorem Nw.sz{B k:Nat}{p:Rat}(h:Nw B p)(e:B<2 ^ k)(hk:7<=k):Sz k p:=by
 obtain⟨z,hz,rfl⟩:=h;exact Sz.of (by decide) (by omega) (q_m (by decide:(96:Int).natAbs<2 ^ 7) (Nat.pow_le_pow_right (by omega) hk))
theorem Tw.nw{A:Nat}{q:Rat}(h:Tw A q):Nw (8*A) q:=by
 obtain⟨z,hz,rfl⟩:=h;refine⟨z*8,by omega,?_⟩
 rw[Rat.divInt_eq_divInt_iff (by decide) (by decide)]
 omega
theorem Tw.part{A:Nat}{q:Rat}(h:Tw A q){i:Int}(h0:0<=i)(h1:i<17):Nw (12*A) (Rat.divInt (i - 4) 8*q):=by
 obtain⟨z,hz,rfl⟩:=h;refine⟨(i - 4)*z,?_,?_⟩
 ·rw[Int.natAbs_mul];have:(i - 4).natAbs<=12:=by omega
  exact Nat.mul_le_mul this hz
 ·rw[Rat.divInt_mul_divInt];rfl
theorem ez_sz{i:Nat}{p:Rat}(k:Kd)(h:Sz i p):Sz (3*i+7) (ez k p):=by
 have:=(⟨h⟩:Z i p);cases k
 ·exact h.mono (by omega)
 ·exact(inferInstance:Z (i+i) (p*p)).le (by omega)
 ·exact(inferInstance:Z ((3+i)+(i+i)+1) (2*p - p*p)).le (by omega)
 ·exact(inferInstance:Z ((i+i)+(3+(3+i)+1)) (p*p*(3 - 2*p))).le (by omega)
 ·show Sz _ (if p=1 then 1 else 0);split<;>first|exact(sz01 (by omega)).1|exact(sz01 (by omega)).2
 ·show Sz _ (if p=0 then 0 else 1);split<;>first|exact(sz01 (by omega)).1|exact(sz01 (by omega)).2
theorem JMw{a c i:Nat}{s g l u v p:Rat}(k:Kd)(hs:Sz a s)(hg:Sz c g)(hp:Sz i p)(hi:1<=i):Sz (a+c+3*i+9) (wop s g l (some k) u v p):=by
 have:=JHj hs hg (ez_sz k (JCV hi hp));exact this.mono (by omega)
theorem JNK{a c i i4 i5 i6:Nat}{s g l u v p:Rat}(hs:Sz a s)(hg:Sz c g)(hp:Sz i p)(hi:1<=i)(hl:Sz i4 l)(hu:Sz i5 u)(hv:Sz i6 v):Sz (a+c+3*i+i4+i5+i6+9) (wop s g l none u v p):=by
 have h:=kw_sz hs hg (JCV hi hp) hl hu hv;show Sz _ (kw s g l u v (JAR p));unfold kw;rw[JGm];exact h.mono (by omega)
theorem Mv.w_sz{m:Mv}{a c i i4 i5 i6:Nat}{t:Rat}(hs:Sz a m.s)(hg:Sz c m.g)(hp:Sz i ((t - m.b) / m.l))(hi:1<=i)(hl:Sz i4 m.l)(hu:Sz i5 m.u)(hv:Sz i6 m.v):Sz (a+c+3*i+i4+i5+i6+9) (m.w t):=by
 show Sz _ (wo m.s m.g m.b m.l m.k m.u m.v t);rw[wo_p rfl];cases m.k with
 |none=>exact JNK hs hg hp hi hl hu hv
 |some k=>exact(JMw k hs hg hp hi).mono (by omega)
theorem JHt{P:Rat->Prop}{w t:Rat}{ms:List Mv}(hw:P w)(hm:∀a∈ms,P (a.w t)):P (wOf w ms t):=by
 unfold wOf;cases h:(bg t ms).getLast? with
 |none=>exact hw
 |some a=>exact hm a (List.mem_filter.mp (List.mem_of_getLast? h)).1
end VI.VP
end
section
namespace VI.VP
open PySem Fr
structure Pc where
 b:Rat
 w:Rat
 ms:List Mv
noncomputable def Pc.d(p:Pc):D:=.tuple [F p.b,tr p.w p.ms]
noncomputable def rn(w:Rat)(ms:List Mv)(ps:List Pc):D:=.tuple (.tuple [.none,tr w ms]::ps.map Pc.d)
noncomputable def onP:Rat×List Mv->List Pc->Rat->Rat×List Mv
 |c,[],_=>c
 |c,p::r,t=>onP (if t<p.b then c else (p.w,p.ms)) r t
noncomputable def wOn(w:Rat)(ms:List Mv)(ps:List Pc)(t:Rat):Rat:=wOf (onP (w,ms) ps t).1 (onP (w,ms) ps t).2 t
section
variable{x:Bool}{sub:Nat->Nat->Bool}{m n i3 i4 j:Nat}{w t:Rat}{ms:List Mv}{ps:List Pc}
structure RnOk(i3 i4:Nat)(ms:List Mv)(ps:List Pc):Prop where
 t0:Ti i3 i4 ms
 l0:ms.length<=1000
 ts:∀p∈ps,Ti i3 i4 p.ms/\p.ms.length<=1000/\Sz 200 p.b
def Lt(ps:List Pc)(t:Rat):Prop:=∀r p,ps=r++[p]->p.b<t
noncomputable def brk(w:Rat)(ms:List Mv)(ps:List Pc)(t g l:Rat)(k:Kd):Pc:=⟨t,wOn w ms ps t,[⟨wOn w ms ps t,g,t,l,some k,0,0⟩]⟩
end
end VI.VP
end
section
namespace VI.VP
open PySem Fr
noncomputable def JGk(C:Cn)(is:List Nat)(b:S)(xs:List D)(δ:Env):Fl:=forL (putT is) (exec C b) xs δ
noncomputable def JQm(C:Cn)(is:List Nat)(e:E)(b:S)(δ:Env):R (List D)->Fl
 |.ok xs=>JGk C is b xs (JAk e 0 δ)
 |.exc c=>.ex c
 |.bad=>.bad
theorem JFh:exec C (.forT is e b) δ=JQm C is e b δ (evI C e δ):=by simp only[exec];cases evI C e δ<;>rfl
theorem JFz:JQm C is e b δ (.ok xs)=JGk C is b xs (JAk e 0 δ):=rfl
theorem JDt{C:Cn}{is:List Nat}{b:S}{Inv:List D->Env->Prop}(hb:∀d ds δ,Inv (d::ds) δ->∃ys δ',d=.tuple ys/\ys.length=is.length/\(exec C b (JAl is ys δ)=.nx δ'\/exec C b (JAl is ys δ)=.ct δ')/\Inv ds δ'):∀ {ds:List D}{δ},Inv ds δ->∃δ',JGk C is b ds δ=.nx δ'/\Inv [] δ'
 | [],δ,h=>⟨δ,rfl,h⟩
 |d::ds,δ,h=>by
  obtain⟨ys,δ1,rfl,hl,e,h1⟩:=hb d ds δ h;obtain⟨δ2,e2,h2⟩:=JDt hb h1;refine⟨δ2,?_,h2⟩;unfold JGk forL;simp only[putT,hl,if_true];rcases e with e|e<;>(rw[e];exact e2)
theorem JJk{w t:Rat}:wOf w (a::r) t=wOf (if t<a.b then w else a.w t) r t:=by
 have h:wOf w [a] t=if t<a.b then w else a.w t:=by
  unfold wOf bg
  by_cases h:t<a.b
  ·simp[h]
  ·simp[h]
 exact wOf_cons' h
where
 wOf_cons' {w w' t:Rat}{ms ns:List Mv}(h:wOf w ms t=w'):wOf w (ms++ns) t=wOf w' ns t:=by
  unfold wOf bg at h ⊢;rw[List.filter_append,List.getLast?_append];generalize ns.filter _=l;cases l with
  |nil=>simpa using h
  |cons a r =>
   obtain⟨z,hz⟩:∃z,(a::r).getLast? = some z:=⟨_,List.getLast?_eq_some_getLast (by simp)⟩
   rw[hz];rfl
section
variable{x:Bool}{sub:Nat->Nat->Bool}{m n i3 i4 j:Nat}{w t:Rat}{ms:List Mv}{ps:List Pc}
theorem Mv.q_lw{a:Mv}(h:a.Ok)(hb:Sz i3 a.b)(hl:Sz i4 a.l)[Z j t](h3:i3<=30)(h4:i4<=20)(hj:j+i3+i4<=56)(hm:5<=m):run x tabA gloA sub m 52 [a.d,F t]=.ok (F (a.w t)):=by
 obtain⟨i1,i2,hs,hg,h12⟩:=h.sg;obtain⟨i5,i6,hu,hv,h56⟩:=h.us;have:=(⟨hs⟩:Z i1 a.s);have:=(⟨hg⟩:Z i2 a.g);have:=(⟨hb⟩:Z i3 a.b);have:=(⟨hl⟩:Z i4 a.l);have:=(⟨hu⟩:Z i5 a.u);have:=(⟨hv⟩:Z i6 a.v);have h0:=h.l0;exact JHb (by grind) (by omega) (by omega) (by omega) hm
noncomputable def JF0:S:=match b_90 with
 |.cons _ (.cons (.for1 _ _ b) _)=>b
 |_=>.nil
theorem l_on(T:Ti i3 i4 ms)[Z j t](h3:i3<=30)(h4:i4<=20)(hj:j+i3+i4<=56)(hm:6<=m):run x tabA gloA sub m 90 [tr w ms,F t]=.ok (F (wOf w ms t)):=by
 obtain⟨n,rfl⟩:=JAF hm;rw[JAB (n:=n+5) (show tabA 90=some d_90 from rfl),JAC rfl];obtain⟨C,hC⟩:∃C:Cn,C=⟨run x tabA gloA sub (n+5),gloA,sub⟩:=⟨_,rfl⟩;have fn:C.fn=run x tabA gloA sub (n+5):=by rw[hC]
 have fg:C.glo=gloA:=by rw[hC]
 rw[<-hC];have t0:idxD (tr w ms) (.int 0)=.ok (F w):=rfl;have t1:idxD (tr w ms) (.int 1)=.ok (.tuple (ms.map Mv.d)):=rfl;have it:JAs (.tuple (ms.map Mv.d))=.ok (ms.map Mv.d):=rfl;generalize tr w ms=TT at *;obtain⟨δ',lp,r,y,z3,er,_,ey,v3,eδ⟩:=JBu (C:=C) (i:=3) (b:=JF0)
  (Inv:=λes δ=>∃(r:List Mv) (y:Rat) (z3:Sl),es=r.map Mv.d/\(∀a∈r,a∈ms)/\wOf y r t=wOf w ms t/\Vs z3/\δ=[.val TT,.val (F t),.val (F y),z3])
  (λd es δ ⟨r,y,z3,er,hr,ey,v3,e⟩=>by
    subst e;cases r with
    |nil=>cases er
    |cons a r =>
     simp only[List.map_cons,List.cons.injEq]at er;obtain⟨rfl,rfl⟩:=er;have ha:=hr a (by simp)
     have zb:Z 200 a.b:=⟨(T.ok a ha).b⟩;have m2:idxD a.d (.int 2)=.ok (F a.b):=rfl;have e1:=Mv.q_lw (x:=x) (sub:=sub) (m:=n+5) (t:=t) (T.ok a ha) (T.b a ha) (T.l a ha) h3 h4 hj (by omega)
     rw[JJk]at ey
     by_cases h:t<a.b
     ·rw[if_pos h]at ey;refine⟨[.val TT,.val (F t),.val (F y),.val a.d],.inl ?_,r,y,.val a.d,rfl,λc hc=>hr c (by simp[hc]),ey,rfl,rfl⟩
      generalize a.d=ad at *
      dsimp?! [JF0,b_90,fn,fg,m2,h,decide_true,Bool.not_true]
     ·rw[if_neg h]at ey;refine⟨[.val TT,.val (F t),.val (F (a.w t)),.val a.d],.inl ?_,r,a.w t,.val a.d,rfl,λc hc=>hr c (by simp[hc]),ey,rfl,rfl⟩
      generalize a.d=ad at *
      dsimp?! [JF0,b_90,fn,fg,m2,h,decide_false,Bool.not_false,e1,JAS,noF])
  (ds:=ms.map Mv.d) (δ:=[.val TT,.val (F t),.val (F w),.no])
  ⟨ms,w,.no,rfl,λ_ h=>h,rfl,rfl,rfl⟩
 subst eδ;cases r with
 |cons q r=>cases er
 |nil =>
  have ey:y=wOf w ms t:=ey;rw[<-ey];simp only[JF0,b_90]at lp;generalize ms.map Mv.d=md at *
  dsimp?! [d_90,b_90,fn,fg,t0,t1,it,lp,JAa,JAj,JAb]
theorem JOf{B:Nat}(ns:List Int)(at':Int)(hb:∀a∈ms,Nw B a.b/\Small a.l)(hB:B<2 ^ 15)(hl:ms.length<=400)(hm:5<=m)(h0:0<=at')(h1:at'<900):∃t:Rat,Nw (B+900) t/\run x tabA gloA sub m 89 [sc ns,.int at',tr w ms]=.ok (F t):=by
 obtain⟨n,rfl⟩:=JAF hm;rw[JAB (n:=n+4) (show tabA 89=some d_89 from rfl),JAC rfl];have t1:idxD (tr w ms) (.int 1)=.ok (.tuple (ms.map Mv.d)):=rfl;have ne:=JM4 ms
 by_cases h:ms=[]
 ·subst h;obtain⟨f,sf,hf⟩:=JC3 (x:=x) (sub:=sub) (m:=n+4) ns at' (by omega) (by omega) (by omega)
  refine⟨f,sf.tw.nw.mono (by omega),?_⟩
  simp only[List.map_nil,List.isEmpty_nil]at ne t1
  dsimp?! [d_89,b_89,t1,ne,hf]
 ·have hp:0<ms.length:=by cases ms with|nil=>exact absurd rfl h|cons _ _=>simp
  have em:ms.isEmpty=false:=by cases ms with|nil=>exact absurd rfl h|cons _ _=>rfl
  obtain⟨p,p0,p1,hp⟩:=JEm (x:=x) (sub:=sub) (m:=n+4) ns (at'+1) (ms.length:Int) (by omega) (by omega) (by omega) (by omega)
  have hlt:p.toNat<ms.length:=by omega
  obtain⟨a,ha⟩:∃a,a=ms[p.toNat]:=⟨_,rfl⟩;have hm:a∈ms:=by rw[ha];exact List.getElem_mem hlt
  have ix:idxD (.tuple (ms.map Mv.d)) (.int p)=.ok a.d:=JIa (j:=p.toNat) (by omega) (by rw[ha];exact q_q hlt)
  obtain⟨nb,sl⟩:=hb a hm;have zb:Z 15 a.b:=⟨nb.sz (by omega) (by omega)⟩
  have zl:Z 5 a.l:=sl.Z;obtain⟨i,i0,i1,zi,ht⟩:=JO1 (x:=x) (sub:=sub) (m:=n+4) (s:=a.s) (g:=a.g) (b:=a.b) (l:=a.l) (k:=a.k) (u:=a.u) (v:=a.v) ns at' (by omega) (by omega) (by omega) (by omega) (by omega)
  have ht:run x tabA gloA sub (n+4) 53 [sc ns,.int at',a.d]=.ok (F (a.b+Rat.divInt (i - 4) 8*a.l)):=ht;refine⟨_,(nb.add (sl.tw.part i0 i1)).mono (by omega),?_⟩
  have ln:bltD .len [.tuple (ms.map Mv.d)]=.ok (.int ms.length):=by show R.ok _=_;simp
  rw[em]at ne;generalize ms.map Mv.d=ds at *;generalize tr w ms=T at *
  dsimp?! [d_89,b_89,t1,ne,ln,hp,ix,ht]
end
end VI.VP
end
section
namespace VI.VP
open PySem Fr
theorem Mv.w_lo{a:Mv}(h:a.Ok){t:Rat}(ht:t<=a.b):a.w t=a.s:=by
 have hl:=h.l0;have hp:(t - a.b) / a.l<=0:=Rat.not_lt.mp λz=>by
  rw[Rat.lt_div_iff hl]at z;grind
 unfold Mv.w wo;cases hk:a.k with
 |none=>simp only;rw[JDi hp];unfold kw;rw[JDi (by grind)];simp only[ez];grind
 |some k=>simp only;rw[JDi hp];cases k<;>simp only[ez]<;>grind
theorem Mv.w_hi{a:Mv}(h:a.Ok){t:Rat}(ht:a.e<=t):a.w t=a.g:=by
 have hl:=h.l0;have hp:1<=(t - a.b) / a.l:=Rat.not_lt.mp λz=>by
  rw[Rat.div_lt_iff hl]at z;unfold Mv.e at ht;grind
 unfold Mv.w wo;cases hk:a.k with
 |none=>simp only;rw[JDm hp];unfold kw;rw[JDm (by grind)];simp only[ez];grind
 |some k=>simp only;rw[JDm hp];cases k<;>simp only[ez]<;>grind
theorem Mv.p_in{a:Mv}(h:a.Ok){t:Rat}(h1:a.b<t)(h2:t<a.e):0<(t - a.b) / a.l/\(t - a.b) / a.l<1:=by
 have hl:=h.l0;unfold Mv.e at h2;exact⟨by rw[Rat.lt_div_iff hl];grind,by rw[Rat.div_lt_iff hl];grind⟩
theorem Mv.w_hold{a:Mv}(h:a.Ok)(hk:a.k=some .hold){t:Rat}(h2:t<a.e):a.w t=a.s:=by
 by_cases h1:t<=a.b
 ·exact Mv.w_lo h h1
 ·obtain⟨p0,p1⟩:=Mv.p_in h (by grind) h2
  unfold Mv.w wo;rw[hk];simp only;rw[JBy (by grind) (by grind)]
  simp only[ez];rw[if_neg (by grind)]
  grind
theorem Mv.w_jump{a:Mv}(h:a.Ok)(hk:a.k=some .jump){t:Rat}(h1:a.b<t):a.w t=a.g:=by
 by_cases h2:a.e<=t
 ·exact Mv.w_hi h h2
 ·obtain⟨p0,p1⟩:=Mv.p_in h h1 (by grind)
  unfold Mv.w wo;rw[hk];simp only;rw[JBy (by grind) (by grind)]
  simp only[ez];rw[if_neg (by grind)]
  grind
def Sq:List Mv->Prop
 | []=>True
 |a::r=>(∀c∈r,a.e<=c.b)/\Sq r
theorem JPf:∀ {ms:List Mv},(∀a∈ms,a.Ok)->nov ms=true->Sq ms
 | [],_,_=>trivial
 | [a],_,_=>⟨λc hc=>(by cases hc),trivial⟩
 |a::c::r,ho,h=>by
  simp only[nov,q_i,Bool.not_eq_true',decide_eq_false_iff_not]at h;have ih:=JPf (ms:=c::r) (λd hd=>ho d (by simp[hd])) h.2
  have hc:=(ho c (by simp)).l0
  refine⟨λd hd=>?_,ih⟩;rcases q_n.mp hd with rfl|hd
  ·grind
  ·have:=ih.1 d hd;unfold Mv.e at this
   grind
theorem JGD:∀ {ms:List Mv}(t:Rat),(∀a∈ms,a.Ok)->Sq ms->∃Q,ms=bg t ms++Q/\∀a∈Q,t<a.b
 | [],t,_,_=>⟨[],rfl,λa h=>by cases h⟩
 |a::r,t,ho,h=>by
  unfold bg
  by_cases c:t<a.b
  ·refine⟨a::r,?_,λd hd=>?_⟩
   ·rw[List.filter_eq_nil_iff.mpr]
    ·rfl
    ·intro d hd;have:t<d.b:=by
      rcases q_n.mp hd with rfl|hd
      ·exact c
      ·have:=h.1 d hd;have:=(ho a (by simp)).l0;unfold Mv.e at *;grind
     simp[this]
   ·rcases q_n.mp hd with rfl|hd
    ·exact c
    ·have:=h.1 d hd;have:=(ho a (by simp)).l0;unfold Mv.e at *;grind
  ·obtain⟨Q,e,q⟩:=JGD (ms:=r) t (λd hd=>ho d (by simp[hd])) h.2
   refine⟨Q,?_,q⟩;rw[q_y (by simp[c]),List.cons_append]
   unfold bg at e;rw[<-e]
theorem JHz:∀ {P Q:List Mv},Sq (P++Q)->∀a∈P,∀c∈Q,a.e<=c.b
 | [],_,_,a,ha=>by cases ha
 |p::P,Q,h,a,ha=>λc hc=>by
  rcases q_n.mp ha with rfl|ha
  ·exact h.1 c (by simp[hc])
  ·exact JHz h.2 a ha c hc
theorem JLE:∀ {P Q:List Mv}{w:Rat}{a c:Mv},Ch w (P++a::c::Q)->c.s=a.g
 | [],_,_,_,_,h=>h.2.1
 |_::_,_,_,_,_,h=>JLE h.2
noncomputable def du1(a:Mv):List Rat:=(if a.s≠a.g/\a.k=some .hold then [a.e] else [])++(if a.s≠a.g/\a.k=some .jump then [a.b] else [])
noncomputable def du(ms:List Mv):List Rat:=ms.flatMap du1
theorem JMt{t:Rat}:t∈du1 a↔(a.s≠a.g/\a.k=some .hold/\t=a.e)\/(a.s≠a.g/\a.k=some .jump/\t=a.b):=by
 unfold du1;rw[List.mem_append];refine or_congr ?_ ?_
 ·split
  ·rename_i h;simp[h]
  ·rename_i h;simp only[List.not_mem_nil,false_iff];exact λz=>h ⟨z.1,z.2.1⟩
 ·split
  ·rename_i h;simp[h]
  ·rename_i h;simp only[List.not_mem_nil,false_iff];exact λz=>h ⟨z.1,z.2.1⟩
theorem du_mem{t:Rat}:t∈du ms↔∃a∈ms,(a.s≠a.g/\a.k=some .hold/\t=a.e)\/(a.s≠a.g/\a.k=some .jump/\t=a.b):=by
 unfold du;rw[List.mem_flatMap];exact exists_congr λa=>and_congr_right λ_=>JMt
theorem JDP{α:Type}(l:List α):l=[]\/∃r a,l=r++[a]:=by
 rcases List.eq_nil_or_concat l with h|⟨r,a,h⟩
 ·exact .inl h
 ·exact .inr ⟨r,a,by simpa using h⟩
theorem JKJ{w:Rat}{ms:List Mv}(ho:∀a∈ms,a.Ok)(h:Sq ms)(hc:Ch w ms)(t:Rat):lpAt w ms t=true↔t∈du ms:=by
 rw[du_mem];obtain⟨Q,e,hq⟩:=JGD t ho h;have hP:∀a∈bg t ms,a.b<=t:=λa ha=>by
  have:=(List.mem_filter.mp ha).2;simp only[Bool.not_eq_true',decide_eq_false_iff_not]at this
  grind
 have hba:ba t ms=(bg t ms).filter λa=>decide (a.b<t):=by
  have e2:ba t ms=ba t (bg t ms++Q):=by rw[<-e]
  rw[e2];unfold ba;have fq:Q.filter (λm=>decide (m.b<t))=[]:=List.filter_eq_nil_iff.mpr λa ha=>by
   have:=hq a ha;simp
   grind
  rw[List.filter_append,fq,List.append_nil]
 have qno:∀a∈Q,¬((a.s≠a.g/\a.k=some .hold/\t=a.e)\/(a.s≠a.g/\a.k=some .jump/\t=a.b)):=λa ha z=>by
  have h1:=hq a ha;have h2:=(ho a (by rw[e];simp[ha])).l0
  unfold Mv.e at z;rcases z with ⟨_,_,z⟩|⟨_,_,z⟩<;>grind
 rcases JDP (bg t ms) with h0|⟨P0,m,hP0⟩
 ·have hb0:ba t ms=[]:=by rw[hba,h0];rfl
  have l1:lpAt w ms t=false:=by unfold lpAt wA wB wOf;rw[hb0,h0];simp
  rw[l1];refine⟨λz=>(by cases z),λ⟨a,ha,z⟩=>?_⟩
  rw[e,h0]at ha;exact absurd z (qno a (by simpa using ha))
 ·have hm:m∈ms:=by rw[e,hP0];simp
  have om:=ho m hm;have mb:m.b<=t:=hP m (by rw[hP0];simp)
  have wof:wOf w ms t=m.w t:=by unfold wOf;rw[hP0];simp
  have wb:wB w ms t=if m.k=some .jump then m.g else m.w t:=by unfold wB;rw[hP0];simp
  have hsq:Sq (P0++[m]++Q):=by rw[<-hP0,<-e];exact h
  have hp0:∀a∈P0,a.e<=m.b:=λa ha=>by
   rw[List.append_assoc]at hsq;exact JHz hsq a ha m (by simp)
  have memms:∀a,a∈ms↔a∈P0\/a=m\/a∈Q:=λa=>by rw[e,hP0];simp[or_assoc]
  by_cases cb:m.b<t
  ·have hb:ba t ms=bg t ms:=by
    rw[hba,hP0,List.filter_eq_self];intro a ha;rcases List.mem_append.mp ha with ha|ha
    ·have h1:=hp0 a ha;have h2:=(ho a ((memms a).mpr (.inl ha))).l0;unfold Mv.e at h1;simp
     grind
    ·simp at ha;subst ha;simp[cb]
   have wa:wA w ms t=if m.k=some .hold/\m.e=t then m.s else m.w t:=by unfold wA;rw[hb,hP0];simp
   have wb2:wB w ms t=m.w t:=by
    rw[wb]
    split
    ·rename_i hj;rw[Mv.w_jump om hj cb]
    ·rfl
   have pno:∀a∈P0,¬((a.s≠a.g/\a.k=some .hold/\t=a.e)\/(a.s≠a.g/\a.k=some .jump/\t=a.b)):=λa ha z=>by
    have h1:=hp0 a ha;have h2:=(ho a ((memms a).mpr (.inl ha))).l0;unfold Mv.e at *;rcases z with ⟨_,_,z⟩|⟨_,_,z⟩<;>grind
   have l1:lpAt w ms t=!decide ((if m.k=some .hold/\m.e=t then m.s else m.w t)=m.w t):=by
    unfold lpAt;rw[wof,wa,wb2];simp
   rw[l1]
   by_cases ck:m.k=some .hold/\m.e=t
   ·rw[if_pos ck,Mv.w_hi om (by rw[ck.2];exact Rat.le_refl)]
    constructor
    ·intro z;exact⟨m,hm,.inl ⟨by simpa using z,ck.1,ck.2.symm⟩⟩
    ·rintro⟨a,ha,z⟩;rcases(memms a).mp ha with ha|rfl|ha
     ·exact absurd z (pno a ha)
     ·rcases z with ⟨z,_⟩|⟨z,_⟩<;>simpa using z
     ·exact absurd z (qno a ha)
   ·rw[if_neg ck];refine⟨λz=>by simp at z,λ⟨a,ha,z⟩=>?_⟩
    rcases(memms a).mp ha with ha|rfl|ha
    ·exact absurd z (pno a ha)
    ·rcases z with ⟨_,z1,z2⟩|⟨_,_,z2⟩
     ·exact absurd ⟨z1,z2.symm⟩ ck
     ·grind
    ·exact absurd z (qno a ha)
  ·have et:m.b=t:=by grind
   have wm:m.w t=m.s:=Mv.w_lo om (by grind)
   have hb:ba t ms=P0:=by
    rw[hba,hP0,List.filter_append,List.filter_eq_self.mpr,q_x (by simp[cb]),List.filter_nil,List.append_nil]
    intro a ha;have h1:=hp0 a ha;have h2:=(ho a ((memms a).mpr (.inl ha))).l0;unfold Mv.e at h1;simp
    grind
   have ml:=om.l0;have mz:((m.s≠m.g/\m.k=some .hold/\t=m.e)\/(m.s≠m.g/\m.k=some .jump/\t=m.b))↔(m.s≠m.g/\m.k=some .jump):=by
    constructor
    ·rintro(⟨_,_,z⟩|⟨z1,z2,_⟩)
     ·unfold Mv.e at z;grind
     ·exact⟨z1,z2⟩
    ·intro z;exact .inr ⟨z.1,z.2,et.symm⟩
   have hB:(!decide (wB w ms t=wOf w ms t))=decide (m.s≠m.g/\m.k=some .jump):=by
    rw[wb,wof,wm]
    by_cases cj:m.k=some .jump
    ·rw[if_pos cj]
     by_cases c2:m.s=m.g
     ·simp[c2]
     ·simp[c2,cj,Ne.symm c2]
    ·rw[if_neg cj];simp[cj]
   rcases JDP P0 with h1|⟨P1,a,h1⟩
   ·subst h1;have ws:w=m.s:=by
     have:Ch w ms:=hc;rw[e,hP0]at this;exact this.1.symm
    have wa:wA w ms t=m.s:=by unfold wA;rw[hb];simp[ws]
    have l1:lpAt w ms t=decide (m.s≠m.g/\m.k=some .jump):=by
     unfold lpAt;rw[hB,wa,wof,wm];simp
    rw[l1,q_D,<-mz];constructor
    ·intro z;exact⟨m,hm,z⟩
    ·rintro⟨a,ha,z⟩;rcases(memms a).mp ha with ha|rfl|ha
     ·cases ha
     ·exact z
     ·exact absurd z (qno a ha)
   ·have ham:a∈ms:=(memms a).mpr (.inl (by rw[h1];simp))
    have oa:=ho a ham;have ae:a.e<=t:=by rw[<-et];exact hp0 a (by rw[h1];simp)
    have ag:m.s=a.g:=by
     have:Ch w ms:=hc;rw[e,hP0,h1]at this;rw[List.append_assoc,List.append_assoc]at this;exact JLE this
    have wa:wA w ms t=if a.k=some .hold/\a.e=t then a.s else a.g:=by
     unfold wA;rw[hb,h1];simp[Mv.w_hi oa ae]
    have hA:(!decide (wA w ms t=wOf w ms t))=decide (a.s≠a.g/\a.k=some .hold/\t=a.e):=by
     rw[wa,wof,wm,ag]
     by_cases ck:a.k=some .hold/\a.e=t
     ·rw[if_pos ck];simp[ck.1,ck.2]
     ·rw[if_neg ck];have:¬(a.s≠a.g/\a.k=some .hold/\t=a.e):=λz=>ck ⟨z.2.1,z.2.2.symm⟩;rw[q_o this];simp
    have l1:lpAt w ms t=(decide (a.s≠a.g/\a.k=some .hold/\t=a.e) || decide (m.s≠m.g/\m.k=some .jump)):=by
     unfold lpAt;rw[hA,hB]
    rw[l1,Bool.or_eq_true,q_D,q_D,<-mz];have p1:∀c∈P1,c.e<=a.b:=λc hcc=>by
     rw[h1,List.append_assoc,List.append_assoc]at hsq;exact JHz hsq c hcc a (by simp)
    have la:=oa.l0;constructor
    ·rintro(z|z)
     ·exact⟨a,ham,.inl z⟩
     ·exact⟨m,hm,z⟩
    ·rintro⟨c,hcm,z⟩;rcases(memms c).mp hcm with hcm|rfl|hcm
     ·rw[h1,List.mem_append,List.mem_singleton]at hcm;rcases hcm with hcm|rfl
      ·have h5:=p1 c hcm;have h6:=(ho c ((memms c).mpr (.inl (by rw[h1];simp[hcm])))).l0
       unfold Mv.e at *;rcases z with ⟨_,_,z⟩|⟨_,_,z⟩<;>grind
      ·rcases z with z|⟨_,_,z⟩
       ·exact .inl z
       ·unfold Mv.e at ae;grind
     ·exact .inr z
     ·exact absurd z (qno c hcm)
end VI.VP
end
section
namespace VI.VP
open PySem Fr
theorem JIZ:∀ {l:List Rat}{q:Rat},l.Pairwise (· < ·)->l.getLast? = some q->∀x∈l,x<=q
 | [],_,_,_,x,hx=>by cases hx
 | [a],q,_,h,x,hx=>by simp at h hx;grind
 |a::b::r,q,hp,h,x,hx=>by
  obtain⟨h1,h2⟩:=List.pairwise_cons.mp hp;rw[List.getLast?_cons_cons]at h;have ih:=JIZ h2 h;rcases q_n.mp hx with rfl|hx
  ·have:=h1 b (by simp);have:=ih b (by simp);grind
  ·exact ih x hx
theorem JE5{y:Rat}(h:l.Pairwise (· < ·))(hy:∀x∈l,x<y):(l++[y]).Pairwise (· < ·):=by
 rw[List.pairwise_append];exact⟨h,by simp,λa ha b hb=>by simp at hb;subst hb;exact hy a ha⟩
theorem JJz(om:m.Ok)(hp:acc.Pairwise (· < ·))(hl:∀x∈acc,x<=m.b):(eput acc m).Pairwise (· < ·)/\(∀x∈eput acc m,x<=m.e)/\m.b∈eput acc m/\m.e∈eput acc m/\∀x∈acc,x∈eput acc m:=by
 have hl0:=om.l0;unfold eput
 by_cases c:acc.getLast? = some m.b
 ·rw[if_pos c];refine⟨JE5 hp λx hx=>?_,λx hx=>?_,?_,by simp,λx hx=>by simp[hx]⟩
  ·have:=hl x hx;unfold Mv.e;grind
  ·rcases List.mem_append.mp hx with hx|hx
   ·have:=hl x hx;unfold Mv.e;grind
   ·simp at hx;subst hx;exact Rat.le_refl
  ·exact List.mem_append_left _ (List.mem_of_getLast? c)
 ·rw[if_neg c];have lt:∀x∈acc,x<m.b:=λx hx=>by
   cases hq:acc.getLast? with
   |none=>rw[List.getLast?_eq_none_iff]at hq;rw[hq]at hx;cases hx
   |some q =>
    have h1:=JIZ hp hq x hx;have h2:=hl q (List.mem_of_getLast? hq);have h3:q≠m.b:=λz=>c (by rw[hq,z])
    grind
  refine⟨JE5 (JE5 hp lt) λx hx=>?_,λx hx=>?_,by simp,by simp,λx hx=>by simp[hx]⟩
  ·rcases List.mem_append.mp hx with hx|hx
   ·have:=lt x hx;unfold Mv.e;grind
   ·simp at hx;subst hx;unfold Mv.e;grind
  ·rcases List.mem_append.mp hx with hx|hx
   ·rcases List.mem_append.mp hx with hx|hx
    ·have:=lt x hx;unfold Mv.e;grind
    ·simp at hx;subst hx;unfold Mv.e;grind
   ·simp at hx;subst hx;exact Rat.le_refl
theorem JGx:∀ {ms:List Mv}{acc:List Rat},(∀a∈ms,a.Ok)->Sq ms->acc.Pairwise (· < ·)->(∀a∈ms,∀x∈acc,x<=a.b)->(edg acc ms).Pairwise (· < ·)/\(∀x∈acc,x∈edg acc ms)/\∀a∈ms,a.b∈edg acc ms/\a.e∈edg acc ms
 | [],acc,_,_,hp,_=>⟨hp,λx hx=>hx,λa ha=>by cases ha⟩
 |m::r,acc,ho,hs,hp,hl=>by
  obtain⟨i1,i2,i3,i4,i5⟩:=JJz (ho m (by simp)) hp λx hx=>hl m (by simp) x hx
  obtain⟨j1,j2,j3⟩:=JGx (ms:=r) (acc:=eput acc m) (λa ha=>ho a (by simp[ha])) hs.2 i1 λa ha x hx=>by
   have h1:=i2 x hx;have h2:=hs.1 a ha
   grind
  refine⟨j1,λx hx=>j2 x (i5 x hx),λa ha=>?_⟩;rcases q_n.mp ha with rfl|ha
  ·exact⟨j2 _ i3,j2 _ i4⟩
  ·exact j3 a ha
theorem JML{w:Rat}(ho:∀a∈ms,a.Ok)(h:Sq ms)(hc:Ch w ms):(lps w ms).Pairwise (· < ·)/\∀t,t∈lps w ms↔t∈du ms:=by
 obtain⟨j1,_,j3⟩:=JGx (acc:=[]) ho h List.Pairwise.nil λa _ x hx=>by cases hx
 refine⟨j1.filter _,λt=>?_⟩;unfold lps;rw[List.mem_filter,JKJ ho h hc];refine⟨λz=>z.2,λz=>⟨?_,z⟩⟩;obtain⟨a,ha,z|z⟩:=du_mem.mp z
 ·rw[z.2.2];exact(j3 a ha).2
 ·rw[z.2.2];exact(j3 a ha).1
theorem JMx(a:Mv):(du1 a).length<=1:=by
 unfold du1
 by_cases h:a.k=some .hold
 ·have:¬(a.k=some .jump):=by rw[h];decide
  simp[this];split<;>simp
 ·simp[h];split<;>simp
theorem JHU:∀ms:List Mv,(du ms).length<=ms.length
 | []=>q_t _
 |a::r=>by
  have h1:=JMx a;have h2:=JHU r;unfold du at *;simp only[List.flatMap_cons,q_u,List.length_cons];omega
theorem JNJ{α:Type}[DecidableEq α]:∀ {l L:List α},l.Nodup->(∀z∈l,z∈L)->l.length<=L.length
 | [],_,_,_=>Nat.zero_le _
 |z::l,L,hn,hs=>by
  obtain⟨h1,h2⟩:=List.nodup_cons.mp hn;have m:=hs z (by simp)
  have:=JNJ (L:=L.erase z) h2 λy hy=>(List.mem_erase_of_ne (λe:y=z=>h1 (by rw[<-e];exact hy))).mpr (hs y (by simp[hy]))
  rw[List.length_erase_of_mem m]at this;have:0<L.length:=List.length_pos_of_mem m;simp only[List.length_cons];omega
noncomputable def kq(q:Rat):List Int:=[q.num,(q.den:Int)]
theorem JGu{p q:Rat}(h:kq p=kq q):p=q:=by
 unfold kq at h;simp only[List.cons.injEq,and_true]at h;exact Rat.ext h.1 (by exact_mod_cast h.2)
theorem JLS(q:Rat):tupI (kq q)=F q:=rfl
theorem ofI:∀qs:List Rat,keysOf (qs.map F)=some (qs.map kq)
 | []=>rfl
 |q::r=>by
  show(intsOf [.int q.num,.int (q.den:Int)]).bind _=_;simp only[intsOf,Option.map_some,Option.bind_some,ofI r];rfl
noncomputable def kA(q:Rat):List At:=[.i q.num,.i (q.den:Int)]
theorem ofA:∀qs:List Rat,JC7 (qs.map F)=some (qs.map kA)
 | []=>rfl
 |q::r=>by
  show(JE9 [.int q.num,.int (q.den:Int)]).bind _=_;simp only[JE9,atOf,Option.map_some,Option.bind_some,ofA r];rfl
theorem lexAI(a b:Rat):lexA (kA a) (kA b)=lexI (kq a) (kq b):=by
 simp only[kA,kq,lexA,lexI,ltAt,At.i.injEq]
theorem getAI(qs:List Rat)(i j:Nat):lexA ((qs.map kA).getD i []) ((qs.map kA).getD j [])=lexI ((qs.map kq).getD i []) ((qs.map kq).getD j []):=by
 have g:∀i,(∃q,(qs.map kA).getD i []=kA q/\(qs.map kq).getD i []=kq q)\/((qs.map kA).getD i []=[]/\(qs.map kq).getD i []=[]):=λi=>by
  by_cases h:i<qs.length
  ·exact .inl ⟨qs[i],by simp[List.getD_eq_getElem?_getD,h],by simp[List.getD_eq_getElem?_getD,h]⟩
  ·exact .inr ⟨by simp[List.getD_eq_getElem?_getD,h],by simp[List.getD_eq_getElem?_getD,h]⟩
 rcases g i with ⟨p,a1,a2⟩|⟨a1,a2⟩<;>rcases g j with ⟨q,b1,b2⟩|⟨b1,b2⟩<;>rw[a1,a2,b1,b2]
 ·exact lexAI p q
 ·rfl
 ·rfl
 ·rfl
theorem JGa{ks:List (List Int)}(h2:2<=ks.length)(h3:ks.length<=3):∀i∈JC9 ks,i<ks.length:=JGE h2 (by omega)
theorem srt31{qs:List Rat}(hn:qs.Nodup)(h3:qs.length<=3):xD .srt [.list (qs.map F)]=.ok (.list ((s3 (qs.map kq)).map tupI)):=by
 have nd:(qs.map kq).Nodup:=by
  unfold List.Nodup;rw[List.pairwise_map];exact hn.imp λh e=>h (JGu e)
 show srtD (qs.map F)=_;unfold srtD
 by_cases h2:(qs.map F).length<2
 ·rw[if_pos h2];rw[q_g]at h2
  match qs,h2 with
  | [],_=>rfl
  | [q],_=>rfl
  |_::_::_,h2=>simp only[List.length_cons]at h2;omega
 ·rw[if_neg h2];rw[q_g]at h2;unfold srtA;rw[ofA];have sg:JIs (qs.map kA)=true:=by
   match qs,h2 with
   | [],h2=>simp at h2
   |q::r,_ =>
    simp only[List.map_cons,JIs];simp[kA,At.kd]
  simp only[q_g];rw[if_pos ⟨by omega,by omega,sg⟩]
  have e1:JCR (qs.map kA)=JC9 (qs.map kq):=by
   unfold JCR JC9;rw[q_g,q_g]
   congr 2
   funext i j
   exact getAI qs i j
  rw[e1,<-So3.sort2 (by rw[q_g];omega) (by rw[q_g];omega) nd,List.map_map]
  congr 2
  refine List.map_congr_left λi hi=>?_;have lt:=JGa (ks:=qs.map kq) (by rw[q_g];omega) (by rw[q_g];omega) i hi
  rw[q_g]at lt;simp[List.getD_eq_getElem?_getD,lt,JLS]
theorem ssk31{qs:List Rat}(h3:qs.length<=3):xD .ssk [.list (qs.map F)]=.ok (.list ((s3 (dedK (qs.map kq))).map tupI)):=by
 show(match keysOf (qs.map F) with
  |some ks=>if ks.length<=3/\ks.all (λk=>!k.isEmpty)=true then VI.R.ok (PyData.list ((s3 (dedK ks)).map tupI)) else .bad
  |none=>.bad)=_
 rw[ofI];simp only[q_g];rw[if_pos ⟨h3,by simp[kq]⟩]
theorem JOr{ls ds:List Rat}(hn:ls.Nodup)(h3:ds.length<=3)(hm:∀t,t∈ls↔t∈ds):s3 (dedK (ds.map kq))=s3 (ls.map kq):=by
 have nd:(ls.map kq).Nodup:=by
  unfold List.Nodup;rw[List.pairwise_map];exact hn.imp λh e=>h (JGu e)
 have hl:ls.length<=3:=Nat.le_trans (JNJ hn λz hz=>(hm z).mp hz) h3;refine So3.s3_perm nd (by rw[q_g];exact hl) ((List.perm_ext_iff_of_nodup (So3.ded_nd _) nd).mpr λk=>?_)
 rw[So3.ded_mem,List.mem_map,List.mem_map];exact exists_congr λt=>and_congr_left λ_=>(hm t).symm
end VI.VP
end
section
namespace VI.VP
open PySem Fr
theorem JBf{x y A B:Rat}(hx:-A<=x/\x<=A)(hy:-B<=y/\y<=B):-(A*B)<=x*y/\x*y<=A*B:=by
 have h1:0<=(A - x)*(B+y):=Rat.mul_nonneg (by grind) (by grind)
 have h2:0<=(A+x)*(B - y):=Rat.mul_nonneg (by grind) (by grind)
 have h3:0<=(A - x)*(B - y):=Rat.mul_nonneg (by grind) (by grind)
 have h4:0<=(A+x)*(B+y):=Rat.mul_nonneg (by grind) (by grind)
 constructor<;>grind
theorem JPy{x y A B:Rat}(hx:-A<=x/\x<=A)(hy:-B<=y/\y<=B):-(A+B)<=x+y/\x+y<=A+B:=by constructor<;>grind
theorem JFi{B:Nat}{q:Rat}(h:Tw B q):∃z:Int,z.natAbs<=B/\q*12=(z:Rat):=by
 obtain⟨z,hz,rfl⟩:=h;refine⟨z,hz,?_⟩;rw[Rat.divInt_eq_div];have:((12:Int):Rat)=12:=rfl;rw[this]
 grind
theorem JOR{B:Nat}{q:Rat}(h:Nw B q):∃z:Int,q*96=(z:Rat):=by
 obtain⟨z,_,rfl⟩:=h;refine⟨z,?_⟩;rw[Rat.divInt_eq_div];have:((96:Int):Rat)=96:=rfl;rw[this]
 grind
theorem JOp{z:Int}{B:Nat}(h:z.natAbs<=B):-((B:Int):Rat)<=(z:Rat)/\(z:Rat)<=((B:Int):Rat):=by
 have h1:-(B:Int)<=z:=by omega
 have h2:z<=(B:Int):=by omega
 refine⟨?_,Rat.intCast_le_intCast.mpr h2⟩;have:=Rat.intCast_le_intCast.mpr h1
 rwa [Rat.intCast_neg]at this
theorem Small.bd{q:Rat}(h:Small q):-6<=q/\q<=6:=by
 obtain⟨z,hz,e⟩:=JFi h.tw;obtain⟨h1,h2⟩:=JOp hz;have:(((72:Nat):Int):Rat)=72:=rfl;rw[this]at h1 h2;constructor<;>grind
theorem Small.pos{q:Rat}(h:Small q)(h0:0<q):1 / 12<=q:=by
 obtain⟨z,hz,e⟩:=JFi h.tw;have h1:0<(z:Rat):=by grind
 have h2:0<z:=by
  have:((0:Int):Rat)<(z:Rat):=h1;exact Rat.intCast_lt_intCast.mp this
 have h3:((1:Int):Rat)<=(z:Rat):=Rat.intCast_le_intCast.mpr (by omega)
 have:((1:Int):Rat)=1:=rfl;rw[this]at h3
 grind
theorem apart{p q:Rat}{y z:Int}(hp:p*96=(y:Rat))(hq:q*96=(z:Rat))(h:p<q):p+1 / 96<=q:=by
 have h1:(y:Rat)<(z:Rat):=by grind
 have h2:y<z:=Rat.intCast_lt_intCast.mp h1;have h3:((y+1:Int):Rat)<=(z:Rat):=Rat.intCast_le_intCast.mpr (by omega)
 rw[Rat.intCast_add]at h3;have:((1:Int):Rat)=1:=rfl;rw[this]at h3
 grind
noncomputable def ep:Rat:=1 / 1000000
theorem ep0:0<ep:=by unfold ep;decide +kernel
theorem ep1:ep<1 / 96:=by unfold ep;decide +kernel
theorem ep2:1000*ep=1 / 1000:=by unfold ep;decide +kernel
theorem lip(h:a.Ok)(hd:Dr a)(h1:a.k≠some .hold)(h2:a.k≠some .jump){t1 t2:Rat}(b1:a.b<=t1)(b2:t1<=t2)(b3:t2<=a.e)(b4:t2 - t1<=ep):-(1 / 1000)<=a.w t2 - a.w t1/\a.w t2 - a.w t1<=1 / 1000:=by
 have l0:=h.l0;have l1:=hd.l.pos l0;have hs:=hd.s.bd;have hg:=hd.g.bd;have hu:=hd.u.bd;have hv:=hd.v.bd;have hep0:=ep0;have hep2:=ep2;rw[<-hep2];unfold Mv.e at b3;obtain⟨p1,hp1⟩:∃p1,p1=(t1 - a.b) / a.l:=⟨_,rfl⟩;obtain⟨p2,hp2⟩:∃p2,p2=(t2 - a.b) / a.l:=⟨_,rfl⟩;have e1:p1*a.l=t1 - a.b:=by rw[hp1];exact Rat.div_mul_cancel (by grind)
 have e2:p2*a.l=t2 - a.b:=by rw[hp2];exact Rat.div_mul_cancel (by grind)
 have c1:0<=p1:=Rat.not_lt.mp λz=>by rw[hp1,Rat.div_lt_iff l0]at z;grind
 have c2:p2<=1:=Rat.not_lt.mp λz=>by rw[hp2,Rat.lt_div_iff l0]at z;grind
 have c3:p1<=p2:=Rat.not_lt.mp λz=>by
  have:=Rat.mul_lt_mul_of_pos_right z l0
  grind
 have dl:(p2 - p1)*a.l=t2 - t1:=by grind
 have d0:0<=(p2 - p1)*(a.l - 1 / 12):=Rat.mul_nonneg (by grind) (by grind)
 have dd:-(12*ep)<=p2 - p1/\p2 - p1<=12*ep:=by constructor<;>grind
 have gs:-12<=a.g - a.s/\a.g - a.s<=12:=by constructor<;>grind
 have b1':-1<=p1/\p1<=1:=by constructor<;>grind
 have b2':-1<=p2/\p2<=1:=by constructor<;>grind
 have x1:=JBf b1' b1';have x2:=JBf b2' b2';have x3:=JBf b1' b2';have y1:=Rat.mul_nonneg c1 c1;have y2:=Rat.mul_nonneg (show 0<=p2 by grind) (show 0<=p2 by grind)
 have y3:=Rat.mul_nonneg c1 (show 0<=p2 by grind)
 have gd:=JBf gs dd;have cb:-6<=3*(p1+p2) - 2*(p1*p1+p1*p2+p2*p2)/\3*(p1+p2) - 2*(p1*p1+p1*p2+p2*p2)<=6:=by constructor<;>grind
 have m6:=JBf gd cb;have cl1:JAR p1=p1:=JBy c1 (by grind)
 have cl2:JAR p2=p2:=JBy (by grind) c2
 unfold Mv.w wo;cases hk:a.k with
 |none =>
  simp only;rw[<-hp1,<-hp2,cl1,cl2];unfold kw;rw[cl1,cl2];simp only[ez];have hh:-ep<=(p2 - p1)*a.l/\(p2 - p1)*a.l<=ep:=by rw[dl];constructor<;>grind
  have mu:=JBf hu (y:=p1*p1+p1*p2+p2*p2 - 2*(p1+p2)+1) (B:=4) ⟨by grind,by grind⟩
  have mv:=JBf hv (y:=p1*p1+p1*p2+p2*p2 - (p1+p2)) (B:=3) ⟨by grind,by grind⟩
  have mh:=JBf hh (JPy mu mv);constructor<;>grind
 |some k =>
  simp only;rw[<-hp1,<-hp2,cl1,cl2];cases k with
  |even=>simp only[ez];constructor<;>grind
  |inn =>
   have m2:=JBf gd (y:=p1+p2) (B:=2) ⟨by grind,by grind⟩
   simp only[ez];constructor<;>grind
  |out =>
   have m2:=JBf gd (y:=2 - (p1+p2)) (B:=2) ⟨by grind,by grind⟩
   simp only[ez];constructor<;>grind
  |both=>simp only[ez];constructor<;>grind
  |hold=>exact absurd hk h1
  |jump=>exact absurd hk h2
structure Far(t:Rat)(ms:List Mv):Prop where
 b1:∀a∈ms,a.b<t->a.b+1 / 96<=t
 b2:∀a∈ms,t<a.b->t+1 / 96<=a.b
 e1:∀a∈ms,a.e<t->a.e+1 / 96<=t
 e2:∀a∈ms,t<a.e->t+1 / 96<=a.e
theorem JPH{B:Nat}{t:Rat}(ht:Nw B t)(hd:∀a∈ms,Dr a):Far t ms:=by
 obtain⟨z,hz⟩:=JOR ht;have key:∀a∈ms,∃y x:Int,a.b*96=(y:Rat)/\a.e*96=(x:Rat):=λa ha=>by
  obtain⟨y,_,hy⟩:=JFi (hd a ha).b;obtain⟨x,_,hx⟩:=JFi (hd a ha).l.tw;refine⟨y*8,(y+x)*8,?_,?_⟩
  ·rw[Rat.intCast_mul,<-hy];have:((8:Int):Rat)=8:=rfl;rw[this];grind
  ·rw[Rat.intCast_mul,Rat.intCast_add,<-hy,<-hx];have:((8:Int):Rat)=8:=rfl;unfold Mv.e;rw[this];grind
 refine⟨λa ha h=>?_,λa ha h=>?_,λa ha h=>?_,λa ha h=>?_⟩<;>obtain⟨y,x,h1,h2⟩:=key a ha
 ·exact apart h1 hz h
 ·exact apart hz h1 h
 ·exact apart h2 hz h
 ·exact apart hz h2 h
theorem z_bd:-(1 / 1000:Rat)<=0/\(0:Rat)<=1 / 1000:=by constructor<;>grind
theorem JI3{w t:Rat}(ho:∀a∈ms,a.Ok)(hd:∀a∈ms,Dr a)(hf:Far t ms):-(1 / 1000)<=wOf w ms (t - ep) - wA w ms t/\wOf w ms (t - ep) - wA w ms t<=1 / 1000:=by
 have hep0:=ep0;have hep1:=ep1;have eq:bg (t - ep) ms=ba t ms:=by
  unfold bg ba;refine List.filter_congr λa ha=>?_
  by_cases c:a.b<t
  ·have:=hf.b1 a ha c;rw[decide_eq_true c,q_o (by grind)];rfl
  ·rw[q_o c,decide_eq_true (by grind)];rfl
 unfold wOf wA;rw[eq];cases hm:(ba t ms).getLast? with
 |none=>simp only;rw[show w - w=0 by grind];exact z_bd
 |some m =>
  simp only;obtain⟨mm,mb⟩:=List.mem_filter.mp (List.mem_of_getLast? hm);have mb:=of_decide_eq_true mb;have om:=ho m mm;have f1:=hf.b1 m mm mb
  by_cases ce:m.e<t
  ·have f2:=hf.e1 m mm ce;rw[if_neg (by grind),Mv.w_hi om (by grind),Mv.w_hi om (by grind),show m.g - m.g=0 by grind]
   exact z_bd
  ·by_cases ch:m.k=some .hold
   ·rw[Mv.w_hold om ch (t:=t - ep) (by grind)]
    by_cases c2:m.e=t
    ·rw[if_pos ⟨ch,c2⟩,show m.s - m.s=0 by grind];exact z_bd
    ·rw[if_neg (λz=>c2 z.2),Mv.w_hold om ch (by grind),show m.s - m.s=0 by grind];exact z_bd
   ·rw[if_neg (λz=>ch z.1)]
    by_cases cj:m.k=some .jump
    ·rw[Mv.w_jump om cj (by grind),Mv.w_jump om cj mb,show m.g - m.g=0 by grind];exact z_bd
    ·have:=lip om (hd m mm) ch cj (t1:=t - ep) (t2:=t) (by grind) (by grind) (by grind) (by grind)
     constructor<;>grind
theorem JIf{w t:Rat}(ho:∀a∈ms,a.Ok)(hd:∀a∈ms,Dr a)(hf:Far t ms):-(1 / 1000)<=wOf w ms (t+ep) - wB w ms t/\wOf w ms (t+ep) - wB w ms t<=1 / 1000:=by
 have hep0:=ep0;have hep1:=ep1;have eq:bg (t+ep) ms=bg t ms:=by
  unfold bg;refine List.filter_congr λa ha=>?_
  by_cases c:t<a.b
  ·have:=hf.b2 a ha c;rw[decide_eq_true c,decide_eq_true (by grind)]
  ·rw[q_o c,q_o (by grind)]
 unfold wOf wB;rw[eq];cases hm:(bg t ms).getLast? with
 |none=>simp only;rw[show w - w=0 by grind];exact z_bd
 |some m =>
  simp only;obtain⟨mm,mb⟩:=List.mem_filter.mp (List.mem_of_getLast? hm);have mb:m.b<=t:=by
   simp only[Bool.not_eq_true',decide_eq_false_iff_not]at mb
   grind
  have om:=ho m mm
  by_cases cj:m.k=some .jump
  ·rw[if_pos cj,Mv.w_jump om cj (by grind),show m.g - m.g=0 by grind];exact z_bd
  ·rw[if_neg cj]
   by_cases ce:t<m.e
   ·have f2:=hf.e2 m mm ce
    by_cases ch:m.k=some .hold
    ·rw[Mv.w_hold om ch (by grind),Mv.w_hold om ch ce,show m.s - m.s=0 by grind];exact z_bd
    ·exact lip om (hd m mm) ch cj mb (by grind) (by grind) (by grind)
   ·rw[Mv.w_hi om (by grind),Mv.w_hi om (by grind),show m.g - m.g=0 by grind];exact z_bd
end VI.VP
end
section
namespace VI.VP
open PySem Fr
structure Rd(w:Rat)(ms:List Mv)(ps:List Pc):Prop where
 sw:Small w
 dr:∀a∈ms,Dr a
 ok:∀a∈ms,a.Ok
 ml:ms.length<=3
 nv:nov ms=true
 ch:Ch w ms
 l3:∀p∈ps,∀a∈p.ms,a.l.den<=3
 ps:ps=[]\/∃t g l k,ps=[brk w ms [] t g l k]/\Nw 9100 t/\Small g/\Small l/\0<l
theorem Dr.nb{a:Mv}(h:Dr a):Nw 8184 a.b:=h.b.nw
theorem JQS{A B:Nat}{t b l:Rat}(ht:Nw A t)(hb:Nw B b)(hl:Small l)(l0:0<l)(h:A+B<2 ^ 16):Sz 21 ((t - b) / l) :=
 Sz.div ((ht.sub hb).sz (k:=16) h (by omega)) hl.sz (by grind) (by omega)
theorem Dr.w_sz{t:Rat}{A:Nat}(h:Dr a)(l0:0<a.l)(ht:Nw A t)(hA:A<2 ^ 15):Sz 97 (a.w t) :=
 (Mv.w_sz h.s.sz h.g.sz (JQS ht h.nb h.l l0 (by omega)) (by omega) h.l.sz h.u.sz h.v.sz).mono (by omega)
theorem Rd.w0{w t:Rat}{ms:List Mv}{ps:List Pc}{A:Nat}(h:Rd w ms ps)(ht:Nw A t)(hA:A<2 ^ 15):Sz 97 (wOn w ms [] t) :=
 JHt (P:=Sz 97) (h.sw.sz.mono (by omega)) λa ha=>(h.dr a ha).w_sz (h.ok a ha).l0 ht hA
theorem JQC{A B:Nat}{s g t l:Rat}(hs:Sz A s)(hA:A<=1170)(hg:Small g)(ht:Nw B t)(hB:B<2 ^ 15)(hl:Small l)(l0:0<l):Ti 15 5 [⟨s,g,t,l,some k,0,0⟩]:=by
 have zt:Sz 15 t:=ht.sz (by omega) (by omega)
 refine⟨λa ha=>?_,λa ha=>?_,λa ha=>?_⟩<;>(simp only[List.mem_singleton]at ha;subst ha)
 ·exact⟨l0,λ_=>⟨rfl,rfl⟩,zt.mono (by omega),hl.sz.mono (by omega),⟨A,5,hs,hg.sz,by omega⟩,⟨1,1,(sz01 (by omega)).1,(sz01 (by omega)).1,by omega⟩⟩
 ·exact zt
 ·exact hl.sz
theorem Rd.ti{w:Rat}{ms:List Mv}{ps:List Pc}(h:Rd w ms ps):Ti 15 5 ms:=⟨h.ok,λa ha=>(h.dr a ha).nb.sz (by omega) (by omega),λa ha=>(h.dr a ha).l.sz⟩
theorem Rd.rn{w:Rat}{ms:List Mv}{ps:List Pc}(h:Rd w ms ps):RnOk 15 5 ms ps:=by
 refine⟨h.ti,by have:=h.ml;omega,λp hp=>?_⟩
 rcases h.ps with e|⟨t,g,l,k,e,ht,hg,hl,l0⟩
 ·subst e;cases hp
 ·subst e;simp only[List.mem_singleton]at hp;subst hp;exact⟨JQC (h.w0 ht (by omega)) (by omega) hg ht (by omega) hl l0,by simp[brk],(ht.sz (k:=15) (by omega) (by omega)).mono (by omega)⟩
theorem Rd.len{w:Rat}{ms:List Mv}{ps:List Pc}(h:Rd w ms ps):ps.length<=1:=by
 rcases h.ps with e|⟨t,g,l,k,e,_⟩<;>(subst e;simp)
theorem Rd.lt{w:Rat}{ms:List Mv}{ps:List Pc}(h:Rd w ms ps):(∀a∈ms,Nw 9100 a.b/\Small a.l)/\∀p∈ps,∀a∈p.ms,Nw 9100 a.b/\Small a.l:=by
 refine⟨λa ha=>⟨(h.dr a ha).nb.mono (by omega),(h.dr a ha).l⟩,λp hp a ha=>?_⟩
 rcases h.ps with e|⟨t,g,l,k,e,ht,hg,hl,l0⟩
 ·subst e;cases hp
 ·subst e;simp only[List.mem_singleton]at hp;subst hp;simp only[brk,List.mem_singleton]at ha;subst ha;exact⟨ht,hl⟩
section
variable{x:Bool}{sub:Nat->Nat->Bool}{m n:Nat}{w t:Rat}{ms:List Mv}{ps:List Pc}
end
end VI.VP
end
section
namespace VI.VP
open PySem Fr
noncomputable def bL1:S:=match JBT with
 |.cons _ (.cons _ (.cons (.forT _ _ b) _))=>b
 |_=>.nil
noncomputable def bL2:S:=match JBT with
 |.cons _ (.cons _ (.cons _ (.cons _ (.cons _ (.cons _ (.cons _ (.cons (.for1 _ _ b) _)))))))=>b
 |_=>.nil
noncomputable def bL3:S:=match bL2 with
 |.cons _ (.cons _ (.cons _ (.cons _ (.cons _ (.cons _ (.cons (.forT _ _ b) _))))))=>b
 |_=>.nil
theorem JOy(a b:List Mv):du (a++b)=du a++du b:=by unfold du;rw[List.flatMap_append]
theorem Fep:F ep=.tuple [.int 1,.int 1000000]:=by
 have h1:ep.num=1:=by decide +kernel
 have h2:ep.den=1000000:=by decide +kernel
 unfold F;rw[h1,h2];rfl
theorem Fm:F (1 / 1000)=.tuple [.int 1,.int 1000]:=by
 have h1:(1 / 1000:Rat).num=1:=by decide +kernel
 have h2:(1 / 1000:Rat).den=1000:=by decide +kernel
 unfold F;rw[h1,h2];rfl
noncomputable def JGb(q:Rat):Rat:=if q<0 then -q else q
theorem rab_F(q:Rat):F (JGb q)=.tuple [.int (if q.num<0 then -q.num else q.num),.int (q.den:Int)]:=by
 unfold JGb;have h:q<0↔q.num<0:=by rw[<-Rat.not_le,<-Int.not_le,Rat.num_nonneg]
 by_cases c:q<0
 ·rw[if_pos c,if_pos (h.mp c)];unfold F;rw[Rat.neg_num,Rat.neg_den]
 ·rw[if_neg c,if_neg λz=>c (h.mpr z)];rfl
theorem JLr{k:Nat}{q:Rat}(h:Sz k q):Sz k (JGb q):=by
 unfold JGb
 split
 ·exact⟨by rw[Rat.neg_num,Int.natAbs_neg];exact h.1,by rw[Rat.neg_den];exact h.2⟩
 ·exact h
theorem JMP(t:Rat)(qs:List Rat):cmpD .NotIn (F t) (.list (qs.map F))=.ok (.bool (!decide (t∈qs))):=by
 have hc:JBt (qs.map F) (F t)=true:=by
  unfold JBt;rw[JHw,JL9,JDx];rfl
 have ha:(qs.map F).any (λz=>PyData.eqv z (F t))=decide (t∈qs):=by
  rw[List.any_map]
  by_cases h:t∈qs
  ·rw[decide_eq_true h,List.any_eq_true];exact⟨t,h,by simp[JG2]⟩
  ·rw[q_o h,List.any_eq_false];intro q hq;simp only[Function.comp,JG2,q_D];exact λe=>h (e▸hq)
 simp only[cmpD,hc,if_true,ha]
theorem JPY{P:Rat->Prop}{w t:Rat}{ms:List Mv}(hw:P w)(hm:∀a∈ms,P (a.w t)/\P a.s):P (wA w ms t):=by
 unfold wA;cases h:(ba t ms).getLast? with
 |none=>exact hw
 |some m =>
  have:=(List.mem_filter.mp (List.mem_of_getLast? h)).1;simp only
  split
  ·exact(hm m this).2
  ·exact(hm m this).1
theorem JNf{P:Rat->Prop}{w t:Rat}{ms:List Mv}(hw:P w)(hm:∀a∈ms,P (a.w t)/\P a.g):P (wB w ms t):=by
 unfold wB;cases h:(bg t ms).getLast? with
 |none=>exact hw
 |some m =>
  have:=(List.mem_filter.mp (List.mem_of_getLast? h)).1;simp only
  split
  ·exact(hm m this).2
  ·exact(hm m this).1
section
variable{x:Bool}{sub:Nat->Nat->Bool}{n:Nat}{C:Cn}{w:Rat}{ms:List Mv}{ns:List Int}
theorem loop1(fn:C.fn=run x tabA gloA sub (n+11))(T:Ti 10 5 ms)(hl:ms.length<=3):∃y3 y4 y5 y6 y7 y8,(Vs y3/\Vs y4/\Vs y5/\Vs y6/\Vs y7/\Vs y8) /\
  JGk C [3,4,5,6,7,8] bL1 (ms.map Mv.d) [.val (sc ns),.val (tr w ms),.own (.list []),.no,.no,.no,.no,.no,.no,.no,.no,.no,.no,.no,.no,.no,.no,.no,.no,.no] =
    .nx [.val (sc ns),.val (tr w ms),.own (.list ((du ms).map F)),y3,y4,y5,y6,y7,y8,.no,.no,.no,.no,.no,.no,.no,.no,.no,.no,.no]:=by
 obtain⟨δ',lp,pre,r,y3,y4,y5,y6,y7,y8,er,em,v3,v4,v5,v6,v7,v8,eδ⟩:=JDt (C:=C) (is:=[3,4,5,6,7,8]) (b:=bL1)
  (Inv:=λes δ=>∃(pre r:List Mv) (y3 y4 y5 y6 y7 y8:Sl),es=r.map Mv.d/\ms=pre++r/\Vs y3/\Vs y4/\Vs y5/\Vs y6/\Vs y7/\Vs y8/\δ=[.val (sc ns),.val (tr w ms),.own (.list ((du pre).map F)),y3,y4,y5,y6,y7,y8,.no,.no,.no,.no,.no,.no,.no,.no,.no,.no,.no])
  (λd es δ ⟨pre,r,y3,y4,y5,y6,y7,y8,er,em,v3,v4,v5,v6,v7,v8,e⟩=>by
    subst e;cases r with
    |nil=>cases er
    |cons a r =>
     simp only[List.map_cons,List.cons.injEq]at er;obtain⟨rfl,rfl⟩:=er;have am:a∈ms:=by rw[em];simp
     refine⟨[F a.s,F a.g,F a.b,F a.l,.str (kst a.k),.tuple [F a.u,F a.v]],[.val (sc ns),.val (tr w ms),.own (.list ((du (pre++[a])).map F)),.val (F a.s),.val (F a.g),.val (F a.b),.val (F a.l),.val (.str (kst a.k)),.val (.tuple [F a.u,F a.v]),.no,.no,.no,.no,.no,.no,.no,.no,.no,.no,.no],rfl,rfl,.inl ?_,pre++[a],r,.val (F a.s),.val (F a.g),.val (F a.b),.val (F a.l),.val (.str (kst a.k)),.val (.tuple [F a.u,F a.v]),rfl,by rw[em];simp,rfl,rfl,rfl,rfl,rfl,rfl,rfl⟩
     have z1:Z 10 a.b:=⟨T.b a am⟩;have z2:Z 5 a.l:=⟨T.l a am⟩;have pl:(du pre).length<3:=by
      have:=JHU pre;rw[em,q_u,List.length_cons]at hl;omega
     have hp:C.fn 17 [F a.b,F a.l]=.ok (F (a.b+a.l)):=by rw[fn];exact JHZ (by omega) (by omega) (by omega)
     have ne:=F_ne a.s a.g;have ch:=JKn a.k;have cj:=JKw a.k;have ap:∀(q:Rat) (δ:Env) (e:E),JBA 2 ((du pre).map F) e (F q) δ=.nx (δ.set 2 (.own (.list ((du pre).map F++[F q])))):=λq δ e=>by
      simp only[JBA,q_g];rw[if_pos (by omega)]
      simp[noF]
     rw[JOy,List.map_append,show du [a]=du1 a by simp[du]]
     generalize (du pre).map F=ds at *
     by_cases c1:a.s=a.g
     ·have e0:du1 a=[]:=by unfold du1;simp[c1]
      have ne:cmpD .NotEq (F a.s) (F a.g)=.ok (.bool false):=by rw[ne,decide_eq_true c1];rfl
      rw[e0,List.map_nil,List.append_nil]
      dsimp?! [bL1,JBT,JAl,ne,JAa,JAj,JAb]
     ·have ne:cmpD .NotEq (F a.s) (F a.g)=.ok (.bool true):=by rw[ne,q_o c1];rfl
      by_cases c2:a.k=some .hold
      ·have c3:a.k≠some .jump:=by rw[c2];decide
       have e0:du1 a=[a.b+a.l]:=by unfold du1;simp[c1,c2,Mv.e]
       have ch:cmpD .Eq (.str (kst a.k)) (.str "hold")=.ok (.bool true):=by rw[ch,decide_eq_true c2]
       have cj:cmpD .Eq (.str (kst a.k)) (.str "jump")=.ok (.bool false):=by rw[cj,q_o c3]
       rw[e0,List.map_cons,List.map_nil];generalize kst a.k=kk at *
       dsimp?! [bL1,JBT,JAl,ne,ch,cj,hp,ap,JAa,JAj,JAb,noF]
      ·have ch:cmpD .Eq (.str (kst a.k)) (.str "hold")=.ok (.bool false):=by rw[ch,q_o c2]
       by_cases c3:a.k=some .jump
       ·have e0:du1 a=[a.b]:=by unfold du1;simp[c1,c3]
        have cj:cmpD .Eq (.str (kst a.k)) (.str "jump")=.ok (.bool true):=by rw[cj,decide_eq_true c3]
        rw[e0,List.map_cons,List.map_nil];generalize kst a.k=kk at *
        dsimp?! [bL1,JBT,JAl,ne,ch,cj,ap,JAa,JAj,JAb,noF]
       ·have e0:du1 a=[]:=by unfold du1;simp[c2,c3]
        have cj:cmpD .Eq (.str (kst a.k)) (.str "jump")=.ok (.bool false):=by rw[cj,q_o c3]
        rw[e0,List.map_nil,List.append_nil];generalize kst a.k=kk at *
        dsimp?! [bL1,JBT,JAl,ne,ch,cj,JAa,JAj,JAb])
  (ds:=ms.map Mv.d) (δ:=[.val (sc ns),.val (tr w ms),.own (.list []),.no,.no,.no,.no,.no,.no,.no,.no,.no,.no,.no,.no,.no,.no,.no,.no,.no])
  ⟨[],ms,.no,.no,.no,.no,.no,.no,rfl,rfl,rfl,rfl,rfl,rfl,rfl,rfl,rfl⟩
 subst eδ;cases r with
 |cons q r=>cases er
 |nil =>
  rw[List.append_nil]at em;rw[<-em]at lp;exact⟨y3,y4,y5,y6,y7,y8,⟨v3,v4,v5,v6,v7,v8⟩,lp⟩
end
end VI.VP
end
section
namespace VI.VP
open PySem Fr
def GdS(w:Rat)(ms:List Mv)(A t:Rat):Prop:=Sz 300 A/\Sz 36 t/\Sz 300 (wOf w ms t)/\-(1 / 1000)<=wOf w ms t - A/\wOf w ms t - A<=1 / 1000
section
variable{x:Bool}{sub:Nat->Nat->Bool}{n:Nat}{C:Cn}{w:Rat}{ms:List Mv}{ns:List Int}
theorem loop3(fn:C.fn=run x tabA gloA sub (n+11))(T:Ti 10 5 ms)(hd:∀d∈ds,∃A t,d=.tuple [F A,F t]/\GdS w ms A t)(v17:Vs y17)(v18:Vs y18)(v19:Vs y19) :
  ∃z17 z18 z19,(Vs z17/\Vs z18/\Vs z19)/\JGk C [17,18] bL3 ds [.val (sc ns),.val (tr w ms),y2,y3,y4,y5,y6,y7,y8,y9,y10,y11,y12,y13,y14,y15,y16,y17,y18,y19]=.nx [.val (sc ns),.val (tr w ms),y2,y3,y4,y5,y6,y7,y8,y9,y10,y11,y12,y13,y14,y15,y16,z17,z18,z19]:=by
 obtain⟨δ',lp,z17,z18,z19,_,v17,v18,v19,eδ⟩:=JDt (C:=C) (is:=[17,18]) (b:=bL3)
  (Inv:=λes δ=>∃(y17 y18 y19:Sl),(∀d∈es,∃A t,d=.tuple [F A,F t]/\GdS w ms A t)/\Vs y17/\Vs y18/\Vs y19/\δ=[.val (sc ns),.val (tr w ms),y2,y3,y4,y5,y6,y7,y8,y9,y10,y11,y12,y13,y14,y15,y16,y17,y18,y19])
  (λd es δ ⟨y17,y18,y19,hd,v17,v18,v19,e⟩=>by
    subst e;obtain⟨A,t,rfl,zA,zt,zw,b1,b2⟩:=hd d (by simp)
    have i1:Z 300 A:=⟨zA⟩;have i2:Z 36 t:=⟨zt⟩;have i3:Z 300 (wOf w ms t):=⟨zw⟩;obtain⟨q,hq⟩:∃q,q=wOf w ms t - A:=⟨_,rfl⟩;have zq:Sz 601 q:=by rw[hq];exact zw.sub zA (by omega)
    have i4:Z 601 (JGb q):=⟨JLr zq⟩;refine⟨[F A,F t],[.val (sc ns),.val (tr w ms),y2,y3,y4,y5,y6,y7,y8,y9,y10,y11,y12,y13,y14,y15,y16,.val (F A),.val (F t),.val (F q)],rfl,rfl,.inl ?_,_,_,_,λd h=>hd d (by simp[h]),(rfl:Vs (.val (F A))),(rfl:Vs (.val (F t))),(rfl:Vs (.val (F q))),rfl⟩
    have f1:C.fn 90 [tr w ms,F t]=.ok (F (wOf w ms t)):=by rw[fn];exact l_on T (by omega) (by omega) (by omega) (by omega)
    have f2:C.fn 18 [F (wOf w ms t),F A]=.ok (F q):=by rw[fn,hq];exact JE1 (by omega) (by omega) (by omega)
    have f3:C.fn 21 [.tuple [.int 1,.int 1000],.tuple [.int (if q.num<0 then -q.num else q.num),.int (q.den:Int)]]=.ok (.bool false):=by
     have z3:Z 20 (1 / 1000:Rat):=⟨⟨by decide +kernel,by decide +kernel⟩⟩
     rw[<-Fm,<-rab_F,fn,JH7 (by omega) (by omega) (by omega),q_o]
     unfold JGb
     split<;>grind
    have g0:idxD (F q) (.int 0)=.ok (.int q.num):=rfl;have g1:idxD (F q) (.int 1)=.ok (.int (q.den:Int)):=rfl;have g2:bltD .abs [.int q.num]=.ok (.int (if q.num<0 then -q.num else q.num)):=rfl;have nq:JAS (F q)=true:=rfl;clear b1 b2 hq zq;generalize (if q.num<0 then -q.num else q.num)=an at *;generalize wOf w ms t=W at *;generalize tr w ms=TR at *;generalize F q=fq at *;generalize F A=fA at *;generalize F t=ft at *;generalize F W=fW at *
    dsimp?! [bL3,bL2,JBT,JAl,f1,f2,f3,g0,g1,g2,nq,JAa,JAj,JAb,v17.own,v18.own,v19.own,Bool.not_true,Bool.and_false])
  (ds:=ds) (δ:=[.val (sc ns),.val (tr w ms),y2,y3,y4,y5,y6,y7,y8,y9,y10,y11,y12,y13,y14,y15,y16,y17,y18,y19])
  ⟨y17,y18,y19,hd,v17,v18,v19,rfl⟩
 subst eδ;exact⟨z17,z18,z19,⟨v17,v18,v19⟩,lp⟩
theorem JOG{A t w:Rat}(T:Ti 10 5 ms)(hd:∀a∈ms,Dr a)(sw:Small w)(zA:Sz 300 A)(zt:Sz 36 t)(h:-(1 / 1000)<=wOf w ms t - A/\wOf w ms t - A<=1 / 1000):GdS w ms A t:=by
 refine⟨zA,zt,JHt (P:=Sz 300) (sw.sz.mono (by omega)) λa ha=>?_,h.1,h.2⟩
 have z1:Z 36 t:=⟨zt⟩;have z2:Z 10 a.b:=⟨T.b a ha⟩;have z3:Z 5 a.l:=⟨T.l a ha⟩;have zp:Z (36+10+1+5+1) ((t - a.b) / a.l):=inferInstance;exact(Mv.w_sz (hd a ha).s.sz (hd a ha).g.sz zp.h (by omega) (T.l a ha) (hd a ha).u.sz (hd a ha).v.sz).mono (by omega)
theorem turn2{k:Int}(fn:C.fn=run x tabA gloA sub (n+11))(T:Ti 10 5 ms)(ho:∀a∈ms,a.Ok)(hd:∀a∈ms,Dr a)(hs:Sq ms)(hc:Ch w ms)(sw:Small w)(hl:ms.length<=3)(hk:0<=k/\k<4)
  (v:Vs y13/\Vs y14/\Vs y15/\Vs y16/\Vs y17/\Vs y18/\Vs y19) :
  ∃z13 z14 z15 z16 z17 z18 z19,(Vs z13/\Vs z14/\Vs z15/\Vs z16/\Vs z17/\Vs z18/\Vs z19) /\
    exec C bL2 [.val (sc ns),.val (tr w ms),.own (.list ((du ms).map F)),y3,y4,y5,y6,y7,y8,y9,y10,.val (.tuple [.int 1,.int 1000000]),.val (.int k),y13,y14,y15,y16,y17,y18,y19] =
     .nx [.val (sc ns),.val (tr w ms),.own (.list ((du ms).map F)),y3,y4,y5,y6,y7,y8,y9,y10,.val (.tuple [.int 1,.int 1000000]),.val (.int k),z13,z14,z15,z16,z17,z18,z19]:=by
 obtain⟨v13,v14,v15,v16,v17,v18,v19⟩:=v;obtain⟨t,nt,et⟩:=JOf (x:=x) (sub:=sub) (m:=n+11) (w:=w) (ms:=ms) (B:=8184) ns (100+3*k) (λa ha=>⟨(hd a ha).b.nw,(hd a ha).l⟩) (by decide) (by omega) (by omega) (by omega) (by omega)
 have et:C.fn 89 [sc ns,.int (100+3*k),tr w ms]=.ok (F t):=by rw[fn];exact et
 have st:Sz 14 t:=nt.sz (by decide) (by decide)
 have zt:Z 14 t:=⟨st⟩;have ze:Z 20 ep:=⟨⟨by decide +kernel,by decide +kernel⟩⟩
 obtain⟨W,hW⟩:∃W,W=wOf w ms t:=⟨_,rfl⟩;obtain⟨A,hA⟩:∃A,A=wA w ms t:=⟨_,rfl⟩;obtain⟨B,hB⟩:∃B,B=wB w ms t:=⟨_,rfl⟩;have p97:C.fn 97 [tr w ms,F t]=.ok (F W):=by rw[fn,hW];exact JPS T (by omega) (by omega) (by omega) (by omega) (by omega)
 have p90:C.fn 90 [tr w ms,F t]=.ok (F W):=by rw[fn,hW];exact l_on T (by omega) (by omega) (by omega) (by omega)
 have p98:C.fn 98 [tr w ms,F t]=.ok (F A):=by rw[fn,hA];exact q_wa T (by omega) (by omega) (by omega) (by omega) (by omega)
 have p99:C.fn 99 [tr w ms,F t]=.ok (F B):=by rw[fn,hB];exact q_wb T (by omega) (by omega) (by omega) (by omega) (by omega)
 have p18:C.fn 18 [F t,.tuple [.int 1,.int 1000000]]=.ok (F (t - ep)):=by rw[<-Fep,fn];exact JE1 (by omega) (by omega) (by omega)
 have p17:C.fn 17 [F t,.tuple [.int 1,.int 1000000]]=.ok (F (t+ep)):=by rw[<-Fep,fn];exact JHZ (by omega) (by omega) (by omega)
 have n1:cmpD .NotEq (F W) (F W)=.ok (.bool false):=by rw[F_ne];simp
 have nin:=JMP t (du ms);have hw97:∀a∈ms,Sz 97 (a.w t):=λa ha=>(hd a ha).w_sz (ho a ha).l0 nt (by decide)
 have zA:Sz 300 A:=by rw[hA];exact JPY (P:=Sz 300) (sw.sz.mono (by omega)) λa ha=>⟨(hw97 a ha).mono (by omega),(hd a ha).s.sz.mono (by omega)⟩
 have zB:Sz 300 B:=by rw[hB];exact JNf (P:=Sz 300) (sw.sz.mono (by omega)) λa ha=>⟨(hw97 a ha).mono (by omega),(hd a ha).g.sz.mono (by omega)⟩
 have far:=JPH nt hd;have g1:GdS w ms A (t - ep):=JOG T hd sw zA (st.sub ze.h (by omega)) (by rw[hA];exact JI3 ho hd far)
 have g2:GdS w ms B (t+ep):=JOG T hd sw zB (st.add ze.h (by omega)) (by rw[hB];exact JIf ho hd far)
 have iff:=JKJ ho hs hc t;have ll:lpAt w ms t=(!decide (A=W) || !decide (B=W)):=by rw[hA,hB,hW];rfl
 have it:JAs (.tuple [.tuple [F A,F (t - ep)],.tuple [F B,F (t+ep)]])=.ok [.tuple [F A,F (t - ep)],.tuple [F B,F (t+ep)]]:=rfl;obtain⟨z17,z18,z19,vz,lp⟩:=loop3 (C:=C) (w:=w) (ms:=ms) (ns:=ns) (y2:=.own (.list ((du ms).map F))) (y3:=y3) (y4:=y4) (y5:=y5) (y6:=y6) (y7:=y7) (y8:=y8) (y9:=y9) (y10:=y10) (y11:=.val (.tuple [.int 1,.int 1000000])) (y12:=.val (.int k)) (y13:=.val (F t)) (y14:=.val (F W)) (y15:=.val (F A)) (y16:=.val (F B)) fn T (ds:=[.tuple [F A,F (t - ep)],.tuple [F B,F (t+ep)]])
  (λd hdm=>by
    rcases q_n.mp hdm with rfl|hdm
    ·exact⟨A,t - ep,rfl,g1⟩
    ·simp at hdm;subst hdm;exact⟨B,t+ep,rfl,g2⟩) v17 v18 v19
 refine⟨.val (F t),.val (F W),.val (F A),.val (F B),z17,z18,z19,⟨rfl,rfl,rfl,rfl,vz.1,vz.2.1,vz.2.2⟩,?_⟩;have bm:binD .Mult (.int 3) (.int k)=.ok (.int (3*k)):=JAp (L.of (k:=10) (by omega) (by omega)) (L.of (k:=10) (by omega) (by omega))
 have e1:=F_eq A W;have e2:=F_eq W B;have tt:cmpD .NotEq (.bool true) (.bool true)=.ok (.bool false):=by rfl
 have ff:cmpD .NotEq (.bool false) (.bool false)=.ok (.bool false):=by rfl
 have nfs:JAS (F t)=true/\JAS (F W)=true/\JAS (F A)=true/\JAS (F B)=true:=⟨rfl,rfl,rfl,rfl⟩;obtain⟨m1,m2,m3,m4⟩:=nfs;simp only[bL3,bL2,JBT]at lp
 by_cases c1:A=W
 ·have e1:cmpD .Eq (F A) (F W)=.ok (.bool true):=by rw[e1,decide_eq_true c1]
  by_cases c2:W=B
  · have e2:cmpD .Eq (F W) (F B)=.ok (.bool true):=by rw[e2,decide_eq_true c2]
    have nd:t ∉ du ms:=λz=>by have:=iff.mpr z;rw[ll,decide_eq_true c1,decide_eq_true c2.symm]at this;cases this
    have nin:cmpD .NotIn (F t) (.list ((du ms).map F))=.ok (.bool true):=by rw[nin,q_o nd];rfl
    clear iff ll far g1 g2 hw97 hW hA hB zA zB st nt;generalize F (t - ep)=fm at *;generalize F (t+ep)=fp at *;generalize F t=ft at *;generalize F W=fW at *;generalize F A=fA at *;generalize F B=fB at *;generalize (du ms).map F=ds at *;generalize tr w ms=TR at *;have hfr:JAk (.tup (.cons (.tup (.cons (.var 15) (.cons (.call 18 (.cons (.var 13) (.cons (.var 11) .nil))) .nil))) (.cons (.tup (.cons (.var 16) (.cons (.call 17 (.cons (.var 13) (.cons (.var 11) .nil))) .nil))) .nil))) 0 [.val (sc ns),.val TR,.own (.list ds),y3,y4,y5,y6,y7,y8,y9,y10,.val (.tuple [.int 1,.int 1000000]),.val (.int k),.val ft,.val fW,.val fA,.val fB,y17,y18,y19]=[.val (sc ns),.val TR,.own (.list ds),y3,y4,y5,y6,y7,y8,y9,y10,.val (.tuple [.int 1,.int 1000000]),.val (.int k),.val ft,.val fW,.val fA,.val fB,y17,y18,y19]:=rfl
    dsimp?! [↓hfr,bL2,JBT,JFh,JFz,bm,et,p97,p90,p98,p99,p18,p17,n1,nin,e1,e2,tt,ff,it,lp,m1,m2,m3,m4,JAl,JAS,JBO,JAa,JAj,JAb,v13.own,v14.own,v15.own,v16.own,v17.own,v18.own,v19.own,Bool.not_true,Bool.and_false,Bool.and_self]
  · have e2:cmpD .Eq (F W) (F B)=.ok (.bool false):=by rw[e2,q_o c2]
    have nd:t∈du ms:=iff.mp (by rw[ll,decide_eq_true c1,q_o λz=>c2 z.symm];rfl)
    have nin:cmpD .NotIn (F t) (.list ((du ms).map F))=.ok (.bool false):=by rw[nin,decide_eq_true nd];rfl
    clear iff ll far g1 g2 hw97 hW hA hB zA zB st nt;generalize F (t - ep)=fm at *;generalize F (t+ep)=fp at *;generalize F t=ft at *;generalize F W=fW at *;generalize F A=fA at *;generalize F B=fB at *;generalize (du ms).map F=ds at *;generalize tr w ms=TR at *;have hfr:JAk (.tup (.cons (.tup (.cons (.var 15) (.cons (.call 18 (.cons (.var 13) (.cons (.var 11) .nil))) .nil))) (.cons (.tup (.cons (.var 16) (.cons (.call 17 (.cons (.var 13) (.cons (.var 11) .nil))) .nil))) .nil))) 0 [.val (sc ns),.val TR,.own (.list ds),y3,y4,y5,y6,y7,y8,y9,y10,.val (.tuple [.int 1,.int 1000000]),.val (.int k),.val ft,.val fW,.val fA,.val fB,y17,y18,y19]=[.val (sc ns),.val TR,.own (.list ds),y3,y4,y5,y6,y7,y8,y9,y10,.val (.tuple [.int 1,.int 1000000]),.val (.int k),.val ft,.val fW,.val fA,.val fB,y17,y18,y19]:=rfl
    dsimp?! [↓hfr,bL2,JBT,JFh,JFz,bm,et,p97,p90,p98,p99,p18,p17,n1,nin,e1,e2,tt,ff,it,lp,m1,m2,m3,m4,JAl,JAS,JBO,JAa,JAj,JAb,v13.own,v14.own,v15.own,v16.own,v17.own,v18.own,v19.own,Bool.not_true,Bool.and_false,Bool.and_self]
 ·have e1:cmpD .Eq (F A) (F W)=.ok (.bool false):=by rw[e1,q_o c1]
  have nd:t∈du ms:=iff.mp (by rw[ll,q_o c1];rfl)
  have nin:cmpD .NotIn (F t) (.list ((du ms).map F))=.ok (.bool false):=by rw[nin,decide_eq_true nd];rfl
  clear iff ll far g1 g2 hw97 hW hA hB zA zB st nt;generalize F (t - ep)=fm at *;generalize F (t+ep)=fp at *;generalize F t=ft at *;generalize F W=fW at *;generalize F A=fA at *;generalize F B=fB at *;generalize (du ms).map F=ds at *;generalize tr w ms=TR at *;have hfr:JAk (.tup (.cons (.tup (.cons (.var 15) (.cons (.call 18 (.cons (.var 13) (.cons (.var 11) .nil))) .nil))) (.cons (.tup (.cons (.var 16) (.cons (.call 17 (.cons (.var 13) (.cons (.var 11) .nil))) .nil))) .nil))) 0 [.val (sc ns),.val TR,.own (.list ds),y3,y4,y5,y6,y7,y8,y9,y10,.val (.tuple [.int 1,.int 1000000]),.val (.int k),.val ft,.val fW,.val fA,.val fB,y17,y18,y19]=[.val (sc ns),.val TR,.own (.list ds),y3,y4,y5,y6,y7,y8,y9,y10,.val (.tuple [.int 1,.int 1000000]),.val (.int k),.val ft,.val fW,.val fA,.val fB,y17,y18,y19]:=rfl
  dsimp?! [↓hfr,bL2,JBT,JFh,JFz,bm,et,p97,p90,p98,p99,p18,p17,n1,nin,e1,tt,ff,it,lp,m1,m2,m3,m4,JAl,JAS,JBO,JAa,JAj,JAb,v13.own,v14.own,v15.own,v16.own,v17.own,v18.own,v19.own,Bool.not_true,Bool.and_false,Bool.and_self]
end
end VI.VP
end
section
namespace VI.VP
open PySem Fr
theorem JLL:∀l:List (List Int),(∀k∈l,∃q,k=kq q)->∃qs:List Rat,l.map tupI=qs.map F
 | [],_=>⟨[],rfl⟩
 |k::l,h=>by
  obtain⟨q,rfl⟩:=h k (by simp)
  obtain⟨qs,e⟩:=JLL l λk hk=>h k (by simp[hk])
  exact⟨q::qs,by rw[List.map_cons,List.map_cons,e,JLS]⟩
theorem JJN{j:Nat}:(E.not a).uses j=a.uses j:=rfl
theorem JJu{j:Nat}:(E.rng a).uses j=a.uses j:=rfl
theorem JF1:∀ {xs:List D},(∀d∈xs,f d=.ok none)->JBI f xs=.ok []
 | [],_=>rfl
 |d::xs,h=>by
  unfold JBI;rw[h d (by simp)]
  exact JF1 λe he=>h e (by simp[he])
section
variable{sub:Nat->Nat->Bool}{n:Nat}
theorem JJ5(ns:List Int):run true tabA gloA sub (n+12) 103 [sc ns]=.ok (.bool true):=by
 rw[JAB (n:=n+11) (show tabA 103=some JI8 from rfl),JAC rfl];obtain⟨w,ms,sw,ho,hd,hl,hnv,hc,et⟩:=JNL (x:=true) (sub:=sub) ns 0 3 (m:=n+11) (by omega) (by omega) (by omega) (by omega)
 have T:Ti 10 5 ms:=⟨ho,λa h=>(hd a h).b.sz (by omega),λa h=>(hd a h).l.sz⟩
 have hs:=JPf ho hnv;obtain⟨C,hC⟩:∃C:Cn,C=⟨run true tabA gloA sub (n+11),gloA,sub⟩:=⟨_,rfl⟩;have fn:C.fn=run true tabA gloA sub (n+11):=by rw[hC]
 have fg:C.glo=gloA:=by rw[hC]
 rw[<-hC];have et:C.fn 88 [sc ns,.int 0,.int 3]=.ok (tr w ms):=by rw[fn];exact et
 obtain⟨y3,y4,y5,y6,y7,y8,⟨v3,v4,v5,v6,v7,v8⟩,lp1⟩:=loop1 (C:=C) (w:=w) (ns:=ns) fn T hl;have p102:C.fn 102 [tr w ms]=.ok (.list ((lps w ms).map F)):=by rw[fn];exact JMA T (by omega) (by omega) (by omega) (by omega) (by omega)
 obtain⟨inc,mem⟩:=JML ho hs hc;have nd:(lps w ms).Nodup:=inc.imp λh=>by grind
 have dl:(du ms).length<=3:=Nat.le_trans (JHU ms) hl;have ll:(lps w ms).length<=3:=Nat.le_trans (JNJ nd λz hz=>(mem z).mp hz) dl;have s1:=srt31 nd ll;have s2:=ssk31 (qs:=du ms) dl;rw[JOr nd dl mem]at s2;obtain⟨qs,eqs⟩:=JLL (s3 ((lps w ms).map kq)) λk hk=>by
  have nd2:((lps w ms).map kq).Nodup:=by
    unfold List.Nodup;rw[List.pairwise_map];exact nd.imp λh e=>h (JGu e)
  have:=(So3.s3_ok nd2 (by rw[q_g];exact ll)).2.mem_iff.mp hk
  obtain⟨q,_,rfl⟩:=List.mem_map.mp this;exact⟨q,rfl⟩
 rw[eqs]at s1 s2;have ne1:=JQf qs;have ne0:cmpD .NotEq (.list []) (.list [])=.ok (.bool false):=JQf [];have zl:∀q∈lps w ms,Sz 16 q:=λq hq=>by
  obtain⟨a,ha,z|z⟩:=du_mem.mp ((mem q).mp hq)
  · rw[z.2.2];exact(T.b a ha).add (T.l a ha) (by omega)
  · rw[z.2.2];exact(T.b a ha).mono (by omega)
 obtain⟨ls,hls⟩:∃ls,ls=lps w ms:=⟨_,rfl⟩;rw[<-hls]at p102 inc zl s1 ll;have len:bltD .len [.list (ls.map F)]=.ok (.int (ls.length:Nat)):=by simp only[bltD,q_g]
 have rg:rngD [.int ((ls.length:Nat) - 1:Int)]=.ok ((List.range (ls.length - 1)).map λj:Nat=>PyData.int j):=by
  have:small ((ls.length:Nat) - 1:Int)=true:=by
    unfold small;rw[decide_eq_true (by omega),decide_eq_true (by omega)];rfl
  show(if small ((ls.length:Nat) - 1:Int)=true then VI.R.ok (JCs 0 ((ls.length:Nat) - 1:Int)) else .bad)=_;rw[if_pos this];unfold JCs;rw[show(((ls.length:Nat):Int) - 1 - 0).toNat=ls.length - 1 by omega]
  congr 1
  refine List.map_congr_left λj _=>?_;simp
 have cp:∀y10 y11 y12 y13 y14 y15 y16 y17 y18 y19:Sl,JFF C 0 (.var 0) (.not (.call 21 (.cons (.idx (.var 10) (.var 0)) (.cons (.idx (.var 10) (.bin .Add (.var 0) (.cint 1))) .nil)))) [.val (sc ns),.val (tr w ms),.own (.list ((du ms).map F)),y3,y4,y5,y6,y7,y8,.val (.list (ls.map F)),y10,y11,y12,y13,y14,y15,y16,y17,y18,y19] (.ok ((List.range (ls.length - 1)).map λj:Nat=>PyData.int j))=.ok (.list []):=by
  intro y10 y11 y12 y13 y14 y15 y16 y17 y18 y19;rw[JDU (by rw[q_g,List.length_range];omega),JF1]
  · rfl
  · intro d hdm
    obtain⟨j,hj,rfl⟩:=List.mem_map.mp hdm;have hj:=List.mem_range.mp hj;have h1:j<ls.length:=by omega
    have h2:j+1<ls.length:=by omega
    have z1:Z 16 ls[j]:=⟨zl _ (List.getElem_mem h1)⟩;have z2:Z 16 ls[j+1]:=⟨zl _ (List.getElem_mem h2)⟩;have lt:ls[j]<ls[j+1]:=List.pairwise_iff_getElem.mp inc j (j+1) h1 h2 (by omega)
    have f21:C.fn 21 [F ls[j],F ls[j+1]]=.ok (.bool true):=by rw[fn,JH7 (by omega) (by omega) (by omega),decide_eq_true lt]
    have i1:idxD (.list (ls.map F)) (.int (j:Nat))=.ok (F ls[j]):=by
     simp only[idxD,atI,ixN,q_g];rw[if_pos (by omega),if_pos (by omega)]
     simp[optR,h1]
    have i2:idxD (.list (ls.map F)) (.int ((j:Nat)+1:Int))=.ok (F ls[j+1]):=by
     simp only[idxD,atI,ixN,q_g];rw[if_pos (by omega),if_pos (by omega),show((j:Int)+1).toNat=j+1 by omega]
     simp[optR,h2]
    rw[JDY];generalize F ls[j]=fa at *;generalize F ls[j+1]=fb at *;generalize ls.map F=lf at *;generalize tr w ms=TR at *
    dsimp?! [fg,f21,i1,i2,Bool.not_true]
 obtain⟨δ',lp2,z12,z13,z14,z15,z16,z17,z18,z19,_,⟨w12,w13,w14,w15,w16,w17,w18,w19⟩,eδ⟩:=JBu (C:=C) (i:=12) (b:=bL2)
  (Inv:=λes δ=>∃(y12 y13 y14 y15 y16 y17 y18 y19:Sl),(∀d∈es,∃k:Int,d=.int k/\0<=k/\k<4)/\(Vs y12/\Vs y13/\Vs y14/\Vs y15/\Vs y16/\Vs y17/\Vs y18/\Vs y19)/\δ=[.val (sc ns),.val (tr w ms),.own (.list ((du ms).map F)),y3,y4,y5,y6,y7,y8,.val (.list (ls.map F)),.own (.list []),.val (.tuple [.int 1,.int 1000000]),y12,y13,y14,y15,y16,y17,y18,y19])
  (λd es δ ⟨y12,y13,y14,y15,y16,y17,y18,y19,hk,⟨v12,v13,v14,v15,v16,v17,v18,v19⟩,e⟩=>by
    subst e;obtain⟨k,rfl,k0,k1⟩:=hk d (by simp)
    obtain⟨z13,z14,z15,z16,z17,z18,z19,vz,ez⟩:=turn2 (C:=C) (ns:=ns) (w:=w) (ms:=ms) (y3:=y3) (y4:=y4) (y5:=y5) (y6:=y6) (y7:=y7) (y8:=y8) (y9:=.val (.list (ls.map F))) (y10:=.own (.list [])) fn T ho hd hs hc sw hl ⟨k0,k1⟩ ⟨v13,v14,v15,v16,v17,v18,v19⟩;exact⟨_,.inl ez,.val (.int k),z13,z14,z15,z16,z17,z18,z19,λe he=>hk e (by simp[he]),⟨rfl,vz⟩,rfl⟩)
  (ds:=([0,1,2,3]:List Int).map PyData.int) (δ:=[.val (sc ns),.val (tr w ms),.own (.list ((du ms).map F)),y3,y4,y5,y6,y7,y8,.val (.list (ls.map F)),.own (.list []),.val (.tuple [.int 1,.int 1000000]),.no,.no,.no,.no,.no,.no,.no,.no])
  ⟨.no,.no,.no,.no,.no,.no,.no,.no,λd hdm=>by
    simp at hdm;rcases hdm with rfl|rfl|rfl|rfl<;>exact⟨_,rfl,by omega,by omega⟩,⟨rfl,rfl,rfl,rfl,rfl,rfl,rfl,rfl⟩,rfl⟩
 subst eδ;have rg4:rngD [.int 4]=.ok (([0,1,2,3]:List Int).map PyData.int):=rfl;have t1:idxD (tr w ms) (.int 1)=.ok (.tuple (ms.map Mv.d)):=rfl;have it:JAs (.tuple (ms.map Mv.d))=.ok (ms.map Mv.d):=rfl;simp only[bL1,bL2,JBT]at lp1 lp2;clear hls inc mem nd zl eqs ll dl T;generalize ([0,1,2,3]:List Int).map PyData.int=k4 at *;generalize (List.range (ls.length - 1)).map (λj:Nat=>PyData.int j)=rj at *;generalize (ls.length:Nat)=L at *;generalize ls.map F=lf at *;generalize qs.map F=qf at *;generalize (du ms).map F=ds at *;generalize ms.map Mv.d=md at *;generalize tr w ms=TR at *;have hf1:JAk (.idx (.var 1) (.cint 1)) 0 [.val (sc ns),.val TR,.own (.list []),.no,.no,.no,.no,.no,.no,.no,.no,.no,.no,.no,.no,.no,.no,.no,.no,.no]=[.val (sc ns),.val TR,.own (.list []),.no,.no,.no,.no,.no,.no,.no,.no,.no,.no,.no,.no,.no,.no,.no,.no,.no]:=rfl;have hf2:JAk (.rng (.cons (.cint 4) .nil)) 0 [.val (sc ns),.val TR,.own (.list ds),y3,y4,y5,y6,y7,y8,.val (.list lf),.own (.list []),.val (.tuple [.int 1,.int 1000000]),.no,.no,.no,.no,.no,.no,.no,.no]=[.val (sc ns),.val TR,.own (.list ds),y3,y4,y5,y6,y7,y8,.val (.list lf),.own (.list []),.val (.tuple [.int 1,.int 1000000]),.no,.no,.no,.no,.no,.no,.no,.no]:=rfl
 dsimp?! [↓hf1,↓hf2,JI8,JBT,fg,JFh,JFz,et,t1,it,lp1,p102,len,rg,cp,s1,s2,ne1,ne0,rg4,lp2,JAa,JAj,JAb,JC0,JBQ,JH4,JKT,JIH,JPs,JN0,JHo,JO9,JK7,JKZ,JLp,JK5,JJu,JJN,Bool.false_or,Bool.not_false,Bool.and_true,Bool.true_and,Nat.reduceAdd,Nat.reduceBEq,Bool.or_false,Bool.or_self,Bool.and_false,Bool.false_and,Bool.not_true,JAS,v3.own,v4.own,v5.own,v6.own,v7.own,v8.own]
end
end VI.VP
end
section
namespace VH
open PySem PySem.W
noncomputable def rP:Pos:=⟨0,0,0,0⟩
noncomputable def dName:Stmt->Str
 |.FunctionDef n _ _ _ _ _ _ _ _ _=>n
 |_=>"?"
noncomputable def dArgs:Stmt->Arguments
 |.FunctionDef _ a _ _ _ _ _ _ _ _=>a
 |_=>⟨[],[],none,[],[],none,[]⟩
noncomputable def JQL:Stmt->List Stmt
 |.FunctionDef _ _ b _ _ _ _ _ _ _=>b
 |_=>[]
noncomputable def JLM:Stmt->Scope
 |.FunctionDef _ _ _ _ _ _ s _ _ _=>s
 |_=>default
noncomputable def tO(xs:List Value):Obj:=⟨.type "tuple",none,.seq xs.toArray 0,#[]⟩
noncomputable def fO(xs:List Value):Obj:=⟨.none,none,.fields xs.toArray,#[]⟩
noncomputable def sqs:Nat->List Str->List Value
 |_,[]=>[]
 |t,x::r=>.str x t::sqs (t+1) r
noncomputable def f1(st:Stmt):Obj:=⟨.none,none,.func { name:=dName st,qualname:=dName st,params:=dArgs st,body:=.stmts (JQL st),scope:=JLM st,globals:=0,closure:=[],defaults:=.none,kwdefaults:=.none },#[]⟩
noncomputable def f2(st:Stmt)(pm:Value)(cd:Addr):Obj:=⟨.type "function",none,.func { name:=dName st,qualname:=dName st,params:=dArgs st,body:=.stmts (JQL st),scope:=JLM st,globals:=mainNs,closure:=[],defaults:=.none,kwdefaults:=.none,pyModule:=pm,code:=.ref cd },#[]⟩
noncomputable def cO(x:Str)(t l k loc a:Nat)(b:Bool)(u t2:Nat):Obj :=
 ⟨.type "code",none,.fields #[.str x t,.str x (t+1),.str "/claim/cut.py" (t+2),.int l 0,.int k 0,.int 0 0,.int 0 0,.int loc 0,.ref a,.bool b,.int 181 0,.ref (a+1),.none,.ref (a+2),.ref (a+3),.ref (a+4),.int t2 0,.int u 0,.str "/claim/cut.py" (t2+1)],#[]⟩
noncomputable def ent(P:Params)(x:Str)(t:Nat)(v:Value):DictEntry:=⟨PyData.keyHash P x,.str x t,v⟩
noncomputable def dO(es:List DictEntry)(n:Nat):Obj:=⟨.type "dict",none,.dict es.toArray n,#[]⟩
def alt:Bool->List Obj->List Obj
 |_,[]=>[]
 |true,o::r=>o::alt false r
 |false,_::r=>alt true r
def bt:Nat->List Obj->BT
 |0,_=>.nil
 |_,[]=>.nil
 |n+1,o::r=>.node o (bt n (alt true r)) (bt n (alt false r))
def put:Nat->Obj->List Obj->List Obj
 |_,_,[]=>[]
 |0,o,_::r=>o::r
 |n+1,o,x::r=>x::put n o r
noncomputable def sT(l:List Obj)(n k:Nat)(os:OsState):SharedT:=⟨bt 12 l,n,{},#[],{},k,os⟩
noncomputable def sH(l:List Obj)(k:Nat)(os:OsState):Shared:=⟨⟨l.toArray,{}⟩,#[],{},k,os⟩
noncomputable def envOf(p:Program):PySem.Env:={ scope:=p.main.scope,locals:=mainNs,globals:=mainNs,cells:=[],code:=.ref 13,frame:=some 14 }
noncomputable def cdOf(p:Program):Code:=.body (behindTheImports p) (envOf p)
end VH
end
section
set_option Elab.async false
set_option maxHeartbeats 0
namespace V31
open PySem PySem.W VH L2 VI VI.VP
noncomputable abbrev prog:Program:=PySem.Challenge.pw_glideways_k31_whole_tracks
noncomputable def top(i:Nat):Stmt:=prog.main.body.getD i (.Pass ⟨0,0,0,0⟩)
noncomputable def mainE(P:Params):List DictEntry:=[ent P "__name__" 165 (.str "law_glideways_k31_whole_tracks" 504),ent P "__doc__" 166 (.none),ent P "__package__" 167 (.none),ent P "__loader__" 168 (.builtin "__main__.__loader__#opaque"),ent P "__spec__" 169 (.none),ent P "__annotations__" 170 (.ref 6),ent P "__builtins__" 171 (.ref 4),ent P "__file__" 173 (.str "/claim/cut.py" 172),ent P "__cached__" 174 (.none),ent P "GlideError" 206 (.ref 24),ent P "NoFrac" 222 (.ref 37),ent P "NoKind" 238 (.ref 49),ent P "ZERO" 243 (.ref 52),ent P "ONE" 246 (.ref 53),ent P "common_divisor" 257 (.ref 60),ent P "frac" 266 (.ref 67),ent P "whole" 273 (.ref 74),ent P "plus" 281 (.ref 81),ent P "minus" 289 (.ref 88),ent P "times" 297 (.ref 95),ent P "over" 305 (.ref 102),ent P "is_less" 313 (.ref 109),ent P "least_frac" 322 (.ref 116),ent P "most_frac" 331 (.ref 123),ent P "between" 340 (.ref 130),ent P "KINDS" 349 (.ref 131),ent P "is_kind" 356 (.ref 138),ent P "need_kind" 363 (.ref 145),ent P "kept_within" 370 (.ref 152),ent P "eased" 379 (.ref 159),ent P "START" 383 (.int 0 382),ent P "GOAL" 385 (.int 1 384),ent P "BEGIN" 387 (.int 2 386),ent P "LONG" 389 (.int 3 388),ent P "KIND" 391 (.int 4 390),ent P "SPEEDS" 393 (.int 5 392),ent P "KEPT" 395 (.str "kept" 394),ent P "end_of" 402 (.ref 166),ent P "part_at" 410 (.ref 173),ent P "worth_at" 419 (.ref 180),ent P "kept_worth" 432 (.ref 187),ent P "FIRST" 436 (.int 0 435),ent P "MOTIONS" 438 (.int 1 437),ent P "begun_ahead" 444 (.ref 192),ent P "begun_by" 450 (.ref 197),ent P "worth_of" 459 (.ref 204),ent P "worth_ahead" 469 (.ref 211),ent P "worth_behind" 479 (.ref 218),ent P "edges" 488 (.ref 225),ent P "leaps_at" 497 (.ref 232),ent P "leaps" 503 (.ref 237),ent P "_law_cell" 513 (.ref 244),ent P "_law_pick" 523 (.ref 251),ent P "_law_divisor" 531 (.ref 258),ent P "_law_made" 540 (.ref 265),ent P "_law_frac" 549 (.ref 272),ent P "_law_size" 558 (.ref 279),ent P "_law_plus" 566 (.ref 286),ent P "_law_minus" 574 (.ref 293),ent P "_law_times" 582 (.ref 300),ent P "_law_over" 590 (.ref 307),ent P "_law_less" 598 (.ref 314),ent P "_law_kind" 606 (.ref 321),ent P "_law_eased" 616 (.ref 328),ent P "_law_motion" 627 (.ref 335),ent P "_law_worth" 647 (.ref 342),ent P "_law_time" 657 (.ref 349),ent P "_law_track" 672 (.ref 356),ent P "_law_any_time" 681 (.ref 363),ent P "_law_on" 691 (.ref 370),ent P "law" 697 (.ref 375)]
noncomputable def mainN:Value:=.str "law_glideways_k31_whole_tracks" 504
noncomputable def JFD(P:Params)(m k:Nat)(v:Value):Obj:=dO (ent P "__name__" 165 v::((mainE P).take m).drop 1) k
noncomputable def twelve:List Value:=[.int 2 0,.int 0 0,.ref 20,.int 4 0,.int 0 0,.ref 33,.int 6 0,.int 0 0,.ref 45,.int 11 0,.int 0 0,.ref 59,.int 19 0,.int 0 0,.ref 66,.int 26 0,.int 0 0,.ref 73,.int 28 0,.int 0 0,.ref 80,.int 30 0,.int 0 0,.ref 87,.int 32 0,.int 0 0,.ref 94,.int 34 0,.int 0 0,.ref 101,.int 36 0,.int 0 0,.ref 108,.int 38 0,.int 0 0,.ref 115,.int 44 0,.int 0 0,.ref 122,.int 50 0,.int 0 0,.ref 129,.int 54 0,.int 0 0,.ref 137,.int 56 0,.int 0 0,.ref 144,.int 59 0,.int 0 0,.ref 151,.int 61 0,.int 0 0,.ref 158,.int 83 0,.int 0 0,.ref 165,.int 85 0,.int 0 0,.ref 172,.int 87 0,.int 0 0,.ref 179,.int 92 0,.int 0 0,.ref 186,.int 102 0,.int 0 0,.ref 191,.int 104 0,.int 0 0,.ref 196,.int 106 0,.int 0 0,.ref 203,.int 111 0,.int 0 0,.ref 210,.int 119 0,.int 0 0,.ref 217,.int 127 0,.int 0 0,.ref 224,.int 134 0,.int 0 0,.ref 231,.int 137 0,.int 0 0,.ref 236,.int 140 0,.int 0 0,.ref 243,.int 146 0,.int 0 0,.ref 250,.int 149 0,.int 0 0,.ref 257,.int 153 0,.int 0 0,.ref 264,.int 156 0,.int 0 0,.ref 271,.int 159 0,.int 0 0,.ref 278,.int 162 0,.int 0 0,.ref 285,.int 164 0,.int 0 0,.ref 292,.int 166 0,.int 0 0,.ref 299,.int 168 0,.int 0 0,.ref 306,.int 170 0,.int 0 0,.ref 313,.int 172 0,.int 0 0,.ref 320,.int 174 0,.int 0 0,.ref 327,.int 189 0,.int 0 0,.ref 334,.int 196 0,.int 0 0,.ref 341,.int 207 0,.int 0 0,.ref 348,.int 210 0,.int 0 0,.ref 355,.int 223 0,.int 0 0,.ref 362,.int 227 0,.int 0 0,.ref 369,.int 233 0,.int 0 0,.ref 374]
noncomputable def clB(P:Params)(x:Str)(b t n:Nat):List Obj:=[tO [.ref 24],⟨.type "builtin_function_or_method",none,.fields #[.builtin "type.__prepare__",.type "type"],#[]⟩,dO [ent P "__module__" (t+7) (.str "glideways.errors" 187),ent P "__qualname__" (t+9) (.str x (t+8)),ent P "__firstlineno__" (t+11) (.int n (t+10)),ent P "__static_attributes__" (t+12) (.ref (b+7))] 4,tO [],fO [],⟨.type "code",none,.fields #[.str x (t+2),.str x (t+3),.str "/claim/cut.py" (t+4),.int n 0,.int 0 0,.int 0 0,.int 0 0,.int 0 0,.ref (b+3),.bool false,.int 181 0,.ref (b+4),.none,.none,.none,.none,.int (t+5) 0,.int n 0,.str "/claim/cut.py" (t+6)],#[]⟩,⟨.type "frame",none,.plain,#[some (.ref (b+5)),some (.ref 3),some (.ref (b+2)),none,some (.str "glideways.errors" 187),none,some (.ref 0)]⟩,tO [],dO [ent P "__module__" (t+7) (.str "glideways.errors" 187),ent P "__firstlineno__" (t+11) (.int n (t+10)),ent P "__static_attributes__" (t+12) (.ref (b+7)),ent P "__doc__" (t+13) (.none)] 2,⟨.type "type",none,.cls { name:=x,bases:=[.ref 24],mro:=[.ref (b+9),.ref 24,.type "ValueError",.type "Exception",.type "BaseException",.type "object"],ns:=b+8,qualname:=x,hasDict:=true,slotNames:=[],subclasses:=[],abstract:=false,hasDel:=false },#[some (.ref b),none,some (.str x t),some (.str x (t+8)),some (.builtin "ValueError.__new__"),some (.bool true)]⟩,⟨.type "super",none,.fields #[.ref (b+9),.ref (b+9),.ref (b+9)],#[]⟩,⟨.type "builtin_function_or_method",none,.fields #[.builtin "object.__init_subclass__",.ref (b+9)],#[]⟩]
noncomputable def pv0:Value:=.str "glideways.fracs" 239
noncomputable def pv1:Value:=.str "glideways.kinds" 341
noncomputable def pv2:Value:=.str "glideways.motions" 380
noncomputable def pv3:Value:=.str "glideways.tracks" 433
noncomputable def pv4:Value:=.str "law_glideways_k31_whole_tracks" 504
noncomputable def dB(i t:Nat)(xs:List Str)(c:Obj)(pm:Value)(a:Addr):List Obj:=[tO [],fO [],tO (sqs t xs),tO [],f1 (top i),c,f2 (top i) pm a]
noncomputable def ob(P:Params):List Obj:=[boot_o_0 P,boot_o_1 P,boot_o_2 P,JFD P 71 71 mainN,boot_o_4 P,boot_o_5 P,boot_o_6 P,boot_o_7 P,boot_o_8 P,boot_o_9 P,boot_o_10 P,tO [],fO twelve,⟨.type "code",none,.fields #[.str "<module>" 182,.str "<module>" 183,.str "/claim/cut.py" 184,.int 1 0,.int 0 0,.int 0 0,.int 0 0,.int 0 0,.ref 11,.bool false,.int 181 0,.ref 12,.none,.none,.none,.none,.int 185 0,.int 1 0,.str "/claim/cut.py" 186],#[]⟩,⟨.type "frame",none,.plain,#[some (.ref 13),some (.ref 3),some (.ref 3),none,some (.str "__main__" 164),none,some (.ref 0)]⟩,tO [.type "ValueError"],⟨.type "builtin_function_or_method",none,.fields #[.builtin "type.__prepare__",.type "type"],#[]⟩,dO [ent P "__module__" 196 (.str "glideways.errors" 187),ent P "__qualname__" 198 (.str "GlideError" 197),ent P "__firstlineno__" 200 (.int 2 199),ent P "__static_attributes__" 201 (.ref 22)] 4,tO [],fO [],⟨.type "code",none,.fields #[.str "GlideError" 191,.str "GlideError" 192,.str "/claim/cut.py" 193,.int 2 0,.int 0 0,.int 0 0,.int 0 0,.int 0 0,.ref 18,.bool false,.int 181 0,.ref 19,.none,.none,.none,.none,.int 194 0,.int 2 0,.str "/claim/cut.py" 195],#[]⟩,⟨.type "frame",none,.plain,#[some (.ref 20),some (.ref 3),some (.ref 17),none,some (.str "glideways.errors" 187),none,some (.ref 0)]⟩,tO [],dO [ent P "__module__" 196 (.str "glideways.errors" 187),ent P "__firstlineno__" 200 (.int 2 199),ent P "__static_attributes__" 201 (.ref 22),ent P "__weakref__" 203 (.ref 25),ent P "__doc__" 204 (.none)] 3,⟨.type "type",none,.cls { name:="GlideError",bases:=[.type "ValueError"],mro:=[.ref 24,.type "ValueError",.type "Exception",.type "BaseException",.type "object"],ns:=23,qualname:="GlideError",hasDict:=true,slotNames:=[],subclasses:=[.ref 37,.ref 49],abstract:=false,hasDel:=false },#[some (.ref 15),none,some (.str "GlideError" 189),some (.str "GlideError" 197),some (.builtin "ValueError.__new__"),some (.bool true)]⟩,⟨.type "getset_descriptor",none,.fields #[.str "__weakref__" 202,.ref 24,.builtin "ExceptionGroup.__weakref__",.none],#[]⟩,⟨.type "super",none,.fields #[.ref 24,.ref 24,.ref 24],#[]⟩,⟨.type "builtin_function_or_method",none,.fields #[.builtin "object.__init_subclass__",.ref 24],#[]⟩]++((clB P "NoFrac" 28 207 4)++((clB P "NoKind" 40 223 6)++([tO [.int 0 241,.int 1 242],tO [.int 1 244,.int 1 245]]++((dB 7 250 ["one","other","found","rest","left"] (cO "common_divisor" 247 11 2 3 54 true 11 255) pv0 59)++((dB 8 261 ["up","down","divisor"] (cO "frac" 258 19 2 3 61 true 19 264) pv0 66)++((dB 9 270 ["number"] (cO "whole" 267 26 1 3 68 true 26 271) pv0 73)++((dB 10 277 ["one","other"] (cO "plus" 274 28 2 3 75 true 28 279) pv0 80)++((dB 11 285 ["one","other"] (cO "minus" 282 30 2 3 82 true 30 287) pv0 87)++((dB 12 293 ["one","other"] (cO "times" 290 32 2 3 89 true 32 295) pv0 94)++((dB 13 301 ["one","other"] (cO "over" 298 34 2 3 96 true 34 303) pv0 101)++((dB 14 309 ["one","other"] (cO "is_less" 306 36 2 3 103 true 36 311) pv0 108)++((dB 15 317 ["some","least","one"] (cO "least_frac" 314 38 1 3 110 true 38 320) pv0 115)++((dB 16 326 ["some","most","one"] (cO "most_frac" 323 44 1 3 117 true 44 329) pv0 122)++((dB 17 335 ["one","other","part"] (cO "between" 332 50 3 3 124 true 50 338) pv0 129)++([tO (sqs 343 ["even","in","out","both","hold","jump"])]++((dB 20 353 ["thing"] (cO "is_kind" 350 54 1 3 132 true 54 354) pv1 137)++((dB 21 360 ["kind"] (cO "need_kind" 357 56 1 3 139 true 56 361) pv1 144)++((dB 22 367 ["part"] (cO "kept_within" 364 59 1 3 146 true 59 368) pv1 151)++((dB 23 374 ["kind","part","p"] (cO "eased" 371 61 2 3 153 true 61 377) pv1 158)++((dB 32 399 ["motion"] (cO "end_of" 396 83 1 3 160 true 83 400) pv2 165)++((dB 33 406 ["motion","time"] (cO "part_at" 403 85 2 3 167 true 85 408) pv2 172)++((dB 34 414 ["motion","time","part"] (cO "worth_at" 411 87 2 3 174 true 87 417) pv2 179)++((dB 35 423 ["motion","p","square","cube","by_first","by_last","by_speeds"] (cO "kept_worth" 420 92 2 3 181 true 92 430) pv2 186)++([tO [],fO [],f1 (top 39),⟨.type "code",none,.fields #[.str "begun_ahead" 439,.str "begun_ahead" 440,.str "/claim/cut.py" 441,.int 102 0,.int 2 0,.int 0 0,.int 0 0,.int 3 0,.ref 188,.bool true,.int 181 0,.ref 189,.none,.none,.none,.ref 190,.int 442 0,.int 102 0,.str "/claim/cut.py" 443],#[]⟩,f2 (top 39) (.str "glideways.tracks" 433) 191,tO [],fO [],f1 (top 40),⟨.type "code",none,.fields #[.str "begun_by" 445,.str "begun_by" 446,.str "/claim/cut.py" 447,.int 104 0,.int 2 0,.int 0 0,.int 0 0,.int 3 0,.ref 193,.bool true,.int 181 0,.ref 194,.none,.none,.none,.ref 195,.int 448 0,.int 104 0,.str "/claim/cut.py" 449],#[]⟩,f2 (top 40) (.str "glideways.tracks" 433) 196]++((dB 41 454 ["track","time","begun"] (cO "worth_of" 451 106 2 3 198 true 106 457) pv3 203)++((dB 42 463 ["track","time","begun","motion"] (cO "worth_ahead" 460 111 2 3 205 true 111 467) pv3 210)++((dB 43 473 ["track","time","begun","motion"] (cO "worth_behind" 470 119 2 3 212 true 119 477) pv3 217)++((dB 44 483 ["track","found","motion"] (cO "edges" 480 127 1 3 219 true 127 486) pv3 224)++((dB 45 492 ["track","time","worth"] (cO "leaps_at" 489 134 2 3 226 true 134 495) pv3 231)++([tO [],fO [],f1 (top 46),⟨.type "code",none,.fields #[.str "leaps" 498,.str "leaps" 499,.str "/claim/cut.py" 500,.int 137 0,.int 1 0,.int 0 0,.int 0 0,.int 3 0,.ref 233,.bool true,.int 181 0,.ref 234,.none,.none,.none,.ref 235,.int 501 0,.int 137 0,.str "/claim/cut.py" 502],#[]⟩,f2 (top 46) (.str "glideways.tracks" 433) 236]++((dB 48 509 ["_law_script","_law_k"] (cO "_law_cell" 506 140 2 3 238 true 140 511) pv4 243)++((dB 49 517 ["_law_script","_law_k","_law_many","_law_drawn"] (cO "_law_pick" 514 146 3 3 245 true 146 521) pv4 250)++((dB 50 527 ["_law_one","_law_other"] (cO "_law_divisor" 524 149 2 3 252 true 149 529) pv4 257)++((dB 51 535 ["_law_up","_law_down","_law_size_here"] (cO "_law_made" 532 153 2 3 259 true 153 538) pv4 264)++((dB 52 544 ["_law_script","_law_at","_law_down"] (cO "_law_frac" 541 156 2 3 266 true 156 547) pv4 271)++((dB 53 553 ["_law_script","_law_at","_law_down"] (cO "_law_size" 550 159 2 3 273 true 159 556) pv4 278)++((dB 54 562 ["_law_one","_law_other"] (cO "_law_plus" 559 162 2 3 280 true 162 564) pv4 285)++((dB 55 570 ["_law_one","_law_other"] (cO "_law_minus" 567 164 2 3 287 true 164 572) pv4 292)++((dB 56 578 ["_law_one","_law_other"] (cO "_law_times" 575 166 2 3 294 true 166 580) pv4 299)++((dB 57 586 ["_law_one","_law_other"] (cO "_law_over" 583 168 2 3 301 true 168 588) pv4 306)++((dB 58 594 ["_law_one","_law_other"] (cO "_law_less" 591 170 2 3 308 true 170 596) pv4 313)++((dB 59 602 ["_law_script","_law_at"] (cO "_law_kind" 599 172 2 3 315 true 172 604) pv4 320)++((dB 60 610 ["_law_kind_here","_law_part","_law_up","_law_down"] (cO "_law_eased" 607 174 2 3 322 true 174 614) pv4 327)++((dB 61 620 ["_law_script","_law_at","_law_begin","_law_kind_here","_law_speeds"] (cO "_law_motion" 617 189 3 3 329 true 189 625) pv4 334)++((dB 62 631 ["_law_motion_here","_law_time_here","_law_start","_law_goal","_law_begin","_law_long","_law_kind_here","_law_speeds","_law_part","_law_made_here","_law_rest","_law_first","_law_last","_law_more"] (cO "_law_worth" 628 196 2 3 336 true 196 645) pv4 341)++((dB 63 651 ["_law_script","_law_at","_law_motion_here","_law_part"] (cO "_law_time" 648 207 3 3 343 true 207 655) pv4 348)++((dB 64 661 ["_law_script","_law_at","_law_most","_law_worth_here","_law_time_here","_law_made_here","_law_k","_law_base","_law_motion_here"] (cO "_law_track" 658 210 3 3 350 true 210 670) pv4 355)++((dB 65 676 ["_law_script","_law_at","_law_track_here"] (cO "_law_any_time" 673 223 3 3 357 true 223 679) pv4 362)++((dB 66 685 ["_law_track_here","_law_time_here","_law_made_here","_law_motion_here"] (cO "_law_on" 682 227 2 3 364 true 227 689) pv4 369)++([tO [],fO [],f1 (top 67),⟨.type "code",none,.fields #[.str "law" 692,.str "law" 693,.str "/claim/cut.py" 694,.int 233 0,.int 1 0,.int 0 0,.int 0 0,.int 3 0,.ref 371,.bool true,.int 181 0,.ref 372,.none,.none,.none,.ref 373,.int 695 0,.int 233 0,.str "/claim/cut.py" 696],#[]⟩,f2 (top 67) (.str "law_glideways_k31_whole_tracks" 504) 374]))))))))))))))))))))))))))))))))))))))))))))))))))
noncomputable def l0(P:Params):List Obj:=put 12 (fO (twelve.take 0)) (put 3 (JFD P 9 9 (.str "__main__" 164)) ((ob P).take 15))
noncomputable def l1(P:Params):List Obj:=put 24 (⟨.type "type",none,.cls { name:="GlideError",bases:=[.type "ValueError"],mro:=[.ref 24,.type "ValueError",.type "Exception",.type "BaseException",.type "object"],ns:=23,qualname:="GlideError",hasDict:=true,slotNames:=[],subclasses:=[.ref 37],abstract:=false,hasDel:=false },#[some (.ref 15),none,some (.str "GlideError" 189),some (.str "GlideError" 197),some (.builtin "ValueError.__new__"),some (.bool true)]⟩) (put 12 (fO (twelve.take 6)) (put 3 (JFD P 11 11 (.str "glideways.errors" 187)) ((ob P).take 40)))
abbrev PR(a b:Nat)(l:Params->List Obj)(n k d t:Nat)(c:Pos)(l2:Params->List Obj)(n2 k2:Nat)(c2:Pos):Prop:=∀(w:World) (os:OsState),segRunT treeTable prog w 11 (some (.ref 6)) a b (sT (l w.params) n k os) (piecesOf ((prog.main.body.drop d).take t) (envOf prog) (cdOf prog) c [topFrame rP])=some (.next,sT (l2 w.params) n2 k2 os,cdOf prog,c2)
theorem p0:PR 1 409 l0 15 187 0 3 ⟨0,0,0,0⟩ l1 40 223 ⟨4,0,5,8⟩:=λw os=>by kernel_rfl
noncomputable def l2(P:Params):List Obj:=put 12 (fO (twelve.take 24)) (put 3 (JFD P 19 19 (.str "glideways.fracs" 239)) ((ob P).take 89))
theorem p1:PR 1 400 l1 40 223 3 9 ⟨4,0,5,8⟩ l2 89 290 ⟨30,0,31,73⟩:=λw os=>by kernel_rfl
noncomputable def l3(P:Params):List Obj:=put 12 (fO (twelve.take 54)) (put 3 (JFD P 37 37 (.str "glideways.motions" 380)) ((ob P).take 160))
theorem p2:PR 1 399 l2 89 290 12 20 ⟨30,0,31,73⟩ l3 160 396 ⟨82,0,82,4⟩:=λw os=>by kernel_rfl
noncomputable def l4(P:Params):List Obj:=put 12 (fO (twelve.take 90)) (put 3 (JFD P 51 51 (.str "law_glideways_k31_whole_tracks" 504)) ((ob P).take 238))
theorem p3:PR 1 397 l3 160 396 32 16 ⟨82,0,82,4⟩ l4 238 506 ⟨139,0,139,8⟩:=λw os=>by kernel_rfl
noncomputable def l5(P:Params):List Obj:=put 12 (fO (twelve.take 129)) (put 3 (JFD P 64 64 (.str "law_glideways_k31_whole_tracks" 504)) ((ob P).take 329))
theorem p4:PR 1 398 l4 238 506 48 13 ⟨139,0,139,8⟩ l5 329 617 ⟨174,0,188,124⟩:=λw os=>by kernel_rfl
noncomputable def l6(P:Params):List Obj:=ob P
theorem p5:PR 1 234 l5 329 617 61 7 ⟨174,0,188,124⟩ l6 376 698 ⟨233,0,259,15⟩:=λw os=>by kernel_rfl
theorem pre(w:World)(os:OsState):topGo treeTable prog w 11 (some (.ref 6)) 12 ⟨boot_heap w.params,Array.mk [],boot_drawn,boot_toks,os⟩ (topStub prog)=some (sH (l0 w.params) 187 os,⟨denote treeTable (cdOf prog),cdOf prog,⟨0,0,0,0⟩,[topFrame rP]⟩):=by kernel_rfl
theorem blk(w:World)(os:OsState):segRun treeTable prog w 11 (some (.ref 6)) 1 1 (sH (l0 w.params) 187 os) (blockOf (behindTheImports prog) (envOf prog) (cdOf prog) ⟨0,0,0,0⟩ [topFrame rP])=some (.next,(sT (l0 w.params) 15 187 os).abs,cdOf prog,⟨0,0,0,0⟩):=by kernel_rfl
theorem fin(w:World)(os:OsState):topRun treeTable prog w 11 (some (.ref 6)) 2 (sT (l6 w.params) 376 698 os).abs ⟨doneF .next,cdOf prog,⟨233,0,259,15⟩,[topFrame rP]⟩=some (sH (l6 w.params) 698 os):=by kernel_rfl
theorem body:behindTheImports prog=(((prog.main.body.drop 0).take 3)++(((prog.main.body.drop 3).take 9)++(((prog.main.body.drop 12).take 20)++(((prog.main.body.drop 32).take 16)++(((prog.main.body.drop 48).take 13)++(((prog.main.body.drop 61).take 7)++[])))))):=by kernel_rfl
theorem rn(w:World)(os:OsState):topRun treeTable prog w 11 (some (.ref 6)) (12+(1+(409+(400+(399+(397+(398+(234+2)))))))) ⟨boot_heap w.params,Array.mk [],boot_drawn,boot_toks,os⟩ (topStub prog)=some (sH (l6 w.params) 698 os) :=
 go_top (pre w os) (piece_block (blk w os) (body▸(piece_app (segRun_of (p0 w os)) (piece_app (segRun_of (p1 w os)) (piece_app (segRun_of (p2 w os)) (piece_app (segRun_of (p3 w os)) (piece_app (segRun_of (p4 w os)) (piece_app (segRun_of (p5 w os)) (piece_nil (fin w os))))))))))
noncomputable def ktok:Nat:=698
noncomputable def view:Program:={ prog with main:={ prog.main with body:=[top 67] } }
noncomputable def loose:List Str:=(["GlideError","NoFrac","NoKind","ZERO","ONE","common_divisor","frac","whole","plus","minus","times","over","is_less","least_frac","most_frac","between","KINDS","is_kind","need_kind","kept_within","eased","START","GOAL","BEGIN","LONG","KIND","SPEEDS","KEPT","end_of","part_at","worth_at","kept_worth","FIRST","MOTIONS","begun_ahead","begun_by","worth_of","worth_ahead","worth_behind","edges","leaps_at","leaps","_law_cell","_law_pick","_law_divisor","_law_made","_law_frac","_law_size","_law_plus","_law_minus","_law_times","_law_over","_law_less","_law_kind","_law_eased","_law_motion","_law_worth","_law_time","_law_track","_law_any_time","_law_on"]:List String).map Str.ofString
noncomputable def K(P:Params):Frag:=(List.range 376).zip (ob P)
noncomputable def hk:Hook:=kHook K (List.range 376) (λ_=>by kernel_rfl)
theorem left:LeftO prog view loose (λs=>xlAt view [] s&&recOk (RowW.records PySem.Challenge.rw_glideways_k31_whole_tracks.row.toRowW) s) hk.obs hk.val 5188 true :=
 LeftO.of_pieces (H₀:=boot_heap) (H₁:=λP=>⟨(l6 P).toArray,{}⟩) (gs₀:=Array.mk []) (gs₁:=#[]) (d₀:=boot_drawn) (d₁:={}) (k₀:=boot_toks) (k₁:=ktok) (m₀:=11) (ann:=some (.ref 6))
  (boot_open (by kernel_rfl) (by decide) (λs=>by kernel_rfl)) (λw=>by kernel_rfl) (λw os=>rn w os) (by decide +kernel) (λw=>by kernel_rfl)
noncomputable def G:List (Str×GK):=[(("common_divisor":Str),GK.fn 0),(("frac":Str),GK.fn 1),(("whole":Str),GK.fn 2),(("plus":Str),GK.fn 3),(("minus":Str),GK.fn 4),(("times":Str),GK.fn 5),(("over":Str),GK.fn 25),(("is_less":Str),GK.fn 6),(("least_frac":Str),GK.fn 7),(("most_frac":Str),GK.fn 8),(("between":Str),GK.fn 10),(("is_kind":Str),GK.fn 29),(("need_kind":Str),GK.fn 30),(("kept_within":Str),GK.fn 31),(("eased":Str),GK.fn 32),(("end_of":Str),GK.fn 72),(("part_at":Str),GK.fn 46),(("worth_at":Str),GK.fn 48),(("kept_worth":Str),GK.fn 49),(("begun_ahead":Str),GK.fn 95),(("begun_by":Str),GK.fn 96),(("worth_of":Str),GK.fn 97),(("worth_ahead":Str),GK.fn 98),(("worth_behind":Str),GK.fn 99),(("edges":Str),GK.fn 100),(("leaps_at":Str),GK.fn 101),(("leaps":Str),GK.fn 102),(("_law_cell":Str),GK.fn 11),(("_law_pick":Str),GK.fn 12),(("_law_divisor":Str),GK.fn 13),(("_law_made":Str),GK.fn 14),(("_law_frac":Str),GK.fn 15),(("_law_size":Str),GK.fn 16),(("_law_plus":Str),GK.fn 17),(("_law_minus":Str),GK.fn 18),(("_law_times":Str),GK.fn 19),(("_law_over":Str),GK.fn 20),(("_law_less":Str),GK.fn 21),(("_law_kind":Str),GK.fn 35),(("_law_eased":Str),GK.fn 36),(("_law_motion":Str),GK.fn 51),(("_law_worth":Str),GK.fn 52),(("_law_time":Str),GK.fn 53),(("_law_track":Str),GK.fn 88),(("_law_any_time":Str),GK.fn 89),(("_law_on":Str),GK.fn 90),(("law":Str),GK.fn 103),(("ZERO":Str),GK.con 39),(("ONE":Str),GK.con 40),(("KINDS":Str),GK.con 41),(("START":Str),GK.con 55),(("GOAL":Str),GK.con 56),(("BEGIN":Str),GK.con 57),(("LONG":Str),GK.con 58),(("KIND":Str),GK.con 59),(("SPEEDS":Str),GK.con 60),(("KEPT":Str),GK.con 61),(("FIRST":Str),GK.con 93),(("MOTIONS":Str),GK.con 94),(("NoFrac":Str),GK.cls 1),(("NoKind":Str),GK.cls 2),(("len":Str),GK.blt Blt.len),(("abs":Str),GK.blt Blt.abs),(("range":Str),GK.rng),(("sorted":Str),GK.nam),(("set":Str),GK.nam),(("tuple":Str),GK.ty Ty.tuple),((".srt":Str),GK.opt),((".ssk":Str),GK.opt)]
instance:Cool G:=⟨by kernel_rfl⟩
noncomputable abbrev tab:Nat->Option Fd:=tabA
noncomputable abbrev glo:Nat->R D:=gloA
theorem JHW:∀i c,glo i≠.exc c:=by
 intro i c h;unfold glo gloA at h
 split at h<;>cases h
noncomputable def rs:List (Nat×List Nat):=[]
noncomputable def cl(k:Nat):Addr:=match k with|1=>37|2=>49|_=>0
noncomputable def pm0:Value:=.str "glideways.fracs" 239
noncomputable def pm1:Value:=.str "glideways.kinds" 341
noncomputable def pm2:Value:=.str "glideways.motions" 380
noncomputable def pm3:Value:=.str "glideways.tracks" 433
noncomputable def pm4:Value:=.str "law_glideways_k31_whole_tracks" 504
theorem JNb:Turned G (top 67) ["_law_script","_law_track_here","_law_due","_law_start","_law_goal","_law_begin","_law_long","_law_kind_here","_law_speeds","_law_told","_law_falls","_law_small","_law_k","_law_time_here","_law_here","_law_ahead","_law_behind","_law_side","_law_by","_law_far"] ["_law_script"] JI8:=tuI
theorem JBT:JFe "law" (top 67) ["_law_script"]:=bOk λ_ _ _ _ _ _ _=>rfl
theorem JNl(P:Params):FnIn (K P) "law" (top 67):=fnI 375 374 (.str "law_glideways_k31_whole_tracks" 504)
theorem JOn{w:World}{h:Heap}{mg:Mq}(X:(K w.params).In h)(Gm:h.Ns mainGlobals mg):∀d,glo 39=.ok d->∃u v,mg "ZERO"=some u/\RelV v u/\∀H,Den ⟨K w.params,cl,w⟩ H d v:=JA8 X Gm (by kernel_rfl) rfl
theorem k_ONE{w:World}{h:Heap}{mg:Mq}(X:(K w.params).In h)(Gm:h.Ns mainGlobals mg):∀d,glo 40=.ok d->∃u v,mg "ONE"=some u/\RelV v u/\∀H,Den ⟨K w.params,cl,w⟩ H d v:=JA8 X Gm (by kernel_rfl) rfl
theorem JM2{w:World}{h:Heap}{mg:Mq}(X:(K w.params).In h)(Gm:h.Ns mainGlobals mg):∀d,glo 41=.ok d->∃u v,mg "KINDS"=some u/\RelV v u/\∀H,Den ⟨K w.params,cl,w⟩ H d v:=JA8 X Gm (by kernel_rfl) rfl
theorem JMB{w:World}{h:Heap}{mg:Mq}(X:(K w.params).In h)(Gm:h.Ns mainGlobals mg):∀d,glo 55=.ok d->∃u v,mg "START"=some u/\RelV v u/\∀H,Den ⟨K w.params,cl,w⟩ H d v:=JA8 X Gm (by kernel_rfl) rfl
theorem JQW{w:World}{h:Heap}{mg:Mq}(X:(K w.params).In h)(Gm:h.Ns mainGlobals mg):∀d,glo 56=.ok d->∃u v,mg "GOAL"=some u/\RelV v u/\∀H,Den ⟨K w.params,cl,w⟩ H d v:=JA8 X Gm (by kernel_rfl) rfl
theorem JMn{w:World}{h:Heap}{mg:Mq}(X:(K w.params).In h)(Gm:h.Ns mainGlobals mg):∀d,glo 57=.ok d->∃u v,mg "BEGIN"=some u/\RelV v u/\∀H,Den ⟨K w.params,cl,w⟩ H d v:=JA8 X Gm (by kernel_rfl) rfl
theorem JPc{w:World}{h:Heap}{mg:Mq}(X:(K w.params).In h)(Gm:h.Ns mainGlobals mg):∀d,glo 58=.ok d->∃u v,mg "LONG"=some u/\RelV v u/\∀H,Den ⟨K w.params,cl,w⟩ H d v:=JA8 X Gm (by kernel_rfl) rfl
theorem JN8{w:World}{h:Heap}{mg:Mq}(X:(K w.params).In h)(Gm:h.Ns mainGlobals mg):∀d,glo 59=.ok d->∃u v,mg "KIND"=some u/\RelV v u/\∀H,Den ⟨K w.params,cl,w⟩ H d v:=JA8 X Gm (by kernel_rfl) rfl
theorem JI1{w:World}{h:Heap}{mg:Mq}(X:(K w.params).In h)(Gm:h.Ns mainGlobals mg):∀d,glo 60=.ok d->∃u v,mg "SPEEDS"=some u/\RelV v u/\∀H,Den ⟨K w.params,cl,w⟩ H d v:=JA8 X Gm (by kernel_rfl) rfl
theorem JPQ{w:World}{h:Heap}{mg:Mq}(X:(K w.params).In h)(Gm:h.Ns mainGlobals mg):∀d,glo 61=.ok d->∃u v,mg "KEPT"=some u/\RelV v u/\∀H,Den ⟨K w.params,cl,w⟩ H d v:=JA8 X Gm (by kernel_rfl) rfl
theorem JMj{w:World}{h:Heap}{mg:Mq}(X:(K w.params).In h)(Gm:h.Ns mainGlobals mg):∀d,glo 93=.ok d->∃u v,mg "FIRST"=some u/\RelV v u/\∀H,Den ⟨K w.params,cl,w⟩ H d v:=JA8 X Gm (by kernel_rfl) rfl
theorem JHh{w:World}{h:Heap}{mg:Mq}(X:(K w.params).In h)(Gm:h.Ns mainGlobals mg):∀d,glo 94=.ok d->∃u v,mg "MOTIONS"=some u/\RelV v u/\∀H,Den ⟨K w.params,cl,w⟩ H d v:=JA8 X Gm (by kernel_rfl) rfl
theorem mo(w:World){h:Heap}{mg:Mq}(X:(K w.params).In h)(Gm:h.Ns mainGlobals mg):AllP (MoP mg ⟨K w.params,cl,w⟩ G tab glo) G :=
 ⟨⟨_,rfl,dI X Gm 60 59 pm0 (top 7) ["one","other","found","rest","left"] ["one","other"] λ_ _ _ _ _ _ _ _=>rfl⟩,⟨_,rfl,dI X Gm 67 66 pm0 (top 8) ["up","down","divisor"] ["up","down"] λ_ _ _ _ _ _ _ _=>rfl⟩,⟨_,rfl,dI X Gm 74 73 pm0 (top 9) ["number"] ["number"] λ_ _ _ _ _ _ _=>rfl⟩,⟨_,rfl,dI X Gm 81 80 pm0 (top 10) ["one","other"] ["one","other"] λ_ _ _ _ _ _ _ _=>rfl⟩,⟨_,rfl,dI X Gm 88 87 pm0 (top 11) ["one","other"] ["one","other"] λ_ _ _ _ _ _ _ _=>rfl⟩,⟨_,rfl,dI X Gm 95 94 pm0 (top 12) ["one","other"] ["one","other"] λ_ _ _ _ _ _ _ _=>rfl⟩,⟨_,rfl,dI X Gm 102 101 pm0 (top 13) ["one","other"] ["one","other"] λ_ _ _ _ _ _ _ _=>rfl⟩,⟨_,rfl,dI X Gm 109 108 pm0 (top 14) ["one","other"] ["one","other"] λ_ _ _ _ _ _ _ _=>rfl⟩,⟨_,rfl,dI X Gm 116 115 pm0 (top 15) ["some","least","one"] ["some"] λ_ _ _ _ _ _ _=>rfl⟩,⟨_,rfl,dI X Gm 123 122 pm0 (top 16) ["some","most","one"] ["some"] λ_ _ _ _ _ _ _=>rfl⟩,⟨_,rfl,dI X Gm 130 129 pm0 (top 17) ["one","other","part"] ["one","other","part"] λ_ _ _ _ _ _ _ _ _=>rfl⟩,⟨_,rfl,dI X Gm 138 137 pm1 (top 20) ["thing"] ["thing"] λ_ _ _ _ _ _ _=>rfl⟩,⟨_,rfl,dI X Gm 145 144 pm1 (top 21) ["kind"] ["kind"] λ_ _ _ _ _ _ _=>rfl⟩,⟨_,rfl,dI X Gm 152 151 pm1 (top 22) ["part"] ["part"] λ_ _ _ _ _ _ _=>rfl⟩,⟨_,rfl,dI X Gm 159 158 pm1 (top 23) ["kind","part","p"] ["kind","part"] λ_ _ _ _ _ _ _ _=>rfl⟩,⟨_,rfl,dI X Gm 166 165 pm2 (top 32) ["motion"] ["motion"] λ_ _ _ _ _ _ _=>rfl⟩,⟨_,rfl,dI X Gm 173 172 pm2 (top 33) ["motion","time"] ["motion","time"] λ_ _ _ _ _ _ _ _=>rfl⟩,⟨_,rfl,dI X Gm 180 179 pm2 (top 34) ["motion","time","part"] ["motion","time"] λ_ _ _ _ _ _ _ _=>rfl⟩,⟨_,rfl,dI X Gm 187 186 pm2 (top 35) ["motion","p","square","cube","by_first","by_last","by_speeds"] ["motion","p"] λ_ _ _ _ _ _ _ _=>rfl⟩,⟨_,rfl,dI X Gm 192 191 pm3 (top 39) ["track","time"] ["track","time"] λ_ _ _ _ _ _ _ _=>rfl⟩,⟨_,rfl,dI X Gm 197 196 pm3 (top 40) ["track","time"] ["track","time"] λ_ _ _ _ _ _ _ _=>rfl⟩,⟨_,rfl,dI X Gm 204 203 pm3 (top 41) ["track","time","begun"] ["track","time"] λ_ _ _ _ _ _ _ _=>rfl⟩,⟨_,rfl,dI X Gm 211 210 pm3 (top 42) ["track","time","begun","motion"] ["track","time"] λ_ _ _ _ _ _ _ _=>rfl⟩,⟨_,rfl,dI X Gm 218 217 pm3 (top 43) ["track","time","begun","motion"] ["track","time"] λ_ _ _ _ _ _ _ _=>rfl⟩,⟨_,rfl,dI X Gm 225 224 pm3 (top 44) ["track","found","motion"] ["track"] λ_ _ _ _ _ _ _=>rfl⟩,⟨_,rfl,dI X Gm 232 231 pm3 (top 45) ["track","time","worth"] ["track","time"] λ_ _ _ _ _ _ _ _=>rfl⟩,⟨_,rfl,dI X Gm 237 236 pm3 (top 46) ["track"] ["track"] λ_ _ _ _ _ _ _=>rfl⟩,⟨_,rfl,dI X Gm 244 243 pm4 (top 48) ["_law_script","_law_k"] ["_law_script","_law_k"] λ_ _ _ _ _ _ _ _=>rfl⟩,⟨_,rfl,dI X Gm 251 250 pm4 (top 49) ["_law_script","_law_k","_law_many","_law_drawn"] ["_law_script","_law_k","_law_many"] λ_ _ _ _ _ _ _ _ _=>rfl⟩,⟨_,rfl,dI X Gm 258 257 pm4 (top 50) ["_law_one","_law_other"] ["_law_one","_law_other"] λ_ _ _ _ _ _ _ _=>rfl⟩,⟨_,rfl,dI X Gm 265 264 pm4 (top 51) ["_law_up","_law_down","_law_size_here"] ["_law_up","_law_down"] λ_ _ _ _ _ _ _ _=>rfl⟩,⟨_,rfl,dI X Gm 272 271 pm4 (top 52) ["_law_script","_law_at","_law_down"] ["_law_script","_law_at"] λ_ _ _ _ _ _ _ _=>rfl⟩,⟨_,rfl,dI X Gm 279 278 pm4 (top 53) ["_law_script","_law_at","_law_down"] ["_law_script","_law_at"] λ_ _ _ _ _ _ _ _=>rfl⟩,⟨_,rfl,dI X Gm 286 285 pm4 (top 54) ["_law_one","_law_other"] ["_law_one","_law_other"] λ_ _ _ _ _ _ _ _=>rfl⟩,⟨_,rfl,dI X Gm 293 292 pm4 (top 55) ["_law_one","_law_other"] ["_law_one","_law_other"] λ_ _ _ _ _ _ _ _=>rfl⟩,⟨_,rfl,dI X Gm 300 299 pm4 (top 56) ["_law_one","_law_other"] ["_law_one","_law_other"] λ_ _ _ _ _ _ _ _=>rfl⟩,⟨_,rfl,dI X Gm 307 306 pm4 (top 57) ["_law_one","_law_other"] ["_law_one","_law_other"] λ_ _ _ _ _ _ _ _=>rfl⟩,⟨_,rfl,dI X Gm 314 313 pm4 (top 58) ["_law_one","_law_other"] ["_law_one","_law_other"] λ_ _ _ _ _ _ _ _=>rfl⟩,⟨_,rfl,dI X Gm 321 320 pm4 (top 59) ["_law_script","_law_at"] ["_law_script","_law_at"] λ_ _ _ _ _ _ _ _=>rfl⟩,⟨_,rfl,dI X Gm 328 327 pm4 (top 60) ["_law_kind_here","_law_part","_law_up","_law_down"] ["_law_kind_here","_law_part"] λ_ _ _ _ _ _ _ _=>rfl⟩,⟨_,rfl,dI X Gm 335 334 pm4 (top 61) ["_law_script","_law_at","_law_begin","_law_kind_here","_law_speeds"] ["_law_script","_law_at","_law_begin"] λ_ _ _ _ _ _ _ _ _=>rfl⟩,⟨_,rfl,dI X Gm 342 341 pm4 (top 62) ["_law_motion_here","_law_time_here","_law_start","_law_goal","_law_begin","_law_long","_law_kind_here","_law_speeds","_law_part","_law_made_here","_law_rest","_law_first","_law_last","_law_more"] ["_law_motion_here","_law_time_here"] λ_ _ _ _ _ _ _ _=>rfl⟩,⟨_,rfl,dI X Gm 349 348 pm4 (top 63) ["_law_script","_law_at","_law_motion_here","_law_part"] ["_law_script","_law_at","_law_motion_here"] λ_ _ _ _ _ _ _ _ _=>rfl⟩,⟨_,rfl,dI X Gm 356 355 pm4 (top 64) ["_law_script","_law_at","_law_most","_law_worth_here","_law_time_here","_law_made_here","_law_k","_law_base","_law_motion_here"] ["_law_script","_law_at","_law_most"] λ_ _ _ _ _ _ _ _ _=>rfl⟩,⟨_,rfl,dI X Gm 363 362 pm4 (top 65) ["_law_script","_law_at","_law_track_here"] ["_law_script","_law_at","_law_track_here"] λ_ _ _ _ _ _ _ _ _=>rfl⟩,⟨_,rfl,dI X Gm 370 369 pm4 (top 66) ["_law_track_here","_law_time_here","_law_made_here","_law_motion_here"] ["_law_track_here","_law_time_here"] λ_ _ _ _ _ _ _ _=>rfl⟩,⟨_,rfl,(JNl w.params).at X Gm JBT JNb⟩,JOn X Gm,k_ONE X Gm,JM2 X Gm,JMB X Gm,JQW X Gm,JMn X Gm,JPc X Gm,JN8 X Gm,JI1 X Gm,JPQ X Gm,JMj X Gm,JHh X Gm,⟨⟨by kernel_rfl,by kernel_rfl,by kernel_rfl⟩,mg_of X Gm (by kernel_rfl)⟩,⟨⟨by kernel_rfl,by kernel_rfl,by kernel_rfl⟩,mg_of X Gm (by kernel_rfl)⟩,mg_none_of X Gm (by kernel_rfl),mg_none_of X Gm (by kernel_rfl),mg_none_of X Gm (by kernel_rfl),mg_none_of X Gm (by kernel_rfl),mg_none_of X Gm (by kernel_rfl),mg_none_of X Gm (by kernel_rfl),trivial,trivial,trivial⟩
theorem ra(w:World):AllR (RaP ⟨K w.params,cl,w⟩ G) rs :=
 trivial
theorem walk{d:DefRec}(hd:d.name="law")(hdf:d.params.defaults=[]):WalkO view loose (XL view []) hk.says PySem.Challenge.rw_glideways_k31_whole_tracks.row.toRowW d [] (λf vs=>PySem.call f vs) :=
 L2.walk_of (l:=PySem.Challenge.rw_glideways_k31_whole_tracks) (n:=63) (k:=12) (x:="_law_script") (K:=K) (CX:=λ_=>CX0) (sp:=λw=>JMp (K w.params)) rfl (by decide) hdf ⟨rfl,by decide,by decide⟩ (λw h Y=>kIn_of Y)
  (by rw[hd];exact λw mg fa h KX Gm hmg=>JQn (cl:=cl) (tab:=tab) (glo:=glo) (sub:=JFB rs) KX Gm hmg (JNl w.params) JNb JBT (by kernel_rfl) rfl (λbase kb nb=>mo_of (mo w kb nb) (ra w) JHW) (λn=>⟨JL6 (JOW (mo w KX Gm) (ra w)) (by kernel_rfl) (by kernel_rfl) (by kernel_rfl) (d_no (by kernel_rfl)) (λk z=>by cases k with|rev=>exact x_no (by kernel_rfl) z|enm=>exact x_no (by kernel_rfl) z|srt=>exact x_srt|zip=>exact x_no (by kernel_rfl) z|sst=>exact x_no (by kernel_rfl) z|dvs=>exact x_no (by kernel_rfl) z|dit=>exact x_no (by kernel_rfl) z|dls=>exact x_no (by kernel_rfl) z|dcp=>exact x_no (by kernel_rfl) z|dnw=>exact x_no (by kernel_rfl) z|din=>exact x_no (by kernel_rfl) z|dni=>exact x_no (by kernel_rfl) z|deq=>exact x_no (by kernel_rfl) z|dne=>exact x_no (by kernel_rfl) z|dtk=>exact x_no (by kernel_rfl) z|sts=>exact x_no (by kernel_rfl) z|dpr=>exact x_no (by kernel_rfl) z|mx2=>exact x_no (by kernel_rfl) z|ssk=>exact x_ssk) ⟨nofl (by kernel_rfl),nofl (by kernel_rfl),nofl (by kernel_rfl),nofl (by kernel_rfl),nofl (by kernel_rfl)⟩,⟨nofl (by kernel_rfl),nofl (by kernel_rfl),nofl (by kernel_rfl)⟩,nofl (by kernel_rfl)⟩) (λ_ _ _ _ _ _ _ _=>.of_eq rfl) (λns hl=>JJ5 (n:=0) ns))
  (λ_ _ a ns hl _ hS=>⟨a,ns,rfl,hl,hS,λ_=>rfl⟩) λ_ _ _ _ _ z=>z
end V31
open PySem PySem.W PyProof.Rows
set_option maxRecDepth 100000 in
set_option maxHeartbeats 0 in
theorem PySem.Challenge.cw_glideways_k31_whole_tracks_holds : PySem.Challenge.rw_glideways_k31_whole_tracks.Holds := by
 w_on
 refine holds_law V31.said λsaid=>?_;refine holds_open (q:=V31.view) (loose:=V31.loose) (XP:=XL V31.view []) (Yf:=V31.hk.obs) (Ya:=V31.hk.val) (YP:=V31.hk.says) V31.left V31.hk.of V31.hk.keeps (λs e=>xl_of s (Bool.and_eq_true_iff.mp e).1) XL.keeps (by rfl) (by rfl) (by rfl) (λs e=>recFacts_of (Bool.and_eq_true_iff.mp e).2) (by rfl) (by first|assumption|decide +kernel) (by decide +kernel) ⟨rfl,rfl,rfl,rfl,rfl,by decide +kernel⟩ ?hw (V31.walk rfl rfl)
 case hw=>w_witness2
end
