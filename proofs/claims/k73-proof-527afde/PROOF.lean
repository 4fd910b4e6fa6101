import PyProof.Rows.All
import Wide.All
import OpenK.AllK
import Wide.FinOn
import Lean
import PyProof.EqAt
import PyProof.EqKinds
import PyProof.TupleCall
import KE.KIsAll
import KE.KRevIter
import KE.KTryMore
import OpenK.KRaise
import PyProof.CompFree
import PyProof.ConsumeWalk
import PyProof.ExcAttrAll.ValueError
import PyProof.FactsAll.list_3
import PyProof.FactsAll.tuple_2
import PyProof.Fits
import PyProof.Lay0
import PyProof.P3Statements
import PyProof.Rows.SortStr
import PySem.Eval
import PySem.Challenge.RW_glideways_k73_whole_forth_and_back
set_option genSizeOf false
local macro_rules|`(tactic|simp![$ts,*])=>`(tactic|simp only [$ts,*])|`(tactic|simp![$ts,*]$l:location)=>`(tactic|simp only [$ts,*]$l)
def fF{p:Prop}(h:False):p:=h.elim
@[reducible]def Pq:=List (PySem.Addr×PySem.Obj)
@[reducible]def Nq:=List (PySem.Str×PySem.NameKind)
@[reducible]def Mq:=PySem.Str->Option PySem.Value
@[reducible]def Vq:=PySem.Value->PySem.Shared->Prop
@[reducible]def Kq:=PySem.W.Frag
def q_a:=@Option.bind_eq_some_iff
def q_b:=@PySem.wpAny_bind
def q_c:=@PySem.Heap.get?_push_of_some
def q_d:=@Option.map_eq_some_iff
def q_e:=@PySem.wpAny_pure
def q_f:=@List.size_toArray
def q_g:=@List.length_map
def q_h:=@PySem.Heap.lt_size
def q_i:=@Bool.and_eq_true
def q_j:=@Option.some.injEq
def q_k:=@PySem.Heap.get?_push_size
def q_l:=@Nat.ne_of_lt
def q_m:=@Nat.lt_of_lt_of_le
def q_n:=@List.mem_cons
def q_o:=@decide_eq_false
def q_p:=@List.getElem?_eq_some_iff
def q_q:=@List.getElem?_eq_getElem
def q_r:=@List.mem_append_right
def q_s:=@List.mem_cons_of_mem
def q_t:=@Nat.le_refl
def q_u:=@List.length_append
def q_v:=@Bool.false_eq_true
def q_x:=@List.filter_cons_of_neg
def q_y:=@List.filter_cons_of_pos
def q_z:=@List.getElem?_set_self
def q_A:=@List.getElem?_set_ne
def q_B:=@List.length_eq_zero_iff
def q_C:=@List.getElem?_append_left
def q_D:=@decide_eq_true_eq
def q_F:=@Array.length_toList
local macro_rules(kind:=Lean.Parser.Command.declaration)|x=>do
 if x[1].isOfKind ``Lean.Parser.Command.abbrev&&x[0].getArgs.all (·.isNone) then
  let y<-`(command|noncomputable def a:=0)
  return y.raw.setArg 1 (y.raw[1].setArgs (#[y.raw[1][0]]++x[1].getArgs.extract 1 4++#[y.raw[1][4]]))
 else Lean.Macro.throwUnsupported
local macro_rules|`(#[$t,*])=>if t.getElems.isEmpty then Lean.Macro.throwUnsupported else`(⟨$t,*⟩)
local macro_rules|`(∅)=>`(by omega)
set_option Elab.async false
set_option compiler.extract_closed false
set_option bootstrap.genMatcherCode false
set_option maxRecDepth 100000 in set_option maxHeartbeats 0 in theorem V73.said:PySem.Challenge.rw_glideways_k73_whole_forth_and_back.wellSaid=true:=by kernel_rfl
set_option maxRecDepth 100000
set_option Elab.async false
set_option linter.all false
namespace L2
open PySem PySem.Spec PyProof.Rows
noncomputable abbrev Key:=Sum Int Str
abbrev JLl:Key->Value->Bool
 |.inl k,v=>Value.isInt k v
 |.inr x,v=>Value.isStrOf x v
abbrev keyH(w:World):Key->Int
 |.inl k=>hashInt k
 |.inr x=>hashStr w x
def JAa:∀ {k:Key}{v:Value},JLl k v=true->(∃i t,k=Sum.inl i/\v=Value.int i t)\/(∃x t,k=Sum.inr x/\v=Value.str x t)
 |.inl i,v,h=>by
  obtain⟨t,e⟩:=Value.isInt_shape (k:=i) (v:=v) h;exact .inl #[i,t,rfl,e]
 |.inr x,v,h=>by
  obtain⟨t,e⟩:=Value.isStrOf_shape (x:=x) (v:=v) h;exact .inr #[x,t,rfl,e]
def JId(x:Str)(t:Tok):JLl (.inr x) (.str x t)=true:=by simp[JLl,Value.isStrOf]
def JQB(a b:Int):decide ((Sum.inl a:Key)=Sum.inl b)=(a==b):=by
 by_cases e:a=b
 ·subst e;simp
 ·have h:¬(Sum.inl a:Key)=Sum.inl b:=λq=>e (Sum.inl.inj q);rw[q_o h];exact(beq_eq_false_iff_ne.mpr e).symm
def JPo(a b:Str):decide ((Sum.inr a:Key)=Sum.inr b)=decide (a=b):=by
 by_cases e:a=b
 ·subst e;simp
 ·have h:¬(Sum.inr a:Key)=Sum.inr b:=λq=>e (Sum.inr.inj q);rw[q_o h,q_o e]
def JPk(a:Int)(b:Str):decide ((Sum.inl a:Key)=Sum.inr b)=false:=q_o (λq=>nomatch q)
def JSI(a:Str)(b:Int):decide ((Sum.inr a:Key)=Sum.inl b)=false:=q_o (λq=>nomatch q)
abbrev JBN(prog:Program)(w:World):PySem.KeyKind prog w Key where
 is:=JLl
 hash:=keyH w
 inj:=λv a b ha hb=>by
  rcases JAa ha with ⟨i,t,rfl,rfl⟩|⟨x,t,rfl,rfl⟩
  ·rcases JAa hb with ⟨j,u,rfl,e⟩|⟨y,u,rfl,e⟩
   ·injection e with e1 _;rw[e1]
   ·exact nomatch e
  ·rcases JAa hb with ⟨j,u,rfl,e⟩|⟨y,u,rfl,e⟩
   ·exact nomatch e
   ·injection e with e1 _;rw[e1]
 byValue:=λk v h=>by
  rcases JAa h with ⟨i,t,rfl,rfl⟩|⟨x,t,rfl,rfl⟩<;>rfl
 pyHash:=λhv h=>by
  rcases JAa hv with ⟨i,t,rfl,rfl⟩|⟨x,t,rfl,rfl⟩
  ·exact wpAny_pyHash_int h
  ·exact wpAny_pyHash_str h
 eqBool:=λhu hv h=>by
  rcases JAa hu with ⟨i,t,rfl,rfl⟩|⟨x,t,rfl,rfl⟩
  ·rcases JAa hv with ⟨j,u,rfl,rfl⟩|⟨y,u,rfl,rfl⟩
   ·rw[JQB]at h;exact wpAny_eqBool_int h
   ·rw[JPk]at h;exact SeqAt.EqAt.int_str i t y u _ _ _ _ h
  ·rcases JAa hv with ⟨j,u,rfl,rfl⟩|⟨y,u,rfl,rfl⟩
   ·rw[JSI]at h;exact SeqAt.EqAt.str_int x t j u _ _ _ _ h
   ·rw[JPo]at h;exact wpAny_eqBool_str h
 «strs»:=λk x t v h=>by
  rcases JAa h with ⟨i,u,rfl,e⟩|⟨y,u,rfl,e⟩
  ·exact nomatch e
  ·injection e with e1 _
   subst e1;cases v<;>rfl
def JCw(prog:Program)(w:World)(x:Str)(t:Tok):(JBN prog w).is (.inr x) (.str x t)=true:=JId x t
end L2
namespace L2
open PySem PySem.Spec PyProof.Rows
inductive V where
 |non|bl (b:Bool)|int (i:Int)|str (x:Str)|byt (b:Array UInt8)|flt (b:UInt64)|ref (a:Addr)|ty (n:String)
 deriving DecidableEq
def RelV:V->Value->Prop
 |.non,u=>u=Value.none
 |.bl b,u=>u=Value.bool b
 |.int i,u=>∃t,u=Value.int i t
 |.str x,u=>∃t,u=Value.str x t
 |.byt b,u=>∃t,u=Value.bytes b t
 |.flt b,u=>∃t,u=Value.float b t
 |.ref a,u=>u=Value.ref a
 |.ty n,u=>u=Value.type n
@[reducible]def Vals:List V->List Value->Prop:=Paired RelV
theorem Vals.length{xs:List V}{us:List Value}(r:Vals xs us):xs.length=us.length:=Paired.length r
theorem Vals.get:∀ {xs:List V}{us:List Value}{i:Nat}{x:V},Vals xs us->xs[i]? = some x->∃u,us[i]? = some u/\RelV x u
 |_,_,_,_,.nil,e=>by simp at e
 |_,_,0,_,.cons r _,e=>by simp at e;subst e;exact#[_,rfl,r]
 |_,_,i+1,x,.cons _ t,e=>by
  obtain⟨u,h1,h2⟩:=Vals.get (i:=i) (x:=x) t (by simpa using e)
  exact#[u,by simpa using h1,h2]
theorem Vals.append:∀ {xs ys:List V}{us ws:List Value},Vals xs us->Vals ys ws->Vals (xs++ys) (us++ws)
 |_,_,_,_,.nil,s=>s
 |_,_,_,_,.cons r t,s=>.cons r (Vals.append t s)
theorem Vals.take:∀ {xs:List V}{us:List Value}(n:Nat),Vals xs us->Vals (xs.take n) (us.take n)
 |_,_,0,_=>.nil
 |_,_,_+1,.nil=>.nil
 |_,_,n+1,.cons r t=>.cons r (Vals.take n t)
theorem Vals.drop:∀ {xs:List V}{us:List Value}(n:Nat),Vals xs us->Vals (xs.drop n) (us.drop n)
 |_,_,0,r=>r
 |_,_,_+1,.nil=>.nil
 |_,_,n+1,.cons _ t=>Vals.drop n t
def RelO:Option V->Option Value->Prop
 |some v,some u=>RelV v u
 |none,none=>True
 |_,_=>False
def KV{κ:Type}:List (κ×V)->List (κ×Value)->Prop:=Paired λ(p:κ×V) (q:κ×Value)=>p.1=q.1/\RelV p.2 q.2
abbrev kV:Key->V
 |.inl i=>.int i
 |.inr x=>.str x
inductive HO where
 |lst (xs:List V)
 |tup (xs:List V)
 |dK (kvs:List (Key×V))|dT (kvs:List (List Key×V))
 |set (S:Int->Bool) (n:Nat)
 |ins (C dx:Addr) (fs:List (Str×V))
 |own (x:Addr)
 |xd (fs:List (Str×V))
 |met (f x:Addr)
 |rng (lo hi:Int)
 |frz (o:Obj) (u:HO)
 |tbl (ps:Array Value)
 |ext (φ:Heap->Prop)
noncomputable abbrev Hp:=Addr->Option HO
abbrev upd(H:Hp)(a:Addr)(o:HO):Hp:=λb=>if b=a then some o else H b
def JAH{H:Hp}{a:Addr}{o:HO}:upd H a o a=some o:=by unfold upd;rw[if_pos rfl]
def JAJ{H:Hp}{a b:Addr}{o:HO}(h:b≠a):upd H a o b=H b:=by unfold upd;rw[if_neg h]
def JJj{a:Addr}:upd (upd H a o) a u=upd H a u:=by
 funext b;unfold upd;split<;>rfl
def JAU{H:Hp}{a b:Addr}{o:HO}(h:H a=some o)(h':H b=none):a≠b:=by
 intro e;subst e;rw[h]at h';cases h'
section
variable(P:Program)(w:World)
def ObjOk(H:Hp)(h:Heap)(a:Addr):HO->Prop
 |.lst xs=>xs.length<=sizeLine/\∃(its:List Value) (n:Nat),Vals xs its/\h.get? a=some { cls:=.type "list",data:=.seq its.toArray n }
 |.tup xs=>xs.length<=sizeLine/\∃its:List Value,Vals xs its/\IsTup h a its.toArray
 |.dK kvs=>kvs.length<=sizeLine/\(a==sysModules)=false/\∃vs,KV kvs vs/\h.DictOf (JBN P w) a vs
 |.dT kvs=>kvs.length<=sizeLine/\(a==sysModules)=false/\∃xs:List (List Key×Addr×Value),
  Paired (λ(p:List Key×V) (q:List Key×Addr×Value)=>p.1=q.1/\H q.2.1=some (.tup (p.1.map kV))/\RelV p.2 q.2.2) kvs xs /\
  ∃o es ep,h.get? a=some o/\o.ExactDict/\o.data=.dict es ep/\es.toList=xs.map (entryOfKey (tupleKind (JBN P w)))/\(xs.map (·.1)).Nodup
 |.set S n=>h.SetOf (intKind P w) a S n
 |.ins C dx fs=>H dx=some (.own a)/\fs.length<=1000/\dx≠a/\h.get? a=some (PySem.W.instObj C dx) /\
  ∃mA,h.Ns1 dx mA/\(∀f,RelO (fs.lookup f) (mA f))/\PySem.Within mA (fs.map (·.1))
 |.own _=>∃o,h.get? a=some o
 |.xd fs=>∃mA,h.Ns1 a mA/\∀f,RelO (fs.lookup f) (mA f)
 |.rng lo hi=>∃t u v,h.get? a=some { cls:=.type "range",data:=.fields (List.toArray [.int lo t,.int hi u,.int 1 v]) }
 |.frz o u=>h.get? a=some o/\ObjOk H h a u
 |.tbl ps=>h.get? a=some { cls:=.none,data:=.fields ps }
 |.met f x=>h.get? a=some (PySem.W.methodObj (.ref f) (.ref x))
 |.ext φ=>φ h/\(∃o,h.get? a=some o)/\∀h1 h2:Heap,φ h1->(∀o,h1.get? a=some o->h2.get? a=some o)->φ h2
def HOk(H:Hp)(h:Heap):Prop:=∀a o,H a=some o->ObjOk P w H h a o
end
section
variable{P:Program}{w:World}{H H':Hp}{h h':Heap}{a:Addr}{o:HO}
theorem ObjOk.lt(x:ObjOk P w H h a o):a<h.objs.size:=by
 cases o with
 |lst xs=>obtain⟨_,_,_,_,e⟩:=x;exact q_h e
 |tup xs=>obtain⟨_,_,_,p⟩:=x;exact p.lt
 |dK kvs=>obtain⟨_,_,_,_,o,_,_,e,_⟩:=x;exact q_h e
 |dT kvs=>obtain⟨_,_,_,_,o,_,_,e,_⟩:=x;exact q_h e
 |set S n=>obtain⟨o,_,_,_,e,_⟩:=x;exact q_h e
 |ins C dx fs=>obtain⟨_,_,_,e,_⟩:=x;exact q_h e
 |own y=>obtain⟨_,e⟩:=x;exact q_h e
 |xd fs=>obtain⟨_,⟨_,_,_,e,_⟩,_⟩:=x;exact q_h e
 |rng lo hi=>obtain⟨_,_,_,e⟩:=x;exact q_h e
 |frz ob u=>obtain⟨e,_⟩:=x;exact q_h e
 |tbl ps=>exact q_h (show h.get? a=some _ from x)
 |met f y=>exact q_h (show h.get? a=some _ from x)
 |ext φ=>obtain⟨_,⟨_,e⟩,_⟩:=x;exact q_h e
theorem Paired.mapP{α β:Type}{F G:α->β->Prop}:∀ {l₁:List α}{l₂:List β},Paired F l₁ l₂->(∀a b,F a b->G a b)->Paired G l₁ l₂
 |_,_,.nil,_=>.nil
 |_,_,.cons r t,f=>.cons (f _ _ r) (Paired.mapP t f)
def ObjOk.stay(x:ObjOk P w H h a o)(k:∀b u,(b=a\/H b=some (.own a))->h.get? b=some u->h'.get? b=some u)
  (ho:∀b,H b=some (.own a)->H' b=some (.own a)) (ht:∀b xs,H b=some (.tup xs)->H' b=some (.tup xs)):ObjOk P w H' h' a o:=by
 induction o with
 |lst xs=>obtain⟨z,its,n,r,e⟩:=x;exact#[z,its,n,r,k _ _ (.inl rfl) e]
 |tup xs=>obtain⟨z,its,r,ob,e,c⟩:=x;exact#[z,its,r,ob,k _ _ (.inl rfl) e,c]
 |dK kvs=>obtain⟨z,y,vs,r,ob,es,ep,e,c⟩:=x;exact#[z,y,vs,r,ob,es,ep,k _ _ (.inl rfl) e,c]
 |dT kvs =>
  obtain⟨z,y,xs,r,ob,es,ep,e,c⟩:=x;exact#[z,y,xs,Paired.mapP r λp q z=>#[z.1,ht _ _ z.2.1,z.2.2],ob,es,ep,k _ _ (.inl rfl) e,c]
 |set S n=>obtain⟨ob,es,ep,t,e,c⟩:=x;exact#[ob,es,ep,t,k _ _ (.inl rfl) e,c]
 |ins C dx fs =>
  obtain⟨d,z,ne,e,mA,⟨od,es,ep,e2,c⟩,r⟩:=x;exact#[ho _ d,z,ne,k _ _ (.inl rfl) e,mA,#[od,es,ep,k _ _ (.inr d) e2,c],r]
 |own y=>obtain⟨ob,e⟩:=x;exact#[ob,k _ _ (.inl rfl) e]
 |xd fs=>obtain⟨mA,⟨od,es,ep,e,c⟩,r⟩:=x;exact#[mA,#[od,es,ep,k _ _ (.inl rfl) e,c],r]
 |rng lo hi=>obtain⟨t,u,v,e⟩:=x;exact#[t,u,v,k _ _ (.inl rfl) e]
 |frz ob u ih=>obtain⟨e,q⟩:=x;exact#[k _ _ (.inl rfl) e,ih q]
 |tbl ps =>
  have e:h.get? a=some { cls:=.none,data:=.fields ps }:=x;show h'.get? a=some { cls:=.none,data:=.fields ps };exact k a _ (.inl rfl) e
 |met f y =>
  have e:h.get? a=some (PySem.W.methodObj (.ref f) (.ref y)):=x;show h'.get? a=some (PySem.W.methodObj (.ref f) (.ref y));exact k a _ (.inl rfl) e
 |ext φ=>obtain⟨p,⟨o,e⟩,st⟩:=x;exact#[st _ _ p λo q=>k _ _ (.inl rfl) q,#[o,k _ _ (.inl rfl) e],st]
theorem HOk.lt(x:HOk P w H h)(e:H a=some o):a<h.objs.size:=(x a o e).lt
def HOk.fresh(x:HOk P w H h)(e:h.objs.size<=a):H a=none:=by
 cases q:H a with
 |none=>rfl
 |some u=>exact absurd (q_m (x.lt q) e) (Nat.lt_irrefl _)
def HOk.kept(x:HOk P w H h)(k:∀b u,h.get? b=some u->h'.get? b=some u):HOk P w H h':=λa o e =>
 (x a o e).stay (λb u _ q=>k b u q) (λ_ q=>q) λ_ _ q=>q
def HOk.laid(x:HOk P w H h)(k:∀b u,h.get? b=some u->h'.get? b=some u)(hp:h.objs.size<=a)(new:ObjOk P w (upd H a o) h' a o):HOk P w (upd H a o) h':=λb u e=>by
 have hn:=x.fresh hp
 by_cases hb:b=a
 ·subst hb;rw[JAH]at e;cases e;exact new
 ·rw[JAJ hb]at e;exact(x b u e).stay (λc v _ q=>k c v q) (λc q=>by rw[JAJ (JAU q hn)];exact q) λc xs q=>by rw[JAJ (JAU q hn)];exact q
end
def Rd(H:Hp)(a:Addr)(u:HO):Prop:=H a=some u\/∃o,H a=some (.frz o u)
def Rd.of{H:Hp}{a:Addr}{u:HO}(h:H a=some u):Rd H a u:=.inl h
def Rd.ok{P:Program}{w:World}{H:Hp}{h:Heap}{a:Addr}{u:HO}(r:Rd H a u)(x:HOk P w H h):ObjOk P w H h a u:=by
 rcases r with r|⟨o,r⟩
 ·exact x a u r
 ·obtain⟨_,q⟩:=x a _ r;exact q
def Mut:Option HO->Prop
 |some (.lst _)=>True
 |some (.dK _)=>True
 |some (.dT _)=>True
 |some (.set _ _)=>True
 |some (.ins _ _ _)=>True
 |some (.ext _)=>True
 |_=>False
section
variable{P:Program}{w:World}{H:Hp}{h h':Heap}{x e:Addr}{o':HO}
def HOk.write(ok:HOk P w H h)(mu:Mut (H x))(he:e=x\/H e=some (.own x))(k:∀b u,b≠e->h.get? b=some u->h'.get? b=some u)(heo:∃u,h'.get? e=some u)
  (new:ObjOk P w (upd H x o') h' x o'):HOk P w (upd H x o') h':=λb u q=>by
 have nown:∀c y,H c=some (.own y)->c≠x:=λc y r z=>by subst z;rw[r]at mu;exact mu
 have ntup:∀c xs,H c=some (.tup xs)->c≠x:=λc xs r z=>by subst z;rw[r]at mu;exact mu
 by_cases hb:b=x
 ·subst hb;rw[JAH]at q;cases q;exact new
 ·rw[JAJ hb]at q
  by_cases hbe:b=e
  · have q':H b=some (.own x):=by
     rcases he with z|z
     ·exact absurd (hbe.trans z) hb
     ·rw[hbe];exact z
    rw[q]at q';cases q';obtain⟨v,hv⟩:=heo;exact#[v,by rw[hbe];exact hv]
  · refine(ok b u q).stay (λc v hc r=>k c v ?_ r) (λc r=>by rw[JAJ (nown c b r)];exact r) λc xs r=>by rw[JAJ (ntup c xs r)];exact r
    rcases hc with rfl|hc
    ·exact hbe
    ·rintro rfl;rcases he with z|z
     ·exact nown c b hc z
     ·rw[hc]at z;cases z;exact hb rfl
end
structure Un(fs ex:List Addr)(H H':Hp)(h h':Heap):Prop where
 keep:∀b o,h.get? b=some o->H b=none->b ∉ fs->b ∉ ex->h'.get? b=some o
 slot:∀b o,h.get? b=some o->H b=none->b∈fs->b ∉ ex->∃sl,h'.get? b=some { o with slots:=sl }
 free:∀b o,h.get? b=some o->H b=none->b ∉ ex->H' b=none
 there:∀b o,h.get? b=some o->b ∉ ex->∃o',h'.get? b=some o'
 tups:∀b xs,H b=some (.tup xs)->H' b=some (.tup xs)
 frzs:∀b o u,H b=some (.frz o u)->H' b=some (.frz o u)
 tbls:∀b ps,H b=some (.tbl ps)->∃more,H' b=some (.tbl (ps++more))
section
variable{fs fs' ex ex':List Addr}{H H1 H2:Hp}{h h1 h2 h':Heap}{a x e:Addr}{o:HO}
def Un.any(u:Un fs ex H H1 h h1){b:Addr}{ob:Obj}(q:h.get? b=some ob)(n:H b=none)(hx:b ∉ ex):∃sl,h1.get? b=some { ob with slots:=sl }:=by
 by_cases hb:b∈fs
 ·exact u.slot b ob q n hb hx
 ·exact#[ob.slots,u.keep b ob q n hb hx]
def Un.kept(k:∀b u,h.get? b=some u->h'.get? b=some u):Un fs ex H H h h' :=
 #[λb ob q _ _ _=>k b ob q,λb ob q _ _ _=>#[ob.slots,k b ob q],λ_ _ _ n _=>n,λb ob q _=>#[ob,k b ob q],λ_ _ q=>q,λ_ _ _ q=>q,λ_ ps q=>#[#[],by rw[q];simp]]
def Un.refl:Un fs ex H H h h:=Un.kept λ_ _ q=>q
def Un.laid(k:∀b u,h.get? b=some u->h'.get? b=some u)(hp:h.objs.size<=a)(hn:H a=none):Un fs ex H (upd H a o) h h' where
 keep:=λb u q _ _ _=>k b u q
 slot:=λb u q _ _ _=>#[u.slots,k b u q]
 free:=λb u q n _=>by rw[JAJ (q_l (q_m (q_h q) hp))];exact n
 there:=λb u q _=>#[u,k b u q]
 tups:=λb xs q=>by rw[JAJ (JAU q hn)];exact q
 frzs:=λb u xs q=>by rw[JAJ (JAU q hn)];exact q
 tbls:=λb ps q=>#[#[],by rw[JAJ (JAU q hn),q];simp]
def Un.write(mu:Mut (H x))(he:e=x\/H e=some (.own x))(k:∀b u,b≠e->h.get? b=some u->h'.get? b=some u)(heo:∃u,h'.get? e=some u):Un fs ex H (upd H x o) h h':=by
 have hx:∀b,H b=none->b≠x:=λb n z=>by subst z;rw[n]at mu;exact mu
 have hb:∀b,H b=none->b≠e:=λb n z=>by
  subst z;rcases he with r|r
  ·exact hx b n r
  ·rw[n]at r;cases r
 have hm:∀b u,H b=some u->¬Mut (some u)->b≠x:=λb u q nm z=>by subst z;rw[q]at mu;exact nm mu
 refine#[λb u q n _ _=>k b u (hb b n) q,λb u q n _ _=>#[u.slots,k b u (hb b n) q],λb u q n _=>by rw[JAJ (hx b n)];exact n,λb u q _=>?_,
  λb xs q=>by rw[JAJ (hm b _ q λz=>z)];exact q,λb u xs q=>by rw[JAJ (hm b _ q λz=>z)];exact q,λb ps q=>#[#[],by rw[JAJ (hm b _ q λz=>z),q];simp]]
 by_cases hbe:b=e
 ·subst hbe;exact heo
 ·exact#[u,k b u hbe q]
end
abbrev trk(h:Heap)(H:Hp):List Addr:=(List.range h.objs.size).filter λa=>(H a).isSome
abbrev hidT(h:Heap)(H:Hp):Heap:=PySem.W.hideAll h (trk h H)
def JJS(h:Heap)(H:Hp):(hidT h H).objs.size=h.objs.size:=PySem.W.hideAll_size _ _
def JKY{b:Addr}(e:h.get? b=some o)(n:H b=none):(hidT h H).get? b=some o :=
 PySem.W.hideAll_get _ e λhm=>by
  have q:(H b).isSome=true:=(List.mem_filter.mp hm).2;rw[n]at q;simp at q
def JNz{b:Addr}(e:(hidT h H).get? b=some o):h.get? b=some o/\H b=none:=by
 have e':h.get? b=some o:=PySem.W.of_hideAll (trk h H) e;refine#[e',?_];cases q:H b with
 |none=>rfl
 |some x =>
  have hm:b∈trk h H:=List.mem_filter.mpr #[List.mem_range.mpr (q_h e'),by simp[q]]
  have z:(hidT h H).get? b=none:=PySem.W.hideAll_none (trk h H) hm;rw[z]at e;cases e
abbrev JOK(g h:Heap)(L:Addr):Pq:=(List.range h.objs.size).filterMap λa=>if a=L\/(g.get? a).isSome=true then none else (h.get? a).map λo=>(a,o)
abbrev rest(g h:Heap)(L d:Addr):Pq:=(JOK g h L).filter λp=>decide (p.1≠d)
end L2
namespace L2
open PySem PySem.Spec PyProof.Rows
structure Mod(K:Kq)(mg:Mq)(base:Heap):Prop where
 kin:K.In base
 glob:base.Ns mainGlobals mg
 blt:∃mb,base.Ns builtinsNs mb/\∀x:Str,x≠"__name__"->mb x=bootBuiltins x
 nolimit:base.NoLimit
structure Cx where
 prog:Program
 w:World
 K:Kq
 mg:Str->Option Value
 base:Heap
 A:Around
 N:List Str
 s₀:Shared
 H₀:Hp
 env:Env
 outer:List Env
 stack:List Env
 ex:List Addr
 fn:Str->Bool
 calm:Bool
 pn:Pq
 xe:Vq
abbrev frs(l:List Env):List Addr:=l.filterMap (·.frame)
noncomputable abbrev Cx.fs(X:Cx):List Addr:=frs X.outer
def Vis(sc:Scope)(x:Str):Prop:=sc.names.lookup x=some .local\/sc.names.lookup x=some .cell\/sc.names.lookup x=some .free
def Loc(sc:Scope)(x:Str):Prop:=sc.names.lookup x=some .local\/sc.names.lookup x=some .cell
def Look(env:Env)(h:Heap)(m:Mq)(x:Str)(u:Value):Prop :=
 (env.kindOf x=some .local/\m x=some u)\/((env.kindOf x=some .cell\/env.kindOf x=some .free)/\∃c,env.cells.lookup x=some c/\h.IsCell c (some u))
structure Cx.Ok(X:Cx):Prop where
 mod:Mod X.K X.mg X.base
 kind:X.env.scope.kind=.function
 glob:X.env.globals=mainGlobals
 blt:X.env.builtins=builtinsNs
 above:X.s₀.heap.objs.size<=X.env.locals
 inj:∀x y c,X.env.cells.lookup x=some c->X.env.cells.lookup y=some c->x=y
 has:∀x,(X.env.kindOf x=some .cell\/X.env.kindOf x=some .free)->∃c,X.env.cells.lookup x=some c
 cab:∀x c,X.fn x=true->X.env.cells.lookup x=some c->X.s₀.heap.objs.size<=c
 hd:X.calm=true->X.A.handled=none
 frames:X.A.frames=some X.stack
 stk:X.stack=X.outer\/(X.stack=X.env::X.outer/\X.env.frame=some X.env.locals)
 exf:∀b∈X.ex,b≠X.env.locals/\∀x c,X.env.cells.lookup x=some c->c≠b
 bs:∀b o,X.base.get? b=some o->X.s₀.heap.get? b=some o/\X.H₀ b=none
 bsz:X.base.objs.size<=X.s₀.heap.objs.size
 noex:∀b o,X.base.get? b=some o->b ∉ X.ex
 exfs:∀b∈X.ex,b ∉ X.fs
 funs:X.s₀.heap.FunFrames X.base X.outer
 frf:∀b∈X.fs,X.H₀ b=none
structure Inv(X:Cx)(yp:Pq)(Y:List (Option V))(H:Hp)(s:Shared):Prop where
 ok:X.Ok
 os:s.os=X.s₀.os
 bare:AllBare s.gens
 base:Un X.fs X.ex X.H₀ H X.s₀.heap s.heap
 loc:∃m,s.heap.Ns X.env.locals m/\∀(i:Nat) (x:Str) (v:V),X.N[i]? = some x->Y[i]? = some (some v)->Vis X.env.scope x->∃u,RelV v u/\Look X.env s.heap m x u
 cell:∀x c,X.env.cells.lookup x=some c->∃v,s.heap.IsCell c v
 free:H X.env.locals=none
 freeC:∀x c,X.env.cells.lookup x=some c->H c=none
 pin:∀p∈X.pn++yp,s.heap.get? p.1=some p.2/\H p.1=none/\p.1≠X.env.locals/\p.1 ∉ X.fs/\∀v,p.2.data≠.cell v
 hok:HOk X.prog X.w H s.heap
 len:Y.length=X.N.length
section
variable{X:Cx}{yp:Pq}{Y:List (Option V)}{H H':Hp}{s:Shared}{h':Heap}
def Cx.Ok.nofr(ok:X.Ok){b:Addr}(e:X.base.get? b=some o):b ∉ X.fs:=λhb=>by
 have:=(ok.funs.mem hb).1;rw[e]at this;cases this
theorem Inv.bs(I:Inv X yp Y H s):∀b o,X.base.get? b=some o->s.heap.get? b=some o/\H b=none:=λb o e =>
 #[I.base.keep b o (I.ok.bs b o e).1 (I.ok.bs b o e).2 (I.ok.nofr e) (I.ok.noex b o e),I.base.free b o (I.ok.bs b o e).1 (I.ok.bs b o e).2 (I.ok.noex b o e)]
def Inv.bk(I:Inv X yp Y H s):∀b o,X.base.get? b=some o->s.heap.get? b=some o:=λb o e=>(I.bs b o e).1
theorem Inv.mod(I:Inv X yp Y H s):Mod X.K X.mg X.base:=I.ok.mod
def Inv.kIn(I:Inv X yp Y H s):X.K.In s.heap:=I.ok.mod.kin.keeps I.bk
theorem Inv.lt(I:Inv X yp Y H s):X.env.locals<s.heap.objs.size:=let ⟨_,hn,_⟩:=I.loc;hn.lt
def Inv.sz(I:Inv X yp Y H s):X.s₀.heap.objs.size<=s.heap.objs.size:=Nat.le_trans I.ok.above (Nat.le_of_lt I.lt)
def Inv.nofs(I:Inv X yp Y H s){a:Addr}(h:s.heap.objs.size<=a):a ∉ X.fs:=λhb=>by
 obtain⟨_,o,ho,_⟩:=I.ok.funs.mem hb;exact absurd (q_m (q_h ho) (Nat.le_trans I.sz h)) (Nat.lt_irrefl _)
def Inv.cne(I:Inv X yp Y H s):∀x c,X.env.cells.lookup x=some c->c≠X.env.locals:=λx c e z=>by
 obtain⟨v,o,ho,hd⟩:=I.cell x c e;obtain⟨m,⟨o',es,ep,ho',hd',_⟩,_⟩:=I.loc;rw[z,ho']at ho;cases ho;rw[hd']at hd;cases hd
theorem Inv.funs(I:Inv X yp Y H s):s.heap.FunFrames X.base X.outer:=by
 have all:∀(l:List Env),(∀b∈frs l,b∈X.fs)->X.s₀.heap.FunFrames X.base l->s.heap.FunFrames X.base l:=by
  intro l
  induction l with
  |nil=>intro _ _;trivial
  |cons env r ih =>
   intro hs hl;obtain⟨hk,⟨L,o,hf,hn,ho,hd⟩,hr⟩:=hl;have hL:L∈X.fs:=hs L (by unfold frs;rw[List.filterMap_cons,hf];exact List.mem_cons_self)
   obtain⟨sl,e⟩:=I.base.slot L o ho (I.ok.frf L hL) hL λz=>I.ok.exfs L z hL;exact#[hk,#[L,_,hf,hn,e,hd],ih (λb hb=>hs b (by unfold frs;rw[List.filterMap_cons,hf];exact q_s _ hb)) hr]
 exact all X.outer (λ_ hb=>hb) I.ok.funs
theorem Inv.stack(I:Inv X yp Y H s):s.heap.FunFrames X.base X.stack:=by
 rcases I.ok.stk with e|⟨e,hf⟩
 ·rw[e];exact I.funs
 ·rw[e];obtain⟨m,hn,_⟩:=I.loc;refine .cons (by rw[I.ok.kind];decide) hf hn ?_ I.funs
  exact Heap.get?_none_of_le (Nat.le_trans I.ok.bsz I.ok.above)
def Inv.stkSub(I:Inv X yp Y H s):∀b∈frs X.stack,b∈X.env.locals::X.fs:=λb hb=>by
 rcases I.ok.stk with e|⟨e,hf⟩
 ·rw[e]at hb;exact q_s _ hb
 ·rw[e]at hb;unfold frs at hb;rw[List.filterMap_cons,hf]at hb;exact hb
def Inv.stkFree(I:Inv X yp Y H s):∀b∈frs X.stack,H b=none:=λb hb=>by
 rcases q_n.mp (I.stkSub b hb) with e|hb
 ·rw[e];exact I.free
 ·obtain⟨_,o,ho,_⟩:=I.ok.funs.mem hb;exact I.base.free b o ho (I.ok.frf b hb) λz=>I.ok.exfs b z hb
def Inv.step{g':Array GenState}{t':Nat}{d':Drawn}{ch:List Addr}(I:Inv X yp Y H s)
  (hch:∀b∈ch,(b∈X.ex\/X.s₀.heap.objs.size<=b)/\b≠X.env.locals/\(∀x c,X.env.cells.lookup x=some c->c≠b)/\∀p∈X.pn++yp,p.1≠b)
  (keep:∀b o,b≠X.env.locals->b ∉ X.fs->b ∉ ch->s.heap.get? b=some o->H b=none->h'.get? b=some o)
  (slot:∀b o,b≠X.env.locals->b∈X.fs->b ∉ ch->s.heap.get? b=some o->H b=none->∃sl,h'.get? b=some { o with slots:=sl }) (free:∀b o,b ∉ ch->s.heap.get? b=some o->H b=none->H' b=none)
  (there:∀b o,b ∉ ch->s.heap.get? b=some o->∃o',h'.get? b=some o')
  (tups:∀b xs,H b=some (.tup xs)->H' b=some (.tup xs)) (frzs:∀b o u,H b=some (.frz o u)->H' b=some (.frz o u)) (tbls:∀b ps,H b=some (.tbl ps)->∃more,H' b=some (.tbl (ps++more)))
  (ns:∀m,s.heap.Ns X.env.locals m->h'.Ns X.env.locals m) (hok:HOk X.prog X.w H' h') (hg:AllBare g') :
  Inv X yp Y H' { s with heap:=h',gens:=g',drawn:=d',toks:=t' }:=by
 have neL:∀b o,X.s₀.heap.get? b=some o->b≠X.env.locals:=λb o e=>q_l (q_m (q_h e) I.ok.above);have neC:∀b o,X.s₀.heap.get? b=some o->b ∉ X.ex->b ∉ ch:=λb o e hx hb=>by
  rcases(hch b hb).1 with z|z
  · exact hx z
  · exact absurd (q_m (q_h e) z) (Nat.lt_irrefl _)
 have cellK:∀x c,X.env.cells.lookup x=some c->∀v,s.heap.IsCell c v->h'.IsCell c v:=λx c e v h_=>by
  obtain⟨o,ho,hd⟩:=h_;have nch:c ∉ ch:=λz=>(hch c z).2.2.1 x c e rfl
  by_cases hc:c∈X.fs
  · obtain⟨sl,q⟩:=slot c o (I.cne x c e) hc nch ho (I.freeC x c e)
    exact#[_,q,hd]
  · exact#[o,keep c o (I.cne x c e) hc nch ho (I.freeC x c e),hd]
 refine#[I.ok,I.os,hg,#[λb o e n hb hx=>?_,λb o e n hb hx=>?_,λb o e n hx=>?_,λb o e hx=>?_,λb xs e=>tups b xs (I.base.tups b xs e),λb o xs e=>frzs b o xs (I.base.frzs b o xs e),λb ps e=>?_],?_,λx c e=>?_,?_,λx c e=>?_,λp hp=>?_,hok,I.len]
 ·exact keep b o (neL b o e) hb (neC b o e hx) (I.base.keep b o e n hb hx) (I.base.free b o e n hx)
 ·obtain⟨sl,e1⟩:=I.base.slot b o e n hb hx;obtain⟨sl',e2⟩:=slot b _ (neL b o e) hb (neC b o e hx) e1 (I.base.free b o e n hx);exact#[sl',e2]
 ·obtain⟨o',e1⟩:=I.base.there b o e hx;exact free b o' (neC b o e hx) e1 (I.base.free b o e n hx)
 ·obtain⟨o',e1⟩:=I.base.there b o e hx;exact there b o' (neC b o e hx) e1
 ·obtain⟨m1,e1⟩:=I.base.tbls b ps e;obtain⟨m2,e2⟩:=tbls b _ e1;exact#[m1++m2,by rw[e2,Array.append_assoc]]
 ·obtain⟨m,hn,hl⟩:=I.loc;refine#[m,ns m hn,λi x v e1 e2 e3=>?_];obtain⟨u,r,l⟩:=hl i x v e1 e2 e3;refine#[u,r,?_];rcases l with l|⟨k,c,e,z⟩
  · exact .inl l
  · exact .inr #[k,c,e,cellK x c e _ z]
 ·obtain⟨v,z⟩:=I.cell x c e;exact#[v,cellK x c e v z]
 ·obtain⟨m,⟨o,_,_,ho,_⟩,_⟩:=I.loc;exact free _ o (λz=>(hch _ z).2.1 rfl) ho I.free
 ·obtain⟨v,o,ho,hd⟩:=I.cell x c e;exact free c o (λz=>(hch c z).2.2.1 x c e rfl) ho (I.freeC x c e)
 ·obtain⟨e,n,ne,nf,d⟩:=I.pin p hp;have nch:p.1 ∉ ch:=λz=>(hch p.1 z).2.2.2 p hp rfl;exact#[keep p.1 p.2 ne nf nch e n,free p.1 p.2 nch e n,ne,nf,d]
def Inv.un{t':Nat}(I:Inv X yp Y H s)(u:Un X.fs [] H H' s.heap h')(hok:HOk X.prog X.w H' h'):Inv X yp Y H' { s with heap:=h',toks:=t' }:=by
 obtain⟨m,⟨o,es,ep,ho,r⟩,_⟩:=id I.loc;obtain⟨sl,hL⟩:=u.any ho I.free (by simp)
 exact I.step (g':=s.gens) (d':=s.drawn) (ch:=[]) (λ_ z=>nomatch z) (λb o _ hb _ e n=>u.keep b o e n hb (by simp)) (λb o _ hb _ e n=>u.slot b o e n hb (by simp)) (λb o _ e n=>u.free b o e n (by simp)) (λb o _ e=>u.there b o e (by simp)) u.tups u.frzs u.tbls (λm' hm=>by
  obtain⟨o',es',ep',ho',r'⟩:=hm;rw[ho]at ho';cases ho';exact#[_,es',ep',hL,r']) hok I.bare
def Inv.call{g':Array GenState}{t':Nat}{d':Drawn}{ch:List Addr}(I:Inv X yp Y H s)(u:Un (frs X.stack) ch H H' s.heap h')(hok:HOk X.prog X.w H' h')(hg:AllBare g')
  (hch:∀b∈ch,(b∈X.ex\/X.s₀.heap.objs.size<=b)/\b≠X.env.locals/\(∀x c,X.env.cells.lookup x=some c->c≠b)/\∀p∈X.pn++yp,p.1≠b) :
  Inv X yp Y H' { s with heap:=h',gens:=g',drawn:=d',toks:=t' }:=by
 obtain⟨m,⟨o,es,ep,ho,r⟩,_⟩:=id I.loc;obtain⟨sl,hL⟩:=u.any ho I.free λz=>(hch _ z).2.1 rfl;exact I.step (ch:=ch) hch (λb o hL hb hc e n=>u.keep b o e n (λz=>(q_n.mp (I.stkSub b z)).elim hL hb) hc) (λb o _ _ hc e n=>u.any e n hc) (λb o hc e n=>u.free b o e n hc) (λb o hc e=>u.there b o e hc) u.tups u.frzs u.tbls (λm' hm=>by
  obtain⟨o',es',ep',ho',r'⟩:=hm;rw[ho]at ho';cases ho';exact#[_,es',ep',hL,r']) hok hg
def Inv.turned{t':Nat}{it:Addr}(I:Inv X yp Y H s)(k:∀b o,b≠it->s.heap.get? b=some o->h'.get? b=some o)(hn:H it=none)(hL:it≠X.env.locals)
  (h1:it∈X.ex\/X.s₀.heap.objs.size<=it) (h2:∀x c,X.env.cells.lookup x=some c->c≠it) (h3:∀p∈X.pn++yp,p.1≠it):Inv X yp Y H { s with heap:=h',toks:=t' }:=by
 have nit:∀b u,H b=some u->b≠it:=λb u e z=>by rw[z,hn]at e;cases e
 refine I.step (g':=s.gens) (d':=s.drawn) (ch:=[it]) (λb hb=>?_) (λb o _ _ hc e _=>k b o (λz=>hc (by simp[z])) e) (λb o _ _ hc e _=>#[o.slots,k b o (λz=>hc (by simp[z])) e]) (λ_ _ _ _ n=>n)
  (λb o hc e=>#[o,k b o (λz=>hc (by simp[z])) e]) (λ_ _ e=>e) (λ_ _ _ e=>e) (λb ps e=>#[#[],by rw[e];simp]) (λm hm=>?_) (λb u e=>?_) I.bare
 ·have e:b=it:=by simpa using hb
  subst e;exact#[h1,hL,h2,h3]
 ·obtain⟨o,es,ep,ho,r⟩:=hm;exact#[o,es,ep,k _ o (Ne.symm hL) ho,r]
 ·refine(I.hok b u e).stay (λc v hc q=>k c v ?_ q) (λ_ q=>q) λ_ _ q=>q;rcases hc with z|z
  · rw[z];exact nit b u e
  · exact nit c _ z
def Inv.tok(I:Inv X yp Y H s)(t:Nat):Inv X yp Y H { s with toks:=t }:=I.un (h':=s.heap) (t':=t) Un.refl I.hok
theorem Inv.kept{t':Nat}(I:Inv X yp Y H s)(k:∀b u,s.heap.get? b=some u->h'.get? b=some u):Inv X yp Y H { s with heap:=h',toks:=t' }:=I.un (Un.kept k) (I.hok.kept k)
theorem Inv.laid{a:Addr}{o:HO}{t':Nat}(I:Inv X yp Y H s)(k:∀b u,s.heap.get? b=some u->h'.get? b=some u)(hp:s.heap.objs.size<=a)(new:ObjOk X.prog X.w (upd H a o) h' a o) :
 Inv X yp Y (upd H a o) { s with heap:=h',toks:=t' }:=I.un (Un.laid k hp (I.hok.fresh hp)) (I.hok.laid k hp new)
theorem Inv.write{x e:Addr}{t':Nat}(I:Inv X yp Y H s)(mu:Mut (H x))(he:e=x\/H e=some (.own x))(k:∀b u,b≠e->s.heap.get? b=some u->h'.get? b=some u)(heo:∃u,h'.get? e=some u)
 (new:ObjOk X.prog X.w (upd H x o) h' x o):Inv X yp Y (upd H x o) { s with heap:=h',toks:=t' }:=I.un (Un.write mu he k heo) (I.hok.write mu he k heo new)
def Inv.pins_of{pins':Pq}(I:Inv X yp Y H s)(h:∀p∈pins',s.heap.get? p.1=some p.2/\H p.1=none/\p.1≠X.env.locals/\p.1 ∉ X.fs/\∀v,p.2.data≠.cell v):Inv X pins' Y H s :=
 #[I.ok,I.os,I.bare,I.base,I.loc,I.cell,I.free,I.freeC,λp hp=>(List.mem_append.mp hp).elim (λz=>I.pin p (List.mem_append_left _ z)) (h p),I.hok,I.len]
def JEE{N:List Str}(hN:N.Nodup){i j:Nat}{x:Str}(a:N[i]? = some x)(b:N[j]? = some x):i=j:=by
 obtain⟨h1,e1⟩:=q_p.mp a;obtain⟨h2,e2⟩:=q_p.mp b;exact(List.getElem_inj hN).mp (e1.trans e2.symm)
def JFR{M:Model}{A:Around}{E:Vq}{i:Nat}{x:Str}{v:V}{u:Value}{Q:Unit->Shared->Prop}(I:Inv X yp Y H s)(hN:X.N.Nodup)(hi:X.N[i]? = some x)(hx:Loc X.env.scope x)(r:RelV v u)
  (h:∀s',Inv X yp (Y.set i (some v)) H s'->(∃a,Heap.SameBut a s.heap s'.heap/\(a=X.env.locals\/X.env.cells.lookup x=some a))->Q () s') (hf:X.fn x=true\/X.env.scope.names.lookup x=some .local:=by first|exact .inl rfl|exact .inr rfl|assumption):wpAny M A (storeName X.env x u) Q E s:=by
 obtain⟨m,hn,hl⟩:=id I.loc;have hcls:(X.env.scope.kind==.class || (X.env.scope.kind==.module&&X.env.locals != X.env.globals))=false:=by rw[I.ok.kind];rfl
 have hiY:i<Y.length:=by rw[I.len];exact(q_p.mp hi).1
 have cne:=I.cne;have tracked:∀ {a:Addr}{h':Heap},(∃o,s.heap.get? a=some o/\H a=none)->Heap.SameBut a s.heap h'->HOk X.prog X.w H h':=λ{a h'} ha hs b ob e=>by
  obtain⟨_,_,hfree⟩:=ha;refine(I.hok b ob e).stay (λc w' hc q=>(hs.2 c ?_).trans q) (λ_ q=>q) λ_ _ q=>q;rintro rfl;rcases hc with rfl|hc
  · rw[hfree]at e;cases e
  · rw[hfree]at hc;cases hc
 rcases hx with hk|hk
 ·refine wpAny_storeName_local hk hn (λh' hn' hs=>?_) hcls;obtain⟨oL,_,_,hoL,_⟩:=id hn;refine h _ #[I.ok,I.os,I.bare,#[λb o e n hb hx=>?_,λb o e n hb hx=>?_,I.base.free,λb o e hx=>?_,I.base.tups,I.base.frzs,I.base.tbls],#[_,hn',λj y v' e1 e2 e3=>?_],λy c e=>?_,I.free,I.freeC,λp hp=>?_,tracked #[oL,hoL,I.free] hs,by simpa using I.len] #[_,hs,.inl rfl]
  · exact(hs.2 b (q_l (q_m (q_h e) I.ok.above))).trans (I.base.keep b o e n hb hx)
  · obtain⟨sl,e1⟩:=I.base.slot b o e n hb hx
    exact#[sl,(hs.2 b (q_l (q_m (q_h e) I.ok.above))).trans e1]
  · obtain⟨o',e1⟩:=I.base.there b o e hx
    exact#[o',(hs.2 b (q_l (q_m (q_h e) I.ok.above))).trans e1]
  · by_cases hj:j=i
    ·subst hj;rw[hi]at e1;cases e1;rw[q_z hiY]at e2;cases e2;exact#[u,r,.inl #[hk,by simp]]
    ·rw[q_A (Ne.symm hj)]at e2;obtain⟨u',r',q⟩:=hl j y v' e1 e2 e3;refine#[u',r',?_];rcases q with ⟨k,e⟩|⟨k,c,e,z⟩
     ·refine .inl #[k,?_];have:y≠x:=λe=>hj (JEE hN e1 (e▸hi));simp[this,e]
     ·exact .inr #[k,c,e,z.sameBut hs (cne y c e)]
  · obtain⟨w',z⟩:=I.cell y c e
    exact#[w',z.sameBut hs (cne y c e)]
  · obtain⟨e,n,ne,nf,d⟩:=I.pin p hp
    exact#[(hs.2 p.1 ne).trans e,n,ne,nf,d]
 ·have hfn:X.fn x=true:=by
    rcases hf with z|z
    ·exact z
    ·rw[z]at hk;cases hk
  obtain⟨c,hc⟩:=I.ok.has x (.inl hk);obtain⟨w',z⟩:=I.cell x c hc;refine wpAny_storeName_cell I.ok.kind hk hc z (λh' hc' hs=>?_);obtain⟨oc,hoc,hocd⟩:=id z;refine h { s with heap:=h' } #[I.ok,I.os,I.bare,#[λb o e n hb hx=>?_,λb o e n hb hx=>?_,I.base.free,λb o e hx=>?_,I.base.tups,I.base.frzs,I.base.tbls],#[m,hn.sameBut hs (Ne.symm (cne x c hc)),λj y v' e1 e2 e3=>?_],λy c' e=>?_,I.free,I.freeC,λp hp=>?_,tracked #[oc,hoc,I.freeC x c hc] hs,by simpa using I.len] #[c,hs,.inr hc]
  · exact(hs.2 b (q_l (q_m (q_h e) (I.ok.cab x c hfn hc)))).trans (I.base.keep b o e n hb hx)
  · obtain⟨sl,e1⟩:=I.base.slot b o e n hb hx
    exact#[sl,(hs.2 b (q_l (q_m (q_h e) (I.ok.cab x c hfn hc)))).trans e1]
  · obtain⟨o',e1⟩:=I.base.there b o e hx
    exact#[o',(hs.2 b (q_l (q_m (q_h e) (I.ok.cab x c hfn hc)))).trans e1]
  · by_cases hj:j=i
    ·subst hj;rw[hi]at e1;cases e1;rw[q_z hiY]at e2;cases e2;exact#[u,r,.inr #[.inl hk,c,hc,hc']]
    ·rw[q_A (Ne.symm hj)]at e2;obtain⟨u',r',q⟩:=hl j y v' e1 e2 e3;refine#[u',r',?_];rcases q with q|⟨k,c',e,z'⟩
     ·exact .inl q
     ·refine .inr #[k,c',e,z'.sameBut hs ?_];rintro rfl;exact hj (JEE hN e1 (I.ok.inj _ _ _ e hc▸hi))
  · by_cases hcc:c'=c
    ·subst hcc;exact#[_,hc']
    ·obtain⟨w2,z2⟩:=I.cell y c' e;exact#[w2,z2.sameBut hs hcc]
  · obtain⟨e,n,ne,nf,d⟩:=I.pin p hp
    refine#[(hs.2 p.1 ?_).trans e,n,ne,nf,d];intro q;rw[q,hoc]at e;have q':oc=p.2:=Option.some.inj e;exact d w' (by rw[<-q'];exact hocd)
def JBw{M:Model}{A:Around}{E:Vq}{i:Nat}{x:Str}{v:V}{u:Value}{Q:Unit->Shared->Prop}(I:Inv X yp Y H s)(hN:X.N.Nodup)(hi:X.N[i]? = some x)(hx:Loc X.env.scope x)(r:RelV v u)
  (h:∀s',Inv X yp (Y.set i (some v)) H s'->Q () s') (hf:X.fn x=true\/X.env.scope.names.lookup x=some .local:=by first|exact .inl rfl|exact .inr rfl|assumption):wpAny M A (storeName X.env x u) Q E s :=
 JFR I hN hi hx r (λs' I' _=>h s' I') hf
def Inv.call'{s':Shared}{ch:List Addr}(I:Inv X yp Y H s)(ho:s'.os=s.os)(u:Un (frs X.stack) ch H H' s.heap s'.heap)(hok:HOk X.prog X.w H' s'.heap)(hg:AllBare s'.gens)
  (hch:∀b∈ch,(b∈X.ex\/X.s₀.heap.objs.size<=b)/\b≠X.env.locals/\(∀x c,X.env.cells.lookup x=some c->c≠b)/\∀p∈X.pn++yp,p.1≠b):Inv X yp Y H' s':=by
 obtain⟨h',g',d',t',o'⟩:=s';have e:o'=s.os:=ho;subst e;exact I.call (g':=g') (t':=t') (d':=d') u hok hg hch
end
noncomputable abbrev XK:=Value->Option Addr->Hp->Prop
noncomputable abbrev St:=List (Option V)
noncomputable abbrev VK:=V->Hp->Prop
noncomputable abbrev TE:=St->Hp->VK->Prop
noncomputable abbrev TT:=St->Hp->(Bool->Hp->Prop)->Prop
noncomputable abbrev TA:=St->Hp->(List V->Hp->Prop)->Prop
structure Ends where
 nx:St->Hp->Prop
 rt:VK
 bk:St->Hp->Prop:=λ_ _=>False
 ct:St->Hp->Prop:=λ_ _=>False
noncomputable abbrev TS:=Ends->St->Hp->Prop
def EP(X:Cx)(yp:Pq)(Y:St)(Q:VK)(u:Value)(s':Shared):Prop:=∃v H',Inv X yp Y H' s'/\RelV v u/\Q v H'
def TP(X:Cx)(yp:Pq)(Y:St)(Q:Bool->Hp->Prop)(b:Bool)(s':Shared):Prop:=∃H',Inv X yp Y H' s'/\Q b H'
def AP(X:Cx)(yp:Pq)(Y:St)(Q:List V->Hp->Prop)(us:List Value)(s':Shared):Prop:=∃vs H',Inv X yp Y H' s'/\Vals vs us/\Q vs H'
def SP(X:Cx)(yp:Pq)(D:Ends)(f:Flow)(s':Shared):Prop :=
 match f with
 |.next=>∃Y' H',Inv X yp Y' H' s'/\D.nx Y' H'
 |.brk=>∃Y' H',Inv X yp Y' H' s'/\D.bk Y' H'
 |.cont=>∃Y' H',Inv X yp Y' H' s'/\D.ct Y' H'
 |.ret u=>∃v Y' H',Inv X yp Y' H' s'/\RelV v u/\D.rt v H'
def PE(X:Cx)(e:Expr)(t:TE):Prop :=
 ∀(yp:Pq) (s:Shared) (Y:St) (H:Hp) (Q:VK),Inv X yp Y H s->t Y H Q->wpAny (model X.prog X.w) X.A (eval e X.env) (EP X yp Y Q) X.xe s
def PT(X:Cx)(e:Expr)(t:TT):Prop :=
 ∀(yp:Pq) (s:Shared) (Y:St) (H:Hp) (Q:Bool->Hp->Prop),Inv X yp Y H s->t Y H Q->wpAny (model X.prog X.w) X.A (isTrue e X.env (eval e X.env)) (TP X yp Y Q) X.xe s
def PW(X:Cx)(e:Expr)(t:TT):Prop :=
 ∀(whole:Sem Value) (yp:Pq) (s:Shared) (Y:St) (H:Hp) (Q:Bool->Hp->Prop),Inv X yp Y H s->t Y H Q->wpAny (model X.prog X.w) X.A (isTrue e X.env whole) (TP X yp Y Q) X.xe s
def PW.pt{X:Cx}{e:Expr}{t:TT}(h:PW X e t):PT X e t:=h _
def PA(X:Cx)(es:List Expr)(t:TA):Prop :=
 ∀(pos:Pos) (yp:Pq) (s:Shared) (Y:St) (H:Hp) (Q:List V->Hp->Prop),Inv X yp Y H s->t Y H Q->wpAny (model X.prog X.w) X.A (spliced (backTo pos (starEach es X.env))) (AP X yp Y Q) X.xe s
def PS(X:Cx)(st:Stmt)(t:TS):Prop :=
 ∀(yp:Pq) (s:Shared) (Y:St) (H:Hp) (D:Ends),Inv X yp Y H s->t D Y H->wpAny (model X.prog X.w) X.A (exec st X.env) (SP X yp D) X.xe s
def PSs(X:Cx)(st:List Stmt)(t:TS):Prop :=
 ∀(yp:Pq) (s:Shared) (Y:St) (H:Hp) (D:Ends),Inv X yp Y H s->t D Y H->wpAny (model X.prog X.w) X.A (execs st X.env) (SP X yp D) X.xe s
def thn{α:Type}{t:Sem α}{Q Q':α->Shared->Prop}{M:Model}{A:Around}{E:Vq}{s:Shared}(h:wpAny M A t Q E s)(hQ:∀a s,Q a s->Q' a s):wpAny M A t Q' E s:=wpAny_mono h hQ λ_ _ x=>x
end L2
namespace L2
open PySem PySem.Spec PyProof.Rows
section
variable{X:Cx}
def tVar(i:Nat):TE:=λY H Q=>∃v,Y[i]? = some (some v)/\Q v H
def tC(v:V):TE:=λ_ H Q=>Q v H
def JDJ{i:Nat}{x:Str}{pos:Pos}(hN:X.N[i]? = some x)(hv:Vis X.env.scope x)(hd:(x==("__debug__":Str))=false:=by decide)(hcd:(x==("__classdict__":Str))=false:=by decide):PE X (.Name x pos) (tVar i):=by
 intro yp s Y H Q I h;obtain⟨v,e,h⟩:=h;obtain⟨m,hn,hl⟩:=I.loc;obtain⟨u,r,l⟩:=hl i x v hN e hv;have fin:EP X yp Y Q u s:=#[v,H,I,r,h];rcases l with ⟨hk,hm⟩|⟨hk,c,hc,hcell⟩
 ·exact wpAny_Name (wpAny_loadName_local I.ok.kind hk hn hm fin) hd
 ·rcases hk with hk|hk
  ·exact wpAny_Name (wpAny_loadName_cell I.ok.kind hk hc hcell fin) hd
  ·exact wpAny_Name (wpAny_loadName_free I.ok.kind hk hc hcell fin hcd) hd
def JIT{i j pos}:PE X (.Constant (.int i) j pos) (tC (.int i)):=λ_ _ _ H _ I h=>wpAny_Constant_int #[.int i,H,I.tok _,#[_,rfl],h]
def pe_bl{b j pos}:PE X (.Constant (.bool b) j pos) (tC (.bl b)):=λ_ _ _ H _ I h=>Constant_bool #[.bl b,H,I,rfl,h]
def JSU{j pos}:PE X (.Constant .none j pos) (tC .non):=λ_ _ _ H _ I h=>Constant_none #[.non,H,I,rfl,h]
def JQm{x j pos}:PE X (.Constant (.str x) j pos) (tC (.str x)):=λ_ _ _ H _ I h=>Calls.Constant_str #[.str x,H,I.tok _,#[_,rfl],h]
def Gl(X:Cx)(x:Str):Prop:=X.env.kindOf x=some .globalImplicit
def JCZ{E:Vq}{yp:Pq}{s:Shared}{Y:St}{H:Hp}{x:Str}{u:Value}{pos:Pos}{Q:Vq}(I:Inv X yp Y H s)(hg:Gl X x)(hm:X.mg x=some u)(h:Q u s)
  (hd:(x==("__debug__":Str))=false:=by decide):wpAny (model X.prog X.w) X.A (eval (.Name x pos) X.env) Q E s :=
 Calls.Name_function_global I.ok.kind hg (Calls.loadGlobal_global (by rw[I.ok.glob];exact I.mod.glob.keeps I.bk) hm h) hd
def JE5{E:Vq}{Q:Vq}(I:Inv X yp Y H s)(hg:Gl X x)(hm:X.mg x=none)(hv:bootBuiltins x=some u)(h:Q u s)
  (hn:x≠"__name__":=by decide) (hd:(x==("__debug__":Str))=false:=by decide):wpAny (model X.prog X.w) X.A (eval (.Name x pos) X.env) Q E s:=by
 obtain⟨mb,h1,h2⟩:=I.mod.blt;exact Calls.Name_function_global I.ok.kind hg (Calls.loadGlobal_builtin (by rw[I.ok.glob];exact I.mod.glob.keeps I.bk) hm (by rw[I.ok.blt];exact h1.keeps I.bk) ((h2 x hn).trans hv) h) hd
def JIu(hg:Gl X x)(hm:X.mg x=some u)(r:RelV v u)(hd:(x==("__debug__":Str))=false:=by decide):PE X (.Name x pos) (tC v) :=
 λ_ _ _ H _ I h=>JCZ I hg hm #[v,H,I,r,h] hd
def JNb(hg:Gl X x)(hm:X.mg x=none)(hv:bootBuiltins x=some u)(r:RelV v u)(hn:x≠"__name__":=by decide)(hd:(x==("__debug__":Str))=false:=by decide):PE X (.Name x pos) (tC v) :=
 λ_ _ _ H _ I h=>JE5 I hg hm hv #[v,H,I,r,h] hn hd
variable{a b:Expr}{ta tb:TE}{pos:Pos}
def PC(X:Cx)(op:CmpOp)(a b:Expr)(t:TE):Prop :=
 ∀(yp:Pq) (s:Shared) (Y:St) (H:Hp) (Q:VK),Inv X yp Y H s->t Y H Q ->
  wpAny (model X.prog X.w) X.A (eval a X.env) (λv s₁=>wpAny (model X.prog X.w) X.A (eval b X.env) (λu s₂=>wpAny (model X.prog X.w) X.A (compareOp op v u) (EP X yp Y Q) X.xe s₂) X.xe s₁) X.xe s
def JGJ(b:Expr)(h:op≠.In)(h2:op≠.NotIn):behindInMarks op b=false:=by
 have e1:(op==CmpOp.In)=false:=by cases op<;>first|rfl|exact absurd rfl h
 have e2:(op==CmpOp.NotIn)=false:=by cases op<;>first|rfl|exact absurd rfl h2
 cases b<;>simp[behindInMarks,e1,e2]
def tIsN(ta:TE):TE:=λY H Q=>ta Y H λx H1=>Q (.bl (decide (x=.non))) H1
def tNotN(ta:TE):TE:=λY H Q=>ta Y H λx H1=>Q (.bl (!decide (x=.non))) H1
def RelV.none_iff{x:V}{v:Value}(r:RelV x v):(v==Value.none)=decide (x=.non):=by
 cases x with
 |non=>cases r;rfl
 |bl _=>cases r;rfl
 |int _=>obtain⟨t,rfl⟩:=r;rfl
 |str _=>obtain⟨t,rfl⟩:=r;rfl
 |byt _=>obtain⟨t,rfl⟩:=r;rfl
 |flt _=>obtain⟨t,rfl⟩:=r;rfl
 |ref _=>cases r;rfl
 |ty _=>cases r;rfl
def JMw{j pos'}(ha:PE X a ta):PC X .Is a (.Constant .none j pos') (tIsN ta):=by
 intro yp s Y H Q I h;refine thn (ha yp s Y H _ I h) λv s1 h_=>?_;obtain⟨x,H1,I1,r1,q1⟩:=h_;exact Constant_none (is_none_gen #[.bl _,H1,I1,by rw[r1.none_iff];rfl,q1])
def JJn{j pos'}(ha:PE X a ta):PC X .IsNot a (.Constant .none j pos') (tNotN ta):=by
 intro yp s Y H Q I h;refine thn (ha yp s Y H _ I h) λv s1 h_=>?_;obtain⟨x,H1,I1,r1,q1⟩:=h_;exact Constant_none (isnot_none_gen #[.bl _,H1,I1,by rw[r1.none_iff];rfl,q1])
def tB(t:TE):TT:=λY H Q=>t Y H λx H1=>∃c,x=.bl c/\Q c H1
def JL3(h:PC X op a b t)(h1:behindInMarks op b=false:=by first|exact JGJ _ (by decide) (by decide)|rfl):PE X (.Compare a [op] [b] pos) t:=λyp s Y H Q I hw=>wpAny_Compare1 (h yp s Y H Q I hw) h1
def JNC{op:CmpOp}{t:TE}(h:PC X op a b t)(h1:behindInMarks op b=false:=by first|exact JGJ _ (by decide) (by decide)|rfl):PT X (.Compare a [op] [b] pos) (tB t):=by
 intro yp s Y H Q I hw;refine wpAny_isTrue_Compare1 (thn (h yp s Y H _ I hw) λv s1 h1=>thn h1 λu s2 h2=>thn h2 λc s3 ⟨x,H1,I1,r1,q1⟩=>?_) h1;obtain⟨d,rfl,q⟩:=q1;cases r1;exact wpAny_truthy_bool #[H1,I1,q]
def JQW{e:Expr}{t:TE}(h:PE X e t)(he:∀whole,isTrue e X.env whole=(do let v<-whole;standAt e.pos;holding [v] (truthy v)):=by intro _;rfl):PT X e (tB t):=by
 intro yp s Y H Q I hw;refine isTrue_plain (thn (h yp s Y H _ I hw) λv s1 ⟨x,H1,I1,r1,q1⟩=>?_) (he _);obtain⟨d,rfl,q⟩:=q1;cases r1;exact wpAny_truthy_bool #[H1,I1,q]
variable{tA tB':TT}{rest:List Expr}
def tAnd(t u:TT):TT:=λY H Q=>t Y H λc H1=>if c=true then u Y H1 Q else Q false H1
def tOr(t u:TT):TT:=λY H Q=>t Y H λc H1=>if c=true then Q true H1 else u Y H1 Q
def tNot(t:TT):TT:=λY H Q=>t Y H λc H1=>Q (!c) H1
def JOI(ha:PT X a tA):PW X (.BoolOp .And [a] pos) tA:=by
 intro wh yp s Y H Q I h;refine isTrue_and (thn (ha yp s Y H Q I h) λc s1 e=>?_);cases c with
 |true=>exact isTrue_and_nil e
 |false=>exact e
def JML(ha:PT X a tA):PW X (.BoolOp .Or [a] pos) tA:=by
 intro wh yp s Y H Q I h;refine isTrue_or (thn (ha yp s Y H Q I h) λc s1 e=>?_);cases c with
 |false=>exact isTrue_or_nil e
 |true=>exact e
def JSr(ha:PT X a tA)(hb:PW X (.BoolOp .And (b::rest) pos) tB'):PW X (.BoolOp .And (a::b::rest) pos) (tAnd tA tB'):=by
 intro wh yp s Y H Q I h;refine isTrue_and (thn (ha yp s Y H _ I h) λc s1 h_=>?_);obtain⟨H1,I1,q1⟩:=h_;cases c with
 |true=>exact hb wh yp s1 Y H1 Q I1 q1
 |false=>exact#[H1,I1,q1]
def JRh(ha:PT X a tA)(hb:PW X (.BoolOp .Or (b::rest) pos) tB'):PW X (.BoolOp .Or (a::b::rest) pos) (tOr tA tB'):=by
 intro wh yp s Y H Q I h;refine isTrue_or (thn (ha yp s Y H _ I h) λc s1 h_=>?_);obtain⟨H1,I1,q1⟩:=h_;cases c with
 |true=>exact#[H1,I1,q1]
 |false=>exact hb wh yp s1 Y H1 Q I1 q1
def JNK(ha:PT X a tA):PT X (.UnaryOp .Not a pos) (tNot tA):=by
 intro yp s Y H Q I h;exact isTrue_not (ha yp s Y H (λc H1=>Q (!c) H1) I h)
def tAndV(ta tb:TE):TE:=λY H Q=>ta Y H λx H1=>∃c,x=.bl c/\if c=true then tb Y H1 Q else Q (.bl false) H1
def tOrV(ta tb:TE):TE:=λY H Q=>ta Y H λx H1=>∃c,x=.bl c/\if c=true then Q (.bl true) H1 else tb Y H1 Q
def JL5{op}(h:PE X a t):PE X (.BoolOp op [a] pos) t:=λyp s Y H Q I hw=>BoolOp_one (h yp s Y H Q I hw)
def JQI(ha:PE X a ta)(hb:PE X (.BoolOp .And (b::rest) pos) tb):PE X (.BoolOp .And (a::b::rest) pos) (tAndV ta tb):=by
 intro yp s Y H Q I h;refine BoolOp_and (thn (ha yp s Y H _ I h) λv s1 h_=>?_);obtain⟨x,H1,I1,r1,q1⟩:=h_;obtain⟨c,rfl,q1⟩:=q1;cases r1;refine wpAny_truthy_bool ?_;cases c with
 |true=>exact hb yp s1 Y H1 Q I1 q1
 |false=>exact#[.bl false,H1,I1,rfl,q1]
def pe_or(ha:PE X a ta)(hb:PE X (.BoolOp .Or (b::rest) pos) tb):PE X (.BoolOp .Or (a::b::rest) pos) (tOrV ta tb):=by
 intro yp s Y H Q I h;refine BoolOp_or (thn (ha yp s Y H _ I h) λv s1 h_=>?_);obtain⟨x,H1,I1,r1,q1⟩:=h_;obtain⟨c,rfl,q1⟩:=q1;cases r1;refine wpAny_truthy_bool ?_;cases c with
 |false=>exact hb yp s1 Y H1 Q I1 q1
 |true=>exact#[.bl true,H1,I1,rfl,q1]
def tIf(t:TT)(ta tb:TE):TE:=λY H Q=>t Y H λc H1=>if c=true then ta Y H1 Q else tb Y H1 Q
def JK3{c:Expr}(hc:PT X c tA)(ha:PE X a ta)(hb:PE X b tb):PE X (.IfExp c a b pos) (tIf tA ta tb):=by
 intro yp s Y H Q I h;refine wpAny_IfExp (thn (hc yp s Y H _ I h) λd s1 h_=>?_);obtain⟨H1,I1,q1⟩:=h_;cases d with
 |true=>exact ha yp s1 Y H1 Q I1 q1
 |false=>exact hb yp s1 Y H1 Q I1 q1
end
end L2
namespace L2
open PySem PySem.Spec PyProof.Rows
def SqL(K:Kq)(H:Hp)(a:Addr)(xs:List V):Prop :=
 Rd H a (.lst xs) \/
  ∃(o:Obj) (its:Array Value) (n:Nat),K.lookup a=some o/\o.cls=.type "list"/\o.dict=none/\o.data=.seq its n/\its.size<=sizeLine/\Vals xs its.toList
def SqT(K:Kq)(H:Hp)(a:Addr)(xs:List V):Prop :=
 Rd H a (.tup xs) \/
  ∃(o:Obj) (its:Array Value) (n:Nat),K.lookup a=some o/\o.cls=.type "tuple"/\o.data=.seq its n/\its.size<=sizeLine/\Vals xs its.toList
abbrev absV:Value->Option V
 |.none=>some .non
 |.bool b=>some (.bl b)
 |.int i _=>some (.int i)
 |.str x _=>some (.str x)
 |.bytes b _=>some (.byt b)
 |.float b _=>some (.flt b)
 |.ref a=>some (.ref a)
 |.type n=>some (.ty n)
 |_=>none
def RelV.abs(r:RelV x u):absV u=some x:=by
 cases x with
 |non=>cases r;rfl
 |bl _=>cases r;rfl
 |int _=>obtain⟨t,rfl⟩:=r;rfl
 |str _=>obtain⟨t,rfl⟩:=r;rfl
 |byt _=>obtain⟨t,rfl⟩:=r;rfl
 |flt _=>obtain⟨t,rfl⟩:=r;rfl
 |ref _=>cases r;rfl
 |ty _=>cases r;rfl
theorem RelV.inj{x y:V}{u:Value}(r:RelV x u)(q:RelV y u):x=y:=Option.some.inj (r.abs.symm.trans q.abs)
theorem Vals.inj:∀ {xs ys:List V}{us:List Value},Vals xs us->Vals ys us->xs=ys
 |_,_,_,.nil,.nil=>rfl
 |_,_,_,.cons r t,.cons r' t'=>by rw[r.inj r',Vals.inj t t']
section
variable{X:Cx}{yp:Pq}{Y:St}{H:Hp}{s:Shared}{a:Addr}{xs ys:List V}
def SqL.of{K:Kq}(h:H a=some (.lst xs)):SqL K H a xs:=.inl (.inl h)
def SqT.of{K:Kq}(h:H a=some (.tup xs)):SqT K H a xs:=.inl (.inl h)
def Inv.list(I:Inv X yp Y H s)(h:SqL X.K H a xs):∃its:List Value,Vals xs its/\PlainL s.heap a its.toArray/\xs.length<=sizeLine:=by
 rcases h with h|⟨o,its,n,hk,hc,hd,hs,hz,r⟩
 ·obtain⟨z,its,n,r,e⟩:=h.ok I.hok;exact#[its,r,#[_,n,e,rfl,rfl,rfl],z]
 ·refine#[its.toList,r,#[o,n,I.kIn a o hk,hc,hd,by simpa using hs],?_]
  have e:=r.length;simp![q_F]at e;omega
def Inv.tuple(I:Inv X yp Y H s)(h:SqT X.K H a xs):∃its:List Value,Vals xs its/\IsTup s.heap a its.toArray/\xs.length<=sizeLine:=by
 rcases h with h|⟨o,its,n,hk,hc,hs,hz,r⟩
 ·obtain⟨z,its,r,p⟩:=h.ok I.hok;exact#[its,r,p,z]
 ·refine#[its.toList,r,#[o,I.kIn a o hk,hc,n,by simpa using hs],?_]
  have e:=r.length;simp![q_F]at e;omega
def Inv.list_inj(I:Inv X yp Y H s)(h:SqL X.K H a xs)(h':SqL X.K H a ys):xs=ys:=by
 obtain⟨its,r,⟨o,n,e,_,_,d⟩,_⟩:=I.list h;obtain⟨its',r',⟨o',n',e',_,_,d'⟩,_⟩:=I.list h';rw[e]at e';cases e';rw[d]at d';injection d' with d1 _
 have:its=its':=by simpa using congrArg Array.toList d1
 subst this;exact r.inj r'
def Inv.tuple_inj(I:Inv X yp Y H s)(h:SqT X.K H a xs)(h':SqT X.K H a ys):xs=ys:=by
 obtain⟨its,r,⟨o,e,_,n,d⟩,_⟩:=I.tuple h;obtain⟨its',r',⟨o',e',_,n',d'⟩,_⟩:=I.tuple h';rw[e]at e';cases e';rw[d]at d';injection d' with d1 _
 have:its=its':=by simpa using congrArg Array.toList d1
 subst this;exact r.inj r'
end
section
variable{X:Cx}{yp:Pq}{Y:St}{H:Hp}{s:Shared}{E:Vq}
end
section
variable{X:Cx}{st:Stmt}{rest:List Stmt}{t u:TS}{e:Expr}{te:TE}{pos:Pos}
def JO4:TS:=λD Y H=>D.nx Y H
def tSeq(t u:TS):TS:=λD Y H=>t { D with nx:=u D } Y H
def JHw:PSs X [] JO4:=λ_ _ Y H _ I h=>wpAny_execs_nil #[Y,H,I,h]
def JG7(h1:PS X st t)(h2:PSs X rest u):PSs X (st::rest) (tSeq t u):=by
 intro yp s Y H D I h;refine wpAny_execs_cons (thn (h1 yp s Y H { D with nx:=u D } I h) λf s1 q=>?_)
 cases f with
 |next =>
  obtain⟨Y',H',I',q⟩:=q;exact h2 yp s1 Y' H' D I' q
 |ret v=>exact q
 |brk=>exact q
 |cont=>exact q
def JOe(h1:PS X st t):PSs X [st] t:=by
 intro yp s Y H D I h;refine wpAny_execs_cons (thn (h1 yp s Y H D I h) λf s1 q=>?_);cases f with
 |next=>exact wpAny_execs_nil q
 |ret v=>exact q
 |brk=>exact q
 |cont=>exact q
def JQp:TS:=λD Y H=>D.bk Y H
def tCont:TS:=λD Y H=>D.ct Y H
def JN3:PS X (.Pass pos) JO4:=λ_ _ Y H _ I h=>wpAny_Pass #[Y,H,I,h]
def JKc:PS X (.Break pos) JQp:=λ_ _ Y H _ I h=>wpAny_Break #[Y,H,I,h]
def JFx:PS X (.Continue pos) tCont:=λ_ _ Y H _ I h=>wpAny_Continue #[Y,H,I,h]
def Inv.quiet{yp:Pq}{Y:St}{H:Hp}{s:Shared}(I:Inv X yp Y H s):interactive X.env=false:=by simp[interactive,I.ok.kind]
def JQU{x j pos pos'}:PS X (.Expr (.Constant (.str x) j pos) pos') JO4:=λ_ s Y H _ I h=>wpAny_Expr (Calls.Constant_str (show SP X _ _ .next { s with toks:=s.toks+1 } from#[Y,H,I.tok _,h])) I.quiet
def tDrop(te:TE):TS:=λD Y H=>te Y H λ_ H1=>D.nx Y H1
def JBo(he:PE X e te)(hs:swapsWith e none pos.line X.env=pure false:=by rfl):PS X (.Expr e pos) (tDrop te):=by
 intro yp s Y H D I h;exact wpAny_Expr_any (thn (he yp s Y H _ I h) λv s1 ⟨x,H1,I1,r1,q1⟩=>#[Y,H1,I1,q1]) I.quiet hs
def tRet(te:TE):TS:=λD Y H=>te Y H D.rt
def JMt(he:PE X e te):PS X (.Return (some e) pos) (tRet te):=by
 intro yp s Y H D I h;exact wpAny_Return_some (thn (he yp s Y H _ I h) λv s1 ⟨x,H1,I1,r1,q1⟩=>#[x,Y,H1,I1,r1,q1])
def tRetN:TS:=λD _ H=>D.rt .non H
def JN6:PS X (.Return none pos) tRetN:=λ_ _ Y H _ I h=>wpAny_Return_none #[.non,Y,H,I,rfl,h]
def tIfS(c:TT)(t u:TS):TS:=λD Y H=>c Y H λb H1=>if b=true then t D Y H1 else u D Y H1
def JRL{c:Expr}{a b:List Stmt}{tc:TT}(hc:PT X c tc)(ha:PSs X a t)(hb:PSs X b u):PS X (.If c a b pos) (tIfS tc t u):=by
 intro yp s Y H D I h;refine wpAny_If (thn (hc yp s Y H _ I h) λd s1 h_=>?_);obtain⟨H1,I1,q1⟩:=h_;cases d with
 |true=>exact ha yp s1 Y H1 D I1 q1
 |false=>exact hb yp s1 Y H1 D I1 q1
end
noncomputable abbrev TG:=V->St->Hp->(St->Hp->Prop)->Prop
noncomputable abbrev TGs:=List V->St->Hp->(St->Hp->Prop)->Prop
def PG(X:Cx)(target:Expr)(t:TG):Prop :=
 ∀(yp:Pq) (s:Shared) (Y:St) (H:Hp) (v:V) (u:Value) (Q:St->Hp->Prop),Inv X yp Y H s->RelV v u->t v Y H Q ->
  wpAny (model X.prog X.w) X.A (assign target X.env u) (λ_ s'=>∃Y' H',Inv X yp Y' H' s'/\Q Y' H') X.xe s
def PGs(X:Cx)(ts:List Expr)(t:TGs):Prop :=
 ∀(yp:Pq) (s:Shared) (Y:St) (H:Hp) (vs:List V) (us:List Value) (Q:St->Hp->Prop),Inv X yp Y H s->Vals vs us->t vs Y H Q ->
  wpAny (model X.prog X.w) X.A (assignInOrder ((assignEach ts X.env).map (·.2)) us) (λ_ s'=>∃Y' H',Inv X yp Y' H' s'/\Q Y' H') X.xe s
section
variable{X:Cx}{pos:Pos}
def JEn(i:Nat):TG:=λv Y H Q=>Q (Y.set i (some v)) H
def JC6{i:Nat}(hN:X.N.Nodup)(hi:X.N[i]? = some x)(hx:Loc X.env.scope x)(hf:X.fn x=true\/X.env.scope.names.lookup x=some .local:=by first|exact .inl rfl|exact .inr rfl|assumption):PG X (.Name x pos) (JEn i):=by
 intro yp s Y H v u Q I r h;exact wpAny_assign_Name (JBw I hN hi hx r (λs' I'=>#[_,H,I',h]) hf)
abbrev gNil:TGs:=λvs Y H Q=>vs=[]/\Q Y H
abbrev gCons(t:TG)(u:TGs):TGs:=λvs Y H Q=>∃v r,vs=v::r/\t v Y H λY' H'=>u r Y' H' Q
def JIY:PGs X [] gNil:=by
 intro yp s Y H vs us Q I r h;obtain⟨e,h⟩:=h;subst e;cases r;exact assignInOrder_nil #[Y,H,I,h]
def JGR{e:Expr}{es:List Expr}{t:TG}{u:TGs}(h1:PG X e t)(h2:PGs X es u)
  (hs:(assignEach (e::es) X.env).map (·.2)=assign e X.env::(assignEach es X.env).map (·.2):=by rfl):PGs X (e::es) (gCons t u):=by
 intro yp s Y H vs us Q I r h;obtain⟨v,vr,e1,h⟩:=h;subst e1;cases r with
 |cons r rr =>
  rw[hs];refine assignInOrder_cons (thn (h1 yp s Y H _ _ _ I r h) λ_ s1 h_=>?_);obtain⟨Y1,H1,I1,q1⟩:=h_;exact h2 yp s1 Y1 H1 _ _ Q I1 rr q1
def gTup(K:Kq)(n:Nat)(t:TGs):TG:=λv Y H Q=>∃a xs,v=.ref a/\SqT K H a xs/\xs.length=n/\t xs Y H Q
def JL9{k:Nat}{n:Nat}(hc:X.calm=true)(h:PGs X es t)
  (hn:(assignEach es X.env).length=n:=by rfl) (hst:(assignEach es X.env).findIdx? (·.1)=none:=by rfl):PG X (.Tuple es k pos) (gTup X.K n t):=by
 intro yp s Y H v u Q I r hw;obtain⟨a,xs,e1,hq,hl,hw⟩:=hw;subst e1;cases r;obtain⟨its,rv,ht,hz⟩:=I.tuple hq;refine assign_Tuple_tuple (I.ok.hd hc) ht (by simp[hn,<-hl,rv.length]) hst λh' hx=>?_
 have I1:Inv X yp Y H { s with heap:=h' }:=I.kept (t':=s.toks) λb o e=>hx b o (q_l (q_h e)) e
 exact h yp _ Y H xs _ Q I1 (by simpa using rv) hw
def tAsg(te:TE)(g:TG):TS:=λD Y H=>te Y H λx H1=>g x Y H1 D.nx
def JLs{tg e:Expr}{te:TE}{g:TG}(he:PE X e te)(hg:PG X tg g)(hs:swapsWithSole [tg] e pos.line X.env=pure false:=by rfl)(hw:swappedStores [tg] e X.env=pure none:=by rfl)
  (h1:(assignEach [tg] X.env).map (·.2)=[assign tg X.env]:=by rfl):PS X (.Assign [tg] e pos) (tAsg te g):=by
 intro yp s Y H D I h;refine wpAny_Assign_stores (thn (he yp s Y H _ I h) λv s1 ⟨x,H1,I1,r1,q1⟩=>?_) hs hw;rw[h1];exact thn (hg yp s1 Y H1 x v _ I1 r1 q1) λ_ s2 q=>q
def JHu{i:Nat}{x:Str}{e:Expr}{te:TE}{pos':Pos}(hN:X.N.Nodup)(hi:X.N[i]? = some x)(hx:Loc X.env.scope x)(he:PE X e te)(hs:swapsWith e (some (.Name x pos')) pos.line X.env=pure false:=by rfl)(hf:X.fn x=true\/X.env.scope.names.lookup x=some .local:=by first|exact .inl rfl|exact .inr rfl|assumption) :
  PS X (.Assign [.Name x pos'] e pos) (tAsg te (JEn i)):=by
 intro yp s Y H D I h;refine wpAny_Assign_Name (thn (he yp s Y H _ I h) λv s1 ⟨y,H1,I1,r1,q1⟩=>?_) hs;exact JBw I1 hN hi hx r1 (λs2 I2=>#[_,H1,I2,q1]) hf
def tPar(i j:Nat)(ta:TA):TS:=λD Y H=>ta Y H λvs H1=>∃v w,vs=[v,w]/\D.nx ((Y.set i (some v)).set j (some w)) H1
def JQG{i j:Nat}{x y:Str}{a b:Expr}{ta:TA}{px py pt:Pos}{kt k2 pt2}(hc:X.calm=true)(hN:X.N.Nodup)(hi:X.N[i]? = some x)(hj:X.N[j]? = some y)(hij:i≠j)
  (hx:X.env.scope.names.lookup x=some .local) (hy:X.env.scope.names.lookup y=some .local) (ha:PA X [a,b] ta)
  (hw:swappedStores [.Tuple [.Name x px,.Name y py] kt pt] (.Tuple [a,b] k2 pt2) X.env=pure (some [x,y]))
  (hs:swapsWithSole [.Tuple [.Name x px,.Name y py] kt pt] (.Tuple [a,b] k2 pt2) pos.line X.env=pure false:=by rfl) :
  PS X (.Assign [.Tuple [.Name x px,.Name y py] kt pt] (.Tuple [a,b] k2 pt2) pos) (tPar i j ta):=by
 intro yp s Y H D I h;rw[exec_Assign_arm];refine q_b (wpAny_standAt ?_);rw[hs];refine q_b (q_e ?_);rw[if_neg (by decide)]
 refine q_b (Tuple_ (thn (ha _ yp s Y H _ I h) λus s1 h_=>?_));obtain⟨vs,H1,I1,r1,q1⟩:=h_;obtain⟨v,w,e1,q1⟩:=q1;subst e1;obtain⟨u1,u2,rfl,rv,rw'⟩:∃u1 u2,us=[u1,u2]/\RelV v u1/\RelV w u2:=by
  cases r1 with
  |cons p q =>
    cases q with
    |cons p' q' =>
     cases q';exact#[_,_,rfl,p,p']
 refine wpAny_newObj_type ?_ (by show 2<=sizeLine;decide)
 have I2:Inv X yp Y H1 { s1 with heap:=s1.heap.push { cls:=.type "tuple",data:=.seq [u1,u2].toArray } }:=I1.kept (t':=s1.toks) λb o e=>q_c _ e
 rw[hw];refine q_b (q_e ?_);show wpAny (model X.prog X.w) X.A (do rule "assign.swapped-stores";let items<-unpackItems (.ref s1.heap.objs.size) 2 none;assignInOrder [λv=>bindName X.env y v,λv=>bindName X.env x v] items.reverse;pure Flow.next) _ _ _
 refine q_b (wpAny_rule (q_b (unpackItems_tuple (items:=(List.toArray [u1,u2])) (I.ok.hd hc) (IsTup.new s1.heap _) λh' hx'=>?_)));have I3:=I2.kept (h':=h') (t':=s1.toks) λb o e=>hx' b o (q_l (q_h e)) e;show wpAny _ _ (assignInOrder [λv=>bindName X.env y v,λv=>bindName X.env x v] [u2,u1] >>= λ_=>pure Flow.next) _ _ _;refine q_b (assignInOrder_cons (wpAny_bindName (JBw I3 hN hj (.inl hy) rw' (λs2 I4=>?_) (.inr hy))));refine assignInOrder_cons (wpAny_bindName (JBw I4 hN hi (.inl hx) rv (λs3 I5=>assignInOrder_nil (q_e ?_)) (.inr hx)));rw[List.set_comm _ _ (Ne.symm hij)]at I5;exact#[_,H1,I5,q1]
end
section
variable{X:Cx}{pos:Pos}
def JRM(c:TT)(tb:TS):TS:=λD Y H=>∃W:Nat->St->Hp->Prop,(∃m,W m Y H)/\∀m Y H,W m Y H ->
 c Y H λb H1=>if b=true then ∃N:St->Hp->Prop,(∀Y' H',N Y' H'->∃m',m'<m/\W m' Y' H')/\tb { D with nx:=N,ct:=N,bk:=D.nx } Y H1 else D.nx Y H1
def JKs{c:Expr}{body:List Stmt}{tc:TT}{tb:TS}(hp:PassesOwn (model X.prog X.w) X.A X.env X.xe)(hc:PT X c tc)(hb:PSs X body tb):PS X (.While c body [] pos) (JRM tc tb):=by
 intro yp s Y H D I h;obtain⟨W,⟨m0,w0⟩,turn⟩:=h;refine wpAny_While (codeAny_whileLoop (λn s'=>∃Y' H',Inv X yp Y' H' s'/\W n Y' H') ?_ m0 #[Y,H,I,w0]);rintro n s1 ⟨Y1,H1,I1,w1⟩;refine wpAny_passesOwn hp (thn (hc yp s1 Y1 H1 _ I1 (turn n Y1 H1 w1)) λb s2 h_=>?_);obtain⟨H2,I2,q2⟩:=h_;cases b with
 |true =>
  obtain⟨N,hN,q2⟩:=q2;rw[if_pos rfl];refine wpAny_passesOwn hp (thn (hb yp s2 Y1 H2 _ I2 q2) λf s3 q3=>?_);cases f with
  |next =>
   obtain⟨Y3,H3,I3,n3⟩:=q3;obtain⟨m',hm,w3⟩:=hN Y3 H3 n3;exact#[m',hm,Y3,H3,I3,w3]
  |cont =>
   obtain⟨Y3,H3,I3,n3⟩:=q3;obtain⟨m',hm,w3⟩:=hN Y3 H3 n3;exact#[m',hm,Y3,H3,I3,w3]
  |brk=>exact q3
  |ret v=>exact q3
 |false =>
  rw[if_neg Bool.false_ne_true];exact wpAny_execs_nil #[Y1,H2,I2,q2]
end
structure It where
 go:Nat->Hp->Prop
 yld:Nat->Hp->V->Hp->Prop
 stop:Nat->Hp->Prop
def FpOk(X:Cx)(yp:Pq)(H:Hp)(b:Addr):Prop :=
 H b=none/\b≠X.env.locals/\b ∉ X.fs/\(b∈X.ex\/X.s₀.heap.objs.size<=b)/\(∀x c,X.env.cells.lookup x=some c->c≠b)/\∀p∈X.pn++yp,p.1≠b
def Inv.fpOk{b:Addr}(I:Inv X yp Y H s)(hb:s.heap.objs.size<=b)(hn:H' b=none):FpOk X yp H' b:=by
 refine#[hn,Nat.ne_of_gt (q_m I.lt hb),I.nofs hb,.inr (Nat.le_trans I.sz hb),λx c e z=>?_,λp hp z=>?_]
 ·obtain⟨v,q⟩:=I.cell x c e;exact absurd (q_m q.lt (by rw[z];exact hb)) (Nat.lt_irrefl _)
 ·exact absurd (q_m (q_h (I.pin p hp).1) (by rw[z];exact hb)) (Nat.lt_irrefl _)
structure Turn(P:Program)(w:World)(K:Kq)(tg:Expr)(J:It)(fp:List Addr)(it:Addr)(tn:Nat->Heap->Prop):Prop where
 mem:it∈fp
 obj:∀i h,tn i h->∀b∈fp,∃o,h.get? b=some o/\∀v,o.data≠.cell v
 keep:∀i h h',tn i h->(∀b∈fp,∀o,h.get? b=some o->h'.get? b=some o)->tn i h'
 item:∀(X:Cx),X.prog=P->X.w=w->X.K=K->X.calm=true->∀(i:Nat) (yp:Pq) (s:Shared) (Y:St) (H:Hp) (E:Vq),Inv X yp Y H s->(∀b∈fp,FpOk X yp H b)->tn i s.heap->J.go i H ->
  wpAny (model P w) X.A (pyNext (.ref it)) (λr s1=>∃u,r=some u /\
   wpAny (model P w) X.A (letOwnedTupleGo tg (.ref it) u) (λ_ s2=>∃x H',Inv X yp Y H' s2/\RelV x u/\J.yld i H x H'/\tn (i+1) s2.heap/\∀b∈fp,H' b=none) E s1) E s
 done:∀(X:Cx),X.prog=P->X.w=w->X.K=K->X.calm=true->∀(i:Nat) (yp:Pq) (s:Shared) (Y:St) (H:Hp) (E:Vq),Inv X yp Y H s->(∀b∈fp,FpOk X yp H b)->tn i s.heap->J.stop i H ->
  wpAny (model P w) X.A (pyNext (.ref it)) (λr s1=>r=none/\Inv X yp Y H s1) E s
 self:∀(A:Around) (i:Nat) (s:Shared) (Q:Vq) (E:Vq),tn i s.heap->Q (.ref it) s->wpAny (model P w) A (pyIter (.ref it)) Q E s
noncomputable abbrev TI:=St->Hp->(It->Hp->Prop)->Prop
def PIE(X:Cx)(yp:Pq)(Y:St)(tg:Expr)(R:It->Hp->Prop)(itv:Value)(s2:Shared):Prop :=
 ∃(it:Addr) (fp:List Addr) (tn:Nat->Heap->Prop) (J:It) (H':Hp),itv=.ref it/\Inv X yp Y H' s2/\Turn X.prog X.w X.K tg J fp it tn/\tn 0 s2.heap/\(∀b∈fp,FpOk X yp H' b)/\R J H'
def PI(X:Cx)(tg iter:Expr)(wi:TI):Prop :=
 ∀(yp:Pq) (s:Shared) (Y:St) (H:Hp) (R:It->Hp->Prop),Inv X yp Y H s->wi Y H R ->
  wpAny (model X.prog X.w) X.A (eval iter X.env) (λv s1=>wpAny (model X.prog X.w) X.A (pyIter v) (PIE X yp Y tg R) X.xe s1) X.xe s
def JOQ{E:Vq}{it:Addr}{n:String}{Q:Unit->Shared->Prop}(ho:s.heap.get? it=some o)(hc:o.cls=.type n)(hd:o.data=.fields vs)
  (hn:["enumerate","zip","dict_itemiterator","dict_reverseitemiterator","odict_iterator","itertools.zip_longest","itertools.pairwise"].contains n=false) (hQ:Q () s):wpAny M A (letOwnedTupleGo tg (.ref it) u) Q E s:=by
 unfold letOwnedTupleGo;cases tg<;>first
  |exact q_e hQ
  |(cases u<;>first
      |exact q_e hQ
      |(refine q_b (wpAny_load ho ?_)
        rw[hc,hd];show wpAny M A (if (["enumerate","zip","dict_itemiterator","dict_reverseitemiterator","odict_iterator","itertools.zip_longest","itertools.pairwise"].contains n&&vs[0]? == some (rawInt _))=true then _ else _) Q E s;rw[if_neg (by intro h;rw[hn,Bool.false_and]at h;cases h)]
        exact q_e hQ))
abbrev Itl(K:Kq)(a:Addr):It :=
 #[λi H=>∃xs x,SqL K H a xs/\xs[i]? = some x,λi H x H'=>H'=H/\∀xs,SqL K H a xs->xs[i]? = some x,λi H=>∃xs,SqL K H a xs/\xs.length<=i]
abbrev Itt(K:Kq)(a:Addr):It :=
 #[λi H=>∃xs x,SqT K H a xs/\xs[i]? = some x,λi H x H'=>H'=H/\∀xs,SqT K H a xs->xs[i]? = some x,λi H=>∃xs,SqT K H a xs/\xs.length<=i]
abbrev Itr(lo:Int)(n:Nat):It:=#[λi _=>i<n,λi H x H'=>H'=H/\x=.int (lo+i),λi _=>n<=i]
def JJz{P:Program}{w:World}{K:Kq}{tg:Expr}(a it:Addr):Turn P w K tg (Itl K a) [it] it (λi h=>h.IsListIter it a i) where
 mem:=by simp
 obj:=λi h st b hb=>by
  have e:b=it:=by simpa using hb
  subst e;obtain⟨o,e,c,d⟩:=st;exact#[o,e,λv z=>by rw[d]at z;cases z]
 keep:=λi h h' st k=>st.at λo e=>k it (by simp) o e
 item:=by
  intro X hP hw hK hc i yp s Y H E I hf st hg;subst hP hw hK;obtain⟨xs,x,hq,hx⟩:=hg;obtain⟨its,rv,p,hz⟩:=I.list hq;obtain⟨u,hu,ru⟩:=rv.get hx;obtain⟨f0,f1,f2,f3,f4,f5⟩:=hf it (by simp)
  refine wpAny_pyNext_list_item st p.isList (x:=u) (by simpa using hu) λh' st' sb=>?_
  have I1:Inv X yp Y H { s with heap:=h' }:=I.turned (t':=s.toks) (λb o hb e=>(sb.2 b hb).trans e) f0 f1 f3 f4 f5
  obtain⟨o,e,c,d⟩:=id st';exact#[u,rfl,JOQ (s:={ s with heap:=h' }) e c d (by decide) #[x,H,I1,ru,#[rfl,λys hy=>by rw[I.list_inj hy hq];exact hx],st',λb hb=>(hf b hb).1]]
 done:=by
  intro X hP hw hK hc i yp s Y H E I hf st hg;subst hP hw hK;obtain⟨xs,hq,hx⟩:=hg;obtain⟨its,rv,p,hz⟩:=I.list hq;obtain⟨f0,f1,f2,f3,f4,f5⟩:=hf it (by simp)
  have hl:=rv.length;exact wpAny_pyNext_list_end (I.ok.hd hc) st p.isList (by simp;omega) λh' eb=>#[rfl,I.turned (t':=s.toks) (λb o hb e=>eb b o hb e) f0 f1 f3 f4 f5]
 self:=λ_ _ _ _ _ st h=>wpAny_pyIter_listiter st h
def JHW{P:Program}{w:World}{K:Kq}{tg:Expr}(a it:Addr):Turn P w K tg (Itt K a) [it] it (λi h=>h.IsTupleIter it a i) where
 mem:=by simp
 obj:=λi h st b hb=>by
  have e:b=it:=by simpa using hb
  subst e;obtain⟨o,e,c,d⟩:=st;exact#[o,e,λv z=>by rw[d]at z;cases z]
 keep:=λi h h' st k=>st.at λo e=>k it (by simp) o e
 item:=by
  intro X hP hw hK hc i yp s Y H E I hf st hg;subst hP hw hK;obtain⟨xs,x,hq,hx⟩:=hg;obtain⟨its,rv,p,hz⟩:=I.tuple hq;obtain⟨u,hu,ru⟩:=rv.get hx;obtain⟨f0,f1,f2,f3,f4,f5⟩:=hf it (by simp)
  refine wpAny_pyNext_tuple_item st (show s.heap.IsTuple a its.toArray from p) (x:=u) (by simpa using hu) λh' st' sb=>?_
  have I1:Inv X yp Y H { s with heap:=h' }:=I.turned (t':=s.toks) (λb o hb e=>(sb.2 b hb).trans e) f0 f1 f3 f4 f5
  obtain⟨o,e,c,d⟩:=id st';exact#[u,rfl,JOQ (s:={ s with heap:=h' }) e c d (by decide) #[x,H,I1,ru,#[rfl,λys hy=>by rw[I.tuple_inj hy hq];exact hx],st',λb hb=>(hf b hb).1]]
 done:=by
  intro X hP hw hK hc i yp s Y H E I hf st hg;subst hP hw hK;obtain⟨xs,hq,hx⟩:=hg;obtain⟨its,rv,p,hz⟩:=I.tuple hq;obtain⟨f0,f1,f2,f3,f4,f5⟩:=hf it (by simp)
  have hl:=rv.length;exact wpAny_pyNext_tuple_end (I.ok.hd hc) st (show s.heap.IsTuple a its.toArray from p) (by simp;omega) λh' eb=>#[rfl,I.turned (t':=s.toks) (λb o hb e=>eb b o hb e) f0 f1 f3 f4 f5]
 self:=λ_ _ _ _ _ st h=>wpAny_pyIter_tupleiter st h
def JHb{P:Program}{w:World}{K:Kq}{tg:Expr}(it:Addr)(lo:Int)(n:Nat):Turn P w K tg (Itr lo n) [it] it (λi h=>IsRangeIter h it (lo+(i:Nat)*1) ((n:Int) - (i:Nat)) 1) where
 mem:=by simp
 obj:=λi h st b hb=>by
  have e:b=it:=by simpa using hb
  subst e;exact#[_,st,λv z=>by
   have z':Data.fields _=Data.cell v:=z;cases z']
 keep:=λi h h' st k=>k it (by simp) _ st
 item:=by
  intro X hP hw hK hc i yp s Y H E I hf st hg;subst hP hw hK;obtain⟨f0,f1,f2,f3,f4,f5⟩:=hf it (by simp)
  have W:=Walks.range (prog:=X.prog) (w:=X.w) (I.ok.hd hc) it lo 1 n;refine W.item i s _ _ hg st λv h' tk hv st' kk=>?_;obtain⟨t,rfl⟩:=hv;have I1:Inv X yp Y H { s with heap:=h',toks:=tk }:=I.turned (λb o hb e=>kk b o (by simpa using hb) e) f0 f1 f3 f4 f5
  refine#[_,rfl,JOQ (s:={ s with heap:=h',toks:=tk }) (n:="range_iterator") st' rfl rfl (by decide) #[.int (lo+i),H,I1,#[t,?_],#[rfl,rfl],st',λb hb=>(hf b hb).1]]
  rw[Int.mul_one]
 done:=by
  intro X hP hw hK hc i yp s Y H E I hf st hg;subst hP hw hK;obtain⟨f0,f1,f2,f3,f4,f5⟩:=hf it (by simp)
  exact wpAny_pyNext_range_end (I.ok.hd hc) st (by have:n<=i:=hg;omega) λh' eb=>#[rfl,I.turned (t':=s.toks) (λb o hb e=>eb b o hb e) f0 f1 f3 f4 f5]
 self:=λ_ _ _ _ _ st h=>wpAny_pyIter_rangeiter st h
end L2
namespace L2
open PySem PySem.Spec PyProof.Rows
section
variable{X:Cx}{tg:Expr}
def iList(K:Kq)(tl:TE):TI:=λY H R=>tl Y H λx H1=>∃a,x=.ref a/\(∃xs,SqL K H1 a xs)/\R (Itl K a) H1
def iTup(K:Kq)(tl:TE):TI:=λY H R=>tl Y H λx H1=>∃a,x=.ref a/\(∃xs,SqT K H1 a xs)/\R (Itt K a) H1
def JHs{l:Expr}{tl:TE}(hl:PE X l tl):PI X tg l (iList X.K tl):=by
 intro yp s Y H R I h;refine thn (hl yp s Y H _ I h) λv s1 h_=>?_;obtain⟨x,H1,I1,r1,q1⟩:=h_;obtain⟨a,e,⟨xs,hq⟩,q⟩:=q1;subst e;cases r1;obtain⟨its,rv,p,hz⟩:=I1.list hq;refine wpAny_pyIter_list p.isList ?_;refine#[s1.heap.objs.size,[s1.heap.objs.size],_,_,H1,rfl,I1.kept (t':=s1.toks) λb o e=>q_c _ e,JJz a _,#[_,q_k _ rfl,rfl,rfl],λb hb=>?_,q];have e:b=s1.heap.objs.size:=by simpa using hb
 subst e;exact I1.fpOk (q_t _) (I1.hok.fresh (q_t _))
def JP5{l:Expr}{tl:TE}(hl:PE X l tl):PI X tg l (iTup X.K tl):=by
 intro yp s Y H R I h;refine thn (hl yp s Y H _ I h) λv s1 h_=>?_;obtain⟨x,H1,I1,r1,q1⟩:=h_;obtain⟨a,e,⟨xs,hq⟩,q⟩:=q1;subst e;cases r1;obtain⟨its,rv,p,hz⟩:=I1.tuple hq;refine wpAny_pyIter_tuple (show s1.heap.IsTuple a its.toArray from p) ?_;refine#[s1.heap.objs.size,[s1.heap.objs.size],_,_,H1,rfl,I1.kept (t':=s1.toks) λb o e=>q_c _ e,JHW a _,#[_,q_k _ rfl,rfl,rfl],λb hb=>?_,q];have e:b=s1.heap.objs.size:=by simpa using hb
 subst e;exact I1.fpOk (q_t _) (I1.hok.fresh (q_t _))
def JGl{R:It->Hp->Prop}{E:Vq}{lo hi:Int}{tk:Nat}(I:Inv X yp Y H s)(h1:-(2 ^ 62)<=lo)(h2:lo<2 ^ 62)(h3:-(2 ^ 62)<=hi)(h4:hi<2 ^ 62)
  (q:R (Itr lo (hi - lo).toNat) H):wpAny (model X.prog X.w) X.A (pyIter (.ref s.heap.objs.size)) (PIE X yp Y tg R) E { s with heap:=s.heap.push { cls:=.type "range",data:=.fields (List.toArray [.int lo t,.int hi u,.int 1 v]) },toks:=tk }:=by
 refine wpAny_pyIter_range (IsRange.new ..) (small_one h1 h2 h3 h4) ?_;have I1:Inv X yp Y H { s with heap:=s.heap.push { cls:=.type "range",data:=.fields (List.toArray [.int lo t,.int hi u,.int 1 v]) },toks:=tk }:=I.kept λb o e=>q_c _ e
 refine#[(s.heap.push { cls:=.type "range",data:=.fields (List.toArray [.int lo t,.int hi u,.int 1 v]) }).objs.size,[(s.heap.push { cls:=.type "range",data:=.fields (List.toArray [.int lo t,.int hi u,.int 1 v]) }).objs.size],_,_,H,rfl,
  I1.kept (t':=tk) λb o e=>q_c _ e,JHb _ lo (hi - lo).toNat,?_,λb hb=>?_,q]
 ·have e1:lo+((0:Nat):Int)*1=lo:=by simp
  have e2:(((hi - lo).toNat:Nat):Int) - ((0:Nat):Int)=Builtin.Range.rangeSize lo hi 1:=by rw[rangeSize_one];split<;>omega
  show IsRangeIter _ _ (lo+((0:Nat):Int)*1) ((((hi - lo).toNat:Nat):Int) - ((0:Nat):Int)) 1;rw[e1,e2];exact q_k _ rfl
 ·have e:b=(s.heap.push { cls:=.type "range",data:=.fields (List.toArray [.int lo t,.int hi u,.int 1 v]) }).objs.size:=by simpa using hb
  subst e;exact I1.fpOk (q_t _) (I1.hok.fresh (q_t _))
def iRng1(ta:TA):TI:=λY H R=>ta Y H λvs H1=>∃j:Int,vs=[.int j]/\-(2 ^ 62)<=j/\j<2 ^ 62/\R (Itr 0 j.toNat) H1
def iRng2(ta:TA):TI:=λY H R=>ta Y H λvs H1=>∃i j:Int,vs=[.int i,.int j]/\(-(2 ^ 62)<=i/\i<2 ^ 62/\-(2 ^ 62)<=j/\j<2 ^ 62)/\R (Itr i (j - i).toNat) H1
def JIL(hg:Gl X "range")(hm:X.mg "range"=none)(ha:PA X [a] ta)(hs:starEach [a] X.env=[(false,eval a X.env)]:=by rfl):PI X tg (.Call (.Name "range" p) [a] [] pos) (iRng1 ta):=by
 intro yp s Y H R I h;refine Call_ (JE5 I hg hm boot_range (PyProof.Rows.callWith_type1 (thn (ha pos yp s Y H _ I h) λus s1 ⟨vs,H1,I1,r1,q1⟩=>?_) hs rfl));obtain⟨j,e,q1,q2,q⟩:=q1;subst e;cases r1 with
 |cons r rr =>
  cases rr;obtain⟨t,rfl⟩:=r;exact call_range_1 (JGl I1 ∅ ∅ q1 q2 (by simpa using q))
def JJF{a b:Expr}(hg:Gl X "range")(hm:X.mg "range"=none)(ha:PA X [a,b] ta)(hs:starEach [a,b] X.env=[(false,eval a X.env),(false,eval b X.env)]:=by rfl)(hs2:starEach [b] X.env=[(false,eval b X.env)]:=by rfl) :
  PI X tg (.Call (.Name "range" p) [a,b] [] pos) (iRng2 ta):=by
 intro yp s Y H R I h;refine Call_ (JE5 I hg hm boot_range (PyProof.Rows.callWith_type1 (thn (ha pos yp s Y H _ I h) λus s1 ⟨vs,H1,I1,r1,q1⟩=>?_) (by rw[hs,hs2]) (by rw[hs2];rfl)))
 obtain⟨i,j,e,⟨q1,q2,q3,q4⟩,q⟩:=q1;subst e;cases r1 with
 |cons r rr =>
  cases rr with
  |cons r' rr =>
   cases rr;obtain⟨t,rfl⟩:=r;obtain⟨t',rfl⟩:=r';exact call_range_2 (JGl I1 q1 q2 q3 q4 q)
def tFor(wi:TI)(g:TG)(tb:TS):TS:=λD Y H=>wi Y H λJ H1=>∃W:Nat->Nat->St->Hp->Prop,(∃m,W 0 m Y H1)/\∀i m Y H,W i m Y H ->
 (J.stop i H/\D.nx Y H)\/(J.go i H/\∃N:St->Hp->Prop,(∀Y' H',N Y' H'->∃m',m'<m/\W (i+1) m' Y' H')/\∀x H',J.yld i H x H'->g x Y H' λY2 H2=>tb { D with nx:=N,ct:=N,bk:=D.nx } Y2 H2)
abbrev JFF(fp:List Addr)(h:Heap):Pq:=fp.filterMap λb=>(h.get? b).map λo=>(b,o)
def JBu{fp:List Addr}{h:Heap}{b:Addr}{o:Obj}(hb:b∈fp)(e:h.get? b=some o):(b,o)∈JFF fp h:=List.mem_filterMap.mpr #[b,hb,by rw[e];rfl]
def JH1(hp:p∈JFF fp h):p.1∈fp/\h.get? p.1=some p.2:=by
 obtain⟨b,hb,e⟩:=List.mem_filterMap.mp hp;cases q:h.get? b with
 |none=>rw[q]at e;cases e
 |some o =>
  rw[q]at e;have e':(b,o)=p:=Option.some.inj e;subst e';exact#[hb,q]
def Inv.pinned{yp:Pq}{Y:St}{H:Hp}{s:Shared}{fp:List Addr}(I:Inv X yp Y H s)(hf:∀b∈fp,FpOk X yp H b)(ho:∀b∈fp,∃o,s.heap.get? b=some o/\∀v,o.data≠.cell v):Inv X (yp++JFF fp s.heap) Y H s :=
 I.pins_of λp hp=>(List.mem_append.mp hp).elim (λz=>I.pin p (q_r _ z)) λz=>by
  obtain⟨hb,e⟩:=JH1 z;obtain⟨f0,f1,f2,_⟩:=hf p.1 hb;obtain⟨o,e',d⟩:=ho p.1 hb;rw[e]at e';cases e';exact#[e,f0,f1,f2,d]
def Inv.unpinned(I:Inv X (yp++pl) Y H s):Inv X yp Y H s:=I.pins_of λp hp=>I.pin p (q_r _ (List.mem_append_left _ hp))
def JM0(hp:PassesOwn (model X.prog X.w) X.A X.env X.xe)(hc:X.calm=true)(hi:PI X tg iter wi)(hg:PG X tg g)(hb:PSs X body tb)
  (hs:∀x,foldedSetIterable iter X.env x=pure x:=by intro _;rfl):PS X (.For tg iter body [] pos) (tFor wi g tb):=by
 intro yp s Y H D I h;refine wpAny_For (thn (hi yp s Y H _ I h) λv s1 h1=>thn h1 λitv s2 h2=>?_) hs;obtain⟨it,fp,tn,J,H2,e,I2,T,st2,f2,W,⟨m0,w0⟩,turn⟩:=h2;subst e;have stat:∀ {H':Hp},(∀b∈fp,H' b=none)->∀b∈fp,FpOk X yp H' b:=λhn b hb=>#[hn b hb,(f2 b hb).2];refine codeAny_forLoop_any (λn s'=>∃i Y' H',Inv X yp Y' H' s'/\tn i s'.heap/\(∀b∈fp,H' b=none)/\W i n Y' H') ?_ m0 #[0,Y,H2,I2,st2,λb hb=>(f2 b hb).1,w0];rintro n s3 ⟨i,Y3,H3,I3,st3,fr3,w3⟩;rcases turn i n Y3 H3 w3 with ⟨stop,qn⟩|⟨go,N,hN,step⟩
 ·refine wpAny_passesOwn hp (thn (T.done X rfl rfl rfl hc i yp s3 Y3 H3 X.xe I3 (stat fr3) st3 stop) λr s4 h_=>?_);obtain⟨hr,I4⟩:=h_;subst hr;exact wpAny_execs_nil #[Y3,H3,I4,qn]
 ·refine wpAny_passesOwn hp (thn (T.item X rfl rfl rfl hc i yp s3 Y3 H3 X.xe I3 (stat fr3) st3 go) λr s4 h_=>?_);obtain⟨u,hr,h4⟩:=h_;subst hr;refine wpAny_passesOwn hp (thn h4 λ_ s5 h_=>?_);obtain⟨x,H5,I5,r5,y5,st5,fr5⟩:=h_;have I5':=I5.pinned (stat fr5) (T.obj _ _ st5);refine wpAny_passesOwn hp (thn (hg _ s5 Y3 H5 x u _ I5' r5 (step x H5 y5)) λ_ s6 h_=>?_);obtain⟨Y6,H6,I6,q6⟩:=h_;refine wpAny_passesOwn hp (thn (hb _ s6 Y6 H6 _ I6 q6) λf s7 q7=>?_);have again:∀ {Y7:St}{H7:Hp},Inv X (yp++JFF fp s5.heap) Y7 H7 s7->N Y7 H7->∃m,m<n/\∃i Y' H',Inv X yp Y' H' s7/\tn i s7.heap/\(∀b∈fp,H' b=none)/\W i m Y' H':=λ{Y7 H7} I7 n7=>by
    obtain⟨m',hm,w7⟩:=hN Y7 H7 n7;refine#[m',hm,i+1,Y7,H7,I7.unpinned,T.keep _ _ _ st5 λb hb o e=>(I7.pin (b,o) (q_r _ (q_r _ (JBu hb e)))).1,λb hb=>?_,w7];obtain⟨o,e,d⟩:=T.obj _ _ st5 b hb;exact(I7.pin (b,o) (q_r _ (q_r _ (JBu hb e)))).2.1
  cases f with
  |next=>obtain⟨Y7,H7,I7,n7⟩:=q7;exact again I7 n7
  |cont=>obtain⟨Y7,H7,I7,n7⟩:=q7;exact again I7 n7
  |brk=>obtain⟨Y7,H7,I7,q7⟩:=q7;exact#[Y7,H7,I7.unpinned,q7]
  |ret v=>obtain⟨x7,Y7,H7,I7,r7,q7⟩:=q7;exact#[x7,Y7,H7,I7.unpinned,r7,q7]
end
end L2
namespace L2
open PySem PySem.Spec PyProof.Rows
noncomputable abbrev R2:=V->V->Hp->VK->Prop
def OpR(X:Cx)(f:Value->Value->Sem Value)(r:R2):Prop :=
 ∀(yp:Pq) (s:Shared) (Y:St) (H:Hp) (x y:V) (v u:Value) (Q:VK),Inv X yp Y H s->RelV x v->RelV y u->r x y H Q ->
  wpAny (model X.prog X.w) X.A (f v u) (EP X yp Y Q) X.xe s
def UnR(X:Cx)(f:Value->Sem Value)(r:V->Hp->VK->Prop):Prop :=
 ∀(yp:Pq) (s:Shared) (Y:St) (H:Hp) (x:V) (v:Value) (Q:VK),Inv X yp Y H s->RelV x v->r x H Q ->
  wpAny (model X.prog X.w) X.A (f v) (EP X yp Y Q) X.xe s
def JBl(X:Cx)(f:Value)(r:List V->Hp->VK->Prop):Prop :=
 ∀(yp:Pq) (s:Shared) (Y:St) (H:Hp) (xs:List V) (us:List Value) (Q:VK),Inv X yp Y H s->Vals xs us->r xs H Q ->
  wpAny (model X.prog X.w) X.A (call f us) (EP X yp Y Q) X.xe s
def TruR(X:Cx)(r:V->Hp->(Bool->Hp->Prop)->Prop):Prop :=
 ∀(yp:Pq) (s:Shared) (Y:St) (H:Hp) (x:V) (v:Value) (Q:Bool->Hp->Prop),Inv X yp Y H s->RelV x v->r x H Q ->
  wpAny (model X.prog X.w) X.A (truthy v) (TP X yp Y Q) X.xe s
def tOp(r:R2)(ta tb:TE):TE:=λY H Q=>ta Y H λx H1=>tb Y H1 λy H2=>r x y H2 Q
def tUn(r:V->Hp->VK->Prop)(ta:TE):TE:=λY H Q=>ta Y H λx H1=>r x H1 Q
abbrev rI(C:Int->Int->Prop)(g:Int->Int->V):R2:=λx y H Q=>∃i j,x=.int i/\y=.int j/\C i j/\Q (g i j) H
abbrev rI0(g:Int->Int->V):R2:=λx y H Q=>∃i j,x=.int i/\y=.int j/\Q (g i j) H
def rU(g:Int->V):V->Hp->VK->Prop:=λx H Q=>∃i,x=.int i/\Q (g i) H
section
variable{X:Cx}{a b c:Expr}{ta tb tc:TE}{pos:Pos}
def binT(ha:PE X a ta)(hb:PE X b tb){yp:Pq}{s:Shared}{Y:St}{H:Hp}{R:V->V->Hp->Prop}(I:Inv X yp Y H s)
  (h:ta Y H λx H1=>tb Y H1 λy H2=>R x y H2) {Q:Vq}{f:Value->Value->Sem Value}
  (hf:∀v u s2 x y H2,Inv X yp Y H2 s2->RelV x v->RelV y u->R x y H2->wpAny (model X.prog X.w) X.A (f v u) Q X.xe s2) :
  wpAny (model X.prog X.w) X.A (eval a X.env) (λv s₁=>wpAny (model X.prog X.w) X.A (eval b X.env) (λu s₂=>wpAny (model X.prog X.w) X.A (f v u) Q X.xe s₂) X.xe s₁) X.xe s:=by
 refine thn (ha yp s Y H _ I h) λv s1 h_=>?_;obtain⟨x,H1,I1,r1,q1⟩:=h_;refine thn (hb yp s1 Y H1 _ I1 q1) λu s2 h_=>?_;obtain⟨y,H2,I2,r2,q2⟩:=h_;exact hf v u s2 x y H2 I2 r1 r2 q2
def pe_op{op:Operator}{r:R2}(ho:OpR X (binaryOp op) r)(ha:PE X a ta)(hb:PE X b tb):PE X (.BinOp a op b pos) (tOp r ta tb):=by
 intro yp s Y H Q I h;exact wpAny_BinOp (binT ha hb I h λv u s2 x y H2 I2 rx ry q=>ho yp s2 Y H2 x y v u Q I2 rx ry q)
def JPa(ho:UnR X (unaryOp op) r)(ha:PE X a ta):PE X (.UnaryOp op a pos) (tUn r ta):=by
 intro yp s Y H Q I h;exact UnaryOp_ (thn (ha yp s Y H _ I h) λv s1 ⟨x,H1,I1,r1,q1⟩=>ho yp s1 Y H1 x v Q I1 r1 q1)
def opI{f:Value->Value->Sem Value}{C:Int->Int->Prop}{g:Int->Int->Int}
  (rule:∀(i j:Int) (t u:Tok) (s:Shared) (Q:Vq) (E:Vq),C i j->Q (.int (g i j) s.toks) { s with toks:=s.toks+1 }->wpAny (model X.prog X.w) X.A (f (.int i t) (.int j u)) Q E s) :
  OpR X f (rI C λi j=>.int (g i j)):=by
 intro yp s Y H x y v u Q I rx ry h;obtain⟨i,j,rfl,rfl,hc,q⟩:=h;obtain⟨t,rfl⟩:=rx;obtain⟨t',rfl⟩:=ry;exact rule i j t t' s _ _ hc #[.int (g i j),H,I.tok _,#[_,rfl],q]
def opI0{f:Value->Value->Sem Value}{g:Int->Int->Int}
  (rule:∀(i j:Int) (t u:Tok) (s:Shared) (Q:Vq) (E:Vq),Q (.int (g i j) s.toks) { s with toks:=s.toks+1 }->wpAny (model X.prog X.w) X.A (f (.int i t) (.int j u)) Q E s) :
  OpR X f (rI0 λi j=>.int (g i j)):=by
 intro yp s Y H x y v u Q I rx ry h;obtain⟨i,j,rfl,rfl,q⟩:=h;obtain⟨t,rfl⟩:=rx;obtain⟨t',rfl⟩:=ry;exact rule i j t t' s _ _ #[.int (g i j),H,I.tok _,#[_,rfl],q]
def opB0{f:Value->Value->Sem Value}{g:Int->Int->Bool}
  (rule:∀(i j:Int) (t u:Tok) (s:Shared) (Q:Vq) (E:Vq),Q (.bool (g i j)) s->wpAny (model X.prog X.w) X.A (f (.int i t) (.int j u)) Q E s) :
  OpR X f (rI0 λi j=>.bl (g i j)):=by
 intro yp s Y H x y v u Q I rx ry h;obtain⟨i,j,rfl,rfl,q⟩:=h;obtain⟨t,rfl⟩:=rx;obtain⟨t',rfl⟩:=ry;exact rule i j t t' s _ _ #[.bl (g i j),H,I,rfl,q]
def JPd:OpR X (binaryOp .Add) (rI0 λi j=>.int (i+j)):=opI0 λ_ _ _ _ _ _ _ q=>add_int q
def JPl:OpR X (binaryOp .Sub) (rI0 λi j=>.int (i - j)):=opI0 λ_ _ _ _ _ _ _ q=>sub_int q
def JPS:OpR X (binaryOp .Mod) (rI (λ_ j=>j≠0) λi j=>.int (i.fmod j)):=opI λ_ _ _ _ _ _ _ hc q=>mod_int' hc q
def unI{f:Value->Sem Value}{g:Int->Int}
  (rule:∀(i:Int) (t:Tok) (s:Shared) (Q:Vq) (E:Vq),Q (.int (g i) s.toks) { s with toks:=s.toks+1 }->wpAny (model X.prog X.w) X.A (f (.int i t)) Q E s) :
  UnR X f (rU λi=>.int (g i)):=by
 intro yp s Y H x v Q I rx h;obtain⟨i,rfl,q⟩:=h;obtain⟨t,rfl⟩:=rx;exact rule i t s _ _ #[.int (g i),H,I.tok _,#[_,rfl],q]
def JLr:UnR X (unaryOp .USub) (rU λi=>.int (-i)):=unI λ_ _ _ _ _ q=>neg_int q
end
section
variable{X:Cx}{a b c:Expr}{ta tb tc:TE}{pos:Pos}
def op_lt:OpR X (compareOp .Lt) (rI0 λi j=>.bl (decide (i<j))):=opB0 λ_ _ _ _ _ _ _ q=>lt_int q
def op_le:OpR X (compareOp .LtE) (rI0 λi j=>.bl (decide (i<=j))):=opB0 λ_ _ _ _ _ _ _ q=>le_int q
def op_gt:OpR X (compareOp .Gt) (rI0 λi j=>.bl (decide (j<i))):=opB0 λ_ _ _ _ _ _ _ q=>gt_int q
def op_ge:OpR X (compareOp .GtE) (rI0 λi j=>.bl (decide (j<=i))):=opB0 λ_ _ _ _ _ _ _ q=>ge_int q
def JJl{op:CmpOp}{r:R2}(ho:OpR X (compareOp op) r)(ha:PE X a ta)(hb:PE X b tb)(hm:behindInMarks op b=false):PE X (.Compare a [op] [b] pos) (tOp r ta tb):=by
 intro yp s Y H Q I h;exact wpAny_Compare1 (binT ha hb I h λv u s2 x y H2 I2 rx ry q=>ho yp s2 Y H2 x y v u Q I2 rx ry q) hm
def JSf(t:TE):TT:=λY H Q=>t Y H λx H'=>∃k,x=.bl k/\Q k H'
def JIs(ho:OpR X (compareOp op) r)(ha:PE X a ta)(hb:PE X b tb)(hm:behindInMarks op b=false):PT X (.Compare a [op] [b] pos) (JSf (tOp r ta tb)):=by
 intro yp s Y H Q I h;refine wpAny_isTrue_Compare1 (thn (ha yp s Y H _ I h) λv s1 ⟨x,H1,I1,r1,q1⟩=>thn (hb yp s1 Y H1 _ I1 q1) λu s2 ⟨y,H2,I2,r2,q2⟩ =>
  thn (ho yp s2 Y H2 x y v u _ I2 r1 r2 q2) λc s3 ⟨z,H3,I3,r3,k,e,q3⟩=>?_) hm
 subst e;cases r3;exact wpAny_truthy_bool #[H3,I3,q3]
def TruV(K:Kq)(x:V)(H:Hp)(k:Bool):Prop :=
 match x with
 |.non=>k=false
 |.bl b=>k=b
 |.int i=>k=(i != 0)
 |.str y=>y.length<=sizeLine/\k=((y.length:Int) != 0)
 |.byt y=>y.size<=sizeLine/\k=((y.size:Int) != 0)
 |.ref p=>(∃xs,SqL K H p xs/\k=!xs.isEmpty)\/(∃xs,SqT K H p xs/\k=!xs.isEmpty)\/∃kvs,H p=some (.dK kvs)/\k=!kvs.isEmpty
 |_=>False
def JHZ{κ:Type}{kvs:List (κ×V)}{vs:List (κ×Value)}(r:KV kvs vs):(!vs.isEmpty)=!kvs.isEmpty:=by
 cases r<;>rfl
def JDm{xs:List V}{its:List Value}(r:Vals xs its):(!its.toArray.isEmpty)=!xs.isEmpty:=by
 cases r<;>simp
def JFb:(sizeLine:Nat)<2 ^ 63:=by rw[sizeLine_eq];decide
def JNL:TruR X (λx H Q=>∃k,TruV X.K x H k/\Q k H):=by
 intro yp s Y H x v Q I rx h;obtain⟨k,e,q⟩:=h;have hl:=JFb;have hs:sizeLine=16777216:=sizeLine_eq;cases x with
 |non =>
  cases rx;have e':k=false:=e;subst e';exact truthy_none #[H,I,q]
 |bl b =>
  cases rx;have e':k=b:=e;subst e';exact wpAny_truthy_bool #[H,I,q]
 |int i =>
  obtain⟨t,rfl⟩:=rx;have e':k=(i != 0):=e;subst e';exact PySem.P.truthy_int #[H,I,q]
 |str y =>
  obtain⟨t,rfl⟩:=rx;obtain⟨hy,e'⟩:y.length<=sizeLine/\k=((y.length:Int) != 0):=e;subst e';exact PySem.P.truthy_str ∅ #[H,I.tok _,q]
 |byt y =>
  obtain⟨t,rfl⟩:=rx;obtain⟨hy,e'⟩:y.size<=sizeLine/\k=((y.size:Int) != 0):=e;subst e';exact PySem.W.truthy_bytes ∅ #[H,I.tok _,q]
 |ref p =>
  cases rx;have e':(∃xs,SqL X.K H p xs/\k=!xs.isEmpty)\/(∃xs,SqT X.K H p xs/\k=!xs.isEmpty)\/∃kvs,H p=some (.dK kvs)/\k=!kvs.isEmpty:=e;rcases e' with ⟨xs,hx,e'⟩|⟨xs,hx,e'⟩|⟨kvs,hx,e'⟩
  ·subst e';obtain⟨its,r,pl,hz⟩:=I.list hx;have hlen:=r.length;exact wpAny_truthy_list pl.isList (by simp![q_f];omega) #[H,I.tok _,by rw[JDm r];exact q]
  ·subst e';obtain⟨its,r,pl,hz⟩:=I.tuple hx;have hlen:=r.length;exact truthy_tuple pl (by simp![q_f];omega) #[H,I.tok _,by rw[JDm r];exact q]
  ·subst e';obtain⟨hz,hS,vs,r,m⟩:kvs.length<=sizeLine/\(p==sysModules)=false/\∃vs,KV kvs vs/\s.heap.DictOf (JBN X.prog X.w) p vs:=I.hok p _ hx;have hlen:kvs.length=vs.length:=Paired.length r;exact wpAny_truthy_dict hS m ∅ #[H,I.tok _,by rw[JHZ r];exact q]
 |_=>exact(show False from e).elim
def JLS(ha:PE X a ta)(he:∀whole,isTrue a X.env whole=(do let v<-whole;standAt a.pos;holding [v] (truthy v))) :
  PT X a (λY H Q=>ta Y H λx H'=>∃k,TruV X.K x H' k/\Q k H'):=by
 intro yp s Y H Q I h;exact isTrue_plain (thn (ha yp s Y H _ I h) λv s1 ⟨x,H1,I1,r1,q1⟩=>JNL yp s1 Y H1 x v Q I1 r1 q1) (he _)
def vals1(r:Vals [x] us):∃u,us=[u]/\RelV x u:=by
 cases r with
 |cons r1 r2=>cases r2;exact#[_,rfl,r1]
def JLJ:JBl X (.builtin "abs") (λxs H Q=>∃i,xs=[.int i]/\Q (.int (if i<0 then -i else i)) H):=by
 intro yp s Y H xs us Q I r h;obtain⟨i,rfl,q⟩:=h;obtain⟨u,rfl,t,rfl⟩:=vals1 r;exact call_abs_int λu tk=>#[.int (if i<0 then -i else i),H,I.tok _,#[_,rfl],q]
def LenV(K:Kq)(x:V)(H:Hp)(n:Nat):Prop :=
 match x with
 |.str y=>y.length<=sizeLine/\n=y.length
 |.byt y=>y.size<=sizeLine/\n=y.size
 |.ref p=>(∃xs,SqL K H p xs/\n=xs.length)\/∃xs,SqT K H p xs/\n=xs.length
 |_=>False
def JKw:JBl X (.builtin "len") (λxs H Q=>∃x n,xs=[x]/\LenV X.K x H n/\Q (.int n) H):=by
 intro yp s Y H xs us Q I r h;obtain⟨x,n,rfl,e,q⟩:=h;obtain⟨u,rfl,rx⟩:=vals1 r;have hl:=JFb;have hs:sizeLine=16777216:=sizeLine_eq;cases x with
 |str y =>
  obtain⟨t,rfl⟩:=rx;obtain⟨hy,e'⟩:y.length<=sizeLine/\n=y.length:=e;subst e';exact len_str ∅ #[.int _,H,I.tok _,#[_,rfl],q]
 |byt y =>
  obtain⟨t,rfl⟩:=rx;obtain⟨hy,e'⟩:y.size<=sizeLine/\n=y.size:=e;subst e';exact PySem.W.len_bytes ∅ #[.int _,H,I.tok _,#[_,rfl],q]
 |ref p =>
  cases rx;have e':(∃xs,SqL X.K H p xs/\n=xs.length)\/∃xs,SqT X.K H p xs/\n=xs.length:=e;rcases e' with ⟨xs,hx,e'⟩|⟨xs,hx,e'⟩
  ·subst e';obtain⟨its,r',pl,hz⟩:=I.list hx;have hlen:=r'.length;exact Calls.call_len_list pl.isList (by simp![q_f];omega) #[.int xs.length,H,I.tok _,#[_,by simp![q_f];rw[hlen]],q]
  ·subst e';obtain⟨its,r',pl,hz⟩:=I.tuple hx;have hlen:=r'.length;exact len_tuple pl (by simp![q_f];omega) #[.int xs.length,H,I.tok _,#[_,by simp![q_f];rw[hlen]],q]
 |_=>exact(show False from e).elim
end
end L2
namespace L2
open PySem PySem.Spec PyProof.Rows
structure ObjM(h:Heap)(x dx C:Addr)(mA:Mq):Prop where
 obj:h.get? x=some (PySem.W.instObj C dx)
 ns:h.Ns1 dx mA
 ne:dx≠x
def JJh{h:Heap}{dx:Addr}{mA:Mq}(n:h.Ns1 dx mA):∃od,h.get? dx=some od/\∀name,PySem.W.lookIn name od=some (mA name):=by
 obtain⟨o,es,ep,ho,hd,hk,_,hm⟩:=n;refine#[o,ho,λname=>?_];have e:=hm name;unfold nsFind findBy at e;rw[<-Array.find?_toList]at e;unfold PySem.W.lookIn;rw[hd]
 dsimp only
 split
 ·rename_i y q;rw[q]at e;exact congrArg some e
 ·rename_i q;rw[q]at e;have a:es.toList.any (·.refKey)=false:=by
   rw[List.any_eq_false];intro y hy;obtain⟨z,t,hkey⟩:=hk y (Array.mem_toList_iff.mp hy);simp[DictEntry.refKey,hkey]
  have a':¬es.toList.any (·.refKey)=true:=by rw[a];exact Bool.false_ne_true
  rw[if_neg a'];exact congrArg some e
def ObjM.look{h:Heap}{x dx C:Addr}{mA:Mq}(I:ObjM h x dx C mA):∃od,PySem.W.InstAt h x (PySem.W.instObj C dx) C (some od)/\∀name,PySem.W.lookIn name od=some (mA name) :=
 let ⟨od,ho,hl⟩:=JJh I.ns
 #[od,#[I.obj,rfl,rfl,ho],hl]
section
variable{prog:Program}{w:World}{A:Around}{E:Vq}{s:Shared}{K:Kq}{x dx C f:Addr}{mA:Mq}{name:Str}{v:Value}
def JOT{expr:Bool}{Q:Vq}(X:K.In s.heap)(I:ObjM s.heap x dx C mA)(hg:PySem.W.plainGet K C name=true)(hh:PySem.W.hasDictIn K C=true)
  (ha:PySem.W.findIn K (.ref C) name=some none) (hv:mA name=some v) (hv':PySem.W.handedIn v=true) (h:Q v { s with toks:=s.toks+1 }) :
  wpAny (model prog w) A (getAttr (.ref x) name expr) Q E s:=by
 obtain⟨od,J,hl⟩:=I.look;exact PySem.W.get_value X J (PySem.W.plainGet_of hg).1 (PySem.W.findObj_own hh ha rfl (by rw[hl,hv])) hv' h
def JKR{Q:Value×List Value->Shared->Prop}(X:K.In s.heap)(I:ObjM s.heap x dx C mA)(hg:PySem.W.plainGet K C name=true)
  (hf:PySem.W.findIn K (.ref C) name=some (some (.ref f))) (ht:PySem.W.isFn K (.ref f)=true) (hv:mA name=none) (h:Q (.ref f,[.ref x]) s) :
  wpAny (model prog w) A (getMethod (.ref x) name pl) Q E s:=by
 obtain⟨od,J,hl⟩:=I.look;exact PySem.W.method_fn X J (PySem.W.plainGet_of hg).1 (PySem.W.plainGet_of hg).2 hf (beq_iff_eq.mp ht) (by show(PySem.W.lookIn name od).map (·.isSome)=some false;rw[hl,hv];rfl) h
def JNS{Q:Unit->Shared->Prop}(X:K.In s.heap)(I:ObjM s.heap x dx C mA)
  (hs:PySem.W.findIn K (.ref C) "__setattr__"=some (some (.builtin "object.__setattr__"))) (hp:PySem.W.plainOver K C=true) (ht:PySem.W.takerIn K C name=some none) (hh:PySem.W.hasDictIn K C=true)
  (hw:PySem.Within mA ns) (hsz:ns.length<=sizeLine)
  (h:∀h',ObjM h' x dx C (λy=>if y=name then some v else mA y)->Heap.SameBut dx s.heap h'->Q () { s with heap:=h',toks:=s.toks+2 }) :
  wpAny (model prog w) A (setAttr (.ref x) name v) Q E s:=by
 obtain⟨od,J,hl⟩:=I.look;refine PySem.W.set_plain X J hs (PySem.W.osa_open (s:={ s with toks:=s.toks+1 }) (r:=none) X J hp ht λb=>?_)
 obtain⟨cd,hc,hd'⟩:=PySem.W.any_some hh;have hx:s.heap.get? x=some #[.ref C,some dx,.plain,#[]]:=I.obj;refine q_b (q_e (q_b (q_b (wpAny_loadPart hx (q_b (PySem.W.Looks.here (s:={ s with toks:=s.toks+1 }) (PySem.W.looks_clsIn X hc) ?_))))))
 rw[hd'];refine q_e (a:=some dx) (q_b (q_e (q_b ?_)));refine wpAny_nsSet1 (s:={ s with toks:=s.toks+1 }) I.ns λh' hn2 hs2=>?_
 obtain⟨oD,esD,epD,hoD,hdD,hcD⟩:=hn2.count (PySem.Within.cons name v hw);refine q_b (wpAny_lookBehind hoD (by rw[hdD];exact pastItsLine_dict (Nat.le_trans hcD (by rw[List.length_cons];omega))) ?_)
 exact q_e (h _ #[(hs2.2 _ (Ne.symm I.ne)).trans I.obj,hn2,I.ne] hs2)
def JKh{R:Result->Shared->Prop}{kw:List (Str×Value)}(X:K.In s.heap)(hm:PySem.W.makesIn K C=true)
  (hi:PySem.W.findIn K (.ref C) "__init__"=some (some (.ref f))) (hf:PySem.W.typeIn K (.ref f)=some (.type "function"))
  (h:codeAny (model prog w) (A.under (.builtin "type.__call__" #[.ref C::vs,kw])) (.call (.ref f) #[.ref (s.heap.objs.size+1)::vs,kw]) (PySem.W.InitBack (s.heap.objs.size+1) R)
    { s with heap:=(s.heap.push PySem.W.emptyDict).push (PySem.W.instObj C s.heap.objs.size) }) :
  codeAny (model prog w) A (.call (.ref C) #[vs,kw]) R s:=by
 obtain⟨hh,g,d,t,os⟩:=s;exact PySem.W.make_core (PySem.W.makes_of X hm) (PySem.W.looks_findIn X hi) (λself=>PySem.W.bind_fn X self hf) (.inl rfl) h
end
abbrev putF(f:Str)(v:V):List (Str×V)->List (Str×V)
 | []=>[(f,v)]
 |(g,x)::r=>if g=f then (g,v)::r else (g,x)::putF f v r
theorem JBV(f g:Str)(v:V):∀fs:List (Str×V),(putF f v fs).lookup g=if g=f then some v else fs.lookup g
 | []=>by
  show List.lookup g [(f,v)]=_
  by_cases h:g=f
  · have hb:(g==f)=true:=beq_iff_eq.mpr h
    simp![List.lookup,hb,if_pos h]
  · have hb:(g==f)=false:=beq_eq_false_iff_ne.mpr h
    simp![List.lookup,hb,if_neg h]
 |(k,x)::r=>by
  have ih:=JBV f g v r;rw[show putF f v ((k,x)::r)=(if k=f then (k,v)::r else (k,x)::putF f v r) from rfl]
  by_cases hk:k=f
  · rw[if_pos hk]
    by_cases h:g=k
    ·have hb:(g==k)=true:=beq_iff_eq.mpr h;simp![List.lookup,hb,if_pos (h.trans hk)]
    ·have hb:(g==k)=false:=beq_eq_false_iff_ne.mpr h;simp![List.lookup,hb,if_neg (λe:g=f=>h (e.trans hk.symm))]
  · rw[if_neg hk]
    by_cases h:g=k
    ·have hb:(g==k)=true:=beq_iff_eq.mpr h;simp![List.lookup,hb,if_neg (λe:g=f=>hk (h.symm.trans e))]
    ·have hb:(g==k)=false:=beq_eq_false_iff_ne.mpr h;simp![List.lookup,hb];exact ih
theorem JDD(f:Str)(v:V):∀fs:List (Str×V),f∈(putF f v fs).map (·.1)/\∀g,g∈fs.map (·.1)->g∈(putF f v fs).map (·.1)
 | []=>#[by simp[putF],λg h=>by simp at h]
 |(k,x)::r=>by
  obtain⟨i1,i2⟩:=JDD f v r;rw[show putF f v ((k,x)::r)=(if k=f then (k,v)::r else (k,x)::putF f v r) from rfl]
  by_cases hk:k=f
  · rw[if_pos hk]
    subst hk;exact#[by simp,λg h=>by simpa using h]
  · rw[if_neg hk]
    refine#[?_,λg h=>?_]
    ·rw[List.map_cons];exact q_s _ i1
    ·rw[List.map_cons]at h ⊢;rcases q_n.mp h with e|e
     ·exact q_n.mpr (.inl e)
     ·exact q_s _ (i2 g e)
theorem JDX(f:Str)(v:V):∀fs:List (Str×V),(putF f v fs).length<=fs.length+1
 | []=>by simp[putF]
 |(k,x)::r=>by
  have ih:=JDX f v r;rw[show putF f v ((k,x)::r)=(if k=f then (k,v)::r else (k,x)::putF f v r) from rfl]
  by_cases hk:k=f
  · rw[if_pos hk,List.length_cons,List.length_cons];omega
  · rw[if_neg hk,List.length_cons,List.length_cons];omega
def RelO.some_of(r:RelO (some v) o):∃u,o=some u/\RelV v u:=by
 cases o with
 |none=>exact(show False from r).elim
 |some u=>exact#[u,rfl,r]
def RelO.none_of(r:RelO none o):o=none:=by
 cases o with
 |none=>rfl
 |some u=>exact(show False from r).elim
def JIf(r:RelV v u):PySem.W.handedIn u=true:=by
 cases v with
 |non=>cases(show u=Value.none from r);rfl
 |bl b=>cases(show u=Value.bool b from r);rfl
 |int i=>obtain⟨t,e⟩:=(show ∃t,u=Value.int i t from r);cases e;rfl
 |str x=>obtain⟨t,e⟩:=(show ∃t,u=Value.str x t from r);cases e;rfl
 |byt b=>obtain⟨t,e⟩:=(show ∃t,u=Value.bytes b t from r);cases e;rfl
 |flt b=>obtain⟨t,e⟩:=(show ∃t,u=Value.float b t from r);cases e;rfl
 |ref a=>cases(show u=Value.ref a from r);rfl
 |ty n=>cases(show u=Value.type n from r);rfl
section
variable{P:Program}{w:World}{H H':Hp}{h h':Heap}{a C dx:Addr}{fs fs':List (Str×V)}
def JF4(hok:HOk P w H h)(e:H a=some (.ins C dx fs)):∃mA,ObjM h a dx C mA/\(∀f,RelO (fs.lookup f) (mA f))/\PySem.Within mA (fs.map (·.1))/\fs.length<=1000/\H dx=some (.own a):=by
 obtain⟨d,z,ne,ob,mA,n,r,q⟩:=(show ObjOk P w H h a (.ins C dx fs) from hok a _ e);exact#[mA,#[ob,n,ne],r,q,z,d]
end
structure Cls(K:Kq)(C:Addr):Prop where
 pg:PySem.W.plainGet K C Str.empty=true
 hd:PySem.W.hasDictIn K C=true
 po:PySem.W.plainOver K C=true
 sa:PySem.W.findIn K (.ref C) "__setattr__"=some (some (.builtin "object.__setattr__"))
def Cls.get{K:Kq}{C:Addr}(c:Cls K C)(f:Str):PySem.W.plainGet K C f=true:=c.pg
def NoAttr(K:Kq)(C:Addr)(f:Str):Prop:=PySem.W.findIn K (.ref C) f=some none
def NoAttr.taker{K:Kq}{C:Addr}{f:Str}(n:NoAttr K C f):PySem.W.takerIn K C f=some none:=by
 unfold PySem.W.takerIn;rw[show PySem.W.findIn K (.ref C) f=some none from n];rfl
structure Meth(K:Kq)(C:Addr)(m:Str)(f:Addr):Prop where
 at_:PySem.W.findIn K (.ref C) m=some (some (.ref f))
 fn:PySem.W.isFn K (.ref f)=true
 kp:PySem.W.keepIn K (.ref f)=true
section
variable{X:Cx}{yp:Pq}{Y:St}{H:Hp}{s:Shared}{a C dx:Addr}{fs:List (Str×V)}{f:Str}{v:V}{A:Around}{E:Vq}
def JHM{b:Bool}{Q:Vq}(I:Inv X yp Y H s)(e:H a=some (.ins C dx fs))(c:Cls X.K C)(n:NoAttr X.K C f)(l:fs.lookup f=some v)
  (h:∀u s',Inv X yp Y H s'->RelV v u->Q u s'):wpAny (model X.prog X.w) A (getAttr (.ref a) f b) Q E s:=by
 obtain⟨mA,O,r,_,_,_⟩:=JF4 I.hok e;obtain⟨u,hu,ru⟩:=RelO.some_of (v:=v) (o:=mA f) (by rw[<-l];exact r f)
 exact JOT I.kIn O (c.get f) c.hd n hu (JIf ru) (h u _ (I.tok _) ru)
def JDq{g:Addr}{Q:Value×List Value->Shared->Prop}(I:Inv X yp Y H s)(e:H a=some (.ins C dx fs))(c:Cls X.K C)(k:Meth X.K C m g)(l:fs.lookup m=none)
  (h:Q (.ref g,[.ref a]) s):wpAny (model X.prog X.w) A (getMethod (.ref a) m pl) Q E s:=by
 obtain⟨mA,O,r,_,_,_⟩:=JF4 I.hok e;have hn:mA m=none:=RelO.none_of (by rw[<-l];exact r m)
 exact JKR I.kIn O (c.get m) k.at_ k.fn hn h
def JHH{Q:Unit->Shared->Prop}(I:Inv X yp Y H s)(e:H a=some (.ins C dx fs))(c:Cls X.K C)(n:NoAttr X.K C f)(hl:fs.length<1000)(ry:RelV y u)
  (h:∀s',Inv X yp Y (upd H a (.ins C dx (putF f y fs))) s'->Q () s'):wpAny (model X.prog X.w) A (setAttr (.ref a) f u) Q E s:=by
 obtain⟨mA,O,r,wi,_,ho⟩:=JF4 I.hok e;have hz:(fs.map (·.1)).length<=sizeLine:=by rw[q_g,sizeLine_eq];omega
 refine JNS I.kIn O c.sa c.po n.taker c.hd wi hz λh' O' sb=>h _ ?_;have hd:∃o,h'.get? dx=some o:=let ⟨o,_,_,e',_⟩:=O'.ns;#[o,e']
 refine I.write (x:=a) (e:=dx) (by rw[e];exact True.intro) (.inr ho) (λb q hb z=>(sb.2 b hb).trans z) hd ?_
 refine#[by rw[JAJ O.ne];exact ho,?_,O.ne,O'.obj,_,O'.ns,λg=>?_,λg hg=>?_]
 ·have:=JDX f y fs;omega
 ·show RelO ((putF f y fs).lookup g) (if g=f then some u else mA g);rw[JBV]
  by_cases q:g=f
  · rw[if_pos q,if_pos q];exact ry
  · rw[if_neg q,if_neg q];exact r g
 ·by_cases q:g=f
  · rw[q];exact(JDD f y fs).1
  · refine(JDD f y fs).2 g (wi g λz=>hg ?_)
    show(if g=f then some u else mA g)=none;rw[if_neg q];exact z
def Inv.made(I:Inv X yp Y H s):Inv X yp Y (upd (upd H s.heap.objs.size (.own (s.heap.objs.size+1))) (s.heap.objs.size+1) (.ins C s.heap.objs.size []))
  { s with heap:=(s.heap.push PySem.W.emptyDict).push (PySem.W.instObj C s.heap.objs.size) }:=by
 have e1:(s.heap.push PySem.W.emptyDict).get? s.heap.objs.size=some PySem.W.emptyDict:=q_k s.heap rfl;have e2:((s.heap.push PySem.W.emptyDict).push (PySem.W.instObj C s.heap.objs.size)).get? (s.heap.objs.size+1)=some (PySem.W.instObj C s.heap.objs.size):=by
  have:=q_k (s.heap.push PySem.W.emptyDict) (o:=PySem.W.instObj C s.heap.objs.size) rfl
  rwa [Heap.size_push]at this
 have e3:(s.heap.push PySem.W.emptyDict).Ns s.heap.objs.size (λ_=>none):=#[PySem.W.emptyDict,#[],_,e1,rfl,(λe he=>absurd he (by simp)),λ_=>rfl]
 have I1:=I.laid (a:=s.heap.objs.size) (o:=.own (s.heap.objs.size+1)) (h':=s.heap.push PySem.W.emptyDict) (t':=s.toks) (λb u q=>q_c _ q) (q_t _) #[_,e1];refine I1.laid (a:=s.heap.objs.size+1) (o:=.ins C s.heap.objs.size []) (t':=s.toks) (λb u q=>q_c _ q) (Nat.le_of_eq (Heap.size_push _ _)) ?_;have ne:s.heap.objs.size≠s.heap.objs.size+1:=q_l (Nat.lt_succ_self _);refine#[by rw[JAJ ne,JAH],Nat.zero_le _,ne,e2,λ_=>none,(Heap.Ns1.of_empty e3).at λo q=>q_c _ q,λ_=>True.intro,λy hy=>absurd rfl hy]
def JNm{w:World}{e:Expr}{Q:Vq}(hb:attributeBase e f env (eval e env)=eval e env)
  (h:wpAny (model prog w) A (eval e env) (λo s₁=>wpAny (model prog w) A (getAttr o f true) Q E s₁) E s):wpAny (model prog w) A (eval (.Attribute e f pos) env) Q E s :=
 Attribute_any_ h (by rw[arm_eval_Attribute,hb])
end
def tFld(K:Kq)(ta:TE)(f:Str):TE:=λY H Q=>ta Y H λx H1=>∃a C dx fs v,x=.ref a/\H1 a=some (.ins C dx fs)/\Cls K C/\NoAttr K C f/\fs.lookup f=some v/\Q v H1
def sFld(K:Kq)(ta tv:TE)(f:Str):TS:=λD Y H=>tv Y H λy H1=>ta Y H1 λx H2=>∃a C dx fs,x=.ref a/\H2 a=some (.ins C dx fs)/\Cls K C/\NoAttr K C f/\fs.length<1000 /\
 D.nx Y (upd H2 a (.ins C dx (putF f y fs)))
section
variable{X:Cx}{o e value:Expr}{f:Str}{pos pos' tpos:Pos}{ta tv:TE}
def JMI(he:PE X e ta)(hb:attributeBase e f X.env (eval e X.env)=eval e X.env):PE X (.Attribute e f pos) (tFld X.K ta f):=by
 intro yp s Y H Q I h;refine JNm hb (thn (he yp s Y H _ I h) λu s1 h_=>?_);obtain⟨x,H1,I1,rx,a,C,dx,fs,v,ex,ea,c,n,l,q⟩:=h_;subst ex;obtain rfl:u=Value.ref a:=rx;exact JHM I1 ea c n l λu' s2 I2 ru=>#[v,H1,I2,ru,q]
def JLm(ha:PE X o ta)(hv:PE X value tv)(hs:swapsWith value (some (.Attribute o f pos')) pos.line X.env=pure false):PS X (.Assign [.Attribute o f pos'] value pos) (sFld X.K ta tv f):=by
 intro yp s Y H D I h;refine plainObj_wpAny_Assign_Attribute (thn (hv yp s Y H _ I h) λu s1 ⟨y,H1,I1,ry,q⟩=>thn (ha yp s1 Y H1 _ I1 q) λov s2 ⟨x,H2,I2,rx,a,C,dx,fs,ex,ea,c,n,l,q2⟩=>?_) hs;subst ex;obtain rfl:ov=Value.ref a:=rx;exact JHH I2 ea c n l ry λs3 I3=>#[Y,_,I3,q2]
end
section
variable{X:Cx}{yp:Pq}{Y:St}{H:Hp}{s:Shared}{A:Around}{E:Vq}{Q:Vq}{c:Value}{b:Bool}
end
end L2
namespace L2
open PySem PySem.Spec PyProof.Rows
structure Room(k:Nat)(A:Around):Prop where
 hd:A.handled=none
 dp:A.depth+3*k+5<recursionLimit
 un:A.units+16*k+200<cLine
def Room.mono{j k:Nat}{A:Around}(r:Room k A)(h:j<=k):Room j A:=#[r.hd,by have:=r.dp;omega,by have:=r.un;omega]
theorem Room.deeper{k:Nat}(r:Room (k+1) A)(env:Env):Room k (A.deeper env) :=
 #[r.hd,by have:=r.dp;show A.depth+1+3*k+5<_;omega,by have:=r.un;show A.units+3+16*k+200<_;omega]
def JHF{A:Around}{C:Addr}{us:List Value}{kw:List (Str×Value)}:(A.under (.builtin "type.__call__" #[.ref C::us,kw])).depth=A.depth+1:=by
 first|rfl|simp[Around.under,Code.weight,Code.isCreation,Code.isGuard,Code.isCaller,Code.frames,Code.isFrame,guardIds]
def JHf{A:Around}{C:Addr}{us:List Value}{kw:List (Str×Value)}:(A.under (.builtin "type.__call__" #[.ref C::us,kw])).units=A.units+1:=by
 first|rfl|simp[Around.under,Code.cUnits,Code.frames,Code.isFrame]
def Room.make{k:Nat}(r:Room (k+1) A)(C:Addr)(us:List Value)(kw:List (Str×Value)):Room k (A.under (.builtin "type.__call__" #[.ref C::us,kw])) :=
 #[r.hd,by have:=r.dp;rw[JHF];omega,by have:=r.un;rw[JHf];omega]
theorem Room.depth{k:Nat}{A:Around}(r:Room k A):A.depth<recursionLimit:=by have:=r.dp;omega
def tNil:TA:=λ_ H Q=>Q [] H
def tCons(ta:TE)(tr:TA):TA:=λY H Q=>ta Y H λx H1=>tr Y H1 λxs H2=>Q (x::xs) H2
section
variable{X:Cx}{e:Expr}{es:List Expr}{te:TE}{t:TA}{pos:Pos}
def JBe:PA X [] tNil:=λ_ _ _ _ H Q I h=>Calls.spliced_nil #[[],H,I,.nil,h]
def JBF(ha:PE X e te)(hr:PA X es t)(hs:starEach (e::es) X.env=(false,eval e X.env)::starEach es X.env:=by rfl):PA X (e::es) (tCons te t):=by
 intro pos yp s Y H Q I h;rw[hs];show wpAny _ _ (spliced ((false,eval e X.env)::backTo pos (starEach es X.env))) _ _ s;refine Calls.spliced_cons (thn (ha yp s Y H _ I h) λu s1 h_=>?_);obtain⟨x,H1,I1,r1,q1⟩:=h_;exact thn (hr pos yp s1 Y H1 _ I1 q1) λus s2 ⟨xs,H2,I2,r2,q2⟩=>#[x::xs,H2,I2,.cons r1 r2,q2]
def tTup(t:TA):TE:=λY H Q=>t Y H λxs H1=>xs.length<=sizeLine/\∀p,H1 p=none->Q (.ref p) (upd H1 p (.tup xs))
def tLst(t:TA):TE:=λY H Q=>t Y H λxs H1=>xs.length<=sizeLine/\∀p,H1 p=none->Q (.ref p) (upd H1 p (.lst xs))
def JP2{x1}(h:PA X es t):PE X (.Tuple es x1 pos) (tTup t):=by
 intro yp s Y H Q I hq;refine wpAny_Tuple_spliced (thn (h pos yp s Y H _ I hq) λus s1 ⟨xs,H1,I1,r,z,q⟩=>#[by rw[<-r.length];exact z,?_])
 have hf:H1 s1.heap.objs.size=none:=I1.hok.fresh (q_t _);refine#[.ref s1.heap.objs.size,upd H1 s1.heap.objs.size (.tup xs),I1.laid (t':=s1.toks) (λb u e=>q_c _ e) (q_t _) ?_,rfl,q _ hf];exact#[z,us,r,#[_,q_k _ rfl,rfl,_,rfl]]
def JIh(h:PA X es t):PE X (.List es pos) (tLst t):=by
 intro yp s Y H Q I hq;refine wpAny_List_spliced (thn (h pos yp s Y H _ I hq) λus s1 ⟨xs,H1,I1,r,z,q⟩=>#[by rw[<-r.length];exact z,?_])
 have hf:H1 s1.heap.objs.size=none:=I1.hok.fresh (q_t _);refine#[.ref s1.heap.objs.size,upd H1 s1.heap.objs.size (.lst xs),I1.laid (t':=s1.toks) (λb u e=>q_c _ e) (q_t _) ?_,rfl,q _ hf];exact#[z,us,0,r,q_k _ rfl]
end
noncomputable abbrev Sp:=List V->Hp->VK->XK->Prop
noncomputable abbrev CXT:=List Env->Hp->Shared->XK->Vq
structure Env0(P:Program)(w:World)(K:Kq)(mg:Mq)(base:Heap)(A:Around)(outer:List Env)(s:Shared)(H:Hp):Prop where
 frames:A.frames=some outer
 mod:Mod K mg base
 bs:∀b o,base.get? b=some o->s.heap.get? b=some o/\H b=none
 bsz:base.objs.size<=s.heap.objs.size
 funs:s.heap.FunFrames base outer
 frf:∀b∈frs outer,H b=none
 hok:HOk P w H s.heap
 bare:AllBare s.gens
def CE(outer:List Env)(P:Program)(w:World)(H:Hp)(s:Shared)(Q:VK)(u:Value)(s':Shared):Prop :=
 ∃v H',s'.os=s.os/\AllBare s'.gens/\Un (frs outer) [] H H' s.heap s'.heap/\HOk P w H' s'.heap/\RelV v u/\Q v H'
def CR(CX:CXT)(outer:List Env)(P:Program)(w:World)(H:Hp)(s:Shared)(Q:VK)(E:XK)(r:Result)(s':Shared):Prop :=
 match r with
 |.ok (.ret u)=>CE outer P w H s Q u s'
 |.ok _=>False
 |.error e=>CX outer H s E e s'
structure FnOk(P:Program)(w:World)(K:Kq)(mg:Mq)(base:Heap)(CX:CXT)(k:Nat)(f:Addr)(fd:FuncData)(ps:List Str)(sp:Sp):Prop where
 len:∀vs H Q E,sp vs H Q E->vs.length=ps.length
 run:∀(A:Around) (outer:List Env) (s:Shared) (H:Hp) (args:Args) (us:List Value) (vs:List V) (Q:VK) (E:XK),Room k A->Env0 P w K mg base A outer s H->BindsTo s fd args (ps.zip us)->Vals vs us->sp vs H Q E ->
  codeAny (model P w) A (.call (.ref f) args) (CR CX outer P w H s Q E) s
def Env0.make{P:Program}{w:World}{K:Kq}{mg:Mq}{base:Heap}{A:Around}{outer:List Env}{s:Shared}{H:Hp}(e:Env0 P w K mg base A outer s H)(C:Addr)(us:List Value)(kw:List (Str×Value)) :
 Env0 P w K mg base (A.under (.builtin "type.__call__" #[.ref C::us,kw])) outer s H:=#[by first|exact e.frames|(simpa[Around.under,Code.envs,Code.isFrame,pushEnvs] using e.frames),e.mod,e.bs,e.bsz,e.funs,e.frf,e.hok,e.bare]
section
variable{X:Cx}{yp:Pq}{Y:St}{H:Hp}{s s':Shared}
def Inv.env0(I:Inv X yp Y H s):Env0 X.prog X.w X.K X.mg X.base X.A X.stack s H :=
 #[I.ok.frames,I.ok.mod,I.bs,Nat.le_trans I.ok.bsz I.sz,I.stack,I.stkFree,I.hok,I.bare]
def Inv.after{Q:VK}{u:Value}(I:Inv X yp Y H s)(h:CE X.stack X.prog X.w H s Q u s'):EP X yp Y Q u s':=by
 obtain⟨v,H',os,bare,un,hok,r,q⟩:=h;obtain⟨hh,g,d,t,os'⟩:=s';obtain rfl:os'=s.os:=os;exact#[v,H',I.call (h':=hh) (g':=g) (d':=d) (t':=t) (ch:=[]) un hok bare (λb z=>absurd z (by simp)),r,q]
end
def tCall(sp:Sp)(dvs:List V)(E:XK)(t:TA):TE:=λY H Q=>t Y H λvs H1=>sp (vs++dvs) H1 Q E
def JKB(C:Addr)(m:Str)(sp:Sp)(dvs:List V)(E:XK)(ta:TE)(t:TA):TE:=λY H Q=>ta Y H λx H1=>∃a dx fs,x=.ref a/\H1 a=some (.ins C dx fs)/\fs.lookup m=none /\
 t Y H1 λvs H2=>sp (x::(vs++dvs)) H2 Q E
def JR7(C:Addr)(sp:Sp)(dvs:List V)(E:XK)(t:TA):TE:=λY H Q=>t Y H λvs H1=>∀x dx,H1 x=none->H1 dx=none->dx≠x ->
 sp (.ref x::(vs++dvs)) (upd (upd H1 dx (.own x)) x (.ins C dx [])) (λv H2=>v=.non/\Q (.ref x) H2) E
def Binds(K:Kq)(fd:FuncData)(ps:List Str)(ds:List Value):Prop :=
 ∀(s:Shared) (us:List Value),K.In s.heap->(us++ds).length=ps.length->BindsTo s fd #[us,[]] (ps.zip (us++ds))
def Binds.all{K:Kq}{fd:FuncData}{ps:List Str}(h:∀us:List Value,us.length=ps.length->bindArgs fd #[us,[]]=pure (ps.zip us)):Binds K fd ps []:=λs us _ hl=>by
 rw[List.append_nil]at hl ⊢;exact .of_eq (h us hl)
def JBd(CX:CXT)(X:Cx)(E:XK):Prop:=∀(yp:Pq) (Y:St) (H:Hp) (s:Shared) (e:Value) (s':Shared),Inv X yp Y H s->CX X.stack H s E e s'->X.xe e s'
section
variable{X:Cx}{CX:CXT}{k:Nat}{f C:Addr}{fd:FuncData}{ps:List Str}{sp:Sp}{dvs:List V}{ds:List Value}{E:XK}{x m:Str}{p pos apos:Pos}{e o:Expr}{es:List Expr}{ta:TE}{t:TA}
def JIQ{Q:VK}(F:FnOk X.prog X.w X.K X.mg X.base CX k f fd ps sp)(hr:Room k X.A)(hb:Binds X.K fd ps ds)(hd:Vals dvs ds)(hx:JBd CX X E)
  (I:Inv X yp Y H s) (r:Vals vs us) (h:sp (vs++dvs) H Q E):wpAny (model X.prog X.w) X.A (call (.ref f) us) (EP X yp Y Q) X.xe s:=by
 have r2:Vals (vs++dvs) (us++ds):=r.append hd;have hl:(us++ds).length=ps.length:=by rw[<-r2.length];exact F.len _ _ _ _ h
 refine wpAny_call (codeAny_mono (F.run X.A X.stack s H #[us,[]] (us++ds) (vs++dvs) Q E hr I.env0 (hb s us I.kIn hl) r2 h) λr s' hq=>?_);cases r with
 |error e=>exact hx yp Y H s e s' I hq
 |ok fl =>
  cases fl with
  |ret u=>exact I.after hq
  |next=>exact fF hq
  |brk=>exact fF hq
  |cont=>exact fF hq
def JJX(F:FnOk X.prog X.w X.K X.mg X.base CX k f fd ps sp)(hr:Room k X.A)(hg:Gl X x)(hm:X.mg x=some (.ref f))(hk:PySem.W.keepIn X.K (.ref f)=true)(hb:Binds X.K fd ps ds)(hd:Vals dvs ds)(hx:JBd CX X E)
  (ha:PA X (e::es) t) (hdb:(x==("__debug__":Str))=false:=by decide) (he:starEach (e::es) X.env=(false,eval e X.env)::starEach es X.env:=by rfl) (hpl:(backTo pos (starEach es X.env)).any (·.1)=false:=by rfl) :
  PE X (.Call (.Name x p) (e::es) [] pos) (tCall sp dvs E t):=by
 intro yp s Y H Q I h;refine wpAny_Call_Name_kw (JCZ I hg hm ?_ hdb);refine PySem.W.callWith_K (h₀:=X.base) I.ok.mod.kin hk (thn (ha pos yp s Y H _ I h) λus s1 ⟨vs,H1,I1,r,q⟩=>#[I1.kIn,?_]) he hpl;exact JIQ F hr hb hd hx I1 r q
def JJe(he:PE X o ta)(c:Cls X.K C)(hm:Meth X.K C m f)(F:FnOk X.prog X.w X.K X.mg X.base CX k f fd ps sp)(hr:Room k X.A)(hb:Binds X.K fd ps ds)(hd:Vals dvs ds)(hx:JBd CX X E)(ha:PA X (e::es) t)
  (hst:starEach (e::es) X.env=(false,eval e X.env)::starEach es X.env:=by rfl) (hpl:(backTo pos (starEach es X.env)).any (·.1)=false:=by rfl)
  (ht:eval (.Call (.Attribute o m apos) (e::es) [] pos) X.env=(do
    let ov<-eval o X.env
    standAt apos.atName
    let (f,first)<-holding [ov] (getMethod ov m pl)
    callWith pos f first (backTo pos (starEach (e::es) X.env)) (backToKw pos (keywordEach [] X.env))):=by rfl) :
  PE X (.Call (.Attribute o m apos) (e::es) [] pos) (JKB C m sp dvs E ta t):=by
 intro yp s Y H Q I h;refine PySem.W.methodCall_KW (pl:=pl) (thn (he yp s Y H _ I h) λu s1 ⟨x,H1,I1,rx,a,dx,fs,ex,ea,l,q⟩=>?_) ht;subst ex;obtain rfl:u=Value.ref a:=rx;refine JDq I1 ea c hm l ?_;refine PySem.W.callWith_K (first:=[.ref a]) (h₀:=X.base) I.ok.mod.kin hm.kp (thn (ha pos yp s1 Y H1 _ I1 q) λus s2 ⟨vs,H2,I2,r,q2⟩=>#[I2.kIn,?_]) hst hpl
 exact JIQ (us:=.ref a::us) (vs:=.ref a::vs) F hr hb hd hx I2 (.cons rfl r) q2
def JGA(he:PE X o ta)(c:Cls X.K C)(hm:Meth X.K C m f)(F:FnOk X.prog X.w X.K X.mg X.base CX k f fd ps sp)(hr:Room k X.A)(hb:Binds X.K fd ps ds)(hd:Vals dvs ds)(hx:JBd CX X E)
  (ht:eval (.Call (.Attribute o m apos) [] [] pos) X.env=(do
    let ov<-eval o X.env
    standAt apos.atName
    let (f,first)<-holding [ov] (getMethod ov m pl)
    callWith pos f first (backTo pos (starEach [] X.env)) (backToKw pos (keywordEach [] X.env))):=by rfl) :
  PE X (.Call (.Attribute o m apos) [] [] pos) (JKB C m sp dvs E ta tNil):=by
 intro yp s Y H Q I h;refine PySem.W.methodCall_KW (pl:=pl) (thn (he yp s Y H _ I h) λu s1 ⟨x,H1,I1,rx,a,dx,fs,ex,ea,l,q⟩=>?_) ht;subst ex;obtain rfl:u=Value.ref a:=rx;refine JDq I1 ea c hm l ?_;exact PySem.W.callWith_K0 (first:=[.ref a]) I1.kIn hm.kp (JIQ (us:=[.ref a]) (vs:=[.ref a]) F hr hb hd hx I1 (.cons rfl .nil) q)
structure Mk(K:Kq)(C f:Addr):Prop where
 makes:PySem.W.makesIn K C=true
 init:PySem.W.findIn K (.ref C) "__init__"=some (some (.ref f))
 fn:PySem.W.isFn K (.ref f)=true
 kp:PySem.W.keepIn K (.ref C)=true
def JGk{Q:VK}(M:Mk X.K C f)(F:FnOk X.prog X.w X.K X.mg X.base CX k f fd ps sp)(hr:Room (k+1) X.A)(hb:Binds X.K fd ps ds)(hd:Vals dvs ds)
  (hx:JBd CX X E) (I:Inv X yp Y H s) (r:Vals vs us)
  (h:∀x dx,H x=none->H dx=none->dx≠x->sp (.ref x::(vs++dvs)) (upd (upd H dx (.own x)) x (.ins C dx [])) (λv H2=>v=.non/\Q (.ref x) H2) E) :
  wpAny (model X.prog X.w) X.A (call (.ref C) us) (EP X yp Y Q) X.xe s:=by
 have hq:=h (s.heap.objs.size+1) s.heap.objs.size (I.hok.fresh (Nat.le_succ _)) (I.hok.fresh (q_t _)) (q_l (Nat.lt_succ_self _));have I2:=Inv.made (C:=C) I;have r2:Vals (V.ref (s.heap.objs.size+1)::(vs++dvs)) (Value.ref (s.heap.objs.size+1)::(us++ds)):=.cons rfl (r.append hd);have hl:(Value.ref (s.heap.objs.size+1)::us++ds).length=ps.length:=by
  have e:=r2.length;rw[F.len _ _ _ _ hq]at e;exact e.symm
 refine wpAny_call (JKh (f:=f) I.kIn M.makes M.init (beq_iff_eq.mp M.fn) (codeAny_mono (F.run _ X.stack _ _ #[Value.ref (s.heap.objs.size+1)::us,[]] (Value.ref (s.heap.objs.size+1)::(us++ds)) _ _ E (hr.make C us [])
  (I2.env0.make C us []) (hb _ (Value.ref (s.heap.objs.size+1)::us) I2.kIn hl) r2 hq) λr s' hq'=>?_))
 cases r with
 |error e=>exact hx yp Y _ _ e s' I2 hq'
 |ok fl =>
  cases fl with
  |ret u =>
    obtain⟨v,H',I3,rv,ev,q3⟩:=I2.after hq';subst ev;exact#[rv,#[V.ref (s.heap.objs.size+1),H',I3,rfl,q3]]
  |next=>exact fF hq'
  |brk=>exact fF hq'
  |cont=>exact fF hq'
def JPB(M:Mk X.K C f)(F:FnOk X.prog X.w X.K X.mg X.base CX k f fd ps sp)(hr:Room (k+1) X.A)(hg:Gl X x)(hm:X.mg x=some (.ref C))(hb:Binds X.K fd ps ds)(hd:Vals dvs ds)(hx:JBd CX X E)
  (ha:PA X (e::es) t) (hdb:(x==("__debug__":Str))=false:=by decide) (he:starEach (e::es) X.env=(false,eval e X.env)::starEach es X.env:=by rfl) (hpl:(backTo pos (starEach es X.env)).any (·.1)=false:=by rfl) :
  PE X (.Call (.Name x p) (e::es) [] pos) (JR7 C sp dvs E t):=by
 intro yp s Y H Q I h;refine wpAny_Call_Name_kw (JCZ I hg hm ?_ hdb);refine PySem.W.callWith_K (h₀:=X.base) I.ok.mod.kin M.kp (thn (ha pos yp s Y H _ I h) λus s1 ⟨vs,H1,I1,r,q⟩=>#[I1.kIn,?_]) he hpl;exact JGk M F hr hb hd hx I1 r q
def JK7(M:Mk X.K C f)(F:FnOk X.prog X.w X.K X.mg X.base CX k f fd ps sp)(hr:Room (k+1) X.A)(hg:Gl X x)(hm:X.mg x=some (.ref C))(hb:Binds X.K fd ps ds)(hd:Vals dvs ds)(hx:JBd CX X E)
  (hdb:(x==("__debug__":Str))=false:=by decide):PE X (.Call (.Name x p) [] [] pos) (JR7 C sp dvs E tNil):=by
 intro yp s Y H Q I h;refine wpAny_Call_Name_kw (JCZ I hg hm ?_ hdb);exact PySem.W.callWith_K0 I.kIn M.kp (JGk (us:=[]) M F hr hb hd hx I .nil h)
end
section
variable{X:Cx}{CX:CXT}{k:Nat}{f C:Addr}{fd:FuncData}{ps ks:List Str}{sp:Sp}{E:XK}{x m:Str}{p pos apos kpos:Pos}{e o:Expr}{es:List Expr}{kws:List Keyword}{te ta:TE}{t tk:TA}{nm:Option Str}
variable{g:List Value->List Value->List Value}{gV:List V->List V->List V}
end
structure FnScope(N P:List Str)(sc:Scope):Prop where
 kind:sc.kind=.function
 co:sc.isCoroutine=false
 gen:sc.isGenerator=false
 nd:N.Nodup
 pre:N.take P.length=P
 par:∀x∈P,sc.names.lookup x=some .local\/sc.names.lookup x=some .cell
 nofree:∀y∈sc.names,y.2≠.free
theorem JFM{kindOf:Str->Option NameKind}{x:Str}:∀ {binds:List (Str×Value)}{m:Mq},(∀v,(x,v) ∉ binds)->bindL kindOf binds m x=m x
 | [],_,_=>rfl
 |(n,v)::r,m,h=>by
  unfold bindL;rw[JFM λw hw=>h w (q_s _ hw)]
  split
  · have:x≠n:=by rintro rfl;exact h v List.mem_cons_self
    simp[this]
  · rfl
theorem JFA{kindOf:Str->Option NameKind}{x:Str}:∀ {binds:List (Str×Value)}{m:Mq},(∀v,(x,v) ∉ binds)->bindC kindOf binds m x=m x
 | [],_,_=>rfl
 |(n,v)::r,m,h=>by
  unfold bindC;rw[JFA λw hw=>h w (q_s _ hw)]
  split
  · rfl
  · have:x≠n:=by rintro rfl;exact h v List.mem_cons_self
    simp[this]
theorem JFW{kindOf:Str->Option NameKind}{x:Str}{v:Value}:∀ {P:List Str}{vs:List Value}{i:Nat}{m:Mq},P.Nodup->P[i]? = some x->vs[i]? = some v->kindOf x=some .local ->
  bindL kindOf (P.zip vs) m x=some v
 | [],_,_,_,_,h,_,_=>by simp at h
 |_::_,[],_,_,_,_,h,_=>by simp at h
 |p::P,w::vs,0,m,nd,h1,h2,hk=>by
  simp at h1 h2;subst h1;subst h2;show bindL kindOf ((p,w)::P.zip vs) m p=_;unfold bindL;rw[JFM λv hv=>(List.nodup_cons.mp nd).1 (List.of_mem_zip hv).1,if_pos hk];simp
 |p::P,w::vs,i+1,m,nd,h1,h2,hk=>by
  show bindL kindOf ((p,w)::P.zip vs) m x=_;unfold bindL;exact JFW (i:=i) (List.nodup_cons.mp nd).2 (by simpa using h1) (by simpa using h2) hk
theorem JEr{kindOf:Str->Option NameKind}{x:Str}{v:Value}:∀ {P:List Str}{vs:List Value}{i:Nat}{m:Mq},P.Nodup->P[i]? = some x->vs[i]? = some v->kindOf x≠some .local ->
  bindC kindOf (P.zip vs) m x=some v
 | [],_,_,_,_,h,_,_=>by simp at h
 |_::_,[],_,_,_,_,h,_=>by simp at h
 |p::P,w::vs,0,m,nd,h1,h2,hk=>by
  simp at h1 h2;subst h1;subst h2;show bindC kindOf ((p,w)::P.zip vs) m p=_;unfold bindC;rw[JFA λv hv=>(List.nodup_cons.mp nd).1 (List.of_mem_zip hv).1,if_neg hk];simp
 |p::P,w::vs,i+1,m,nd,h1,h2,hk=>by
  show bindC kindOf ((p,w)::P.zip vs) m x=_;unfold bindC;exact JEr (i:=i) (List.nodup_cons.mp nd).2 (by simpa using h1) (by simpa using h2) hk
abbrev start(N:List Str)(vs:List V):St:=vs.map some++List.replicate (N.length - vs.length) none
abbrev cxOf(CX:CXT)(P:Program)(w:World)(K:Kq)(mg:Mq)(base:Heap)(N:List Str)(qual:Str)(scope:Scope)(f:Addr)(cd:Value)(A:Around)(outer:List Env)(s:Shared)(H:Hp)(E:XK):Cx where
 prog:=P
 w:=w
 K:=K
 mg:=mg
 base:=base
 A:=A.deeper (envOfC qual scope s.heap.objs.size f cd)
 N:=N
 s₀:=s
 H₀:=H
 env:=envOfC qual scope s.heap.objs.size f cd
 outer:=outer
 stack:=envOfC qual scope s.heap.objs.size f cd::outer
 ex:=[]
 calm:=true
 fn:=λ_=>true
 pn:=[]
 xe:=λe s'=>wpAny (model P w) (A.deeper (envOfC qual scope s.heap.objs.size f cd)) (leaving (envOfC qual scope s.heap.objs.size f cd) e) (λ_ s''=>CX outer H s E e s'') (λe' s''=>CX outer H s E e' s'') s'
def JGt{sc:Scope}{n:Nat}{x:Str}(h:sc.names.lookup x=some .cell):∃c,(cellsFrom n sc.names []).lookup x=some c:=by
 have q:=PySem.W.cellsFrom_some sc.names n [] (.inl h);exact Option.isSome_iff_exists.mp q
def JHm{CX:CXT}{P:Program}{w:World}{K:Kq}{mg:Mq}{base:Heap}{N ps:List Str}{qual:Str}{scope:Scope}{f:Addr}{cd:Value}{A:Around}{outer:List Env}{s s1:Shared}{H:Hp}{E:XK}{us:List Value}{vs:List V}
  (S:FnScope N ps scope) (hd:A.handled=none) (e0:Env0 P w K mg base A outer s H) (hl:vs.length=ps.length) (r:Vals vs us)
  (x:InCallC s s.heap.objs.size (bindL (envOfC qual scope s.heap.objs.size f cd).kindOf (ps.zip us) λ_=>none) (cellsFrom (s.heap.objs.size+1) scope.names []) (bindC (envOfC qual scope s.heap.objs.size f cd).kindOf (ps.zip us) λ_=>none) s1) :
  Inv (cxOf CX P w K mg base N qual scope f cd A outer s H E) [] (start N vs) H s1:=by
 have hpl:ps.length<=N.length:=by have:=congrArg List.length S.pre;rw[List.length_take]at this;omega
 obtain⟨h1,tk,rfl,hk⟩:=x.done;have noA:∀b:Addr,b ∉ (cxOf CX P w K mg base N qual scope f cd A outer s H E).ex:=λb z=>absurd (show b∈([]:List Addr) from z) (by simp)
 refine#[#[e0.mod,S.kind,rfl,rfl,q_t _,λy z c h1 h2=>?_,λy hy=>?_,λy c _ h=>?_,λ_=>hd,Around.frames_deeper e0.frames,.inr #[rfl,rfl],λb z=>absurd z (noA b),e0.bs,e0.bsz,λb _ _=>noA b,λb z=>absurd z (noA b),e0.funs,e0.frf],
  rfl,e0.bare,Un.kept hk,#[_,x.toInCall.ns,λi y v h1 h2 h3=>?_],λy c h=>#[_,x.cell y c h],e0.hok.fresh (q_t _),λy c h=>?_,λp hp=>absurd (show p∈([]:Pq) from hp) (by simp),e0.hok.kept hk,?_]
 ·exact name_of_addr x.apart (PySem.mem_of_lookup h1) (PySem.mem_of_lookup h2)
 ·have hy:scope.names.lookup y=some .cell\/scope.names.lookup y=some .free:=hy;rcases hy with hy|hy
  · exact JGt hy
  · exact absurd rfl (S.nofree _ (PySem.mem_of_lookup hy))
 ·exact Nat.le_of_lt (x.above y c (PySem.mem_of_lookup h))
 ·have hi:i<vs.length:=by
    unfold start at h2
    by_cases hi:i<vs.length
    ·exact hi
    ·rw[List.getElem?_append_right (by simpa using hi)]at h2
     rw[List.getElem?_replicate]at h2
     split at h2<;>cases h2
  have ha:vs[i]? = some v:=by
    unfold start at h2;rw[q_C (by simpa using hi),List.getElem?_map]at h2
    cases e:vs[i]? with
    |none=>rw[e]at h2;cases h2
    |some a=>rw[e]at h2;cases h2;rfl
  obtain⟨u,hu,rv⟩:=r.get ha;have hp:ps[i]? = some y:=by
    rw[<-S.pre,List.getElem?_take_of_lt ∅];exact h1
  have ndP:ps.Nodup:=by rw[<-S.pre];exact S.nd.sublist (List.take_sublist _ _)
  refine#[u,rv,?_];rcases S.par y (List.mem_of_getElem? hp) with k|k
  · exact .inl #[k,JFW ndP hp hu k]
  · obtain⟨c,e⟩:=JGt (n:=s.heap.objs.size+1) k
    refine .inr #[.inl k,c,e,?_];have q:=x.cell y c e;rw[JEr ndP hp hu (by show scope.names.lookup y≠_;rw[k];decide)]at q
    exact q
 ·exact e0.hok.fresh (Nat.le_of_lt (x.above y c (PySem.mem_of_lookup h)))
 ·unfold start;show _=N.length;rw[q_u,q_g,List.length_replicate];omega
def JOJ{CX:CXT}{P:Program}{w:World}{K:Kq}{mg:Mq}{base:Heap}{k:Nat}{f:Addr}{name qual:Str}{params:Arguments}{body:List Stmt}{scope:Scope}{dV kV doc pm cdv ct oc:Value}{an od:Option Addr}
  {osl:Array (Option Value)}{N ps:List Str}{sp:Sp}(lk:K.lookup f=some #[oc,od,.func (PySem.W.fnOf name qual params body scope dV kV doc pm an cdv ct),osl]) (hcd:PySem.W.codeIn K cdv qual=true) (S:FnScope N ps scope)
  (len:∀vs H Q E,sp vs H Q E->vs.length=ps.length)
  (hbody:∀(A:Around) (outer:List Env) (s:Shared) (H:Hp) (vs:List V) (Q:VK) (E:XK),Room k (A.deeper (envOfC qual scope s.heap.objs.size f cdv))->sp vs H Q E ->
    ∃t,PSs (cxOf CX P w K mg base N qual scope f cdv A outer s H E) body t/\t { nx:=λ_ H'=>Q .non H',rt:=Q } (start N vs) H) :
  FnOk P w K mg base CX (k+1) f (PySem.W.fnOf name qual params body scope dV kV doc pm an cdv ct) ps sp:=by
 refine#[len,λA outer s H args us vs Q E hr e0 hb r hsp=>?_];have hl:=len _ _ _ _ hsp;have KX:K.In s.heap:=e0.mod.kin.keeps λb o e=>(e0.bs b o e).1;have lim:s.heap.NoLimit:=e0.mod.nolimit.keeps λb o e=>(e0.bs b o e).1;have hkind:∀y∈ps.zip us,scope.names.lookup y.1=some .local\/(scope.names.lookup y.1=some .cell/\((cellsFrom (s.heap.objs.size+1) scope.names []).lookup y.1).isSome=true):=λ⟨n,v⟩ hy=>by
  rcases S.par n (List.of_mem_zip hy).1 with q|q
  · exact .inl q
  · exact .inr #[q,PySem.W.cellsFrom_some _ _ _ (.inl q)]
 refine codeAny_call_function hr.depth (KX _ _ lk) rfl S.co S.gen rfl (PySem.W.codeRec_of KX hcd) (hb _ _ _ _ ?_);refine wpAny_newFunctionEnv_cells S.kind hkind λenv he s1 x=>?_;subst he;refine#[lim.keeps x.toInCall.keep,codeAny_func ?_];obtain⟨t,ht,hq⟩:=hbody A outer s H vs Q E (hr.deeper _) hsp;have I:Inv (cxOf CX P w K mg base N qual scope f cdv A outer s H E) [] (start N vs) H s1:=JHm S hr.hd e0 hl r x;refine wpAny_mono (ht [] s1 (start N vs) H _ I hq) (λfl s' hs=>?_) λe s' hs=>hs;have fin:∀ {Y':St}{H':Hp}{v:V}{u:Value},Inv (cxOf CX P w K mg base N qual scope f cdv A outer s H E) [] Y' H' s'->RelV v u->Q v H'->CE outer P w H s Q u s' :=
  λ{Y' H' v u} J rv q=>#[v,H',J.os,J.bare,J.base,J.hok,rv,q]
 cases fl with
 |ret u =>
  obtain⟨v,Y',H',J,rv,q⟩:=hs;exact fin J rv q
 |next =>
  obtain⟨Y',H',J,q⟩:=hs;exact fin (v:=V.non) (u:=Value.none) J rfl q
 |brk =>
  obtain⟨_,_,_,q⟩:=hs;exact fF q
 |cont =>
  obtain⟨_,_,_,q⟩:=hs;exact fF q
end L2
namespace L2
open PySem PySem.Spec PyProof.Rows
section
variable{X:Cx}{x:Str}{p pos:Pos}{e:Expr}{es:List Expr}{t:TA}{id T:String}{r:List V->Hp->VK->Prop}
def tCB(r:List V->Hp->VK->Prop)(t:TA):TE:=λY H Q=>t Y H λvs H1=>r vs H1 Q
def JEG(hc:JBl X (.builtin id) r)(hg:Gl X x)(hm:X.mg x=none)(hv:bootBuiltins x=some (.builtin id))(ha:PA X (e::es) t)(hn:x≠"__name__":=by decide)(hdb:(x==("__debug__":Str))=false:=by decide)
  (he:starEach (e::es) X.env=(false,eval e X.env)::starEach es X.env:=by rfl) (hpl:(backTo pos (starEach es X.env)).any (·.1)=false:=by rfl):PE X (.Call (.Name x p) (e::es) [] pos) (tCB r t):=by
 intro yp s Y H Q I h;refine wpAny_Call_Name_kw (JE5 I hg hm hv ?_ hn hdb);exact PyProof.Rows.callWith_builtin1 (thn (ha pos yp s Y H _ I h) λus s1 ⟨vs,H1,I1,r1,q1⟩=>hc yp s1 Y H1 vs us Q I1 r1 q1) he hpl
def JCv(hc:JBl X (.type T) r)(hg:Gl X x)(hm:X.mg x=none)(hv:bootBuiltins x=some (.type T))(ha:PA X (e::es) t)(hn:x≠"__name__":=by decide)(hdb:(x==("__debug__":Str))=false:=by decide)
  (he:starEach (e::es) X.env=(false,eval e X.env)::starEach es X.env:=by rfl) (hpl:(backTo pos (starEach es X.env)).any (·.1)=false:=by rfl):PE X (.Call (.Name x p) (e::es) [] pos) (tCB r t):=by
 intro yp s Y H Q I h;refine wpAny_Call_Name_kw (JE5 I hg hm hv ?_ hn hdb);exact PyProof.Rows.callWith_type1 (thn (ha pos yp s Y H _ I h) λus s1 ⟨vs,H1,I1,r1,q1⟩=>hc yp s1 Y H1 vs us Q I1 r1 q1) he hpl
end
end L2
namespace HT
open PySem PyProof.Rows
section
open PySem.SeqAt
open PySem.AutoSeq1 (wpAny_loadPart')
open PySem.MeetsSeq PySem.MeetsSeq2 PySem.MeetsSeq3
end
section
variable{prog:Program}{w:World}{A:Around}{E:Vq}{s:Shared}
def cat_tup{t b:Addr}{Q:Vq}(ht:IsTup s.heap t vs.toArray)(hb:IsTup s.heap b ws.toArray)(hv:vs≠[])
  (h1:ws=[]->Q (.ref t) s) (h2:ws≠[]->Q (.ref s.heap.objs.size) { s with heap:=s.heap.push { cls:=.type "tuple",data:=.seq (vs++ws).toArray } })
  (hsz:vs.length+ws.length<=sizeLine):wpAny (model prog w) A (binaryOp .Add (.ref t) (.ref b)) Q E s:=by
 obtain⟨⟨cls,dd,data,sl⟩,ho,hc,n,hd⟩:=id ht;obtain⟨⟨cls2,dd2,data2,sl2⟩,ho2,hc2,n2,hd2⟩:=id hb;simp only at hc hd hc2 hd2;subst hc hd hc2 hd2;have e:vs.toArray++ws.toArray=(vs++ws).toArray:=by simp
 by_cases hw:ws=[]
 ·exact concat_meets #[_,ho,rfl] #[_,ho2,rfl] noFill_tuple_add seq_tuple_add PySem.F.slot_tuple_add PySem.F.entry_tuple_add (PySem.F.args_tuple_add_2 _ _)
    (tuple_addW1 t b vs.toArray ws.toArray n n2 dd dd2 sl sl2 (by simpa using hv) (by simp[hw])) #[ho,ho2,h1 hw]
 ·refine concat_meets #[_,ho,rfl] #[_,ho2,rfl] noFill_tuple_add seq_tuple_add PySem.F.slot_tuple_add PySem.F.entry_tuple_add (PySem.F.args_tuple_add_2 _ _)
    (tuple_addW2 t b vs.toArray ws.toArray n n2 dd dd2 sl sl2 (by simpa using hv) (by simpa using hw) (by rw[q_f,q_f];exact hsz)) #[ho,ho2,?_]
  rw[e];exact h2 hw
abbrev sIx(n d:Nat):Option Int->Nat
 |none=>d
 |some v=>if v<0 then (v+(n:Int)).toNat else min v.toNat n
def JQ9(n d:Nat)(hd:d<=n)(o:Option Int):sIx n d o<=n:=by
 cases o with
 |none=>exact hd
 |some v =>
  show(if v<0 then (v+(n:Int)).toNat else min v.toNat n)<=n
  by_cases hv:v<0
  ·rw[if_pos hv];omega
  ·rw[if_neg hv];exact Nat.min_le_right _ _
def JIV(v:Int)(n d:Nat):(if v<0 then max (v+(n:Int)) 0 else min v (n:Int))=((sIx n d (some v):Nat):Int):=by
 show(if v<0 then max (v+(n:Int)) 0 else min v (n:Int))=(((if v<0 then (v+(n:Int)).toNat else min v.toNat n):Nat):Int)
 by_cases hv:v<0
 ·simp![if_pos hv];omega
 ·simp![if_neg hv];omega
def JHJ(lo hi:Option Int)(n:Nat):Builtin.Slice.sliceAdjust lo hi 1 (n:Int)=(((sIx n 0 lo:Nat):Int),((sIx n n hi:Nat):Int)):=by
 have h1:¬((1:Int)<0):=by omega
 unfold Builtin.Slice.sliceAdjust;simp![h1,if_false];refine Prod.ext ?_ ?_
 ·cases lo with
  |none=>rfl
  |some v=>exact JIV v n 0
 ·cases hi with
  |none=>rfl
  |some v=>exact JIV v n n
def JHU(i j:Nat):Builtin.Slice.slicePlaces (i:Int) (j:Int) 1=j - i:=by
 unfold Builtin.Slice.slicePlaces;have h1:(1:Int) > 0:=by omega
 simp![h1,if_true,Int.ediv_one]
 split<;>omega
def JDv{o:Option Int}{Q:Option Int->Shared->Prop}(p:IsPart v o)(h:Q o s):wpAny (model prog w) A (Builtin.Slice.slicePartIndex v) Q E s:=by
 cases p with
 |none=>exact slicePart_none h
 |int i t=>exact slicePart_int h
def sliceApplied_gen{sl:Addr}{lo hi:Option Int}{n:Nat}{Q:Int×Int×Nat->Shared->Prop}(hs:s.heap.IsSliceOf sl vl vu .none)(pl:IsPart vl lo)(pu:IsPart vu hi)
  (h:Q (((sIx n 0 lo:Nat):Int),1,sIx n n hi - sIx n 0 lo) s):wpAny (model prog w) A (Builtin.Slice.sliceApplied (.ref sl) (pure (n:Int))) Q E s:=by
 obtain⟨os,hos,hcs,hds⟩:=id hs;unfold Builtin.Slice.sliceApplied Builtin.Slice.sliceFields;refine q_b (q_b (wpAny_field hos hds (x:=vl) rfl (q_b (wpAny_field hos hds (x:=vu) rfl (q_b (wpAny_field hos hds (x:=.none) rfl (q_e ?_)))))));refine q_b (slicePart_none ?_);show wpAny _ _ (if ((1:Int)==0)=true then _ else _) _ _ s;rw[if_neg (by decide)]
 refine q_b (JDv pl (q_b (JDv pu (q_b (q_e ?_)))));show wpAny _ _ (match Builtin.Slice.sliceAdjust lo hi 1 (n:Int) with|(lo,hi)=>pure (lo,(1:Int),Builtin.Slice.slicePlaces lo hi 1)) _ _ s
 rw[JHJ lo hi n];show wpAny _ _ (pure (((sIx n 0 lo:Nat):Int),(1:Int),Builtin.Slice.slicePlaces ((sIx n 0 lo:Nat):Int) ((sIx n n hi:Nat):Int) 1)) _ _ s;rw[JHU];exact q_e h
def JKL(xs:Array Value)(i k:Nat):((List.range k).filterMap λ(m:Nat)=>xs[((i:Int)+(m:Int)*1).toNat]?).toArray=((xs.toList.drop i).take k).toArray:=by
 have e:(λ(m:Nat)=>xs[((i:Int)+(m:Int)*1).toNat]?)=λm=>xs[i+m]?:=by
  funext m
  have:((i:Int)+(m:Int)*1).toNat=i+m:=by omega
  rw[this]
 rw[e];have:=pick_run xs i k;rw[List.filterMap_map]at this;have e2:((λx=>xs[x]?) ∘ λx=>i+x)=λm=>xs[i+m]?:=rfl;rw[e2]at this;rw[this]
def getItem_tuple_cut{t sl:Addr}{lo hi:Option Int}{Q:Vq}(ht:IsTup s.heap t items)(hs:s.heap.IsSliceOf sl vl vu .none)(pl:IsPart vl lo)(pu:IsPart vu hi)
  (hw:¬(sIx items.size 0 lo=0/\sIx items.size items.size hi=items.size))
  (h:Q (.ref s.heap.objs.size) { s with heap:=s.heap.push { cls:=.type "tuple",data:=.seq ((items.toList.drop (sIx items.size 0 lo)).take (sIx items.size items.size hi - sIx items.size 0 lo)).toArray } })
  (hsz:items.size<=sizeLine):wpAny (model prog w) A (getItem (.ref t) (.ref sl)) Q E s:=by
 have htake:sizeOk (.seq ((items.toList.drop (sIx items.size 0 lo)).take (sIx items.size items.size hi - sIx items.size 0 lo)).toArray):=by
  show((items.toList.drop (sIx items.size 0 lo)).take (sIx items.size items.size hi - sIx items.size 0 lo)).toArray.size<=sizeLine;rw[q_f,List.length_take,List.length_drop,q_F];omega
 have hj:sIx items.size items.size hi<=items.size:=JQ9 _ _ (q_t _) hi;obtain⟨os,hos,hcs,hds⟩:=id hs;have hTs:s.TypeIs (.ref sl) "slice":=#[os,hos,hcs];unfold getItem
 try with_reducible refine wpAny_holding ?_
 first|refine q_b (q_e ?_)|skip
 refine q_b (wpAny_sequenceKey ht.typeIs (by decide) ?_)
 refine q_b (wpAny_callSpecial?_slot (name:=Str.ofString "__getitem__") ht.typeIs PyProof.Rows.slot_tuple_getitem
  (wpAny_call_entry PyProof.Rows.slot_tuple_getitem ht.typeIs entry_tuple_getitem ?_ (args_tuple_getitem _ _)))
 show wpAny _ _ (Builtin.Tuple.tupleItemsOf (.ref t) >>= _) _ _ s;refine q_b (tupleItemsOf_ ht ?_);refine q_b (wpAny_typeOf hTs ?_);rw[if_pos (by decide)]
 refine q_b (sliceApplied_gen hs pl pu ?_);have hno:¬((((sIx items.size 0 lo:Nat):Int)==0&&(1:Int)==1&&(sIx items.size items.size hi - sIx items.size 0 lo)==items.size)=true):=by
  intro q;rw[q_i,q_i]at q;have q1:((sIx items.size 0 lo:Nat):Int)=0:=eq_of_beq q.1.1;have q2:sIx items.size items.size hi - sIx items.size 0 lo=items.size:=eq_of_beq q.2;exact hw #[by omega,by omega]
 show wpAny _ _ (if (((sIx items.size 0 lo:Nat):Int)==0&&(1:Int)==1&&(sIx items.size items.size hi - sIx items.size 0 lo)==items.size)=true then _ else _) _ _ s;rw[if_neg hno,JKL]
 first
  |exact q_b (m:=Builtin.Tuple.tupleExact _) (wpAny_newObj_type (q_e ⟨_,rfl,q_e h⟩) htake)
  |exact q_b (m:=Builtin.Tuple.tupleExact _) (wpAny_newObj_type (q_b (q_e (q_e ⟨_,rfl,q_e h⟩))) htake)
  |exact q_b (q_b (m:=Builtin.Tuple.tupleExact _) (wpAny_newObj_type (q_e (q_e ⟨_,rfl,q_e h⟩)) htake))
  |exact q_b (q_b (m:=Builtin.Tuple.tupleExact _) (wpAny_newObj_type (q_e ⟨_,rfl,q_e h⟩) htake))
end
end HT
namespace L2
open PySem PySem.Spec PyProof.Rows
noncomputable abbrev TO:=St->Hp->(Option Int->Hp->Prop)->Prop
def PO(X:Cx)(e:Option Expr)(t:TO):Prop :=
 ∀(yp:Pq) (s:Shared) (Y:St) (H:Hp) (Q:Option Int->Hp->Prop),Inv X yp Y H s->t Y H Q ->
  wpAny (model X.prog X.w) X.A (evalPart e X.env) (λu s'=>∃o H',Inv X yp Y H' s'/\IsPart u o/\Q o H') X.xe s
abbrev JN1:TO:=λ_ H Q=>Q none H
abbrev tPart(t:TE):TO:=λY H Q=>t Y H λx H1=>∃i,x=.int i/\Q (some i) H1
section
variable{X:Cx}{e:Expr}{te:TE}{lo hi:Option Expr}{tl th:TO}{pos p2:Pos}
def JNO:PO X none JN1:=by
 intro yp s Y H Q I h;rw[evalPart_none];exact q_e #[none,H,I,.none,h]
def JIW(h:PE X e te):PO X (some e) (tPart te):=by
 intro yp s Y H Q I hw;rw[evalPart_some];refine thn (h yp s Y H _ I hw) λu s1 h_=>?_;obtain⟨x,H1,I1,r1,q1⟩:=h_;obtain⟨i,rfl,q⟩:=q1;obtain⟨t,rfl⟩:=r1;exact#[some i,H1,I1,.int i t,q]
def SlR(X:Cx)(r:V->Option Int->Option Int->Hp->VK->Prop):Prop :=
 ∀(yp:Pq) (s:Shared) (Y:St) (H:Hp) (x:V) (v vl vu:Value) (lo hi:Option Int) (sl:Addr) (Q:VK),Inv X yp Y H s->RelV x v->s.heap.IsSliceOf sl vl vu .none->IsPart vl lo->IsPart vu hi->r x lo hi H Q ->
  ∃T id,typeLookup (.type T) "__getitem__"=pure (some (.builtin id))/\s.TypeIs v T/\wpAny (model X.prog X.w) X.A (getItem v (.ref sl)) (EP X yp Y Q) X.xe s
def SlR.or{r r':V->Option Int->Option Int->Hp->VK->Prop}(h:SlR X r)(h':SlR X r'):SlR X (λx lo hi H Q=>r x lo hi H Q\/r' x lo hi H Q):=by
 intro yp s Y H x v vl vu lo hi sl Q I rx hs pl pu q;rcases q with q|q
 ·exact h yp s Y H x v vl vu lo hi sl Q I rx hs pl pu q
 ·exact h' yp s Y H x v vl vu lo hi sl Q I rx hs pl pu q
def tSl(r:V->Option Int->Option Int->Hp->VK->Prop)(te:TE)(tl th:TO):TE:=λY H Q=>te Y H λx H1=>tl Y H1 λl H2=>th Y H2 λu H3=>r x l u H3 Q
def JLH(hr:SlR X r)(he:PE X e te)(hl:PO X lo tl)(hu:PO X hi th):PE X (.Subscript e (.Slice lo hi none p2) pos) (tSl r te tl th):=by
 intro yp s Y H Q I h;refine Subscript_ (thn (he yp s Y H _ I h) λv s1 h_=>?_);obtain⟨x,H1,I1,r1,q1⟩:=h_;refine wpAny_Slice (thn (hl yp s1 Y H1 _ I1 q1) λvl s2 ⟨l,H2,I2,pl,q2⟩=>thn (hu yp s2 Y H2 _ I2 q2) λvu s3 h_=>?_);obtain⟨u,H3,I3,pu,q3⟩:=h_;rw[evalPart_none];refine q_e ?_;have I4:Inv X yp Y H3 { s3 with heap:=s3.heap.push { cls:=.type "slice",data:=.fields (List.toArray [vl,vu,.none]) } }:=I3.kept (t':=s3.toks) λb ob q=>q_c _ q
 obtain⟨T,id,hT,ht,hg⟩:=hr yp { s3 with heap:=s3.heap.push { cls:=.type "slice",data:=.fields (List.toArray [vl,vu,.none]) } } Y H3 x v vl vu l u s3.heap.objs.size Q I4 r1 (Heap.IsSliceOf.new ..) pl pu q3
 show wpAny (model X.prog X.w) X.A (subscriptTail e (.Slice lo hi none p2) v (.ref s3.heap.objs.size)) (EP X yp Y Q) X.xe { s3 with heap:=s3.heap.push { cls:=.type "slice",data:=.fields (List.toArray [vl,vu,.none]) } }
 exact tail_any (ops:=[.ref s3.heap.objs.size,v]) ht hT hg (by with_unfolding_all rfl)
abbrev cutV(xs:List V)(lo hi:Option Int):List V:=(xs.drop (HT.sIx xs.length 0 lo)).take (HT.sIx xs.length xs.length hi - HT.sIx xs.length 0 lo)
def JC9(xs:List V)(lo hi:Option Int):(cutV xs lo hi).length<=xs.length:=by
 unfold cutV;rw[List.length_take,List.length_drop];omega
def rSlT(K:Kq):V->Option Int->Option Int->Hp->VK->Prop:=λx lo hi H Q=>∃a xs,x=.ref a/\SqT K H a xs /\
 ¬(HT.sIx xs.length 0 lo=0/\HT.sIx xs.length xs.length hi=xs.length)/\∀p,H p=none->Q (.ref p) (upd H p (.tup (cutV xs lo hi)))
def JQr:SlR X (rSlT X.K):=by
 intro yp s Y H x v vl vu lo hi sl Q I rx hs pl pu h;obtain⟨a,xs,rfl,hx,hw,q⟩:=h;cases rx;obtain⟨its,r,ht,hz⟩:=I.tuple hx;have hlen:its.toArray.size=xs.length:=by rw[q_f];exact r.length.symm
 refine#["tuple",_,PyProof.Rows.slot_tuple_getitem.lookup,ht.typeIs,?_];refine HT.getItem_tuple_cut ht hs pl pu (by rw[hlen];exact hw) ?_ (by rw[hlen];exact hz)
 rw[hlen];refine#[.ref s.heap.objs.size,_,I.laid (t':=s.toks) (o:=.tup (cutV xs lo hi)) (λb ob q=>q_c _ q) (q_t _) ?_,rfl,q _ (I.hok.fresh (q_t _))];exact#[Nat.le_trans (JC9 xs lo hi) hz,_,(r.drop (HT.sIx xs.length 0 lo)).take (HT.sIx xs.length xs.length hi - HT.sIx xs.length 0 lo),IsTup.new _ _]
abbrev rCatT(K:Kq):R2:=λx y H Q=>∃a b xs ys,x=.ref a/\y=.ref b/\SqT K H a xs/\SqT K H b ys/\xs≠[]/\xs.length+ys.length<=sizeLine /\
 (ys=[]->Q (.ref a) H)/\(ys≠[]->∀p,H p=none->Q (.ref p) (upd H p (.tup (xs++ys))))
def Vals.nil_iff(r:Vals xs us):us=[]↔xs=[]:=by
 cases r with
 |nil=>simp
 |cons _ _=>simp
def JOm:OpR X (binaryOp .Add) (rCatT X.K):=by
 intro yp s Y H x y v u Q I rx ry h;obtain⟨a,b,xs,ys,rfl,rfl,ha,hb,hx,hz,q1,q2⟩:=h;cases rx;cases ry;obtain⟨its,r1,p1,_⟩:=I.tuple ha;obtain⟨its2,r2,p2,_⟩:=I.tuple hb;refine HT.cat_tup p1 p2 (λz=>hx (r1.nil_iff.mp z)) (λz=>#[.ref a,H,I,rfl,q1 (r2.nil_iff.mp z)]) (λz=>?_) (by rw[<-r1.length,<-r2.length];exact hz)
 refine#[.ref s.heap.objs.size,_,I.laid (t':=s.toks) (o:=.tup (xs++ys)) (λb ob q=>q_c _ q) (q_t _) ?_,rfl,q2 (λw=>z (r2.nil_iff.mpr w)) _ (I.hok.fresh (q_t _))];exact#[by rw[q_u];exact hz,_,r1.append r2,IsTup.new _ _]
end
end L2
namespace L2
open PySem PySem.Spec PyProof.Rows
abbrev ixN(n:Nat)(i:Int):Option Nat:=if 0<=i then (if i<n then some i.toNat else none) else if -(n:Int)<=i then some (i+n).toNat else none
abbrev atI{α:Type}(xs:List α)(i:Int):Option α:=(ixN xs.length i).bind λj=>xs[j]?
def JNy{n:Nat}{i:Int}{j:Nat}(h:ixN n i=some j):seqIndex? i n=some j/\j<n/\-(n:Int)<=i/\i<n:=by
 unfold ixN at h
 by_cases h0:0<=i
 ·rw[if_pos h0]at h
  by_cases h1:i<n
  ·rw[if_pos h1]at h;have e:i.toNat=j:=Option.some.inj h;exact#[by rw[seqIndex_of h0 h1,e],by omega,by omega,h1]
  ·rw[if_neg h1]at h;cases h
 ·rw[if_neg h0]at h
  by_cases h1:-(n:Int)<=i
  ·rw[if_pos h1]at h;have e:(i+n).toNat=j:=Option.some.inj h;exact#[by rw[seqIndex_neg ∅ h1,e],by omega,h1,by omega]
  ·rw[if_neg h1]at h;cases h
def JFr{α:Type}{xs:List α}{i:Int}{v:α}(h:atI xs i=some v):∃j,seqIndex? i xs.length=some j/\xs[j]? = some v/\j<xs.length/\-(xs.length:Int)<=i/\i<xs.length:=by
 unfold atI at h;cases e:ixN xs.length i with
 |none=>rw[e]at h;cases h
 |some j =>
  rw[e]at h;obtain⟨h1,h2,h3,h4⟩:=JNy e;exact#[j,h1,h,h2,h3,h4]
def JI8(b:Expr):Prop:=∀o i,subscripted b false o i=operate [o,i] (getItem o i)
def IxR(X:Cx)(r:R2):Prop :=
 ∀(value slice:Expr) (yp:Pq) (s:Shared) (Y:St) (H:Hp) (x y:V) (v u:Value) (Q:VK),Inv X yp Y H s->RelV x v->RelV y u->r x y H Q ->
  subscripted slice false v u=operate [v,u] (getItem v u)->wpAny (model X.prog X.w) X.A (subscriptTail value slice v u) (EP X yp Y Q) X.xe s
def MtR(X:Cx)(id:String)(r:V->List V->Hp->VK->Prop):Prop :=
 ∀(yp:Pq) (s:Shared) (Y:St) (H:Hp) (x:V) (xs:List V) (v:Value) (us:List Value) (Q:VK),Inv X yp Y H s->RelV x v->Vals xs us->r x xs H Q ->
  wpAny (model X.prog X.w) X.A (call (.builtin id) (v::us)) (EP X yp Y Q) X.xe s
section
variable{X:Cx}{a b:Expr}{ta tb:TE}{pos:Pos}
def IxR.or{r r':R2}(h:IxR X r)(h':IxR X r'):IxR X (λx y H Q=>r x y H Q\/r' x y H Q):=by
 intro value slice yp s Y H x y v u Q I rx ry q hs;rcases q with q|q
 ·exact h value slice yp s Y H x y v u Q I rx ry q hs
 ·exact h' value slice yp s Y H x y v u Q I rx ry q hs
def pe_ix{r:R2}(hr:IxR X r)(ha:PE X a ta)(hb:PE X b tb)(hs:JI8 b):PE X (.Subscript a b pos) (tOp r ta tb):=by
 intro yp s Y H Q I h;exact Subscript_ (binT ha hb I h λv u s2 x y H2 I2 rx ry q=>hr a b yp s2 Y H2 x y v u Q I2 rx ry q (hs _ _))
abbrev rIxL(K:Kq):R2:=λx y H Q=>∃p xs i v,x=.ref p/\y=.int i/\SqL K H p xs/\atI xs i=some v/\Q v H
abbrev rIxT(K:Kq):R2:=λx y H Q=>∃p xs i v,x=.ref p/\y=.int i/\SqT K H p xs/\atI xs i=some v/\Q v H
abbrev rIxS:R2:=λx y H Q=>∃z i c,x=.str z/\y=.int i/\z.length<=sizeLine/\atI z.cps.toList i=some c/\Q (.str #[(List.toArray [c])]) H
def ix_list:IxR X (rIxL X.K):=by
 intro value slice yp s Y H x y v u Q I rx ry h hs;obtain⟨p,xs,i,z,rfl,rfl,hq,he,q⟩:=h;cases rx;obtain⟨t,rfl⟩:=ry;obtain⟨its,r,pl,hz⟩:=I.list hq;obtain⟨j,h1,h2,h3,h4,h5⟩:=JFr he;obtain⟨w,ew,rw'⟩:=r.get h2;have hl:=r.length;have hn:=JFb;have fin:EP X yp Y Q w s:=#[z,H,I,rw',q]
 by_cases h0:0<=i
 ·have hj:i.toNat=j:=by
   rw[seqIndex_of h0 h5]at h1;exact Option.some.inj h1
  exact item_listR pl.isList h0 ∅ (by rw[hj];simpa using ew) fin hs
 ·have hj:(i+(its.toArray.size:Int)).toNat=j:=by
   rw[seqIndex_neg ∅ h4]at h1
   rw[q_f,<-hl];exact Option.some.inj h1
  exact subscriptTail_builtinR (x:=w) pl.isList.typeIs slot_list_getitem.lookup
   (wpAny_getItem_list_neg (Q:=λr s'=>r=w/\EP X yp Y Q r s') pl.isList ∅ (by rw[q_f]<;>omega) ∅ (by rw[hj];simpa using ew) #[rfl,fin]) hs
def ix_tup:IxR X (rIxT X.K):=by
 intro value slice yp s Y H x y v u Q I rx ry h hs;obtain⟨p,xs,i,z,rfl,rfl,hq,he,q⟩:=h;cases rx;obtain⟨t,rfl⟩:=ry;obtain⟨its,r,pl,hz⟩:=I.tuple hq;obtain⟨j,h1,h2,h3,h4,h5⟩:=JFr he;obtain⟨w,ew,rw'⟩:=r.get h2;have hl:=r.length;have hn:=JFb;have fin:EP X yp Y Q w s:=#[z,H,I,rw',q];exact subscriptTail_builtinR (x:=w) pl.typeIs slot_tuple_getitem.lookup
  (getItem_tuple (j:=j) (Q:=λr s'=>r=w/\EP X yp Y Q r s') pl ∅ ∅ (by rw[q_f,<-hl];exact h1) (by simpa using ew) #[rfl,fin]) hs
def JPX:IxR X rIxS:=by
 intro value slice yp s Y H x y v u Q I rx ry h hs;obtain⟨z,i,c,rfl,rfl,hz,he,q⟩:=h;obtain⟨t,rfl⟩:=rx;obtain⟨t',rfl⟩:=ry;obtain⟨j,h1,h2,h3,h4,h5⟩:=JFr he;have hl:z.cps.toList.length=z.length:=by simp[Str.length]
 rw[hl]at h1 h4 h5;have hn:=JFb;exact tail_any (typeIs_str s z t) slot_str_getitem.lookup (getItem_str (c:=c) (by
  have e1:decide (i < -(2 ^ 63:Int))=false:=q_o ∅
  have e2:decide (i ≥ 2 ^ 63)=false:=q_o ∅
  rw[e1,e2,Bool.or_false]) (by rw[h1];simpa using h2) #[.str #[(List.toArray [c])],H,I.tok _,#[_,rfl],q]) hs
abbrev rIx(K:Kq):R2:=λx y H Q=>rIxL K x y H Q\/rIxT K x y H Q\/rIxS x y H Q
def ix_seq:IxR X (rIx X.K):=ix_list.or (ix_tup.or JPX)
def JFh(lo hi:Option Int)(n:Nat):(sliceBounds lo hi none n).1=((HT.sIx n 0 lo:Nat):Int)/\(sliceBounds lo hi none n).2.1=((HT.sIx n n hi:Nat):Int)/\(sliceBounds lo hi none n).2.2=1:=by
 refine#[?_,?_,rfl]
 ·cases lo with
  |none=>simp[sliceBounds,HT.sIx]
  |some i =>
   simp![sliceBounds,HT.sIx,Option.getD_none,show(1:Int) > 0 by decide,if_true]
   by_cases h:i<0
   ·simp![h,if_true]<;>omega
   ·simp![h,if_false]<;>omega
 ·cases hi with
  |none=>simp[sliceBounds,HT.sIx]
  |some i =>
   simp![sliceBounds,HT.sIx,Option.getD_none,show(1:Int) > 0 by decide,if_true]
   by_cases h:i<0
   ·simp![h,if_true]<;>omega
   ·simp![h,if_false]<;>omega
def JEU(its:List Value)(lo hi:Option Int):slicePick its.toArray lo hi none=((its.drop (HT.sIx its.length 0 lo)).take (HT.sIx its.length its.length hi - HT.sIx its.length 0 lo)).toArray:=by
 obtain⟨h1,h2,h3⟩:=JFh lo hi its.toArray.size;unfold slicePick;rw[h1,h2,h3];simp![sliceRange_one,pick_run,q_f]<;>rfl
def rSlL(K:Kq):V->Option Int->Option Int->Hp->VK->Prop:=λx lo hi H Q=>∃a xs,x=.ref a/\SqL K H a xs/\∀p,H p=none->Q (.ref p) (upd H p (.lst (cutV xs lo hi)))
def JN9:SlR X (rSlL X.K):=by
 intro yp s Y H x v vl vu lo hi sl Q I rx hs pl pu h;obtain⟨a,xs,rfl,hx,q⟩:=h;cases rx;obtain⟨its,r,ht,hz⟩:=I.list hx;have hlen:=r.length;refine#["list",_,slot_list_getitem.lookup,ht.isList.typeIs,?_];refine wpAny_getItem_list_slice ht.isList hs pl pu .none (by simp) ?_ (by rw[q_f]<;>omega)
 rw[JEU,<-hlen];refine#[.ref s.heap.objs.size,_,I.laid (t':=s.toks) (o:=.lst (cutV xs lo hi)) (λb ob q=>q_c _ q) (q_t _) ?_,rfl,q _ (I.hok.fresh (q_t _))];exact#[Nat.le_trans (JC9 xs lo hi) hz,_,0,(r.drop (HT.sIx xs.length 0 lo)).take (HT.sIx xs.length xs.length hi - HT.sIx xs.length 0 lo),q_k _ rfl]
def JEh:JBl X (.type "list") (λxs H Q=>∃p ys,xs=[.ref p]/\(SqL X.K H p ys\/SqT X.K H p ys)/\∀l,H l=none->Q (.ref l) (upd H l (.lst ys))):=by
 intro yp s Y H xs us Q I r h;obtain⟨p,ys,rfl,hq,q⟩:=h;obtain⟨u,rfl,rx⟩:=vals1 r;cases rx;have fin:∀(its:List Value),Vals ys its->ys.length<=sizeLine->∀(h':Heap) (c':Nat),(∀b o',s.heap.get? b=some o'->h'.get? b=some o') ->
   h'.get? s.heap.objs.size=some { cls:=.type "list",dict:=none,data:=.seq its.toArray c',slots:=#[] }->EP X yp Y Q (.ref s.heap.objs.size) { s with heap:=h' }:=λits r' hz h' c' kp e =>
  #[.ref s.heap.objs.size,_,I.laid (t':=s.toks) kp (q_t _) (show ObjOk X.prog X.w _ h' _ (.lst ys) from#[hz,its,c',r',e]),rfl,q _ (I.hok.fresh (q_t _))]
 rcases hq with hq|hq
 ·obtain⟨its,r',pl,hz⟩:=I.list hq;have hlen:=r'.length;obtain⟨o,ho,hc,n,hd⟩:=pl.isList;exact call_list_seq p (.inl rfl) ho hc hd (λh' c' kp e=>fin its r' hz h' c' kp e) (by simp![q_f]<;>omega)
 ·obtain⟨its,r',pl,hz⟩:=I.tuple hq;have hlen:=r'.length;obtain⟨o,ho,hc,n,hd⟩:=pl;exact call_list_seq p (.inr rfl) ho hc hd (λh' c' kp e=>fin its r' hz h' c' kp e) (by simp![q_f]<;>omega)
def JEX:JBl X (.type "tuple") (λxs H Q=>∃p ys,xs=[.ref p]/\((SqL X.K H p ys/\∀l,H l=none->Q (.ref l) (upd H l (.tup ys)))\/(SqT X.K H p ys/\Q (.ref p) H))):=by
 intro yp s Y H xs us Q I r h;obtain⟨p,ys,rfl,h⟩:=h;obtain⟨u,rfl,rx⟩:=vals1 r;cases rx;rcases h with ⟨hq,q⟩|⟨hq,q⟩
 ·obtain⟨its,r',pl,hz⟩:=I.list hq;have hlen:=r'.length;refine call_tuple_list pl.isList (λh' kp=>?_) (by simp![q_f]<;>omega)
  have I1:Inv X yp Y H { s with heap:=h' }:=I.kept (t':=s.toks) kp
  have I2:Inv X yp Y (upd H h'.objs.size (.tup ys)) { s with heap:=h'.push { cls:=.type "tuple",data:=.seq its.toArray } } :=
   I1.laid (t':=s.toks) (λb o e=>q_c _ e) (q_t _) (show ObjOk X.prog X.w _ _ _ (.tup ys) from#[hz,its,r',IsTup.new _ _])
  exact#[.ref h'.objs.size,_,I2,rfl,q _ (I1.hok.fresh (q_t _))]
 ·obtain⟨its,r',pl,hz⟩:=I.tuple hq;exact call_tuple_same pl #[.ref p,H,I,rfl,q]
def tyV(K:Kq)(T:String)(x:V)(H:Hp):Prop:=match x with
 |.str _=>T="str"
 |.int _=>T="int"
 |.ref p=>(T="list"/\∃xs,SqL K H p xs)\/(T="tuple"/\∃o,K.lookup p=some o/\o.cls=.type "tuple"/\o.dict=none) \/
  (T="dict"/\((∃kvs,H p=some (.dK kvs))\/∃kvs,H p=some (.dT kvs)))\/(T="set"/\∃S n,H p=some (.set S n))
 |_=>False
def JMq(I:Inv X yp Y H s)(r:RelV x v)(ty:tyV X.K T x H) :
  s.TypeIs v T/\∀a,v=.ref a->∃ob,s.heap.get? a=some ob/\ob.dict=none:=by
 cases x with
 |str z =>
  obtain⟨t,rfl⟩:=r;cases(show T="str" from ty);exact#[typeIs_str s z t,λ_ e=>nomatch e]
 |int i =>
  obtain⟨t,rfl⟩:=r;cases(show T="int" from ty);exact#[typeIs_int s i t,λ_ e=>nomatch e]
 |ref p =>
  cases r;rcases ty with ⟨rfl,xs,hq⟩|⟨rfl,o,hk,hc,hd⟩|⟨rfl,hk⟩|⟨rfl,S,n,hk⟩
  ·obtain⟨its,_,pl,_⟩:=I.list hq;refine#[pl.isList.typeIs,λa e=>?_];cases e;obtain⟨o,n,e,c,hd,_⟩:=pl;exact#[o,e,hd]
  ·refine#[#[o,I.kIn p o hk,hc],λa e=>?_];cases e;exact#[o,I.kIn _ o hk,hd]
  ·have z:∃o,s.heap.get? p=some o/\o.ExactDict:=by
    rcases hk with ⟨kvs,hk⟩|⟨kvs,hk⟩
    ·obtain⟨_,_,_,_,o,_,_,e,ex,_⟩:=I.hok p _ hk;exact#[o,e,ex]
    ·obtain⟨_,_,_,_,o,_,_,e,ex,_⟩:=I.hok p _ hk;exact#[o,e,ex]
   obtain⟨o,e,ex⟩:=z;refine#[#[o,e,ex.1],λa e2=>?_];cases e2;exact#[o,e,ex.2.1]
  ·obtain⟨o,_,_,_,e,ex,_⟩:=I.hok p _ hk;refine#[#[o,e,ex.1],λa e2=>?_];cases e2;exact#[o,e,ex.2.1]
 |_=>exact fF ty
def tBM(K:Kq)(T:String)(r:V->List V->Hp->VK->Prop)(to:TE)(t:TA):TE:=λY H Q=>to Y H λx H1=>tyV K T x H1/\t Y H1 λxs H2=>r x xs H2 Q
variable{o e:Expr}{es:List Expr}{to:TE}{t:TA}{name:Str}{apos cpos:Pos}{T id:String}{r:V->List V->Hp->VK->Prop}
def JHN(pa:PlainAttrs T)(slot:Slot T name id)(hty:typeOf (.builtin id)=pure (.type "method_descriptor"))(hm:MtR X id r)(ho:PE X o to)(ha:PA X (e::es) t)
  (hbase:attributeBase o name X.env (eval o X.env)=eval o X.env:=by rfl)
  (hfew:((backTo cpos (starEach (e::es) X.env)).all (λx=>!x.1)&&(backToKw cpos (keywordEach [] X.env)).all (λx=>x.1.isSome)
    && decide ((e::es).length+([]:List Keyword).length+(if ([]:List Keyword).isEmpty then 0 else 1)<30))=true:=by rfl)
  (hline:(apos.endLine==cpos.line)=true:=by rfl) (hs:starEach (e::es) X.env=(false,eval e X.env)::starEach es X.env:=by rfl) (hplain:(backTo cpos (starEach es X.env)).any (·.1)=false:=by rfl) :
  PE X (.Call (.Attribute o name apos) (e::es) [] cpos) (tBM X.K T r to t):=by
 intro yp s Y H Q I h;refine wpAny_Call_method_late hbase hfew hline rfl (thn (ho yp s Y H _ I h) λv s1 h_=>?_);obtain⟨x,H1,I1,r1,ty,q1⟩:=h_;obtain⟨h1,h2⟩:=JMq I1 r1 ty;refine#[T,id,pa,slot,hty,h1,h2,?_];have hA:=ha cpos yp s1 Y H1 _ I1 q1;rw[hs]at hA ⊢;refine Calls.callWith_builtin (by show(false || (backTo cpos (starEach es X.env)).any (·.1))=false;rw[hplain]<;>rfl) (Calls.evalArgs_plain ?_)
 exact thn hA λus s2 ⟨vs,H2,I2,r2,q2⟩=>hm yp s2 Y H2 x vs v us Q I2 r1 r2 q2
end
end L2
namespace L2
open PySem PySem.Spec PyProof.Rows
def MtM(X:Cx)(id:String)(r:V->List V->Hp->VK->Prop):Prop :=
 ∀(yp:Pq) (s:Shared) (Y:St) (H:Hp) (x:V) (xs:List V) (v:Value) (us:List Value) (Q:VK),Inv X yp Y H s->RelV x v->Vals xs us->r x xs H Q ->
  wpAny (model X.prog X.w) X.A (call (.builtin id) (v::us)) (EP X yp Y Q) X.xe s
def Vals.one:∀ {x:V}{us:List Value},Vals [x] us->∃u,us=[u]/\RelV x u
 |_,_,.cons r .nil=>#[_,rfl,r]
section
variable{X:Cx}{yp:Pq}{Y:St}{H:Hp}{s:Shared}{l b:Addr}{xs ys zs:List V}
def Inv.lset{its its':List Value}{n:Nat}{f:Array Value->Array Value}{t':Nat}(I:Inv X yp Y H s)(hH:H l=some (.lst xs))
  (e:s.heap.get? l=some { cls:=.type "list",data:=.seq its.toArray n }) (hf:f its.toArray=its'.toArray) (hv:Vals ys its') (hz:ys.length<=sizeLine) :
  Inv X yp Y (upd H l (.lst ys)) { s with heap:=s.heap.update l (Obj.mapSeq f),toks:=t' }:=by
 have q:=PySem.IsL.update e f;rw[hf]at q;refine I.write (x:=l) (e:=l) (by rw[hH];exact trivial) (.inl rfl) (λb' u hb hu=>(Heap.get?_update_other s.heap (Obj.mapSeq f) (Ne.symm hb)).trans hu) #[_,q] ?_
 exact#[hz,its',_,hv,q]
def Inv.lnew{t':Nat}(I:Inv X yp Y H s)(hv:Vals ys its)(hz:ys.length<=sizeLine) :
  Inv X yp Y (upd H s.heap.objs.size (.lst ys)) { s with heap:=s.heap.push { cls:=.type "list",data:=.seq its.toArray },toks:=t' } :=
 I.laid (λ_ _ q=>q_c _ q) (q_t _) #[hz,its,0,hv,q_k _ rfl]
theorem Inv.fresh(I:Inv X yp Y H s):H s.heap.objs.size=none:=I.hok.fresh (q_t _)
def Inv.lstM(I:Inv X yp Y H s)(hH:H l=some (.lst xs)):xs.length<=sizeLine/\∃(its:List Value) (n:Nat),Vals xs its/\xs.length=its.length/\s.heap.get? l=some { cls:=.type "list",data:=.seq its.toArray n }:=by
 obtain⟨z,its,n,r,e⟩:=I.hok l _ hH;exact#[z,its,n,r,r.length,e]
def JGe{n:Nat}(h:n<=sizeLine):Builtin.List.listTooLong n=false:=by
 unfold Builtin.List.listTooLong;exact q_o ∅
end
section
variable{X:Cx}
def JPC:V->List V->Hp->VK->Prop:=λx vs H Q=>∃l xs y,x=.ref l/\vs=[y]/\H l=some (.lst xs)/\xs.length<sizeLine/\Q .non (upd H l (.lst (xs++[y])))
def JJ5:MtM X "list.append" JPC:=by
 intro yp s Y H x vs v us Q I rx rv h;obtain⟨l,xs,y,rfl,rfl,hH,hz,q⟩:=h;cases rx;obtain⟨u,rfl,ru⟩:=rv.one;obtain⟨z,its,n,r,hl,e⟩:=I.lstM hH;refine call_meets F.slot_list_append #[_,e,rfl] F.entry_list_append (F.args_list_append_2 _ _) (PySem.list_append l its.toArray n u (by rw[q_f];omega)) #[e,?_]
 refine#[.non,_,I.lset (its':=its++[u]) hH e (by simp) (r.append (.cons ru .nil)) ?_,rfl,q]
 rw[q_u,List.length_singleton];omega
def JPG:V->List V->Hp->VK->Prop:=λx vs H Q=>∃l b xs zs,x=.ref l/\vs=[.ref b]/\H l=some (.lst xs)/\H b=some (.lst zs)/\xs.length+zs.length<=sizeLine/\Q .non (upd H l (.lst (xs++zs)))
def JHq:MtM X "list.extend" JPG:=by
 intro yp s Y H x vs v us Q I rx rv h;obtain⟨l,b,xs,zs,rfl,rfl,hH,hB,hz,q⟩:=h;cases rx;obtain⟨u,rfl,ru⟩:=rv.one;cases ru;obtain⟨z,its,n,r,hl,e⟩:=I.lstM hH;obtain⟨z2,its2,n2,r2,hl2,e2⟩:=I.lstM hB;have hsz:its.toArray.size+its2.toArray.size<=sizeLine:=by rw[q_f,q_f];omega
 have hlong:¬(!its.toArray.isEmpty&&Builtin.List.listTooLong (its.toArray.size+its2.toArray.size))=true:=by
  rw[JGe hsz,Bool.and_false];exact Bool.false_ne_true
 refine call_meets F.slot_list_extend #[_,e,rfl] F.entry_list_extend (F.args_list_extend_2 _ _)
  (AutoSeq1.list_extend_list_list_0 l its.toArray n b its2.toArray n2 hlong (by rw[q_f];omega) ∅) #[e,e2,?_]
 refine#[.non,_,I.lset (its':=its++its2) hH e (by simp) (r.append r2) ?_,rfl,q]
 rw[q_u];omega
end
section
variable{prog:Program}{w:World}{A:Around}{E:Vq}{s:Shared}
set_option maxRecDepth 100000 in
end
section
variable{X:Cx}
end
end L2
namespace Att
open PySem PySem.W PySem.Calls PyProof.Rows
def JC0:∀(ns:List Int) (vs:List Value),WellAll P h vs (ns.map WData.int)->IntsAre vs ns:=by
 intro ns
 induction ns with
 |nil =>
  intro vs w;rw[List.map_nil]at w;cases w;exact .nil
 |cons n ns ih =>
  intro vs w;rw[List.map_cons]at w;cases w with
  |cons a b =>
   cases a;exact .cons _ _ (ih _ b)
def JI1{l:OpenLaw}{n:Nat}(hn:l.most=some n){P:Params}{h:Heap}{args:List WData}{vals:List Value}
  (hpre:l.row.toRowW.claim.pre args=true) (hwl:WellAll P h vals args) :
  ∃a vs ns,vals=[Value.ref a]/\args=[WData.list (ns.map WData.int)]/\h.get? a=some { cls:=.type "list",data:=.seq vs.toArray }/\IntsAre vs ns/\ns.length<=n:=by
 have hsh:WShape.hasAll [] args [.list .int]=true:=(pre_splitW hpre).1;have hc:l.pre.holds [] { args:=args }=true:=(pre_splitW hpre).2;obtain⟨d,r,rfl,h1,h2⟩:=hasAllW_cons hsh;obtain rfl:=hasAllW_nil h2;obtain⟨xs,rfl,h3⟩:=hasW_list h1;obtain⟨ns,rfl⟩:=items_int h3;have hlen:ns.length<=n:=by
  unfold OpenLaw.pre at hc;have h4:(WTm.not (.lt (.lit (.int (n:Int))) (.len (.arg 0)))).holds [] { args:=[.list (ns.map .int)] }=true:=by
    have h4:=(holds_andW hc).1;rw[hn]at h4;exact h4
  have h5:=condW_of h4 (w_not (w_lt w_lit (w_len_list (w_arg rfl))));rw[q_g]at h5;refine Nat.le_of_not_lt λq=>?_;have q':(n:Int)<((ns.length:Nat):Int):=by omega
  first
    |(rw[decide_eq_true q']at h5;exact absurd h5 (by decide))
    |(simp at h5;omega)
 cases hwl with
 |cons w1 w2 =>
  cases w2;cases w1 with
  |list ho hall=>exact#[_,_,ns,rfl,rfl,ho,JC0 ns _ hall,hlen]
def JH9(l:OpenLaw)(args:List WData):l.row.toRowW.claim.post args (.bool true) args=true :=
 postW_of (r:=l.row.toRowW) (X:=(true==true))
  (show WShape.has [] (.bool true) .bool=true by first|rfl|decide|simp[WShape.has,WShape.arms,WShape.armsAll])
  (show(WTm.eq .res (.lit (.bool true))).value [] { args:=args,res:=some (.bool true),after:=args }=some (.bool (true==true)) from w_eq_bool (w_res rfl) w_lit) rfl
def attach_call{l:OpenLaw}{n:Nat}{q:Program}{loose:List Str}{XP:(Mq)->Heap->Prop}{YP:World->Heap->Prop}{d:DefRec}
  (hn:l.most=some n) (hdf:d.params.defaults=[])
  (call:∀(w:World) (s₀ s₁:Shared) (mg mb:Mq) (fa:Addr) (o:Obj) (pm cd doc:Value) (a:Addr) (vs:List Value) (ns:List Int),
    Ground q loose [] XP w s₀ mg mb s₁.heap->YP w s₁.heap ->
    s₁.heap.get? fa=some o->o.data=.func (docDef d.name d.params d.body d.scope pm cd doc)->s₁.heap.CodeRec cd d.name->mg d.name=some (.ref fa) ->
    s₁.heap.get? a=some { cls:=.type "list",data:=.seq vs.toArray }->IntsAre vs ns->ns.length<=n->s₁.gens=#[] ->
    codeAny (model l.prog w) callerA (.call (.ref fa) #[[.ref a],[]]) (λr s'=>r=.ok (.ret (.bool true))/\OldK s₁.heap s'.heap/\s'.os=s₁.os/\AllBare s'.gens) s₁) :
  WalkO q loose XP YP l.row.toRowW d [] (λf vs=>PySem.call f vs):=by
 intro w s₀ s₁ mg mb G Y0 fa o pm cd doc dV kV ho hd hcd hD hmg hg args vals as hpre hlay hrd hwl hlo;obtain rfl:dV=.none:=Dflts.none hD hdf;obtain rfl:kV=.none:=Dflts.noKw hD;obtain⟨a,vs,ns,rfl,rfl,hobj,hints,hlen⟩:=JI1 hn hpre hwl;refine enter_call (codeAny_mono (call w s₀ s₁ mg mb fa o pm cd doc a vs ns G Y0 ho (fd_plain hd) hcd hmg hobj hints hlen hg) λr s' hq=>?_);obtain⟨rfl,h2,h3,h4⟩:=hq;exact#[.inl #[.bool true,.bool true,[],rfl,λ_=>rfl,.bool true,JH9 l _,λ_=>#[List.Pairwise.nil,λ_ hm=>(nomatch hm)]],h2,h3,h4]
section
variable{prog:Program}{w:World}{A:Around}{E:Vq}{s:Shared}{K:Frag}
end
end Att
namespace L2
open PySem PySem.Spec PyProof.Rows
theorem JFH:∀ {vs:List Value}{ns:List Int},IntsAre vs ns->Vals (ns.map V.int) vs
 |_,_,.nil=>.nil
 |_,_,.cons n t h=>.cons #[t,rfl] (JFH h)
def Only(H:Hp):Prop:=∀b,H b=none\/∃o xs,H b=some (.frz o (.lst xs))
def JLA{P:Program}{w:World}{K:Kq}{mg mb:Mq}{CX:CXT}{k:Nat}{fa a:Addr}{fd:FuncData}{x:Str}{sp:Sp}{s₁:Shared}{vs:List Value}{ns:List Int}
  (KX:K.In s₁.heap) (hns:s₁.heap.Ns mainGlobals mg) (hb:s₁.heap.Ns builtinsNs mb) (hbb:∀x:Str,x≠"__name__"->mb x=bootBuiltins x) (hlim:s₁.heap.NoLimit) (hg:s₁.gens=#[])
  (ha:s₁.heap.get? a=some { cls:=.type "list",data:=.seq vs.toArray }) (hi:IntsAre vs ns) (hl:ns.length<=sizeLine) (hr:Room k callerA)
  (F:∀base:Heap,K.In base->base.Ns mainGlobals mg->FnOk P w K mg base CX k fa fd [x] sp) (hbind:∀(s:Shared) (u:Value),BindsTo s fd #[[u],[]] [(x,u)])
  (hsp:∀H:Hp,Only H->SqL K H a (ns.map V.int)->sp [.ref a] H (λv _=>v=.bl true) λ_ _ _=>False)
  (hCX:∀H e s',CX [] H s₁ (λ_ _ _=>False) e s'->False) :
  codeAny (model P w) callerA (.call (.ref fa) #[[.ref a],[]]) (λr s'=>r=.ok (.ret (.bool true))/\OldK s₁.heap s'.heap/\s'.os=s₁.os/\AllBare s'.gens) s₁:=by
 have rv:=JFH hi;have lenV:=hi.length;have core:∀H:Hp,Only H->SqL K H a (ns.map V.int)->HOk P w H s₁.heap->(∀b,H b≠none->b=a)->(H a≠none->K.lookup a=none) ->
    codeAny (model P w) callerA (.call (.ref fa) #[[.ref a],[]]) (λr s'=>r=.ok (.ret (.bool true))/\OldK s₁.heap s'.heap/\s'.os=s₁.os/\AllBare s'.gens) s₁:=by
  intro H hO hS hok hA hK;have base_of:∀ {b:Addr}{o:Obj},s₁.heap.get? b=some o->H b=none->(hidT s₁.heap H).get? b=some o:=λe n=>JKY e n;have noA:∀ {b:Addr}{o:Obj}{es:Array DictEntry}{ep:Nat},s₁.heap.get? b=some o->o.data=.dict es ep->H b=none:=λ{b o es ep} e d=>by
    cases q:H b with
    |none=>rfl
    |some u =>
     have e':b=a:=hA b (by rw[q];simp)
     subst e';rw[ha]at e;cases e;have d':Data.seq vs.toArray _=Data.dict es ep:=d;cases d'
  have nsK:∀ {b:Addr}{m:Mq},s₁.heap.Ns b m->(hidT s₁.heap H).Ns b m:=λ{b m} ⟨o,es,ep,e,d,r⟩=>#[o,es,ep,base_of e (noA e d),d,r];have hKb:K.In (hidT s₁.heap H):=λb o e=>base_of (KX b o e) (by
    cases q:H b with
    |none=>rfl
    |some u =>
     have e':b=a:=hA b (by rw[q];simp)
     subst e';rw[hK (by rw[q];simp)]at e;cases e)
  have hM:Mod K mg (hidT s₁.heap H):=#[hKb,nsK hns,#[mb,nsK hb,hbb],let ⟨mc,h1,h2⟩:=hlim;#[mc,nsK h1,h2]]
  have e0:Env0 P w K mg (hidT s₁.heap H) callerA [] s₁ H:=#[rfl,hM,λb o e=>JNz e,Nat.le_of_eq (JJS _ _),trivial,λb hb=>absurd (show b∈([]:List Addr) from hb) (by simp),hok,.of_eq hg]
  refine codeAny_mono ((F _ hKb (nsK hns)).run callerA [] s₁ H #[[.ref a],[]] [.ref a] [.ref a] _ _ hr e0 (hbind s₁ (.ref a)) (.cons rfl .nil) (hsp H hO hS)) λr s' h=>?_;cases r with
  |error e=>exact(hCX H e s' h).elim
  |ok fl =>
    cases fl with
    |next=>exact fF h
    |brk=>exact fF h
    |cont=>exact fF h
    |ret u =>
     obtain⟨v,H',os,bare,un,hok',r',q⟩:=h;have q':v=.bl true:=q;subst q';obtain rfl:u=Value.bool true:=r';refine#[rfl,OldK.of_keep λb o e=>?_,os,bare];cases q:H b with
     |none=>exact un.keep b o e q (by intro z;exact absurd (show b∈([]:List Addr) from z) (by simp)) (by simp)
     |some u =>
      rcases hO b with z|⟨ob,xs,z⟩
      ·rw[q]at z;cases z
      ·have z2:=un.frzs b ob _ z;obtain⟨e1,_⟩:=hok b _ z;obtain⟨e2,_⟩:=hok' b _ z2;rw[e]at e1;cases e1;exact e2
 cases hk:K.lookup a with
 |some o =>
  have e:=KX a o hk;rw[ha]at e;cases e;refine core (λ_=>none) (λ_=>.inl rfl) (.inr #[_,vs.toArray,_,hk,rfl,rfl,rfl,by rw[q_f,lenV];exact hl,by simpa using rv]) (λb u z=>by have z':(none:Option HO)=some u:=z;cases z') (λb z=>absurd rfl z) λz=>absurd rfl z
 |none =>
  refine core (λb=>if b=a then some (.frz { cls:=.type "list",data:=.seq vs.toArray } (.lst (ns.map V.int))) else none) (λb=>?_) (.inl (.inr #[{ cls:=.type "list",data:=.seq vs.toArray },if_pos rfl])) (λb u z=>?_) (λb z=>?_) λ_=>hk
  · by_cases hb:b=a
    ·exact .inr #[_,_,if_pos hb]
    ·exact .inl (if_neg hb)
  · by_cases hb:b=a
    ·have z':=(if_pos hb).symm.trans z;cases z';subst hb;exact#[ha,by rw[q_g];exact hl,vs,_,rv,ha]
    ·have z':=(if_neg hb).symm.trans z;cases z'
  · by_cases hb:b=a
    ·exact hb
    ·exact absurd (if_neg hb) z
end L2
namespace L2
open PySem PySem.Spec PyProof.Rows
def walk_of{l:PySem.W.OpenLaw}{n k:Nat}{q:Program}{loose:List Str}{XP:(Mq)->Heap->Prop}{YP:World->Heap->Prop}{d:DefRec}{K:Params->Kq}{CX:World->CXT}{sp:World->Sp}{x:Str}
  (hn:l.most=some n) (hn2:n<=sizeLine) (hdf:d.params.defaults=[]) (hr:Room k callerA)
  (hY:∀(w:World) (h:Heap),YP w h->(K w.params).In h)
  (F:∀(w:World) (mg:Mq) (fa:Addr) (h:Heap),(K w.params).In h->h.Ns mainGlobals mg->mg d.name=some (.ref fa) ->
    ∃fd:FuncData,(∀(s:Shared) (u:Value),BindsTo s fd #[[u],[]] [(x,u)]) /\
     ∀base:Heap,(K w.params).In base->base.Ns mainGlobals mg->FnOk l.prog w (K w.params) mg base (CX w) k fa fd [x] (sp w))
  (hsp:∀(w:World) (H:Hp) (a:Addr) (ns:List Int),ns.length<=n->Only H->SqL (K w.params) H a (ns.map V.int)->sp w [.ref a] H (λv _=>v=.bl true) λ_ _ _=>False)
  (hCX:∀(w:World) (H:Hp) (s:Shared) (e:Value) (s':Shared),CX w [] H s (λ_ _ _=>False) e s'->False) :
  PySem.W.WalkO q loose XP YP l.row.toRowW d [] (λf vs=>PySem.call f vs):=by
 refine Att.attach_call hn hdf λw s₀ s₁ mg mb fa o pm cd doc a vs ns G Y0 ho hd hcd hmg hobj hints hlen hg=>?_;have KX:=hY w _ Y0;obtain⟨fd,hb,hF⟩:=F w mg fa _ KX G.T.g hmg;exact JLA KX G.T.g G.T.b G.T.builtins G.T.nolimit hg hobj hints (Nat.le_trans hlen hn2) hr hF hb (λH hO hS=>hsp w H a ns hlen hO hS) λH e s'=>hCX w H s₁ e s'
end L2
namespace L2
open PySem PySem.Spec PyProof.Rows
abbrev JA8(s:Stmt):Arguments:=match s with
 |.FunctionDef _ a _ _ _ _ _ _ _ _=>a
 |_=>{ posonlyargs:=[],args:=[],vararg:=none,kwonlyargs:=[],kw_defaults:=[],kwarg:=none,defaults:=[] }
abbrev JAX(s:Stmt):List Stmt:=match s with
 |.FunctionDef _ _ b _ _ _ _ _ _ _=>b
 |_=>[]
abbrev JAM(s:Stmt):Scope:=match s with
 |.FunctionDef _ _ _ _ _ _ sc _ _ _=>sc
 |_=>{ kind:=.function,names:=[],isGenerator:=false,isCoroutine:=false }
noncomputable abbrev CX0:CXT:=λ_ _ _ _ _ _=>False
structure Fun(K:Kq)(x qual:Str)(st:Stmt)(f:Addr)(fd:FuncData):Prop where
 ex:∃(oc:Value) (od:Option Addr) (kV doc pm:Value) (an:Option Addr) (cdv ct:Value) (osl:Array (Option Value)),
  fd=PySem.W.fnOf x qual (JA8 st) (JAX st) (JAM st) .none kV doc pm an cdv ct/\K.lookup f=some #[oc,od,.func fd,osl]/\PySem.W.codeIn K cdv qual=true
 kp:PySem.W.keepIn K (.ref f)=true
section
variable{P:Program}{w:World}{K:Kq}{mg:Mq}{base:Heap}
def Fun.binds{x qual:Str}{st:Stmt}{f:Addr}{fd:FuncData}{ps:List Str}(F:Fun K x qual st f fd)
  (h:∀(kV doc pm:Value) (an:Option Addr) (cdv ct:Value) (us:List Value),us.length=ps.length->bindArgs (PySem.W.fnOf x qual (JA8 st) (JAX st) (JAM st) .none kV doc pm an cdv ct) #[us,[]]=pure (ps.zip us)):Binds K fd ps []:=by
 obtain⟨oc,od,kV,doc,pm,an,cdv,ct,osl,rfl,lk,hcd⟩:=F.ex;exact .all (h kV doc pm an cdv ct)
def JL6{x qual:Str}{st:Stmt}{f:Addr}{oc:Value}{od an:Option Addr}{osl:Array (Option Value)}{kV doc pm cdv ct:Value}(l:K.lookup f=some #[oc,od,.func (PySem.W.fnOf x qual (JA8 st) (JAX st) (JAM st) .none kV doc pm an cdv ct),osl])
 (c:PySem.W.codeIn K cdv qual=true) (k:PySem.W.keepIn K (.ref f)=true):Fun K x qual st f (PySem.W.fnOf x qual (JA8 st) (JAX st) (JAM st) .none kV doc pm an cdv ct):=#[#[oc,od,kV,doc,pm,an,cdv,ct,osl,rfl,l,c],k]
end
section
variable{X:Cx}
end
def iteF{A B:Prop}(h:B):if false=true then A else B:=by
 rw[if_neg Bool.false_ne_true];exact h
def iteT{A B:Prop}(h:A):if true=true then A else B:=by
 rw[if_pos rfl];exact h
def Same(H H':Hp):Prop:=∀b o,H b=some o->H' b=some o
def Same.refl(H:Hp):Same H H:=λ_ _ h=>h
def Same.trans{H H1 H2:Hp}(a:Same H H1)(b:Same H1 H2):Same H H2:=λc o h=>b c o (a c o h)
def Same.free{H H':Hp}(e:Same H H'){l:Addr}(h:H' l=Option.none):H l=Option.none:=by
 cases q:H l with
 |none=>rfl
 |some o =>
  rw[e l o q]at h;cases h
def Same.seq{K:Kq}{H H':Hp}{a:Addr}{xs:List V}(e:Same H H')(h:SqL K H a xs):SqL K H' a xs:=by
 rcases h with (h|⟨o,h⟩)|h
 ·exact .inl (.inl (e _ _ h))
 ·exact .inl (.inr #[o,e _ _ h])
 ·exact .inr h
end L2
set_option autoImplicit true
section
set_option backward.eqns.nonrecursive false
namespace VI
open PySem
@[reducible]def D:=PyData
abbrev excD(c:Nat):D:=.dict [(.none,.int (c:Int))]
inductive R(α:Type) where
 |ok (a:α)
 |exc (c:Nat)
 |bad
@[reducible] def R.bind {α β:Type}(r:R α) (f:α->R β):R β :=
 match r with
 |.ok a=>f a
 |.exc c=>.exc c
 |.bad=>.bad
inductive Ty where
 |int|bool|str|list|tuple|dict|valueError|own (c:Nat)
 deriving DecidableEq
inductive Blt where
 |len|abs|all
 deriving DecidableEq
inductive O1 where
 |slice (lo hi:Option Int)
 |toTup|toLst|rev
 deriving DecidableEq
inductive XO where
 |rev|srt
 deriving DecidableEq
set_option genInjectivity false in
inductive E where
 |var (i:Nat)
 |cint (i:Int)|cbl (b:Bool)|cnon|cstr (x:Str)
 |glo (i:Nat)
 |bin (op:Operator) (a b:E)
 |neg (a:E)
 |not (a:E)
 |and (a b:E)
 |or (a b:E)
 |cmp (op:CmpOp) (a b:E)
 |isN (a:E) (neg:Bool)
 |ife (c a b:E)
 |nil
 |cons (a r:E)
 |tup (es:E)
 |lst (es:E)
 |idx (a i:E)
 |call (f:Nat) (es:E)
 |blt (b:Blt) (es:E)
 |rng (es:E)
 |isi (a:E) (t:Ty)
 |mcount (o a:E)
 |mindex (o a:E)
 |cmpr (k:Nat) (elt iter cond:E)
 |fn1 (o:O1) (a:E)
 |xop (k:XO) (es:E)
inductive Sl where
 |no
 |val (d:D)
 |own (d:D)
abbrev Sl.get:Sl->R D
 |.no=>.bad
 |.val d=>.ok d
 |.own d=>.ok d
abbrev Sl.frz:Sl->Sl
 |.own d=>.val d
 |s=>s
abbrev Sl.isOwn:Sl->Bool
 |.own _=>true
 |_=>false
@[reducible]def Env:=List Sl
abbrev look(U:Env)(i:Nat):R D:=match U[i]? with
 |some s=>s.get
 |none=>.bad
structure Cn where
 fn:Nat->List D->R D
 glo:Nat->R D
 sub:Nat->Nat->Bool
abbrev truth:D->R Bool
 |.none=>.ok false
 |.bool b=>.ok b
 |.int i=>.ok (i != 0)
 |.str x=>if x.length<=16777216 then .ok ((x.length:Int) != 0) else .bad
 |.list xs=>.ok (!xs.isEmpty)
 |.tuple xs=>.ok (!xs.isEmpty)
 |.dict _=>.bad
open Classical in
abbrev binD(op:Operator)(x y:D):R D :=
 match op,x,y with
 |.Add,.int i,.int j=>.ok (.int (i+j))
 |.Sub,.int i,.int j=>.ok (.int (i - j))
 |.Mult,.int i,.int j=>if IntMulOk i j then .ok (.int (i*j)) else .bad
 |.FloorDiv,.int i,.int j=>if j≠0/\Builtin.divisionGoesByPylong i j=false then .ok (.int (i.fdiv j)) else .bad
 |.Mod,.int i,.int j=>if j≠0 then .ok (.int (i.fmod j)) else .bad
 |.Add,.tuple xs,.tuple ys=>if xs.length+ys.length<=16777216 then .ok (.tuple (xs++ys)) else .bad
 |.Add,.list xs,.list ys=>if xs.length+ys.length<=16777216 then .ok (.list (xs++ys)) else .bad
 |_,_,_=>.bad
abbrev shaped(d:D):Bool:=d.canLay0&&decide (d.depth<=64)
abbrev JB9(xs:List D)(x:D):Bool:=PyData.canLayAll0 xs&&x.canLay0&&decide (x.depth<=60)
abbrev cmpD(op:CmpOp)(x y:D):R D :=
 match op with
 |.Eq=>if (shaped x&&shaped y)=true then .ok (.bool (PyData.eqv x y)) else .bad
 |.NotEq=>if (shaped x&&shaped y)=true then .ok (.bool (!PyData.eqv x y)) else .bad
 |.Lt=>match x,y with|.int i,.int j=>.ok (.bool (decide (i<j)))|_,_=>.bad
 |.LtE=>match x,y with|.int i,.int j=>.ok (.bool (decide (i<=j)))|_,_=>.bad
 |.Gt=>match x,y with|.int i,.int j=>.ok (.bool (decide (j<i)))|_,_=>.bad
 |.GtE=>match x,y with|.int i,.int j=>.ok (.bool (decide (j<=i)))|_,_=>.bad
 |.In=>match y with
  |.list xs=>if JB9 xs x=true then .ok (.bool (xs.any λz=>PyData.eqv z x)) else .bad
  |.tuple xs=>if JB9 xs x=true then .ok (.bool (xs.any λz=>PyData.eqv z x)) else .bad
  |_=>.bad
 |.NotIn=>match y with
  |.list xs=>if JB9 xs x=true then .ok (.bool (!xs.any λz=>PyData.eqv z x)) else .bad
  |.tuple xs=>if JB9 xs x=true then .ok (.bool (!xs.any λz=>PyData.eqv z x)) else .bad
  |_=>.bad
 |_=>.bad
abbrev isNone:D->Bool
 |.none=>true
 |_=>false
abbrev ixN(n:Nat)(i:Int):Option Nat:=if 0<=i then (if i<n then some i.toNat else none) else if -(n:Int)<=i then some (i+n).toNat else none
abbrev atI{α:Type}(xs:List α)(i:Int):Option α:=(ixN xs.length i).bind λj=>xs[j]?
abbrev optR{α:Type}:Option α->R α
 |some a=>.ok a
 |none=>.bad
abbrev getK:List (D×D)->Str->R D
 | [],_=>.bad
 |(.str k,v)::r,x=>if k=x then .ok v else getK r x
 |_::_,_=>.bad
abbrev idxD(x i:D):R D :=
 match x,i with
 |.list xs,.int i=>optR (atI xs i)
 |.tuple xs,.int i=>optR (atI xs i)
 |.dict kvs,.str y=>getK kvs y
 |.str x,.int i=>if x.cps.size<=1000 then optR ((atI x.cps.toList i).map λc=>.str #[(List.toArray [c])]) else .bad
 |_,_=>.bad
abbrev isiD(sub:Nat->Nat->Bool)(x:D)(t:Ty):R D :=
 match x with
 |.none=>.ok (.bool false)
 |.bool _=>.ok (.bool (t==.int || t==.bool))
 |.int _=>.ok (.bool (t==.int))
 |.str _=>.ok (.bool (t==.str))
 |.list _=>.ok (.bool (t==.list))
 |.tuple _=>.ok (.bool (t==.tuple))
 |.dict [(.none,.int c)]=>if sub c.toNat c.toNat=true then (match t with
  |.own e=>.ok (.bool (sub c.toNat e))
  |.valueError=>.ok (.bool true)
  |_=>.bad) else .bad
 |.dict _=>.bad
abbrev allD:List D->R D
 | []=>.ok (.bool true)
 |.bool b::r=>(match allD r with
  |.ok (.bool c)=>.ok (.bool (b&&c))
  |_=>.bad)
 |_=>.bad
abbrev bltD(b:Blt)(xs:List D):R D :=
 match b,xs with
 |.len,[.list ys]=>.ok (.int ys.length)
 |.len,[.tuple ys]=>.ok (.int ys.length)
 |.abs,[.int i]=>.ok (.int (if i<0 then -i else i))
 |.all,[.list ys]=>allD ys
 |_,_=>.bad
abbrev JDE(lo hi:Int):List D:=(List.range (hi - lo).toNat).map λ(k:Nat)=>.int (lo+k)
abbrev small(i:Int):Bool:=decide (-(2 ^ 62)<=i)&&decide (i<2 ^ 62)
abbrev rngD(xs:List D):R (List D) :=
 match xs with
 | [.int j]=>if small j=true then .ok (JDE 0 j) else .bad
 | [.int i,.int j]=>if (small i&&small j)=true then .ok (JDE i j) else .bad
 |_=>.bad
abbrev JA4:D->R (List D)
 |.list xs=>.ok xs
 |.tuple xs=>.ok xs
 |_=>.bad
abbrev JDe(x y:D):R D :=
 match x with
 |.list xs=>if JB9 xs y=true then .ok (.int (xs.countP λz=>PyData.eqv z y:Nat)) else .bad
 |_=>.bad
abbrev JDi(x y:D):R D :=
 match x with
 |.list xs=>if JB9 xs y=true then
  (match xs.findIdx? λz=>PyData.eqv z y with
   |some j=>.ok (.int j)
   |none=>.bad) else .bad
 |_=>.bad
abbrev getD:List (D×D)->Str->D->R D
 | [],_,z=>.ok z
 |(.str k,v)::r,x,z=>if k=x then .ok v else getD r x z
 |_,_,_=>.bad
def sI(n d:Nat):Option Int->Nat
 |none=>d
 |some v=>if v<0 then (v+(n:Int)).toNat else min v.toNat n
def cutD{α:Type}(xs:List α)(lo hi:Option Int):List α:=(xs.drop (sI xs.length 0 lo)).take (sI xs.length xs.length hi - sI xs.length 0 lo)
abbrev op1D(o:O1)(d:D):R D:=match o,d with
 |.slice lo hi,.tuple xs=>.ok (.tuple (cutD xs lo hi))
 |.slice lo hi,.list xs=>.ok (.list (cutD xs lo hi))
 |.toTup,.tuple xs=>.ok (.tuple xs)
 |.toTup,.list xs=>.ok (.tuple xs)
 |.toLst,.tuple xs=>.ok (.list xs)
 |.toLst,.list xs=>.ok (.list xs)
 |.rev,.list xs=>.ok (.list xs.reverse)
 |_,_=>.bad
abbrev strsOf:List D->Option (List Str)
 | []=>some []
 |.str x::r=>(strsOf r).map (x::·)
 |_=>none
abbrev JDT(zs:List Str):List Str:=zs.mergeSort λa b=>!decide (b.cps.toList<a.cps.toList)
abbrev srtS(ys:List D):R D:=match strsOf ys with
 |some xs=>if xs.length<64 then .ok (.list ((JDT xs).map .str)) else .bad
 |none=>.bad
abbrev xD(k:XO)(xs:List D):R D:=match k,xs with
 |.rev,[.list ys]=>.ok (.list ys.reverse)
 |.srt,[.list ys]=>srtS ys
 |_,_=>.bad
abbrev JPT:D->Bool
 |.list _=>true
 |_=>false
abbrev push(k:Nat)(x:D)(U:Env):R Env :=
 match k with
 |0=>.ok (.val x::U)
 |n+1=>match x with
  |.tuple xs=>if xs.length=n+1 then .ok (xs.map Sl.val++U) else .bad
  |_=>.bad
abbrev JA5(f:D->R (Option D)):List D->R (List D)
 | []=>.ok []
 |x::xs=>match f x with
  |.ok (some y)=>(match JA5 f xs with
   |.ok ys=>.ok (y::ys)
   |_=>.bad)
  |.ok none=>JA5 f xs
  |_=>.bad
mutual
noncomputable def ev(C:Cn):E->Env->R D
 |.var i,U=>look U i
 |.cint i,_=>.ok (.int i)
 |.cbl b,_=>.ok (.bool b)
 |.cnon,_=>.ok .none
 |.cstr x,_=>.ok (.str x)
 |.glo i,_=>C.glo i
 |.bin op a b,U=>(ev C a U).bind λx=>(ev C b U).bind λy=>binD op x y
 |.neg a,U=>(ev C a U).bind λx=>match x with|.int i=>.ok (.int (-i))|_=>.bad
 |.not a,U=>((ev C a U).bind truth).bind λb=>.ok (.bool (!b))
 |.and a b,U=>(ev C a U).bind λx=>match x with|.bool true=>ev C b U|.bool false=>.ok (.bool false)|_=>.bad
 |.or a b,U=>(ev C a U).bind λx=>match x with|.bool true=>.ok (.bool true)|.bool false=>ev C b U|_=>.bad
 |.cmp op a b,U=>(ev C a U).bind λx=>(ev C b U).bind λy=>cmpD op x y
 |.isN a n,U=>(ev C a U).bind λx=>.ok (.bool (if n=true then !isNone x else isNone x))
 |.ife c a b,U=>(evT C c U).bind λk=>if k=true then ev C a U else ev C b U
 |.nil,_=>.bad
 |.cons _ _,_=>.bad
 |.tup es,U=>(evA C es U).bind λxs=>.ok (.tuple xs)
 |.lst es,U=>(evA C es U).bind λxs=>.ok (.list xs)
 |.idx a i,U=>(ev C a U).bind λx=>(ev C i U).bind λy=>idxD x y
 |.call f es,U=>(evA C es U).bind λxs=>C.fn f xs
 |.blt b es,U=>(evA C es U).bind λxs=>bltD b xs
 |.rng _,_=>.bad
 |.isi a t,U=>(ev C a U).bind λx=>isiD C.sub x t
 |.mcount o a,U=>(ev C o U).bind λx=>if JPT x=true then (ev C a U).bind λy=>JDe x y else .bad
 |.mindex o a,U=>(ev C o U).bind λx=>if JPT x=true then (ev C a U).bind λy=>JDi x y else .bad
 |.cmpr k elt iter cond,U=>(evI C iter U).bind λxs=>if xs.length<=16777216 then (JA5 (λx=>(push k x U).bind λU1=>(evT C cond U1).bind λt =>
  if t=true then (ev C elt U1).bind λy=>.ok (some y) else .ok none) xs).bind λys=>.ok (.list ys) else .bad
 |.fn1 o a,U=>(ev C a U).bind λx=>op1D o x
 |.xop k es,U=>(evA C es U).bind (xD k)
noncomputable def evT(C:Cn):E->Env->R Bool
 |.not a,U=>(evT C a U).bind λb=>.ok (!b)
 |.and a b,U=>(evT C a U).bind λx=>if x=true then evT C b U else .ok false
 |.or a b,U=>(evT C a U).bind λx=>if x=true then .ok true else evT C b U
 |.var i,U=>(look U i).bind truth
 |.cbl b,_=>.ok b
 |.cmp op a b,U=>((ev C a U).bind λx=>(ev C b U).bind λy=>cmpD op x y).bind truth
 |.isN a n,U=>(ev C a U).bind λx=>.ok (if n=true then !isNone x else isNone x)
 |.idx a i,U=>((ev C a U).bind λx=>(ev C i U).bind λy=>idxD x y).bind truth
 |.call f es,U=>((evA C es U).bind λxs=>C.fn f xs).bind truth
 |.blt b es,U=>((evA C es U).bind λxs=>bltD b xs).bind truth
 |.isi a t,U=>((ev C a U).bind λx=>isiD C.sub x t).bind truth
 |_,_=>.bad
noncomputable def evA(C:Cn):E->Env->R (List D)
 |.nil,_=>.ok []
 |.cons a r,U=>(ev C a U).bind λx=>(evA C r U).bind λxs=>.ok (x::xs)
 |_,_=>.bad
noncomputable def evI(C:Cn):E->Env->R (List D)
 |.rng es,U=>(evA C es U).bind rngD
 |.var i,U=>(look U i).bind JA4
 |.glo i,_=>(C.glo i).bind JA4
 |.idx a i,U=>((ev C a U).bind λx=>(ev C i U).bind λy=>idxD x y).bind JA4
 |.call f es,U=>((evA C es U).bind λxs=>C.fn f xs).bind JA4
 |.tup es,U=>evA C es U
 |.lst es,U=>evA C es U
 |.fn1 o a,U=>((ev C a U).bind λx=>op1D o x).bind JA4
 |.bin op a b,U=>((ev C a U).bind λx=>(ev C b U).bind λy=>binD op x y).bind JA4
 |.xop k es,U=>((evA C es U).bind (xD k)).bind JA4
 |_,_=>.bad
end
abbrev E.uses:E->Nat->Bool
 |.var i,j=>i==j
 |.bin _ a b,j=>a.uses j || b.uses j
 |.neg a,j=>a.uses j
 |.not a,j=>a.uses j
 |.and a b,j=>a.uses j || b.uses j
 |.or a b,j=>a.uses j || b.uses j
 |.cmp _ a b,j=>a.uses j || b.uses j
 |.isN a _,j=>a.uses j
 |.ife c a b,j=>c.uses j || a.uses j || b.uses j
 |.cons a r,j=>a.uses j || r.uses j
 |.tup es,j=>es.uses j
 |.lst es,j=>es.uses j
 |.idx a i,j=>a.uses j || i.uses j
 |.call _ es,j=>es.uses j
 |.blt _ es,j=>es.uses j
 |.rng es,j=>es.uses j
 |.isi a _,j=>a.uses j
 |.mcount o a,j=>o.uses j || a.uses j
 |.mindex o a,j=>o.uses j || a.uses j
 |.fn1 _ a,j=>a.uses j
 |.xop _ es,j=>es.uses j
 |.cmpr k elt iter cond,j=>iter.uses j || elt.uses (j+(if k=0 then 1 else k)) || cond.uses (j+(if k=0 then 1 else k))
 |.cint _,_=>false
 |.cbl _,_=>false
 |.cnon,_=>false
 |.cstr _,_=>false
 |.glo _,_=>false
 |.nil,_=>false
abbrev E.fresh:E->Bool
 |.lst _=>true
 |.cmpr ..=>true
 |_=>false
mutual
noncomputable def JAW:D->Bool
 |.none=>true
 |.bool _=>true
 |.int _=>true
 |.str _=>true
 |.list _=>false
 |.tuple xs=>JBp xs
 |.dict [(.none,.int _)]=>true
 |.dict _=>false
noncomputable def JBp:List D->Bool
 | []=>true
 |x::xs=>JAW x&&JBp xs
end
abbrev JAL(e:E):Nat->Env->Env
 |_,[]=>[]
 |i,s::r=>(if e.uses i=true then s.frz else s)::JAL e (i+1) r
abbrev JAS(e:E):Nat->Env->Bool
 |_,[]=>false
 |i,s::r=>(e.uses i&&s.isOwn) || JAS e (i+1) r
abbrev after(e:E)(d:D)(U:Env):Env:=if (JAS e 0 U&&!JAW d)=true then JAL e 0 U else U
inductive Fl where
 |nx (U:Env)
 |rt (d:D)
 |bk (U:Env)
 |ct (U:Env)
 |ex (c:Nat)
 |bad
set_option genInjectivity false in
inductive S where
 |nil|cons (s r:S)
 |pass|brk|cnt
 |asg (i:Nat) (e:E)
 |unp (is:List Nat) (e:E)
 |ret (e:E)|retN
 |ife (c:E) (a b:S)
 |app (i:Nat) (e:E)
 |ext (i:Nat) (e:E)
 |ins (i:Nat) (es:E)
 |drop (e:E)
 |for1 (i:Nat) (e:E) (b:S)
 |whl (c:E) (b:S)
 |rais (c:Nat)
@[reducible] def stepR {α:Type}(r:R α) (f:α->Fl):Fl :=
 match r with
 |.ok a=>f a
 |.exc c=>.ex c
 |.bad=>.bad
abbrev JCL:List Nat->List D->Env->Env
 |i::is,d::ds,U=>JCL is ds (U.set i (.val d))
 |_,_,U=>U
abbrev JAd(n:Nat):D->R (List D)
 |.tuple xs=>if xs.length=n then .ok xs else .bad
 |.list xs=>if xs.length=n then .ok xs else .bad
 |_=>.bad
abbrev forL(put:D->Env->Option Env)(body:Env->Fl):List D->Env->Fl
 | [],U=>.nx U
 |d::ds,U=>match put d U with
  |none=>.bad
  |some U1=>match body U1 with
   |.nx U'=>forL put body ds U'
   |.ct U'=>forL put body ds U'
   |.bk U'=>.nx U'
   |r=>r
abbrev put1(i:Nat)(d:D)(U:Env):Option Env:=some (U.set i (.val d))
abbrev JAj(c:Env->R Bool)(body:Env->Fl):Nat->Env->Fl
 |0,_=>.bad
 |n+1,U=>match c U with
  |.ok true=>(match body U with
   |.nx U'=>JAj c body n U'
   |.ct U'=>JAj c body n U'
   |.bk U'=>.nx U'
   |r=>r)
  |.ok false=>.nx U
  |.exc k=>.ex k
  |.bad=>.bad
open Classical in
abbrev JBs(c:Env->R Bool)(body:Env->Fl)(U:Env):Fl :=
 if h:∃n,JAj c body n U≠.bad then JAj c body h.choose U else .bad
abbrev JBi(i:Nat)(ds:List D)(e:E)(x:D)(U:Env):Fl :=
 if ds.length<16777216 then (if (JAS e 0 U&&!JAW x)=true then .bad else .nx (U.set i (.own (.list (ds++[x]))))) else .bad
abbrev JBr(i:Nat)(ds:List D)(e:E)(x:D)(U:Env):Fl :=
 match x with
 |.list zs=>if ds.length+zs.length<=16777216 then (if JAS e 0 U=true then .bad else .nx (U.set i (.own (.list (ds++zs))))) else .bad
 |_=>.bad
abbrev JCS(i:Nat)(ds:List D)(es:E)(xs:List D)(U:Env):Fl :=
 match xs with
 | [.int k,y]=>if 0<=k/\k<=ds.length/\ds.length<16777216 then (if (JAS es 0 U&&!JAW y)=true then .bad else .nx (U.set i (.own (.list (ds.take k.toNat++y::ds.drop k.toNat))))) else .bad
 |_=>.bad
abbrev exec(C:Cn):S->Env->Fl
 |.nil,U=>.nx U
 |.cons s r,U=>match exec C s U with
  |.nx U'=>exec C r U'
  |f=>f
 |.pass,U=>.nx U
 |.brk,U=>.bk U
 |.cnt,U=>.ct U
 |.asg i e,U=>stepR (ev C e U) λx=>if e.fresh=true then .nx ((after e x U).set i (.own x)) else .nx ((after e x U).set i (.val x))
 |.unp is e,U=>stepR (ev C e U) λd=>stepR (JAd is.length d) λxs=>.nx (JCL is xs (after e d U))
 |.ret e,U=>stepR (ev C e U) λx=>.rt x
 |.retN,_=>.rt .none
 |.ife c a b,U=>stepR (evT C c U) λk=>if k=true then exec C a U else exec C b U
 |.app i e,U=>match U[i]? with
  |some (.own (.list ds))=>stepR (ev C e U) λx=>JBi i ds e x U
  |_=>.bad
 |.ext i e,U=>match U[i]? with
  |some (.own (.list ds))=>stepR (ev C e U) λx=>JBr i ds e x U
  |_=>.bad
 |.ins i es,U=>match U[i]? with
  |some (.own (.list ds))=>stepR (evA C es U) λxs=>JCS i ds es xs U
  |_=>.bad
 |.drop e,U=>stepR (ev C e U) λx=>.nx (after e x U)
 |.for1 i e b,U=>stepR (evI C e U) λxs=>forL (put1 i) (exec C b) xs (JAL e 0 U)
 |.whl c b,U=>JBs (evT C c) (exec C b) U
 |.rais c,_=>.ex c
structure Fd where
 par:Nat
 slots:Nat
 body:S
abbrev JB1(x:Bool)(C:Cn)(f:Fd)(xs:List D):R D :=
 if xs.length=f.par then
  (match exec C f.body (xs.map Sl.val++List.replicate (f.slots - f.par) Sl.no) with
   |.nx _=>.ok .none
   |.rt d=>.ok d
   |.ex c=>if x=true then .exc c else .bad
   |_=>.bad)
 else .bad
abbrev run(x:Bool)(tab:Nat->Option Fd)(glo:Nat->R D)(sub:Nat->Nat->Bool):Nat->Nat->List D->R D
 |0,_,_=>.bad
 |n+1,f,xs=>match tab f with
  |none=>.bad
  |some fd=>JB1 x #[run x tab glo sub n,glo,sub] fd xs
end VI
end
section
set_option backward.eqns.nonrecursive false
namespace VI
open PySem
inductive GK where
 |fn (i:Nat)|con (i:Nat)|blt (b:Blt)|ty (t:Ty)|rng|isi|cls (c:Nat)|opt|nam|rcf (i:Nat)|rcm (i j:Nat)
 deriving DecidableEq
abbrev JNr:Blt->Str
 |.len=>"len"
 |.abs=>"abs"
 |.all=>"all"
abbrev JBD:Ty->Option Str
 |.int=>some "int"
 |.bool=>some "bool"
 |.str=>some "str"
 |.list=>some "list"
 |.tuple=>some "tuple"
 |.dict=>some "dict"
 |.valueError=>some "ValueError"
 |.own _=>none
abbrev idxOf(x:Str):List Str->Option Nat
 | []=>none
 |y::r=>if (x==y)=true then some 0 else (idxOf x r).map (· + 1)
abbrev vis:Option NameKind->Bool
 |some .local=>true
 |some .cell=>true
 |some .free=>true
 |_=>false
abbrev JAR(x:Str):Bool:=x=="__debug__" || x=="__classdict__" || x=="__name__"
abbrev glob(G:List (Str×GK))(names:Nq)(x:Str):Option GK :=
 if JAR x=true then none else if names.lookup x=some .globalImplicit then G.lookup x else none
abbrev JAN(f:Expr->Option E):List Expr->Option E
 | []=>some .nil
 |e::r=>(f e).bind λa=>(JAN f r).bind λb=>some (.cons a b)
abbrev JA3(mk:E->E->E)(f:Expr->Option E):List Expr->Option E
 | []=>none
 | [e]=>f e
 |e::r=>(f e).bind λa=>(JA3 mk f r).bind λb=>some (mk a b)
abbrev okBin:Operator->Bool
 |.Add|.Sub|.Mult|.FloorDiv|.Mod=>true
 |_=>false
abbrev isSlice:Expr->Bool
 |.Slice ..=>true
 |_=>false
abbrev JAh:Expr->Bool
 |.Call _ [] [] _=>true
 |_=>false
abbrev JAt(outer:Nq)(names:Nq):Nq :=
 names.map λ(n,k)=>if (k==.free&&true&&outer.lookup n==some .cell)=true then (n,.cell) else (n,k)
abbrev dots(i:Nat):Str:=#[Array.replicate (i+2) 46]
abbrev mask(xs:List Str):Nat->List Str->List Str
 |_,[]=>[]
 |i,y::r=>(if xs.contains y=true then dots i else y)::mask xs (i+1) r
abbrev namesOf:List Expr->Option (List Str)
 | []=>some []
 |.Name x _::r=>(namesOf r).map (x::·)
 |_=>none
abbrev JEA:Expr->Option (Nat×List Str)
 |.Name x _=>some (0,[x])
 |.Tuple ts _ _=>(namesOf ts).bind λxs=>if xs=[] then none else some (xs.length,xs)
 |_=>none
abbrev JBW(outer names:Nq)(xs N:List Str):Bool :=
 names.all (λ(n,k)=>k != .cell&&(k != .local || names.lookup n==some .local)&&(k != .free || (outer.lookup n==some .cell || outer.lookup n==some .free)))&&xs.all (λx=>names.lookup x==some .local)
  && N.all (λy=>xs.contains y || names.lookup y != some .local)&&(List.range N.length).all (λi=>!vis ((JAt outer names).lookup (dots i)))&&decide (xs++mask xs 0 N).Nodup
abbrev JDN:Option Expr->Option (Option Int)
 |none=>some none
 |some (.Constant (.int k) _ _)=>some (some k)
 |some (.UnaryOp .USub (.Constant (.int k) _ _) _)=>some (some (-k))
 |_=>none
abbrev sliceOf:Expr->Option (Option Int×Option Int)
 |.Slice lo hi none _=>(JDN lo).bind λl=>(JDN hi).bind λh=>some (l,h)
 |_=>none
abbrev JJf:Expr->Bool
 |.Slice none none (some (.UnaryOp .USub (.Constant (.int 1) _ _) _)) _=>true
 |_=>false
abbrev o1Of:Ty->Option O1
 |.tuple=>some .toTup
 |.list=>some .toLst
 |_=>none
abbrev XO.flag:XO->Str
 |.rev=>".rev"
 |.srt=>".srt"
abbrev JGE(G:List (Str×GK))(names:Nq)(it:Bool)(f:Str)(a:Expr):Option (XO×List Expr):=match a with
 |.Call (.Name r _) [b] [] _=>if it=false/\f="list"/\glob G names f=some (.ty .list)/\r="reversed"/\glob G names r=some .nam then some (.rev,[b]) else none
 |_=>none
abbrev xRaw(G:List (Str×GK))(names:Nq)(it:Bool):Expr->Option (XO×List Expr)
 |.Call (.Name f _) [a] [] _=>if f="sorted" then (if it=false/\glob G names f=some .nam then some (.srt,[a]) else none) else JGE G names it f a
 |_=>none
abbrev xOf(G:List (Str×GK))(names:Nq)(it:Bool)(e:Expr):Option (XO×List Expr):=(xRaw G names it e).bind λq=>if G.lookup q.1.flag=some GK.opt then some q else none
abbrev JAT(G:List (Str×GK))(f:Bool->Nq->List Str->Expr->Option E)(it:Bool)(names:Nq)(N:List Str)(e:Expr):Option E:=match e with
 |.Name x _=>if JAR x=true then none else if vis (names.lookup x)=true then (idxOf x N).map E.var
   else (match glob G names x with
   |some (.con i)=>some (.glo i)
   |_=>none)
 |.Constant c _ _=>(match it,c with
  |false,.none=>some .cnon
  |false,.bool b=>some (.cbl b)
  |false,.int i=>some (.cint i)
  |false,.str x=>some (.cstr x)
  |_,_=>none)
 |.Tuple es _ _=>if es.length<=1000 then (JAN (f false names N) es).map E.tup else none
 |.List es _=>if es.length<=1000 then (JAN (f false names N) es).map E.lst else none
 |.Subscript a i _=>if isSlice i=true then (if JJf i=true then (if G.lookup (".rvs":Str)=some GK.opt then (f false names N a).map (E.fn1 .rev) else none) else (sliceOf i).bind λq=>(f false names N a).map (E.fn1 (.slice q.1 q.2))) else (f false names N a).bind λx=>(f false names N i).bind λy=>some (.idx x y)
 |.Call (.Name g _) args [] _=>(match glob G names g with
   |some (.fn i)=>(match args with
       |_::_=>(JAN (f false names N) args).map (E.call i)
       | []=>none)
   |some .rng=>if it=true/\g="range" then (match args with
       | [_]=>(JAN (f false names N) args).map E.rng
       | [_,_]=>(JAN (f false names N) args).map E.rng
       |_=>none) else none
   |some (.blt b)=>if it=false/\g=JNr b then (match args with
       |_::_=>(JAN (f false names N) args).map (E.blt b)
       | []=>none) else none
   |some .isi=>if it=false/\g="isinstance" then (match args with
       | [a,.Name t _]=>(match glob G names t with
        |some (.ty y)=>if JBD y=some t then (f false names N a).map λx=>.isi x y else none
        |some (.cls c)=>(f false names N a).map λx=>.isi x (.own c)
        |_=>none)
       |_=>none) else none
   |some (.ty y)=>if it=false/\JBD y=some g then (o1Of y).bind λo=>(match args with
       | [a]=>(f false names N a).map (E.fn1 o)
       |_=>none) else none
   |_=>none)
 |.BinOp a op b _=>if okBin op=true then (f false names N a).bind λx=>(f false names N b).bind λy=>some (.bin op x y) else none
 |.UnaryOp op a _=>(match it,op with
  |false,.USub=>(f false names N a).map .neg
  |false,.Not=>(f false names N a).map .not
  |_,_=>none)
 |.BoolOp op es _=>(match it,op with
  |false,.And=>JA3 .and (f false names N) es
  |false,.Or=>JA3 .or (f false names N) es
  |_,_=>none)
 |.Compare a [op] [b] _=>if it=true then none else (match op with
  |.Is=>(match b with
   |.Constant .none _ _=>(f false names N a).map λx=>.isN x false
   |_=>none)
  |.IsNot=>(match b with
   |.Constant .none _ _=>(f false names N a).map λx=>.isN x true
   |_=>none)
  |_=>if behindInMarks op b=true then none else (f false names N a).bind λx=>(f false names N b).bind λy=>some (.cmp op x y))
 |.IfExp c a b _=>if it=true then none else (f false names N c).bind λz=>(f false names N a).bind λx=>(f false names N b).bind λy=>some (.ife z x y)
 |.Call (.Attribute o m ap) [a] [] cp=>if (it=false/\JAh o=false/\(ap.endLine==cp.line)=true)/\G.lookup (".met":Str)=some GK.opt then
   (if m="count" then (f false names N o).bind λx=>(f false names N a).bind λy=>some (.mcount x y)
    else if m="index" then (f false names N o).bind λx=>(f false names N a).bind λy=>some (.mindex x y) else none) else none
 |.ListComp elt [⟨tg,iter,ifs,as⟩] sc _=>if it=true\/as≠0\/sc.kind≠.function\/(G.lookup (".hot":Str)).isSome=true then none else (match JEA tg with
  |none=>none
  |some (k,xs)=>if JBW names sc.names xs N=true then
     (f true names N iter).bind λi =>
     (f false (JAt names sc.names) (xs++mask xs 0 N) elt).bind λx =>
     (match ifs with
      | []=>some (.cmpr k x i (.cbl true))
      | [c]=>(f false (JAt names sc.names) (xs++mask xs 0 N) c).bind λy=>some (.cmpr k x i y)
      |_=>none)
   else none)
 |_=>none
abbrev mRaw(G:List (Str×GK)):Expr->Option ((Nat×Option Nat)×List Expr)
 |.Attribute o f _=>if JAh o=true then none else (match G.lookup f with
  |some (.rcf i)=>some ((i,none),[o])
  |_=>none)
 |.Call (.Attribute o m ap) args [] cp=>if JAh o=true\/(ap.endLine==cp.line)=false\/20<args.length then none else (match G.lookup m with
  |some (.rcm i j)=>some ((i,some j),o::args)
  |_=>none)
 |_=>none
abbrev mkM:Nat×Option Nat->E->E
 |(i,some j),.cons x y=>.call i (.cons (.call j (.cons x .nil)) y)
 |(i,_),y=>.call i y
abbrev mOf(G:List (Str×GK))(e:Expr):Option ((Nat×Option Nat)×List Expr):=if G.lookup (".rec":Str)=some GK.opt then mRaw G e else none
abbrev JAq(G:List (Str×GK))(f:Bool->Nq->List Str->Expr->Option E)(it:Bool)(names:Nq)(N:List Str)(e:Expr):Option E:=match xOf G names it e with
 |some q=>(JAN (f false names N) q.2).map (E.xop q.1)
 |none=>match mOf G e with
  |some q=>(JAN (f false names N) q.2).map (mkM q.1)
  |none=>JAT G f it names N e
abbrev JAO(G:List (Str×GK)):Nat->Bool->Nq->List Str->Expr->Option E
 |0,_,_,_,_=>none
 |n+1,it,names,N,e=>JAq G (JAO G n) it names N e
def JAF{n:Nat}{it:Bool}{e:Expr}(h:xOf G names it e=none/\mOf G e=none):JAO G (n+1) it names N e=JAT G (JAO G n) it names N e:=by
 unfold JAO JAq;rw[h.1];simp only;rw[h.2]
def JGa(q:Nat×Option Nat)(y:E):∃z,mkM q y=.call q.1 z:=by
 obtain⟨i,j⟩:=q;cases j with
 |none=>exact#[_,rfl]
 |some j=>cases y<;>exact#[_,rfl]
def JGh{n:Nat}{it:Bool}{e:Expr}(h:xOf G names it e=none)(h2:mOf G e=some q):JAO G (n+1) it names N e=(JAN (JAO G n false names N) q.2).map (mkM q.1):=by
 unfold JAO JAq;rw[h];simp only;rw[h2]
def JGo{n:Nat}{it:Bool}{e:Expr}(h:xOf G names it e=some q):JAO G (n+1) it names N e=(JAN (JAO G n false names N) q.2).map (E.xop q.1):=by
 unfold JAO JAq;rw[h]
def JAG{α:Type}{x:α}{P:Prop}(h:(none:Option α)=some x):P:=by cases h
abbrev JEa:Option NameKind->Bool
 |some .local=>true
 |some .cell=>true
 |_=>false
abbrev slot(names:Nq)(N:List Str)(x:Str):Option Nat:=if JEa (names.lookup x)=true then idxOf x N else none
abbrev slots(names:Nq)(N:List Str):List Expr->Option (List Nat)
 | []=>some []
 |.Name x _::r=>(slot names N x).bind λi=>(slots names N r).bind λis=>some (i::is)
 |_=>none
abbrev JAm(f:Stmt->Option S):List Stmt->Option S
 | []=>some .nil
 |s::r=>(f s).bind λa=>(JAm f r).bind λb=>some (.cons a b)
abbrev JDh:Expr->Bool
 |.ListComp ..=>true
 |_=>false
abbrev isTup:Expr->Bool
 |.Tuple ..=>true
 |_=>false
abbrev JED:Expr->Bool
 |.List ..=>true
 |_=>false
abbrev JRY(names:Nq)(t1 t2 e:Expr):Bool:=match t1,t2,e with
 |.Name x px,.Name y py,.Tuple [a,b] _ _=>names.lookup x==some .local&&names.lookup y==some .local&&px.line==py.line&&x != y&&!([a,b].all (foldedForSure 8))&&!([a,b].all (constantsAlone 8))
 |_,_,_=>false
abbrev JEf(names:Nq)(ts:List Expr)(e:Expr):Bool:=match ts with
 | [a,b]=>JRY names a b e
 |_=>false
abbrev JOY:Expr->Option (List Expr)
 |.Tuple es _ _=>some es
 |_=>none
abbrev JRz:Expr->Bool
 |.List [] _=>true
 |_=>false
abbrev three(names:Nq)(t1 t2 t3:Expr)(es:List Expr):Bool:=match t1,t2,t3 with
 |.Name x px,.Name y py,.Name z pz=>es.length==3&&names.lookup x==some .local&&names.lookup y==some .local&&names.lookup z==some .local&&px.line==py.line&&px.line==pz.line&&x != y&&x != z&&y != z&&!(es.all (foldedForSure 8))&&!(es.all (constantsAlone 8))
 |_,_,_=>false
abbrev JRu(names:Nq):Expr->Bool
 |.Name x _=>names.lookup x==some .cell
 |_=>false
abbrev dispN(names:Nq)(ts es:List Expr):Bool:=match ts with
 | [a,b,c]=>three names a b c es
 |_::_::_::_::_=>ts.length==es.length&&decide (es.length<=1000)
 |_=>false
abbrev JL4(names:Nq)(ts es:List Expr):Bool:=(ts.any (JRu names)&&decide (es.length<=1000)) || dispN names ts es
abbrev JOX(f:Expr->Option E):List Expr->List Nat->Option (E×Option Nat)
 | [],_=>some (.nil,none)
 |_::_,[]=>none
 |e::r,i::is=>if JRz e=true then (JAN f r).bind λb=>some (.cons .cnon b,some i) else (f e).bind λa=>(JOX f r is).bind λq=>some (.cons a q.1,q.2)
abbrev unpO(is:List Nat)(x:E):Option Nat->S
 |none=>.unp is (.tup x)
 |some i=>.cons (.unp is (.tup x)) (.asg i (.lst .nil))
abbrev JGb(e c:Option Expr):Option Str:=match e,c with
 |some (.Call (.Name x _) [.Constant (.str _) _ _] [] _),none=>some x
 |_,_=>none
abbrev JGw:Expr->Option (Str×Str×Expr)
 |.Call (.Attribute (.Name x _) m ap) [a] [] cp=>if (ap.endLine==cp.line)=true then some (x,m,a) else none
 |_=>none
abbrev JOD:Expr->Option (Str×Expr×Expr)
 |.Call (.Attribute (.Name x _) m ap) [a,b] [] cp=>if (ap.endLine==cp.line)=true/\m="insert" then some (x,a,b) else none
 |_=>none
abbrev docOf:Expr->Bool
 |.Constant (.str _) _ _=>true
 |_=>false
abbrev JHY:List Expr->Option (Sum Str (List Expr))
 | [.Name x _]=>some (.inl x)
 | [.Tuple ts _ _]=>some (.inr ts)
 |_=>none
abbrev JCf(G:List (Str×GK))(fE:Bool->Nq->List Str->Expr->Option E)(fS:Bool->Nq->List Str->Stmt->Option S)(zz:Bool)(names:Nq)(N:List Str)(st:Stmt):Option S:=match st with
 |.Pass _=>some .pass
 |.Break _=>some .brk
 |.Continue _=>some .cnt
 |.Return none _=>some .retN
 |.Return (some e) _=>(fE false names N e).map S.ret
 |.Assign ts e _=>(match JHY ts with
  |some (.inl x)=>(slot names N x).bind λi=>(fE false names N e).bind λy=>if y.fresh=true/\JED e=false/\JDh e=false then none else some (.asg i y)
  |some (.inr ts)=>(slots names N ts).bind λis=>if (decide is.Nodup=true/\(isTup e=false\/JEf names ts e=true))/\(G.lookup (".hot":Str)).isSome=false then (fE false names N e).map (S.unp is)
    else (JOY e).bind λes=>if (decide is.Nodup=true/\JL4 names ts es=true)/\G.lookup (".dsp":Str)=some GK.opt then (JOX (fE false names N) es is).map (λq=>unpO is q.1 q.2) else none
  |none=>none)
 |.If c a b _=>(fE false names N c).bind λz=>(JAm (fS zz names N) a).bind λx=>(JAm (fS zz names N) b).bind λy=>some (.ife z x y)
 |.Expr e _=>(match JGw e with
  |some (x,m,a)=>if JAR x=false then
    (if m="append" then (slot names N x).bind λi=>(fE false names N a).map (S.app i)
     else if (m="extend"/\JDh a=false)/\G.lookup (".ext":Str)=some GK.opt then (slot names N x).bind λi=>(fE false names N a).map (S.ext i) else none) else none
  |none=>(match JOD e with
   |some (x,a,b)=>if JAR x=false/\G.lookup (".ins":Str)=some GK.opt then (slot names N x).bind λi=>(JAN (fE false names N) [a,b]).map (S.ins i) else none
   |none=>if docOf e=true then some .pass else if JDh e=true then none else (fE false names N e).map S.drop))
 |.For tg iter body [] _=>if (G.lookup (".hot":Str)).isSome=true then none else (match JHY [tg] with
  |some (.inl x)=>(slot names N x).bind λi=>(fE true names N iter).bind λe=>(JAm (fS zz names N) body).bind λb=>some (.for1 i e b)
  |_=>none)
 |.While c body [] _=>(fE false names N c).bind λz=>(JAm (fS zz names N) body).bind λb=>some (.whl z b)
 |.Raise e c _=>(JGb e c).bind λx=>(match glob G names x with
   |some (.cls c)=>if zz=true then some (.rais c) else none
   |_=>none)
 |_=>none
abbrev JCK(G:List (Str×GK)):Nat->Bool->Nq->List Str->Stmt->Option S
 |0,_,_,_,_=>none
 |n+1,zz,names,N,st=>JCf G (JAO G n) (JCK G n) zz names N st
end VI
end
section
namespace VI
open PySem
def JBG(cells:List (Str×Addr)):Nq->List (Str×Addr)->List (Str×Addr)
 | [],cs=>cs
 |(n,k)::r,cs=>if (k==NameKind.free)=true then JBG cells r ((n,(cells.lookup n).getD 0)::cs) else JBG cells r cs
theorem JCJ:∀(names:Nq) (cs:List (Str×Addr)),(∀n,(n,NameKind.free)∈names->(env.cells.lookup n).isSome=true) ->
  (forIn names cs (λ(x:Str×NameKind) (r:List (Str×Addr))=>if (x.2==NameKind.free)=true then (do let c<-cellOf env x.1;pure (ForInStep.yield ((x.1,c)::r))) else pure (ForInStep.yield r)):Sem (List (Str×Addr)))=pure (JBG env.cells names cs)
 | [],cs,_=>rfl
 |(n,k)::r,cs,h=>by
  rw[List.forIn_cons];have ih:=λcs=>JCJ (env:=env) r cs λm hm=>h m (q_s _ hm)
  by_cases hk:(k==NameKind.free)=true
  · have e:k=.free:=eq_of_beq hk
    subst e;have q:=h n List.mem_cons_self;obtain⟨c,hc⟩:=Option.isSome_iff_exists.mp q;simp![hk,if_true];have e2:cellOf env n=pure c:=by unfold cellOf;rw[hc]
    rw[e2,pure_bind,pure_bind];show(forIn r ((n,c)::cs) _:Sem _)=_;rw[ih];show pure (JBG env.cells r ((n,c)::cs))=pure (JBG env.cells ((n,NameKind.free)::r) cs);rw[show JBG env.cells ((n,NameKind.free)::r) cs=JBG env.cells r ((n,(env.cells.lookup n).getD 0)::cs) from if_pos rfl,hc];rfl
  · rw[if_neg hk,pure_bind]
    show(forIn r cs _:Sem _)=_;rw[ih];show _=pure (JBG env.cells ((n,k)::r) cs);rw[show JBG env.cells ((n,k)::r) cs=JBG env.cells r cs from if_neg hk]
def JD3{sc:Scope}(h:∀n,(n,NameKind.free)∈sc.names->(env.cells.lookup n).isSome=true):closureFor sc env=pure (JBG env.cells sc.names []):=by
 have:=JCJ (env:=env) sc.names [] h;unfold closureFor
 first
  |exact this
  |(simp![]at this ⊢;rw[show(forIn sc.names [] _:Sem (List (Str×Addr)))=_ from this];rfl)
  |(rw[this];rfl)
theorem JBq{cells:List (Str×Addr)}{x:Str}:∀(names:Nq) (cs:List (Str×Addr)),(JBG cells names cs).lookup x =
  if (x,NameKind.free)∈names then some ((cells.lookup x).getD 0) else cs.lookup x
 | [],cs=>by simp[JBG]
 |(n,k)::r,cs=>by
  unfold JBG
  by_cases hk:(k==NameKind.free)=true
  · have e:k=.free:=eq_of_beq hk
    subst e;rw[if_pos hk,JBq r]
    by_cases hr:(x,NameKind.free)∈r
    ·rw[if_pos hr,if_pos (q_s _ hr)]
    ·rw[if_neg hr]
     by_cases hx:x=n
     ·subst hx;rw[if_pos List.mem_cons_self,List.lookup_cons,beq_self_eq_true]
     ·have hb:(x==n)=false:=beq_eq_false_iff_ne.mpr hx;rw[List.lookup_cons,hb,if_neg];intro hm;rcases q_n.mp hm with e|e
      ·exact hx (Prod.mk.inj e).1
      ·exact hr e
  · rw[if_neg hk,JBq r]
    have:((x,NameKind.free)∈(n,k)::r)↔(x,NameKind.free)∈r:=by
     constructor
     ·intro hm;rcases q_n.mp hm with e|e
      ·exfalso;apply hk;rw[<-(Prod.mk.inj e).2];rfl
      ·exact e
     ·exact q_s _
    simp![this]
end VI
end
section
namespace VI
open PySem PySem.Spec PyProof.Rows L2
section
variable{X:Cx}
abbrev rCat2(K:Kq):R2:=λx y H Q=>∃a b xs ys,x=.ref a/\y=.ref b/\SqT K H a xs/\SqT K H b ys/\xs.length+ys.length<=sizeLine /\
 (xs=[]->Q (.ref b) H)/\(xs≠[]->ys=[]->Q (.ref a) H)/\(xs≠[]->ys≠[]->∀p,H p=none->Q (.ref p) (upd H p (.tup (xs++ys))))
def JLV:OpR X (binaryOp .Add) (rCat2 X.K):=by
 intro yp s Y H x y v u Q I rx ry h;obtain⟨a,b,xs,ys,e1,e2,ha,hb,hz,q0,q1,q2⟩:=h
 by_cases hx:xs=[]
 ·subst e1 e2;cases rx;cases ry;obtain⟨its,r1,p1,_⟩:=I.tuple ha;obtain⟨its2,r2,p2,_⟩:=I.tuple hb;obtain⟨⟨cls,dd,data,sl⟩,ho,hc,n,hd⟩:=id p1;obtain⟨⟨cls2,dd2,data2,sl2⟩,ho2,hc2,n2,hd2⟩:=id p2;simp only at hc hd hc2 hd2;subst hc hd hc2 hd2;have hv:its=[]:=r1.nil_iff.mpr hx;exact concat_meets #[_,ho,rfl] #[_,ho2,rfl] noFill_tuple_add seq_tuple_add PySem.F.slot_tuple_add PySem.F.entry_tuple_add (PySem.F.args_tuple_add_2 _ _)
   (tuple_addW0 a b its.toArray its2.toArray n n2 dd dd2 sl sl2 (by simp[hv])) #[ho,ho2,#[.ref b,H,I,rfl,q0 hx]]
 ·exact JOm yp s Y H x y v u Q I rx ry #[a,b,xs,ys,e1,e2,ha,hb,hx,hz,q1 hx,q2 hx]
abbrev rCatL(K:Kq):R2:=λx y H Q=>∃a b xs ys,x=.ref a/\y=.ref b/\SqL K H a xs/\SqL K H b ys/\xs.length+ys.length<=sizeLine/\∀p,H p=none->Q (.ref p) (upd H p (.lst (xs++ys)))
def JOB:OpR X (binaryOp .Add) (rCatL X.K):=by
 intro yp s Y H x y v u Q I rx ry h;obtain⟨a,b,xs,ys,rfl,rfl,ha,hb,hz,q⟩:=h;cases rx;cases ry;obtain⟨its,r,⟨⟨cls,dd,data,sl⟩,n,ho,hc,hdd,hd⟩,_⟩:=I.list ha;obtain⟨its2,r2,⟨⟨cls2,dd2,data2,sl2⟩,n2,ho2,hc2,hdd2,hd2⟩,_⟩:=I.list hb;simp only at hc hd hc2 hd2;subst hc hd hc2 hd2;have e:its.toArray++its2.toArray=(its++its2).toArray:=by simp
 have hl:its.toArray.size+its2.toArray.size<=sizeLine:=by
  rw[q_f,q_f,<-r.length,<-r2.length];exact hz
 refine concat_meets #[_,ho,rfl] #[_,ho2,rfl] noFill_list_add seq_list_add PySem.F.slot_list_add PySem.F.entry_list_add (PySem.F.args_list_add_2 _ _) (list_addW a b its.toArray its2.toArray n n2 dd dd2 sl sl2 hl) #[ho,ho2,?_];rw[e];exact#[.ref _,_,I.lnew (t':=s.toks) (r.append r2) (by rw[q_u];omega),rfl,q _ I.fresh]
theorem JEg:∀ {vs:List V}{us:List Value},Vals vs us->∀n:Nat,Vals (vs.take n) (us.take n)
 | [],_,r,n=>by cases r;simp;exact .nil
 |v::vs,us,r,0=>by simp;exact .nil
 |v::vs,us,r,n+1=>by
  cases r with
  |cons p q=>exact .cons p (JEg q n)
theorem JEy:∀ {vs:List V}{us:List Value},Vals vs us->∀n:Nat,Vals (vs.drop n) (us.drop n)
 | [],_,r,n=>by cases r;simp;exact .nil
 |v::vs,us,r,0=>r
 |v::vs,us,r,n+1=>by
  cases r with
  |cons p q=>exact JEy q n
abbrev insF(i:Int)(x:Value)(xs:Array Value):Array Value:=(xs.extract 0 (if i<0 then (i+xs.size).toNat else min i.toNat xs.size)).push x++xs.extract (if i<0 then (i+xs.size).toNat else min i.toNat xs.size)
def JHr{i:Int}{x:Value}{its:List Value}(h0:0<=i)(h1:i<=its.length):insF i x its.toArray=(its.take i.toNat++x::its.drop i.toNat).toArray:=by
 unfold insF;rw[if_neg ∅]
 have e:min i.toNat its.toArray.size=i.toNat:=by simp![q_f];omega
 rw[e];apply Array.ext';simp;exact List.take_of_length_le (by simp)
def JE0(l:Addr)(is:Array Value)(n:Nat)(i:Int)(t:Tok)(x:Value)(h0:0<=i)(h1:i<=is.size)(h2:is.size<sizeLine)(h3:(insF i x is).size<=sizeLine) :
  Meets (Builtin.«list.insert» #[[.ref l,.int i t,x],[]]) (λ_ R s=>s.heap.get? l=some #[.type "list",none,.seq is n,#[]]/\R (.ok (.ret Value.none)) { s with heap:=s.heap.update l (Obj.mapSeq (insF i x)),toks:=s.toks }) :=
 .of_wp λprog w A R s h=>by
  obtain⟨hp,g,d,tk,os⟩:=s;obtain⟨hl,h⟩:=h;have hs:(sizeLine:Int)<=2 ^ 62:=by rw[sizeLine_eq];decide
  wp_walk
  rw[if_neg (by rw[fitsIndex_both ∅ ∅];decide)]
  dsimp only
  refine q_b ?_;show wpAny _ _ (updateSeq l (insF i x)) _ _ _;exact wpAny_updateSeq hl rfl (q_e #[_,rfl,h]) (Nat.le_of_lt h2) (Nat.le_trans h3 (Nat.le_succ _))
def rIns:V->List V->Hp->VK->Prop:=λx vs H Q=>∃l xs i y,x=.ref l/\vs=[.int i,y]/\H l=some (.lst xs)/\0<=i/\i<=xs.length/\xs.length<sizeLine/\Q .non (upd H l (.lst (xs.take i.toNat++y::xs.drop i.toNat)))
def JRP:MtM X "list.insert" rIns:=by
 intro yp s Y H x vs v us Q I rx rv h;obtain⟨l,xs,i,y,rfl,rfl,hH,h0,h1,h2,q⟩:=h;cases rx;cases rv with
 |cons ri rr =>
  cases rr with
  |cons ry rn =>
   cases rn;rename_i u;obtain⟨t,rfl⟩:=ri;obtain⟨z,its,n,r,hl,e⟩:=I.lstM hH;have hlen:=r.length;have ef:=JHr (x:=u) (its:=its) h0 ∅
   refine call_meets PySem.F.slot_list_insert #[_,e,rfl] PySem.F.entry_list_insert (PySem.F.args_list_insert_3 _ _ _) (JE0 l its.toArray n i t _ h0 (by rw[q_f];omega) (by rw[q_f];omega) (by rw[ef];simp;omega)) #[e,?_]
   refine#[.non,_,I.lset hH e ef ((JEg r _).append (.cons ry (JEy r _))) (by simp;omega),rfl,q]
def JFc(l b:Addr)(is js:Array Value)(n m:Nat)(sl:Array (Option Value))(h0:¬(!is.isEmpty&&Builtin.List.listTooLong (is.size+js.size))=true)(h1:is.size<=sizeLine)(h2:is.size+js.size<=sizeLine+1) :
  Meets (Builtin.«list.extend» #[[.ref l,.ref b],[]]) (λ_ R s=>s.heap.get? l=some #[.type "list",none,.seq is n,#[]]/\s.heap.get? b=some #[.type "list",none,.seq js m,sl]/\R (.ok (.ret Value.none)) { s with heap:=s.heap.update l (Obj.mapSeq λx=>x++js),toks:=s.toks }) :=
 .of_wp λprog w A R s h=>by
  obtain⟨hp,g,d,tk,os⟩:=s;obtain⟨hl,hb,h⟩:=h;have f1:=AutoSeq1.sub_list_list;have f2:=AutoSeq1.sub_list_tuple;have hz':(is++js).size<=sizeLine+1:=by rw[Array.size_append];exact h2
  wp_walk using(wpAny_updateSeq hl rfl (hz:=h1) (_hz':=hz')),AutoSeq1.wpAny_loadPart' hl,AutoSeq1.wpAny_loadPart' hb
  exact#[_,rfl,h]
def rExtL(K:Kq):V->List V->Hp->VK->Prop:=λx vs H Q=>∃l b xs zs,x=.ref l/\vs=[.ref b]/\H l=some (.lst xs)/\SqL K H b zs/\xs.length+zs.length<=sizeLine/\Q .non (upd H l (.lst (xs++zs)))
def JF5:MtM X "list.extend" (rExtL X.K):=by
 intro yp s Y H x vs v us Q I rx rv h;obtain⟨l,b,xs,zs,rfl,rfl,hH,hB,hz,q⟩:=h;cases rx;obtain⟨u,rfl,ru⟩:=rv.one;cases ru;obtain⟨z,its,n,r,hl,e⟩:=I.lstM hH;obtain⟨its2,r2,⟨⟨cls,dd,data,sl⟩,m,ho,hc,hdd,hd⟩,_⟩:=I.list hB;simp only at hc hdd hd;subst hc hdd hd;have l2:=r2.length;have hsz:its.toArray.size+its2.toArray.size<=sizeLine:=by rw[q_f,q_f];omega
 have hlong:¬(!its.toArray.isEmpty&&Builtin.List.listTooLong (its.toArray.size+its2.toArray.size))=true:=by
  rw[JGe hsz,Bool.and_false];exact Bool.false_ne_true
 refine call_meets PySem.F.slot_list_extend #[_,e,rfl] PySem.F.entry_list_extend (PySem.F.args_list_extend_2 _ _)
  (JFc l b its.toArray its2.toArray n m sl hlong (by rw[q_f];omega) ∅) #[e,ho,?_]
 refine#[.non,_,I.lset (its':=its++its2) hH e (by simp) (r.append r2) ?_,rfl,q]
 rw[q_u];omega
end
section
variable{prog:Program}{w:World}{A:Around}{E:Vq}{s:Shared}
def JB7{t sl:Addr}{lo hi:Option Int}{Q:Vq}(ht:IsTup s.heap t items)(hs:s.heap.IsSliceOf sl vl vu .none)(pl:IsPart vl lo)(pu:IsPart vu hi)
  (hw:HT.sIx items.size 0 lo=0/\HT.sIx items.size items.size hi=items.size) (h:Q (.ref t) s):wpAny (model prog w) A (getItem (.ref t) (.ref sl)) Q E s:=by
 obtain⟨os,hos,hcs,hds⟩:=id hs;have hTs:s.TypeIs (.ref sl) "slice":=#[os,hos,hcs];unfold getItem
 try with_reducible refine wpAny_holding ?_
 first|refine q_b (q_e ?_)|skip
 refine q_b (wpAny_sequenceKey ht.typeIs (by decide) ?_)
 refine q_b (wpAny_callSpecial?_slot (name:=Str.ofString "__getitem__") ht.typeIs PyProof.Rows.slot_tuple_getitem
  (wpAny_call_entry PyProof.Rows.slot_tuple_getitem ht.typeIs entry_tuple_getitem ?_ (args_tuple_getitem _ _)))
 show wpAny _ _ (Builtin.Tuple.tupleItemsOf (.ref t) >>= _) _ _ s;refine q_b (tupleItemsOf_ ht ?_);refine q_b (wpAny_typeOf hTs ?_);rw[if_pos (by decide)]
 refine q_b (HT.sliceApplied_gen hs pl pu ?_);have hyes:(((HT.sIx items.size 0 lo:Nat):Int)==0&&(1:Int)==1&&(HT.sIx items.size items.size hi - HT.sIx items.size 0 lo)==items.size)=true:=by
  rw[hw.1,hw.2];simp
 show wpAny _ _ (if (((HT.sIx items.size 0 lo:Nat):Int)==0&&(1:Int)==1&&(HT.sIx items.size items.size hi - HT.sIx items.size 0 lo)==items.size)=true then _ else _) _ _ s;rw[if_pos hyes];refine q_b ?_;unfold Builtin.Tuple.tupleIsExact;refine q_b (wpAny_typeOf ht.typeIs (q_e ?_));rw[if_pos (by decide)]
 refine q_b (wpAny_rule ?_);exact q_e #[_,rfl,q_e h]
end
section
variable{X:Cx}
def rSlW(K:Kq):V->Option Int->Option Int->Hp->VK->Prop:=λx lo hi H Q=>∃a xs,x=.ref a/\SqT K H a xs/\(HT.sIx xs.length 0 lo=0/\HT.sIx xs.length xs.length hi=xs.length)/\Q (.ref a) H
def JNn:SlR X (rSlW X.K):=by
 intro yp s Y H x v vl vu lo hi sl Q I rx hs pl pu h;obtain⟨a,xs,rfl,hx,hw,q⟩:=h;cases rx;obtain⟨its,r,ht,hz⟩:=I.tuple hx;have hlen:its.toArray.size=xs.length:=by rw[q_f];exact r.length.symm
 refine#["tuple",_,PyProof.Rows.slot_tuple_getitem.lookup,ht.typeIs,?_];exact JB7 ht hs pl pu (by rw[hlen];exact hw) #[.ref a,H,I,rfl,q]
end
end VI
end
section
namespace VI
open PySem PySem.Spec PyProof.Rows L2
@[reducible]def St:=L2.St
@[reducible]def RcM(rc:Nat->Addr->Hp->Prop):Prop:=∀n a H H',Same H H'->rc n a H->rc n a H'
structure Bs where
 K:Kq
 cl:Nat->Addr
 w:World
 rc:Nat->Addr->Hp->Prop
 rcm:RcM rc
def ExcAt(a C:Addr)(h:Heap):Prop:=∃o,h.get? a=some o/\o.cls=.ref C
def SqDo(K:Kq)(w:World)(H:Hp)(a:Addr)(o:Obj)(xs:List (Key×V)):Prop :=
 H a=some (.frz o (.dK xs))\/∀(P:Program) (h:Heap),K.In h->(a==sysModules)=false/\h.get? a=some o/\∃vs,KV xs vs/\h.DictOf (JBN P w) a vs
def SqD(K:Kq)(w:World)(H:Hp)(a:Addr)(xs:List (Key×V)):Prop:=∃o,SqDo K w H a o xs
mutual
def Den(B:Bs)(H:Hp):D->V->Prop
 |.none,v=>v=.non
 |.bool b,v=>v=.bl b
 |.int i,v=>v=.int i
 |.str x,v=>v=.str x
 |.tuple ds,v=>∃a xs,v=.ref a/\SqT B.K H a xs/\DenL B H ds xs
 |.list ds,v=>∃a xs,v=.ref a/\SqL B.K H a xs/\DenL B H ds xs
 |.dict kvs,v=>(∃a c,v=.ref a/\kvs=[(.none,.int ((c:Nat):Int))]/\H a=some (.ext (ExcAt a (B.cl c))))\/(∃a xs,v=.ref a/\SqD B.K B.w H a xs/\DenK B H kvs xs)\/∃a n,v=.ref a/\kvs=[(.bool true,.int ((n:Nat):Int))]/\B.rc n a H
def DenL(B:Bs)(H:Hp):List D->List V->Prop
 | [],vs=>vs=[]
 |d::ds,vs=>∃v r,vs=v::r/\Den B H d v/\DenL B H ds r
def DenK(B:Bs)(H:Hp):List (D×D)->List (Key×V)->Prop
 | [],vs=>vs=[]
 |(k,d)::ds,vs=>∃x v r,vs=(Sum.inr x,v)::r/\k=.str x/\Den B H d v/\DenK B H ds r
end
def JOH{K:Kq}{H H':Hp}{a:Addr}{xs:List V}(e:Same H H')(h:SqT K H a xs):SqT K H' a xs:=by
 rcases h with (h|⟨o,h⟩)|h
 ·exact .inl (.inl (e _ _ h))
 ·exact .inl (.inr #[o,e _ _ h])
 ·exact .inr h
def JSL{K:Kq}{w:World}{H H':Hp}{a:Addr}{o:Obj}{xs:List (Key×V)}(e:Same H H')(h:SqDo K w H a o xs):SqDo K w H' a o xs:=h.imp (λh=>e _ _ h) λh=>h
def sameD{K:Kq}{w:World}{H H':Hp}{a:Addr}{xs:List (Key×V)}(e:Same H H')(h:SqD K w H a xs):SqD K w H' a xs:=h.imp λ_ h=>JSL e h
mutual
theorem Den.mono{B:Bs}{H H':Hp}(s:Same H H'):∀(d:D) (v:V),Den B H d v->Den B H' d v
 |.none,_,h=>h
 |.bool _,_,h=>h
 |.int _,_,h=>h
 |.str _,_,h=>h
 |.tuple ds,v,h=>by
  simp![Den]at h ⊢;obtain⟨a,xs,e,q,l⟩:=h;exact#[a,xs,e,JOH s q,DenL.mono s ds xs l]
 |.list ds,v,h=>by
  simp![Den]at h ⊢;obtain⟨a,xs,e,q,l⟩:=h;exact#[a,xs,e,s.seq q,DenL.mono s ds xs l]
 |.dict kvs,v,h=>by
  simp![Den]at h ⊢;rcases h with ⟨a,c,e,k,q⟩|⟨a,xs,e,q,l⟩|⟨a,n,e,k,q⟩
  ·exact .inl #[a,c,e,k,s _ _ q]
  ·exact .inr (.inl #[a,xs,e,sameD s q,DenK.mono s kvs xs l])
  ·exact .inr (.inr #[a,n,e,k,B.rcm n a H H' s q])
theorem DenL.mono{B:Bs}{H H':Hp}(s:Same H H'):∀(ds:List D) (vs:List V),DenL B H ds vs->DenL B H' ds vs
 | [],_,h=>h
 |d::ds,vs,h=>by
  simp![DenL]at h ⊢;obtain⟨v,r,e,q,l⟩:=h;exact#[v,r,e,Den.mono s d v q,DenL.mono s ds r l]
theorem DenK.mono{B:Bs}{H H':Hp}(s:Same H H'):∀(ds:List (D×D)) (vs:List (Key×V)),DenK B H ds vs->DenK B H' ds vs
 | [],_,h=>h
 |(k,d)::ds,vs,h=>by
  simp![DenK]at h ⊢;obtain⟨x,v,r,e,e',q,l⟩:=h;exact#[x,v,r,e,e',Den.mono s d v q,DenK.mono s ds r l]
end
theorem DenL.len{B:Bs}{H:Hp}:∀(ds:List D) (vs:List V),DenL B H ds vs->ds.length=vs.length
 | [],_,h=>by simp![DenL]at h;subst h;rfl
 |d::ds,vs,h=>by
  simp![DenL]at h;obtain⟨v,r,e,q,l⟩:=h;subst e;simp![List.length_cons,DenL.len ds r l]
theorem DenL.get{B:Bs}{H:Hp}:∀(ds:List D) (vs:List V) (i:Nat) (d:D),DenL B H ds vs->ds[i]? = some d->∃v,vs[i]? = some v/\Den B H d v
 | [],_,_,_,_,e=>by simp at e
 |d::ds,vs,i,x,h,e=>by
  simp![DenL]at h;obtain⟨v,r,e1,q,l⟩:=h;subst e1;cases i with
  |zero =>
   simp![List.getElem?_cons_zero,q_j]at e;subst e;exact#[v,rfl,q]
  |succ i =>
   simp![List.getElem?_cons_succ]at e;obtain⟨u,e2,q2⟩:=DenL.get ds r i x l e;exact#[u,by simpa using e2,q2]
theorem DenL.append{B:Bs}{H:Hp}:∀(ds es:List D) (vs us:List V),DenL B H ds vs->DenL B H es us->DenL B H (ds++es) (vs++us)
 | [],es,_,us,h,h2=>by simp![DenL]at h;subst h;exact h2
 |d::ds,es,vs,us,h,h2=>by
  simp![DenL,List.cons_append]at h ⊢;obtain⟨v,r,e,q,l⟩:=h;subst e;exact#[v,r++us,rfl,q,DenL.append ds es r us l h2]
mutual
theorem Den.reads(hK:X.K=B.K)(I:Inv X yp Y H s) :
  ∀(d:D) (v:V) (u:Value),d.canLay0=true->Den B H d v->RelV v u->∃as,Reads s.heap u d as
 |.none,v,u,_,h,r=>by simp![Den]at h;subst h;cases r;exact#[_,.none]
 |.bool b,v,u,_,h,r=>by simp![Den]at h;subst h;cases r;exact#[_,.bool b]
 |.int i,v,u,_,h,r=>by simp![Den]at h;subst h;obtain⟨t,rfl⟩:=r;exact#[_,.int i t]
 |.str x,v,u,_,h,r=>by simp![Den]at h;subst h;obtain⟨t,rfl⟩:=r;exact#[_,.str x t]
 |.tuple ds,v,u,c,h,r=>by
  simp![Den]at h;obtain⟨a,xs,e,q,l⟩:=h;subst e;cases r;obtain⟨its,rv,⟨o,h1,h2,n,h3⟩,_⟩:=I.tuple (hK▸q);obtain⟨as,ra⟩:=DenL.reads hK I ds xs its (by simpa only[PyData.canLay0] using c) l rv
  exact#[as,.tuple h1 h2 h3 (by simpa using ra)]
 |.list ds,v,u,c,h,r=>by
  simp![Den]at h;obtain⟨a,xs,e,q,l⟩:=h;subst e;cases r;obtain⟨its,rv,⟨o,n,h1,h2,_,h3⟩,_⟩:=I.list (hK▸q);obtain⟨as,ra⟩:=DenL.reads hK I ds xs its (by simpa only[PyData.canLay0] using c) l rv
  exact#[a::as,.list h1 h2 h3 (by simpa using ra)]
 |.dict kvs,v,u,c,h,r=>by simp![PyData.canLay0]at c;cases c
theorem DenL.reads(hK:X.K=B.K)(I:Inv X yp Y H s) :
  ∀(ds:List D) (vs:List V) (us:List Value),PyData.canLayAll0 ds=true->DenL B H ds vs->Vals vs us->∃as,ReadsAll s.heap us ds as
 | [],vs,us,_,h,r=>by simp![DenL]at h;subst h;cases r;exact#[_,.nil]
 |d::ds,vs,us,c,h,r=>by
  simp![DenL]at h;obtain⟨v,t,e,q,l⟩:=h;subst e;simp![PyData.canLayAll0,q_i]at c;cases r with
  |cons r1 r2 =>
   obtain⟨as,h1⟩:=Den.reads hK I d v _ c.1 q r1;obtain⟨bs,h2⟩:=DenL.reads hK I ds t _ c.2 l r2;exact#[_,.cons h1 h2]
end
def KE(B:Bs)(XX:Nat->Hp->Prop)(r:R D)(H:Hp)(Q:VK):Prop:=match r with
 |.ok d=>∀v H',Same H H'->Den B H' d v->Q v H'
 |.exc c=>XX c H
 |.bad=>False
def KL(B:Bs)(XX:Nat->Hp->Prop)(r:R (List D))(H:Hp)(Q:List V->Hp->Prop):Prop:=match r with
 |.ok ds=>∀vs H',Same H H'->DenL B H' ds vs->Q vs H'
 |.exc c=>XX c H
 |.bad=>False
def KB(XX:Nat->Hp->Prop)(r:R Bool)(H:Hp)(Q:Bool->Hp->Prop):Prop:=match r with
 |.ok b=>∀H',Same H H'->Q b H'
 |.exc c=>XX c H
 |.bad=>False
def Sok(B:Bs)(Y:St)(H:Hp)(U:Env):Prop:=∀i d,look U i=.ok d->∃v,Y[i]? = some (some v)/\Den B H d v
theorem Sok.mono{B:Bs}{Y:St}{H H':Hp}{U:Env}(h:Sok B Y H U)(s:Same H H'):Sok B Y H' U:=λi d e =>
 let ⟨v,e1,q⟩:=h i d e
 #[v,e1,Den.mono s d v q]
def Dm(H H':Hp):Prop:=∀b o,H b=some o->∃o',H' b=some o'
def Dm.refl(H:Hp):Dm H H:=λ_ o e=>#[o,e]
def Dm.trans{H H1 H2:Hp}(a:Dm H H1)(s:Same H1 H2):Dm H H2:=λb o e=>let ⟨u,q⟩:=a b o e;#[u,s b u q]
def Dm.free{H H':Hp}{b:Addr}(a:Dm H H')(e:H' b=none):H b=none:=by
 cases q:H b with
 |none=>rfl
 |some o=>obtain⟨u,z⟩:=a b o q;rw[e]at z;cases z
def LsAt(b:Addr)(xs:List V)(h:Heap):Prop:=xs.length<=sizeLine/\∃(its:List Value) (n:Nat),Vals xs its/\h.get? b=some { cls:=.type "list",data:=.seq its.toArray n }
def JHl:HO->Prop
 |.ins _ _ _=>True
 |.own _=>True
 |.ext φ=>∃b xs,φ=LsAt b xs
 |_=>False
def Kpt(H H':Hp):Prop:=∀b o,H b=some o->¬JHl o->H' b=some o
def Same.kp{H H':Hp}(s:Same H H'):Kpt H H':=λb o e _=>s b o e
def Same.kpT(s:Same H H1)(k:Kpt H1 H2):Kpt H H2:=λb o e n=>k b o (s b o e) n
def Kpt.same{H H1 H2:Hp}(k:Kpt H H1)(s:Same H1 H2):Kpt H H2:=λb o e n=>s b o (k b o e n)
def Kpt.seq{K:Kq}{H H':Hp}{a:Addr}{xs:List V}(e:Kpt H H')(h:SqL K H a xs):SqL K H' a xs:=by
 rcases h with (h|⟨o,h⟩)|h
 ·exact .inl (.inl (e _ _ h λz=>z))
 ·exact .inl (.inr #[o,e _ _ h λz=>z])
 ·exact .inr h
def Kpt.tup{K:Kq}{H H':Hp}{a:Addr}{xs:List V}(e:Kpt H H')(h:SqT K H a xs):SqT K H' a xs:=by
 rcases h with (h|⟨o,h⟩)|h
 ·exact .inl (.inl (e _ _ h λz=>z))
 ·exact .inl (.inr #[o,e _ _ h λz=>z])
 ·exact .inr h
def Kpt.dict{K:Kq}{w:World}{H H':Hp}{a:Addr}{o:Obj}{xs:List (Key×V)}(e:Kpt H H')(h:SqDo K w H a o xs):SqDo K w H' a o xs:=h.imp (λh=>e _ _ h λz=>z) λh=>h
abbrev JBQ(B:Bs)(n:Nat)(fn:List D->R D):Sp:=λvs H Q E=>vs.length=n/\∃ds,DenL B H ds vs/\(match fn ds with
 |.ok d=>∀v H',Same H H'->Den B H' d v->Q v H'
 |.exc c=>∀H',Same H H'->E (.ref (B.cl c)) none H'
 |.bad=>False)
abbrev EX(B:Bs)(XX:Nat->Hp->Prop):XK:=λu _ H=>∃c,u=.ref (B.cl c)/\XX c H
class Cool (G:List (Str×GK)):Prop where
 out:G.lookup (".hot":Str)=none
def JFq(h:¬(G.lookup (".hot":Str)).isSome=true):Cool G:=#[by
 cases q:G.lookup (".hot":Str) with
 |none=>rfl
 |some k=>rw[q]at h;exact absurd rfl h]
def JIy(K:Kq)(B:Bs)(fn:List D->R D)(f:Str):Prop:=∀H ds vs,DenL B H ds vs->(match fn ds with
 |.ok d=>∃a Cc dx fs v,vs=[.ref a]/\H a=some (.ins Cc dx fs)/\Cls K Cc/\NoAttr K Cc f/\fs.lookup f=some v/\Den B H d v
 |.exc _=>False
 |.bad=>True)
def MethP(X:Cx)(B:Bs)(CX:CXT)(fn ck:List D->R D)(m:Str):Prop:=(∀ds,ck ds=.bad)\/∃Cc f fd ps k,Cls X.K Cc/\Meth X.K Cc m f/\FnOk X.prog X.w X.K X.mg X.base CX k f fd ps (JBQ B ps.length fn)/\Room k X.A/\Binds X.K fd ps [] /\
 (∀ds,fn ds≠.bad->ds.length=ps.length)/\∀H d v,Den B H d v->(match ck [d] with
 |.ok d'=>d'=d/\∃a dx fs,v=.ref a/\H a=some (.ins Cc dx fs)/\fs.lookup m=none
 |.exc _=>False
 |.bad=>True)
structure Gk(X:Cx)(B:Bs)(C:Cn)(CX:CXT)(XX:Nat->Hp->Prop)(G:List (Str×GK)):Prop where
 K:X.K=B.K
 W:X.w=B.w
 anti:∀c H H',Same H H'->XX c H->XX c H'
 units:X.A.units+200<cLine
 calm:Cool G->X.calm=true
 fn:∀x i,G.lookup x=some (.fn i)->∃f fd ps k,X.mg x=some (.ref f)/\PySem.W.keepIn X.K (.ref f)=true /\
  FnOk X.prog X.w X.K X.mg X.base CX k f fd ps (JBQ B ps.length (C.fn i))/\Room k X.A/\Binds X.K fd ps []/\∀ds,C.fn i ds≠.bad->ds.length=ps.length
 pas:JBd CX X (EX B XX)
 con:∀x i d,G.lookup x=some (.con i)->C.glo i=.ok d->∃u v,X.mg x=some u/\RelV v u/\∀H,Den B H d v
 noexg:∀i c,C.glo i≠.exc c
 blt:∀x b,G.lookup x=some (.blt b)->X.mg x=none
 rng:∀x,G.lookup x=some .rng->X.mg x=none
 isi:∀x,G.lookup x=some .isi->X.mg x=none
 ty:∀x t,G.lookup x=some (.ty t)->X.mg x=none
 cls:∀x c,G.lookup x=some (.cls c)->X.mg x=some (.ref (B.cl c))
 nam:∀x,G.lookup x=some .nam->X.mg x=none
 fld:∀f i,G.lookup f=some (.rcf i)->JIy X.K B (C.fn i) f
 mth:∀m i j,G.lookup m=some (.rcm i j)->MethP X B CX (C.fn i) (C.fn j) m
section
variable{X:Cx}{B:Bs}{C:Cn}{CX:CXT}{XX:Nat->Hp->Prop}{G:List (Str×GK)}
def RE(B:Bs)(C:Cn)(XX:Nat->Hp->Prop)(e:E):TE:=λY H Q=>∃U,Sok B Y H U/\KE B XX (ev C e U) H Q
def RT(B:Bs)(C:Cn)(XX:Nat->Hp->Prop)(e:E):TT:=λY H Q=>∃U,Sok B Y H U/\KB XX (evT C e U) H Q
def RA(B:Bs)(C:Cn)(XX:Nat->Hp->Prop)(e:E):TA:=λY H Q=>∃U,Sok B Y H U/\KL B XX (evA C e U) H Q
def PE.imp{e:Expr}{t t':TE}(h:PE X e t)(i:∀Y H Q,t' Y H Q->t Y H Q):PE X e t':=λyp s Y H Q I q=>h yp s Y H Q I (i Y H Q q)
def PT.imp{e:Expr}{t t':TT}(h:PT X e t)(i:∀Y H Q,t' Y H Q->t Y H Q):PT X e t':=λyp s Y H Q I q=>h yp s Y H Q I (i Y H Q q)
def PA.imp{e:List Expr}{t t':TA}(h:PA X e t)(i:∀Y H Q,t' Y H Q->t Y H Q):PA X e t':=λpos yp s Y H Q I q=>h pos yp s Y H Q I (i Y H Q q)
def RE.of{e:E}{U:Env}{Y:St}{H:Hp}{Q:VK}{α:Type}{f:D->R α}{W:R α->Hp->Prop}(ok:Sok B Y H U)
  (hx:∀c H,W (.exc c) H->XX c H) (hb:∀H,W .bad H->False) (h:W ((ev C e U).bind f) H)
  (go:∀d v H1,Same H H1->Den B H1 d v->W (f d) H->Q v H1):RE B C XX e Y H Q:=by
 refine#[U,ok,?_];cases q:ev C e U with
 |ok d =>
  rw[q]at h;exact λv H1 s1 d1=>go d v H1 s1 d1 h
 |exc c =>
  rw[q]at h;exact hx c H h
 |bad =>
  rw[q]at h;exact(hb H h).elim
def RT.of{e:E}{U:Env}{Y:St}{H:Hp}{Q:Bool->Hp->Prop}{α:Type}{f:Bool->R α}{W:R α->Hp->Prop}(ok:Sok B Y H U)
  (hx:∀c H,W (.exc c) H->XX c H) (hb:∀H,W .bad H->False) (h:W ((evT C e U).bind f) H)
  (go:∀b H1,Same H H1->W (f b) H->Q b H1):RT B C XX e Y H Q:=by
 refine#[U,ok,?_];cases q:evT C e U with
 |ok d =>
  rw[q]at h;exact λH1 s1=>go d H1 s1 h
 |exc c =>
  rw[q]at h;exact hx c H h
 |bad =>
  rw[q]at h;exact(hb H h).elim
def RA.of{e:E}{U:Env}{Y:St}{H:Hp}{Q:List V->Hp->Prop}{α:Type}{f:List D->R α}{W:R α->Hp->Prop}(ok:Sok B Y H U)
  (hx:∀c H,W (.exc c) H->XX c H) (hb:∀H,W .bad H->False) (h:W ((evA C e U).bind f) H)
  (go:∀ds vs H1,Same H H1->DenL B H1 ds vs->W (f ds) H->Q vs H1):RA B C XX e Y H Q:=by
 refine#[U,ok,?_];cases q:evA C e U with
 |ok d =>
  rw[q]at h;exact λv H1 s1 d1=>go d v H1 s1 d1 h
 |exc c =>
  rw[q]at h;exact hx c H h
 |bad =>
  rw[q]at h;exact(hb H h).elim
def KE.mono(g:Gk X B C CX XX G){r:R D}{H H':Hp}{Q:VK}(s:Same H H')(h:KE B XX r H Q):KE B XX r H' Q:=by
 cases r with
 |ok d=>exact λv H2 s2 d2=>h v H2 (s.trans s2) d2
 |exc c=>exact g.anti c H H' s h
 |bad=>exact h
def KB.mono(g:Gk X B C CX XX G){r:R Bool}{H H':Hp}{Q:Bool->Hp->Prop}(s:Same H H')(h:KB XX r H Q):KB XX r H' Q:=by
 cases r with
 |ok d=>exact λH2 s2=>h H2 (s.trans s2)
 |exc c=>exact g.anti c H H' s h
 |bad=>exact h
def KL.mono(g:Gk X B C CX XX G){r:R (List D)}{H H':Hp}{Q:List V->Hp->Prop}(s:Same H H')(h:KL B XX r H Q):KL B XX r H' Q:=by
 cases r with
 |ok d=>exact λv H2 s2 d2=>h v H2 (s.trans s2) d2
 |exc c=>exact g.anti c H H' s h
 |bad=>exact h
theorem KE.ok{d:D}{v:V}{H:Hp}{Q:VK}(h:KE B XX (.ok d) H Q)(q:Den B H d v):Q v H:=h v H (Same.refl H) q
def two(g:Gk X B C CX XX G){a b:E}{Y:St}{H:Hp}{Q:VK}{f:D->D->R D}{r:R2}
  (hr:∀x y H dx dy,Den B H dx x->Den B H dy y->KE B XX (f dx dy) H Q->r x y H Q) :
  (∃U,Sok B Y H U/\KE B XX ((ev C a U).bind λx=>(ev C b U).bind λy=>f x y) H Q)->tOp r (RE B C XX a) (RE B C XX b) Y H Q:=by
 rintro⟨U,ok,h⟩;refine RE.of (W:=λr H=>KE B XX r H Q) ok (λ_ _ z=>z) (λ_ z=>z) h λdx x H1 s1 d1 h1=>?_;refine RE.of (W:=λr H=>KE B XX r H Q) (ok.mono s1) (λ_ _ z=>z) (λ_ z=>z) (KE.mono g s1 h1) λdy y H2 s2 d2 h2=>?_;exact hr x y H2 dx dy (Den.mono s2 dx x d1) d2 (KE.mono g s2 h2)
def binOk(g:Gk X B C CX XX G)(op:Operator):OpR X (binaryOp op) (λx y H Q=>∃dx dy,Den B H dx x/\Den B H dy y/\KE B XX (binD op dx dy) H Q):=by
 rintro yp s Y H x y v u Q I rx ry ⟨dx,dy,hx,hy,k⟩;cases dx<;>cases dy<;>first
  |(exfalso;cases op<;>exact k)
  |skip
 case list.list xs ys =>
  cases op<;>first
   |exact fF k
   |skip
  simp![binD]at k
  split at k
  ·rename_i hz;simp![Den]at hx hy;obtain⟨a,us,e1,q1,l1⟩:=hx;obtain⟨c,ws,e2,q2,l2⟩:=hy;subst e1;subst e2;have n1:=DenL.len _ _ l1;have n2:=DenL.len _ _ l2;refine JOB yp s Y H _ _ v u Q I rx ry #[a,c,us,ws,rfl,rfl,g.K▸q1,g.K▸q2,by rw[sizeLine_eq];omega,λp hp=>?_]
   have sm:Same H (upd H p (.lst (us++ws))):=λb o e=>by rw[JAJ (JAU e hp)];exact e
   refine k _ _ sm ?_;simp![Den];exact#[p,_,rfl,SqL.of JAH,DenL.append _ _ _ _ (DenL.mono sm _ _ l1) (DenL.mono sm _ _ l2)]
  ·exact k.elim
 case tuple.tuple xs ys =>
  cases op<;>first
   |exact fF k
   |skip
  simp![binD]at k
  split at k
  ·rename_i hz;simp![Den]at hx hy;obtain⟨a,us,e1,q1,l1⟩:=hx;obtain⟨c,ws,e2,q2,l2⟩:=hy;subst e1;subst e2;have n1:=DenL.len _ _ l1;have n2:=DenL.len _ _ l2;refine JLV yp s Y H _ _ v u Q I rx ry #[a,c,us,ws,rfl,rfl,g.K▸q1,g.K▸q2,by rw[sizeLine_eq];omega,λh=>?_,λh h2=>?_,λh h2 p hp=>?_]
   · have:xs=[]:=by rw[h]at n1;exact List.eq_nil_of_length_eq_zero n1
     subst this;refine k _ _ (Same.refl H) ?_;simp![Den,List.nil_append];exact#[c,ws,rfl,q2,l2]
   · have:ys=[]:=by rw[h2]at n2;exact List.eq_nil_of_length_eq_zero n2
     subst this;refine k _ _ (Same.refl H) ?_;simp![Den,List.append_nil];exact#[a,us,rfl,q1,l1]
   · have sm:Same H (upd H p (.tup (us++ws))):=λb o e=>by rw[JAJ (JAU e hp)];exact e
     refine k _ _ sm ?_;simp![Den];exact#[p,_,rfl,SqT.of JAH,DenL.append _ _ _ _ (DenL.mono sm _ _ l1) (DenL.mono sm _ _ l2)]
  ·exact k.elim
 rename_i i j;simp![Den]at hx hy;subst hx;subst hy;cases op<;>first
  |exact fF k
  |skip
 ·exact JPd yp s Y H _ _ v u Q I rx ry #[i,j,rfl,rfl,KE.ok k (by simp![Den])]
 ·exact JPl yp s Y H _ _ v u Q I rx ry #[i,j,rfl,rfl,KE.ok k (by simp![Den])]
 ·simp![binD]at k
  split at k
  ·rename_i hm;obtain⟨t,rfl⟩:=rx;obtain⟨t',rfl⟩:=ry;exact mul_int #[.int _,H,I.tok _,#[_,rfl],KE.ok k (by simp![Den])] hm
  ·exact k.elim
 ·simp![binD]at k
  split at k
  ·rename_i hm;exact JPS yp s Y H _ _ v u Q I rx ry #[i,j,rfl,rfl,hm,KE.ok k (by simp![Den])]
  ·exact k.elim
 ·simp![binD]at k
  split at k
  ·rename_i hm;obtain⟨t,rfl⟩:=rx;obtain⟨t',rfl⟩:=ry;exact floordiv_int hm.1 #[.int _,H,I.tok _,#[_,rfl],KE.ok k (by simp![Den])] (.inl hm.2)
  ·exact k.elim
def JJD(g:Gk X B C CX XX G):X.A.units+64<cLine:=by have:=g.units;omega
def JKd(g:Gk X B C CX XX G)(op:CmpOp):OpR X (compareOp op) (λx y H Q=>∃dx dy,Den B H dx x/\Den B H dy y/\KE B XX (cmpD op dx dy) H Q):=by
 rintro yp s Y H x y v u Q I rx ry ⟨dx,dy,hx,hy,k⟩;cases op with
 |Eq =>
  simp![cmpD]at k
  split at k
  ·rename_i hs;simp![q_i]at hs;have c1:dx.canLay0=true:=(Bool.and_eq_true_iff.mp hs.1).1;have c2:dy.canLay0=true:=(Bool.and_eq_true_iff.mp hs.2).1;obtain⟨as,ra⟩:=Den.reads g.K I dx x v c1 hx rx;obtain⟨bs,rb⟩:=Den.reads g.K I dy y u c2 hy ry;exact SeqAt.compareEq_shaped ra rb hs.1 hs.2 (JJD g) #[.bl _,H,I,rfl,KE.ok k (by simp![Den])]
  ·exact k.elim
 |NotEq =>
  simp![cmpD]at k
  split at k
  ·rename_i hs;simp![q_i]at hs;have c1:dx.canLay0=true:=(Bool.and_eq_true_iff.mp hs.1).1;have c2:dy.canLay0=true:=(Bool.and_eq_true_iff.mp hs.2).1;obtain⟨as,ra⟩:=Den.reads g.K I dx x v c1 hx rx;obtain⟨bs,rb⟩:=Den.reads g.K I dy y u c2 hy ry;exact SeqAt.compareNe_shaped ra rb hs.1 hs.2 (JJD g) #[.bl _,H,I,rfl,KE.ok k (by simp![Den])]
  ·exact k.elim
 |Lt =>
  cases dx<;>cases dy<;>first|exact fF k|skip
  rename_i i j;simp![Den]at hx hy;subst hx;subst hy;exact op_lt yp s Y H _ _ v u Q I rx ry #[i,j,rfl,rfl,KE.ok k (by simp![Den])]
 |LtE =>
  cases dx<;>cases dy<;>first|exact fF k|skip
  rename_i i j;simp![Den]at hx hy;subst hx;subst hy;exact op_le yp s Y H _ _ v u Q I rx ry #[i,j,rfl,rfl,KE.ok k (by simp![Den])]
 |Gt =>
  cases dx<;>cases dy<;>first|exact fF k|skip
  rename_i i j;simp![Den]at hx hy;subst hx;subst hy;exact op_gt yp s Y H _ _ v u Q I rx ry #[i,j,rfl,rfl,KE.ok k (by simp![Den])]
 |GtE =>
  cases dx<;>cases dy<;>first|exact fF k|skip
  rename_i i j;simp![Den]at hx hy;subst hx;subst hy;exact op_ge yp s Y H _ _ v u Q I rx ry #[i,j,rfl,rfl,KE.ok k (by simp![Den])]
 |Is=>exact fF k
 |IsNot=>exact fF k
 |In =>
  cases dy with
  |list ds =>
   simp![cmpD]at k
   split at k
   ·rename_i hs;simp![JB9,q_i,q_D]at hs;obtain⟨as,ra⟩:=Den.reads g.K I dx x v hs.1.2 hx rx;obtain⟨bs,rb⟩:=Den.reads g.K I (.list ds) y u (by simpa only[PyData.canLay0] using hs.1.1) hy ry
    have hu:=g.units;refine SeqAt.in_list_reads rb ra hs.1.1 hs.1.2 ?_ #[.bl _,H,I,rfl,KE.ok k (by simp![Den])]
    have:=Nat.min_le_right (PyData.depthAll ds) dx.depth;omega
   ·exact k.elim
  |tuple ds =>
   simp![cmpD]at k
   split at k
   ·rename_i hs;simp![JB9,q_i,q_D]at hs;obtain⟨as,ra⟩:=Den.reads g.K I dx x v hs.1.2 hx rx;obtain⟨bs,rb⟩:=Den.reads g.K I (.tuple ds) y u (by simpa only[PyData.canLay0] using hs.1.1) hy ry
    have hu:=g.units;refine SeqAt.in_tuple_reads rb ra hs.1.1 hs.1.2 ?_ #[.bl _,H,I,rfl,KE.ok k (by simp![Den])]
    have:=Nat.min_le_right (PyData.depthAll ds) dx.depth;omega
   ·exact k.elim
  |_=>exact fF k
 |NotIn =>
  cases dy with
  |list ds =>
   simp![cmpD]at k
   split at k
   ·rename_i hs;simp![JB9,q_i,q_D]at hs;obtain⟨as,ra⟩:=Den.reads g.K I dx x v hs.1.2 hx rx;obtain⟨bs,rb⟩:=Den.reads g.K I (.list ds) y u (by simpa only[PyData.canLay0] using hs.1.1) hy ry
    have hu:=g.units;refine SeqAt.notIn_list_reads rb ra hs.1.1 hs.1.2 ?_ #[.bl _,H,I,rfl,KE.ok k (by simp![Den])]
    have:=Nat.min_le_right (PyData.depthAll ds) dx.depth;omega
   ·exact k.elim
  |tuple ds =>
   simp![cmpD]at k
   split at k
   ·rename_i hs;simp![JB9,q_i,q_D]at hs;obtain⟨as,ra⟩:=Den.reads g.K I dx x v hs.1.2 hx rx;obtain⟨bs,rb⟩:=Den.reads g.K I (.tuple ds) y u (by simpa only[PyData.canLay0] using hs.1.1) hy ry
    have hu:=g.units;refine SeqAt.notIn_tuple_reads rb ra hs.1.1 hs.1.2 ?_ #[.bl _,H,I,rfl,KE.ok k (by simp![Den])]
    have:=Nat.min_le_right (PyData.depthAll ds) dx.depth;omega
   ·exact k.elim
  |_=>exact fF k
end
def NewT(B:Bs)(H H2 H3:Hp)(d:D)(x:V):Prop:=∃p xs es,H2 p=none/\H3=upd H2 p (.tup xs)/\x=.ref p/\d=.tuple es/\DenL B H es xs
def ItOk(B:Bs)(J:It)(H:Hp)(ds:List D):Prop:=∀H2,Kpt H H2->∀i:Nat,
 (∀d,ds[i]? = some d->J.go i H2/\∀x H3,J.yld i H2 x H3->(H3=H2/\Den B H d x)\/NewT B H H2 H3 d x)/\(ds.length<=i->J.stop i H2)
def KI(B:Bs)(XX:Nat->Hp->Prop)(r:R (List D))(H:Hp)(Q:It->Hp->Prop):Prop:=match r with
 |.ok ds=>∀J H',Same H H'->ItOk B J H' ds->Q J H'
 |.exc c=>XX c H
 |.bad=>False
def RI(B:Bs)(C:Cn)(XX:Nat->Hp->Prop)(e:E):TI:=λY H Q=>∃U,Sok B Y H U/\KI B XX (evI C e U) H Q
def JKb{i c:Nat}:look U i≠.exc c:=by
 unfold look;cases U[i]? with
 |none=>intro h;cases h
 |some s=>cases s with
  |own d=>cases d<;>(intro h;cases h)
  |_=>intro h;cases h
theorem JDI:∀ {N:List Str}{x:Str}{i:Nat},idxOf x N=some i->N[i]? = some x
 | [],x,i,h=>by simp[idxOf]at h
 |y::r,x,i,h=>by
  unfold idxOf at h
  split at h
  ·rename_i hy;cases h;have:x=y:=eq_of_beq hy;subst this;rfl
  ·cases q:idxOf x r with
   |none=>rw[q]at h;cases h
   |some j =>
    rw[q]at h;simp![Option.map_some,q_j]at h;subst h;simpa using JDI q
def JA0{H:Hp}{p:Addr}{o:HO}(h:H p=none):Same H (upd H p o):=λb u e=>by rw[JAJ (JAU e h)];exact e
def JAb{n:Nat}{it:Bool}{e:Expr}(h:JAO G n it names N e=some x)(es:List Expr)(env:PySem.Env) :
  starEach (e::es) env=(false,eval e env)::starEach es env:=by
 cases n with
 |zero=>simp[JAO,JAq,JAT]at h
 |succ n=>cases e<;>first|rfl|(cases it<;>simp[JAO,JAq,JAT,xOf,Option.bind_none,ite_self,xRaw,mOf,mRaw]at h)
theorem JCM{n:Nat}{it:Bool}:∀ {es:List Expr}{x:E},JAN (JAO G n it names N) es=some x ->
  (backTo pos (starEach es env)).any (·.1)=false
 | [],_,_=>rfl
 |e::es,x,h=>by
  unfold JAN at h;cases h1:JAO G n it names N e with
  |none=>rw[h1]at h;cases h
  |some a =>
    rw[h1]at h;cases h2:JAN (JAO G n it names N) es with
    |none=>simp[h2]at h
    |some b =>
     rw[JAb h1 es env];show(false || (backTo pos (starEach es env)).any (·.1))=false
     rw[JCM h2];rfl
def JPP{b:Expr}(h:isSlice b=false):JI8 b:=by
 intro o i;cases b<;>first|rfl|cases h
def JAA{x:Str}(h:JAR x=false):(x==("__debug__":Str))=false/\(x==("__classdict__":Str))=false/\x≠"__name__":=by
 unfold JAR at h;simp![Bool.or_eq_false_iff]at h;exact#[h.1.1,h.1.2,λe=>by have:=h.2;rw[e]at this;simp at this]
abbrev cnt:E->Nat
 |.cons _ r=>cnt r+1
 |_=>0
theorem JCb:∀(e:E) (U:Env) (ds:List D),evA C e U=.ok ds->ds.length=cnt e
 |.nil,U,ds,h=>by simp![evA]at h;cases h;rfl
 |.cons a r,U,ds,h=>by
  simp![evA]at h;cases q:ev C a U with
  |ok d =>
   cases q2:evA C r U with
   |ok es =>
    rw[q,q2]at h;cases h;simp![List.length_cons,cnt,JCb r U es q2]
   |exc c=>rw[q,q2]at h;cases h
   |bad=>rw[q,q2]at h;cases h
  |exc c=>rw[q]at h;cases h
  |bad=>rw[q]at h;cases h
 |.var _,_,_,h|.cint _,_,_,h|.cbl _,_,_,h|.cnon,_,_,h|.cstr _,_,_,h|.glo _,_,_,h|.bin _ _ _,_,_,h|.neg _,_,_,h|.not _,_,_,h|.and _ _,_,_,h|.or _ _,_,_,h|.cmp _ _ _,_,_,h
 |.isN _ _,_,_,h|.ife _ _ _,_,_,h|.tup _,_,_,h|.lst _,_,_,h|.idx _ _,_,_,h|.call _ _,_,_,h|.blt _ _,_,_,h|.rng _,_,_,h|.isi _ _,_,_,h|.mcount _ _,_,_,h|.mindex _ _,_,_,h|.cmpr _ _ _ _,_,_,h=>by simp![evA]at h;cases h
theorem JAo:∀ {es:List Expr}{x:E},JAN f es=some x->cnt x=es.length
 | [],x,h=>by unfold JAN at h;cases h;rfl
 |e::es,x,h=>by
  unfold JAN at h;cases h1:f e with
  |none=>rw[h1]at h;cases h
  |some a =>
   cases h2:JAN f es with
   |none=>simp[h1,h2]at h
   |some b =>
    simp![h1,h2,Option.bind_some,q_j]at h;subst h;simp![cnt,List.length_cons,JAo h2]
section
variable{X:Cx}{B:Bs}{C:Cn}{CX:CXT}{XX:Nat->Hp->Prop}{G:List (Str×GK)}{a b c:Expr}{x y z:E}{pos:Pos}
def s_bad{e:Expr}(h:∀U,ev C x U=.bad):PE X e (RE B C XX x):=λ_ _ _ _ _ _ ⟨U,_,k⟩=>by rw[h U]at k;exact k.elim
def t_bad{e:Expr}(h:∀U,evT C x U=.bad):PT X e (RT B C XX x):=λ_ _ _ _ _ _ ⟨U,_,k⟩=>by rw[h U]at k;exact k.elim
def s_var{i:Nat}(hN:X.N[i]? = some nm)(hv:Vis X.env.scope nm)(hb:JAR nm=false):PE X (.Name nm pos) (RE B C XX (.var i)) :=
 PE.imp (JDJ hN hv (JAA hb).1 (JAA hb).2.1) λY H Q h_=>by
  obtain⟨U,ok,k⟩:=h_;simp![ev]at k;cases q:look U i with
  |ok d =>
   obtain⟨v,e,dn⟩:=ok i d q;rw[q]at k;exact#[v,e,KE.ok k dn]
  |exc c=>exact(JKb q).elim
  |bad=>rw[q]at k;exact k.elim
def s_int{i:Int}{j:Nat}:PE X (.Constant (.int i) j pos) (RE B C XX (.cint i)):=PE.imp JIT λY H Q ⟨U,ok,k⟩=>KE.ok k (by simp![Den])
def s_bl{i:Bool}{j:Nat}:PE X (.Constant (.bool i) j pos) (RE B C XX (.cbl i)):=PE.imp pe_bl λY H Q ⟨U,ok,k⟩=>KE.ok k (by simp![Den])
def s_non{j:Nat}:PE X (.Constant .none j pos) (RE B C XX .cnon):=PE.imp JSU λY H Q ⟨U,ok,k⟩=>KE.ok k (by simp![Den])
def s_str{j:Nat}:PE X (.Constant (.str i) j pos) (RE B C XX (.cstr i)):=PE.imp JQm λY H Q ⟨U,ok,k⟩=>KE.ok k (by simp![Den])
def s_glo(g:Gk X B C CX XX G){i:Nat}(hg:Gl X nm)(hl:G.lookup nm=some (.con i))(hb:JAR nm=false):PE X (.Name nm pos) (RE B C XX (.glo i)):=by
 cases q:C.glo i with
 |ok d =>
  obtain⟨u,v,hm,r,dn⟩:=g.con nm i d hl q;exact PE.imp (JIu hg hm r (JAA hb).1) λY H Q h_=>by
   obtain⟨U,ok,k⟩:=h_;simp![ev]at k;rw[q]at k;exact KE.ok k (dn H)
 |exc c=>exact(g.noexg i c q).elim
 |bad=>exact s_bad λU=>by simp![ev];exact q
def JRy(g:Gk X B C CX XX G)(ha:PE X a (RE B C XX x))(hb:PE X b (RE B C XX y)):PE X (.BinOp a op b pos) (RE B C XX (.bin op x y)) :=
 PE.imp (pe_op (binOk g op) ha hb) λY H Q ⟨U,ok,k⟩=>two g (f:=binD op) (λx y H dx dy h1 h2 k=>#[dx,dy,h1,h2,k]) #[U,ok,by simpa only[ev] using k]
def s_cmp(g:Gk X B C CX XX G)(ha:PE X a (RE B C XX x))(hb:PE X b (RE B C XX y))(hm:behindInMarks op b=false):PE X (.Compare a [op] [b] pos) (RE B C XX (.cmp op x y)) :=
 PE.imp (JJl (JKd g op) ha hb hm) λY H Q ⟨U,ok,k⟩=>two g (f:=cmpD op) (λx y H dx dy h1 h2 k=>#[dx,dy,h1,h2,k]) #[U,ok,by simpa only[ev] using k]
def s_neg(g:Gk X B C CX XX G)(ha:PE X a (RE B C XX x)):PE X (.UnaryOp .USub a pos) (RE B C XX (.neg x)) :=
 PE.imp (JPa JLr ha) λY H Q h_=>by
  obtain⟨U,ok,k⟩:=h_;simp![ev]at k;refine RE.of (W:=λr H=>KE B XX r H Q) ok (λ_ _ z=>z) (λ_ z=>z) k λd v H1 s1 d1 h1=>?_;have h2:=KE.mono g s1 h1;cases d<;>first|exact fF h2|skip
  rename_i i;simp![Den]at d1;exact#[i,d1,KE.ok h2 (by simp![Den])]
def truV{K:Kq}(hK:K=B.K){d:D}{v:V}{H:Hp}{k:Bool}(h:Den B H d v)(t:truth d=.ok k):TruV K v H k:=by
 subst hK;cases d with
 |none=>simp![Den]at h;subst h;simp![truth]at t;cases t;rfl
 |bool b=>simp![Den]at h;subst h;simp![truth]at t;cases t;rfl
 |int i=>simp![Den]at h;subst h;simp![truth]at t;cases t;rfl
 |str s =>
  simp![Den]at h;subst h;simp![truth]at t
  split at t
  ·rename_i hl;cases t;exact#[by rw[sizeLine_eq];exact hl,rfl]
  ·cases t
 |list ds =>
  simp![Den]at h;obtain⟨p,xs,e,q,l⟩:=h;subst e;simp![truth]at t;cases t;refine .inl #[xs,q,?_];have:=DenL.len ds xs l;cases ds<;>cases xs<;>simp_all
 |tuple ds =>
  simp![Den]at h;obtain⟨p,xs,e,q,l⟩:=h;subst e;simp![truth]at t;cases t;refine .inr (.inl #[xs,q,?_]);have:=DenL.len ds xs l;cases ds<;>cases xs<;>simp_all
 |dict kvs=>simp![truth]at t;cases t
def JFI{d:D}{c:Nat}:truth d≠.exc c:=by
 cases d<;>simp![truth]<;>(try split)<;>(intro h;cases h)
def s_not(g:Gk X B C CX XX G)(ha:PE X a (RE B C XX x)):PE X (.UnaryOp .Not a pos) (RE B C XX (.not x)):=by
 rintro yp s Y H Q I ⟨U,ok,k⟩;refine UnaryOp_ (thn (ha yp s Y H (λv H1=>∃t,TruV X.K v H1 t/\Q (.bl (!t)) H1) I ?_) λv s1 ⟨w,H1,I1,r1,t,tv,q⟩=>?_)
 ·refine#[U,ok,?_];simp![ev]at k;cases q:ev C x U with
  |ok d =>
   rw[q]at k;cases q2:truth d with
   |ok t =>
    simp![R.bind,q2]at k;exact λv H1 s1 d1=>#[t,truV g.K d1 q2,k _ H1 s1 (by simp![Den])]
   |exc c=>exact(JFI q2).elim
   |bad=>simp![R.bind,q2]at k;exact k.elim
  |exc c=>rw[q]at k;exact k
  |bad=>rw[q]at k;exact k.elim
 ·exact not_of (thn (JNL yp s1 Y H1 w v (λb H=>b=t/\H=H1) I1 r1 #[t,tv,rfl,rfl]) λb s2 ⟨H2,I2,e1,e2⟩=>by subst e1;subst e2;exact#[.bl (!b),H2,I2,rfl,q])
def s_and(g:Gk X B C CX XX G){rest:List Expr}(ha:PE X a (RE B C XX x))(hb:PE X (.BoolOp .And (b::rest) pos) (RE B C XX y)):PE X (.BoolOp .And (a::b::rest) pos) (RE B C XX (.and x y)) :=
 PE.imp (JQI ha hb) λY H Q h_=>by
  obtain⟨U,ok,k⟩:=h_;simp![ev]at k;refine RE.of (W:=λr H=>KE B XX r H Q) ok (λ_ _ z=>z) (λ_ z=>z) k λd v H1 s1 d1 h1=>?_;cases d<;>first|exact fF h1|skip
  rename_i t;simp![Den]at d1;refine#[t,d1,?_];cases t with
  |true=>exact iteT #[U,ok.mono s1,KE.mono g s1 h1]
  |false=>exact iteF (KE.ok (KE.mono g s1 h1) (by simp![Den]))
def s_or(g:Gk X B C CX XX G){rest:List Expr}(ha:PE X a (RE B C XX x))(hb:PE X (.BoolOp .Or (b::rest) pos) (RE B C XX y)):PE X (.BoolOp .Or (a::b::rest) pos) (RE B C XX (.or x y)) :=
 PE.imp (pe_or ha hb) λY H Q h_=>by
  obtain⟨U,ok,k⟩:=h_;simp![ev]at k;refine RE.of (W:=λr H=>KE B XX r H Q) ok (λ_ _ z=>z) (λ_ z=>z) k λd v H1 s1 d1 h1=>?_;cases d<;>first|exact fF h1|skip
  rename_i t;simp![Den]at d1;refine#[t,d1,?_];cases t with
  |true=>exact iteT (KE.ok (KE.mono g s1 h1) (by simp![Den]))
  |false=>exact iteF #[U,ok.mono s1,KE.mono g s1 h1]
def JCo{d:D}(h:Den B H d v):decide (v=.non)=isNone d:=by
 cases d with
 |none=>simp![Den]at h;subst h;rfl
 |bool _=>simp![Den]at h;subst h;rfl
 |int _=>simp![Den]at h;subst h;rfl
 |str _=>simp![Den]at h;subst h;rfl
 |list _=>simp![Den]at h;obtain⟨p,xs,e,_⟩:=h;subst e;rfl
 |tuple _=>simp![Den]at h;obtain⟨p,xs,e,_⟩:=h;subst e;rfl
 |dict _ =>
  simp![Den]at h;rcases h with ⟨p,xs,e,_⟩|⟨p,xs,e,_⟩|⟨p,xs,e,_⟩
  ·subst e;rfl
  ·subst e;rfl
  ·subst e;rfl
def s_isN(g:Gk X B C CX XX G){j:Nat}(ha:PE X a (RE B C XX x)):PE X (.Compare a [.Is] [.Constant .none j pos'] pos) (RE B C XX (.isN x false)) :=
 PE.imp (JL3 (JMw ha)) λY H Q h_=>by
  obtain⟨U,ok,k⟩:=h_;simp![ev]at k;refine RE.of (W:=λr H=>KE B XX r H Q) ok (λ_ _ z=>z) (λ_ z=>z) k λd v H1 s1 d1 h1=>?_;rw[JCo d1];exact KE.ok (KE.mono g s1 h1) (by simp[Den])
def JOZ(g:Gk X B C CX XX G){j:Nat}(ha:PE X a (RE B C XX x)):PE X (.Compare a [.IsNot] [.Constant .none j pos'] pos) (RE B C XX (.isN x true)) :=
 PE.imp (JL3 (JJn ha)) λY H Q h_=>by
  obtain⟨U,ok,k⟩:=h_;simp![ev]at k;refine RE.of (W:=λr H=>KE B XX r H Q) ok (λ_ _ z=>z) (λ_ z=>z) k λd v H1 s1 d1 h1=>?_;rw[JCo d1];exact KE.ok (KE.mono g s1 h1) (by simp[Den])
def s_ife(g:Gk X B C CX XX G)(hc:PT X c (RT B C XX z))(ha:PE X a (RE B C XX x))(hb:PE X b (RE B C XX y)):PE X (.IfExp c a b pos) (RE B C XX (.ife z x y)) :=
 PE.imp (JK3 hc ha hb) λY H Q h_=>by
  obtain⟨U,ok,k⟩:=h_;simp![ev]at k;refine RT.of (W:=λr H=>KE B XX r H Q) ok (λ_ _ z=>z) (λ_ z=>z) k λt H1 s1 h1=>?_;cases t with
  |true=>exact iteT #[U,ok.mono s1,KE.mono g s1 h1]
  |false=>exact iteF #[U,ok.mono s1,KE.mono g s1 h1]
def a_nil:PA X [] (RA B C XX .nil):=PA.imp JBe λY H Q ⟨U,ok,k⟩=>k [] H (Same.refl H) (by simp![DenL])
def JRr(g:Gk X B C CX XX G)(ha:PE X a (RE B C XX x))(hr:PA X es (RA B C XX y))(hs:starEach (a::es) X.env=(false,eval a X.env)::starEach es X.env):PA X (a::es) (RA B C XX (.cons x y)) :=
 PA.imp (JBF ha hr hs) λY H Q h_=>by
  obtain⟨U,ok,k⟩:=h_;simp![evA]at k;refine RE.of (W:=λr H=>KL B XX r H Q) ok (λ_ _ z=>z) (λ_ z=>z) k λd v H1 s1 d1 h1=>?_;refine RA.of (W:=λr H=>KL B XX r H Q) (ok.mono s1) (λ_ _ z=>z) (λ_ z=>z) (KL.mono g s1 h1) λds vs H2 s2 d2 h2=>?_;exact h2 (v::vs) H2 s2 (by simp![DenL];exact#[v,vs,rfl,Den.mono s2 d v d1,d2])
def s_tup(g:Gk X B C CX XX G){k2:Nat}(h:PA X es (RA B C XX x))(hl:cnt x<=1000):PE X (.Tuple es k2 pos) (RE B C XX (.tup x)) :=
 PE.imp (JP2 h) λY H Q h_=>by
  obtain⟨U,ok,k⟩:=h_;simp![ev]at k;cases q:evA C x U with
  |ok ds =>
   rw[q]at k;refine#[U,ok,?_];rw[q];intro vs H1 s1 d1;have e1:=DenL.len ds vs d1;have e2:=JCb x U ds q;refine#[by rw[sizeLine_eq];omega,λp hp=>k _ _ (s1.trans (JA0 hp)) ?_]
   simp![Den];exact#[p,vs,rfl,SqT.of JAH,DenL.mono (JA0 hp) ds vs d1]
  |exc c=>rw[q]at k;exact#[U,ok,by rw[q];exact k]
  |bad=>rw[q]at k;exact k.elim
def s_lst(g:Gk X B C CX XX G)(h:PA X es (RA B C XX x))(hl:cnt x<=1000):PE X (.List es pos) (RE B C XX (.lst x)) :=
 PE.imp (JIh h) λY H Q h_=>by
  obtain⟨U,ok,k⟩:=h_;simp![ev]at k;cases q:evA C x U with
  |ok ds =>
   rw[q]at k;refine#[U,ok,?_];rw[q];intro vs H1 s1 d1;have e1:=DenL.len ds vs d1;have e2:=JCb x U ds q;refine#[by rw[sizeLine_eq];omega,λp hp=>k _ _ (s1.trans (JA0 hp)) ?_]
   simp![Den];exact#[p,vs,rfl,SqL.of JAH,DenL.mono (JA0 hp) ds vs d1]
  |exc c=>rw[q]at k;exact#[U,ok,by rw[q];exact k]
  |bad=>rw[q]at k;exact k.elim
def JIz{H:Hp}{ds:List D}{vs:List V}{i:Int}{d:D}(h:DenL B H ds vs)(e:VI.atI ds i=some d):∃v,L2.atI vs i=some v/\Den B H d v:=by
 have hl:=DenL.len ds vs h;unfold VI.atI at e;cases q:VI.ixN ds.length i with
 |none=>rw[q]at e;cases e
 |some j =>
  rw[q]at e;obtain⟨v,e1,dn⟩:=DenL.get ds vs j d h e;refine#[v,?_,dn];unfold L2.atI;have q':L2.ixN vs.length i=some j:=by rw[<-hl];exact q
  rw[q'];exact e1
def SqDo.at{yp:Pq}{Y:St}{H:Hp}{s:Shared}{a:Addr}{o:Obj}{xs:List (Key×V)}(I:Inv X yp Y H s)(h:SqDo X.K X.w H a o xs):(a==sysModules)=false/\s.heap.get? a=some o/\∃vs,KV xs vs/\s.heap.DictOf (JBN X.prog X.w) a vs:=by
 rcases h with h|h
 ·obtain⟨e,_,h1,h2⟩:=I.hok a _ h;exact#[h1,e,h2]
 ·exact h X.prog s.heap I.kIn
theorem SqD.at{yp:Pq}{Y:St}{H:Hp}{s:Shared}{a:Addr}{xs:List (Key×V)}(I:Inv X yp Y H s)(h:SqD X.K X.w H a xs):(a==sysModules)=false/\∃vs,KV xs vs/\s.heap.DictOf (JBN X.prog X.w) a vs:=by
 obtain⟨o,h⟩:=h;obtain⟨h1,_,h2⟩:=SqDo.at I h;exact#[h1,h2]
def JNk{ks:List (Key×V)}{vs:List (Key×Value)}{x:Str}(h:KV ks vs):(∀v,(ks.find? λp=>p.1=Sum.inr x).map (·.2)=some v->∃u,valueAt vs (Sum.inr x:Key)=some u/\RelV v u)/\((ks.find? λp=>p.1=Sum.inr x).map (·.2)=none->valueAt vs (Sum.inr x:Key)=none):=by
 induction h with
 |nil=>exact#[λv e=>(by simp at e),λ_=>rfl]
 | @cons p q ps qs hq t ih =>
  obtain⟨k,v⟩:=p;obtain⟨k',u⟩:=q;obtain⟨e1,e2⟩:=hq;simp only at e1 e2;subst e1;unfold valueAt at ih ⊢;simp![List.find?_cons]
  by_cases hk:k=Sum.inr x
  ·simp![hk,decide_true,Option.map_some,q_j];exact#[λv' e=>#[u,rfl,e▸e2],λe=>by cases e]
  ·simp![hk,decide_false];exact ih
def JPA:IxR X (λx y H Q=>∃p xs k v,x=.ref p/\y=.str k/\SqD X.K X.w H p xs/\((xs.find? λp=>p.1=Sum.inr k).map (·.2))=some v/\Q v H):=by
 intro value slice yp s Y H x y v u Q I rx ry h hs;obtain⟨p,xs,k,z,rfl,rfl,hq,he,q⟩:=h;cases rx;obtain⟨t,rfl⟩:=ry;obtain⟨hsys,vs,kv,dd⟩:=SqD.at I hq;obtain⟨u,g1,g2⟩:=(JNk kv).1 z he;exact subscriptTail_builtinR (x:=u) dd.typeIs slot_dict_getitem.lookup (wpAny_getItem_of (Q:=λr s'=>r=u/\EP X yp Y Q r s') (JCw _ _ k t) dd.mapOf g1 #[rfl,z,H,I.tok _,g2,q]) hs
theorem JEj{H:Hp}{x:Str}{d:D}:∀ {kvs:List (D×D)}{xs:List (Key×V)},DenK B H kvs xs->getK kvs x=.ok d->∃v,(xs.find? λp=>p.1=Sum.inr x).map (·.2)=some v/\Den B H d v
 | [],xs,h,e=>by cases e
 |(k,b)::r,xs,h,e=>by
  simp![DenK]at h;obtain⟨y,v,r',rfl,rfl,h1,h2⟩:=h;simp![getK]at e
  by_cases hk:y=x
  · rw[if_pos hk]at e
    cases e;exact#[v,by simp[List.find?,hk],h1]
  · rw[if_neg hk]at e
    obtain⟨v',e1,e2⟩:=JEj h2 e;have:¬((Sum.inr y:Key)=Sum.inr x):=λz=>hk (Sum.inr.inj z);exact#[v',by simpa[List.find?,this] using e1,e2]
theorem JGI{x:Str}{c:Nat}:∀ {kvs:List (D×D)},getK kvs x≠.exc c
 | []=>by intro h;cases h
 |(k,b)::r=>by
  cases k<;>simp![getK]<;>first|(intro h;cases h;done)|skip
  split
  · intro h;cases h
  · exact JGI
def idxOk(g:Gk X B C CX XX G):IxR X (λv u H Q=>∃dx dy,Den B H dx v/\Den B H dy u/\KE B XX (idxD dx dy) H Q):=by
 rintro value slice yp s Y H v u w t Q I rx ry ⟨dx,dy,hx,hy,k⟩ hs;refine(ix_seq.or JPA) value slice yp s Y H v u w t Q I rx ry ?_ hs;cases dx with
 |list ds =>
  cases dy<;>first|exact fF k|skip
  rename_i i;simp![Den]at hx hy;obtain⟨p,xs,e,q,l⟩:=hx;simp![idxD]at k;cases qa:VI.atI ds i with
  |none=>rw[qa]at k;exact k.elim
  |some d =>
   rw[qa]at k;obtain⟨z,e2,dn⟩:=JIz l qa;exact .inl (.inl #[p,xs,i,z,e,hy,g.K▸q,e2,KE.ok k dn])
 |tuple ds =>
  cases dy<;>first|exact fF k|skip
  rename_i i;simp![Den]at hx hy;obtain⟨p,xs,e,q,l⟩:=hx;simp![idxD]at k;cases qa:VI.atI ds i with
  |none=>rw[qa]at k;exact k.elim
  |some d =>
   rw[qa]at k;obtain⟨z,e2,dn⟩:=JIz l qa;exact .inl (.inr (.inl #[p,xs,i,z,e,hy,g.K▸q,e2,KE.ok k dn]))
 |dict kvs =>
  cases dy<;>first|exact fF k|skip
  rename_i y;simp![Den]at hx hy;simp![idxD]at k;rcases hx with ⟨p,c,e1,e2,_⟩|⟨p,xs,e1,e2,e3⟩|⟨p,c,e1,e2,_⟩
  ·subst e2;exact fF k
  rotate_left 1
  ·subst e2;exact fF k
  ·cases qg:getK kvs y with
   |ok d =>
    rw[qg]at k;obtain⟨z,f1,f2⟩:=JEj e3 qg;exact .inr #[p,xs,y,z,e1,hy,by rw[g.K,g.W];exact e2,f1,KE.ok k f2]
   |exc c=>exact(JGI qg).elim
   |bad=>rw[qg]at k;exact k.elim
 |str z =>
  cases dy<;>first|exact fF k|skip
  rename_i i;simp![Den]at hx hy;simp![idxD]at k
  split at k
  ·rename_i hz;cases qa:VI.atI z.cps.toList i with
   |none=>rw[qa]at k;exact k.elim
   |some c =>
    rw[qa]at k;exact .inl (.inr (.inr #[z,i,c,hx,hy,by rw[sizeLine_eq];exact Nat.le_trans hz (by decide),qa,k _ _ (Same.refl H) (by simp![Den])]))
  ·exact k.elim
 |_=>exact fF k
def s_idx(g:Gk X B C CX XX G)(ha:PE X a (RE B C XX x))(hb:PE X b (RE B C XX y))(hs:isSlice b=false):PE X (.Subscript a b pos) (RE B C XX (.idx x y)) :=
 PE.imp (pe_ix (idxOk g) ha hb (JPP hs)) λY H Q ⟨U,ok,k⟩=>two g (f:=idxD) (λx y H dx dy h1 h2 k=>#[dx,dy,h1,h2,k]) #[U,ok,by simpa only[ev] using k]
def JFv(g:Gk X B C CX XX G){n:Nat}{Q:VK}(hn:fn ds≠.bad->ds.length=n)(dn:DenL B H ds vs)(k:KE B XX (fn ds) H Q):JBQ B n fn vs H Q (EX B XX):=by
 have hb:fn ds≠.bad:=λz=>by rw[z]at k;exact k
 refine#[by rw[<-DenL.len ds vs dn];exact hn hb,ds,dn,?_]
 cases q:fn ds with
 |ok d=>rw[q]at k;exact k
 |exc c=>rw[q]at k;exact λH' s'=>#[c,rfl,g.anti c H H' s' k]
 |bad=>exact(hb q).elim
end
section
variable{X:Cx}{B:Bs}{C:Cn}{CX:CXT}{XX:Nat->Hp->Prop}{G:List (Str×GK)}{a b c:Expr}{x y z:E}{pos p:Pos}
def s_call(g:Gk X B C CX XX G){i:Nat}{e:Expr}(hg:Gl X nm)(hl:G.lookup nm=some (.fn i))(hb:JAR nm=false)(ha:PA X (e::r) (RA B C XX x))
  (he:starEach (e::r) X.env=(false,eval e X.env)::starEach r X.env) (hpl:(backTo pos (starEach (e::r) X.env)).any (·.1)=false):PE X (.Call (.Name nm p) (e::r) [] pos) (RE B C XX (.call i x)):=by
 obtain⟨f,fd,ps,k,hm,hk,F,hr,hbi,hn⟩:=g.fn nm i hl;refine PE.imp (JJX F hr hg hm hk hbi .nil g.pas ha (JAA hb).1 he ?_) ?_
 ·rw[he]at hpl;exact hpl
 ·rintro Y H Q ⟨U,ok,kk⟩;simp![ev]at kk;refine RA.of (W:=λr H=>KE B XX r H Q) ok (λ_ _ z=>z) (λ_ z=>z) kk λds vs H1 s1 d1 h1=>?_;show JBQ B ps.length (C.fn i) (vs++[]) H1 Q (EX B XX);rw[List.append_nil];exact JFv g (hn ds) d1 (KE.mono g s1 h1)
def JJb(g:Gk X B C CX XX G):JBl X (.builtin "len") (λvs H Q=>∃ds,DenL B H ds vs/\KE B XX (bltD .len ds) H Q):=by
 rintro yp s Y H vs us Q I r ⟨ds,dn,k⟩;refine JKw yp s Y H vs us Q I r ?_
 match ds,dn,k with
 | [.list ys],dn,k =>
  simp![DenL,Den]at dn;obtain⟨v,r',e,⟨a,xs,e1,q,l⟩,e2⟩:=dn;subst e2;subst e;subst e1;exact#[_,xs.length,rfl,.inl #[xs,g.K▸q,rfl],by rw[<-DenL.len ys xs l];exact KE.ok k (by simp![Den])]
 | [.tuple ys],dn,k =>
  simp![DenL,Den]at dn;obtain⟨v,r',e,⟨a,xs,e1,q,l⟩,e2⟩:=dn;subst e2;subst e;subst e1;exact#[_,xs.length,rfl,.inr #[xs,g.K▸q,rfl],by rw[<-DenL.len ys xs l];exact KE.ok k (by simp![Den])]
 | [],_,k=>exact fF k
 | [.none],_,k=>exact fF k
 | [.bool _],_,k=>exact fF k
 | [.int _],_,k=>exact fF k
 | [.str _],_,k=>exact fF k
 | [.dict _],_,k=>exact fF k
 |d::_::_,_,k=>cases d<;>exact fF k
def JIp(g:Gk X B C CX XX G):JBl X (.builtin "abs") (λvs H Q=>∃ds,DenL B H ds vs/\KE B XX (bltD .abs ds) H Q):=by
 rintro yp s Y H vs us Q I r ⟨ds,dn,k⟩;refine JLJ yp s Y H vs us Q I r ?_
 match ds,dn,k with
 | [.int i],dn,k =>
  simp![DenL,Den]at dn;obtain⟨v,r',e,e1,e2⟩:=dn;subst e2;subst e;subst e1;exact#[i,rfl,KE.ok k (by simp![Den])]
 | [],_,k=>exact fF k
 | [.none],_,k=>exact fF k
 | [.bool _],_,k=>exact fF k
 | [.list _],_,k=>exact fF k
 | [.tuple _],_,k=>exact fF k
 | [.str _],_,k=>exact fF k
 | [.dict _],_,k=>exact fF k
 |d::_::_,_,k=>cases d<;>exact fF k
def JOz(g:Gk X B C CX XX G){bl:Blt}{id:String}{nm:Str}{e:Expr}{r:List Expr}(hc:JBl X (.builtin id) (λvs H Q=>∃ds,DenL B H ds vs/\KE B XX (bltD bl ds) H Q))(hv:bootBuiltins nm=some (.builtin id))
  (hg:Gl X nm) (hl:G.lookup nm=some (.blt bl)) (hb:JAR nm=false) (ha:PA X (e::r) (RA B C XX x))
  (he:starEach (e::r) X.env=(false,eval e X.env)::starEach r X.env) (hpl:(backTo pos (starEach (e::r) X.env)).any (·.1)=false):PE X (.Call (.Name nm p) (e::r) [] pos) (RE B C XX (.blt bl x)):=by
 refine PE.imp (JEG hc hg (g.blt nm bl hl) hv ha (JAA hb).2.2 (JAA hb).1 he ?_) ?_
 ·rw[he]at hpl;exact hpl
 ·rintro Y H Q ⟨U,ok,kk⟩;simp![ev]at kk;refine RA.of (W:=λr H=>KE B XX r H Q) ok (λ_ _ z=>z) (λ_ z=>z) kk λds vs H1 s1 d1 h1=>?_;exact#[ds,d1,KE.mono g s1 h1]
def JOE(g:Gk X B C CX XX G)(ha:PE X a (RE B C XX x))(he:∀whole,isTrue a X.env whole=(do let v<-whole;standAt a.pos;holding [v] (truthy v)))(ht:∀U,evT C x U=(ev C x U).bind truth):PT X a (RT B C XX x) :=
 PT.imp (JLS ha he) λY H Q h_=>by
  obtain⟨U,ok,k⟩:=h_;rw[ht]at k;refine RE.of (W:=λr H=>KB XX r H Q) ok (λ_ _ z=>z) (λ_ z=>z) k λd v H1 s1 d1 h1=>?_;cases q:truth d with
  |ok t=>rw[q]at h1;exact#[t,truV g.K d1 q,h1 H1 s1]
  |exc c=>exact(JFI q).elim
  |bad=>rw[q]at h1;exact h1.elim
def JQd(op:CmpOp)(h:PT X (.Compare a [op] [b] pos) (JSf t))(ht:∀Y H Q,RE B C XX x Y H Q->t Y H Q)(hb:∀U,evT C x U=(ev C x U).bind truth)(hbool:∀U d,ev C x U=.ok d->∃k,d=.bool k):PT X (.Compare a [op] [b] pos) (RT B C XX x) :=
 PT.imp h λY H Q h_=>by
  obtain⟨U,ok,k⟩:=h_;refine ht Y H _ #[U,ok,?_];rw[hb]at k;cases q:ev C x U with
  |ok d =>
   rw[q]at k;obtain⟨t',rfl⟩:=hbool U d q;intro v H1 s1 d1;simp![Den]at d1;exact#[t',d1,k H1 s1]
  |exc c=>rw[q]at k;exact k
  |bad=>rw[q]at k;exact k.elim
def JKV(g:Gk X B C CX XX G)(ha:PT X a (RT B C XX x)):PT X (.UnaryOp .Not a pos) (RT B C XX (.not x)) :=
 PT.imp (JNK ha) λY H Q h_=>by
  obtain⟨U,ok,k⟩:=h_;simp![evT]at k;exact RT.of (W:=λr H=>KB XX r H Q) ok (λ_ _ z=>z) (λ_ z=>z) k λt H1 s1 h1=>h1 H1 s1
def w_and(g:Gk X B C CX XX G){rest:List Expr}(ha:PT X a (RT B C XX x))(hb:PW X (.BoolOp .And (b::rest) pos) (RT B C XX y)):PW X (.BoolOp .And (a::b::rest) pos) (RT B C XX (.and x y)) :=
 λwh yp s Y H Q I ⟨U,ok,k⟩=>JSr ha hb wh yp s Y H Q I (by
  simp![evT]at k;refine RT.of (W:=λr H=>KB XX r H Q) ok (λ_ _ z=>z) (λ_ z=>z) k λt H1 s1 h1=>?_;cases t with
  |true=>exact iteT #[U,ok.mono s1,KB.mono g s1 h1]
  |false=>exact iteF (h1 H1 s1))
def w_or(g:Gk X B C CX XX G){rest:List Expr}(ha:PT X a (RT B C XX x))(hb:PW X (.BoolOp .Or (b::rest) pos) (RT B C XX y)):PW X (.BoolOp .Or (a::b::rest) pos) (RT B C XX (.or x y)) :=
 λwh yp s Y H Q I ⟨U,ok,k⟩=>JRh ha hb wh yp s Y H Q I (by
  simp![evT]at k;refine RT.of (W:=λr H=>KB XX r H Q) ok (λ_ _ z=>z) (λ_ z=>z) k λt H1 s1 h1=>?_;cases t with
  |true=>exact iteT (h1 H1 s1)
  |false=>exact iteF #[U,ok.mono s1,KB.mono g s1 h1])
end
def JDY{prog:Program}{w:World}{A:Around}{R:Result->Shared->Prop}{s:Shared}{elt target iter:Expr}{ifs:List Expr}{scope:Scope}{pos:Pos}{it acc:Value}{env:PySem.Env}(I:Nat->Shared->Prop)
  (turn:∀n s,I n s->wpAny (model prog w) A (pyNext it) (λr s₁=>match r with
    |none=>R (.ok .next) s₁
    |some v=>wpAny (model prog w) A (letOwnedTupleGo target it v) (λ_ s₁'=>wpAny (model prog w) A (assign target env v) (λ_ s₂ =>
     wpAny (model prog w) A (forIn ifs true λc r=>if r=true then do let ok<-isTrue c env (eval c env);pure (ForInStep.yield ok) else pure (ForInStep.yield r)) (λok s₃ =>
      if ok=true then wpAny (model prog w) A (eval elt env) (λx s₄ =>
       wpAny (model prog w) A (call (.builtin "list.append") [acc,x]) (λ_ s₅=>∃m,m<n/\I m s₅) (notedBy (model prog w) A env λe s'=>R (.error e) s') s₄) (notedBy (model prog w) A env λe s'=>R (.error e) s') s₃
      else ∃m,m<n/\I m s₃) (notedBy (model prog w) A env λe s'=>R (.error e) s') s₂) (notedBy (model prog w) A env λe s'=>R (.error e) s') s₁') (notedBy (model prog w) A env λe s'=>R (.error e) s') s₁) (notedBy (model prog w) A env λe s'=>R (.error e) s') s)
  (n:Nat) (h:I n s) :
  codeAny (model prog w) A (.compLoop (.ListComp elt [#[target,iter,ifs,0]] scope pos) 0 it acc env) R s:=by
 refine codeAny_loop rfl I (λn s hI=>?_) n h;show wpAny _ A ((compTurn (.ListComp elt [#[target,iter,ifs,0]] scope pos) 0 it acc env).onRaise (λx=>do noteFrame x env;theTreesLotGoes x)) _ _ s
 refine wpAny_noted ?_;rw[compTurn_list];refine q_b (wpAny_standAt (q_b (wpAny_mono (turn n s hI) (λr s₁ h₁=>?_) λ_ _ h'=>h')));cases r with
 |none=>exact q_e h₁
 |some v =>
  refine q_b (wpAny_mono h₁ (λ_ s₁' h₁'=>?_) λ_ _ h'=>h');refine q_b (wpAny_mono h₁' (λ_ s₂ h₂=>q_b (wpAny_mono h₂ (λok s₃ h₃=>?_) λ_ _ h'=>h')) λ_ _ h'=>h');cases ok with
  |false=>exact q_e #[rfl,h₃]
  |true =>
    exact q_b (q_b (wpAny_mono h₃ (λx s₄ h₄=>q_b (wpAny_mono h₄ (λ_ s₅ h₅=>q_e (q_e #[rfl,h₅])) λ_ _ h'=>h')) λ_ _ h'=>h'))
abbrev JAl(X:Cx)(sc:Scope)(Cc:Addr)(N':List Str)(fp:List Addr)(s:Shared)(H:Hp):Cx where
 prog:=X.prog
 w:=X.w
 K:=X.K
 mg:=X.mg
 base:=X.base
 A:=X.A
 N:=N'
 s₀:=s
 H₀:=H
 env:=compEnvC sc (JBG X.env.cells sc.names []) Cc X.env
 outer:=X.stack
 stack:=X.stack
 ex:=fp
 fn:=λ_=>false
 calm:=true
 pn:=[]
 xe:=λ_ _=>False
def JAr{X:Cx}{sc:Scope}{Cc:Addr}(hk:X.env.scope.kind=.function):(compEnvC sc (JBG X.env.cells sc.names []) Cc X.env).scope.names=JAt X.env.scope.names sc.names:=by
 show(sc.names.map λ(x:Str×NameKind)=>match x with|(n,k)=>if (k==NameKind.free&&X.env.scope.kind==ScopeKind.function&&X.env.kindOf n==some NameKind.cell)=true then (n,NameKind.cell) else (n,k))=_
 have:(X.env.scope.kind==ScopeKind.function)=true:=by rw[hk];rfl
 simp![this];rfl
theorem JBa:∀ {names:Nq}{x:Str},names.lookup x=some .local->(JAt outer names).lookup x=some .local
 | [],x,h=>by simp at h
 |(n,k)::r,x,h=>by
  unfold JAt;rw[List.map_cons];rw[List.lookup_cons]at h;cases q:x==n with
  |true =>
    rw[q]at h;cases h;show List.lookup x ((if (NameKind.local==NameKind.free&&true&&outer.lookup n==some NameKind.cell)=true then (n,NameKind.cell) else (n,NameKind.local))::_)=_;rw[if_neg (by simp),List.lookup_cons,q]
  |false =>
    rw[q]at h;have e:∀kk,List.lookup x ((n,kk)::JAt outer r)=List.lookup x (JAt outer r):=λkk=>by rw[List.lookup_cons,q]
    show List.lookup x ((if (k==NameKind.free&&true&&outer.lookup n==some NameKind.cell)=true then (n,NameKind.cell) else (n,k))::JAt outer r)=_
    split
    ·rw[e];exact JBa h
    ·rw[e];exact JBa h
theorem JBU:∀ {names:Nq}{x:Str},(∀y∈names,y.2≠.cell)->(JAt outer names).lookup x=some .cell\/(JAt outer names).lookup x=some .free->(x,NameKind.free)∈names
 | [],x,_,h=>by simp[JAt]at h
 |(n,k)::r,x,hc,h=>by
  have hc':∀y∈r,y.2≠.cell:=λy hy=>hc y (q_s _ hy);have hk:k≠.cell:=hc (n,k) List.mem_cons_self;have e0:JAt outer ((n,k)::r)=(if (k==NameKind.free&&true&&outer.lookup n==some NameKind.cell)=true then (n,NameKind.cell) else (n,k))::JAt outer r:=rfl;rw[e0]at h;cases q:x==n with
  |true =>
    have e:x=n:=eq_of_beq q;subst e
    by_cases hf:k=.free
    ·subst hf;exact List.mem_cons_self
    ·rw[if_neg (by simp[hf]),List.lookup_cons,q]at h
     rcases h with h|h
     ·exact absurd (Option.some.inj h) hk
     ·exact absurd (Option.some.inj h) hf
  |false =>
    have e:∀kk,List.lookup x ((n,kk)::JAt outer r)=List.lookup x (JAt outer r):=λkk=>by rw[List.lookup_cons,q]
    have h':List.lookup x (JAt outer r)=some .cell\/List.lookup x (JAt outer r)=some .free:=by
     split at h
     ·rw[e]at h;exact h
     ·rw[e]at h;exact h
    exact q_s _ (JBU hc' h')
section
variable{X:Cx}{B:Bs}{C:Cn}{CX:CXT}{G:List (Str×GK)}{yp:Pq}{Y:St}{H:Hp}{s:Shared}{sc:Scope}{fp:List Addr}{N':List Str}{Cc:Addr}
structure BlkOk(X:Cx)(sc:Scope)(xs:List Str):Prop where
 kind:sc.kind=.function
 nocell:∀y∈sc.names,y.2≠.cell
 loc:∀y∈sc.names,y.2=.local->sc.names.lookup y.1=some .local
 free:∀n,(n,NameKind.free)∈sc.names->X.env.kindOf n=some .cell\/X.env.kindOf n=some .free
 tg:∀x∈xs,sc.names.lookup x=some .local
 out:∀y∈X.N,y ∉ xs->sc.names.lookup y≠some .local
 dots:∀i,i<X.N.length->Vis (compEnvC sc (JBG X.env.cells sc.names []) 0 X.env).scope (dots i)->False
 nd:(xs++mask xs 0 X.N).Nodup
def vis_same{Cc C':Addr}:Vis (compEnvC sc (JBG X.env.cells sc.names []) Cc X.env).scope x↔Vis (compEnvC sc (JBG X.env.cells sc.names []) C' X.env).scope x:=Iff.rfl
def BlkOk.clos{xs:List Str}(b:BlkOk X sc xs)(ok:X.Ok):closureFor sc X.env=pure (JBG X.env.cells sc.names []) :=
 JD3 λn hn=>by
  obtain⟨c,hc⟩:=ok.has n (b.free n hn);rw[hc];rfl
def JBP{xs:List Str}(b:BlkOk X sc xs)(ok:X.Ok){x:Str}{c:Addr}:(JBG X.env.cells sc.names []).lookup x=some c↔(x,NameKind.free)∈sc.names/\X.env.cells.lookup x=some c:=by
 rw[JBq]
 by_cases h:(x,NameKind.free)∈sc.names
 ·rw[if_pos h];obtain⟨d,hd⟩:=ok.has x (b.free x h);rw[hd];simp[h]
 ·rw[if_neg h];simp[h]
def JOu{xs:List Str}(b:BlkOk X sc xs)(hcalm:X.calm=true)(I:Inv X yp Y H s)(hf:∀b∈fp,FpOk X yp H b)(hlt:∀b∈fp,b<s.heap.objs.size)(hC:s.heap.objs.size<=Cc):(JAl X sc Cc N' fp s H).Ok where
 mod:=I.mod
 kind:=b.kind
 glob:=I.ok.glob
 blt:=I.ok.blt
 above:=hC
 inj:=λx y c h1 h2=>I.ok.inj x y c ((JBP b I.ok).mp h1).2 ((JBP b I.ok).mp h2).2
 has:=λx h=>by
  have e:=JAr (X:=X) (sc:=sc) (Cc:=Cc) I.ok.kind;have h':(JAt X.env.scope.names sc.names).lookup x=some .cell\/(JAt X.env.scope.names sc.names).lookup x=some .free:=by
   rw[<-e];exact h
  have hm:=JBU b.nocell h';obtain⟨c,hc⟩:=I.ok.has x (b.free x hm);exact#[c,(JBP b I.ok).mpr #[hm,hc]]
 cab:=λ_ _ z=>by cases z
 hd:=λ_=>I.ok.hd hcalm
 frames:=I.ok.frames
 stk:=.inl rfl
 exf:=λa ha=>#[q_l (q_m (hlt a ha) hC),λx c e=>(hf a ha).2.2.2.2.1 x c ((JBP b I.ok).mp e).2]
 bs:=I.bs
 bsz:=Nat.le_trans I.ok.bsz I.sz
 noex:=λa o e ha=>by
  rcases(hf a ha).2.2.2.1 with z|z
  ·exact I.ok.noex a o e z
  ·exact absurd (q_m (q_h e) (Nat.le_trans I.ok.bsz z)) (Nat.lt_irrefl _)
 exfs:=λa ha hm=>by
  rcases q_n.mp (I.stkSub a hm) with z|z
  ·exact(hf a ha).2.1 z
  ·exact(hf a ha).2.2.1 z
 funs:=I.stack
 frf:=I.stkFree
theorem JGq:∀(N:List Str) (i j:Nat) (y:Str),(mask xs i N)[j]? = some y->∃z,N[j]? = some z/\((z ∉ xs/\y=z)\/(z∈xs/\y=dots (i+j)))
 | [],_,_,_,h=>by simp[mask]at h
 |z::r,i,0,y,h=>by
  unfold mask at h;simp![List.getElem?_cons_zero,q_j]at h;refine#[z,rfl,?_]
  split at h
  ·rename_i hc;exact .inr #[by simpa using hc,h.symm]
  ·rename_i hc;exact .inl #[by simpa using hc,h.symm]
 |z::r,i,j+1,y,h=>by
  unfold mask at h;simp![List.getElem?_cons_succ]at h;obtain⟨w,e,q⟩:=JGq r (i+1) j y h;refine#[w,by simpa using e,?_]
  rw[show i+(j+1)=i+1+j by omega]
  exact q
theorem JG5:∀(N:List Str) (i:Nat),(mask xs i N).length=N.length
 | [],_=>rfl
 |_::r,i=>by simp![mask,List.length_cons,JG5 r]
def JHX{xs:List Str}(b:BlkOk X sc xs)(hcalm:X.calm=true)(I:Inv X yp Y H s)(hf:∀b∈fp,FpOk X yp H b)(hlt:∀b∈fp,b<s.heap.objs.size)(hC:s.heap.objs.size<=Cc)
  {h':Heap}{t':Nat}{m:Mq}(k:∀b o,s.heap.get? b=some o->h'.get? b=some o) (hn:h'.Ns Cc m) :
  Inv (JAl X sc Cc (xs++mask xs 0 X.N) fp s H) [] (xs.map (λ_=>none)++Y) H { s with heap:=h',toks:=t' } where
 ok:=JOu b hcalm I hf hlt hC
 os:=rfl
 bare:=I.bare
 base:=Un.kept k
 loc:=by
  refine#[m,hn,λi y v e1 e2 e3=>?_]
  by_cases hi:i<xs.length
  ·rw[q_C (by simpa using hi)]at e2
   simp[hi]at e2
  ·have hi':xs.length<=i:=by omega
   rw[List.getElem?_append_right (by simpa using hi')]at e2
   simp![q_g]at e2;have e1':(mask xs 0 X.N)[i - xs.length]? = some y:=by
    have:(xs++mask xs 0 X.N)[i]? = some y:=e1
    rwa [List.getElem?_append_right hi']at this
   obtain⟨z,ez,q⟩:=JGq X.N 0 _ y e1';rcases q with ⟨hz,rfl⟩|⟨hz,rfl⟩
   ·have e3':Vis (compEnvC sc (JBG X.env.cells sc.names []) Cc X.env).scope y:=e3;have hfree:(y,NameKind.free)∈sc.names:=by
     have en:=JAr (X:=X) (sc:=sc) (Cc:=Cc) I.ok.kind;unfold Vis at e3';rw[en]at e3';rcases e3' with e|e|e
     ·exfalso;refine b.out y (List.mem_of_getElem? ez) hz ?_;have:∀(names:Nq),(JAt X.env.scope.names names).lookup y=some .local->names.lookup y=some .local:=by
       intro names
       induction names with
       |nil=>intro h;simp[JAt]at h
       |cons p r ih =>
        obtain⟨n,kk⟩:=p;intro h;have e0:JAt X.env.scope.names ((n,kk)::r)=(if (kk==NameKind.free&&true&&X.env.scope.names.lookup n==some NameKind.cell)=true then (n,NameKind.cell) else (n,kk))::JAt X.env.scope.names r:=rfl;rw[e0]at h;rw[List.lookup_cons]
        split at h
        ·rw[List.lookup_cons]at h;cases q:y==n with
         |true=>rw[q]at h;cases h
         |false=>rw[q]at h;exact ih h
        ·rw[List.lookup_cons]at h;cases q:y==n with
         |true=>rw[q]at h;exact h
         |false=>rw[q]at h;exact ih h
      exact this sc.names e
     ·exact JBU b.nocell (.inl e)
     ·exact JBU b.nocell (.inr e)
    have hvis:Vis X.env.scope y:=by
     rcases b.free y hfree with e|e
     ·exact .inr (.inl e)
     ·exact .inr (.inr e)
    obtain⟨mm,hmm,hl⟩:=I.loc;obtain⟨u,r,l⟩:=hl (i - xs.length) y v ez e2 hvis;refine#[u,r,.inr #[?_,?_]]
    ·have en:=JAr (X:=X) (sc:=sc) (Cc:=Cc) I.ok.kind;rcases e3' with e|e|e
     ·exfalso;have e':(JAt X.env.scope.names sc.names).lookup y=some .local:=by rw[<-en];exact e
      have hh:=JBU (outer:=X.env.scope.names) (names:=sc.names) (x:=y) b.nocell;have:∀(names:Nq),(JAt X.env.scope.names names).lookup y=some .local->names.lookup y=some .local:=by
       intro names
       induction names with
       |nil=>intro h;simp[JAt]at h
       |cons p r ih =>
        obtain⟨n,kk⟩:=p;intro h;have e0:JAt X.env.scope.names ((n,kk)::r)=(if (kk==NameKind.free&&true&&X.env.scope.names.lookup n==some NameKind.cell)=true then (n,NameKind.cell) else (n,kk))::JAt X.env.scope.names r:=rfl;rw[e0]at h;rw[List.lookup_cons]
        split at h
        ·rw[List.lookup_cons]at h;cases q:y==n with
         |true=>rw[q]at h;cases h
         |false=>rw[q]at h;exact ih h
        ·rw[List.lookup_cons]at h;cases q:y==n with
         |true=>rw[q]at h;exact h
         |false=>rw[q]at h;exact ih h
      exact b.out y (List.mem_of_getElem? ez) hz (this sc.names e')
     ·exact .inl e
     ·exact .inr e
    ·rcases l with ⟨hk,_⟩|⟨_,c,hc,hcell⟩
     ·exfalso;rcases b.free y hfree with e|e
      ·rw[e]at hk;cases hk
      ·rw[e]at hk;cases hk
     ·refine#[c,(JBP b I.ok).mpr #[hfree,hc],?_];obtain⟨o,ho,hd⟩:=hcell;exact#[o,k _ _ ho,hd]
   ·exfalso;have hlt':i - xs.length<X.N.length:=(q_p.mp ez).1;have:dots (0+(i - xs.length))=dots (i - xs.length):=by rw[Nat.zero_add]
    exact b.dots (i - xs.length) hlt' (by rw[<-this];exact vis_same.mp e3)
 cell:=λx c e=>by
  obtain⟨v,o,ho,hd⟩:=I.cell x c ((JBP b I.ok).mp e).2;exact#[v,o,k _ _ ho,hd]
 free:=I.hok.fresh hC
 freeC:=λx c e=>I.freeC x c ((JBP b I.ok).mp e).2
 pin:=λp hp=>absurd (show p∈([]:Pq) from hp) (by simp)
 hok:=I.hok.kept k
 len:=by
  show(xs.map (λ_=>(none:Option V))++Y).length=(xs++mask xs 0 X.N).length;rw[q_u,q_u,q_g,JG5,I.len]
end
section
variable{X:Cx}{B:Bs}{C:Cn}{CX:CXT}{XX:Nat->Hp->Prop}{G:List (Str×GK)}{yp:Pq}{Y:St}{H:Hp}{s:Shared}{sc:Scope}{N':List Str}{Cc:Addr}
@[reducible]def noE:Vq:=λ_ _=>False
structure Sts(T:Type) where
 B:T->Bs
 ok:T->Hp->Prop
 st:T->Hp->T->Hp->Prop
 same:∀t H H',ok t H->Same H H'->st t H t H'
 trans:∀ {t H t' H' t'' H''},st t H t' H'->st t' H' t'' H''->st t H t'' H''
 all:∀ {t H t' H'},st t H t' H'->ok t' H'
 kp:∀ {t H t' H'},ok t H->st t H t' H'->Kpt H H'
 den:∀ {t H t' H'} d v,ok t H->st t H t' H'->Den (B t) H d v->Den (B t') H' d v
def JBj{T:Type}(X':Cx)(S:Sts T)(Y:St)(n:Nat)(U:Env)(target elt:Expr)(ifs:List Expr)(R:T->List D->List D->Prop):Prop :=
 ∀(yp:Pq) (s:Shared) (pre:St) (H:Hp) (t:T) (d:D) (ds ys:List D) (v:V) (u:Value),pre.length=n->R t (d::ds) ys->S.ok t H->Inv X' yp (pre++Y) H s->RelV v u->Den (S.B t) H d v->Sok (S.B t) Y H U ->
  wpAny (model X'.prog X'.w) X'.A (assign target X'.env u) (λ_ s₂ =>
   wpAny (model X'.prog X'.w) X'.A (forIn ifs true λc r=>if r=true then do let ok<-isTrue c X'.env (eval c X'.env);pure (ForInStep.yield ok) else pure (ForInStep.yield r)) (λok s₃ =>
    if ok=true then wpAny (model X'.prog X'.w) X'.A (eval elt X'.env) (λx s₄=>∃t' y pre' H' w,R t' ds (ys++[y])/\pre'.length=n/\Inv X' yp (pre'++Y) H' s₄/\S.st t H t' H'/\RelV w x/\Den (S.B t') H' y w) noE s₃
    else ∃t' pre' H',R t' ds ys/\pre'.length=n/\Inv X' yp (pre'++Y) H' s₃/\S.st t H t' H') noE s₂) noE s
theorem Sts.dens{T:Type}(S:Sts T){t t':T}{H H':Hp}(o:S.ok t H)(s:S.st t H t' H'):∀(ds:List D) (vs:List V),DenL (S.B t) H ds vs->DenL (S.B t') H' ds vs
 | [],_,h=>h
 |d::ds,vs,h=>by
  simp![DenL]at h ⊢;obtain⟨v,r,e,q,l⟩:=h;exact#[v,r,e,S.den d v o s q,S.dens o s ds r l]
def Sts.one(B:Bs):Sts Unit:=#[λ_=>B,λ_ _=>True,λ_ H _ H'=>Same H H',λ_ _ _ _ s=>s,Same.trans,λ_=>trivial,λ_=>Same.kp,λd v _ s=>Den.mono s d v]
def JDP{α:Type}{l:List α}{j:Nat}(h:j<l.length):l.drop j=l[j]::l.drop (j+1):=List.drop_eq_getElem_cons h
def JFZ[Cool G]{τ:Type}(S:Sts τ){t0:τ}{elt iter target:Expr}{ifs:List Expr}{pos pos':Pos}{i:E}{U:Env}{xs:List Str}{ds:List D}{R:τ->List D->List D->Prop}{use:Option (Value->Sem Unit)}{Q:Vq}
  (g:Gk X (S.B t0) C CX XX G) (b:BlkOk X sc xs) (hi:PI X target iter (RI (S.B t0) C XX i)) (hs:∀x,foldedSetIterable iter X.env x=pure x)
  (hrun:∀Cc fp s0 H0,JBj (JAl X sc Cc (xs++mask xs 0 X.N) fp s0 H0) S Y xs.length U target elt ifs R)
  (I:Inv X yp Y H s) (hok:S.ok t0 H) (ok:Sok (S.B t0) Y H U) (hds:evI C i U=.ok ds) (hlen:ds.length<=16777216) (hz:R t0 ds [])
  (fin:∀(ys:List D) (D Cc:Addr) (s':Shared) (m:Mq) (t:τ) (H3:Hp) (yv:List V),s'.heap.Ns Cc m->Inv X yp Y (upd H3 D (.lst yv)) s'->S.st t0 H t H3->R t [] ys->H3 D=none->DenL (S.B t) H3 ys yv->(upd H3 D (.lst yv)) Cc=none->Cc≠X.env.locals->X.s₀.heap.objs.size<=Cc ->
    (∀x c,X.env.cells.lookup x=some c->c≠Cc)->(∀p∈X.pn++yp,p.1≠Cc)->compPost (model X.prog X.w) X.A X.xe use Q (.ref D) Cc (.ok .next) s') :
  wpAny (model X.prog X.w) X.A (comprehension (.ListComp elt [#[target,iter,ifs,0]] sc pos) sc X.env pos' (newList []) false (eval iter X.env) use) Q X.xe s:=by
 refine wpAny_comprehension_free rfl hs (b.clos I.ok) b.kind b.loc (wpAny_mono (hi yp s Y H (λJ H1=>Same H H1/\ItOk (S.B t0) J H1 ds) I #[U,ok,?_]) (λxv s₁ h₁=>wpAny_mono h₁ (λitv s₂ h₂=>?_) (λ_ _ e=>e)) (λ_ _ e=>e))
 ·rw[hds];exact λJ H' s' io=>#[s',io]
 obtain⟨it,fp,tn,J,H2,e,I2,T,st2,f2,sm2,io⟩:=h₂;subst e;have hlt:∀b∈fp,b<s₂.heap.objs.size:=λb hb=>by
  obtain⟨o,ho,_⟩:=T.obj 0 _ st2 b hb;exact q_h ho
 refine wpAny_newObj_type (wpAny_newFunctionEnv b.nocell (by intro y hy;simp at hy) (λh₁ hns₁ hsb₁=>?_) b.kind)
 dsimp only at hns₁ hsb₁ ⊢
 generalize hH2:s₂.heap.push { cls:=.type "list",dict:=none,data:=.seq ([]:List Value).toArray }=P2 at hns₁ hsb₁ ⊢;have hC:P2.objs.size=s₂.heap.objs.size+1:=by rw[<-hH2,Heap.size_push]
 have hCle:s₂.heap.objs.size<=P2.objs.size:=by rw[hC];exact Nat.le_succ _
 have hDC:s₂.heap.objs.size≠P2.objs.size:=by rw[hC];exact q_l (Nat.lt_succ_self _)
 have below:∀b,b<s₂.heap.objs.size->b≠P2.objs.size:=λb hb=>by rw[hC];exact q_l (Nat.lt_succ_of_lt hb)
 have old:∀b o,s₂.heap.get? b=some o->h₁.get? b=some o:=λb o e=>hsb₁.extBut b o (below b (q_h e)) (q_c _ (hH2▸q_c _ e));have hacc:h₁.get? s₂.heap.objs.size=some { cls:=.type "list",dict:=none,data:=.seq ([]:List Value).toArray }:=hsb₁.extBut _ _ hDC (q_c _ (hH2▸q_k _ rfl));have I4:=JHX (fp:=fp) (t':=s₂.toks+([]:List (Str×Value)).length) b (g.calm inferInstance) I2 f2 hlt hCle old hns₁;have st4:tn 0 h₁:=T.keep _ _ _ st2 λb _ o e=>old b o e;have ok2:=S.all (S.same t0 H H2 hok sm2);have hH2D:H2 s₂.heap.objs.size=none:=I2.hok.fresh (q_t _);have fpX:∀ {ps:Pq}{H':Hp},(∀b∈fp,H' b=none)->(∀p∈ps,p.1=s₂.heap.objs.size)->∀b∈fp,FpOk (JAl X sc P2.objs.size (xs++mask xs 0 X.N) fp s₂ H2) ps H' b:=λ{ps H'} hn hp a ha=>by
  refine#[hn a ha,below a (hlt a ha),I4.ok.exfs a ha,.inl ha,λx c e=>(I4.ok.exf a ha).2 x c e,λp hpp=>?_];have hpp':p∈ps:=hpp;rw[hp p hpp'];exact Nat.ne_of_gt (hlt a ha)
 have loop:∀s₃:Shared,s₃={ s₂ with heap:=h₁,toks:=s₂.toks+([]:List (Str×Value)).length } ->
    codeAny (model X.prog X.w) X.A (.compLoop (.ListComp elt [#[target,iter,ifs,0]] sc pos) 0 (.ref it) (.ref s₂.heap.objs.size) (JAl X sc P2.objs.size (xs++mask xs 0 X.N) fp s₂ H2).env)
      (compPost (model X.prog X.w) X.A X.xe use Q (.ref s₂.heap.objs.size) P2.objs.size) s₃:=by
  rintro s₃ rfl;refine JDY (λn s'=>∃(j:Nat) (t:τ) (pre:St) (H':Hp) (ys:List D) (yv:List V) (its:List Value) (ep:Nat),n=ds.length - j/\j<=ds.length/\pre.length=xs.length /\
    Inv (JAl X sc P2.objs.size (xs++mask xs 0 X.N) fp s₂ H2) [] (pre++Y) H' s'/\tn j s'.heap/\(∀b∈fp,H' b=none)/\S.st t0 H2 t H'/\H' s₂.heap.objs.size=none /\
    s'.heap.get? s₂.heap.objs.size=some { cls:=.type "list",data:=.seq its.toArray ep }/\Vals yv its/\DenL (S.B t) H' ys yv/\ys.length<=j/\R t (ds.drop j) ys) ?_ ds.length
    #[0,t0,xs.map (λ_=>none),H2,[],[],[],0,by simp,Nat.zero_le _,by simp,I4,st4,λb hb=>(f2 b hb).1,S.same t0 H2 H2 ok2 (Same.refl _),hH2D,hacc,.nil,by simp![DenL],q_t _,by simpa using hz]
  rintro n s3 ⟨j,t,pre,H3,ys,yv,its,ep,hn,hj,hpl,I3,st3,fr3,sm3,hD3,ho3,rv3,dn3,hyl,hr3⟩;subst hn;have I3p:Inv (JAl X sc P2.objs.size (xs++mask xs 0 X.N) fp s₂ H2) [(s₂.heap.objs.size,{ cls:=.type "list",data:=.seq its.toArray ep })] (pre++Y) H3 s3:=I3.pins_of λp hp=>by
    have e:p=(s₂.heap.objs.size,{ cls:=.type "list",data:=.seq its.toArray ep }):=by simpa using hp
    subst e;refine#[ho3,hD3,hDC,λhm=>?_,λv z=>?_]
    · obtain⟨_,o,ho,_⟩:=I4.ok.funs.mem hm
      exact absurd (q_h ho) (Nat.lt_irrefl _)
    · have z':Data.seq its.toArray ep=Data.cell v:=z
      cases z'
  have sameE:∀(e:Value) (s':Shared),noE e s'->notedBy (model X.prog X.w) X.A (JAl X sc P2.objs.size (xs++mask xs 0 X.N) fp s₂ H2).env (λe s'=>compPost (model X.prog X.w) X.A X.xe use Q (.ref s₂.heap.objs.size) P2.objs.size (.error e) s') e s':=λ_ _ z=>z.elim
  by_cases hlt3:j<ds.length
  ·
    have hd:ds[j]? = some ds[j]:=by simp[hlt3]
    obtain⟨go,yl⟩:=(io H3 (S.kp ok2 sm3) j).1 ds[j] hd;refine wpAny_mono (T.item (JAl X sc P2.objs.size (xs++mask xs 0 X.N) fp s₂ H2) rfl rfl rfl rfl j [(s₂.heap.objs.size,{ cls:=.type "list",data:=.seq its.toArray ep })] s3 (pre++Y) H3 noE I3p (fpX fr3 (λp hp=>by rw[List.mem_singleton.mp hp])) st3 go) (λr s4 h4=>?_) sameE
    obtain⟨u,hu,h4⟩:=h4;subst hu;show wpAny _ _ (letOwnedTupleGo target (.ref it) u) _ _ s4;refine wpAny_mono h4 (λ_ s5 h5=>?_) sameE;obtain⟨v,H5,I5,r5,y5,st5,fr5⟩:=h5;obtain⟨s35,d5⟩:Same H3 H5/\Den (S.B t) H5 ds[j] v:=by
      rcases yl v H5 y5 with ⟨e5,d5⟩|⟨p,ws,es,hp,e5,ex,ed,dl⟩
      · subst e5;exact#[Same.refl _,S.den _ _ ok2 sm3 d5]
      · subst e5;subst ex
        have s35:Same H3 (upd H3 p (.tup ws)):=JA0 hp;refine#[s35,?_];rw[ed];simp![Den];exact#[p,ws,rfl,SqT.of JAH,DenL.mono s35 _ _ (S.dens ok2 sm3 _ _ dl)]
    replace sm3:=S.trans sm3 (S.same _ _ _ (S.all sm3) s35)
    have ok5:=S.all sm3
    replace dn3:=DenL.mono s35 ys yv dn3
    have I5p:=I5.pinned (fpX fr5 (λp hp=>by rw[List.mem_singleton.mp hp])) (T.obj _ _ st5)
    rw[JDP hlt3]at hr3;have okY:Sok (S.B t) Y H5 U:=λi d e=>let ⟨v,e1,q⟩:=ok i d e;#[v,e1,S.den d v ok2 sm3 (Den.mono sm2 _ _ q)]
    have hstep:=hrun P2.objs.size fp s₂ H2 _ s5 pre H5 t ds[j] _ ys v u hpl hr3 ok5 I5p r5 d5 okY;refine wpAny_mono hstep (λ_ s6 h6=>wpAny_mono h6 (λokb s7 h7=>?_) sameE) sameE;have back:∀ {Y':St}{H':Hp}{s':Shared},Inv (JAl X sc P2.objs.size (xs++mask xs 0 X.N) fp s₂ H2) ([(s₂.heap.objs.size,{ cls:=.type "list",data:=.seq its.toArray ep })]++JFF fp s5.heap) Y' H' s' ->
        s'.heap.get? s₂.heap.objs.size=some { cls:=.type "list",data:=.seq its.toArray ep }/\H' s₂.heap.objs.size=none/\tn (j+1) s'.heap/\(∀b∈fp,H' b=none):=λ{Y' H' s'} J'=>by
      have p0:=J'.pin (s₂.heap.objs.size,{ cls:=.type "list",data:=.seq its.toArray ep }) (q_r _ (List.mem_append_left _ (by simp)))
      refine#[p0.1,p0.2.1,T.keep _ _ _ st5 λa ha o e=>(J'.pin (a,o) (q_r _ (q_r _ (JBu ha e)))).1,λa ha=>?_];obtain⟨o,e,_⟩:=T.obj _ _ st5 a ha;exact(J'.pin (a,o) (q_r _ (q_r _ (JBu ha e)))).2.1
    cases okb with
    |false =>
      obtain⟨t',pre',H',hr,hp',I',sm'⟩:=h7;obtain⟨b1,b2,b3,b4⟩:=back I';rw[if_neg Bool.false_ne_true];refine#[ds.length - (j+1),by omega,j+1,t',pre',H',ys,yv,its,ep,rfl,hlt3,hp',I'.pins_of (λp hp=>absurd hp (by simp)),b3,b4,S.trans sm3 sm',b2,b1,rv3,S.dens ok5 sm' ys yv dn3,by omega,hr]
    |true =>
      rw[if_pos rfl]at h7 ⊢;refine wpAny_mono h7 (λx s8 h8=>?_) sameE;obtain⟨t',y,pre',H',w',hr,hp',I',sm',rw8,d8⟩:=h8;obtain⟨b1,b2,b3,b4⟩:=back I';have hsz:its.length<=j:=by rw[<-rv3.length,<-DenL.len ys yv dn3];exact hyl
      have hlim:its.toArray.size<sizeLine:=by rw[q_f,sizeLine_eq];omega
      refine call_meets PySem.F.slot_list_append #[_,b1,rfl] PySem.F.entry_list_append (PySem.F.args_list_append_2 _ _) (PySem.list_append s₂.heap.objs.size its.toArray ep x ∅) #[b1,?_]
      have q8:=PySem.IsL.update b1 (λa=>a.push x);have q8':(s8.heap.update s₂.heap.objs.size (Obj.mapSeq (λa=>a.push x))).get? s₂.heap.objs.size=some { cls:=.type "list",data:=.seq (its++[x]).toArray (if (its.toArray.push x).size==its.toArray.size then ep else ep+1) }:=by simpa using q8
      have I0:Inv (JAl X sc P2.objs.size (xs++mask xs 0 X.N) fp s₂ H2) [] (pre'++Y) H' s8:=I'.pins_of (λp hp=>absurd hp (by simp))
      have I9:=I0.turned (h':=s8.heap.update s₂.heap.objs.size (Obj.mapSeq (λa=>a.push x))) (t':=s8.toks) (it:=s₂.heap.objs.size) (λb o hb e=>(Heap.get?_update_other _ _ (Ne.symm hb)).trans e) b2 hDC (.inr (q_t _))
        (λx c e z=>by
          obtain⟨v',o',ho',_⟩:=I2.cell x c ((JBP b I.ok).mp e).2;rw[z]at ho';exact absurd (q_h ho') (Nat.lt_irrefl _)) (λp hp=>absurd (show p∈([]:Pq) from hp) (by simp))
      refine#[ds.length - (j+1),by omega,j+1,t',pre',H',ys++[y],yv++[w'],its++[x],_,rfl,hlt3,hp',I9,T.keep _ _ _ b3 λa ha o e=>(Heap.get?_update_other _ _ (Nat.ne_of_gt (hlt a ha))).trans e,b4,S.trans sm3 sm',b2,q8',rv3.append (.cons rw8 .nil),
        DenL.append ys [y] yv [w'] (S.dens ok5 sm' ys yv dn3) (by simp![DenL];exact#[w',[],rfl,d8,rfl]),by rw[q_u,List.length_singleton];omega,hr]
  ·
    have ej:j=ds.length:=by omega
    have stop:=(io H3 (S.kp ok2 sm3) j).2 ∅
    refine wpAny_mono (T.done (JAl X sc P2.objs.size (xs++mask xs 0 X.N) fp s₂ H2) rfl rfl rfl rfl j [(s₂.heap.objs.size,{ cls:=.type "list",data:=.seq its.toArray ep })] s3 (pre++Y) H3 noE I3p (fpX fr3 (λp hp=>by rw[List.mem_singleton.mp hp])) st3 stop) (λr s4 h4=>?_) sameE
    obtain⟨hr,I5⟩:=h4;subst hr;show compPost _ _ _ _ _ _ _ _ s4;have p0:=I5.pin (s₂.heap.objs.size,{ cls:=.type "list",data:=.seq its.toArray ep }) (q_r _ (by simp))
    rw[ej,List.drop_length]at hr3;have u0:Un (frs X.stack) fp H2 H3 s₂.heap s4.heap:=I5.base;have neD:∀b o,s₂.heap.get? b=some o->b≠s₂.heap.objs.size:=λb o e=>q_l (q_h e);have nD:∀b o,H3 b=some o->b≠s₂.heap.objs.size:=λb o e z=>by rw[z,hD3]at e;cases e
    have u1:Un (frs X.stack) fp H2 (upd H3 s₂.heap.objs.size (.lst yv)) s₂.heap s4.heap :=
      #[u0.keep,u0.slot,λb o e n hx=>by rw[JAJ (neD b o e)];exact u0.free b o e n hx,u0.there,λb xs' e=>by rw[JAJ (nD b _ (u0.tups b xs' e))];exact u0.tups b xs' e,
        λb o u e=>by rw[JAJ (nD b _ (u0.frzs b o u e))];exact u0.frzs b o u e,λb ps e=>by
          obtain⟨more,q⟩:=u0.tbls b ps e;exact#[more,by rw[JAJ (nD b _ q)];exact q]]
    have hvl:yv.length<=sizeLine:=by rw[<-DenL.len ys yv dn3,sizeLine_eq];omega
    have hok1:HOk X.prog X.w (upd H3 s₂.heap.objs.size (.lst yv)) s4.heap:=λa u e=>by
      by_cases ha:a=s₂.heap.objs.size
      · subst ha
        rw[JAH]at e;cases e;exact#[hvl,its,ep,rv3,p0.1]
      · rw[JAJ ha]at e
        exact(I5.hok a u e).stay (λc w' _ q=>q) (λc q=>by rw[JAJ (nD c _ q)];exact q) λc xs' q=>by rw[JAJ (nD c _ q)];exact q
    have J:=I2.call' (s':=s4) I5.os u1 hok1 I5.bare λa ha=>#[(f2 a ha).2.2.2.1,(f2 a ha).2.1,(f2 a ha).2.2.2.2.1,(f2 a ha).2.2.2.2.2];obtain⟨m4,hn4,_⟩:=I5.loc;refine fin ys s₂.heap.objs.size P2.objs.size s4 m4 t H3 yv hn4 J (S.trans (S.same t0 H H2 hok sm2) sm3) hr3 hD3 dn3 ?_ ?_ ?_ ?_ ?_
    · rw[JAJ (Ne.symm hDC)];exact I5.free
    · exact Nat.ne_of_gt (q_m I2.lt hCle)
    · exact Nat.le_trans I2.sz hCle
    · intro x c e z
      obtain⟨v',o',ho',_⟩:=I2.cell x c e;rw[z]at ho';exact absurd (q_m (q_h ho') hCle) (Nat.lt_irrefl _)
    · intro p hp z
      exact absurd (q_m (q_h (I2.pin p hp).1) (by rw[z];exact hCle)) (Nat.lt_irrefl _)
 exact codeAny_compStart_list (loop _ rfl) (T.self _ _ _ _ _ st4 (loop _ rfl))
end
def JIt{a:Addr}(q:SqL B.K H a xs)(l:DenL B H ds xs):ItOk B (Itl B.K a) H ds:=by
 intro H2 s2 i;have q2:=s2.seq q;refine#[λd e=>?_,λh=>#[xs,q2,by rw[<-DenL.len ds xs l];exact h]]
 obtain⟨v,e1,dn⟩:=DenL.get ds xs i d l e;refine#[#[xs,v,q2,e1],λx H3 y=>?_];obtain⟨e3,y⟩:=y;have:=y xs q2;rw[e1]at this;cases this;exact .inl #[e3,dn]
def JLk{a:Addr}(q:SqT B.K H a xs)(l:DenL B H ds xs):ItOk B (Itt B.K a) H ds:=by
 intro H2 s2 i;have q2:=s2.tup q;refine#[λd e=>?_,λh=>#[xs,q2,by rw[<-DenL.len ds xs l];exact h]]
 obtain⟨v,e1,dn⟩:=DenL.get ds xs i d l e;refine#[#[xs,v,q2,e1],λx H3 y=>?_];obtain⟨e3,y⟩:=y;have:=y xs q2;rw[e1]at this;cases this;exact .inl #[e3,dn]
def JGd{lo hi:Int}:ItOk B (Itr lo (hi - lo).toNat) H (JDE lo hi):=by
 intro H2 s2 i;unfold JDE;refine#[λd e=>?_,λh=>show(hi - lo).toNat<=i by simpa using h]
 rw[List.getElem?_map]at e
 by_cases hi':i<(hi - lo).toNat
 ·rw[List.getElem?_range hi']at e;simp![Option.map_some,q_j]at e;refine#[hi',λx H3 y=>?_];obtain⟨e3,y⟩:=y;refine .inl #[e3,?_];rw[<-e,y];simp![Den]
 ·rw[List.getElem?_eq_none_iff.mpr (by simpa using hi')]at e
  cases e
section
variable{X:Cx}{B:Bs}{C:Cn}{CX:CXT}{XX:Nat->Hp->Prop}{G:List (Str×GK)}{a b c tg:Expr}{x y z:E}{pos p:Pos}
def JFJ(g:Gk X B C CX XX G)(ha:PE X a (RE B C XX x))(hi:∀U,evI C x U=(ev C x U).bind JA4):PI X tg a (RI B C XX x):=by
 rintro yp s Y H R I ⟨U,ok,k⟩;rw[hi]at k;cases q:ev C x U with
 |ok d =>
  rw[q]at k;cases d with
  |list ds =>
   refine JHs ha yp s Y H R I #[U,ok,?_];rw[q];intro v H1 s1 d1;simp![Den]at d1;obtain⟨p,xs,e,hq,l⟩:=d1;refine#[p,e,#[xs,g.K▸hq],?_];rw[g.K];exact k _ H1 s1 (JIt hq l)
  |tuple ds =>
   refine JP5 ha yp s Y H R I #[U,ok,?_];rw[q];intro v H1 s1 d1;simp![Den]at d1;obtain⟨p,xs,e,hq,l⟩:=d1;refine#[p,e,#[xs,g.K▸hq],?_];rw[g.K];exact k _ H1 s1 (JLk hq l)
  |_=>exact fF k
 |exc c =>
  rw[q]at k;refine JHs ha yp s Y H R I #[U,ok,?_];rw[q];exact k
 |bad=>rw[q]at k;exact k.elim
def JDB{i:Int}(h:small i=true):-(2 ^ 62)<=i/\i<2 ^ 62:=by
 unfold small at h;simp![q_i,q_D]at h;exact h
def JO9(h:ds.length=1):(∃j,ds=[.int j])\/rngD ds=.bad:=by
 cases ds with
 |nil=>cases h
 |cons a r =>
  cases q_B.mp (Nat.succ.inj h);cases a<;>first|exact .inr rfl|exact .inl ⟨_,rfl⟩
def JOM(h:ds.length=2):(∃i j,ds=[.int i,.int j])\/rngD ds=.bad:=by
 cases ds with
 |nil=>cases h
 |cons a r =>
  cases r with
  |nil=>cases h
  |cons b r =>
   cases q_B.mp (Nat.succ.inj (Nat.succ.inj h));cases a<;>first|exact .inr rfl|(cases b<;>first|exact .inr rfl|exact .inl ⟨_,_,rfl⟩)
def JP8(g:Gk X B C CX XX G)(hg:Gl X "range")(hm:X.mg "range"=none)(ha:PA X [a] (RA B C XX x))(hc:cnt x=1)(hs:starEach [a] X.env=[(false,eval a X.env)]):PI X tg (.Call (.Name "range" p) [a] [] pos) (RI B C XX (.rng x)):=by
 rintro yp s Y H R I ⟨U,ok,k⟩;refine JIL hg hm ha hs yp s Y H R I ?_;simp![evI]at k;refine#[U,ok,?_];cases q:evA C x U with
 |ok ds =>
  rw[q]at k;intro vs H1 s1 d1;have hl:=JCb x U ds q;rw[hc]at hl;rcases JO9 hl with ⟨j,rfl⟩|z
  rotate_left
  · rw[show VI.R.bind _ _=rngD ds from rfl,z]at k;exact fF k
  ·
    simp![VI.R.bind,rngD]at k
    split at k
    ·rename_i hsm;simp![DenL,Den]at d1;obtain⟨v,r,e,e1,e2⟩:=d1;subst e2;subst e;subst e1;obtain⟨b1,b2⟩:=JDB hsm;refine#[j,rfl,b1,b2,?_];have:=k (Itr 0 (j - 0).toNat) H1 s1 JGd;simpa using this
    ·exact k.elim
 |exc c=>rw[q]at k;exact k
 |bad=>rw[q]at k;exact k.elim
def JRt(g:Gk X B C CX XX G)(hg:Gl X "range")(hm:X.mg "range"=none)(ha:PA X [a,b] (RA B C XX x))(hc:cnt x=2)(hs:starEach [a,b] X.env=[(false,eval a X.env),(false,eval b X.env)])(hs2:starEach [b] X.env=[(false,eval b X.env)]) :
  PI X tg (.Call (.Name "range" p) [a,b] [] pos) (RI B C XX (.rng x)):=by
 rintro yp s Y H R I ⟨U,ok,k⟩;refine JJF hg hm ha hs hs2 yp s Y H R I ?_;simp![evI]at k;refine#[U,ok,?_];cases q:evA C x U with
 |ok ds =>
  rw[q]at k;intro vs H1 s1 d1;have hl:=JCb x U ds q;rw[hc]at hl;rcases JOM hl with ⟨i,j,rfl⟩|z
  rotate_left
  · rw[show VI.R.bind _ _=rngD ds from rfl,z]at k;exact fF k
  ·
    simp![VI.R.bind,rngD]at k
    split at k
    ·rename_i hsm;simp![q_i]at hsm;simp![DenL,Den]at d1;obtain⟨v,r,e,e1,v',r',e',e1',e2⟩:=d1;subst e2;subst e';subst e;subst e1;subst e1';obtain⟨b1,b2⟩:=JDB hsm.1;obtain⟨b3,b4⟩:=JDB hsm.2;exact#[i,j,rfl,#[b1,b2,b3,b4],k _ H1 s1 JGd]
    ·exact k.elim
 |exc c=>rw[q]at k;exact k
 |bad=>rw[q]at k;exact k.elim
end
def Ownb:HO->Prop
 |.lst _=>True
 |_=>False
def OwnO(B:Bs)(H:Hp):D->HO->Prop
 |.list ds,.lst xs=>DenL B H ds xs
 |_,_=>False
theorem OwnO.mono{B:Bs}{H H':Hp}(s:Same H H')(d:D)(o:HO)(h:OwnO B H d o):OwnO B H' d o:=by
 cases d<;>cases o<;>first|exact fF h|exact DenL.mono s _ _ h
def OwnO.b{B:Bs}{H:Hp}{d:D}{o:HO}(h:OwnO B H d o):Ownb o:=by
 cases d<;>cases o<;>first|exact fF h|exact trivial
def OwnO.den{B:Bs}{H:Hp}{d:List D}{o:HO}{a:Addr}(h:OwnO B H (.list d) o)(e:H a=some o):Den B H (.list d) (.ref a):=by
 cases o<;>first
  |exact fF h
  |(simp![Den];exact⟨a,_,rfl,SqL.of e,h⟩)
def OwnO.nl{B:Bs}{H:Hp}{d:D}{o:HO}(h:OwnO B H d o):JAW d=false:=by
 cases d with
 |list ds=>simp![JAW]
 |_=>cases o<;>exact fF h
def JD7{n:Nat}{it:Bool}{e:Expr}(h:JAO G n it names N e=some x)(env:PySem.Env)(v:Value):foldedSetIterable e env v=pure v:=by
 cases n with
 |zero=>simp[JAO,JAq,JAT]at h
 |succ n=>cases e<;>first|rfl|(cases it<;>simp[JAO,JAq,JAT,xOf,Option.bind_none,ite_self,xRaw,mOf,mRaw]at h)
def Gk.nox(g:Gk X B C CX XX G)(h1:X'.K=X.K)(h2:X'.A=X.A)(h3:X'.mg=X.mg)(h4:X'.prog=X.prog)(h5:X'.w=X.w)(h6:X'.base=X.base)(h7:X'.calm=true)
  (hp:JBd CX X' (EX B λ_ _=>False)):Gk X' B C CX (λ_ _=>False) G where
 K:=h1.trans g.K
 W:=h5.trans g.W
 anti:=λ_ _ _ _ z=>z
 units:=by rw[h2];exact g.units
 calm:=λ_=>h7
 fn:=by rw[h1,h2,h3,h4,h5,h6];exact g.fn
 pas:=hp
 con:=by rw[h3];exact g.con
 noexg:=g.noexg
 blt:=by rw[h3];exact g.blt
 rng:=by rw[h3];exact g.rng
 isi:=by rw[h3];exact g.isi
 ty:=by rw[h3];exact g.ty
 cls:=by rw[h3];exact g.cls
 nam:=by rw[h3];exact g.nam
 fld:=by rw[h1];exact g.fld
 mth:=by unfold MethP;rw[h1,h2,h3,h4,h5,h6];exact g.mth
theorem JCH{c:Nat}:∀ {ds:List D},JA5 f ds≠.exc c
 | []=>λh=>by unfold JA5 at h;cases h
 |x::xs=>λh=>by
  unfold JA5 at h;cases q:f x with
  |ok o =>
   rw[q]at h;cases o with
   |none=>exact JCH h
   |some y =>
    cases q2:JA5 f xs with
    |ok ys=>simp![q2]at h;cases h
    |exc c=>simp![q2]at h;cases h
    |bad=>simp![q2]at h;cases h
  |exc c=>rw[q]at h;cases h
  |bad=>rw[q]at h;cases h
section
variable{X:Cx}{B:Bs}{C:Cn}{CX:CXT}{XX:Nat->Hp->Prop}{G:List (Str×GK)}{a b c tg:Expr}{x y z:E}{pos p:Pos}
abbrev itemF(C:Cn)(k:Nat)(x y:E)(U:Env)(d:D):R (Option D):=(push k d U).bind λU1=>(evT C y U1).bind λt=>if t=true then (ev C x U1).bind λz=>.ok (some z) else .ok none
def JGg{d:D}(ok:Sok B Y H U)(dn:Den B H d v):Sok B (some v::Y) H (.val d::U):=by
 intro i d' e;cases i with
 |zero =>
  have:d=d':=by
   have e':(R.ok d:R D)=.ok d':=e;injection e'
  subst this;exact#[v,rfl,dn]
 |succ i=>exact ok i d' e
def Rp(F:D->R (Option D))(zs:List D):Unit->List D->List D->Prop:=λ_ ds ys=>∃rest,JA5 F ds=.ok rest/\zs=ys++rest
def JG9{n k:Nat}
  (hst:∀yp s pre H d v u U1,pre.length=n->push k d U=.ok U1->Inv X' yp (pre++Y) H s->RelV v u->Den B H d v->Sok B Y H U->wpAny (model X'.prog X'.w) X'.A (assign target X'.env u) (λ_ s2=>∃P:St,P.length=n/\Inv X' yp (P++Y) H s2/\Sok B (P++Y) H U1) noE s)
  (he:PE X' elt (RE B C (λ_ _=>False) x)) (hc:∀c,ifs=[c]->PT X' c (RT B C (λ_ _=>False) y)) (hifs:ifs=[]/\y=.cbl true\/∃c,ifs=[c]) (hxe:X'.xe=noE) :
  JBj X' (Sts.one B) Y n U target elt ifs (Rp (itemF C k x y U) zs):=by
 rintro yp s pre H _ d ds ys v u hpre ⟨rest,hR,hz⟩ _ I r dn ok;unfold JA5 at hR;cases qF:itemF C k x y U d with
 |exc c=>rw[qF]at hR;cases hR
 |bad=>rw[qF]at hR;cases hR
 |ok o =>
 rw[qF]at hR;unfold itemF at qF;cases qp:push k d U with
 |exc c=>rw[qp]at qF;cases qF
 |bad=>rw[qp]at qF;cases qF
 |ok U1 =>
 rw[qp]at qF;have hF':(evT C y U1).bind (λt=>if t=true then (ev C x U1).bind λz=>.ok (some z) else .ok none)=.ok o:=qF;refine thn (hst yp s pre H d v u U1 hpre qp I r dn ok) λ_ s2 h_=>?_;obtain⟨P,hlen,I2,ok1⟩:=h_;have elt_go:∀(s3:Shared) (H3:Hp) (t:Bool),Inv X' yp (P++Y) H3 s3->Same H H3->evT C y U1=.ok t ->
    (if t=true then wpAny (model X'.prog X'.w) X'.A (eval elt X'.env) (λxv s₄=>∃(t':Unit) (z:D) (pre':St) (H':Hp) (w:V),Rp (itemF C k x y U) zs t' ds (ys++[z])/\pre'.length=n/\Inv X' yp (pre'++Y) H' s₄/\Same H H'/\RelV w xv/\Den B H' z w) noE s3
      else ∃(t':Unit) (pre':St) (H':Hp),Rp (itemF C k x y U) zs t' ds ys/\pre'.length=n/\Inv X' yp (pre'++Y) H' s3/\Same H H'):=by
  intro s3 H3 t I3 s23 qt;rw[qt]at hF';cases t with
  |true =>
    rw[if_pos rfl];simp![R.bind,if_true]at hF';cases qx:ev C x U1 with
    |ok z =>
      simp![qx]at hF';have eo:o=some z:=by injection hF' with h;exact h.symm
      subst eo;cases qr:JA5 (itemF C k x y U) ds with
      |exc c=>simp![qr]at hR;cases hR
      |bad=>simp![qr]at hR;cases hR
      |ok rs =>
      simp![qr]at hR;have hr:z::rs=rest:=by injection hR
      have hh:=he yp s3 (P++Y) H3 (λw H'=>Same H3 H'/\Den B H' z w) I3 #[_,ok1.mono s23,by rw[qx];exact λw H' s' d'=>#[s',d']]
      rw[hxe]at hh;exact thn hh λx' s4 ⟨w,H',I4,rw4,s34,d4⟩=>#[(),z,P,H',w,#[rs,qr,by rw[hz,<-hr];simp],hlen,I4,s23.trans s34,rw4,d4]
    |exc c=>simp![qx]at hF';cases hF'
    |bad=>simp![qx]at hF';cases hF'
  |false =>
    rw[if_neg Bool.false_ne_true];simp![R.bind,q_v,if_false]at hF';have eo:o=none:=by injection hF' with h;exact h.symm
    subst eo;exact#[(),P,H3,#[rest,hR,hz],hlen,I3,s23]
 rcases hifs with ⟨e1,e2⟩|⟨c',e1⟩
 ·subst e1;subst e2;exact wpAny_tests_nil (elt_go s2 H true I2 (Same.refl _) (by simp![evT]))
 ·subst e1;refine wpAny_tests_one ?_;cases qt:evT C y U1 with
  |ok t =>
    have hh:=hc c' rfl yp s2 (P++Y) H (λt' H'=>t'=t/\Same H H') I2 #[_,ok1,by rw[qt];exact λH' s'=>#[rfl,s']]
    rw[hxe]at hh;refine thn hh λt' s3 h_=>?_;obtain⟨H3,I3,e3,s23⟩:=h_;subst e3;exact elt_go s3 H3 t' I3 s23 qt
  |exc c=>rw[qt]at hF';cases hF'
  |bad=>rw[qt]at hF';cases hF'
def JE2(hN0:X'.N.Nodup)(hN:X'.N[0]? = some nm)(hloc:X'.env.scope.names.lookup nm=some .local)(hxe:X'.xe=noE)(yp:Pq)(s:Shared)(pre:St)(H:Hp)(d:D)(v:V)(u:Value)(U1:Env)(hpre:pre.length=1)(hp:push 0 d U=.ok U1)(I:Inv X' yp (pre++Y) H s)(r:RelV v u)(dn:Den B H d v)(ok:Sok B Y H U):wpAny (model X'.prog X'.w) X'.A (assign (.Name nm px) X'.env u) (λ_ s2=>∃P:St,P.length=1/\Inv X' yp (P++Y) H s2/\Sok B (P++Y) H U1) noE s:=by
 obtain⟨p0,rfl⟩:∃p0,pre=[p0]:=by
  match pre,hpre with
  | [p0],_=>exact#[p0,rfl]
 have e:(.val d::U)=U1:=by injection hp
 subst e;have hst:=JC6 (X:=X') (pos:=px) hN0 hN (.inl hloc) (.inr hloc) yp s ([p0]++Y) H v u (λY' H'=>Y'=some v::Y/\H'=H) I r #[rfl,rfl];rw[hxe]at hst;refine thn hst λ_ s2 h_=>?_;obtain⟨Y2,H2,I2,e1,e2⟩:=h_;subst e1;subst e2;exact#[[some v],rfl,I2,JGg ok dn]
def JCk{e:Expr}(h:namesOf (e::r)=some xs):∃nm p ys,e=.Name nm p/\namesOf r=some ys/\xs=nm::ys:=by
 unfold namesOf at h
 split at h
 ·rename_i q;cases q
 ·rename_i q;cases q;obtain⟨ys,h1,h2⟩:=q_d.mp h;exact#[_,_,ys,rfl,h1,h2.symm]
 ·cases h
theorem JCg:∀ {ts:List Expr}{xs:List Str},namesOf ts=some xs->(assignEach ts env).findIdx? (·.1)=none/\(assignEach ts env).length=xs.length
 | [],xs,h=>by unfold namesOf at h;cases h;exact#[rfl,rfl]
 |e::r,xs,h=>by
  obtain⟨nm,p,ys,rfl,h1,rfl⟩:=JCk h;obtain⟨q1,q2⟩:=JCg (env:=env) h1;refine#[?_,by show(assignEach r env).length+1=_;rw[q2];rfl]
  show List.findIdx? (·.1) ((false,assign (.Name nm p) env)::assignEach r env)=none;rw[List.findIdx?_cons];simp[q1]
abbrev JD5:Nat->List V->St->St
 |_,[],Y=>Y
 |j,v::r,Y=>JD5 (j+1) r (Y.set j (some v))
theorem JC3:∀(vs:List V) (a pre Y:St),pre.length=vs.length->JD5 a.length vs (a++(pre++Y))=a++(vs.map some++Y)
 | [],a,pre,Y,h=>by
  have:pre=[]:=q_B.mp h;subst this;rfl
 |v::r,a,[],Y,h=>by cases h
 |v::r,a,p::pre,Y,h=>by
  simp![JD5];have e:(a++(p::pre++Y)).set a.length (some v)=(a++[some v])++(pre++Y):=by
   rw[List.set_append_right _ _ (q_t _),Nat.sub_self];simp
  rw[e,show a.length+1=(a++[some v]).length by simp,JC3 r (a++[some v]) pre Y (by simpa using h)]
  simp
theorem JGL(hN0:X'.N.Nodup):∀ {ts:List Expr}{xs:List Str}{j:Nat},namesOf ts=some xs->(∀(i:Nat) (nm:Str),xs[i]? = some nm->X'.N[j+i]? = some nm)->(∀nm∈xs,X'.env.scope.names.lookup nm=some .local)->PGs X' ts (λvs Y H Q=>vs.length=xs.length/\Q (JD5 j vs Y) H)
 | [],xs,j,h,_,_=>by
  unfold namesOf at h;cases h;rintro yp s Y H vs us Q I r ⟨e,q⟩;have ev:vs=[]:=q_B.mp e;subst ev;exact JIY yp s Y H [] us Q I r #[rfl,q]
 |e::r,xs,j,h,hN,hl=>by
  obtain⟨nm,p,ys,rfl,h1,rfl⟩:=JCk h;have hx:X'.env.scope.names.lookup nm=some .local:=hl nm (by simp)
  have ih:=JGL hN0 (j:=j+1) h1 (λi z e=>by have:=hN (i+1) z (by simpa using e);rw[show j+1+i=j+(i+1) by omega];exact this) (λz hz=>hl z (by simp[hz]))
  rintro yp s Y H vs us Q I rv ⟨e,q⟩;refine JGR (JC6 hN0 (hN 0 nm rfl) (.inl hx) (.inr hx)) ih rfl yp s Y H vs us Q I rv ?_
  match vs,e,q with
  |v::vr,e,q=>exact#[v,vr,rfl,by simpa using e,q]
theorem JDl:∀ {ds:List D}{vs:List V},Sok B Y H U->DenL B H ds vs->Sok B (vs.map some++Y) H (ds.map Sl.val++U)
 | [],vs,ok,dn=>by simp![DenL]at dn;subst dn;exact ok
 |d::ds,vs,ok,dn=>by
  simp![DenL]at dn;obtain⟨v,r,rfl,d1,d2⟩:=dn;exact JGg (JDl ok d2) d1
def JLU{kt:Nat}{pt:Pos}(hcalm:X'.calm=true)(hK:X'.K=B.K)(hx:namesOf ts=some xs)(hne:xs≠[])(hN0:X'.N.Nodup)(hN:∀(i:Nat) (nm:Str),xs[i]? = some nm->X'.N[i]? = some nm)(hloc:∀nm∈xs,X'.env.scope.names.lookup nm=some .local)(hxe:X'.xe=noE)(yp:Pq)(s:Shared)(pre:St)(H:Hp)(d:D)(v:V)(u:Value)(U1:Env)(hpre:pre.length=xs.length)(hp:push xs.length d U=.ok U1)(I:Inv X' yp (pre++Y) H s)(r:RelV v u)(dn:Den B H d v)(ok:Sok B Y H U):wpAny (model X'.prog X'.w) X'.A (assign (.Tuple ts kt pt) X'.env u) (λ_ s2=>∃P:St,P.length=xs.length/\Inv X' yp (P++Y) H s2/\Sok B (P++Y) H U1) noE s:=by
 obtain⟨ds,ed,hdl,e⟩:∃ds,d=.tuple ds/\ds.length=xs.length/\ds.map Sl.val++U=U1:=by
  obtain⟨n,hn⟩:∃n,xs.length=n+1:=#[xs.length - 1,by have:=List.length_pos_iff.mpr hne;omega]
  rw[hn]at hp ⊢;unfold push at hp;cases d<;>first|(cases hp;done)|skip
  rename_i ds;simp only at hp
  split at hp
  ·rename_i h;exact#[ds,rfl,h,by injection hp]
  ·cases hp
 subst ed;subst e;simp![Den]at dn;obtain⟨a,vs,rfl,sq,dl⟩:=dn;have hvl:=DenL.len ds vs dl;obtain⟨st1,st2⟩:=JCg (env:=X'.env) hx;have hst:=JL9 (X:=X') (pos:=pt) (k:=kt) hcalm (JGL (j:=0) hN0 hx (λi nm e=>by rw[Nat.zero_add];exact hN i nm e) hloc) st2 st1 yp s (pre++Y) H (.ref a) u (λY' H'=>Y'=vs.map some++Y/\H'=H) I r
  #[a,vs,rfl,by rw[hK];exact sq,by omega,by omega,by have:=JC3 vs [] pre Y ∅;simpa using this,rfl]
 rw[hxe]at hst;refine thn hst λ_ s2 h_=>?_;obtain⟨Y2,H2,I2,e1,e2⟩:=h_;subst e1;subst e2;exact#[vs.map some,by simp;omega,I2,JDl ok dl]
def REF(B:Bs)(C:Cn)(XX:Nat->Hp->Prop)(x:E):TE:=λY H Q=>∃U,Sok B Y H U/\(match ev C x U with
 |.ok d=>∀D ds xs H1,d=ds->Same H H1->H1 D=none->OwnO B H1 ds xs->Q (.ref D) (upd H1 D xs)
 |.exc c=>XX c H
 |.bad=>False)
def REF.of{e:Expr}(h:PE X e (REF B C XX x))(hl:∀U d,ev C x U=.ok d->∃ds,d=.list ds):PE X e (RE B C XX x) :=
 PE.imp h λY H Q h_=>by
  obtain⟨U,ok,k⟩:=h_;refine#[U,ok,?_];cases q:ev C x U with
  |ok d =>
   rw[q]at k;intro D ds xs H1 e s1 hD dn;refine k _ _ (s1.trans (JA0 hD)) ?_;subst e;obtain⟨ys,rfl⟩:=hl U _ q;exact(OwnO.mono (JA0 hD) _ xs dn).den JAH
  |exc c=>rw[q]at k;exact k
  |bad=>rw[q]at k;exact k
def JRw(g:Gk X B C CX XX G)(h:PA X es (RA B C XX x))(hl:cnt x<=1000):PE X (.List es pos) (REF B C XX (.lst x)) :=
 PE.imp (JIh h) λY H Q h_=>by
  obtain⟨U,ok,k⟩:=h_;simp![ev]at k;refine#[U,ok,?_];cases q:evA C x U with
  |ok ds =>
   rw[q]at k;intro vs H1 s1 d1;have e1:=DenL.len ds vs d1;have e2:=JCb x U ds q;exact#[by rw[sizeLine_eq];omega,λp hp=>k p _ (.lst vs) H1 rfl s1 hp d1]
  |exc c=>rw[q]at k;exact k
  |bad=>rw[q]at k;exact k.elim
def JGN[Cool G](g:Gk X B C CX XX G){sc:Scope}{k:Nat}(b:BlkOk X sc xs)(hi:PI X target iter (RI B C XX z))(hs:∀v,foldedSetIterable iter X.env v=pure v)
  (hrun:∀Cc fp s0 H0 Y U zs,JBj (JAl X sc Cc (xs++mask xs 0 X.N) fp s0 H0) (Sts.one B) Y xs.length U target elt ifs (Rp (itemF C k x y U) zs))
  {yp:Pq}{s:Shared}{Y:St}{H:Hp}{Q:VK}{pos':Pos}{use:Option (Value->Sem Unit)}{Q':Vq}(I:Inv X yp Y H s) (h:REF B C XX (.cmpr k x z y) Y H Q)
  (fin:∀(D Cc:Addr) (s':Shared) (m:Mq) (H':Hp),s'.heap.Ns Cc m->Inv X yp Y H' s'->Q (.ref D) H'->H' Cc=none->Cc≠X.env.locals->X.s₀.heap.objs.size<=Cc ->
    (∀x c,X.env.cells.lookup x=some c->c≠Cc)->(∀p∈X.pn++yp,p.1≠Cc)->compPost (model X.prog X.w) X.A X.xe use Q' (.ref D) Cc (.ok .next) s') :
  wpAny (model X.prog X.w) X.A (comprehension (.ListComp elt [#[target,iter,ifs,0]] sc pos) sc X.env pos' (newList []) false (eval iter X.env) use) Q' X.xe s:=by
 obtain⟨U,ok,kk⟩:=h;simp![ev]at kk;cases q:evI C z U with
 |ok ds =>
  simp![q,R.bind]at kk
  split at kk
  · rename_i d hd
    split at hd
    · rename_i hlen
      cases qz:JA5 (itemF C k x y U) ds with
      |ok zs =>
       have qz':=qz;unfold itemF at qz';simp![R.bind]at qz';rw[qz']at hd;have hd':PyData.list zs=d:=by injection hd
       refine JFZ (Sts.one B) (t0:=()) g b hi hs (λCc fp s0 H0=>hrun Cc fp s0 H0 Y U zs) I trivial ok q hlen #[zs,qz,rfl] ?_;rintro ys D Cc s' m t H3 yv hn J sm ⟨rest,e0,e1⟩ hD dn h1 h2 h3 h4 h5;have e0:rest=[]:=by unfold JA5 at e0;injection e0 with e0;exact e0.symm
       rw[e0,List.append_nil]at e1;subst e1;exact fin D Cc s' m _ hn J (kk D _ (.lst yv) H3 hd'.symm sm hD dn) h1 h2 h3 h4 h5
      |exc c=>exact(JCH qz).elim
      |bad=>unfold itemF at qz;simp![R.bind]at qz;rw[qz]at hd;cases hd
    · cases hd
  · rename_i c hd
    exfalso
    split at hd
    · cases qz:JA5 (itemF C k x y U) ds with
      |ok zs=>unfold itemF at qz;simp![R.bind]at qz;rw[qz]at hd;cases hd
      |exc c=>exact(JCH qz).elim
      |bad=>unfold itemF at qz;simp![R.bind]at qz;rw[qz]at hd;cases hd
    · cases hd
  · exact kk.elim
 |exc c =>
  simp![q,R.bind]at kk;refine wpAny_comprehension_free rfl hs (b.clos I.ok) b.kind b.loc (wpAny_mono (hi yp s Y H (λ_ _=>False) I #[U,ok,by rw[q];exact kk]) (λxv s₁ h₁=>wpAny_mono h₁ (λitv s₂ h₂=>?_) (λ_ _ e=>e)) (λ_ _ e=>e))
  obtain⟨_,_,_,_,_,_,_,_,_,_,f⟩:=h₂;exact f.elim
 |bad=>simp![q,R.bind]at kk
def JH8[Cool G](g:Gk X B C CX XX G){sc:Scope}{k:Nat}(b:BlkOk X sc xs)(hi:PI X target iter (RI B C XX z))(hs:∀v,foldedSetIterable iter X.env v=pure v)
  (hrun:∀Cc fp s0 H0 Y U zs,JBj (JAl X sc Cc (xs++mask xs 0 X.N) fp s0 H0) (Sts.one B) Y xs.length U target elt ifs (Rp (itemF C k x y U) zs)) :
  PE X (.ListComp elt [#[target,iter,ifs,0]] sc pos) (REF B C XX (.cmpr k x z y)):=by
 intro yp s Y H Q I h;rw[eval_ListComp];refine JGN (use:=none) g b hi hs hrun I h ?_;intro D Cc s' m H' hn J hq h1 h2 h3 h4 h5;refine#[m,hn,λh' hsb=>?_];have J':=J.turned (h':=h') (t':=s'.toks) (it:=Cc) (λb o hb e=>(hsb.2 b hb).trans e) h1 h2 (.inr h3) h4 h5;exact#[.ref D,H',J',rfl,hq]
def JKZ[Cool G](g:Gk X B C CX XX G){sc:Scope}{k i:Nat}(b:BlkOk X sc xs)(hi:PI X target iter (RI B C XX z))(hs:∀v,foldedSetIterable iter X.env v=pure v)
  (hrun:∀Cc fp s0 H0 Y U zs,JBj (JAl X sc Cc (xs++mask xs 0 X.N) fp s0 H0) (Sts.one B) Y xs.length U target elt ifs (Rp (itemF C k x y U) zs))
  (hsw:swapsWith (.ListComp elt [#[target,iter,ifs,0]] sc pos) (some (.Name nm px)) spos.line X.env=pure true) (hnd:X.N.Nodup) (hN:X.N[i]? = some nm) (hloc:X.env.scope.names.lookup nm=some .local) :
  PS X (.Assign [.Name nm px] (.ListComp elt [#[target,iter,ifs,0]] sc pos) spos) (tAsg (REF B C XX (.cmpr k x z y)) (JEn i)):=by
 intro yp s Y H D I h;rw[exec_Assign_Name_used _ _ _ _ hsw];refine q_b (wpAny_standAt (q_b ?_));show wpAny _ _ (do let _<-comprehension (.ListComp elt [⟨target,iter,ifs,0⟩] sc pos) sc X.env _ (newList []) false (eval iter X.env) (some (assign (.Name nm px) X.env))) _ _ s
 refine q_b (wpAny_mono (JGN (use:=some (assign (.Name nm px) X.env)) (Q':=λ_ s'=>SP X yp D .next s') g b hi hs hrun I h ?_) (λ_ s' hq=>q_e (q_e hq)) λ_ _ e=>e);intro Da Cc s' m H' hn J hq h1 h2 h3 h4 h5;show wpAny _ _ (assign (.Name nm px) X.env (.ref Da)) _ _ s';refine wpAny_assign_Name (JFR J hnd hN (.inl hloc) (v:=.ref Da) rfl (λs2 J2 hch=>?_) (.inr hloc));obtain⟨a,sb,ha⟩:=hch;have hne:Cc≠a:=by
  rcases ha with z|z
  · rw[z];exact h2
  · exact λe=>h4 nm a z e.symm
 refine#[m,hn.sameBut sb hne,λh' hsb=>?_];exact#[_,H',J2.turned (h':=h') (t':=s2.toks) (it:=Cc) (λb o hb e=>(hsb.2 b hb).trans e) h1 h2 (.inr h3) h4 h5,hq]
end
def JM9{sc:Scope}(hk:X.env.scope.kind=.function)(hn:X.env.scope.names=names)(hN:X.N=N)(hs:sc.kind=.function)(h:JBW names sc.names xs N=true):BlkOk X sc xs:=by
 subst hn;subst hN;unfold JBW at h;simp![q_i,List.all_eq_true]at h;obtain⟨⟨⟨⟨h1,h2⟩,h3⟩,h4⟩,h5⟩:=h;refine#[hs,λy hy=>?_,λy hy hl=>?_,λn hm=>?_,λx hx=>?_,λy hy hx=>?_,λi hi hv=>?_,of_decide_eq_true h5]
 ·have:=(h1 y hy).1.1;intro e;rw[e]at this;simp at this
 ·have:=(h1 y hy).1.2;rw[hl]at this;simpa using this
 ·have:=(h1 (n,.free) hm).2;simpa[PySem.Env.kindOf] using this
 ·simpa using h2 x hx
 ·have:=h3 y hy;simp![Bool.or_eq_true,bne_iff_ne,ne_eq]at this;rcases this with e|e
  ·exact absurd (by simpa using e) hx
  ·exact e
 ·have:=h4 i (List.mem_range.mpr hi);unfold Vis at hv;rw[JAr hk]at hv;rcases hv with e|e|e<;>(rw[e]at this;simp[vis]at this)
section
variable{X:Cx}{B:Bs}{C:Cn}{CX:CXT}{XX:Nat->Hp->Prop}{G:List (Str×GK)}{pos p:Pos}{names:Nq}{N:List Str}{n:Nat}
theorem allA(g:Gk X B C CX XX G)(ih:∀e x,JAO G n false names N e=some x->PE X e (RE B C XX x)):∀ {es:List Expr}{x:E},JAN (JAO G n false names N) es=some x->PA X es (RA B C XX x)
 | [],x,h=>by unfold JAN at h;cases h;exact a_nil
 |e::es,x,h=>by
  unfold JAN at h;obtain⟨a,h1,h⟩:=q_a.mp h;obtain⟨b,h2,h⟩:=q_a.mp h;cases h;exact JRr g (ih e a h1) (allA g ih h2) (JAb h1 es X.env)
theorem JMi(g:Gk X B C CX XX G)(ih:∀e x,JAO G n false names N e=some x->PE X e (RE B C XX x)/\PT X e (RT B C XX x)):∀ {es:List Expr}{x:E},JA3 .and (JAO G n false names N) es=some x ->
  PE X (.BoolOp .And es pos) (RE B C XX x)/\PW X (.BoolOp .And es pos) (RT B C XX x)
 | [],x,h=>by unfold JA3 at h;cases h
 | [e],x,h=>by
  unfold JA3 at h;exact#[JL5 (ih e x h).1,JOI (ih e x h).2]
 |e::e'::es,x,h=>by
  unfold JA3 at h;obtain⟨a,h1,h⟩:=q_a.mp h;obtain⟨b,h2,h⟩:=q_a.mp h;cases h;obtain⟨q1,q2⟩:=JMi g ih h2;exact#[s_and g (ih e a h1).1 q1,w_and g (ih e a h1).2 q2]
theorem JR0(g:Gk X B C CX XX G)(ih:∀e x,JAO G n false names N e=some x->PE X e (RE B C XX x)/\PT X e (RT B C XX x)):∀ {es:List Expr}{x:E},JA3 .or (JAO G n false names N) es=some x ->
  PE X (.BoolOp .Or es pos) (RE B C XX x)/\PW X (.BoolOp .Or es pos) (RT B C XX x)
 | [],x,h=>by unfold JA3 at h;cases h
 | [e],x,h=>by
  unfold JA3 at h;exact#[JL5 (ih e x h).1,JML (ih e x h).2]
 |e::e'::es,x,h=>by
  unfold JA3 at h;obtain⟨a,h1,h⟩:=q_a.mp h;obtain⟨b,h2,h⟩:=q_a.mp h;cases h;obtain⟨q1,q2⟩:=JR0 g ih h2;exact#[s_or g (ih e a h1).1 q1,w_or g (ih e a h1).2 q2]
def JA6{x:Str}{k:GK}(h:glob G names x=some k):JAR x=false/\names.lookup x=some .globalImplicit/\G.lookup x=some k:=by
 unfold glob at h
 split at h
 ·cases h
 ·rename_i hb
  split at h
  ·rename_i hg;exact#[by simpa using hb,hg,h]
  ·cases h
def JFS(hn:X.env.scope.names=names)(h:vis (names.lookup x)=true):Vis X.env.scope x:=by
 unfold Vis;rw[hn];cases q:names.lookup x with
 |none=>rw[q]at h;cases h
 |some k=>cases k<;>simp_all [vis]
def JB6(hn:X.env.scope.names=names)(h:names.lookup x=some .globalImplicit):Gl X x:=by
 show X.env.scope.names.lookup x=_;rw[hn];exact h
def JGB{d d' r:D}(h:cmpD op d d'=.ok r):∃k,r=.bool k:=by
 cases op<;>simp![cmpD]at h<;>(repeat' split at h)<;>first|(cases h;exact⟨_,rfl⟩)|cases h
def JF0{d:D}(h:ev C (.cmp op x y) U=.ok d):∃k,d=.bool k:=by
 simp![ev]at h;cases q:ev C x U with
 |ok dx =>
  cases q2:ev C y U with
  |ok dy=>rw[q,q2]at h;exact JGB h
  |exc c=>rw[q,q2]at h;cases h
  |bad=>rw[q,q2]at h;cases h
 |exc c=>rw[q]at h;cases h
 |bad=>rw[q]at h;cases h
end
end VI
end
section
namespace VI
open PySem PySem.Spec PyProof.Rows L2
section
variable{X:Cx}{B:Bs}{C:Cn}{CX:CXT}{XX:Nat->Hp->Prop}{G:List (Str×GK)}{a b c:Expr}{x y z:E}{pos p:Pos}
def JP6(n d:Nat)(o:Option Int):sI n d o=HT.sIx n d o:=by cases o<;>rfl
def JEF{e:Option Expr}{o:Option Int}(h:JDN e=some o):∃t,PO X e t/\∀Y H Q,Q o H->t Y H Q:=by
 unfold JDN at h
 split at h
 ·cases h;exact#[_,JNO,λY H Q q=>q]
 ·cases h;exact#[_,JIW JIT,λY H Q q=>#[_,rfl,q]]
 ·cases h;exact#[_,JIW (JPa JLr JIT),λY H Q q=>#[_,rfl,_,rfl,q]]
 ·cases h
theorem DenL.drop{H:Hp}:∀(n:Nat) (ds:List D) (vs:List V),DenL B H ds vs->DenL B H (ds.drop n) (vs.drop n)
 |0,ds,vs,h=>h
 |n+1,[],vs,h=>by simp![DenL]at h;subst h;simp![List.drop_nil,DenL]
 |n+1,d::ds,vs,h=>by
  simp![DenL]at h;obtain⟨v,r,e,q,l⟩:=h;subst e;exact DenL.drop n ds r l
theorem DenL.take:∀(n:Nat) (ds:List D) (vs:List V),DenL B H ds vs->DenL B H (ds.take n) (vs.take n)
 |0,ds,vs,h=>by simp![List.take_zero,DenL]
 |n+1,[],vs,h=>by simp![DenL]at h;subst h;simp![List.take_nil,DenL]
 |n+1,d::ds,vs,h=>by
  simp![DenL]at h;obtain⟨v,r,e,q,l⟩:=h;subst e;simp![List.take_succ_cons,DenL];exact#[v,_,rfl,q,DenL.take n ds r l]
def DenL.cut(h:DenL B H ds vs)(lo hi:Option Int):DenL B H (cutD ds lo hi) (cutV vs lo hi):=by
 unfold cutD cutV;have e:=DenL.len _ _ h;simp![JP6,e];exact DenL.take _ _ _ (DenL.drop _ _ _ h)
def JJq{lo hi:Option Int}(h:HT.sIx xs.length 0 lo=0/\HT.sIx xs.length xs.length hi=xs.length):cutD xs lo hi=xs:=by
 unfold cutD;simp![JP6,h.1,h.2];simp
def JBA{H:Hp}{q:Addr}{o:HO}(h:H q=none):Same H (upd H q o):=λb u e=>by rw[JAJ (JAU e h)];exact e
theorem JIF:∀ {vs:List V}{us:List Value},Vals vs us->Vals vs.reverse us.reverse
 | [],us,h=>by cases h;exact .nil
 |v::vs,us,h=>by
  cases h with
  |cons r1 r2 =>
   simp![List.reverse_cons];exact(JIF r2).append (.cons r1 .nil)
theorem JIZ:∀(ds:List D) (vs:List V),DenL B H ds vs->DenL B H ds.reverse vs.reverse
 | [],vs,h=>by simp![DenL]at h;subst h;simp![List.reverse_nil,DenL]
 |d::ds,vs,h=>by
  simp![DenL]at h;obtain⟨v,r,e,q,l⟩:=h;subst e;simp![List.reverse_cons];refine DenL.append _ _ _ _ (JIZ ds r l) ?_;simp![DenL];exact#[v,[],rfl,q,rfl]
def JEZ(its:List Value):slicePick its.toArray none none (some (-1))=its.reverse.toArray:=by
 have hr:sliceRange ((its.length:Int) - 1) (-1) (-1)=(List.range its.length).reverse:=by
  unfold sliceRange;have hc:(if (-1:Int) > 0 then (if (its.length:Int) - 1 < -1 then (-1 - ((its.length:Int) - 1) + -1 - 1) / -1 else 0) else (if (its.length:Int) - 1 > -1 then ((its.length:Int) - 1 - -1 - -1 - 1) / (-(-1)) else 0)).toNat=its.length:=by
   rw[if_neg (by decide)]
   by_cases h:(its.length:Int) - 1 > -1
   ·rw[if_pos h];simp
   ·rw[if_neg h];omega
  simp![hc];refine List.ext_getElem (by simp) λi h1 h2=>?_
  simp at h1;simp[List.getElem_reverse];omega
 have hp:=pick_run its.toArray 0 its.length;simp![Nat.zero_add,List.map_id',List.drop_zero,List.take_length]at hp;unfold slicePick;have hb:sliceBounds none none (some (-1)) its.toArray.size=((its.length:Int) - 1, -1, -1):=by
  simp[sliceBounds]
 rw[hb];simp only;rw[hr,List.filterMap_reverse,hp]
def s_rev(g:Gk X B C CX XX G)(hs:JJf i=true)(ha:PE X a (RE B C XX x)):PE X (.Subscript a i pos) (RE B C XX (.fn1 .rev x)):=by
 unfold JJf at hs
 split at hs
 ·rename_i j p1 p2 p3;rintro yp s Y H Q I ⟨U,ok,k⟩;simp![ev]at k;refine Subscript_ (thn (ha yp s Y H (λv H1=>∃q us ds,v=.ref q/\SqL X.K H1 q us/\Same H H1/\DenL B H1 ds us/\KE B XX (.ok (.list ds.reverse)) H1 Q) I ?_) λv s1 ⟨x1,H1,I1,r1,q,us,ds,e1,sq,sm,dn,k1⟩=>?_)
  ·refine RE.of (W:=λr H=>KE B XX r H Q) ok (λ_ _ z=>z) (λ_ z=>z) k λd v H1 s1 d1 h1=>?_;cases d<;>first|exact fF h1|skip
   simp![Den]at d1;obtain⟨q,us,e1,sq,l⟩:=d1;exact#[q,us,_,e1,g.K▸sq,s1,l,KE.mono g s1 h1]
  ·subst e1;cases r1;obtain⟨its,rv,pl,hz⟩:=I1.list sq;obtain⟨ts,ps,qs⟩:=JEF (X:=X) (show JDN (some (.UnaryOp .USub (.Constant (.int 1) j p1) p2))=some (some (-1)) from rfl);refine wpAny_Slice ?_;rw[evalPart_none];refine q_e ?_;refine q_e ?_;refine thn (ps yp s1 Y H1 (λst H2=>st=some (-1)/\H2=H1) I1 (qs _ _ _ #[rfl,rfl])) λvst s2 h_=>?_;obtain⟨st,H2,I2,pst,e2,e3⟩:=h_;subst e2;subst e3;have I3:Inv X yp Y H2 { s2 with heap:=s2.heap.push { cls:=.type "slice",data:=.fields (List.toArray [Value.none,Value.none,vst]) } }:=I2.kept (t':=s2.toks) λb ob q=>q_c _ q
   obtain⟨its2,rv2,pl2,hz2⟩:=I3.list sq;have hl:=rv2.length;refine tail_any (ops:=[.ref q,.ref s2.heap.objs.size]) (T:="list") pl2.isList.typeIs list_getitem_lookup ?_ (by with_unfolding_all rfl)
   refine wpAny_getItem_list_slice (lo:=none) (hi:=none) (st:=some (-1)) pl2.isList (Heap.IsSliceOf.new ..) .none .none pst (by decide) ?_ (by rw[q_f,<-hl];exact hz2)
   rw[JEZ];refine#[.ref _,_,I3.lnew (t':=s2.toks) (JIF rv2) (by rw[List.length_reverse];exact hz2),rfl,?_]
   have hf:=I3.fresh;have sm2:Same H2 (upd H2 (s2.heap.push { cls:=.type "slice",data:=.fields (List.toArray [Value.none,Value.none,vst]) }).objs.size (.lst us.reverse)):=JBA hf;refine k1 _ _ sm2 ?_;simp![Den];exact#[_,_,rfl,SqL.of JAH,DenL.mono sm2 _ _ (JIZ _ _ dn)]
 ·cases hs
def JNX(g:Gk X B C CX XX G){lo hi:Option Int}(hs:sliceOf i=some (lo,hi))(ha:PE X a (RE B C XX x)):PE X (.Subscript a i pos) (RE B C XX (.fn1 (.slice lo hi) x)):=by
 unfold sliceOf at hs
 split at hs
 ·rename_i l h p2;obtain⟨l',h1,hs⟩:=q_a.mp hs;obtain⟨h',h2,hs⟩:=q_a.mp hs;cases hs;obtain⟨tl,pl,ql⟩:=JEF (X:=X) h1;obtain⟨th,ph,qh⟩:=JEF (X:=X) h2;refine PE.imp (JLH (SlR.or (SlR.or JQr JNn) JN9) ha pl ph) λY H Q h_=>?_;obtain⟨U,ok,k⟩:=h_;simp![ev]at k;refine RE.of (W:=λr H=>KE B XX r H Q) ok (λ_ _ z=>z) (λ_ z=>z) k λd v H1 s1 d1 h1=>?_;refine ql _ _ _ (qh _ _ _ ?_);have h1:=KE.mono g s1 h1;cases d<;>first|exact fF h1|skip
  ·rename_i ds;simp![Den]at d1;obtain⟨q,vs,e,sq,l⟩:=d1;refine .inr #[q,vs,e,g.K▸sq,λp' hp=>?_];have sm:Same H1 (upd H1 p' (.lst (cutV vs lo hi))):=JBA hp;refine h1 _ _ sm ?_;simp![Den];exact#[p',_,rfl,SqL.of JAH,DenL.mono sm _ _ (DenL.cut l lo hi)]
  ·rename_i ds;simp![Den]at d1;obtain⟨q,vs,e,sq,l⟩:=d1;have el:=DenL.len _ _ l
   by_cases hw:HT.sIx vs.length 0 lo=0/\HT.sIx vs.length vs.length hi=vs.length
   ·refine .inl (.inr #[q,vs,e,g.K▸sq,hw,?_]);refine h1 _ _ (Same.refl H1) ?_;rw[JJq (by rw[el];exact hw)]
    subst e;simp![Den];exact#[q,vs,rfl,sq,l]
   ·refine .inl (.inl #[q,vs,e,g.K▸sq,hw,λp' hp=>?_]);have sm:Same H1 (upd H1 p' (.tup (cutV vs lo hi))):=JBA hp;refine h1 _ _ sm ?_;simp![Den];exact#[p',_,rfl,SqT.of JAH,DenL.mono sm _ _ (DenL.cut l lo hi)]
 ·cases hs
def JQ1(g:Gk X B C CX XX G)(ho:o1Of ty=some o)(hf:JBD ty=some f)(hg:Gl X f)(hl:G.lookup f=some (.ty ty))(hb:JAR f=false)(ha:PE X a (RE B C XX x))
  (he:starEach [a] X.env=[(false,eval a X.env)]):PE X (.Call (.Name f p) [a] [] pos) (RE B C XX (.fn1 o x)):=by
 have key:∀ {T:String}{r:List V->Hp->VK->Prop},JBl X (.type T) r->bootBuiltins f=some (.type T) ->
    (∀d v H Q,Den B H d v->KE B XX (op1D o d) H Q->r [v] H Q)->PE X (.Call (.Name f p) [a] [] pos) (RE B C XX (.fn1 o x)):=λ{T r} hc hv hr=>by
  refine PE.imp (JCv (es:=[]) hc hg (g.ty f ty hl) hv (JBF ha JBe he) (JAA hb).2.2 (JAA hb).1 he rfl) λY H Q h_=>?_;obtain⟨U,ok,k⟩:=h_;simp![ev]at k;refine RE.of (W:=λr H=>KE B XX r H Q) ok (λ_ _ z=>z) (λ_ z=>z) k λd v H1 s1 d1 h1=>?_;exact hr d v H1 Q d1 (KE.mono g s1 h1)
 cases ty<;>simp![o1Of,q_j,reduceCtorEq]at ho
 ·subst ho;simp![JBD,q_j]at hf;subst hf;refine key JEh (by decide +kernel) λd v H Q dn k=>?_
  cases d<;>first|exact fF k|skip
  · simp![Den]at dn
    obtain⟨q,vs,e,sq,l⟩:=dn;subst e;refine#[q,vs,rfl,.inl (g.K▸sq),λp' hp=>?_];have sm:Same H (upd H p' (.lst vs)):=JBA hp;refine k _ _ sm ?_;simp![Den];exact#[p',_,rfl,SqL.of JAH,DenL.mono sm _ _ l]
  · simp![Den]at dn
    obtain⟨q,vs,e,sq,l⟩:=dn;subst e;refine#[q,vs,rfl,.inr (g.K▸sq),λp' hp=>?_];have sm:Same H (upd H p' (.lst vs)):=JBA hp;refine k _ _ sm ?_;simp![Den];exact#[p',_,rfl,SqL.of JAH,DenL.mono sm _ _ l]
 ·subst ho;simp![JBD,q_j]at hf;subst hf;refine key JEX (by decide +kernel) λd v H Q dn k=>?_
  cases d<;>first|exact fF k|skip
  · simp![Den]at dn
    obtain⟨q,vs,e,sq,l⟩:=dn;subst e;refine#[q,vs,rfl,.inl #[g.K▸sq,λp' hp=>?_]];have sm:Same H (upd H p' (.tup vs)):=JBA hp;refine k _ _ sm ?_;simp![Den];exact#[p',_,rfl,SqT.of JAH,DenL.mono sm _ _ l]
  · have dn':=dn
    simp![Den]at dn;obtain⟨q,vs,e,sq,l⟩:=dn;subst e;exact#[q,vs,rfl,.inr #[g.K▸sq,KE.ok k dn']]
theorem JDb:∀ {ys:List D}{d:D},allD ys=.ok d->∃bs:List Bool,ys=bs.map PyData.bool/\d=.bool (bs.all id)
 | [],d,h=>by simp![allD]at h;cases h;exact#[[],rfl,rfl]
 |y::r,d,h=>by
  cases y<;>simp![allD,reduceCtorEq]at h;rename_i b
  split at h
  ·rename_i c e;cases h;obtain⟨bs,h1,h2⟩:=JDb e;refine#[b::bs,by rw[h1];rfl,?_]
   simp![PyData.bool.injEq]at h2;simp![List.all_cons,id,h2]
  ·cases h
def JKi:∀ {ys:List D}{c:Nat},allD ys≠.exc c
 | [],c=>by simp![allD];intro h;cases h
 |y::r,c=>by
  cases y<;>simp![allD]<;>first|(intro h;cases h;done)|skip
  split<;>(intro h;cases h)
theorem JDp:∀ {bs:List Bool}{vs:List V},DenL B H (bs.map PyData.bool) vs->vs=bs.map V.bl
 | [],vs,h=>by simpa only[List.map_nil,DenL] using h
 |b::bs,vs,h=>by
  simp![List.map_cons,DenL,Den]at h;obtain⟨v,r,e,q,l⟩:=h;subst e;subst q;rw[JDp l];rfl
theorem JDg:∀ {bs:List Bool}{us:List Value},Vals (bs.map V.bl) us->us=bs.map Value.bool
 | [],us,h=>by cases h;rfl
 |b::bs,us,h=>by
  cases h with
  |cons r1 r2 =>
   cases r1;rw[JDg r2];rfl
def all_range(bs:List Bool):((List.range bs.length).all λi=>bs.getD i false)=bs.all id:=by
 rw[Bool.eq_iff_iff];simp![List.all_eq_true,List.mem_range,id];constructor
 ·intro h b hb;obtain⟨i,hi,e⟩:=List.getElem_of_mem hb;have:=h i hi;rw[List.getD_eq_getElem?_getD,q_q hi]at this;simpa[e] using this
 ·intro h i hi;rw[List.getD_eq_getElem?_getD,q_q hi];exact h _ (List.getElem_mem hi)
def JJP[Cool G](g:Gk X B C CX XX G):JBl X (.builtin "all") (λvs H Q=>∃ds,DenL B H ds vs/\KE B XX (bltD .all ds) H Q):=by
 rintro yp s Y H vs us Q I r ⟨ds,dn,k⟩
 match ds,dn,k with
 | [.list ys],dn,k =>
  simp![DenL,Den]at dn;obtain⟨v,r1,e,⟨a,xs,e1,hq,dl⟩,e2⟩:=dn;subst e2;subst e1;subst e;cases r with
  |cons ra rb =>
   cases rb;cases ra;rw[<-g.K]at hq;obtain⟨its,rv,p,hz⟩:=I.list hq;simp![bltD]at k;cases hk:allD ys with
   |ok d =>
    rw[hk]at k;obtain⟨bs,e1,e2⟩:=JDb hk;subst e1;subst e2;have e3:=JDp dl;subst e3;have e4:=JDg rv;subst e4;have hA:X.A.handled=none:=I.ok.hd (g.calm inferInstance);have hlt:a<s.heap.objs.size:=by
     obtain⟨o,n,ho,_⟩:=p;exact q_h ho
    refine call_all_walk (wpAny_pyIter_list p.isList ?_);have hne:a≠s.heap.objs.size:=q_l hlt;refine#[s.heap.objs.size,_,_,_,_,_,(λi=>bs.getD i false),rfl,Walks.list (prog:=X.prog) (w:=X.w) (A:=X.A.in1) hA s.heap.objs.size a hne (bs.map Value.bool).toArray,?_,?_,?_]
    ·exact#[#[_,q_k _ rfl,rfl,rfl],p.isList.at λo e=>q_c _ e]
    ·intro i v s' Q' E' hP hQ;simp![List.getElem?_toArray,List.getElem?_map]at hP;obtain⟨b,hb,rfl⟩:=q_d.mp hP;refine wpAny_truthy_bool ?_;have hQ:Q' (bs.getD i false) s':=hQ;rw[List.getD_eq_getElem?_getD,hb]at hQ;exact hQ
    ·intro h' tk hk';refine#[.bl _,H,I.kept λb o e=>hk' b o ?_ (q_c _ e),rfl,?_]
     ·simp![List.mem_singleton];exact q_l (q_h e)
     ·have:((List.range (bs.map Value.bool).toArray.size).all λi=>bs.getD i false)=bs.all id:=by
       rw[q_f,q_g];exact all_range bs
      rw[this];exact KE.ok k (by simp![Den])
   |exc c=>exact(JKi hk).elim
   |bad=>rw[hk]at k;exact k.elim
 | [],_,k=>exact fF k
 | [.none],_,k=>exact fF k
 | [.bool _],_,k=>exact fF k
 | [.int _],_,k=>exact fF k
 | [.str _],_,k=>exact fF k
 | [.tuple _],_,k=>exact fF k
 | [.dict _],_,k=>exact fF k
 |d1::d2::r,_,k=>cases d1<;>exact fF k
end
end VI
end
section
namespace VI
open PySem PySem.Spec PyProof.Rows L2
section
variable{X:Cx}{B:Bs}{C:Cn}{CX:CXT}{XX:Nat->Hp->Prop}{G:List (Str×GK)}{a b c tg:Expr}{x y z:E}{pos p:Pos}
def JLC(g:Gk X B C CX XX G){j:Nat}(ha:PE X a (RE B C XX x)):PT X (.Compare a [.Is] [.Constant .none j pos'] pos) (RT B C XX (.isN x false)) :=
 PT.imp (JNC (JMw ha)) λY H Q h_=>by
  obtain⟨U,ok,k⟩:=h_;simp![evT]at k;refine RE.of (W:=λr H=>KB XX r H Q) ok (λ_ _ z=>z) (λ_ z=>z) k λd v H1 s1 d1 h1=>?_;exact#[isNone d,by rw[JCo d1],by simpa using h1 H1 s1]
def JOs(g:Gk X B C CX XX G){j:Nat}(ha:PE X a (RE B C XX x)):PT X (.Compare a [.IsNot] [.Constant .none j pos'] pos) (RT B C XX (.isN x true)) :=
 PT.imp (JNC (JJn ha)) λY H Q h_=>by
  obtain⟨U,ok,k⟩:=h_;simp![evT]at k;refine RE.of (W:=λr H=>KB XX r H Q) ok (λ_ _ z=>z) (λ_ z=>z) k λd v H1 s1 d1 h1=>?_;exact#[!isNone d,by rw[JCo d1],by simpa using h1 H1 s1]
end
def JHj{k:Nat}(U:Env)(d:D)(h:ev C (.cmpr k x z y) U=.ok d):∃ds,d=.list ds:=by
 simp![ev]at h;cases q:evI C z U with
 |ok xs =>
  simp![q,R.bind]at h
  split at h
  ·cases qz:JA5 (itemF C k x y U) xs with
   |ok zs=>unfold itemF at qz;simp![R.bind]at qz;rw[qz]at h;cases h;exact#[zs,rfl]
   |exc c=>exact(JCH qz).elim
   |bad=>unfold itemF at qz;simp![R.bind]at qz;rw[qz]at h;cases h
  ·cases h
 |exc c=>simp![q,R.bind]at h;cases h
 |bad=>simp![q,R.bind]at h;cases h
@[reducible]def Ow:=Nat->Option Addr
open Classical in
abbrev hidP(H:Hp)(P:Addr->Prop):Hp:=λb=>if P b then none else H b
def ownP(O:Ow)(b:Addr):Prop:=∃i,O i=some b
noncomputable abbrev hid(H:Hp)(O:Ow):Hp:=hidP H (ownP O)
def JAP(B:Bs)(H₀ H:Hp)(O:Ow)(Y:St)(i:Nat):Option Sl->Prop
 |some (.own d)=>∃a ds xs,O i=some a/\d=ds/\Y[i]? = some (some (.ref a))/\H a=some xs/\H₀ a=none/\OwnO B (hid H O) ds xs
 |some (.val d)=>O i=none/\∃v,Y[i]? = some (some v)/\Den B (hid H O) d v
 |_=>O i=none
structure SO(B:Bs)(H₀:Hp)(Y:St)(H:Hp)(U:Env)(O:Ow):Prop where
 len:Y.length=U.length
 same:Same H₀ H
 inj:∀i j a,O i=some a->O j=some a->i=j
 slot:∀i,JAP B H₀ H O Y i U[i]?
def JDW(X:Cx)(B:Bs)(XX:Nat->Hp->Prop)(Hb:Hp)(D:Ends):Fl->Prop
 |.nx U=>∀Y H O,SO B Hb Y H U O->D.nx Y H
 |.rt d=>∀v H,Same Hb H->Den B H d v->D.rt v H
 |.bk U=>∀Y H O,SO B Hb Y H U O->D.bk Y H
 |.ct U=>∀Y H O,SO B Hb Y H U O->D.ct Y H
 |.ex c=>XX c Hb
 |.bad=>False
def RSt(X:Cx)(B:Bs)(C:Cn)(XX:Nat->Hp->Prop)(t:S):TS:=λD Y H=>∃U O Hb,Dm X.H₀ Hb/\SO B Hb Y H U O/\JDW X B XX Hb D (exec C t U)
section
variable{B:Bs}{C:Cn}{CX:CXT}{G:List (Str×GK)}
def PEs(X:Cx)(B:Bs)(C:Cn)(XX:Nat->Hp->Prop):List Expr->E->Prop
 | [],.nil=>True
 |a::r,.cons x y=>PE X a (RE B C XX x)/\PEs X B C XX r y
 |_,_=>False
structure XOk(B:Bs)(C:Cn)(CX:CXT)(G:List (Str×GK))(k:XO):Prop where
 val:∀(X:Cx) (XX:Nat->Hp->Prop),Gk X B C CX XX G->∀(e:Expr) (args:List Expr) (y:E),xRaw G X.env.scope.names false e=some (k,args)->PEs X B C XX args y->PA X args (RA B C XX y)->(∀a∈args,∀es env,starEach (a::es) env=(false,eval a env)::starEach es env)->cnt y=args.length->PE X e (RE B C XX (.xop k y))
 itr:∀(X:Cx) (XX:Nat->Hp->Prop),Gk X B C CX XX G->∀(tg e:Expr) (args:List Expr) (y:E),xRaw G X.env.scope.names true e=some (k,args)->PA X args (RA B C XX y)->(∀a∈args,∀es env,starEach (a::es) env=(false,eval a env)::starEach es env)->cnt y=args.length->PI X tg e (RI B C XX (.xop k y))
structure RO(B:Bs)(C:Cn)(CX:CXT)(G:List (Str×GK)):Prop where
 count:G.lookup (".met":Str)=some GK.opt->∀(X:Cx) (XX:Nat->Hp->Prop),Gk X B C CX XX G->∀(o a:Expr) (x y:E) (ap cp:Pos),JAh o=false->(ap.endLine==cp.line)=true->PE X o (RE B C XX x)->PE X a (RE B C XX y)->starEach [a] X.env=[(false,eval a X.env)] ->
  PE X (.Call (.Attribute o "count" ap) [a] [] cp) (RE B C XX (.mcount x y))
 index:G.lookup (".met":Str)=some GK.opt->∀(X:Cx) (XX:Nat->Hp->Prop),Gk X B C CX XX G->∀(o a:Expr) (x y:E) (ap cp:Pos),JAh o=false->(ap.endLine==cp.line)=true->PE X o (RE B C XX x)->PE X a (RE B C XX y)->starEach [a] X.env=[(false,eval a X.env)] ->
  PE X (.Call (.Attribute o "index" ap) [a] [] cp) (RE B C XX (.mindex x y))
 all:G.lookup ("all":Str)=some (.blt .all)->∀(X:Cx) (XX:Nat->Hp->Prop),Gk X B C CX XX G->JBl X (.builtin "all") (λvs H Q=>∃ds,DenL B H ds vs/\KE B XX (bltD .all ds) H Q)
 rvs:G.lookup (".rvs":Str)=some GK.opt->∀(X:Cx) (XX:Nat->Hp->Prop),Gk X B C CX XX G->∀(a i:Expr) (x:E) (pos:Pos),JJf i=true->PE X a (RE B C XX x)->PE X (.Subscript a i pos) (RE B C XX (.fn1 .rev x))
structure Rare(B:Bs)(C:Cn)(CX:CXT)(G:List (Str×GK)):Prop where
 nox:∀outer H s e s',¬CX outer H s (EX B λ_ _=>False) e s'
 isi:∀(X:Cx) (XX:Nat->Hp->Prop),Gk X B C CX XX G->∀(a:Expr) (x:E) (t:Str) (ty:Ty) (p pt pos:Pos),Gl X "isinstance"->Gl X t->G.lookup ("isinstance":Str)=some GK.isi->(G.lookup t=some (.ty ty)/\JBD ty=some t\/∃c,ty=.own c/\G.lookup t=some (.cls c))->JAR t=false ->
  PE X a (RE B C XX x)->starEach [a,.Name t pt] X.env=(false,eval a X.env)::starEach [.Name t pt] X.env->PE X (.Call (.Name "isinstance" p) [a,.Name t pt] [] pos) (RE B C XX (.isi x ty))
 xop:∀k:XO,G.lookup k.flag=some GK.opt->XOk B C CX G k
 rcd:G.lookup (".rec":Str)=some GK.opt->∀(X:Cx) (XX:Nat->Hp->Prop),Gk X B C CX XX G->∀(e:Expr) (q:Nat×Option Nat) (args:List Expr) (y:E),mRaw G e=some (q,args)->PEs X B C XX args y->(∀a∈args,∀es env,starEach (a::es) env=(false,eval a env)::starEach es env)->PE X e (RE B C XX (mkM q y))
 ro:RO B C CX G
def JCG{e:Expr}(h:mOf G e=some q):mRaw G e=some q/\G.lookup (".rec":Str)=some GK.opt:=by
 unfold mOf at h
 split at h
 ·exact#[h,by assumption]
 ·cases h
def JJk{e:Expr}(h:mRaw G e=some q)(env:PySem.Env):∀whole,isTrue e env whole=(do let v<-whole;standAt e.pos;holding [v] (truthy v)):=by
 unfold mRaw at h
 split at h
 ·exact λ_=>rfl
 ·exact λ_=>rfl
 ·cases h
def JHE{it:Bool}{e:Expr}(h:xOf G names it e=some q):xRaw G names it e=some q/\G.lookup q.1.flag=some GK.opt:=by
 unfold xOf at h;obtain⟨r,h1,h2⟩:=q_a.mp h
 split at h2
 ·cases h2;exact#[h1,by assumption]
 ·cases h2
theorem JCQ{n:Nat}:∀ {es:List Expr}{x:E},JAN (JAO G n false names N) es=some x->∀a∈es,∀r env,starEach (a::r) env=(false,eval a env)::starEach r env
 |e::es,x,h,a,ha,r,env=>by
  unfold JAN at h;obtain⟨y,h1,h⟩:=q_a.mp h;obtain⟨z,h2,h⟩:=q_a.mp h;rcases q_n.mp ha with z|ha
  ·subst z;exact JAb h1 r env
  ·exact JCQ h2 a ha r env
theorem pes{n:Nat}(ih:∀e x,JAO G n false names N e=some x->PE X e (RE B C XX x)):∀ {es:List Expr}{x:E},JAN (JAO G n false names N) es=some x->PEs X B C XX es x
 | [],x,h=>by unfold JAN at h;cases h;exact trivial
 |e::r,x,h=>by
  unfold JAN at h;obtain⟨y,h1,h⟩:=q_a.mp h;obtain⟨z,h2,h⟩:=q_a.mp h;cases h;exact#[ih e y h1,pes ih h2]
def SndAt(B:Bs)(C:Cn)(CX:CXT)(G:List (Str×GK))(n:Nat):Prop:=∀(X:Cx) (XX:Nat->Hp->Prop) (names:Nq) (N:List Str),Gk X B C CX XX G->X.env.scope.kind=.function->X.env.scope.names=names->X.N=N->N.Nodup ->
 (∀e x,JAO G n false names N e=some x->PE X e (RE B C XX x)/\PT X e (RT B C XX x))/\(∀tg e x,JAO G n true names N e=some x->PI X tg e (RI B C XX x))
def JHg{n:Nat}(ih:SndAt B C CX G n)(nox:∀outer H s e s',¬CX outer H s (EX B λ_ _=>False) e s')(g:Gk X B C CX XX G)(hk:X.env.scope.kind=.function)(hn:X.env.scope.names=names)(hN:X.N=N)(hnd:N.Nodup)
  {elt:Expr}{gens:List Comprehension}{sc:Scope}{p:Pos}{x:E}(h:JAT G (JAO G n) false names N (.ListComp elt gens sc p)=some x) :
  Cool G/\∃target iter ifs xs k y z w,gens=[#[target,iter,ifs,0]]/\x=.cmpr k y z w/\BlkOk X sc xs/\PI X target iter (RI B C XX z)/\(∀v,foldedSetIterable iter X.env v=pure v) /\
   ∀Cc fp s0 H0 Y U zs,JBj (JAl X sc Cc (xs++mask xs 0 X.N) fp s0 H0) (Sts.one B) Y xs.length U target elt ifs (Rp (itemF C k y w U) zs):=by
 match gens,h with
 | [],h=>exact JAG h
 |⟨_,_,_,_⟩::_::_,h=>exact JAG h
 | [⟨tg,iter,ifs,as⟩],h =>
  dsimp only[JAT]at h
  split at h
  ·cases h
  ·rename_i hc;have hc1:as=0:=Decidable.byContradiction λz=>hc (.inr (.inl z));have hc2:sc.kind=.function:=Decidable.byContradiction λz=>hc (.inr (.inr (.inl z)));have hco:Cool G:=JFq λz=>hc (.inr (.inr (.inr z)));subst hc1;refine#[hco,?_]
   split at h
   ·cases h
   ·rename_i k xs htg
    split at h
    ·rename_i hs;obtain⟨i,hi,h⟩:=q_a.mp h;obtain⟨y,hy,h⟩:=q_a.mp h;have bk:=JM9 hk hn hN hc2 hs;have inner:=λ(Cc:Addr) (fp:List Addr) (s0:Shared) (H0:Hp)=>ih (JAl X sc Cc (xs++mask xs 0 X.N) fp s0 H0) (λ_ _=>False) (JAt names sc.names) (xs++mask xs 0 N)
      (Gk.nox g rfl rfl rfl rfl rfl rfl rfl λ_ _ _ _ _ _ _ z=>(nox _ _ _ _ _ z).elim) hc2 (by rw[<-hn];exact JAr hk) (by rw[<-hN];rfl) (by rw[<-hN];exact bk.nd)
     have hloc:∀Cc fp s0 H0,∀nm∈xs,(JAl X sc Cc (xs++mask xs 0 X.N) fp s0 H0).env.scope.names.lookup nm=some .local:=λCc fp s0 H0 nm hnm=>by
      show(compEnvC sc (JBG X.env.cells sc.names []) Cc X.env).scope.names.lookup nm=_;rw[JAr hk];exact JBa (bk.tg nm hnm)
     have key:∀(w:E),(ifs=[]/\w=.cbl true\/∃c,ifs=[c])->(∀c,ifs=[c]->JAO G n false (JAt names sc.names) (xs++mask xs 0 N) c=some w)->∃target iter' ifs' xs' k' y' z w',[(#[tg,iter,ifs,0]:Comprehension)]=[#[target,iter',ifs',0]]/\E.cmpr k y i w=.cmpr k' y' z w'/\BlkOk X sc xs'/\PI X target iter' (RI B C XX z)/\(∀v,foldedSetIterable iter' X.env v=pure v) /\
        ∀Cc fp s0 H0 Y U zs,JBj (JAl X sc Cc (xs'++mask xs' 0 X.N) fp s0 H0) (Sts.one B) Y xs'.length U target elt ifs' (Rp (itemF C k' y' w' U) zs):=λw h1 h2=>by
      refine#[tg,iter,ifs,xs,k,y,i,w,rfl,rfl,bk,(ih X XX names N g hk hn hN hnd).2 _ iter i hi,JD7 hi X.env,λCc fp s0 H0 Y U zs=>?_];have he:=((inner Cc fp s0 H0).1 elt y hy).1;have hcs:=λc (hc:ifs=[c])=>((inner Cc fp s0 H0).1 c w (h2 c hc)).2;cases tg with
      |Name nm px =>
        simp![JEA,q_j,Prod.mk.injEq]at htg;obtain⟨e1,e2⟩:=htg;subst e1;subst e2;exact JG9 (JE2 (by exact bk.nd) rfl (hloc Cc fp s0 H0 nm (by simp)) rfl) he hcs h1 rfl
      |Tuple ts kt pt =>
        simp![JEA]at htg;obtain⟨xs',hx,htg⟩:=q_a.mp htg
        split at htg
        ·cases htg
        ·rename_i hne;simp![q_j,Prod.mk.injEq]at htg;obtain⟨e1,e2⟩:=htg;subst e2;subst e1;exact JG9 (JLU rfl g.K hx hne (by exact bk.nd) (λi nm e=>by
          show(xs'++mask xs' 0 X.N)[i]? = some nm;rw[q_C (q_p.mp e).1];exact e) (hloc Cc fp s0 H0) rfl) he hcs h1 rfl
      |_=>simp[JEA]at htg
     match ifs,h,key with
     | [],h,key=>cases h;exact key _ (.inl #[rfl,rfl]) λc hc=>by cases hc
     | [c],h,key =>
      obtain⟨w,hw,h⟩:=q_a.mp h;cases h;exact key w (.inr #[c,rfl]) λc' hc=>by cases hc;exact hw
     |_::_::_,h,_=>cases h
    ·cases h
theorem sound(ra:Rare B C CX G):∀(n:Nat) (X:Cx) (XX:Nat->Hp->Prop) (names:Nq) (N:List Str),Gk X B C CX XX G->X.env.scope.kind=.function->X.env.scope.names=names->X.N=N->N.Nodup ->
  (∀e x,JAO G n false names N e=some x->PE X e (RE B C XX x)/\PT X e (RT B C XX x))/\(∀tg e x,JAO G n true names N e=some x->PI X tg e (RI B C XX x))
 |0,X,XX,names,N,g,hk,hn,hN,hnd=>#[λe x h=>by simp[JAO,JAq,JAT]at h,λtg e x h=>by simp[JAO,JAq,JAT]at h]
 |n+1,X,XX,names,N,g,hk,hn,hN,hnd=>by
  obtain⟨ih,ihI⟩:=sound ra n X XX names N g hk hn hN hnd;have ihE:∀e x,JAO G n false names N e=some x->PE X e (RE B C XX x):=λe x h=>(ih e x h).1;have truthOf:∀ {e:Expr}{x:E},PE X e (RE B C XX x)->(∀whole,isTrue e X.env whole=(do let v<-whole;standAt e.pos;holding [v] (truthy v)))->(∀U,evT C x U=(ev C x U).bind truth)->PE X e (RE B C XX x)/\PT X e (RT B C XX x) :=
    λh1 h2 h3=>#[h1,JOE g h1 h2 h3]
  have valOnly:∀ {e:Expr}{x:E},PE X e (RE B C XX x)->(∀U,evT C x U=.bad)->PE X e (RE B C XX x)/\PT X e (RT B C XX x):=λh1 h2=>#[h1,t_bad h2];have nameE:∀(b:Bool) (x:Str) (p:Pos) (y:E),xOf G names b (.Name x p)=none/\mOf G (.Name x p)=none->JAO G (n+1) b names N (.Name x p)=some y->PE X (.Name x p) (RE B C XX y)/\((∀U,evT C y U=(ev C y U).bind truth)\/∀U,evT C y U=.bad)/\∀U,evI C y U=(ev C y U).bind JA4:=by
    intro b x p y hxx h;rw[JAF hxx]at h;dsimp only[JAT]at h
    split at h
    ·cases h
    ·rename_i hb;have hb':JAR x=false:=by simpa using hb
     split at h
     · rename_i hv
       obtain⟨i,hi,e⟩:=q_d.mp h;subst e;exact#[s_var (by rw[hN];exact JDI hi) (JFS hn hv) hb',(.inl λU=>by simp![evT,ev]),λU=>by simp![evI,ev]]
     · split at h
       ·rename_i i hg;cases h;obtain⟨_,h2,h3⟩:=JA6 hg;exact#[s_glo g (JB6 hn h2) h3 hb',(.inr λU=>by simp![evT]),λU=>by simp![evI,ev]]
       ·cases h
  have callE:∀(b:Bool) (f:Str) (p pos:Pos) (args:List Expr) (y:E),xOf G names b (.Call (.Name f p) args [] pos)=none/\mOf G (.Call (.Name f p) args [] pos)=none->JAO G (n+1) b names N (.Call (.Name f p) args [] pos)=some y->(∃i x,y=.call i x/\PE X (.Call (.Name f p) args [] pos) (RE B C XX y)) \/
     (b=false/\((∃i x,y=.blt i x)\/(∃a t,y=.isi a t)\/∃o a,y=.fn1 o a)/\PE X (.Call (.Name f p) args [] pos) (RE B C XX y))\/(b=true/\∃x,y=.rng x/\∀tg,PI X tg (.Call (.Name f p) args [] pos) (RI B C XX y)):=by
    intro b f p pos args y hxx h;rw[JAF hxx]at h;dsimp only[JAT]at h
    split at h
    ·rename_i i hg;obtain⟨h1,h2,h3⟩:=JA6 hg
     split at h
     · rename_i e r
       obtain⟨x,hx,e'⟩:=q_d.mp h;subst e';obtain⟨a,ha,hx'⟩:=q_a.mp (by unfold JAN at hx;exact hx)
       exact .inl #[i,x,rfl,s_call g (JB6 hn h2) h3 h1 (allA g ihE hx) (JAb ha r X.env) (JCM hx)]
     · cases h
    ·rename_i hg;obtain⟨h1,h2,h3⟩:=JA6 hg
     split at h
     · rename_i hb
       obtain⟨hb1,hb2⟩:=hb;subst hb2
       split at h
       ·rename_i a;obtain⟨x,hx,e'⟩:=q_d.mp h;subst e';obtain⟨a',ha,_⟩:=q_a.mp (by unfold JAN at hx;exact hx)
        exact .inr (.inr #[hb1,x,rfl,λtg=>JP8 g (JB6 hn h2) (g.rng _ h3) (allA g ihE hx) (JAo hx) (JAb ha [] X.env)])
       ·rename_i a a2;obtain⟨x,hx,e'⟩:=q_d.mp h;subst e';obtain⟨a',ha,hr⟩:=q_a.mp (by unfold JAN at hx;exact hx)
        obtain⟨r',hr',_⟩:=q_a.mp hr;obtain⟨a2',ha2,_⟩:=q_a.mp (by unfold JAN at hr';exact hr')
        exact .inr (.inr #[hb1,x,rfl,λtg=>JRt g (JB6 hn h2) (g.rng _ h3) (allA g ihE hx) (JAo hx) (by rw[JAb ha [a2] X.env,JAb ha2 [] X.env];rfl) (JAb ha2 [] X.env)])
       ·cases h
     · cases h
    ·rename_i bl hg;obtain⟨h1,h2,h3⟩:=JA6 hg
     split at h
     · rename_i hb
       obtain⟨hb1,hb2⟩:=hb
       split at h
       ·rename_i e r;obtain⟨x,hx,e'⟩:=q_d.mp h;subst e';obtain⟨a,ha,hx'⟩:=q_a.mp (by unfold JAN at hx;exact hx)
        refine .inr (.inl #[hb1,.inl #[bl,x,rfl],?_]);subst hb2;cases bl with
        |len=>exact JOz g (JJb g) PySem.boot_len (JB6 hn h2) h3 h1 (allA g ihE hx) (JAb ha r X.env) (JCM hx)
        |abs=>exact JOz (id:="abs") g (JIp g) (by decide +kernel) (JB6 hn h2) h3 h1 (allA g ihE hx) (JAb ha r X.env) (JCM hx)
        |all=>exact JOz (id:="all") g (ra.ro.all h3 X XX g) (by decide +kernel) (JB6 hn h2) h3 h1 (allA g ihE hx) (JAb ha r X.env) (JCM hx)
       ·cases h
     · cases h
    ·rename_i hg;obtain⟨h1,h2,h3⟩:=JA6 hg
     split at h
     · rename_i hb
       obtain⟨hb1,hb2⟩:=hb;subst hb2
       split at h
       ·rename_i a t pt
        split at h
        ·rename_i ty hgt;obtain⟨t1,t2,t3⟩:=JA6 hgt
         split at h
         · rename_i ht
           obtain⟨x,hx,e'⟩:=q_d.mp h;subst e';exact .inr (.inl #[hb1,.inr (.inl #[x,ty,rfl]),ra.isi X XX g a x t ty p pt pos (JB6 hn h2) (JB6 hn t2) h3 (.inl #[t3,ht]) t1 (ihE a x hx) (JAb hx _ X.env)])
         · cases h
        ·rename_i c hgt;obtain⟨t1,t2,t3⟩:=JA6 hgt;obtain⟨x,hx,e'⟩:=q_d.mp h;subst e';exact .inr (.inl #[hb1,.inr (.inl #[x,.own c,rfl]),ra.isi X XX g a x t (.own c) p pt pos (JB6 hn h2) (JB6 hn t2) h3 (.inr #[c,rfl,t3]) t1 (ihE a x hx) (JAb hx _ X.env)])
        ·cases h
       ·cases h
     · cases h
    ·rename_i ty hg;obtain⟨h1,h2,h3⟩:=JA6 hg
     split at h
     · rename_i hb
       obtain⟨hb1,hb2⟩:=hb;obtain⟨o,ho,h⟩:=q_a.mp h
       match args,h with
       | [a],h =>
        obtain⟨x,hx,e'⟩:=q_d.mp h;subst e';exact .inr (.inl #[hb1,.inr (.inr #[o,x,rfl]),JQ1 g ho hb2 (JB6 hn h2) h3 h1 (ihE a x hx) (JAb hx [] X.env)])
       | [],h=>cases h
       |_::_::_,h=>cases h
     · cases h
    ·cases h
  have tupE:∀(b:Bool) (es:List Expr) (k:Nat) (p:Pos) (y:E),xOf G names b (.Tuple es k p)=none/\mOf G (.Tuple es k p)=none->JAO G (n+1) b names N (.Tuple es k p)=some y->∃x,y=.tup x/\PE X (.Tuple es k p) (RE B C XX y):=by
    intro b es k p y hxx h;rw[JAF hxx]at h;dsimp only[JAT]at h
    split at h
    ·rename_i hl;obtain⟨x,hx,e'⟩:=q_d.mp h;subst e';exact#[x,rfl,s_tup g (allA g ihE hx) (by rw[JAo hx];exact hl)]
    ·cases h
  have lstE:∀(b:Bool) (es:List Expr) (p:Pos) (y:E),xOf G names b (.List es p)=none/\mOf G (.List es p)=none->JAO G (n+1) b names N (.List es p)=some y->∃x,y=.lst x/\PE X (.List es p) (RE B C XX y):=by
    intro b es p y hxx h;rw[JAF hxx]at h;dsimp only[JAT]at h
    split at h
    ·rename_i hl;obtain⟨x,hx,e'⟩:=q_d.mp h;subst e';exact#[x,rfl,s_lst g (allA g ihE hx) (by rw[JAo hx];exact hl)]
    ·cases h
  have subE:∀(b:Bool) (a i:Expr) (p:Pos) (y:E),xOf G names b (.Subscript a i p)=none/\mOf G (.Subscript a i p)=none->JAO G (n+1) b names N (.Subscript a i p)=some y->((∃x z,y=.idx x z)\/∃o x,y=.fn1 o x)/\PE X (.Subscript a i p) (RE B C XX y):=by
    intro b a i p y hxx h;rw[JAF hxx]at h;dsimp only[JAT]at h
    split at h
    ·split at h
     · rename_i hr
       split at h
       case isFalse=>cases h
       rename_i hfl;obtain⟨x,hx,e'⟩:=q_d.mp h;subst e';exact#[.inr #[_,x,rfl],ra.ro.rvs hfl X XX g a i x p hr (ihE a x hx)]
     · obtain⟨q,hq,h⟩:=q_a.mp h
       obtain⟨x,hx,e'⟩:=q_d.mp h;subst e';exact#[.inr #[_,x,rfl],JNX g hq (ihE a x hx)]
    ·rename_i hs;obtain⟨x,hx,h⟩:=q_a.mp h;obtain⟨z,hz,h⟩:=q_a.mp h;cases h;exact#[.inl #[x,z,rfl],s_idx g (ihE a x hx) (ihE i z hz) (by simpa using hs)]
  constructor
  · intro e x h
    cases hxx:xOf G names false e with
    |some q =>
     rw[JGo hxx]at h;obtain⟨y,hy,e'⟩:=q_d.mp h;subst e';obtain⟨q1,q2⟩:=JHE hxx;exact valOnly ((ra.xop q.1 q2).val X XX g e q.2 y (by rw[hn];exact q1) (pes ihE hy) (allA g ihE hy) (JCQ hy) (JAo hy)) λU=>by simp![evT]
    |none =>
    cases hmm:mOf G e with
    |some q =>
     rw[JGh hxx hmm]at h;obtain⟨y,hy,e'⟩:=q_d.mp h;subst e';exact truthOf (ra.rcd (JCG hmm).2 X XX g e q.1 q.2 y (JCG hmm).1 (pes ihE hy) (JCQ hy)) (JJk (JCG hmm).1 X.env) λU=>by obtain⟨z,hz⟩:=JGa q.1 y;rw[hz];simp![evT,ev]
    |none =>
    replace hxx:xOf G names false e=none/\mOf G e=none:=#[hxx,hmm]
    cases e with
    |Name nm p =>
     obtain⟨h1,h2,_⟩:=nameE false nm p x hxx h;rcases h2 with h2|h2
     · exact truthOf h1 (λ_=>rfl) h2
     · exact valOnly h1 h2
    |Constant c j p =>
     rw[JAF hxx]at h;dsimp only[JAT]at h;cases c<;>simp![q_j,reduceCtorEq]at h<;>subst h
     · exact valOnly s_non λU=>by simp![evT]
     · exact truthOf s_bl (λ_=>rfl) λU=>by simp![evT,ev,R.bind,truth]
     · exact valOnly s_int λU=>by simp![evT]
     · exact valOnly s_str λU=>by simp![evT]
    |Tuple es k p =>
     obtain⟨y,rfl,h1⟩:=tupE false es k p x hxx h;exact valOnly h1 λU=>by simp![evT]
    |List es p =>
     obtain⟨y,rfl,h1⟩:=lstE false es p x hxx h;exact valOnly h1 λU=>by simp![evT]
    |Subscript a i p =>
     obtain⟨⟨y,z,rfl⟩|⟨o,y,rfl⟩,h1⟩:=subE false a i p x hxx h
     · exact truthOf h1 (λ_=>rfl) λU=>by simp![evT,ev]
     · exact valOnly h1 λU=>by simp![evT]
    |BinOp a op b p =>
     rw[JAF hxx]at h;dsimp only[JAT]at h
     split at h
     · rename_i ho
       obtain⟨y,hy,h⟩:=q_a.mp h;obtain⟨z,hz,h⟩:=q_a.mp h;cases h;exact valOnly (JRy g (ihE a y hy) (ihE b z hz)) λU=>by simp![evT]
     · cases h
    |UnaryOp op a p =>
     rw[JAF hxx]at h;dsimp only[JAT]at h;cases op<;>simp![q_d,reduceCtorEq]at h
     · obtain⟨y,hy,e'⟩:=h
       subst e';exact#[s_not g (ihE a y hy),JKV g (ih a y hy).2]
     · obtain⟨y,hy,e'⟩:=h
       subst e';exact valOnly (s_neg g (ihE a y hy)) λU=>by simp![evT]
    |BoolOp op es p =>
     rw[JAF hxx]at h;dsimp only[JAT]at h;cases op
     · obtain⟨q1,q2⟩:=JMi g ih h
       exact#[q1,q2.pt]
     · obtain⟨q1,q2⟩:=JR0 g ih h
       exact#[q1,q2.pt]
    |Compare a ops bs p =>
     match ops,bs,h with
     | [op],[b],h =>
       rw[JAF hxx]at h;dsimp only[JAT]at h;rw[if_neg Bool.false_ne_true]at h;have cmpd:∀(y z:E),PE X a (RE B C XX y)->PE X b (RE B C XX z)->behindInMarks op b=false->PE X (.Compare a [op] [b] p) (RE B C XX (.cmp op y z))/\PT X (.Compare a [op] [b] p) (RT B C XX (.cmp op y z)):=λy z h1 h2 hm =>
        #[s_cmp g h1 h2 hm,JQd op (JIs (JKd g op) h1 h2 hm) (λY H Q ⟨U,ok,k⟩=>two g (f:=cmpD op) (λx y H dx dy h1 h2 k=>#[dx,dy,h1,h2,k]) #[U,ok,by simpa only[ev] using k]) (λU=>by simp![evT,ev]) λU d h=>JF0 h]
       cases op<;>simp only at h<;>first
        |(split at h
          · cases h
          · rename_i hm
            obtain⟨y,hy,h⟩:=q_a.mp h;obtain⟨z,hz,h⟩:=q_a.mp h;cases h;exact cmpd y z (ihE a y hy) (ihE b z hz) (by simpa using hm))
        |skip
       ·split at h
        ·obtain⟨y,hy,e'⟩:=q_d.mp h;subst e';exact#[s_isN g (ihE a y hy),JLC g (ihE a y hy)]
        ·cases h
       ·split at h
        ·obtain⟨y,hy,e'⟩:=q_d.mp h;subst e';exact#[JOZ g (ihE a y hy),JOs g (ihE a y hy)]
        ·cases h
     | [],_,h=>exact JAG ((JAF hxx).symm.trans h)
     |_::_::_,_,h=>exact JAG ((JAF hxx).symm.trans h)
     | [_],[],h=>exact JAG ((JAF hxx).symm.trans h)
     | [_],_::_::_,h=>exact JAG ((JAF hxx).symm.trans h)
    |IfExp c a b p =>
     rw[JAF hxx]at h;dsimp only[JAT]at h;rw[if_neg Bool.false_ne_true]at h;obtain⟨z,hz,h⟩:=q_a.mp h;obtain⟨y,hy,h⟩:=q_a.mp h;obtain⟨w,hw,h⟩:=q_a.mp h;cases h;exact valOnly (s_ife g (ih c z hz).2 (ihE a y hy) (ihE b w hw)) λU=>by simp![evT]
    |Call f args kws p =>
     cases f with
     |Name nm p2 =>
       cases kws with
       |nil =>
        rcases callE false nm p2 p args x hxx h with ⟨i,y,rfl,h1⟩|⟨_,hs,h1⟩|⟨hb,_⟩
        ·exact truthOf h1 (λ_=>rfl) λU=>by simp![evT,ev]
        ·rcases hs with ⟨i,y,rfl⟩|⟨y,t,rfl⟩|⟨o,y,rfl⟩
         · exact truthOf h1 (λ_=>rfl) λU=>by simp![evT,ev]
         · exact truthOf h1 (λ_=>rfl) λU=>by simp![evT,ev]
         · exact valOnly h1 λU=>by simp![evT]
        ·cases hb
       |cons k ks=>exact JAG ((JAF hxx).symm.trans h)
     |Attribute o m ap =>
       cases kws with
       |cons k ks=>match args,h with
        | [],h=>exact JAG ((JAF hxx).symm.trans h)
        | [_],h=>exact JAG ((JAF hxx).symm.trans h)
        | [_,_],h=>exact JAG ((JAF hxx).symm.trans h)
        |_::_::_::_,h=>exact JAG ((JAF hxx).symm.trans h)
       |nil=>match args,h with
        | [],h=>exact JAG ((JAF hxx).symm.trans h)
        |_::_::_,h=>exact JAG ((JAF hxx).symm.trans h)
        | [a],hh =>
         clear h;rw[JAF hxx]at hh;dsimp only[JAT]at hh
         split at hh
         · rename_i hc
           split at hh
           · rename_i hm
             subst hm;obtain⟨y,hy,hh⟩:=q_a.mp hh;obtain⟨z,hz,hh⟩:=q_a.mp hh;cases hh;exact valOnly (ra.ro.count hc.2 X XX g o a y z ap p hc.1.2.1 hc.1.2.2 (ihE o y hy) (ihE a z hz) (JAb hz [] X.env)) λU=>by simp![evT]
           · split at hh
             ·rename_i hm;subst hm;obtain⟨y,hy,hh⟩:=q_a.mp hh;obtain⟨z,hz,hh⟩:=q_a.mp hh;cases hh;exact valOnly (ra.ro.index hc.2 X XX g o a y z ap p hc.1.2.1 hc.1.2.2 (ihE o y hy) (ihE a z hz) (JAb hz [] X.env)) λU=>by simp![evT]
             ·cases hh
         · cases hh
     |_=>exact JAG ((JAF hxx).symm.trans h)
    |ListComp elt gens sc p =>
     rw[JAF hxx]at h;obtain⟨_,tg,iter,ifs,xs,k,y,z,w,rfl,rfl,bk,hi,hf,hr⟩:=JHg (sound ra n) ra.nox g hk hn hN hnd h;exact valOnly (REF.of (JH8 g bk hi hf hr) JHj) λU=>by simp![evT]
    |_=>exact JAG ((JAF hxx).symm.trans h)
  · intro tg e x h
    cases hxx:xOf G names true e with
    |some q =>
     rw[JGo hxx]at h;obtain⟨y,hy,e'⟩:=q_d.mp h;subst e';obtain⟨q1,q2⟩:=JHE hxx;exact(ra.xop q.1 q2).itr X XX g tg e q.2 y (by rw[hn];exact q1) (allA g ihE hy) (JCQ hy) (JAo hy)
    |none =>
    cases hmm:mOf G e with
    |some q =>
     rw[JGh hxx hmm]at h;obtain⟨y,hy,e'⟩:=q_d.mp h;subst e';exact JFJ g (ra.rcd (JCG hmm).2 X XX g e q.1 q.2 y (JCG hmm).1 (pes ihE hy) (JCQ hy)) λU=>by obtain⟨z,hz⟩:=JGa q.1 y;rw[hz];simp![evI,ev]
    |none =>
    replace hxx:xOf G names true e=none/\mOf G e=none:=#[hxx,hmm]
    cases e with
    |Name nm p =>
     obtain⟨h1,_,h3⟩:=nameE true nm p x hxx h;exact JFJ g h1 h3
    |Tuple es k p =>
     obtain⟨y,rfl,h1⟩:=tupE true es k p x hxx h;refine JFJ g h1 λU=>?_;simp![evI,ev];cases evA C y U<;>rfl
    |List es p =>
     obtain⟨y,rfl,h1⟩:=lstE true es p x hxx h;refine JFJ g h1 λU=>?_;simp![evI,ev];cases evA C y U<;>rfl
    |Subscript a i p =>
     obtain⟨⟨y,z,rfl⟩|⟨o,y,rfl⟩,h1⟩:=subE true a i p x hxx h
     · exact JFJ g h1 λU=>by simp![evI,ev]
     · exact JFJ g h1 λU=>by simp![evI,ev]
    |Call f args kws p =>
     cases f with
     |Name nm p2 =>
       cases kws with
       |nil =>
        rcases callE true nm p2 p args x hxx h with ⟨i,y,rfl,h1⟩|⟨hb,_⟩|⟨_,y,rfl,h1⟩
        ·exact JFJ g h1 λU=>by simp![evI,ev]
        ·cases hb
        ·exact h1 tg
       |cons k ks=>exact JAG ((JAF hxx).symm.trans h)
     |Attribute o m ap =>
       cases kws with
       |cons k ks=>match args,h with
        | [],h=>exact JAG ((JAF hxx).symm.trans h)
        | [_],h=>exact JAG ((JAF hxx).symm.trans h)
        | [_,_],h=>exact JAG ((JAF hxx).symm.trans h)
        |_::_::_::_,h=>exact JAG ((JAF hxx).symm.trans h)
       |nil=>match args,h with
        | [],h=>exact JAG ((JAF hxx).symm.trans h)
        | [_],h=>exact JAG ((JAF hxx).symm.trans h)
        | [_,_],h=>exact JAG ((JAF hxx).symm.trans h)
        |_::_::_::_,h=>exact JAG ((JAF hxx).symm.trans h)
     |_=>exact JAG ((JAF hxx).symm.trans h)
    |Compare a ops bs p=>match ops,bs,h with
     | [_],[_],h=>exact JAG ((JAF hxx).symm.trans h)
     | [],_,h=>exact JAG ((JAF hxx).symm.trans h)
     |_::_::_,_,h=>exact JAG ((JAF hxx).symm.trans h)
     | [_],[],h=>exact JAG ((JAF hxx).symm.trans h)
     | [_],_::_::_,h=>exact JAG ((JAF hxx).symm.trans h)
    |ListComp elt gens sc p=>match gens,h with
     | [],h=>exact JAG ((JAF hxx).symm.trans h)
     |⟨_,_,_,_⟩::_::_,h=>exact JAG ((JAF hxx).symm.trans h)
     | [⟨tg,iter,ifs,as⟩],h=>exact JAG ((JAF hxx).symm.trans h)
    |BinOp a op b p =>
     rw[JAF hxx]at h;dsimp only[JAT]at h
     split at h
     · obtain⟨y,hy,h⟩:=q_a.mp h
       obtain⟨z,hz,h⟩:=q_a.mp h;cases h;exact JFJ g (JRy g (ihE a y hy) (ihE b z hz)) λU=>by simp![evI,ev]
     · cases h
    |_=>exact JAG ((JAF hxx).symm.trans h)
def JJi(ra:Rare B C CX G){n:Nat}(g:Gk X B C CX XX G)(hk:X.env.scope.kind=.function)(hn:X.env.scope.names=names)(hN:X.N=N)(hnd:N.Nodup)
  {elt:Expr}{gens:List Comprehension}{sc:Scope}{p:Pos}{x:E}(h:JAO G n false names N (.ListComp elt gens sc p)=some x) :
  Cool G/\∃target iter ifs xs k y z w,gens=[#[target,iter,ifs,0]]/\x=.cmpr k y z w/\BlkOk X sc xs/\PI X target iter (RI B C XX z)/\(∀v,foldedSetIterable iter X.env v=pure v) /\
   ∀Cc fp s0 H0 Y U zs,JBj (JAl X sc Cc (xs++mask xs 0 X.N) fp s0 H0) (Sts.one B) Y xs.length U target elt ifs (Rp (itemF C k y w U) zs):=by
 cases n with
 |zero=>exact JAG h
 |succ n=>exact JHg (sound ra n) ra.nox g hk hn hN hnd ((JAF #[rfl,by unfold mOf;split<;>rfl]).symm.trans h)
def JEd(ra:Rare B C CX G){n:Nat}(g:Gk X B C CX XX G)(hk:X.env.scope.kind=.function)(hn:X.env.scope.names=names)(hN:X.N=N)(hnd:N.Nodup)
  {es:List Expr}{p:Pos}{x:E}(h:JAO G n false names N (.List es p)=some x):PE X (.List es p) (REF B C XX x):=by
 cases n with
 |zero=>simp[JAO,JAq,JAT,xOf,Option.bind_none,ite_self,xRaw,mOf,mRaw]at h
 |succ n =>
  simp![JAO,JAq,JAT,xOf,Option.bind_none,ite_self,xRaw,Option.bind_none,mOf,mRaw]at h
  split at h
  ·rename_i hl;obtain⟨y,hx,e'⟩:=q_d.mp h;subst e';exact JRw g (allA g (λe x h=>((sound ra n X XX names N g hk hn hN hnd).1 e x h).1) hx) (by rw[JAo hx];exact hl)
  ·cases h
end
def Agr(x:E)(U U':Env):Prop:=∀i,x.uses i=true->U[i]? = U'[i]?
def JKN{i:Nat}(h:U[i]? = U'[i]?):look U i=look U' i:=by unfold look;rw[h]
def JLT{k:Nat}{d:D}(h:push k d U=.ok U1):∃U1',push k d U'=.ok U1'/\∀x:E,(∀i,x.uses (i+(if k=0 then 1 else k))=true->U[i]? = U'[i]?)->Agr x U1 U1':=by
 cases k with
 |zero =>
  have e:(.val d::U)=U1:=by injection h
  subst e;refine#[_,rfl,λx hx i hi=>?_];cases i with
  |zero=>rfl
  |succ i=>simpa using hx i hi
 |succ k =>
  unfold push at h ⊢;cases d<;>first|cases h|skip
  rename_i ds;simp only at h ⊢
  split at h
  ·rename_i hl;have e:ds.map Sl.val++U=U1:=by injection h
   subst e;rw[if_pos hl];refine#[_,rfl,λx hx i hi=>?_]
   by_cases hi2:i<ds.length
   ·rw[q_C (by simpa using hi2),q_C (by simpa using hi2)]
   ·rw[List.getElem?_append_right (by simpa using hi2),List.getElem?_append_right (by simpa using hi2)]
    simp![q_g];refine hx _ ?_;rw[if_neg (Nat.succ_ne_zero k),<-hl,Nat.sub_add_cancel ∅]
    exact hi
  ·cases h
def JLO{k:Nat}{d:D}(h:push k d U=.bad):push k d U'=.bad:=by
 cases k with
 |zero=>cases h
 |succ k =>
  unfold push at h ⊢;cases d<;>first|rfl|skip
  simp only at h ⊢
  split at h
  ·cases h
  ·rename_i hl;rw[if_neg hl]
def JLF{k c:Nat}{d:D}:push k d U≠.exc c:=by
 cases k with
 |zero=>intro h;cases h
 |succ k =>
  unfold push;cases d<;>simp only<;>(try split)<;>(intro h;cases h)
def ub_l{a b:Bool}(h:a=true):(a || b)=true:=by rw[h];rfl
def ub_r{a b:Bool}(h:b=true):(a || b)=true:=by rw[h];exact Bool.or_true a
def ub_ll{a b c:Bool}(h:a=true):(a || b || c)=true:=ub_l (ub_l h)
def JQ4{a b c:Bool}(h:b=true):(a || b || c)=true:=ub_l (ub_r h)
def orl{p q:Nat->Bool}{Q:Nat->Prop}(h:∀i,(p i || q i)=true->Q i)(i:Nat)(e:p i=true):Q i:=h i (ub_l e)
def orr{p q:Nat->Bool}{Q:Nat->Prop}(h:∀i,(p i || q i)=true->Q i)(i:Nat)(e:q i=true):Q i:=h i (ub_r e)
def agree(C:Cn)(x:E):∀(U U':Env),Agr x U U'->ev C x U=ev C x U'/\evT C x U=evT C x U'/\evA C x U=evA C x U'/\evI C x U=evI C x U':=by
 induction x with
 |var i=>intro U U' h;simp![ev,evT,evA,evI,JKN (h i (show(i==i)=true from beq_self_eq_true i)),and_self]
 |cint _|cbl _|cnon|cstr _|glo _|nil=>intro U U' h;simp![ev,evT,evA,evI,and_self]
 |bin op a b iha ihb =>
  intro U U' h;have ha:=iha U U' (orl h);have hb:=ihb U U' (orr h);simp![ev,evT,evA,evI,ha.1,hb.1,and_self]
 |neg a iha =>
  intro U U' h;have ha:=iha U U' h;simp![ev,evT,evA,evI,ha.1,and_self]
 |not a iha =>
  intro U U' h;have ha:=iha U U' h;simp![ev,evT,evA,evI,ha.1,ha.2.1,and_self]
 |and a b iha ihb =>
  intro U U' h;have ha:=iha U U' (orl h);have hb:=ihb U U' (orr h);simp![ev,evT,evA,evI,ha.1,hb.1,ha.2.1,hb.2.1,and_self]
 |or a b iha ihb =>
  intro U U' h;have ha:=iha U U' (orl h);have hb:=ihb U U' (orr h);simp![ev,evT,evA,evI,ha.1,hb.1,ha.2.1,hb.2.1,and_self]
 |cmp op a b iha ihb =>
  intro U U' h;have ha:=iha U U' (orl h);have hb:=ihb U U' (orr h);simp![ev,evT,evA,evI,ha.1,hb.1,and_self]
 |isN a n iha =>
  intro U U' h;have ha:=iha U U' h;simp![ev,evT,evA,evI,ha.1,and_self]
 |ife c a b ihc iha ihb =>
  intro U U' h;have hc:=ihc U U' (orl (orl h));have ha:=iha U U' (orr (orl h));have hb:=ihb U U' (orr h);simp![ev,evT,evA,evI,ha.1,hb.1,hc.2.1,and_self]
 |cons a r iha ihr =>
  intro U U' h;have ha:=iha U U' (orl h);have hr:=ihr U U' (orr h);simp![ev,evT,evA,evI,ha.1,hr.2.2.1,and_self]
 |tup es ih =>
  intro U U' h;have ha:=ih U U' h;simp![ev,evT,evA,evI,ha.2.2.1,and_self]
 |lst es ih =>
  intro U U' h;have ha:=ih U U' h;simp![ev,evT,evA,evI,ha.2.2.1,and_self]
 |fn1 o a iha =>
  intro U U' h;have ha:=iha U U' h;simp![ev,evT,evA,evI,ha.1,and_self]
 |xop k es ih =>
  intro U U' h;have ha:=ih U U' h;simp![ev,evT,evA,evI,ha.2.2.1,and_self]
 |idx a b iha ihb =>
  intro U U' h;have ha:=iha U U' (orl h);have hb:=ihb U U' (orr h);simp![ev,evT,evA,evI,ha.1,hb.1,and_self]
 |call f es ih =>
  intro U U' h;have ha:=ih U U' h;simp![ev,evT,evA,evI,ha.2.2.1,and_self]
 |blt b es ih =>
  intro U U' h;have ha:=ih U U' h;simp![ev,evT,evA,evI,ha.2.2.1,and_self]
 |rng es ih =>
  intro U U' h;have ha:=ih U U' h;simp![ev,evT,evA,evI,ha.2.2.1,and_self]
 |isi a t iha =>
  intro U U' h;have ha:=iha U U' h;simp![ev,evT,evA,evI,ha.1,and_self]
 |mcount a b iha ihb =>
  intro U U' h;have ha:=iha U U' (orl h);have hb:=ihb U U' (orr h);simp![ev,evT,evA,evI,ha.1,hb.1,and_self]
 |mindex a b iha ihb =>
  intro U U' h;have ha:=iha U U' (orl h);have hb:=ihb U U' (orr h);simp![ev,evT,evA,evI,ha.1,hb.1,and_self]
 |cmpr k elt iter cond ihe ihi ihc =>
  intro U U' h;have hi:=ihi U U' (orl (orl h));refine#[?_,by simp![evT],by simp![evA],by simp![evI]]
  simp![ev,hi.2.2.2]
  congr 1
  funext xs
  congr 2
  congr 1
  funext d
  cases q:push k d U with
  |ok U1 =>
   obtain⟨U1',q',ag⟩:=JLT (U':=U') q;rw[q'];have h1:=ihc U1 U1' (ag cond λi hi=>h i (by exact ub_r hi))
   have h2:=ihe U1 U1' (ag elt λi hi=>h i (by exact JQ4 hi))
   simp![R.bind,h1.2.1,h2.1]
  |exc c=>exact(JLF q).elim
  |bad=>rw[JLO (U':=U') q]
def JAv{b:Addr}(h:P b):hidP H P b=none:=by unfold hidP;rw[if_pos h]
def JAK{b:Addr}(h:¬P b):hidP H P b=H b:=by unfold hidP;rw[if_neg h]
def JA1{b:Addr}(h:hidP H P b=some o):¬P b/\H b=some o:=by
 by_cases hp:P b
 ·rw[JAv hp]at h;cases h
 ·rw[JAK hp]at h;exact#[hp,h]
open Classical in
abbrev mixP(H H1:Hp)(P:Addr->Prop):Hp:=λb=>if P b then H b else H1 b
def JBc{b:Addr}(h:P b):mixP H H1 P b=H b:=by unfold mixP;rw[if_pos h]
def JAQ{b:Addr}(h:¬P b):mixP H H1 P b=H1 b:=by unfold mixP;rw[if_neg h]
section
variable{X:Cx}{yp ps:Pq}{Y:St}{H H1:Hp}{s s1:Shared}{P:Addr->Prop}
def JIK(I:Inv X yp Y H s){a:Addr}(h:H a=some xs)(h0:X.H₀ a=none):a≠X.env.locals/\a ∉ X.fs:=by
 refine#[λz=>(by rw[z,I.free]at h;cases h),λz=>?_]
 obtain⟨_,o,ho,_⟩:=I.ok.funs.mem z;have:=I.base.free a o ho (I.ok.frf a z) λq=>I.ok.exfs a q z;rw[h]at this;cases this
def JBI(I:Inv X yp Y H s)(hP:∀a,P a->∃xs,H a=some xs/\X.H₀ a=none/\Ownb xs)(hps:∀p∈ps,P p.1/\s.heap.get? p.1=some p.2):Inv X (yp++ps) Y (hidP H P) s where
 ok:=I.ok
 os:=I.os
 bare:=I.bare
 base:=by
  have nP:∀b u,H b=some u->¬Ownb u->¬P b:=λb u e hu hp=>by
   obtain⟨xs,h1,_,h3⟩:=hP b hp;rw[e]at h1;cases h1;exact hu h3
  refine#[I.base.keep,I.base.slot,λb o e n hx=>?_,I.base.there,λb xs e=>?_,λb o u e=>?_,λb t e=>?_]
  ·have:=I.base.free b o e n hx
   by_cases hp:P b
   ·exact JAv hp
   ·rw[JAK hp];exact this
  ·have q:=I.base.tups b xs e;rw[JAK (nP b _ q λz=>z)];exact q
  ·have q:=I.base.frzs b o u e;rw[JAK (nP b _ q λz=>z)];exact q
  ·obtain⟨m,q⟩:=I.base.tbls b t e;exact#[m,by rw[JAK (nP b _ q λz=>z)];exact q]
 loc:=I.loc
 cell:=I.cell
 free:=by
  by_cases hp:P X.env.locals
  ·exact JAv hp
  ·rw[JAK hp];exact I.free
 freeC:=λx c e=>by
  by_cases hp:P c
  ·exact JAv hp
  ·rw[JAK hp];exact I.freeC x c e
 pin:=λp hp=>by
  have old:∀p∈X.pn++yp,s.heap.get? p.1=some p.2/\hidP H P p.1=none/\p.1≠X.env.locals/\p.1 ∉ X.fs/\∀v,p.2.data≠.cell v:=λp hp=>by
   obtain⟨h1,h2,h3⟩:=I.pin p hp;refine#[h1,?_,h3]
   by_cases hq:P p.1
   ·exact JAv hq
   ·rw[JAK hq];exact h2
  rcases List.mem_append.mp hp with z|z
  ·exact old p (List.mem_append_left _ z)
  ·rcases List.mem_append.mp z with z|z
   ·exact old p (q_r _ z)
   ·obtain⟨hq,ho⟩:=hps p z;obtain⟨xs,h1,h0,h9⟩:=hP _ hq;obtain⟨n1,n2⟩:=JIK I h1 h0;refine#[ho,JAv hq,n1,n2,λv e=>?_];cases xs with
    |lst xs =>
     obtain⟨_,its,n,_,e2⟩:=I.hok _ _ h1;rw[ho]at e2;have e3:p.2={ cls:=.type "list",data:=.seq its.toArray n }:=Option.some.inj e2;rw[e3]at e;have e4:Data.seq its.toArray n=Data.cell v:=e;cases e4
    |_=>exact h9.elim
 hok:=λb u e=>by
  obtain⟨hb,e⟩:=JA1 e;refine(I.hok b u e).stay (λc w _ q=>q) (λc q=>?_) λc xs q=>?_
  ·rw[JAK λhc=>by obtain⟨xs,h1,_,h9⟩:=hP c hc;rw[q]at h1;cases h1;exact h9];exact q
  ·rw[JAK λhc=>by obtain⟨ys,h1,_,h9⟩:=hP c hc;rw[q]at h1;cases h1;exact h9];exact q
 len:=I.len
def JAu(I:Inv X yp Y H s)(J:Inv X (yp++ps) Y' H1 s1)(hP:∀a,P a->∃xs,H a=some xs/\X.H₀ a=none/\Ownb xs)(hps:∀a,P a->∃o,(a,o)∈ps/\s.heap.get? a=some o) :
  Inv X yp Y' (mixP H H1 P) s1/\∀a,P a->H1 a=none:=by
 have hpin:∀a,P a->∃o,s1.heap.get? a=some o/\H1 a=none/\s.heap.get? a=some o:=λa ha=>by
  obtain⟨o,hm,ho⟩:=hps a ha;obtain⟨h1,h2,_⟩:=J.pin (a,o) (q_r _ (q_r _ hm));exact#[o,h1,h2,ho]
 have nP:∀b u,H1 b=some u->¬P b:=λb u e hp=>by obtain⟨_,_,h,_⟩:=hpin b hp;rw[e]at h;cases h
 have nS:∀b o,X.s₀.heap.get? b=some o->X.H₀ b=none->b ∉ X.ex->¬P b:=λb o e n hx hp=>by
  obtain⟨xs,h1,_⟩:=hP b hp;have:=I.base.free b o e n hx;rw[h1]at this;cases this
 refine#[#[J.ok,J.os,J.bare,#[J.base.keep,J.base.slot,λb o e n hx=>?_,J.base.there,λb xs e=>?_,λb o u e=>?_,λb t e=>?_],J.loc,J.cell,?_,λx c e=>?_,λp hp=>?_,λb u e=>?_,J.len],λa ha=>?_]
 ·rw[JAQ (nS b o e n hx)];exact J.base.free b o e n hx
 ·have q:=J.base.tups b xs e;rw[JAQ (nP b _ q)];exact q
 ·have q:=J.base.frzs b o u e;rw[JAQ (nP b _ q)];exact q
 ·obtain⟨m,q⟩:=J.base.tbls b t e;exact#[m,by rw[JAQ (nP b _ q)];exact q]
 ·rw[JAQ λhp=>by obtain⟨xs,h1,_⟩:=hP _ hp;rw[I.free]at h1;cases h1];exact J.free
 ·rw[JAQ λhp=>by obtain⟨xs,h1,_⟩:=hP _ hp;rw[I.freeC x c e]at h1;cases h1];exact J.freeC x c e
 ·have hp':p∈X.pn++(yp++ps):=by
   rcases List.mem_append.mp hp with z|z
   ·exact List.mem_append_left _ z
   ·exact q_r _ (List.mem_append_left _ z)
  obtain⟨h1,h2,h3⟩:=J.pin p hp';refine#[h1,?_,h3];rw[JAQ λhq=>by
   obtain⟨xs,g1,_⟩:=hP _ hq;have:=(I.pin p hp).2.1;rw[g1]at this;cases this]
  exact h2
 ·by_cases hb:P b
  ·rw[JBc hb]at e;obtain⟨xs,h1,_,h9⟩:=hP b hb;rw[h1]at e;cases e;obtain⟨o,g1,_,g3⟩:=hpin b hb;cases u with
   |lst xs =>
    obtain⟨z,its,n,r,e2⟩:=I.hok b _ h1;rw[g3]at e2;cases e2;exact#[z,its,n,r,g1]
   |_=>exact h9.elim
  ·rw[JAQ hb]at e;refine(J.hok b u e).stay (λc w _ q=>q) (λc q=>?_) λc xs q=>?_
   ·rw[JAQ (nP c _ q)];exact q
   ·rw[JAQ (nP c _ q)];exact q
 ·obtain⟨_,_,h,_⟩:=hpin a ha;exact h
end
abbrev JAV(x:E):Nat->Env->Env
 |_,[]=>[]
 |i,s::r=>(if x.uses i=true then s else if s.isOwn=true then .no else s)::JAV x (i+1) r
theorem JCV(x:E):∀(U:Env) (k i:Nat),(JAV x k U)[i]? = (U[i]?).map λs=>if x.uses (k+i)=true then s else if s.isOwn=true then .no else s
 | [],_,_=>by simp[JAV]
 |s::r,k,0=>by simp[JAV]
 |s::r,k,i+1=>by
  have:=JCV x r (k+1) i;rw[show k+1+i=k+(i+1) by omega]at this
  simpa[JAV] using this
theorem JEz(x:E):∀(U:Env) (k i:Nat),(JAL x k U)[i]? = (U[i]?).map λs=>if x.uses (k+i)=true then s.frz else s
 | [],_,_=>by simp[JAL]
 |s::r,k,0=>by simp[JAL]
 |s::r,k,i+1=>by
  have:=JEz x r (k+1) i;rw[show k+1+i=k+(i+1) by omega]at this
  simpa[JAL] using this
theorem JFe(x:E):∀(U:Env) (k:Nat),(JAL x k U).length=U.length
 | [],_=>rfl
 |s::r,k=>by simp![JAL,List.length_cons,JFe x r]
theorem JBX(x:E):∀(U:Env) (k i:Nat) (s:Sl),JAS x k U=false->U[i]? = some s->x.uses (k+i)=true->s.isOwn=false
 | [],_,_,_,_,e,_=>by simp at e
 |s::r,k,0,t,h,e,hu=>by
  unfold JAS at h;simp![Bool.or_eq_false_iff,Bool.and_eq_false_iff]at h;simp![List.getElem?_cons_zero,q_j]at e;subst e;rcases h.1 with z|z
  ·rw[Nat.add_zero]at hu;rw[hu]at z;cases z
  ·exact z
 |s::r,k,i+1,t,h,e,hu=>by
  unfold JAS at h;simp![Bool.or_eq_false_iff]at h;exact JBX x r (k+1) i t h.2 (by simpa using e) (by rw[show k+1+i=k+(i+1) by omega];exact hu)
mutual
theorem JDn(hk:∀b o,H1 b=some o->¬Ownb o->H2 b=some o):∀(d:D) (v:V),JAW d=true->Den B H1 d v->Den B H2 d v
 |.none,_,_,h=>h
 |.bool _,_,_,h=>h
 |.int _,_,_,h=>h
 |.str _,_,_,h=>h
 |.list _,_,n,_=>by simp![JAW]at n;cases n
 |.tuple ds,v,n,h=>by
  simp![Den]at h ⊢;obtain⟨a,xs,e,q,l⟩:=h;refine#[a,xs,e,?_,JCE hk ds xs (by simpa only[JAW] using n) l]
  rcases q with (q|⟨o,q⟩)|q
  ·exact .inl (.inl (hk _ _ q λz=>z))
  ·exact .inl (.inr #[o,hk _ _ q λz=>z])
  ·exact .inr q
 |.dict kvs,v,n,h=>by
  simp![Den]at h ⊢;rcases h with ⟨a,c,e,k,q⟩|⟨a,xs,e,q,l⟩|⟨a,c,e,k,q⟩
  ·exact .inl #[a,c,e,k,hk _ _ q λz=>z]
  rotate_left 1
  ·subst k;simp[JAW]at n
  ·exfalso
   match kvs,n,l with
   | [],n,_=>simp[JAW]at n
   |(k,w)::r,n,l =>
    simp![DenK]at l;obtain⟨x,v',r',_,ek,_⟩:=l;subst ek;simp[JAW]at n
theorem JCE(hk:∀b o,H1 b=some o->¬Ownb o->H2 b=some o):∀(ds:List D) (vs:List V),JBp ds=true->DenL B H1 ds vs->DenL B H2 ds vs
 | [],_,_,h=>h
 |d::ds,vs,n,h=>by
  simp![DenL]at h ⊢;simp![JBp,q_i]at n;obtain⟨v,r,e,q,l⟩:=h;exact#[v,r,e,JDn hk d v n.1 q,JCE hk ds r n.2 l]
end
section
variable{X:Cx}{B:Bs}{C:Cn}{CX:CXT}{XX:Nat->Hp->Prop}{G:List (Str×GK)}{yp:Pq}{Y:St}{H:Hp}{s:Shared}{U:Env}{O:Ow}{x:E}{Hb:Hp}
def unP(x:E)(O:Ow)(b:Addr):Prop:=∃i,O i=some b/\x.uses i=false
theorem SO.own(so:SO B Hb Y H U O){i:Nat}{a:Addr}(h:O i=some a):∃ds xs,U[i]? = some (.own ds)/\Y[i]? = some (some (.ref a))/\H a=some xs/\Hb a=none/\OwnO B (hid H O) ds xs:=by
 have q:=so.slot i;cases e:U[i]? with
 |none=>rw[e]at q;simp![JAP]at q;rw[h]at q;cases q
 |some t =>
  rw[e]at q;cases t with
  |no=>simp![JAP]at q;rw[h]at q;cases q
  |val d=>simp![JAP]at q;rw[h]at q;cases q.1
  |own d =>
   simp![JAP]at q;obtain⟨a',ds,xs,e1,e2,e3,e4,e5,e6⟩:=q;rw[h]at e1;cases e1;subst e2;exact#[_,xs,rfl,e3,e4,e5,e6]
abbrev JBk(x:E)(O:Ow)(n:Nat)(h:Heap):Pq :=
 (List.range n).filterMap λi=>match O i with
   |some a=>if x.uses i=true then none else (h.get? a).map λo=>(a,o)
   |none=>none
def JAg(hb:Dm X.H₀ Hb)(so:SO B Hb Y H U O):∀a,unP x O a->∃xs,H a=some xs/\X.H₀ a=none/\Ownb xs:=λa h_=>by
 obtain⟨i,h,_⟩:=h_;obtain⟨ds,xs,_,_,e4,e5,e6⟩:=so.own h;exact#[xs,e4,hb.free e5,e6.b]
def JAw{n:Nat}:∀p∈JBk x O n h,unP x O p.1/\h.get? p.1=some p.2:=λp hp=>by
 obtain⟨i,_,e⟩:=List.mem_filterMap.mp hp;cases q:O i with
 |none=>rw[q]at e;cases e
 |some a =>
  rw[q]at e;simp only at e
  split at e
  ·cases e
  ·rename_i hu;obtain⟨o,ho,e2⟩:=q_d.mp e;subst e2;exact#[#[i,q,by simpa using hu],ho]
def JAf(I:Inv X yp Y H s)(so:SO B Hb Y H U O):∀a,unP x O a->∃o,(a,o)∈JBk x O U.length s.heap/\s.heap.get? a=some o:=λa h_=>by
 obtain⟨i,h,hu⟩:=h_;obtain⟨ds,xs,e1,_,e4,_,e9⟩:=so.own h;obtain⟨oo,ho⟩:∃oo,s.heap.get? a=some oo:=by
  have h9:=e9.b;cases xs with
  |lst xs=>obtain⟨_,its,n,_,ho⟩:=I.hok a _ e4;exact#[_,ho]
  |_=>exact h9.elim
 refine#[_,List.mem_filterMap.mpr #[i,List.mem_range.mpr (q_p.mp e1).1,?_],ho];rw[h];simp![hu,q_v,if_false,ho,Option.map_some]
def JAY(so:SO B Hb Y H U O):Same Hb (hid H O):=λb o e=>by
 rw[hid,JAK λ⟨i,h⟩=>by obtain⟨_,_,_,_,_,e5,_⟩:=so.own h;rw[e]at e5;cases e5]
 exact so.same b o e
def same_un:Same (hid H O) (hidP H (unP x O)):=λb o e=>by
 obtain⟨h1,h2⟩:=JA1 e;rw[JAK λ⟨i,h,_⟩=>h1 #[i,h]];exact h2
def JAc(so:SO B Hb Y H U O):Sok B Y (hidP H (unP x O)) (JAV x 0 U):=λi d e=>by
 unfold look at e;rw[JCV,Nat.zero_add]at e;have q:=so.slot i;cases e1:U[i]? with
 |none=>rw[e1]at e;cases e
 |some t =>
  rw[e1]at e q;simp![Option.map_some]at e;cases t with
  |no =>
   simp![Sl.isOwn,q_v,if_false,ite_self,Sl.get]at e;cases e
  |val d' =>
   simp![Sl.isOwn,q_v,if_false,ite_self,Sl.get]at e;cases e;simp![JAP]at q;obtain⟨_,v,e2,dn⟩:=q;exact#[v,e2,Den.mono same_un d v dn]
  |own d' =>
   by_cases hu:x.uses i=true
   ·rw[if_pos hu]at e;simp![JAP]at q;obtain⟨a,ds,xs,q1,q2,q3,q4,q5,q6⟩:=q;subst q2;obtain⟨ys,rfl,rfl⟩:∃ys,d'=.list ys/\d=.list ys:=by
     cases d' with
     |list ys=>simp![Sl.get]at e;cases e;exact#[ys,rfl,rfl]
     |_=>cases xs<;>exact fF q6
    refine#[_,q3,(OwnO.mono same_un _ xs q6).den ?_];rw[JAK λh_=>by
     obtain⟨j,hj,hu2⟩:=h_;have:=so.inj i j a q1 hj;subst this;rw[hu]at hu2;cases hu2]
    exact q4
   ·rw[if_neg hu]at e;simp![Sl.isOwn,if_true,Sl.get]at e;cases e
def JBH:Agr x U (JAV x 0 U):=λi hi=>by
 rw[JCV,Nat.zero_add];cases U[i]? with
 |none=>rfl
 |some t=>simp[hi]
def JCx(so:SO B Hb Y H U O)(sm:Same (hidP H (unP x O)) H1)(hz:∀a,unP x O a->H1 a=none):SO B Hb Y (mixP H H1 (unP x O)) U O:=by
 have s1:Same (hid H O) (hid (mixP H H1 (unP x O)) O):=λb o e=>by
  obtain⟨h1,h2⟩:=JA1 e;rw[hid,JAK h1,JAQ λ⟨i,h,_⟩=>h1 #[i,h]];exact sm b o (by rw[JAK λ⟨i,h,_⟩=>h1 #[i,h]];exact h2)
 refine#[so.len,λb o e=>?_,so.inj,λi=>?_]
 ·have e1:=JAY so b o e;obtain⟨_,h2⟩:=JA1 (s1 b o e1);exact h2
 ·have q:=so.slot i;cases e1:U[i]? with
  |none=>rw[e1]at q;exact q
  |some t =>
   rw[e1]at q;cases t with
   |no=>exact q
   |val d =>
    simp![JAP]at q ⊢;obtain⟨h0,v,e2,dn⟩:=q;exact#[h0,v,e2,Den.mono s1 d v dn]
   |own d =>
    simp![JAP]at q ⊢;obtain⟨a,ds,xs,q1,q2,q3,q4,q5,q6⟩:=q;refine#[a,ds,xs,q1,q2,q3,?_,q5,OwnO.mono s1 ds xs q6]
    by_cases hp:unP x O a
    ·rw[JBc hp];exact q4
    ·rw[JAQ hp];exact sm a _ (by rw[JAK hp];exact q4)
abbrev frzO(x:E)(O:Ow):Ow:=λi=>if x.uses i=true then none else O i
def ownP_frz{b:Addr}:ownP (frzO x O) b↔unP x O b:=by
 constructor
 ·rintro⟨i,h⟩;unfold frzO at h
  split at h
  ·cases h
  ·rename_i hu;exact#[i,h,by simpa using hu]
 ·rintro⟨i,h,hu⟩;exact#[i,by unfold frzO;rw[if_neg (by rw[hu];exact Bool.false_ne_true)];exact h]
def JBC(hz:∀a,unP x O a->H1 a=none):Same H1 (hid (mixP H H1 (unP x O)) (frzO x O)):=λb o e=>by
 have hb:¬unP x O b:=λh=>by rw[hz b h]at e;cases e
 rw[hid,JAK (λh=>hb (ownP_frz.mp h)),JAQ hb];exact e
def JFP(so:SO B Hb Y H U O)(sm:Same (hidP H (unP x O)) H1)(hz:∀a,unP x O a->H1 a=none):SO B Hb Y (mixP H H1 (unP x O)) (JAL x 0 U) (frzO x O):=by
 have s1:Same (hid H O) (hid (mixP H H1 (unP x O)) (frzO x O)):=(same_un.trans sm).trans (JBC hz);have k:=JCx so sm hz;refine#[by rw[JFe];exact so.len,k.same,λi j a h1 h2=>?_,λi=>?_]
 ·unfold frzO at h1 h2
  split at h1
  ·cases h1
  ·split at h2
   ·cases h2
   ·exact so.inj i j a h1 h2
 ·rw[JEz,Nat.zero_add];have q:=so.slot i;cases e1:U[i]? with
  |none=>rw[e1]at q;simp![JAP,Option.map_none]at q ⊢;unfold frzO;split<;>first|rfl|exact q
  |some t =>
   rw[e1]at q;simp![Option.map_some];cases t with
   |no =>
    simp![Sl.frz,ite_self,JAP]at q ⊢;unfold frzO;split<;>first|rfl|exact q
   |val d =>
    simp![Sl.frz,ite_self,JAP]at q ⊢;obtain⟨h0,v,e2,dn⟩:=q;exact#[by unfold frzO;split<;>first|rfl|exact h0,v,e2,Den.mono s1 d v dn]
   |own d =>
    by_cases hu:x.uses i=true
    ·rw[if_pos hu];have ho:frzO x O i=none:=by unfold frzO;rw[if_pos hu]
     simp![JAP]at q;obtain⟨a,ds,xs,q1,q2,q3,q4,q5,q6⟩:=q;subst q2;cases d with
     |dict kvs=>cases xs<;>exact fF q6
     |none=>cases xs<;>exact fF q6
     |bool _=>cases xs<;>exact fF q6
     |int _=>cases xs<;>exact fF q6
     |str _=>cases xs<;>exact fF q6
     |tuple _=>cases xs<;>exact fF q6
     |list ys =>
     simp![Sl.frz,JAP];refine#[ho,_,q3,(OwnO.mono s1 _ xs q6).den ?_];have hp:¬unP x O a:=λh_=>by
      obtain⟨j,hj,hu2⟩:=h_;have:=so.inj i j a q1 hj;subst this;rw[hu]at hu2;cases hu2
     exact JBC hz a _ (sm a _ (by rw[JAK hp];exact q4))
    ·rw[if_neg hu];simp![JAP]at q ⊢;obtain⟨a,ds,xs,q1,q2,q3,q4,q5,q6⟩:=q;have hp:unP x O a:=#[i,q1,by simpa using hu]
     refine#[a,ds,xs,by unfold frzO;rw[if_neg hu];exact q1,q2,q3,by rw[JBc hp];exact q4,q5,OwnO.mono s1 ds xs q6]
def JKv(so:SO B Hb Y H U O){d:D}(sm:Same (hidP H (unP x O)) H1)(hz:∀a,unP x O a->H1 a=none)(dn:Den B H1 d v) :
  ∃O',SO B Hb Y (mixP H H1 (unP x O)) (after x d U) O'/\Den B (hid (mixP H H1 (unP x O)) O') d v:=by
 unfold after
 split
 ·exact#[_,JFP so sm hz,Den.mono (JBC hz) d v dn]
 ·rename_i hb;refine#[O,JCx so sm hz,?_];cases hu:JAS x 0 U with
  |false =>
   refine Den.mono (λb o e=>?_) d v dn;have hb':¬unP x O b:=λh=>by rw[hz b h]at e;cases e
   have hb2:¬ownP O b:=λh_=>by
    obtain⟨i,h⟩:=h_;obtain⟨ds,xs,e1,_⟩:=so.own h;refine hb' #[i,h,?_];cases q:x.uses i with
    |false=>rfl
    |true =>
     have:=JBX x U 0 i _ hu e1 (by rw[Nat.zero_add];exact q)
     cases this
   rw[hid,JAK hb2,JAQ hb'];exact e
  |true =>
   have hl:JAW d=true:=by
    rw[hu]at hb;cases q:JAW d with
    |true=>rfl
    |false=>rw[q]at hb;exact absurd rfl hb
   refine JDn (λb o e ho=>?_) d v hl dn;have hb':¬unP x O b:=λh=>by rw[hz b h]at e;cases e
   have hb2:¬ownP O b:=λh_=>by
    obtain⟨i,h⟩:=h_;obtain⟨ds,xs,_,_,e4,_,e9⟩:=so.own h;have:=sm b _ (by rw[JAK hb'];exact e4)
    rw[e]at this;cases this;exact ho e9.b
   rw[hid,JAK hb2,JAQ hb'];exact e
def RS(X:Cx)(B:Bs)(C:Cn)(XX:Nat->Hp->Prop)(x:E):TE:=λY H Q=>∃U O Hb,Dm X.H₀ Hb/\SO B Hb Y H U O/\(match ev C x U with
 |.ok d=>∀v H' O',SO B Hb Y H' (after x d U) O'->Den B (hid H' O') d v->Q v H'
 |.exc c=>XX c Hb
 |.bad=>False)
def RTS(X:Cx)(B:Bs)(C:Cn)(XX:Nat->Hp->Prop)(x:E):TT:=λY H Q=>∃U O Hb,Dm X.H₀ Hb/\SO B Hb Y H U O/\(match evT C x U with
 |.ok b=>∀H',SO B Hb Y H' U O->Q b H'
 |.exc c=>XX c Hb
 |.bad=>False)
def RIS(X:Cx)(B:Bs)(C:Cn)(XX:Nat->Hp->Prop)(x:E):TI:=λY H Q=>∃U O Hb,Dm X.H₀ Hb/\SO B Hb Y H U O/\(match evI C x U with
 |.ok ds=>∀J H' O',SO B Hb Y H' (JAL x 0 U) O'->ItOk B J (hid H' O') ds->Q J H'
 |.exc c=>XX c Hb
 |.bad=>False)
def JHI(g:Gk X B C CX XX G){e:Expr}(he:PE X e (RE B C XX x)):PE X e (RS X B C XX x):=by
 rintro yp s Y H Q I ⟨U,O,Hb,hb,so,k⟩;have J0:=JBI (ps:=JBk x O U.length s.heap) I (JAg (x:=x) hb so) JAw;have hev:=(agree C x U (JAV x 0 U) JBH).1;cases q:ev C x U with
 |ok d =>
  rw[q]at k;refine thn (he _ s Y _ (λv H1=>Same (hidP H (unP x O)) H1/\Den B H1 d v) J0 #[JAV x 0 U,JAc so,by rw[<-hev,q];exact λv H1 s1 d1=>#[s1,d1]]) λu s1 h_=>?_
  obtain⟨v,H1,J,r,sm,dn⟩:=h_;obtain⟨I',hz⟩:=JAu I J (JAg hb so) (JAf I so);obtain⟨O',so',dn'⟩:=JKv so sm hz dn;exact#[v,_,I',r,k v _ O' so' dn']
 |exc c =>
  rw[q]at k;exact thn (he _ s Y _ (λv H1=>False) J0 #[JAV x 0 U,JAc so,by rw[<-hev,q];exact g.anti c _ _ ((JAY so).trans same_un) k]) λu s1 ⟨v,H1,J,r,f⟩=>f.elim
 |bad=>rw[q]at k;exact k.elim
def JL8(g:Gk X B C CX XX G){e:Expr}(he:PT X e (RT B C XX x)):PT X e (RTS X B C XX x):=by
 rintro yp s Y H Q I ⟨U,O,Hb,hb,so,k⟩;have J0:=JBI (ps:=JBk x O U.length s.heap) I (JAg (x:=x) hb so) JAw;have hev:=(agree C x U (JAV x 0 U) JBH).2.1;cases q:evT C x U with
 |ok d =>
  rw[q]at k;refine thn (he _ s Y _ (λb H1=>b=d/\Same (hidP H (unP x O)) H1) J0 #[JAV x 0 U,JAc so,by rw[<-hev,q];exact λH1 s1=>#[rfl,s1]]) λu s1 h_=>?_
  obtain⟨H1,J,e,sm⟩:=h_;subst e;obtain⟨I',hz⟩:=JAu I J (JAg hb so) (JAf I so);exact#[_,I',k _ (JCx so sm hz)]
 |exc c =>
  rw[q]at k;exact thn (he _ s Y _ (λv H1=>False) J0 #[JAV x 0 U,JAc so,by rw[<-hev,q];exact g.anti c _ _ ((JAY so).trans same_un) k]) λu s1 ⟨H1,J,f⟩=>f.elim
 |bad=>rw[q]at k;exact k.elim
def JMZ(g:Gk X B C CX XX G){tg e:Expr}(he:PI X tg e (RI B C XX x)):PI X tg e (RIS X B C XX x):=by
 rintro yp s Y H Q I ⟨U,O,Hb,hb,so,k⟩;have J0:=JBI (ps:=JBk x O U.length s.heap) I (JAg (x:=x) hb so) JAw;have hev:=(agree C x U (JAV x 0 U) JBH).2.2.2;cases q:evI C x U with
 |ok ds =>
  rw[q]at k;refine thn (he _ s Y _ (λJt H1=>Same (hidP H (unP x O)) H1/\ItOk B Jt H1 ds) J0 #[JAV x 0 U,JAc so,by rw[<-hev,q];exact λJt H1 s1 d1=>#[s1,d1]]) λu s1 h1=>thn h1 λitv s2 h2=>?_
  obtain⟨it,fp,tn,Jt,H1,e,J,T,st,f,sm,io⟩:=h2;obtain⟨I',hz⟩:=JAu I J (JAg hb so) (JAf I so);refine#[it,fp,tn,Jt,_,e,I',T,st,λb hb=>?_,k Jt _ _ (JFP so sm hz) λH2 s2 i=>#[λd e=>#[((io H2 (Same.kpT (JBC hz) s2) i).1 d e).1,λv H3 y=>(((io H2 (Same.kpT (JBC hz) s2) i).1 d e).2 v H3 y).imp (λq=>#[q.1,Den.mono (JBC hz) d v q.2]) λ⟨p,xs,es,z1,z2,z3,z4,z5⟩=>#[p,xs,es,z1,z2,z3,z4,DenL.mono (JBC hz) _ _ z5]],(io H2 (Same.kpT (JBC hz) s2) i).2]];obtain⟨f1,f2,f3,f4,f5,f6⟩:=f b hb;refine#[?_,f2,f3,f4,f5,λp hp=>f6 p ?_]
  ·rw[JAQ λhp=>by
    obtain⟨o,hm,_⟩:=JAf I so b hp;exact f6 (b,o) (q_r _ (q_r _ hm)) rfl]
   exact f1
  ·rcases List.mem_append.mp hp with z|z
   ·exact List.mem_append_left _ z
   ·exact q_r _ (List.mem_append_left _ z)
 |exc c =>
  rw[q]at k;refine thn (he _ s Y _ (λ_ _=>False) J0 #[JAV x 0 U,JAc so,by rw[<-hev,q];exact g.anti c _ _ ((JAY so).trans same_un) k]) λu s1 h1=>thn h1 λitv s2 h2=>?_
  obtain⟨_,_,_,_,_,_,_,_,_,_,f⟩:=h2;exact f.elim
 |bad=>rw[q]at k;exact k.elim
end
def same_hidP:Same (hidP H P) H:=λb o e=>(JA1 e).2
section
variable{X:Cx}{B:Bs}{C:Cn}{CX:CXT}{XX:Nat->Hp->Prop}{G:List (Str×GK)}{yp:Pq}{Y:St}{H:Hp}{s:Shared}{U:Env}{O:Ow}{x:E}{Hb Hb':Hp}
def SO.weak(so:SO B Hb' Y H U O)(h:Same Hb Hb'):SO B Hb Y H U O:=by
 refine#[so.len,h.trans so.same,so.inj,λi=>?_];have q:=so.slot i;cases e:U[i]? with
 |none=>rw[e]at q;exact q
 |some t =>
  rw[e]at q;cases t with
  |no=>exact q
  |val d=>exact q
  |own d =>
   simp![JAP]at q ⊢;obtain⟨a,ds,xs,q1,q2,q3,q4,q5,q6⟩:=q;exact#[a,ds,xs,q1,q2,q3,q4,h.free q5,q6]
def SO.base(so:SO B Hb Y H U O):SO B (hid H O) Y H U O:=by
 refine#[so.len,same_hidP,so.inj,λi=>?_];have q:=so.slot i;cases e:U[i]? with
 |none=>rw[e]at q;exact q
 |some t =>
  rw[e]at q;cases t with
  |no=>exact q
  |val d=>exact q
  |own d =>
   simp![JAP]at q ⊢;obtain⟨a,ds,xs,q1,q2,q3,q4,q5,q6⟩:=q;exact#[a,ds,xs,q1,q2,q3,q4,JAv #[i,q1],q6]
abbrev setO(O:Ow)(i:Nat)(a:Option Addr):Ow:=λj=>if j=i then a else O j
def JA2{i:Nat}:setO O i a i=a:=if_pos rfl
def JAx{i j:Nat}(h:j≠i):setO O i a j=O j:=if_neg h
def JBB{i:Nat}:Same (hid H O) (hid H (setO O i none)):=λb o e=>by
 obtain⟨h1,h2⟩:=JA1 e;rw[hid,JAK λ⟨j,hj⟩=>h1 #[j,by
  by_cases hji:j=i
  ·subst hji;rw[JA2]at hj;cases hj
  ·rw[JAx hji]at hj;exact hj]]
 exact h2
def JGF(so:SO B Hb Y H U O){i:Nat}{d:D}(dn:Den B (hid H O) d v):SO B Hb (Y.set i (some v)) H (U.set i (.val d)) (setO O i none):=by
 refine#[by simpa using so.len,so.same,λj k a h1 h2=>?_,λj=>?_]
 ·by_cases hj:j=i
  ·subst hj;rw[JA2]at h1;cases h1
  ·by_cases hk:k=i
   ·subst hk;rw[JA2]at h2;cases h2
   ·rw[JAx hj]at h1;rw[JAx hk]at h2;exact so.inj j k a h1 h2
 ·by_cases hj:j=i
  ·subst hj
   by_cases hl:j<U.length
   ·rw[q_z hl];simp![JAP];exact#[JA2,v,q_z (by rw[so.len];exact hl),Den.mono JBB d v dn]
   ·rw[List.getElem?_eq_none_iff.mpr (by simpa using hl)]
    exact JA2
  ·rw[q_A (Ne.symm hj)];have q:=so.slot j;cases e:U[j]? with
   |none=>rw[e]at q;simp![JAP]at q ⊢;rw[JAx hj];exact q
   |some t =>
    rw[e]at q;cases t with
    |no=>simp![JAP]at q ⊢;rw[JAx hj];exact q
    |val d' =>
     simp![JAP]at q ⊢;rw[JAx hj,q_A (Ne.symm hj)];obtain⟨h0,w,e2,dn'⟩:=q;exact#[h0,w,e2,Den.mono JBB d' w dn']
    |own d' =>
     simp![JAP]at q ⊢;rw[JAx hj,q_A (Ne.symm hj)];obtain⟨a,ds,xs,q1,q2,q3,q4,q5,q6⟩:=q;exact#[a,ds,xs,q1,q2,q3,q4,q5,OwnO.mono JBB ds xs q6]
def JF8(so:SO B Hb Y H U O){Da:Addr}(hD:H Da=none):SO B Hb Y (upd H Da o) U O:=by
 have own:∀j a,O j=some a->∃xs,H a=some xs:=λj a h=>by
  have q:=so.slot j;cases e:U[j]? with
  |none=>rw[e]at q;simp![JAP]at q;rw[h]at q;cases q
  |some t =>
   rw[e]at q;cases t with
   |no=>simp![JAP]at q;rw[h]at q;cases q
   |val d=>simp![JAP]at q;rw[h]at q;cases q.1
   |own d =>
    simp![JAP]at q;obtain⟨a',ds',xs',e1,e2,e3,e4,_⟩:=q;rw[h]at e1;cases e1;exact#[xs',e4]
 have s1:Same (hid H O) (hid (upd H Da o) O):=λb u e=>by
  obtain⟨h1,h2⟩:=JA1 e;have hb:b≠Da:=λz=>by rw[z,hD]at h2;cases h2
  rw[hid,JAK h1,JAJ hb];exact h2
 refine#[so.len,so.same.trans (JA0 hD),so.inj,λj=>?_];have q:=so.slot j;cases e:U[j]? with
 |none=>rw[e]at q;exact q
 |some t =>
  rw[e]at q;cases t with
  |no=>exact q
  |val d' =>
   simp![JAP]at q ⊢;obtain⟨h0,w,e2,dn'⟩:=q;exact#[h0,w,e2,Den.mono s1 d' w dn']
  |own d' =>
   simp![JAP]at q ⊢;obtain⟨a,ds',xs',q1,q2,q3,q4,q5,q6⟩:=q;exact#[a,ds',xs',q1,q2,q3,by rw[JAJ λz=>by rw[z,hD]at q4;cases q4];exact q4,q5,OwnO.mono s1 ds' xs' q6]
def JHT(so:SO B Hb Y H U O){i:Nat}(hil:i<U.length){Da:Addr}(hD:H Da=none)(dn:OwnO B (hid H O) ds xs):SO B Hb (Y.set i (some (.ref Da))) (upd H Da xs) (U.set i (.own ds)) (setO O i (some Da)):=by
 have nO:∀j a,O j=some a->a≠Da:=λj a h z=>by
  subst z;have q:=so.slot j;cases e:U[j]? with
  |none=>rw[e]at q;simp![JAP]at q;rw[h]at q;cases q
  |some t =>
   rw[e]at q;cases t with
   |no=>simp![JAP]at q;rw[h]at q;cases q
   |val d=>simp![JAP]at q;rw[h]at q;cases q.1
   |own d =>
    simp![JAP]at q;obtain⟨a',ds',xs',e1,e2,e3,e4,_⟩:=q;rw[h]at e1;cases e1;rw[hD]at e4;cases e4
 have s1:Same (hid H O) (hid (upd H Da xs) (setO O i (some Da))):=λb o e=>by
  obtain⟨h1,h2⟩:=JA1 e;have hb:b≠Da:=λz=>by rw[z,hD]at h2;cases h2
  rw[hid,JAK λh_=>by
   obtain⟨j,hj⟩:=h_
   by_cases hji:j=i
   ·subst hji;rw[JA2]at hj;exact hb (Option.some.inj hj).symm
   ·rw[JAx hji]at hj;exact h1 #[j,hj],JAJ hb]
  exact h2
 refine#[by simpa using so.len,so.same.trans (JA0 hD),λj k a h1 h2=>?_,λj=>?_]
 ·by_cases hj:j=i
  ·subst hj;rw[JA2]at h1
   by_cases hk:k=j
   ·exact hk.symm
   ·rw[JAx hk]at h2;exact absurd (Option.some.inj h1).symm (nO k a h2)
  ·by_cases hk:k=i
   ·subst hk;rw[JA2]at h2;rw[JAx hj]at h1;exact absurd (Option.some.inj h2).symm (nO j a h1)
   ·rw[JAx hj]at h1;rw[JAx hk]at h2;exact so.inj j k a h1 h2
 ·by_cases hj:j=i
  ·subst hj
   by_cases hl:j<U.length
   ·rw[q_z hl];simp![JAP];exact#[Da,ds,xs,JA2,rfl,q_z (by rw[so.len];exact hl),JAH,so.same.free hD,OwnO.mono s1 ds xs dn]
   ·exact absurd hil hl
  ·rw[q_A (Ne.symm hj)];have q:=so.slot j;cases e:U[j]? with
   |none=>rw[e]at q;simp![JAP]at q ⊢;rw[JAx hj];exact q
   |some t =>
    rw[e]at q;cases t with
    |no=>simp![JAP]at q ⊢;rw[JAx hj];exact q
    |val d' =>
     simp![JAP]at q ⊢;rw[JAx hj,q_A (Ne.symm hj)];obtain⟨h0,w,e2,dn'⟩:=q;exact#[h0,w,e2,Den.mono s1 d' w dn']
    |own d' =>
     simp![JAP]at q ⊢;rw[JAx hj,q_A (Ne.symm hj)];obtain⟨a,ds',xs',q1,q2,q3,q4,q5,q6⟩:=q;exact#[a,ds',xs',q1,q2,q3,by rw[JAJ (nO j a q1)];exact q4,q5,OwnO.mono s1 ds' xs' q6]
def JIn(so:SO B Hb Y H U O){i:Nat}{Da:Addr}(hD:H Da=none)(dn:OwnO B (hid H O) ds xs):∃O',SO B Hb (Y.set i (some (.ref Da))) (upd H Da xs) (U.set i (.own ds)) O':=by
 by_cases hi:i<U.length
 ·exact#[_,JHT so hi hD dn]
 ·rw[List.set_eq_of_length_le (l:=Y) (by rw[so.len];omega),List.set_eq_of_length_le (l:=U) ∅]
  exact#[O,JF8 so hD]
def JEv(so:SO B Hb Y H U O){i:Nat}{a:Addr}(ha:O i=some a)(dn:OwnO B (hid H O) ds xs):SO B Hb Y (upd H a xs) (U.set i (.own ds)) O:=by
 have eh:hid (upd H a xs) O=hid H O:=by
  funext b
  by_cases hb:ownP O b
  ·rw[hid,hid,JAv hb,JAv hb]
  ·rw[hid,hid,JAK hb,JAK hb,JAJ λz=>hb #[i,by rw[z];exact ha]]
 have own:=λ(j:Nat) (b:Addr) (h:O j=some b)=>so.inj i j;have hq:=so.slot i;obtain⟨ds0,xs0,e1,e2,e3,e4⟩:∃ds0 xs0,U[i]? = some (.own ds0)/\Y[i]? = some (some (.ref a))/\H a=some xs0/\Hb a=none:=by
  cases e:U[i]? with
  |none=>rw[e]at hq;simp![JAP]at hq;rw[ha]at hq;cases hq
  |some t =>
   rw[e]at hq;cases t with
   |no=>simp![JAP]at hq;rw[ha]at hq;cases hq
   |val d=>simp![JAP]at hq;rw[ha]at hq;cases hq.1
   |own d =>
    simp![JAP]at hq;obtain⟨a',ds',xs',f1,f2,f3,f4,f5,_⟩:=hq;rw[ha]at f1;cases f1;subst f2;exact#[_,xs',rfl,f3,f4,f5]
 refine#[by simpa using so.len,λb o e=>?_,so.inj,λj=>?_]
 ·rw[JAJ λz=>by rw[z,e4]at e;cases e]
  exact so.same b o e
 ·by_cases hj:j=i
  ·subst hj;rw[q_z (q_p.mp e1).1];simp![JAP];exact#[a,ds,xs,ha,rfl,e2,JAH,e4,by rw[eh];exact dn]
  ·rw[q_A (Ne.symm hj)];have q:=so.slot j;cases e:U[j]? with
   |none=>rw[e]at q;exact q
   |some t =>
    rw[e]at q;cases t with
    |no=>exact q
    |val d' =>
     simp![JAP]at q ⊢;rw[eh];exact q
    |own d' =>
     simp![JAP]at q ⊢;obtain⟨a',ds',xs',q1,q2,q3,q4,q5,q6⟩:=q;refine#[a',ds',xs',q1,q2,q3,?_,q5,by rw[eh];exact q6]
     rw[JAJ λz=>hj (so.inj j i a (by rw[<-z];exact q1) ha)]
     exact q4
def RSF(X:Cx)(B:Bs)(C:Cn)(XX:Nat->Hp->Prop)(x:E):TE:=λY H Q=>∃U O Hb,Dm X.H₀ Hb/\SO B Hb Y H U O/\(match ev C x U with
 |.ok d=>∀Da ds xs H1 O',d=ds->SO B Hb Y H1 (after x d U) O'->H1 Da=none->OwnO B (hid H1 O') ds xs->Q (.ref Da) (upd H1 Da xs)
 |.exc c=>XX c Hb
 |.bad=>False)
def JJt{Da:Addr}(h:¬P Da):mixP H (upd H1 Da o) P=upd (mixP H H1 P) Da o:=by
 funext b
 by_cases hb:b=Da
 ·subst hb;rw[JAQ h,JAH,JAH]
 ·rw[JAJ hb]
  by_cases hp:P b
  ·rw[JBc hp,JBc hp]
  ·rw[JAQ hp,JAQ hp,JAJ hb]
def JEx(so:SO B Hb Y H U O)(sm:Same (hidP H (unP x O)) H1)(hz:∀a,unP x O a->H1 a=none)(dn:OwnO B H1 ds xs) :
  ∃O',SO B Hb Y (mixP H H1 (unP x O)) (after x ds U) O'/\OwnO B (hid (mixP H H1 (unP x O)) O') ds xs:=by
 unfold after
 split
 ·exact#[_,JFP so sm hz,OwnO.mono (JBC hz) ds xs dn]
 ·rename_i hb;have hu:JAS x 0 U=false:=by
   cases q:JAS x 0 U with
   |false=>rfl
   |true=>rw[q]at hb;exact absurd (by rw[dn.nl];rfl) hb
  refine#[O,JCx so sm hz,OwnO.mono (λb o e=>?_) ds xs dn];have hb':¬unP x O b:=λh=>by rw[hz b h]at e;cases e
  have hb2:¬ownP O b:=λh_=>by
   obtain⟨i,h⟩:=h_;obtain⟨ds,xs,e1,_⟩:=so.own h;refine hb' #[i,h,?_];cases q:x.uses i with
   |false=>rfl
   |true =>
    have:=JBX x U 0 i _ hu e1 (by rw[Nat.zero_add];exact q)
    cases this
  rw[hid,JAK hb2,JAQ hb'];exact e
def JLz(g:Gk X B C CX XX G){e:Expr}(he:PE X e (REF B C XX x)):PE X e (RSF X B C XX x):=by
 rintro yp s Y H Q I ⟨U,O,Hb,hb,so,k⟩;have J0:=JBI (ps:=JBk x O U.length s.heap) I (JAg (x:=x) hb so) JAw;have hev:=(agree C x U (JAV x 0 U) JBH).1;cases q:ev C x U with
 |ok d =>
  rw[q]at k;refine thn (he _ s Y _ (λv H1=>∃Da ds xs H2,v=.ref Da/\H1=upd H2 Da xs/\d=ds/\Same (hidP H (unP x O)) H2/\H2 Da=none/\OwnO B H2 ds xs) J0
   #[JAV x 0 U,JAc so,by rw[<-hev,q];exact λDa ds xs H1 e s1 hD dn=>#[Da,ds,xs,H1,rfl,rfl,e,s1,hD,dn]]) λu s1 ⟨v,H1,J,r,Da,ds,xs,H2,e1,e2,e3,sm,hD,dn⟩=>?_
  subst e1;subst e2;subst e3;obtain⟨I',hz⟩:=JAu I J (JAg hb so) (JAf I so);have nD:¬unP x O Da:=λh=>by have:=hz Da h;rw[JAH]at this;cases this
  have hz2:∀a,unP x O a->H2 a=none:=λa h=>by
   have:=hz a h
   rwa [JAJ λz=>nD (by rw[<-z];exact h)]at this
  rw[JJt nD]at I';obtain⟨O',so',dn'⟩:=JEx so sm hz2 dn;exact#[_,_,I',r,k Da _ xs _ O' rfl so' (by rw[JAQ nD];exact hD) dn']
 |exc c =>
  rw[q]at k;exact thn (he _ s Y _ (λv H1=>False) J0 #[JAV x 0 U,JAc so,by rw[<-hev,q];exact g.anti c _ _ ((JAY so).trans same_un) k]) λu s1 ⟨v,H1,J,r,f⟩=>f.elim
 |bad=>rw[q]at k;exact k.elim
def JQl(g:Gk X B C CX XX G){st:Stmt}{i:Nat}(he:PS X st (tAsg (REF B C XX x) (JEn i))):PS X st (tAsg (RSF X B C XX x) (JEn i)):=by
 intro yp s Y H D I h;obtain⟨U,O,Hb,hb,so,k⟩:=h;have J0:=JBI (ps:=JBk x O U.length s.heap) I (JAg (x:=x) hb so) JAw;have hev:=(agree C x U (JAV x 0 U) JBH).1;cases q:ev C x U with
 |ok d =>
  rw[q]at k;refine thn (he _ s Y _ { nx:=λY' H1=>∃Da ds xs H2,Y'=Y.set i (some (.ref Da))/\H1=upd H2 Da xs/\d=ds/\Same (hidP H (unP x O)) H2/\H2 Da=none/\OwnO B H2 ds xs,rt:=λ_ _=>False } J0
   #[JAV x 0 U,JAc so,by rw[<-hev,q];exact λDa ds xs H1 e s1 hD dn=>#[Da,ds,xs,H1,rfl,rfl,e,s1,hD,dn]]) λf s1 hf=>?_
  cases f with
  |next =>
   obtain⟨Y',H1,J,Da,ds,xs,H2,e1,e2,e3,sm,hD,dn⟩:=hf;subst e1;subst e2;subst e3;obtain⟨I',hz⟩:=JAu I J (JAg hb so) (JAf I so);have nD:¬unP x O Da:=λh=>by have:=hz Da h;rw[JAH]at this;cases this
   have hz2:∀a,unP x O a->H2 a=none:=λa h=>by
    have:=hz a h
    rwa [JAJ λz=>nD (by rw[<-z];exact h)]at this
   rw[JJt nD]at I';obtain⟨O',so',dn'⟩:=JEx so sm hz2 dn;exact#[_,_,I',k Da _ xs _ O' rfl so' (by rw[JAQ nD];exact hD) dn']
  |ret v=>obtain⟨_,_,_,_,_,f⟩:=hf;exact f.elim
  |brk=>obtain⟨_,_,_,f⟩:=hf;exact fF f
  |cont=>obtain⟨_,_,_,f⟩:=hf;exact fF f
 |exc c =>
  rw[q]at k;refine thn (he _ s Y _ { nx:=λ_ _=>False,rt:=λ_ _=>False } J0 #[JAV x 0 U,JAc so,by rw[<-hev,q];exact g.anti c _ _ ((JAY so).trans same_un) k]) λf s1 hf=>?_
  cases f with
  |next=>obtain⟨_,_,_,f⟩:=hf;exact f.elim
  |ret v=>obtain⟨_,_,_,_,_,f⟩:=hf;exact f.elim
  |brk=>obtain⟨_,_,_,f⟩:=hf;exact fF f
  |cont=>obtain⟨_,_,_,f⟩:=hf;exact fF f
 |bad=>rw[q]at k;exact k.elim
end
section
variable{X:Cx}{B:Bs}{C:Cn}{CX:CXT}{XX:Nat->Hp->Prop}{G:List (Str×GK)}{x:E}{pos:Pos}
def PS.imp{st:Stmt}{t t':TS}(h:PS X st t)(i:∀D Y H,t' D Y H->t D Y H):PS X st t':=λyp s Y H D I q=>h yp s Y H D I (i D Y H q)
def PSs.imp{st:List Stmt}{t t':TS}(h:PSs X st t)(i:∀D Y H,t' D Y H->t D Y H):PSs X st t':=λyp s Y H D I q=>h yp s Y H D I (i D Y H q)
def JSY:PSs X [] (RSt X B C XX .nil):=PSs.imp JHw λD Y H ⟨U,O,Hb,hb,so,k⟩=>k Y H O so
def JNf{st:Stmt}{r:List Stmt}{a b:S}(h1:PS X st (RSt X B C XX a))(h2:PSs X r (RSt X B C XX b)):PSs X (st::r) (RSt X B C XX (.cons a b)) :=
 PSs.imp (JG7 h1 h2) λD Y H h_=>by
  obtain⟨U,O,Hb,hb,so,k⟩:=h_;refine#[U,O,Hb,hb,so,?_];simp![exec]at k;cases q:exec C a U with
  |nx U'=>rw[q]at k;exact λY' H' O' so'=>#[U',O',Hb,hb,so',k]
  |rt d=>rw[q]at k;exact k
  |bk d=>rw[q]at k;exact k
  |ct d=>rw[q]at k;exact k
  |ex c=>rw[q]at k;exact k
  |bad=>rw[q]at k;exact k
def JNU:PS X (.Pass pos) (RSt X B C XX .pass):=PS.imp JN3 λD Y H ⟨U,O,Hb,hb,so,k⟩=>k Y H O so
def JQb:PS X (.Break pos) (RSt X B C XX .brk):=PS.imp JKc λD Y H ⟨U,O,Hb,hb,so,k⟩=>k Y H O so
def JRF:PS X (.Continue pos) (RSt X B C XX .cnt):=PS.imp JFx λD Y H ⟨U,O,Hb,hb,so,k⟩=>k Y H O so
def JSZ{y:Str}{j:Nat}{pos':Pos}:PS X (.Expr (.Constant (.str y) j pos) pos') (RSt X B C XX .pass):=PS.imp JQU λD Y H ⟨U,O,Hb,hb,so,k⟩=>k Y H O so
def JOp:PS X (.Return none pos) (RSt X B C XX .retN):=PS.imp JN6 λD Y H ⟨U,O,Hb,hb,so,k⟩=>k .non H so.same (by simp![Den])
def JQH(g:Gk X B C CX XX G){e:Expr}(he:PE X e (RE B C XX x)):PS X (.Return (some e) pos) (RSt X B C XX (.ret x)) :=
 PS.imp (JMt (JHI g he)) λD Y H h_=>by
  obtain⟨U,O,Hb,hb,so,k⟩:=h_;refine#[U,O,Hb,hb,so,?_];simp![exec]at k;cases q:ev C x U with
  |ok d=>rw[q]at k;exact λv H' O' so' dn=>k v H' so'.same (Den.mono same_hidP d v dn)
  |exc c=>rw[q]at k;exact k
  |bad=>rw[q]at k;exact k
def JSG(g:Gk X B C CX XX G){c:Expr}{a b:List Stmt}{s1 s2:S}(hc:PT X c (RT B C XX x))(ha:PSs X a (RSt X B C XX s1))(hb:PSs X b (RSt X B C XX s2)):PS X (.If c a b pos) (RSt X B C XX (.ife x s1 s2)) :=
 PS.imp (JRL (JL8 g hc) ha hb) λD Y H h_=>by
  obtain⟨U,O,Hb,hb,so,k⟩:=h_;refine#[U,O,Hb,hb,so,?_];simp![exec]at k;cases q:evT C x U with
  |ok t =>
   rw[q]at k;intro H' so';cases t with
   |true=>exact iteT #[U,O,Hb,hb,so',k]
   |false=>exact iteF #[U,O,Hb,hb,so',k]
  |exc c=>rw[q]at k;exact k
  |bad=>rw[q]at k;exact k
def JOd(g:Gk X B C CX XX G){e:Expr}(he:PE X e (RE B C XX x))(hs:swapsWith e none pos.line X.env=pure false):PS X (.Expr e pos) (RSt X B C XX (.drop x)) :=
 PS.imp (JBo (JHI g he) hs) λD Y H h_=>by
  obtain⟨U,O,Hb,hb,so,k⟩:=h_;refine#[U,O,Hb,hb,so,?_];simp![exec]at k;cases q:ev C x U with
  |ok d=>rw[q]at k;exact λv H' O' so' dn=>k Y H' O' so'
  |exc c=>rw[q]at k;exact k
  |bad=>rw[q]at k;exact k
def JPt(g:Gk X B C CX XX G){e:Expr}{i:Nat}{nm:Str}{pos':Pos}(he:PE X e (RE B C XX x))(hf:x.fresh=false)(hnd:X.N.Nodup)(hN:X.N[i]? = some nm)(hx:Loc X.env.scope nm)(hs:swapsWith e (some (.Name nm pos')) pos.line X.env=pure false)
  (hfn:X.fn nm=true\/X.env.scope.names.lookup nm=some .local):PS X (.Assign [.Name nm pos'] e pos) (RSt X B C XX (.asg i x)) :=
 PS.imp (JHu hnd hN hx (JHI g he) hs hfn) λD Y H h_=>by
  obtain⟨U,O,Hb,hb,so,k⟩:=h_;refine#[U,O,Hb,hb,so,?_];simp![exec,hf,q_v,if_false]at k;cases q:ev C x U with
  |ok d=>rw[q]at k;exact λv H' O' so' dn=>k _ H' _ (JGF so' dn)
  |exc c=>rw[q]at k;exact k
  |bad=>rw[q]at k;exact k
def JFT{i:Nat}(hf:x.fresh=true){D:Ends}{Y:St}{H:Hp}(h:RSt X B C XX (.asg i x) D Y H):tAsg (RSF X B C XX x) (JEn i) D Y H:=by
 obtain⟨U,O,Hb,hb,so,k⟩:=h;refine#[U,O,Hb,hb,so,?_];simp![exec,hf,if_true]at k;cases q:ev C x U with
 |ok d =>
  rw[q]at k;intro Da ds xs H1 O' e so' hD dn;subst e;obtain⟨O2,so2⟩:=JIn (i:=i) so' hD dn;exact k _ _ O2 so2
 |exc c=>rw[q]at k;exact k
 |bad=>rw[q]at k;exact k
def JIb(g:Gk X B C CX XX G){e:Expr}{i:Nat}(he:PE X e (REF B C XX x))(hf:x.fresh=true)(hnd:X.N.Nodup)(hN:X.N[i]? = some nm)(hx:Loc X.env.scope nm)(hs:swapsWith e (some (.Name nm pos')) pos.line X.env=pure false)
  (hfn:X.fn nm=true\/X.env.scope.names.lookup nm=some .local):PS X (.Assign [.Name nm pos'] e pos) (RSt X B C XX (.asg i x)) :=
 PS.imp (JHu hnd hN hx (JLz g he) hs hfn) λD Y H h=>JFT hf h
def JPE(g:Gk X B C CX XX G){st:Stmt}{i:Nat}(h:PS X st (tAsg (REF B C XX x) (JEn i)))(hf:x.fresh=true):PS X st (RSt X B C XX (.asg i x)) :=
 PS.imp (JQl g h) λD Y H h=>JFT hf h
def JQh(g:Gk X B C CX XX G)(hp:PassesOwn (model X.prog X.w) X.A X.env X.xe){c:Expr}{body:List Stmt}{b:S}(hc:PT X c (RT B C XX x))(hb:PSs X body (RSt X B C XX b)):PS X (.While c body [] pos) (RSt X B C XX (.whl x b)) :=
 PS.imp (JKs hp (JL8 g hc) hb) λD Y H h_=>by
  obtain⟨U,O,Hb,hb0,so,k⟩:=h_;simp![exec]at k;unfold JBs at k
  split at k
  ·rename_i hex;refine#[λm Y H=>∃U O,SO B Hb Y H U O/\JDW X B XX Hb D (JAj (evT C x) (exec C b) m U),#[hex.choose,U,O,so,k],?_];rintro m Y H ⟨U,O,so,k⟩;cases m with
   |zero=>exact fF k
   |succ m =>
    refine#[U,O,Hb,hb0,so,?_];simp![JAj]at k;cases q:evT C x U with
    |ok t =>
     rw[q]at k;intro H' so';cases t with
     |true =>
      refine iteT #[λY' H'=>∃U O,SO B Hb Y' H' U O/\JDW X B XX Hb D (JAj (evT C x) (exec C b) m U),λY' H' h=>#[m,Nat.lt_succ_self m,h],U,O,Hb,hb0,so',?_];simp only at k;cases q2:exec C b U with
      |nx U'=>rw[q2]at k;exact λY2 H2 O2 so2=>#[U',O2,so2,k]
      |ct U'=>rw[q2]at k;exact λY2 H2 O2 so2=>#[U',O2,so2,k]
      |bk U'=>rw[q2]at k;exact k
      |rt d=>rw[q2]at k;exact k
      |ex c=>rw[q2]at k;exact k
      |bad=>rw[q2]at k;exact k
     |false=>exact iteF (k Y H' O so')
    |exc c=>rw[q]at k;exact k
    |bad=>rw[q]at k;exact k
  ·exact fF k
def JST(g:Gk X B C CX XX G){put:D->Env->Option Env}{gt:TG}{tb:TS}{b:S}{De:Ends}{Y:St}{H1:Hp}{J:It}{ds:List D}{U:Env}{O:Ow}{Hb:Hp}(hb:Dm X.H₀ Hb)(so:SO B Hb Y H1 U O)(io:ItOk B J (hid H1 O) ds)
  (hput:∀(d:D) (v:V) (Y:St) (H:Hp) (U U':Env) (O:Ow) (Hb':Hp) (Q:St->Hp->Prop),SO B Hb' Y H U O->Den B (hid H O) d v->put d U=some U'->(∀Y' O',SO B Hb' Y' H U' O'->Q Y' H)->gt v Y H Q)
  (htb:∀De Y H,RSt X B C XX b De Y H->tb De Y H) (k:JDW X B XX Hb De (forL put (exec C b) ds U)) :
  ∃W:Nat->Nat->St->Hp->Prop,(∃m,W 0 m Y H1)/\∀i m Y H,W i m Y H->(J.stop i H/\De.nx Y H)\/(J.go i H/\∃N:St->Hp->Prop,(∀Y' H',N Y' H'->∃m',m'<m/\W (i+1) m' Y' H')/\∀x H',J.yld i H x H'->gt x Y H' λY2 H2=>tb { De with nx:=N,ct:=N,bk:=De.nx } Y2 H2):=by
 have hb1:Same Hb (hid H1 O):=JAY so;refine#[λi m Y H=>m=ds.length - i/\i<=ds.length/\∃U O',SO B (hid H1 O) Y H U O'/\JDW X B XX Hb De (forL put (exec C b) (ds.drop i) U),#[ds.length,by simp,Nat.zero_le _,U,O,so.base,by simpa using k],?_]
 rintro i m Y H ⟨rfl,hi,U2,O2,so2,k2⟩
 by_cases hlt:i<ds.length
 ·right;have hd:ds[i]? = some ds[i]:=by simp[hlt]
  obtain⟨go,yl⟩:=(io H (Same.kp so2.same) i).1 ds[i] hd;refine#[go,λY' H'=>∃U O',SO B (hid H1 O) Y' H' U O'/\JDW X B XX Hb De (forL put (exec C b) (ds.drop (i+1)) U),λY' H' ⟨U3,O3,so3,k3⟩=>#[ds.length - (i+1),by omega,rfl,hlt,U3,O3,so3,k3],λv H' y=>?_]
  obtain⟨so3',dn2⟩:SO B (hid H1 O) Y H' U2 O2/\Den B (hid H' O2) ds[i] v:=by
    rcases yl v H' y with ⟨e,dn⟩|⟨p,xs,es,hp,e,ex,ed,dl⟩
    ·subst e;exact#[so2,Den.mono (JAY so2) _ v dn]
    ·subst e;subst ex;have s3:=JF8 so2 (o:=.tup xs) hp;refine#[s3,?_];rw[ed];simp![Den];refine#[p,xs,rfl,SqT.of ?_,DenL.mono (JAY s3) _ _ dl];rw[hid,JAK λ⟨j,hj⟩=>by obtain⟨_,_,_,_,e5,_⟩:=so2.own hj;rw[hp]at e5;cases e5]
     exact JAH
  rw[JDP hlt]at k2;unfold forL at k2;cases qp:put ds[i] U2 with
  |none=>rw[qp]at k2;exact fF k2
  |some U3 =>
    rw[qp]at k2;refine hput ds[i] v Y H' U2 U3 O2 _ _ so3' dn2 qp λY3 O3 so3=>?_;refine htb _ _ _ #[U3,O3,_,hb.trans hb1,so3,?_];simp only at k2;cases q2:exec C b U3 with
    |nx U'=>rw[q2]at k2;exact λY4 H4 O4 so4=>#[U',O4,so4,k2]
    |ct U'=>rw[q2]at k2;exact λY4 H4 O4 so4=>#[U',O4,so4,k2]
    |bk U'=>rw[q2]at k2;exact λY4 H4 O4 so4=>k2 Y4 H4 O4 (so4.weak hb1)
    |rt d=>rw[q2]at k2;exact λv4 H4 s4 d4=>k2 v4 H4 (hb1.trans s4) d4
    |ex c=>rw[q2]at k2;exact g.anti c Hb _ hb1 k2
    |bad=>rw[q2]at k2;exact k2
 ·left;have ei:i=ds.length:=by omega
  refine#[(io H (Same.kp so2.same) i).2 ∅,?_]
  rw[ei,List.drop_length]at k2;exact k2 Y H O2 (so2.weak hb1)
def JNj[Cool G](g:Gk X B C CX XX G)(hp:PassesOwn (model X.prog X.w) X.A X.env X.xe){iter:Expr}{body:List Stmt}{b:S}{i:Nat}{nm:Str}{pos':Pos}(hi:PI X (.Name nm pos') iter (RI B C XX x))(hb:PSs X body (RSt X B C XX b))(hnd:X.N.Nodup)(hN:X.N[i]? = some nm)(hx:Loc X.env.scope nm)
  (hfn:X.fn nm=true\/X.env.scope.names.lookup nm=some .local) (hs:∀v,foldedSetIterable iter X.env v=pure v):PS X (.For (.Name nm pos') iter body [] pos) (RSt X B C XX (.for1 i x b)) :=
 PS.imp (JM0 hp (g.calm inferInstance) (JMZ g hi) (JC6 hnd hN hx hfn) hb hs) λDe Y H h_=>by
  obtain⟨U,O,Hb,hb0,so,k⟩:=h_;refine#[U,O,Hb,hb0,so,?_];simp![exec]at k;cases q:evI C x U with
  |ok ds =>
    rw[q]at k;intro J H' O' so' io;refine JST g hb0 so' io (put:=put1 i) (λd v Y H U U' O Hb' Q so dn e h=>?_) (λ_ _ _ h=>h) k;have e':U.set i (.val d)=U':=Option.some.inj e;subst e';exact h _ _ (JGF so dn)
  |exc c=>rw[q]at k;exact k
  |bad=>rw[q]at k;exact k
end
section
variable{prog:Program}{w:World}{A:Around}{E:Vq}
theorem JEq{it t:Addr}(hne:t≠it):∀(n i:Nat) (s:Shared) (Q:List Value->Shared->Prop),s.heap.IsListIter it t i->s.heap.IsList t items->i+n<=items.size ->
  (∀h':Heap,h'.IsListIter it t (i+n)->Heap.SameBut it s.heap h'->Q ((items.toList.drop i).take n) { s with heap:=h' })->wpAny (model prog w) A (draw (.ref it) n) Q E s
 |0,i,s,Q,hit,_,_,hQ=>by
  show wpAny _ _ (pure []) Q E s;exact q_e (by simpa using hQ s.heap hit (Heap.SameBut.refl ..))
 |n+1,i,s,Q,hit,ht,hle,hQ=>by
  have hlt:i<items.size:=by omega
  show wpAny _ _ (pyNext (.ref it) >>= _) Q E s;refine q_b (wpAny_pyNext_list_item hit ht (x:=items[i]) (by simp[hlt]) λh₁ hit₁ hs₁=>?_)
  refine q_b (wpAny_holding (JEq hne n (i+1) _ _ hit₁ (ht.extBut hs₁.extBut hne) ∅ λh₂ hit₂ hs₂=>q_e ?_))
  have hd:items.toList.drop i=items[i]::items.toList.drop (i+1):=by simp[List.drop_eq_getElem_cons,hlt]
  have:=hQ h₂ (by rw[show i+(n+1)=i+1+n by omega];exact hit₂) (hs₁.trans hs₂)
  rw[hd,List.take_succ_cons]at this;exact this
def JCa{x1:Nat}{t:Addr}{Q:Unit->Shared->Prop}(hh:A.handled=none)(ht:s.heap.IsList t items)
  (hn:(assignEach elts env).length=items.size) (hstar:(assignEach elts env).findIdx? (·.1)=none)
  (h:∀h',Heap.ExtBut s.heap.objs.size s.heap h'->wpAny (model prog w) A (assignInOrder ((assignEach elts env).map (·.2)) items.toList) Q E { s with heap:=h' }) :
  wpAny (model prog w) A (assign (.Tuple elts x1 pos) env (.ref t)) Q E s:=by
 have hlt:t≠s.heap.objs.size:=by obtain⟨o,ho,_⟩:=ht;exact q_l (q_h ho)
 rw[assign_Tuple];refine q_b (wpAny_standAt ?_);unfold unpack;rw[hn,hstar];refine q_b (wpAny_holding ?_);unfold unpackItems;refine q_b ?_;unfold notIterableAtAll;refine q_b (wpAny_specialOf ht.typeIs slot_list_iter.lookup ?_);refine q_e ?_;simp![q_v,if_false];refine q_b (wpAny_holding (wpAny_pyIter_list ht ?_));refine q_b (wpAny_holding (JEq hlt items.size 0 _ _ #[_,q_k _ rfl,rfl,rfl] (ht.extBut (λb o _ e=>q_c _ e) (q_l (Nat.lt_succ_of_lt (by obtain⟨o,ho,_⟩:=ht;exact q_h ho)))) ∅ λh₁ hit₁ hs₁=>?_))
 have hall:List.take items.size (List.drop 0 items.toList)=items.toList:=by
  rw[List.drop_zero];exact List.take_of_length_le (by simp)
 rw[hall];rw[if_neg (by simp)]
 have ht1:h₁.IsList t items:=by
  refine Heap.IsList.extBut ?_ hs₁.extBut hlt;exact ht.extBut (λb o _ e=>q_c _ e) hlt
 refine q_b (wpAny_holding (wpAny_pyNext_list_end hh hit₁ ht1 (by simp) λh₂ he₂=>?_))
 simp![Option.isSome_none,q_v,if_false];refine q_e (h h₂ λb o hb e=>he₂ b o hb (hs₁.extBut b o hb (q_c _ e)))
end
abbrev setV:List Nat->List V->St->St
 |i::is,v::vs,Y=>setV is vs (Y.set i (some v))
 |_,_,Y=>Y
section
variable{X:Cx}{B:Bs}{C:Cn}{CX:CXT}{XX:Nat->Hp->Prop}{G:List (Str×GK)}{x:E}{pos:Pos}{names:Nq}{N:List Str}
def JEp(hn:X.env.scope.names=names)(h:JEa (names.lookup nm)=true):L2.Loc X.env.scope nm:=by
 unfold L2.Loc;rw[hn];cases q:names.lookup nm with
 |none=>rw[q]at h;cases h
 |some k=>cases k<;>simp_all [JEa]
def slot_of{i:Nat}(hn:X.env.scope.names=names)(hN:X.N=N)(h:slot names N nm=some i):X.N[i]? = some nm/\L2.Loc X.env.scope nm:=by
 unfold slot at h
 split at h
 ·rename_i hb;exact#[by rw[hN];exact JDI h,JEp hn hb]
 ·cases h
def JDw{e:Expr}(h:slots names N (e::r)=some is):∃nm p i js,e=.Name nm p/\slot names N nm=some i/\slots names N r=some js/\is=i::js:=by
 unfold slots at h
 split at h
 ·rename_i q;cases q
 ·rename_i q;cases q;obtain⟨i,h1,h⟩:=q_a.mp h;obtain⟨js,h2,h⟩:=q_a.mp h;cases h;exact#[_,_,i,js,rfl,h1,h2,rfl]
 ·cases h
theorem JCT:∀ {ts:List Expr}{is:List Nat},slots names N ts=some is->(assignEach ts env).findIdx? (·.1)=none/\(assignEach ts env).length=is.length
 | [],is,h=>by unfold slots at h;cases h;exact#[rfl,rfl]
 |e::r,is,h=>by
  obtain⟨nm,p,i,js,rfl,h1,h2,rfl⟩:=JDw h;obtain⟨q1,q2⟩:=JCT (env:=env) h2;refine#[?_,by show(assignEach r env).length+1=_;rw[q2];rfl]
  show List.findIdx? (·.1) ((false,assign (.Name nm p) env)::assignEach r env)=none;rw[List.findIdx?_cons];simp[q1]
theorem JC1(hn:X.env.scope.names=names)(hN:X.N=N)(hnd:N.Nodup)(hfn:∀nm,X.fn nm=true\/X.env.scope.names.lookup nm≠some .cell):∀ {ts:List Expr}{is:List Nat},slots names N ts=some is->PGs X ts (λvs Y H Q=>vs.length=is.length/\Q (setV is vs Y) H)
 | [],is,h=>by
  unfold slots at h;cases h;rintro yp s Y H vs us Q I r ⟨e,q⟩;refine JIY yp s Y H vs us Q I r #[q_B.mp e,?_];cases vs<;>exact q
 |e::r,is,h=>by
  obtain⟨nm,p,i,js,rfl,h1,h2,rfl⟩:=JDw h;obtain⟨q1,q2⟩:=slot_of hn hN h1;have hf:X.fn nm=true\/X.env.scope.names.lookup nm=some .local:=by
   rcases hfn nm with z|z
   ·exact .inl z
   ·rcases q2 with k|k
    ·exact .inr k
    ·exact absurd k z
  rintro yp s Y H vs us Q I rv ⟨e,q⟩;refine JGR (JC6 (by rw[hN];exact hnd) q1 q2 hf) (JC1 hn hN hnd hfn h2) rfl yp s Y H vs us Q I rv ?_
  match vs,e,q with
  |v::vr,e,q=>exact#[v,vr,rfl,by simpa using e,q]
def JNA[Cool G](g:Gk X B C CX XX G){k n:Nat}(h:PGs X es t)(hn:(assignEach es X.env).length=n)(hst:(assignEach es X.env).findIdx? (·.1)=none) :
  PG X (.Tuple es k pos) (λv Y H Q=>∃a xs,v=.ref a/\(SqT X.K H a xs\/SqL X.K H a xs)/\xs.length=n/\t xs Y H Q):=by
 rintro yp s Y H v u Q I r ⟨a,xs,e1,hq,hl,hw⟩;rcases hq with hq|hq
 ·exact JL9 (g.calm inferInstance) h hn hst yp s Y H v u Q I r #[a,xs,e1,hq,hl,hw]
 ·subst e1;cases r;obtain⟨its,rv,⟨o,m,ho,hc,hd,hs⟩,hz⟩:=I.list hq;refine JCa (I.ok.hd (g.calm inferInstance)) (items:=its.toArray) #[o,ho,hc,m,hs] (by simp[hn,<-hl,rv.length]) hst λh' hx=>?_
  have I1:Inv X yp Y H { s with heap:=h' }:=I.kept (t':=s.toks) λb o e=>hx b o (q_l (q_h e)) e
  exact h yp _ Y H xs _ Q I1 (by simpa using rv) hw
theorem JCR:∀(is:List Nat) (ds:List D) (vs:List V) {Hb:Hp}{Y:St}{H:Hp}{U:Env}{O:Ow},SO B Hb Y H U O->DenL B (hid H O) ds vs->∃O',SO B Hb (setV is vs Y) H (JCL is ds U) O'
 | [],ds,vs,_,_,_,_,O,so,dn=>by cases ds<;>cases vs<;>exact#[O,so]
 |i::is,[],vs,_,_,_,_,O,so,dn=>by
  simp![DenL]at dn;subst dn;exact#[O,so]
 |i::is,d::ds,vs,_,_,_,_,O,so,dn=>by
  simp![DenL]at dn;obtain⟨v,r,e,q,l⟩:=dn;subst e;exact JCR is ds r (JGF (i:=i) so q) (DenL.mono JBB ds r l)
def JFw{n c:Nat}{d:D}:JAd n d≠.exc c:=by
 cases d<;>simp![JAd]<;>(try split)<;>(intro h;cases h)
def JRQ[Cool G](g:Gk X B C CX XX G){e:Expr}{k:Nat}{pt:Pos}(he:PE X e (RE B C XX x))(hn:X.env.scope.names=names)(hN:X.N=N)(hnd:N.Nodup)(hfn:∀nm,X.fn nm=true\/X.env.scope.names.lookup nm≠some .cell)
  (h:slots names N ts=some is) (hs:swapsWithSole [.Tuple ts k pt] e pos.line X.env=pure false) (hw:swappedStores [.Tuple ts k pt] e X.env=pure none):PS X (.Assign [.Tuple ts k pt] e pos) (RSt X B C XX (.unp is x)):=by
 obtain⟨q1,q2⟩:=JCT (env:=X.env) h;refine PS.imp (JLs (JHI g he) (JNA g (JC1 hn hN hnd hfn h) q2 q1) hs hw rfl) λDe Y H h_=>?_;obtain⟨U,O,Hb,hb,so,kk⟩:=h_;refine#[U,O,Hb,hb,so,?_];simp![exec]at kk;cases q:ev C x U with
 |ok d =>
  rw[q]at kk;intro v H' O' so' dn;have kk:JDW X B XX Hb De (stepR (JAd is.length d) λxs=>Fl.nx (JCL is xs (after x d U))):=kk;cases qu:JAd is.length d with
  |ok ds =>
    rw[qu]at kk;have hl:ds.length=is.length/\∃a xs,v=.ref a/\(SqT X.K H' a xs\/SqL X.K H' a xs)/\DenL B (hid H' O') ds xs:=by
     cases d with
     |tuple ys =>
      simp![JAd]at qu
      split at qu
      ·rename_i hy;cases qu;simp![Den]at dn;obtain⟨a,xs,e1,e2,e3⟩:=dn;exact#[hy,a,xs,e1,.inl (JOH same_hidP (g.K▸e2)),e3]
      ·cases qu
     |list ys =>
      simp![JAd]at qu
      split at qu
      ·rename_i hy;cases qu;simp![Den]at dn;obtain⟨a,xs,e1,e2,e3⟩:=dn;exact#[hy,a,xs,e1,.inr (same_hidP.seq (g.K▸e2)),e3]
      ·cases qu
     |_=>simp![JAd]at qu;cases qu
    obtain⟨hl1,a,xs,e1,e2,e3⟩:=hl;have hlx:=DenL.len ds xs e3;obtain⟨O2,so2⟩:=JCR is ds xs so' e3;exact#[a,xs,e1,e2,by omega,by omega,kk _ _ O2 so2]
  |exc c=>exact(JFw qu).elim
  |bad=>rw[qu]at kk;exact kk.elim
 |exc c=>rw[q]at kk;exact kk
 |bad=>rw[q]at kk;exact kk
def RAS(X:Cx)(B:Bs)(C:Cn)(XX:Nat->Hp->Prop)(x:E):TA:=λY H Q=>∃U O Hb,Dm X.H₀ Hb/\SO B Hb Y H U O/\(match evA C x U with
 |.ok ds=>∀vs H' O',SO B Hb Y H' (after (.tup x) (.tuple ds) U) O'->DenL B (hid H' O') ds vs->Q vs H'
 |.exc c=>XX c Hb
 |.bad=>False)
def JHx(so:SO B Hb Y H U O)(sm:Same (hidP H (unP x O)) H1)(hz:∀a,unP x O a->H1 a=none)(dn:DenL B H1 ds vs) :
  ∃O',SO B Hb Y (mixP H H1 (unP x O)) (after x (.tuple ds) U) O'/\DenL B (hid (mixP H H1 (unP x O)) O') ds vs:=by
 unfold after
 split
 ·exact#[_,JFP so sm hz,DenL.mono (JBC hz) ds vs dn]
 ·rename_i hb;refine#[O,JCx so sm hz,?_];cases hu:JAS x 0 U with
  |false =>
   refine DenL.mono (λb o e=>?_) ds vs dn;have hb':¬unP x O b:=λh=>by rw[hz b h]at e;cases e
   have hb2:¬ownP O b:=λh_=>by
    obtain⟨i,h⟩:=h_;obtain⟨ds,xs,e1,_⟩:=so.own h;refine hb' #[i,h,?_];cases q:x.uses i with
    |false=>rfl
    |true =>
     have:=JBX x U 0 i _ hu e1 (by rw[Nat.zero_add];exact q)
     cases this
   rw[hid,JAK hb2,JAQ hb'];exact e
  |true =>
   have hl:JBp ds=true:=by
    rw[hu]at hb;cases q:JBp ds with
    |true=>rfl
    |false=>exact absurd (by simp[JAW,q]) hb
   refine JCE (λb o e ho=>?_) ds vs hl dn;have hb':¬unP x O b:=λh=>by rw[hz b h]at e;cases e
   have hb2:¬ownP O b:=λh_=>by
    obtain⟨i,h⟩:=h_;obtain⟨ds,xs,_,_,e4,_,e9⟩:=so.own h;have:=sm b _ (by rw[JAK hb'];exact e4)
    rw[e]at this;cases this;exact ho e9.b
   rw[hid,JAK hb2,JAQ hb'];exact e
def JKF{j:Nat}:(E.tup es).uses j=es.uses j:=rfl
theorem JCB:∀(U:Env) (k:Nat),JAS (.tup x) k U=JAS x k U
 | [],_=>rfl
 |s::r,k=>by simp![JAS,JKF,JCB r]
theorem JE7:∀(U:Env) (k:Nat),JAL (.tup x) k U=JAL x k U
 | [],_=>rfl
 |s::r,k=>by simp![JAL,JE7 r];rfl
def JLn(g:Gk X B C CX XX G)(he:PA X es (RA B C XX x)):PA X es (RAS X B C XX x):=by
 rintro pos yp s Y H Q I ⟨U,O,Hb,hb,so,k⟩;have J0:=JBI (ps:=JBk x O U.length s.heap) I (JAg (x:=x) hb so) JAw;have hev:=(agree C x U (JAV x 0 U) JBH).2.2.1;cases q:evA C x U with
 |ok ds =>
  rw[q]at k;refine thn (he pos _ s Y _ (λvs H1=>Same (hidP H (unP x O)) H1/\DenL B H1 ds vs) J0 #[JAV x 0 U,JAc so,by rw[<-hev,q];exact λv H1 s1 d1=>#[s1,d1]]) λu s1 h_=>?_
  obtain⟨vs,H1,J,r,sm,dn⟩:=h_;obtain⟨I',hz⟩:=JAu I J (JAg hb so) (JAf I so);obtain⟨O',so',dn'⟩:=JHx so sm hz dn;refine#[vs,_,I',r,k vs _ O' ?_ dn'];have:after (.tup x) (.tuple ds) U=after x (.tuple ds) U:=by unfold after;rw[JCB,JE7]
  rw[this];exact so'
 |exc c =>
  rw[q]at k;exact thn (he pos _ s Y _ (λv H1=>False) J0 #[JAV x 0 U,JAc so,by rw[<-hev,q];exact g.anti c _ _ ((JAY so).trans same_un) k]) λu s1 ⟨v,H1,J,r,f⟩=>f.elim
 |bad=>rw[q]at k;exact k.elim
def JQV[Cool G](g:Gk X B C CX XX G){a b:Expr}{i j:Nat}{nx ny:Str}{px py pt pt2:Pos}{kt k2:Nat}(ha:PA X [a,b] (RA B C XX x))(hnd:X.N.Nodup)(hi:X.N[i]? = some nx)(hj:X.N[j]? = some ny)(hij:i≠j)
  (hx:X.env.scope.names.lookup nx=some .local) (hy:X.env.scope.names.lookup ny=some .local)
  (hw:swappedStores [.Tuple [.Name nx px,.Name ny py] kt pt] (.Tuple [a,b] k2 pt2) X.env=pure (some [nx,ny])):PS X (.Assign [.Tuple [.Name nx px,.Name ny py] kt pt] (.Tuple [a,b] k2 pt2) pos) (RSt X B C XX (.unp [i,j] (.tup x))) :=
 PS.imp (JQG (g.calm inferInstance) hnd hi hj hij hx hy (JLn g ha) hw) λDe Y H h_=>by
  obtain⟨U,O,Hb,hb,so,kk⟩:=h_;refine#[U,O,Hb,hb,so,?_];simp![exec,ev]at kk;cases q:evA C x U with
  |ok ds =>
    rw[q]at kk;intro vs H' O' so' dn;simp![R.bind,JAd,List.length_cons,List.length_nil]at kk
    match ds,vs,dn,kk,so' with
    | [d1,d2],vs,dn,kk,so' =>
     obtain⟨O2,so2⟩:=JCR [i,j] [d1,d2] vs so' dn;simp![DenL]at dn;obtain⟨v1,r,e,q1,v2,r2,e2,q2,e3⟩:=dn;subst e3;subst e2;subst e;exact#[v1,v2,rfl,kk _ _ O2 so2]
    | [],_,_,kk,_=>exact fF kk
    | [_],_,_,kk,_=>exact fF kk
    |_::_::_::_,_,_,kk,_=>simp at kk;exact fF kk
  |exc c=>rw[q]at kk;exact kk
  |bad=>rw[q]at kk;exact kk
end
section
variable{X:Cx}{B:Bs}{C:Cn}{CX:CXT}{XX:Nat->Hp->Prop}{G:List (Str×GK)}{x:E}{pos:Pos}
def SO.slotOwn(so:SO B Hb Y H U O){i:Nat}(h:U[i]? = some (.own (.list ds))):∃a xs,O i=some a/\Y[i]? = some (some (.ref a))/\H a=some (.lst xs)/\DenL B (hid H O) ds xs:=by
 have q:=so.slot i;rw[h]at q;simp![JAP]at q;obtain⟨a,ds',xs,q1,q2,q3,q4,q5,q6⟩:=q;cases q2;cases xs with
 |lst xs=>exact#[a,xs,q1,q3,q4,q6]
 |_=>exact fF q6
theorem JFd:∀ {ds:List D}{vs:List V},DenL B H ds vs->∀n:Nat,DenL B H (ds.take n) (vs.take n)
 | [],vs,h,n=>by simp![DenL]at h;subst h;simp[DenL]
 |d::ds,vs,h,0=>by simp[DenL]
 |d::ds,vs,h,n+1=>by
  simp![DenL]at h;obtain⟨v,r,e,q,l⟩:=h;subst e;simp![List.take_succ_cons,DenL];exact#[v,_,rfl,q,JFd l n]
theorem JFX:∀ {ds:List D}{vs:List V},DenL B H ds vs->∀n:Nat,DenL B H (ds.drop n) (vs.drop n)
 | [],vs,h,n=>by simp![DenL]at h;subst h;simp[DenL]
 |d::ds,vs,h,0=>h
 |d::ds,vs,h,n+1=>by
  simp![DenL]at h;obtain⟨v,r,e,q,l⟩:=h;subst e;exact JFX l n
def JQa(g:Gk X B C CX XX G){i:Nat}(hN:X.N[i]? = some nm)(hv:Vis X.env.scope nm)(hbn:JAR nm=false)(he:PE X a (RE B C XX x))(hs:starEach [a] X.env=[(false,eval a X.env)])(hl:(ap.endLine==cp.line)=true) :
  PS X (.Expr (.Call (.Attribute (.Name nm p1) "append" ap) [a] [] cp) pos) (RSt X B C XX (.app i x)):=by
 refine PS.imp (JBo (JHN PySem.F.plainAttrs_list PySem.F.slot_list_append PySem.F.type_list_append JJ5 (JDJ hN hv (JAA hbn).1 (JAA hbn).2.1) (JBF (JHI g he) JBe hs) rfl (by rw[hs];rfl) hl hs rfl) rfl) λDe Y H h_=>?_
 obtain⟨U,O,Hb,hb,so,kk⟩:=h_;simp![exec]at kk
 split at kk
 ·rename_i ds hd;obtain⟨l,xs,q1,q2,q3,q4⟩:=so.slotOwn hd;refine#[_,q2,.inl #[rfl,xs,SqL.of q3],U,O,Hb,hb,so,?_];cases q:ev C x U with
  |ok d =>
   rw[q]at kk;intro v H' O' so' dn;have kk:JDW X B XX Hb De (JBi i ds x d U):=kk;unfold JBi at kk
   split at kk
   ·rename_i hlen
    split at kk
    ·exact fF kk
    ·rename_i hu;have ea:after x d U=U:=by unfold after;rw[if_neg hu]
     rw[ea]at so';obtain⟨l',xs',r1,r2,r3,r4⟩:=so'.slotOwn hd;rw[q2]at r2;cases r2;refine#[l,xs',v,rfl,rfl,r3,by rw[<-DenL.len ds xs' r4,sizeLine_eq];exact hlen,?_]
     exact kk _ _ O' (JEv so' r1 (DenL.append ds [d] xs' [v] r4 (by simp![DenL];exact#[v,[],rfl,dn,rfl])))
   ·exact fF kk
  |exc c=>rw[q]at kk;exact kk
  |bad=>rw[q]at kk;exact kk
 ·exact fF kk
def JSE(g:Gk X B C CX XX G){a b:Expr}{i:Nat}(hN:X.N[i]? = some nm)(hv:Vis X.env.scope nm)(hbn:JAR nm=false)(he:PA X [a,b] (RA B C XX x))(hs:starEach [a,b] X.env=[(false,eval a X.env),(false,eval b X.env)])(hs2:starEach [b] X.env=[(false,eval b X.env)])(hl:(ap.endLine==cp.line)=true) :
  PS X (.Expr (.Call (.Attribute (.Name nm p1) "insert" ap) [a,b] [] cp) pos) (RSt X B C XX (.ins i x)):=by
 refine PS.imp (JBo (JHN PySem.F.plainAttrs_list PySem.F.slot_list_insert PySem.F.type_list_insert JRP (JDJ hN hv (JAA hbn).1 (JAA hbn).2.1) (JLn g he) rfl (by rw[hs];rfl) hl (by rw[hs,hs2]) (by rw[hs2];rfl)) rfl) λDe Y H h_=>?_
 obtain⟨U,O,Hb,hb,so,kk⟩:=h_;simp![exec]at kk
 split at kk
 ·rename_i ds hd;obtain⟨l,xs,q1,q2,q3,q4⟩:=so.slotOwn hd;refine#[_,q2,.inl #[rfl,xs,SqL.of q3],U,O,Hb,hb,so,?_];cases q:evA C x U with
  |ok zs =>
   rw[q]at kk;intro vs H' O' so' dn;have kk:JDW X B XX Hb De (JCS i ds x zs U):=kk;unfold JCS at kk
   split at kk
   ·rename_i k y _
    split at kk
    ·rename_i hlen;obtain⟨k0,k1,k2⟩:=hlen
     split at kk
     ·exact fF kk
     ·rename_i hu;have ea:after (.tup x) (.tuple [.int k,y]) U=U:=by
       unfold after;rw[if_neg];rw[JCB];intro z;apply hu;simpa[JAW,JBp] using z
      rw[ea]at so';obtain⟨l',xs',r1,r2,r3,r4⟩:=so'.slotOwn hd;rw[q2]at r2;cases r2;simp![DenL,Den]at dn;obtain⟨v1,vr,e1,e2,v2,vr2,e3,dy,e4⟩:=dn;subst e4;subst e3;subst e2;subst e1;have hle:=DenL.len ds xs' r4;refine#[l,xs',k,v2,rfl,rfl,r3,k0,by omega,by rw[sizeLine_eq];omega,?_]
      refine kk _ _ O' (JEv so' r1 (DenL.append _ _ _ _ (JFd r4 _) ?_));simp![DenL];exact#[v2,_,rfl,dy,JFX r4 _]
    ·exact fF kk
   ·exact fF kk
  |exc c=>rw[q]at kk;exact kk
  |bad=>rw[q]at kk;exact kk
 ·exact fF kk
def JQf(g:Gk X B C CX XX G){i:Nat}(hN:X.N[i]? = some nm)(hv:Vis X.env.scope nm)(hbn:JAR nm=false)(he:PE X a (REF B C XX x))(hs:starEach [a] X.env=[(false,eval a X.env)])(hl:(ap.endLine==cp.line)=true) :
  PS X (.Expr (.Call (.Attribute (.Name nm p1) "extend" ap) [a] [] cp) pos) (RSt X B C XX (.ext i x)):=by
 refine PS.imp (JBo (JHN PySem.F.plainAttrs_list PySem.F.slot_list_extend PySem.F.type_list_extend JHq (JDJ hN hv (JAA hbn).1 (JAA hbn).2.1) (JBF (JLz g he) JBe hs) rfl (by rw[hs];rfl) hl hs rfl) rfl) λDe Y H h_=>?_
 obtain⟨U,O,Hb,hb,so,kk⟩:=h_;simp![exec]at kk
 split at kk
 ·rename_i ds hd;obtain⟨l,xs,q1,q2,q3,q4⟩:=so.slotOwn hd;refine#[_,q2,.inl #[rfl,xs,SqL.of q3],U,O,Hb,hb,so,?_];cases q:ev C x U with
  |ok d =>
   rw[q]at kk;intro Da d2 ov H1 O' ed so' hD dn;subst ed;obtain⟨zs,zv,rfl,rfl⟩:∃zs zv,d=.list zs/\ov=.lst zv:=by
    cases d with
    |list zs=>cases ov with
     |lst zv=>exact#[zs,zv,rfl,rfl]
     |_=>exact fF dn
    |_=>exact fF kk
   have dn:DenL B (hid H1 O') zs zv:=dn;have kk:JDW X B XX Hb De (JBr i ds x (.list zs) U):=kk;unfold JBr at kk;simp only at kk
   split at kk
   ·rename_i hlen
    split at kk
    ·exact fF kk
    ·rename_i hu;have hu':JAS x 0 U=false:=by simpa using hu
     have ea:after x (.list zs) U=U:=by unfold after;rw[hu'];simp
     rw[ea]at so';obtain⟨l',xs',r1,r2,r3,r4⟩:=so'.slotOwn hd;rw[q2]at r2;cases r2;have hne:l≠Da:=λz=>by rw[z,hD]at r3;cases r3
     have so2:=JF8 (o:=.lst zv) so' hD;refine#[l,Da,xs',zv,rfl,rfl,by rw[JAJ hne];exact r3,JAH,by rw[<-DenL.len ds xs' r4,<-DenL.len zs zv dn,sizeLine_eq];exact hlen,?_]
     have s1:Same (hid H1 O') (hid (upd H1 Da (.lst zv)) O'):=λb u e=>by
      obtain⟨h1,h2⟩:=JA1 e;have hb:b≠Da:=λz=>by rw[z,hD]at h2;cases h2
      rw[hid,JAK h1,JAJ hb];exact h2
     exact kk _ _ O' (JEv so2 r1 (DenL.append ds zs xs' zv (DenL.mono s1 ds xs' r4) (DenL.mono s1 zs zv dn)))
   ·exact fF kk
  |exc c=>rw[q]at kk;exact kk
  |bad=>rw[q]at kk;exact kk
 ·exact fF kk
def JPQ(g:Gk X B C CX XX G){i:Nat}(hN:X.N[i]? = some nm)(hv:Vis X.env.scope nm)(hbn:JAR nm=false)(he:PE X a (RE B C XX x))(hs:starEach [a] X.env=[(false,eval a X.env)])(hl:(ap.endLine==cp.line)=true) :
  PS X (.Expr (.Call (.Attribute (.Name nm p1) "extend" ap) [a] [] cp) pos) (RSt X B C XX (.ext i x)):=by
 refine PS.imp (JBo (JHN PySem.F.plainAttrs_list PySem.F.slot_list_extend PySem.F.type_list_extend JF5 (JDJ hN hv (JAA hbn).1 (JAA hbn).2.1) (JBF (JHI g he) JBe hs) rfl (by rw[hs];rfl) hl hs rfl) rfl) λDe Y H h_=>?_
 obtain⟨U,O,Hb,hb,so,kk⟩:=h_;simp![exec]at kk
 split at kk
 ·rename_i ds hd;obtain⟨l,xs,q1,q2,q3,q4⟩:=so.slotOwn hd;refine#[_,q2,.inl #[rfl,xs,SqL.of q3],U,O,Hb,hb,so,?_];cases q:ev C x U with
  |ok d =>
   rw[q]at kk;intro v H' O' so' dn;have kk:JDW X B XX Hb De (JBr i ds x d U):=kk;cases d with
   |list zs =>
    unfold JBr at kk;simp only at kk
    split at kk
    ·rename_i hlen
     split at kk
     ·exact fF kk
     ·rename_i hu;have hu':JAS x 0 U=false:=by simpa using hu
      have ea:after x (.list zs) U=U:=by unfold after;rw[hu'];simp
      rw[ea]at so';obtain⟨l',xs',r1,r2,r3,r4⟩:=so'.slotOwn hd;rw[q2]at r2;cases r2;simp![Den]at dn;obtain⟨Da,zv,e1,e2,e3⟩:=dn;exact#[l,Da,xs',zv,rfl,by rw[e1],r3,same_hidP.seq (g.K▸e2),by rw[<-DenL.len ds xs' r4,<-DenL.len zs zv e3,sizeLine_eq];exact hlen,kk _ _ O' (JEv so' r1 (DenL.append ds zs xs' zv r4 e3))]
    ·exact fF kk
   |_=>exact fF kk
  |exc c=>rw[q]at kk;exact kk
  |bad=>rw[q]at kk;exact kk
 ·exact fF kk
end
def JGu{n:Nat}{it:Bool}{e:Expr}(h:JAO G n it names N e=some x)(hc:JDh e=false)(t:Option Expr)(l:Nat)(env:PySem.Env):swapsWith e t l env=pure false:=by
 cases n with
 |zero=>simp[JAO,JAq,JAT]at h
 |succ n=>cases e<;>first|rfl|(cases it<;>simp[JAO,JAq,JAT,xOf,Option.bind_none,ite_self,xRaw,mOf,mRaw]at h<;>done)|cases hc
def JJQ{n:Nat}{it:Bool}{e:Expr}(h:JAO G n it names N e=some x)(ts:List Expr)(k:Nat)(p:Pos)(l:Nat)(env:PySem.Env):swapsWithSole [.Tuple ts k p] e l env=pure false:=by
 cases n with
 |zero=>simp[JAO,JAq,JAT]at h
 |succ n=>cases e<;>first|rfl|(cases it<;>simp[JAO,JAq,JAT,xOf,Option.bind_none,ite_self,xRaw,mOf,mRaw]at h)
def JEu{e:Expr}(hc:isTup e=false)(ts:List Expr)(k:Nat)(p:Pos)(env:PySem.Env):swappedStores [.Tuple ts k p] e env=pure none:=by
 cases e<;>first|rfl|cases hc
def JCy{P:Prop}(h:false=true):P:=by cases h
def JFk{e:Expr}(h:JEf names ts e=true):∃nx px ny py a b k2 pt2,ts=[.Name nx px,.Name ny py]/\e=.Tuple [a,b] k2 pt2:=by
 rcases ts with _|⟨t1,_|⟨t2,_|⟨_,_⟩⟩⟩<;>try exact JCy h
 cases t1<;>try exact JCy h
 cases t2<;>try exact JCy h
 cases e<;>try exact JCy h
 rename_i es k p;rcases es with _|⟨a,_|⟨b,_|⟨_,_⟩⟩⟩<;>try exact JCy h
 exact#[_,_,_,_,_,_,_,_,rfl,rfl]
def JFE{a b:Expr}{nx ny:Str}{px py pt pt2:Pos}{kt k2:Nat}(hk:env.scope.kind=.function)(hn:env.scope.names=names)(hs:∀es:List Expr,es=[a,b]->(es.any λ|.Starred ..=>true|_=>false)=false)
  (h:JEf names [.Name nx px,.Name ny py] (.Tuple [a,b] k2 pt2)=true) :
  swappedStores [.Tuple [.Name nx px,.Name ny py] kt pt] (.Tuple [a,b] k2 pt2) env=pure (some [nx,ny])/\nx≠ny/\env.scope.names.lookup nx=some .local/\env.scope.names.lookup ny=some .local:=by
 simp![JEf,JRY,q_i,beq_iff_eq,Bool.not_eq_true',bne_iff_ne,ne_eq]at h;obtain⟨⟨⟨⟨⟨h1,h2⟩,h3⟩,h4⟩,h5⟩,h6⟩:=h;have hb:env.blockKind=.function:=by unfold PySem.Env.blockKind;rw[hk];rfl
 have e1:env.kindOf nx=some .local:=by show env.scope.names.lookup nx=_;rw[hn];exact h1
 have e2:env.kindOf ny=some .local:=by show env.scope.names.lookup ny=_;rw[hn];exact h2
 refine#[?_,h4,e1,e2];have hst:=hs [a,b] rfl;unfold swappedStores;simp![List.length_cons,List.length_nil,hb,List.head?_cons,Option.map_some,Option.getD_some,List.filterMap_cons,List.filterMap_nil,e1,e2];have l1:((Expr.Name nx px).pos).line=px.line:=rfl;simp![l1,h3,beq_self_eq_true,Bool.and_self,Bool.true_or,Bool.or_true,Bool.true_and,if_true,bne_self_eq_false,Bool.or_false,Bool.not_true,Bool.false_or,q_v,if_false,h5,h6,hst];have l2:([nx,ny]:List Str).eraseDups.length=2:=by
  have hne:(ny==nx)=false:=beq_eq_false_iff_ne.mpr (Ne.symm h4);simp[List.eraseDups_cons,List.filter_cons,hne,bne]
 have hst':∀q:Expr->Bool,([a,b].any q)=false->q a=false/\q b=false:=λq h=>by simpa using h
 have hab:=hst' _ hst;simp[l2];intro hz;exfalso;rcases hz with z|z
 ·have:=hab.1;cases a<;>first|(cases z;done)|(cases this;done)
 ·have:=hab.2;cases b<;>first|(cases z;done)|(cases this;done)
def JG6{e:Expr}(h:JED e=true):∃es p,e=.List es p:=by
 cases e<;>first|exact⟨_,_,rfl⟩|cases h
def JLI{e:Expr}(h:JDh e=true):∃a b c p,e=.ListComp a b c p:=by
 cases e<;>first|exact⟨_,_,_,_,rfl⟩|cases h
section
variable{B:Bs}{C:Cn}{CX:CXT}{G:List (Str×GK)}
def JIE(X:Cx)(B:Bs)(G:List (Str×GK))(XX:Nat->Hp->Prop):Prop:=∀(nm:Str) (c:Nat) (m:Str) (j:Nat) (p1 p2 p3 pos:Pos),Gl X nm->JAR nm=false->G.lookup nm=some (.cls c) ->
 ∀(yp:Pq) (s:Shared) (Y:St) (H:Hp) (D:Ends),Inv X yp Y H s->XX c H->wpAny (model X.prog X.w) X.A (PySem.exec (.Raise (some (.Call (.Name nm p1) [.Constant (.str m) j p2] [] p3)) none pos) X.env) (SP X yp D) X.xe s
abbrev atX(X:Cx)(A:Around)(pn:Pq)(xe:Vq)(calm:Bool):Cx:={ X with A:=A,pn:=pn,xe:=xe,calm:=calm }
def JEB{e c:Option Expr}(h:JGb e c=some x):∃p1 m j p2 p3,e=some (.Call (.Name x p1) [.Constant (.str m) j p2] [] p3)/\c=none:=by
 rcases e with _|e
 ·exact JAG h
 cases e<;>try exact JAG h
 rename_i f as ks p3;cases f<;>try exact JAG h
 rename_i x' p1;rcases as with _|⟨a,as⟩
 ·exact JAG h
 cases a<;>try exact JAG h
 rename_i k j p2;cases k<;>try exact JAG h
 rcases as with _|⟨_,_⟩<;>try exact JAG h
 rcases ks with _|⟨_,_⟩<;>try exact JAG h
 rcases c with _|c<;>try exact JAG h
 cases h;exact#[_,_,_,_,_,rfl,rfl]
def JC4{e:Expr}(h:JGw e=some (x,m,a)):∃p1 ap cp,e=.Call (.Attribute (.Name x p1) m ap) [a] [] cp/\(ap.endLine==cp.line)=true:=by
 cases e<;>try exact JAG h
 rename_i f as ks cp;cases f<;>try exact JAG h
 rename_i o m ap;cases o<;>try exact JAG h
 rcases as with _|⟨a,_|⟨_,_⟩⟩<;>try exact JAG h
 rcases ks with _|⟨_,_⟩<;>try exact JAG h
 dsimp only[JGw]at h
 split at h
 ·rename_i e;cases h;exact#[_,_,_,rfl,e]
 ·cases h
def JHe{e:Expr}{a b:Expr}(h:JOD e=some (x,a,b)):∃p1 ap cp,e=.Call (.Attribute (.Name x p1) "insert" ap) [a,b] [] cp/\(ap.endLine==cp.line)=true:=by
 cases e<;>try exact JAG h
 rename_i f as ks cp;cases f<;>try exact JAG h
 rename_i o m ap;cases o<;>try exact JAG h
 rcases as with _|⟨a,_|⟨b,_|⟨_,_⟩⟩⟩<;>try exact JAG h
 rcases ks with _|⟨_,_⟩<;>try exact JAG h
 dsimp only[JOD]at h
 split at h
 ·rename_i e;cases h;obtain⟨e1,e2⟩:=e;subst e2;exact#[_,_,_,rfl,e1]
 ·cases h
def JHa{e:Expr}(h:docOf e=true):∃y j p,e=.Constant (.str y) j p:=by
 unfold docOf at h
 split at h
 ·exact#[_,_,_,rfl]
 ·cases h
def JFL(h:JHY ts=some (.inl x)):∃p,ts=[.Name x p]:=by
 unfold JHY at h
 split at h
 ·cases h;exact#[_,rfl]
 ·cases h
 ·cases h
def JIa(h:JHY ts=some (.inr us)):∃k p,ts=[.Tuple us k p]:=by
 unfold JHY at h
 split at h
 ·cases h
 ·cases h;exact#[_,_,rfl]
 ·cases h
def JHP{e:Expr}(h:JOY e=some es):∃k p,e=.Tuple es k p:=by
 unfold JOY at h
 split at h
 ·cases h;exact#[_,_,rfl]
 ·cases h
abbrev isStar:Expr->Bool
 |.Starred ..=>true
 |_=>false
theorem JDM(ih:∀st t,f st=some t->PS X st (RSt X B C XX t)):∀ {sts:List Stmt}{t:S},JAm f sts=some t->PSs X sts (RSt X B C XX t)
 | [],t,h=>by unfold JAm at h;cases h;exact JSY
 |st::r,t,h=>by
  unfold JAm at h;obtain⟨a,h1,h⟩:=q_a.mp h;obtain⟨b,h2,h⟩:=q_a.mp h;cases h;exact JNf (ih st a h1) (JDM ih h2)
structure RareS(B:Bs)(C:Cn)(CX:CXT)(G:List (Str×GK)):Prop where
 dsp:G.lookup (".dsp":Str)=some GK.opt->∀(X:Cx) (XX:Nat->Hp->Prop) (n:Nat) (names:Nq) (N:List Str),Gk X B C CX XX G->(∀e x,JAO G n false names N e=some x->PE X e (RE B C XX x))->X.env.scope.kind=.function->X.env.scope.names=names->X.N=N->N.Nodup->(∀nm,X.fn nm=true\/X.env.scope.names.lookup nm≠some .cell) ->
  ∀(ts es:List Expr) (is:List Nat) (k k2:Nat) (pt pt2 pos:Pos) (q:E×Option Nat),slots names N ts=some is->is.Nodup->JL4 names ts es=true->JOX (JAO G n false names N) es is=some q->PS X (.Assign [.Tuple ts k pt] (.Tuple es k2 pt2) pos) (RSt X B C XX (unpO is q.1 q.2))
 ext:G.lookup (".ext":Str)=some GK.opt->∀(X:Cx) (XX:Nat->Hp->Prop),Gk X B C CX XX G->∀(x:E) (a:Expr) (i:Nat) (nm:Str) (p1 ap cp pos:Pos),X.N[i]? = some nm->Vis X.env.scope nm->JAR nm=false->(PE X a (REF B C XX x)\/PE X a (RE B C XX x))->starEach [a] X.env=[(false,eval a X.env)]->(ap.endLine==cp.line)=true ->
  PS X (.Expr (.Call (.Attribute (.Name nm p1) "extend" ap) [a] [] cp) pos) (RSt X B C XX (.ext i x))
 ins:G.lookup (".ins":Str)=some GK.opt->∀(X:Cx) (XX:Nat->Hp->Prop),Gk X B C CX XX G->∀(x:E) (a b:Expr) (i:Nat) (nm:Str) (p1 ap cp pos:Pos),X.N[i]? = some nm->Vis X.env.scope nm->JAR nm=false->PA X [a,b] (RA B C XX x)->starEach [a,b] X.env=[(false,eval a X.env),(false,eval b X.env)]->starEach [b] X.env=[(false,eval b X.env)]->(ap.endLine==cp.line)=true ->
  PS X (.Expr (.Call (.Attribute (.Name nm p1) "insert" ap) [a,b] [] cp) pos) (RSt X B C XX (.ins i x))
def JMU(_:G.lookup (".ext":Str)=some GK.opt)(X:Cx)(XX:Nat->Hp->Prop)(g:Gk X B C CX XX G)(x:E)(a:Expr)(i:Nat)(nm:Str)(p1 ap cp pos:Pos)(hN:X.N[i]? = some nm)(hv:Vis X.env.scope nm)(hbn:JAR nm=false)(he:PE X a (REF B C XX x)\/PE X a (RE B C XX x))(hs:starEach [a] X.env=[(false,eval a X.env)])(hl:(ap.endLine==cp.line)=true) :
 PS X (.Expr (.Call (.Attribute (.Name nm p1) "extend" ap) [a] [] cp) pos) (RSt X B C XX (.ext i x)):=he.elim (λhe=>JQf g hN hv hbn he hs hl) λhe=>JPQ g hN hv hbn he hs hl
def JMc(_:G.lookup (".ins":Str)=some GK.opt)(X:Cx)(XX:Nat->Hp->Prop)(g:Gk X B C CX XX G)(x:E)(a b:Expr)(i:Nat)(nm:Str)(p1 ap cp pos:Pos)(hN:X.N[i]? = some nm)(hv:Vis X.env.scope nm)(hbn:JAR nm=false)(he:PA X [a,b] (RA B C XX x))(hs:starEach [a,b] X.env=[(false,eval a X.env),(false,eval b X.env)])(hs2:starEach [b] X.env=[(false,eval b X.env)])(hl:(ap.endLine==cp.line)=true) :
 PS X (.Expr (.Call (.Attribute (.Name nm p1) "insert" ap) [a,b] [] cp) pos) (RSt X B C XX (.ins i x)):=JSE g hN hv hbn he hs hs2 hl
theorem JG3(ra:Rare B C CX G)(rr:RareS B C CX G):∀(n:Nat) (X:Cx) (XX:Nat->Hp->Prop) (names:Nq) (N:List Str) (zz:Bool),Gk X B C CX XX G->X.env.scope.kind=.function->X.env.scope.names=names->X.N=N->N.Nodup ->
  PassesOwn (model X.prog X.w) X.A X.env X.xe->(∀nm,X.fn nm=true)->(zz=true->JIE X B G XX)->∀(st:Stmt) (t:S),JCK G n zz names N st=some t->PS X st (RSt X B C XX t)
 |0,X,XX,names,N,zz,g,hk,hn,hN,hnd,hpo,hfn,hr,st,t,h=>JAG h
 |n+1,X,XX,names,N,zz,g,hk,hn,hN,hnd,hpo,hfn,hr,st,t,h=>by
  have ih:=JG3 ra rr n X XX names N zz g hk hn hN hnd hpo hfn hr;obtain⟨ihE,ihI⟩:=sound ra n X XX names N g hk hn hN hnd;cases st with
  |Pass p=>cases h;exact JNU
  |Break p=>cases h;exact JQb
  |Continue p=>cases h;exact JRF
  |Return e p =>
   cases e with
   |none=>cases h;exact JOp
   |some e =>
    dsimp only[JCK,JCf]at h
    obtain⟨x,hx,e'⟩:=q_d.mp h;subst e';exact JQH g (ihE e x hx).1
  |If c a b p =>
   dsimp only[JCK,JCf]at h
   obtain⟨z,hz,h⟩:=q_a.mp h;obtain⟨x,hx,h⟩:=q_a.mp h;obtain⟨y,hy,h⟩:=q_a.mp h;cases h;exact JSG g (ihE c z hz).2 (JDM ih hx) (JDM ih hy)
  |While c body orelse p =>
   cases orelse with
   |cons a b=>exact JAG h
   |nil =>
    dsimp only[JCK,JCf]at h
    obtain⟨z,hz,h⟩:=q_a.mp h;obtain⟨x,hx,h⟩:=q_a.mp h;cases h;exact JQh g hpo (ihE c z hz).2 (JDM ih hx)
  |For tg iter body orelse p =>
   cases orelse with
   |cons a b=>exact JAG h
   |nil =>
    dsimp only[JCK,JCf]at h
    split at h
    case isTrue=>cases h
    rename_i hcool
    haveI:Cool G:=JFq hcool
    split at h
    ·rename_i nm ht;obtain⟨p2,e2⟩:=JFL ht;cases e2;obtain⟨i,hi,h⟩:=q_a.mp h;obtain⟨x,hx,h⟩:=q_a.mp h;obtain⟨b,hb,h⟩:=q_a.mp h;cases h;obtain⟨q1,q2⟩:=slot_of hn hN hi;exact JNj g hpo (ihI _ iter x hx) (JDM ih hb) (by rw[hN];exact hnd) q1 q2 (.inl (hfn nm)) (JD7 hx X.env)
    ·cases h
  |Raise exc cause p =>
   dsimp only[JCK,JCf]at h
   obtain⟨nm,hr0,h9⟩:=q_a.mp h;clear h;obtain⟨p1,m,j,p2,p3,rfl,rfl⟩:=JEB hr0;have h:=h9;clear h9
   split at h
   ·rename_i c hg
    split at h
    case isFalse=>cases h
    rename_i hz;cases h;obtain⟨g1,g2,g3⟩:=JA6 hg;rintro yp s Y H D I ⟨U,O,Hb,hb,so,k⟩;simp![exec]at k;exact hr hz nm c m j p1 p2 p3 p (JB6 hn g2) g1 g3 yp s Y H D I (g.anti c Hb H so.same k)
   ·cases h
  |Assign ts e p =>
   have hfn':∀nm,X.fn nm=true\/X.env.scope.names.lookup nm=some .local:=λnm=>.inl (hfn nm)
   dsimp only[JCK,JCf]at h
   split at h
   ·rename_i nm ht;obtain⟨p1,rfl⟩:=JFL ht;obtain⟨i,hi,h⟩:=q_a.mp h;obtain⟨y,hy,h⟩:=q_a.mp h
    split at h
    ·cases h
    ·rename_i hc;cases h;obtain⟨q1,q2⟩:=slot_of hn hN hi;have hnd':X.N.Nodup:=by rw[hN];exact hnd
     by_cases h1:JED e=true
     ·obtain⟨es,p2,rfl⟩:=JG6 h1;have hf:y.fresh=true:=by
       cases n with
       |zero=>simp[JAO,JAq,JAT]at hy
       |succ n =>
        simp![JAO,JAq,JAT,xOf,Option.bind_none,ite_self,xRaw,Option.bind_none,mOf,mRaw]at hy
        split at hy
        ·obtain⟨z,_,e'⟩:=q_d.mp hy;subst e';rfl
        ·cases hy
      exact JIb g (JEd ra g hk hn hN hnd hy) hf hnd' q1 q2 rfl (hfn' nm)
     ·by_cases h2:JDh e=true
      ·obtain⟨elt,gens,sc,p2,rfl⟩:=JLI h2;obtain⟨_,target,iter,ifs,xs,k,y1,z1,w1,e1,e2,bk,hi2,hs2,hrun⟩:=JJi ra g hk hn hN hnd hy;subst e1;subst e2;cases hb:(X.env.blockKind==.function&&X.env.kindOf nm==some .local&&p1.line==(Expr.ListComp elt [#[target,iter,ifs,0]] sc p2).pos.line&&!(sc.names.any λ(n,k)=>n==nm&&(k==.local || k==.cell))) with
       |true =>
        have hsw:swapsWith (.ListComp elt [#[target,iter,ifs,0]] sc p2) (some (.Name nm p1)) p.line X.env=pure true:=by rw[<-hb];rfl
        have hloc:X.env.scope.names.lookup nm=some .local:=by
         simp![q_i,beq_iff_eq]at hb;exact hb.1.1.2
        exact JPE g (JKZ g bk hi2 hs2 hrun hsw hnd' q1 hloc) rfl
       |false =>
        have hsw:swapsWith (.ListComp elt [#[target,iter,ifs,0]] sc p2) (some (.Name nm p1)) p.line X.env=pure false:=by rw[<-hb];rfl
        exact JIb g (JH8 g bk hi2 hs2 hrun) rfl hnd' q1 q2 hsw (hfn' nm)
      ·have hf:y.fresh=false:=by
        cases hz:y.fresh with
        |false=>rfl
        |true=>exact absurd #[hz,by simpa using h1,by simpa using h2] hc
       exact JPt g (ihE e y hy).1 hf hnd' q1 q2 (JGu hy (by simpa using h2) _ _ _) (hfn' nm)
   ·rename_i ts ht;obtain⟨k,pt,rfl⟩:=JIa ht;obtain⟨is,hi,h⟩:=q_a.mp h
    split at h
    ·rename_i hc0;obtain⟨hc,hcool⟩:=hc0
     haveI:Cool G:=JFq (by rw[hcool];decide)
     obtain⟨y,hy,e'⟩:=q_d.mp h;subst e'
     by_cases ht:isTup e=true
     ·have hp:JEf names ts e=true:=by
       rcases hc.2 with z|z
       ·rw[ht]at z;cases z
       ·exact z
      obtain⟨nx,px,ny,py,a,b,k2,pt2,e7,e8⟩:=JFk hp;subst e7;subst e8
      ·skip
       obtain⟨w1,w2,w3,w4⟩:=JFE (env:=X.env) (kt:=k) (pt:=pt) hk hn (λes e=>by
        subst e;cases n with
        |zero=>simp[JAO,JAq,JAT]at hy
        |succ n =>
         simp![JAO,JAq,JAT,xOf,Option.bind_none,ite_self,xRaw,Option.bind_none,mOf,mRaw]at hy
         split at hy
         ·obtain⟨z,hz,_⟩:=q_d.mp hy;unfold JAN at hz;obtain⟨z1,hz1,hz⟩:=q_a.mp hz;obtain⟨z2,hz2,hz⟩:=q_a.mp hz;unfold JAN at hz2;obtain⟨z3,hz3,hz2⟩:=q_a.mp hz2;have t1:∀ {e:Expr}{x:E},JAO G n false names N e=some x->(match e with|.Starred ..=>true|_=>false)=false:=by
           intro e x h;cases e<;>first|rfl|(cases n<;>simp[JAO,JAq,JAT,xOf,Option.bind_none,ite_self,xRaw,mOf,mRaw]at h)
          simp![List.any_cons,List.any_nil,t1 hz1,t1 hz3,Bool.or_self,Bool.or_false]
         ·cases hy) hp
       simp![slots]at hi;obtain⟨i,hi1,hi⟩:=q_a.mp hi;obtain⟨js,hi2,hi⟩:=q_a.mp hi;obtain⟨j,hi3,hi2⟩:=q_a.mp hi2;simp![Option.bind_some,q_j]at hi2;subst hi2;cases hi;have hy':=hy;cases n with
       |zero=>simp[JAO,JAq,JAT]at hy
       |succ n =>
        simp![JAO,JAq,JAT,xOf,Option.bind_none,ite_self,xRaw,Option.bind_none,mOf,mRaw]at hy
        split at hy
        ·obtain⟨z,hz,e'⟩:=q_d.mp hy;subst e';have hij:i≠j:=by
          have:=of_decide_eq_true hc.1;simp at this;exact this
         exact JQV g (allA g (λe x h=>((sound ra n X XX names N g hk hn hN hnd).1 e x h).1) hz) (by rw[hN];exact hnd) (slot_of hn hN hi1).1 (slot_of hn hN hi3).1 hij w3 w4 w1
        ·cases hy
     ·exact JRQ g (ihE e y hy).1 hn hN hnd (λnm=>.inl (hfn nm)) hi (JJQ hy _ _ _ _ _) (JEu (by simpa using ht) _ _ _ _)
    ·obtain⟨es,he,h9⟩:=q_a.mp h;clear h;obtain⟨k2,pt2,rfl⟩:=JHP he
     split at h9
     case isFalse=>cases h9
     rename_i hc;obtain⟨q,hq,rfl⟩:=q_d.mp h9;exact rr.dsp hc.2 X XX n names N g (λe x h=>((sound ra n X XX names N g hk hn hN hnd).1 e x h).1) hk hn hN hnd (λnm=>.inl (hfn nm)) ts es is k k2 pt pt2 p q hi (of_decide_eq_true hc.1.1) hc.1.2 hq
   ·cases h
  |Expr e p =>
   dsimp only[JCK,JCf]at h
   split at h
   ·rename_i nm m a hm;obtain⟨p1,ap,cp,rfl,hc1⟩:=JC4 hm
    split at h
    ·rename_i hc2;have JFS:∀ {i},slot names N nm=some i->Vis X.env.scope nm:=λhi=>by
      rcases(slot_of hn hN hi).2 with k|k
      ·exact .inl k
      ·exact .inr (.inl k)
     split at h
     ·rename_i hm;subst hm;obtain⟨i,hi,h⟩:=q_a.mp h;obtain⟨y,hy,e'⟩:=q_d.mp h;subst e';exact JQa g (slot_of hn hN hi).1 (JFS hi) hc2 (ihE a y hy).1 (JAb hy [] _) hc1
     ·split at h
      ·rename_i hm;obtain⟨⟨hm,hl⟩,hfl⟩:=hm;subst hm;obtain⟨i,hi,h⟩:=q_a.mp h;obtain⟨y,hy,e'⟩:=q_d.mp h;subst e'
       by_cases hl2:JED a=true
       ·obtain⟨es,p2,rfl⟩:=JG6 hl2;exact rr.ext hfl X XX g y _ i nm p1 ap cp p (slot_of hn hN hi).1 (JFS hi) hc2 (.inl (JEd ra g hk hn hN hnd hy)) (JAb hy [] _) hc1
       ·exact rr.ext hfl X XX g y a i nm p1 ap cp p (slot_of hn hN hi).1 (JFS hi) hc2 (.inr (ihE a y hy).1) (JAb hy [] _) hc1
      ·cases h
    ·cases h
   ·split at h
    ·rename_i nm a b hm;obtain⟨p1,ap,cp,rfl,hc1⟩:=JHe hm
     split at h
     ·rename_i hc2;obtain⟨i,hi,h⟩:=q_a.mp h;obtain⟨y,hy,e'⟩:=q_d.mp h;subst e';have vs:Vis X.env.scope nm:=by
       rcases(slot_of hn hN hi).2 with k|k
       ·exact .inl k
       ·exact .inr (.inl k)
      have s1:=JCQ hy a (by simp) [b] X.env
      have s2:=JCQ hy b (by simp) [] X.env
      have s3:starEach ([]:List Expr) X.env=[]:=rfl;rw[s3]at s2;rw[s2]at s1;exact rr.ins hc2.2 X XX g y a b i nm p1 ap cp p (slot_of hn hN hi).1 vs hc2.1 (allA g (λe x h=>((sound ra n X XX names N g hk hn hN hnd).1 e x h).1) hy) s1 s2 hc1
     ·cases h
    ·split at h
     ·rename_i hd;obtain⟨y,j,p2,rfl⟩:=JHa hd;cases h;exact JSZ
     ·split at h
      ·cases h
      ·rename_i hc;obtain⟨y,hy,e'⟩:=q_d.mp h;subst e';exact JOd g (ihE e y hy).1 (JGu hy (by simpa using hc) _ _ _)
  |_=>exact JAG h
end
structure Turned(G:List (Str×GK))(st:Stmt)(N ps:List Str)(fd:Fd):Prop where
 comp:JAm (JCK G 60 true (JAM st).names N) (JAX st)=some fd.body
 sc:FnScope N ps (JAM st)
 par:fd.par=ps.length
 slots:fd.slots=N.length
structure DefAt(K:Kq)(mg:Mq)(G:List (Str×GK))(x:Str)(fd:Fd):Prop where
 ex:∃f fo st N ps,mg x=some (.ref f)/\Fun K x x st f fo/\Binds K fo ps []/\Turned G st N ps fd
def JCU{m:Nat}(h:DenL B H ds vs)(hl:N.length=m)(hv:vs.length<=m):SO B H (start N vs) H (ds.map Sl.val++List.replicate (m - ds.length) Sl.no) (λ_=>none):=by
 have hlen:=DenL.len ds vs h;refine#[?_,Same.refl H,(λi j a e=>by cases e),λi=>?_]
 ·simp![L2.start,q_u,q_g,List.length_replicate];omega
 ·have hh:hid H (λ_=>none)=H:=by
   funext b
   unfold hid hidP;rw[if_neg];rintro⟨i,e⟩;cases e
  by_cases hi:i<ds.length
  ·rw[q_C (by simpa using hi),List.getElem?_map]
   obtain⟨d,hd⟩:∃d,ds[i]? = some d:=#[_,q_q hi];obtain⟨v,hv,dn⟩:=DenL.get ds vs i d h hd;rw[hd];refine#[rfl,v,?_,by rw[hh];exact dn]
   unfold L2.start;rw[q_C (by rw[q_g];omega),List.getElem?_map,hv]
   rfl
  ·rw[List.getElem?_append_right (by simpa using hi),List.getElem?_replicate]
   split
   ·rfl
   ·rfl
section
variable{B:Bs}{G:List (Str×GK)}{tab:Nat->Option Fd}{glo:Nat->R D}{sub:Nat->Nat->Bool}
def JOx{x:Bool}{n i:Nat}(h:run x tab glo sub n i ds≠.bad):∃fd,tab i=some fd/\ds.length=fd.par:=by
 cases n with
 |zero=>exact absurd rfl h
 |succ n =>
  unfold run at h;cases e:tab i with
  |none=>rw[e]at h;exact absurd rfl h
  |some fd =>
   have h:JB1 x #[run x tab glo sub n,glo,sub] fd ds≠.bad:=by rw[e]at h;exact h
   refine#[fd,rfl,?_];unfold JB1 at h
   by_cases hl:ds.length=fd.par
   ·exact hl
   ·rw[if_neg hl]at h;exact absurd rfl h
abbrev JNx(K:Kq):Sp:=λvs H Q E=>∃(a:Addr) (ns:List Int),vs=[.ref a]/\ns.length<=63/\SqL K H a (ns.map V.int)/\∀H',Q (.bl true) H'
theorem JGP:∀ns:List Int,DenL B H (ns.map λi=>PyData.int i) (ns.map V.int)
 | []=>by simp![List.map_nil,DenL]
 |n::ns=>by
  simp![List.map_cons,DenL];exact#[_,_,rfl,by simp![Den],JGP ns]
end
structure FnIn(K:Kq)(x:Str)(st:Stmt):Prop where
 ex:∃(f:Addr) (oc:Value) (od an:Option Addr) (sl:Array (Option Value)) (kV dc pm cd ct:Value),PySem.W.nsIn K mainGlobals x=some (some (.ref f)) /\
  K.lookup f=some #[oc,od,.func (PySem.W.fnOf x x (JA8 st) (JAX st) (JAM st) .none kV dc pm an cd ct),sl]/\PySem.W.codeIn K cd x=true/\PySem.W.keepIn K (.ref f)=true
def fn_in{K:Kq}{x:Str}{st:Stmt}{f:Addr}{oc:Value}{od an:Option Addr}{sl:Array (Option Value)}{kV dc pm cd ct:Value}(a:PySem.W.nsIn K mainGlobals x=some (some (.ref f)))
  (l:K.lookup f=some #[oc,od,.func (PySem.W.fnOf x x (JA8 st) (JAX st) (JAM st) .none kV dc pm an cd ct),sl]) (c:PySem.W.codeIn K cd x=true) (k:PySem.W.keepIn K (.ref f)=true):FnIn K x st :=
 #[f,oc,od,an,sl,kV,dc,pm,cd,ct,a,l,c,k]
def AllP(P:Str->GK->Prop):List (Str×GK)->Prop
 | []=>True
 |(x,k)::r=>P x k/\AllP P r
theorem AllP.get{P:Str->GK->Prop}:∀ {G:List (Str×GK)}{x:Str}{k:GK},AllP P G->G.lookup x=some k->P x k
 | [],x,k,_,h=>by cases h
 |(y,j)::r,x,k,⟨h1,h2⟩,h=>by
  rw[List.lookup_cons]at h
  by_cases e:(x==y)=true
  · rw[e]at h
    have e':x=y:=by simpa using e
    cases h;subst e';exact h1
  · have e':(x==y)=false:=by simpa using e
    rw[e']at h;exact AllP.get h2 h
def JBn(h:JAh o=false)(nm:Str)(env:PySem.Env)(m:Sem Value):attributeBase o nm env m=m:=by
 cases o with
 |Call f as ks p =>
  cases as with
  |nil =>
   cases ks with
   |nil=>cases h
   |cons k ks=>cases f<;>rfl
  |cons a as=>cases f<;>rfl
 |_=>rfl
section
variable{X:Cx}{B:Bs}{C:Cn}{CX:CXT}{XX:Nat->Hp->Prop}{G:List (Str×GK)}
def JQN(B:Bs)(XX:Nat->Hp->Prop):V->List V->Hp->VK->Prop:=λv vs H Q=>∃dx dy u,Den B H dx v/\vs=[u]/\Den B H dy u/\KE B XX (JDe dx dy) H Q
def JQM(B:Bs)(XX:Nat->Hp->Prop):V->List V->Hp->VK->Prop:=λv vs H Q=>∃dx dy u,Den B H dx v/\vs=[u]/\Den B H dy u/\KE B XX (JDi dx dy) H Q
def JKg(g:Gk X B C CX XX G):MtR X "list.count" (JQN B XX):=by
 rintro yp s Y H v vs vv us Q I rv rs ⟨dx,dy,u,hx,e,hy,k⟩;subst e;obtain⟨w,rfl,rw'⟩:=rs.one;cases dx with
 |list ds =>
  simp![JDe]at k
  split at k
  ·rename_i hs;simp![JB9,q_i,q_D]at hs;obtain⟨bs,rb⟩:=Den.reads g.K I dy u w hs.1.2 hy rw';obtain⟨as,ra⟩:=Den.reads g.K I (.list ds) v vv (by simpa only[PyData.canLay0] using hs.1.1) hx rv
   have hu:=g.units;have hm:=Nat.min_le_right (PyData.depthAll ds) dy.depth;cases ra with
   |list h1 h2 h3 h4 =>
    rename_i l o items n as';obtain⟨oc,od,oD,os⟩:=o;simp only at h2 h3;subst h2;subst h3;refine call_meets PySem.F.slot_list_count #[_,h1,rfl] PySem.F.entry_list_count (PySem.F.args_list_count_2 _ _) (SeqAt.list_countAt l items n od os w _) #[h1,SeqAt.items_eqAt h4 rb hs.1.1 hs.1.2 ∅,?_]
    refine#[.int _,H,I.tok _,#[_,rfl],KE.ok k ?_];simp![Den]
    congr 2
    rw[<-SeqAt.readsAll_map ds _ _ hs.1.1 h4,List.countP_map];rfl
  ·exact k.elim
 |_=>exact fF k
def JKP(g:Gk X B C CX XX G):MtR X "list.index" (JQM B XX):=by
 rintro yp s Y H v vs vv us Q I rv rs ⟨dx,dy,u,hx,e,hy,k⟩;subst e;obtain⟨w,rfl,rw'⟩:=rs.one;cases dx with
 |list ds =>
  simp![JDi]at k
  split at k
  ·rename_i hs;simp![JB9,q_i,q_D]at hs;obtain⟨bs,rb⟩:=Den.reads g.K I dy u w hs.1.2 hy rw';obtain⟨as,ra⟩:=Den.reads g.K I (.list ds) v vv (by simpa only[PyData.canLay0] using hs.1.1) hx rv
   have hu:=g.units;have hm:=Nat.min_le_right (PyData.depthAll ds) dy.depth
   split at k
   ·rename_i j hj;have hz:ds.length<=sizeLine:=by
     simp![Den]at hx;obtain⟨a,xs,e1,q,l⟩:=hx;obtain⟨_,_,_,z⟩:=I.list (g.K▸q);rw[DenL.len ds xs l];exact z
    cases ra with
    |list h1 h2 h3 h4 =>
     rename_i l o items n as';obtain⟨oc,od,oD,os⟩:=o;simp only at h2 h3;subst h2;subst h3;have hmap:=SeqAt.readsAll_map ds _ _ hs.1.1 h4;have hlen:items.size=ds.length:=by rw[<-hmap,q_g,q_F]
     obtain⟨q1,q2,q3⟩:=List.findIdx?_eq_some_iff_getElem.mp hj;have get:∀m (hm:m<items.size),SeqAt.readOf s.heap items[m]=ds[m]'∅:=λm hm=>by
      have:(items.toList.map (SeqAt.readOf s.heap))[m]'(by simpa using hm)=ds[m]'∅:=by simp![hmap]
      simpa using this
     refine call_meets PySem.F.slot_list_index #[_,h1,rfl] PySem.F.entry_list_index (PySem.F.args_list_index_2 _ _) (SeqAt.list_indexAt l items n od os w (λy=>PyData.eqv (SeqAt.readOf s.heap y) dy) j ∅ ?_ ?_ ?_) #[h1,SeqAt.items_eqAt h4 rb hs.1.1 hs.1.2 ∅,?_]
     ·have:(sizeLine:Int)<2 ^ 63 - 1:=by decide
      omega
     ·simp![get j ∅];exact q2
     ·intro m hm hmj;simp![get m hm];have:=q3 m hmj;simpa using this
     ·refine#[.int _,H,I.tok _,#[_,rfl],KE.ok k ?_];simp![Den]
   ·exact fF k
  ·exact k.elim
 |_=>exact fF k
def few1(hs:starEach [a] X.env=[(false,eval a X.env)]):((backTo cp (starEach [a] X.env)).all (λx=>!x.1)&&(backToKw cp (keywordEach [] X.env)).all (λx=>x.1.isSome)
  && decide (([a]:List Expr).length+([]:List Keyword).length+(if ([]:List Keyword).isEmpty then 0 else 1)<30))=true:=by
 rw[hs];rfl
def JPp(g:Gk X B C CX XX G){o a:Expr}{x y:E}{ap cp:Pos}{m:Str}{id:String}{f:D->D->R D}(slot:Slot "list" m id)(hty:typeOf (.builtin id)=pure (.type "method_descriptor"))
  (hm:MtR X id (λv vs H Q=>∃dx dy u,Den B H dx v/\vs=[u]/\Den B H dy u/\KE B XX (f dx dy) H Q)) (ho:JAh o=false) (hl:(ap.endLine==cp.line)=true) (hx:PE X o (RE B C XX x)) (hy:PE X a (RE B C XX y)) (hs:starEach [a] X.env=[(false,eval a X.env)]) {z:E}
  (hz:∀U,ev C z U=(ev C x U).bind λx=>if JPT x=true then (ev C y U).bind λy=>f x y else .bad):PE X (.Call (.Attribute o m ap) [a] [] cp) (RE B C XX z):=by
 refine PE.imp (JHN PySem.F.plainAttrs_list slot hty hm hx (JBF hy JBe hs) (JBn ho _ _ _) (few1 hs) hl hs rfl) λY H Q h_=>?_;obtain⟨U,ok,h⟩:=h_;rw[hz]at h;refine RE.of (W:=λr H=>KE B XX r H Q) ok (λ_ _ z=>z) (λ_ z=>z) h λdx v H1 s1 d1 h1=>?_;cases dx with
 |list ds =>
  have d1':=d1;simp![Den]at d1';obtain⟨l,xs,e,q,dl⟩:=d1';subst e;refine#[.inl #[rfl,xs,by rw[g.K];exact q],?_]
  refine RE.of (W:=λr H=>KE B XX r H Q) (ok.mono s1) (λ_ _ z=>z) (λ_ z=>z) (KE.mono g s1 h1) λdy u H2 s2 d2 h2=>?_;exact#[_,_,_,Den.mono s2 _ _ d1,rfl,d2,KE.mono g s2 h2]
 |_=>exact fF h1
def JIi(g:Gk X B C CX XX G)(o a:Expr)(x y:E)(ap cp:Pos)(ho:JAh o=false)(hl:(ap.endLine==cp.line)=true)(hx:PE X o (RE B C XX x))(hy:PE X a (RE B C XX y))(hs:starEach [a] X.env=[(false,eval a X.env)]) :
  PE X (.Call (.Attribute o "count" ap) [a] [] cp) (RE B C XX (.mcount x y)) :=
 JPp g PySem.F.slot_list_count PySem.F.type_list_count (JKg g) ho hl hx hy hs λU=>by simp![ev]
def JHy(g:Gk X B C CX XX G)(o a:Expr)(x y:E)(ap cp:Pos)(ho:JAh o=false)(hl:(ap.endLine==cp.line)=true)(hx:PE X o (RE B C XX x))(hy:PE X a (RE B C XX y))(hs:starEach [a] X.env=[(false,eval a X.env)]) :
  PE X (.Call (.Attribute o "index" ap) [a] [] cp) (RE B C XX (.mindex x y)) :=
 JPp g PySem.F.slot_list_index PySem.F.type_list_index (JKP g) ho hl hx hy hs λU=>by simp![ev]
end
def TrAt(h:Heap)(e T:Addr)(cls:Value):Prop:=∃oe vs a0 oT ts,h.get? e=some oe/\(oe.cls=cls/\vs[0]? = some a0)/\oe.data=.fields vs/\vs[1]? = some (.ref T)/\T≠e/\h.get? T=some oT/\oT.data=.fields ts/\ts[3]? = some .none
abbrev CXV(P:Program)(w:World)(B:Bs):CXT:=λouter H s E e s'=>∃(ea T:Addr) (c:Nat) (H':Hp),e=.ref ea/\s'.os=s.os/\AllBare s'.gens/\Un (frs outer) [] H H' s.heap s'.heap/\HOk P w H' s'.heap /\
 TrAt s'.heap ea T (.ref (B.cl c))/\(s.heap.get? ea=none/\H' ea=none)/\(s.heap.get? T=none/\H' T=none)/\E (.ref (B.cl c)) none H'
def JGc{w:World}{a:Addr}(x:HOk P w H h)(q:H a=some o):∃u,h.get? a=some u:=by
 have:=x a o q;cases o with
 |lst xs=>obtain⟨_,_,_,_,e⟩:=this;exact#[_,e]
 |tup xs=>obtain⟨_,_,_,_,e,_⟩:=this;exact#[_,e]
 |dK kvs=>obtain⟨_,_,_,_,_,_,_,e,_⟩:=this;exact#[_,e]
 |dT kvs=>obtain⟨_,_,_,_,_,_,_,e,_⟩:=this;exact#[_,e]
 |set S n=>obtain⟨_,_,_,_,e,_⟩:=this;exact#[_,e]
 |ins C dx fs=>obtain⟨_,_,_,e,_⟩:=this;exact#[_,e]
 |own y=>exact this
 |xd fs=>obtain⟨_,⟨_,_,_,e,_⟩,_⟩:=this;exact#[_,e]
 |rng lo hi=>obtain⟨_,_,_,e⟩:=this;exact#[_,e]
 |frz ob u=>exact#[_,this.1]
 |tbl ps=>exact#[_,this]
 |met f y=>exact#[_,this]
 |ext φ=>exact this.2.1
def JLZ{P:Program}{w:World}{H:Hp}{h:Heap}{a:Addr}(x:HOk P w H h)(q:h.get? a=none):H a=none:=by
 cases z:H a with
 |none=>rfl
 |some o =>
  obtain⟨u,e⟩:=JGc x z;rw[q]at e;cases e
section
variable{X:Cx}{yp:Pq}{Y:St}{H':Hp}{s1:Shared}{h2:Heap}
def JDo(I:Inv X yp Y H' s1)(up:s1.heap.UpToSlots h2){b:Addr}(hb:b∈frs X.stack):∃o,h2.get? b=some o/\∀vs,o.data≠.fields vs:=by
 obtain⟨_,o,ho,hd⟩:=I.stack.mem hb;obtain⟨sl,hs⟩:=up b o ho hd;exact#[_,hs,hd]
def JJm(I:Inv X yp Y H' s1)(hex:X.ex=[]){as:List Addr}(has:∀b∈as,b∈frs X.stack\/(X.s₀.heap.get? b=none/\H' b=none)){ea:Addr}{cls a0:Value}{l:List PySem.Env}
  (fl:Heap.FlyingW (PySem.W.hideAll s1.heap as) l ea cls a0 h2) (up:s1.heap.UpToSlots h2) :
  Un X.fs [] X.H₀ H' X.s₀.heap h2/\HOk X.prog X.w H' h2/\∃T,TrAt h2 ea T cls/\X.s₀.heap.get? T=none/\H' T=none:=by
 obtain⟨st,fe,ff,oe,vs,T,oT,ts,q1,q2,q3,q4,q5,q6,q7,q8,q9⟩:=fl;have U0:=I.base;rw[hex]at U0;have sub:∀b∈X.fs,b∈frs X.stack:=λb hb=>by
  rcases I.ok.stk with e|⟨e,hf⟩
  · rw[e];exact hb
  · rw[e]
    unfold frs;rw[List.filterMap_cons,hf];exact q_s _ hb
 have loc:∀b o,X.s₀.heap.get? b=some o->b ∉ X.fs->b ∉ frs X.stack:=λb o e n z=>by
  rcases q_n.mp (I.stkSub b z) with q|q
  · rw[q]at e
    exact absurd (q_h e) (Nat.not_lt.mpr I.ok.above)
  · exact n q
 have out:∀b o,X.s₀.heap.get? b=some o->b ∉ frs X.stack->b ∉ as:=λb o e n z=>by
  rcases has b z with q|⟨q,_⟩
  · exact n q
  · rw[q]at e;cases e
 have keep:∀b o,s1.heap.get? b=some o->b ∉ as->h2.get? b=some o:=λb o e n=>st b o (PySem.W.hideAll_get _ e n);have trk:∀b o,H' b=some o->b ∉ as:=λb o e z=>by
  rcases has b z with q|⟨_,q⟩
  · rw[I.stkFree b q]at e;cases e
  · rw[q]at e;cases e
 refine#[#[λb o e n hf hx=>keep b o (U0.keep b o e n hf hx) (out b o e (loc b o e hf)),λb o e n hf hx=>?_,U0.free,λb o e hx=>?_,U0.tups,U0.frzs,U0.tbls],λa o e=>?_,T,#[oe,vs,a0,oT,ts,q1,q2,q3,q4,q6,q7,q8,q9],?_,?_]
 ·obtain⟨sl,e1⟩:=U0.slot b o e n hf hx;obtain⟨_,o',ho',hd'⟩:=I.stack.mem (sub b hf);rw[e1]at ho';cases ho';obtain⟨sl',e2⟩:=up b _ e1 hd';exact#[sl',e2]
 ·obtain⟨o',e1⟩:=U0.there b o e hx
  by_cases hb:b∈frs X.stack
  · obtain⟨o2,e2,_⟩:=JDo I up hb
    exact#[o2,e2]
  · exact#[o',keep b o' e1 (out b o e hb)]
 ·refine(I.hok a o e).stay (λb u hb eb=>keep b u eb ?_) (λ_ q=>q) λ_ _ q=>q;rcases hb with rfl|hb
  · exact trk _ _ e
  · exact trk _ _ hb
 ·cases q:X.s₀.heap.get? T with
  |none=>rfl
  |some o =>
    exfalso;obtain⟨o',e1⟩:=U0.there T o q (by simp)
    by_cases hb:T∈frs X.stack
    ·obtain⟨o2,e2,hd⟩:=JDo I up hb;rw[q7]at e2;cases e2;exact hd _ q8
    ·have:=PySem.W.hideAll_get as e1 (out T o q hb);rw[q5]at this;cases this
 ·cases q:H' T with
  |none=>rfl
  |some o =>
    exfalso;have hl:=(I.hok T o q).lt;have hn:=trk T o q;obtain⟨u,e⟩:=JGc I.hok q;have:=PySem.W.hideAll_get as e hn;rw[q5]at this;cases this
end
section
variable{P:Program}{w:World}{B:Bs}{mg:Mq}{base:Heap}{N:List Str}{qual:Str}{scope:Scope}{f:Addr}{cd:Value}{A:Around}{outer:List PySem.Env}{s:Shared}{H:Hp}{E:XK}
@[reducible]def XXd(B:Bs)(E:XK):Nat->Hp->Prop:=λc H1=>∀H',Same H1 H'->E (.ref (B.cl c)) none H'
def JIO:JBd (CXV P w B) (cxOf (CXV P w B) P w B.K mg base N qual scope f cd A outer s H E) (EX B (XXd B E)):=by
 rintro yp Y H1 s1 e s' I ⟨ea,T,c,H',e1,os,bare,un,hok,tr,⟨f1,f2⟩,⟨f3,f4⟩,⟨c',ec,hE⟩⟩;subst e1;have I':=I.call' (ch:=[]) os un hok bare (λb hb=>by simp at hb)
 obtain⟨oe,vs,a0,oT,ts,q1,q2,q3,q4,q6,q7,q8,q9⟩:=id tr;have fr0:∀b,s1.heap.get? b=none->s.heap.get? b=none:=λb q=>by
  cases z:s.heap.get? b with
  |none=>rfl
  |some o =>
   obtain⟨o',e2⟩:=I.base.there b o z (by simp[cxOf])
   rw[q]at e2;cases e2
 have has:∀b∈(ea::T::frs (cxOf (CXV P w B) P w B.K mg base N qual scope f cd A outer s H E).stack),b∈frs (cxOf (CXV P w B) P w B.K mg base N qual scope f cd A outer s H E).stack\/(s.heap.get? b=none/\H' b=none):=λb hb=>by
  rcases q_n.mp hb with rfl|hb
  ·exact .inr #[fr0 _ f1,f2]
  ·rcases q_n.mp hb with rfl|hb
   ·exact .inr #[fr0 _ f3,f4]
   ·exact .inl hb
 refine PySem.wpAny_leaves_onW (base:=PySem.W.hideAll s'.heap (ea::T::frs (cxOf (CXV P w B) P w B.K mg base N qual scope f cd A outer s H E).stack)) (outer:=outer) (cls:=.ref (B.cl c)) (a0:=a0) I'.ok.frames rfl
  #[λb o q=>PySem.W.of_hideAll _ q,PySem.W.hideAll_none _ (by simp),PySem.W.funFrames_hide I'.stack (λenv he a hf=>q_s _ (q_s _ (List.mem_filterMap.mpr #[env,he,hf]))),oe,vs,T,oT,ts,q1,q2,q3,q4,PySem.W.hideAll_none _ (by simp),q6,q7,q8,q9] λh2 fl up=>?_
 obtain⟨u2,hok2,T2,tr2,t1,t2⟩:=JJm I' rfl has fl up;refine#[ea,T2,c,H',rfl,?_,bare,u2,hok2,tr2,#[fr0 _ f1,f2],#[t1,t2],?_]
 ·exact os.trans I.os
 ·rw[ec];exact hE H' (Same.refl H')
def JJ2:∀(outer:List PySem.Env) (H:Hp) (s:Shared) (e:Value) (s':Shared),¬CXV P w B outer H s (EX B λ_ _=>False) e s':=by
 rintro outer H s e s' ⟨ea,T,c,H',_,_,_,_,_,_,_,_,c',_,z⟩;exact z
end
@[reducible]def bmV:List Value:=[.type "ValueError",.type "Exception",.type "BaseException",.type "object"]
def JNl{K:Kq}{h:Heap}{C:Addr}{bmB:List Value}{newId:String}(X:K.In h)(q:PySem.W.excIn K C bmB newId=true) :
  ∃(bm:List Value) (N:Addr) (nm qn:Str) (bs:List Value) (hdct:Bool) (sn:List Str) (sub:List Value) (ab:Bool) (col:Option Bool) (dd:Option Addr) (k0 k1 k2 k3 k5:Option Value) (mN:Mq),
   h.get? C=some (excClassObj nm qn C N bs bm hdct sn sub ab col dd k0 k1 k2 k3 k5 newId)/\h.Ns N mN/\mN "__init__"=none/\OwnTail h bmB bm:=by
 unfold PySem.W.excIn at q
 split at q
 case h_2=>cases q
 rename_i od cdat slots hlook
 split at q
 case h_2=>cases q
 rename_i C2 tl a0 a1 a2 a3 idn a5 hmro hsl;simp![q_i,beq_iff_eq,Bool.not_eq_true']at q;obtain⟨⟨⟨⟨⟨e1,e2⟩,e3⟩,e4⟩,e5⟩,e6⟩:=q;subst e1;subst e2;cases cdat with
 |mk nm bs mro ns qn hd sn sub ab col del =>
  simp only at hmro e3 e5 e6;subst hmro;subst e3;cases slots with
  |mk l =>
   simp only at hsl;subst hsl;exact#[tl,ns,nm,qn,bs,hd,sn,sub,ab,col,od,a0,a1,a2,a3,a5,_,X _ _ hlook,.of_isNs (PySem.W.isNs_of_in X e5),PySem.W.nsMap_none_of_in X e5 e6,PySem.W.tail_of_in X e4]
section
variable{P:Program}{w:World}{B:Bs}{mg:Mq}{base:Heap}{N:List Str}{qual:Str}{scope:Scope}{f:Addr}{cd:Value}{A:Around}{outer:List PySem.Env}{s:Shared}{H:Hp}{E:XK}{G:List (Str×GK)}
structure Cl(mg:Mq)(B:Bs)(G:List (Str×GK)):Prop where
 mgc:∀x c,G.lookup x=some (.cls c)->mg x=some (.ref (B.cl c))
 exc:∀x c,G.lookup x=some (.cls c)->∃Bn inN bmN newId,ExcBaseFacts Bn newId inN bmN/\bmV.contains (.type Bn)=true/\PySem.W.excIn B.K (B.cl c) bmV newId=true
def JBx(cl:Cl mg B G)(hA:A.handled=none):JIE (cxOf (CXV P w B) P w B.K mg base N qual scope f cd A outer s H E) B G (XXd B E):=by
 intro nm c m j p1 p2 p3 pos hg hb hl yp s1 Y H1 D I hx;obtain⟨Bn,inN,bmN,newId,Fn,hBn,q⟩:=cl.exc nm c hl;obtain⟨bm,N',nm',qn,bs,hdct,sn,sub,ab,col,dd,k0,k1,k2,k3,k5,mN,hC,hN,hni,TL⟩:=JNl I.kIn q;refine wpAny_Raise_call_subU (C:=B.cl c) (nm:=nm') (q:=qn) (N:=N') (bs:=bs) (bm:=bm) (hdct:=hdct) (sn:=sn) (sub:=sub) (ab:=ab) (col:=col) (dd:=dd) (k0:=k0) (k1:=k1) (k2:=k2) (k3:=k3) (k5:=k5)
  Fn hBn PySem.F.excBase_ValueError (mN:=mN) (TL.hasType PySem.F.excBase_ValueError.hasBase) hA rfl hni (JCZ I hg (cl.mgc nm c hl) #[rfl,?_] (JAA hb).1)
 refine Calls.evalArgs_plain (Calls.spliced_cons (Calls.Constant_str (k:=j) (pos:=p2) (Calls.spliced_nil #[rfl,(show(1:Nat)<=sizeLine by decide),hC,hN,TL,λh' e hx'=>?_])))
 have none0:s.heap.get? e=none:=by
  cases z:s.heap.get? e with
  |none=>rfl
  |some o =>
    obtain⟨o',e2⟩:=I.base.there e o z (by simp[cxOf])
    have:=hx'.new;rw[e2]at this;cases this
 refine PySem.wpAny_leaves_madeW (base:=PySem.W.hideAll s1.heap (frs (cxOf (CXV P w B) P w B.K mg base N qual scope f cd A outer s H E).stack)) (outer:=outer) I.ok.frames rfl (λb o q=>PySem.W.of_hideAll _ q)
  (PySem.W.funFrames_hide I.stack (λenv he a hf=>List.mem_filterMap.mpr #[env,he,hf])) hx' λh2 t x1 x2 x3 x4=>?_
 obtain⟨u2,hok2,T2,tr2,t1,t2⟩:=JJm I rfl (λb hb=>.inl hb) x1 ((Heap.UpToSlots.of_keeps hx'.keeps).trans x4);exact#[e,T2,c,H1,rfl,I.os,I.bare,u2,hok2,tr2,#[none0,JLZ I.hok hx'.new],#[t1,t2],hx H1 (Same.refl H1)]
end
section
variable{X:Cx}{yp pins' pn:Pq}{Y:St}{H:Hp}{s:Shared}{A:Around}{xe:Vq}{calm:Bool}{h2:Heap}
def JHD(I:Inv X yp Y H s)(hA:A.frames=X.A.frames)(hc:calm=true->A.handled=none)(hp:∀p∈pn++pins',p∈X.pn++yp):Inv (atX X A pn xe calm) pins' Y H s :=
 let ok:=I.ok
 #[#[ok.mod,ok.kind,ok.glob,ok.blt,ok.above,ok.inj,ok.has,ok.cab,hc,hA.trans ok.frames,ok.stk,ok.exf,ok.bs,ok.bsz,ok.noex,ok.exfs,ok.funs,ok.frf],I.os,I.bare,I.base,I.loc,I.cell,I.free,I.freeC,λp q=>I.pin p (hp p q),I.hok,I.len]
def JDs(I:Inv (atX X A pn xe calm) pins' Y H s)(hA:X.A.frames=A.frames)(hc:X.calm=true->X.A.handled=none)(hp:∀p∈X.pn++yp,p∈pn++pins'):Inv X yp Y H s :=
 let ok:=I.ok
 #[#[ok.mod,ok.kind,ok.glob,ok.blt,ok.above,ok.inj,ok.has,ok.cab,hc,hA.trans ok.frames,ok.stk,ok.exf,ok.bs,ok.bsz,ok.noex,ok.exfs,ok.funs,ok.frf],I.os,I.bare,I.base,I.loc,I.cell,I.free,I.freeC,λp q=>I.pin p (hp p q),I.hok,I.len]
def JJy(I:Inv X yp Y H s)(hex:X.ex=[]){as:List Addr}(has:∀b∈as,b∈frs X.stack\/(X.s₀.heap.get? b=none/\H b=none))(hpin:∀p∈X.pn++yp,p.1 ∉ as){ea:Addr}{cls a0:Value}{l:List PySem.Env}
  (fl:Heap.FlyingW (PySem.W.hideAll s.heap as) l ea cls a0 h2) (up:s.heap.UpToSlots h2) (t:Nat):Inv X yp Y H { s with heap:=h2,toks:=t }:=by
 obtain⟨u2,hok2,_⟩:=JJm I hex has fl up;obtain⟨m,hn,hl⟩:=id I.loc;have cell:∀ {c:Addr}{v:Option Value},s.heap.IsCell c v->h2.IsCell c v:=λ{c v} ⟨o,ho,hd⟩=>by
  obtain⟨sl,e⟩:=up c o ho (λvs q=>by rw[hd]at q;cases q)
  exact#[_,e,hd]
 refine#[I.ok,I.os,I.bare,by rw[hex];exact u2,#[m,up.ns hn,λi x v e1 e2 e3=>?_],λx c e=>?_,I.free,I.freeC,λp hp=>?_,hok2,I.len]
 ·obtain⟨u,r,q⟩:=hl i x v e1 e2 e3;refine#[u,r,?_];rcases q with q|⟨k,c,e,z⟩
  · exact .inl q
  · exact .inr #[k,c,e,cell z]
 ·obtain⟨v,z⟩:=I.cell x c e;exact#[v,cell z]
 ·obtain⟨e,n,ne,nf,d⟩:=I.pin p hp;exact#[fl.1 _ _ (PySem.W.hideAll_get _ e (hpin p hp)),n,ne,nf,d]
def JJv(I:Inv X yp Y H s){ea C:Addr}{oe:Obj}{vs:Array Value}(he:s.heap.get? ea=some oe)(hc:oe.cls=.ref C)(hd:oe.data=.fields vs)(h0:X.s₀.heap.get? ea=none)(hn:H ea=none)(hpin:∀p∈X.pn++yp,p.1≠ea) :
  Inv X yp Y (upd H ea (.ext (ExcAt ea C))) s:=by
 have hloc:ea≠X.env.locals:=λz=>by
  obtain⟨m,⟨o,es,ep,ho,hdo,_⟩,_⟩:=I.loc;rw[<-z,he]at ho;cases ho;rw[hd]at hdo;cases hdo
 have hcell:∀x c,X.env.cells.lookup x=some c->c≠ea:=λx c e z=>by
  obtain⟨v,o,ho,hdo⟩:=I.cell x c e;rw[z,he]at ho;cases ho;rw[hd]at hdo;cases hdo
 have U0:=I.base;refine#[I.ok,I.os,I.bare,#[U0.keep,U0.slot,λb o e n hx=>?_,U0.there,λb xs e=>?_,λb o u e=>?_,λb ps e=>?_],I.loc,I.cell,?_,λx c e=>?_,λp hp=>?_,λa o e=>?_,I.len]
 ·rw[JAJ λz=>by rw[z,h0]at e;cases e]
  exact U0.free b o e n hx
 ·have q:=U0.tups b xs e;rw[JAJ λz=>by rw[z,hn]at q;cases q]
  exact q
 ·have q:=U0.frzs b o u e;rw[JAJ λz=>by rw[z,hn]at q;cases q]
  exact q
 ·obtain⟨more,q⟩:=U0.tbls b ps e;exact#[more,by rw[JAJ λz=>by rw[z,hn]at q;cases q];exact q]
 ·rw[JAJ hloc.symm];exact I.free
 ·rw[JAJ (hcell x c e)];exact I.freeC x c e
 ·obtain⟨e,n,ne,nf,d⟩:=I.pin p hp;exact#[e,by rw[JAJ (hpin p hp)];exact n,ne,nf,d]
 ·by_cases ha:a=ea
  ·subst ha;rw[JAH]at e;cases e;refine#[#[oe,he,hc],#[oe,he],λh1 h2 ⟨o1,q1,q2⟩ k=>#[o1,k o1 q1,q2]]
  ·rw[JAJ ha]at e;have ne:∀b o,H b=some o->b≠ea:=λb o q z=>by rw[z,hn]at q;cases q
   exact(I.hok a o e).stay (λb u _ q=>q) (λb q=>by rw[JAJ (ne b _ q)];exact q) λb xs q=>by rw[JAJ (ne b _ q)];exact q
def JJ4{M:Model}{A:Around}{E:Vq}{i:Nat}{x:Str}{v:V}{Q:Unit->Shared->Prop}(I:Inv X yp Y H s)(hN:X.N.Nodup)(hi:X.N[i]? = some x)(hx:X.env.scope.names.lookup x=some .local)(hv:Y[i]? = some (some v))
  (h:∀s',Inv X yp (Y.set i none) H s'->Q () s'):wpAny M A (unbindName X.env x) Q E s:=by
 obtain⟨m,hn,hl⟩:=id I.loc;obtain⟨u,r,q⟩:=hl i x v hi hv (.inl hx);have hm:m x=some u:=by
  rcases q with ⟨_,q⟩|⟨k,_⟩
  · exact q
  · have hk:X.env.kindOf x=some .local:=hx
    rcases k with k|k<;>rw[hk]at k<;>cases k
 have hcls:(X.env.scope.kind==.class || (X.env.scope.kind==.module&&X.env.locals != X.env.globals))=false:=by rw[I.ok.kind];rfl
 refine wpAny_unbindName_local hx hn hm hcls λh' u' hn' hs=>h _ ?_;obtain⟨oL,_,_,hoL,_⟩:=id hn;have old:∀b o,X.s₀.heap.get? b=some o->h'.get? b=s.heap.get? b:=λb o e=>hs.2 b (q_l (q_m (q_h e) I.ok.above));have trk:∀b o,H b=some o->b≠X.env.locals:=λb o e z=>by rw[z,I.free]at e;cases e
 have U0:=I.base;refine#[I.ok,I.os,I.bare,#[λb o e n hb hx=>(old b o e).trans (U0.keep b o e n hb hx),λb o e n hb hx=>?_,U0.free,λb o e hx=>?_,U0.tups,U0.frzs,U0.tbls],#[_,hn',λj y v' e1 e2 e3=>?_],λy c e=>?_,I.free,I.freeC,λp hp=>?_,λa o e=>?_,by simpa using I.len]
 ·obtain⟨sl,q⟩:=U0.slot b o e n hb hx;exact#[sl,(old b o e).trans q]
 ·obtain⟨o',q⟩:=U0.there b o e hx;exact#[o',(old b o e).trans q]
 ·have hj:j≠i:=λz=>by
    subst z;have:j<Y.length:=(q_p.mp hv).1;rw[q_z this]at e2;cases e2
  rw[q_A (Ne.symm hj)]at e2;obtain⟨w,r',q⟩:=hl j y v' e1 e2 e3;have hne:y≠x:=λe=>hj (JEE hN e1 (e▸hi));refine#[w,r',?_];rcases q with ⟨k,e⟩|⟨k,c,e,z⟩
  · exact .inl #[k,by simp[hne,e]]
  · exact .inr #[k,c,e,z.sameBut hs (I.cne y c e)]
 ·obtain⟨w,z⟩:=I.cell y c e;exact#[w,z.sameBut hs (I.cne y c e)]
 ·obtain⟨e,n,ne,nf,d⟩:=I.pin p hp;exact#[(hs.2 p.1 ne).trans e,n,ne,nf,d]
 ·refine(I.hok a o e).stay (λb w hb q=>(hs.2 b ?_).trans q) (λ_ q=>q) λ_ _ q=>q;rcases hb with rfl|hb
  · exact trk _ _ e
  · exact trk _ _ hb
end
section
variable{X:Cx}{B:Bs}{C:Cn}{XX:Nat->Hp->Prop}{G:List (Str×GK)}
def sp_un{yp:Pq}{D:Ends}{xe:Vq}{f:Flow}{s:Shared}(hc:X.calm=true->X.A.handled=none)(h:SP (atX X X.A (X.pn++yp) xe true) [] D f s):SP X yp D f s:=by
 have hp:∀p∈X.pn++yp,p∈(X.pn++yp)++[]:=λp hp=>by simpa using hp
 cases f with
 |next=>obtain⟨Y',H',I,q⟩:=h;exact#[Y',H',JDs I rfl hc hp,q]
 |brk=>obtain⟨Y',H',I,q⟩:=h;exact#[Y',H',JDs I rfl hc hp,q]
 |cont=>obtain⟨Y',H',I,q⟩:=h;exact#[Y',H',JDs I rfl hc hp,q]
 |ret u=>obtain⟨v,Y',H',I,r,q⟩:=h;exact#[v,Y',H',JDs I rfl hc hp,r,q]
def gk_at{CX:CXT}(g:Gk X B C CX XX G){pn:Pq}{xe:Vq}{XX':Nat->Hp->Prop}(ha:∀c H H',Same H H'->XX' c H->XX' c H')(hp:JBd CX (atX X X.A pn xe true) (EX B XX')):Gk (atX X X.A pn xe true) B C CX XX' G where
 K:=g.K
 W:=g.W
 anti:=ha
 units:=g.units
 calm:=λ_=>rfl
 fn:=g.fn
 pas:=hp
 con:=g.con
 noexg:=g.noexg
 blt:=g.blt
 rng:=g.rng
 isi:=g.isi
 ty:=g.ty
 cls:=g.cls
 nam:=g.nam
 fld:=g.fld
 mth:=g.mth
def JRs{Hb H9:Hp}{Y':St}{U:Env}{ea:Addr}{k1 i j:Nat}(hl:Y'.length=U.length)(hj:j<U.length)(hij:i≠j)(sm:Same Hb H9)(he:H9 ea=some (.ext (ExcAt ea (B.cl k1)))) :
  SO B Hb ((((Y'.set i (some (.ref ea))).set j (some (.ref ea))).set i (some .non)).set i none) H9 ((((U.map λ_=>Sl.no).set i (.val (excD k1))).set j (.val (excD k1))).set i .no) (λ_=>none):=by
 refine#[by simp[hl],sm,(λa b c e=>by cases e),λm=>?_]
 have hh:hid H9 (λ_=>none)=H9:=by
  funext b
  unfold hid hidP;rw[if_neg];rintro⟨i,e⟩;cases e
 by_cases hmi:m=i
 ·subst hmi
  by_cases hm:m<U.length
  ·rw[q_z (by simpa using hm)]
   rfl
  ·rw[List.getElem?_eq_none (by simp;omega)]
   rfl
 ·rw[q_A (Ne.symm hmi)]
  by_cases hmj:m=j
  ·subst hmj;rw[q_z (by simpa using hj)]
   refine#[rfl,.ref ea,?_,?_]
   ·rw[q_A (Ne.symm hmi),q_A (Ne.symm hmi),q_z (by simp;omega)]
   ·rw[hh];unfold excD;simp![Den];exact .inl #[ea,k1,rfl,rfl,he]
  ·rw[q_A (Ne.symm hmj),q_A (Ne.symm hmi),List.getElem?_map];cases U[m]?<;>rfl
end
section
variable{B:Bs}{G:List (Str×GK)}{tab:Nat->Option Fd}{glo:Nat->R D}{sub:Nat->Nat->Bool}
structure Mo(mg:Mq)(B:Bs)(G:List (Str×GK))(tab:Nat->Option Fd)(glo:Nat->R D)(sub:Nat->Nat->Bool):Prop where
 fn:∀x i,G.lookup x=some (.fn i)->∃fd,tab i=some fd/\DefAt B.K mg G x fd
 con:∀x i d,G.lookup x=some (.con i)->glo i=.ok d->∃u v,mg x=some u/\RelV v u/\∀H,Den B H d v
 noexg:∀i c,glo i≠.exc c
 blt:∀x b,G.lookup x=some (.blt b)->mg x=none
 rng:∀x,G.lookup x=some .rng->mg x=none
 isi:∀x,G.lookup x=some .isi->mg x=none
 ty:∀x t,G.lookup x=some (.ty t)->mg x=none
 nam:∀x,G.lookup x=some .nam->mg x=none
 rcf:∀x i,G.lookup x=some (.rcf i)->tab i=none
 rcm:∀x i j,G.lookup x=some (.rcm i j)->tab j=none
 cl:Cl mg B G
 exm:∀x c,G.lookup x=some (.cls c)->∀k,sub k c=true->PySem.W.exmOne B.K (.ref (B.cl k)) (.ref (B.cl c))=some true
structure Ra3(B:Bs)(C:Cn)(G:List (Str×GK))(P:Program)(w:World):Prop where
 ra:Rare B C (CXV P w B) G
 rr:RareS B C (CXV P w B) G
def JG0{x:Bool}{n i:Nat}(h:tab i=none):run x tab glo sub n i ds=.bad:=by
 cases n with
 |zero=>rfl
 |succ n=>unfold run;rw[h]
def fn_at[Cool G]{P:Program}{w:World}(hw:w=B.w){mg:Mq}{base:Heap}(M:Mo mg B G tab glo sub)(ra:∀n,Ra3 B #[run true tab glo sub n,glo,sub] G P w){n i:Nat}{x:Str}{f:Addr}{fo:FuncData}{st:Stmt}{N ps:List Str}{fd:Fd}
  (ih:∀(y:Str) (j:Nat),G.lookup y=some (.fn j)->∃f fd ps,mg y=some (.ref f)/\PySem.W.keepIn B.K (.ref f)=true/\FnOk P w B.K mg base (CXV P w B) n f fd ps (JBQ B ps.length (run true tab glo sub n j))/\Binds B.K fd ps []/\∀ds,run true tab glo sub n j ds≠.bad->ds.length=ps.length)
  (F:Fun B.K x x st f fo) (T:Turned G st N ps fd) (ht:tab i=some fd):FnOk P w B.K mg base (CXV P w B) (n+1) f fo ps (JBQ B ps.length (run true tab glo sub (n+1) i)):=by
 obtain⟨oc,od,kV,doc,pm,an,cdv,ct,osl,rfl,lk,hcd⟩:=F.ex;refine JOJ lk hcd T.sc (λvs H Q E q=>q.1) λA outer s H vs Q E hr q=>?_;obtain⟨hl,ds,dn,q⟩:=q;have hA:A.handled=none:=hr.hd;have g:Gk (cxOf (CXV P w B) P w B.K mg base N x (JAM st) f cdv A outer s H E) B #[run true tab glo sub n,glo,sub] (CXV P w B) (XXd B E) G:={
  K:=rfl
  W:=hw
  anti:=λc H1 H2 sm z H' s'=>z H' (sm.trans s')
  units:=by have:=hr.un;show(A.deeper _).units+200<_;omega
  calm:=λ_=>rfl
  fn:=λy j hy=>by
    obtain⟨f',fd',ps',w1,w2,w3,w4,w5⟩:=ih y j hy;exact#[f',fd',ps',n,w1,w2,w3,hr,w4,w5]
  pas:=JIO
  con:=M.con
  noexg:=M.noexg
  blt:=M.blt
  rng:=M.rng
  isi:=M.isi
  ty:=M.ty
  cls:=M.cl.mgc
  nam:=M.nam
  fld:=λf i e H ds vs _=>by show(match run true tab glo sub n i ds with|.ok d=>_|.exc _=>_|.bad=>_);rw[JG0 (M.rcf f i e)];trivial
  mth:=λm i j e=>.inl λds=>JG0 (M.rcm m i j e) }
 have hs:=JG3 (ra n).ra (ra n).rr 60 _ _ _ _ true g T.sc.kind rfl rfl T.sc.nd PassesOwn.leaving (λ_=>rfl) (λ_=>JBx M.cl hA);refine#[_,JDM hs T.comp,?_];have hlen:=DenL.len ds vs dn;have hN:N.length=fd.slots:=T.slots.symm;have hpl:ps.length<=N.length:=by have:=congrArg List.length T.sc.pre;rw[List.length_take]at this;omega
 refine#[_,_,H,Dm.refl H,JCU dn rfl ∅,?_]
 unfold run at q;rw[ht]at q;simp![JB1]at q;rw[if_pos (by rw[T.par];omega)]at q
 rw[show fd.slots - fd.par=N.length - ds.length by rw[T.slots,T.par];omega]at q
 split at q
 ·rename_i r d hd
  split at hd
  · rename_i U he
    cases hd;rw[he];exact λY' H' O' so'=>q .non H' so'.same (by simp![Den])
  · rename_i d' he
    cases hd;rw[he];exact λv H' sm dn'=>q v H' sm dn'
  · simp at hd
  · cases hd
 ·rename_i r c hd
  split at hd
  · cases hd
  · cases hd
  · rename_i c' he
    simp![if_true,R.exc.injEq]at hd;subst hd;rw[he];exact q
  · cases hd
 ·exact q.elim
theorem fns[Cool G]{w:World}(hw:w=B.w){base:Heap}(M:Mo mg B G tab glo sub)(ra:∀n,Ra3 B #[run true tab glo sub n,glo,sub] G P w):∀(n:Nat) (x:Str) (i:Nat),G.lookup x=some (.fn i) ->
  ∃f fd ps,mg x=some (.ref f)/\PySem.W.keepIn B.K (.ref f)=true/\FnOk P w B.K mg base (CXV P w B) n f fd ps (JBQ B ps.length (run true tab glo sub n i))/\Binds B.K fd ps []/\∀ds,run true tab glo sub n i ds≠.bad->ds.length=ps.length
 |0,x,i,h=>by
  obtain⟨fd,ht,⟨f,fo,st,N,ps,e1,F,bi,T⟩⟩:=M.fn x i h;refine#[f,fo,ps,e1,F.kp,#[λvs H Q E q=>q.1,λA outer s H args us vs Q E hr he hb hv ⟨_,ds,_,q⟩=>?_],bi,λds q=>absurd rfl q];exact fF q
 |n+1,x,i,h=>by
  obtain⟨fd,ht,⟨f,fo,st,N,ps,e1,F,bi,T⟩⟩:=M.fn x i h;refine#[f,fo,ps,e1,F.kp,fn_at hw M ra (fns hw M ra n) F T ht,bi,λds q=>?_];obtain⟨fd',h1,h2⟩:=JOx q;rw[ht]at h1;cases h1;rw[h2,T.par]
end
end VI
end
section
namespace VI
open PySem PySem.Spec PyProof.Rows L2 Builtin Builtin.ObjectAttr Builtin.Getset_descriptor
structure ExcK(K:Kq)(C:Addr):Prop where
 ga:PySem.W.findIn K (.ref C) "__getattribute__"=some (some (.builtin "BaseException.__getattribute__"))
 gh:PySem.W.findIn K (.ref C) "__getattr__"=some none
 cl:PySem.W.findIn K (.ref C) "__class__"=some (some (.builtin "object.__class__"))
 ob:PySem.W.mroIn K C (.type "object")=some true
 bx:PySem.W.mroIn K C (.type "BaseException")=some true
 gt:PySem.W.specialIn K (.builtin "object.__class__") "__get__"=some (some (.builtin "getset_descriptor.__get__"))
 st:PySem.W.takesIn K (.builtin "object.__class__")=some true
section
variable{K:Kq}{a C:Addr}{prog:Program}{w:World}{A:Around}{s:Shared}
def JCn(p:ExcAt a C h):PySem.W.Looks M h (typeOf (.ref a)) (.ref C):=by
 obtain⟨o,h1,h2⟩:=p;rw[<-h2];exact(PySem.W.Looks.ld h1).andThen .now
def JHk{d g:Value}(X:K.In h)(h1:PySem.W.findIn K (.ref C) nm=some (some d))(h2:PySem.W.specialIn K d "__get__"=some (some g))(h3:PySem.W.takesIn K d=some true) :
   PySem.W.Looks M h (find (.ref a) (.ref C) nm) (.bind g d) :=
 (PySem.W.looks_findIn X h1).andThen ((show PySem.W.Looks M h (getOf (some d)) (some g) from PySem.W.looks_specialIn X h2).andThen
   ((show PySem.W.Looks M h (dataDescriptor? (some d) (some g)) (some (g,d)) from(PySem.W.looks_takesIn X h3).andThen .now).andThen (PySem.W.Looks.tag .now)))
def JOP{R:Result->Shared->Prop}{tp:Value}(X:K.In s.heap)(p:ExcAt a C s.heap)(hm:PySem.W.mroIn K C (.type "object")=some true)(h:R (.ok (.ret (.ref C))) s) :
  codeAny (model prog w) A (.call (.builtin "getset_descriptor.__get__") #[[.builtin "object.__class__",.ref a,tp],[]]) R s:=by
 obtain⟨hp,gs,dn,tk,os⟩:=s;have q0:=JCn (M:=model prog w) p;have q1:=PySem.W.looks_mroIn (M:=model prog w) X hm;refine codeAny_call_builtin PySem.W.KF.slot_gs.plain PySem.W.KF.entry_gs (PySem.W.KF.slot_gs.check _ _ _ _ _ _ _ _ PySem.W.KF.type_class (PySem.W.KF.args_gs _ _ _) ?_);unfold Builtin.«getset_descriptor.__get__» descrGet;rw[PySem.W.dga_obj];refine q_b (q_e ?_);unfold descrGetter descrCheckInstance descrNameAndClass isInstance;simp![PySem.W.KF.owner_class];repeat lk
 refine#[Code.quiet_builtin _ (by decide +kernel),codeAny_builtin PySem.W.KF.entry_class ?_]
 unfold Builtin.«object.__class__» shownTypeOf;repeat lk
 exact h
def JKz{nameV:Value}{E:Vq}{Q:Unit->Shared->Prop}(F:ExcK K C)(X:K.In s.heap)(p:ExcAt a C s.heap)(h:Q () s):wpAny (model prog w) A (checkBuiltinCall "BaseException.__getattribute__" #[[.ref a,nameV],[]]) Q E s:=by
 obtain⟨hp,gs,dn,tk,os⟩:=s;have q:PySem.W.Looks (model prog w) hp (isInstance (.ref a) (.type "BaseException")) true:=(JCn p).andThen (PySem.W.looks_mroIn X F.bx);have k1:builtinKind "BaseException.__getattribute__"=some .slot:=by decide +kernel
 have k2:splitId "BaseException.__getattribute__"=some ("BaseException","__getattribute__"):=by decide +kernel
 have ha:=PySem.F.args_bexc_ga (.ref a) nameV;simp![checkBuiltinCall,k1,k2];refine q_b (q.at ?_)
 repeat (first|exact h|wp_step)
def JJ1{E:Vq}{Q:Option Value->Shared->Prop}(F:ExcK K C)(X:K.In s.heap)(p:ExcAt a C s.heap)(h:Q (some (.ref C)) { s with toks:=s.toks+1 }) :
  wpAny (model prog w) A (getAttr? (.ref a) "__class__") Q E s:=by
 obtain⟨hp,gs,dn,tk,os⟩:=s;have q0:=JCn (M:=model prog w) p;have q1:=PySem.W.looks_findIn (M:=model prog w) X F.ga;have q2:=PySem.W.looks_findIn (M:=model prog w) X F.gh;have q3:=JHk (M:=model prog w) (a:=a) X F.cl F.gt F.st;have B:=PySem.F.attr_ValueError.ga;unfold getAttr? getAttrBy? getAttrBy;refine q_b (wpAny_mkText (q_b (wpAny_attempt (wpAny_holding (q_b (q0.at (q_b (q1.at ?_))))))));show wpAny _ _ (getAttrByItsOwn _ _ _ _ _ _) _ _ _;refine q_b (q2.at (q_b (wpAny_attempt (wpAny_holding ?_))));show wpAny _ _ (boundAndCalled _ _ _) _ _ _;unfold boundAndCalled;rw[B.bind];refine q_b (q_e (wpAny_call (codeAny_call_builtin B.plain PySem.F.entry_bexc_ga (JKz F X p ?_))));refine q_b (q_e (q_b (q_e (q_b (q0.at (q_b (q3.at ?_)))))));show wpAny _ _ (holding [Value.builtin "object.__class__"] (call (.builtin "getset_descriptor.__get__") [Value.builtin "object.__class__",.ref a,.ref C]) >>= ret) _ _ _;refine q_b (wpAny_holding (wpAny_call (JOP X p F.ob (q_e ?_))));show wpAny _ _ (handedOut (.ref C)) _ _ _;exact PySem.W.handed_on rfl (q_e h)
def JGU(F:ExcK K C):PySem.W.KitX K (.ref a) (.ref C) (ExcAt a C) where
 ty:=λM h _ p=>JCn p
 it:=λM h X _=>by
  obtain⟨cd,e1,_⟩:=q_a.mp F.ob;unfold PySem.W.clsIn at e1
  split at e1
  ·rename_i ho;intro A' Q' E' s' k q;unfold isType loadHead;exact q_b (wpAny_loadPart (k _ _ (X _ _ ho)) (q_e q))
  ·cases e1
 ne:=λh tp dd its n sl X ht=>by
  obtain⟨cd,e1,_⟩:=q_a.mp F.ob;refine Bool.eq_false_iff.mpr λq=>?_;have e:C=tp:=Value.ref.inj (beq_iff_eq.mp q);subst e;unfold PySem.W.clsIn at e1
  split at e1
  ·rename_i ho;have z:=(X _ _ ho).symm.trans ht;cases z
  ·cases e1
 ca:=λX p k=>JJ1 F X p k
end
abbrev nmOf:Ty->String
 |.int=>"int"
 |.bool=>"bool"
 |.str=>"str"
 |.list=>"list"
 |.tuple=>"tuple"
 |.dict=>"dict"
 |.valueError=>"ValueError"
 |.own _=>""
def JOv(h:JBD ty=some t):bootBuiltins t=some (.type (nmOf ty)):=by
 cases ty<;>simp![JBD,q_j,reduceCtorEq]at h<;>subst h<;>boot_by_name
section
variable{K:Kq}
def JQ3(h:(JBD ty).isSome=true):PySem.W.kitOne K (.type "NoneType") (.type (nmOf ty))=some false:=by
 cases ty<;>first|(cases h;done)|kernel_rfl
def JNo(h:(JBD ty).isSome=true):PySem.W.kitOne K (.type "bool") (.type (nmOf ty))=some (ty==.int || ty==.bool):=by
 cases ty<;>first|(cases h;done)|kernel_rfl
def JSO(h:(JBD ty).isSome=true):PySem.W.kitOne K (.type "int") (.type (nmOf ty))=some (ty==.int):=by
 cases ty<;>first|(cases h;done)|kernel_rfl
def JSC(h:(JBD ty).isSome=true):PySem.W.kitOne K (.type "str") (.type (nmOf ty))=some (ty==.str):=by
 cases ty<;>first|(cases h;done)|kernel_rfl
def JOU(h:(JBD ty).isSome=true):PySem.W.kitOne K (.type "list") (.type (nmOf ty))=some (ty==.list):=by
 cases ty<;>first|(cases h;done)|kernel_rfl
def JLW(h:(JBD ty).isSome=true):PySem.W.kitOne K (.type "tuple") (.type (nmOf ty))=some (ty==.tuple):=by
 cases ty<;>first|(cases h;done)|kernel_rfl
def ko_of{C:Addr}(h:PySem.W.kitOne K (.type "NoneType") (.ref C)=some false)(hs:PySem.W.subIn K (.type T) (.ref C)=some false):PySem.W.kitOne K (.type T) (.ref C)=some false:=by
 have n1:∀T:String,((Value.type T)==Value.ref C)=false:=λT=>rfl;unfold PySem.W.kitOne PySem.W.kitCls at h ⊢;rw[n1]at h ⊢;simp![q_v,if_false]at h ⊢
 split at h
 ·rename_i z;rw[if_pos z];exact hs
 ·cases h
def JO3{C:Addr}:PySem.W.subIn K (.type "bool") (.ref C)=some false:=by kernel_rfl
def JSJ{C:Addr}:PySem.W.subIn K (.type "int") (.ref C)=some false:=by kernel_rfl
def JRH{C:Addr}:PySem.W.subIn K (.type "str") (.ref C)=some false:=by kernel_rfl
def JOt{C:Addr}:PySem.W.subIn K (.type "list") (.ref C)=some false:=by kernel_rfl
def JLe{C:Addr}:PySem.W.subIn K (.type "tuple") (.ref C)=some false:=by kernel_rfl
end
structure Isi(B:Bs)(G:List (Str×GK))(sub:Nat->Nat->Bool):Prop where
 own:∀x c,G.lookup x=some (.cls c)->PySem.W.kitOne B.K (.type "NoneType") (.ref (B.cl c))=some false
 exc:∀k,sub k k=true->ExcK B.K (B.cl k)/\PySem.W.kitOne B.K (.ref (B.cl k)) (.type "ValueError")=some true
 rel:∀k,sub k k=true->∀x c,G.lookup x=some (.cls c)->PySem.W.kitOne B.K (.ref (B.cl k)) (.ref (B.cl c))=some (sub k c)
section
variable{X:Cx}{B:Bs}{C:Cn}{CX:CXT}{XX:Nat->Hp->Prop}{G:List (Str×GK)}
def TyV(B:Bs)(G:List (Str×GK))(ty:Ty)(v:V):Prop:=((JBD ty).isSome=true/\v=.ty (nmOf ty))\/∃x c,ty=.own c/\G.lookup x=some (.cls c)/\v=.ref (B.cl c)
def JLG(I0:Isi B G C.sub)(g:Gk X B C CX XX G)(ty:Ty):JBl X (.builtin "isinstance") (λvs H Q=>∃d v1 v2,vs=[v1,v2]/\Den B H d v1/\TyV B G ty v2/\KE B XX (isiD C.sub d ty) H Q):=by
 rintro yp s Y H vs us Q I r ⟨d,v1,v2,e,dn,tv,k⟩;subst e;obtain⟨u1,us',rfl,r1,rs⟩:∃u1 us',us=u1::us'/\RelV v1 u1/\Vals [v2] us':=by cases r;exact#[_,_,rfl,‹_›,‹_›]
 obtain⟨u2,rfl,r2⟩:=rs.one;have KI:B.K.In s.heap:=g.K▸I.kIn;have fin:∀ {x t:Value}{Hh:Heap->Prop}{b:Bool},PySem.W.KitX B.K x t Hh->Hh s.heap->isiD C.sub d ty=.ok (.bool b)->x=u1->x≠.builtin "__main__.__loader__#opaque"->PySem.W.kitOne B.K t u2=some b->wpAny (model X.prog X.w) X.A (call (.builtin "isinstance") [u1,u2]) (EP X yp Y Q) X.xe s:=by
  intro x t Hh b Z p e hx hne e2;subst hx;rw[e]at k;exact PySem.W.kia_one Z KI p e2 hne λtk=>#[.bl b,H,I.tok tk,rfl,KE.ok k (by simp![Den])]
 have u2e:∀(T:String) (f:Ty->Bool),((JBD ty).isSome=true->PySem.W.kitOne B.K (.type T) (.type (nmOf ty))=some (f ty))->(∀c,f (.own c)=false)->(∀c,PySem.W.subIn B.K (.type T) (.ref c)=some false)->PySem.W.kitOne B.K (.type T) u2=some (f ty):=by
  intro T f h1 h2 h3;rcases tv with ⟨t1,rfl⟩|⟨x,c,rfl,hl,rfl⟩
  ·cases r2;exact h1 t1
  ·cases r2;rw[h2];exact ko_of (I0.own x c hl) (h3 _)
 cases d with
 |none =>
  simp![Den]at dn;subst dn;cases r1;refine fin PySem.W.kitx_none trivial rfl rfl (by intro q;cases q) (u2e "NoneType" (λ_=>false) (λh=>JQ3 h) (λ_=>rfl) λc=>?_)
  kernel_rfl
 |bool b =>
  simp![Den]at dn;subst dn;cases r1;exact fin PySem.W.kitx_bool trivial rfl rfl (by intro q;cases q) (u2e "bool" (λty=>ty==.int || ty==.bool) (λh=>JNo h) (λ_=>rfl) λc=>JO3)
 |int b =>
  simp![Den]at dn;subst dn;obtain⟨t,rfl⟩:=r1;exact fin PySem.W.kitx_int trivial rfl rfl (by intro q;cases q) (u2e "int" (λty=>ty==.int) (λh=>JSO h) (λ_=>rfl) λc=>JSJ)
 |str b =>
  simp![Den]at dn;subst dn;obtain⟨t,rfl⟩:=r1;exact fin PySem.W.kitx_str trivial rfl rfl (by intro q;cases q) (u2e "str" (λty=>ty==.str) (λh=>JSC h) (λ_=>rfl) λc=>JRH)
 |list b =>
  simp![Den]at dn;obtain⟨l,xs,rfl,q,_⟩:=dn;cases r1;obtain⟨its,_,⟨o,n,e1,e2,_⟩,_⟩:=I.list (g.K▸q);exact fin PySem.W.kitx_list #[o,e1,e2] rfl rfl (by intro q;cases q) (u2e "list" (λty=>ty==.list) (λh=>JOU h) (λ_=>rfl) λc=>JOt)
 |tuple b =>
  simp![Den]at dn;obtain⟨l,xs,rfl,q,_⟩:=dn;cases r1;obtain⟨its,_,⟨o,e1,e2,_⟩,_⟩:=I.tuple (g.K▸q);exact fin PySem.W.kitx_tuple #[o,e1,e2] rfl rfl (by intro q;cases q) (u2e "tuple" (λty=>ty==.tuple) (λh=>JLW h) (λ_=>rfl) λc=>JLe)
 |dict kvs =>
  simp![Den]at dn;rcases dn with ⟨l,c,rfl,rfl,q⟩|⟨l,xs,rfl,q,dk⟩|⟨l,c,rfl,rfl,q⟩
  rotate_left 2
  ·exact fF k
  ·cases r1;simp![isiD,Int.toNat_natCast]at k fin
   by_cases hk:C.sub c c=true
   ·rw[if_pos hk]at k fin;have p:ExcAt l (B.cl c) s.heap:=by
     have:=I.hok l _ q;exact this.1
    rcases tv with ⟨t1,rfl⟩|⟨x,e,rfl,hl,rfl⟩
    ·cases r2;cases ty with
     |valueError=>exact fin (JGU (I0.exc c hk).1) p rfl rfl (by intro q;cases q) (I0.exc c hk).2
     |own e=>cases t1
     |_=>exact fF k
    ·cases r2;exact fin (JGU (I0.exc c hk).1) p rfl rfl (by intro q;cases q) (I0.rel c hk x e hl)
   ·rw[if_neg hk]at k;exact fF k
  ·cases kvs with
   |nil=>exact fF k
   |cons p r =>
    obtain⟨p1,p2⟩:=p;simp![DenK]at dk;obtain⟨_,_,_,_,rfl,_⟩:=dk;exact fF k
def r_isi(I0:Isi B G C.sub)(g:Gk X B C CX XX G)(a:Expr)(x:E)(t:Str)(ty:Ty)(p pt pos:Pos)(h1:Gl X "isinstance")(h2:Gl X t)(h3:G.lookup ("isinstance":Str)=some GK.isi)
  (h4:G.lookup t=some (.ty ty)/\JBD ty=some t\/∃c,ty=.own c/\G.lookup t=some (.cls c)) (h5:JAR t=false) (ha:PE X a (RE B C XX x)) (hs:starEach [a,.Name t pt] X.env=(false,eval a X.env)::starEach [.Name t pt] X.env) :
  PE X (.Call (.Name "isinstance" p) [a,.Name t pt] [] pos) (RE B C XX (.isi x ty)):=by
 have hst:starEach [.Name t pt] X.env=[(false,eval (.Name t pt) X.env)]:=rfl;obtain⟨v2,tv,hn⟩:∃v2,TyV B G ty v2/\PE X (.Name t pt) (tC v2):=by
  rcases h4 with ⟨e1,e2⟩|⟨c,rfl,e1⟩
  · exact#[_,.inl #[by rw[e2];rfl,rfl],JNb h2 (g.ty t ty e1) (JOv e2) rfl (JAA h5).2.2 (JAA h5).1]
  · exact#[_,.inr #[t,c,rfl,e1,rfl],JIu h2 (g.cls t c e1) rfl (JAA h5).1]
 refine PE.imp (JEG (JLG I0 g ty) h1 (g.isi _ h3) (by boot_by_name) (JBF ha (JBF hn JBe hst) hs) (by decide) (by decide) hs (by rw[hst];rfl)) ?_
 rintro Y H Q ⟨U,ok,kk⟩;simp![ev]at kk;refine RE.of (W:=λr H=>KE B XX r H Q) ok (λ_ _ z=>z) (λ_ z=>z) kk λd v H1 s1 d1 h1=>?_;exact#[d,v,v2,rfl,d1,tv,KE.mono g s1 h1]
end
end VI
end
section
namespace VI
open PySem PySem.Spec PyProof.Rows L2
def JNc{w:World}(I0:Isi B G C.sub)
  (xo:∀k:XO,G.lookup k.flag=some GK.opt->XOk B C (CXV P w B) G k)
  (ro:RO B C (CXV P w B) G) (rc:G.lookup (".rec":Str)=some GK.opt->∀(X:Cx) (XX:Nat->Hp->Prop),Gk X B C (CXV P w B) XX G->∀(e:Expr) (q:Nat×Option Nat) (args:List Expr) (y:E),mRaw G e=some (q,args)->PEs X B C XX args y->(∀a∈args,∀es env,starEach (a::es) env=(false,eval a env)::starEach es env)->PE X e (RE B C XX (mkM q y))):Rare B C (CXV P w B) G where
 nox:=λouter H s e s'=>JJ2 outer H s e s'
 isi:=λX XX g a x t ty p pt pos h1 h2 h3 h4 h5 h6 h7=>r_isi I0 g a x t ty p pt pos h1 h2 h3 h4 h5 h6 h7
 xop:=xo
 ro:=ro
 rcd:=rc
def nofl{P:Prop}{l:Option GK}(h:l=none)(z:l=some x):P:=by rw[h]at z;cases z
section
variable{B:Bs}{C:Cn}{CX:CXT}{G:List (Str×GK)}
def JMk[Cool G](_:G.lookup ("all":Str)=some (.blt .all))(X:Cx)(XX:Nat->Hp->Prop)(g:Gk X B C CX XX G):JBl X (.builtin "all") (λvs H Q=>∃ds,DenL B H ds vs/\KE B XX (bltD .all ds) H Q):=JJP g
def JM3(_:G.lookup (".rvs":Str)=some GK.opt)(X:Cx)(XX:Nat->Hp->Prop)(g:Gk X B C CX XX G)(a i:Expr)(x:E)(pos:Pos)(h:JJf i=true)(ha:PE X a (RE B C XX x)):PE X (.Subscript a i pos) (RE B C XX (.fn1 .rev x)):=s_rev g h ha
end
def JIk{w:World}(I0:Isi B G C.sub)(xo:∀k:XO,G.lookup k.flag=some GK.opt->XOk B C (CXV P w B) G k)(ro:RO B C (CXV P w B) G)(rc:G.lookup (".rec":Str)=some GK.opt->∀(X:Cx) (XX:Nat->Hp->Prop),Gk X B C (CXV P w B) XX G->∀(e:Expr) (q:Nat×Option Nat) (args:List Expr) (y:E),mRaw G e=some (q,args)->PEs X B C XX args y->(∀a∈args,∀es env,starEach (a::es) env=(false,eval a env)::starEach es env)->PE X e (RE B C XX (mkM q y))):Rare B C (CXV P w B) G :=
 JNc I0 xo ro rc
def allN:Nat->(List Value->Prop)->Prop
 |0,P=>P []
 |n+1,P=>∀a,allN n λr=>P (a::r)
theorem JJH:∀ {n:Nat}{P:List Value->Prop},allN n P->∀us:List Value,us.length=n->P us
 |0,P,h,us,e=>by rw[q_B.mp e];exact h
 |n+1,P,h,us,e=>by
  cases us with
  |nil=>cases e
  |cons a r=>exact JJH (h a) r (by simpa using e)
def fnI{K:Kq}{x:Str}{st:Stmt}(f c:Addr)(pm:Value)(a:PySem.W.nsIn K mainGlobals x=some (some (.ref f)):=by kernel_rfl)
 (l:K.lookup f=some #[.type "function",none,.func (PySem.W.fnOf x x (JA8 st) (JAX st) (JAM st) .none .none .none pm none (.ref c) .none),#[]]:=by kernel_rfl) (cc:PySem.W.codeIn K (.ref c) x=true:=by kernel_rfl) (k:PySem.W.keepIn K (.ref f)=true:=by kernel_rfl):FnIn K x st:=fn_in a l cc k
abbrev JD4(rs:List (Nat×List Nat))(k c:Nat):Bool:=match rs.lookup k with
 |some l=>l.contains c
 |none=>false
def AllR(P:Nat->List Nat->Prop):List (Nat×List Nat)->Prop
 | []=>True
 |(k,l)::r=>P k l/\AllR P r
theorem AllR.get{P:Nat->List Nat->Prop}:∀ {rs:List (Nat×List Nat)}{k:Nat}{l:List Nat},AllR P rs->rs.lookup k=some l->P k l
 | [],k,l,_,h=>by cases h
 |(j,m)::r,k,l,⟨h1,h2⟩,h=>by
  rw[List.lookup_cons]at h
  by_cases e:(k==j)=true
  · rw[e]at h
    have e':k=j:=by simpa using e
    cases h;subst e';exact h1
  · have e':(k==j)=false:=by simpa using e
    rw[e']at h;exact AllR.get h2 h
structure ClIn(K:Kq)(x:Str)(C:Addr):Prop where
 ns:PySem.W.nsIn K mainGlobals x=some (some (.ref C))
 ex:PySem.W.excIn K C bmV "ValueError.__new__"=true
 ty:PySem.W.kitOne K (.type "NoneType") (.ref C)=some false
structure RaIn(K:Kq)(C:Addr):Prop where
 k:ExcK K C
 v:PySem.W.kitOne K (.ref C) (.type "ValueError")=some true
def JJx(K:Kq)(C D:Addr)(b:Bool):Prop:=PySem.W.kitOne K (.ref C) (.ref D)=some b/\(b=true->PySem.W.exmOne K (.ref C) (.ref D)=some true)
def JPe{K:Kq}{C D:Addr}(h:PySem.W.kitOne K (.ref C) (.ref D)=some true)(h2:PySem.W.exmOne K (.ref C) (.ref D)=some true):JJx K C D true:=#[h,λ_=>h2]
def JHL{K:Kq}{C D:Addr}(h:PySem.W.kitOne K (.ref C) (.ref D)=some false):JJx K C D false:=#[h,λz=>by cases z]
section
variable{B:Bs}{G:List (Str×GK)}{tab:Nat->Option Fd}{glo:Nat->R D}{rs:List (Nat×List Nat)}{mg:Mq}
def MoP(mg:Mq)(B:Bs)(G:List (Str×GK))(tab:Nat->Option Fd)(glo:Nat->R D)(x:Str):GK->Prop
 |.fn i=>∃fd,tab i=some fd/\DefAt B.K mg G x fd
 |.con i=>∀d,glo i=.ok d->∃u v,mg x=some u/\RelV v u/\∀H,Den B H d v
 |.blt _=>mg x=none
 |.rng=>mg x=none
 |.isi=>mg x=none
 |.ty _=>mg x=none
 |.nam=>mg x=none
 |.cls c=>ClIn B.K x (B.cl c)/\mg x=some (.ref (B.cl c))
 |.opt=>True
 |.rcf i=>tab i=none
 |.rcm _ j=>tab j=none
def RaP(B:Bs)(G:List (Str×GK))(k:Nat)(l:List Nat):Prop:=RaIn B.K (B.cl k)/\AllP (λ_ gk=>match gk with
 |.cls c=>JJx B.K (B.cl k) (B.cl c) (l.contains c)
 |_=>True) G
def JCW{k c:Nat}(h:JD4 rs k c=true):∃l,rs.lookup k=some l/\l.contains c=true:=by
 unfold JD4 at h
 split at h
 ·rename_i l e;exact#[l,e,h]
 ·cases h
def JMu(hr:AllR (RaP B G) rs){k c:Nat}{l:List Nat}(hx:G.lookup x=some (.cls c))(hk:rs.lookup k=some l):JJx B.K (B.cl k) (B.cl c) (l.contains c):=(hr.get hk).2.get hx
def JMP(h:AllP (MoP mg B G tab glo) G)(hr:AllR (RaP B G) rs):Isi B G (JD4 rs) where
 own:=λx c e=>(h.get e).1.ty
 exc:=λk hk=>by
  obtain⟨l,e,_⟩:=JCW hk;exact#[(hr.get e).1.k,(hr.get e).1.v]
 rel:=λk hk x c e=>by
  obtain⟨l,el,_⟩:=JCW hk;have:JD4 rs k c=l.contains c:=by unfold JD4;rw[el]
  rw[this];exact(JMu hr e el).1
def mo_of(h:AllP (MoP mg B G tab glo) G)(hr:AllR (RaP B G) rs)(hg:∀i c,glo i≠.exc c):Mo mg B G tab glo (JD4 rs) where
 fn:=λx i e=>h.get e
 con:=λx i d e q=>h.get e d q
 noexg:=hg
 blt:=λx b e=>h.get e
 rng:=λx e=>h.get e
 isi:=λx e=>h.get e
 ty:=λx t e=>h.get e
 nam:=λx e=>h.get e
 rcf:=λx i e=>h.get e
 rcm:=λx i j e=>h.get e
 cl:=#[λx c e=>(h.get e).2,λx c e=>#[_,_,_,_,PySem.F.excBase_ValueError,by decide,(h.get e).1.ex]]
 exm:=λx c e k hk=>by
  obtain⟨l,el,hc⟩:=JCW hk;exact(JMu hr e el).2 hc
end
abbrev conV:Value->Option D
 |.none=>some .none
 |.bool b=>some (.bool b)
 |.int i _=>some (.int i)
 |.str x _=>some (.str x)
 |_=>none
def JLL{d:D}(h:conV u=some d):∃v,RelV v u/\∀H,Den B H d v:=by
 cases u<;>simp![conV,q_j,reduceCtorEq]at h<;>subst h
 ·exact#[.non,rfl,λH=>by simp![Den]]
 ·exact#[.bl _,rfl,λH=>by simp![Den]]
 ·exact#[.int _,#[_,rfl],λH=>by simp![Den]]
 ·exact#[.str _,#[_,rfl],λH=>by simp![Den]]
end VI
namespace VI
open PySem PySem.Spec PyProof.Rows L2
mutual
noncomputable def conK(K:Kq):Nat->Value->Option D
 |0,_=>none
 |n+1,u=>match u with
  |.ref a=>(match K.lookup a with
   |some ⟨.type "tuple",_,.seq its 0,_⟩=>if its.size<=1000 then (JHQ K n its.toList).map PyData.tuple else none
   |_=>none)
  |u=>conV u
noncomputable def JHQ(K:Kq):Nat->List Value->Option (List D)
 |0,_=>none
 |_,[]=>some []
 |n+1,u::us=>(conK K n u).bind λd=>(JHQ K n us).map (d::·)
end
mutual
theorem JGy:∀ {n:Nat}{u:Value}{d:D},conK B.K n u=some d->∃v,RelV v u/\∀H,Den B H d v
 |0,u,d,h=>by simp[conK]at h
 |n+1,u,d,h=>by
  unfold conK at h
  split at h
  ·rename_i a
   split at h
   ·rename_i od its sl l
    split at h
    ·rename_i hz;obtain⟨ds,h1,e⟩:=q_d.mp h;subst e;obtain⟨vs,r,q⟩:=JFO h1;refine#[.ref a,rfl,λH=>?_];simp![Den];exact#[a,vs,rfl,.inr #[_,its,_,l,rfl,rfl,by rw[sizeLine_eq];omega,r],q H]
    ·cases h
   ·cases h
  ·exact JLL h
theorem JFO:∀ {n:Nat}{us:List Value}{ds:List D},JHQ B.K n us=some ds->∃vs,Vals vs us/\∀H,DenL B H ds vs
 |0,us,ds,h=>by simp[JHQ]at h
 |n+1,[],ds,h=>by
  simp![JHQ,q_j]at h;subst h;exact#[[],.nil,λH=>by simp![DenL]]
 |n+1,u::us,ds,h=>by
  unfold JHQ at h;obtain⟨d,h1,h⟩:=q_a.mp h;obtain⟨r,h2,e⟩:=q_d.mp h;subst e;obtain⟨v,r1,q1⟩:=JGy h1;obtain⟨vs,r2,q2⟩:=JFO h2;exact#[v::vs,.cons r1 r2,λH=>by simp![DenL];exact#[v,vs,rfl,q1 H,q2 H]]
end
def JOf{K:Kq}{cl:Nat->Addr}{rc:Nat->Addr->Hp->Prop}{rcm:RcM rc}{w:World}{h:Heap}{mg:Mq}{x:Str}{d0:D}(X:K.In h)(Gm:h.Ns mainGlobals mg)
  (e:((PySem.W.nsIn K mainGlobals x).bind λo=>o.bind λu=>conK K 64 u)=some d0) {glo:Nat->R D}{i:Nat}(hg:glo i=.ok d0) :
  ∀d,glo i=.ok d->∃u v,mg x=some u/\RelV v u/\∀H,Den #[K,cl,w,rc,rcm] H d v:=by
 intro d hd;rw[hg]at hd;cases hd;obtain⟨o,h1,h2⟩:=q_a.mp e;obtain⟨u,h3,h4⟩:=q_a.mp h2;subst h3;obtain⟨v,r,q⟩:=JGy (B:=#[K,cl,w,rc,rcm]) h4;exact#[u,v,PySem.W.mg_of X Gm h1,r,q]
end VI
end
section
namespace Fr
def JBY{a g:Int}(h:g ∣ a):a.fdiv g=a / g:=Int.fdiv_eq_ediv_of_dvd h
def JCr(up down:Int)(h:down≠0):up.fdiv (if down<0 then -((up.gcd down:Nat):Int) else ((up.gcd down:Nat):Int))=(Rat.divInt up down).num:=by
 have hg:((up.gcd down:Nat):Int) ∣ up:=Int.gcd_dvd_left ..;rw[Rat.num_divInt,Int.gcd_comm down up]
 by_cases hd:down<0
 ·rw[if_pos hd,JBY (Int.neg_dvd.mpr hg),Int.sign_eq_neg_one_of_neg hd,Int.neg_one_mul,Int.ediv_neg,Int.neg_ediv_of_dvd hg]
 ·rw[if_neg hd,JBY hg,Int.sign_eq_one_of_pos ∅,Int.one_mul]
def JD2(up down:Int)(h:down≠0):down.fdiv (if down<0 then -((up.gcd down:Nat):Int) else ((up.gcd down:Nat):Int))=((Rat.divInt up down).den:Int):=by
 have hg:((up.gcd down:Nat):Int) ∣ down:=Int.gcd_dvd_right ..;rw[Rat.den_divInt,if_neg h,Int.gcd_comm down up]
 by_cases hd:down<0
 ·rw[if_pos hd,JBY (Int.neg_dvd.mpr hg),Int.ediv_neg,Int.natCast_ediv,<-Int.neg_ediv_of_dvd hg]
  congr 1
  omega
 ·rw[if_neg hd,JBY hg,Int.natCast_ediv]
  congr 1
  omega
theorem den_pos(q:Rat):(0:Int)<(q.den:Int):=by have:=q.den_pos;omega
def JAZ(q:Rat):(q.den:Int)≠0:=by have:=den_pos q;omega
def JH3(a b:Rat):Rat.divInt (a.num*b.den+b.num*a.den) ((a.den:Int)*b.den)=a+b:=by
 conv=>rhs;rw[<-Rat.num_divInt_den a,<-Rat.num_divInt_den b]
 rw[Rat.divInt_add_divInt _ _ (JAZ a) (JAZ b)]
def JMF(a b:Rat):Rat.divInt (a.num*b.den - b.num*a.den) ((a.den:Int)*b.den)=a - b:=by
 conv=>rhs;rw[<-Rat.num_divInt_den a,<-Rat.num_divInt_den b]
 rw[Rat.divInt_sub_divInt _ _ (JAZ a) (JAZ b)]
def JJo(a b:Rat):Rat.divInt (a.num*b.num) ((a.den:Int)*b.den)=a*b:=by
 conv=>rhs;rw[<-Rat.num_divInt_den a,<-Rat.num_divInt_den b]
 rw[Rat.divInt_mul_divInt]
def JM2(a b:Rat):Rat.divInt (a.num*b.den) ((a.den:Int)*b.num)=a / b:=by
 rw[Rat.div_def,Rat.inv_def]
 conv=>rhs;rw[<-Rat.num_divInt_den a]
 rw[Rat.divInt_mul_divInt]
def JOh(q:Rat):q.num.gcd (q.den:Int)=1:=by
 have:=q.reduced;unfold Nat.Coprime at this;unfold Int.gcd;simpa using this
def JGZ(a b:Int):b.gcd (a.fmod b)=a.gcd b:=by
 have h:=Int.mul_fdiv_add_fmod a b;have e:a.fmod b=a - b*a.fdiv b:=by omega
 rw[e,Int.gcd_comm a b];apply Nat.dvd_antisymm
 ·apply Int.dvd_gcd
  ·exact Int.gcd_dvd_left ..
  ·have h1:((b.gcd (a - b*a.fdiv b):Nat):Int) ∣ b:=Int.gcd_dvd_left ..;have h2:((b.gcd (a - b*a.fdiv b):Nat):Int) ∣ a - b*a.fdiv b:=Int.gcd_dvd_right ..;have h3:=Int.dvd_add h2 (Int.dvd_mul_of_dvd_left (c:=a.fdiv b) h1);have e2:a - b*a.fdiv b+b*a.fdiv b=a:=by omega
   rwa [e2]at h3
 ·apply Int.dvd_gcd
  ·exact Int.gcd_dvd_left ..
  ·exact Int.dvd_sub (Int.gcd_dvd_right ..) (Int.dvd_mul_of_dvd_left (Int.gcd_dvd_left ..))
def JIJ(a b:Int)(h:b≠0):(a.fmod b).natAbs<b.natAbs:=by
 by_cases hb:0<b
 ·have h1:=Int.fmod_nonneg_of_pos a hb;have h2:=Int.fmod_lt_of_pos a hb;omega
 ·have hb':b<0:=by omega
  have h1:=Int.mul_fdiv_add_fmod a b;rw[Int.fmod_eq_emod];have h2:=Int.emod_nonneg a h;have h3:=Int.emod_lt a h
  split
  ·rename_i q;rcases q with q|q
   ·omega
   ·have:=Int.emod_eq_zero_of_dvd q;omega
  ·rename_i q;have h4:a % b≠0:=λz=>q (.inr (Int.dvd_of_emod_eq_zero z));omega
end Fr
end
section
namespace VI.VP
open PySem
def JAC{x:Bool}{tab:Nat->Option Fd}{glo:Nat->R D}{sub:Nat->Nat->Bool}{n f:Nat}{xs:List D}{fd:Fd}(h:tab f=some fd):run x tab glo sub (n+1) f xs=JB1 x #[run x tab glo sub n,glo,sub] fd xs:=by
 rw[run,h]
@[simp] theorem look_zero (s:Sl) (U:Env):look (s::U) 0=s.get:=rfl
@[simp] theorem look_succ (s:Sl) (U:Env) (i:Nat):look (s::U) (i+1)=look U i:=rfl
@[simp] theorem get_val (d:D):(Sl.val d).get=.ok d:=rfl
@[simp] theorem get_own (d:List D):(Sl.own (.list d)).get=.ok (.list d):=rfl
@[simp] theorem bind_ok {α β:Type}(a:α) (f:α->R β):(R.ok a).bind f=f a:=rfl
@[simp] theorem bind_exc {α β:Type}(c:Nat) (f:α->R β):(R.exc c).bind f=.exc c:=rfl
@[simp] theorem stepR_ok {α:Type}(a:α) (f:α->Fl):stepR (.ok a) f=f a:=rfl
@[simp] theorem stepR_exc {α:Type}(c:Nat) (f:α->Fl):stepR (.exc c) f=.ex c:=rfl
def JCt(e:E)(i:Nat)(d:D)(r:Env):JAS e i (.val d::r)=JAS e (i+1) r:=by simp[JAS,Sl.isOwn]
def JDx(e:E)(i:Nat)(r:Env):JAS e i (.no::r)=JAS e (i+1) r:=by simp[JAS,Sl.isOwn]
def JA7(e:E)(i:Nat)(d:D)(r:Env):JAS e i (.own d::r)=(e.uses i || JAS e (i+1) r):=by simp[JAS,Sl.isOwn]
def JCu(e:E)(i:Nat):JAS e i []=false:=rfl
def JAe(e:E)(i:Nat)(d:D)(r:Env):JAL e i (.val d::r)=.val d::JAL e (i+1) r:=by simp[JAL,Sl.frz]
def JAz(e:E)(i:Nat)(r:Env):JAL e i (.no::r)=.no::JAL e (i+1) r:=by simp[JAL,Sl.frz]
def JBS(e:E)(i:Nat)(d:List D)(r:Env):JAL e i (.own (.list d)::r)=(if e.uses i=true then .val (.list d) else .own (.list d))::JAL e (i+1) r:=by
 simp![JAL,Sl.frz]
def JAy(e:E)(i:Nat):JAL e i []=[]:=rfl
def JGz(e:E)(d:D)(U:Env):after e d U=if (JAS e 0 U&&!JAW d)=true then JAL e 0 U else U:=rfl
abbrev JKT(x:Bool):Fl->R D
 |.nx _=>.ok .none
 |.rt d=>.ok d
 |.ex c=>if x=true then .exc c else .bad
 |_=>.bad
def JAB{x:Bool}{C:Cn}{f:Fd}{xs:List D}(h:xs.length=f.par):JB1 x C f xs=JKT x (exec C f.body (xs.map Sl.val++List.replicate (f.slots - f.par) Sl.no)):=by
 unfold JB1;rw[if_pos h];cases exec C f.body (xs.map Sl.val++List.replicate (f.slots - f.par) Sl.no)<;>rfl
section
variable{c:Env->R Bool}{b:Env->Fl}
theorem JB4:∀(n:Nat) (U:Env),JAj c b n U≠.bad->JAj c b (n+1) U=JAj c b n U
 |0,U,h=>absurd rfl h
 |n+1,U,h=>by
  unfold JAj at h ⊢;cases hc:c U with
  |ok k =>
   cases k with
   |true =>
    rw[hc]at h;simp only at h ⊢;cases hb:b U with
    |nx U'=>rw[hb]at h;exact JB4 n U' h
    |ct U'=>rw[hb]at h;exact JB4 n U' h
    |bk U'=>rfl
    |rt d=>rfl
    |ex k=>rfl
    |bad=>rfl
   |false=>rfl
  |exc k=>rfl
  |bad=>rfl
def JEe{n m:Nat}(h:JAj c b n U≠.bad)(hm:n<=m):JAj c b m U=JAj c b n U:=by
 induction hm with
 |refl=>rfl
 |step _ ih=>rw[JB4 _ _ (by rw[ih];exact h),ih]
def JCz{n:Nat}(h:JAj c b n U≠.bad):JBs c b U=JAj c b n U:=by
 unfold JBs;have hx:∃n,JAj c b n U≠.bad:=#[n,h];rw[dif_pos hx];have h2:=hx.choose_spec;rcases Nat.le_total n hx.choose with l|l
 ·exact JEe h l
 ·exact(JEe h2 l).symm
def JDR(hc:c U=.ok false):JBs c b U=.nx U:=by
 have:JAj c b 1 U=.nx U:=by unfold JAj;rw[hc]
 rw[JCz (n:=1) (by rw[this];intro h;cases h),this]
def JDO(hc:c U=.ok true)(hb:b U=.nx U'):JBs c b U=JBs c b U':=by
 have hs:∀n,JAj c b (n+1) U=JAj c b n U':=λn=>by
  conv=>lhs;unfold JAj
  rw[hc];simp only;rw[hb]
 by_cases h:∃n,JAj c b n U'≠.bad
 ·obtain⟨n,h⟩:=h;rw[JCz h,JCz (n:=n+1) (by rw[hs];exact h),hs]
 ·have h1:JBs c b U'=.bad:=by unfold JBs;rw[dif_neg h]
  have h2:¬ ∃n,JAj c b n U≠.bad:=by
   rintro⟨n,q⟩;cases n with
   |zero=>exact q rfl
   |succ n=>exact h #[n,by rw[<-hs];exact q]
  rw[h1];unfold JBs;rw[dif_neg h2]
end
def JBv{i:Int}{k:Nat}(h:i.natAbs<2 ^ k):Builtin.Int.intBits i<=k:=by
 unfold Builtin.Int.intBits
 split
 ·omega
 ·rename_i hz;have hn:i.natAbs≠0:=by simpa using hz
  have:=(Nat.log2_lt hn).mpr h;omega
def JIX{i j:Int}(h:j.natAbs<2 ^ 9000):Builtin.divisionGoesByPylong i j=false:=by
 unfold Builtin.divisionGoesByPylong;simp![Bool.and_eq_false_iff,decide_eq_false_iff_not];left
 split
 ·omega
 ·rename_i hz;have hn:j.natAbs≠0:=by simpa using hz
  have:=(Nat.log2_lt hn).mpr h;omega
end VI.VP
end
section
namespace VI.VP
open PySem Fr
def L(i:Int):Prop:=i.natAbs<2 ^ 4000
def L.of{i:Int}{k:Nat}(h:i.natAbs<2 ^ k)(hk:k<=4000):L i:=q_m h (Nat.pow_le_pow_right ∅ hk)
def JQ0{i j:Int}(hi:L i)(hj:L j):IntMulOk i j:=by
 have h1:=JBv hi;have h2:=JBv hj;unfold IntMulOk;intro h;simp![q_i,q_D]at h;have h3:=h.2;unfold Builtin.Int.intTooBig at h3;have:(bitsLine:Int) ≥ 8000:=by decide
 simp![q_D]at h3;omega
def pyl{i j:Int}(hj:L j):Builtin.divisionGoesByPylong i j=false:=JIX (q_m hj (Nat.pow_le_pow_right ∅ ∅))
def JBL{i j:Int}(hi:L i)(hj:L j):binD .Mult (.int i) (.int j)=.ok (.int (i*j)):=by
 simp![binD,if_pos (JQ0 hi hj)]
def JF9{i j:Int}(hj:j.natAbs<2 ^ 64):binD .Mult (.int i) (.int j)=.ok (.int (i*j)):=by
 simp![binD,if_pos (IntMulOk.of_right (a:=i) (JBv hj))]
def JEl{i j:Int}(hj:i.natAbs<2 ^ 64):binD .Mult (.int i) (.int j)=.ok (.int (i*j)):=by
 simp![binD,if_pos (IntMulOk.of_left (b:=j) (JBv hj))]
def JQ2{i j:Int}:binD .Add (.int i) (.int j)=.ok (.int (i+j)):=rfl
def JP7{i j:Int}:binD .Sub (.int i) (.int j)=.ok (.int (i - j)):=rfl
def JIS{i j:Int}(h:j≠0)(hj:L j):binD .FloorDiv (.int i) (.int j)=.ok (.int (i.fdiv j)):=by
 simp![binD,if_pos (And.intro h (pyl (i:=i) hj))]
def JFo{i j:Int}(h:j≠0):binD .Mod (.int i) (.int j)=.ok (.int (i.fmod j)):=by
 simp![binD,if_pos h]
abbrev F(q:Rat):D:=.tuple [.int q.num,.int q.den]
def JON(p q:Rat):PyData.eqv (F p) (F q)=decide (p=q):=by
 simp![F,PyData.eqv,PyData.eqvAll,Bool.and_true]
 by_cases h:p=q
 ·subst h;simp
 ·rw[q_o h];simp![Bool.and_eq_false_iff,beq_eq_false_iff_ne,ne_eq]
  by_cases hn:p.num=q.num
  ·right;intro hd;exact h (Rat.ext hn ∅)
  ·left;exact hn
def JGG(q:Rat):shaped (F q)=true:=by
 simp![shaped,F,PyData.canLay0,PyData.canLayAll0,PyData.depth,PyData.depthAll,Bool.and_true,Bool.true_and];decide
def JMa(q:Rat):idxD (F q) (.int 0)=.ok (.int q.num):=rfl
def JLp(q:Rat):idxD (F q) (.int 1)=.ok (.int q.den):=rfl
def F_ne(p q:Rat):cmpD .NotEq (F p) (F q)=.ok (.bool (!decide (p=q))):=by
 simp![cmpD,JGG,Bool.and_self,if_true,JON]
def F_eq(p q:Rat):cmpD .Eq (F p) (F q)=.ok (.bool (decide (p=q))):=by
 simp![cmpD,JGG,Bool.and_self,if_true,JON]
def i_ne(i j:Int):cmpD .NotEq (.int i) (.int j)=.ok (.bool (!decide (i=j))):=by
 have:PyData.eqv (.int i) (.int j)=decide (i=j):=by simp![PyData.eqv];rfl
 simp![cmpD,shaped,PyData.canLay0,PyData.depth,this];rfl
def i_eq(i j:Int):cmpD .Eq (.int i) (.int j)=.ok (.bool (decide (i=j))):=by
 have:PyData.eqv (.int i) (.int j)=decide (i=j):=by simp![PyData.eqv];rfl
 simp![cmpD,shaped,PyData.canLay0,PyData.depth,this];rfl
def i_lt(i j:Int):cmpD .Lt (.int i) (.int j)=.ok (.bool (decide (i<j))):=rfl
def i_gt(i j:Int):cmpD .Gt (.int i) (.int j)=.ok (.bool (decide (j<i))):=rfl
def i_le(i j:Int):cmpD .LtE (.int i) (.int j)=.ok (.bool (decide (i<=j))):=rfl
def i_ge(i j:Int):cmpD .GtE (.int i) (.int j)=.ok (.bool (decide (j<=i))):=rfl
def JIx(u d:Int)(h:d≠0):(Rat.divInt u d).num.natAbs<=u.natAbs:=by
 rw[<-JCr u d h];have hg:((u.gcd d:Nat):Int) ∣ u:=Int.gcd_dvd_left ..;have key:∀g:Int,g ∣ u->(u.fdiv g).natAbs<=u.natAbs:=λg hg=>by
  rw[JBY hg];obtain⟨k,rfl⟩:=hg
  by_cases hz:g=0
  ·subst hz;simp
  ·rw[Int.mul_ediv_cancel_left _ hz,Int.natAbs_mul];have:0<g.natAbs:=by omega
   exact Nat.le_mul_of_pos_left _ this
 split
 ·exact key _ (Int.neg_dvd.mpr hg)
 ·exact key _ hg
def JGr(u d:Int)(h:d≠0):(Rat.divInt u d).den<=d.natAbs:=by
 rw[Rat.den_divInt,if_neg h];exact Nat.div_le_self _ _
def Sz(k:Nat)(q:Rat):Prop:=q.num.natAbs<2 ^ k/\q.den<2 ^ k
def Sz.mono{i k:Nat}{q:Rat}(h:Sz i q)(hk:i<=k):Sz k q:=#[q_m h.1 (Nat.pow_le_pow_right ∅ hk),q_m h.2 (Nat.pow_le_pow_right ∅ hk)]
def Sz.of{u d:Int}{k:Nat}(h:d≠0)(hu:u.natAbs<2 ^ k)(hd:d.natAbs<2 ^ k):Sz k (Rat.divInt u d):=#[Nat.lt_of_le_of_lt (JIx u d h) hu,Nat.lt_of_le_of_lt (JGr u d h) hd]
def Sz.n{k:Nat}{q:Rat}(h:Sz k q):q.num.natAbs<2 ^ k:=h.1
def Sz.d{k:Nat}{q:Rat}(h:Sz k q):(q.den:Int).natAbs<2 ^ k:=by simpa using h.2
def JAk{a b:Int}{i j:Nat}(h1:a.natAbs<2 ^ i)(h2:b.natAbs<2 ^ j):(a*b).natAbs<2 ^ (i+j):=by
 rw[Int.natAbs_mul,Nat.pow_add];exact Nat.mul_lt_mul'' h1 h2
def JPn{a b:Int}{i:Nat}(h1:a.natAbs<2 ^ i)(h2:b.natAbs<2 ^ i):(a+b).natAbs<2 ^ (i+1):=by
 have:=Int.natAbs_add_le a b;rw[Nat.pow_succ];omega
def JPz{a b:Int}{i:Nat}(h1:a.natAbs<2 ^ i)(h2:b.natAbs<2 ^ i):(a - b).natAbs<2 ^ (i+1):=by
 have:=Int.natAbs_sub_le a b;rw[Nat.pow_succ];omega
def JFa{a:Int}{i k:Nat}(h:a.natAbs<2 ^ i)(hk:i<=k):a.natAbs<2 ^ k:=q_m h (Nat.pow_le_pow_right ∅ hk)
section
variable{i j k:Nat}{p q:Rat}
def Sz.add(hp:Sz i p)(hq:Sz j q)(hk:i+j+1<=k):Sz k (p+q):=by
 rw[<-JH3];have h1:=JAk hp.n hq.d;have h2:=JAk hq.n hp.d;rw[Nat.add_comm j i]at h2;refine Sz.of (Int.mul_ne_zero (JAZ p) (JAZ q)) (JFa (JPn h1 h2) hk) (JFa (JAk hp.d hq.d) ∅)
def Sz.sub(hp:Sz i p)(hq:Sz j q)(hk:i+j+1<=k):Sz k (p - q):=by
 rw[<-JMF];have h1:=JAk hp.n hq.d;have h2:=JAk hq.n hp.d;rw[Nat.add_comm j i]at h2;refine Sz.of (Int.mul_ne_zero (JAZ p) (JAZ q)) (JFa (JPz h1 h2) hk) (JFa (JAk hp.d hq.d) ∅)
def Sz.mul(hp:Sz i p)(hq:Sz j q)(hk:i+j<=k):Sz k (p*q):=by
 rw[<-JJo];exact Sz.of (Int.mul_ne_zero (JAZ p) (JAZ q)) (JFa (JAk hp.n hq.n) hk) (JFa (JAk hp.d hq.d) hk)
def Sz.div(hp:Sz i p)(hq:Sz j q)(h0:q≠0)(hk:i+j<=k):Sz k (p / q):=by
 rw[<-JM2];have:q.num≠0:=λz=>h0 (Rat.num_eq_zero.mp z);exact Sz.of (Int.mul_ne_zero (JAZ p) this) (JFa (JAk hp.n hq.d) hk) (JFa (JAk hp.d hq.n) hk)
end
@[reducible]def Q(q:Rat):Prop:=Sz 1500 q
def Sz.Ln{k:Nat}{q:Rat}(h:Sz k q)(hk:k<=4000):L q.num:=L.of h.n hk
def Sz.Ld{k:Nat}{q:Rat}(h:Sz k q)(hk:k<=4000):L (q.den:Int):=L.of h.d hk
end VI.VP
end
section
namespace VI.VP
open PySem
section
variable{C:Cn}{U:Env}{a b c e es o i r:E}{x y z d:D}{xs:List D}
abbrev bin1(op:Operator):R D->R D->R D
 |.ok x,.ok y=>binD op x y
 |.ok _,r=>r
 |r,_=>r
abbrev neg1:R D->R D
 |.ok (.int i)=>.ok (.int (-i))
 |.exc c=>.exc c
 |_=>.bad
abbrev not1:R Bool->R D
 |.ok b=>.ok (.bool (!b))
 |.exc c=>.exc c
 |.bad=>.bad
abbrev tr1:R D->R Bool
 |.ok d=>truth d
 |.exc c=>.exc c
 |.bad=>.bad
abbrev and1(C:Cn)(b:E)(U:Env):R D->R D
 |.ok (.bool true)=>ev C b U
 |.ok (.bool false)=>.ok (.bool false)
 |.exc c=>.exc c
 |_=>.bad
abbrev or1(C:Cn)(b:E)(U:Env):R D->R D
 |.ok (.bool true)=>.ok (.bool true)
 |.ok (.bool false)=>ev C b U
 |.exc c=>.exc c
 |_=>.bad
abbrev cmp1(op:CmpOp):R D->R D->R D
 |.ok x,.ok y=>cmpD op x y
 |.ok _,r=>r
 |r,_=>r
abbrev isN1(n:Bool):R D->R D
 |.ok x=>.ok (.bool (if n=true then !isNone x else isNone x))
 |r=>r
abbrev ife1(C:Cn)(a b:E)(U:Env):R Bool->R D
 |.ok true=>ev C a U
 |.ok false=>ev C b U
 |.exc c=>.exc c
 |.bad=>.bad
abbrev tup1:R (List D)->R D
 |.ok xs=>.ok (.tuple xs)
 |.exc c=>.exc c
 |.bad=>.bad
abbrev lst1:R (List D)->R D
 |.ok xs=>.ok (.list xs)
 |.exc c=>.exc c
 |.bad=>.bad
abbrev idx1:R D->R D->R D
 |.ok x,.ok y=>idxD x y
 |.ok _,r=>r
 |r,_=>r
abbrev JIM(C:Cn)(f:Nat):R (List D)->R D
 |.ok xs=>C.fn f xs
 |.exc c=>.exc c
 |.bad=>.bad
abbrev blt1(b:Blt):R (List D)->R D
 |.ok xs=>bltD b xs
 |.exc c=>.exc c
 |.bad=>.bad
abbrev isi1(C:Cn)(t:Ty):R D->R D
 |.ok x=>isiD C.sub x t
 |r=>r
abbrev JLu:R D->R D->R D
 |.ok (.list xs),.ok y=>JDe (.list xs) y
 |.ok (.list _),r=>r
 |.exc c,_=>.exc c
 |_,_=>.bad
abbrev JMT:R D->R D->R D
 |.ok (.list xs),.ok y=>JDi (.list xs) y
 |.ok (.list _),r=>r
 |.exc c,_=>.exc c
 |_,_=>.bad
abbrev JKl:R D->R (List D)->R (List D)
 |.ok x,.ok xs=>.ok (x::xs)
 |.ok _,r=>r
 |.exc c,_=>.exc c
 |.bad,_=>.bad
abbrev JDH(C:Cn)(k:Nat)(elt cond:E)(U:Env)(x:D):R (Option D):=(push k x U).bind λU1=>(evT C cond U1).bind λt=>if t=true then (ev C elt U1).bind λy=>.ok (some y) else .ok none
abbrev JCO(C:Cn)(k:Nat)(elt cond:E)(U:Env):R (List D)->R D
 |.ok xs=>if xs.length<=16777216 then (JA5 (JDH C k elt cond U) xs).bind λys=>.ok (.list ys) else .bad
 |.exc c=>.exc c
 |.bad=>.bad
abbrev its1:R D->R (List D)
 |.ok d=>JA4 d
 |.exc c=>.exc c
 |.bad=>.bad
abbrev rng1:R (List D)->R (List D)
 |.ok d=>rngD d
 |r=>r
def JDU(r:R D):r.bind truth=tr1 r:=by cases r<;>rfl
def JCF(r:R D):r.bind JA4=its1 r:=by cases r<;>rfl
def v_var{j:Nat}:ev C (.var j) U=look U j:=by simp![ev]
def JQ5{j:Int}:ev C (.cint j) U=.ok (.int j):=by simp![ev]
def v_bl{j:Bool}:ev C (.cbl j) U=.ok (.bool j):=by simp![ev]
def JR9:ev C .cnon U=.ok .none:=by simp![ev]
def JPq:ev C (.cstr j) U=.ok (.str j):=by simp![ev]
def JRT{j:Nat}:ev C (.glo j) U=C.glo j:=by simp![ev]
def JQu:ev C (.bin op a b) U=bin1 op (ev C a U) (ev C b U):=by
 simp![ev];cases ev C a U<;>cases ev C b U<;>rfl
def JRn:ev C (.neg a) U=neg1 (ev C a U):=by
 simp![ev];cases h:ev C a U with
 |ok d=>cases d<;>rfl
 |exc c=>rfl
 |bad=>rfl
def v_not:ev C (.not a) U=not1 (tr1 (ev C a U)):=by
 simp![ev];cases h:ev C a U with
 |ok d=>simp![R.bind,tr1];cases truth d<;>rfl
 |exc c=>rfl
 |bad=>rfl
def v_and:ev C (.and a b) U=and1 C b U (ev C a U):=by
 simp![ev];cases h:ev C a U with
 |ok d =>
  cases d with
  |bool k=>cases k<;>rfl
  |_=>rfl
 |exc c=>rfl
 |bad=>rfl
def v_or:ev C (.or a b) U=or1 C b U (ev C a U):=by
 simp![ev];cases h:ev C a U with
 |ok d =>
  cases d with
  |bool k=>cases k<;>rfl
  |_=>rfl
 |exc c=>rfl
 |bad=>rfl
def JQ6:ev C (.cmp op a b) U=cmp1 op (ev C a U) (ev C b U):=by
 simp![ev];cases ev C a U<;>cases ev C b U<;>rfl
def JRx{k:Bool}:ev C (.isN a k) U=isN1 k (ev C a U):=by
 simp![ev];cases ev C a U<;>rfl
def JQT:ev C (.ife c a b) U=ife1 C a b U (evT C c U):=by
 simp![ev];cases h:evT C c U with
 |ok k=>cases k<;>rfl
 |exc c=>rfl
 |bad=>rfl
def JR5:ev C (.tup es) U=tup1 (evA C es U):=by simp![ev];cases evA C es U<;>rfl
def JP1:ev C (.lst es) U=lst1 (evA C es U):=by simp![ev];cases evA C es U<;>rfl
def JSi:ev C (.idx a i) U=idx1 (ev C a U) (ev C i U):=by
 simp![ev];cases ev C a U<;>cases ev C i U<;>rfl
def JMg{f:Nat}:ev C (.call f es) U=JIM C f (evA C es U):=by simp![ev];cases evA C es U<;>rfl
def JQC:ev C (.blt f es) U=blt1 f (evA C es U):=by simp![ev];cases evA C es U<;>rfl
def JKA:ev C (.isi a t) U=isi1 C t (ev C a U):=by simp![ev];cases ev C a U<;>rfl
def v_count:ev C (.mcount o a) U=JLu (ev C o U) (ev C a U):=by
 simp![ev];cases ev C o U with
 |ok d=>cases d<;>cases ev C a U<;>rfl
 |exc c=>rfl
 |bad=>rfl
def JJU:ev C (.mindex o a) U=JMT (ev C o U) (ev C a U):=by
 simp![ev];cases ev C o U with
 |ok d=>cases d<;>cases ev C a U<;>rfl
 |exc c=>rfl
 |bad=>rfl
def JMf{k:Nat}:ev C (.cmpr k e i c) U=JCO C k e c U (evI C i U):=by
 simp![ev];cases evI C i U<;>rfl
abbrev fn11(o:O1):R D->R D
 |.ok x=>op1D o x
 |r=>r
def JQQ:ev C (.fn1 o1 a) U=fn11 o1 (ev C a U):=by simp![ev];cases ev C a U<;>rfl
abbrev xop1(k:XO):R (List D)->R D
 |.ok xs=>xD k xs
 |.exc c=>.exc c
 |.bad=>.bad
def JRX:ev C (.xop k es) U=xop1 k (evA C es U):=by simp![ev];cases evA C es U<;>rfl
def JRE:evI C (.xop k es) U=its1 (xop1 k (evA C es U)):=by simp![evI,JCF];cases evA C es U<;>rfl
def JRp:evI C (.fn1 o1 a) U=its1 (fn11 o1 (ev C a U)):=by simp![evI,JCF];cases ev C a U<;>rfl
def JR1:evI C (.bin op a b) U=its1 (bin1 op (ev C a U) (ev C b U)):=by
 simp![evI,JCF];cases ev C a U<;>cases ev C b U<;>rfl
def JMr:evA C .nil U=.ok []:=by simp![evA]
def JIv:evA C (.cons a r) U=JKl (ev C a U) (evA C r U):=by
 simp![evA];cases ev C a U<;>cases evA C r U<;>rfl
def JKV:evT C (.not a) U=tr1 (not1 (evT C a U)):=by
 simp![evT];cases evT C a U<;>rfl
abbrev andT(C:Cn)(b:E)(U:Env):R Bool->R Bool
 |.ok true=>evT C b U
 |r=>r
abbrev orT(C:Cn)(b:E)(U:Env):R Bool->R Bool
 |.ok false=>evT C b U
 |r=>r
def JPY:evT C (.and a b) U=andT C b U (evT C a U):=by
 simp![evT];cases h:evT C a U with
 |ok k=>cases k<;>rfl
 |exc c=>rfl
 |bad=>rfl
def t_or:evT C (.or a b) U=orT C b U (evT C a U):=by
 simp![evT];cases h:evT C a U with
 |ok k=>cases k<;>rfl
 |exc c=>rfl
 |bad=>rfl
def JRA{j:Nat}:evT C (.var j) U=tr1 (look U j):=by simp![evT];cases look U j<;>rfl
def t_bl{j:Bool}:evT C (.cbl j) U=.ok j:=by simp![evT]
def JQE:evT C (.cmp op a b) U=tr1 (cmp1 op (ev C a U) (ev C b U)):=by
 simp![evT,JDU];cases ev C a U<;>cases ev C b U<;>rfl
def JLC{k:Bool}:evT C (.isN a k) U=tr1 (isN1 k (ev C a U)):=by simp![evT];cases ev C a U<;>rfl
def JRD:evT C (.idx a i) U=tr1 (idx1 (ev C a U) (ev C i U)):=by
 simp![evT,JDU];cases ev C a U<;>cases ev C i U<;>rfl
def JMB{f:Nat}:evT C (.call f es) U=tr1 (JIM C f (evA C es U)):=by simp![evT,JDU];cases evA C es U<;>rfl
def JSq:evT C (.blt f es) U=tr1 (blt1 f (evA C es U)):=by simp![evT,JDU];cases evA C es U<;>rfl
def JRc:evT C (.isi a t) U=tr1 (isi1 C t (ev C a U)):=by simp![evT,JDU];cases ev C a U<;>rfl
def JPy:evI C (.rng es) U=rng1 (evA C es U):=by simp![evI];cases evA C es U<;>rfl
def JQF{j:Nat}:evI C (.var j) U=its1 (look U j):=by simp![evI];cases look U j<;>rfl
def JSl{j:Nat}:evI C (.glo j) U=its1 (C.glo j):=by simp![evI];cases C.glo j<;>rfl
def l_idx:evI C (.idx a i) U=its1 (idx1 (ev C a U) (ev C i U)):=by
 simp![evI,JCF];cases ev C a U<;>cases ev C i U<;>rfl
def JM5{f:Nat}:evI C (.call f es) U=its1 (JIM C f (evA C es U)):=by simp![evI,JCF];cases evA C es U<;>rfl
def JJ6:evI C (.tup es) U=evA C es U:=by simp![evI]
abbrev seq1(C:Cn)(r:S):Fl->Fl
 |.nx U=>exec C r U
 |f=>f
abbrev asg1(i:Nat)(e:E)(U:Env):R D->Fl
 |.ok x=>if e.fresh=true then .nx ((after e x U).set i (.own x)) else .nx ((after e x U).set i (.val x))
 |.exc c=>.ex c
 |.bad=>.bad
abbrev unp2(is:List Nat)(U:Env):R (List D)->Fl
 |.ok xs=>.nx (JCL is xs U)
 |.exc c=>.ex c
 |.bad=>.bad
abbrev unp1(is:List Nat)(e:E)(U:Env):R D->Fl
 |.ok d=>unp2 is (after e d U) (JAd is.length d)
 |.exc c=>.ex c
 |.bad=>.bad
abbrev ret1:R D->Fl
 |.ok d=>.rt d
 |.exc c=>.ex c
 |.bad=>.bad
abbrev ifs1(C:Cn)(a b:S)(U:Env):R Bool->Fl
 |.ok true=>exec C a U
 |.ok false=>exec C b U
 |.exc c=>.ex c
 |.bad=>.bad
abbrev app1(i:Nat)(e:E)(U:Env)(r:R D):Option Sl->Fl
 |some (.own (.list ds))=>(match r with
  |.ok x=>JBi i ds e x U
  |.exc c=>.ex c
  |.bad=>.bad)
 |_=>.bad
abbrev ext1(i:Nat)(e:E)(U:Env)(r:R D):Option Sl->Fl
 |some (.own (.list ds))=>(match r with
  |.ok x=>JBr i ds e x U
  |.exc c=>.ex c
  |.bad=>.bad)
 |_=>.bad
abbrev JNe(e:E)(U:Env):R D->Fl
 |.ok x=>.nx (after e x U)
 |.exc c=>.ex c
 |.bad=>.bad
abbrev for2(C:Cn)(i:Nat)(b:S):List D->Env->Fl:=forL (put1 i) (exec C b)
abbrev for1(C:Cn)(i:Nat)(e:E)(b:S)(U:Env):R (List D)->Fl
 |.ok xs=>for2 C i b xs (JAL e 0 U)
 |.exc c=>.ex c
 |.bad=>.bad
abbrev whl1(C:Cn)(c:E)(b:S)(U:Env):Fl:=JBs (evT C c) (exec C b) U
variable{s t h:S}{j k:Nat}
def JPH:exec C .nil U=.nx U:=by simp![exec]
def JHv:exec C (.cons s t) U=seq1 C t (exec C s U):=by simp![exec];cases exec C s U<;>rfl
def JRZ:exec C .brk U=.bk U:=by simp![exec]
def JOW:exec C (.asg j e) U=asg1 j e U (ev C e U):=by simp![exec];cases ev C e U<;>rfl
def JQw:exec C (.unp is e) U=unp1 is e U (ev C e U):=by
 simp![exec];cases ev C e U with
 |ok d=>simp![stepR,unp1];cases JAd is.length d<;>rfl
 |exc c=>rfl
 |bad=>rfl
def JSa:exec C (.ret e) U=ret1 (ev C e U):=by simp![exec];cases ev C e U<;>rfl
def JSm:exec C (.ife c s t) U=ifs1 C s t U (evT C c U):=by
 simp![exec];cases h:evT C c U with
 |ok k=>cases k<;>rfl
 |exc c=>rfl
 |bad=>rfl
def JQk:exec C (.app j e) U=app1 j e U (ev C e U) U[j]?:=by
 simp![exec];cases h:U[j]? with
 |none=>rfl
 |some u =>
  cases u with
  |own d =>
   cases d with
   |list ds=>simp![app1];cases ev C e U<;>rfl
   |_=>rfl
  |_=>rfl
def JQL:exec C (.ext j e) U=ext1 j e U (ev C e U) U[j]?:=by
 simp![exec];cases h:U[j]? with
 |none=>rfl
 |some u =>
  cases u with
  |own d =>
   cases d with
   |list ds=>simp![ext1];cases ev C e U<;>rfl
   |_=>rfl
  |_=>rfl
def JMh:exec C (.drop e) U=JNe e U (ev C e U):=by simp![exec];cases ev C e U<;>rfl
def JNN:exec C (.for1 j e s) U=for1 C j e s U (evI C e U):=by simp![exec];cases evI C e U<;>rfl
def JRN:exec C (.whl c s) U=whl1 C c s U:=by simp![exec];rfl
def JIR:exec C (.rais k) U=.ex k:=by simp![exec]
abbrev forN(C:Cn)(i:Nat)(b:S)(ds:List D):Fl->Fl
 |.nx U'=>for2 C i b ds U'
 |.ct U'=>for2 C i b ds U'
 |.bk U'=>.nx U'
 |r=>r
def JOA:for2 C j s [] U=.nx U:=rfl
def JBy:for2 C j s (d::xs) U=forN C j s xs (exec C s (U.set j (.val d))):=by
 unfold for2 forL;simp![put1];cases exec C s (U.set j (.val d))<;>rfl
abbrev pushc:R (Option D)->R (List D)->R (List D)
 |.ok (some y),.ok ys=>.ok (y::ys)
 |.ok none,r=>r
 |_,_=>.bad
abbrev mkl:R (List D)->R D
 |.ok ys=>.ok (.list ys)
 |.exc c=>.exc c
 |.bad=>.bad
def JBK{k:Nat}(hl:xs.length<=16777216):JCO C k e c U (.ok xs)=mkl (JA5 (JDH C k e c U) xs):=by
 simp![JCO,if_pos hl];cases JA5 (JDH C k e c U) xs<;>rfl
theorem JFf{f:D->R (Option D)}{g:D->D}:∀ {xs:List D},(∀x∈xs,f x=.ok (some (g x)))->JA5 f xs=.ok (xs.map g)
 | [],_=>rfl
 |x::xs,h=>by
  unfold JA5;rw[h x (by simp),JFf λy hy=>h y (by simp[hy])]
  rfl
abbrev opt1(b:Bool):R D->R (Option D)
 |.ok y=>.ok (some y)
 |.exc c=>.exc c
 |.bad=>.bad
abbrev JHV(C:Cn)(e:E)(U:Env):R Bool->R (Option D)
 |.ok true=>opt1 true (ev C e U)
 |.ok false=>.ok none
 |.exc c=>.exc c
 |.bad=>.bad
def JBR:JDH C 0 e c U x=JHV C e (.val x::U) (evT C c (.val x::U)):=by
 unfold JDH;simp![push,R.bind];cases h:evT C c (.val x::U) with
 |ok k =>
  cases k
  ·rfl
  ·simp![if_true,JHV];cases ev C e (.val x::U)<;>rfl
 |exc c=>rfl
 |bad=>rfl
end
def JMv{i:Nat}{e:E}{d:D}:asg1 i e U (.ok d)=.nx ((after e d U).set i (if e.fresh=true then .own d else .val d)):=by
 simp![asg1]
 split<;>rfl
def JEo(s:Sl)(U:Env):(s::U)[0]? = some s:=rfl
def JFK(s:Sl)(U:Env)(i:Nat):(s::U)[i+1]? = U[i]?:=rfl
def JIH(b:Bool):tr1 (.ok (.bool b))=.ok b:=rfl
def JPi:bin1 op (.ok x) (.ok y)=binD op x y:=rfl
def JPV{i:Int}:neg1 (.ok (.int i))=.ok (.int (-i)):=rfl
def JSh{b:Bool}:not1 (.ok b)=.ok (.bool (!b)):=rfl
def JMW{b:E}:and1 C b U (.ok (.bool true))=ev C b U:=rfl
def JNB{b:E}:and1 C b U (.ok (.bool false))=.ok (.bool false):=rfl
def JSW{b:E}:or1 C b U (.ok (.bool true))=.ok (.bool true):=rfl
def JQK{b:E}:or1 C b U (.ok (.bool false))=ev C b U:=rfl
def JP0:cmp1 op (.ok x) (.ok y)=cmpD op x y:=rfl
def JSg{n:Bool}:isN1 n (.ok x)=.ok (.bool (if n=true then !isNone x else isNone x)):=rfl
def JMd{a b:E}:ife1 C a b U (.ok true)=ev C a U:=rfl
def JMC{a b:E}:ife1 C a b U (.ok false)=ev C b U:=rfl
def JPx:tup1 (.ok xs)=.ok (.tuple xs):=rfl
def JPc:fn11 o (.ok x)=op1D o x:=rfl
def JSj:xop1 k (.ok xs)=xD k xs:=rfl
def us_xop{j:Nat}:(E.xop k es).uses j=es.uses j:=rfl
def JQD{lo hi:Option Int}:op1D (.slice lo hi) (.tuple xs)=.ok (.tuple (cutD xs lo hi)):=rfl
def JRR{lo hi:Option Int}:op1D (.slice lo hi) (.list xs)=.ok (.list (cutD xs lo hi)):=rfl
def k_tt:op1D .toTup (.tuple xs)=.ok (.tuple xs):=rfl
def k_tl:op1D .toTup (.list xs)=.ok (.tuple xs):=rfl
def k_lt:op1D .toLst (.tuple xs)=.ok (.list xs):=rfl
def k_ll:op1D .toLst (.list xs)=.ok (.list xs):=rfl
def JIU{e:E}{c:Nat}:JNe e U (.exc c)=.ex c:=rfl
def JRk:lst1 (.ok xs)=.ok (.list xs):=rfl
def JQj:idx1 (.ok x) (.ok y)=idxD x y:=rfl
def JL2{f:Nat}:JIM C f (.ok xs)=C.fn f xs:=rfl
def JSB{b:Blt}:blt1 b (.ok xs)=bltD b xs:=rfl
def JRd:isi1 C t (.ok x)=isiD C.sub x t:=rfl
def JIP:JLu (.ok (.list x)) (.ok y)=JDe (.list x) y:=rfl
def JJa:JMT (.ok (.list x)) (.ok y)=JDi (.list x) y:=rfl
def JNI:JKl (.ok x) (.ok xs)=.ok (x::xs):=rfl
def JHt{b:E}:andT C b U (.ok true)=evT C b U:=rfl
def JH7{b:E}:andT C b U (.ok false)=.ok false:=rfl
def JMz{b:E}:orT C b U (.ok true)=.ok true:=rfl
def JMj{b:E}:orT C b U (.ok false)=evT C b U:=rfl
def JSX{d:D}:its1 (.ok d)=JA4 d:=rfl
def JR6{d:List D}:rng1 (.ok d)=rngD d:=rfl
def JNd:seq1 C r (.nx U)=exec C r U:=rfl
def JMs{d:D}:seq1 C r (.rt d)=.rt d:=rfl
def JMV{c:Nat}:seq1 C r (.ex c)=.ex c:=rfl
def JMH:seq1 C r (.bk U)=.bk U:=rfl
def JM1:seq1 C r (.ct U)=.ct U:=rfl
def JNH{i:Nat}{e:E}{c:Nat}:asg1 i e U (.exc c)=.ex c:=rfl
def JSo{e:E}{d:D}:unp1 is e U (.ok d)=unp2 is (after e d U) (JAd is.length d):=rfl
def JL1:unp2 is U (.ok xs)=.nx (JCL is xs U):=rfl
def JSV{d:D}:ret1 (.ok d)=.rt d:=rfl
def JMK{c:Nat}:ret1 (.exc c)=.ex c:=rfl
def JMM{a b:S}:ifs1 C a b U (.ok true)=exec C a U:=rfl
def JMp{a b:S}:ifs1 C a b U (.ok false)=exec C b U:=rfl
def JM6{a b:S}{c:Nat}:ifs1 C a b U (.exc c)=.ex c:=rfl
def JR3{i:Nat}{e:E}:app1 i e U (.ok x) (some (.own (.list ds)))=JBi i ds e x U:=rfl
def JPZ{i:Nat}{e:E}:ext1 i e U (.ok x) (some (.own (.list ds)))=JBr i ds e x U:=rfl
def JLx{e:E}:JNe e U (.ok x)=.nx (after e x U):=rfl
def JQe{i:Nat}{e:E}{b:S}:for1 C i e b U (.ok xs)=for2 C i b xs (JAL e 0 U):=rfl
def JEt{C:Cn}{i:Nat}{b:S}{ds:List D}{U:Env}:forN C i b ds (.nx U)=for2 C i b ds U:=rfl
def JMD{i:Nat}{b:S}:forN C i b ds (.ct U)=for2 C i b ds U:=rfl
def JMJ{i:Nat}{b:S}:forN C i b ds (.bk U)=.nx U:=rfl
def JME{i:Nat}{b:S}{d:D}:forN C i b ds (.rt d)=.rt d:=rfl
def JNM{i:Nat}{b:S}{c:Nat}:forN C i b ds (.ex c)=.ex c:=rfl
def JM7{x:Bool}:JKT x (.nx U)=.ok .none:=rfl
def JMO{x:Bool}{d:D}:JKT x (.rt d)=.ok d:=rfl
def JMR{c:Nat}:JKT true (.ex c)=.exc c:=rfl
def JM8{e:E}:JHV C e U (.ok true)=opt1 true (ev C e U):=rfl
def JHi{e:E}:JHV C e U (.ok false)=.ok none:=rfl
def JPW{b:Bool}:opt1 b (.ok y)=.ok (some y):=rfl
def JJN{f c:Nat}:JIM C f (.exc c)=.exc c:=rfl
def JHn{c:Nat}:JKl (.exc c) r=.exc c:=rfl
def JG8{c:Nat}:JKl (.ok x) (.exc c)=.exc c:=rfl
def JQA:bltD .len [.list xs]=.ok (.int xs.length):=rfl
def JMo:bltD .len [.tuple xs]=.ok (.int xs.length):=rfl
def JQg{i:Int}:bltD .abs [.int i]=.ok (.int (if i<0 then -i else i)):=rfl
def JGV{i j:Nat}:(E.var i).uses j=(i==j):=rfl
def JJ0{j:Nat}:E.nil.uses j=false:=rfl
def JF6{a r:E}{j:Nat}:(E.cons a r).uses j=(a.uses j || r.uses j):=rfl
def JMx{j:Nat}:(E.lst a).uses j=a.uses j:=rfl
def JLy{a:E}{j:Nat}:(E.tup a).uses j=a.uses j:=rfl
def JSS{j:Nat}:(E.isi a t).uses j=a.uses j:=rfl
def JF3{a:E}{f:Nat}{j:Nat}:(E.call f a).uses j=a.uses j:=rfl
def JQo{j:Nat}:(E.blt f a).uses j=a.uses j:=rfl
def JL7{a b:E}{j:Nat}:(E.idx a b).uses j=(a.uses j || b.uses j):=rfl
def JJZ{a b:E}{o:Operator}{j:Nat}:(E.bin o a b).uses j=(a.uses j || b.uses j):=rfl
def JOi{k:Nat}{a b c:E}{j:Nat}:(E.cmpr k a b c).uses j=(b.uses j || a.uses (j+(if k=0 then 1 else k)) || c.uses (j+(if k=0 then 1 else k))):=rfl
def JPs{j:Nat}:(E.fn1 o a).uses j=a.uses j:=rfl
def JIj{i:Int}{j:Nat}:(E.cint i).uses j=false:=rfl
def us_bl{i:Bool}{j:Nat}:(E.cbl i).uses j=false:=rfl
def JMm{j:Nat}:(E.cstr i).uses j=false:=rfl
def wV0:((((type_of% @v_var/\type_of% @JQ5)/\(type_of% @v_bl/\type_of% @JR9))/\((type_of% @JPq/\type_of% @JRT)/\(type_of% @JQu/\type_of% @JRn)))/\(((type_of% @v_not/\type_of% @v_and)/\(type_of% @v_or/\type_of% @JQ6))/\((type_of% @JRx/\type_of% @JQT)/\(type_of% @JR5/\type_of% @JP1)))):=#[#[#[#[@v_var,@JQ5],#[@v_bl,@JR9]],#[#[@JPq,@JRT],#[@JQu,@JRn]]],#[#[#[@v_not,@v_and],#[@v_or,@JQ6]],#[#[@JRx,@JQT],#[@JR5,@JP1]]]]
def wV1:((((type_of% @JSi/\type_of% @JMg)/\(type_of% @JQC/\type_of% @JKA))/\((type_of% @v_count/\type_of% @JJU)/\(type_of% @JMf/\type_of% @JQQ)))/\(((type_of% @JRX/\type_of% @JRE)/\(type_of% @JRp/\type_of% @JR1))/\((type_of% @JKV/\type_of% @JPY)/\(type_of% @t_or/\type_of% @JRA)))):=#[#[#[#[@JSi,@JMg],#[@JQC,@JKA]],#[#[@v_count,@JJU],#[@JMf,@JQQ]]],#[#[#[@JRX,@JRE],#[@JRp,@JR1]],#[#[@JKV,@JPY],#[@t_or,@JRA]]]]
def wV2:((((type_of% @t_bl/\type_of% @JQE)/\(type_of% @JLC/\type_of% @JRD))/\((type_of% @JMB/\type_of% @JSq)/\(type_of% @JRc/\type_of% @JPy)))/\(((type_of% @JQF/\type_of% @JSl)/\(type_of% @l_idx/\type_of% @JM5))/\((type_of% @JJ6/\type_of% @JPH)/\(type_of% @JHv/\type_of% @JRZ)))):=#[#[#[#[@t_bl,@JQE],#[@JLC,@JRD]],#[#[@JMB,@JSq],#[@JRc,@JPy]]],#[#[#[@JQF,@JSl],#[@l_idx,@JM5]],#[#[@JJ6,@JPH],#[@JHv,@JRZ]]]]
def wV3:(((type_of% @JOW/\type_of% @JQw)/\(type_of% @JSa/\(type_of% @JSm/\type_of% @JQk)))/\((type_of% @JQL/\(type_of% @JMh/\type_of% @JNN))/\(type_of% @JRN/\(type_of% @JIR/\type_of% @JMv)))):=#[#[#[@JOW,@JQw],#[@JSa,#[@JSm,@JQk]]],#[#[@JQL,#[@JMh,@JNN]],#[@JRN,#[@JIR,@JMv]]]]
end VI.VP
end
local macro_rules | `(tactic| dsimp![$ts,*])=>`(tactic| simp![VI.VP.wV0,VI.VP.wV1,VI.VP.wV2,VI.VP.wV3,VI.VP.JKA,
 VI.VP.JSj,VI.VP.JPc,VI.VP.JQD,VI.VP.JRR,VI.VP.k_tt,VI.VP.k_tl,VI.VP.k_lt,VI.VP.k_ll,VI.VP.JMr,VI.VP.JIv,VI.VP.JJ6,
 VI.VP.JIH,VI.VP.JPi,VI.VP.JPV,VI.VP.JSh,VI.VP.JMW,VI.VP.JNB,VI.VP.JSW,VI.VP.JQK,VI.VP.JP0,VI.VP.JSg,VI.VP.JMd,VI.VP.JMC,VI.VP.JPx,VI.VP.JRk,VI.VP.JQj,VI.VP.JL2,VI.VP.JSB,VI.VP.JRd,VI.VP.JIP,VI.VP.JJa,VI.VP.JNI,VI.VP.JHt,VI.VP.JH7,VI.VP.JMz,VI.VP.JMj,VI.VP.JSX,VI.VP.JR6,VI.VP.JNd,VI.VP.JMs,VI.VP.JMV,VI.VP.JMH,VI.VP.JM1,VI.VP.JNH,VI.VP.JSo,VI.VP.JL1,VI.VP.JSV,VI.VP.JMK,VI.VP.JMM,VI.VP.JMp,VI.VP.JM6,VI.VP.JR3,VI.VP.JPZ,VI.VP.JLx,VI.VP.JQe,VI.VP.JEt,VI.VP.JMD,VI.VP.JMJ,VI.VP.JME,VI.VP.JNM,VI.VP.JM7,VI.VP.JMO,VI.VP.JMR,VI.VP.JM8,VI.VP.JHi,VI.VP.JPW,VI.VP.JJN,VI.VP.JHn,VI.VP.JG8,VI.VP.JQA,VI.VP.JMo,VI.VP.JQg,VI.VP.JIU,
 VI.VP.look_zero,VI.VP.look_succ,VI.VP.get_val,VI.VP.get_own,VI.VP.JEo,VI.VP.JFK,List.map_cons,List.map_nil,List.cons_append,List.nil_append,
 List.replicate_succ,List.replicate_zero,Nat.reduceSub,List.set_cons_zero,List.set_cons_succ,VI.E.fresh,VI.VP.JGz,VI.VP.JCt,VI.VP.JDx,VI.VP.JCu,Bool.false_and,q_v,eq_self,if_true,if_false,VI.VP.i_ne,VI.VP.i_eq,VI.VP.i_lt,VI.VP.i_gt,VI.VP.i_le,VI.VP.i_ge,
 VI.VP.F_ne,VI.VP.F_eq,VI.VP.JMa,VI.VP.JLp,VI.VP.JQ2,VI.VP.JP7,$ts,*])
section
namespace VI.VP
abbrev b_0:S:=(.cons (.asg 2 (.blt .abs (.cons (.var 0) .nil))) (.cons (.asg 3 (.blt .abs (.cons (.var 1) .nil))) (.cons (.whl (.cmp .NotEq (.var 3) (.cint 0)) (.cons (.asg 4 (.bin .Mod (.var 2) (.var 3))) (.cons (.asg 2 (.var 3)) (.cons (.asg 3 (.var 4)) .nil)))) (.cons (.ret (.var 2)) .nil))))
abbrev d_0:Fd:=#[2,5,b_0]
abbrev b_1:S:=(.cons (.ife (.cmp .Eq (.var 1) (.cint 0)) (.cons (.rais 1) .nil) .nil) (.cons (.asg 2 (.call 0 (.cons (.var 0) (.cons (.var 1) .nil)))) (.cons (.ife (.cmp .Lt (.var 1) (.cint 0)) (.cons (.asg 2 (.neg (.var 2))) .nil) .nil) (.cons (.ret (.tup (.cons (.bin .FloorDiv (.var 0) (.var 2)) (.cons (.bin .FloorDiv (.var 1) (.var 2)) .nil)))) .nil))))
abbrev d_1:Fd:=#[2,3,b_1]
abbrev b_2:S:=(.cons (.ret (.tup (.cons (.var 0) (.cons (.cint 1) .nil)))) .nil)
abbrev d_2:Fd:=#[1,1,b_2]
abbrev b_3:S:=(.cons (.ret (.call 1 (.cons (.bin .Add (.bin .Mult (.idx (.var 0) (.cint 0)) (.idx (.var 1) (.cint 1))) (.bin .Mult (.idx (.var 1) (.cint 0)) (.idx (.var 0) (.cint 1)))) (.cons (.bin .Mult (.idx (.var 0) (.cint 1)) (.idx (.var 1) (.cint 1))) .nil)))) .nil)
abbrev d_3:Fd:=#[2,2,b_3]
abbrev b_4:S:=(.cons (.ret (.call 1 (.cons (.bin .Sub (.bin .Mult (.idx (.var 0) (.cint 0)) (.idx (.var 1) (.cint 1))) (.bin .Mult (.idx (.var 1) (.cint 0)) (.idx (.var 0) (.cint 1)))) (.cons (.bin .Mult (.idx (.var 0) (.cint 1)) (.idx (.var 1) (.cint 1))) .nil)))) .nil)
abbrev d_4:Fd:=#[2,2,b_4]
abbrev b_5:S:=(.cons (.ret (.call 1 (.cons (.bin .Mult (.idx (.var 0) (.cint 0)) (.idx (.var 1) (.cint 0))) (.cons (.bin .Mult (.idx (.var 0) (.cint 1)) (.idx (.var 1) (.cint 1))) .nil)))) .nil)
abbrev d_5:Fd:=#[2,2,b_5]
abbrev b_6:S:=(.cons (.ret (.cmp .Lt (.bin .Mult (.idx (.var 0) (.cint 0)) (.idx (.var 1) (.cint 1))) (.bin .Mult (.idx (.var 1) (.cint 0)) (.idx (.var 0) (.cint 1))))) .nil)
abbrev d_6:Fd:=#[2,2,b_6]
abbrev b_7:S:=(.cons (.asg 1 (.idx (.var 0) (.cint 0))) (.cons (.for1 2 (.var 0) (.cons (.ife (.call 6 (.cons (.var 2) (.cons (.var 1) .nil))) (.cons (.asg 1 (.var 2)) .nil) .nil) .nil)) (.cons (.ret (.var 1)) .nil)))
abbrev d_7:Fd:=#[1,3,b_7]
abbrev b_8:S:=(.cons (.asg 1 (.idx (.var 0) (.cint 0))) (.cons (.for1 2 (.var 0) (.cons (.ife (.call 6 (.cons (.var 1) (.cons (.var 2) .nil))) (.cons (.asg 1 (.var 2)) .nil) .nil) .nil)) (.cons (.ret (.var 1)) .nil)))
abbrev d_8:Fd:=#[1,3,b_8]
abbrev b_9:S:=(.cons (.ret (.bin .FloorDiv (.bin .Add (.bin .Mult (.cint 2) (.idx (.var 0) (.cint 0))) (.idx (.var 0) (.cint 1))) (.bin .Mult (.cint 2) (.idx (.var 0) (.cint 1))))) .nil)
abbrev d_9:Fd:=#[1,1,b_9]
abbrev b_10:S:=(.cons (.ret (.call 3 (.cons (.var 0) (.cons (.call 5 (.cons (.var 2) (.cons (.call 4 (.cons (.var 1) (.cons (.var 0) .nil))) .nil))) .nil)))) .nil)
abbrev d_10:Fd:=#[3,3,b_10]
abbrev b_11:S:=(.cons (.ife (.cmp .Lt (.var 1) (.blt .len (.cons (.var 0) .nil))) (.cons (.ret (.idx (.var 0) (.var 1))) .nil) .nil) (.cons (.ife (.cmp .Eq (.var 0) (.lst .nil)) (.cons (.ret (.cint 0)) .nil) .nil) (.cons (.ret (.bin .Add (.bin .Mult (.idx (.var 0) (.bin .Mod (.var 1) (.blt .len (.cons (.var 0) .nil)))) (.cint 31)) (.var 1))) .nil)))
abbrev d_11:Fd:=#[2,2,b_11]
abbrev b_12:S:=(.cons (.asg 3 (.bin .Mod (.bin .Mult (.bin .Add (.call 11 (.cons (.var 0) (.cons (.var 1) .nil))) (.bin .Mult (.cint 6151) (.bin .Add (.var 1) (.cint 1)))) (.cint 40692)) (.cint 2147483399))) (.cons (.ret (.bin .Mod (.bin .Mod (.bin .Add (.bin .Mult (.var 3) (.var 3)) (.bin .FloorDiv (.var 3) (.cint 31))) (.cint 2147483629)) (.var 2))) .nil))
abbrev d_12:Fd:=#[3,4,b_12]
abbrev b_13:S:=(.cons (.whl (.cmp .NotEq (.var 1) (.cint 0)) (.cons (.unp [0,1] (.tup (.cons (.var 1) (.cons (.bin .Mod (.var 0) (.var 1)) .nil)))) .nil)) (.cons (.ret (.blt .abs (.cons (.var 0) .nil))) .nil))
abbrev d_13:Fd:=#[2,2,b_13]
abbrev b_14:S:=(.cons (.asg 2 (.bin .Mult (.call 13 (.cons (.var 0) (.cons (.var 1) .nil))) (.ife (.cmp .Gt (.var 1) (.cint 0)) (.cint 1) (.neg (.cint 1))))) (.cons (.ret (.tup (.cons (.bin .FloorDiv (.var 0) (.var 2)) (.cons (.bin .FloorDiv (.var 1) (.var 2)) .nil)))) .nil))
abbrev d_14:Fd:=#[2,3,b_14]
abbrev b_15:S:=(.cons (.asg 2 (.bin .Add (.cint 1) (.call 12 (.cons (.var 0) (.cons (.var 1) (.cons (.cint 4) .nil)))))) (.cons (.ret (.call 14 (.cons (.bin .Sub (.call 12 (.cons (.var 0) (.cons (.bin .Add (.var 1) (.cint 1)) (.cons (.bin .Add (.bin .Mult (.cint 12) (.var 2)) (.cint 1)) .nil)))) (.bin .Mult (.cint 6) (.var 2))) (.cons (.var 2) .nil)))) .nil))
abbrev d_15:Fd:=#[2,3,b_15]
abbrev b_16:S:=(.cons (.asg 2 (.bin .Add (.cint 1) (.call 12 (.cons (.var 0) (.cons (.var 1) (.cons (.cint 3) .nil)))))) (.cons (.ret (.call 14 (.cons (.bin .Add (.cint 1) (.call 12 (.cons (.var 0) (.cons (.bin .Add (.var 1) (.cint 1)) (.cons (.bin .Mult (.cint 6) (.var 2)) .nil))))) (.cons (.var 2) .nil)))) .nil))
abbrev d_16:Fd:=#[2,3,b_16]
abbrev b_17:S:=(.cons (.ret (.call 14 (.cons (.bin .Add (.bin .Mult (.idx (.var 0) (.cint 0)) (.idx (.var 1) (.cint 1))) (.bin .Mult (.idx (.var 1) (.cint 0)) (.idx (.var 0) (.cint 1)))) (.cons (.bin .Mult (.idx (.var 0) (.cint 1)) (.idx (.var 1) (.cint 1))) .nil)))) .nil)
abbrev d_17:Fd:=#[2,2,b_17]
abbrev b_18:S:=(.cons (.ret (.call 14 (.cons (.bin .Sub (.bin .Mult (.idx (.var 0) (.cint 0)) (.idx (.var 1) (.cint 1))) (.bin .Mult (.idx (.var 1) (.cint 0)) (.idx (.var 0) (.cint 1)))) (.cons (.bin .Mult (.idx (.var 0) (.cint 1)) (.idx (.var 1) (.cint 1))) .nil)))) .nil)
abbrev d_18:Fd:=#[2,2,b_18]
abbrev b_19:S:=(.cons (.ret (.call 14 (.cons (.bin .Mult (.idx (.var 0) (.cint 0)) (.idx (.var 1) (.cint 0))) (.cons (.bin .Mult (.idx (.var 0) (.cint 1)) (.idx (.var 1) (.cint 1))) .nil)))) .nil)
abbrev d_19:Fd:=#[2,2,b_19]
abbrev b_20:S:=(.cons (.ret (.call 14 (.cons (.bin .Mult (.idx (.var 0) (.cint 0)) (.idx (.var 1) (.cint 1))) (.cons (.bin .Mult (.idx (.var 0) (.cint 1)) (.idx (.var 1) (.cint 0))) .nil)))) .nil)
abbrev d_20:Fd:=#[2,2,b_20]
abbrev b_21:S:=(.cons (.ret (.cmp .Lt (.bin .Mult (.idx (.var 0) (.cint 0)) (.idx (.var 1) (.cint 1))) (.bin .Mult (.idx (.var 1) (.cint 0)) (.idx (.var 0) (.cint 1))))) .nil)
abbrev d_21:Fd:=#[2,2,b_21]
end VI.VP
end
section
namespace VI.VP
open PySem Fr
structure TabF(tab:Nat->Option Fd):Prop where
 h0:tab 0=some d_0
 h1:tab 1=some d_1
 h2:tab 2=some d_2
 h3:tab 3=some d_3
 h4:tab 4=some d_4
 h5:tab 5=some d_5
 h6:tab 6=some d_6
section
variable{x:Bool}{tab:Nat->Option Fd}{glo:Nat->R D}{sub:Nat->Nat->Bool}{n:Nat}
def JK2(one other:D):∀(m:Nat) (a b:Int) (z:Sl),z.isOwn=false->0<=a->0<=b->b.natAbs=m->∃z',whl1 C (.cmp .NotEq (.var 3) (.cint 0)) (.cons (.asg 4 (.bin .Mod (.var 2) (.var 3))) (.cons (.asg 2 (.var 3)) (.cons (.asg 3 (.var 4)) .nil)))
  [.val one,.val other,.val (.int a),.val (.int b),z]=.nx [.val one,.val other,.val (.int (a.gcd b)),.val (.int 0),z']:=by
 intro m
 induction m using Nat.strongRecOn with
 |ind m ih =>
  intro a b z hz ha hb hm
  by_cases h0:b=0
  ·subst h0;refine#[z,?_];have e:((a.gcd 0:Nat):Int)=a:=by simp;omega
   rw[e];exact JDR (by dsimp![];simp)
  ·have hf:=JIJ a b h0;obtain⟨z',h⟩:=ih (a.fmod b).natAbs ∅ b (a.fmod b) (.val (.int (a.fmod b))) rfl hb (Int.fmod_nonneg_of_pos a ∅) rfl
   refine#[z',?_];rw[JGZ]at h;rw[<-h];refine JDO (by dsimp![];simp[h0]) ?_
   cases z with
   |own d=>cases hz
   |no=>dsimp![JFo h0]
   |val d=>dsimp![JFo h0]
def JO5(a b:Int):((if a<0 then -a else a).gcd (if b<0 then -b else b))=a.gcd b:=by
 split<;>split<;>simp
def JLf(T:TabF tab)(a b:Int):run x tab glo sub (n+1) 0 [.int a,.int b]=.ok (.int (a.gcd b)):=by
 rw[JAC T.h0,JAB rfl];obtain⟨z',h⟩:=JK2 (C:=#[run x tab glo sub n,glo,sub]) (.int a) (.int b) _ (if a<0 then -a else a) (if b<0 then -b else b) .no rfl (by split<;>omega) (by split<;>omega) rfl
 rw[JO5]at h
 dsimp![d_0,b_0,h]
def JEQ(T:TabF tab)(a b:Int)(hb:b≠0)(lb:L b):run x tab glo sub (n+2) 1 [.int a,.int b]=.ok (F (Rat.divInt a b)):=by
 rw[JAC T.h1,JAB rfl];have hg:a.gcd b≠0:=by
  intro z;exact hb (Int.gcd_eq_zero_iff.mp z).2
 have lg:(a.gcd b)<=b.natAbs:=Int.gcd_le_natAbs_right _ hb;unfold L at lb;have q1:=JCr a b hb;have q2:=JD2 a b hb
 by_cases h:b<0
 ·rw[if_pos h]at q1 q2
  dsimp![d_1,b_1,JLf T,hb,h,decide_true,decide_false,JIS (j:=-((a.gcd b:Nat):Int)) ∅ (by unfold L;omega),q1,q2,F]
 ·rw[if_neg h]at q1 q2
  dsimp![d_1,b_1,JLf T,hb,h,decide_true,decide_false,JIS (j:=((a.gcd b:Nat):Int)) ∅ (by unfold L;omega),q1,q2,F]
def JOG(T:TabF tab){p q:Rat}(hp:Q p)(hq:Q q):run x tab glo sub (n+3) 3 [F p,F q]=.ok (F (p+q)):=by
 rw[JAC T.h3,JAB rfl]
 dsimp![d_3,b_3,JBL (hp.Ln ∅) (hq.Ld ∅),JBL (hq.Ln ∅) (hp.Ld ∅),JBL (hp.Ld ∅) (hq.Ld ∅),
  JEQ T _ _ (Int.mul_ne_zero (JAZ p) (JAZ q)) (L.of (JAk hp.d hq.d) ∅),JH3]
def JEb(T:TabF tab){p q:Rat}(hp:Q p)(hq:Q q):run x tab glo sub (n+3) 4 [F p,F q]=.ok (F (p - q)):=by
 rw[JAC T.h4,JAB rfl]
 dsimp![d_4,b_4,JBL (hp.Ln ∅) (hq.Ld ∅),JBL (hq.Ln ∅) (hp.Ld ∅),JBL (hp.Ld ∅) (hq.Ld ∅),
  JEQ T _ _ (Int.mul_ne_zero (JAZ p) (JAZ q)) (L.of (JAk hp.d hq.d) ∅),JMF]
def JCp(T:TabF tab){p q:Rat}(hp:Q p)(hq:Q q):run x tab glo sub (n+3) 5 [F p,F q]=.ok (F (p*q)):=by
 rw[JAC T.h5,JAB rfl]
 dsimp![d_5,b_5,JBL (hp.Ln ∅) (hq.Ln ∅),JBL (hp.Ld ∅) (hq.Ld ∅),
  JEQ T _ _ (Int.mul_ne_zero (JAZ p) (JAZ q)) (L.of (JAk hp.d hq.d) ∅),JJo]
theorem lt_iff(p q:Rat):p.num*q.den<q.num*p.den↔p<q:=(Rat.lt_iff p q).symm
def JDL(T:TabF tab){p q:Rat}(hp:Q p)(hq:Q q):run x tab glo sub (n+1) 6 [F p,F q]=.ok (.bool (decide (p<q))):=by
 rw[JAC T.h6,JAB rfl]
 dsimp![d_6,b_6,JBL (hp.Ln ∅) (hq.Ld ∅),JBL (hq.Ln ∅) (hp.Ld ∅),lt_iff]
def JES(T:TabF tab)(i:Int):run x tab glo sub (n+1) 2 [.int i]=.ok (.tuple [.int i,.int 1]):=by
 rw[JAC T.h2,JAB rfl]
 dsimp![d_2,b_2]
structure TabL(tab:Nat->Option Fd):Prop where
 h11:tab 11=some d_11
 h12:tab 12=some d_12
 h13:tab 13=some d_13
 h14:tab 14=some d_14
 h15:tab 15=some d_15
 h16:tab 16=some d_16
 h17:tab 17=some d_17
 h18:tab 18=some d_18
 h19:tab 19=some d_19
 h20:tab 20=some d_20
 h21:tab 21=some d_21
def JLB:∀(m:Nat) (a b:Int),b.natAbs=m->∃g:Int,g.natAbs=a.gcd b/\whl1 C (.cmp .NotEq (.var 1) (.cint 0)) (.cons (.unp [0,1] (.tup (.cons (.var 1) (.cons (.bin .Mod (.var 0) (.var 1)) .nil)))) .nil) [.val (.int a),.val (.int b)]=.nx [.val (.int g),.val (.int 0)]:=by
 intro m
 induction m using Nat.strongRecOn with
 |ind m ih =>
  intro a b hm
  by_cases h0:b=0
  ·subst h0;exact#[a,by simp,JDR (by dsimp![];simp)]
  ·have hf:=JIJ a b h0;obtain⟨g,h1,h2⟩:=ih (a.fmod b).natAbs ∅ b (a.fmod b) rfl
   refine#[g,by rw[h1,JGZ],?_]
   rw[<-h2];refine JDO (by dsimp![];simp[h0]) ?_
   dsimp![JFo h0,JAd,JCL,List.length_cons,List.length_nil]
def JDr(T:TabL tab)(a b:Int):run x tab glo sub (n+1) 13 [.int a,.int b]=.ok (.int (a.gcd b)):=by
 rw[JAC T.h13,JAB rfl];obtain⟨g,h1,h2⟩:=JLB (C:=#[run x tab glo sub n,glo,sub]) _ a b rfl
 dsimp![d_13,b_13,h2]
 congr 2
 split<;>omega
def JD9(T:TabL tab)(a b:Int)(hb:b≠0)(lb:L b):run x tab glo sub (n+2) 14 [.int a,.int b]=.ok (F (Rat.divInt a b)):=by
 rw[JAC T.h14,JAB rfl];have hg:a.gcd b≠0:=by
  intro z;exact hb (Int.gcd_eq_zero_iff.mp z).2
 have lg:(a.gcd b)<=b.natAbs:=Int.gcd_le_natAbs_right _ hb;unfold L at lb;have q1:=JCr a b hb;have q2:=JD2 a b hb
 by_cases h:b<0
 ·rw[if_pos h]at q1 q2;have h':¬0<b:=by omega
  dsimp![d_14,b_14,JDr T,h',decide_true,decide_false,JF9 (i:=((a.gcd b:Nat):Int)) (j:=-1) (by decide),Int.mul_neg_one,JIS (j:=-((a.gcd b:Nat):Int)) ∅ (by unfold L;omega),q1,q2,F]
 ·rw[if_neg h]at q1 q2;have h':0<b:=by omega
  dsimp![d_14,b_14,JDr T,h',decide_true,decide_false,JF9 (i:=((a.gcd b:Nat):Int)) (j:=1) (by decide),Int.mul_one,JIS (j:=((a.gcd b:Nat):Int)) ∅ (by unfold L;omega),q1,q2,F]
def JKX(T:TabL tab){p q:Rat}(hp:Q p)(hq:Q q):run x tab glo sub (n+3) 17 [F p,F q]=.ok (F (p+q)):=by
 rw[JAC T.h17,JAB rfl]
 dsimp![d_17,b_17,JBL (hp.Ln ∅) (hq.Ld ∅),JBL (hq.Ln ∅) (hp.Ld ∅),JBL (hp.Ld ∅) (hq.Ld ∅),
  JD9 T _ _ (Int.mul_ne_zero (JAZ p) (JAZ q)) (L.of (JAk hp.d hq.d) ∅),JH3]
def JII(T:TabL tab){p q:Rat}(hp:Q p)(hq:Q q):run x tab glo sub (n+3) 19 [F p,F q]=.ok (F (p*q)):=by
 rw[JAC T.h19,JAB rfl]
 dsimp![d_19,b_19,JBL (hp.Ln ∅) (hq.Ln ∅),JBL (hp.Ld ∅) (hq.Ld ∅),
  JD9 T _ _ (Int.mul_ne_zero (JAZ p) (JAZ q)) (L.of (JAk hp.d hq.d) ∅),JJo]
def JLN(T:TabL tab){p q:Rat}(hp:Q p)(hq:Q q):run x tab glo sub (n+1) 21 [F p,F q]=.ok (.bool (decide (p<q))):=by
 rw[JAC T.h21,JAB rfl]
 dsimp![d_21,b_21,JBL (hp.Ln ∅) (hq.Ld ∅),JBL (hq.Ln ∅) (hp.Ld ∅),lt_iff]
@[reducible]def sc(ns:List Int):D:=.list (ns.map λi=>.int i)
def JE6(ns:List Int):shaped (sc ns)=true:=by
 have h1:∀ns:List Int,PyData.canLayAll0 (ns.map λi=>PyData.int i)=true:=λns=>by
  induction ns with
  |nil=>rfl
  |cons a r ih=>simp![List.map_cons,PyData.canLayAll0,PyData.canLay0,ih,Bool.and_self]
 have h2:∀ns:List Int,PyData.depthAll (ns.map λi=>PyData.int i)=0:=λns=>by
  induction ns with
  |nil=>rfl
  |cons a r ih=>simp![List.map_cons,PyData.depthAll,PyData.depth,ih];rfl
 simp![shaped,PyData.canLay0,h1,PyData.depth,h2];decide
def JDC(ns:List Int):cmpD .Eq (sc ns) (.list [])=.ok (.bool ns.isEmpty):=by
 have:shaped (.list [])=true:=JE6 [];simp![cmpD,JE6,this,Bool.and_self,if_true];cases ns<;>simp[PyData.eqv,PyData.eqvAll]
def JMy(ns:List Int)(k:Int)(h0:0<=k)(h1:k<ns.length):∃i,idxD (sc ns) (.int k)=.ok (.int i):=by
 refine#[ns[k.toNat]'∅,?_]
 simp![sc,idxD,atI,ixN,q_g,if_pos h0,if_pos h1,Option.bind_some];rw[List.getElem?_map,q_q ∅]
 rfl
def JOF(T:TabL tab)(ns:List Int)(k:Int)(hk:0<=k):∃i,run x tab glo sub (n+1) 11 [sc ns,.int k]=.ok (.int i):=by
 rw[JAC T.h11,JAB rfl]
 by_cases h:k<ns.length
 ·obtain⟨i,hi⟩:=JMy ns k hk h;refine#[i,?_]
  dsimp![d_11,b_11,q_g,h,decide_true,hi]
 ·have hd:decide (k<(ns.length:Int))=false:=q_o h
  by_cases hn:ns=[]
  ·refine#[0,?_];have e:cmpD .Eq (sc ns) (.list [])=.ok (.bool true):=by rw[JDC,hn];rfl
   dsimp![d_11,b_11,q_g,hd,e]
  ·have hl:0<(ns.length:Int):=by
    have:=List.length_pos_iff.mpr hn;omega
   obtain⟨i,hi⟩:=JMy ns (k.fmod ns.length) (Int.fmod_nonneg_of_pos k hl) (Int.fmod_lt_of_pos k hl);refine#[i*31+k,?_];have e:cmpD .Eq (sc ns) (.list [])=.ok (.bool false):=by rw[JDC];cases ns<;>simp at hn ⊢
   dsimp![d_11,b_11,q_g,hd,e,JFo (i:=k) (j:=(ns.length:Int)) ∅,hi,JF9 (i:=i) (j:=31) (by decide)]
def JCc(T:TabL tab)(ns:List Int)(k m:Int)(hk:0<=k)(hk2:k<2000000)(hm:0<m):∃i,0<=i/\i<m/\run x tab glo sub (n+2) 12 [sc ns,.int k,.int m]=.ok (.int i):=by
 rw[JAC T.h12,JAB rfl];obtain⟨c,hc⟩:=JOF (x:=x) (glo:=glo) (sub:=sub) (n:=n) T ns k hk;obtain⟨d,hd⟩:∃d,d=((c+6151*(k+1))*40692).fmod 2147483399:=#[_,rfl];have hd0:0<=d:=by rw[hd];exact Int.fmod_nonneg_of_pos _ (by decide)
 have hd1:d<2147483399:=by rw[hd];exact Int.fmod_lt_of_pos _ (by decide)
 have hm1:binD .Mod (.int ((c+6151*(k+1))*40692)) (.int 2147483399)=.ok (.int d):=by rw[JFo (by decide),hd]
 refine#[((d*d+d.fdiv 31).fmod 2147483629).fmod m,Int.fmod_nonneg_of_pos _ hm,Int.fmod_lt_of_pos _ hm,?_]
 dsimp![d_12,b_12,hc,JEl (i:=6151) (j:=k+1) (by decide),JF9 (i:=c+6151*(k+1)) (j:=40692) (by decide),hm1,JEl (i:=d) (j:=d) ∅,JIS (i:=d) (j:=31) (by decide) (L.of (k:=10) (by decide) ∅),
  JFo (j:=2147483629) (by decide),JFo (j:=m) (show m≠0 by omega)]
structure Small(q:Rat):Prop where
 n:q.num.natAbs<=24
 d:q.den<=4
 w:q.num.natAbs<=6*q.den
def Small.sz{q:Rat}(h:Small q):Sz 5 q:=#[by have:=h.n;omega,by have:=h.d;omega]
theorem Small.Q{q:Rat}(h:Small q):Q q:=h.sz.mono ∅
def JCh(a b:Int)(hb:0<b):∃g:Int,0<g/\a=(Rat.divInt a b).num*g/\b=((Rat.divInt a b).den:Int)*g:=by
 have hg:a.gcd b≠0:=by
  intro z;have:=(Int.gcd_eq_zero_iff.mp z).2;omega
 have q1:=JCr a b ∅
 have q2:=JD2 a b ∅
 rw[if_neg ∅]at q1 q2
 refine#[((a.gcd b:Nat):Int),by omega,?_,?_]
 ·rw[<-q1,JBY (Int.gcd_dvd_left ..),Int.ediv_mul_cancel (Int.gcd_dvd_left ..)]
 ·rw[<-q2,JBY (Int.gcd_dvd_right ..),Int.ediv_mul_cancel (Int.gcd_dvd_right ..)]
def JFC(a b m:Int)(hb:0<b)(h1:-(m*b)<=a)(h2:a<=m*b):-(m*(Rat.divInt a b).den)<=(Rat.divInt a b).num/\(Rat.divInt a b).num<=m*(Rat.divInt a b).den:=by
 obtain⟨g,hg,e1,e2⟩:=JCh a b hb;generalize (Rat.divInt a b).num=u at *;generalize ((Rat.divInt a b).den:Int)=d at *;subst e1;subst e2;rw[<-Int.mul_assoc]at h1 h2;constructor
 ·rw[<-Int.neg_mul]at h1;exact Int.le_of_mul_le_mul_right h1 hg
 ·exact Int.le_of_mul_le_mul_right h2 hg
def JKG(T:TabL tab)(ns:List Int)(k:Int)(hk:0<=k)(hk2:k<1000000):∃q,Small q/\run x tab glo sub (n+3) 15 [sc ns,.int k]=.ok (F q):=by
 rw[JAC T.h15,JAB rfl];obtain⟨i,i0,i1,hi⟩:=JCc (x:=x) (glo:=glo) (sub:=sub) (n:=n) T ns k 4 hk ∅ (by decide)
 obtain⟨j,j0,j1,hj⟩:=JCc (x:=x) (glo:=glo) (sub:=sub) (n:=n) T ns (k+1) (12*(1+i)+1) ∅ ∅ ∅
 refine#[Rat.divInt (j - 6*(1+i)) (1+i),?_,?_]
 ·have h1:=JFC (j - 6*(1+i)) (1+i) 6 ∅ ∅ ∅
  have h2:=JIx (j - 6*(1+i)) (1+i) ∅
  have h3:=JGr (j - 6*(1+i)) (1+i) ∅
  exact#[by omega,by omega,by omega]
 ·dsimp![d_15,b_15,hi,JEl (i:=12) (j:=1+i) (by decide),JEl (i:=6) (j:=1+i) (by decide),hj,JD9 T (j - 6*(1+i)) (1+i) ∅ (L.of (k:=10) ∅ ∅)]
def JIe(T:TabL tab)(ns:List Int)(k:Int)(hk:0<=k)(hk2:k<1000000):∃q,Small q/\0<q/\q.den<=3/\run x tab glo sub (n+3) 16 [sc ns,.int k]=.ok (F q):=by
 rw[JAC T.h16,JAB rfl];obtain⟨i,i0,i1,hi⟩:=JCc (x:=x) (glo:=glo) (sub:=sub) (n:=n) T ns k 3 hk ∅ (by decide)
 obtain⟨j,j0,j1,hj⟩:=JCc (x:=x) (glo:=glo) (sub:=sub) (n:=n) T ns (k+1) (6*(1+i)) ∅ ∅ ∅
 refine#[Rat.divInt (1+j) (1+i),?_,?_,by have h3:=JGr (1+j) (1+i) ∅;omega,?_]
 ·have h1:=JFC (1+j) (1+i) 6 ∅ ∅ ∅
  have h2:=JIx (1+j) (1+i) ∅
  have h3:=JGr (1+j) (1+i) ∅
  exact#[by omega,by omega,by omega]
 ·rw[Rat.lt_iff];obtain⟨g,hg,e1,e2⟩:=JCh (1+j) (1+i) ∅
  have h:0<(Rat.divInt (1+j) (1+i)).num*g:=by omega
  have h2:=Int.pos_of_mul_pos_left h hg;simpa using h2
 ·dsimp![d_16,b_16,hi,JEl (i:=6) (j:=1+i) (by decide),hj,JD9 T (1+j) (1+i) ∅ (L.of (k:=10) ∅ ∅)]
def JKD(T:TabL tab)(ns:List Int)(k:Int)(hk:0<=k)(hk2:k<1000000):∃q,Small q/\0<q/\run x tab glo sub (n+3) 16 [sc ns,.int k]=.ok (F q):=by
 obtain⟨q,h1,h2,_,h⟩:=JIe (x:=x) (glo:=glo) (sub:=sub) (n:=n) T ns k hk hk2;exact#[q,h1,h2,h]
end
end VI.VP
end
section
namespace VH
open PySem PySem.W
abbrev rP:Pos:=#[0,0,0,0]
abbrev dName:Stmt->Str
 |.FunctionDef n _ _ _ _ _ _ _ _ _=>n
 |_=>"?"
abbrev dArgs:Stmt->Arguments
 |.FunctionDef _ a _ _ _ _ _ _ _ _=>a
 |_=>#[[],[],none,[],[],none,[]]
abbrev JKq:Stmt->List Stmt
 |.FunctionDef _ _ b _ _ _ _ _ _ _=>b
 |_=>[]
abbrev JE4:Stmt->Scope
 |.FunctionDef _ _ _ _ _ _ s _ _ _=>s
 |_=>default
abbrev tO(xs:List Value):Obj:=#[.type "tuple",none,.seq xs.toArray 0,#[]]
abbrev fO(xs:List Value):Obj:=#[.none,none,.fields xs.toArray,#[]]
abbrev sqs:Nat->List Str->List Value
 |_,[]=>[]
 |t,x::r=>.str x t::sqs (t+1) r
abbrev f1(st:Stmt):Obj:=#[.none,none,.func { name:=dName st,qualname:=dName st,params:=dArgs st,body:=.stmts (JKq st),scope:=JE4 st,globals:=0,closure:=[],defaults:=.none,kwdefaults:=.none },#[]]
abbrev f2(st:Stmt)(pm:Value)(cd:Addr):Obj:=#[.type "function",none,.func { name:=dName st,qualname:=dName st,params:=dArgs st,body:=.stmts (JKq st),scope:=JE4 st,globals:=mainNs,closure:=[],defaults:=.none,kwdefaults:=.none,pyModule:=pm,code:=.ref cd },#[]]
abbrev f3(st:Stmt)(q:Str)(pm:Value)(cd:Addr):Obj:=#[.type "function",none,.func { name:=dName st,qualname:=q,params:=dArgs st,body:=.stmts (JKq st),scope:=JE4 st,globals:=mainNs,closure:=[],defaults:=.none,kwdefaults:=.none,pyModule:=pm,code:=.ref cd },#[]]
abbrev f4(st:Stmt)(q:Str):Obj:=#[.none,none,.func { name:=dName st,qualname:=q,params:=dArgs st,body:=.stmts (JKq st),scope:=JE4 st,globals:=0,closure:=[],defaults:=.none,kwdefaults:=.none },#[]]
abbrev cQ(x y:Str)(t l k loc a:Nat)(b:Bool)(u t2:Nat):Obj :=
 #[.type "code",none,.fields (List.toArray [.str x t,.str y (t+1),.str "/claim/cut.py" (t+2),.int l 0,.int k 0,.int 0 0,.int 0 0,.int loc 0,.ref a,.bool b,.int 181 0,.ref (a+1),.none,.ref (a+2),.ref (a+3),.ref (a+4),.int t2 0,.int u 0,.str "/claim/cut.py" (t2+1)]),#[]]
abbrev JRV:Stmt->List Stmt
 |.ClassDef _ _ _ b _ _ _ _ _ _ _=>b
 |_=>[]
abbrev cO(x:Str)(t l k loc a:Nat)(b:Bool)(u t2:Nat):Obj :=
 #[.type "code",none,.fields (List.toArray [.str x t,.str x (t+1),.str "/claim/cut.py" (t+2),.int l 0,.int k 0,.int 0 0,.int 0 0,.int loc 0,.ref a,.bool b,.int 181 0,.ref (a+1),.none,.ref (a+2),.ref (a+3),.ref (a+4),.int t2 0,.int u 0,.str "/claim/cut.py" (t2+1)]),#[]]
abbrev isLo:NameKind->Bool
 |.local=>true
 |.cell=>true
 |_=>false
abbrev vn(st:Stmt):List Str:=((JE4 st).names.filter λp=>isLo p.2).map (·.1)
abbrev pn(st:Stmt):List Str:=(dArgs st).args.map (·.arg)
abbrev ln:Stmt->Nat
 |.FunctionDef _ _ _ _ _ _ _ _ _ p=>p.line
 |_=>0
abbrev dC(st:Stmt)(t a:Nat)(pm:Value):List Obj:=[tO [],fO [],tO (sqs t (vn st)),tO [],f1 st,cO (dName st) (t - 3) (ln st) (pn st).length 3 a true (ln st) (t+(vn st).length),f2 st pm (a+5)]
abbrev dD(st:Stmt)(t a:Nat)(pm:Value):List Obj:=[tO [],fO [],f1 st,#[.type "code",none,.fields (List.toArray [.str (dName st) t,.str (dName st) (t+1),.str "/claim/cut.py" (t+2),.int (ln st) 0,.int (pn st).length 0,.int 0 0,.int 0 0,.int 3 0,.ref a,.bool true,.int 181 0,.ref (a+1),.none,.none,.none,.ref (a+2),.int (t+3) 0,.int (ln st) 0,.str "/claim/cut.py" (t+4)]),#[]],f2 st pm (a+3)]
abbrev dM(st:Stmt)(q:Str)(t a:Nat)(pm:Value):List Obj:=[tO [],fO [],tO (sqs t (vn st)),tO [],f4 st q,cQ (dName st) q (t - 3) (ln st) (pn st).length 3 a true (ln st) (t+(vn st).length),f3 st q pm (a+5)]
abbrev tw:List (Nat×Nat)->List Value
 | []=>[]
 |(l,a)::r=>.int l 0::.int 0 0::.ref a::tw r
abbrev ent(P:Params)(x:Str)(t:Nat)(v:Value):DictEntry:=#[PyData.keyHash P x,.str x t,v]
abbrev dO(es:List DictEntry)(n:Nat):Obj:=#[.type "dict",none,.dict es.toArray n,#[]]
def alt:Bool->List Obj->List Obj
 |_,[]=>[]
 |true,o::r=>o::alt false r
 |false,_::r=>alt true r
def bt:Nat->List Obj->BT
 |0,_=>.nil
 |_,[]=>.nil
 |n+1,o::r=>.node o (bt n (alt true r)) (bt n (alt false r))
def put:Nat->Obj->List Obj->List Obj
 |_,_,[]=>[]
 |0,o,_::r=>o::r
 |n+1,o,x::r=>x::put n o r
abbrev sT(l:List Obj)(n k:Nat)(os:OsState):SharedT:=#[bt 12 l,n,{},#[],{},k,os]
abbrev sH(l:List Obj)(k:Nat)(os:OsState):Shared:=#[#[l.toArray,{}],#[],{},k,os]
abbrev envOf(p:Program):PySem.Env:={ scope:=p.main.scope,locals:=mainNs,globals:=mainNs,cells:=[],code:=.ref 13,frame:=some 14 }
abbrev cdOf(p:Program):Code:=.body (behindTheImports p) (envOf p)
end VH
end
section
set_option backward.eqns.nonrecursive false
namespace VI
open PySem
@[reducible]def Fs:=List (Str×D)
@[reducible]def Ta:=List Fs
abbrev recD(n:Nat):D:=.dict [(.bool true,.int (n:Int))]
abbrev recN:D->Option Nat
 |.dict [(.bool true,.int n)]=>if 0<=n then some n.toNat else none
 |_=>none
mutual
noncomputable def JBh:D->Bool
 |.none=>true
 |.bool _=>true
 |.int _=>true
 |.str _=>true
 |.tuple xs=>JBM xs
 |.list xs=>JBM xs
 |.dict kvs=>JEs kvs
noncomputable def JBM:List D->Bool
 | []=>true
 |x::xs=>JBh x&&JBM xs
noncomputable def JEs:List (D×D)->Bool
 | []=>true
 |(.bool _,_)::_=>false
 |(_,d)::r=>JBh d&&JEs r
end
abbrev JAn(f:Str)(d:D):Fs->Fs
 | []=>[(f,d)]
 |(g,x)::r=>if g=f then (g,d)::r else (g,x)::JAn f d r
abbrev recF(π:Ta)(d:D):Option (Nat×Fs):=(recN d).bind λn=>π[n]?.map λc=>(n,c)
abbrev fldD(π:Ta)(f:Str):List D->R D
 | [d]=>optR ((recF π d).bind λq=>q.2.lookup f)
 |_=>.bad
abbrev chkD(π:Ta)(m:Str):List D->R D
 | [d]=>match recF π d with
  |some q=>if (q.2.lookup m).isNone=true then .ok d else .bad
  |none=>.bad
 |_=>.bad
inductive R3(α:Type) where
 |ok (a:α) (π:Ta)
 |exc (c:Nat) (π:Ta)
 |bad
@[reducible] def R3.bind {α β:Type}(r:R3 α) (f:α->Ta->R3 β):R3 β:=match r with
 |.ok a π=>f a π
 |.exc c π=>.exc c π
 |.bad=>.bad
@[reducible] def R.at {α:Type}(r:R α) (π:Ta):R3 α:=match r with
 |.ok a=>.ok a π
 |.exc c=>.exc c π
 |.bad=>.bad
set_option genInjectivity false in
inductive V3 where
 |pur (e:E)
 |cal (f:Nat) (es:E)
 |met (f:Nat) (m:Str) (x es:E)
 |mak (f:Nat) (es:E)
 |cmv (op:CmpOp) (v:V3) (b:E)
 |lmk (f:Nat) (es z:E)
inductive T3 where
 |pur (e:E)
 |cmp (op:CmpOp) (v:V3) (b:E)
 |or (a b:T3)
 |nv (v:V3)
set_option genInjectivity false in
inductive S3 where
 |nil|cons (a r:S3)
 |st (s:S)
 |drop (v:V3)|ret (v:V3)
 |ife (t:T3) (a b:S3)
 |for1 (i:Nat) (e:E) (b:S3)
 |un3 (is:List Nat) (v:V3)
 |ext (i:Nat) (v:V3)
 |fld (i:Nat) (f:Str) (e:E)
 |fln (i:Nat) (f:Str)
 |oxt (i:Nat) (f:Str) (e:E)
 |tryx (b:S3) (c i j:Nat)
abbrev V3.toE:V3->E
 |.pur e=>e
 |.cal _ es=>.tup es
 |.met _ _ x es=>.tup (.cons x es)
 |.mak _ es=>.tup es
 |.cmv op v b=>.cmp op v.toE b
 |.lmk _ es z=>.cmpr 0 (.tup es) z (.cbl true)
abbrev T3.toE:T3->E
 |.pur e=>e
 |.cmp op v b=>.cmp op v.toE b
 |.or a b=>.or a.toE b.toE
 |.nv v=>v.toE
@[reducible]def F3:=Nat->List D->Ta->R3 D
abbrev mk3(C:Ta->Cn)(f3:F3)(f:Nat)(es:E)(U:Env)(π:Ta):R3 D:=((evA (C π) es U).at π).bind λds π=>(f3 f (recD π.length::ds) (π++[[]])).bind λd π'=>if isNone d=true then .ok (recD π.length) π' else .bad
abbrev mks(C:Ta->Cn)(f3:F3)(f:Nat)(es:E)(U:Env):List D->List D->Ta->R3 D
 | [],ys,π=>.ok (.list ys) π
 |d::ds,ys,π=>match mk3 C f3 f es (.val d::U) π with
  |.ok y π'=>mks C f3 f es U ds (ys++[y]) π'
  |_=>.bad
abbrev ev3(C:Ta->Cn)(f3:F3)(U:Env):V3->Ta->R3 D
 |.pur e,π=>(ev (C π) e U).at π
 |.cal f es,π=>((evA (C π) es U).at π).bind (f3 f)
 |.met f m x es,π=>((ev (C π) x U).at π).bind λd π=>((chkD π m [d]).at π).bind λd π=>((evA (C π) es U).at π).bind λds π=>f3 f (d::ds) π
 |.mak f es,π=>mk3 C f3 f es U π
 |.cmv op v b,π=>(ev3 C f3 U v π).bind λx π=>((ev (C π) b U).bind λy=>cmpD op x y).at π
 |.lmk f es z,π=>((evI (C π) z U).at π).bind λds π=>if ds.length<=16777216 then mks C f3 f es U ds [] π else .bad
abbrev evT3(C:Ta->Cn)(f3:F3)(U:Env):T3->Ta->R3 Bool
 |.pur e,π=>(evT (C π) e U).at π
 |.cmp op v b,π=>(ev3 C f3 U v π).bind λx π=>(((ev (C π) b U).bind λy=>cmpD op x y).bind truth).at π
 |.or a b,π=>(evT3 C f3 U a π).bind λk π=>if k=true then .ok true π else evT3 C f3 U b π
 |.nv v,π=>(ev3 C f3 U v π).bind λd π=>(match d with
  |.bool b=>.ok (!b) π
  |_=>.bad)
inductive Fl3 where
 |nx (U:Env) (π:Ta)
 |rt (d:D) (π:Ta)
 |bk (U:Env) (π:Ta)
 |ct (U:Env) (π:Ta)
 |ex (c:Nat) (π:Ta)
 |bad
@[reducible] def step3 {α:Type}(r:R3 α) (f:α->Ta->Fl3):Fl3:=match r with
 |.ok a π=>f a π
 |.exc c π=>.ex c π
 |.bad=>.bad
abbrev Fl.at(π:Ta):Fl->Fl3
 |.nx U=>.nx U π
 |.rt d=>.rt d π
 |.bk U=>.bk U π
 |.ct U=>.ct U π
 |.ex c=>.ex c π
 |.bad=>.bad
abbrev ext3(i:Nat)(U:Env)(ds:List D)(d:D)(π:Ta):Fl3:=match d with
 |.list zs=>if ds.length+zs.length<=16777216 then .nx (U.set i (.own (.list (ds++zs)))) π else .bad
 |_=>.bad
abbrev for3(put:D->Env->Option Env)(body:Env->Ta->Fl3):List D->Env->Ta->Fl3
 | [],U,π=>.nx U π
 |d::ds,U,π=>match put d U with
  |none=>.bad
  |some U1=>match body U1 π with
   |.nx U' π'=>for3 put body ds U' π'
   |.ct U' π'=>for3 put body ds U' π'
   |.bk U' π'=>.nx U' π'
   |r=>r
abbrev JBZ(π:Ta)(U:Env)(i:Nat):Option (Nat×Fs):=match look U i with
 |.ok d=>recF π d
 |_=>none
abbrev fld3(C:Ta->Cn)(U:Env)(i:Nat)(f:Str)(e:E)(π:Ta):R3 Unit:=match JBZ π U i with
 |some (n,c)=>((ev (C π) e U).at π).bind λd π=>if JBh d=true/\c.length<800 then .ok () (π.set n (JAn f d c)) else .bad
 |none=>.bad
abbrev fln3(U:Env)(i:Nat)(f:Str)(π:Ta):R3 Unit:=match JBZ π U i with
 |some (n,c)=>if (c.lookup f).isNone=true/\c.length<800 then .ok () (π.set n (JAn f (.list []) c)) else .bad
 |none=>.bad
abbrev oxt3(C:Ta->Cn)(U:Env)(i:Nat)(f:Str)(e:E)(π:Ta):R3 Unit:=match JBZ π U i with
 |some (n,c)=>(match c.lookup f with
  |some (.list ds)=>((ev (C π) e U).at π).bind λd π=>(match d with
   |.list zs=>if JBM zs=true/\ds.length+zs.length<=16777216 then .ok () (π.set n (JAn f (.list (ds++zs)) c)) else .bad
   |_=>.bad)
  |_=>.bad)
 |none=>.bad
abbrev JAI(C:Ta->Cn)(f3:F3):S3->Env->Ta->Fl3
 |.nil,U,π=>.nx U π
 |.cons a r,U,π=>match JAI C f3 a U π with
  |.nx U' π'=>JAI C f3 r U' π'
  |f=>f
 |.st s,U,π=>(exec (C π) s U).at π
 |.drop v,U,π=>step3 (ev3 C f3 (JAL v.toE 0 U) v π) λ_ π'=>.nx (JAL v.toE 0 U) π'
 |.ret v,U,π=>step3 (ev3 C f3 (JAL v.toE 0 U) v π) λd π'=>.rt d π'
 |.ife t a b,U,π=>step3 (evT3 C f3 (JAL t.toE 0 U) t π) λk π'=>if k=true then JAI C f3 a (JAL t.toE 0 U) π' else JAI C f3 b (JAL t.toE 0 U) π'
 |.for1 i e b,U,π=>step3 ((evI (C π) e U).at π) λds π=>for3 (put1 i) (JAI C f3 b) ds (JAL e 0 U) π
 |.un3 is v,U,π=>step3 (ev3 C f3 (JAL v.toE 0 U) v π) λd π'=>step3 ((JAd is.length d).at π') λds π'=>.nx (JCL is ds (JAL v.toE 0 U)) π'
 |.ext i v,U,π=>match (JAL v.toE 0 U)[i]? with
  |some (.own (.list ds))=>step3 (ev3 C f3 (JAL v.toE 0 U) v π) (ext3 i (JAL v.toE 0 U) ds)
  |_=>.bad
 |.fld i f e,U,π=>step3 (fld3 C (JAL (.cons (.var i) e) 0 U) i f e π) λ_ π'=>.nx (JAL (.cons (.var i) e) 0 U) π'
 |.fln i f,U,π=>step3 (fln3 (JAL (.var i) 0 U) i f π) λ_ π'=>.nx (JAL (.var i) 0 U) π'
 |.oxt i f e,U,π=>step3 (oxt3 C (JAL (.cons (.var i) e) 0 U) i f e π) λ_ π'=>.nx (JAL (.cons (.var i) e) 0 U) π'
 |.tryx b c i j,U,π=>match JAI C f3 b U π with
  |.ex k π'=>if (C π').sub k c=true then .nx ((((U.map λ_=>Sl.no).set i (.val (excD k))).set j (.val (excD k))).set i .no) π' else .bad
  |f=>f
structure Fd3 where
 par:Nat
 slots:Nat
 body:S3
abbrev JCN(C:Ta->Cn)(f3:F3)(fd:Fd3)(ds:List D)(π:Ta):R3 D :=
 if ds.length=fd.par then (match JAI C f3 fd.body (ds.map Sl.val++List.replicate (fd.slots - fd.par) Sl.no) π with
  |.nx _ π'=>.ok .none π'
  |.rt d π'=>.ok d π'
  |.ex c π'=>.exc c π'
  |_=>.bad) else .bad
inductive RK where
 |fld (f:Str)|chk (m:Str)|def_|no
abbrev runR(kR:Nat->RK)(tab tabR:Nat->Option Fd)(glo:Nat->R D)(sub:Nat->Nat->Bool)(π:Ta):Nat->Nat->List D->R D
 |n,i,ds=>match kR i with
  |.fld f=>fldD π f ds
  |.chk m=>chkD π m ds
  |.no=>run true tab glo sub n i ds
  |.def_=>match n with
   |0=>.bad
   |n+1=>match tabR i with
    |some fd=>JB1 true #[runR kR tab tabR glo sub π n,glo,sub] fd ds
    |none=>.bad
abbrev run3(kR:Nat->RK)(tab tabR:Nat->Option Fd)(tab3:Nat->Option Fd3)(glo:Nat->R D)(sub:Nat->Nat->Bool):Nat->F3
 |0,_,_,_=>.bad
 |n+1,i,ds,π=>match tab3 i with
  |some fd=>JCN (λπ=>#[runR kR tab tabR glo sub π n,glo,sub]) (run3 kR tab tabR tab3 glo sub n) fd ds π
  |none=>.bad
end VI
end
section
namespace VI
open PySem PySem.Spec PyProof.Rows L2
def JFV{a b C:Addr}(h:ExcAt a C=LsAt b xs)(e:a=b):False:=by
 subst e;have q:ExcAt a C { objs:=Array.replicate (a+1) { cls:=.ref C,data:=.fields #[] } }:=#[{ cls:=.ref C,data:=.fields #[] },by unfold Heap.get?;simp,rfl]
 rw[h]at q;obtain⟨_,its,n,_,z⟩:=q;unfold Heap.get? at z;simp at z
noncomputable abbrev bare(B:Bs):Bs:={ B with rc:=λ_ _ _=>False,rcm:=λ_ _ _ _ _ h=>h }
mutual
theorem JB5(hK:B'.K=B.K)(hw:B'.w=B.w)(hc:B'.cl=B.cl)(g:Kpt H H')(hx:∀b c,H b=some (.ext (ExcAt b c))->H' b=some (.ext (ExcAt b c)))(hr:∀n a,B.rc n a H->B'.rc n a H'):∀(d:D) (v:V),Den B H d v->Den B' H' d v
 |.none,_,h=>h
 |.bool _,_,h=>h
 |.int _,_,h=>h
 |.str _,_,h=>h
 |.tuple ds,v,h=>by
  simp![Den]at h ⊢;obtain⟨a,xs,e,q,l⟩:=h;exact#[a,xs,e,by rw[hK];exact g.tup q,JBb hK hw hc g hx hr ds xs l]
 |.list ds,v,h=>by
  simp![Den]at h ⊢;obtain⟨a,xs,e,q,l⟩:=h;exact#[a,xs,e,by rw[hK];exact g.seq q,JBb hK hw hc g hx hr ds xs l]
 |.dict kvs,v,h=>by
  simp![Den]at h ⊢;rcases h with ⟨a,c,e,k,q⟩|⟨a,xs,e,⟨o,q⟩,l⟩|⟨a,n,e,k,q⟩
  ·exact .inl #[a,c,e,k,by rw[hc];exact hx _ _ q]
  ·exact .inr (.inl #[a,xs,e,#[o,by rw[hK,hw];exact g.dict q],JGC hK hw hc g hx hr kvs xs l])
  ·exact .inr (.inr #[a,n,e,k,hr n a q])
theorem JBb(hK:B'.K=B.K)(hw:B'.w=B.w)(hc:B'.cl=B.cl)(g:Kpt H H')(hx:∀b c,H b=some (.ext (ExcAt b c))->H' b=some (.ext (ExcAt b c)))(hr:∀n a,B.rc n a H->B'.rc n a H'):∀(ds:List D) (vs:List V),DenL B H ds vs->DenL B' H' ds vs
 | [],_,h=>h
 |d::ds,vs,h=>by
  simp![DenL]at h ⊢;obtain⟨v,r,e,q,l⟩:=h;exact#[v,r,e,JB5 hK hw hc g hx hr d v q,JBb hK hw hc g hx hr ds r l]
theorem JGC(hK:B'.K=B.K)(hw:B'.w=B.w)(hc:B'.cl=B.cl)(g:Kpt H H')(hx:∀b c,H b=some (.ext (ExcAt b c))->H' b=some (.ext (ExcAt b c)))(hr:∀n a,B.rc n a H->B'.rc n a H'):∀(ds:List (D×D)) (vs:List (Key×V)),DenK B H ds vs->DenK B' H' ds vs
 | [],_,h=>h
 |(k,d)::ds,vs,h=>by
  simp![DenK]at h ⊢;obtain⟨x,v,r,e,e',q,l⟩:=h;exact#[x,v,r,e,e',JB5 hK hw hc g hx hr d v q,JGC hK hw hc g hx hr ds r l]
end
structure Rec where
 a:Addr
 dx:Addr
 ow:List (Str×Addr)
abbrev Rec.adr(r:Rec):List Addr:=r.a::r.dx::r.ow.map (·.2)
structure Kl where
 C:Addr
 on:List Str
def OwnAt(B:Bs)(H:Hp)(b:Addr):D->Prop
 |.list ds=>∃xs,H b=some (.ext (LsAt b xs))/\DenL B H ds xs
 |_=>False
def JDQ(κ:Kl)(B:Bs)(H:Hp)(r:Rec)(f:Str)(d:D)(v:V):Prop:=match κ.on.contains f with
 |true=>∃b,r.ow.lookup f=some b/\v=.ref b/\OwnAt B H b d
 |false=>Den B H d v
structure RecOk(κ:Kl)(B:Bs)(r:Rec)(c:Fs)(fs:List (Str×V))(H:Hp):Prop where
 ins:H r.a=some (.ins κ.C r.dx fs)
 own:H r.dx=some (.own r.a)
 keys:fs.map (·.1)=c.map (·.1)
 fld:∀f d,c.lookup f=some d->∃v,fs.lookup f=some v/\JDQ κ (bare B) H r f d v
 ow:∀b∈r.ow.map (·.2),∃xs,H b=some (.ext (LsAt b xs))
 no:(r.ow.map (·.2)).Nodup
theorem JE3{α β:Type}:∀ {c:List (Str×α)}{e:List (Str×β)},e.map (·.1)=c.map (·.1)->c.lookup f=none->e.lookup f=none
 | [],[],_,_=>rfl
 | [],_::_,h,_=>by cases h
 |_::_,[],_,_=>rfl
 |(k,x)::c,(l,y)::e,h,n=>by
  simp![List.map_cons,List.cons.injEq]at h;have h1:l=k:=h.1;subst h1;unfold List.lookup at n ⊢;cases q:(f==l) with
  |true=>rw[q]at n;cases n
  |false=>rw[q]at n;exact JE3 h.2 n
@[reducible]def Tb:=List (Rec×Fs)
abbrev pi(ρ:Tb):List Fs:=ρ.map (·.2)
abbrev adrs(ρ:Tb):List Addr:=ρ.flatMap (·.1.adr)
section
variable{κ:Kl}{B:Bs}{ρ ρ' ρ'':Tb}{H H' H'':Hp}{r:Rec}{c:Fs}{fs:List (Str×V)}
def RecOk.non(h:RecOk κ B r c fs H)(f:Str)(n:c.lookup f=none):fs.lookup f=none:=JE3 h.keys n
def RecOk.len(h:RecOk κ B r c fs H):fs.length=c.length:=by simpa using congrArg List.length h.keys
def RecOk.stay(h:RecOk κ B r c fs H)(k:Kpt H H')(hx:∀b c,H b=some (.ext (ExcAt b c))->H' b=some (.ext (ExcAt b c)))(ha:∀b∈r.adr,∀o,H b=some o->H' b=some o):RecOk κ B r c fs H':=by
 have mow:∀ {b:Addr},b∈r.ow.map (·.2)->b∈r.adr:=λz=>q_s _ (q_s _ z);have dn:=λd v=>JB5 (B:=bare B) (B':=bare B) rfl rfl rfl k hx (λ_ _ z=>z) d v;have dns:=λd v=>JBb (B:=bare B) (B':=bare B) rfl rfl rfl k hx (λ_ _ z=>z) d v;refine#[ha _ (List.mem_cons_self ..) _ h.ins,ha _ (q_s _ (List.mem_cons_self ..)) _ h.own,h.keys,λf d e=>?_,λb hb=>?_,h.no]
 ·obtain⟨v,e1,q⟩:=h.fld f d e;refine#[v,e1,?_];unfold JDQ at q ⊢
  revert q
  cases κ.on.contains f with
  |false=>exact λq=>dn d v q
  |true =>
   rintro⟨b,q1,q2,q3⟩;refine#[b,q1,q2,?_];cases d<;>first|exact fF q3|skip
   obtain⟨xs,e2,l⟩:=q3;refine#[xs,ha b (mow ?_) _ e2,dns _ _ l];exact(List.mem_map.mpr #[(f,b),PySem.mem_of_lookup q1,rfl])
 ·obtain⟨xs,e⟩:=h.ow b hb;exact#[xs,ha b (mow hb) _ e]
def RecOk.mono(h:RecOk κ B r c fs H)(s:Same H H'):RecOk κ B r c fs H':=h.stay (Same.kp s) (λb c e=>s _ _ e) λb _ o e=>s _ _ e
def rcT(κ:Kl)(B:Bs)(ρ:Tb)(n:Nat)(a:Addr)(H:Hp):Prop:=∃p fs,ρ[n]? = some p/\a=p.1.a/\RecOk κ B p.1 p.2 fs H
def JLP:RcM (rcT κ B ρ):=λn a H H' s ⟨p,fs,e1,e2,q⟩=>#[p,fs,e1,e2,q.mono s]
noncomputable abbrev JAD(κ:Kl)(B:Bs)(ρ:Tb):Bs:={ B with rc:=rcT κ B ρ,rcm:=JLP }
structure Recs(κ:Kl)(B:Bs)(ρ:Tb)(H:Hp):Prop where
 at_:∀p∈ρ,∃fs,RecOk κ B p.1 p.2 fs H
 nd:∀(i j:Nat) (p q:Rec×Fs) (a:Addr),ρ[i]? = some p->ρ[j]? = some q->a∈p.1.adr->a∈q.1.adr->i=j
def RecOk.uns(q:RecOk κ B r c fs H){b:Addr}(hb:b∈r.adr):∃o,H b=some o/\JHl o/\∀c,o≠.ext (ExcAt b c):=by
 unfold Rec.adr at hb;rcases q_n.mp hb with rfl|hb
 ·exact#[_,q.ins,trivial,λc z=>by cases z]
 rcases q_n.mp hb with rfl|hb
 ·exact#[_,q.own,trivial,λc z=>by cases z]
 obtain⟨xs,e⟩:=q.ow b hb;refine#[_,e,#[b,xs,rfl],λc z=>?_];injection z with z
 exact JFV z.symm rfl
theorem Recs.uns(h:Recs κ B ρ H){b:Addr}(hb:b∈adrs ρ):∃o,H b=some o/\JHl o/\∀c,o≠.ext (ExcAt b c):=by
 obtain⟨p,hp,hb⟩:=List.mem_flatMap.mp hb;obtain⟨fs,q⟩:=h.at_ p hp;exact q.uns hb
theorem Recs.mono(h:Recs κ B ρ H)(s:Same H H'):Recs κ B ρ H':=#[λp hp=>let ⟨fs,q⟩:=h.at_ p hp;#[fs,q.mono s],h.nd]
def Recs.nil:Recs κ B [] H:=#[λ_ h=>by simp at h,λ_ _ _ _ _ h=>by simp at h]
theorem Recs.off(h:Recs κ B ρ H)(off:∀b o,H b=some o->b ∉ adrs ρ->H' b=some o):Kpt H H'/\∀b c,H b=some (.ext (ExcAt b c))->H' b=some (.ext (ExcAt b c)):=by
 refine#[λb o e n=>off b o e λhb=>?_,λb c e=>off b _ e λhb=>?_]
 ·obtain⟨u,e',z,_⟩:=h.uns hb;rw[e]at e';cases e';exact n z
 ·obtain⟨u,e',_,z⟩:=h.uns hb;rw[e]at e';cases e';exact z c rfl
structure StepR(κ:Kl)(B:Bs)(ρ:Tb)(H:Hp)(ρ':Tb)(H':Hp):Prop where
 off:∀b o,H b=some o->b ∉ adrs ρ->H' b=some o
 all:Recs κ B ρ' H'
 pre:∀(n:Nat) (p:Rec×Fs),ρ[n]? = some p->∃q,ρ'[n]? = some q/\q.1.a=p.1.a
 sub:∀b∈adrs ρ,b∈adrs ρ'
 new:∀b∈adrs ρ',b ∉ adrs ρ->H b=none
def StepR.same(h:Recs κ B ρ H)(s:Same H H'):StepR κ B ρ H ρ H':=#[λb o e _=>s b o e,h.mono s,λn p e=>#[p,e,rfl],λb hb=>hb,λb h n=>absurd h n]
theorem StepR.trans(a:StepR κ B ρ H ρ' H')(b:StepR κ B ρ' H' ρ'' H''):StepR κ B ρ H ρ'' H'':=by
 have lost:∀ {c:Addr},c ∉ adrs ρ->H' c=none->H c=none:=λ{c} n e=>by
  cases q:H c with
  |none=>rfl
  |some o=>rw[a.off c o q n]at e;cases e
 refine#[λc o e n=>b.off c o (a.off c o e n) λz=>?_,b.all,λn p e=>?_,λc h=>b.sub c (a.sub c h),λc h n=>?_]
 ·rw[a.new c z n]at e;cases e
 ·obtain⟨q,e1,e2⟩:=a.pre n p e;obtain⟨q',e3,e4⟩:=b.pre n q e1;exact#[q',e3,e4.trans e2]
 ·by_cases z:c∈adrs ρ'
  ·exact a.new c z n
  ·exact lost n (b.new c h z)
def StepR.then(a:StepR κ B ρ H ρ' H')(s:Same H' H''):StepR κ B ρ H ρ' H'':=a.trans (.same a.all s)
def StepR.dm(k:StepR κ B ρ H ρ' H'):Dm H H':=λb o e=>by
 by_cases hb:b∈adrs ρ
 ·obtain⟨u,q,_⟩:=k.all.uns (k.sub b hb);exact#[u,q]
 ·exact#[o,k.off b o e hb]
def StepR.rc(k:StepR κ B ρ H ρ' H')(n:Nat)(a:Addr):rcT κ B ρ n a H->rcT κ B ρ' n a H':=by
 rintro⟨p,fs,e1,e2,_⟩;obtain⟨q,e3,e4⟩:=k.pre n p e1;obtain⟨fs',r⟩:=k.all.at_ _ (List.mem_of_getElem? e3);exact#[_,fs',e3,by rw[e2,e4],r]
def StepR.den(k:StepR κ B ρ H ρ' H')(h:Recs κ B ρ H)(d:D)(v:V)(q:Den (JAD κ B ρ) H d v):Den (JAD κ B ρ') H' d v :=
 let ⟨k1,k2⟩:=h.off k.off
 JB5 (B:=JAD κ B ρ) (B':=JAD κ B ρ') rfl rfl rfl k1 k2 k.rc d v q
def StepR.dens(k:StepR κ B ρ H ρ' H')(h:Recs κ B ρ H)(d:List D)(v:List V)(q:DenL (JAD κ B ρ) H d v):DenL (JAD κ B ρ') H' d v :=
 let ⟨k1,k2⟩:=h.off k.off
 JBb (B:=JAD κ B ρ) (B':=JAD κ B ρ') rfl rfl rfl k1 k2 k.rc d v q
def StepR.sok(k:StepR κ B ρ H ρ' H')(h:Recs κ B ρ H)(ok:Sok (JAD κ B ρ) Y H U):Sok (JAD κ B ρ') Y H' U:=λi d e =>
 let ⟨v,e1,q⟩:=ok i d e
 #[v,e1,k.den h d v q]
def JKr(d:D)(v:V)(q:Den (bare B) H d v):Den (JAD κ B ρ) H d v:=JB5 (B:=bare B) (B':=JAD κ B ρ) rfl rfl rfl (λb o e _=>e) (λb c e=>e) (λn a z=>z.elim) d v q
def JEY{d:D}{n:Nat}(hn:recN d=some n)(h:Den (JAD κ B ρ) H d v):∃p fs,ρ[n]? = some p/\v=.ref p.1.a/\RecOk κ B p.1 p.2 fs H:=by
 cases d with
 |dict kvs =>
  simp![Den]at h;rcases h with ⟨a,c,e,k,q⟩|⟨a,xs,e,⟨o,q⟩,l⟩|⟨a,m,e,k,q⟩
  ·subst k;cases hn
  ·cases kvs with
   |nil=>cases hn
   |cons p r =>
    obtain⟨k1,k2⟩:=p;simp![DenK]at l;obtain⟨x,v',r',_,ek,_⟩:=l;subst ek;cases hn
  ·subst k;have:m=n:=by simpa[recN] using hn
   subst this;obtain⟨p,fs,e1,e2,q⟩:=q;exact#[p,fs,e1,by rw[e,e2],q]
 |_=>cases hn
def JI3{n:Nat}(e:ρ[n]? = some p)(q:RecOk κ B p.1 p.2 fs H):Den (JAD κ B ρ) H (recD n) (.ref p.1.a):=by
 unfold recD;simp![Den];exact .inr (.inr #[_,n,rfl,rfl,p,fs,e,rfl,q])
def JFD(n:Nat):recN (recD n)=some n:=by unfold recN recD;simp
def JG2{n:Nat}(e:ρ[n]? = some p):(pi ρ)[n]? = some p.2:=by unfold pi;rw[List.getElem?_map,e];rfl
end
end VI
end
section
namespace VI
open PySem PySem.Spec PyProof.Rows L2
section
variable{X:Cx}{B:Bs}{C:Cn}{CX:CXT}{XX:Nat->Hp->Prop}{G:List (Str×GK)}
def JFU(hc:JAh o=false)(hf:methodCallForm (args.length+([]:List Keyword).length) (backTo pos (starEach args env)) (backToKw pos (keywordEach [] env))=true)(hl:(ap.endLine==pos.line)=true) :
  eval (.Call (.Attribute o m ap) args [] pos) env=(do
   let ov<-eval o env
   standAt ap.atName
   let (f,first)<-holding [ov] (getMethod ov m (do return (<-importBound o env).getD true))
   callWith pos f first (backTo pos (starEach args env)) (backToKw pos (keywordEach [] env))):=by
 rw[arm_eval_Call,JBn hc];unfold methodCall;rw[hf,show methodCallPos true o env ap pos=pure pos by unfold methodCallPos;simp[hl]]
 rfl
theorem JB0:∀ {args:List Expr},(∀a∈args,∀es env,starEach (a::es) env=(false,eval a env)::starEach es env)->(backTo pos (starEach args env)).all (λx=>!x.1)=true/\(backTo pos (starEach args env)).any (·.1)=false
 | [],_=>#[rfl,rfl]
 |a::r,h=>by
  obtain⟨i1,i2⟩:=JB0 (pos:=pos) (env:=env) (args:=r) λb hb=>h b (q_s _ hb);rw[h a (List.mem_cons_self ..) r env];exact#[by show(true&&(backTo pos (starEach r env)).all (λx=>!x.1))=true;rw[i1];rfl,by show(false || (backTo pos (starEach r env)).any (·.1))=false;rw[i2];rfl]
def JJV(h:∀a∈args,∀es env,starEach (a::es) env=(false,eval a env)::starEach es env)(hl:¬20<args.length):methodCallForm (args.length+([]:List Keyword).length) (backTo pos (starEach args env)) (backToKw pos (keywordEach [] env))=true:=by
 unfold methodCallForm;rw[(JB0 h).1];show(true&&true&&decide (args.length+0+0<30))=true;rw[decide_eq_true ∅]
 rfl
theorem JHh:∀ {es:List Expr}{y:E},PEs X B C XX es y->(g:Gk X B C CX XX G)->(∀a∈es,∀r env,starEach (a::r) env=(false,eval a env)::starEach r env)->PA X es (RA B C XX y)
 | [],.nil,_,g,_=>PA.imp JBe λY H Q h_=>by
  obtain⟨U,ok,k⟩:=h_;simp![evA]at k;exact k [] H (Same.refl H) (by simp![DenL])
 |a::r,.cons x y,h,g,hs=>PA.imp (JBF h.1 (JHh h.2 g λb hb=>hs b (q_s _ hb)) (hs a (List.mem_cons_self ..) r X.env)) λY H Q h_=>by
  obtain⟨U,ok,k⟩:=h_;simp![evA]at k;refine RE.of (W:=λr H=>KL B XX r H Q) ok (λ_ _ z=>z) (λ_ z=>z) k λd v H1 s1 d1 h1=>?_;refine RA.of (W:=λr H=>KL B XX r H Q) (ok.mono s1) (λ_ _ z=>z) (λ_ z=>z) (KL.mono g s1 h1) λds vs H2 s2 d2 h2=>?_;exact h2 (v::vs) H2 s2 (by simp![DenL];exact#[v,vs,rfl,Den.mono s2 _ _ d1,d2])
def JPw{i:Nat}:ev C (.call i (.cons x .nil)) U=(ev C x U).bind λd=>C.fn i [d]:=by
 simp![ev,evA];cases ev C x U<;>rfl
def PEs.one{X:Cx}{B:Bs}{C:Cn}{XX:Nat->Hp->Prop}{a:Expr}{r:List Expr}{y:E}(h:PEs X B C XX (a::r) y):∃x z,y=.cons x z/\PE X a (RE B C XX x)/\PEs X B C XX r z:=by
 cases y<;>first|exact⟨_,_,rfl,h⟩|exact fF h
def PEs.no{X:Cx}{B:Bs}{C:Cn}{XX:Nat->Hp->Prop}{y:E}(h:PEs X B C XX [] y):y=.nil:=by
 cases y<;>first|rfl|exact fF h
def r_rcd(g:Gk X B C CX XX G)(e:Expr)(q:Nat×Option Nat)(args:List Expr)(y:E)(h:mRaw G e=some (q,args))(hp:PEs X B C XX args y)(hs:∀a∈args,∀es env,starEach (a::es) env=(false,eval a env)::starEach es env):PE X e (RE B C XX (mkM q y)):=by
 unfold mRaw at h
 split at h
 ·rename_i o f p
  split at h
  ·cases h
  rename_i hc
  split at h
  ·rename_i i hj;cases h;obtain⟨x,z,rfl,hp1,hp2⟩:=PEs.one hp;cases PEs.no hp2
   ·refine PE.imp (JMI hp1 (JBn (by simpa using hc) _ _ _)) λY H Q h_=>?_
    obtain⟨U,ok,k⟩:=h_;rw[show mkM (i,none) (.cons x .nil)=.call i (.cons x .nil) from rfl,JPw]at k;refine RE.of (W:=λr H=>KE B XX r H Q) ok (λ_ _ z=>z) (λ_ z=>z) k λd v H1 s1 d1 h1=>?_;have z:=g.fld f i hj H1 [d] [v] (by simp![DenL];exact#[v,[],rfl,d1,rfl])
    cases q:C.fn i [d] with
    |bad=>rw[q]at h1;exact fF h1
    |exc c=>rw[q]at z;exact z.elim
    |ok d' =>
     rw[q]at h1 z;obtain⟨a,Cc,dx,fs,u,e1,e2,e3,e4,e5,e6⟩:=z;cases e1;exact#[a,Cc,dx,fs,u,rfl,e2,e3,e4,e5,KE.ok (KE.mono g s1 h1) e6]
  ·cases h
 ·rename_i o m ap as cp
  split at h
  ·cases h
  rename_i hc
  split at h
  ·rename_i i j hj;cases h;obtain⟨x,y,rfl,hp1,hp2⟩:=PEs.one hp
   ·have ho:JAh o=false:=by
     cases q:JAh o with
     |false=>rfl
     |true=>exact absurd (.inl q) hc
    have hl:(ap.endLine==cp.line)=true:=by
     cases q:(ap.endLine==cp.line) with
     |true=>rfl
     |false=>exact absurd (.inr (.inl q)) hc
    have hn:¬20<as.length:=λz=>hc (.inr (.inr z));have hs':∀a∈as,∀es env,starEach (a::es) env=(false,eval a env)::starEach es env:=λa ha=>hs a (q_s _ ha);have ht:=JFU (env:=X.env) (m:=m) ho (JJV (pos:=cp) (env:=X.env) hs' hn) hl;have kk:∀ {Y:St}{H:Hp}{Q:VK}{U:Env},KE B XX (ev C (mkM (i,some j) (.cons x y)) U) H Q->KE B XX ((ev C x U).bind λd=>(C.fn j [d]).bind λd=>(evA C y U).bind λds=>C.fn i (d::ds)) H Q:=λ{Y H Q U} k=>by
     rw[show mkM (i,some j) (.cons x y)=.call i (.cons (.call j (.cons x .nil)) y) from rfl]at k;simp![ev,evA]at k;cases q1:ev C x U with
     |ok d =>
      rw[q1]at k;simp![R.bind]at k ⊢;cases q2:C.fn j [d] with
      |ok d2 =>
       rw[q2]at k;simp only at k ⊢;cases q3:evA C y U<;>(rw[q3]at k;exact k)
      |exc c=>rw[q2]at k;exact k
      |bad=>rw[q2]at k;exact k
     |exc c=>rw[q1]at k;exact k
     |bad=>rw[q1]at k;exact k
    rcases g.mth m i j hj with hb|⟨Cc,f,fd,ps,k,c1,c2,c3,c4,c5,c6,c7⟩
    ·rintro yp s Y H Q I ⟨U,ok,k⟩;have k:=kk (Y:=Y) k;refine PySem.W.methodCall_KW (pl:=do return (<-importBound o X.env).getD true) (thn (hp1 yp s Y H (λ_ _=>False) I #[U,ok,?_]) λu s1 ⟨_,_,_,_,z⟩=>z.elim) ht
     cases q1:ev C x U with
     |ok d=>rw[q1]at k;simp![R.bind,hb]at k;exact fF k
     |exc c=>rw[q1]at k;exact k
     |bad=>rw[q1]at k;exact k
    ·have rcv:∀ {Y:St}{H:Hp}{Q:VK}(T:TA) {U:Env},Sok B Y H U->KE B XX ((ev C x U).bind λd=>(C.fn j [d]).bind λd=>(evA C y U).bind λds=>C.fn i (d::ds)) H Q ->
       (∀d v H1,Same H H1->Den B H1 d v->KE B XX ((evA C y U).bind λds=>C.fn i (d::ds)) H1 Q->T Y H1 λvs H2=>JBQ B ps.length (C.fn i) (v::(vs++[])) H2 Q (EX B XX))->JKB Cc m (JBQ B ps.length (C.fn i)) [] (EX B XX) (RE B C XX x) T Y H Q:=λ{Y H Q} T {U} ok k go=>by
      refine RE.of (W:=λr H=>KE B XX r H Q) ok (λ_ _ z=>z) (λ_ z=>z) k λd v H1 s1 d1 h1=>?_;have z:=c7 H1 d v d1;have h2:=KE.mono g s1 h1;clear h1;cases q:C.fn j [d] with
      |bad=>rw[q]at h2;exact fF h2
      |exc c=>rw[q]at z;exact z.elim
      |ok d' =>
       rw[q]at h2 z;obtain⟨e0,a,dx,fs,e1,e2,e3⟩:=z;rw[e0]at h2;exact#[a,dx,fs,e1,e2,e3,go _ v H1 s1 d1 h2]
     cases as with
     |nil =>
      cases PEs.no hp2
      ·refine PE.imp (JGA hp1 c1 c2 c3 c4 c5 .nil g.pas ht) λY H Q h_=>?_;obtain⟨U,ok,k⟩:=h_;refine rcv tNil ok (kk (Y:=Y) k) λd v H1 s1 d1 h1=>?_;simp![evA,R.bind]at h1;exact JFv g (c6 [d]) (by simp![DenL];exact#[v,[],rfl,d1,rfl]) h1
     |cons a r =>
      refine PE.imp (JJe hp1 c1 c2 c3 c4 c5 .nil g.pas (JHh hp2 g hs') (hs' a (List.mem_cons_self ..) r X.env) (JB0 λb hb=>hs' b (q_s _ hb)).2 ht) λY H Q h_=>?_;obtain⟨U,ok,k⟩:=h_;refine rcv (RA B C XX y) ok (kk (Y:=Y) k) λd v H1 s1 d1 h1=>?_;refine RA.of (W:=λr H=>KE B XX r H Q) (ok.mono s1) (λ_ _ z=>z) (λ_ z=>z) h1 λds vs H2 s2 d2 h2=>?_;rw[List.append_nil];exact JFv g (c6 (d::ds)) (by simp![DenL];exact#[v,vs,rfl,Den.mono s2 _ _ d1,d2]) (KE.mono g s2 h2)
  ·cases h
 ·cases h
end
end VI
end
section
namespace VI
open PySem PySem.Spec PyProof.Rows L2
section
variable{κ:Kl}{B:Bs}{XX:Nat->Hp->Prop}{ρ ρ1:Tb}{H H1:Hp}
def K3(κ:Kl)(B:Bs)(XX:Nat->Hp->Prop)(ρ:Tb)(H:Hp){α:Type}(P:α->Tb->Hp->Prop):R3 α->Prop
 |.ok a π'=>∀ρ' H',StepR κ B ρ H ρ' H'->pi ρ'=π'->P a ρ' H'
 |.exc c π'=>∀ρ' H',StepR κ B ρ H ρ' H'->pi ρ'=π'->XX c H'
 |.bad=>False
def K3.step{α:Type}{P:α->Tb->Hp->Prop}{r:R3 α}(s:StepR κ B ρ H ρ1 H1)(h:K3 κ B XX ρ H P r):K3 κ B XX ρ1 H1 P r:=by
 cases r with
 |ok a π=>exact λρ' H' s' e=>h ρ' H' (s.trans s') e
 |exc c π=>exact λρ' H' s' e=>h ρ' H' (s.trans s') e
 |bad=>exact h
def PV(κ:Kl)(B:Bs)(Q:VK):D->Tb->Hp->Prop:=λd ρ H=>∀v,Den (JAD κ B ρ) H d v->Q v H
def PB(Q:Bool->Hp->Prop):Bool->Tb->Hp->Prop:=λb _ H=>Q b H
abbrev stSp(κ:Kl)(B:Bs)(n:Nat)(fn:List D->Ta->R3 D):Sp:=λvs H Q E=>vs.length=n/\∃ρ ds,Recs κ B ρ H/\DenL (JAD κ B ρ) H ds vs/\K3 κ B (λc H=>E (.ref (B.cl c)) none H) ρ H (PV κ B Q) (fn ds (pi ρ))
variable{X:Cx}{C:Ta->Cn}{f3:F3}{CX:CXT}{G:List (Str×GK)}
def RE3(κ:Kl)(B:Bs)(C:Ta->Cn)(f3:F3)(XX:Nat->Hp->Prop)(x:V3):TE:=λY H Q=>∃ρ U,Recs κ B ρ H/\Sok (JAD κ B ρ) Y H U/\K3 κ B XX ρ H (PV κ B Q) (ev3 C f3 U x (pi ρ))
def RT3(κ:Kl)(B:Bs)(C:Ta->Cn)(f3:F3)(XX:Nat->Hp->Prop)(x:T3):TT:=λY H Q=>∃ρ U,Recs κ B ρ H/\Sok (JAD κ B ρ) Y H U/\K3 κ B XX ρ H (PB Q) (evT3 C f3 U x (pi ρ))
section
variable{α β:Type}{P:β->Tb->Hp->Prop}{Y:St}{U:Env}{e:E}
def r3_E{Q:VK}{F:D->Ta->R3 β}(al:Recs κ B ρ H)(ok:Sok (JAD κ B ρ) Y H U)(k:K3 κ B XX ρ H P (((ev (C (pi ρ)) e U).at (pi ρ)).bind F))(go:∀d v H1,Same H H1->Den (JAD κ B ρ) H1 d v->K3 κ B XX ρ H1 P (F d (pi ρ))->Q v H1):RE (JAD κ B ρ) (C (pi ρ)) XX e Y H Q:=by
 refine#[U,ok,?_];cases q:ev (C (pi ρ)) e U with
 |ok d=>rw[q]at k;exact λv H1 s1 d1=>go d v H1 s1 d1 (K3.step (.same al s1) k)
 |exc c=>rw[q]at k;exact k ρ H (.same al (Same.refl H)) rfl
 |bad=>rw[q]at k;exact k.elim
def r3_A{Q:List V->Hp->Prop}{F:List D->Ta->R3 β}(al:Recs κ B ρ H)(ok:Sok (JAD κ B ρ) Y H U)(k:K3 κ B XX ρ H P (((evA (C (pi ρ)) e U).at (pi ρ)).bind F))(go:∀ds vs H1,Same H H1->DenL (JAD κ B ρ) H1 ds vs->K3 κ B XX ρ H1 P (F ds (pi ρ))->Q vs H1):RA (JAD κ B ρ) (C (pi ρ)) XX e Y H Q:=by
 refine#[U,ok,?_];cases q:evA (C (pi ρ)) e U with
 |ok d=>rw[q]at k;exact λv H1 s1 d1=>go d v H1 s1 d1 (K3.step (.same al s1) k)
 |exc c=>rw[q]at k;exact k ρ H (.same al (Same.refl H)) rfl
 |bad=>rw[q]at k;exact k.elim
def r3_V{Q:VK}{x:V3}{F:D->Ta->R3 β}(al:Recs κ B ρ H)(ok:Sok (JAD κ B ρ) Y H U)(k:K3 κ B XX ρ H P ((ev3 C f3 U x (pi ρ)).bind F))(go:∀d v ρ' H',StepR κ B ρ H ρ' H'->Den (JAD κ B ρ') H' d v->K3 κ B XX ρ' H' P (F d (pi ρ'))->Q v H'):RE3 κ B C f3 XX x Y H Q:=by
 refine#[ρ,U,al,ok,?_];cases q:ev3 C f3 U x (pi ρ) with
 |ok d π=>rw[q]at k;exact λρ' H' s e v dn=>go d v ρ' H' s dn (by rw[e];exact K3.step s k)
 |exc c π=>rw[q]at k;exact k
 |bad=>rw[q]at k;exact k.elim
def r3_B{Q:Bool->Hp->Prop}{x:T3}{F:Bool->Ta->R3 β}(al:Recs κ B ρ H)(ok:Sok (JAD κ B ρ) Y H U)(k:K3 κ B XX ρ H P ((evT3 C f3 U x (pi ρ)).bind F))(go:∀b ρ' H',StepR κ B ρ H ρ' H'->K3 κ B XX ρ' H' P (F b (pi ρ'))->Q b H'):RT3 κ B C f3 XX x Y H Q:=by
 refine#[ρ,U,al,ok,?_];cases q:evT3 C f3 U x (pi ρ) with
 |ok d π=>rw[q]at k;exact λρ' H' s e=>go d ρ' H' s (by rw[e];exact K3.step s k)
 |exc c π=>rw[q]at k;exact k
 |bad=>rw[q]at k;exact k.elim
end
def JMG{e:Expr}(he:∀ρ,PE X e (RE (JAD κ B ρ) (C (pi ρ)) XX x)):PE X e (RE3 κ B C f3 XX (.pur x)):=λyp s Y H Q I ⟨ρ,U,al,ok,k⟩=>he ρ yp s Y H Q I (by
 refine#[U,ok,?_];simp![ev3]at k;cases q:ev (C (pi ρ)) x U with
 |ok d=>rw[q]at k;exact λv H1 s1 d1=>k ρ H1 (.same al s1) rfl v d1
 |exc c=>rw[q]at k;exact k ρ H (.same al (Same.refl H)) rfl
 |bad=>rw[q]at k;exact k.elim)
def JQi{e:Expr}(he:∀ρ,PT X e (RT (JAD κ B ρ) (C (pi ρ)) XX x)):PT X e (RT3 κ B C f3 XX (.pur x)):=λyp s Y H Q I ⟨ρ,U,al,ok,k⟩=>he ρ yp s Y H Q I (by
 refine#[U,ok,?_];simp![evT3]at k;cases q:evT (C (pi ρ)) x U with
 |ok d=>rw[q]at k;exact λH1 s1=>k ρ H1 (.same al s1) rfl
 |exc c=>rw[q]at k;exact k ρ H (.same al (Same.refl H)) rfl
 |bad=>rw[q]at k;exact k.elim)
def JLY{n:Nat}{Q:VK}(hn:∀π,fn ds π≠.bad->ds.length=n)(al:Recs κ B ρ H)(dn:DenL (JAD κ B ρ) H ds vs)(k:K3 κ B XX ρ H (PV κ B Q) (fn ds (pi ρ))):stSp κ B n fn vs H Q (EX B XX):=by
 have hb:fn ds (pi ρ)≠.bad:=λz=>by rw[z]at k;exact k
 refine#[by rw[<-DenL.len ds vs dn];exact hn _ hb,ρ,ds,al,dn,?_]
 cases q:fn ds (pi ρ) with
 |ok d π=>rw[q]at k;exact k
 |exc c π=>rw[q]at k;exact λρ' H' s' e=>#[c,rfl,k ρ' H' s' e]
 |bad=>exact(hb q).elim
inductive GK3 where
 |fn (i:Nat)|met (i:Nat)|mak (i:Nat)
structure Gk3(X:Cx)(κ:Kl)(B:Bs)(C:Ta->Cn)(f3:F3)(CX:CXT)(XX:Nat->Hp->Prop)(G:List (Str×GK))(L:List (Str×GK3)):Prop where
 g:∀ρ,Gk X (JAD κ B ρ) (C (pi ρ)) CX XX G
 cls:Cls X.K κ.C
 fn:∀x i,L.lookup x=some (.fn i)->∃f fd ps k,X.mg x=some (.ref f)/\PySem.W.keepIn X.K (.ref f)=true/\FnOk X.prog X.w X.K X.mg X.base CX k f fd ps (stSp κ B ps.length (f3 i))/\Room k X.A/\Binds X.K fd ps []/\∀ds π,f3 i ds π≠.bad->ds.length=ps.length
 met:∀m i,L.lookup m=some (.met i)->∃f fd ps k,Meth X.K κ.C m f/\FnOk X.prog X.w X.K X.mg X.base CX k f fd ps (stSp κ B ps.length (f3 i))/\Room k X.A/\Binds X.K fd ps []/\∀ds π,f3 i ds π≠.bad->ds.length=ps.length
 mak:∀x i,L.lookup x=some (.mak i)->X.mg x=some (.ref κ.C)/\∃f fd ps k,Mk X.K κ.C f/\FnOk X.prog X.w X.K X.mg X.base CX k f fd ps (stSp κ B ps.length (f3 i))/\Room (k+1) X.A/\Binds X.K fd ps []/\∀ds π,f3 i ds π≠.bad->ds.length=ps.length
variable{L:List (Str×GK3)}
def JRO(g:Gk3 X κ B C f3 CX XX G L){i:Nat}{e:Expr}(hg:Gl X nm)(hl:L.lookup nm=some (.fn i))(hb:JAR nm=false)(ha:∀ρ,PA X (e::r) (RA (JAD κ B ρ) (C (pi ρ)) XX x))(hs:starEach (e::r) X.env=(false,eval e X.env)::starEach r X.env)(hpl:(backTo pos (starEach r X.env)).any (·.1)=false) :
  PE X (.Call (.Name nm p) (e::r) [] pos) (RE3 κ B C f3 XX (.cal i x)):=by
 obtain⟨f,fd,ps,k,w1,w2,w3,w4,w5,w6⟩:=g.fn nm i hl;rintro yp s Y H Q I ⟨ρ,U,al,ok,kk⟩;refine JJX w3 w4 hg w1 w2 w5 .nil (g.g ρ).pas (ha ρ) (JAA hb).1 hs hpl yp s Y H Q I ?_;simp![ev3]at kk;refine r3_A al ok kk λds vs H1 s1 d1 h1=>?_;rw[List.append_nil];exact JLY (λπ=>w6 ds π) (al.mono s1) d1 h1
def JLa{d:D}{F:D->Ta->R3 D}(k:K3 κ B XX ρ H P (((chkD (pi ρ) m [d]).at (pi ρ)).bind F))(dn:Den (JAD κ B ρ) H d v):(∃a dx fs,v=.ref a/\H a=some (.ins κ.C dx fs)/\fs.lookup m=none)/\K3 κ B XX ρ H P (F d (pi ρ)):=by
 simp![chkD]at k;cases q:recF (pi ρ) d with
 |none=>rw[q]at k;exact k.elim
 |some z =>
  rw[q]at k;simp only at k;unfold recF at q;obtain⟨n,hn,q⟩:=q_a.mp q;obtain⟨c,hc,rfl⟩:=q_d.mp q;obtain⟨p,fs,e1,e2,r⟩:=JEY hn dn;rw[JG2 e1]at hc;cases hc
  split at k
  ·rename_i hm;exact#[#[p.1.a,p.1.dx,fs,e2,r.ins,r.non m (by simpa using hm)],k]
  ·exact k.elim
def JPr(g:Gk3 X κ B C f3 CX XX G L){i:Nat}(hl:L.lookup m=some (.met i))(ho:JAh o=false)(hli:(ap.endLine==cp.line)=true)(hn:¬20<as.length)(h0:as=[]->y=.nil)(hx:∀ρ,PE X o (RE (JAD κ B ρ) (C (pi ρ)) XX x))(ha:∀ρ,PA X as (RA (JAD κ B ρ) (C (pi ρ)) XX y))
  (hs:∀a∈as,∀es env,starEach (a::es) env=(false,eval a env)::starEach es env):PE X (.Call (.Attribute o m ap) as [] cp) (RE3 κ B C f3 XX (.met i m x y)):=by
 obtain⟨f,fd,ps,k,w2,w3,w4,w5,w6⟩:=g.met m i hl;have ht:=JFU (env:=X.env) (m:=m) ho (JJV (pos:=cp) (env:=X.env) hs hn) hli;rintro yp s Y H Q I ⟨ρ,U,al,ok,kk⟩;simp![ev3]at kk;have go:∀T:TA,(∀ {H1:Hp}{d:D}{v:V},Same H H1->Den (JAD κ B ρ) H1 d v->K3 κ B XX ρ H1 (PV κ B Q) (((evA (C (pi ρ)) y U).at (pi ρ)).bind λds π=>f3 i (d::ds) π)->T Y H1 λvs H2=>stSp κ B ps.length (f3 i) (v::(vs++[])) H2 Q (EX B XX))->JKB κ.C m (stSp κ B ps.length (f3 i)) [] (EX B XX) (RE (JAD κ B ρ) (C (pi ρ)) XX x) T Y H Q:=λT hT=>by
  refine r3_E al ok kk λd v H1 s1 d1 h1=>?_;obtain⟨⟨a,dx,fs,e1,e2,e3⟩,h2⟩:=JLa h1 d1;exact#[a,dx,fs,e1,e2,e3,hT s1 d1 h2]
 cases as with
 |nil =>
  refine JGA (hx ρ) g.cls w2 w3 w4 w5 .nil (g.g ρ).pas ht yp s Y H Q I (go tNil λ{H1 d v} s1 d1 h1=>?_);rw[h0 rfl]at h1;simp![evA,R.at,R3.bind]at h1;exact JLY (λπ=>w6 [d] π) (al.mono s1) (by simp![DenL];exact#[v,[],rfl,d1,rfl]) h1
 |cons a r =>
  refine JJe (hx ρ) g.cls w2 w3 w4 w5 .nil (g.g ρ).pas (ha ρ) (hs a (List.mem_cons_self ..) r X.env) (JB0 λb hb=>hs b (q_s _ hb)).2 ht yp s Y H Q I (go _ λ{H1 d v} s1 d1 h1=>?_);refine r3_A (al.mono s1) (ok.mono s1) h1 λds vs H2 s2 d2 h2=>?_;rw[List.append_nil];exact JLY (λπ=>w6 (d::ds) π) ((al.mono s1).mono s2) (by simp![DenL];exact#[v,vs,rfl,Den.mono s2 _ _ d1,d2]) h2
def JKJ(al:Recs κ B ρ H){x dx:Addr}(hx:H x=none)(hd:H dx=none)(ne:dx≠x):StepR κ B ρ H (ρ++[(#[x,dx,[]],[])]) (upd (upd H dx (.own x)) x (.ins κ.C dx [])):=by
 have sm:Same H (upd (upd H dx (.own x)) x (.ins κ.C dx [])):=λb o e=>by rw[JAJ (JAU e hx),JAJ (JAU e hd)];exact e
 have old:∀ {b:Addr},b∈adrs ρ->b≠x/\b≠dx:=λ{b} hb=>by
  obtain⟨o,e,_⟩:=al.uns hb;exact#[JAU e hx,JAU e hd]
 have memo:∀ {n:Nat}{p:Rec×Fs}{b:Addr},ρ[n]? = some p->b∈p.1.adr->b∈adrs ρ:=λe hb=>List.mem_flatMap.mpr #[_,List.mem_of_getElem? e,hb];have at1:∀ {n:Nat}{p:Rec×Fs},(ρ++[((#[x,dx,[]]:Rec),([]:Fs))])[n]? = some p->ρ[n]? = some p\/n=ρ.length/\p=(#[x,dx,[]],[]):=λ{n p} e=>by
  rw[List.getElem?_append]at e
  split at e
  ·exact .inl e
  ·rename_i h;cases hk:n - ρ.length with
   |zero=>rw[hk]at e;simp at e;exact .inr #[by omega,e.symm]
   |succ k=>rw[hk]at e;simp at e
 have new2:∀ {b:Addr},b∈(#[x,dx,[]]:Rec).adr->b=x\/b=dx:=λ{b} hb=>by simpa[Rec.adr] using hb
 refine#[λb o e _=>sm b o e,#[λp hp=>?_,λi j p q a hi hj ha hb=>?_],λn p e=>#[p,?_,rfl],λb hb=>?_,λb hb hn=>?_]
 ·rcases List.mem_append.mp hp with hp|hp
  ·obtain⟨fs,r⟩:=al.at_ p hp;exact#[fs,r.mono sm]
  ·cases List.mem_singleton.mp hp;refine#[[],JAH,by rw[JAJ ne];exact JAH,rfl,λf d e=>by simp at e,λb hb=>by simp at hb,List.nodup_nil]
 ·rcases at1 hi with hi2|⟨hi2,e1⟩<;>rcases at1 hj with hj2|⟨hj2,e2⟩
  ·exact al.nd i j p q a hi2 hj2 ha hb
  ·rw[e2]at hb;have:=old (memo hi2 ha);exact absurd (new2 hb) λz=>z.elim this.1 this.2
  ·rw[e1]at ha;have:=old (memo hj2 hb);exact absurd (new2 ha) λz=>z.elim this.1 this.2
  ·rw[hi2,hj2]
 ·rw[q_C (q_p.mp e).1];exact e
 ·unfold adrs at hb ⊢;rw[List.flatMap_append];exact List.mem_append_left _ hb
 ·unfold adrs at hb hn;rw[List.flatMap_append]at hb;rcases List.mem_append.mp hb with hb|hb
  ·exact absurd hb hn
  ·simp![List.flatMap_cons,List.flatMap_nil,List.append_nil]at hb;rcases new2 hb with rfl|rfl
   ·exact hx
   ·exact hd
def JLw(g:Gk3 X κ B C f3 CX XX G L){nm:Str}{i:Nat}{as:List Expr}{x:E}{p pos:Pos}(hg:Gl X nm)(hl:L.lookup nm=some (.mak i))(hb:JAR nm=false)(h0:as=[]->x=.nil)(ha:∀ρ,PA X as (RA (JAD κ B ρ) (C (pi ρ)) XX x))(hs:∀a∈as,∀es env,starEach (a::es) env=(false,eval a env)::starEach es env) :
  PE X (.Call (.Name nm p) as [] pos) (RE3 κ B C f3 XX (.mak i x)):=by
 obtain⟨w1,f,fd,ps,k,w2,w3,w4,w5,w6⟩:=g.mak nm i hl;rintro yp s Y H Q I ⟨ρ,U,al,ok,kk⟩;simp![ev3,mk3]at kk;have go:∀ {H1:Hp}{ds:List D}{vs:List V},Same H H1->DenL (JAD κ B ρ) H1 ds vs->K3 κ B XX ρ H1 (PV κ B Q) ((f3 i (recD (pi ρ).length::ds) (pi ρ++[[]])).bind λd π'=>if isNone d=true then .ok (recD (pi ρ).length) π' else .bad) ->
   ∀z dx,H1 z=none->H1 dx=none->dx≠z->stSp κ B ps.length (f3 i) (.ref z::(vs++[])) (upd (upd H1 dx (.own z)) z (.ins κ.C dx [])) (λv H2=>v=.non/\Q (.ref z) H2) (EX B XX):=λ{H1 ds vs} s1 d1 h1 z dx hz hd ne=>by
  have st:=JKJ (al.mono s1) hz hd ne;have hpi:pi (ρ++[((#[z,dx,[]]:Rec),([]:Fs))])=pi ρ++[[]]:=by unfold pi;rw[List.map_append];rfl
  have hlen:(pi ρ).length=ρ.length:=by unfold pi;rw[q_g]
  have hat:(ρ++[((#[z,dx,[]]:Rec),([]:Fs))])[ρ.length]? = some (#[z,dx,[]],[]):=by simp
  obtain⟨fs,r⟩:=st.all.at_ _ (List.mem_of_getElem? hat);rw[List.append_nil];refine JLY (λπ=>w6 (recD (pi ρ).length::ds) π) st.all (by simp![DenL];exact#[_,vs,rfl,by rw[hlen];exact JI3 hat r,st.dens (al.mono s1) _ _ d1]) ?_
  rw[hpi];cases q:f3 i (recD (pi ρ).length::ds) (pi ρ++[[]]) with
  |bad=>rw[q]at h1;exact h1
  |exc c π=>rw[q]at h1;exact K3.step st h1
  |ok d π =>
   rw[q]at h1;intro ρ' H' s' e v dn;simp![R3.bind]at h1
   split at h1
   ·rename_i hd;cases d<;>first|cases hd|skip
    simp![Den]at dn;refine#[dn,?_];obtain⟨q',e1,e2⟩:=s'.pre _ _ hat;obtain⟨fs',r'⟩:=s'.all.at_ _ (List.mem_of_getElem? e1);refine h1 ρ' H' (st.trans s') e (.ref z) ?_;rw[hlen];have:=JI3 e1 r';rw[e2]at this;exact this
   ·exact h1.elim
 cases as with
 |nil =>
  refine JK7 w2 w3 w4 hg w1 w5 .nil (g.g ρ).pas (JAA hb).1 yp s Y H Q I ?_;rw[h0 rfl]at kk;simp![evA,R.at,R3.bind]at kk;exact go (vs:=[]) (Same.refl H) (by simp![DenL]) kk
 |cons a r =>
  refine JPB w2 w3 w4 hg w1 w5 .nil (g.g ρ).pas (ha ρ) (JAA hb).1 (hs a (List.mem_cons_self ..) r X.env) (JB0 λb hb=>hs b (q_s _ hb)).2 yp s Y H Q I ?_;exact r3_A al ok kk λds vs H1 s1 d1 h1=>go s1 d1 h1
def JRK(g:Gk3 X κ B C f3 CX XX G L){a b:Expr}(ha:PE X a (RE3 κ B C f3 XX x))(hb:∀ρ,PE X b (RE (JAD κ B ρ) (C (pi ρ)) XX y))(hm:behindInMarks op b=false):PT X (.Compare a [op] [b] pos) (RT3 κ B C f3 XX (.cmp op x y)):=by
 have ho:OpR X (compareOp op) (λu w H Q=>∃ρ dx dy,Den (JAD κ B ρ) H dx u/\Den (JAD κ B ρ) H dy w/\KE (JAD κ B ρ) XX (cmpD op dx dy) H Q):=λyp s Y H x y v u Q I rx ry ⟨ρ,h⟩=>JKd (g.g ρ) op yp s Y H x y v u Q I rx ry h;have hb':PE X b (λY H Q=>∃ρ,RE (JAD κ B ρ) (C (pi ρ)) XX y Y H Q):=λyp s Y H Q I ⟨ρ,h⟩=>hb ρ yp s Y H Q I h;rintro yp s Y H Q I ⟨ρ,U,al,ok,k⟩;simp![evT3]at k;refine JIs ho ha hb' hm yp s Y H Q I (r3_V al ok k λd v ρ' H' st dn h1=>#[ρ',?_]);have h1:K3 κ B XX ρ' H' (PB Q) (((ev (C (pi ρ')) y U).at (pi ρ')).bind λdy π=>((cmpD op d dy).bind truth).at π):=by
  cases q:ev (C (pi ρ')) y U<;>(rw[q]at h1;exact h1)
 refine r3_E st.all (st.sok al ok) h1 λdy u H2 s2 d2 h2=>#[ρ',d,dy,Den.mono s2 _ _ dn,d2,?_];cases q:cmpD op d dy with
 |ok w =>
  obtain⟨t,rfl⟩:=JGB q;rw[q]at h2;intro z H3 s3 d3;simp![Den]at d3;exact#[t,d3,h2 ρ' H3 (.same (st.all.mono s2) s3) rfl]
 |exc c=>rw[q]at h2;exact h2 ρ' H2 (.same (st.all.mono s2) (Same.refl _)) rfl
 |bad=>rw[q]at h2;exact h2.elim
def t3_nv(ha:PE X a (RE3 κ B C f3 XX x))(hw:∀whole,isTrue a X.env whole=(do let v<-whole;standAt a.pos;holding [v] (truthy v))):PT X (.UnaryOp .Not a pos) (RT3 κ B C f3 XX (.nv x)):=by
 rintro yp s Y H Q I ⟨ρ,U,al,ok,k⟩;simp![evT3]at k;refine JNK (JQW ha hw) yp s Y H Q I (r3_V al ok k λd v ρ' H' st dn h1=>?_);cases d<;>first|exact h1.elim|skip
 simp![Den]at dn;exact#[_,dn,h1 ρ' H' (.same st.all (Same.refl _)) rfl]
def t3_or{a b:Expr}{rest:List Expr}(ha:PT X a (RT3 κ B C f3 XX x))(hb:PW X (.BoolOp .Or (b::rest) pos) (RT3 κ B C f3 XX y)):PW X (.BoolOp .Or (a::b::rest) pos) (RT3 κ B C f3 XX (.or x y)):=by
 rintro wh yp s Y H Q I ⟨ρ,U,al,ok,k⟩;simp![evT3]at k;refine JRh ha hb wh yp s Y H Q I (r3_B al ok k λb ρ' H' st h1=>?_);cases b with
 |true=>exact h1 ρ' H' (.same st.all (Same.refl _)) rfl
 |false=>exact#[ρ',U,st.all,st.sok al ok,by simpa using h1]
end
end VI
end
section
namespace VI
open PySem PySem.Spec PyProof.Rows L2
section
variable{κ:Kl}{B:Bs}{XX:Nat->Hp->Prop}{ρ ρ' ρe:Tb}{H H1 Hb He:Hp}{X:Cx}{C:Ta->Cn}{f3:F3}{CX:CXT}{G:List (Str×GK)}{L:List (Str×GK3)}{Y:St}{U:Env}{O:Ow}{pos:Pos}
def Dm.dm{H H1 H2:Hp}(a:Dm H H1)(b:Dm H1 H2):Dm H H2:=λx o e=>let ⟨u,q⟩:=a x o e;b x u q
def JH0(x:V3):∀(U U':Env),Agr x.toE U U'->∀π,ev3 C f3 U x π=ev3 C f3 U' x π:=by
 induction x with
 |pur e=>intro U U' h π;simp![ev3,(agree (C π) e U U' h).1]
 |cal f es=>intro U U' h π;simp![ev3,(agree (C π) es U U' λi hi=>h i (by simpa only[V3.toE,E.uses] using hi)).2.2.1]
 |met f m x es =>
  intro U U' h π;have h1:∀π,ev (C π) x U=ev (C π) x U':=λπ=>(agree (C π) x U U' λi hi=>h i (by simp![V3.toE,E.uses];exact ub_l hi)).1
  have h2:∀π,evA (C π) es U=evA (C π) es U':=λπ=>(agree (C π) es U U' λi hi=>h i (by simp![V3.toE,E.uses];exact ub_r hi)).2.2.1
  simp![ev3,h1,h2]
 |mak f es=>intro U U' h π;simp![ev3,mk3,(agree (C π) es U U' λi hi=>h i (by simpa only[V3.toE,E.uses] using hi)).2.2.1]
 |cmv op v b ih =>
  intro U U' h π;have h1:=ih U U' λi hi=>h i (by simp![V3.toE,E.uses];exact ub_l hi)
  have h2:∀π,ev (C π) b U=ev (C π) b U':=λπ=>(agree (C π) b U U' λi hi=>h i (by simp![V3.toE,E.uses];exact ub_r hi)).1
  simp![ev3,h1,h2]
 |lmk f es z =>
  intro U U' h π;have h1:∀π,evI (C π) z U=evI (C π) z U':=λπ=>(agree (C π) z U U' λi hi=>h i (by simp![V3.toE,E.uses];exact ub_ll hi)).2.2.2
  have h2:∀d π,evA (C π) es (.val d::U)=evA (C π) es (.val d::U'):=λd π=>(agree (C π) es _ _ λi hi=>by
   cases i with
   |zero=>rfl
   |succ i=>exact h i (by simp![V3.toE,E.uses];exact JQ4 hi)).2.2.1
  have h3:∀ds ys π,mks C f3 f es U ds ys π=mks C f3 f es U' ds ys π:=λds=>by
   induction ds with
   |nil=>intros;rfl
   |cons d ds ih=>intro ys π;simp![mks,mk3,h2,ih]
  simp![ev3,h1,h3]
def JO1(x:T3):∀(U U':Env),Agr x.toE U U'->∀π,evT3 C f3 U x π=evT3 C f3 U' x π:=by
 induction x with
 |pur e=>intro U U' h π;simp![evT3,(agree (C π) e U U' h).2.1]
 |cmp op v b =>
  intro U U' h π;have h1:=JH0 (C:=C) (f3:=f3) v U U' λi hi=>h i (by simp![T3.toE,E.uses];exact ub_l hi)
  have h2:∀π,ev (C π) b U=ev (C π) b U':=λπ=>(agree (C π) b U U' λi hi=>h i (by simp![T3.toE,E.uses];exact ub_r hi)).1
  simp![evT3,h1,h2]
 |or a b iha ihb =>
  intro U U' h π;have h2:=iha U U' λi hi=>h i (by simp![T3.toE,E.uses];exact ub_l hi)
  have h3:=ihb U U' λi hi=>h i (by simp![T3.toE,E.uses];exact ub_r hi)
  simp![evT3,h2,h3]
 |nv v =>
  intro U U' h π;have h1:=JH0 (C:=C) (f3:=f3) v U U' h;simp![evT3,h1]
def JF1(so:SO (JAD κ B ρ) Hb Y H U O)(hP:∀b,ownP O b↔P b)(al:Recs κ B ρ (hidP H P))(st:StepR κ B ρ (hidP H P) ρ' H1)(hz:∀a,P a->H1 a=none):SO (JAD κ B ρ') H1 Y (mixP H H1 P) U O/\hid (mixP H H1 P) O=H1:=by
 have eh:hid H O=hidP H P:=funext λb=>by
  by_cases h:P b
  ·rw[JAv h,hid,JAv ((hP b).mpr h)]
  ·rw[JAK h,hid,JAK λz=>h ((hP b).mp z)]
 have e1:hid (mixP H H1 P) O=H1:=funext λb=>by
  by_cases h:P b
  ·rw[hid,JAv ((hP b).mpr h),hz b h]
  ·rw[hid,JAK λz=>h ((hP b).mp z),JAQ h]
 refine#[#[so.len,λb o e=>?_,so.inj,λi=>?_],e1]
 ·rw[JAQ λh=>by rw[hz b h]at e;cases e];exact e
 ·have q:=so.slot i;cases e2:U[i]? with
  |none=>rw[e2]at q;exact q
  |some t =>
   rw[e2]at q;cases t with
   |no=>exact q
   |val d =>
    simp![JAP]at q ⊢;obtain⟨h0,v,e3,dn⟩:=q;rw[e1];exact#[h0,v,e3,st.den al d v (eh▸dn)]
   |own d =>
    simp![JAP]at q ⊢;obtain⟨a,ds,xs,q1,q2,q3,q4,q5,q6⟩:=q;have pa:P a:=(hP a).mp #[i,q1];rw[e1];refine#[a,ds,xs,q1,q2,q3,by rw[JBc pa];exact q4,hz a pa,?_]
    rw[eh]at q6;cases ds<;>cases xs<;>first|exact fF q6|exact st.dens al _ _ q6|exact st.denk al _ _ q6
def JOc:mixP H (hidP H P) P=H:=funext λb=>by
 by_cases h:P b
 ·rw[JBc h]
 ·rw[JAQ h,JAK h]
def JEc(so:SO B Hb Y H U O)(x:E):SO B Hb Y H (JAL x 0 U) (frzO x O):=by
 have:=JFP (x:=x) so (Same.refl (hidP H (unP x O))) λa h=>JAv h
 rwa [JOc]at this
def JIr{b:Addr}:ownP (frzO x O) b↔unP x (frzO x O) b:=by
 constructor
 ·rintro⟨i,h⟩;refine#[i,h,?_];unfold frzO at h
  split at h
  ·cases h
  ·rename_i hu;simpa using hu
 ·rintro⟨i,h,_⟩;exact#[i,h]
def K3s(κ:Kl)(B:Bs)(XX:Nat->Hp->Prop)(ρe:Tb)(He:Hp){α:Type}(Y:St)(U1:Env)(P:α->Tb->Hp->Ow->Hp->Prop):R3 α->Prop
 |.ok d π=>∀ρ' H' O' Hb',pi ρ'=π->StepR κ B ρe He ρ' Hb'->SO (JAD κ B ρ') Hb' Y H' U1 O'->hid H' O'=Hb'->P d ρ' H' O' Hb'
 |.exc c π=>∀ρ' Hb',pi ρ'=π->StepR κ B ρe He ρ' Hb'->XX c Hb'
 |.bad=>False
def RV3(X:Cx)(κ:Kl)(B:Bs)(C:Ta->Cn)(f3:F3)(XX:Nat->Hp->Prop)(w:E)(x:V3):TE:=λY H Q=>∃ρe He ρ U O Hb,Dm X.H₀ He/\StepR κ B ρe He ρ Hb/\SO (JAD κ B ρ) Hb Y H U O/\K3s κ B XX ρe He Y (JAL w 0 U) (λd ρ' H' O' Hb'=>∀v,Den (JAD κ B ρ') Hb' d v->Q v H') (ev3 C f3 (JAL w 0 U) x (pi ρ))
def RVT3(X:Cx)(κ:Kl)(B:Bs)(C:Ta->Cn)(f3:F3)(XX:Nat->Hp->Prop)(w:E)(x:T3):TT:=λY H Q=>∃ρe He ρ U O Hb,Dm X.H₀ He/\StepR κ B ρe He ρ Hb/\SO (JAD κ B ρ) Hb Y H U O/\K3s κ B XX ρe He Y (JAL w 0 U) (λb ρ' H' O' Hb'=>Q b H') (evT3 C f3 (JAL w 0 U) x (pi ρ))
def JHA{e:Expr}{w:E}(hw:∀i,x.toE.uses i=true->w.uses i=true)(he:PE X e (RE3 κ B C f3 XX x)):PE X e (RV3 X κ B C f3 XX w x):=by
 rintro yp s Y H Q I ⟨ρe,He,ρ,U,O,Hb,hd,st,so,k⟩;have so1:=JEc so w;generalize hU:JAL w 0 U=U1 at *;have J0:=JBI (ps:=JBk w (frzO w O) U1.length s.heap) I (JAg (x:=w) (hd.dm st.dm) so1) JAw;have hev:=JH0 (C:=C) (f3:=f3) x U1 (JAV w 0 U1) (λi hi=>JBH i (hw i hi)) (pi ρ);have sm:Same Hb (hidP H (unP w (frzO w O))):=(JAY so1).trans same_un;have st1:=st.then sm;refine thn (he _ s Y _ (λv H1=>∃ρ' d π,ev3 C f3 U1 x (pi ρ)=.ok d π/\StepR κ B ρ (hidP H (unP w (frzO w O))) ρ' H1/\pi ρ'=π/\Den (JAD κ B ρ') H1 d v) J0 #[ρ,JAV w 0 U1,st1.all,JAc so1,?_]) λu s1 ⟨v,H1,J,r,ρ',d,π,q,st2,hpi,dn⟩=>?_
 ·rw[<-hev];cases q:ev3 C f3 U1 x (pi ρ) with
  |ok d π=>exact λρ' H' s' e v dn=>#[ρ',d,π,rfl,s',e,dn]
  |exc c π=>rw[q]at k;exact λρ' H' s' e=>k ρ' H' e (st1.trans s')
  |bad=>rw[q]at k;exact k
 ·obtain⟨I',hz⟩:=JAu I J (JAg (hd.dm st.dm) so1) (JAf I so1);obtain⟨so2,eh⟩:=JF1 so1 (λb=>JIr) st1.all st2 hz;rw[q]at k;exact#[v,_,I',r,k ρ' _ _ H1 hpi (st1.trans st2) so2 eh v dn]
def JPK{e:Expr}{w:E}(hw:∀i,x.toE.uses i=true->w.uses i=true)(he:PT X e (RT3 κ B C f3 XX x)):PT X e (RVT3 X κ B C f3 XX w x):=by
 rintro yp s Y H Q I ⟨ρe,He,ρ,U,O,Hb,hd,st,so,k⟩;have so1:=JEc so w;generalize hU:JAL w 0 U=U1 at *;have J0:=JBI (ps:=JBk w (frzO w O) U1.length s.heap) I (JAg (x:=w) (hd.dm st.dm) so1) JAw;have hev:=JO1 (C:=C) (f3:=f3) x U1 (JAV w 0 U1) (λi hi=>JBH i (hw i hi)) (pi ρ);have sm:Same Hb (hidP H (unP w (frzO w O))):=(JAY so1).trans same_un;have st1:=st.then sm;refine thn (he _ s Y _ (λb H1=>∃ρ' π,evT3 C f3 U1 x (pi ρ)=.ok b π/\StepR κ B ρ (hidP H (unP w (frzO w O))) ρ' H1/\pi ρ'=π) J0 #[ρ,JAV w 0 U1,st1.all,JAc so1,?_]) λb s1 ⟨H1,J,ρ',π,q,st2,hpi⟩=>?_
 ·rw[<-hev];cases q:evT3 C f3 U1 x (pi ρ) with
  |ok d π=>exact λρ' H' s' e=>#[ρ',π,rfl,s',e]
  |exc c π=>rw[q]at k;exact λρ' H' s' e=>k ρ' H' e (st1.trans s')
  |bad=>rw[q]at k;exact k
 ·obtain⟨I',hz⟩:=JAu I J (JAg (hd.dm st.dm) so1) (JAf I so1);obtain⟨so2,eh⟩:=JF1 so1 (λb=>JIr) st1.all st2 hz;rw[q]at k;exact#[_,I',k ρ' _ _ H1 hpi (st1.trans st2) so2 eh]
def JIo(κ:Kl)(B:Bs)(XX:Nat->Hp->Prop)(ρe:Tb)(He:Hp)(D:Ends):Fl3->Prop
 |.nx U π=>∀ρ Y H O Hb,pi ρ=π->StepR κ B ρe He ρ Hb->SO (JAD κ B ρ) Hb Y H U O->D.nx Y H
 |.rt d π=>∀ρ v H,pi ρ=π->StepR κ B ρe He ρ H->Den (JAD κ B ρ) H d v->D.rt v H
 |.bk U π=>∀ρ Y H O Hb,pi ρ=π->StepR κ B ρe He ρ Hb->SO (JAD κ B ρ) Hb Y H U O->D.bk Y H
 |.ct U π=>∀ρ Y H O Hb,pi ρ=π->StepR κ B ρe He ρ Hb->SO (JAD κ B ρ) Hb Y H U O->D.ct Y H
 |.ex c π=>∀ρ H,pi ρ=π->StepR κ B ρe He ρ H->XX c H
 |.bad=>False
def RF3(X:Cx)(κ:Kl)(B:Bs)(XX:Nat->Hp->Prop)(f:Env->Ta->Fl3):TS:=λD Y H=>∃ρe He ρ U O Hb,Dm X.H₀ He/\StepR κ B ρe He ρ Hb/\SO (JAD κ B ρ) Hb Y H U O/\JIo κ B XX ρe He D (f U (pi ρ))
@[reducible]def RS3(X:Cx)(κ:Kl)(B:Bs)(C:Ta->Cn)(f3:F3)(XX:Nat->Hp->Prop)(t:S3):TS:=RF3 X κ B XX (JAI C f3 t)
def r_st{st:Stmt}{t:S}(h:∀ρ,PS X st (RSt X (JAD κ B ρ) (C (pi ρ)) XX t)):PS X st (RS3 X κ B C f3 XX (.st t)):=by
 rintro yp s Y H D I ⟨ρe,He,ρ,U,O,Hb,hd,st,so,k⟩;refine h ρ yp s Y H D I #[U,O,Hb,hd.dm st.dm,so,?_];simp![JAI]at k;cases q:exec (C (pi ρ)) t U with
 |nx U'=>rw[q]at k;exact λY' H' O' so'=>k ρ Y' H' O' Hb rfl st so'
 |bk U'=>rw[q]at k;exact λY' H' O' so'=>k ρ Y' H' O' Hb rfl st so'
 |ct U'=>rw[q]at k;exact λY' H' O' so'=>k ρ Y' H' O' Hb rfl st so'
 |rt d=>rw[q]at k;exact λv H' sm dn=>k ρ v H' rfl (st.then sm) dn
 |ex c=>rw[q]at k;exact k ρ Hb rfl st
 |bad=>rw[q]at k;exact k
def r_nil:PSs X [] (RS3 X κ B C f3 XX .nil):=λyp s Y H D I ⟨ρe,He,ρ,U,O,Hb,hd,st,so,k⟩=>JHw yp s Y H D I (k ρ Y H O Hb rfl st so)
def JQt{st:Stmt}{r:List Stmt}{a b:S3}(h1:PS X st (RS3 X κ B C f3 XX a))(h2:PSs X r (RS3 X κ B C f3 XX b)):PSs X (st::r) (RS3 X κ B C f3 XX (.cons a b)):=by
 rintro yp s Y H D I ⟨ρe,He,ρ,U,O,Hb,hd,st,so,k⟩;refine JG7 h1 h2 yp s Y H D I #[ρe,He,ρ,U,O,Hb,hd,st,so,?_];simp![JAI]at k;cases q:JAI C f3 a U (pi ρ) with
 |nx U' π'=>rw[q]at k;exact λρ' Y' H' O' Hb' e st' so'=>#[ρe,He,ρ',U',O',Hb',hd,st',so',by rw[e];exact k]
 |_=>rw[q]at k;exact k
def JQX{e:Expr}(he:PE X e (RE3 κ B C f3 XX x))(hs:swapsWith e none pos.line X.env=pure false):PS X (.Expr e pos) (RS3 X κ B C f3 XX (.drop x)) :=
 PS.imp (JBo (JHA (w:=x.toE) (λ_ h=>h) he) hs) λD Y H h_=>by
  obtain⟨ρe,He,ρ,U,O,Hb,hd,st,so,k⟩:=h_;refine#[ρe,He,ρ,U,O,Hb,hd,st,so,?_];simp![JAI]at k;cases q:ev3 C f3 (JAL x.toE 0 U) x (pi ρ) with
  |ok d π=>rw[q]at k;exact λρ' H' O' Hb' e st' so' eh v dn=>k ρ' _ H' _ Hb' e st' so'
  |exc c π=>rw[q]at k;exact k
  |bad=>rw[q]at k;exact k
def r_ret{e:Expr}(he:PE X e (RE3 κ B C f3 XX x)):PS X (.Return (some e) pos) (RS3 X κ B C f3 XX (.ret x)) :=
 PS.imp (JMt (JHA (w:=x.toE) (λ_ h=>h) he)) λD Y H h_=>by
  obtain⟨ρe,He,ρ,U,O,Hb,hd,st,so,k⟩:=h_;refine#[ρe,He,ρ,U,O,Hb,hd,st,so,?_];simp![JAI]at k;cases q:ev3 C f3 (JAL x.toE 0 U) x (pi ρ) with
  |ok d π =>
   rw[q]at k;exact λρ' H' O' Hb' e st' so' eh v dn=>k ρ' v H' e (st'.then so'.same) (Den.mono so'.same _ _ dn)
  |exc c π=>rw[q]at k;exact k
  |bad=>rw[q]at k;exact k
def r_ife{a b:List Stmt}(hc:PT X c (RT3 κ B C f3 XX t))(ha:PSs X a (RS3 X κ B C f3 XX s1))(hb:PSs X b (RS3 X κ B C f3 XX s2)):PS X (.If c a b pos) (RS3 X κ B C f3 XX (.ife t s1 s2)) :=
 PS.imp (JRL (JPK (w:=t.toE) (λ_ h=>h) hc) ha hb) λD Y H h_=>by
  obtain⟨ρe,He,ρ,U,O,Hb,hd,st,so,k⟩:=h_;refine#[ρe,He,ρ,U,O,Hb,hd,st,so,?_];simp![JAI]at k;cases q:evT3 C f3 (JAL t.toE 0 U) t (pi ρ) with
  |ok b π =>
   rw[q]at k;intro ρ' H' O' Hb' e st' so' eh;cases b with
   |true=>exact iteT #[ρe,He,ρ',_,O',Hb',hd,st',so',by rw[e];exact k]
   |false=>exact iteF #[ρe,He,ρ',_,O',Hb',hd,st',so',by rw[e];exact k]
  |exc c π=>rw[q]at k;exact k
  |bad=>rw[q]at k;exact k
def JOj{put:D->Env->Option Env}{gt:TG}{tb:TS}{f:Env->Ta->Fl3}{De:Ends}{J:It}{ds:List D}(hd:Dm X.H₀ He)(st0:StepR κ B ρe He ρ Hb)(so:SO (JAD κ B ρ) Hb Y H1 U O)(io:ItOk (JAD κ B ρ) J (hid H1 O) ds)
  (hput:∀(ρ:Tb) (d:D) (v:V) (Y:St) (H:Hp) (U U':Env) (O:Ow) (Hb':Hp) (Q:St->Hp->Prop),SO (JAD κ B ρ) Hb' Y H U O->Den (JAD κ B ρ) (hid H O) d v->put d U=some U'->(∀Y' O',SO (JAD κ B ρ) Hb' Y' H U' O'->Q Y' H)->gt v Y H Q)
  (htb:∀De Y H,RF3 X κ B XX f De Y H->tb De Y H) (k:JIo κ B XX ρe He De (for3 put f ds U (pi ρ))) :
  ∃W:Nat->Nat->St->Hp->Prop,(∃m,W 0 m Y H1)/\∀i m Y H,W i m Y H->(J.stop i H/\De.nx Y H)\/(J.go i H/\∃N:St->Hp->Prop,(∀Y' H',N Y' H'->∃m',m'<m/\W (i+1) m' Y' H')/\∀x H',J.yld i H x H'->gt x Y H' λY2 H2=>tb { De with nx:=N,ct:=N,bk:=De.nx } Y2 H2):=by
 have hb1:Same Hb (hid H1 O):=JAY so;have st1:=st0.then hb1;have al0:=st1.all;refine#[λi m Y H=>m=ds.length - i/\i<=ds.length/\∃ρ' U O' Hb',StepR κ B ρ (hid H1 O) ρ' Hb'/\SO (JAD κ B ρ') Hb' Y H U O'/\JIo κ B XX ρe He De (for3 put f (ds.drop i) U (pi ρ')),#[ds.length,by simp,Nat.zero_le _,ρ,U,O,_,.same al0 (Same.refl _),so.base,by simpa using k],?_]
 rintro i m Y H ⟨rfl,hi,ρ2,U2,O2,Hb2,st2,so2,k2⟩;have kp:Kpt (hid H1 O) H:=(al0.off st2.off).1.same so2.same
 by_cases hlt:i<ds.length
 ·right;have hd':ds[i]? = some ds[i]:=by simp[hlt]
  obtain⟨go,yl⟩:=(io H kp i).1 ds[i] hd';refine#[go,λY' H'=>∃ρ' U O' Hb',StepR κ B ρ (hid H1 O) ρ' Hb'/\SO (JAD κ B ρ') Hb' Y' H' U O'/\JIo κ B XX ρe He De (for3 put f (ds.drop (i+1)) U (pi ρ')),λY' H' ⟨ρ3,U3,O3,Hb3,st3,so3,k3⟩=>#[ds.length - (i+1),by omega,rfl,hlt,ρ3,U3,O3,Hb3,st3,so3,k3],λv H' y=>?_]
  obtain⟨so3',dn2⟩:SO (JAD κ B ρ2) Hb2 Y H' U2 O2/\Den (JAD κ B ρ2) (hid H' O2) ds[i] v:=by
    rcases yl v H' y with ⟨e,dn⟩|⟨p,xs,es,hp,e,ex,ed,dl⟩
    ·subst e;exact#[so2,Den.mono (JAY so2) _ v (st2.den al0 _ _ dn)]
    ·subst e;subst ex;have s3:=JF8 so2 (o:=.tup xs) hp;refine#[s3,?_];rw[ed];simp![Den];refine#[p,xs,rfl,SqT.of ?_,DenL.mono (JAY s3) _ _ (st2.dens al0 _ _ dl)];rw[hid,JAK λ⟨j,hj⟩=>by obtain⟨_,_,_,_,e5,_⟩:=so2.own hj;rw[hp]at e5;cases e5]
     exact JAH
  rw[JDP hlt]at k2;unfold for3 at k2;cases qp:put ds[i] U2 with
  |none=>rw[qp]at k2;exact fF k2
  |some U3 =>
    rw[qp]at k2;refine hput ρ2 ds[i] v Y H' U2 U3 O2 _ _ so3' dn2 qp λY3 O3 so3=>?_;refine htb _ _ _ #[ρ,hid H1 O,ρ2,U3,O3,Hb2,hd.dm st1.dm,st2,so3,?_];simp only at k2;cases q2:f U3 (pi ρ2) with
    |nx U' π=>rw[q2]at k2;exact λρ4 Y4 H4 O4 Hb4 e st4 so4=>#[ρ4,U',O4,Hb4,st4,so4,by rw[e];exact k2]
    |ct U' π=>rw[q2]at k2;exact λρ4 Y4 H4 O4 Hb4 e st4 so4=>#[ρ4,U',O4,Hb4,st4,so4,by rw[e];exact k2]
    |bk U' π=>rw[q2]at k2;exact λρ4 Y4 H4 O4 Hb4 e st4 so4=>k2 ρ4 Y4 H4 O4 Hb4 e (st1.trans st4) so4
    |rt d π=>rw[q2]at k2;exact λρ4 v4 H4 e st4 d4=>k2 ρ4 v4 H4 e (st1.trans st4) d4
    |ex c π=>rw[q2]at k2;exact λρ4 H4 e st4=>k2 ρ4 H4 e (st1.trans st4)
    |bad=>rw[q2]at k2;exact k2
 ·left;have ei:i=ds.length:=by omega
  refine#[(io H kp i).2 ∅,?_]
  rw[ei,List.drop_length]at k2;exact k2 ρ2 Y H O2 Hb2 rfl (st1.trans st2) so2
def JRS[Cool G](g:Gk3 X κ B C f3 CX XX G L)(hp:PassesOwn (model X.prog X.w) X.A X.env X.xe){b:S3}{i:Nat}(hi:∀ρ,PI X (.Name nm pos') iter (RI (JAD κ B ρ) (C (pi ρ)) XX x))(hb:PSs X body (RS3 X κ B C f3 XX b))(hnd:X.N.Nodup)(hN:X.N[i]? = some nm)(hx:Loc X.env.scope nm)
  (hfn:X.fn nm=true\/X.env.scope.names.lookup nm=some .local) (hs:∀v,foldedSetIterable iter X.env v=pure v):PS X (.For (.Name nm pos') iter body [] pos) (RS3 X κ B C f3 XX (.for1 i x b)):=by
 rintro yp s Y H De I ⟨ρe,He,ρ,U,O,Hb,hd,st,so,k⟩;refine JM0 hp ((g.g ρ).calm inferInstance) (JMZ (g.g ρ) (hi ρ)) (JC6 hnd hN hx hfn) hb hs yp s Y H De I #[U,O,Hb,hd.dm st.dm,so,?_];simp![JAI]at k;cases q:evI (C (pi ρ)) x U with
 |ok ds =>
  rw[q]at k;intro J H' O' so' io;refine JOj hd st so' io (put:=put1 i) (λρ d v Y H U U' O Hb' Q so dn e h=>?_) (λ_ _ _ h=>h) k;have e':U.set i (.val d)=U':=Option.some.inj e;subst e';exact h _ _ (JGF so dn)
 |exc c=>rw[q]at k;exact k ρ Hb rfl st
 |bad=>rw[q]at k;exact k
end
end VI
end
section
namespace VI
open PySem PySem.Spec PyProof.Rows L2
section
variable{κ:Kl}{B:Bs}{XX:Nat->Hp->Prop}{X:Cx}{C:Ta->Cn}{f3:F3}{G:List (Str×GK)}{L:List (Str×GK3)}
def JNG(g:Gk3 X κ B C f3 CX XX G L)(ha:∀c H H',Same H H'->XX' c H->XX' c H')(hp:JBd CX (atX X X.A pn xe true) (EX B XX')):Gk3 (atX X X.A pn xe true) κ B C f3 CX XX' G L :=
 #[λρ=>gk_at (g.g ρ) ha hp,g.cls,g.fn,g.met,g.mak]
def r_try(g:Gk3 X κ B C f3 (CXV X.prog X.w B) XX G L)(hst:X.stack=X.env::X.outer)(hf:X.env.frame=some X.env.locals)(hex:X.ex=[])(hnd:X.N.Nodup)(hfn:∀nm,X.fn nm=true)(hh:X.A.handled=none)
  {body:List Stmt}{b:S3}{cn en kn:Str}{c i j:Nat}{np p1 p2 p3 hpos pos:Pos}
  (hbody:∀(pn:Pq) (xe:Vq) (XX':Nat->Hp->Prop),PassesOwn (model X.prog X.w) X.A X.env xe->Gk3 (atX X X.A pn xe true) κ B C f3 (CXV X.prog X.w B) XX' G L->PSs (atX X X.A pn xe true) body (RS3 (atX X X.A pn xe true) κ B C f3 XX' b))
  (hgl:Gl X cn) (hmc:X.mg cn=some (.ref (B.cl c))) (hbn:JAR cn=false) (hben:JAR en=false)
  (hsub:∀π k,(C π).sub k c=true->PySem.W.exmOne B.K (.ref (B.cl k)) (.ref (B.cl c))=some true)
  (hi:X.N[i]? = some en) (hle:X.env.scope.names.lookup en=some .local) (hj:X.N[j]? = some kn) (hlk:Loc X.env.scope kn) (hij:i≠j) :
  PS X (.Try body [.ExceptHandler (some (.Name cn np)) (some en) [.Assign [.Name kn p1] (.Name en p2) p3] hpos] [] [] pos) (RS3 X κ B C f3 XX (.tryx b c i j)):=by
 rintro yp s Y H D I ⟨ρe,He,ρ,U,O,Hb,hd,st,so,k⟩;refine wpAny_Try_except ?_;have hcal:X.calm=true->X.A.handled=none:=I.ok.hd;have hpp:∀p∈(X.pn++yp)++[],p∈X.pn++yp:=λp hp=>by simpa using hp
 have hlen:Y.length=U.length:=so.len;have hlN:Y.length=X.N.length:=I.len;simp![JAI]at k;cases q:JAI C f3 b U (pi ρ) with
 |ex k1 π1 =>
  rw[q]at k;simp only at k
  split at k
  case isFalse=>exact fF k
  rename_i hs1;have hiU:i<U.length:=by
    have:=(q_p.mp hi).1;omega
  have hjU:j<U.length:=by
    have:=(q_p.mp hj).1;omega
  refine wpAny_mono (hbody (X.pn++yp) (λe s₁=>wpAny (model X.prog X.w) X.A (noteFrame e X.env) (λ_ s₂=>wpAny (model X.prog X.w) X.A (setFlight e none) (λ_ s₃=>wpAny (model X.prog X.w) X.A (handleBy e X.env [.ExceptHandler (some (.Name cn np)) (some en) [.Assign [.Name kn p1] (.Name en p2) p3] hpos]) (SP X yp D) X.xe s₃) X.xe s₂) X.xe s₁)
    (λk H1=>k=k1/\∃ρ',pi ρ'=π1/\StepR κ B ρe He ρ' H1) PassesOwn.looking (JNG g (λc H H' s ⟨a,ρ',b,d⟩=>#[a,ρ',b,d.then s]) ?_) [] s Y H #[λ_ _=>False,λ_ _=>False,λ_ _=>False,λ_ _=>False] (JHD I rfl (λ_=>hh) hpp) #[ρe,He,ρ,U,O,Hb,hd,st,so,by rw[q];exact λρ' H' e s'=>#[rfl,ρ',e,s']]) (λf s₁ h₁=>?_) λ_ _ z=>z
  ·
    rintro pins' Y' H1 s1 e s' I1 ⟨ea,T,c',H',ee,os,bare,un,hok,tr,⟨f1,f2⟩,⟨f3,f4⟩,⟨c2,ec,hk2,ρ',hpi,st'⟩⟩;subst ee;subst hk2;have I':=I1.call' (ch:=[]) os un hok bare (λb hb=>by simp at hb)
    have J0:Inv X yp Y' H' s':=JDs I' rfl hcal (λp hp=>List.mem_append_left _ hp);obtain⟨oe,vs,a0,oT,ts,q1,q2,q3,q4,q6,q7,q8,q9⟩:=id tr;have fr0:∀b,s1.heap.get? b=none->X.s₀.heap.get? b=none:=λb q=>by
      cases z:X.s₀.heap.get? b with
      |none=>rfl
      |some o =>
       obtain⟨o',e2⟩:=I1.base.there b o z (by show b ∉ X.ex;rw[hex];simp)
       rw[q]at e2;cases e2
    have has:∀b∈(ea::T::frs X.stack),b∈frs X.stack\/(X.s₀.heap.get? b=none/\H' b=none):=λb hb=>by
      rcases q_n.mp hb with rfl|hb
      ·exact .inr #[fr0 _ f1,f2]
      ·rcases q_n.mp hb with rfl|hb
       ·exact .inr #[fr0 _ f3,f4]
       ·exact .inl hb
    have hpin:∀p∈X.pn++yp,p.1 ∉ (ea::T::frs X.stack):=λp hp hm=>by
      obtain⟨e,n,ne,nf,d⟩:=I1.pin p (List.mem_append_left _ hp);rcases q_n.mp hm with z|hm
      ·rw[z,f1]at e;cases e
      ·rcases q_n.mp hm with z|hm
       ·rw[z,f3]at e;cases e
       ·rcases q_n.mp (J0.stkSub _ hm) with z|z
        ·exact ne z
        ·exact nf z
    have stk:=J0.stack;have fl0:Heap.FlyingW (PySem.W.hideAll s'.heap (ea::T::frs X.stack)) X.stack ea (.ref (B.cl c')) a0 s'.heap :=
      #[λb o q=>PySem.W.of_hideAll _ q,PySem.W.hideAll_none _ (by simp),PySem.W.funFrames_hide stk (λenv he a hf=>q_s _ (q_s _ (List.mem_filterMap.mpr #[env,he,hf]))),oe,vs,T,oT,ts,q1,q2,q3,q4,PySem.W.hideAll_none _ (by simp),q6,q7,q8,q9]
    refine PySem.wpAny_looks_onW (base:=PySem.W.hideAll s'.heap (ea::T::frs X.stack)) (outer:=X.outer) (cls:=.ref (B.cl c')) (a0:=a0) (J0.ok.frames.trans (congrArg some hst)) hf (by rw[<-hst];exact fl0) λh4 held4 up4=>?_
    refine PySem.wpAny_landsW held4 λh5 fl5 up5'=>?_;have up5:=up4.trans up5';have fl5':=fl5;have J5:Inv X yp Y' H' { s' with heap:=h5 }:=JJy J0 hex has hpin fl5 up5 s'.toks
    have J5m:Inv (atX X (X.A.mark (some (.ref ea))) X.pn (λ_ _=>False) false) yp Y' H' { s' with heap:=h5 }:=JHD J5 rfl (λz=>by cases z) (λp hp=>hp)
    refine wpAny_handleBy_cons (codeAny_handlers_test (JCZ J5m hgl hmc ?_ (JAA hbn).1)) (by intro q;cases q)
    obtain⟨ob,hob,hoc⟩:=fl5.there;have LT:PySem.W.Looks (model X.prog X.w) h5 (typeOf (.ref ea)) (.ref (B.cl c')):=by
      rw[<-hoc];exact(PySem.W.Looks.ld hob).andThen .now
    have hex1:PySem.W.exmOne X.K (.ref (B.cl c')) (.ref (B.cl c))=some true:=by
      rw[(g.g ρ').K,show Value.ref (B.cl c')=Value.ref (B.cl c2) from ec];exact hsub _ c2 hs1
    refine(PySem.W.exm_one J5.kIn LT hex1).here (s:={ s' with heap:=h5 }) (codeAny_handlers_suite_as ?_)
    refine lands_againW (s:={ s' with heap:=h5 }) fl5 λh6 fl6 up6=>?_
    have J6:Inv X yp Y' H' { s' with heap:=h6 }:=JJy J0 hex has hpin fl6 (up5.trans up6) s'.toks
    obtain⟨_,_,_,oe6,vs6,T6,oT6,ts6,w1,⟨w2,_⟩,w3,_⟩:=id fl6;have ecl:B.cl c'=B.cl c2:=by
      have:=ec;injection this
    have J7:=JJv J6 w1 (by rw[w2,ecl]) w3 (fr0 _ f1) f2 (λp hp z=>hpin p hp (by rw[z];simp))
    refine JBw J7 hnd hi (.inl hle) (v:=.ref ea) rfl (λs8 J8'=>?_) (.inr hle);have J8:Inv (atX X (X.A.mark (some (.ref ea))) X.pn (λ_ _=>False) false) yp _ _ s8:=JHD J8' rfl (λz=>by cases z) (λp hp=>hp)
    have P1:PS (atX X (X.A.mark (some (.ref ea))) X.pn (λ_ _=>False) false) (.Assign [.Name kn p1] (.Name en p2) p3) (tAsg (tVar i) (JEn j)) :=
      JHu (i:=j) hnd hj hlk (JDJ hi (.inl hle) (JAA hben).1 (JAA hben).2.1) rfl (.inl (hfn kn))
    have hiY:i<Y'.length:=by rw[J6.len];exact(q_p.mp hi).1
    refine wpAny_mono (JOe P1 yp s8 _ _ #[λY9 H9=>Y9=(Y'.set i (some (.ref ea))).set j (some (.ref ea))/\H9=upd H' ea (.ext (ExcAt ea (B.cl c2))),λ_ _=>False,λ_ _=>False,λ_ _=>False] J8 #[.ref ea,q_z hiY,rfl,rfl]) (λf s9 h9=>?_) λ_ _ z=>z.elim;cases f with
    |brk=>obtain⟨_,_,_,z⟩:=h9;exact z.elim
    |cont=>obtain⟨_,_,_,z⟩:=h9;exact z.elim
    |ret u=>obtain⟨_,_,_,_,_,z⟩:=h9;exact z.elim
    |next =>
      obtain⟨Y9,H9,J9,rfl,rfl⟩:=h9;have J9':Inv X yp _ _ s9:=JDs J9 rfl hcal (λp hp=>hp);show wpAny (model X.prog X.w) X.A (do bindName X.env en .none;unbindBehindTheSuite X.env en hpos) (λ_ s₃=>SP X yp D .next s₃) X.xe s9
      refine q_b (wpAny_bindName (JBw J9' hnd hi (.inl hle) (v:=.non) rfl (λs10 J10=>?_) (.inr hle)));unfold unbindBehindTheSuite;have hv:((((Y'.set i (some (V.ref ea))).set j (some (V.ref ea))).set i (some V.non)))[i]? = some (some V.non):=q_z (by simpa using hiY)
      refine wpAny_onRaise (JJ4 J10 hnd hi hle hv λs11 J11=>#[_,_,J11,k ρ' _ _ _ H' hpi st' (JRs (B:=JAD κ B ρ') (by rw[J6.len,<-hlN,hlen]) hjU hij (λb o e=>?_) JAH)])
      rw[JAJ λz=>by rw[z,f2]at e;cases e]
      exact e
  · cases f with
    |next=>obtain⟨_,_,_,z⟩:=h₁;exact z.elim
    |brk=>obtain⟨_,_,_,z⟩:=h₁;exact z.elim
    |cont=>obtain⟨_,_,_,z⟩:=h₁;exact z.elim
    |ret u=>obtain⟨_,_,_,_,_,z⟩:=h₁;exact z.elim
 |bad=>rw[q]at k;exact fF k
 |_ =>
  rw[q]at k;refine wpAny_mono (hbody (X.pn++yp) (λ_ _=>False) (λ_ _=>False) PassesOwn.never (JNG g (λ_ _ _ _ z=>z) λ_ _ _ _ _ _ _ z=>(JJ2 _ _ _ _ _ z).elim) [] s Y H D (JHD I rfl (λ_=>hh) hpp) #[ρe,He,ρ,U,O,Hb,hd,st,so,by rw[q];exact k]) (λf s₁ h₁=>?_) λ_ _ z=>z.elim
  have h2:=sp_un hcal h₁;cases f with
  |next=>exact wpAny_execs_nil h2
  |brk=>exact h2
  |cont=>exact h2
  |ret u=>exact h2
end
end VI
end
section
namespace VI
open PySem PySem.Spec PyProof.Rows L2
theorem JBO(f g:Str)(d:D):∀c:Fs,(JAn f d c).lookup g=if g=f then some d else c.lookup g
 | []=>by
  show List.lookup g [(f,d)]=_
  by_cases h:g=f
  · have hb:(g==f)=true:=beq_iff_eq.mpr h
    simp![List.lookup,hb,if_pos h]
  · have hb:(g==f)=false:=beq_eq_false_iff_ne.mpr h
    simp![List.lookup,hb,if_neg h]
 |(k,x)::r=>by
  have ih:=JBO f g d r;rw[show JAn f d ((k,x)::r)=(if k=f then (k,d)::r else (k,x)::JAn f d r) from rfl]
  by_cases hk:k=f
  · rw[if_pos hk]
    by_cases h:g=k
    ·have hb:(g==k)=true:=beq_iff_eq.mpr h;simp![List.lookup,hb];rw[if_pos (h.trans hk)]
    ·have hb:(g==k)=false:=beq_eq_false_iff_ne.mpr h;simp![List.lookup,hb];rw[if_neg λz=>h (z.trans hk.symm)]
  · rw[if_neg hk]
    by_cases h:g=k
    ·have hb:(g==k)=true:=beq_iff_eq.mpr h;simp![List.lookup,hb];rw[if_neg λz=>hk (h.symm.trans z)]
    ·have hb:(g==k)=false:=beq_eq_false_iff_ne.mpr h;simp![List.lookup,hb];exact ih
theorem JEC(f:Str)(d:D)(v:V):∀(fs:List (Str×V)) (c:Fs),fs.map (·.1)=c.map (·.1)->(putF f v fs).map (·.1)=(JAn f d c).map (·.1)
 | [],[],_=>rfl
 | [],_::_,h=>by cases h
 |_::_,[],h=>by cases h
 |(k,x)::fs,(l,y)::c,h=>by
  simp![List.map_cons,List.cons.injEq]at h;have h1:k=l:=h.1;subst h1;unfold putF JAn
  by_cases z:k=f
  · rw[if_pos z,if_pos z];simp![List.map_cons,h.2]
  · rw[if_neg z,if_neg z];simp![List.map_cons,JEC f d v fs c h.2]
theorem JCi{d d0:D}:∀ {c:Fs},c.lookup f=some d0->(JAn f d c).map (·.1)=c.map (·.1)
 | [],h=>by cases h
 |(k,x)::c,h=>by
  unfold JAn
  by_cases z:k=f
  · rw[if_pos z];rfl
  · rw[if_neg z]
    unfold List.lookup at h;rw[beq_eq_false_iff_ne.mpr λw=>z w.symm]at h;simp![List.map_cons,JCi h]
mutual
theorem JFy:∀(d:D) (v:V),JBh d=true->Den (JAD κ B ρ) H d v->Den (bare B) H d v
 |.none,_,_,h=>h
 |.bool _,_,_,h=>h
 |.int _,_,_,h=>h
 |.str _,_,_,h=>h
 |.tuple ds,v,n,h=>by
  simp![Den]at h ⊢;obtain⟨a,xs,e,q,l⟩:=h;exact#[a,xs,e,q,JCs ds xs (by simpa only[JBh] using n) l]
 |.list ds,v,n,h=>by
  simp![Den]at h ⊢;obtain⟨a,xs,e,q,l⟩:=h;exact#[a,xs,e,q,JCs ds xs (by simpa only[JBh] using n) l]
 |.dict kvs,v,n,h=>by
  simp![Den]at h ⊢;simp![JBh]at n;rcases h with ⟨a,c,e,k,q⟩|⟨a,xs,e,q,l⟩|⟨a,m,e,k,q⟩
  ·exact .inl #[a,c,e,k,q]
  ·exact .inr (.inl #[a,xs,e,q,JGs kvs xs n l])
  ·subst k;simp[JEs]at n
theorem JCs:∀(ds:List D) (vs:List V),JBM ds=true->DenL (JAD κ B ρ) H ds vs->DenL (bare B) H ds vs
 | [],_,_,h=>h
 |d::ds,vs,n,h=>by
  simp![DenL]at h ⊢;simp![JBM,q_i]at n;obtain⟨v,r,e,q,l⟩:=h;exact#[v,r,e,JFy d v n.1 q,JCs ds r n.2 l]
theorem JGs:∀(ds:List (D×D)) (vs:List (Key×V)),JEs ds=true->DenK (JAD κ B ρ) H ds vs->DenK (bare B) H ds vs
 | [],_,_,h=>h
 |(k,d)::ds,vs,n,h=>by
  simp![DenK]at h ⊢;obtain⟨x,v,r,e,e',q,l⟩:=h;subst e';simp![JEs,q_i]at n;exact#[x,v,r,e,rfl,JFy d v n.1 q,JGs ds r n.2 l]
end
section
variable{κ:Kl}{B:Bs}{XX:Nat->Hp->Prop}{ρ ρ':Tb}{H H':Hp}{X:Cx}{C:Ta->Cn}{f3:F3}{CX:CXT}{G:List (Str×GK)}{L:List (Str×GK3)}
def JEL(al:Recs κ B ρ H){n:Nat}(e:ρ[n]? = some p)(ha:r'.a=p.1.a)(off:∀b o,H b=some o->b ∉ p.1.adr->H' b=some o)(hs:∀b∈p.1.adr,b∈r'.adr)(hn':∀b∈r'.adr,b ∉ p.1.adr->H b=none)(new:RecOk κ B r' c fs' H'):StepR κ B ρ H (ρ.set n (r',c)) H':=by
 have hn:n<ρ.length:=(q_p.mp e).1;have mem:∀ {i:Nat}{q:Rec×Fs}{b:Addr},ρ[i]? = some q->b∈q.1.adr->b∈adrs ρ:=λh hb=>List.mem_flatMap.mpr #[_,List.mem_of_getElem? h,hb];have off':∀b o,H b=some o->b ∉ adrs ρ->H' b=some o:=λb o q nb=>off b o q λz=>nb (mem e z);obtain⟨kp,kx⟩:=al.off off';have at1:∀ {i:Nat}{q:Rec×Fs},(ρ.set n (r',c))[i]? = some q->(i=n/\q=(r',c))\/(i≠n/\ρ[i]? = some q):=λ{i q} hi=>by
  by_cases hin:i=n
  ·subst hin;rw[q_z hn]at hi;cases hi;exact .inl #[rfl,rfl]
  ·rw[q_A (λz=>hin z.symm)]at hi;exact .inr #[hin,hi]
 have far:∀ {i:Nat}{q:Rec×Fs}{a:Addr},i≠n->ρ[i]? = some q->a∈q.1.adr->a ∉ r'.adr:=λ{i q a} hin hi h1 h2=>by
  by_cases h3:a∈p.1.adr
  ·exact hin (al.nd i n q p a hi e h1 h3)
  ·have:=hn' a h2 h3;obtain⟨fs,r⟩:=al.at_ q (List.mem_of_getElem? hi);obtain⟨o,eo,_⟩:=r.uns h1;rw[this]at eo;cases eo
 refine#[off',#[λq hq=>?_,λi j q q' a hi hj h1 h2=>?_],λi q hi=>?_,λb hb=>?_,λb hb hnb=>?_]
 ·obtain⟨i,hi⟩:=List.mem_iff_getElem?.mp hq;rcases at1 hi with ⟨_,rfl⟩|⟨hin,hi⟩
  ·exact#[fs',new]
  ·obtain⟨gs,r⟩:=al.at_ q (List.mem_of_getElem? hi);exact#[gs,r.stay kp kx λb hb o eo=>off b o eo λz=>hin (al.nd i n q p b hi e hb z)]
 ·rcases at1 hi with ⟨e1,rfl⟩|⟨n1,hi⟩<;>rcases at1 hj with ⟨e2,rfl⟩|⟨n2,hj⟩
  ·rw[e1,e2]
  ·exact absurd h1 (far n2 hj h2)
  ·exact absurd h2 (far n1 hi h1)
  ·exact al.nd i j q q' a hi hj h1 h2
 ·by_cases hin:i=n
  ·subst hin;rw[e]at hi;cases hi;exact#[_,q_z hn,ha]
  ·exact#[q,by rw[q_A (λz=>hin z.symm)];exact hi,rfl]
 ·obtain⟨q,hq,hb⟩:=List.mem_flatMap.mp hb;obtain⟨i,hi⟩:=List.mem_iff_getElem?.mp hq
  by_cases hin:i=n
  ·subst hin;rw[e]at hi;cases hi;exact List.mem_flatMap.mpr #[(r',c),List.mem_of_getElem? (q_z hn),hs b hb]
  ·exact List.mem_flatMap.mpr #[q,List.mem_of_getElem? (i:=i) (by rw[q_A (λz=>hin z.symm)];exact hi),hb]
 ·obtain⟨q,hq,hb⟩:=List.mem_flatMap.mp hb;obtain⟨i,hi⟩:=List.mem_iff_getElem?.mp hq;rcases at1 hi with ⟨_,rfl⟩|⟨hin,hi⟩
  ·exact hn' b hb λz=>hnb (mem e z)
  ·exact absurd (mem hi hb) hnb
def TP3(κ:Kl)(B:Bs)(XX:Nat->Hp->Prop)(Z:Env->Ta->R3 Unit):TS:=λD Y H=>∃ρ U,Recs κ B ρ H/\Sok (JAD κ B ρ) Y H U/\K3 κ B XX ρ H (λ_ _ H'=>D.nx Y H') (Z U (pi ρ))
def JJY{st:Stmt}{w:E}{Z:Env->Ta->R3 Unit}(hZ:∀U U' π,Agr w U U'->Z U π=Z U' π)(he:PS X st (TP3 κ B XX Z)):PS X st (RF3 X κ B XX λU π=>step3 (Z (JAL w 0 U) π) λ_ π'=>.nx (JAL w 0 U) π'):=by
 rintro yp s Y H De I ⟨ρe,He,ρ,U,O,Hb,hd,st,so,k⟩;have so1:=JEc so w
 replace k:JIo κ B XX ρe He De (step3 (Z (JAL w 0 U) (pi ρ)) λ_ π'=>.nx (JAL w 0 U) π'):=k
 generalize hU:JAL w 0 U=U1 at *;have J0:=JBI (ps:=JBk w (frzO w O) U1.length s.heap) I (JAg (x:=w) (hd.dm st.dm) so1) JAw;have hev:=hZ U1 (JAV w 0 U1) (pi ρ) JBH;have sm:Same Hb (hidP H (unP w (frzO w O))):=(JAY so1).trans same_un;have st1:=st.then sm;refine thn (he _ s Y _ #[λY' H1=>Y'=Y/\∃ρ' π,Z U1 (pi ρ)=.ok () π/\StepR κ B ρ (hidP H (unP w (frzO w O))) ρ' H1/\pi ρ'=π,λ_ _=>False,λ_ _=>False,λ_ _=>False] J0 #[ρ,JAV w 0 U1,st1.all,JAc so1,?_]) λf s1 q=>?_
 ·rw[<-hev];cases q:Z U1 (pi ρ) with
  |ok d π=>exact λρ' H' s' e=>#[rfl,ρ',π,rfl,s',e]
  |exc c π=>rw[q]at k;exact λρ' H' s' e=>k ρ' H' e (st1.trans s')
  |bad=>rw[q]at k;exact k
 ·cases f with
  |next =>
   obtain⟨Y',H1,J,rfl,ρ',π,q,st2,hpi⟩:=q;obtain⟨I',hz⟩:=JAu I J (JAg (hd.dm st.dm) so1) (JAf I so1);obtain⟨so2,eh⟩:=JF1 so1 (λb=>JIr) st1.all st2 hz;rw[q]at k;exact#[_,_,I',k ρ' _ _ _ H1 hpi (st1.trans st2) so2]
  |brk=>obtain⟨_,_,_,z⟩:=q;exact z.elim
  |cont=>obtain⟨_,_,_,z⟩:=q;exact z.elim
  |ret u=>obtain⟨_,_,_,_,_,z⟩:=q;exact z.elim
end
end VI
end
section
namespace VI
open PySem PySem.Spec PyProof.Rows L2
section
variable{κ:Kl}{B:Bs}{XX:Nat->Hp->Prop}{ρ ρ':Tb}{H H':Hp}{X:Cx}{C:Ta->Cn}{f3:F3}{CX:CXT}{G:List (Str×GK)}{L:List (Str×GK3)}{r:Rec}{c:Fs}{fs:List (Str×V)}
def JD6{d:D}(k:Kpt H H')(hx:∀b c,H b=some (.ext (ExcAt b c))->H' b=some (.ext (ExcAt b c)))(ha:κ.on.contains f=true->∀b o,r.ow.lookup f=some b->H b=some o->H' b=some o)(q:JDQ κ (bare B) H r f d v):JDQ κ (bare B) H' r f d v:=by
 unfold JDQ at q ⊢
 revert q ha
 cases κ.on.contains f with
 |false=>exact λ_ q=>JB5 (B:=bare B) (B':=bare B) rfl rfl rfl k hx (λ_ _ z=>z) d v q
 |true =>
  rintro ha ⟨b,q1,q2,q3⟩;refine#[b,q1,q2,?_];cases d<;>first|exact fF q3|skip
  obtain⟨xs,e2,l⟩:=q3;exact#[xs,ha rfl b _ q1 e2,JBb (B:=bare B) (B':=bare B) rfl rfl rfl k hx (λ_ _ z=>z) _ _ l]
def RecOk.ow_ne(h:RecOk κ B r c fs H){b:Addr}(hb:b∈r.ow.map (·.2)):b≠r.a/\b≠r.dx:=by
 obtain⟨xs,e⟩:=h.ow b hb;exact#[λz=>(by rw[z,h.ins]at e;cases e),λz=>(by rw[z,h.own]at e;cases e)]
def RecOk.dx_ne(h:RecOk κ B r c fs H):r.dx≠r.a:=λz=>by have:=h.own;rw[z,h.ins]at this;cases this
def RecOk.put(h:RecOk κ B r c fs H){d:D}(hon:κ.on.contains f=false)(hd:Den (bare B) H d v):RecOk κ B r (JAn f d c) (putF f v fs) (upd H r.a (.ins κ.C r.dx (putF f v fs))):=by
 have st:∀b o,H b=some o->b≠r.a->upd H r.a (.ins κ.C r.dx (putF f v fs)) b=some o:=λb o e n=>by rw[JAJ n];exact e
 have kp:Kpt H (upd H r.a (.ins κ.C r.dx (putF f v fs))):=λb o e n=>st b o e λz=>by
  rw[z,h.ins]at e;cases e;exact n trivial
 have kx:∀b c,H b=some (.ext (ExcAt b c))->upd H r.a (.ins κ.C r.dx (putF f v fs)) b=some (.ext (ExcAt b c)):=λb c e=>st b _ e λz=>by
  rw[z,h.ins]at e;cases e
 refine#[JAH,st _ _ h.own h.dx_ne,JEC f d v fs c h.keys,λg d' e=>?_,λb hb=>?_,h.no]
 ·rw[JBO]at e;rw[JBV]
  split at e
  ·rename_i z;cases e;refine#[v,if_pos z,?_];subst z;unfold JDQ;rw[hon];exact JB5 (B:=bare B) (B':=bare B) rfl rfl rfl kp kx (λ_ _ z=>z) d v hd
  ·rename_i z;obtain⟨w,e1,q⟩:=h.fld g d' e;refine#[w,by rw[if_neg z];exact e1,JD6 kp kx (λ_ b o q1 e2=>st b o e2 ?_) q]
   exact(h.ow_ne (List.mem_map.mpr #[(g,b),PySem.mem_of_lookup q1,rfl])).1
 ·obtain⟨xs,e⟩:=h.ow b hb;exact#[xs,st _ _ e (h.ow_ne hb).1]
def JEN{i n:Nat}(h:JBZ (pi ρ) U i=some (n,c)):∃d,look U i=.ok d/\∀ {H:Hp}{v:V},Den (JAD κ B ρ) H d v->∃p fs,ρ[n]? = some p/\p.2=c/\v=.ref p.1.a/\RecOk κ B p.1 p.2 fs H:=by
 unfold JBZ at h
 split at h
 ·rename_i d hd;refine#[d,hd,λ{H v} dn=>?_];unfold recF at h;obtain⟨m,hn,q⟩:=q_a.mp h;obtain⟨c',hc,e⟩:=q_d.mp q;cases e;obtain⟨p,fs,e1,e2,r⟩:=JEY hn dn;rw[JG2 e1]at hc;cases hc;exact#[p,fs,e1,rfl,e2,r]
 ·cases h
def JI9{n:Nat}:pi (ρ.set n p)=(pi ρ).set n p.2:=by unfold pi;rw[List.map_set]
def JP9(g:Gk3 X κ B C f3 CX XX G L){o e:Expr}{i:Nat}(ho:∀ρ,PE X o (RE (JAD κ B ρ) (C (pi ρ)) XX (.var i)))(hv:∀ρ,PE X e (RE (JAD κ B ρ) (C (pi ρ)) XX x))(hna:NoAttr X.K κ.C f)(hon:κ.on.contains f=false)(hs:swapsWith e (some (.Attribute o f pos')) pos.line X.env=pure false):PS X (.Assign [.Attribute o f pos'] e pos) (TP3 κ B XX λU π=>fld3 C U i f x π):=by
 rintro yp s Y H D I ⟨ρ,U,al,ok,k⟩;refine JLm (ho ρ) (hv ρ) hs yp s Y H D I ?_
 replace k:K3 κ B XX ρ H (λ_ _ H'=>D.nx Y H') (fld3 C U i f x (pi ρ)):=k
 unfold fld3 at k;cases q:JBZ (pi ρ) U i with
 |none=>rw[q]at k;exact k.elim
 |some z =>
  obtain⟨n,c⟩:=z;rw[q]at k;obtain⟨d0,hl,hd0⟩:=JEN (κ:=κ) (B:=B) q;refine r3_E al ok k λd v H1 s1 d1 h1=>?_;refine#[U,ok.mono s1,?_];rw[show ev (C (pi ρ)) (.var i) U=look U i by simp![ev],hl]
  intro u H2 s2 du;obtain⟨p,fs,e1,e2,rfl,r⟩:=hd0 du;subst e2
  replace h1:K3 κ B XX ρ H1 (λ_ _ H'=>D.nx Y H') (if JBh d=true/\p.2.length<800 then .ok () ((pi ρ).set n (JAn f d p.2)) else .bad):=h1
  split at h1
  ·rename_i hb;have al2:=(al.mono s1).mono s2;refine#[p.1.a,κ.C,p.1.dx,fs,rfl,r.ins,g.cls,hna,by rw[r.len];omega,h1 (ρ.set n (p.1,JAn f d p.2)) _ ((StepR.same (al.mono s1) s2).trans (JEL al2 e1 rfl (λb o eo nb=>?_) (λb h=>h) (λb h n=>absurd h n) (r.put hon (JFy d v hb.1 (Den.mono s2 _ _ d1))))) JI9]
   have z:b≠p.1.a:=λz=>nb (by rw[z];exact List.mem_cons_self ..)
   rw[JAJ z];exact eo
  ·exact h1.elim
end
end VI
end
section
namespace VI
open PySem PySem.Spec PyProof.Rows L2
section
variable{X:Cx}{yp:Pq}{Y:St}{H H':Hp}{s:Shared}{l:Addr}{xs:List V}
def JEi(I:Inv X yp Y H s)(e:H l=some (.ext (LsAt l xs))):Inv X yp Y (upd H l (.lst xs)) s:=by
 obtain⟨φ,hu,_⟩:=I.hok l _ e;exact I.write (t':=s.toks) (by rw[e];trivial) (.inl rfl) (λ_ _ _ e=>e) hu φ
def JFY(I:Inv X yp Y H s)(e:H l=some (.lst xs)):Inv X yp Y (upd H l (.ext (LsAt l xs))) s:=by
 have φ:LsAt l xs s.heap:=I.hok l _ e;have hu:∃o,s.heap.get? l=some o:=let ⟨_,_,_,_,q⟩:=φ;#[_,q]
 exact I.write (t':=s.toks) (by rw[e];trivial) (.inl rfl) (λ_ _ _ e=>e) hu #[φ,hu,λh1 h2 ⟨z,its,n,r,q⟩ k=>#[z,its,n,r,k _ q]]
def JGX(e:H l=some (.ext (LsAt l xs))):Kpt H (upd H l o):=λb u q n=>by
 have hb:b≠l:=λz=>by
  rw[z,e]at q;cases q;exact n #[l,xs,rfl]
 rw[JAJ hb];exact q
def rExtO(K:Kq):V->List V->Hp->VK->Prop:=λx vs H Q=>∃l b xs zs,x=.ref l/\vs=[.ref b]/\H l=some (.ext (LsAt l xs))/\SqL K H b zs/\xs.length+zs.length<=sizeLine/\Q .non (upd H l (.ext (LsAt l (xs++zs))))
def JNR:MtR X "list.extend" (rExtO X.K):=by
 rintro yp s Y H x vs v us Q I rx rv ⟨l,b,xs,zs,ex,ev,hH,hB,hz,q⟩;subst ex;subst ev;refine thn (JF5 yp s Y _ _ _ v us (λw H'=>w=.non/\H'=upd (upd H l (.lst xs)) l (.lst (xs++zs))) (JEi I hH) rx rv #[l,b,xs,zs,rfl,rfl,JAH,Kpt.seq (JGX hH) hB,hz,rfl,rfl]) λw s1 h_=>?_;obtain⟨y,H1,I1,r1,e1,e2⟩:=h_;subst e1;subst e2;rw[JJj]at I1;have I2:=JFY I1 JAH;rw[JJj]at I2;exact#[_,_,I2,r1,q]
def tBML(r:V->List V->Hp->VK->Prop)(to:TE)(t:TA):TE:=λY H Q=>to Y H λx H1=>(∃l xs,x=.ref l/\H1 l=some (.ext (LsAt l xs)))/\t Y H1 λxs H2=>r x xs H2 Q
def JPj{o e:Expr}{es:List Expr}{to:TE}{t:TA}{name:Str}{apos cpos:Pos}{id:String}{r:V->List V->Hp->VK->Prop}(slot:Slot "list" name id)(hty:typeOf (.builtin id)=pure (.type "method_descriptor"))(hm:MtR X id r)(ho:PE X o to)(ha:PA X (e::es) t)
  (hbase:attributeBase o name X.env (eval o X.env)=eval o X.env)
  (hfew:((backTo cpos (starEach (e::es) X.env)).all (λx=>!x.1)&&(backToKw cpos (keywordEach [] X.env)).all (λx=>x.1.isSome)
    && decide ((e::es).length+([]:List Keyword).length+(if ([]:List Keyword).isEmpty then 0 else 1)<30))=true)
  (hline:(apos.endLine==cpos.line)=true) (hs:starEach (e::es) X.env=(false,eval e X.env)::starEach es X.env) (hplain:(backTo cpos (starEach es X.env)).any (·.1)=false) :
  PE X (.Call (.Attribute o name apos) (e::es) [] cpos) (tBML r to t):=by
 intro yp s Y H Q I h;refine wpAny_Call_method_late hbase hfew hline rfl (thn (ho yp s Y H _ I h) λv s1 h_=>?_);obtain⟨x,H1,I1,r1,⟨l,xs,ex,el⟩,q1⟩:=h_;obtain⟨h1,h2⟩:=JMq (T:="list") (JEi I1 el) r1 (by rw[ex];exact .inl #[rfl,xs,SqL.of JAH])
 refine#["list",id,PySem.F.plainAttrs_list,slot,hty,h1,h2,?_];have hA:=ha cpos yp s1 Y H1 _ I1 q1;rw[hs]at hA ⊢;refine Calls.callWith_builtin (by show(false || (backTo cpos (starEach es X.env)).any (·.1))=false;rw[hplain]<;>rfl) (Calls.evalArgs_plain ?_)
 exact thn hA λus s2 ⟨vs,H2,I2,r2,q2⟩=>hm yp s2 Y H2 x vs v us Q I2 r1 r2 q2
def JO6{st:Stmt}{t:TS}(h:PS X st t):PS X st (λD Y H=>t { D with nx:=λY H=>∃l xs,H l=some (.lst xs)/\D.nx Y (upd H l (.ext (LsAt l xs))) } Y H):=by
 intro yp s Y H D I k;refine thn (h yp s Y H _ I k) λf s1 q=>?_;cases f with
 |next=>obtain⟨Y',H1,J,l,xs,e,q⟩:=q;exact#[Y',_,JFY J e,q]
 |brk=>exact q
 |cont=>exact q
 |ret u=>exact q
end
section
variable{κ:Kl}{B:Bs}{XX:Nat->Hp->Prop}{ρ ρ':Tb}{H H':Hp}{X:Cx}{C:Ta->Cn}{f3:F3}{CX:CXT}{G:List (Str×GK)}{L:List (Str×GK3)}{r:Rec}{c:Fs}{fs:List (Str×V)}
def JC5{α:Type}{b:α}{l:List (Str×α)}:((f,b)::l).lookup g=if g=f then some b else l.lookup g:=by
 by_cases h:g=f
 ·have hb:(g==f)=true:=beq_iff_eq.mpr h;simp![List.lookup,hb,if_pos h]
 ·have hb:(g==f)=false:=beq_eq_false_iff_ne.mpr h;simp![List.lookup,hb,if_neg h]
def RecOk.putL(h:RecOk κ B r c fs H){l:Addr}(hon:κ.on.contains f=true)(hl:H l=none)(e1:H' l=some (.ext (LsAt l [])))(e2:H' r.a=some (.ins κ.C r.dx (putF f (.ref l) fs)))(st:∀b o,H b=some o->b≠r.a->H' b=some o) :
  RecOk κ B #[r.a,r.dx,(f,l)::r.ow] (JAn f (.list []) c) (putF f (.ref l) fs) H':=by
 have kp:Kpt H H':=λb o e n=>st b o e λz=>by
  rw[z,h.ins]at e;cases e;exact n trivial
 have kx:∀b c,H b=some (.ext (ExcAt b c))->H' b=some (.ext (ExcAt b c)):=λb c e=>st b _ e λz=>by
  rw[z,h.ins]at e;cases e
 refine#[e2,st _ _ h.own h.dx_ne,JEC f _ _ fs c h.keys,λg d' e=>?_,λb hb=>?_,?_]
 ·rw[JBO]at e;rw[JBV]
  split at e
  ·rename_i z;cases e;refine#[.ref l,if_pos z,?_];subst z;unfold JDQ;rw[hon];exact#[l,by show((g,l)::r.ow).lookup g=_;rw[JC5,if_pos rfl],rfl,[],e1,by simp![DenL]]
  ·rename_i z;obtain⟨w,e3,q⟩:=h.fld g d' e;refine#[w,by rw[if_neg z];exact e3,?_]
   have q':=JD6 (H':=H') kp kx (λ_ b o q1 e2=>st b o e2 (h.ow_ne (List.mem_map.mpr #[(g,b),PySem.mem_of_lookup q1,rfl])).1) q;unfold JDQ at q' ⊢
   revert q'
   cases κ.on.contains g with
   |false=>exact λq=>q
   |true=>exact λ⟨b,q1,q2⟩=>#[b,by show((f,l)::r.ow).lookup g=_;rw[JC5,if_neg z];exact q1,q2]
 ·rcases q_n.mp hb with hb|hb
  ·exact#[[],by rw[show b=l from hb];exact e1]
  ·obtain⟨xs,e⟩:=h.ow b hb;exact#[xs,st _ _ e (h.ow_ne hb).1]
 ·refine List.nodup_cons.mpr #[λhb=>?_,h.no];obtain⟨xs,e⟩:=h.ow l hb;rw[hl]at e;cases e
def JRl(g:Gk3 X κ B C f3 CX XX G L){i:Nat}(ho:∀ρ,PE X o (RE (JAD κ B ρ) (C (pi ρ)) XX (.var i)))(hna:NoAttr X.K κ.C f)(hon:κ.on.contains f=true)(hs:swapsWith (.List [] lp) (some (.Attribute o f pos')) pos.line X.env=pure false):PS X (.Assign [.Attribute o f pos'] (.List [] lp) pos) (TP3 κ B XX λU π=>fln3 U i f π):=by
 rintro yp s Y H D I ⟨ρ,U,al,ok,k⟩;refine JO6 (JLm (ho ρ) (JIh JBe) hs) yp s Y H D I ?_
 replace k:K3 κ B XX ρ H (λ_ _ H'=>D.nx Y H') (fln3 U i f (pi ρ)):=k
 unfold fln3 at k;cases q:JBZ (pi ρ) U i with
 |none=>rw[q]at k;exact k.elim
 |some z =>
  obtain⟨n,c⟩:=z;rw[q]at k;obtain⟨d0,hl,hd0⟩:=JEN (κ:=κ) (B:=B) q;refine#[Nat.zero_le _,λl el=>#[U,ok.mono (JBA el),?_]];rw[show ev (C (pi ρ)) (.var i) U=look U i by simp![ev],hl]
  intro u H2 s2 du;have s12:Same H H2:=(JBA el).trans s2;obtain⟨p,fs,e1,e2,rfl,r⟩:=hd0 du;subst e2;obtain⟨fs',r0⟩:=al.at_ p (List.mem_of_getElem? e1);have:fs'=fs:=by
   have:=s12 _ _ r0.ins;rw[r.ins]at this;cases this;rfl
  subst this
  replace k:K3 κ B XX ρ H (λ_ _ H'=>D.nx Y H') (if (p.2.lookup f).isNone=true/\p.2.length<800 then .ok () ((pi ρ).set n (JAn f (.list []) p.2)) else .bad):=k
  split at k
  ·rename_i hb;have hla:l≠p.1.a:=λz=>by rw[z,r0.ins]at el;cases el
   refine#[p.1.a,κ.C,p.1.dx,fs',rfl,r.ins,g.cls,hna,by rw[r.len];omega,l,[],by rw[JAJ hla];exact s2 _ _ JAH,?_]
   have st:∀b o,H b=some o->b≠p.1.a->upd (upd H2 p.1.a (.ins κ.C p.1.dx (putF f (.ref l) fs'))) l (.ext (LsAt l [])) b=some o:=λb o eo nb=>by
    have:b≠l:=λz=>by rw[z,el]at eo;cases eo
    rw[JAJ this,JAJ nb];exact s12 _ _ eo
   have new:=r0.putL (H':=upd (upd H2 p.1.a (.ins κ.C p.1.dx (putF f (.ref l) fs'))) l (.ext (LsAt l []))) hon el JAH (by rw[JAJ hla.symm];exact JAH) st
   refine k (ρ.set n (#[p.1.a,p.1.dx,(f,l)::p.1.ow],JAn f (.list []) p.2)) _ (JEL al e1 rfl (λb o eo nb=>st b o eo λz=>nb (by rw[z];exact List.mem_cons_self ..)) (λb h=>?_) (λb h nh=>?_) new) JI9
   ·unfold Rec.adr at h ⊢;simp![List.map_cons,q_n]at h ⊢;rcases h with h|h|h
    ·exact .inl h
    ·exact .inr (.inl h)
    ·exact .inr (.inr (.inr h))
   ·unfold Rec.adr at h nh;simp![List.map_cons,q_n]at h nh;rcases h with h|h|h|h
    ·exact absurd (.inl h) nh
    ·exact absurd (.inr (.inl h)) nh
    ·rw[h];exact el
    ·exact absurd (.inr (.inr h)) nh
  ·exact k.elim
end
end VI
end
section
namespace VI
open PySem PySem.Spec PyProof.Rows L2
section
variable{κ:Kl}{B:Bs}{XX:Nat->Hp->Prop}{ρ ρ':Tb}{H H':Hp}{X:Cx}{C:Ta->Cn}{f3:F3}{CX:CXT}{G:List (Str×GK)}{L:List (Str×GK3)}{r:Rec}{c:Fs}{fs:List (Str×V)}
def JCP{α:Type}{b:α}{l:List (Str×α)}(h:l.lookup f=some b):b∈l.map (·.2):=List.mem_map.mpr #[(f,b),PySem.mem_of_lookup h,rfl]
theorem JHB{b:Addr}:∀ {l:List (Str×Addr)},(l.map (·.2)).Nodup->l.lookup f=some b->l.lookup g=some b->g=f
 | [],_,h,_=>by cases h
 |(k,x)::l,n,h1,h2=>by
  rw[JC5]at h1 h2;simp![List.map_cons,List.nodup_cons]at n
  split at h1
  · rename_i z1
    split at h2
    ·rename_i z2;rw[z1,z2]
    ·cases h1;exact absurd (JCP h2) n.1
  · split at h2
    ·cases h2;exact absurd (JCP h1) n.1
    ·exact JHB n.2 h1 h2
def RecOk.grow(h:RecOk κ B r c fs H){l:Addr}(hon:κ.on.contains f=true)(hc:c.lookup f=some (.list ds))(hw:r.ow.lookup f=some l)(hf:fs.lookup f=some (.ref l))(hl:H l=some (.ext (LsAt l xs)))(d1:DenL (bare B) H ds xs)(d2:DenL (bare B) H zs ys) :
  RecOk κ B r (JAn f (.list (ds++zs)) c) fs (upd H l (.ext (LsAt l (xs++ys)))):=by
 have kp:Kpt H (upd H l (.ext (LsAt l (xs++ys)))):=JGX hl;have st:∀b o,H b=some o->b≠l->upd H l (.ext (LsAt l (xs++ys))) b=some o:=λb o e n=>by rw[JAJ n];exact e
 have kx:∀b c,H b=some (.ext (ExcAt b c))->upd H l (.ext (LsAt l (xs++ys))) b=some (.ext (ExcAt b c)):=λb c e=>st b _ e λz=>by
  rw[z,hl]at e;exact JFV (a:=b) (b:=l) (by injection e with e;injection e with e;rw[z];exact e.symm) z
 have hne:=h.ow_ne (JCP hw);refine#[st _ _ h.ins hne.1.symm,st _ _ h.own hne.2.symm,h.keys.trans (JCi hc).symm,λg d' e=>?_,λb hb=>?_,h.no]
 ·rw[JBO]at e
  split at e
  ·rename_i z;cases e;subst z;refine#[.ref l,hf,?_];unfold JDQ;rw[hon];exact#[l,hw,rfl,xs++ys,JAH,JBb (B:=bare B) (B':=bare B) rfl rfl rfl kp kx (λ_ _ z=>z) _ _ (DenL.append ds zs xs ys d1 d2)]
  ·rename_i z;obtain⟨w,e3,q⟩:=h.fld g d' e;refine#[w,e3,JD6 kp kx (λ_ b o q1 e2=>st b o e2 λy=>z ?_) q];rw[y]at q1;exact JHB h.no hw q1
 ·by_cases z:b=l
  ·rw[z];exact#[_,JAH]
  ·obtain⟨us,e⟩:=h.ow b hb;exact#[us,st _ _ e z]
def JP3(g:Gk3 X κ B C f3 CX XX G L){o e:Expr}{i:Nat}(hc0:JAh o=false)(ho:∀ρ,PE X o (RE (JAD κ B ρ) (C (pi ρ)) XX (.var i)))(hv:∀ρ,PE X e (RE (JAD κ B ρ) (C (pi ρ)) XX x))(hna:NoAttr X.K κ.C f)(hon:κ.on.contains f=true)(hs:starEach [e] X.env=[(false,eval e X.env)])(hl:(ap.endLine==cp.line)=true) :
  PS X (.Expr (.Call (.Attribute (.Attribute o f p1) "extend" ap) [e] [] cp) pos) (TP3 κ B XX λU π=>oxt3 C U i f x π):=by
 rintro yp s Y H D I ⟨ρ,U,al,ok,k⟩;refine JBo (JPj PySem.F.slot_list_extend PySem.F.type_list_extend JNR (JMI (ho ρ) (JBn hc0 _ _ _)) (JBF (hv ρ) JBe hs) (JBn rfl _ _ _) (few1 hs) hl hs rfl) rfl yp s Y H D I ?_
 replace k:K3 κ B XX ρ H (λ_ _ H'=>D.nx Y H') (oxt3 C U i f x (pi ρ)):=k
 unfold oxt3 at k;cases q:JBZ (pi ρ) U i with
 |none=>rw[q]at k;exact k.elim
 |some z =>
  obtain⟨n,c⟩:=z;rw[q]at k;obtain⟨d0,hl,hd0⟩:=JEN (κ:=κ) (B:=B) q;refine#[U,ok,?_];rw[show ev (C (pi ρ)) (.var i) U=look U i by simp![ev],hl]
  intro u H1 s1 du;obtain⟨p,fs,e1,e2,rfl,r⟩:=hd0 du;subst e2;simp only at k
  split at k
  ·rename_i ds hds;obtain⟨v,hf,fo⟩:=r.fld f _ hds;unfold JDQ at fo;rw[hon]at fo;obtain⟨l,hw,rfl,xs,hx,d1⟩:=fo;refine#[p.1.a,κ.C,p.1.dx,fs,.ref l,rfl,r.ins,g.cls,hna,hf,#[l,xs,rfl,hx],?_];refine r3_E (al.mono s1) (ok.mono s1) (K3.step (.same al s1) k) λd w H2 s2 d2 h2=>?_
   split at h2
   ·rename_i zs
    split at h2
    ·rename_i hb;simp![Den]at d2;obtain⟨b,ys,rfl,sq,d2⟩:=d2;have r2:=r.mono s2;have hx2:=s2 _ _ hx;have d1':=DenL.mono s2 _ _ d1;have d2':=JCs zs ys hb.1 d2;have al2:=(al.mono s1).mono s2;refine#[l,b,xs,ys,rfl,rfl,hx2,by rw[(g.g ρ).K];exact sq,by rw[<-DenL.len ds xs d1,<-DenL.len zs ys d2,sizeLine_eq];exact hb.2,?_]
     refine h2 (ρ.set n (p.1,JAn f (.list (ds++zs)) p.2)) _ (JEL al2 e1 rfl (λb o eo nb=>?_) (λb h=>h) (λb h n=>absurd h n) (r2.grow hon hds hw hf hx2 d1' d2')) JI9;have z:b≠l:=λz=>nb (by rw[z];exact q_s _ (q_s _ (JCP hw)))
     rw[JAJ z];exact eo
    ·exact h2.elim
   ·exact h2.elim
  ·exact k.elim
end
end VI
end
section
namespace VI
open PySem PySem.Spec PyProof.Rows L2
section
variable{κ:Kl}{B:Bs}{XX:Nat->Hp->Prop}{ρ ρ':Tb}{H H':Hp}{X:Cx}{C:Ta->Cn}{f3:F3}{CX:CXT}{G:List (Str×GK)}{L:List (Str×GK3)}
def JDV{w:E}{i:Nat}(h:Agr w U U')(hi:w.uses i=true):JBZ π U i=JBZ π U' i:=by
 unfold JBZ look;rw[h i hi]
def JK0{i:Nat}(U U':Env)(π:Ta)(h:Agr (.cons (.var i) x) U U'):fld3 C U i f x π=fld3 C U' i f x π:=by
 unfold fld3;rw[JDV h (i:=i) (by simp[E.uses]),(agree (C π) x U U' λj hj=>h j (by simp![E.uses];exact ub_r hj)).1]
def JLi{i:Nat}(U U':Env)(π:Ta)(h:Agr (.var i) U U'):fln3 U i f π=fln3 U' i f π:=by
 unfold fln3;rw[JDV h (i:=i) (by simp[E.uses])]
def JLh{i:Nat}(U U':Env)(π:Ta)(h:Agr (.cons (.var i) x) U U'):oxt3 C U i f x π=oxt3 C U' i f x π:=by
 unfold oxt3;rw[JDV h (i:=i) (by simp[E.uses]),(agree (C π) x U U' λj hj=>h j (by simp![E.uses];exact ub_r hj)).1]
def r_fld(g:Gk3 X κ B C f3 CX XX G L){o e:Expr}{i:Nat}(ho:∀ρ,PE X o (RE (JAD κ B ρ) (C (pi ρ)) XX (.var i)))(hv:∀ρ,PE X e (RE (JAD κ B ρ) (C (pi ρ)) XX x))(hna:NoAttr X.K κ.C f)(hon:κ.on.contains f=false)(hs:swapsWith e (some (.Attribute o f pos')) pos.line X.env=pure false):PS X (.Assign [.Attribute o f pos'] e pos) (RS3 X κ B C f3 XX (.fld i f x)) :=
 PS.imp (JJY (w:=.cons (.var i) x) JK0 (JP9 g ho hv hna hon hs)) λD Y H ⟨ρe,He,ρ,U,O,Hb,hd,st,so,k⟩=>#[ρe,He,ρ,U,O,Hb,hd,st,so,by simpa only[JAI] using k]
def r_fln(g:Gk3 X κ B C f3 CX XX G L){i:Nat}(ho:∀ρ,PE X o (RE (JAD κ B ρ) (C (pi ρ)) XX (.var i)))(hna:NoAttr X.K κ.C f)(hon:κ.on.contains f=true)(hs:swapsWith (.List [] lp) (some (.Attribute o f pos')) pos.line X.env=pure false):PS X (.Assign [.Attribute o f pos'] (.List [] lp) pos) (RS3 X κ B C f3 XX (.fln i f)) :=
 PS.imp (JJY (w:=.var i) JLi (JRl g ho hna hon hs)) λD Y H ⟨ρe,He,ρ,U,O,Hb,hd,st,so,k⟩=>#[ρe,He,ρ,U,O,Hb,hd,st,so,by simpa only[JAI] using k]
def r_oxt(g:Gk3 X κ B C f3 CX XX G L){o e:Expr}{i:Nat}(hc0:JAh o=false)(ho:∀ρ,PE X o (RE (JAD κ B ρ) (C (pi ρ)) XX (.var i)))(hv:∀ρ,PE X e (RE (JAD κ B ρ) (C (pi ρ)) XX x))(hna:NoAttr X.K κ.C f)(hon:κ.on.contains f=true)(hs:starEach [e] X.env=[(false,eval e X.env)])(hl:(ap.endLine==cp.line)=true) :
  PS X (.Expr (.Call (.Attribute (.Attribute o f p1) "extend" ap) [e] [] cp) pos) (RS3 X κ B C f3 XX (.oxt i f x)) :=
 PS.imp (JJY (w:=.cons (.var i) x) JLh (JP3 g hc0 ho hv hna hon hs hl)) λD Y H ⟨ρe,He,ρ,U,O,Hb,hd,st,so,k⟩=>#[ρe,He,ρ,U,O,Hb,hd,st,so,by simpa only[JAI] using k]
end
end VI
end
section
namespace VI
open PySem PySem.Spec PyProof.Rows L2
section
variable{κ:Kl}{B:Bs}{C:Ta->Cn}{f3:F3}{G:List (Str×GK)}{L:List (Str×GK3)}{P:Program}{w:World}{mg:Mq}{base:Heap}
def JMe{n:Nat}{x q0:Str}{st:Stmt}{f:Addr}{fo:FuncData}{N ps:List Str}{fd:Fd3}(F:Fun B.K x q0 st f fo)(sc:FnScope N ps (JAM st))(hpar:fd.par=ps.length)(hsl:fd.slots=N.length)
  (hb:∀(cdv:Value) (A:Around) (outer:List PySem.Env) (s:Shared) (H:Hp) (E:XK),Room n (A.deeper (envOfC q0 (JAM st) s.heap.objs.size f cdv))->PSs (cxOf (CXV P w B) P w B.K mg base N q0 (JAM st) f cdv A outer s H E) (JAX st) (RS3 (cxOf (CXV P w B) P w B.K mg base N q0 (JAM st) f cdv A outer s H E) κ B C f3 (XXd B E) fd.body)) :
  FnOk P w B.K mg base (CXV P w B) (n+1) f fo ps (stSp κ B ps.length (JCN C f3 fd)):=by
 obtain⟨oc,od,kV,doc,pm,an,cdv,ct,osl,rfl,lk,hcd⟩:=F.ex;refine JOJ lk hcd sc (λvs H Q E q=>q.1) λA outer s H vs Q E hr q=>?_;obtain⟨hl,ρ,ds,al,dn,q⟩:=q;refine#[_,hb cdv A outer s H E hr,ρ,H,ρ,_,_,H,Dm.refl H,.same al (Same.refl H),JCU dn rfl ?_,?_]
 ·have:=congrArg List.length sc.pre;rw[List.length_take]at this;omega
 have hlen:=DenL.len ds vs dn;have hpl:ps.length<=N.length:=by have:=congrArg List.length sc.pre;rw[List.length_take]at this;omega
 unfold JCN at q;rw[if_pos (by rw[hpar];omega)]at q
 rw[show fd.slots - fd.par=N.length - ds.length by rw[hsl,hpar];omega]at q
 cases he:JAI C f3 fd.body (ds.map Sl.val++List.replicate (N.length - ds.length) Sl.no) (pi ρ) with
 |nx U π =>
  rw[he]at q;exact λρ' Y' H' O' Hb' e st' so'=>q ρ' H' (st'.then so'.same) e .non (by simp![Den])
 |rt d π =>
  rw[he]at q;exact λρ' v H' e st' dn'=>q ρ' H' st' e v dn'
 |ex c π =>
  rw[he]at q;exact λρ' H' e st' H2 s2=>q ρ' H2 (st'.then s2) e
 |bk U π=>rw[he]at q;exact q.elim
 |ct U π=>rw[he]at q;exact q.elim
 |bad=>rw[he]at q;exact q.elim
def JPm{n:Nat}{x q0:Str}{st:Stmt}{f:Addr}{fo:FuncData}{N ps:List Str}{fd:Fd}{C:Cn}(F:Fun B.K x q0 st f fo)(sc:FnScope N ps (JAM st))(hpar:fd.par=ps.length)(hsl:fd.slots=N.length)
  (hb:∀(cdv:Value) (A:Around) (outer:List PySem.Env) (s:Shared) (H:Hp) (E:XK),Room n (A.deeper (envOfC q0 (JAM st) s.heap.objs.size f cdv))->PSs (cxOf (CXV P w B) P w B.K mg base N q0 (JAM st) f cdv A outer s H E) (JAX st) (RSt (cxOf (CXV P w B) P w B.K mg base N q0 (JAM st) f cdv A outer s H E) B C (XXd B E) fd.body)) :
  FnOk P w B.K mg base (CXV P w B) (n+1) f fo ps (JBQ B ps.length (JB1 true C fd)):=by
 obtain⟨oc,od,kV,doc,pm,an,cdv,ct,osl,rfl,lk,hcd⟩:=F.ex;refine JOJ lk hcd sc (λvs H Q E q=>q.1) λA outer s H vs Q E hr q=>?_;obtain⟨hl,ds,dn,q⟩:=q;have hlen:=DenL.len ds vs dn;have hpl:ps.length<=N.length:=by have:=congrArg List.length sc.pre;rw[List.length_take]at this;omega
 refine#[_,hb cdv A outer s H E hr,_,_,H,Dm.refl H,JCU dn rfl ∅,?_]
 simp![JB1]at q;rw[if_pos (by rw[hpar];omega)]at q
 rw[show fd.slots - fd.par=N.length - ds.length by rw[hsl,hpar];omega]at q
 split at q
 ·rename_i r d hd
  split at hd
  · rename_i U he
    cases hd;rw[he];exact λY' H' O' so'=>q .non H' so'.same (by simp![Den])
  · rename_i d' he
    cases hd;rw[he];exact λv H' sm dn'=>q v H' sm dn'
  · simp at hd
  · cases hd
 ·rename_i r c hd
  split at hd
  · cases hd
  · cases hd
  · rename_i c' he
    simp![if_true,R.exc.injEq]at hd;subst hd;rw[he];exact q
  · cases hd
 ·exact q.elim
end
end VI
end
section
namespace VI
open PySem PySem.Spec PyProof.Rows L2
abbrev JLb(L:List (Str×GK3))(names:Nq)(x:Str):Option GK3 :=
 if JAR x=true then none else if names.lookup x=some .globalImplicit then L.lookup x else none
def JEO{L:List (Str×GK3)}(h:JLb L names x=some k):JAR x=false/\names.lookup x=some .globalImplicit/\L.lookup x=some k:=by
 unfold JLb at h
 split at h
 ·cases h
 ·rename_i hb
  split at h
  ·rename_i hg;exact#[by simpa using hb,hg,h]
  ·cases h
abbrev JB3(L:List (Str×GK3))(names:Nq)(f:Expr->Option E):Nat->Expr->Option V3
 |0,_=>none
 |n+1,e=>match e with
  |.Call (.Name nm _) args [] _=>(match JLb L names nm with
   |some (.fn i)=>if args.isEmpty=true then none else (JAN f args).map (V3.cal i)
   |some (.mak i)=>(JAN f args).map (V3.mak i)
   |some (.met _)=>none
   |none=>(f e).map V3.pur)
  |.Compare a [op] [b] _=>(match f e with
   |some y=>some (.pur y)
   |none=>if behindInMarks op b=false then (JB3 L names f n a).bind λx=>(f b).map (V3.cmv op x) else none)
  |.Call (.Attribute o m ap) args [] cp=>(match L.lookup m with
   |some (.met i)=>if JAh o=false/\(ap.endLine==cp.line)=true/\¬20<args.length then (f o).bind λx=>(JAN f args).map (V3.met i m x) else none
   |_=>(f e).map V3.pur)
  |_=>(f e).map V3.pur
abbrev JDu(L:List (Str×GK3))(names:Nq)(f:Expr->Option E):Nat->Expr->Option T3
 |0,_=>none
 |n+1,e=>match f e with
  |some x=>some (.pur x)
  |none=>match e with
   |.Compare a [op] [b] _=>if behindInMarks op b=false then (JB3 L names f 5 a).bind λx=>(f b).map (T3.cmp op x) else none
   |.BoolOp .Or [a,b] _=>(JDu L names f n a).bind λx=>(JDu L names f n b).map (T3.or x)
   |.UnaryOp .Not (.Call a b c d) _=>(JB3 L names f 5 (.Call a b c d)).map T3.nv
   |_=>none
section
variable{κ:Kl}{B:Bs}{XX:Nat->Hp->Prop}{X:Cx}{C:Ta->Cn}{f3:F3}{CX:CXT}{G:List (Str×GK)}{L:List (Str×GK3)}{names:Nq}{N:List Str}{n0:Nat}
def pa3(g:Gk3 X κ B C f3 CX XX G L)(hE:∀ρ e x,JAO G n0 false names N e=some x->PE X e (RE (JAD κ B ρ) (C (pi ρ)) XX x))(h:JAN (JAO G n0 false names N) es=some x)(ρ:Tb):PA X es (RA (JAD κ B ρ) (C (pi ρ)) XX x):=JHh (pes (hE ρ) h) (g.g ρ) (JCQ h)
def JRW(g:Gk3 X κ B C f3 CX XX G L){a b:Expr}(ha:PE X a (RE3 κ B C f3 XX x))(hb:∀ρ,PE X b (RE (JAD κ B ρ) (C (pi ρ)) XX y))(hm:behindInMarks op b=false):PE X (.Compare a [op] [b] pos) (RE3 κ B C f3 XX (.cmv op x y)):=by
 have ho:OpR X (compareOp op) (λu w H Q=>∃ρ dx dy,Den (JAD κ B ρ) H dx u/\Den (JAD κ B ρ) H dy w/\KE (JAD κ B ρ) XX (cmpD op dx dy) H Q):=λyp s Y H x y v u Q I rx ry ⟨ρ,h⟩=>JKd (g.g ρ) op yp s Y H x y v u Q I rx ry h;have hb':PE X b (λY H Q=>∃ρ,RE (JAD κ B ρ) (C (pi ρ)) XX y Y H Q):=λyp s Y H Q I ⟨ρ,h⟩=>hb ρ yp s Y H Q I h;rintro yp s Y H Q I ⟨ρ,U,al,ok,k⟩;simp![ev3]at k;refine JJl ho ha hb' hm yp s Y H Q I (r3_V al ok k λd v ρ' H' st dn h1=>#[ρ',?_]);have h1:K3 κ B XX ρ' H' (PV κ B Q) (((ev (C (pi ρ')) y U).at (pi ρ')).bind λdy π=>(cmpD op d dy).at π):=by
  cases q:ev (C (pi ρ')) y U<;>(rw[q]at h1;exact h1)
 refine r3_E st.all (st.sok al ok) h1 λdy u H2 s2 d2 h2=>#[ρ',d,dy,Den.mono s2 _ _ dn,d2,?_];cases q:cmpD op d dy with
 |ok w=>rw[q]at h2;exact λz H3 s3 d3=>h2 ρ' H3 (.same (st.all.mono s2) s3) rfl z d3
 |exc c=>rw[q]at h2;exact h2 ρ' H2 (.same (st.all.mono s2) (Same.refl _)) rfl
 |bad=>rw[q]at h2;exact h2.elim
theorem JD0(g:Gk3 X κ B C f3 CX XX G L)(hk:X.env.scope.kind=.function)(hn:X.env.scope.names=names)(hE:∀ρ e x,JAO G n0 false names N e=some x->PE X e (RE (JAD κ B ρ) (C (pi ρ)) XX x)) :
  ∀(n:Nat) (e:Expr) (x:V3),JB3 L names (JAO G n0 false names N) n e=some x->PE X e (RE3 κ B C f3 XX x)
 |0,e,x,h=>by simp![JB3]at h;cases h
 |n+1,e,x,h=>by
  have pur:∀ {e:Expr}{x:V3},(JAO G n0 false names N e).map V3.pur=some x->PE X e (RE3 κ B C f3 XX x):=λ{e x} h=>by
   obtain⟨y,h1,rfl⟩:=q_d.mp h;exact JMG λρ=>hE ρ e y h1
  have gl:∀ {x:Str},names.lookup x=some .globalImplicit->Gl X x:=λ{x} h=>by
   unfold Gl;rw[show X.env.kindOf x=X.env.scope.names.lookup x from rfl,hn];exact h
  have h0:∀ {es:List Expr}{x:E},JAN (JAO G n0 false names N) es=some x->es=[]->x=.nil:=λ{es x} h e=>by subst e;unfold JAN at h;cases h;rfl
  unfold JB3 at h
  split at h
  ·rename_i nm p args pos
   split at h
   ·rename_i i hg;obtain⟨b1,b2,b3⟩:=JEO hg
    split at h
    ·cases h
    ·rename_i hne;obtain⟨y,h1,rfl⟩:=q_d.mp h;cases args with
     |nil=>exact absurd rfl hne
     |cons a r=>exact JRO g (gl b2) b3 b1 (pa3 g hE h1) (JCQ h1 a (List.mem_cons_self ..) r X.env) (JB0 λb hb=>JCQ h1 b (q_s _ hb)).2
   ·rename_i i hg;obtain⟨b1,b2,b3⟩:=JEO hg;obtain⟨y,h1,rfl⟩:=q_d.mp h;exact JLw g (gl b2) b3 b1 (h0 h1) (pa3 g hE h1) (JCQ h1)
   ·cases h
   ·exact pur h
  ·split at h
   ·rename_i y h1;cases h;exact JMG λρ=>hE ρ _ y h1
   ·split at h
    ·rename_i hm;obtain⟨y,h1,h⟩:=q_a.mp h;obtain⟨z,h2,rfl⟩:=q_d.mp h;exact JRW g (JD0 g hk hn hE n _ y h1) (λρ=>hE ρ _ z h2) hm
    ·cases h
  ·rename_i o m ap args cp
   split at h
   ·rename_i i hl
    split at h
    ·rename_i hc;obtain⟨c1,c2,c3⟩:=hc;obtain⟨y,h1,h⟩:=q_a.mp h;obtain⟨y',h2,rfl⟩:=q_d.mp h;exact JPr g hl c1 c2 c3 (h0 h2) (λρ=>hE ρ o y h1) (pa3 g hE h2) (JCQ h2)
    ·cases h
   ·exact pur h
  ·exact pur h
theorem JF2(g:Gk3 X κ B C f3 CX XX G L)(hk:X.env.scope.kind=.function)(hn:X.env.scope.names=names)(hE:∀ρ e x,JAO G n0 false names N e=some x->PE X e (RE (JAD κ B ρ) (C (pi ρ)) XX x))(hT:∀ρ e x,JAO G n0 false names N e=some x->PT X e (RT (JAD κ B ρ) (C (pi ρ)) XX x))
  : ∀(n:Nat) (e:Expr) (x:T3),JDu L names (JAO G n0 false names N) n e=some x->PT X e (RT3 κ B C f3 XX x)
 |0,e,x,h=>by simp![JDu]at h;cases h
 |n+1,e,x,h=>by
  unfold JDu at h
  split at h
  ·rename_i y h1;cases h;exact JQi λρ=>hT ρ e y h1
  ·split at h
   ·split at h
    ·rename_i hm;obtain⟨y,h1,h⟩:=q_a.mp h;obtain⟨z,h2,rfl⟩:=q_d.mp h;exact JRK g (JD0 g hk hn hE _ _ y h1) (λρ=>hE ρ _ z h2) hm
    ·cases h
   ·obtain⟨y,h1,h⟩:=q_a.mp h;obtain⟨z,h2,rfl⟩:=q_d.mp h;exact(t3_or (JF2 g hk hn hE hT n _ y h1) (JML (JF2 g hk hn hE hT n _ z h2))).pt
   ·obtain⟨y,h1,rfl⟩:=q_d.mp h;exact t3_nv (JD0 g hk hn hE _ _ y h1) λ_=>rfl
   ·cases h
end
end VI
end
section
namespace VI
open PySem PySem.Spec PyProof.Rows L2
section
variable{κ:Kl}{B:Bs}{XX:Nat->Hp->Prop}{X:Cx}{C:Ta->Cn}{f3:F3}{CX:CXT}{G:List (Str×GK)}{L:List (Str×GK3)}{names:Nq}{N:List Str}
def r_un3[Cool G](g:Gk3 X κ B C f3 CX XX G L){e:Expr}{k:Nat}{pt pos:Pos}(he:PE X e (RE3 κ B C f3 XX v))(hn:X.env.scope.names=names)(hN:X.N=N)(hnd:N.Nodup)(hfn:∀nm,X.fn nm=true\/X.env.scope.names.lookup nm≠some .cell)
  (h:slots names N ts=some is) (hs:swapsWithSole [.Tuple ts k pt] e pos.line X.env=pure false) (hw:swappedStores [.Tuple ts k pt] e X.env=pure none):PS X (.Assign [.Tuple ts k pt] e pos) (RS3 X κ B C f3 XX (.un3 is v)):=by
 obtain⟨q1,q2⟩:=JCT (env:=X.env) h;refine PS.imp (JLs (JHA (w:=v.toE) (λ_ h=>h) he) (JNA (g.g []) (JC1 hn hN hnd hfn h) q2 q1) hs hw rfl) λDe Y H h_=>?_;obtain⟨ρe,He,ρ,U,O,Hb,hd,st,so,k⟩:=h_;refine#[ρe,He,ρ,U,O,Hb,hd,st,so,?_];simp![JAI]at k;cases q:ev3 C f3 (JAL v.toE 0 U) v (pi ρ) with
 |exc c π=>rw[q]at k;exact k
 |bad=>rw[q]at k;exact k
 |ok d π =>
  rw[q]at k;simp![step3]at k;intro ρ' H' O' Hb' e st' so' eh u dn;subst eh;cases qu:JAd is.length d with
  |exc c=>cases d<;>simp![JAd]at qu<;>first|(cases qu;done)|(split at qu<;>cases qu)
  |bad=>rw[qu]at k;exact k.elim
  |ok ds =>
    rw[qu]at k;obtain⟨hl,a,xs,rfl,sq,dl⟩:ds.length=is.length/\∃a xs,u=.ref a/\(SqT X.K H' a xs\/SqL X.K H' a xs)/\DenL (JAD κ B ρ') (hid H' O') ds xs:=by
     cases d<;>simp![JAd]at qu<;>first|(cases qu;done)|skip
     all_goals
      split at qu
      ·rename_i hy;cases qu;simp![Den]at dn;obtain⟨a,xs,e1,e2,e3⟩:=dn
       first
        |exact⟨hy,a,xs,e1,.inl (JOH same_hidP ((g.g ρ').K▸e2)),e3⟩
        |exact⟨hy,a,xs,e1,.inr (same_hidP.seq ((g.g ρ').K▸e2)),e3⟩
      ·cases qu
    have hx:=DenL.len _ _ dl;obtain⟨O2,so2⟩:=JCR is ds xs so' dl;exact#[a,xs,rfl,sq,by omega,by omega,k ρ' _ _ O2 _ e st' so2]
def r_ext(g:Gk3 X κ B C f3 CX XX G L){i:Nat}(hN:X.N[i]? = some nm)(hv:Vis X.env.scope nm)(hbn:JAR nm=false)(he:PE X a (RE3 κ B C f3 XX v))(hs:starEach [a] X.env=[(false,eval a X.env)])(hl:(ap.endLine==cp.line)=true) :
  PS X (.Expr (.Call (.Attribute (.Name nm p1) "extend" ap) [a] [] cp) pos) (RS3 X κ B C f3 XX (.ext i v)):=by
 refine PS.imp (JBo (JHN PySem.F.plainAttrs_list PySem.F.slot_list_extend PySem.F.type_list_extend JF5 (JDJ hN hv (JAA hbn).1 (JAA hbn).2.1) (JBF (JHA (w:=v.toE) (λ_ h=>h) he) JBe hs) rfl (by rw[hs];rfl) hl hs rfl) rfl) λDe Y H h_=>?_
 obtain⟨ρe,He,ρ,U,O,Hb,hd,st,so,k⟩:=h_;simp![JAI]at k
 split at k
 ·rename_i ds hi;obtain⟨l,xs,q1,q2,q3,q4⟩:=(JEc so v.toE).slotOwn hi;refine#[_,q2,.inl #[rfl,xs,SqL.of q3],ρe,He,ρ,U,O,Hb,hd,st,so,?_];cases q:ev3 C f3 (JAL v.toE 0 U) v (pi ρ) with
  |exc c π=>rw[q]at k;exact k
  |bad=>rw[q]at k;exact k
  |ok d π =>
   rw[q]at k;simp![step3]at k;intro ρ' H' O' Hb' e st' so' eh u dn;subst eh;unfold ext3 at k
   split at k
   ·rename_i zs
    split at k
    ·rename_i hlen;obtain⟨l',xs',r1,r2,r3,r4⟩:=so'.slotOwn hi;rw[q2]at r2;cases r2;simp![Den]at dn;obtain⟨Da,zv,e1,e2,e3⟩:=dn;exact#[l,Da,xs',zv,rfl,by rw[e1],r3,same_hidP.seq ((g.g ρ').K▸e2),by rw[<-DenL.len ds xs' r4,<-DenL.len zs zv e3,sizeLine_eq];exact hlen,k ρ' _ _ O' _ e st' (JEv so' r1 (DenL.append ds zs xs' zv r4 e3))]
    ·exact k.elim
   ·exact k.elim
 ·exact k.elim
abbrev Sts.tab(κ:Kl)(B:Bs):Sts Tb:=#[JAD κ B,Recs κ B,StepR κ B,λ_ _ _ h s=>.same h s,StepR.trans,StepR.all,λh s=>(h.off s.off).1,λd v h s q=>s.den h d v q]
def JRj[Cool G](g:Gk3 X κ B C f3 CX XX G L){i:Nat}{sc:Scope}(bk:BlkOk X sc [nm])(hi:∀ρ,PI X (.Name nm px) iter (RI (JAD κ B ρ) (C (pi ρ)) XX z))(hs:∀v,foldedSetIterable iter X.env v=pure v)
  (hloc:∀Cc fp s0 H0,(JAl X sc Cc ([nm]++mask [nm] 0 X.N) fp s0 H0).env.scope.names.lookup nm=some .local)
  (he:∀Cc fp s0 H0,PE (JAl X sc Cc ([nm]++mask [nm] 0 X.N) fp s0 H0) elt (RE3 κ B C f3 (λ_ _=>False) (.mak i x))):PE X (.ListComp elt [#[.Name nm px,iter,[],0]] sc pos) (RE3 κ B C f3 XX (.lmk i x z)):=by
 rintro yp s Y H Q I ⟨ρ,U,al,ok,k⟩;rw[eval_ListComp];simp![ev3]at k;cases q:evI (C (pi ρ)) z U with
 |bad=>rw[q]at k;exact k.elim
 |exc c =>
  rw[q]at k;refine wpAny_comprehension_free rfl hs (bk.clos I.ok) bk.kind bk.loc (wpAny_mono (hi ρ yp s Y H (λ_ _=>False) I #[U,ok,by rw[q];exact k ρ H (.same al (Same.refl _)) rfl]) (λxv s₁ h₁=>wpAny_mono h₁ (λitv s₂ h₂=>?_) (λ_ _ e=>e)) (λ_ _ e=>e))
  obtain⟨_,_,_,_,_,_,_,_,_,_,f⟩:=h₂;exact f.elim
 |ok ds =>
  rw[q]at k
  replace k:K3 κ B XX ρ H (PV κ B Q) (if ds.length<=16777216 then mks C f3 i x U ds [] (pi ρ) else .bad):=k
  split at k
  case isFalse=>exact k.elim
  rename_i hlen;generalize hm:mks C f3 i x U ds [] (pi ρ)=r0 at k;have hb:r0≠.bad:=λz=>by rw[z]at k;exact k
  refine JFZ (Sts.tab κ B) (t0:=ρ) (R:=λρ' ds ys=>mks C f3 i x U ds ys (pi ρ')=r0) (use:=none) (g.g ρ) bk (hi ρ) hs (λCc fp s0 H0=>?_) I al ok q hlen hm ?_
  · rintro yp s pre H ρ d ds ys v u hpre hR al I r dn ok
    unfold mks at hR;refine thn (JE2 (by exact bk.nd) rfl (hloc Cc fp s0 H0) rfl yp s pre H d v u _ hpre rfl I r dn ok) λ_ s2 h_=>?_
    obtain⟨P,hlen,I2,ok1⟩:=h_;refine wpAny_tests_nil ?_;rw[if_pos rfl];cases qm:mk3 C f3 i x (.val d::U) (pi ρ) with
    |bad=>rw[qm]at hR;exact(hb hR.symm).elim
    |exc c π=>rw[qm]at hR;exact(hb hR.symm).elim
    |ok y π =>
     rw[qm]at hR;refine thn (he Cc fp s0 H0 yp s2 (P++Y) H (λw H'=>∃ρ',StepR κ B ρ H ρ' H'/\pi ρ'=π/\Den (JAD κ B ρ') H' y w) I2 #[ρ,.val d::U,al,ok1,by simp![ev3,qm];exact λρ' H' st e v dn=>#[ρ',st,e,dn]]) λxv s4 h_=>?_
     obtain⟨w,H',I4,rw4,ρ',st,e,dn4⟩:=h_;exact#[ρ',y,P,H',w,by subst e;exact hR,hlen,I4,st,rw4,dn4]
  · rintro ys D Cc s' m ρ' H3 yv hn J st hR hD dn h1 h2 h3 h4 h5
    unfold mks at hR;subst hR;refine#[m,hn,λh' hsb=>?_];have J':=J.turned (h':=h') (t':=s'.toks) (it:=Cc) (λb o hb e=>(hsb.2 b hb).trans e) h1 h2 (.inr h3) h4 h5;refine#[.ref D,_,J',rfl,k ρ' _ (StepR.then st (JA0 hD)) rfl _ ?_];simp![Den];exact#[D,yv,rfl,SqL.of JAH,DenL.mono (JA0 hD) _ _ dn]
end
end VI
end
section
namespace VI
open PySem PySem.Spec PyProof.Rows L2
abbrev JGW:Expr->Bool
 |.ListComp _ _ _ _=>false
 |.SetComp _ _ _ _=>false
 |.DictComp _ _ _ _ _=>false
 |_=>true
def JCA{e:Expr}(h:JGW e=true)(t:Option Expr)(l:Nat)(env:PySem.Env):swapsWith e t l env=pure false:=by
 cases e<;>first|rfl|cases h
abbrev tg3:List Expr->Option (Expr×Str)
 | [.Attribute o f _]=>some (o,f)
 |_=>none
def JPh(h:tg3 ts=some (o,f)):∃p,ts=[.Attribute o f p]:=by
 unfold tg3 at h
 split at h
 ·cases h;exact#[_,rfl]
 ·cases h
abbrev nilL:Expr->Bool
 |.List [] _=>true
 |_=>false
def JOb{e:Expr}(h:nilL e=true):∃p,e=.List [] p:=by
 unfold nilL at h
 split at h
 ·exact#[_,rfl]
 ·cases h
abbrev JNa(e:Expr):Option (Expr×Str×Expr):=match e with
 |.Call (.Attribute (.Attribute o f _) m ap) [a] [] cp=>if m="extend"/\JAh o=false/\(ap.endLine==cp.line)=true then some (o,f,a) else none
 |_=>none
def JKO{e:Expr}(h:JNa e=some (o,f,a)):∃p1 ap cp,e=.Call (.Attribute (.Attribute o f p1) "extend" ap) [a] [] cp/\JAh o=false/\(ap.endLine==cp.line)=true:=by
 unfold JNa at h
 split at h
 ·split at h
  ·rename_i hc;obtain⟨rfl,c2,c3⟩:=hc;cases h;exact#[_,_,_,rfl,c2,c3]
  ·cases h
 ·cases h
abbrev JKy:E->Option Nat
 |.var i=>some i
 |_=>none
def JGj{i:Nat}(h:JKy x=some i):x=.var i:=by
 unfold JKy at h
 split at h
 ·cases h;rfl
 ·cases h
abbrev JBf(f:Stmt->Option S3):List Stmt->Option S3
 | []=>some .nil
 |st::r=>(f st).bind λa=>(JBf f r).map (S3.cons a)
abbrev handOf:List ExceptHandler->Option (Str×Str×Str)
 | [.ExceptHandler (some (.Name cn _)) (some en) [.Assign [.Name kn _] (.Name en2 _) _] _]=>if en2=en then some (cn,en,kn) else none
 |_=>none
def JFn(h:handOf hs=some q):∃np p1 p2 p3 hp,hs=[.ExceptHandler (some (.Name q.1 np)) (some q.2.1) [.Assign [.Name q.2.2 p1] (.Name q.2.1 p2) p3] hp]:=by
 rcases hs with _|⟨⟨ty,en,b,hp⟩,hs⟩
 ·exact JAG h
 rcases ty with _|ty
 ·exact JAG h
 cases ty<;>try exact JAG h
 rename_i cn np;rcases en with _|en
 ·exact JAG h
 rcases b with _|⟨st,b⟩
 ·exact JAG h
 cases st<;>try exact JAG h
 rename_i ts v p3;rcases ts with _|⟨t1,ts⟩
 ·exact JAG h
 cases t1<;>try exact JAG h
 rcases ts with _|⟨_,_⟩<;>try exact JAG h
 cases v<;>try exact JAG h
 rcases b with _|⟨_,_⟩<;>try exact JAG h
 rcases hs with _|⟨_,_⟩<;>try exact JAG h
 dsimp only[handOf]at h
 split at h
 ·rename_i e;cases h;subst e;exact#[_,_,_,_,_,rfl]
 ·cases h
def JHO{e:Expr}(h:isStar e=false)(es:List Expr)(env:PySem.Env):starEach (e::es) env=(false,eval e env)::starEach es env:=by
 cases e<;>first|rfl|cases h
abbrev JOV:List Comprehension->Option (Str×Expr)
 | [⟨.Name k _,iter,[],a⟩]=>if a=0 then some (k,iter) else none
 |_=>none
def JLR(h:JOV gs=some q):∃p,gs=[#[.Name q.1 p,q.2,[],0]]:=by
 rcases gs with _|⟨⟨tg,it,ifs,a⟩,gs⟩
 ·exact JAG h
 cases tg<;>try exact JAG h
 cases ifs<;>try exact JAG h
 cases gs<;>try exact JAG h
 dsimp only[JOV]at h
 split at h
 ·rename_i z;cases h;subst z;exact#[_,rfl]
 ·cases h
abbrev JRe:Expr->Option (Str×List Expr)
 |.Call (.Name nm _) args [] _=>some (nm,args)
 |_=>none
def JKQ{e:Expr}(h:JRe e=some q):∃p pos,e=.Call (.Name q.1 p) q.2 [] pos:=by
 cases e<;>try exact JAG h
 rename_i f as ks p;cases f<;>try exact JAG h
 cases ks<;>try exact JAG h
 cases h;exact#[_,_,rfl]
abbrev JRU:Expr->Option (Expr×List Comprehension×Scope)
 |.ListComp elt gs sc _=>some (elt,gs,sc)
 |_=>none
def JKx{e:Expr}(h:JRU e=some q):∃p,e=.ListComp q.1 q.2.1 q.2.2 p:=by
 cases e<;>try exact JAG h
 cases h;exact#[_,rfl]
abbrev JLo(G:List (Str×GK))(L:List (Str×GK3))(n0:Nat)(names:Nq)(N:List Str)(e:Expr):Option V3 :=
 (JRU e).bind λq=>(JRe q.1).bind λc=>(JOV q.2.1).bind λk=>if q.2.2.kind=.function/\JBW names q.2.2.names [k.1] N=true then
   (JAO G n0 true names N k.2).bind λz=>(match JLb L (JAt names q.2.2.names) c.1 with
   |some (.mak i)=>(JAN (JAO G n0 false (JAt names q.2.2.names) ([k.1]++mask [k.1] 0 N)) c.2).map λx=>.lmk i x z
   |_=>none) else none
abbrev tgT:List Expr->Option (List Expr)
 | [.Tuple ts _ _]=>some ts
 |_=>none
def JSP(h:tgT ts=some ts'):∃k p,ts=[.Tuple ts' k p]:=by
 unfold tgT at h
 split at h
 ·cases h;exact#[_,_,rfl]
 ·cases h
def JE8{k:Nat}{pt p:Pos}{sc:Scope}:swappedStores [.Tuple ts k pt] (.ListComp elt gs sc p) env=pure none:=by
 unfold swappedStores;rfl
abbrev JBg(G:List (Str×GK))(L:List (Str×GK3))(on fl:List Str)(n0:Nat)(names:Nq)(N:List Str):Nat->Bool->Stmt->Option S3
 |0,_,_=>none
 |n+1,zz,st =>
  let vdr:=λe=>if JGW e=true then (JB3 L names (JAO G n0 false names N) 6 e).map S3.drop else none
  match JCK G n0 zz names N st with
  |some t=>some (.st t)
  |none=>match st with
   |.Return (some e) _=>(JB3 L names (JAO G n0 false names N) 6 e).map S3.ret
   |.Assign ts e _=>(match tgT ts with
    |some ts'=>(slots names N ts').bind λis=>if is.Nodup then (JLo G L n0 names N e).map (S3.un3 is) else none
    |none=>if JGW e=true then (match tg3 ts with
     |some (o,f)=>if fl.contains f=true then ((JAO G n0 false names N o).bind JKy).bind λi=>if on.contains f=true then (if nilL e=true then some (.fln i f) else none) else (JAO G n0 false names N e).map (S3.fld i f) else none
     |none=>none) else none)
   |.Expr e _=>(match JNa e with
    |some (o,f,a)=>if fl.contains f=true/\on.contains f=true then ((JAO G n0 false names N o).bind JKy).bind λi=>(JAN (JAO G n0 false names N) [a]).bind λ_=>(JAO G n0 false names N a).map (S3.oxt i f) else none
    |none=>(match JGw e with
     |some (x,m,a)=>if JAR x=false/\m="extend"/\isStar a=false then (slot names N x).bind λi=>(JB3 L names (JAO G n0 false names N) 6 a).map (S3.ext i) else vdr e
     |none=>vdr e))
   |.If c a b _=>(JDu L names (JAO G n0 false names N) 6 c).bind λt=>(JBf (JBg G L on fl n0 names N n zz) a).bind λx=>(JBf (JBg G L on fl n0 names N n zz) b).map (S3.ife t x)
   |.For (.Name x _) iter body [] _=>(slot names N x).bind λi=>(JAO G n0 true names N iter).bind λe=>(JBf (JBg G L on fl n0 names N n zz) body).map (S3.for1 i e)
   |.Try body hs [] [] _=>(handOf hs).bind λq=>if zz=true/\JAR q.2.1=false/\names.lookup q.2.1=some .local then (match glob G names q.1 with
    |some (.cls c)=>(JBf (JBg G L on fl n0 names N n false) body).bind λb=>(idxOf q.2.1 N).bind λi=>(slot names N q.2.2).bind λj=>if i=j then none else some (.tryx b c i j)
    |_=>none) else none
   |_=>none
section
variable{κ:Kl}{B:Bs}{C:Ta->Cn}{f3:F3}{CX:CXT}{G:List (Str×GK)}{L:List (Str×GK3)}{names:Nq}{N fl:List Str}{n0:Nat}
theorem JAp(ih:∀st t,f st=some t->PS X st (RS3 X κ B C f3 XX t)):∀ {sts:List Stmt}{t:S3},JBf f sts=some t->PSs X sts (RS3 X κ B C f3 XX t)
 | [],t,h=>by unfold JBf at h;cases h;exact r_nil
 |st::r,t,h=>by
  unfold JBf at h;obtain⟨a,h1,h⟩:=q_a.mp h;obtain⟨b,h2,rfl⟩:=q_d.mp h;exact JQt (ih st a h1) (JAp ih h2)
def JOL[Cool G](ra:∀ρ,Rare (JAD κ B ρ) (C (pi ρ)) CX G)(hnd:N.Nodup)(g:Gk3 X κ B C f3 CX XX G L)(hk:X.env.scope.kind=.function)(hn:X.env.scope.names=names)(hN:X.N=N){e:Expr}(h:JLo G L n0 names N e=some v):(∃elt gs sc p,e=.ListComp elt gs sc p)/\PE X e (RE3 κ B C f3 XX v):=by
 obtain⟨⟨elt,gs,sc⟩,h1,h9⟩:=q_a.mp h;clear h;obtain⟨p,rfl⟩:=JKx h1;clear h1;obtain⟨⟨cn,as⟩,h2,h⟩:=q_a.mp h9;clear h9;obtain⟨p1,p2,rfl⟩:=JKQ h2;obtain⟨⟨k,it⟩,h3,h⟩:=q_a.mp h;obtain⟨p3,rfl⟩:=JLR h3;refine#[#[_,_,_,_,rfl],?_];simp only at h
 split at h
 case isFalse=>cases h
 rename_i hc;obtain⟨z,h4,h⟩:=q_a.mp h
 split at h
 case h_2=>cases h
 rename_i i hg;obtain⟨x,h5,rfl⟩:=q_d.mp h;have bk:=JM9 hk hn hN hc.1 hc.2;obtain⟨b1,b2,b3⟩:=JEO hg;have hS:=λρ=>sound (ra ρ) n0;refine JRj g bk (λρ=>(hS ρ X XX names N (g.g ρ) hk hn hN hnd).2 _ _ z h4) (JD7 h4 X.env) (λCc fp s0 H0=>?_) λCc fp s0 H0=>?_
 ·show(compEnvC sc (JBG X.env.cells sc.names []) Cc X.env).scope.names.lookup k=_;rw[JAr hk];exact JBa (bk.tg k (by simp))
 ·have hn':(JAl X sc Cc ([k]++mask [k] 0 X.N) fp s0 H0).env.scope.names=JAt names sc.names:=by rw[<-hn];exact JAr hk
  have g':Gk3 (JAl X sc Cc ([k]++mask [k] 0 X.N) fp s0 H0) κ B C f3 CX (λ_ _=>False) G L:=#[λρ=>Gk.nox (g.g ρ) rfl rfl rfl rfl rfl rfl rfl λ_ _ _ _ _ _ _ z=>((ra ρ).nox _ _ _ _ _ z).elim,g.cls,g.fn,g.met,g.mak];exact JLw g' (JB6 hn' b2) b3 b1 (λe=>by subst e;unfold JAN at h5;cases h5;rfl) (pa3 g' (λρ e x h=>((hS ρ _ _ _ _ (g'.g ρ) hc.1 hn' (by rw[<-hN];rfl) (by rw[<-hN];exact bk.nd)).1 e x h).1) h5) (JCQ h5)
theorem JEJ[Cool G]{w:World}(ra:∀ρ,Ra3 (JAD κ B ρ) (C (pi ρ)) G P w)(hexm:∀x c,G.lookup x=some (.cls c)->∀π k,(C π).sub k c=true->PySem.W.exmOne B.K (.ref (B.cl k)) (.ref (B.cl c))=some true)(hnd:N.Nodup) :
  ∀(n:Nat) (X:Cx) (XX:Nat->Hp->Prop) (zz:Bool),X.prog=P->X.w=w->Gk3 X κ B C f3 (CXV P w B) XX G L->X.env.scope.kind=.function->X.env.scope.names=names->X.N=N->PassesOwn (model X.prog X.w) X.A X.env X.xe->(∀nm,X.fn nm=true)->(∀f,κ.on.contains f=true->NoAttr X.K κ.C f)->(∀f,fl.contains f=true->NoAttr X.K κ.C f) ->
   (zz=true->(∀ρ,JIE X (JAD κ B ρ) G XX)/\X.stack=X.env::X.outer/\X.env.frame=some X.env.locals/\X.ex=[]/\X.A.handled=none)->∀(st:Stmt) (t:S3),JBg G L κ.on fl n0 names N n zz st=some t->PS X st (RS3 X κ B C f3 XX t)
 |0,X,XX,zz,hP,hW,g,hk,hn,hN,hpo,hfn,hon,hfl,hz,st,t,h=>by simp![JBg]at h;cases h
 |n+1,X,XX,zz,hP,hW,g,hk,hn,hN,hpo,hfn,hon,hfl,hz,st,t,h=>by
  subst hP;subst hW;have hsE:=λρ=>sound (ra ρ).ra n0 X XX names N (g.g ρ) hk hn hN hnd;have hE:∀ρ e x,JAO G n0 false names N e=some x->PE X e (RE (JAD κ B ρ) (C (pi ρ)) XX x):=λρ e x h=>((hsE ρ).1 e x h).1;have hT:∀ρ e x,JAO G n0 false names N e=some x->PT X e (RT (JAD κ B ρ) (C (pi ρ)) XX x):=λρ e x h=>((hsE ρ).1 e x h).2;have hI:∀ρ tg e x,JAO G n0 true names N e=some x->PI X tg e (RI (JAD κ B ρ) (C (pi ρ)) XX x):=λρ tg e x h=>(hsE ρ).2 tg e x h;have hS:∀ρ st t,JCK G n0 zz names N st=some t->PS X st (RSt X (JAD κ B ρ) (C (pi ρ)) XX t):=λρ=>JG3 (ra ρ).ra (ra ρ).rr n0 X XX names N zz (g.g ρ) hk hn hN hnd hpo hfn λz=>(hz z).1 ρ;have hV:=JD0 (N:=N) (n0:=n0) g hk hn hE;have hTT:=JF2 (N:=N) (n0:=n0) g hk hn hE hT;have ih:=JEJ ra hexm hnd n X XX zz rfl rfl g hk hn hN hpo hfn hon hfl hz;have hnd':X.N.Nodup:=by rw[hN];exact hnd
  unfold JBg at h
  split at h
  ·rename_i t' h1;cases h;exact r_st λρ=>hS ρ st t' h1
  ·split at h
   · obtain⟨x,h1,rfl⟩:=q_d.mp h
     exact r_ret (hV _ _ x h1)
   · split at h
     ·rename_i ts' ht;obtain⟨k,p,rfl⟩:=JSP ht;obtain⟨is,hi,h⟩:=q_a.mp h
      split at h
      case isFalse=>cases h
      obtain⟨x,h1,rfl⟩:=q_d.mp h;obtain⟨⟨elt,gs,sc,p2,rfl⟩,hv⟩:=JOL (λρ=>(ra ρ).ra) hnd g hk hn hN h1;exact r_un3 g hv hn hN hnd (λnm=>.inl (hfn nm)) hi rfl JE8
     split at h
     case isFalse=>cases h
     rename_i hpl
     split at h
     ·rename_i o f ht;obtain⟨p,rfl⟩:=JPh ht
      split at h
      case isFalse=>cases h
      rename_i hf;obtain⟨i,hi,h⟩:=q_a.mp h;obtain⟨y,hy,hv⟩:=q_a.mp hi;have:=JGj hv;subst this
      split at h
      ·rename_i ho
       split at h
       ·rename_i hl;cases h;obtain⟨lp,rfl⟩:=JOb hl;exact r_fln g (λρ=>hE ρ o _ hy) (hfl f hf) ho (JCA hpl _ _ _)
       ·cases h
      ·rename_i ho;obtain⟨x,h1,rfl⟩:=q_d.mp h;exact r_fld g (λρ=>hE ρ o _ hy) (λρ=>hE ρ _ x h1) (hfl f hf) (by simpa using ho) (JCA hpl _ _ _)
     ·cases h
   · split at h
     ·rename_i o f a ht;obtain⟨p1,ap,cp,rfl,c1,c2⟩:=JKO ht
      split at h
      case isFalse=>cases h
      rename_i hf;obtain⟨i,hi,h⟩:=q_a.mp h;obtain⟨y,hy,hv⟩:=q_a.mp hi;have:=JGj hv;subst this;obtain⟨z,hz,h⟩:=q_a.mp h;obtain⟨x,h1,rfl⟩:=q_d.mp h;exact r_oxt g c1 (λρ=>hE ρ o _ hy) (λρ=>hE ρ a x h1) (hfl f hf.1) hf.2 (JCQ hz a (List.mem_singleton.mpr rfl) [] X.env) c2
     ·have dr:∀ {e t p},(if JGW e=true then (JB3 L names (JAO G n0 false names N) 6 e).map S3.drop else none)=some t->PS X (.Expr e p) (RS3 X κ B C f3 XX t):=λ{e t p} h=>by
       split at h
       case isFalse=>cases h
       rename_i hpl;obtain⟨x,h1,rfl⟩:=q_d.mp h;exact JQX (hV _ _ x h1) (JCA hpl _ _ _)
      split at h
      ·rename_i x m a hm;obtain⟨p1,ap,cp,rfl,hl⟩:=JC4 hm
       split at h
       ·rename_i hc;obtain⟨c1,rfl,c3⟩:=hc;obtain⟨i,hi,h⟩:=q_a.mp h;obtain⟨v,h1,rfl⟩:=q_d.mp h;obtain⟨q1,q2⟩:=slot_of hn hN hi;exact r_ext g q1 (by rcases q2 with q|q;exact .inl q;exact .inr (.inl q)) c1 (hV _ _ v h1) (JHO c3 [] _) hl
       ·exact dr h
      ·exact dr h
   · obtain⟨t',h1,h⟩:=q_a.mp h
     obtain⟨x,h2,h⟩:=q_a.mp h;obtain⟨y,h3,rfl⟩:=q_d.mp h;exact r_ife (hTT _ _ t' h1) (JAp ih h2) (JAp ih h3)
   · rename_i nm p iter body p2
     obtain⟨i,hi,h⟩:=q_a.mp h;obtain⟨x,h1,h⟩:=q_a.mp h;obtain⟨b,h2,rfl⟩:=q_d.mp h;obtain⟨q1,q2⟩:=slot_of hn hN hi;exact JRS g hpo (λρ=>hI ρ _ _ x h1) (JAp ih h2) hnd' q1 q2 (.inl (hfn _)) (JD7 h1 X.env)
   · obtain⟨⟨cn,en,kn⟩,hq,h9⟩:=q_a.mp h
     clear h;obtain⟨np,p1,p2,p3,hp,rfl⟩:=JFn hq;have h:=h9;clear h9 hq;simp only at h ⊢
     split at h
     case isFalse=>cases h
     rename_i hc;obtain⟨z,hb,hl⟩:=hc;obtain⟨_,t1,t2,t3,t4⟩:=hz z
     split at h
     case h_2=>cases h
     rename_i c hg;obtain⟨b,hbb,h⟩:=q_a.mp h;obtain⟨i,hi,h⟩:=q_a.mp h;obtain⟨j,hj,h⟩:=q_a.mp h
     split at h
     case isTrue=>cases h
     rename_i hij;cases h;obtain⟨g1,g2,g3⟩:=JA6 hg;have hie:slot names N en=some i:=by unfold slot;rw[hl];exact hi
     refine r_try g t1 t2 t3 hnd' hfn t4 (λpn xe XX' po gk=>?_) (JB6 hn g2) ((g.g []).cls cn c g3) g1 hb (hexm cn c g3) (slot_of hn hN hie).1 (by rw[hn];exact hl) (slot_of hn hN hj).1 (slot_of hn hN hj).2 hij
     exact JAp (JEJ ra hexm hnd n (atX X X.A pn xe true) XX' false rfl rfl gk hk hn hN po hfn hon hfl (λz=>by cases z)) hbb
   · cases h
end
end VI
end
section
namespace VI
open PySem PySem.Spec PyProof.Rows L2
section
variable{κ:Kl}{B:Bs}{ρ:Tb}{K:Kq}
def JJ3(hc:Cls K κ.C)(hn:NoAttr K κ.C f)(ho:κ.on.contains f=false):JIy K (JAD κ B ρ) (fldD (pi ρ) f) f:=by
 intro H ds vs dn;unfold fldD
 split
 ·rename_i d r e
  split at e
  ·rename_i d0;simp![DenL]at dn;obtain⟨v,_,rfl,d1,rfl⟩:=dn;cases q:recF (pi ρ) d0 with
   |none=>rw[q]at e;cases e
   |some z =>
    obtain⟨n,c⟩:=z;rw[q]at e;unfold recF at q;obtain⟨m,hn',q⟩:=q_a.mp q;obtain⟨c',hc',e'⟩:=q_d.mp q;cases e';obtain⟨p,fs,e1,e2,r⟩:=JEY hn' d1;rw[JG2 e1]at hc';cases hc';cases q2:p.2.lookup f with
    |none=>simp![Option.bind,q2]at e;cases e
    |some d2 =>
     simp![Option.bind,q2]at e;cases e;obtain⟨v',hf,fo⟩:=r.fld f _ q2;unfold JDQ at fo;rw[ho]at fo;exact#[p.1.a,κ.C,p.1.dx,fs,v',by rw[e2],r.ins,hc,hn,hf,JKr _ _ fo]
  ·cases e
 ·rename_i c e
  split at e
  ·rename_i d0;cases q:(recF (pi ρ) d0).bind λq=>q.2.lookup f with
   |none=>rw[q]at e;cases e
   |some z=>rw[q]at e;cases e
  ·cases e
 ·trivial
def JNQ(H:Hp)(d:D)(v:V)(dn:Den (JAD κ B ρ) H d v):(match chkD (pi ρ) m [d] with
 |.ok d'=>d'=d/\∃a dx fs,v=.ref a/\H a=some (.ins κ.C dx fs)/\fs.lookup m=none
 |.exc _=>False
 |.bad=>True):=by
 simp![chkD];cases q:recF (pi ρ) d with
 |none=>trivial
 |some z =>
  obtain⟨n,c⟩:=z;simp only
  split
  ·rename_i d' e
   split at e
   ·rename_i hm;cases e;unfold recF at q;obtain⟨k,hn',q⟩:=q_a.mp q;obtain⟨c',hc',e'⟩:=q_d.mp q;cases e';obtain⟨p,fs,e1,e2,r⟩:=JEY hn' dn;rw[JG2 e1]at hc';cases hc';exact#[rfl,p.1.a,p.1.dx,fs,e2,r.ins,r.non m (by simpa using hm)]
   ·cases e
  ·rename_i e
   split at e<;>cases e
  ·trivial
end
end VI
end
section
namespace VI
open PySem PySem.Spec PyProof.Rows L2
structure Turned3(G:List (Str×GK))(L:List (Str×GK3))(on fl:List Str)(st:Stmt)(N ps:List Str)(fd:Fd3):Prop where
 comp:JBf (JBg G L on fl 60 (JAM st).names N 60 true) (JAX st)=some fd.body
 sc:FnScope N ps (JAM st)
 par:fd.par=ps.length
 slots:fd.slots=N.length
section
variable{κ:Kl}{B:Bs}{kR:Nat->RK}{tab tabR:Nat->Option Fd}{tab3:Nat->Option Fd3}{glo:Nat->R D}{sub:Nat->Nat->Bool}{G0 G1:List (Str×GK)}{L:List (Str×GK3)}{fl:List Str}{P:Program}{w:World}{mg:Mq}{base:Heap}
structure Mo3(mg:Mq)(κ:Kl)(B:Bs)(kR:Nat->RK)(tab tabR:Nat->Option Fd)(tab3:Nat->Option Fd3)(glo:Nat->R D)(sub:Nat->Nat->Bool)(G0 G1:List (Str×GK))(L:List (Str×GK3))(fl:List Str):Prop where
 bas:∀ρ,Mo mg (JAD κ B ρ) G0 tab glo sub
 fn:∀x i,G1.lookup x=some (.fn i)->(kR i=.no/\G0.lookup x=some (.fn i))\/(kR i=.def_/\∃fd f fo st N ps,tabR i=some fd/\mg x=some (.ref f)/\Fun B.K x x st f fo/\Binds B.K fo ps []/\Turned G1 st N ps fd)
 con:∀ρ x i d,G1.lookup x=some (.con i)->glo i=.ok d->∃u v,mg x=some u/\RelV v u/\∀H,Den (JAD κ B ρ) H d v
 blt:∀x b,G1.lookup x=some (.blt b)->mg x=none
 rng:∀x,G1.lookup x=some .rng->mg x=none
 isi:∀x,G1.lookup x=some .isi->mg x=none
 ty:∀x t,G1.lookup x=some (.ty t)->mg x=none
 nam:∀x,G1.lookup x=some .nam->mg x=none
 cl:Cl mg B G1
 cls:Cls B.K κ.C
 fld:∀f i,G1.lookup f=some (.rcf i)->kR i=.fld f/\NoAttr B.K κ.C f/\κ.on.contains f=false
 mth:∀m i j,G1.lookup m=some (.rcm i j)->kR j=.chk m/\kR i=.def_/\∃fd f fo x q st N ps,tabR i=some fd/\Meth B.K κ.C m f/\Fun B.K x q st f fo/\Binds B.K fo ps []/\Turned G1 st N ps fd
 fn3:∀x i,L.lookup x=some (.fn i)->∃fd f fo st N ps,tab3 i=some fd/\mg x=some (.ref f)/\Fun B.K x x st f fo/\Binds B.K fo ps []/\Turned3 G1 L κ.on fl st N ps fd
 met:∀m i,L.lookup m=some (.met i)->∃fd f fo x q st N ps,tab3 i=some fd/\Meth B.K κ.C m f/\Fun B.K x q st f fo/\Binds B.K fo ps []/\Turned3 G1 L κ.on fl st N ps fd
 mak:∀y i,L.lookup y=some (.mak i)->mg y=some (.ref κ.C)/\∃fd f fo x q st N ps,tab3 i=some fd/\Mk B.K κ.C f/\Fun B.K x q st f fo/\Binds B.K fo ps []/\Turned3 G1 L κ.on fl st N ps fd
 exm:∀x c,G1.lookup x=some (.cls c)->∀k,sub k c=true->PySem.W.exmOne B.K (.ref (B.cl k)) (.ref (B.cl c))=some true
 on:∀f,κ.on.contains f=true->NoAttr B.K κ.C f
 fls:∀f,fl.contains f=true->NoAttr B.K κ.C f
def JNZ{n i:Nat}(h:kR i=.no):runR kR tab tabR glo sub π n i=run true tab glo sub n i:=funext λds=>by unfold runR;rw[h]
def JLd{n i:Nat}(h:kR i=.fld f):runR kR tab tabR glo sub π n i=fldD π f:=funext λds=>by unfold runR;rw[h]
def JKj{n i:Nat}(h:kR i=.chk f):runR kR tab tabR glo sub π n i=chkD π f:=funext λds=>by unfold runR;rw[h]
def JFQ{i:Nat}(h:kR i=.def_):runR kR tab tabR glo sub π 0 i ds=.bad:=by unfold runR;rw[h]
def JIl{n i:Nat}(h:kR i=.def_)(ht:tabR i=some fd):runR kR tab tabR glo sub π (n+1) i=JB1 true #[runR kR tab tabR glo sub π n,glo,sub] fd:=funext λds=>by
 conv=>lhs;unfold runR
 rw[h];simp![ht]
def JH2(h:JB1 true C fd ds≠.bad):ds.length=fd.par:=by
 by_cases q:ds.length=fd.par
 ·exact q
 ·exfalso;apply h;simp![JB1];rw[if_neg q]
structure FnR(P:Program)(w:World)(mg:Mq)(base:Heap)(κ:Kl)(B:Bs)(C:Cn)(ρ:Tb)(G1:List (Str×GK))(n:Nat):Prop where
 fn:∀x i,G1.lookup x=some (.fn i)->∃f fd ps,mg x=some (.ref f)/\PySem.W.keepIn B.K (.ref f)=true/\FnOk P w B.K mg base (CXV P w B) n f fd ps (JBQ (JAD κ B ρ) ps.length (C.fn i))/\Binds B.K fd ps []/\∀ds,C.fn i ds≠.bad->ds.length=ps.length
 mth:∀m i j,G1.lookup m=some (.rcm i j)->∃f fd ps,Meth B.K κ.C m f/\FnOk P w B.K mg base (CXV P w B) n f fd ps (JBQ (JAD κ B ρ) ps.length (C.fn i))/\Binds B.K fd ps []/\∀ds,C.fn i ds≠.bad->ds.length=ps.length
def gkR(hw:w=B.w)(M:Mo3 mg κ B kR tab tabR tab3 glo sub G0 G1 L fl){n:Nat}(ih:FnR P w mg base κ B #[runR kR tab tabR glo sub (pi ρ) n,glo,sub] ρ G1 n){sc:Scope}{f:Addr}{E:XK}(hr:Room n (A.deeper (envOfC q sc s.heap.objs.size f cdv))) :
  Gk (cxOf (CXV P w B) P w B.K mg base N q sc f cdv A outer s H E) (JAD κ B ρ) #[runR kR tab tabR glo sub (pi ρ) n,glo,sub] (CXV P w B) (XXd B E) G1:={
 K:=rfl
 W:=hw
 anti:=λc H1 H2 sm z H' s'=>z H' (sm.trans s')
 units:=by have:=hr.un;show(A.deeper _).units+200<_;omega
 calm:=λ_=>rfl
 fn:=λy j hy=>by
  obtain⟨f',fd',ps',w1,w2,w3,w4,w5⟩:=ih.fn y j hy;exact#[f',fd',ps',n,w1,w2,w3,hr,w4,w5]
 pas:=JIO
 con:=M.con ρ
 noexg:=(M.bas ρ).noexg
 blt:=M.blt
 rng:=M.rng
 isi:=M.isi
 ty:=M.ty
 cls:=M.cl.mgc
 nam:=M.nam
 fld:=λf i e=>by
  obtain⟨h1,h2,h3⟩:=M.fld f i e;show JIy B.K (JAD κ B ρ) (runR kR tab tabR glo sub (pi ρ) n i) f;rw[JLd h1];exact JJ3 M.cls h2 h3
 mth:=λm i j e=>by
  obtain⟨h1,_⟩:=M.mth m i j e;obtain⟨f',fd',ps',w1,w2,w3,w4⟩:=ih.mth m i j e;refine .inr #[κ.C,f',fd',ps',n,M.cls,w1,w2,hr,w3,w4,λH d v dn=>?_];show(match runR kR tab tabR glo sub (pi ρ) n j [d] with|.ok d'=>_|.exc _=>_|.bad=>_)
  rw[JKj h1];exact JNQ H d v dn }
def fnRs[Cool G0](hw:w=B.w)(M:Mo3 mg κ B kR tab tabR tab3 glo sub G0 G1 L fl)(ra0:∀ρ n,Ra3 (JAD κ B ρ) #[run true tab glo sub n,glo,sub] G0 P w)(ra:∀ρ n,Ra3 (JAD κ B ρ) #[runR kR tab tabR glo sub (pi ρ) n,glo,sub] G1 P w)(ρ:Tb):∀n,FnR P w mg base κ B #[runR kR tab tabR glo sub (pi ρ) n,glo,sub] ρ G1 n:=by
 intro n;have pl:∀(n:Nat) (x:Str) (i:Nat),kR i=.no->G0.lookup x=some (.fn i)->∃f fd ps,mg x=some (.ref f)/\PySem.W.keepIn B.K (.ref f)=true/\FnOk P w B.K mg base (CXV P w B) n f fd ps (JBQ (JAD κ B ρ) ps.length (runR kR tab tabR glo sub (pi ρ) n i))/\Binds B.K fd ps []/\∀ds,runR kR tab tabR glo sub (pi ρ) n i ds≠.bad->ds.length=ps.length:=λn x i hk hx=>by
  rw[JNZ hk];exact fns (B:=JAD κ B ρ) hw (M.bas ρ) (ra0 ρ) n x i hx
 induction n with
 |zero =>
  refine#[λx i h=>?_,λm i j h=>?_]
  ·rcases M.fn x i h with ⟨h1,h2⟩|⟨h1,fd,f,fo,st,N,ps,ht,e1,F,bi,T⟩
   ·exact pl 0 x i h1 h2
   ·have hz:∀ds,runR kR tab tabR glo sub (pi ρ) 0 i ds=.bad:=λds=>JFQ h1;refine#[f,fo,ps,e1,F.kp,#[λvs H Q E q=>q.1,λA outer s H args us vs Q E hr he hb hv ⟨_,ds,_,q⟩=>?_],bi,λds q=>absurd (hz ds) q];simp![hz ds]at q
  ·obtain⟨_,h1,fd,f,fo,x,q,st,N,ps,ht,e1,F,bi,T⟩:=M.mth m i j h;have hz:∀ds,runR kR tab tabR glo sub (pi ρ) 0 i ds=.bad:=λds=>JFQ h1;refine#[f,fo,ps,e1,#[λvs H Q E q=>q.1,λA outer s H args us vs Q E hr he hb hv ⟨_,ds,_,q⟩=>?_],bi,λds q=>absurd (hz ds) q];simp![hz ds]at q
 |succ n ih =>
  have one:∀ {i:Nat}{fd:Fd}{f:Addr}{fo:FuncData}{x q:Str}{st:Stmt}{N ps:List Str},kR i=.def_->tabR i=some fd->Fun B.K x q st f fo->Turned G1 st N ps fd->FnOk P w B.K mg base (CXV P w B) (n+1) f fo ps (JBQ (JAD κ B ρ) ps.length (runR kR tab tabR glo sub (pi ρ) (n+1) i))/\∀ds,runR kR tab tabR glo sub (pi ρ) (n+1) i ds≠.bad->ds.length=ps.length:=λ{i fd f fo x q st N ps} h1 ht F T=>by
   rw[JIl h1 ht];refine#[JPm (B:=JAD κ B ρ) F T.sc T.par T.slots λcdv A outer s H E hr=>?_,λds q=>by rw[JH2 q,T.par]]
   have hA:A.handled=none:=hr.hd;have hs:=JG3 (ra ρ n).ra (ra ρ n).rr 60 _ _ _ _ true (gkR hw M ih (N:=N) (outer:=outer) (H:=H) (E:=E) hr) T.sc.kind rfl rfl T.sc.nd PassesOwn.leaving (λ_=>rfl) (λ_=>JBx (B:=B) M.cl hA);exact JDM hs T.comp
  refine#[λx i h=>?_,λm i j h=>?_]
  ·rcases M.fn x i h with ⟨h1,h2⟩|⟨h1,fd,f,fo,st,N,ps,ht,e1,F,bi,T⟩
   ·exact pl (n+1) x i h1 h2
   ·obtain⟨o1,o2⟩:=one h1 ht F T;exact#[f,fo,ps,e1,F.kp,o1,bi,o2]
  ·obtain⟨_,h1,fd,f,fo,x,q,st,N,ps,ht,e1,F,bi,T⟩:=M.mth m i j h;obtain⟨o1,o2⟩:=one h1 ht F T;exact#[f,fo,ps,e1,o1,bi,o2]
end
end VI
end
section
namespace VI
open PySem PySem.Spec PyProof.Rows L2
section
variable{κ:Kl}{B:Bs}{kR:Nat->RK}{tab tabR:Nat->Option Fd}{tab3:Nat->Option Fd3}{glo:Nat->R D}{sub:Nat->Nat->Bool}{G0 G1:List (Str×GK)}{L:List (Str×GK3)}{fl:List Str}{P:Program}{w:World}{mg:Mq}{base:Heap}
structure Fn3(P:Program)(w:World)(mg:Mq)(base:Heap)(κ:Kl)(B:Bs)(f3:F3)(L:List (Str×GK3))(k:Nat):Prop where
 fn:∀x i,L.lookup x=some (.fn i)->∃f fd ps,mg x=some (.ref f)/\PySem.W.keepIn B.K (.ref f)=true/\FnOk P w B.K mg base (CXV P w B) k f fd ps (stSp κ B ps.length (f3 i))/\Binds B.K fd ps []/\∀ds π,f3 i ds π≠.bad->ds.length=ps.length
 met:∀m i,L.lookup m=some (.met i)->∃f fd ps,Meth B.K κ.C m f/\FnOk P w B.K mg base (CXV P w B) k f fd ps (stSp κ B ps.length (f3 i))/\Binds B.K fd ps []/\∀ds π,f3 i ds π≠.bad->ds.length=ps.length
 mak:∀x i,L.lookup x=some (.mak i)->mg x=some (.ref κ.C)/\∃f fd ps,Mk B.K κ.C f/\FnOk P w B.K mg base (CXV P w B) k f fd ps (stSp κ B ps.length (f3 i))/\Binds B.K fd ps []/\∀ds π,f3 i ds π≠.bad->ds.length=ps.length
def JMX(hw:w=B.w)(M:Mo3 mg κ B kR tab tabR tab3 glo sub G0 G1 L fl){n:Nat}(ihR:∀ρ,FnR P w mg base κ B #[runR kR tab tabR glo sub (pi ρ) n,glo,sub] ρ G1 n)(ih:Fn3 P w mg base κ B (run3 kR tab tabR tab3 glo sub n) L (2*n)){sc:Scope}{f:Addr}{E:XK}(hr:Room (2*n+1) (A.deeper (envOfC q sc s.heap.objs.size f cdv))) :
  Gk3 (cxOf (CXV P w B) P w B.K mg base N q sc f cdv A outer s H E) κ B (λπ=>#[runR kR tab tabR glo sub π n,glo,sub]) (run3 kR tab tabR tab3 glo sub n) (CXV P w B) (XXd B E) G1 L:={
 g:=λρ=>gkR hw M (ihR ρ) (hr.mono ∅)
 cls:=M.cls
 fn:=λx i h=>by
  obtain⟨f',fd',ps',w1,w2,w3,w4,w5⟩:=ih.fn x i h;exact#[f',fd',ps',2*n,w1,w2,w3,hr.mono ∅,w4,w5]
 met:=λm i h=>by
  obtain⟨f',fd',ps',w1,w3,w4,w5⟩:=ih.met m i h;exact#[f',fd',ps',2*n,w1,w3,hr.mono ∅,w4,w5]
 mak:=λx i h=>by
  obtain⟨w0,f',fd',ps',w1,w3,w4,w5⟩:=ih.mak x i h;exact#[w0,f',fd',ps',2*n,w1,w3,hr,w4,w5] }
def JHR(h:JCN C f3 fd ds π≠.bad):ds.length=fd.par:=by
 by_cases q:ds.length=fd.par
 ·exact q
 ·exfalso;apply h;unfold JCN;rw[if_neg q]
def JFB{n i:Nat}(ht:tab3 i=some fd):run3 kR tab tabR tab3 glo sub (n+1) i=JCN (λπ=>#[runR kR tab tabR glo sub π n,glo,sub]) (run3 kR tab tabR tab3 glo sub n) fd:=funext λds=>funext λπ=>by
 simp![run3,ht]
def fn3s[Cool G0][Cool G1](hw:w=B.w)(M:Mo3 mg κ B kR tab tabR tab3 glo sub G0 G1 L fl)(ra0:∀ρ n,Ra3 (JAD κ B ρ) #[run true tab glo sub n,glo,sub] G0 P w)(ra:∀ρ n,Ra3 (JAD κ B ρ) #[runR kR tab tabR glo sub (pi ρ) n,glo,sub] G1 P w):∀n,Fn3 P w mg base κ B (run3 kR tab tabR tab3 glo sub n) L (2*n):=by
 intro n
 induction n with
 |zero =>
  have one:∀ {i:Nat}{f:Addr}{fo:FuncData}{ps:List Str},FnOk P w B.K mg base (CXV P w B) (2*0) f fo ps (stSp κ B ps.length (run3 kR tab tabR tab3 glo sub 0 i))/\∀ds π,run3 kR tab tabR tab3 glo sub 0 i ds π≠.bad->ds.length=ps.length:=λ{i f fo ps} =>
   #[#[λvs H Q E q=>q.1,λA outer s H args us vs Q E hr he hb hv ⟨_,ρ,ds,_,_,q⟩=>by simp![run3]at q;exact q.elim],λds π q=>absurd (by simp![run3]) q]
  refine#[λx i h=>?_,λm i h=>?_,λx i h=>?_]
  ·obtain⟨fd,f,fo,st,N,ps,ht,e1,F,bi,T⟩:=M.fn3 x i h;exact#[f,fo,ps,e1,F.kp,one.1,bi,(one (f:=f) (fo:=fo)).2]
  ·obtain⟨fd,f,fo,x,q,st,N,ps,ht,e1,F,bi,T⟩:=M.met m i h;exact#[f,fo,ps,e1,one.1,bi,(one (f:=f) (fo:=fo)).2]
  ·obtain⟨e0,fd,f,fo,x,q,st,N,ps,ht,e1,F,bi,T⟩:=M.mak x i h;exact#[e0,f,fo,ps,e1,one.1,bi,(one (f:=f) (fo:=fo)).2]
 |succ n ih =>
  have one:∀ {i:Nat}{fd:Fd3}{f:Addr}{fo:FuncData}{x q:Str}{st:Stmt}{N ps:List Str},tab3 i=some fd->Fun B.K x q st f fo->Turned3 G1 L κ.on fl st N ps fd->FnOk P w B.K mg base (CXV P w B) (2*(n+1)) f fo ps (stSp κ B ps.length (run3 kR tab tabR tab3 glo sub (n+1) i))/\∀ds π,run3 kR tab tabR tab3 glo sub (n+1) i ds π≠.bad->ds.length=ps.length:=λ{i fd f fo x q st N ps} ht F T=>by
   rw[JFB ht];refine#[JMe (n:=2*n+1) F T.sc T.par T.slots λcdv A outer s H E hr=>?_,λds π q=>by rw[JHR q,T.par]]
   have hA:A.handled=none:=hr.hd;have ihR:=λρ=>fnRs (base:=base) hw M ra0 ra ρ n;have g:=JMX hw M ihR ih (N:=N) (outer:=outer) (H:=H) (E:=E) hr;exact JAp (JEJ (C:=λπ=>#[runR kR tab tabR glo sub π n,glo,sub]) (λρ=>ra ρ n) (λx c h π k=>M.exm x c h k) T.sc.nd 60 _ _ true rfl rfl g T.sc.kind rfl rfl PassesOwn.leaving (λ_=>rfl) M.on M.fls (λ_=>#[λρ=>JBx (B:=B) M.cl hA,rfl,rfl,rfl,hA])) T.comp
  refine#[λx i h=>?_,λm i h=>?_,λx i h=>?_]
  ·obtain⟨fd,f,fo,st,N,ps,ht,e1,F,bi,T⟩:=M.fn3 x i h;obtain⟨o1,o2⟩:=one ht F T;exact#[f,fo,ps,e1,F.kp,o1,bi,o2]
  ·obtain⟨fd,f,fo,x,q,st,N,ps,ht,e1,F,bi,T⟩:=M.met m i h;obtain⟨o1,o2⟩:=one ht F T;exact#[f,fo,ps,e1,o1,bi,o2]
  ·obtain⟨e0,fd,f,fo,x,q,st,N,ps,ht,e1,F,bi,T⟩:=M.mak x i h;obtain⟨o1,o2⟩:=one ht F T;exact#[e0,f,fo,ps,e1,o1,bi,o2]
end
end VI
end
section
namespace VI
open PySem PySem.Spec PyProof.Rows L2
section
variable{κ:Kl}{B:Bs}{kR:Nat->RK}{tab tabR:Nat->Option Fd}{tab3:Nat->Option Fd3}{glo:Nat->R D}{sub:Nat->Nat->Bool}{G0 G1:List (Str×GK)}{L:List (Str×GK3)}{fl:List Str}
def JNw[Cool G0][Cool G1]{P:Program}{w:World}{mg:Mq}{base:Heap}(hw:w=B.w)(M:Mo3 mg κ B kR tab tabR tab3 glo sub G0 G1 L fl)(ra0:∀ρ n,Ra3 (JAD κ B ρ) #[run true tab glo sub n,glo,sub] G0 P w)(ra:∀ρ n,Ra3 (JAD κ B ρ) #[runR kR tab tabR glo sub (pi ρ) n,glo,sub] G1 P w){i:Nat}{fd:Fd3}{f:Addr}{fo:FuncData}{x q:Str}{st:Stmt}{N ps:List Str}(ht:tab3 i=some fd)(F:Fun B.K x q st f fo)(T:Turned3 G1 L κ.on fl st N ps fd)(n:Nat) :
  FnOk P w B.K mg base (CXV P w B) (2*(n+1)) f fo ps (stSp κ B ps.length (run3 kR tab tabR tab3 glo sub (n+1) i)):=by
 rw[JFB ht];refine JMe (n:=2*n+1) F T.sc T.par T.slots λcdv A outer s H E hr=>?_;have hA:A.handled=none:=hr.hd;have ihR:=λρ=>fnRs (base:=base) hw M ra0 ra ρ n;have g:=JMX hw M ihR (fn3s hw M ra0 ra n) (N:=N) (outer:=outer) (H:=H) (E:=E) hr;exact JAp (JEJ (C:=λπ=>#[runR kR tab tabR glo sub π n,glo,sub]) (λρ=>ra ρ n) (λx c h π k=>M.exm x c h k) T.sc.nd 60 _ _ true rfl rfl g T.sc.kind rfl rfl PassesOwn.leaving (λ_=>rfl) M.on M.fls (λ_=>#[λρ=>JBx (B:=B) M.cl hA,rfl,rfl,rfl,hA])) T.comp
def JOR{w:World}{base:Heap}{f:Addr}{n:Nat}(F:FnOk P w B.K mg base (CXV P w B) n f fd ps (stSp κ B ps.length r))(hp:ps.length=1)
  (h:∀ns:List Int,ns.length<=63->∃π,r [.list (ns.map λi=>PyData.int i)] []=.ok (.bool true) π):FnOk P w B.K mg base CX0 n f fd ps (JNx B.K):=by
 refine#[λvs H Q E ⟨a,ns,e,_⟩=>by subst e;rw[hp];rfl,λA outer s H args us vs Q E hr he hb hv ⟨a,ns,e,hl,hS,k⟩=>?_]
 subst e;refine codeAny_mono (F.run A outer s H args us [.ref a] Q (λ_ _ _=>False) hr he hb hv #[by rw[hp];rfl,[],[.list (ns.map λi=>PyData.int i)],Recs.nil,?_,?_]) λr s' z=>?_
 ·simp![DenL];exact#[_,_,rfl,by simp![Den];exact#[a,_,rfl,hS,JGP ns],rfl]
 ·obtain⟨π,e⟩:=h ns hl;rw[show pi []=[] from rfl,e];intro ρ' H' st' _ v dn;simp![Den]at dn;subst dn;exact k H'
 ·cases r with
  |ok v=>cases v<;>exact z
  |error e =>
    obtain⟨ea,T,c,H',_,_,_,_,_,_,_,_,z⟩:=z;exact z
def JO7[Cool G0][Cool G1]{P:Program}{w:World}{K:Kq}{h:Heap}{mg:Mq}{cl:Nat->Addr}{rc:Nat->Addr->Hp->Prop}{rcm:RcM rc}{fa:Addr}{st:Stmt}{N:List Str}{x:Str}{fd:Fd3}{i n:Nat}
  (X:K.In h) (Gm:h.Ns mainGlobals mg) (hfa:mg "law"=some (.ref fa)) (F:FnIn K "law" st) (T:Turned3 G1 L κ.on fl st N [x] fd) (ht:tab3 i=some fd)
  (M:∀base:Heap,K.In base->base.Ns mainGlobals mg->Mo3 mg κ #[K,cl,w,rc,rcm] kR tab tabR tab3 glo sub G0 G1 L fl) (ra0:∀ρ n,Ra3 (JAD κ #[K,cl,w,rc,rcm] ρ) #[run true tab glo sub n,glo,sub] G0 P w) (ra:∀ρ n,Ra3 (JAD κ #[K,cl,w,rc,rcm] ρ) #[runR kR tab tabR glo sub (pi ρ) n,glo,sub] G1 P w)
  (hbind:∀(kV doc pm:Value) (an:Option Addr) (cdv ct:Value) (s:Shared) (u:Value),BindsTo s (PySem.W.fnOf "law" "law" (JA8 st) (JAX st) (JAM st) .none kV doc pm an cdv ct) #[[u],[]] [(x,u)])
  (ok:∀ns:List Int,ns.length<=63->∃π,run3 kR tab tabR tab3 glo sub (n+1) i [.list (ns.map λi=>PyData.int i)] []=.ok (.bool true) π) :
  ∃fo:FuncData,(∀(s:Shared) (u:Value),BindsTo s fo #[[u],[]] [(x,u)])/\∀base:Heap,K.In base->base.Ns mainGlobals mg->FnOk P w K mg base CX0 (2*(n+1)) fa fo [x] (JNx K):=by
 obtain⟨f,oc,od,an,sl,kV,dc,pm,cd,ct,a,l,c,k⟩:=F.ex;have e:=hfa.symm.trans (PySem.W.mg_of X Gm a);cases e;refine#[PySem.W.fnOf "law" "law" (JA8 st) (JAX st) (JAM st) .none kV dc pm an cd ct,λs u=>hbind kV dc pm an cd ct s u,λbase kb nb=>?_];have:=JNw (P:=P) (w:=w) (base:=base) (B:=#[K,cl,w,rc,rcm]) rfl (M base kb nb) ra0 ra ht (JL6 (st:=st) l c k) T n;exact JOR this rfl ok
end
end VI
end
section
namespace VI
open PySem PySem.Spec PyProof.Rows L2
section
variable{κ:Kl}{B:Bs}{kR:Nat->RK}{tab tabR:Nat->Option Fd}{tab3:Nat->Option Fd3}{glo:Nat->R D}{G0 Gr:List (Str×GK)}{L:List (Str×GK3)}{fl:List Str}{mg:Mq}{rs:List (Nat×List Nat)}
def AllL(P:Str->GK3->Prop):List (Str×GK3)->Prop
 | []=>True
 |(x,k)::r=>P x k/\AllL P r
theorem AllL.get{P:Str->GK3->Prop}:∀ {G:List (Str×GK3)}{x:Str}{k:GK3},AllL P G->G.lookup x=some k->P x k
 | [],x,k,_,h=>by cases h
 |(y,m)::r,x,k,⟨h1,h2⟩,h=>by
  rw[List.lookup_cons]at h
  by_cases e:(x==y)=true
  · rw[e]at h
    have e':x=y:=by simpa using e
    cases h;subst e';exact h1
  · have e':(x==y)=false:=by simpa using e
    rw[e']at h;exact AllL.get h2 h
def RcP(κ:Kl)(K:Kq)(kR:Nat->RK)(tabR:Nat->Option Fd)(G1:List (Str×GK))(x:Str):GK->Prop
 |.rcf i=>kR i=.fld x/\NoAttr K κ.C x/\κ.on.contains x=false
 |.rcm i j=>kR j=.chk x/\kR i=.def_/\∃fd f fo y q st N ps,tabR i=some fd/\Meth K κ.C x f/\Fun K y q st f fo/\Binds K fo ps []/\Turned G1 st N ps fd
 |.opt=>True
 |_=>False
def R3P(mg:Mq)(κ:Kl)(K:Kq)(tab3:Nat->Option Fd3)(G1:List (Str×GK))(L:List (Str×GK3))(fl:List Str)(x:Str):GK3->Prop
 |.fn i=>∃fd f fo st N ps,tab3 i=some fd/\mg x=some (.ref f)/\Fun K x x st f fo/\Binds K fo ps []/\Turned3 G1 L κ.on fl st N ps fd
 |.met i=>∃fd f fo y q st N ps,tab3 i=some fd/\Meth K κ.C x f/\Fun K y q st f fo/\Binds K fo ps []/\Turned3 G1 L κ.on fl st N ps fd
 |.mak i=>mg x=some (.ref κ.C)/\∃fd f fo y q st N ps,tab3 i=some fd/\Mk K κ.C f/\Fun K y q st f fo/\Binds K fo ps []/\Turned3 G1 L κ.on fl st N ps fd
abbrev okG(kR:Nat->RK):GK->Bool
 |.fn i=>(match kR i with
  |.no=>true
  |_=>false)
 |.rcf _=>false
 |.rcm _ _=>false
 |_=>true
abbrev JKU(kR:Nat->RK):List (Str×GK)->Bool
 | []=>true
 |(_,k)::r=>okG kR k&&JKU kR r
theorem JCI:∀ {G:List (Str×GK)}{x:Str}{k:GK},JKU kR G=true->G.lookup x=some k->okG kR k=true
 | [],x,i,_,h=>by cases h
 |(y,m)::r,x,i,h,e=>by
  rw[List.lookup_cons]at e;unfold JKU at h;have h:=Bool.and_eq_true_iff.mp h
  by_cases q:(x==y)=true
  · rw[q]at e
    cases e;exact h.1
  · have q':(x==y)=false:=by simpa using q
    rw[q']at e;exact JCI h.2 e
def JSQ{i:Nat}(h:okG kR (.fn i)=true):kR i=.no:=by
 replace h:(match kR i with|.no=>true|_=>false)=true:=h
 cases e:kR i<;>rw[e]at h<;>first|rfl|cases h
def JAi(h:(G0++Gr).lookup x=some k):G0.lookup x=some k\/Gr.lookup x=some k:=by
 rw[List.lookup_append]at h;cases e:G0.lookup x with
 |none=>rw[e]at h;exact .inr h
 |some y=>rw[e]at h;exact .inl h
def JPb(h0:∀ρ,AllP (MoP mg (JAD κ B ρ) G0 tab glo) G0)(hr:∀ρ,AllR (RaP (JAD κ B ρ) G0) rs)(hg:∀i c,glo i≠.exc c)(hn:JKU kR G0=true)(h1:AllP (RcP κ B.K kR tabR (G0++Gr)) Gr)(h3:AllL (R3P mg κ B.K tab3 (G0++Gr) L fl) L)(hc:Cls B.K κ.C)(ho:∀f,κ.on.contains f=true->NoAttr B.K κ.C f)(hf:∀f,fl.contains f=true->NoAttr B.K κ.C f):Mo3 mg κ B kR tab tabR tab3 glo (JD4 rs) G0 (G0++Gr) L fl:=by
 have M:=λρ=>mo_of (h0 ρ) (hr ρ) hg;have z:∀ {x:Str}{k:GK},Gr.lookup x=some k->RcP κ B.K kR tabR (G0++Gr) x k:=λe=>h1.get e;refine#[M,λx i e=>?_,λρ x i d e q=>?_,λx b e=>?_,λx e=>?_,λx e=>?_,λx t e=>?_,λx e=>?_,#[λx c e=>?_,λx c e=>?_],hc,λx i e=>?_,λx i j e=>?_,λx i e=>h3.get e,λx i e=>h3.get e,λx i e=>h3.get e,λx c e=>?_,ho,hf]
 ·rcases JAi e with e|e
  ·exact .inl #[JSQ (JCI hn e),e]
  ·exact(z e).elim
 ·rcases JAi e with e|e
  ·exact(M ρ).con x i d e q
  ·exact(z e).elim
 ·rcases JAi e with e|e
  ·exact(M []).blt x b e
  ·exact(z e).elim
 ·rcases JAi e with e|e
  ·exact(M []).rng x e
  ·exact(z e).elim
 ·rcases JAi e with e|e
  ·exact(M []).isi x e
  ·exact(z e).elim
 ·rcases JAi e with e|e
  ·exact(M []).ty x t e
  ·exact(z e).elim
 ·rcases JAi e with e|e
  ·exact(M []).nam x e
  ·exact(z e).elim
 ·rcases JAi e with e|e
  ·exact(M []).cl.mgc x c e
  ·exact(z e).elim
 ·rcases JAi e with e|e
  ·exact(M []).cl.exc x c e
  ·exact(z e).elim
 ·rcases JAi e with e|e
  ·cases JCI hn e
  ·exact z e
 ·rcases JAi e with e|e
  ·cases JCI hn e
  ·exact z e
 ·rcases JAi e with e|e
  ·exact(M []).exm x c e
  ·exact(z e).elim
def JOS{sub:Nat->Nat->Bool}(h:Isi B G0 sub)(h1:AllP (RcP κ B.K kR tabR G1) Gr):Isi B (G0++Gr) sub where
 own:=λx c e=>by
  rcases JAi e with e|e
  ·exact h.own x c e
  ·exact(h1.get e).elim
 exc:=h.exc
 rel:=λk hk x c e=>by
  rcases JAi e with e|e
  ·exact h.rel k hk x c e
  ·exact(h1.get e).elim
end
section
variable{K:Kq}{h:Heap}{mg:Mq}{G1:List (Str×GK)}{L:List (Str×GK3)}{on fl:List Str}{C:Addr}
def t3I{st:Stmt}{N ps:List Str}{fd:Fd3}(c:JBf (JBg G1 L on fl 60 (JAM st).names N 60 true) (JAX st)=some fd.body:=by kernel_rfl)(s:FnScope N ps (JAM st):=by exact#[rfl,rfl,rfl,by decide +kernel,rfl,by decide +kernel,by decide +kernel])(p:fd.par=ps.length:=by rfl)(l:fd.slots=N.length:=by rfl):Turned3 G1 L on fl st N ps fd:=#[c,s,p,l]
def fbI{x q:Str}{st:Stmt}(f c:Addr)(pm:Value)(ps:List Str)(b:allN ps.length λus=>∀(kV doc pm:Value) (an:Option Addr) (cdv ct:Value),bindArgs (PySem.W.fnOf x q (JA8 st) (JAX st) (JAM st) .none kV doc pm an cdv ct) #[us,[]]=pure (ps.zip us))(l:K.lookup f=some #[.type "function",none,.func (PySem.W.fnOf x q (JA8 st) (JAX st) (JAM st) .none .none .none pm none (.ref c) .none),#[]]:=by kernel_rfl)(cc:PySem.W.codeIn K (.ref c) q=true:=by kernel_rfl)(k:PySem.W.keepIn K (.ref f)=true:=by kernel_rfl):∃fo,Fun K x q st f fo/\Binds K fo ps [] :=
 have F:=JL6 (st:=st) l cc k
 #[_,F,F.binds λkV doc pm an cdv ct us hl=>JJH b us hl kV doc pm an cdv ct]
def mthI{f:Addr}(a:PySem.W.findIn K (.ref C) m=some (some (.ref f)):=by kernel_rfl)(b:PySem.W.isFn K (.ref f)=true:=by kernel_rfl)(k:PySem.W.keepIn K (.ref f)=true:=by kernel_rfl):Meth K C m f:=#[a,b,k]
def rI{m x q:Str}{f:Addr}{st:Stmt}{ps:List Str}{tabR:Nat->Option Fd}{i:Nat}{fd:Fd}(N:List Str)(F:∃fo,Fun K x q st f fo/\Binds K fo ps [])(M:Meth K C m f)(ht:tabR i=some fd)(T:Turned G1 st N ps fd):∃fd f fo y q st N ps,tabR i=some fd/\Meth K C m f/\Fun K y q st f fo/\Binds K fo ps []/\Turned G1 st N ps fd:=by
 obtain⟨fo,h1,h2⟩:=F;exact#[fd,f,fo,x,q,st,N,ps,ht,M,h1,h2,T]
def m3I{x q:Str}{f:Addr}{st:Stmt}{ps:List Str}{tab3:Nat->Option Fd3}{i:Nat}{fd:Fd3}{P:Addr->Prop}(N:List Str)(F:∃fo,Fun K x q st f fo/\Binds K fo ps [])(M:P f)(ht:tab3 i=some fd)(T:Turned3 G1 L on fl st N ps fd):∃fd f fo y q st N ps,tab3 i=some fd/\P f/\Fun K y q st f fo/\Binds K fo ps []/\Turned3 G1 L on fl st N ps fd:=by
 obtain⟨fo,h1,h2⟩:=F;exact#[fd,f,fo,x,q,st,N,ps,ht,M,h1,h2,T]
def f3I{x:Str}{f:Addr}{st:Stmt}{ps:List Str}{tab3:Nat->Option Fd3}{i:Nat}{fd:Fd3}(X:K.In h)(Gm:h.Ns mainGlobals mg)(N:List Str)(F:∃fo,Fun K x x st f fo/\Binds K fo ps [])(ht:tab3 i=some fd)(T:Turned3 G1 L on fl st N ps fd)(a:PySem.W.nsIn K mainGlobals x=some (some (.ref f)):=by kernel_rfl):∃fd f fo st N ps,tab3 i=some fd/\mg x=some (.ref f)/\Fun K x x st f fo/\Binds K fo ps []/\Turned3 G1 L on fl st N ps fd:=by
 obtain⟨fo,h1,h2⟩:=F;exact#[fd,f,fo,st,N,ps,ht,PySem.W.mg_of X Gm a,h1,h2,T]
def naI(h:PySem.W.findIn K (.ref C) f=some none:=by kernel_rfl):NoAttr K C f:=h
def noAt(K:Kq)(C:Addr):List Str->Prop
 | []=>True
 |f::r=>NoAttr K C f/\noAt K C r
theorem JEP:∀ {fl:List Str},noAt K C fl->∀f,fl.contains f=true->NoAttr K C f
 | [],_,f,h=>by cases h
 |g::r,⟨h1,h2⟩,f,h=>by
  rw[List.contains_cons,Bool.or_eq_true]at h;rcases h with h|h
  ·rw[eq_of_beq h];exact h1
  ·exact JEP h2 f h
end
end VI
end
section
namespace VI
open PySem PySem.Spec PyProof.Rows L2 VH
abbrev okFn(N P:List Str)(sc:Scope):Bool:=(match sc.kind with|.function=>true|_=>false)&&!sc.isCoroutine&&!sc.isGenerator&&decide N.Nodup&&(N.take P.length==P)&&P.all (λx=>match sc.names.lookup x with|some k=>isLo k|_=>false)&&sc.names.all (λy=>match y.2 with|.free=>false|_=>true)
def JEW{sc:Scope}(h:okFn N P sc=true):FnScope N P sc:=by
 unfold okFn at h;simp![q_i,Bool.not_eq_true',q_D,beq_iff_eq,List.all_eq_true]at h;obtain⟨⟨⟨⟨⟨⟨h1,h2⟩,h3⟩,h4⟩,h5⟩,h6⟩,h7⟩:=h;refine#[?_,h2,h3,h4,h5,λx hx=>?_,λy hy e=>?_]
 ·split at h1
  ·assumption
  ·cases h1
 ·have:=h6 x hx
  split at this
  ·rename_i k e;rw[e];cases k<;>first|exact .inl rfl|exact .inr rfl|cases this
  ·cases this
 ·have:=h7 y hy;rw[e]at this;cases this
section
variable{K:Kq}{h:Heap}{mg:Mq}{G:List (Str×GK)}{L:List (Str×GK3)}{on fl:List Str}{C:Addr}
@[reducible]def BiA(x q:Str)(st:Stmt):Prop:=allN (pn st).length λus=>∀(kV doc pm:Value) (an:Option Addr) (cdv ct:Value),bindArgs (PySem.W.fnOf x q (JA8 st) (JAX st) (JAM st) .none kV doc pm an cdv ct) #[us,[]]=pure ((pn st).zip us)
@[reducible]def FnL(K:Kq)(x q:Str)(st:Stmt)(f c:Addr)(pm:Value):Prop:=K.lookup f=some #[.type "function",none,.func (PySem.W.fnOf x q (JA8 st) (JAX st) (JAM st) .none .none .none pm none (.ref c) .none),#[]]
def fbJ{x q:Str}{st:Stmt}(f c:Addr)(pm:Value)(l:FnL K x q st f c pm:=by kernel_rfl)(cc:PySem.W.codeIn K (.ref c) q=true:=by kernel_rfl)(k:PySem.W.keepIn K (.ref f)=true:=by kernel_rfl)(b:BiA x q st:=by (repeat intro _);exact rfl):∃fo,Fun K x q st f fo/\Binds K fo (pn st) []:=fbI f c pm _ b l cc k
def dJ(X:K.In h)(Gm:h.Ns mainGlobals mg)(f:Addr)(pm:Value)(st:Stmt)(l:FnL K x x st f (f - 1) pm:=by kernel_rfl)(cc:PySem.W.codeIn K (.ref (f - 1)) x=true:=by kernel_rfl)(k:PySem.W.keepIn K (.ref f)=true:=by kernel_rfl)(b:BiA x x st:=by (repeat intro _);exact rfl)(a:PySem.W.nsIn K mainGlobals x=some (some (.ref f)):=by kernel_rfl)(t:JAm (JCK G 60 true (JAM st).names (vn st)) (JAX st)=some fd.body:=by kernel_rfl)(s:okFn (vn st) (pn st) (JAM st)=true:=by kernel_rfl)(p:fd.par=(pn st).length:=by kernel_rfl)(z:fd.slots=(vn st).length:=by kernel_rfl):DefAt K mg G x fd:=by
 obtain⟨fo,h1,h2⟩:=fbJ f (f - 1) pm l cc k b;exact#[f,fo,st,vn st,pn st,PySem.W.mg_of X Gm a,h1,h2,t,JEW s,p,z]
def rJ{tabR:Nat->Option Fd}{i:Nat}(q:Str)(f:Addr)(pm:Value)(st:Stmt)(ht:tabR i=some fd)(M:Meth K C m f:=by exact mthI)(l:FnL K m q st f (f - 1) pm:=by kernel_rfl)(cc:PySem.W.codeIn K (.ref (f - 1)) q=true:=by kernel_rfl)(b:BiA m q st:=by (repeat intro _);exact rfl)(t:JAm (JCK G 60 true (JAM st).names (vn st)) (JAX st)=some fd.body:=by kernel_rfl)(s:okFn (vn st) (pn st) (JAM st)=true:=by kernel_rfl)(p:fd.par=(pn st).length:=by kernel_rfl)(z:fd.slots=(vn st).length:=by kernel_rfl):∃fd f fo y q st N ps,tabR i=some fd/\Meth K C m f/\Fun K y q st f fo/\Binds K fo ps []/\Turned G st N ps fd :=
 rI _ (fbJ f (f - 1) pm l cc M.kp b) M ht #[t,JEW s,p,z]
def m3J{x:Str}{tab3:Nat->Option Fd3}{i:Nat}{fd:Fd3}{P:Addr->Prop}(q:Str)(f:Addr)(pm:Value)(st:Stmt)(M:P f)(ht:tab3 i=some fd)(l:FnL K x q st f (f - 1) pm:=by kernel_rfl)(cc:PySem.W.codeIn K (.ref (f - 1)) q=true:=by kernel_rfl)(k:PySem.W.keepIn K (.ref f)=true:=by kernel_rfl)(b:BiA x q st:=by (repeat intro _);exact rfl)(c:JBf (JBg G L on fl 60 (JAM st).names (vn st) 60 true) (JAX st)=some fd.body:=by kernel_rfl)(s:okFn (vn st) (pn st) (JAM st)=true:=by kernel_rfl)(p:fd.par=(pn st).length:=by kernel_rfl)(z:fd.slots=(vn st).length:=by kernel_rfl):∃fd f fo y q st N ps,tab3 i=some fd/\P f/\Fun K y q st f fo/\Binds K fo ps []/\Turned3 G L on fl st N ps fd :=
 m3I (x:=x) _ (fbJ f (f - 1) pm l cc k b) M ht #[c,JEW s,p,z]
def f3J{tab3:Nat->Option Fd3}{i:Nat}(X:K.In h)(Gm:h.Ns mainGlobals mg)(f:Addr)(pm:Value)(st:Stmt)(ht:tab3 i=some fd)(l:FnL K x x st f (f - 1) pm:=by kernel_rfl)(cc:PySem.W.codeIn K (.ref (f - 1)) x=true:=by kernel_rfl)(k:PySem.W.keepIn K (.ref f)=true:=by kernel_rfl)(b:BiA x x st:=by (repeat intro _);exact rfl)(c:JBf (JBg G L on fl 60 (JAM st).names (vn st) 60 true) (JAX st)=some fd.body:=by kernel_rfl)(s:okFn (vn st) (pn st) (JAM st)=true:=by kernel_rfl)(p:fd.par=(pn st).length:=by kernel_rfl)(z:fd.slots=(vn st).length:=by kernel_rfl)(a:PySem.W.nsIn K mainGlobals x=some (some (.ref f)):=by kernel_rfl):∃fd f fo st N ps,tab3 i=some fd/\mg x=some (.ref f)/\Fun K x x st f fo/\Binds K fo ps []/\Turned3 G L on fl st N ps fd :=
 f3I X Gm _ (fbJ f (f - 1) pm l cc k b) ht #[c,JEW s,p,z] a
end
def cJ{K:Kq}{cl:Nat->Addr}{rc:Nat->Addr->Hp->Prop}{rcm:RcM rc}{w:World}{h:Heap}{mg:Mq}{x:Str}{d0:D}(X:K.In h)(Gm:h.Ns mainGlobals mg){glo:Nat->R D}{i:Nat}(hg:glo i=.ok d0)(e:((PySem.W.nsIn K mainGlobals x).bind λo=>o.bind λu=>conK K 64 u)=some d0:=by kernel_rfl):∀d,glo i=.ok d->∃u v,mg x=some u/\RelV v u/\∀H,Den #[K,cl,w,rc,rcm] H d v:=JOf X Gm e hg
abbrev gF(l:List (String×Nat)):List (Str×GK):=l.map λp=>(Str.ofString p.1,.fn p.2)
abbrev gC(l:List (String×Nat)):List (Str×GK):=l.map λp=>(Str.ofString p.1,.con p.2)
abbrev gX(l:List (String×Nat)):List (Str×GK):=l.map λp=>(Str.ofString p.1,.cls p.2)
abbrev gO(l:List String):List (Str×GK):=l.map λp=>(Str.ofString p,.opt)
abbrev noX:List (Str×GK)->Bool
 | []=>true
 |(_,.cls _)::_=>false
 |_::r=>noX r
theorem JIm{B:Bs}{k:Nat}{l:List Nat}:∀ {G:List (Str×GK)},noX G=true->AllP (λ_ gk=>match gk with
 |.cls c=>JJx B.K (B.cl k) (B.cl c) (l.contains c)
 |_=>True) G
 | [],_=>trivial
 |(x,g)::r,h=>by
  cases g<;>first|exact⟨trivial,JIm h⟩|cases h
end VI
end
section
namespace VI
open PySem PySem.Spec PyProof.Rows L2
def JIC:typeLookup (.type "list_reverseiterator") "__len__"=pure none:=by rw[typeLookup_type,builtinLookup_eq_fast];kernel_rfl
def JLK:typeLookup (.type "list_reverseiterator") "__length_hint__"=pure (some (.builtin "list_reverseiterator.__length_hint__")):=by rw[typeLookup_type,builtinLookup_eq_fast];kernel_rfl
section
variable{prog:Program}{w:World}{A:Around}{E:Vq}{s:Shared}
def JKp{I:Addr}(hT:s.TypeIs (.ref I) "list_reverseiterator"){Q:Bool->Shared->Prop}(h:Q false s):wpAny (model prog w) A (Builtin.List.listLengthHint (.ref I)) Q E s:=by
 unfold Builtin.List.listLengthHint;refine q_b (wpAny_specialOf hT JIC ?_);show wpAny _ A (specialOf (Value.ref I) (Str.ofString "__length_hint__") >>= _) _ _ _;refine q_b (wpAny_specialOf hT JLK ?_)
 (generalize hid:("list_reverseiterator.__length_hint__":String)=id0;(fail_if_success (clear hid id0));wp_delta;rw[show splitId id0=some ("list_reverseiterator","__length_hint__") from by subst hid;decide +kernel];subst hid)
 refine q_b (wpAny_isInstance (b:=true) hT (by rw[isSubtype_type];kernel_rfl) ?_)
 exact q_e h
def JNg{R:Result->Shared->Prop}{I l S:Addr}{items:Array Value}{res:Value}{c₀:Nat}(hh:A.handled=none)(hne:l≠I)(hit:s.heap.IsRevIter I l ((items.size:Int) - 1))(hl:s.heap.IsList l items)(hn:items.size<=sizeLine)
  (hSI:S≠I) (hSl:S≠l) (hS:s.heap.get? S=some { cls:=.type "list",data:=.seq #[] c₀ })
  (hR:∀h' tk acc' c',(∀b o,b≠S->b≠I->s.heap.get? b=some o->h'.get? b=some o)->h'.get? S=some { cls:=.type "list",dict:=none,data:=.seq acc' c',slots:=#[] }->ItemsOf (λi v=>items[items.size - 1 - i]? = some v) acc' items.size->R (.ok (.ret res)) { s with heap:=h',toks:=tk }) :
  wpAny (model prog w) A.in1 (Builtin.List.listExtendWith (.ref S) (.ref I) res)
    (λfin s'=>match fin with|.done f=>R (.ok f) s'|.again c'=>c'.quiet=true/\codeAny (model prog w) A c' R s') (λe s'=>R (.error e) s') s:=by
 have hSf:S ∉ [I,l]:=by simp![q_n,List.not_mem_nil,or_false,not_or];exact#[hSI,hSl]
 have W:=Walks.listRev (prog:=prog) (w:=w) (A:=A.in1) hh I l hne items;have st:0<=items.size/\s.heap.IsRevIter I l ((items.size:Int) - 1 - ((0:Nat):Int))/\s.heap.IsList l items:=#[Nat.zero_le _,by simpa using hit,hl]
 unfold Builtin.List.listExtendWith;refine q_b (wpAny_typeOf (T:="list_reverseiterator") hit.typeIs ?_);have h1:Builtin.List.listSameRef (.ref S) (.ref I)=false:=by simp[Builtin.List.listSameRef,hSI]
 rw[if_neg (by rw[h1];decide)]
 refine q_b (W.self 0 s _ _ st ?_);refine q_b (wpAny_holding (JKp hit.typeIs ?_));rw[if_neg (by decide)]
 refine q_e #[plainId_quiet PySem.F.plain_extend_loop _,codeAny_extend_loopS W.toS hn S hSf res items.size 0 s #[] c₀ rfl (Nat.zero_le _) st hS (ItemsOf.nil _) λs' acc' c' hm hS' hacc=>?_];rw[Moved.eq_with hm];refine hR s'.heap s'.toks acc' c' (λb o hb hbI e=>hm.heap b o (λhmem=>?_) e) hS' hacc;rcases q_n.mp hmem with e'|hmem
 ·exact hb e'
 ·exact hbI (List.mem_singleton.mp hmem)
def JEK{I l:Addr}{items:Array Value}{Q:Vq}(hh:A.handled=none)(hne:l≠I)(hit:s.heap.IsRevIter I l ((items.size:Int) - 1))(hl:s.heap.IsList l items)(hn:items.size<=sizeLine)
  (hQ:∀h' tk acc' c',(∀b o,b≠I->s.heap.get? b=some o->h'.get? b=some o)->h'.get? s.heap.objs.size=some { cls:=.type "list",dict:=none,data:=.seq acc' c',slots:=#[] } ->
    ItemsOf (λi v=>items[items.size - 1 - i]? = some v) acc' items.size->Q (.ref s.heap.objs.size) { s with heap:=h',toks:=tk }) :
  wpAny (model prog w) A (call (.type "list") [.ref I]) Q E s:=by
 have hI:I<s.heap.objs.size:=by obtain⟨o,ho,_⟩:=hit;exact q_h ho
 have hL:l<s.heap.objs.size:=by obtain⟨o,ho,_⟩:=hl;exact q_h ho
 refine callType_codes (Q₁:=λo1 s1=>o1=.ref s.heap.objs.size/\s1={ s with heap:=s.heap.push { cls:=.type "list",data:=.seq #[] } }) PySem.F.called_list (PySem.F.typeCall_list_1 _) PySem.F.entry_list_init (code_list_new _ #[rfl,rfl]) λo1 s1 q1=>?_
 obtain⟨rfl,rfl⟩:=q1;have hS:(s.heap.push { cls:=.type "list",data:=.seq #[] }).get? s.heap.objs.size=some { cls:=.type "list",data:=.seq #[] }:=q_k _ rfl;refine#[#[_,hS,rfl],PySem.F.args_list_init_2 _ _,?_];show wpAny _ _ (do let old<-Builtin.List.listItems (.ref s.heap.objs.size);Builtin.List.listUpdate (.ref s.heap.objs.size) (λ_=>#[]);letGo old.toList.reverse;Builtin.List.listExtendWith (.ref s.heap.objs.size) (.ref I) .none) _ _ _
 refine q_b ?_;unfold Builtin.List.listItems;refine q_b (wpAny_seqItems hS rfl (q_e ?_));show wpAny _ _ (updateSeq s.heap.objs.size (λ_=>#[]) >>= λ_=>letGo (#[]:Array Value).toList.reverse >>= λ_=>Builtin.List.listExtendWith (.ref s.heap.objs.size) (.ref I) .none) _ _ _;refine q_b (wpAny_updateSeq hS rfl ?_);have hS2:=Heap.get?_update_self (Obj.mapSeq (λ_=>(#[]:Array Value))) hS rfl;have kp:∀b o,b≠s.heap.objs.size->s.heap.get? b=some o->((s.heap.push { cls:=.type "list",data:=.seq #[] }).update s.heap.objs.size (Obj.mapSeq (λ_=>(#[]:Array Value)))).get? b=some o :=
  λb o hb e=>(Heap.get?_update_other _ _ (Ne.symm hb)).trans (q_c _ e)
 refine q_b (wpAny_letGo ?_);refine JNg (A:=A.in1) hh hne (hit.at λo e=>kp _ o (q_l hI) e) (hl.at λo e=>kp _ o (q_l hL) e) hn (Nat.ne_of_gt hI) (Nat.ne_of_gt hL) hS2 λh' tk acc' c' hk hS' hacc=>?_;exact#[rfl,hQ h' tk acc' c' (λb o hb e=>hk b o (q_l (q_h e)) hb (kp b o (q_l (q_h e)) e)) hS' hacc]
end
section
variable{X:Cx}{yp:Pq}{Y:St}{H:Hp}{s:Shared}{h':Heap}
def JFm{t':Nat}{it a:Addr}{o:HO}(I:Inv X yp Y H s)(k:∀b u,b≠it->s.heap.get? b=some u->h'.get? b=some u)(f:FpOk X yp H it)(hp:s.heap.objs.size<=a)(new:ObjOk X.prog X.w (upd H a o) h' a o) :
  Inv X yp Y (upd H a o) { s with heap:=h',toks:=t' }:=by
 obtain⟨hn,hL,hfs,h1,h2,h3⟩:=f;have ha:=I.hok.fresh hp;have nit:∀b u,H b=some u->b≠it:=λb u e z=>by rw[z,hn]at e;cases e
 have na:∀b u,s.heap.get? b=some u->b≠a:=λb u e=>q_l (q_m (q_h e) hp);have kp:∀b u,H b=some u->upd H a o b=some u:=λb u e=>by rw[JAJ (JAU e ha)];exact e
 refine I.step (g':=s.gens) (d':=s.drawn) (ch:=[it]) (λb hb=>?_) (λb u _ _ hc e _=>k b u (λz=>hc (by simp[z])) e) (λb u _ _ hc e _=>#[u.slots,k b u (λz=>hc (by simp[z])) e])
  (λb u _ e n=>by rw[JAJ (na b u e)];exact n) (λb u hc e=>#[u,k b u (λz=>hc (by simp[z])) e]) (λb xs e=>kp b _ e) (λb u v e=>kp b _ e) (λb ps e=>#[#[],by rw[kp b _ e];simp]) (λm hm=>?_) (λb u e=>?_) I.bare
 ·have e:b=it:=by simpa using hb
  subst e;exact#[h1,hL,h2,h3]
 ·obtain⟨ob,es,ep,ho,r⟩:=hm;exact#[ob,es,ep,k _ ob (Ne.symm hL) ho,r]
 ·by_cases hb:b=a
  · subst hb;rw[JAH]at e;cases e;exact new
  · rw[JAJ hb]at e
    refine(I.hok b u e).stay (λc v hc q=>k c v ?_ q) (λc q=>kp c _ q) λc xs q=>kp c _ q;rcases hc with z|z
    ·rw[z];exact nit b u e
    ·exact nit c _ z
end
section
variable{X:Cx}{B:Bs}{C:Cn}{CX:CXT}{XX:Nat->Hp->Prop}{G:List (Str×GK)}
def JND(ds:List D):(∃ys,ds=[.list ys])\/∀k,xD k ds=.bad:=by
 cases ds with
 |nil=>exact .inr λk=>by cases k<;>rfl
 |cons a r =>
  cases r with
  |nil=>cases a<;>first|exact .inl ⟨_,rfl⟩|exact .inr λk=>by cases k<;>rfl
  |cons=>cases a<;>exact .inr λk=>by cases k<;>rfl
theorem DenL.rev{H:Hp}:∀(ds:List D) (vs:List V),DenL B H ds vs->DenL B H ds.reverse vs.reverse
 | [],vs,h=>by simp![DenL]at h;subst h;simp![List.reverse_nil,DenL]
 |d::ds,vs,h=>by
  simp![DenL]at h;obtain⟨v,r,e,q,l⟩:=h;subst e;simp![List.reverse_cons];refine DenL.append _ _ _ _ (DenL.rev ds r l) ?_;simp![DenL];exact#[v,[],rfl,q,rfl]
theorem JGi:∀ {vs:List V}{us:List Value},Vals vs us->Vals vs.reverse us.reverse
 | [],us,h=>by cases h;exact .nil
 |v::vs,us,h=>by
  cases h with
  |cons r1 r2 =>
   simp![List.reverse_cons];exact(JGi r2).append (.cons r1 .nil)
def JI5{its:List Value}{acc:Array Value}(h:ItemsOf (λi v=>its.toArray[its.toArray.size - 1 - i]? = some v) acc its.toArray.size):acc=its.reverse.toArray:=by
 apply Array.ext
 ·rw[h.1];simp
 ·intro i h1 h2;have e:=h.2 i acc[i] (Array.getElem?_eq_getElem h1);have hs:acc.size=its.length:=by rw[h.1];simp
  simp![q_f,List.getElem?_toArray]at e;have h3:its.length - 1 - i<its.length:=by omega
  rw[q_q h3]at e;simp![q_j]at e;simp![List.getElem_toArray,List.getElem_reverse];exact e.symm
abbrev RvO(X:Cx)(p l:Addr)(n:Nat):HO:=.ext λh=>X.s₀.heap.objs.size<=p/\h.IsRevIter p l ((n:Int) - 1)
def JCl:JBl X (.type "reversed") (λxs H Q=>∃l ys,xs=[.ref l]/\SqL X.K H l ys/\∀p,H p=none->Q (.ref p) (upd H p (RvO X p l ys.length))):=by
 rintro yp s Y H xs us Q I r ⟨l,ys,e,hq,q⟩;subst e;cases r with
 |cons ra rb =>
  cases rb;cases ra;obtain⟨its,rv,pl,hz⟩:=I.list hq;have hl:=rv.length;refine call_reversed_list pl.isList ?_;refine#[.ref s.heap.objs.size,_,I.laid (t':=s.toks) (λb o e=>q_c _ e) (q_t _) (o:=RvO X s.heap.objs.size l ys.length) ?_,rfl,q _ I.fresh];have e1:((its.toArray.size:Nat):Int) - 1=(ys.length:Int) - 1:=by rw[q_f,hl]
  rw[e1];exact#[#[I.sz,_,q_k _ rfl,rfl,rfl],#[_,q_k _ rfl],λh1 h2 z k=>#[z.1,z.2.at k]]
def forget{yp:Pq}{Y:St}{H1:Hp}{s:Shared}{p:Addr}{φ:Heap->Prop}(I:Inv X yp Y (upd H1 p (.ext φ)) s)(h1:H1 p=none)(hs:X.s₀.heap.objs.size<=p):Inv X yp Y H1 s/\FpOk X yp H1 p:=by
 have hp:upd H1 p (.ext φ) p=some (.ext φ):=JAH;have no:∀b,upd H1 p (.ext φ) b=none->b≠p:=λb e z=>by rw[z,hp]at e;cases e
 have f:FpOk X yp H1 p:=by
  refine#[h1,λz=>no _ I.free z.symm,λhb=>?_,.inr hs,λx c e=>no _ (I.freeC x c e),λq hq=>no _ (I.pin q hq).2.1];obtain⟨_,o,ho,_⟩:=I.ok.funs.mem hb;exact absurd (q_m (q_h ho) hs) (Nat.lt_irrefl _)
 have dn:∀b u,upd H1 p (.ext φ) b=some u->u≠.ext φ->H1 b=some u:=λb u e ne=>by
  by_cases hb:b=p
  · rw[hb,hp]at e;cases e;exact absurd rfl ne
  · rw[JAJ hb]at e;exact e
 refine#[?_,f];refine I.step (g':=s.gens) (d':=s.drawn) (t':=s.toks) (h':=s.heap) (ch:=[]) (λ_ z=>nomatch z) (λb u _ _ _ e _=>e) (λb u _ _ _ e _=>#[u.slots,e])
  (λb u _ e n=>by rw[JAJ (no b n)]at n;exact n) (λb u _ e=>#[u,e]) (λb xs e=>dn b _ e (by simp)) (λb u v e=>dn b _ e (by simp)) (λb ps e=>#[#[],by rw[dn b _ e (by simp)];simp]) (λm hm=>hm) (λb u e=>?_) I.bare
 have hb:b≠p:=λz=>by rw[z,h1]at e;cases e
 exact(I.hok b u (by rw[JAJ hb];exact e)).stay (λc v _ q=>q) (λc q=>dn c _ q (by simp)) λc xs q=>dn c _ q (by simp)
def JDZ(hc:X.calm=true):JBl X (.type "list") (λxs H Q=>∃p l ys H1,xs=[.ref p]/\H=upd H1 p (RvO X p l ys.length)/\H1 p=none/\SqL X.K H1 l ys/\∀q,H1 q=none->Q (.ref q) (upd H1 q (.lst ys.reverse))):=by
 rintro yp s Y H xs us Q I r ⟨p,l,ys,H1,e,eH,h1,hq,q⟩;subst e;subst eH;cases r with
 |cons ra rb =>
  cases rb;cases ra;obtain⟨⟨hs,hit⟩,_,_⟩:=I.hok p _ JAH;obtain⟨I1,f⟩:=forget I h1 hs;obtain⟨its,rv,pl,hz⟩:=I1.list hq;have hl:=rv.length;have hne:l≠p:=λz=>by
   subst z;obtain⟨o,ho,c1,_⟩:=pl.isList;obtain⟨o',ho',c2,_⟩:=hit;rw[ho]at ho';cases ho';rw[c1]at c2;exact absurd (Value.type.inj c2) (by decide)
  have hsz:its.toArray.size=ys.length:=by rw[q_f];exact hl.symm
  refine JEK (items:=its.toArray) (I.ok.hd hc) hne (by rw[hsz];exact hit) pl.isList (by rw[hsz];exact hz) λh' tk acc' c' hk hS hacc=>?_
  have ea:=JI5 hacc;subst ea;exact#[.ref s.heap.objs.size,_,JFm I1 (λb o hb e=>hk b o hb e) f (q_t _) (show ObjOk X.prog X.w _ h' _ (.lst ys.reverse) from#[by simpa using hz,its.reverse,c',JGi rv,hS]),rfl,q _ I1.fresh]
def JDF{it:Bool}(h:JGE G names it f a=some (k,args)) :
  it=false/\∃b r p pos,args=[b]/\f="list"/\glob G names f=some (.ty .list)/\a=.Call (.Name r p) [b] [] pos/\r="reversed"/\glob G names r=some .nam:=by
 unfold JGE at h
 split at h
 ·rename_i r p b pos
  split at h
  ·rename_i q;cases h;exact#[q.1,b,r,p,pos,rfl,q.2.1,q.2.2.1,rfl,q.2.2.2.1,q.2.2.2.2]
  ·cases h
 ·cases h
def JQz(g:Gk X B C CX XX G){b:Expr}{p pos:Pos}{t:TA}(hg:glob G X.env.scope.names "reversed"=some .nam)(ha:PA X [b] t)(he:starEach [b] X.env=[(false,eval b X.env)]) :
  PE X (.Call (.Name "reversed" p) [b] [] pos) (tCB (λxs H Q=>∃l ys,xs=[.ref l]/\SqL X.K H l ys/\∀p,H p=none->Q (.ref p) (upd H p (RvO X p l ys.length))) t):=by
 obtain⟨_,h2,h3⟩:=JA6 hg;exact JCv (es:=[]) JCl h2 (g.nam _ h3) (by decide +kernel) ha (by decide) (by decide) he rfl
def JQY[Cool G]:XOk B C CX G .rev where
 val:=by
  intro X XX g e args y h _ ha hs hc;unfold xRaw at h
  split at h
  ·rename_i f p a pos
   split at h
   ·split at h<;>cases h
   obtain⟨_,b,r,p2,pos2,rfl,rfl,h1,rfl,rfl,h2⟩:=JDF h;obtain⟨_,h3,h4⟩:=JA6 h1;refine PE.imp (JCv (es:=[]) (JDZ (g.calm inferInstance)) h3 (g.ty _ _ h4) (by decide +kernel) (JBF (JQz g h2 ha (hs b (by simp) [] X.env)) JBe rfl) (by decide) (by decide) rfl rfl) λY H Q h_=>?_
   obtain⟨U,ok,k⟩:=h_;simp![ev]at k;refine RA.of (W:=λr H=>KE B XX r H Q) ok (λ_ _ z=>z) (λ_ z=>z) k λds vs H1 s1 d1 k1=>?_;have k1:=KE.mono g s1 k1;rcases JND ds with ⟨ys,rfl⟩|b1
   rotate_left
   ·rw[b1]at k1;exact fF k1
   ·simp![DenL,Den]at d1;obtain⟨v,r,e,⟨q,us,e1,sq,l⟩,e2⟩:=d1;subst e2;subst e1;subst e;refine#[q,us,rfl,g.K▸sq,λp' hp=>#[p',q,us,H1,rfl,rfl,hp,g.K▸sq,λp3 hp3=>?_]];have sm:Same H1 (upd H1 p3 (.lst us.reverse)):=JBA hp3;refine k1 _ _ sm ?_;simp![Den];exact#[p3,_,rfl,SqL.of JAH,DenL.mono sm _ _ (DenL.rev _ _ l)]
  all_goals first|(cases h;done)|(split at h<;>cases h)
 itr:=by
  intro X XX g tg e args y h ha hs hc;unfold xRaw at h
  split at h
  ·split at h
   ·split at h<;>cases h
   ·cases(JDF h).1
  ·cases h
end
end VI
end
section
namespace VI
open PySem
def JNh{x y:Str}(e:x.cps.toList=y.cps.toList):x=y:=by
 cases x;cases y;simp![Str.mk.injEq];exact Array.toList_inj.mp e
def JH5{a b:List Str}(p:a.Perm b)(ha:a.Pairwise λa b=>a.cps.toList<=b.cps.toList)(hb:b.Pairwise λa b=>a.cps.toList<=b.cps.toList):a=b:=p.eq_of_pairwise (λa b _ _ h1 h2=>JNh (List.le_antisymm h1 h2)) ha hb
def JER(zs:List Str):(JDT zs).Pairwise λa b=>a.cps.toList<=b.cps.toList:=by
 refine(List.pairwise_mergeSort (λa b c h1 h2=>?_) (λa b=>?_) zs).imp λ{a b} h=>List.not_lt.mp (by simpa using h)
 ·simp![Bool.not_eq_true',decide_eq_false_iff_not]at h1 h2 ⊢;exact List.not_lt.mpr (List.le_trans (List.not_lt.mp h1) (List.not_lt.mp h2))
 ·by_cases h:b.cps.toList<a.cps.toList
  ·simp[List.lt_asymm h]
  ·simp[h]
def JHK{a b:List Str}(p:a.Perm b):JDT a=JDT b:=JH5 ((List.mergeSort_perm _ _).trans (p.trans (List.mergeSort_perm _ _).symm)) (JER a) (JER b)
end VI
end
section
namespace VI
open PySem PySem.Spec PyProof.Rows L2
theorem JMS:∀(p:Str) (l:List Str),risingS p l=true->(p::l).Pairwise λa b=>a.cps.toList<=b.cps.toList
 |p,[],_=>by simp
 |p,x::r,h=>by
  simp![risingS,q_i,Bool.not_eq_true',ltCps_eq,decide_eq_false_iff_not]at h;have ih:=JMS x r h.2;refine List.pairwise_cons.mpr #[λy hy=>?_,ih];rcases q_n.mp hy with rfl|hy
  ·exact List.not_lt.mp h.1
  ·exact List.le_trans (List.not_lt.mp h.1) ((List.pairwise_cons.mp ih).1 y hy)
def JRa:∀ {l:List Str},sortedS l=true->l.Pairwise λa b=>a.cps.toList<=b.cps.toList
 | [],_=>.nil
 |x::r,h=>JMS x r h
def JOa(p:ss.Perm zs)(h:sortedS ss=true):ss=JDT zs:=JH5 (p.trans (List.mergeSort_perm _ _).symm) (JRa h) (JER zs)
theorem JEk:∀ {vs:List Value}{ss:List Str},StrsAre vs ss->Vals (ss.map V.str) vs
 |_,_,.nil=>.nil
 |_,_,.cons x t h=>.cons #[t,rfl] (JEk h)
theorem JFG:∀ {ss:List Str}{vs:List Value},Vals (ss.map V.str) vs->StrsAre vs ss
 | [],_,h=>by cases h;exact .nil
 |x::r,_,h=>by
  cases h with
  |cons p q =>
   obtain⟨t,rfl⟩:=p;exact .cons x t (JFG q)
section
variable{X:Cx}{B:Bs}{C:Cn}{CX:CXT}{XX:Nat->Hp->Prop}{G:List (Str×GK)}
def JEM:JBl X (.builtin "sorted") (λxs H Q=>∃l zs,xs=[.ref l]/\SqL X.K H l (zs.map V.str)/\zs.length<64/\∀p,H p=none->Q (.ref p) (upd H p (.lst ((JDT zs).map V.str)))):=by
 rintro yp s Y H xs us Q I r ⟨l,zs,e,hq,h5,q⟩;subst e;cases r with
 |cons ra rb =>
  cases rb;cases ra;obtain⟨vs,rv,pl,hz⟩:=I.list hq;have hl:=rv.length;rw[q_g]at hl;refine sorted_strs pl.isList (JFG rv) ∅ λout ss h1 h2 h3=>?_
  obtain⟨c,he⟩:=sortedAll_at s.heap vs out;have e:=JOa h2 h3;subst e;refine#[.ref (s.heap.objs.size+1),_,I.laid (t':=s.toks) (λb o e=>sortedAll_old e) (Nat.le_succ _) (o:=.lst ((JDT zs).map V.str)) #[?_,out.toList,c,JEk h1,he],rfl,q _ (I.hok.fresh (Nat.le_succ _))];rw[q_g,h2.length_eq,sizeLine_eq];omega
theorem JG1:∀ {ds:List D}{us:List V}{zs:List Str},strsOf ds=some zs->DenL B H ds us->us=zs.map V.str
 | [],us,zs,h,l=>by
  simp![strsOf,q_j]at h;simp![DenL]at l;subst h;subst l;rfl
 |d::ds,us,zs,h,l=>by
  simp![DenL]at l;obtain⟨v,r,e,dv,l⟩:=l;subst e;cases d with
  |str x =>
   simp![strsOf,q_d]at h;obtain⟨zs',h1,rfl⟩:=h;simp![Den]at dv;subst dv;rw[JG1 h1 l];rfl
  |_=>simp[strsOf]at h
theorem JFg:∀(zs:List Str),DenL B H (zs.map PyData.str) (zs.map V.str)
 | []=>by simp![List.map_nil,DenL]
 |z::zs=>by
  simp![List.map_cons,DenL];exact#[_,_,rfl,by simp![Den],JFg zs]
def JQy:XOk B C CX G .srt where
 val:=by
  intro X XX g e args y h _ ha hs hc;unfold xRaw at h
  split at h
  ·rename_i f p a pos
   split at h
   case isFalse =>
    unfold JGE at h
    split at h<;>first|(cases h;done)|(split at h<;>cases h)
   rename_i hf;subst hf
   split at h
   case isFalse=>cases h
   rename_i h1;cases h;obtain⟨_,h3,h4⟩:=JA6 h1.2;refine PE.imp (JEG (es:=[]) JEM h3 (g.nam _ h4) (by decide +kernel) ha (by decide) (by decide) (hs a (by simp) [] X.env) rfl) λY H Q h_=>?_
   obtain⟨U,ok,k⟩:=h_;simp![ev]at k;refine RA.of (W:=λr H=>KE B XX r H Q) ok (λ_ _ z=>z) (λ_ z=>z) k λds vs H1 s1 d1 k1=>?_;have k1:=KE.mono g s1 k1;rcases JND ds with ⟨ys,rfl⟩|b1
   rotate_left
   ·rw[b1]at k1;exact fF k1
   ·simp![xD]at k1;simp![DenL,Den]at d1;obtain⟨v,r,e,⟨q,us,e1,sq,l⟩,e2⟩:=d1;subst e2;subst e1;subst e;unfold srtS at k1
    split at k1
    ·rename_i zs hst
     split at k1
     ·rename_i h5;have eu:=JG1 hst l;subst eu;refine#[q,zs,rfl,g.K▸sq,h5,λp3 hp3=>k1 _ _ (JBA hp3) ?_];simp![Den];exact#[p3,_,rfl,SqL.of JAH,JFg _]
     ·exact fF k1
    ·exact fF k1
  all_goals first|(cases h;done)|(split at h<;>cases h)
 itr:=by
  intro X XX g tg e args y h ha hs hc;unfold xRaw at h
  split at h
  ·split at h
   ·split at h
    ·rename_i z;cases z.1
    ·cases h
   ·cases(JDF h).1
  ·cases h
end
end VI
end
section
namespace VI.VP
open PySem Fr
structure TabM(tab:Nat->Option Fd):Prop where
 h7:tab 7=some d_7
 h8:tab 8=some d_8
 h9:tab 9=some d_9
 h10:tab 10=some d_10
section
variable{x:Bool}{tab:Nat->Option Fd}{glo:Nat->R D}{sub:Nat->Nat->Bool}{n:Nat}
theorem JCe(T:TabF tab)(some':D):∀(qs:List Rat) (m:Rat) (z:Sl),z.isOwn=false->Q m->(∀q∈qs,Q q)->∃m' z',(m'=m\/m'∈qs)/\m'<=m/\(∀q∈qs,m'<=q)/\Q m' /\
  for2 #[run x tab glo sub (n+1),glo,sub] 2 (.cons (.ife (.call 6 (.cons (.var 2) (.cons (.var 1) .nil))) (.cons (.asg 1 (.var 2)) .nil) .nil) .nil) (qs.map F) [.val some',.val (F m),z]=.nx [.val some',.val (F m'),z']
 | [],m,z,hz,hm,hq=>#[m,z,.inl rfl,Rat.le_refl,by simp,hm,rfl]
 |q::qs,m,z,hz,hm,hq=>by
  have hq0:Q q:=hq q (by simp)
  rw[List.map_cons,JBy]
  by_cases h:q<m
  ·obtain⟨m',z',h1,h2,h3,h4,h5⟩:=JCe T some' qs q (.val (F q)) rfl hq0 (λq hq'=>hq q (by simp[hq']))
   refine#[m',z',?_,?_,?_,h4,?_]
   ·rcases h1 with h1|h1
    ·exact .inr (by simp[h1])
    ·exact .inr (by simp[h1])
   ·grind
   ·intro r hr;rcases q_n.mp hr with e|e
    ·subst e;exact h2
    ·exact h3 r e
   ·dsimp![JDL T hq0 hm,h,decide_true]
    exact h5
  ·obtain⟨m',z',h1,h2,h3,h4,h5⟩:=JCe T some' qs m (.val (F q)) rfl hm (λq hq'=>hq q (by simp[hq']))
   refine#[m',z',?_,h2,?_,h4,?_]
   ·rcases h1 with h1|h1
    ·exact .inl h1
    ·exact .inr (by simp[h1])
   ·intro r hr;rcases q_n.mp hr with e|e
    ·subst e;grind
    ·exact h3 r e
   ·dsimp![JDL T hq0 hm,h,decide_false]
    exact h5
theorem JDK(T:TabF tab)(some':D):∀(qs:List Rat) (m:Rat) (z:Sl),z.isOwn=false->Q m->(∀q∈qs,Q q)->∃m' z',(m'=m\/m'∈qs)/\m<=m'/\(∀q∈qs,q<=m')/\Q m' /\
  for2 #[run x tab glo sub (n+1),glo,sub] 2 (.cons (.ife (.call 6 (.cons (.var 1) (.cons (.var 2) .nil))) (.cons (.asg 1 (.var 2)) .nil) .nil) .nil) (qs.map F) [.val some',.val (F m),z]=.nx [.val some',.val (F m'),z']
 | [],m,z,hz,hm,hq=>#[m,z,.inl rfl,Rat.le_refl,by simp,hm,rfl]
 |q::qs,m,z,hz,hm,hq=>by
  have hq0:Q q:=hq q (by simp)
  rw[List.map_cons,JBy]
  by_cases h:m<q
  ·obtain⟨m',z',h1,h2,h3,h4,h5⟩:=JDK T some' qs q (.val (F q)) rfl hq0 (λq hq'=>hq q (by simp[hq']))
   refine#[m',z',?_,?_,?_,h4,?_]
   ·rcases h1 with h1|h1
    ·exact .inr (by simp[h1])
    ·exact .inr (by simp[h1])
   ·grind
   ·intro r hr;rcases q_n.mp hr with e|e
    ·subst e;exact h2
    ·exact h3 r e
   ·dsimp![JDL T hm hq0,h,decide_true]
    exact h5
  ·obtain⟨m',z',h1,h2,h3,h4,h5⟩:=JDK T some' qs m (.val (F q)) rfl hm (λq hq'=>hq q (by simp[hq']))
   refine#[m',z',?_,h2,?_,h4,?_]
   ·rcases h1 with h1|h1
    ·exact .inl h1
    ·exact .inr (by simp[h1])
   ·intro r hr;rcases q_n.mp hr with e|e
    ·subst e;grind
    ·exact h3 r e
   ·dsimp![JDL T hm hq0,h,decide_false]
    exact h5
def JMA(a:D)(r:List D):idxD (.list (a::r)) (.int 0)=.ok a:=by
 simp[idxD,atI,ixN,optR]
def JGm(T:TabF tab)(M:TabM tab)(p:Rat)(qs:List Rat)(hq:∀q∈p::qs,Q q):∃m,m∈p::qs/\(∀q∈p::qs,m<=q)/\Q m/\run x tab glo sub (n+2) 7 [.list ((p::qs).map F)]=.ok (F m):=by
 rw[JAC M.h7,JAB rfl];obtain⟨m,z,h1,h2,h3,h4,h5⟩:=JCe (x:=x) (glo:=glo) (sub:=sub) (n:=n) T (.list ((p::qs).map F)) (p::qs) p .no rfl (hq p (by simp)) hq
 refine#[m,?_,h3,h4,?_]
 ·rcases h1 with h1|h1
  ·simp[h1]
  ·exact h1
 ·simp![List.map_cons]at h5 ⊢
  dsimp![d_7,b_7,JMA,JA4,JAe,JAz,JAy,h5]
def JJM(T:TabF tab)(M:TabM tab)(p:Rat)(qs:List Rat)(hq:∀q∈p::qs,Q q):∃m,m∈p::qs/\(∀q∈p::qs,q<=m)/\Q m/\run x tab glo sub (n+2) 8 [.list ((p::qs).map F)]=.ok (F m):=by
 rw[JAC M.h8,JAB rfl];obtain⟨m,z,h1,h2,h3,h4,h5⟩:=JDK (x:=x) (glo:=glo) (sub:=sub) (n:=n) T (.list ((p::qs).map F)) (p::qs) p .no rfl (hq p (by simp)) hq
 refine#[m,?_,h3,h4,?_]
 ·rcases h1 with h1|h1
  ·simp[h1]
  ·exact h1
 ·simp![List.map_cons]at h5 ⊢
  dsimp![d_8,b_8,JMA,JA4,JAe,JAz,JAy,h5]
end
end VI.VP
end
section
namespace VI.VP
open PySem Fr
def r3:rngD [.int 3]=.ok [.int 0,.int 1,.int 2]:=rfl
def JPv(p:Rat):(F p).canLay0=true:=by
 simp![F,PyData.canLayAll0,PyData.canLay0,Bool.and_self]
def JF7(p:Rat):(F p).depth=1:=by
 simp![F,PyData.depth,PyData.depthAll];rfl
section
variable{x:Bool}{tab:Nat->Option Fd}{glo:Nat->R D}{sub:Nat->Nat->Bool}{n:Nat}
end
end VI.VP
end
section
namespace VI.VP
abbrev b_23:S:=(.cons (.ret (.and (.isi (.var 0) .int) (.not (.isi (.var 0) .bool)))) .nil)
abbrev d_23:Fd:=#[1,1,b_23]
abbrev b_24:S:=(.cons (.ife (.or (.not (.isi (.var 0) .tuple)) (.cmp .NotEq (.blt .len (.cons (.var 0) .nil)) (.cint 2))) (.cons (.ret (.cbl false)) .nil) .nil) (.cons (.asg 1 (.idx (.var 0) (.cint 0))) (.cons (.asg 2 (.idx (.var 0) (.cint 1))) (.cons (.ife (.or (.not (.call 23 (.cons (.var 1) .nil))) (.not (.call 23 (.cons (.var 2) .nil)))) (.cons (.ret (.cbl false)) .nil) .nil) (.cons (.ret (.and (.cmp .Gt (.var 2) (.cint 0)) (.cmp .Eq (.call 0 (.cons (.var 1) (.cons (.var 2) .nil))) (.cint 1)))) .nil)))))
abbrev d_24:Fd:=#[1,3,b_24]
abbrev b_25:S:=(.cons (.ret (.call 1 (.cons (.bin .Mult (.idx (.var 0) (.cint 0)) (.idx (.var 1) (.cint 1))) (.cons (.bin .Mult (.idx (.var 0) (.cint 1)) (.idx (.var 1) (.cint 0))) .nil)))) .nil)
abbrev d_25:Fd:=#[2,2,b_25]
abbrev b_26:S:=(.cons (.asg 1 (.lst (.cons (.isi (.var 0) (.own 1)) (.cons (.isi (.var 0) (.own 2)) (.cons (.isi (.var 0) (.own 6)) (.cons (.isi (.var 0) (.own 3)) .nil)))))) (.cons (.ext 1 (.lst (.cons (.isi (.var 0) (.own 7)) (.cons (.isi (.var 0) (.own 5)) (.cons (.isi (.var 0) (.own 4)) .nil))))) (.cons (.ife (.or (.cmp .NotEq (.mcount (.var 1) (.cbl true)) (.cint 1)) (.not (.isi (.var 0) .valueError))) (.cons (.ret (.cstr "wrong")) .nil) .nil) (.cons (.ret (.idx (.lst (.cons (.cstr "no frac") (.cons (.cstr "no kind") (.cons (.cstr "no name") (.cons (.cstr "no plan") (.cons (.cstr "no text") (.cons (.cstr "no time") (.cons (.cstr "no track") .nil)))))))) (.mindex (.var 1) (.cbl true)))) .nil))))
abbrev d_26:Fd:=#[1,2,b_26]
abbrev b_27:S:=.pass
abbrev d_27:Fd:=#[3,6,b_27]
end VI.VP
end
section
namespace VI.VP
open PySem Fr
structure SubOk(sub:Nat->Nat->Bool)(k:Nat):Prop where
 h0:sub k 0=true
 h1:sub k 1=decide (k=1)
 h2:sub k 2=decide (k=2)
 h3:sub k 3=decide (k=3)
 h4:sub k 4=decide (k=4)
 h5:sub k 5=decide (k=5)
 h6:sub k 6=decide (k=6)
 h7:sub k 7=decide (k=7)
 me:sub k k=true
def JN7{sub:Nat->Nat->Bool}{k c:Nat}(h:sub k k=true):isiD sub (excD k) (.own c)=.ok (.bool (sub k c)):=by
 simp![isiD,excD,Int.toNat_natCast,h,if_true]
def JOw{sub:Nat->Nat->Bool}{k:Nat}(h:sub k k=true):isiD sub (excD k) .valueError=.ok (.bool true):=by
 simp![isiD,excD,Int.toNat_natCast,h,if_true]
section
variable{x:Bool}{tab:Nat->Option Fd}{glo:Nat->R D}{sub:Nat->Nat->Bool}{n:Nat}
structure TabI(tab:Nat->Option Fd):Prop where
 h23:tab 23=some d_23
 h24:tab 24=some d_24
 h25:tab 25=some d_25
abbrev isW:D->Bool
 |.int _=>true
 |_=>false
def JBT(T:TabI tab)(d:D){b1 b2:Bool}(h1:isiD sub d .int=.ok (.bool b1))(h2:isiD sub d .bool=.ok (.bool b2)):run x tab glo sub (n+1) 23 [d]=.ok (.bool (b1&&!b2)):=by
 rw[JAC T.h23,JAB rfl];cases b1
 ·dsimp![d_23,b_23,h1,h2]
 ·dsimp![d_23,b_23,h1,h2,Bool.true_and]
def JI4(T:TabI tab)(d:D)(h:∀k,d≠.dict k):run x tab glo sub (n+1) 23 [d]=.ok (.bool (isW d)):=by
 cases d with
 |dict k=>exact absurd rfl (h k)
 |none=>exact JBT (b1:=false) (b2:=false) T _ rfl rfl
 |bool k=>exact JBT (b1:=true) (b2:=true) T _ rfl rfl
 |int k=>exact JBT (b1:=true) (b2:=false) T _ rfl rfl
 |str k=>exact JBT (b1:=false) (b2:=false) T _ rfl rfl
 |list k=>exact JBT (b1:=false) (b2:=false) T _ rfl rfl
 |tuple k=>exact JBT (b1:=false) (b2:=false) T _ rfl rfl
def JKo(T:TabF tab)(I:TabI tab)(a b:Int):run x tab glo sub (n+2) 24 [.tuple [.int a,.int b]]=.ok (.bool (decide (0<b)&&decide (a.gcd b=1))):=by
 have w:=λ(d:D) (h:∀k,d≠.dict k)=>JI4 (x:=x) (glo:=glo) (sub:=sub) (n:=n) I d h;have e0:idxD (.tuple [.int a,.int b]) (.int 0)=.ok (.int a):=rfl;have e1:idxD (.tuple [.int a,.int b]) (.int 1)=.ok (.int b):=rfl;have e2:isiD sub (.tuple [.int a,.int b]) .tuple=.ok (.bool true):=rfl;have e3:(2:Int)=(((0+1+1:Nat)):Int):=rfl;have e4:((((a.gcd b:Nat):Int))=1)=(a.gcd b=1):=by apply propext;omega
 rw[JAC I.h24,JAB rfl]
 by_cases hb:0<b
 ·dsimp![d_24,b_24,e0,e1,e2,e3,w (.int a) (λk h=>by cases h),w (.int b) (λk h=>by cases h),isW,List.length_cons,List.length_nil,Nat.reduceAdd,Bool.not_true,hb,decide_true,JLf T,Bool.true_and,e4]
 ·dsimp![d_24,b_24,e0,e1,e2,e3,w (.int a) (λk h=>by cases h),w (.int b) (λk h=>by cases h),isW,List.length_cons,List.length_nil,Nat.reduceAdd,Bool.not_true,hb,decide_true,decide_false,JLf T,Bool.true_and,e4]
def isf_F(T:TabF tab)(I:TabI tab)(p:Rat):run x tab glo sub (n+2) 24 [F p]=.ok (.bool true):=by
 rw[F,JKo T I,JOh];have:=den_pos p;rw[decide_eq_true this];rfl
end
end VI.VP
end
section
namespace VI.VP
abbrev b_29:S:=(.cons (.ret (.cmp .In (.var 0) (.glo 41))) .nil)
abbrev d_29:Fd:=#[1,1,b_29]
abbrev b_30:S:=(.cons (.ife (.not (.call 29 (.cons (.var 0) .nil))) (.cons (.rais 2) .nil) .nil) .nil)
abbrev d_30:Fd:=#[1,1,b_30]
abbrev b_31:S:=(.cons (.ret (.call 8 (.cons (.lst (.cons (.glo 39) (.cons (.call 7 (.cons (.lst (.cons (.glo 40) (.cons (.var 0) .nil))) .nil)) .nil))) .nil))) .nil)
abbrev d_31:Fd:=#[1,1,b_31]
abbrev b_32:S:=(.cons (.drop (.call 30 (.cons (.var 0) .nil))) (.cons (.asg 2 (.call 31 (.cons (.var 1) .nil))) (.cons (.ife (.cmp .Eq (.var 0) (.cstr "even")) (.cons (.ret (.var 2)) .nil) .nil) (.cons (.ife (.cmp .Eq (.var 0) (.cstr "in")) (.cons (.ret (.call 5 (.cons (.var 2) (.cons (.var 2) .nil)))) .nil) .nil) (.cons (.ife (.cmp .Eq (.var 0) (.cstr "out")) (.cons (.ret (.call 4 (.cons (.call 5 (.cons (.call 2 (.cons (.cint 2) .nil)) (.cons (.var 2) .nil))) (.cons (.call 5 (.cons (.var 2) (.cons (.var 2) .nil))) .nil)))) .nil) .nil) (.cons (.ife (.cmp .Eq (.var 0) (.cstr "both")) (.cons (.ret (.call 5 (.cons (.call 5 (.cons (.var 2) (.cons (.var 2) .nil))) (.cons (.call 4 (.cons (.call 2 (.cons (.cint 3) .nil)) (.cons (.call 5 (.cons (.call 2 (.cons (.cint 2) .nil)) (.cons (.var 2) .nil))) .nil))) .nil)))) .nil) .nil) (.cons (.ife (.cmp .Eq (.var 0) (.cstr "hold")) (.cons (.ret (.ife (.cmp .Eq (.var 2) (.glo 40)) (.glo 40) (.glo 39))) .nil) .nil) (.cons (.ret (.ife (.cmp .Eq (.var 2) (.glo 39)) (.glo 39) (.glo 40))) .nil))))))))
abbrev d_32:Fd:=#[2,3,b_32]
abbrev b_33:S:=.nil
abbrev d_33:Fd:=#[1,1,b_33]
abbrev b_34:S:=(.cons (.drop (.call 30 (.cons (.var 0) .nil))) (.cons (.ife (.cmp .Lt (.var 1) (.cint 1)) (.cons (.ret (.lst .nil)) .nil) .nil) (.cons (.ret (.cmpr 0 (.call 32 (.cons (.var 1) (.cons (.call 1 (.cons (.var 0) (.cons (.var 2) .nil))) .nil))) (.rng (.cons (.bin .Add (.var 1) (.cint 1)) .nil)) (.cbl true))) .nil)))
abbrev d_34:Fd:=#[2,2,b_34]
abbrev b_35:S:=(.cons (.ret (.idx (.lst (.cons (.cstr "even") (.cons (.cstr "in") (.cons (.cstr "out") (.cons (.cstr "both") (.cons (.cstr "hold") (.cons (.cstr "jump") .nil))))))) (.call 12 (.cons (.var 0) (.cons (.var 1) (.cons (.cint 6) .nil)))))) .nil)
abbrev d_35:Fd:=#[2,2,b_35]
abbrev b_36:S:=(.cons (.ife (.cmp .LtE (.idx (.var 1) (.cint 0)) (.cint 0)) (.cons (.ret (.tup (.cons (.cint 0) (.cons (.cint 1) .nil)))) .nil) .nil) (.cons (.ife (.cmp .GtE (.idx (.var 1) (.cint 0)) (.idx (.var 1) (.cint 1))) (.cons (.ret (.tup (.cons (.cint 1) (.cons (.cint 1) .nil)))) .nil) .nil) (.cons (.ife (.cmp .In (.var 0) (.tup (.cons (.cstr "hold") (.cons (.cstr "jump") .nil)))) (.cons (.ret (.ife (.cmp .Eq (.var 0) (.cstr "hold")) (.tup (.cons (.cint 0) (.cons (.cint 1) .nil))) (.tup (.cons (.cint 1) (.cons (.cint 1) .nil))))) .nil) .nil) (.cons (.unp [2,3] (.var 1)) (.cons (.ife (.cmp .Eq (.var 0) (.cstr "even")) (.cons (.ret (.var 1)) .nil) .nil) (.cons (.ife (.cmp .Eq (.var 0) (.cstr "in")) (.cons (.ret (.call 14 (.cons (.bin .Mult (.var 2) (.var 2)) (.cons (.bin .Mult (.var 3) (.var 3)) .nil)))) .nil) .nil) (.cons (.ife (.cmp .Eq (.var 0) (.cstr "out")) (.cons (.ret (.call 14 (.cons (.bin .Sub (.bin .Mult (.bin .Mult (.cint 2) (.var 2)) (.var 3)) (.bin .Mult (.var 2) (.var 2))) (.cons (.bin .Mult (.var 3) (.var 3)) .nil)))) .nil) .nil) (.cons (.ret (.call 14 (.cons (.bin .Sub (.bin .Mult (.bin .Mult (.bin .Mult (.cint 3) (.var 2)) (.var 2)) (.var 3)) (.bin .Mult (.bin .Mult (.bin .Mult (.cint 2) (.var 2)) (.var 2)) (.var 2))) (.cons (.bin .Mult (.bin .Mult (.var 3) (.var 3)) (.var 3)) .nil)))) .nil))))))))
abbrev d_36:Fd:=#[2,4,b_36]
abbrev b_37:S:=.pass
abbrev d_37:Fd:=#[2,5,b_37]
end VI.VP
end
section
namespace VI.VP
open PySem Fr
inductive Kd where
 |even|inn|out|both|hold|jump
 deriving DecidableEq
abbrev Kd.str:Kd->Str
 |.even=>"even"
 |.inn=>"in"
 |.out=>"out"
 |.both=>"both"
 |.hold=>"hold"
 |.jump=>"jump"
abbrev Kd.turn:Kd->Kd
 |.inn=>.out
 |.out=>.inn
 |.hold=>.jump
 |.jump=>.hold
 |k=>k
abbrev JBt(r:Rat):Rat:=if r<=0 then 0 else if 1<=r then 1 else r
abbrev ez(k:Kd)(p:Rat):Rat:=match k with
 |.even=>p
 |.inn=>p*p
 |.out=>2*p - p*p
 |.both=>p*p*(3 - 2*p)
 |.hold=>if p=1 then 1 else 0
 |.jump=>if p=0 then 0 else 1
abbrev kinds:D:=.tuple [.str "even",.str "in",.str "out",.str "both",.str "hold",.str "jump"]
abbrev turned:D:=.dict [(.str "in",.str "out"),(.str "out",.str "in"),(.str "hold",.str "jump"),(.str "jump",.str "hold")]
structure GloK(glo:Nat->R D):Prop where
 zero:glo 39=.ok (F 0)
 one:glo 40=.ok (F 1)
 kinds:glo 41=.ok VP.kinds
 turned:glo 42=.ok VP.turned
structure TabK(tab:Nat->Option Fd):Prop where
 h29:tab 29=some d_29
 h30:tab 30=some d_30
 h31:tab 31=some d_31
 h32:tab 32=some d_32
 h33:tab 33=some d_33
section
variable{x:Bool}{tab:Nat->Option Fd}{glo:Nat->R D}{sub:Nat->Nat->Bool}{n:Nat}
def JMY(g:GloK glo)(T:TabK tab)(d:D){b:Bool}(h:cmpD .In d VP.kinds=.ok (.bool b)):run x tab glo sub (n+1) 29 [d]=.ok (.bool b):=by
 rw[JAC T.h29,JAB rfl]
 dsimp![d_29,b_29,g.kinds,h]
def JGS(k:Kd):cmpD .In (.str k.str) VP.kinds=.ok (.bool true):=by
 have h:JB9 [.str "even",.str "in",.str "out",.str "both",.str "hold",.str "jump"] (.str k.str)=true:=by cases k<;>decide +kernel
 have h2:([.str "even",.str "in",.str "out",.str "both",.str "hold",.str "jump"]:List D).any (λz=>PyData.eqv z (.str k.str))=true:=by cases k<;>decide +kernel
 simp![cmpD,VP.kinds,h,if_true,h2]
def JPI(g:GloK glo)(T:TabK tab)(k:Kd):run x tab glo sub (n+2) 30 [.str k.str]=.ok .none:=by
 rw[JAC T.h30,JAB rfl]
 dsimp![d_30,b_30,JMY g T _ (JGS k),Bool.not_true]
def JGY{k:Nat}{r:Rat}(hk:1<=k)(h:Sz k r):Sz k (JBt r):=by
 unfold JBt;have h0:Sz 1 (0:Rat):=#[by decide,by decide]
 have h1:Sz 1 (1:Rat):=#[by decide,by decide]
 split
 ·exact h0.mono hk
 ·split
  ·exact h1.mono hk
  ·exact h
def JJc(g:GloK glo)(F0:TabF tab)(M:TabM tab)(T:TabK tab){r:Rat}(hr:Q r):run x tab glo sub (n+3) 31 [F r]=.ok (F (JBt r)):=by
 have h0:Q (0:Rat):=#[by decide +kernel,by decide +kernel]
 have h1:Q (1:Rat):=#[by decide +kernel,by decide +kernel]
 obtain⟨a,a1,a2,a3,a4⟩:=JGm (x:=x) (glo:=glo) (sub:=sub) (n:=n) F0 M 1 [r] (by simp[h1,hr])
 obtain⟨b,b1,b2,b3,b4⟩:=JJM (x:=x) (glo:=glo) (sub:=sub) (n:=n) F0 M 0 [a] (by simp[h0,a3])
 simp![List.map_cons,List.map_nil]at a4 b4;have e:b=JBt r:=by
  have q1:=a2 1 (by simp)
  have q2:=a2 r (by simp)
  have q3:=b2 0 (by simp)
  have q4:=b2 a (by simp)
  simp![q_n,List.not_mem_nil,or_false]at a1 b1;unfold JBt
  grind
 subst e;rw[JAC T.h31,JAB rfl]
 dsimp![d_31,b_31,g.zero,g.one,a4,b4]
def JFp{a b:Str}(ha:shaped (.str a)=true)(hb:shaped (.str b)=true):cmpD .Eq (.str a) (.str b)=.ok (.bool (a==b)):=by
 simp![cmpD,ha,hb,Bool.and_self,if_true,PyData.eqv]
def JC7(k:Kd):shaped (.str k.str)=true:=by cases k<;>decide +kernel
def kd_eq(k j:Kd):cmpD .Eq (.str k.str) (.str j.str)=.ok (.bool (decide (k=j))):=by
 rw[JFp (JC7 k) (JC7 j)];have:(k.str==j.str)=decide (k=j):=by cases k<;>cases j<;>decide +kernel
 rw[this]
def W2:PyData.tuple [.int 2,.int 1]=F 2:=rfl
def JK4(g:GloK glo)(F0:TabF tab)(M:TabM tab)(T:TabK tab)(k:Kd){r:Rat}(hr:Sz 200 r):run x tab glo sub (n+4) 32 [.str k.str,F r]=.ok (F (ez k (JBt r))):=by
 have hp:Sz 200 (JBt r):=JGY ∅ hr
 obtain⟨p,e⟩:∃p,p=JBt r:=#[_,rfl];have kp:run x tab glo sub (n+3) 31 [F r]=.ok (F p):=by rw[e];exact JJc g F0 M T (hr.mono ∅)
 rw[<-e]at hp ⊢;have z2:Sz 2 (2:Rat):=#[by decide,by decide]
 have z3:Sz 2 (3:Rat):=#[by decide,by decide]
 have z1:Sz 2 (1:Rat):=#[by decide,by decide]
 have z0:Sz 2 (0:Rat):=#[by decide,by decide]
 have pp:Sz 400 (p*p):=hp.mul hp ∅
 have p2:Sz 202 (2*p):=z2.mul hp ∅
 have q3:Sz 205 (3 - 2*p):=z3.sub p2 ∅
 obtain⟨ks,hk⟩:∃ks,ks=k.str:=#[_,rfl];have nk:run x tab glo sub (n+3) 30 [.str ks]=.ok .none:=by rw[hk];exact JPI g T k
 have c:∀j:Kd,cmpD .Eq (.str ks) (.str j.str)=.ok (.bool (decide (k=j))):=by rw[hk];exact kd_eq k
 rw[<-hk];clear hk;have c1:=c .even;have c2:=c .inn;have c3:=c .out;have c4:=c .both;have c5:=c .hold;simp![Kd.str]at c1 c2 c3 c4 c5;rw[JAC T.h32,JAB rfl];have w2:run x tab glo sub (n+3) 2 [.int 2]=.ok (F 2):=JES F0 2;have w3:run x tab glo sub (n+3) 2 [.int 3]=.ok (F 3):=JES F0 3;have m1:run x tab glo sub (n+3) 5 [F p,F p]=.ok (F (p*p)):=JCp F0 (hp.mono ∅) (hp.mono ∅)
 have m2:run x tab glo sub (n+3) 5 [F 2,F p]=.ok (F (2*p)):=JCp F0 (z2.mono ∅) (hp.mono ∅)
 have m3:run x tab glo sub (n+3) 4 [F (2*p),F (p*p)]=.ok (F (2*p - p*p)):=JEb F0 (p2.mono ∅) (pp.mono ∅)
 have m4:run x tab glo sub (n+3) 4 [F 3,F (2*p)]=.ok (F (3 - 2*p)):=JEb F0 (z3.mono ∅) (p2.mono ∅)
 have m5:run x tab glo sub (n+3) 5 [F (p*p),F (3 - 2*p)]=.ok (F (p*p*(3 - 2*p))):=JCp F0 (pp.mono ∅) (q3.mono ∅)
 cases k
 case hold =>
  by_cases h:p=1<;>dsimp![d_32,b_32,nk,JAW,kp,c1,c2,c3,c4,c5,reduceCtorEq,decide_true,decide_false,ez,h,g.zero,g.one]
 case jump =>
  by_cases h:p=0<;>dsimp![d_32,b_32,nk,JAW,kp,c1,c2,c3,c4,c5,reduceCtorEq,decide_true,decide_false,ez,h,g.zero,g.one]
 all_goals dsimp![d_32,b_32,nk,JAW,kp,c1,c2,c3,c4,c5,w2,w3,m1,m2,m3,m4,m5,reduceCtorEq,decide_true,decide_false,ez,g.zero,g.one]
end
section
variable{x:Bool}{tab:Nat->Option Fd}{glo:Nat->R D}{sub:Nat->Nat->Bool}{n:Nat}
def F0':PyData.tuple [.int 0,.int 1]=F 0:=rfl
def F1':PyData.tuple [.int 1,.int 1]=F 1:=rfl
def JOn(i:Int)(h0:0<=i)(h1:i<6):∃k:Kd,idxD (.list [.str "even",.str "in",.str "out",.str "both",.str "hold",.str "jump"]) (.int i)=.ok (.str k.str):=by
 have:i=0\/i=1\/i=2\/i=3\/i=4\/i=5:=by omega
 rcases this with rfl|rfl|rfl|rfl|rfl|rfl
 ·exact#[.even,rfl]
 ·exact#[.inn,rfl]
 ·exact#[.out,rfl]
 ·exact#[.both,rfl]
 ·exact#[.hold,rfl]
 ·exact#[.jump,rfl]
def JKH(Lw:TabL tab)(h35:tab 35=some d_35)(ns:List Int)(j:Int)(hj:0<=j)(hj2:j<1000000):∃k:Kd,run x tab glo sub (n+3) 35 [sc ns,.int j]=.ok (.str k.str):=by
 rw[JAC h35,JAB rfl];obtain⟨i,i0,i1,hi⟩:=JCc (x:=x) (glo:=glo) (sub:=sub) (n:=n) Lw ns j 6 hj ∅ (by decide)
 obtain⟨k,hk⟩:=JOn i i0 i1;refine#[k,?_]
 dsimp![d_35,b_35,hi,hk]
end
abbrev e8(k:Kd)(s:Int):Rat:=ez k (JBt (Rat.divInt s 8))
section
variable{x:Bool}{tab:Nat->Option Fd}{glo:Nat->R D}{sub:Nat->Nat->Bool}{n:Nat}
abbrev parts(k:Kd)(m:Int):List Rat:=(List.range (m+1).toNat).map λj:Nat=>ez k (JBt (Rat.divInt (j:Int) m))
def F12:PyData.tuple [.int 1,.int 2]=F (Rat.divInt 1 2):=rfl
end
end VI.VP
end
section
namespace VI.VP
abbrev b_43:S:=(.cons (.drop (.call 30 (.cons (.var 0) .nil))) (.cons (.ife (.or (.call 6 (.cons (.var 1) (.cons (.glo 39) .nil))) (.call 6 (.cons (.glo 40) (.cons (.var 1) .nil)))) (.cons (.ret (.glo 39)) .nil) .nil) (.cons (.ife (.cmp .Eq (.var 0) (.cstr "even")) (.cons (.ret (.glo 40)) .nil) .nil) (.cons (.ife (.cmp .Eq (.var 0) (.cstr "in")) (.cons (.ret (.call 5 (.cons (.call 2 (.cons (.cint 2) .nil)) (.cons (.var 1) .nil)))) .nil) .nil) (.cons (.ife (.cmp .Eq (.var 0) (.cstr "out")) (.cons (.ret (.call 4 (.cons (.call 2 (.cons (.cint 2) .nil)) (.cons (.call 5 (.cons (.call 2 (.cons (.cint 2) .nil)) (.cons (.var 1) .nil))) .nil)))) .nil) .nil) (.cons (.ife (.cmp .Eq (.var 0) (.cstr "both")) (.cons (.ret (.call 5 (.cons (.call 2 (.cons (.cint 6) .nil)) (.cons (.call 4 (.cons (.var 1) (.cons (.call 5 (.cons (.var 1) (.cons (.var 1) .nil))) .nil))) .nil)))) .nil) .nil) (.cons (.ret (.glo 39)) .nil)))))))
abbrev d_43:Fd:=#[2,2,b_43]
abbrev b_44:S:=.pass
abbrev d_44:Fd:=#[1,3,b_44]
end VI.VP
end
section
namespace VI.VP
open PySem Fr
abbrev slm(k:Kd)(r:Rat):Rat:=match k with
 |.even=>1
 |.inn=>2*r
 |.out=>2 - 2*r
 |.both=>6*(r - r*r)
 |.hold=>0
 |.jump=>0
abbrev sl(k:Kd)(r:Rat):Rat:=if r<0\/1<r then 0 else slm k r
section
variable{x:Bool}{tab:Nat->Option Fd}{glo:Nat->R D}{sub:Nat->Nat->Bool}{n:Nat}
end
end VI.VP
end
section
namespace VI.VP
open PySem Fr
class Z (k:outParam Nat) (q:Rat):Prop where
 h:Sz k q
def Z.le{k:Nat}{q:Rat}(z:Z k q){n:Nat}(h:k<=n):Sz n q:=z.h.mono h
section
variable{i j:Nat}{p q:Rat}
instance[a:Z i p][b:Z j q]:Z (i+j+1) (p+q):=#[a.h.add b.h (q_t _)]
instance[a:Z i p][b:Z j q]:Z (i+j+1) (p - q):=#[a.h.sub b.h (q_t _)]
instance[a:Z i p][b:Z j q]:Z (i+j) (p*q):=#[a.h.mul b.h (q_t _)]
instance[a:Z i p][b:Z j q]:Z (i+j+1) (p / q):=#[by
 by_cases h:q=0
 ·subst h;rw[show p / (0:Rat)=0 by rw[Rat.div_def];simp]
  exact#[Nat.pow_pos ∅,q_m (by decide:(0:Rat).den<2 ^ 1) (Nat.pow_le_pow_right ∅ ∅)]
 ·exact a.h.div b.h h ∅]
instance:Z 3 (0:Rat):=#[#[by decide,by decide]]
instance:Z 3 (1:Rat):=#[#[by decide,by decide]]
instance:Z 3 (2:Rat):=#[#[by decide,by decide]]
instance:Z 3 (3:Rat):=#[#[by decide,by decide]]
instance[a:Z i q]:Z (i+1) (JBt q):=#[JGY ∅ (a.h.mono ∅)]
theorem Small.Z{q:Rat}(h:Small q):Z 5 q:=#[h.sz]
def sz01{n:Nat}(h:1<=n):Sz n (0:Rat)/\Sz n (1:Rat):=#[Sz.mono (i:=1) #[by decide,by decide] h,Sz.mono (i:=1) #[by decide,by decide] h]
instance[a:Z i p]{k:Kd}:Z (4*i+10) (ez k p):=#[by
 have z2:Z 3 (2:Rat):=inferInstance;have h1:Z (i+i) (p*p):=inferInstance;have h2:Z ((3+i)+(i+i)+1) (2*p - p*p):=inferInstance;have h3:Z ((i+i)+(3+(3+i)+1)) (p*p*(3 - 2*p)):=inferInstance;cases k
 ·exact a.le ∅
 ·exact h1.le ∅
 ·exact h2.le ∅
 ·exact h3.le ∅
 ·show Sz _ (if p=1 then 1 else 0);split<;>first|exact(sz01 ∅).1|exact(sz01 ∅).2
 ·show Sz _ (if p=0 then 0 else 1);split<;>first|exact(sz01 ∅).1|exact(sz01 ∅).2]
end
def nd(q:Rat):q*((q.den:Int):Rat)=(q.num:Rat):=by
 have z:((q.den:Int):Rat)≠0:=by exact_mod_cast JAZ q
 conv=>lhs;lhs;rw[<-Rat.num_divInt_den q,Rat.divInt_eq_div,Rat.div_def]
 rw[Rat.mul_assoc,Rat.inv_mul_cancel _ z,Rat.mul_one]
def JSK{K:Rat}{N D:Int}(h:K*(D:Rat)=(N:Rat))(hD:D≠0):K=Rat.divInt N D:=by
 rw[Rat.divInt_eq_div,Rat.div_def,<-h,Rat.mul_assoc,Rat.mul_inv_cancel _ (by exact_mod_cast hD),Rat.mul_one]
def pw_le{x i j:Nat}(h:x<2 ^ i)(e:i<=j):x<2 ^ j:=q_m h (Nat.pow_le_pow_right ∅ e)
def pw1(i:Nat):2 ^ (i+1)=2*2 ^ i/\2 ^ (i+2)=4*2 ^ i/\2 ^ (i+3)=8*2 ^ i/\2 ^ (i+4)=16*2 ^ i:=by
 refine#[?_,?_,?_,?_]<;>(rw[Nat.pow_add];omega)
section
variable{a c i i4 i5 i6:Nat}{s g l u v q:Rat}
def JRf{b c:Nat}{e:Rat}(hs:Sz a s)(hg:Sz b g)(he:Sz c e):Sz (a+b+c+2) (s+e*(g - s)):=by
 have d1:=JAZ s;have d2:=JAZ g;have d3:=JAZ e;rw[JSK (K:=s+e*(g - s)) (N:=s.num*g.den*e.den+(e.num*g.num*s.den - e.num*s.num*g.den)) (D:=s.den*g.den*e.den) ?_ (Int.mul_ne_zero (Int.mul_ne_zero d1 d2) d3)]
 ·have P1:=JAk (JAk hs.n hg.d) he.d;have P2:=JAk (JAk he.n hg.n) hs.d;have P3:=JAk (JAk he.n hs.n) hg.d;rw[show c+b+a=a+b+c by omega]at P2
  rw[show c+a+b=a+b+c by omega]at P3
  have E:=(pw1 (a+b+c)).2.1;exact Sz.of (Int.mul_ne_zero (Int.mul_ne_zero d1 d2) d3) ∅ (pw_le (JAk (JAk hs.d hg.d) he.d) ∅)
 ·have e1:=nd s;have e2:=nd g;have e3:=nd e;simp![Rat.intCast_add,Rat.intCast_mul,Rat.intCast_sub];rw[<-e1,<-e2,<-e3]
  grind
end
instance(priority:=high){i j k:Nat}{s g e:Rat}[a:Z i s][b:Z j g][c:Z k e]:Z (i+j+k+2) (s+e*(g - s)):=#[JRf a.h b.h c.h]
section
variable{j:Nat}{p:Rat}[a:Z j p]
instance(priority:=high):Z (3*j+8) (p*p*p - 2*(p*p)+p):=#[by
 rw[show p*p*p - 2*(p*p)+p=p*((1 - p)*(1 - p)) by grind]
 exact(inferInstance:Z _ (p*((1 - p)*(1 - p)))).le ∅]
instance(priority:=high):Z (3*j+4) (p*p*p - p*p):=#[by
 rw[show p*p*p - p*p=p*p*(p - 1) by grind]
 exact(inferInstance:Z _ (p*p*(p - 1))).le ∅]
end
end VI.VP
end
section
namespace VI.VP
abbrev b_46:S:=(.cons (.ret (.call 25 (.cons (.call 4 (.cons (.var 1) (.cons (.idx (.var 0) (.glo 57)) .nil))) (.cons (.idx (.var 0) (.glo 58)) .nil)))) .nil)
abbrev d_46:Fd:=#[2,2,b_46]
abbrev b_48:S:=(.cons (.asg 2 (.call 46 (.cons (.var 0) (.cons (.var 1) .nil)))) (.cons (.ife (.cmp .Eq (.idx (.var 0) (.glo 59)) (.glo 61)) (.cons (.ret (.call 49 (.cons (.var 0) (.cons (.call 31 (.cons (.var 2) .nil)) .nil)))) .nil) .nil) (.cons (.ret (.call 10 (.cons (.idx (.var 0) (.glo 55)) (.cons (.idx (.var 0) (.glo 56)) (.cons (.call 32 (.cons (.idx (.var 0) (.glo 59)) (.cons (.var 2) .nil))) .nil))))) .nil)))
abbrev d_48:Fd:=#[2,3,b_48]
abbrev b_49:S:=(.cons (.asg 2 (.call 5 (.cons (.var 1) (.cons (.var 1) .nil)))) (.cons (.asg 3 (.call 5 (.cons (.var 2) (.cons (.var 1) .nil)))) (.cons (.asg 4 (.call 5 (.cons (.idx (.idx (.var 0) (.glo 60)) (.cint 0)) (.cons (.call 3 (.cons (.call 4 (.cons (.var 3) (.cons (.call 5 (.cons (.call 2 (.cons (.cint 2) .nil)) (.cons (.var 2) .nil))) .nil))) (.cons (.var 1) .nil))) .nil)))) (.cons (.asg 5 (.call 5 (.cons (.idx (.idx (.var 0) (.glo 60)) (.cint 1)) (.cons (.call 4 (.cons (.var 3) (.cons (.var 2) .nil))) .nil)))) (.cons (.asg 6 (.call 5 (.cons (.idx (.var 0) (.glo 58)) (.cons (.call 3 (.cons (.var 4) (.cons (.var 5) .nil))) .nil)))) (.cons (.ret (.call 3 (.cons (.call 10 (.cons (.idx (.var 0) (.glo 55)) (.cons (.idx (.var 0) (.glo 56)) (.cons (.call 32 (.cons (.cstr "both") (.cons (.var 1) .nil))) .nil)))) (.cons (.var 6) .nil)))) .nil))))))
abbrev d_49:Fd:=#[2,7,b_49]
abbrev b_51:S:=(.cons (.asg 3 (.call 35 (.cons (.var 0) (.cons (.var 1) .nil)))) (.cons (.asg 4 (.tup (.cons (.tup (.cons (.cint 0) (.cons (.cint 1) .nil))) (.cons (.tup (.cons (.cint 0) (.cons (.cint 1) .nil))) .nil)))) (.cons (.ife (.cmp .Eq (.call 12 (.cons (.var 0) (.cons (.bin .Add (.var 1) (.cint 1)) (.cons (.cint 4) .nil)))) (.cint 0)) (.cons (.asg 3 (.cstr "kept")) (.cons (.asg 4 (.tup (.cons (.call 15 (.cons (.var 0) (.cons (.bin .Add (.var 1) (.cint 2)) .nil))) (.cons (.call 15 (.cons (.var 0) (.cons (.bin .Add (.var 1) (.cint 4)) .nil))) .nil)))) .nil)) .nil) (.cons (.ret (.tup (.cons (.call 15 (.cons (.var 0) (.cons (.bin .Add (.var 1) (.cint 6)) .nil))) (.cons (.call 15 (.cons (.var 0) (.cons (.bin .Add (.var 1) (.cint 8)) .nil))) (.cons (.var 2) (.cons (.call 16 (.cons (.var 0) (.cons (.bin .Add (.var 1) (.cint 10)) .nil))) (.cons (.var 3) (.cons (.var 4) .nil)))))))) .nil))))
abbrev d_51:Fd:=#[3,5,b_51]
abbrev b_52:S:=(.cons (.unp [2,3,4,5,6,7] (.var 0)) (.cons (.asg 8 (.call 20 (.cons (.call 18 (.cons (.var 1) (.cons (.var 4) .nil))) (.cons (.var 5) .nil)))) (.cons (.ife (.or (.cmp .NotEq (.var 6) (.cstr "kept")) (.or (.cmp .LtE (.idx (.var 8) (.cint 0)) (.cint 0)) (.cmp .GtE (.idx (.var 8) (.cint 0)) (.idx (.var 8) (.cint 1))))) (.cons (.ret (.call 17 (.cons (.var 2) (.cons (.call 19 (.cons (.call 18 (.cons (.var 3) (.cons (.var 2) .nil))) (.cons (.call 36 (.cons (.var 6) (.cons (.var 8) .nil))) .nil))) .nil)))) .nil) .nil) (.cons (.asg 9 (.call 17 (.cons (.var 2) (.cons (.call 19 (.cons (.call 18 (.cons (.var 3) (.cons (.var 2) .nil))) (.cons (.call 36 (.cons (.cstr "both") (.cons (.var 8) .nil))) .nil))) .nil)))) (.cons (.asg 10 (.call 18 (.cons (.tup (.cons (.cint 1) (.cons (.cint 1) .nil))) (.cons (.var 8) .nil)))) (.cons (.asg 11 (.call 19 (.cons (.call 19 (.cons (.var 10) (.cons (.var 10) .nil))) (.cons (.var 8) .nil)))) (.cons (.asg 12 (.call 19 (.cons (.call 19 (.cons (.var 8) (.cons (.var 8) .nil))) (.cons (.var 10) .nil)))) (.cons (.asg 13 (.call 18 (.cons (.call 19 (.cons (.idx (.var 7) (.cint 0)) (.cons (.var 11) .nil))) (.cons (.call 19 (.cons (.idx (.var 7) (.cint 1)) (.cons (.var 12) .nil))) .nil)))) (.cons (.ret (.call 17 (.cons (.var 9) (.cons (.call 19 (.cons (.var 5) (.cons (.var 13) .nil))) .nil)))) .nil)))))))))
abbrev d_52:Fd:=#[2,14,b_52]
abbrev b_53:S:=(.cons (.asg 3 (.call 14 (.cons (.bin .Sub (.call 12 (.cons (.var 0) (.cons (.var 1) (.cons (.cint 17) .nil)))) (.cint 4)) (.cons (.cint 8) .nil)))) (.cons (.ret (.call 17 (.cons (.idx (.var 2) (.cint 2)) (.cons (.call 19 (.cons (.var 3) (.cons (.idx (.var 2) (.cint 3)) .nil))) .nil)))) .nil))
abbrev d_53:Fd:=#[3,4,b_53]
abbrev b_68:S:=(.cons (.ret (.and (.call 24 (.cons (.var 0) .nil)) (.cmp .Gt (.idx (.var 0) (.cint 0)) (.cint 0)))) .nil)
abbrev d_68:Fd:=#[1,1,b_68]
abbrev b_69:S:=(.cons (.ret (.and (.isi (.var 0) .tuple) (.and (.cmp .Eq (.blt .len (.cons (.var 0) .nil)) (.cint 2)) (.and (.call 24 (.cons (.idx (.var 0) (.cint 0)) .nil)) (.call 24 (.cons (.idx (.var 0) (.cint 1)) .nil)))))) .nil)
abbrev d_69:Fd:=#[1,1,b_69]
abbrev b_70:S:=(.cons (.ret (.or (.cmp .Eq (.var 0) (.glo 61)) (.and (.call 29 (.cons (.var 0) .nil)) (.cmp .Eq (.var 1) (.glo 77))))) .nil)
abbrev d_70:Fd:=#[2,2,b_70]
abbrev b_71:S:=(.cons (.ife (.or (.not (.isi (.var 0) .tuple)) (.cmp .NotEq (.blt .len (.cons (.var 0) .nil)) (.cint 6))) (.cons (.ret (.cbl false)) .nil) .nil) (.cons (.ife (.or (.not (.call 24 (.cons (.idx (.var 0) (.glo 55)) .nil))) (.or (.not (.call 24 (.cons (.idx (.var 0) (.glo 56)) .nil))) (.not (.call 24 (.cons (.idx (.var 0) (.glo 57)) .nil))))) (.cons (.ret (.cbl false)) .nil) .nil) (.cons (.ret (.and (.call 68 (.cons (.idx (.var 0) (.glo 58)) .nil)) (.and (.call 69 (.cons (.idx (.var 0) (.glo 60)) .nil)) (.call 70 (.cons (.idx (.var 0) (.glo 59)) (.cons (.idx (.var 0) (.glo 60)) .nil)))))) .nil)))
abbrev d_71:Fd:=#[1,1,b_71]
abbrev b_72:S:=(.cons (.ret (.call 3 (.cons (.idx (.var 0) (.glo 57)) (.cons (.idx (.var 0) (.glo 58)) .nil)))) .nil)
abbrev d_72:Fd:=#[1,1,b_72]
abbrev b_81:S:=(.cons (.ife (.or (.not (.isi (.var 0) .tuple)) (.cmp .NotEq (.blt .len (.cons (.var 0) .nil)) (.cint 2))) (.cons (.ret (.cbl false)) .nil) .nil) (.cons (.ife (.or (.not (.call 24 (.cons (.idx (.var 0) (.glo 93)) .nil))) (.not (.isi (.idx (.var 0) (.glo 94)) .tuple))) (.cons (.ret (.cbl false)) .nil) .nil) (.cons (.ret (.and (.blt .all (.cons (.cmpr 0 (.call 71 (.cons (.var 0) .nil)) (.idx (.var 0) (.glo 94)) (.cbl true)) .nil)) (.call 82 (.cons (.idx (.var 0) (.glo 94)) .nil)))) .nil)))
abbrev d_81:Fd:=#[1,1,b_81]
abbrev b_82:S:=(.cons (.for1 1 (.rng (.cons (.cint 1) (.cons (.blt .len (.cons (.var 0) .nil)) .nil))) (.cons (.ife (.call 6 (.cons (.idx (.idx (.var 0) (.var 1)) (.glo 57)) (.cons (.call 72 (.cons (.idx (.var 0) (.bin .Sub (.var 1) (.cint 1))) .nil)) .nil))) (.cons (.ret (.cbl false)) .nil) .nil) .nil)) (.cons (.ret (.cbl true)) .nil))
abbrev d_82:Fd:=#[1,2,b_82]
abbrev b_83:S:=(.cons (.ife (.cmp .Eq (.blt .len (.cons (.idx (.var 0) (.glo 94)) .nil)) (.cint 0)) (.cons (.ret .cnon) .nil) .nil) (.cons (.ret (.call 72 (.cons (.idx (.idx (.var 0) (.glo 94)) (.neg (.cint 1))) .nil))) .nil))
abbrev d_83:Fd:=#[1,1,b_83]
abbrev b_85:S:=(.cons (.ife (.not (.call 81 (.cons (.var 0) .nil))) (.cons (.rais 4) .nil) .nil) .nil)
abbrev d_85:Fd:=#[1,1,b_85]
abbrev b_88:S:=(.cons (.asg 3 (.call 15 (.cons (.var 0) (.cons (.var 1) .nil)))) (.cons (.asg 4 (.call 15 (.cons (.var 0) (.cons (.bin .Add (.var 1) (.cint 2)) .nil)))) (.cons (.asg 5 (.lst .nil)) (.cons (.for1 6 (.rng (.cons (.call 12 (.cons (.var 0) (.cons (.bin .Add (.var 1) (.cint 4)) (.cons (.bin .Add (.var 2) (.cint 1)) .nil)))) .nil)) (.cons (.asg 7 (.bin .Add (.bin .Add (.var 1) (.cint 10)) (.bin .Mult (.cint 20) (.var 6)))) (.cons (.asg 8 (.call 51 (.cons (.var 0) (.cons (.var 7) (.cons (.var 4) .nil))))) (.cons (.asg 8 (.bin .Add (.tup (.cons (.ife (.cmp .NotEq (.var 5) (.lst .nil)) (.idx (.idx (.var 5) (.neg (.cint 1))) (.cint 1)) (.var 3)) .nil)) (.fn1 (.slice (some 1) none) (.var 8)))) (.cons (.app 5 (.var 8)) (.cons (.asg 4 (.call 17 (.cons (.var 4) (.cons (.idx (.var 8) (.cint 3)) .nil)))) (.cons (.ife (.cmp .Eq (.call 12 (.cons (.var 0) (.cons (.bin .Add (.var 7) (.cint 14)) (.cons (.cint 2) .nil)))) (.cint 0)) (.cons (.asg 4 (.call 17 (.cons (.var 4) (.cons (.call 16 (.cons (.var 0) (.cons (.bin .Add (.var 7) (.cint 15)) .nil))) .nil)))) .nil) .nil) .nil))))))) (.cons (.ret (.tup (.cons (.var 3) (.cons (.fn1 .toTup (.var 5)) .nil)))) .nil)))))
abbrev d_88:Fd:=#[3,9,b_88]
abbrev b_89:S:=(.cons (.ife (.cmp .Eq (.idx (.var 2) (.cint 1)) (.tup .nil)) (.cons (.ret (.call 15 (.cons (.var 0) (.cons (.var 1) .nil)))) .nil) .nil) (.cons (.ret (.call 53 (.cons (.var 0) (.cons (.var 1) (.cons (.idx (.idx (.var 2) (.cint 1)) (.call 12 (.cons (.var 0) (.cons (.bin .Add (.var 1) (.cint 1)) (.cons (.blt .len (.cons (.idx (.var 2) (.cint 1)) .nil)) .nil))))) .nil))))) .nil))
abbrev d_89:Fd:=#[3,3,b_89]
abbrev b_90:S:=(.cons (.asg 2 (.idx (.var 0) (.cint 0))) (.cons (.for1 3 (.idx (.var 0) (.cint 1)) (.cons (.ife (.not (.call 21 (.cons (.var 1) (.cons (.idx (.var 3) (.cint 2)) .nil)))) (.cons (.asg 2 (.call 52 (.cons (.var 3) (.cons (.var 1) .nil)))) .nil) .nil) .nil)) (.cons (.ret (.var 2)) .nil)))
abbrev d_90:Fd:=#[2,4,b_90]
abbrev b_96:S:=(.cons (.ret (.cmpr 0 (.var 0) (.idx (.var 0) (.glo 94)) (.not (.call 6 (.cons (.var 2) (.cons (.idx (.var 0) (.glo 57)) .nil)))))) .nil)
abbrev d_96:Fd:=#[2,2,b_96]
abbrev b_97:S:=(.cons (.asg 2 (.call 96 (.cons (.var 0) (.cons (.var 1) .nil)))) (.cons (.ife (.cmp .Eq (.blt .len (.cons (.var 2) .nil)) (.cint 0)) (.cons (.ret (.idx (.var 0) (.glo 93))) .nil) .nil) (.cons (.ret (.call 48 (.cons (.idx (.var 2) (.neg (.cint 1))) (.cons (.var 1) .nil)))) .nil)))
abbrev d_97:Fd:=#[2,3,b_97]
abbrev JQq:S:=(.cons (.ret (.cmpr 0 (.var 0) (.var 0) (.not (.call 6 (.cons (.var 2) (.cons (.idx (.var 0) (.glo 128)) .nil)))))) .nil)
abbrev JNW:Fd:=#[2,2,JQq]
abbrev JHz:S:=(.cons (.asg 1 (.lst .nil)) (.cons (.for1 2 (.var 0) (.cons (.ins 1 (.cons (.blt .len (.cons (.call 218 (.cons (.var 1) (.cons (.idx (.var 2) (.glo 128)) .nil))) .nil)) (.cons (.var 2) .nil))) .nil)) (.cons (.ret (.var 1)) .nil)))
abbrev JNi:Fd:=#[1,3,JHz]
abbrev JR8:S:=(.cons (.ret (.cmpr 0 (.idx (.var 0) (.glo 226)) (.var 0) (.and (.call 6 (.cons (.var 2) (.cons (.idx (.var 0) (.glo 128)) .nil))) (.not (.call 6 (.cons (.var 3) (.cons (.idx (.var 0) (.glo 128)) .nil))))))) .nil)
abbrev JNT:Fd:=#[3,3,JR8]
abbrev JSM:S:=(.cons (.ret (.cmpr 0 (.idx (.var 0) (.glo 226)) (.var 0) (.and (.not (.call 6 (.cons (.idx (.var 0) (.glo 128)) (.cons (.var 2) .nil)))) (.call 6 (.cons (.idx (.var 0) (.glo 128)) (.cons (.var 3) .nil)))))) .nil)
abbrev JOq:Fd:=#[3,3,JSM]
abbrev JOk:S:=(.cons (.asg 3 (.call 219 (.cons (.var 0) .nil))) (.cons (.ife (.call 6 (.cons (.var 2) (.cons (.var 1) .nil))) (.cons (.ret (.call 221 (.cons (.xop .rev (.cons (.var 3) .nil)) (.cons (.var 2) (.cons (.var 1) .nil))))) .nil) .nil) (.cons (.ret (.call 220 (.cons (.var 3) (.cons (.var 1) (.cons (.var 2) .nil))))) .nil)))
abbrev JKf:Fd:=#[3,4,JOk]
abbrev JNt:S:=(.cons (.asg 1 (.call 83 (.cons (.var 0) .nil))) (.cons (.ret (.ife (.isN (.var 1) false) (.glo 39) (.call 8 (.cons (.lst (.cons (.glo 39) (.cons (.var 1) .nil))) .nil)))) .nil))
abbrev JKS:Fd:=#[1,2,JNt]
abbrev tabA(i:Nat):Option Fd:=match i with
 |0=>some d_0
 |1=>some d_1
 |2=>some d_2
 |3=>some d_3
 |4=>some d_4
 |5=>some d_5
 |6=>some d_6
 |7=>some d_7
 |8=>some d_8
 |9=>some d_9
 |10=>some d_10
 |11=>some d_11
 |12=>some d_12
 |13=>some d_13
 |14=>some d_14
 |15=>some d_15
 |16=>some d_16
 |17=>some d_17
 |18=>some d_18
 |19=>some d_19
 |20=>some d_20
 |21=>some d_21
 |23=>some d_23
 |24=>some d_24
 |25=>some d_25
 |26=>some d_26
 |27=>some d_27
 |29=>some d_29
 |30=>some d_30
 |31=>some d_31
 |32=>some d_32
 |33=>some d_33
 |34=>some d_34
 |35=>some d_35
 |36=>some d_36
 |37=>some d_37
 |43=>some d_43
 |44=>some d_44
 |46=>some d_46
 |48=>some d_48
 |49=>some d_49
 |51=>some d_51
 |52=>some d_52
 |53=>some d_53
 |68=>some d_68
 |69=>some d_69
 |70=>some d_70
 |71=>some d_71
 |72=>some d_72
 |81=>some d_81
 |82=>some d_82
 |83=>some d_83
 |85=>some d_85
 |88=>some d_88
 |89=>some d_89
 |90=>some d_90
 |96=>some d_96
 |97=>some d_97
 |218=>some JNW
 |219=>some JNi
 |220=>some JNT
 |221=>some JOq
 |222=>some JKf
 |257=>some JKS
 |_=>none
abbrev gloA(i:Nat):R D:=match i with
 |39=>.ok (F 0)
 |40=>.ok (F 1)
 |41=>.ok (VI.VP.kinds)
 |42=>.ok (VI.VP.turned)
 |55=>.ok (.int 0)
 |56=>.ok (.int 1)
 |57=>.ok (.int 2)
 |58=>.ok (.int 3)
 |59=>.ok (.int 4)
 |60=>.ok (.int 5)
 |61=>.ok (.str "kept")
 |77=>.ok (.tuple [F 0,F 0])
 |93=>.ok (.int 0)
 |94=>.ok (.int 1)
 |128=>.ok (.int 0)
 |129=>.ok (.int 1)
 |151=>.ok (.int 5)
 |152=>.ok (.int 4)
 |192=>.ok (.dict [(.str "even",.tuple [.int 1,.int 2]),(.str "both",.tuple [.int 1,.int 2]),(.str "kept",.tuple [.int 1,.int 2]),(.str "in",.tuple [.int 1,.int 3]),(.str "out",.tuple [.int 2,.int 3]),(.str "hold",.tuple [.int 0,.int 1]),(.str "jump",.tuple [.int 1,.int 1])])
 |226=>.ok (.int 1)
 |_=>.bad
end VI.VP
end
section
namespace VI.VP
abbrev JDa:S:=(.cons (.ret (.call 8 (.cons (.lst (.cons (.glo 39) (.cons (.call 7 (.cons (.lst (.cons (.call 264 (.cons (.var 0) .nil)) (.cons (.var 1) .nil))) .nil)) .nil))) .nil))) .nil)
abbrev JCX:Fd:=#[2,2,JDa]
abbrev JJg:S:=(.cons (.ret (.call 265 (.cons (.var 0) .nil))) .nil)
abbrev JFl:Fd:=#[1,1,JJg]
abbrev JGO:S:=(.cons (.ret (.call 97 (.cons (.call 262 (.cons (.var 0) .nil)) (.cons (.call 265 (.cons (.var 0) .nil)) .nil)))) .nil)
abbrev JDz:Fd:=#[1,1,JGO]
abbrev JJs:S3:=(.cons (.st (.ife (.call 6 (.cons (.var 1) (.cons (.glo 39) .nil))) (.cons (.rais 5) .nil) .nil)) (.cons (.st (.ife (.not (.call 267 (.cons (.var 0) .nil))) (.cons (.ret (.lst .nil)) .nil) .nil)) (.cons (.st (.asg 2 (.call 265 (.cons (.var 0) .nil)))) (.cons (.fld 0 "now" (.call 268 (.cons (.call 269 (.cons (.var 0) .nil)) (.cons (.call 3 (.cons (.var 2) (.cons (.call 5 (.cons (.var 1) (.cons (.call 266 (.cons (.var 0) .nil)) .nil))) .nil))) .nil)))) (.cons (.st (.asg 3 (.call 222 (.cons (.call 263 (.cons (.var 0) .nil)) (.cons (.var 2) (.cons (.call 265 (.cons (.var 0) .nil)) .nil)))))) (.cons (.oxt 0 "heard" (.var 3)) (.cons (.st (.ret (.var 3))) .nil)))))))
abbrev JI2:Fd3:=#[2,4,JJs]
abbrev JDA:S3:=(.cons (.fld 0 "pace" (.var 1)) .nil)
abbrev JDS:Fd3:=#[2,2,JDA]
abbrev JH4:S3:=(.cons (.fld 0 "plays" (.cbl true)) .nil)
abbrev JJJ:Fd3:=#[1,1,JH4]
abbrev JCC:S3:=(.cons (.st (.drop (.call 85 (.cons (.var 1) .nil)))) (.cons (.fld 0 "track" (.var 1)) (.cons (.fld 0 "marks" (.fn1 .toLst (.var 2))) (.cons (.fld 0 "last" (.call 257 (.cons (.var 1) .nil))) (.cons (.fld 0 "now" (.glo 39)) (.cons (.fld 0 "pace" (.glo 40)) (.cons (.fld 0 "plays" (.cbl false)) (.cons (.fln 0 "heard") .nil))))))))
abbrev JB8:Fd3:=#[3,3,JCC]
abbrev JSb:S3:=(.cons (.st (.asg 1 .cnon)) (.cons (.tryx (.cons (.drop (.mak 282 (.cons (.var 0) (.cons (.lst .nil) .nil)))) .nil) 0 2 1) (.cons (.st (.ret (.call 26 (.cons (.var 1) .nil)))) .nil)))
abbrev JR2:Fd3:=#[1,3,JSb]
abbrev JRJ:S3:=(.cons (.st (.asg 1 (.call 88 (.cons (.var 0) (.cons (.cint 0) (.cons (.cint 3) .nil)))))) (.cons (.st (.asg 2 (.ife (.cmp .NotEq (.idx (.var 1) (.cint 1)) (.tup .nil)) (.call 17 (.cons (.idx (.idx (.idx (.var 1) (.cint 1)) (.neg (.cint 1))) (.cint 2)) (.cons (.idx (.idx (.idx (.var 1) (.cint 1)) (.neg (.cint 1))) (.cint 3)) .nil))) (.tup (.cons (.cint 0) (.cons (.cint 1) .nil)))))) (.cons (.st (.asg 3 (.cmpr 0 (.tup (.cons (.call 16 (.cons (.var 1) (.cons (.bin .Add (.cint 90) (.bin .Mult (.cint 2) (.var 0))) .nil))) (.cons (.idx (.cstr "cadb") (.var 0)) .nil))) (.rng (.cons (.call 12 (.cons (.var 0) (.cons (.cint 89) (.cons (.cint 5) .nil)))) .nil)) (.cbl true)))) (.cons (.st (.asg 4 (.cmpr 0 (.call 19 (.cons (.call 16 (.cons (.var 1) (.cons (.bin .Add (.cint 100) (.bin .Mult (.cint 2) (.var 0))) .nil))) (.cons (.tup (.cons (.cint 1) (.cons (.cint 8) .nil))) .nil))) (.rng (.cons (.bin .Add (.cint 1) (.call 12 (.cons (.var 0) (.cons (.cint 99) (.cons (.cint 4) .nil))))) .nil)) (.cbl true)))) (.cons (.st (.asg 5 (.tup (.cons (.cint 0) (.cons (.cint 1) .nil))))) (.cons (.st (.for1 6 (.var 4) (.cons (.asg 5 (.call 17 (.cons (.var 5) (.cons (.var 6) .nil)))) .nil))) (.cons (.un3 [7,8,9] (.lmk 282 (.cons (.var 2) (.cons (.var 4) .nil)) (.rng (.cons (.cint 3) .nil)))) (.cons (.for1 10 (.tup (.cons (.var 7) (.cons (.var 8) (.cons (.var 9) .nil)))) (.cons (.drop (.met 279 "play" (.var 10) .nil)) .nil)) (.cons (.st (.asg 11 (.lst .nil))) (.cons (.for1 6 (.var 4) (.cons (.ext 11 (.met 276 "tick" (.var 7) (.cons (.var 6) .nil))) .nil)) (.cons (.drop (.met 278 "set_pace" (.var 9) (.cons (.tup (.cons (.cint 2) (.cons (.cint 1) .nil))) .nil))) (.cons (.ife (.or (.cmp .NotEq (.met 276 "tick" (.var 8) (.cons (.var 5) .nil)) (.var 11)) (.cmp .NotEq (.met 276 "tick" (.var 9) (.cons (.call 19 (.cons (.var 5) (.cons (.tup (.cons (.cint 1) (.cons (.cint 2) .nil))) .nil))) .nil)) (.var 11))) (.cons (.st (.ret (.cbl false))) .nil) .nil) (.cons (.st (.asg 12 (.ife (.call 21 (.cons (.var 2) (.cons (.var 5) .nil))) (.var 2) (.var 5)))) (.cons (.st (.ife (.cmp .NotEq (.xop .srt (.cons (.var 11) .nil)) (.xop .srt (.cons (.cmpr 2 (.var 1) (.var 3) (.not (.call 21 (.cons (.var 14) (.cons (.var 0) .nil))))) .nil))) (.cons (.ret (.cbl false)) .nil) .nil)) (.cons (.st (.ife (.or (.cmp .NotEq (.call 270 (.cons (.call 271 (.cons (.var 7) .nil)) .nil)) (.call 270 (.cons (.call 271 (.cons (.var 8) .nil)) .nil))) (.or (.cmp .NotEq (.call 270 (.cons (.call 271 (.cons (.var 9) .nil)) .nil)) (.call 270 (.cons (.call 271 (.cons (.var 8) .nil)) .nil))) (.cmp .NotEq (.call 272 (.cons (.call 273 (.cons (.var 7) .nil)) .nil)) (.call 272 (.cons (.call 273 (.cons (.var 8) .nil)) .nil))))) (.cons (.ret (.cbl false)) .nil) .nil)) (.cons (.ife (.pur (.call 21 (.cons (.var 5) (.cons (.var 2) .nil)))) (.cons (.drop (.met 278 "set_pace" (.var 7) (.cons (.tup (.cons (.neg (.cint 1)) (.cons (.cint 1) .nil))) .nil))) (.cons (.st (.asg 13 (.lst .nil))) (.cons (.for1 6 (.fn1 .rev (.var 4)) (.cons (.ext 13 (.met 276 "tick" (.var 7) (.cons (.var 6) .nil))) .nil)) (.cons (.st (.ife (.cmp .NotEq (.call 270 (.cons (.call 271 (.cons (.var 7) .nil)) .nil)) (.tup (.cons (.cint 0) (.cons (.cint 1) .nil)))) (.cons (.ret (.cbl false)) .nil) .nil)) (.cons (.st (.asg 14 (.cmpr 0 (.var 0) (.var 11) (.cmp .NotIn (.var 0) (.cmpr 0 (.idx (.var 0) (.cint 1)) (.var 4) (.cmp .Eq (.idx (.var 0) (.cint 0)) (.var 7))))))) (.cons (.st (.ife (.cmp .NotEq (.fn1 .rev (.var 13)) (.var 14)) (.cons (.ret (.cbl false)) .nil) .nil)) .nil)))))) .nil) (.cons (.ret (.cmv .Eq (.cal 284 (.cons (.idx (.lst (.cons .cnon (.cons (.tup (.cons (.idx (.var 1) (.cint 0)) (.cons .cnon .nil))) (.cons (.fn1 (.slice none (some 1)) (.var 1)) .nil)))) (.call 12 (.cons (.var 0) (.cons (.cint 120) (.cons (.cint 3) .nil))))) .nil)) (.cstr "no track"))) .nil)))))))))))))))))
abbrev d_285:Fd3:=#[1,15,JRJ]
abbrev JQn:S3:=(.cons (.for1 1 (.rng (.cons (.cint 3) .nil)) (.cons (.ife (.nv (.cal 285 (.cons (.cmpr 0 (.bin .Add (.var 0) (.bin .Mult (.cint 7919) (.var 2))) (.var 0) (.cbl true)) .nil))) (.cons (.st (.ret (.cbl false))) .nil) .nil) (.cons (.st (.ife (.cmp .Eq (.var 0) (.lst .nil)) (.cons .brk .nil) .nil)) .nil))) (.cons (.st (.ret (.cbl true))) .nil))
abbrev JNV:Fd3:=#[1,2,JQn]
abbrev kR(i:Nat):RK:=match i with
 |262=>.fld "track"
 |263=>.fld "marks"
 |264=>.fld "last"
 |265=>.fld "now"
 |266=>.fld "pace"
 |267=>.fld "plays"
 |268=>.def_
 |269=>.chk "kept_in"
 |270=>.def_
 |271=>.chk "time"
 |272=>.def_
 |273=>.chk "worth"
 |_=>.no
abbrev tabR(i:Nat):Option Fd:=match i with
 |268=>some JCX
 |270=>some JFl
 |272=>some JDz
 |_=>none
abbrev tab3(i:Nat):Option Fd3:=match i with
 |276=>some JI2
 |278=>some JDS
 |279=>some JJJ
 |282=>some JB8
 |284=>some JR2
 |285=>some d_285
 |286=>some JNV
 |_=>none
end VI.VP
end
section
namespace VI.VP
open PySem Fr
def tF:TabF tabA:=#[rfl,rfl,rfl,rfl,rfl,rfl,rfl]
def tL:TabL tabA:=#[rfl,rfl,rfl,rfl,rfl,rfl,rfl,rfl,rfl,rfl,rfl]
def tM:TabM tabA:=#[rfl,rfl,rfl,rfl]
def tK:TabK tabA:=#[rfl,rfl,rfl,rfl,rfl]
def gK:GloK gloA:=#[rfl,rfl,rfl,rfl]
def G39:gloA 39=.ok (F 0):=rfl
def G40:gloA 40=.ok (F 1):=rfl
def G55:gloA 55=.ok (.int 0):=rfl
def G56:gloA 56=.ok (.int 1):=rfl
def G57:gloA 57=.ok (.int 2):=rfl
def G58:gloA 58=.ok (.int 3):=rfl
def G59:gloA 59=.ok (.int 4):=rfl
def G60:gloA 60=.ok (.int 5):=rfl
def G61:gloA 61=.ok (.str "kept"):=rfl
section
variable{x:Bool}{sub:Nat->Nat->Bool}{m i j:Nat}{p q:Rat}
def JAE{k:Nat}(h:k<=m):∃n,m=n+k:=#[m - k,by omega]
def JNF[a:Z i p][b:Z j q](hi:i<=1500)(hj:j<=1500)(hm:3<=m):run x tabA gloA sub m 3 [F p,F q]=.ok (F (p+q)):=by
 obtain⟨n,rfl⟩:=JAE hm;exact JOG tF (a.le hi) (b.le hj)
def JJT[a:Z i p][b:Z j q](hi:i<=1500)(hj:j<=1500)(hm:3<=m):run x tabA gloA sub m 4 [F p,F q]=.ok (F (p - q)):=by
 obtain⟨n,rfl⟩:=JAE hm;exact JEb tF (a.le hi) (b.le hj)
def JJB[a:Z i p][b:Z j q](hi:i<=1500)(hj:j<=1500)(hm:3<=m):run x tabA gloA sub m 5 [F p,F q]=.ok (F (p*q)):=by
 obtain⟨n,rfl⟩:=JAE hm;exact JCp tF (a.le hi) (b.le hj)
def q_less[a:Z i p][b:Z j q](hi:i<=1500)(hj:j<=1500)(hm:1<=m):run x tabA gloA sub m 6 [F p,F q]=.ok (.bool (decide (p<q))):=by
 obtain⟨n,rfl⟩:=JAE hm;exact JDL tF (a.le hi) (b.le hj)
def JQJ[a:Z i p][b:Z j q](h0:q≠0)(hi:i<=1500)(hj:j<=1500)(hm:3<=m):run x tabA gloA sub m 25 [F p,F q]=.ok (F (p / q)):=by
 obtain⟨n,rfl⟩:=JAE hm;have hp:=a.le hi;have hq:=b.le hj;have hz:q.num≠0:=λz=>h0 (Rat.num_eq_zero.mp z);rw[JAC (n:=n+2) (show tabA 25=some d_25 from rfl),JAB rfl]
 dsimp![d_25,b_25,JBL (hp.Ln ∅) (hq.Ld ∅),JBL (hp.Ld ∅) (hq.Ln ∅),JEQ (n:=n) tF _ _ (Int.mul_ne_zero (JAZ p) hz) (L.of (JAk hp.d hq.n) ∅),JM2]
def JPU(k:Int)(hm:1<=m):run x tabA gloA sub m 2 [.int k]=.ok (.tuple [.int k,.int 1]):=by
 obtain⟨n,rfl⟩:=JAE hm;exact JES tF k
def JJG{r:Rat}{k:Nat}[a:Z i p][b:Z j q][c:Z k r](hi:i<=1500)(hj:j<=1500)(hk:i+j+k<=1498)(hm:4<=m):run x tabA gloA sub m 10 [F p,F q,F r]=.ok (F (p+r*(q - p))):=by
 obtain⟨n,rfl⟩:=JAE hm;have z1:Z (j+i+1) (q - p):=inferInstance;have z2:Z (k+(j+i+1)) (r*(q - p)):=inferInstance;rw[JAC (n:=n+3) (show tabA 10=some d_10 from rfl),JAB rfl]
 dsimp![d_10,b_10,JJT (x:=x) (sub:=sub) (m:=n+3) (p:=q) (q:=p) ∅ ∅ ∅,JJB (x:=x) (sub:=sub) (m:=n+3) (p:=r) (q:=q - p) ∅ ∅ ∅,JNF (x:=x) (sub:=sub) (m:=n+3) (p:=p) (q:=r*(q - p)) ∅ ∅ ∅]
def JSk[a:Z i p](hi:i<=1500)(hm:3<=m):run x tabA gloA sub m 31 [F p]=.ok (F (JBt p)):=by
 obtain⟨n,rfl⟩:=JAE hm;exact JJc gK tF tM tK (a.le hi)
def JJO[a:Z i p](hi:i<=200)(hm:4<=m):run x tabA gloA sub m 32 [.str k.str,F p]=.ok (F (ez k (JBt p))):=by
 obtain⟨n,rfl⟩:=JAE hm;exact JK4 gK tF tM tK k (a.le hi)
def JLt[a:Z i p][b:Z j q](hi:i<=1500)(hj:j<=1500)(hm:3<=m):run x tabA gloA sub m 17 [F p,F q]=.ok (F (p+q)):=by
 obtain⟨n,rfl⟩:=JAE hm;exact JKX tL (a.le hi) (b.le hj)
def JFt[a:Z i p][b:Z j q](hi:i<=1500)(hj:j<=1500)(hm:3<=m):run x tabA gloA sub m 19 [F p,F q]=.ok (F (p*q)):=by
 obtain⟨n,rfl⟩:=JAE hm;exact JII tL (a.le hi) (b.le hj)
def JSR[a:Z i p][b:Z j q](hi:i<=1500)(hj:j<=1500)(hm:1<=m):run x tabA gloA sub m 21 [F p,F q]=.ok (.bool (decide (p<q))):=by
 obtain⟨n,rfl⟩:=JAE hm;exact JLN tL (a.le hi) (b.le hj)
def JDj(ns:List Int)(k c:Int)(hm:2<=m)(hk:0<=k)(hk2:k<2000000)(hc:0<c):∃i,0<=i/\i<c/\run x tabA gloA sub m 12 [sc ns,.int k,.int c]=.ok (.int i):=by
 obtain⟨n,rfl⟩:=JAE hm;exact JCc tL ns k c hk hk2 hc
def JDd(ns:List Int)(k:Int)(hm:3<=m)(hk:0<=k)(hk2:k<1000000):∃q,Small q/\run x tabA gloA sub m 15 [sc ns,.int k]=.ok (F q):=by
 obtain⟨n,rfl⟩:=JAE hm;exact JKG tL ns k hk hk2
def JGD(ns:List Int)(k:Int)(hm:3<=m)(hk:0<=k)(hk2:k<1000000):∃q,Small q/\0<q/\run x tabA gloA sub m 16 [sc ns,.int k]=.ok (F q):=by
 obtain⟨n,rfl⟩:=JAE hm;exact JKD tL ns k hk hk2
def JQO(ns:List Int)(k:Int)(hm:3<=m)(hk:0<=k)(hk2:k<1000000):∃d:Kd,run x tabA gloA sub m 35 [sc ns,.int k]=.ok (.str d.str):=by
 obtain⟨n,rfl⟩:=JAE hm;exact JKH tL rfl ns k hk hk2
end
end VI.VP
end
local macro_rules | `(tactic| dsimp?! [$ts,*])=>`(tactic| simp(disch:=first|omega|assumption) only[VI.VP.wV0,VI.VP.wV1,VI.VP.wV2,VI.VP.wV3,VI.VP.JKA,
 VI.VP.JSj,VI.VP.JPc,VI.VP.JQD,VI.VP.JRR,VI.VP.k_tt,VI.VP.k_tl,VI.VP.k_lt,VI.VP.k_ll,VI.VP.JMr,VI.VP.JIv,VI.VP.JJ6,
 VI.VP.JIR,
 VI.VP.JIH,VI.VP.JPi,VI.VP.JPV,VI.VP.JSh,VI.VP.JMW,VI.VP.JNB,VI.VP.JSW,VI.VP.JQK,VI.VP.JP0,VI.VP.JSg,VI.VP.JMd,VI.VP.JMC,VI.VP.JPx,VI.VP.JRk,VI.VP.JQj,VI.VP.JL2,VI.VP.JSB,VI.VP.JRd,VI.VP.JIP,VI.VP.JJa,VI.VP.JNI,VI.VP.JHt,VI.VP.JH7,VI.VP.JMz,VI.VP.JMj,VI.VP.JSX,VI.VP.JR6,VI.VP.JNd,VI.VP.JMs,VI.VP.JMV,VI.VP.JMH,VI.VP.JM1,VI.VP.JNH,VI.VP.JSo,VI.VP.JL1,VI.VP.JSV,VI.VP.JMK,VI.VP.JMM,VI.VP.JMp,VI.VP.JM6,VI.VP.JR3,VI.VP.JPZ,VI.VP.JLx,VI.VP.JQe,VI.VP.JEt,VI.VP.JMD,VI.VP.JMJ,VI.VP.JME,VI.VP.JNM,VI.VP.JM7,VI.VP.JMO,VI.VP.JMR,VI.VP.JM8,VI.VP.JHi,VI.VP.JPW,VI.VP.JJN,VI.VP.JHn,VI.VP.JG8,VI.VP.JQA,VI.VP.JMo,VI.VP.JQg,VI.VP.JIU,
 VI.VP.look_zero,VI.VP.look_succ,VI.VP.get_val,VI.VP.get_own,VI.VP.JEo,VI.VP.JFK,List.map_cons,List.map_nil,List.cons_append,List.nil_append,
 List.replicate_succ,List.replicate_zero,Nat.reduceSub,List.set_cons_zero,List.set_cons_succ,VI.E.fresh,VI.VP.JGz,VI.VP.JCt,VI.VP.JDx,VI.VP.JCu,Bool.false_and,q_v,eq_self,if_true,if_false,VI.VP.i_ne,VI.VP.i_eq,VI.VP.i_lt,VI.VP.i_gt,VI.VP.i_le,VI.VP.i_ge,
 VI.VP.F_ne,VI.VP.F_eq,VI.VP.JMa,VI.VP.JLp,VI.VP.JQ2,VI.VP.JP7,
 VI.VP.G39,VI.VP.G40,VI.VP.G55,VI.VP.G56,VI.VP.G57,VI.VP.G58,VI.VP.G59,VI.VP.G60,VI.VP.G61,VI.VP.JNF,VI.VP.JJT,VI.VP.JJB,VI.VP.q_less,VI.VP.JQJ,VI.VP.JPU,VI.VP.JJG,VI.VP.JSk,VI.VP.JJO,VI.VP.JLt,VI.VP.JFt,VI.VP.JSR,$ts,*])
section
namespace VI.VP
open PySem Fr
abbrev kst:Option Kd->Str
 |some k=>k.str
 |none=>"kept"
abbrev mo(s g b l:Rat)(k:Option Kd)(u v:Rat):D:=.tuple [F s,F g,F b,F l,.str (kst k),.tuple [F u,F v]]
abbrev kw(s g l u v p:Rat):Rat:=s+ez .both (JBt p)*(g - s)+l*(u*(p*p*p - 2*(p*p)+p)+v*(p*p*p - p*p))
abbrev wo(s g b l:Rat)(k:Option Kd)(u v t:Rat):Rat:=match k with
 |some k=>s+ez k (JBt ((t - b) / l))*(g - s)
 |none=>kw s g l u v (JBt ((t - b) / l))
abbrev ks(s g l u v p:Rat):Rat:=(g - s) / l*sl .both p+(u*(3*(p*p) - 4*p+1)+v*(3*(p*p) - 2*p))
abbrev sd(s g b l:Rat)(k:Option Kd)(u v t:Rat):Rat:=match k with
 |some k=>(g - s) / l*sl k ((t - b) / l)
 |none=>if (t - b) / l<0\/1<(t - b) / l then 0 else ks s g l u v ((t - b) / l)
def JDf(k:Option Kd):shaped (.str (kst k))=true:=by
 cases k with
 |none=>decide +kernel
 |some k=>exact JC7 k
def JKW(k:Option Kd):(kst k=="kept")=k.isNone:=by
 cases k with
 |none=>decide +kernel
 |some k=>cases k<;>decide +kernel
def JJA(k:Option Kd):cmpD .Eq (.str (kst k)) (.str "kept")=.ok (.bool k.isNone):=by
 rw[JFp (JDf k) (by decide +kernel),JKW]
def JIc(k:Kd):cmpD .Eq (.str k.str) (.str "kept")=.ok (.bool false):=JJA (some k)
section
variable{s g b l u v:Rat}{k:Option Kd}
def mo0:idxD (mo s g b l k u v) (.int 0)=.ok (F s):=rfl
def mo1:idxD (mo s g b l k u v) (.int 1)=.ok (F g):=rfl
def mo2:idxD (mo s g b l k u v) (.int 2)=.ok (F b):=rfl
def mo3:idxD (mo s g b l k u v) (.int 3)=.ok (F l):=rfl
def mo4:idxD (mo s g b l k u v) (.int 4)=.ok (.str (kst k)):=rfl
def mo5:idxD (mo s g b l k u v) (.int 5)=.ok (.tuple [F u,F v]):=rfl
def tp0:idxD (.tuple [a,c]) (.int 0)=.ok a:=rfl
def tp1:idxD (.tuple [a,c]) (.int 1)=.ok c:=rfl
def JKt:JAW (mo s g b l k u v)=true:=rfl
end
section
variable{x:Bool}{sub:Nat->Nat->Bool}{m i1 i2 i3 i4 i5 i6 j:Nat}{s g b l u v t p:Rat}
def JNJ[Z i3 b][Z i4 l][Z j t](hl:l≠0)(h3:i3<=400)(h4:i4<=400)(hj:j<=400)(hm:4<=m):run x tabA gloA sub m 46 [mo s g b l k u v,F t]=.ok (F ((t - b) / l)):=by
 obtain⟨n,rfl⟩:=JAE hm;rw[JAC (n:=n+3) (show tabA 46=some d_46 from rfl),JAB rfl]
 dsimp?! [d_46,b_46,mo2,mo3]
def m_kw[Z i1 s][Z i2 g][Z i4 l][Z i5 u][Z i6 v][Z j p](h1:i1+i2+4*j<=1470)(h2:i4+i5+i6+6*j<=1480)(hj:j<=190)(hm:5<=m):run x tabA gloA sub m 49 [mo s g b l k u v,F p]=.ok (F (kw s g l u v p)):=by
 obtain⟨n,rfl⟩:=JAE hm;rw[JAC (n:=n+4) (show tabA 49=some d_49 from rfl),JAB rfl];have eb:run x tabA gloA sub (n+4) 32 [.str "both",F p]=.ok (F (ez .both (JBt p))):=JJO (k:=.both) ∅ ∅
 dsimp?! [d_49,b_49,mo0,mo1,mo2,mo3,mo4,mo5,tp0,tp1,W2,eb,kw]
def JLQ[Z i1 s][Z i2 g][Z i3 b][Z i4 l][Z i5 u][Z i6 v][Z j t](hl:l≠0)(h1:i1+i2+4*(j+i3+i4)<=1430)(h2:i4+i5+i6+6*(j+i3+i4)<=1450)(h3:j+i3+i4<=180)(hm:6<=m) :
  run x tabA gloA sub m 48 [mo s g b l k u v,F t]=.ok (F (wo s g b l k u v t)):=by
 obtain⟨n,rfl⟩:=JAE hm;rw[JAC (n:=n+5) (show tabA 48=some d_48 from rfl),JAB rfl];cases k with
 |none=>dsimp?! [d_48,b_48,JNJ,mo0,mo1,mo4,JJA,Option.isNone_none,m_kw,wo]
 |some k=>dsimp?! [d_48,b_48,JNJ,mo0,mo1,mo4,JIc,kst,wo]
end
end VI.VP
end
section
namespace VI.VP
open PySem Fr
section
variable{s g b l u v t:Rat}{k:Option Kd}{i1 i2 i3 i4 i5 i6 j:Nat}
end
section
variable{x:Bool}{sub:Nat->Nat->Bool}{m i1 i2 i3 i4 i5 i6 j:Nat}{s g b l u v t p:Rat}
def JKI(ns:List Int)(at':Int)(b:Rat)(hm:4<=m)(h0:0<=at')(h1:at'<880):∃(s g l:Rat) (k:Option Kd) (u v:Rat),Small s/\Small g/\Small l/\0<l/\Small u/\Small v/\(k≠none->u=0/\v=0) /\
  run x tabA gloA sub m 51 [sc ns,.int at',F b]=.ok (mo s g b l k u v):=by
 obtain⟨n,rfl⟩:=JAE hm;rw[JAC (n:=n+3) (show tabA 51=some d_51 from rfl),JAB rfl];obtain⟨k,hk⟩:=JQO (x:=x) (sub:=sub) (m:=n+3) ns at' ∅ h0 ∅
 obtain⟨i,i0,i1,hi⟩:=JDj (x:=x) (sub:=sub) (m:=n+3) ns (at'+1) 4 ∅ ∅ ∅ ∅
 obtain⟨u,su,hu⟩:=JDd (x:=x) (sub:=sub) (m:=n+3) ns (at'+2) ∅ ∅ ∅
 obtain⟨v,sv,hv⟩:=JDd (x:=x) (sub:=sub) (m:=n+3) ns (at'+4) ∅ ∅ ∅
 obtain⟨s,ss,hs⟩:=JDd (x:=x) (sub:=sub) (m:=n+3) ns (at'+6) ∅ ∅ ∅
 obtain⟨g,sg,hg⟩:=JDd (x:=x) (sub:=sub) (m:=n+3) ns (at'+8) ∅ ∅ ∅
 obtain⟨l,sl',l0,hl⟩:=JGD (x:=x) (sub:=sub) (m:=n+3) ns (at'+10) ∅ ∅ ∅
 have z0:Small 0:=#[by decide,by decide,by decide]
 by_cases e:i=0
 ·refine#[s,g,l,none,u,v,ss,sg,sl',l0,su,sv,λz=>absurd rfl z,?_]
  dsimp?! [d_51,b_51,hk,hi,e,decide_true,hu,hv,hs,hg,hl]
  rfl
 ·refine#[s,g,l,some k,0,0,ss,sg,sl',l0,z0,z0,λ_=>#[rfl,rfl],?_]
  dsimp?! [d_51,b_51,hk,hi,e,decide_true,decide_false,hu,hv,hs,hg,hl]
  rfl
end
def Vs(z:Sl):Prop:=z.isOwn=false
def Vs.own{z:Sl}(h:Vs z)(e:E)(i:Nat)(r:Env):JAS e i (z::r)=JAS e (i+1) r:=by
 unfold Vs at h;cases z<;>first|(cases h;done)|simp[JAS,Sl.isOwn]
def JN5(p q p' q':Rat):cmpD .Eq (.tuple [F p,F q]) (.tuple [F p',F q'])=.ok (.bool (decide (p=p')&&decide (q=q'))):=by
 have h:∀p q,shaped (.tuple [F p,F q])=true:=λp q=>by
  unfold shaped;rw[q_i];refine#[by simp![PyData.canLay0,PyData.canLayAll0,JPv,Bool.and_self],decide_eq_true ?_]
  simp![PyData.depth,PyData.depthAll,JF7];decide
 simp![cmpD,h,Bool.and_self,if_true,PyData.eqv,PyData.eqvAll,JON,Bool.and_true]
end VI.VP
end
section
namespace VI.VP
open PySem Fr
def tI:TabI tabA:=#[rfl,rfl,rfl]
def G77:gloA 77=.ok (.tuple [F 0,F 0]):=rfl
def JIw(s g b l:Rat)(k:Option Kd)(u v:Rat):shaped (mo s g b l k u v)=true:=by
 have hk:=JDf k;unfold shaped at hk ⊢;rw[q_i]at hk ⊢;refine#[?_,decide_eq_true ?_]
 ·simp![mo,PyData.canLay0,PyData.canLayAll0,JPv,Bool.and_self,Bool.true_and,Bool.and_true];simpa[PyData.canLay0] using hk.1
 ·simp![mo,PyData.depth,PyData.depthAll,JF7];decide
def JNP{p:Rat}:(0<p.num)=(0<p):=by
 apply propext;rw[Rat.lt_iff];simp
def JJr{sub:Nat->Nat->Bool}(ds:List D):isiD sub (.tuple ds) .tuple=.ok (.bool true):=rfl
def JSA{sub:Nat->Nat->Bool}(s g b l:Rat)(k:Option Kd)(u v:Rat):isiD sub (mo s g b l k u v) .tuple=.ok (.bool true):=rfl
def len2:(([a,c].length:Nat):Int)=2:=rfl
def JPf(s g b l:Rat)(k:Option Kd)(u v:Rat):bltD .len [mo s g b l k u v]=.ok (.int 6):=rfl
section
variable{x:Bool}{sub:Nat->Nat->Bool}{m i1 i2 i3 i4 i5 i6 j:Nat}{s g b l u v t p:Rat}
def JJW(hm:2<=m):run x tabA gloA sub m 24 [F p]=.ok (.bool true):=by
 obtain⟨n,rfl⟩:=JAE hm;exact isf_F tF tI p
def q_isz(hm:3<=m):run x tabA gloA sub m 68 [F p]=.ok (.bool (decide (0<p))):=by
 obtain⟨n,rfl⟩:=JAE hm;rw[JAC (n:=n+2) (show tabA 68=some d_68 from rfl),JAB rfl]
 dsimp?! [d_68,b_68,JJW,JNP]
def JKa(hm:3<=m):run x tabA gloA sub m 69 [.tuple [F u,F v]]=.ok (.bool true):=by
 obtain⟨n,rfl⟩:=JAE hm;rw[JAC (n:=n+2) (show tabA 69=some d_69 from rfl),JAB rfl]
 dsimp?! [d_69,b_69,JJr,len2,tp0,tp1,JJW,decide_true]
def q_isk{k:Kd}(hm:1<=m):run x tabA gloA sub m 29 [.str k.str]=.ok (.bool true):=by
 obtain⟨n,rfl⟩:=JAE hm;exact JMY gK tK _ (JGS k)
def JHS(hu:k≠none->u=0/\v=0)(hm:2<=m):run x tabA gloA sub m 70 [.str (kst k),.tuple [F u,F v]]=.ok (.bool true):=by
 obtain⟨n,rfl⟩:=JAE hm;rw[JAC (n:=n+1) (show tabA 70=some d_70 from rfl),JAB rfl];cases k with
 |none=>dsimp?! [d_70,b_70,JJA,Option.isNone_none]
 |some k =>
  obtain⟨rfl,rfl⟩:=hu (by simp)
  dsimp?! [d_70,b_70,JIc,kst,q_isk,G77,JN5,decide_true,Bool.and_self]
def q_ismo{k:Option Kd}(hl:0<l)(hu:k≠none->u=0/\v=0)(hm:4<=m):run x tabA gloA sub m 71 [mo s g b l k u v]=.ok (.bool true):=by
 obtain⟨n,rfl⟩:=JAE hm;rw[JAC (n:=n+3) (show tabA 71=some d_71 from rfl),JAB rfl]
 dsimp?! [d_71,b_71,JSA,JPf,Bool.not_true,mo0,mo1,mo2,mo3,mo4,mo5,JJW,q_isz,hl,decide_true,JKa,JHS hu]
def q_end[Z i3 b][Z i4 l]{k:Option Kd}(h3:i3<=400)(h4:i4<=400)(hm:4<=m):run x tabA gloA sub m 72 [mo s g b l k u v]=.ok (F (b+l)):=by
 obtain⟨n,rfl⟩:=JAE hm;rw[JAC (n:=n+3) (show tabA 72=some d_72 from rfl),JAB rfl]
 dsimp?! [d_72,b_72,mo2,mo3]
abbrev optF:Option Rat->D
 |some q=>F q
 |none=>.none
end
end VI.VP
end
section
namespace VI.VP
open PySem Fr
structure Mk where
 q:Rat
 s:Str
abbrev Mk.d(m:Mk):D:=.tuple [F m.q,.str m.s]
abbrev Mk.l(m:Mk):D:=.str m.s
abbrev till(t:Rat)(l:List Mk):List Mk:=l.filter λx=>!decide (t<x.q)
abbrev btf(acc:List Mk)(m:Mk):List Mk:=acc.take (till m.q acc).length++m::acc.drop (till m.q acc).length
abbrev bt(ms:List Mk):List Mk:=ms.foldl btf []
def btf_perm:(btf acc m).Perm (m::acc):=by
 unfold btf;exact List.perm_middle.trans (by rw[List.take_append_drop])
def JJp:(btf acc m).length=acc.length+1:=by
 have:=(btf_perm (acc:=acc) (m:=m)).length_eq;simpa using this
theorem JBJ{α:Type}{f:D->R (Option D)}{p:α->Bool}{g:α->D}{c:α->D}:∀ {xs:List α},(∀a∈xs,f (c a)=.ok (if p a then some (g a) else none))->JA5 f (xs.map c)=.ok ((xs.filter p).map g)
 | [],_=>rfl
 |a::xs,h=>by
  simp![List.map_cons];unfold JA5;rw[h a (by simp)]
  have ih:=JBJ (xs:=xs) λy hy=>h y (by simp[hy])
  cases hp:p a
  ·simp![q_v,if_false];rw[ih,q_x (by simp[hp])]
  ·simp![if_true];rw[ih,q_y hp];rfl
def G128:gloA 128=.ok (.int 0):=rfl
def G226:gloA 226=.ok (.int 1):=rfl
def x_ins{i:Nat}(h1:U[i]? = some (.own (.list ds)))(h2:evA C es U=.ok xs):exec C (.ins i es) U=JCS i ds es xs U:=by
 simp![exec,h1,h2,stepR]
def JSN{i k:Nat}(hk:k<=ds.length)(hl:ds.length<16777216)(hn:JAW y=true):JCS i ds es [.int k,y] U=.nx (U.set i (.own (.list (ds.take k++y::ds.drop k)))):=by
 simp![JCS];rw[if_pos #[by omega,by omega,hl],hn,Bool.not_true,Bool.and_false]
 simp
def Mks(ms:List Mk):Prop:=∀a∈ms,Sz 12 a.q
abbrev fo(lo hi:Rat)(l:List Mk):List Mk:=l.filter λm=>decide (lo<m.q)&&!decide (hi<m.q)
abbrev bk(lo hi:Rat)(l:List Mk):List Mk:=l.filter λm=>!decide (m.q<lo)&&decide (m.q<hi)
abbrev nx(t:Rat)(l:List Mk):List Mk:=l.filter λm=>decide (t<m.q)
def mk_no(m:Mk):JAW m.d=true:=rfl
def mk_0(m:Mk):idxD m.d (.int 0)=.ok (F m.q):=rfl
def mk_1(m:Mk):idxD m.d (.int 1)=.ok m.l:=rfl
def itM(l:List D):JA4 (.list l)=.ok l:=rfl
def revM(l:List D):xD .rev [.list l]=.ok (.list l.reverse):=rfl
def btf_mem:x∈btf acc m↔x=m\/x∈acc:=by
 rw[btf_perm.mem_iff];exact q_n
def JPD{t:Rat}{l:List Mk}:(till t l).length<=l.length:=List.length_filter_le _ _
section
variable{x:Bool}{sub:Nat->Nat->Bool}{m n j k:Nat}{t lo hi:Rat}{ms:List Mk}
def JSD(h:Mks ms)[Z j t](hj:j<=1500)(hl:ms.length<=1000)(hm:2<=m):run x tabA gloA sub m 218 [.list (ms.map Mk.d),F t]=.ok (.list ((till t ms).map Mk.d)):=by
 obtain⟨n,rfl⟩:=JAE hm;rw[JAC (n:=n+1) (show tabA 218=some JNW from rfl),JAB rfl];obtain⟨C,hC⟩:∃C:Cn,C=⟨run x tabA gloA sub (n+1),gloA,sub⟩:=#[_,rfl];have fn:C.fn=run x tabA gloA sub (n+1):=by rw[hC]
 have fg:C.glo=gloA:=by rw[hC]
 rw[<-hC];have cp:JCO C 0 (.var 0) (.not (.call 6 (.cons (.var 2) (.cons (.idx (.var 0) (.glo 128)) .nil)))) [.val (.list (ms.map Mk.d)),.val (F t)] (.ok (ms.map Mk.d))=.ok (.list ((till t ms).map Mk.d)):=by
  rw[JBK (by rw[q_g];omega),JBJ (p:=λm=>!decide (t<m.q)) (g:=Mk.d) (λa ha=>?_)]
  ·rfl
  ·have zb:Z 12 a.q:=#[h a ha];have m0:=mk_0 a;rw[JBR];generalize a.d=ad at *
   by_cases o:t<a.q
   ·dsimp?! [fn,fg,G128,m0,o,decide_true,Bool.not_true]
   ·dsimp?! [fn,fg,G128,m0,o,decide_false,Bool.not_false]
 generalize (till t ms).map Mk.d=bs at *;generalize ms.map Mk.d=ds at *
 dsimp?! [JNW,JQq,fn,fg,itM,cp]
def JPL(h:Mks ms)[Z j lo][Z k hi](hj:j<=1500)(hk:k<=1500)(hl:ms.length<=1000)(hm:2<=m):run x tabA gloA sub m 220 [.list (ms.map Mk.d),F lo,F hi]=.ok (.list ((fo lo hi ms).map Mk.l)):=by
 obtain⟨n,rfl⟩:=JAE hm;rw[JAC (n:=n+1) (show tabA 220=some JNT from rfl),JAB rfl];obtain⟨C,hC⟩:∃C:Cn,C=⟨run x tabA gloA sub (n+1),gloA,sub⟩:=#[_,rfl];have fn:C.fn=run x tabA gloA sub (n+1):=by rw[hC]
 have fg:C.glo=gloA:=by rw[hC]
 rw[<-hC];have cp:JCO C 0 (.idx (.var 0) (.glo 226)) (.and (.call 6 (.cons (.var 2) (.cons (.idx (.var 0) (.glo 128)) .nil))) (.not (.call 6 (.cons (.var 3) (.cons (.idx (.var 0) (.glo 128)) .nil))))) [.val (.list (ms.map Mk.d)),.val (F lo),.val (F hi)] (.ok (ms.map Mk.d))=.ok (.list ((fo lo hi ms).map Mk.l)):=by
  rw[JBK (by rw[q_g];omega),JBJ (p:=λm=>decide (lo<m.q)&&!decide (hi<m.q)) (g:=Mk.l) (λa ha=>?_)]
  ·rfl
  ·have zb:Z 12 a.q:=#[h a ha];have m0:=mk_0 a;have m1:=mk_1 a;rw[JBR];generalize a.d=ad at *
   by_cases o:lo<a.q<;>by_cases o':hi<a.q <;>
    dsimp?! [fn,fg,G128,G226,m0,m1,o,o',decide_true,Bool.not_true,decide_false,Bool.not_false,Bool.and_false,Bool.and_true]
 generalize (fo lo hi ms).map Mk.l=bs at *;generalize ms.map Mk.d=ds at *
 dsimp?! [JNT,JR8,fn,fg,itM,cp]
def JRB(h:Mks ms)[Z j lo][Z k hi](hj:j<=1500)(hk:k<=1500)(hl:ms.length<=1000)(hm:2<=m):run x tabA gloA sub m 221 [.list (ms.map Mk.d),F lo,F hi]=.ok (.list ((bk lo hi ms).map Mk.l)):=by
 obtain⟨n,rfl⟩:=JAE hm;rw[JAC (n:=n+1) (show tabA 221=some JOq from rfl),JAB rfl];obtain⟨C,hC⟩:∃C:Cn,C=⟨run x tabA gloA sub (n+1),gloA,sub⟩:=#[_,rfl];have fn:C.fn=run x tabA gloA sub (n+1):=by rw[hC]
 have fg:C.glo=gloA:=by rw[hC]
 rw[<-hC];have cp:JCO C 0 (.idx (.var 0) (.glo 226)) (.and (.not (.call 6 (.cons (.idx (.var 0) (.glo 128)) (.cons (.var 2) .nil)))) (.call 6 (.cons (.idx (.var 0) (.glo 128)) (.cons (.var 3) .nil)))) [.val (.list (ms.map Mk.d)),.val (F lo),.val (F hi)] (.ok (ms.map Mk.d))=.ok (.list ((bk lo hi ms).map Mk.l)):=by
  rw[JBK (by rw[q_g];omega),JBJ (p:=λm=>!decide (m.q<lo)&&decide (m.q<hi)) (g:=Mk.l) (λa ha=>?_)]
  ·rfl
  ·have zb:Z 12 a.q:=#[h a ha];have m0:=mk_0 a;have m1:=mk_1 a;rw[JBR];generalize a.d=ad at *
   by_cases o:a.q<lo<;>by_cases o':a.q<hi <;>
    dsimp?! [fn,fg,G128,G226,m0,m1,o,o',decide_true,Bool.not_true,decide_false,Bool.not_false,Bool.and_false,Bool.and_true]
 generalize (bk lo hi ms).map Mk.l=bs at *;generalize ms.map Mk.d=ds at *
 dsimp?! [JOq,JSM,fn,fg,itM,cp]
abbrev JEH:S:=match JHz with
 |.cons _ (.cons (.for1 _ _ b) _)=>b
 |_=>.nil
theorem JJu(fn:C.fn=run x tabA gloA sub (n+2))(fg:C.glo=gloA)(z:Sl):∀(r acc:List Mk) (y:Sl),Mks r->Mks acc->acc.length+r.length<=1000 ->
  ∃y',for2 C 2 JEH (r.map Mk.d) [z,.own (.list (acc.map Mk.d)),y]=.nx [z,.own (.list ((r.foldl btf acc).map Mk.d)),y']
 | [],acc,y,_,_,_=>#[y,rfl]
 |a::r,acc,y,hr,ha,hl=>by
  have hl':acc.length+r.length+1<=1000:=by simp![List.length_cons]at hl;omega
  have za:Z 12 a.q:=#[hr a (by simp)]
  have e1:run x tabA gloA sub (n+2) 218 [.list (acc.map Mk.d),F a.q]=.ok (.list ((till a.q acc).map Mk.d)):=JSD ha ∅ ∅ ∅
  have m0:=mk_0 a;have ev:evA C (.cons (.blt .len (.cons (.call 218 (.cons (.var 1) (.cons (.idx (.var 2) (.glo 128)) .nil))) .nil)) (.cons (.var 2) .nil)) [z,.own (.list (acc.map Mk.d)),.val a.d]=.ok [.int ((till a.q acc).length:Nat),a.d]:=by
   have hln:((till a.q acc).map Mk.d).length=(till a.q acc).length:=q_g _;generalize (till a.q acc).map Mk.d=bs at *;generalize acc.map Mk.d=ds at *;generalize a.d=ad at *
   dsimp?! [fn,fg,G128,m0,e1,hln]
  have st:exec C JEH [z,.own (.list (acc.map Mk.d)),.val a.d]=.nx [z,.own (.list ((btf acc a).map Mk.d)),.val a.d]:=by
   simp![JEH,JHz,JHv];rw[x_ins (ds:=acc.map Mk.d) rfl ev,JSN (by rw[q_g];exact JPD) (by rw[q_g];omega) (mk_no a),JNd,JPH]
   simp![List.set_cons_succ,List.set_cons_zero,btf,List.map_append,List.map_cons,List.map_take,List.map_drop]
  obtain⟨y',ih⟩:=JJu fn fg z r (btf acc a) (.val a.d) (λb hb=>hr b (by simp[hb])) (λb hb=>by
   rcases btf_mem.mp hb with rfl|hb
   ·exact hr b (by simp)
   ·exact ha b hb) (by rw[JJp];omega)
  refine#[y',?_];simp![List.map_cons];rw[JBy];simp![List.set_cons_succ,List.set_cons_zero];rw[st,JEt];exact ih
def q_bt(h:Mks ms)(hl:ms.length<=1000)(hm:3<=m):run x tabA gloA sub m 219 [.list (ms.map Mk.d)]=.ok (.list ((bt ms).map Mk.d)):=by
 obtain⟨n,rfl⟩:=JAE hm;rw[JAC (n:=n+2) (show tabA 219=some JNi from rfl),JAB rfl];obtain⟨C,hC⟩:∃C:Cn,C=⟨run x tabA gloA sub (n+2),gloA,sub⟩:=#[_,rfl];have fn:C.fn=run x tabA gloA sub (n+2):=by rw[hC]
 have fg:C.glo=gloA:=by rw[hC]
 rw[<-hC];obtain⟨y,lp⟩:=JJu fn fg (.val (.list (ms.map Mk.d))) ms [] .no h (λa ha=>by cases ha) (by simpa using hl)
 rw[show ms.foldl btf []=bt ms from rfl]at lp;simp![JEH,JHz,List.map_nil]at lp;generalize (bt ms).map Mk.d=bs at *;generalize ms.map Mk.d=ds at *
 dsimp?! [JNi,JHz,fn,fg,itM,JAe,JBS,JAz,JAy,JGV,Nat.reduceBEq,Nat.reduceAdd,↓lp]
def JRg(h:Mks ms):Mks (bt ms):=by
 have:∀(r acc:List Mk),Mks r->Mks acc->Mks (r.foldl btf acc):=by
  intro r
  induction r with
  |nil=>exact λacc _ h=>h
  |cons a r ih=>exact λacc hr ha=>ih _ (λb hb=>hr b (by simp[hb])) (λb hb=>by
   rcases btf_mem.mp hb with rfl|hb
   ·exact hr b (by simp)
   ·exact ha b hb)
 exact this ms [] h (λa ha=>by cases ha)
def JDt:(bt ms).length=ms.length:=by
 have:∀(r acc:List Mk),(r.foldl btf acc).length=acc.length+r.length:=by
  intro r
  induction r with
  |nil=>exact λacc=>rfl
  |cons a r ih=>exact λacc=>by rw[List.foldl_cons,ih,JJp,List.length_cons];omega
 have:=this ms [];rw[List.length_nil,Nat.zero_add]at this;exact this
abbrev psd(s g:Rat)(ms:List Mk):List Mk:=if g<s then bk g s (bt ms).reverse else fo s g (bt ms)
def JK6(h:Mks ms)[Z j lo][Z k hi](hj:j<=1500)(hk:k<=1500)(hl:ms.length<=1000)(hm:4<=m):run x tabA gloA sub m 222 [.list (ms.map Mk.d),F lo,F hi]=.ok (.list ((psd lo hi ms).map Mk.l)):=by
 obtain⟨n,rfl⟩:=JAE hm;rw[JAC (n:=n+3) (show tabA 222=some JKf from rfl),JAB rfl];have e1:=q_bt (x:=x) (sub:=sub) (m:=n+3) h hl ∅
 have hb:=JRg h;have hbl:=JDt (ms:=ms);have e2:=JPL (x:=x) (sub:=sub) (m:=n+3) (lo:=lo) (hi:=hi) hb hj hk ∅ ∅
 have e3:=JRB (x:=x) (sub:=sub) (m:=n+3) (lo:=hi) (hi:=lo) (ms:=(bt ms).reverse) (λa ha=>hb a (List.mem_reverse.mp ha)) hk hj (by rw[List.length_reverse];omega) ∅
 rw[List.map_reverse]at e3;unfold psd
 by_cases o:hi<lo
 ·rw[if_pos o];generalize (bk hi lo (bt ms).reverse).map Mk.l=r1 at *;generalize (fo lo hi (bt ms)).map Mk.l=r2 at *;generalize (bt ms).map Mk.d=bs at *;generalize ms.map Mk.d=ds at *
  dsimp?! [JKf,JOk,e1,e2,e3,o,decide_true,revM,JAe,JBS,JAz,JAy]
 ·rw[if_neg o];generalize (bk hi lo (bt ms).reverse).map Mk.l=r1 at *;generalize (fo lo hi (bt ms)).map Mk.l=r2 at *;generalize (bt ms).map Mk.d=bs at *;generalize ms.map Mk.d=ds at *
  dsimp?! [JKf,JOk,e1,e2,e3,o,decide_false,revM,JAe,JBS,JAz,JAy]
end
end VI.VP
end
section
namespace VI.VP
open PySem Fr
structure Mv where
 s:Rat
 g:Rat
 b:Rat
 l:Rat
 k:Option Kd
 u:Rat
 v:Rat
abbrev Mv.d(m:Mv):D:=mo m.s m.g m.b m.l m.k m.u m.v
structure Mv.Ok(m:Mv):Prop where
 l0:0<m.l
 uv:m.k≠none->m.u=0/\m.v=0
 b:Sz 200 m.b
 l:Sz 20 m.l
 sg:∃i j,Sz i m.s/\Sz j m.g/\i+j<=1180
 us:∃i j,Sz i m.u/\Sz j m.v/\i+j<=900
def Mv.Ok.of{m:Mv}(l0:0<m.l)(uv:m.k≠none->m.u=0/\m.v=0)(s:Sz 20 m.s)(g:Sz 20 m.g)(b:Sz 200 m.b)(l:Sz 20 m.l)(u:Sz 20 m.u)(v:Sz 20 m.v):m.Ok :=
 #[l0,uv,b,l,#[20,20,s,g,by omega],#[20,20,u,v,by omega]]
abbrev Mv.e(m:Mv):Rat:=m.b+m.l
abbrev tr(w:Rat)(ms:List Mv):D:=.tuple [F w,.tuple (ms.map Mv.d)]
abbrev nov:List Mv->Bool
 | []=>true
 | [_]=>true
 |a::c::r=>!decide (c.b<a.e)&&nov (c::r)
def G93:gloA 93=.ok (.int 0):=rfl
def G94:gloA 94=.ok (.int 1):=rfl
def k_all{xs:List D}:bltD .all [.list xs]=allD xs:=rfl
def JPJ{α:Type}{ms:List α}{p:α->Bool}:allD (ms.map λm=>.bool (p m))=.ok (.bool (ms.all p)):=by
 induction ms with
 |nil=>rfl
 |cons m r ih=>simp![List.map_cons,allD,ih,List.all_cons]
def JD1{ms:List Mv}{m:Mv}:idxD (.tuple ((ms++[m]).map Mv.d)) (.int (-1))=.ok m.d:=by
 simp![idxD,atI,ixN,q_g,q_u,List.length_cons,List.length_nil];rw[if_neg ∅,if_pos ∅]
 simp![Option.bind_some];rw[show(-1+(((ms.length+(0+1):Nat)):Int)).toNat=ms.length by omega]
 simp[optR]
def JFN{ms:List Mv}{m:Mv}:idxD (.list ((ms++[m]).map Mv.d)) (.int (-1))=.ok m.d:=JD1
def JMn{ms:List Mv}{m:Mv}{j:Nat}{i:Int}(hi:i=j)(h:ms[j]? = some m):idxD (.tuple (ms.map Mv.d)) (.int i)=.ok m.d:=by
 subst hi;obtain⟨hl,_⟩:=q_p.mp h;simp![idxD,atI,ixN,q_g];rw[if_pos ∅,if_pos ∅]
 simp![Option.bind_some,Int.toNat_natCast,List.getElem?_map,h];rfl
abbrev JDy:S:=match b_82 with
 |.cons (.for1 _ _ b) _=>b
 |_=>.nil
section
variable{x:Bool}{sub:Nat->Nat->Bool}{m n:Nat}{w:Rat}{w':D}{ms:List Mv}
theorem Mv.q_ismo{a:Mv}(h:a.Ok)(hm:4<=m):run x tabA gloA sub m 71 [a.d]=.ok (.bool true):=VP.q_ismo h.l0 h.uv hm
theorem Mv.q_end{a:Mv}(h:a.Ok)(hm:4<=m):run x tabA gloA sub m 72 [a.d]=.ok (F a.e):=by
 have:Z 200 a.b:=#[h.b];have:Z 20 a.l:=#[h.l];exact VP.q_end ∅ ∅ hm
theorem Mv.q_less{a c:Mv}(h:a.Ok)(hc:c.Ok)(hm:1<=m):run x tabA gloA sub m 6 [F c.b,F a.e]=.ok (.bool (decide (c.b<a.e))):=by
 have:Z 200 a.b:=#[h.b];have:Z 200 c.b:=#[hc.b];have:Z 20 a.l:=#[h.l];have:Z 221 a.e:=#[(inferInstance:Z (200+20+1) (a.b+a.l)).h];exact VP.q_less ∅ ∅ hm
theorem JEm(hok:∀a∈ms,a.Ok):∀(r:List Mv) (pre:List Mv) (a:Mv) (y:Sl),ms=pre++a::r->Vs y ->
  (nov (a::r)=true->∃z,Vs z/\for2 #[run x tabA gloA sub (n+4),gloA,sub] 1 JDy ((List.range' (pre.length+1) r.length).map λj=>.int (j:Nat)) [.val (.tuple (ms.map Mv.d)),y]=.nx [.val (.tuple (ms.map Mv.d)),z]) /\
  (nov (a::r)=false->for2 #[run x tabA gloA sub (n+4),gloA,sub] 1 JDy ((List.range' (pre.length+1) r.length).map λj=>.int (j:Nat)) [.val (.tuple (ms.map Mv.d)),y]=.rt (.bool false))
 | [],pre,a,y,_,v=>#[λ_=>#[y,v,rfl],λh=>by cases h]
 |c::r,pre,a,y,e,v=>by
  have ia:idxD (.tuple (ms.map Mv.d)) (.int (((pre.length+1:Nat):Int) - 1))=.ok a.d:=JMn (j:=pre.length) ∅ (by rw[e];simp)
  have ic:idxD (.tuple (ms.map Mv.d)) (.int ((pre.length+1:Nat):Int))=.ok c.d:=JMn (j:=pre.length+1) rfl (by rw[e];simp[List.getElem?_append])
  have oa:a.Ok:=hok a (by rw[e];simp)
  have oc:c.Ok:=hok c (by rw[e];simp)
  have e1:run x tabA gloA sub (n+4) 72 [a.d]=.ok (F a.e):=Mv.q_end oa ∅
  have e2:run x tabA gloA sub (n+4) 6 [F c.b,F a.e]=.ok (.bool (decide (c.b<a.e))):=Mv.q_less oa oc ∅
  have m2:idxD c.d (.int 2)=.ok (F c.b):=rfl;simp![List.length_cons,List.range'_succ,List.map_cons];generalize hC:(Cn.mk (run x tabA gloA sub (n+4)) gloA sub)=C;have fn:C.fn=run x tabA gloA sub (n+4):=by rw[<-hC]
  have fg:C.glo=gloA:=by rw[<-hC]
  have ih:=JEm hok r (pre++[a]) c (.val (.int ((pre.length+1:Nat):Int))) (by rw[e];simp) rfl
  rw[hC,q_u,List.length_cons,List.length_nil]at ih;rw[JBy]
  by_cases o:c.b<a.e
  · have en:nov (a::c::r)=false:=by simp[nov,o]
    refine#[λh=>(by rw[en]at h;cases h),λ_=>?_]
    dsimp?! [JDy,b_82,fn,fg,ia,ic,e1,e2,m2,o,decide_true]
  · have en:nov (a::c::r)=nov (c::r):=by simp[nov,o]
    have ex:exec C JDy [.val (.tuple (ms.map Mv.d)),.val (.int ((pre.length+1:Nat):Int))]=.nx [.val (.tuple (ms.map Mv.d)),.val (.int ((pre.length+1:Nat):Int))]:=by
     dsimp?! [JDy,b_82,fn,fg,ia,ic,e1,e2,m2,o,decide_false]
    rw[List.set_cons_succ,List.set_cons_zero,ex,JEt,en];exact ih
def JEw{j:Nat}(h:j<=1000):small ((j:Nat):Int)=true:=by
 unfold small;simp![q_i,q_D];omega
def rng_1{j:Nat}(h:j<=1000):rngD [.int 1,.int (j:Int)]=.ok ((List.range' 1 (j - 1)).map λj=>.int (j:Nat)):=by
 have h1:small 1=true:=JEw (j:=1) ∅
 simp![rngD,h1,JEw h,Bool.and_self,if_true,JDE]
 congr 1
 rw[List.range'_eq_map_range,List.map_map];rw[show((j:Int) - 1).toNat=j - 1 by omega]
 refine List.map_congr_left λk _=>?_;simp
def JFj(hok:∀a∈ms,a.Ok)(hl:ms.length<=1000)(hm:5<=m):run x tabA gloA sub m 82 [.tuple (ms.map Mv.d)]=.ok (.bool (nov ms)):=by
 obtain⟨n,rfl⟩:=JAE hm;rw[JAC (n:=n+4) (show tabA 82=some d_82 from rfl),JAB rfl];have rg:=rng_1 hl;cases ms with
 |nil =>
  simp![List.length_nil,Nat.zero_sub,List.range'_zero]at rg
  dsimp?! [d_82,b_82,List.length_nil,rg,JOA,JAe,JAz,JAy,nov]
 |cons a r =>
  have lp:=JEm (x:=x) (sub:=sub) (n:=n) hok r [] a .no rfl rfl;have el:((a::r).map Mv.d).length=(a::r).length:=by simp
  generalize (a::r).map Mv.d=ds at *;simp![List.length_nil,Nat.zero_add,JDy,b_82]at lp;have ec:(a::r).length - 1=r.length:=by simp
  rw[ec,<-el]at rg;generalize (List.range' 1 r.length).map (λj=>(PyData.int (j:Nat):D))=js at *;cases h:nov (a::r)
  ·have lp:=lp.2 h
   dsimp?! [d_82,b_82,rg,lp,JAe,JAz,JAy]
  ·obtain⟨z,v,lp⟩:=lp.1 h
   dsimp?! [d_82,b_82,rg,lp,JAe,JAz,JAy]
def JQZ:isiD sub (tr w ms) .tuple=.ok (.bool true):=rfl
def JRo:bltD .len [tr w ms]=.ok (.int 2):=rfl
def tri0:idxD (tr w ms) (.int 0)=.ok (F w):=rfl
def tri1:idxD (tr w ms) (.int 1)=.ok (.tuple (ms.map Mv.d)):=rfl
def JRm(hok:∀a∈ms,a.Ok)(hl:ms.length<=1000)(hm:6<=m):run x tabA gloA sub m 81 [tr w ms]=.ok (.bool (nov ms)):=by
 obtain⟨n,rfl⟩:=JAE hm;rw[JAC (n:=n+5) (show tabA 81=some d_81 from rfl),JAB rfl];have e1:run x tabA gloA sub (n+5) 82 [.tuple (ms.map Mv.d)]=.ok (.bool (nov ms)):=JFj hok hl ∅
 obtain⟨C,hC⟩:∃C:Cn,C=⟨run x tabA gloA sub (n+5),gloA,sub⟩:=#[_,rfl];have fn:C.fn=run x tabA gloA sub (n+5):=by rw[hC]
 have fg:C.glo=gloA:=by rw[hC]
 have fs:C.sub=sub:=by rw[hC]
 rw[<-hC];have cp:∀U,JCO C 0 (.call 71 (.cons (.var 0) .nil)) (.cbl true) U (.ok (ms.map Mv.d))=.ok (.list (ms.map λ_=>.bool true)):=by
  intro U;rw[JBK (by rw[q_g];omega),JFf (g:=λ_=>.bool true) (λy hy=>?_)]
  ·simp![mkl,List.map_map];rfl
  ·obtain⟨a,ha,rfl⟩:=List.mem_map.mp hy;have e:run x tabA gloA sub (n+5) 71 [a.d]=.ok (.bool true):=Mv.q_ismo (hok a ha) ∅
   rw[JBR]
   dsimp?! [fn,e]
 have al:allD (ms.map λ_=>.bool true)=.ok (.bool true):=by
  rw[JPJ (p:=λ_=>true)];simp
 have it:JA4 (.tuple (ms.map Mv.d))=.ok (ms.map Mv.d):=rfl;have s1:run x tabA gloA sub (n+5) 24 [F w]=.ok (.bool true):=JJW ∅
 have t1:idxD (tr w ms) (.int 1)=.ok (.tuple (ms.map Mv.d)):=rfl;generalize ms.map Mv.d=ds at *
 dsimp?! [d_81,b_81,fn,fg,fs,JQZ,JRo,Bool.not_true,decide_true,G93,G94,tri0,t1,s1,JJr,it,cp,k_all,al,e1]
def JA9{ms:List Mv}(h:ms≠[]):∃r m,ms=r++[m]:=#[ms.dropLast,ms.getLast h,(List.dropLast_concat_getLast h).symm]
def JGQ:(((ms++[a]).map Mv.d).length:Int)=ms.length+1:=by simp
def JRG(hm:5<=m):run x tabA gloA sub m 83 [tr w []]=.ok .none:=by
 obtain⟨n,rfl⟩:=JAE hm;rw[JAC (n:=n+4) (show tabA 83=some d_83 from rfl),JAB rfl]
 dsimp?! [d_83,b_83,G94,tri1,List.length_nil,decide_true,Int.ofNat_zero,Int.natCast_zero]
def JQR{a:Mv}(h:a.Ok)(hm:5<=m):run x tabA gloA sub m 83 [tr w (ms++[a])]=.ok (F a.e):=by
 obtain⟨n,rfl⟩:=JAE hm;rw[JAC (n:=n+4) (show tabA 83=some d_83 from rfl),JAB rfl];have e:run x tabA gloA sub (n+4) 72 [a.d]=.ok (F a.e):=Mv.q_end h ∅
 have t1:idxD (tr w (ms++[a])) (.int 1)=.ok (.tuple ((ms++[a]).map Mv.d)):=rfl;have t2:=JD1 (ms:=ms) (m:=a);have t3:=JGQ (ms:=ms) (a:=a);have t4:¬((ms.length:Int)+1=0):=by omega
 generalize (ms++[a]).map Mv.d=ds at *
 dsimp?! [d_83,b_83,G94,t1,t2,t3,t4,decide_false,e]
abbrev endT:List Mv->Option Rat
 | []=>none
 | [a]=>some a.e
 |_::r=>endT r
abbrev JB2(w:Rat):List Mv->Rat
 | []=>w
 |a::r=>JB2 a.g r
theorem JBz{a:Mv}:∀ {ms:List Mv},endT (ms++[a])=some a.e
 | []=>rfl
 | [_]=>rfl
 |_::c::r=>by simp![List.cons_append,endT];exact JBz (ms:=c::r)
theorem JC2{a:Mv}:∀ {ms:List Mv}{w:Rat},JB2 w (ms++[a])=a.g
 | [],w=>rfl
 |c::r,w=>by simp![List.cons_append,JB2];exact JC2
def JRb(hok:∀a∈ms,a.Ok)(hm:5<=m):run x tabA gloA sub m 83 [tr w ms]=.ok (optF (endT ms)):=by
 by_cases h:ms=[]
 ·subst h;exact JRG hm
 ·obtain⟨r,a,rfl⟩:=JA9 h;rw[JBz];exact JQR (hok a (by simp)) hm
def JK8(h:run x tabA gloA sub (m - 1) 81 [w']=.ok (.bool true))(hm:1<=m):run x tabA gloA sub m 85 [w']=.ok .none:=by
 obtain⟨n,rfl⟩:=JAE hm;rw[JAC (n:=n) (show tabA 85=some d_85 from rfl),JAB rfl];simp![Nat.add_sub_cancel]at h
 dsimp?! [d_85,b_85,h,Bool.not_true]
def JIB(h:run true tabA gloA sub (m - 1) 81 [w']=.ok (.bool false))(hm:1<=m):run true tabA gloA sub m 85 [w']=.exc 4:=by
 obtain⟨n,rfl⟩:=JAE hm;rw[JAC (n:=n) (show tabA 85=some d_85 from rfl),JAB rfl];simp![Nat.add_sub_cancel]at h
 dsimp?! [d_85,b_85,h,Bool.not_false]
def JNq(hok:∀a∈ms,a.Ok){e:Rat}(h:endT ms=some e):Sz 221 e:=by
 by_cases h0:ms=[]
 ·subst h0;cases h
 ·obtain⟨r,a,rfl⟩:=JA9 h0;rw[JBz]at h;cases h;have o:=hok a (by simp)
  have:Z 200 a.b:=#[o.b];have:Z 20 a.l:=#[o.l];exact(inferInstance:Z (200+20+1) (a.b+a.l)).h
def JSc(h:xs.length+ys.length<=16777216):binD .Add (.tuple xs) (.tuple ys)=.ok (.tuple (xs++ys)):=by
 simp![binD,if_pos h]
def noF{p:Rat}:JAW (F p)=true:=rfl
section
variable{g b l:Rat}{k:Kd}{i:Nat}
end
end
end VI.VP
end
section
namespace VI.VP
open PySem Fr
theorem JGv{C:Cn}{i:Nat}{b:S}{Inv:List D->Env->Prop}(hb:∀d ds U,Inv (d::ds) U->∃U',(exec C b (U.set i (.val d))=.nx U'\/exec C b (U.set i (.val d))=.ct U')/\Inv ds U'):∀ {ds:List D}{U},Inv ds U->∃U',for2 C i b ds U=.nx U'/\Inv [] U'
 | [],U,h=>#[U,rfl,h]
 |d::ds,U,h=>by
  obtain⟨U1,e,h1⟩:=hb d ds U h;obtain⟨U2,e2,h2⟩:=JGv hb h1;refine#[U2,?_,h2];rw[JBy];rcases e with e|e<;>(rw[e];exact e2)
def Mv.can(m:Mv):m.d.canLay0=true:=by
 have:=JIw m.s m.g m.b m.l m.k m.u m.v;unfold shaped at this;rw[q_i]at this;exact this.1
theorem Mv.depth(m:Mv):m.d.depth<=4:=by
 simp![Mv.d,mo,PyData.depth,PyData.depthAll,JF7];decide
theorem JI0:∀ms:List Mv,PyData.canLayAll0 (ms.map Mv.d)=true
 | []=>rfl
 |m::r=>by simp![List.map_cons,PyData.canLayAll0,Mv.can,JI0 r,Bool.and_self]
theorem JEV:∀ms:List Mv,PyData.depthAll (ms.map Mv.d)<=4
 | []=>by simp[PyData.depthAll]
 |m::r=>by
  simp![List.map_cons,PyData.depthAll];have:=m.depth;have:=JEV r;omega
def JMb(ms:List Mv):shaped (.list (ms.map Mv.d))=true:=by
 have:=JEV ms;unfold shaped;rw[q_i];refine#[by simp![PyData.canLay0,JI0],decide_eq_true ?_]
 simp![PyData.depth];omega
def JM4(ms:List Mv):shaped (.tuple (ms.map Mv.d))=true:=by
 have:=JEV ms;unfold shaped;rw[q_i];refine#[by simp![PyData.canLay0,JI0],decide_eq_true ?_]
 simp![PyData.depth];omega
def JOy(ms:List Mv):cmpD .NotEq (.list (ms.map Mv.d)) (.list [])=.ok (.bool (!ms.isEmpty)):=by
 have h:=JMb [];simp![List.map_nil]at h;simp![cmpD,JMb,h,Bool.and_self,if_true];cases ms<;>simp[PyData.eqv,PyData.eqvAll]
def JO0(ms:List Mv):cmpD .NotEq (.tuple (ms.map Mv.d)) (.tuple [])=.ok (.bool (!ms.isEmpty)):=by
 have h:=JM4 [];simp![List.map_nil]at h;simp![cmpD,JM4,h,Bool.and_self,if_true];cases ms<;>simp[PyData.eqv,PyData.eqvAll]
theorem JID{a:Mv}:∀ {ms:List Mv},nov ms=true->(∀e,endT ms=some e->¬a.b<e)->nov (ms++[a])=true
 | [],_,_=>rfl
 | [c],_,h=>by
  have:=h c.e rfl;simp![List.cons_append,List.nil_append,nov,this,decide_false,Bool.not_false,Bool.and_self]
 |c::d::r,hn,h=>by
  simp![nov,q_i]at hn;have:=JID (ms:=d::r) hn.2 h;simp![List.cons_append]at this ⊢;simp![nov,hn.1,this,Bool.and_self]
def Ch:Rat->List Mv->Prop
 |_,[]=>True
 |w,m::r=>m.s=w/\Ch m.g r
theorem JLq{a:Mv}:∀ {ms:List Mv}{w:Rat},Ch w ms->a.s=JB2 w ms->Ch w (ms++[a])
 | [],w,_,h=>#[h,trivial]
 |c::r,w,h,e=>#[h.1,JLq h.2 e]
def JJI{P:Rat->Prop}{ms:List Mv}{w:Rat}(hg:∀a∈ms,P a.g)(h:P w):P (JB2 w ms):=by
 by_cases h0:ms=[]
 ·subst h0;exact h
 ·obtain⟨r,a,rfl⟩:=JA9 h0;rw[JC2];exact hg a (by simp)
def Tw(B:Nat)(q:Rat):Prop:=∃z:Int,z.natAbs<=B/\q=Rat.divInt z 12
def Tw.add{A B:Nat}{p q:Rat}(h:Tw A p)(h':Tw B q):Tw (A+B) (p+q):=by
 obtain⟨z,hz,rfl⟩:=h;obtain⟨y,hy,rfl⟩:=h';refine#[z+y,by omega,?_]
 simp![Rat.divInt_eq_div];have:((z+y:Int):Rat)=z+y:=Rat.intCast_add z y;rw[this]
 grind
def Tw.mono{A B:Nat}{p:Rat}(h:Tw A p)(e:A<=B):Tw B p:=by
 obtain⟨z,hz,rfl⟩:=h;exact#[z,by omega,rfl]
def Tw.sz{B:Nat}{p:Rat}(h:Tw B p)(e:B<1024):Sz 10 p:=by
 obtain⟨z,hz,rfl⟩:=h;exact Sz.of (by decide) ∅ (by decide)
def Small.tw{q:Rat}(h:Small q):Tw 72 q:=by
 have hd:=h.d;have hp:=q.den_pos;have hw:=h.w;have e:=(Rat.num_divInt_den q).symm;have:q.den=1\/q.den=2\/q.den=3\/q.den=4:=by omega
 rcases this with k|k|k|k
 ·refine#[q.num*12,by omega,?_]
  rw[k]at e;rw[e,Rat.divInt_eq_divInt_iff (by decide) (by decide)]
  rw[<-e];simp
 ·refine#[q.num*6,by omega,?_]
  rw[k]at e
  conv=>lhs;rw[e]
  rw[Rat.divInt_eq_divInt_iff (by decide) (by decide)]
  simp;omega
 ·refine#[q.num*4,by omega,?_]
  rw[k]at e
  conv=>lhs;rw[e]
  rw[Rat.divInt_eq_divInt_iff (by decide) (by decide)]
  simp;omega
 ·refine#[q.num*3,by omega,?_]
  rw[k]at e
  conv=>lhs;rw[e]
  rw[Rat.divInt_eq_divInt_iff (by decide) (by decide)]
  simp;omega
structure Dr(a:Mv):Prop where
 s:Small a.s
 g:Small a.g
 l:Small a.l
 u:Small a.u
 v:Small a.v
 b:Tw 1023 a.b
def Dr.old{a:Mv}(h:Dr a):Sz 10 a.b/\Sz 5 a.l/\Sz 5 a.u/\Sz 5 a.v:=#[h.b.sz ∅,h.l.sz,h.u.sz,h.v.sz]
abbrev JE1:S:=match b_88 with
 |.cons _ (.cons _ (.cons _ (.cons (.for1 _ _ b) _)))=>b
 |_=>.nil
def JMN{s s' g b l u v:Rat}{k:Option Kd}:binD .Add (.tuple [F s']) (.tuple (cutD [F s,F g,F b,F l,.str (kst k),.tuple [F u,F v]] (some 1) none))=.ok (mo s' g b l k u v):=JSc (show 1+5<=16777216 by decide)
def JLv{s g b l u v:Rat}{k:Option Kd}:op1D (.slice (some 1) none) (mo s g b l k u v)=.ok (.tuple (cutD [F s,F g,F b,F l,.str (kst k),.tuple [F u,F v]] (some 1) none)):=rfl
def JOr{U:Env}{i j:Nat}{ds:List D}{x:D}(h:ds.length<1000)(hn:JAW x=true):JBi i ds (.var j) x U=.nx (U.set i (.own (.list (ds++[x])))):=by
 unfold JBi;rw[if_pos ∅,hn]
 simp
section
variable{x:Bool}{sub:Nat->Nat->Bool}{m n:Nat}{w t:Rat}{ms:List Mv}{ns:List Int}
def JIg{i A:Nat}(at' most κ:Int)[Z i t](hA:Tw A t)(hi:i<=180)(hw:Small w)(h0:0<=at')(h1:at'<=500)(k0:0<=κ)(k1:κ<10)(hok:∀a∈ms,Dr a)(hn:ms.length<1000)(y7 y8:Sl)(v7:Vs y7)(v8:Vs y8) :
  ∃(a:Mv) (t':Rat) (z7:D),a.Ok/\(Small a.s/\Small a.g/\Small a.l/\Small a.u/\Small a.v)/\a.s=JB2 w ms/\a.b=t/\a.e<=t'/\Tw (A+144) t'/\exec #[run x tabA gloA sub (n+4),gloA,sub] JE1 [.val (sc ns),.val (.int at'),.val (.int most),.val (F w),.val (F t),.own (.list (ms.map Mv.d)),.val (.int κ),y7,y8]
   = .nx [.val (sc ns),.val (.int at'),.val (.int most),.val (F w),.val (F t'),.own (.list ((ms++[a]).map Mv.d)),.val (.int κ),.val z7,.val a.d]:=by
 obtain⟨s,g,l,k,u,v,ss,sg,sl',l0,su,sv,hu,hm⟩:=JKI (x:=x) (sub:=sub) (m:=n+4) ns (at'+10+20*κ) t ∅ ∅ ∅
 obtain⟨p,p0,p1,hp⟩:=JDj (x:=x) (sub:=sub) (m:=n+4) ns (at'+10+20*κ+14) 2 ∅ ∅ ∅ ∅
 obtain⟨q,sq,q0,hq⟩:=JGD (x:=x) (sub:=sub) (m:=n+4) ns (at'+10+20*κ+15) ∅ ∅ ∅
 have zl:=sl'.Z;have zq:=sq.Z;have bm:binD .Mult (.int 20) (.int κ)=.ok (.int (20*κ)):=JBL (L.of (k:=10) ∅ ∅) (L.of (k:=10) ∅ ∅)
 have sl2:Small (JB2 w ms):=JJI (λa ha=>(hok a ha).g) hw;have oa:(Mv.mk (JB2 w ms) g t l k u v).Ok:=.of l0 hu (sl2.sz.mono ∅) (sg.sz.mono ∅) ((inferInstance:Z i t).le ∅) (sl'.sz.mono ∅) (su.sz.mono ∅) (sv.sz.mono ∅)
 have em:(ms++[Mv.mk (JB2 w ms) g t l k u v]).map Mv.d=ms.map Mv.d++[mo (JB2 w ms) g t l k u v]:=by rw[List.map_append];rfl
 have ap:∀U:Env,JBi 5 (ms.map Mv.d) (.var 8) (mo (JB2 w ms) g t l k u v) U=.nx (U.set 5 (.own (.list (ms.map Mv.d++[mo (JB2 w ms) g t l k u v])))):=λU=>JOr (by rw[q_g];exact hn) JKt
 have sh:∀s',JAW (mo s' g t l k u v)=true:=λ_=>JKt;have zt1:Z (i+5+1) (t+l):=inferInstance;have zt2:Z (i+5+1+5+1) (t+l+q):=inferInstance;obtain⟨C,hC⟩:∃C:Cn,C=⟨run x tabA gloA sub (n+4),gloA,sub⟩:=#[_,rfl];have fn:C.fn=run x tabA gloA sub (n+4):=by rw[hC]
 have fg:C.glo=gloA:=by rw[hC]
 have hf:∀z7 z8:Sl,ev C (.ife (.cmp .NotEq (.var 5) (.lst .nil)) (.idx (.idx (.var 5) (.neg (.cint 1))) (.cint 1)) (.var 3)) [.val (sc ns),.val (.int at'),.val (.int most),.val (F w),.val (F t),.own (.list (ms.map Mv.d)),.val (.int κ),z7,z8]=.ok (F (JB2 w ms)):=by
  intro z7 z8;have ne:=JOy ms
  by_cases hms:ms=[]
  ·subst hms;simp![List.map_nil,List.isEmpty_nil,Bool.not_true]at ne
   dsimp?! [ne,JB2]
  ·obtain⟨r,c,rfl⟩:=JA9 hms;have il:=JFN (ms:=r) (m:=c);have em:(r++[c]).isEmpty=false:=by simp
   have lw:JB2 w (r++[c])=c.g:=JC2;have c1:idxD c.d (.int 1)=.ok (F c.g):=rfl;have ng:(-(1:Int))=-1:=rfl;rw[em,Bool.not_false]at ne;rw[lw];generalize (r++[c]).map Mv.d=ds at *
   dsimp?! [ne,ng,il,c1]
 rw[<-hC];generalize hds:ms.map Mv.d=ds at *;generalize hlw:JB2 w ms=lw at *
 by_cases hp0:p=0
 ·refine#[_,t+l+q,.int (at'+10+20*κ),oa,#[sl2,sg,sl',su,sv],rfl,rfl,by simp![Mv.e];grind,((hA.add sl'.tw).add sq.tw).mono ∅,?_]
  rw[em]
  dsimp?! [JE1,b_88,fn,fg,↓hf,v7.own,v8.own,JA7,bm,hm,hp,hq,hp0,decide_true,JLv,JMN,JKt,Bool.not_true,Bool.and_false,ap,mo3,sh,JAW,noF]
  rfl
 ·refine#[_,t+l,.int (at'+10+20*κ),oa,#[sl2,sg,sl',su,sv],rfl,rfl,by simp![Mv.e];grind,(hA.add sl'.tw).mono ∅,?_]
  rw[em]
  dsimp?! [JE1,b_88,fn,fg,↓hf,v7.own,v8.own,JA7,bm,hm,hp,hq,hp0,decide_false,JLv,JMN,JKt,Bool.not_true,Bool.and_false,ap,mo3,sh,JAW,noF]
  rfl
def JMl{a:E}{j:Nat}:(E.rng a).uses j=a.uses j:=rfl
def JPF(ns:List Int)(at':Int)(most:Nat)(hm:5<=m)(h0:0<=at')(h1:at'<=500)(h2:most<=6):∃(w:Rat) (ms:List Mv),Small w/\(∀a∈ms,a.Ok)/\(∀a∈ms,Dr a)/\ms.length<=most/\nov ms=true/\Ch w ms/\run x tabA gloA sub m 88 [sc ns,.int at',.int most]=.ok (tr w ms):=by
 obtain⟨n,rfl⟩:=JAE hm;rw[JAC (n:=n+4) (show tabA 88=some d_88 from rfl),JAB rfl];obtain⟨w,sw,hw⟩:=JDd (x:=x) (sub:=sub) (m:=n+4) ns at' ∅ ∅ ∅
 obtain⟨t,st,ht⟩:=JDd (x:=x) (sub:=sub) (m:=n+4) ns (at'+2) ∅ ∅ ∅
 obtain⟨p,p0,p1,hp⟩:=JDj (x:=x) (sub:=sub) (m:=n+4) ns (at'+4) ((most:Int)+1) ∅ ∅ ∅ ∅
 obtain⟨C,hC⟩:∃C:Cn,C=⟨run x tabA gloA sub (n+4),gloA,sub⟩:=#[_,rfl];have hw7:Sz 20 w:=sw.sz.mono ∅
 have rg:rngD [.int p]=.ok (((List.range p.toNat).map λj:Nat=>(j:Int)).map PyData.int):=by
  have h:small p=true:=by
    unfold small;simp![q_i,q_D];omega
  simp![rngD,h,if_true,JDE,List.map_map];simp
 have hNm:p.toNat<=most:=by omega
 generalize p.toNat=N at *;obtain⟨U',lp,is,j,t',ms,y6,y7,y8,v6,v7,v8,ei,_,hj,_,mo,mt,ml,mn,me,mc,eU⟩:=JGv (C:=C) (i:=6) (b:=JE1)
  (Inv:=λds U=>∃(is:List Int) (j:Nat) (t:Rat) (ms:List Mv) (y6 y7 y8:Sl),Vs y6/\Vs y7/\Vs y8/\ds=is.map PyData.int/\(∀κ∈is,0<=κ/\κ<10)/\j+is.length=N/\Tw (72+144*j) t/\(∀a∈ms,a.Ok)/\(∀a∈ms,Dr a)/\ms.length<=j/\nov ms=true/\(∀e,endT ms=some e->¬t<e)/\Ch w ms /\
    U=[.val (sc ns),.val (.int at'),.val (.int most),.val (F w),.val (F t),.own (.list (ms.map Mv.d)),y6,y7,y8])
  (λd ds U hI=>by
    obtain⟨is,j,t,ms,y6,y7,y8,v6,v7,v8,ed,hk,hl,zt,mo,mt,ml,mn,me,mc,e⟩:=hI;subst e;cases is with
    |nil=>cases ed
    |cons κ is =>
     simp![List.map_cons,List.cons.injEq]at ed;obtain⟨rfl,rfl⟩:=ed;obtain⟨k0,k1⟩:=hk κ (by simp)
     simp![List.length_cons]at hl;have hj6:j<6:=by omega
     have hq:72+144*j<=1023:=by omega
     have hm1:ms.length<1000:=by omega
     have zs:=zt.sz ∅
     have:Z 10 t:=#[zs];obtain⟨a,t',z7,ao,al,as',ab,ae,zt',hb⟩:=JIg (x:=x) (sub:=sub) (n:=n) (ns:=ns) (w:=w) (t:=t) (ms:=ms) (i:=10) at' most κ zt (by decide) sw h0 h1 k0 k1 mt hm1 y7 y8 v7 v8
     refine#[_,.inl (by rw[hC];exact hb),is,j+1,t',ms++[a],.val (.int κ),.val z7,.val a.d,rfl,rfl,rfl,rfl,λκ' h=>hk κ' (by simp[h]),by rw[<-hl];exact Nat.add_right_comm ..,zt',λc hc=>?_,λc hc=>?_,?_,JID mn (λe he=>by rw[ab];exact me e he),λe he=>?_,JLq mc as',rfl]
     ·rcases List.mem_append.mp hc with h|h
      ·exact mo c h
      ·cases List.mem_singleton.mp h;exact ao
     ·rcases List.mem_append.mp hc with h|h
      ·exact mt c h
      ·cases List.mem_singleton.mp h;exact#[al.1,al.2.1,al.2.2.1,al.2.2.2.1,al.2.2.2.2,ab▸zt.mono hq]
     ·rw[q_u];exact Nat.add_le_add_right ml 1
     ·rw[JBz]at he;cases he
      grind)
  (ds:=((List.range N).map λj:Nat=>(j:Int)).map PyData.int)
  (U:=[.val (sc ns),.val (.int at'),.val (.int most),.val (F w),.val (F t),.own (.list []),.no,.no,.no])
  #[_,0,t,[],.no,.no,.no,rfl,rfl,rfl,rfl,λκ hκ=>by
    obtain⟨j,hj,rfl⟩:=List.mem_map.mp hκ;have:=List.mem_range.mp hj;omega,by simp,st.tw,(λ_ h=>absurd h (by simp)),(λ_ h=>absurd h (by simp)),(by simp),rfl,(λ_ h=>by cases h),trivial,rfl]
 subst eU;refine#[w,ms,sw,mo,mt,by omega,mn,mc,?_]
 have fn:C.fn=run x tabA gloA sub (n+4):=by rw[hC]
 have fg:C.glo=gloA:=by rw[hC]
 rw[<-hC];simp![JE1,b_88]at lp;have tt:op1D .toTup (.list (ms.map Mv.d))=.ok (.tuple (ms.map Mv.d)):=rfl;have ee:tr w ms=.tuple [F w,.tuple (ms.map Mv.d)]:=rfl;rw[ee];generalize ms.map Mv.d=ds at *;generalize ((List.range p.toNat).map λj:Nat=>(j:Int)).map PyData.int=js at *
 dsimp?! [d_88,b_88,fn,fg,hw,ht,hp,rg,lp,JAe,JAz,JBS,JAy,JA7,JGV,JJ0,JF6,JJZ,JF3,JMl,JIj,Nat.reduceAdd,Nat.reduceBEq,Bool.or_false,Bool.or_self,JAW,noF,Bool.not_true,Bool.and_false,v6.own,v7.own,v8.own,tt]
end
end VI.VP
end
section
namespace VI.VP
open PySem Fr
abbrev Mv.w(m:Mv)(t:Rat):Rat:=wo m.s m.g m.b m.l m.k m.u m.v t
abbrev Mv.sp(m:Mv)(t:Rat):Rat:=sd m.s m.g m.b m.l m.k m.u m.v t
abbrev bg(t:Rat)(ms:List Mv):List Mv:=ms.filter λm=>!decide (t<m.b)
abbrev wOf(w:Rat)(ms:List Mv)(t:Rat):Rat:=match (bg t ms).getLast? with
 |none=>w
 |some m=>m.w t
structure Ti(i j:Nat)(ms:List Mv):Prop where
 ok:∀a∈ms,a.Ok
 b:∀a∈ms,Sz i a.b
 l:∀a∈ms,Sz j a.l
theorem JGH{α:Type}{f:D->R (Option D)}{c g:α->D}{p:α->Bool}:∀ {xs:List α},(∀a∈xs,f (c a)=.ok (if p a=true then some (g a) else none))->JA5 f (xs.map c)=.ok ((xs.filter p).map g)
 | [],_=>rfl
 |a::xs,h=>by
  simp![List.map_cons];unfold JA5;rw[h a (by simp)]
  have ih:=JGH (xs:=xs) λy hy=>h y (by simp[hy])
  cases hp:p a
  ·simp![q_v,if_false];rw[ih,q_x (by simp[hp])]
  ·simp![if_true];rw[ih,q_y hp];rfl
def JIG{ms:List Mv}{a:Mv}:bltD .len [.list ((ms++[a]).map Mv.d)]=.ok (.int (ms.length+1)):=by
 show R.ok _=_;rw[JGQ]
def JHG(ms:List Mv):ms=[]\/∃r m,ms=r++[m]:=by
 by_cases h:ms=[]
 ·exact .inl h
 ·exact .inr (JA9 h)
def JFs{r:List Mv}{m:Mv}:(r++[m]).getLast? = some m:=by simp
section
variable{x:Bool}{sub:Nat->Nat->Bool}{m n i3 i4 j:Nat}{w t:Rat}{ms:List Mv}
def Mv.q_w{a:Mv}(h:a.Ok)(hb:Sz i3 a.b)(hl:Sz i4 a.l)[Z j t](h3:i3<=30)(h4:i4<=20)(hj:j+i3+i4<=56)(hm:6<=m):run x tabA gloA sub m 48 [a.d,F t]=.ok (F (a.w t)):=by
 obtain⟨i1,i2,hs,hg,h12⟩:=h.sg;obtain⟨i5,i6,hu,hv,h56⟩:=h.us;have:=(#[hs]:Z i1 a.s);have:=(#[hg]:Z i2 a.g);have:=(#[hb]:Z i3 a.b);have:=(#[hl]:Z i4 a.l);have:=(#[hu]:Z i5 a.u);have:=(#[hv]:Z i6 a.v);have h0:=h.l0;exact JLQ (by grind) ∅ ∅ ∅ hm
def q_bg(hok:∀a∈ms,a.Ok)[Z j t](hj:j<=1500)(hl:ms.length<=1000)(hm:2<=m):run x tabA gloA sub m 96 [tr w ms,F t]=.ok (.list ((bg t ms).map Mv.d)):=by
 obtain⟨n,rfl⟩:=JAE hm;rw[JAC (n:=n+1) (show tabA 96=some d_96 from rfl),JAB rfl];obtain⟨C,hC⟩:∃C:Cn,C=⟨run x tabA gloA sub (n+1),gloA,sub⟩:=#[_,rfl];have fn:C.fn=run x tabA gloA sub (n+1):=by rw[hC]
 have fg:C.glo=gloA:=by rw[hC]
 rw[<-hC];have t1:idxD (tr w ms) (.int 1)=.ok (.tuple (ms.map Mv.d)):=rfl;have it:JA4 (.tuple (ms.map Mv.d))=.ok (ms.map Mv.d):=rfl;have cp:JCO C 0 (.var 0) (.not (.call 6 (.cons (.var 2) (.cons (.idx (.var 0) (.glo 57)) .nil)))) [.val (tr w ms),.val (F t)] (.ok (ms.map Mv.d))=.ok (.list ((bg t ms).map Mv.d)):=by
  rw[JBK (by rw[q_g];omega),JGH (p:=λm=>!decide (t<m.b)) (g:=Mv.d) (λa ha=>?_)]
  ·rfl
  ·have zb:Z 200 a.b:=#[(hok a ha).b];have m2:idxD a.d (.int 2)=.ok (F a.b):=rfl;rw[JBR]
   by_cases o:t<a.b
   ·dsimp?! [fn,fg,m2,o,decide_true,Bool.not_true]
   ·dsimp?! [fn,fg,m2,o,decide_false,Bool.not_false]
 generalize (bg t ms).map Mv.d=bs at *;generalize ms.map Mv.d=ds at *
 dsimp?! [d_96,b_96,fn,fg,G94,t1,it,cp]
def JN4:bltD .len [.list (([]:List Mv).map Mv.d)]=.ok (.int 0):=rfl
def q_wof(T:Ti i3 i4 ms)[Z j t](h3:i3<=30)(h4:i4<=20)(hj:j+i3+i4<=56)(hl:ms.length<=1000)(hm:7<=m):run x tabA gloA sub m 97 [tr w ms,F t]=.ok (F (wOf w ms t)):=by
 obtain⟨n,rfl⟩:=JAE hm;rw[JAC (n:=n+6) (show tabA 97=some d_97 from rfl),JAB rfl];have e1:run x tabA gloA sub (n+6) 96 [tr w ms,F t]=.ok (.list ((bg t ms).map Mv.d)):=q_bg T.ok ∅ hl ∅
 have t0:idxD (tr w ms) (.int 0)=.ok (F w):=rfl;unfold wOf;rcases JHG (bg t ms) with h|⟨r,a,h⟩
 ·rw[h]at e1 ⊢;have nl:=JN4;simp![List.map_nil,List.getLast?_nil]at e1 nl ⊢;generalize tr w ms=T at *
  dsimp?! [d_97,b_97,e1,nl,decide_true,G93,t0]
 ·have ha:a∈ms:=(List.mem_filter.mp (show a∈bg t ms by rw[h];simp)).1
  have e2:run x tabA gloA sub (n+6) 48 [a.d,F t]=.ok (F (a.w t)):=Mv.q_w (T.ok a ha) (T.b a ha) (T.l a ha) h3 h4 hj ∅
  rw[h]at e1 ⊢;rw[JFs];have il:=JFN (ms:=r) (m:=a);have ll:=JIG (ms:=r) (a:=a);have t4:¬((r.length:Int)+1=0):=by omega
  generalize (r++[a]).map Mv.d=ds at *;generalize tr w ms=T at *
  dsimp?! [d_97,b_97,e1,il,ll,t4,decide_false,e2]
end
end VI.VP
end
section
namespace VI.VP
open PySem Fr
section
variable{C:Ta->Cn}{f3:F3}{U:VI.Env}{π:Ta}{i k:Nat}{f m:Str}{e x es:E}{v:V3}{a b:S3}{s:S}{d:D}{ds:List D}{c:Fs}
abbrev seq3(C:Ta->Cn)(f3:F3)(r:S3):Fl3->Fl3
 |.nx U π=>JAI C f3 r U π
 |.rt d π=>.rt d π
 |.bk U π=>.bk U π
 |.ct U π=>.ct U π
 |.ex c π=>.ex c π
 |.bad=>.bad
def JE9:JAI C f3 (.cons a b) U π=seq3 C f3 b (JAI C f3 a U π):=by simp![JAI];cases JAI C f3 a U π<;>rfl
def JLj:JAI C f3 .nil U π=.nx U π:=by simp![JAI]
def JJ9:seq3 C f3 b (.nx U π)=JAI C f3 b U π:=rfl
def s3_rt:seq3 C f3 b (.rt d π)=.rt d π:=rfl
def s3_ex:seq3 C f3 b (.ex k π)=.ex k π:=rfl
def y_st:JAI C f3 (.st s) U π=Fl.at π (exec (C π) s U):=by simp![JAI]
def at_nx:Fl.at π (.nx U)=.nx U π:=rfl
def at_rt:Fl.at π (.rt d)=.rt d π:=rfl
def at_ex:Fl.at π (.ex k)=.ex k π:=rfl
abbrev JNv(U:VI.Env):R3 D->Fl3
 |.ok _ π=>.nx U π
 |.exc c π=>.ex c π
 |.bad=>.bad
def JIq:JAI C f3 (.drop v) U π=JNv (JAL v.toE 0 U) (ev3 C f3 (JAL v.toE 0 U) v π):=by simp![JAI];cases ev3 C f3 (JAL v.toE 0 U) v π<;>rfl
def JR4:JNv U (.ok d π)=.nx U π:=rfl
abbrev ret3:R3 D->Fl3
 |.ok d π=>.rt d π
 |.exc c π=>.ex c π
 |.bad=>.bad
def y_ret:JAI C f3 (.ret v) U π=ret3 (ev3 C f3 (JAL v.toE 0 U) v π):=by simp![JAI];cases ev3 C f3 (JAL v.toE 0 U) v π<;>rfl
def t3_ok:ret3 (.ok d π)=.rt d π:=rfl
abbrev ifs3(C:Ta->Cn)(f3:F3)(a b:S3)(U:VI.Env):R3 Bool->Fl3
 |.ok true π=>JAI C f3 a U π
 |.ok false π=>JAI C f3 b U π
 |.exc c π=>.ex c π
 |.bad=>.bad
def JRv:JAI C f3 (.ife t a b) U π=ifs3 C f3 a b (JAL t.toE 0 U) (evT3 C f3 (JAL t.toE 0 U) t π):=by
 simp![JAI];cases evT3 C f3 (JAL t.toE 0 U) t π with
 |ok b _=>cases b<;>rfl
 |exc c _=>rfl
 |bad=>rfl
def i3_t:ifs3 C f3 a b U (.ok true π)=JAI C f3 a U π:=rfl
def i3_f:ifs3 C f3 a b U (.ok false π)=JAI C f3 b U π:=rfl
abbrev at3{α:Type}(π:Ta):R α->R3 α
 |.ok a=>.ok a π
 |.exc c=>.exc c π
 |.bad=>.bad
def JSF{α:Type}{a:α}:at3 π (.ok a)=.ok a π:=rfl
def JRI:ev3 C f3 U (.pur e) π=at3 π (ev (C π) e U):=by simp![ev3];cases ev (C π) e U<;>rfl
abbrev cal3(f3:F3)(i:Nat)(π:Ta):R (List D)->R3 D
 |.ok ds=>f3 i ds π
 |.exc c=>.exc c π
 |.bad=>.bad
def JQ8:ev3 C f3 U (.cal i es) π=cal3 f3 i π (evA (C π) es U):=by simp![ev3];cases evA (C π) es U<;>rfl
abbrev consR(d:D):R (List D)->R (List D)
 |.ok ds=>.ok (d::ds)
 |.exc c=>.exc c
 |.bad=>.bad
def c3_ok:cal3 f3 i π (.ok ds)=f3 i ds π:=rfl
abbrev met3(f3:F3)(i:Nat)(m:Str)(π:Ta):R D->R (List D)->R3 D
 |.ok d,r=>(match recF π d with
  |some q=>if (q.2.lookup m).isNone=true then cal3 f3 i π (consR d r) else .bad
  |none=>.bad)
 |.exc c,_=>.exc c π
 |.bad,_=>.bad
def JLM:ev3 C f3 U (.met i m x es) π=met3 f3 i m π (ev (C π) x U) (evA (C π) es U):=by
 simp![ev3];cases ev (C π) x U with
 |ok d =>
  simp![R3.bind,chkD,met3];cases recF π d with
  |none=>rfl
  |some q =>
   by_cases z:(q.2.lookup m).isNone=true
   ·simp![if_pos z,R.at];cases evA (C π) es U<;>rfl
   ·simp![if_neg z,R.at]
 |exc c=>rfl
 |bad=>rfl
abbrev cmv3(C:Ta->Cn)(U:VI.Env)(op:CmpOp)(b:E):R3 D->R3 D
 |.ok x π=>at3 π (cmp1 op (.ok x) (ev (C π) b U))
 |.exc c π=>.exc c π
 |.bad=>.bad
def JSd{b:E}:ev3 C f3 U (.cmv op v b) π=cmv3 C U op b (ev3 C f3 U v π):=by
 simp![ev3];cases ev3 C f3 U v π with
 |ok d π=>simp![cmv3,R3.bind];cases ev (C π) b U with
  |ok y=>simp![R.bind,cmp1];cases cmpD op d y<;>rfl
  |exc c=>rfl
  |bad=>rfl
 |exc c π=>rfl
 |bad=>rfl
def v3_ok{b:E}:cmv3 C U op b (.ok d π)=at3 π (cmp1 op (.ok d) (ev (C π) b U)):=rfl
abbrev try3(C:Ta->Cn)(c i j:Nat)(U:VI.Env):Fl3->Fl3
 |.ex k π'=>if (C π').sub k c=true then .nx ((((U.map λ_=>Sl.no).set i (.val (excD k))).set j (.val (excD k))).set i .no) π' else .bad
 |.nx U π=>.nx U π
 |.rt d π=>.rt d π
 |.bk U π=>.bk U π
 |.ct U π=>.ct U π
 |.bad=>.bad
def JQS{c i j:Nat}:JAI C f3 (.tryx a c i j) U π=try3 C c i j U (JAI C f3 a U π):=by simp![JAI];cases JAI C f3 a U π<;>rfl
def r3_nx{c i j:Nat}:try3 C c i j U (.nx U' π)=.nx U' π:=rfl
def r3_ex{c i j:Nat}(h:(C π).sub k c=true):try3 C c i j U (.ex k π)=.nx ((((U.map λ_=>Sl.no).set i (.val (excD k))).set j (.val (excD k))).set i .no) π:=if_pos h
def JQP:evT3 C f3 U (.pur e) π=at3 π (evT (C π) e U):=by simp![evT3];cases evT (C π) e U<;>rfl
abbrev cmp3(C:Ta->Cn)(U:VI.Env)(op:CmpOp)(b:E):R3 D->R3 Bool
 |.ok x π=>at3 π (tr1 (cmp1 op (.ok x) (ev (C π) b U)))
 |.exc c π=>.exc c π
 |.bad=>.bad
def JSp{b:E}:evT3 C f3 U (.cmp op v b) π=cmp3 C U op b (ev3 C f3 U v π):=by
 simp![evT3];cases ev3 C f3 U v π with
 |ok d π=>simp![cmp3,R3.bind];cases ev (C π) b U with
  |ok y=>simp![R.bind,cmp1];cases h:cmpD op d y with
   |ok z=>simp![tr1];cases truth z<;>rfl
   |exc c=>rfl
   |bad=>rfl
  |exc c=>rfl
  |bad=>rfl
 |exc c π=>rfl
 |bad=>rfl
def p3_ok{b:E}:cmp3 C U op b (.ok d π)=at3 π (tr1 (cmp1 op (.ok d) (ev (C π) b U))):=rfl
abbrev nv3:R3 D->R3 Bool
 |.ok (.bool b) π=>.ok (!b) π
 |.exc c π=>.exc c π
 |_=>.bad
def n3_ok{b:Bool}:nv3 (.ok (.bool b) π)=.ok (!b) π:=rfl
abbrev or3(C:Ta->Cn)(f3:F3)(U:VI.Env)(b:T3):R3 Bool->R3 Bool
 |.ok true π=>.ok true π
 |.ok false π=>evT3 C f3 U b π
 |.exc c π=>.exc c π
 |.bad=>.bad
def b_or{a b:T3}:evT3 C f3 U (.or a b) π=or3 C f3 U b (evT3 C f3 U a π):=by
 simp![evT3];cases evT3 C f3 U a π with
 |ok k π=>cases k<;>rfl
 |exc c π=>rfl
 |bad=>rfl
def b_nv:evT3 C f3 U (.nv v) π=nv3 (ev3 C f3 U v π):=by
 simp![evT3];cases ev3 C f3 U v π with
 |ok d π=>cases d<;>rfl
 |exc c π=>rfl
 |bad=>rfl
def o3_f{b:T3}:or3 C f3 U b (.ok false π)=evT3 C f3 U b π:=rfl
def mk_ok(h1:evA (C π) es U=.ok ds)(h2:f3 i (recD π.length::ds) (π++[[]])=.ok .none π'):mk3 C f3 i es U π=.ok (recD π.length) π':=by simp![mk3,h1,h2,R.at,R3.bind,isNone,if_true]
def mk_ex(h1:evA (C π) es U=.ok ds){c:Nat}(h2:f3 i (recD π.length::ds) (π++[[]])=.exc c π'):mk3 C f3 i es U π=.exc c π':=by simp![mk3,h1,h2,R.at,R3.bind]
abbrev un1(is:List Nat)(U:VI.Env):R3 D->Fl3
 |.ok d π=>un2 is U π (JAd is.length d)
 |.exc c π=>.ex c π
 |.bad=>.bad
where un2 (is:List Nat) (U:VI.Env) (π:Ta):R (List D)->Fl3
 |.ok ds=>.nx (JCL is ds U) π
 |.exc c=>.ex c π
 |.bad=>.bad
def y_un3:JAI C f3 (.un3 is v) U π=un1 is (JAL v.toE 0 U) (ev3 C f3 (JAL v.toE 0 U) v π):=by
 simp![JAI];cases ev3 C f3 (JAL v.toE 0 U) v π with
 |ok d π=>simp![step3,un1];cases JAd is.length d<;>rfl
 |exc c π=>rfl
 |bad=>rfl
abbrev sl1(π:Ta):R D->Option (Nat×Fs)
 |.ok d=>recF π d
 |_=>none
def JG4:JBZ π U i=sl1 π (look U i):=by unfold JBZ sl1;cases look U i<;>rfl
def JPg:sl1 π (.ok d)=recF π d:=rfl
def JFD(n:Nat):recN (recD n)=some n:=by
 simp![recD,recN,Int.natCast_nonneg,if_true,Int.toNat_natCast]
def JAs(h:π[k]? = some c):recF π (recD k)=some (k,c):=by
 simp![recF,JFD,Option.bind_some,h,Option.map_some]
abbrev fld1(f:Str)(π:Ta)(U:VI.Env):Option (Nat×Fs)->R D->Fl3
 |some (n,c),.ok d=>if JBh d=true/\c.length<800 then .nx U (π.set n (JAn f d c)) else .bad
 |some _,.exc c=>.ex c π
 |_,_=>.bad
def JRq:JAI C f3 (.fld i f e) U π=fld1 f π (JAL (.cons (.var i) e) 0 U) (JBZ π (JAL (.cons (.var i) e) 0 U) i) (ev (C π) e (JAL (.cons (.var i) e) 0 U)):=by
 simp![JAI,fld3];generalize JAL (.cons (.var i) e) 0 U=U';cases JBZ π U' i with
 |none=>rfl
 |some q =>
  cases ev (C π) e U' with
  |ok d=>simp![R3.bind,fld1];by_cases z:JBh d=true/\q.2.length<800<;>simp![z,if_true,if_false,step3]<;>simp[z]
  |exc c=>rfl
  |bad=>rfl
def f1_ok{n:Nat}:fld1 f π U (some (n,c)) (.ok d)=if JBh d=true/\c.length<800 then .nx U (π.set n (JAn f d c)) else .bad:=rfl
abbrev fln1(f:Str)(π:Ta)(U:VI.Env):Option (Nat×Fs)->Fl3
 |some (n,c)=>if (c.lookup f).isNone=true/\c.length<800 then .nx U (π.set n (JAn f (.list []) c)) else .bad
 |_=>.bad
def JQs:JAI C f3 (.fln i f) U π=fln1 f π (JAL (.var i) 0 U) (JBZ π (JAL (.var i) 0 U) i):=by
 simp![JAI,fln3];generalize JAL (.var i) 0 U=U';cases JBZ π U' i with
 |none=>rfl
 |some q =>
  simp![fln1]
  by_cases z:(q.2.lookup f).isNone=true/\q.2.length<800
  ·simp![if_pos z,step3]
  ·simp![if_neg z,step3]
def n1_ok{n:Nat}:fln1 f π U (some (n,c))=if (c.lookup f).isNone=true/\c.length<800 then .nx U (π.set n (JAn f (.list []) c)) else .bad:=rfl
abbrev oxt1(f:Str)(π:Ta)(U:VI.Env):Option (Nat×Fs)->R D->Fl3
 |some (n,c),r=>(match c.lookup f with
  |some (.list ds)=>(match r with
   |.ok (.list zs)=>if JBM zs=true/\ds.length+zs.length<=16777216 then .nx U (π.set n (JAn f (.list (ds++zs)) c)) else .bad
   |.exc c=>.ex c π
   |_=>.bad)
  |_=>.bad)
 |none,_=>.bad
def JRi:JAI C f3 (.oxt i f e) U π=oxt1 f π (JAL (.cons (.var i) e) 0 U) (JBZ π (JAL (.cons (.var i) e) 0 U) i) (ev (C π) e (JAL (.cons (.var i) e) 0 U)):=by
 simp![JAI,oxt3];generalize JAL (.cons (.var i) e) 0 U=U' at *;cases JBZ π U' i with
 |none=>rfl
 |some q =>
  simp![oxt1];cases q.2.lookup f with
  |none=>rfl
  |some y =>
   cases y with
   |list ds =>
    cases ev (C π) e U' with
    |ok d =>
     cases d with
     |list zs=>simp![R3.bind];by_cases z:JBM zs=true/\ds.length+zs.length<=16777216<;>simp[z,step3]
     |_=>rfl
    |exc c=>rfl
    |bad=>rfl
   |_=>rfl
end
end VI.VP
end
section
namespace VI.VP
open PySem Fr
abbrev plr(T M:D)(La t p:Rat)(b:Bool)(hs:List D):Fs:=[("track",T),("marks",M),("last",F La),("now",F t),("pace",F p),("plays",.bool b),("heard",.list hs)]
abbrev cl(La x:Rat):Rat:=if x<0 then 0 else if La<x then La else x
section
variable{sub:Nat->Nat->Bool}{π:Ta}{k m n i j l:Nat}{T M:D}{La t p q x one:Rat}{b:Bool}{hs:List D}{ms:List Mk}{ds:List D}
def rn3:runR kR tabA tabR gloA sub π n 3 ds=run true tabA gloA sub n 3 ds:=by unfold runR;rfl
def rn5:runR kR tabA tabR gloA sub π n 5 ds=run true tabA gloA sub n 5 ds:=by unfold runR;rfl
def rn6:runR kR tabA tabR gloA sub π n 6 ds=run true tabA gloA sub n 6 ds:=by unfold runR;rfl
def rn7:runR kR tabA tabR gloA sub π n 7 ds=run true tabA gloA sub n 7 ds:=by unfold runR;rfl
def rn8:runR kR tabA tabR gloA sub π n 8 ds=run true tabA gloA sub n 8 ds:=by unfold runR;rfl
def rn12:runR kR tabA tabR gloA sub π n 12 ds=run true tabA gloA sub n 12 ds:=by unfold runR;rfl
def rn15:runR kR tabA tabR gloA sub π n 15 ds=run true tabA gloA sub n 15 ds:=by unfold runR;rfl
def rn17:runR kR tabA tabR gloA sub π n 17 ds=run true tabA gloA sub n 17 ds:=by unfold runR;rfl
def rn19:runR kR tabA tabR gloA sub π n 19 ds=run true tabA gloA sub n 19 ds:=by unfold runR;rfl
def rn21:runR kR tabA tabR gloA sub π n 21 ds=run true tabA gloA sub n 21 ds:=by unfold runR;rfl
def rn26:runR kR tabA tabR gloA sub π n 26 ds=run true tabA gloA sub n 26 ds:=by unfold runR;rfl
def rn85:runR kR tabA tabR gloA sub π n 85 ds=run true tabA gloA sub n 85 ds:=by unfold runR;rfl
def rn88:runR kR tabA tabR gloA sub π n 88 ds=run true tabA gloA sub n 88 ds:=by unfold runR;rfl
def rn97:runR kR tabA tabR gloA sub π n 97 ds=run true tabA gloA sub n 97 ds:=by unfold runR;rfl
def JRC:runR kR tabA tabR gloA sub π n 222 ds=run true tabA gloA sub n 222 ds:=by unfold runR;rfl
def JPu:runR kR tabA tabR gloA sub π n 257 ds=run true tabA gloA sub n 257 ds:=by unfold runR;rfl
def JQx:runR kR tabA tabR gloA sub π n 259 ds=run true tabA gloA sub n 259 ds:=by unfold runR;rfl
def JGM(h:π[k]? = some (plr T M La t p b hs)):runR kR tabA tabR gloA sub π n 262 [recD k]=.ok T:=by
 unfold runR;simp![show kR 262=.fld "track" from rfl,fldD,JAs h,Option.bind_some];rfl
def JGf(h:π[k]? = some (plr T M La t p b hs)):runR kR tabA tabR gloA sub π n 263 [recD k]=.ok M:=by
 unfold runR;simp![show kR 263=.fld "marks" from rfl,fldD,JAs h,Option.bind_some];rfl
def JJd(h:π[k]? = some (plr T M La t p b hs)):runR kR tabA tabR gloA sub π n 264 [recD k]=.ok (F La):=by
 unfold runR;simp![show kR 264=.fld "last" from rfl,fldD,JAs h,Option.bind_some];rfl
def JMQ(h:π[k]? = some (plr T M La t p b hs)):runR kR tabA tabR gloA sub π n 265 [recD k]=.ok (F t):=by
 unfold runR;simp![show kR 265=.fld "now" from rfl,fldD,JAs h,Option.bind_some];rfl
def JJL(h:π[k]? = some (plr T M La t p b hs)):runR kR tabA tabR gloA sub π n 266 [recD k]=.ok (F p):=by
 unfold runR;simp![show kR 266=.fld "pace" from rfl,fldD,JAs h,Option.bind_some];rfl
def JHC(h:π[k]? = some (plr T M La t p b hs)):runR kR tabA tabR gloA sub π n 267 [recD k]=.ok (.bool b):=by
 unfold runR;simp![show kR 267=.fld "plays" from rfl,fldD,JAs h,Option.bind_some];rfl
def JDk(h:π[k]? = some (plr T M La t p b hs)):runR kR tabA tabR gloA sub π n 269 [recD k]=.ok (recD k):=by
 unfold runR;simp![show kR 269=.chk "kept_in" from rfl,chkD,JAs h];rfl
def JCd(h:π[k]? = some (plr T M La t p b hs)):runR kR tabA tabR gloA sub π n 271 [recD k]=.ok (recD k):=by
 unfold runR;simp![show kR 271=.chk "time" from rfl,chkD,JAs h];rfl
def JCq(h:π[k]? = some (plr T M La t p b hs)):runR kR tabA tabR gloA sub π n 273 [recD k]=.ok (recD k):=by
 unfold runR;simp![show kR 273=.chk "worth" from rfl,chkD,JAs h];rfl
def JHc:runR kR tabA tabR gloA sub π (n+1) 268 ds=JB1 true #[runR kR tabA tabR gloA sub π n,gloA,sub] JCX ds:=by
 conv=>lhs;unfold runR
 rfl
def JNs:runR kR tabA tabR gloA sub π (n+1) 270 ds=JB1 true #[runR kR tabA tabR gloA sub π n,gloA,sub] JFl ds:=by
 conv=>lhs;unfold runR
 rfl
def JLE:runR kR tabA tabR gloA sub π (n+1) 272 ds=JB1 true #[runR kR tabA tabR gloA sub π n,gloA,sub] JDz ds:=by
 conv=>lhs;unfold runR
 rfl
def JP4:JAn "now" (F q) (plr T M La t p b hs)=plr T M La q p b hs:=rfl
def JNY:JAn "pace" (F q) (plr T M La t p b hs)=plr T M La t q b hs:=rfl
def JJ7{c:Bool}:JAn "plays" (.bool c) (plr T M La t p b hs)=plr T M La t p c hs:=rfl
def JGx:JAn "heard" (.list h2) (plr T M La t p b hs)=plr T M La t p b h2:=rfl
def JNE:((plr T M La t p b hs).length<800)=True:=by simp[plr]
def nr_F:JBh (F q)=true:=rfl
def nr_b{c:Bool}:JBh (.bool c)=true:=rfl
def JK9:(plr T M La t p b hs).lookup ("heard":Str)=some (PyData.list hs):=rfl
def JGn(h:π[k]? = some c):(π.set k c')[k]? = some c':=by
 have:k<π.length:=(q_p.mp h).1;simp[this]
def q_mx[a:Z i p][b:Z j q](hi:i<=1500)(hj:j<=1500)(hm:2<=m):run true tabA gloA sub m 8 [.list [F p,F q]]=.ok (F (if p<q then q else p)):=by
 obtain⟨n,rfl⟩:=JAE hm;obtain⟨r,h1,h2,_,h3⟩:=JJM (x:=true) (glo:=gloA) (sub:=sub) (n:=n) tF tM p [q] (by intro y hy;simp![q_n,List.not_mem_nil,or_false]at hy;rcases hy with rfl|rfl;exact a.le hi;exact b.le hj)
 have e:r=if p<q then q else p:=by
  have q1:=h2 p (by simp)
  have q2:=h2 q (by simp)
  simp![q_n,List.not_mem_nil,or_false]at h1
  grind
 rw[<-e];exact h3
def q_mn[a:Z i p][b:Z j q](hi:i<=1500)(hj:j<=1500)(hm:2<=m):run true tabA gloA sub m 7 [.list [F p,F q]]=.ok (F (if q<p then q else p)):=by
 obtain⟨n,rfl⟩:=JAE hm;obtain⟨r,h1,h2,_,h3⟩:=JGm (x:=true) (glo:=gloA) (sub:=sub) (n:=n) tF tM p [q] (by intro y hy;simp![q_n,List.not_mem_nil,or_false]at hy;rcases hy with rfl|rfl;exact a.le hi;exact b.le hj)
 have e:r=if q<p then q else p:=by
  have q1:=h2 p (by simp)
  have q2:=h2 q (by simp)
  simp![q_n,List.not_mem_nil,or_false]at h1
  grind
 rw[<-e];exact h3
def cl_eq(h:0<=La):(if 0<(if x<La then x else La) then (if x<La then x else La) else 0)=cl La x:=by unfold cl;grind
end
end VI.VP
end
section
namespace VI.VP
open PySem Fr
def JO2{a b:E}{j:Nat}:(E.or a b).uses j=(a.uses j || b.uses j):=rfl
def JLc{a b:E}{j:Nat}:(E.cmp o a b).uses j=(a.uses j || b.uses j):=rfl
def JK5{a b c:E}{j:Nat}:(E.ife c a b).uses j=(c.uses j || a.uses j || b.uses j):=rfl
def JK1{j:Nat}:E.cnon.uses j=false:=rfl
def JKE{a b:E}{j:Nat}:(E.and a b).uses j=(a.uses j || b.uses j):=rfl
def Vs.frz(h:Vs z)(e:E)(i:Nat)(r:VI.Env):JAL e i (z::r)=z::JAL e (i+1) r:=by
 cases z with
 |own d=>cases h
 |val d=>exact JAe ..
 |no=>exact JAz ..
section
variable{sub:Nat->Nat->Bool}{π:Ta}{k n:Nat}{ds:List D}
def JBm{g:Nat}{fd:Fd3}(h:tab3 g=some fd):run3 kR tabA tabR tab3 gloA sub (n+1) g ds π=JCN (λπ=>#[runR kR tabA tabR gloA sub π n,gloA,sub]) (run3 kR tabA tabR tab3 gloA sub n) fd ds π:=by
 simp![run3,h]
abbrev end3:Fl3->R3 D
 |.nx _ π=>.ok .none π
 |.rt d π=>.ok d π
 |.ex c π=>.exc c π
 |_=>.bad
def JBE{C:Ta->Cn}{f3:F3}{fd:Fd3}(h:ds.length=fd.par):JCN C f3 fd ds π=end3 (JAI C f3 fd.body (ds.map Sl.val++List.replicate (fd.slots - fd.par) Sl.no) π):=by
 unfold JCN;rw[if_pos h];cases JAI C f3 fd.body (ds.map Sl.val++List.replicate (fd.slots - fd.par) Sl.no) π<;>rfl
def z3_nx:end3 (.nx U π)=.ok .none π:=rfl
def JQc{d:D}:end3 (.rt d π)=.ok d π:=rfl
def z3_ex:end3 (.ex k π)=.exc k π:=rfl
end
def wR0:((((type_of% @JE9/\type_of% @JLj)/\(type_of% @y_st/\type_of% @JIq))/\((type_of% @y_ret/\type_of% @JRv)/\(type_of% @JRq/\type_of% @JQs)))/\(((type_of% @JQS/\type_of% @JRi)/\(type_of% @JQP/\type_of% @JSp))/\((type_of% @b_or/\type_of% @b_nv)/\(type_of% @JRI/\type_of% @JQ8)))):=#[#[#[#[@JE9,@JLj],#[@y_st,@JIq]],#[#[@y_ret,@JRv],#[@JRq,@JQs]]],#[#[#[@JQS,@JRi],#[@JQP,@JSp]],#[#[@b_or,@b_nv],#[@JRI,@JQ8]]]]
def wR1:((((type_of% @JLM/\type_of% @JSd)/\(type_of% @JAe/\type_of% @JBS))/\((type_of% @JAz/\type_of% @JA7)/\(type_of% @JG4/\type_of% @JNE)))/\(((type_of% @rn3/\type_of% @rn5)/\(type_of% @rn6/\type_of% @rn7))/\((type_of% @rn8/\type_of% @rn12)/\(type_of% @rn15/\type_of% @rn17)))):=#[#[#[#[@JLM,@JSd],#[@JAe,@JBS]],#[#[@JAz,@JA7],#[@JG4,@JNE]]],#[#[#[@rn3,@rn5],#[@rn6,@rn7]],#[#[@rn8,@rn12],#[@rn15,@rn17]]]]
def wR2:((((type_of% @rn19/\type_of% @rn21)/\(type_of% @rn26/\type_of% @rn85))/\((type_of% @rn88/\type_of% @rn97)/\(type_of% @JRC/\type_of% @JPu)))/\(((type_of% @JQx/\type_of% @JGM)/\(type_of% @JGf/\type_of% @JJd))/\((type_of% @JMQ/\type_of% @JJL)/\(type_of% @JHC/\type_of% @JDk)))):=#[#[#[#[@rn19,@rn21],#[@rn26,@rn85]],#[#[@rn88,@rn97],#[@JRC,@JPu]]],#[#[#[@JQx,@JGM],#[@JGf,@JJd]],#[#[@JMQ,@JJL],#[@JHC,@JDk]]]]
def wR3:(type_of% @JCd/\type_of% @JCq):=#[@JCd,@JCq]
end VI.VP
end
local macro_rules | `(tactic| dsimp? [$ts,*])=>`(tactic| dsimp?! [VI.VP.wR0,VI.VP.wR1,VI.VP.wR2,VI.VP.wR3,VI.VP.JO2,VI.VP.JLc,VI.VP.JK5,VI.VP.JK1,VI.VP.JKE,VI.VP.Vs.own,VI.VP.Vs.frz,VI.VP.at_nx,VI.VP.at_rt,VI.VP.at_ex,VI.VP.JJ9,VI.VP.s3_rt,VI.VP.s3_ex,VI.VP.JR4,VI.VP.t3_ok,VI.VP.i3_t,VI.VP.i3_f,VI.VP.n3_ok,VI.VP.o3_f,VI.VP.c3_ok,VI.VP.v3_ok,VI.VP.p3_ok,VI.VP.JSF,VI.VP.r3_nx,VI.T3.toE,VI.V3.toE,VI.VP.JAy,VI.VP.JLy,VI.VP.JF6,VI.VP.JJ0,VI.VP.JGV,VI.VP.JF3,VI.VP.JIj,VI.VP.JJZ,VI.VP.JL7,VI.VP.JMx,VI.VP.JMm,VI.VP.JMl,Nat.reduceBEq,Nat.reduceAdd,Bool.or_self,Bool.or_true,Bool.true_or,Bool.or_false,Bool.false_or,Bool.not_true,Bool.not_false,Bool.and_false,Bool.and_true,VI.VP.JPg,VI.VP.f1_ok,VI.VP.n1_ok,VI.VP.nr_F,VI.VP.nr_b,and_self,VI.VP.JP4,VI.VP.JNY,VI.VP.JJ7,VI.VP.JGx,VI.VP.z3_nx,VI.VP.JQc,VI.VP.z3_ex,decide_true,decide_false,VI.VP.F0',VI.VP.F1',List.length_cons,List.length_nil,Int.reduceEq,Int.reduceLT,VI.JAW,VI.VP.noF,$ts,*])
section
namespace VI.VP
open PySem Fr
section
variable{sub:Nat->Nat->Bool}{π:Ta}{k m n i j l:Nat}{T M:D}{La t p q x one:Rat}{b:Bool}{hs:List D}{ms:List Mk}{ds:List D}
def JHd[Z i La][Z j x](hi:i<=700)(hj:j<=700)(h0:0<=La)(h:π[k]? = some (plr T M La t p b hs))(hm:3<=m):runR kR tabA tabR gloA sub π m 268 [recD k,F x]=.ok (F (cl La x)):=by
 obtain⟨n,rfl⟩:=JAE hm;have z1:Z (i+j) (if x<La then x else La):=#[by split;exact(Z.le (q:=x) inferInstance ∅);exact(Z.le (q:=La) inferInstance ∅)]
 rw[JHc,JAB rfl,<-cl_eq h0];dsimp? [JCX,JDa,q_mn,q_mx]
def JEI(h:π[k]? = some (plr T M La t p b hs))(hm:1<=m):runR kR tabA tabR gloA sub π m 270 [recD k]=.ok (F t):=by
 obtain⟨n,rfl⟩:=JAE hm;rw[JNs,JAB rfl];dsimp? [JFl,JJg]
def JGT(h:π[k]? = some (plr T M La t p b hs))(hw:run true tabA gloA sub n 97 [T,F t]=.ok (F q)):runR kR tabA tabR gloA sub π (n+1) 272 [recD k]=.ok (F q):=by
 rw[JLE,JAB rfl];dsimp? [JDz,JGO,hw]
def JNp(h:π[k]? = some (plr T M La t p b hs))(hm:1<=m):run3 kR tabA tabR tab3 gloA sub m 279 [recD k] π=.ok .none (π.set k (plr T M La t p true hs)):=by
 obtain⟨n,rfl⟩:=JAE hm;rw[JBm rfl,JBE rfl];dsimp? [JJJ,JH4,JAs h]
def JI6(h:π[k]? = some (plr T M La t p b hs))(hm:1<=m):run3 kR tabA tabR tab3 gloA sub m 278 [recD k,F q] π=.ok .none (π.set k (plr T M La t q b hs)):=by
 obtain⟨n,rfl⟩:=JAE hm;rw[JBm rfl,JBE rfl];dsimp? [JDS,JDA,JAs h]
def nrs_l{l:List Mk}:JBM (l.map Mk.l)=true:=by
 induction l with
 |nil=>rfl
 |cons a r ih=>simp![List.map_cons,JBM,ih,Bool.and_true];rfl
def JFu[Z i one][Z j t][Z l p]{i2:Nat}[Z i2 La]{t2:Rat}{j2:Nat}[Z j2 t2](hi:i<=100)(hj:j<=100)(hl:l<=100)(hi2:i2<=100)(hj2:j2<=100)(hM:Mks ms)(hlm:ms.length<=1000)(hh:hs.length<=100000)(h0:0<=La)(ht2:cl La (t+one*p)=t2)(h:π[k]? = some (plr T (.list (ms.map Mk.d)) La t p true hs))(h1:¬one<0)(hm:6<=m) :
  run3 kR tabA tabR tab3 gloA sub m 276 [recD k,F one] π=.ok (.list ((psd t t2 ms).map Mk.l)) (π.set k (plr T (.list (ms.map Mk.d)) La t2 p true (hs++(psd t t2 ms).map Mk.l))):=by
 obtain⟨n,rfl⟩:=JAE hm;rw[JBm (n:=n+5) rfl,JBE rfl];have e1:runR kR tabA tabR gloA sub π (n+5) 268 [recD k,F (t+one*p)]=.ok (F t2):=by
  rw[<-ht2];exact JHd ∅ ∅ h0 h ∅
 have e2:run true tabA gloA sub (n+5) 222 [.list (ms.map Mk.d),F t,F t2]=.ok (.list ((psd t t2 ms).map Mk.l)):=JK6 hM ∅ ∅ hlm ∅
 have hlen:((psd t t2 ms).map Mk.l).length<=1000:=by
  rw[q_g];unfold psd fo bk;have:=JDt (ms:=ms)
  split
  ·have:=List.length_filter_le (λm=>!decide (m.q<t2)&&decide (m.q<t)) (bt ms).reverse;rw[List.length_reverse]at this;omega
  ·have:=List.length_filter_le (λm=>decide (t<m.q)&&!decide (t2<m.q)) (bt ms);omega
 have hnr:=nrs_l (l:=psd t t2 ms);have hc:(hs.length+((psd t t2 ms).map Mk.l).length<=16777216)=True:=eq_true ∅
 obtain⟨π1,hπ1⟩:∃π1,π1=π.set k (plr T (.list (ms.map Mk.d)) La t2 p true hs):=#[_,rfl];have g1:π1[k]? = some (plr T (.list (ms.map Mk.d)) La t2 p true hs):=by rw[hπ1];exact JGn h
 have hs2:∀c,π1.set k c=π.set k c:=λc=>by rw[hπ1,List.set_set]
 generalize (psd t t2 ms).map Mk.l=ls at *;generalize ms.map Mk.d=dm at *;have ox:∀(U:VI.Env),oxt1 "heard" π1 U (some (k,plr T (.list dm) La t2 p true hs)) (.ok (.list ls))=.nx U (π.set k (plr T (.list dm) La t2 p true (hs++ls))):=λU=>by
  simp![oxt1,JK9,hnr,hc,and_self,if_true,JGx,hs2]
 dsimp? [JI2,JJs,h1,JAs h,e1,<-hπ1,e2,JAs g1,ox]
end
end VI.VP
end
section
namespace VI.VP
open PySem Fr
def cnt6:JDe (.list [.bool false,.bool false,.bool false,.bool false,.bool false,.bool false,.bool true]) (.bool true)=.ok (.int 1):=by rfl
def ix6:JDi (.list [.bool false,.bool false,.bool false,.bool false,.bool false,.bool false,.bool true]) (.bool true)=.ok (.int 6):=by rfl
def word4{x:Bool}{sub:Nat->Nat->Bool}{n:Nat}(s:SubOk sub 4):run x tabA gloA sub (n+1) 26 [excD 4]=.ok (.str "no track"):=by
 have w:idxD (.list [.str "no frac",.str "no kind",.str "no name",.str "no plan",.str "no text",.str "no time",.str "no track"]) (.int 6)=.ok (.str "no track"):=rfl;rw[JAC (show tabA 26=some d_26 from rfl),JAB rfl]
 dsimp![d_26,b_26,JN7 s.me,JOw s.me,s.h1,s.h2,s.h3,s.h4,s.h5,s.h6,s.h7,Nat.reduceEqDiff,decide_true,decide_false,JBr,JA7,JGV,JJ0,JF6,JMx,JLy,JSS,JF3,JQo,JL7,JJZ,JOi,JIj,us_bl,JMm,List.length_cons,List.length_nil,Nat.reduceAdd,Nat.reduceLeDiff,Nat.reduceBEq,Bool.or_false,Bool.not_true,cnt6,ix6,JAW,JBp,w]
section
variable{sub:Nat->Nat->Bool}{π:Ta}{k m n i j l:Nat}{T M:D}{La t p q x one w:Rat}{b:Bool}{hs:List D}{ms:List Mv}{mk:List Mk}{ds:List D}
theorem JQv:∀ms:List Mv,JBM (ms.map Mv.d)=true
 | []=>rfl
 |a::r=>by simp![List.map_cons,JBM,JQv r,Bool.and_true];rfl
def nr_tr:JBh (tr w ms)=true:=by
 simp![tr,JBh,JBM,JQv,Bool.and_true];rfl
theorem JL0:∀ms:List Mk,JBM (ms.map Mk.d)=true
 | []=>rfl
 |a::r=>by simp![List.map_cons,JBM,JL0 r,Bool.and_true];rfl
def nr_ml:JBh (.list (mk.map Mk.d))=true:=by simp![JBh,JL0]
abbrev JCm(ms:List Mv):Rat:=match endT ms with
 |none=>0
 |some e=>if 0<e then e else 0
def JOg(hok:∀a∈ms,a.Ok)(hm:6<=m):run true tabA gloA sub m 257 [tr w ms]=.ok (F (JCm ms)):=by
 obtain⟨n,rfl⟩:=JAE hm;rw[JAC (n:=n+5) (show tabA 257=some JKS from rfl),JAB rfl];have e1:=JRb (x:=true) (sub:=sub) (m:=n+5) (w:=w) hok ∅
 unfold JCm;cases he:endT ms with
 |none =>
  rw[he]at e1;simp![optF]at e1;dsimp? [JKS,JNt,e1,isNone,Bool.true_eq,if_false]
 |some e =>
  rw[he]at e1;simp![optF]at e1;have z:Z 221 e:=#[JNq hok he];have hF:isNone (F e)=false:=rfl;dsimp? [JKS,JNt,e1,hF,q_mx]
def JKk:recF (π++[c]) (recD π.length)=some (π.length,c):=JAs (by simp)
def JN8:(π++[c]).set π.length c'=π++[c']:=by simp
def i1:JAn "track" T ([]:Fs)=([("track",T)]:Fs):=rfl
def i2:JAn "marks" M ([("track",T)]:Fs)=([("track",T),("marks",M)]:Fs):=rfl
def i3{L:D}:JAn "last" L ([("track",T),("marks",M)]:Fs)=([("track",T),("marks",M),("last",L)]:Fs):=rfl
def i4{L N:D}:JAn "now" N ([("track",T),("marks",M),("last",L)]:Fs)=([("track",T),("marks",M),("last",L),("now",N)]:Fs):=rfl
def i5{L N P:D}:JAn "pace" P ([("track",T),("marks",M),("last",L),("now",N)]:Fs)=([("track",T),("marks",M),("last",L),("now",N),("pace",P)]:Fs):=rfl
def i6{L N P B:D}:JAn "plays" B ([("track",T),("marks",M),("last",L),("now",N),("pace",P)]:Fs)=([("track",T),("marks",M),("last",L),("now",N),("pace",P),("plays",B)]:Fs):=rfl
def i7:JAn "heard" (.list []) ([("track",T),("marks",M),("last",F La),("now",F t),("pace",F p),("plays",.bool b)]:Fs)=plr T M La t p b []:=rfl
def i8:(([("track",T),("marks",M),("last",F La),("now",F t),("pace",F p),("plays",.bool b)]:Fs).lookup ("heard":Str)).isNone=true:=rfl
def JPR(hok:∀a∈ms,a.Ok)(hl:ms.length<=1000)(hn:nov ms=true)(hm:8<=m):run3 kR tabA tabR tab3 gloA sub m 282 [recD π.length,tr w ms,.list (mk.map Mk.d)] (π++[[]])=.ok .none (π++[plr (tr w ms) (.list (mk.map Mk.d)) (JCm ms) 0 1 false []]):=by
 obtain⟨n,rfl⟩:=JAE hm;rw[JBm (n:=n+7) rfl,JBE rfl];have e1:run true tabA gloA sub (n+7) 85 [tr w ms]=.ok .none:=JK8 (m:=n+7) (by rw[JRm hok hl ∅,hn]) ∅
 have e2:=JOg (sub:=sub) (m:=n+7) (w:=w) hok ∅
 have h1:=nr_tr (w:=w) (ms:=ms);have h2:=nr_ml (mk:=mk);generalize tr w ms=T at *;generalize mk.map Mk.d=dm at *;dsimp? [JB8,JCC,e1,JKk,JN8,h1,h2,e2,Nat.reduceLT,i1,i2,i3,i4,i5,i6,i7,i8]
def JFz(h:π[k]? = some (plr T M La t p b hs)):met3 f3 i "tick" π (.ok (recD k)) (.ok ds)=f3 i (recD k::ds) π:=by simp![met3,JAs h];rfl
def JDG{f3:F3}(h:π[k]? = some (plr T M La t p b hs)):met3 f3 i "set_pace" π (.ok (recD k)) (.ok ds)=f3 i (recD k::ds) π:=by simp![met3,JAs h];rfl
def JOl(h:π[k]? = some (plr T M La t p b hs)):met3 f3 i "play" π (.ok (recD k)) (.ok ds)=f3 i (recD k::ds) π:=by simp![met3,JAs h];rfl
end
end VI.VP
end
section
namespace VI.VP
open PySem Fr
def Mle(a b:Mk):Prop:=a.q<=b.q
theorem JDc{t:Rat}:∀ {l:List Mk},l.Pairwise Mle->l.take (till t l).length=till t l/\∀x∈l.drop (till t l).length,t<x.q
 | [],_=>#[rfl,λx h=>by simp[till]at h]
 |a::r,h=>by
  obtain⟨h1,h2⟩:=List.pairwise_cons.mp h
  by_cases o:t<a.q
  ·have big:∀x∈a::r,t<x.q:=λx hx=>by
    rcases q_n.mp hx with rfl|hx
    ·exact o
    ·have:a.q<=x.q:=h1 x hx
     grind
   have e:till t (a::r)=[]:=by
    unfold till;exact List.filter_eq_nil_iff.mpr λx hx=>by simp[big x hx]
   rw[e];exact#[rfl,big]
  ·have e:till t (a::r)=a::till t r:=by
    unfold till;rw[q_y (by simp;grind)]
   obtain⟨i1,i2⟩:=JDc (t:=t) h2;rw[e];simp![List.length_cons,List.take_succ_cons,List.drop_succ_cons];exact#[by rw[i1],i2]
def JSe(h:acc.Pairwise Mle):(btf acc m).Pairwise Mle:=by
 obtain⟨e1,e2⟩:=JDc (t:=m.q) h;unfold btf;have ht:∀x∈acc.take (till m.q acc).length,x.q<=m.q:=λx hx=>by
  rw[e1]at hx;have:=(List.mem_filter.mp hx).2;simp at this;grind
 have h':(acc.take (till m.q acc).length++acc.drop (till m.q acc).length).Pairwise Mle:=by rw[List.take_append_drop];exact h
 rw[List.pairwise_append]at h' ⊢;refine#[h'.1,List.pairwise_cons.mpr #[λx hx=>Rat.le_of_lt (e2 x hx),h'.2.1],λx hx y hy=>?_];rcases q_n.mp hy with rfl|hy
 ·exact ht x hx
 ·exact h'.2.2 x hx y hy
def JCj(ms:List Mk):(bt ms).Perm ms/\(bt ms).Pairwise Mle:=by
 have:∀(r acc:List Mk),acc.Pairwise Mle->(r.foldl btf acc).Perm (r++acc)/\(r.foldl btf acc).Pairwise Mle:=by
  intro r
  induction r with
  |nil=>exact λacc h=>#[List.Perm.refl _,h]
  |cons a r ih =>
   intro acc h;obtain⟨p,q⟩:=ih (btf acc a) (JSe h);exact#[p.trans ((List.Perm.append_left r btf_perm).trans List.perm_middle),q]
 have:=this ms [] .nil;rw[List.append_nil]at this;exact this
theorem JFi(hr:∀x,r x=(p x || q x))(ho:∀x y,Mle x y->q x=true->p y=false):∀ {l:List Mk},l.Pairwise Mle->l.filter p++l.filter q=l.filter r
 | [],_=>rfl
 |x::l,h=>by
  obtain⟨h1,h2⟩:=List.pairwise_cons.mp h;cases hq:q x with
  |true =>
   have no:∀y∈x::l,p y=false:=λy hy=>by
    rcases q_n.mp hy with rfl|hy
    ·exact ho y y Rat.le_refl hq
    ·exact ho x y (h1 y hy) hq
   rw[List.filter_eq_nil_iff.mpr (λy hy=>by simp[no y hy]),List.nil_append]
   exact List.filter_congr λy hy=>by rw[hr y,no y hy,Bool.false_or]
  |false =>
   have ih:=JFi hr ho h2;have e:r x=p x:=by rw[hr x,hq,Bool.or_false]
   cases hp:p x with
   |true=>rw[q_y hp,q_x (by simp[hq]),q_y (by rw[e,hp]),List.cons_append,ih]
   |false=>rw[q_x (by simp[hp]),q_x (by simp[hq]),q_x (by simp[e,hp]),ih]
def JKM{a b c:Rat}(h1:a<=b)(h2:b<=c){l:List Mk}(h:l.Pairwise Mle):fo a b l++fo b c l=fo a c l:=by
 refine JFi (λx=>?_) (λx y (e:x.q<=y.q) hq=>?_) h
 ·rw[Bool.eq_iff_iff];simp![q_i,Bool.or_eq_true,q_D,Bool.not_eq_true',decide_eq_false_iff_not];grind
 ·rw[q_i,q_D]at hq;have:b<y.q:=by grind
  simp[this]
def JKe{a b c:Rat}(h1:a<=b)(h2:b<=c){l:List Mk}(h:l.Pairwise Mle):bk a b l++bk b c l=bk a c l:=by
 refine JFi (λx=>?_) (λx y (e:x.q<=y.q) hq=>?_) h
 ·rw[Bool.eq_iff_iff];simp![q_i,Bool.or_eq_true,q_D,Bool.not_eq_true',decide_eq_false_iff_not];grind
 ·simp![q_i,Bool.not_eq_true',decide_eq_false_iff_not]at hq;have:¬y.q<b:=by grind
  simp[this]
def JJC{a b:Rat}(h:a<=b)(ms:List Mk):psd a b ms=fo a b (bt ms):=by
 unfold psd;rw[if_neg (by grind)]
def JSH{a b:Rat}(h:a<b)(ms:List Mk):psd b a ms=(bk a b (bt ms)).reverse:=by
 unfold psd;rw[if_pos h];unfold bk;rw[List.filter_reverse]
abbrev Ep(La p:Rat):Rat->List Rat->Rat
 |t,[]=>t
 |t,s::r=>Ep La p (cl La (t+s*p)) r
abbrev Lp(La p:Rat)(mk:List Mk):Rat->List Rat->List Mk
 |_,[]=>[]
 |t,s::r=>psd t (cl La (t+s*p)) mk++Lp La p mk (cl La (t+s*p)) r
def JO8(a:Rat)(l:List Mk):fo a a l=[]:=by
 unfold fo;exact List.filter_eq_nil_iff.mpr λy _=>by simp
def JPN(a:Rat)(l:List Mk):bk a a l=[]:=by
 unfold bk;exact List.filter_eq_nil_iff.mpr λy _=>by simp
abbrev sumR:List Rat->Rat
 | []=>0
 |s::r=>s+sumR r
theorem JJK:∀ {ss:List Rat},(∀s∈ss,0<s)->0<=sumR ss
 | [],_=>by simp[sumR]
 |s::r,h=>by
  have:=JJK (ss:=r) λx hx=>h x (by simp[hx])
  have:=h s (by simp)
  simp![sumR];grind
theorem JGK{La:Rat}:∀ {ss:List Rat}{t:Rat},(∀s∈ss,0<s)->0<=t->t<=La->Ep La 1 t ss=cl La (t+sumR ss)/\Lp La 1 mk t ss=fo t (Ep La 1 t ss) (bt mk)/\t<=Ep La 1 t ss
 | [],t,_,h0,h1=>by
  simp![Ep,Lp,sumR,JO8];refine#[?_,trivial,by grind]
  unfold VP.cl;grind
 |s::r,t,hs,h0,h1=>by
  have p:=hs s (by simp)
  have p2:=JJK (ss:=r) λx hx=>hs x (by simp[hx])
  have c0:0<=VP.cl La (t+s*1):=by unfold VP.cl;grind
  have c1:VP.cl La (t+s*1)<=La:=by unfold VP.cl;grind
  have c2:t<=VP.cl La (t+s*1):=by unfold VP.cl;grind
  obtain⟨e1,e2,e3⟩:=JGK (mk:=mk) (ss:=r) (λx hx=>hs x (by simp[hx])) c0 c1
  simp![Ep,Lp,sumR];refine#[?_,?_,by grind]
  ·rw[e1];unfold VP.cl;grind
  ·rw[e2,JJC c2,JKM c2 e3 (JCj mk).2]
theorem JIA{La:Rat}:∀ {ss:List Rat}{t:Rat},(∀s∈ss,0<s)->sumR ss<=t->t<=La->Ep La (-1) t ss=t - sumR ss/\Lp La (-1) mk t ss=(bk (t - sumR ss) t (bt mk)).reverse
 | [],t,_,h0,h1=>by
  have:t - 0=t:=by grind
  simp![Ep,Lp,sumR,this,JPN,List.reverse_nil,and_self]
 |s::r,t,hs,h0,h1=>by
  have p:=hs s (by simp)
  have p2:=JJK (ss:=r) λx hx=>hs x (by simp[hx])
  simp![sumR]at h0;have c:VP.cl La (t+s * -1)=t - s:=by unfold VP.cl;grind
  obtain⟨e1,e2⟩:=JIA (La:=La) (mk:=mk) (ss:=r) (t:=t - s) (λx hx=>hs x (by simp[hx])) (by grind) (by grind)
  simp![Ep,Lp,sumR,c];have e:t - s - sumR r=t - (s+sumR r):=by grind
  refine#[by rw[e1,e],?_]
  rw[e2,e,JSH (by grind),<-List.reverse_append,JKe (by grind) (by grind) (JCj mk).2]
def JOO(a b:List Rat):sumR (a++b)=sumR a+sumR b:=by
 induction a with
 |nil=>simp[sumR,Rat.zero_add]
 |cons s r ih=>simp![List.cons_append,sumR,ih];grind
def JH6(a:List Rat):sumR a.reverse=sumR a:=by
 induction a with
 |nil=>rfl
 |cons s r ih=>rw[List.reverse_cons,JOO,ih];simp![sumR];grind
end VI.VP
end
section
namespace VI.VP
open PySem Fr
def Hq(B:Nat)(q:Rat):Prop:=∃z:Int,z.natAbs<=B/\q=Rat.divInt z 96
def Hq.sz{B:Nat}{p:Rat}(h:Hq B p)(e:B<32768):Sz 15 p:=by
 obtain⟨z,hz,rfl⟩:=h;exact Sz.of (by decide) ∅ (by decide)
def Hq.mono{A B:Nat}{p:Rat}(h:Hq A p)(e:A<=B):Hq B p:=by
 obtain⟨z,hz,rfl⟩:=h;exact#[z,by omega,rfl]
def Hq.add{A B:Nat}{p q:Rat}(h:Hq A p)(h':Hq B q):Hq (A+B) (p+q):=by
 obtain⟨z,hz,rfl⟩:=h;obtain⟨y,hy,rfl⟩:=h';refine#[z+y,by omega,?_]
 simp![Rat.divInt_eq_div];have:((z+y:Int):Rat)=z+y:=Rat.intCast_add z y;rw[this]
 grind
def Hq.neg{A:Nat}{p:Rat}(h:Hq A p):Hq A (p * -1):=by
 obtain⟨z,hz,rfl⟩:=h;refine#[-z,by omega,?_]
 simp![Rat.divInt_eq_div];have:((-z:Int):Rat)=-z:=Rat.intCast_neg z;rw[this]
 grind
def Tw.hq{A:Nat}{p:Rat}(h:Tw A p):Hq (8*A) p:=by
 obtain⟨z,hz,rfl⟩:=h;exact#[8*z,by omega,by rw[Rat.divInt_eq_divInt_iff (by decide) (by decide)];omega]
def Tw.eighth{A:Nat}{p:Rat}(h:Tw A p):Hq A (p*Rat.divInt 1 8):=by
 obtain⟨z,hz,rfl⟩:=h;refine#[z,hz,?_];simp![Rat.divInt_eq_div];have h1:((1:Int):Rat)=1:=rfl;have h2:((8:Int):Rat)=8:=rfl;have h3:((12:Int):Rat)=12:=rfl;have h4:((96:Int):Rat)=96:=rfl;rw[h1,h2,h3,h4]
 grind
def Hq.half{A:Nat}{p:Rat}(h:Hq A p)(e:A<32768):Sz 15 (p*Rat.divInt 1 2):=by
 obtain⟨z,hz,rfl⟩:=h;have:Rat.divInt z 96*Rat.divInt 1 2=Rat.divInt z 192:=by
  rw[Rat.divInt_mul_divInt];simp
 rw[this];exact Sz.of (by decide) ∅ (by decide)
theorem Hq.cl{A B:Nat}{La x:Rat}(h0:0<=La)(h:Hq A La)(h':Hq B x):Hq A (cl La x):=by
 unfold VP.cl
 split
 ·exact#[0,by simp,by simp]
 ·split
  ·exact h
  ·obtain⟨z,hz,e⟩:=h;obtain⟨y,hy,e'⟩:=h';have e1:(z:Rat)=96*La:=by rw[e,Rat.divInt_eq_div];grind
   have e2:(y:Rat)=96*x:=by rw[e',Rat.divInt_eq_div];grind
   have a1:y<=z:=Rat.intCast_le_intCast.mp (by grind)
   have a2:0<=y:=Rat.intCast_le_intCast.mp (by rw[e2];grind)
   exact#[y,by omega,e']
def JNu{ms:List Mv}(hd:∀a∈ms,Dr a){e:Rat}(h:endT ms=some e):Tw 1095 e:=by
 by_cases h0:ms=[]
 ·subst h0;cases h
 ·obtain⟨r,a,rfl⟩:=JA9 h0;rw[JBz]at h;cases h;have:=hd a (by simp)
  exact(this.b.add this.l.tw).mono ∅
def JN0(s g:Rat)(ms:List Mk):((psd s g ms).map Mk.l).length<=ms.length:=by
 rw[q_g];unfold psd fo bk;have:=JDt (ms:=ms)
 split
 ·have:=List.length_filter_le (λm=>!decide (m.q<g)&&decide (m.q<s)) (bt ms).reverse;rw[List.length_reverse]at this;omega
 ·have:=List.length_filter_le (λm=>decide (s<m.q)&&!decide (g<m.q)) (bt ms);omega
section
variable{C:Ta->Cn}{f3:F3}{U:VI.Env}{π:Ta}{i k:Nat}{e:E}{b:S3}{d:D}{ds:List D}
abbrev JC8(C:Ta->Cn)(f3:F3)(i:Nat)(b:S3)(ds:List D)(U:VI.Env)(π:Ta):Fl3:=for3 (put1 i) (JAI C f3 b) ds U π
abbrev JQ7(C:Ta->Cn)(f3:F3)(i:Nat)(b:S3)(U:VI.Env)(π:Ta):R (List D)->Fl3
 |.ok ds=>JC8 C f3 i b ds U π
 |.exc c=>.ex c π
 |.bad=>.bad
abbrev JOo(C:Ta->Cn)(f3:F3)(i:Nat)(b:S3)(ds:List D):Fl3->Fl3
 |.nx U' π'=>JC8 C f3 i b ds U' π'
 |.ct U' π'=>JC8 C f3 i b ds U' π'
 |.bk U' π'=>.nx U' π'
 |.rt d π=>.rt d π
 |.ex c π=>.ex c π
 |.bad=>.bad
def JKu:JAI C f3 (.for1 i e b) U π=JQ7 C f3 i b (JAL e 0 U) π (evI (C π) e U):=by simp![JAI];cases evI (C π) e U<;>rfl
def JLX:JQ7 C f3 i b U π (.ok ds)=JC8 C f3 i b ds U π:=rfl
def JIN:JC8 C f3 i b [] U π=.nx U π:=rfl
def JCY:JC8 C f3 i b (d::ds) U π=JOo C f3 i b ds (JAI C f3 b (U.set i (.val d)) π):=by
 unfold JC8
 conv=>lhs;unfold for3
 simp![put1];cases JAI C f3 b (U.set i (.val d)) π<;>rfl
def JHp:JOo C f3 i b ds (.nx U' π')=JC8 C f3 i b ds U' π':=rfl
def g3_bk:JOo C f3 i b ds (.bk U' π')=.nx U' π':=rfl
def at_bk:Fl.at π (.bk U)=.bk U π:=rfl
def s3_bk:seq3 C f3 b (.bk U π)=.bk U π:=rfl
def set4{α:Type}{l:List α}{i j:Nat}{a b c d:α}(h:i≠j):(((l.set i a).set j b).set i c).set j d=(l.set i c).set j d:=by
 rw[List.set_comm b c (Ne.symm h),List.set_set,List.set_set]
theorem JJw:∀ {U:VI.Env}{e:E}{i:Nat},(∀j d,e.uses (i+j)=true->U[j]?≠some (.own d))->JAL e i U=U
 | [],_,_,_=>rfl
 |z::r,e,i,h=>by
  simp![JAL];rw[JJw (U:=r) (e:=e) (i:=i+1) λj d hj=>by have:=h (j+1) d (by rw[show i+(j+1)=i+1+j by omega];exact hj);simpa using this]
  congr 1
  split
  ·rename_i hu;cases z with
   |own d=>exact(h 0 d (by simpa using hu) rfl).elim
   |_=>rfl
  ·rfl
end
section
variable{sub:Nat->Nat->Bool}{π:Ta}{k m n i j l:Nat}{T M:D}{La t p q x one w:Rat}{b:Bool}{hs:List D}{ms:List Mv}{mk:List Mk}{ds:List D}{C:Ta->Cn}{f3:F3}
abbrev JI7(j:Nat):S3:=.cons (.ext j (.met 276 "tick" (.var 7) (.cons (.var 6) .nil))) .nil
def JKm(hj6:j≠6)(hj7:j≠7)(h6:U[6]? = some (.val s))(h7:U[7]? = some (.val (recD k)))(hj:U[j]? = some (.own (.list acc)))(h:π[k]? = some (plr T M La t p b hs))(e:f3 276 [recD k,s] π=.ok (.list ls) π')(hl:acc.length+ls.length<=16777216):JAI C f3 (JI7 j) U π=.nx (U.set j (.own (.list (acc++ls)))) π':=by
 have hf:JAL (V3.met 276 "tick" (.var 7) (.cons (.var 6) .nil)).toE 0 U=U:=JJw λj' d hu z=>by
  simp![V3.toE,E.uses,Nat.zero_add,Bool.or_eq_true,beq_iff_eq,Bool.or_false]at hu;rcases hu with rfl|rfl
  ·rw[h7]at z;cases z
  ·rw[h6]at z;cases z
 have l7:ev (C π) (.var 7) U=.ok (recD k):=by simp![ev,look,h7,Sl.get]
 have l6:evA (C π) (.cons (.var 6) .nil) U=.ok [s]:=by simp![evA,ev,look,h6,Sl.get,R.bind]
 unfold JI7;rw[JE9];simp![JAI,hf,hj];rw[JLM,l7,l6,JFz h,e];simp![step3,ext3,if_pos hl,JJ9,JLj]
theorem JPM(hj6:j≠6)(hj7:j≠7)(hL:Hq 8760 La)(h0:0<=La)(hp:p=1\/p=-1)(hM:Mks mk)(hlm:mk.length<=4)(hm:6<=m):∀(ss:List Rat) (t:Rat) (hs acc:List D) (U:VI.Env) (π:Ta) (y:Sl),(∀s∈ss,Hq 72 s/\0<s)->Hq 8760 t->hs.length+4*ss.length<=1000->acc.length+4*ss.length<=1000->U[6]? = some y->Vs y->U[7]? = some (.val (recD k))->U[j]? = some (.own (.list acc))->π[k]? = some (plr T (.list (mk.map Mk.d)) La t p true hs) ->
  ∃y',Vs y'/\JC8 C (run3 kR tabA tabR tab3 gloA sub m) 6 (JI7 j) (ss.map F) U π=.nx ((U.set 6 y').set j (.own (.list (acc++(Lp La p mk t ss).map Mk.l)))) (π.set k (plr T (.list (mk.map Mk.d)) La (Ep La p t ss) p true (hs++(Lp La p mk t ss).map Mk.l)))
 | [],t,hs,acc,U,π,y,_,_,_,_,h6,v6,h7,hj,h=>by
  refine#[y,v6,?_];simp![List.map_nil,JIN,Lp,Ep,List.append_nil];have e1:U.set 6 y=U:=by
   obtain⟨q1,q2⟩:=q_p.mp h6;rw[<-q2];exact List.set_getElem_self q1
  have e2:U.set j (.own (.list acc))=U:=by
   obtain⟨q1,q2⟩:=q_p.mp hj;rw[<-q2];exact List.set_getElem_self q1
  have e3:π.set k (plr T (.list (mk.map Mk.d)) La t p true hs)=π:=by
   obtain⟨q1,q2⟩:=q_p.mp h;rw[<-q2];exact List.set_getElem_self q1
  rw[e1,e2,e3]
 |s::ss,t,hs,acc,U,π,y,hq,ht,hh,ha,h6,v6,h7,hj,h=>by
  simp![List.length_cons]at hh ha;obtain⟨q1,q2⟩:=hq s (by simp)
  have hsp:Hq 72 (s*p):=by
   rcases hp with rfl|rfl
   · rw[Rat.mul_one];exact q1
   · exact q1.neg
  have zs:Z 15 s:=#[q1.sz ∅]
  have zt:Z 15 t:=#[ht.sz ∅]
  have zp:Z 15 p:=#[by rcases hp with rfl|rfl<;>exact⟨by decide,by decide⟩]
  have zL:Z 15 La:=#[hL.sz ∅]
  have h2:=Hq.cl h0 hL (ht.add hsp);have z2:Z 15 (VP.cl La (t+s*p)):=#[h2.sz ∅]
  have e:=JFu (sub:=sub) (π:=π) (k:=k) (m:=m) (T:=T) (one:=s) (t:=t) (p:=p) (La:=La) (ms:=mk) (hs:=hs) ∅ ∅ ∅ ∅ ∅ hM ∅ ∅ h0 rfl h (by grind) hm
  have hl:=JN0 t (VP.cl La (t+s*p)) mk;have h6':(U.set 6 (.val (F s)))[6]? = some (.val (F s)):=by
   obtain⟨q1,_⟩:=q_p.mp h6;simp[q1]
  have h7':(U.set 6 (.val (F s)))[7]? = some (.val (recD k)):=by rw[q_A ∅];exact h7
  have hj':(U.set 6 (.val (F s)))[j]? = some (.own (.list acc)):=by rw[q_A ∅];exact hj
  have hr:=JKm (C:=C) hj6 hj7 h6' h7' hj' h e ∅
  obtain⟨y',v',ih⟩:=JPM hj6 hj7 hL h0 hp hM hlm hm ss (VP.cl La (t+s*p)) (hs++(psd t (VP.cl La (t+s*p)) mk).map Mk.l) (acc++(psd t (VP.cl La (t+s*p)) mk).map Mk.l) ((U.set 6 (.val (F s))).set j (.own (.list (acc++(psd t (VP.cl La (t+s*p)) mk).map Mk.l)))) (π.set k (plr T (.list (mk.map Mk.d)) La (VP.cl La (t+s*p)) p true (hs++(psd t (VP.cl La (t+s*p)) mk).map Mk.l))) (.val (F s))
   (λx hx=>hq x (by simp[hx])) h2 (by rw[q_u];omega) (by rw[q_u];omega) (by rw[q_A ∅];exact h6') rfl (by rw[q_A ∅];exact h7') (by
     obtain⟨q1,_⟩:=q_p.mp hj';rw[q_z q1]) (JGn h)
  refine#[y',v',?_];rw[List.map_cons,JCY,hr,JHp,ih];simp![Lp,Ep,List.map_append,List.append_assoc,List.set_set]
  congr 1
  exact set4 (Ne.symm hj6)
end
end VI.VP
end
section
namespace VI.VP
open PySem Fr
def okS(s:Str):Prop:=PyData.canLay0 (.str s)=true
def Lb(mk:List Mk):Prop:=∀a∈mk,okS a.s
def Ls(hs:List D):Prop:=∀d∈hs,∃s,d=.str s/\okS s
theorem Ls.can:∀ {hs:List D},Ls hs->PyData.canLayAll0 hs=true
 | [],_=>by simp![PyData.canLayAll0]
 |d::r,h=>by
  obtain⟨s,rfl,e⟩:=h d (by simp)
  have:=Ls.can (hs:=r) λx hx=>h x (by simp[hx])
  unfold okS at e;simp![PyData.canLayAll0,this,e,Bool.and_self]
theorem Ls.dep:∀ {hs:List D},Ls hs->PyData.depthAll hs<=2
 | [],_=>by simp![PyData.depthAll];omega
 |d::r,h=>by
  obtain⟨s,rfl,e⟩:=h d (by simp)
  have:=Ls.dep (hs:=r) λx hx=>h x (by simp[hx])
  simp![PyData.depthAll,PyData.depth];omega
theorem Ls.refl:∀ {hs:List D},Ls hs->PyData.eqvAll hs hs=true
 | [],_=>by simp![PyData.eqvAll]
 |d::r,h=>by
  obtain⟨s,rfl,e⟩:=h d (by simp)
  have:=Ls.refl (hs:=r) λx hx=>h x (by simp[hx])
  simp![PyData.eqvAll,PyData.eqv,this,Bool.and_true];simp
def Ls.ne{hs:List D}(h:Ls hs):cmpD .NotEq (.list hs) (.list hs)=.ok (.bool false):=by
 have hd:=h.dep;have sh:shaped (.list hs)=true:=by
  unfold shaped;rw[q_i];refine#[by simp![PyData.canLay0,h.can],decide_eq_true ?_]
  simp![PyData.depth];omega
 simp![cmpD,sh,Bool.and_self,if_true,PyData.eqv,h.refl,Bool.not_true]
def JOC{l mk:List Mk}(h:Lb mk)(hs:∀a∈l,a∈mk):Ls (l.map Mk.l):=λd hd=>by
 obtain⟨a,ha,rfl⟩:=List.mem_map.mp hd;exact#[a.s,rfl,h a (hs a ha)]
theorem JJE:∀l:List Mk,strsOf (l.map Mk.l)=some (l.map Mk.s)
 | []=>rfl
 |a::r=>by simp![List.map_cons,Mk.l,strsOf,q_d];exact#[_,JJE r,rfl]
def JSn{l l' mk:List Mk}(h:Lb mk)(hs:∀a∈l,a∈mk)(p:l.Perm l')(h4:l.length<64):xD .srt [.list (l.map Mk.l)]=.ok (.list ((JDT (l.map Mk.s)).map .str))/\xD .srt [.list (l'.map Mk.l)]=.ok (.list ((JDT (l.map Mk.s)).map .str))/\Ls ((JDT (l.map Mk.s)).map PyData.str):=by
 refine#[?_,?_,λd hd=>?_]
 ·simp![xD,srtS,JJE,q_g,if_pos h4]
 ·simp![xD,srtS,JJE,q_g,<-p.length_eq,if_pos h4,JHK (p.map Mk.s)]
 ·obtain⟨s,hs',rfl⟩:=List.mem_map.mp hd;obtain⟨a,ha,rfl⟩:=List.mem_map.mp ((List.mergeSort_perm _ _).mem_iff.mp hs');exact#[_,rfl,h a (hs a ha)]
def cadb:List Str:=["c","a","d","b"]
def JJ8{κ:Int}(h0:0<=κ)(h1:κ<4):okS (cadb.getD κ.toNat "")/\idxD (.str "cadb") (.int κ)=.ok (.str (cadb.getD κ.toNat "")):=by
 obtain rfl|rfl|rfl|rfl:κ=0\/κ=1\/κ=2\/κ=3:=by omega
 all_goals exact#[by unfold okS;decide +kernel,rfl]
def JLD{p:Int}(h0:0<=p)(h1:p<=1000):rngD [.int p]=.ok (((List.range p.toNat).map λj:Nat=>(j:Int)).map PyData.int):=by
 have h:small p=true:=by
  unfold small;simp![q_i,q_D];omega
 simp![rngD,h,if_true,JDE,List.map_map];simp
theorem JET{α:Type}{c:α->D}{lb:α->Str}{lab:Int->Str}{f:D->R (Option D)}{P:α->Prop}:∀ {is:List Int},(∀κ∈is,∃m:α,P m/\lb m=lab κ/\f (.int κ)=.ok (some (c m)))->∃mk:List α,mk.length=is.length/\(∀a∈mk,P a)/\mk.map lb=is.map lab/\JA5 f (is.map PyData.int)=.ok (mk.map c)
 | [],_=>#[[],rfl,(λa ha=>by cases ha),rfl,rfl]
 |κ::is,h=>by
  obtain⟨m,hm,hb,e⟩:=h κ (by simp)
  obtain⟨mk,h1,h2,h4,h3⟩:=JET (f:=f) (P:=P) (c:=c) (lb:=lb) (lab:=lab) (is:=is) λκ' hk=>h κ' (by simp[hk])
  refine#[m::mk,by simp[h1],λa ha=>?_,by rw[List.map_cons,List.map_cons,hb,h4],?_]
  ·rcases q_n.mp ha with rfl|ha
   ·exact hm
   ·exact h2 a ha
  ·simp![List.map_cons];unfold JA5;rw[e,h3]
section
variable{sub:Nat->Nat->Bool}{π:Ta}{k m n i j l:Nat}{T M:D}{La t p q x one w:Rat}{b:Bool}{hs:List D}{ms:List Mv}{mk:List Mk}{ds:List D}{C:Ta->Cn}{f3:F3}
variable{a b' c z:Fs}
def ge0:(π++[a,b',c])[π.length]? = some a:=by simp
def ge1:(π++[a,b',c])[π.length+1]? = some b':=by simp
def ge2:(π++[a,b',c])[π.length+2]? = some c:=by simp
def se0:(π++[a,b',c]).set π.length z=π++[z,b',c]:=by simp
def se1:(π++[a,b',c]).set (π.length+1) z=π++[a,z,c]:=by simp
def se2:(π++[a,b',c]).set (π.length+2) z=π++[a,b',z]:=by simp
def mks3(h1:∀d π,evA (C π) es (.val d::U)=.ok ds)(h2:∀π:Ta,f3 i (recD π.length::ds) (π++[[]])=.ok .none (π++[z])):mks C f3 i es U [d0,d1,d2] [] π=.ok (.list [recD π.length,recD (π.length+1),recD (π.length+2)]) (π++[z,z,z]):=by
 have s:∀(d:D) (π:Ta),mk3 C f3 i es (.val d::U) π=.ok (recD π.length) (π++[z]):=λd π=>mk_ok (h1 d π) (h2 π);simp![mks,s,q_u,List.length_cons,List.length_nil,List.nil_append,List.cons_append,List.append_assoc]
def d3_ex:JNv U₀ (.exc k π)=.ex k π:=rfl
def JD8(h10:U[10]? = some (.val (recD k)))(h:π[k]? = some (plr T M La t p b hs))(hm:1<=m):JAI C (run3 kR tabA tabR tab3 gloA sub m) (.cons (.drop (.met 279 "play" (.var 10) .nil)) .nil) U π=.nx U (π.set k (plr T M La t p true hs)):=by
 have hf:JAL (V3.met 279 "play" (.var 10) .nil).toE 0 U=U:=JJw λj' d hu z=>by
  simp![V3.toE,E.uses,Nat.zero_add,beq_iff_eq,Bool.or_false]at hu;subst hu;rw[h10]at z;cases z
 have l1:ev (C π) (.var 10) U=.ok (recD k):=by simp![ev,look,h10,Sl.get]
 have l2:evA (C π) .nil U=.ok []:=by simp![evA]
 rw[JE9,JIq,hf,JLM,l1,l2,JOl h,JNp h hm,JR4,JJ9,JLj]
def play3(hl:10<U.length)(hm:1<=m):JC8 C (run3 kR tabA tabR tab3 gloA sub m) 10 (.cons (.drop (.met 279 "play" (.var 10) .nil)) .nil) [recD π.length,recD (π.length+1),recD (π.length+2)] U (π++[plr T M La t p b hs,plr T M La t p b hs,plr T M La t p b hs])=.nx (U.set 10 (.val (recD (π.length+2)))) (π++[plr T M La t p true hs,plr T M La t p true hs,plr T M La t p true hs]):=by
 have h:∀(U:VI.Env) v,10<U.length->(U.set 10 v)[10]? = some v:=λU v hl=>by simp[hl]
 rw[JCY,JD8 (h _ _ hl) ge0 hm,JHp,se0,JCY,JD8 (h _ _ (by simpa using hl)) ge1 hm,JHp,se1,JCY,JD8 (h _ _ (by simpa using hl)) ge2 hm,JHp,se2,JIN,List.set_set,List.set_set]
def e_mak:ev3 C f3 U (.mak i es) π=mk3 C f3 i es U π:=by simp![ev3]
def JN2{d:D}(h:run true tabA gloA sub n 81 [d]=.ok (.bool false)):run3 kR tabA tabR tab3 gloA sub (n+2) 282 [recD k,d,.list []] π=.exc 4 π:=by
 rw[JBm (n:=n+1) rfl,JBE rfl];have e1:run true tabA gloA sub (n+1) 85 [d]=.exc 4:=JIB (m:=n+1) h ∅
 dsimp? [JB8,JCC,e1]
def JSs(s4:SubOk sub 4){d:D}(h:run true tabA gloA sub n 81 [d]=.ok (.bool false)):run3 kR tabA tabR tab3 gloA sub (n+3) 284 [d] π=.ok (.str "no track") (π++[[]]):=by
 rw[JBm (n:=n+2) rfl,JBE rfl];have s0:=s4.h0;have w:=word4 (x:=true) (n:=n+1) s4;have hmk:∀(y:Sl) (r:VI.Env),mk3 (λπ=>#[runR kR tabA tabR gloA sub π (n+2),gloA,sub]) (run3 kR tabA tabR tab3 gloA sub (n+2)) 282 (.cons (.var 0) (.cons (.lst .nil) .nil)) (.val d::y::r) π=.exc 4 (π++[[]]):=λy r=>mk_ex (ds:=[d,.list []]) (by dsimp? []) (JN2 h)
 dsimp? [JR2,JSb,e_mak,hmk,d3_ex,r3_ex,w]
def no_tr{d:D}(h:d=.none\/d=.tuple [F w,.none]\/d=.tuple [F w]):run true tabA gloA sub (n+3) 81 [d]=.ok (.bool false):=by
 rw[JAC (n:=n+2) (show tabA 81=some d_81 from rfl),JAB rfl];have i1:isiD sub .none .tuple=.ok (.bool false):=rfl;have i2:∀ds,isiD sub (.tuple ds) .tuple=.ok (.bool true):=λ_=>rfl;have l1:bltD .len [.tuple [F w,.none]]=.ok (.int 2):=rfl;have l2:bltD .len [.tuple [F w]]=.ok (.int 1):=rfl;have x0:idxD (.tuple [F w,.none]) (.int 0)=.ok (F w):=rfl;have x1:idxD (.tuple [F w,.none]) (.int 1)=.ok .none:=rfl;have f1:run true tabA gloA sub (n+2) 24 [F w]=.ok (.bool true):=JJW ∅
 rcases h with rfl|rfl|rfl<;>dsimp? [d_81,b_81,i1,i2,l1,l2,x0,x1,G93,G94,f1]
end
end VI.VP
end
section
namespace VI.VP
open PySem Fr
abbrev nS:S3->Nat->S3
 |.cons a _,0=>a
 |.cons _ r,i+1=>nS r i
 |_,_=>.nil
abbrev dS:S3->Nat->S3
 |b,0=>b
 |.cons _ r,i+1=>dS r i
 |_,_=>.nil
section
variable{sub:Nat->Nat->Bool}{π:Ta}{k m n i j l:Nat}{T M:D}{La t p q x one w:Rat}{b:Bool}{hs:List D}{ms:List Mv}{mk:List Mk}{ds:List D}{C:Ta->Cn}{f3:F3}
def y_at{B:S3}{U U':VI.Env}{π':Ta}(e:JAI C f3 (nS B i) U π=.nx U' π')(h:dS B i=.cons (nS B i) (dS B (i+1))):JAI C f3 (dS B i) U π=JAI C f3 (dS B (i+1)) U' π':=by rw[h,JE9,e,JJ9]
noncomputable abbrev oB:S3:=JRJ
theorem JGp{C:Cn}{z0 z1 z2 z4:D}{z3:List D}(fn:C.fn=runR kR tabA tabR gloA sub π (n+12)):∀(ss:List Rat) (t:Rat) (y:Sl) (A:Nat),(∀s∈ss,Hq 72 s/\0<s)->Hq A t->A+72*ss.length<=1000->Vs y ->
  ∃y',Vs y'/\Hq (A+72*ss.length) (t+sumR ss)/\for2 C 6 (.cons (.asg 5 (.call 17 (.cons (.var 5) (.cons (.var 6) .nil)))) .nil) (ss.map F) [.val z0,.val z1,.val z2,.own (.list z3),.val z4,.val (F t),y,.no,.no,.no,.no,.no,.no,.no,.no]=.nx [.val z0,.val z1,.val z2,.own (.list z3),.val z4,.val (F (t+sumR ss)),y',.no,.no,.no,.no,.no,.no,.no,.no]
 | [],t,y,A,_,h,_,v=>#[y,v,by simpa[sumR,Rat.add_zero] using h,by simp![List.map_nil,sumR,Rat.add_zero];rfl]
 |s::ss,t,y,A,hq,h,hA,v=>by
  simp![List.length_cons]at hA;obtain⟨q1,q2⟩:=hq s (by simp)
  have zs:Z 15 s:=#[q1.sz ∅]
  have zt:Z 15 t:=#[h.sz ∅]
  obtain⟨y',v',h',ih⟩:=JGp (z0:=z0) (z1:=z1) (z2:=z2) (z3:=z3) (z4:=z4) fn ss (t+s) (.val (F s)) (A+72) (λx hx=>hq x (by simp[hx])) (h.add q1) ∅ rfl
  have e:t+s+sumR ss=t+sumR (s::ss):=by simp![sumR];grind
  rw[e]at h' ih;refine#[y',v',h'.mono (by simp![List.length_cons];omega),?_]
  have hb:exec C (.cons (.asg 5 (.call 17 (.cons (.var 5) (.cons (.var 6) .nil)))) .nil) [.val z0,.val z1,.val z2,.own (.list z3),.val z4,.val (F t),.val (F s),.no,.no,.no,.no,.no,.no,.no,.no]=.nx [.val z0,.val z1,.val z2,.own (.list z3),.val z4,.val (F (t+s)),.val (F s),.no,.no,.no,.no,.no,.no,.no,.no]:=by
   dsimp? [fn,JLt]
  rw[List.map_cons,JBy];simp![List.set_cons_succ,List.set_cons_zero];rw[hb,JEt,ih]
def JKC{U:VI.Env}{ns:List Int}{C:Cn}{g:Int}(fn:C.fn=runR kR tabA tabR gloA sub π (n+12))(fg:C.glo=gloA)(g0:0<=g)(g1:g<5)(h0:U[0]? = some (.val (sc ns))):∃mk:List Mk,mk.length<=4/\Mks mk/\Lb mk/\(∀a∈mk,0<a.q)/\(mk.map Mk.s).Nodup/\JCO C 0 (.tup (.cons (.call 16 (.cons (.var 1) (.cons (.bin .Add (.cint 90) (.bin .Mult (.cint 2) (.var 0))) .nil))) (.cons (.idx (.cstr "cadb") (.var 0)) .nil))) (.cbl true) U (.ok (((List.range g.toNat).map λj:Nat=>(j:Int)).map PyData.int))=.ok (.list (mk.map Mk.d)):=by
 have h1:∀κ∈(List.range g.toNat).map (λj:Nat=>(j:Int)),0<=κ/\κ<4:=λκ hk=>by
  obtain⟨j,hj,rfl⟩:=List.mem_map.mp hk;have:=List.mem_range.mp hj;omega
 obtain⟨mk,m1,m2,m4,m3⟩:=JET (c:=Mk.d) (lb:=Mk.s) (lab:=λκ=>cadb.getD κ.toNat "") (f:=JDH C 0 (.tup (.cons (.call 16 (.cons (.var 1) (.cons (.bin .Add (.cint 90) (.bin .Mult (.cint 2) (.var 0))) .nil))) (.cons (.idx (.cstr "cadb") (.var 0)) .nil))) (.cbl true) U) (P:=λm=>Sz 12 m.q/\okS m.s/\0<m.q) (is:=(List.range g.toNat).map λj:Nat=>(j:Int)) (λκ hk=>by
  obtain⟨k0,k1⟩:=h1 κ hk;obtain⟨q,sq,p0,hq⟩:=JGD (x:=true) (sub:=sub) (m:=n+12) ns (90+2*κ) ∅ ∅ ∅
  obtain⟨c1,c2⟩:=JJ8 k0 k1;refine#[#[q,cadb.getD κ.toNat ""],#[sq.sz.mono ∅,c1,p0],rfl,?_]
  have bm:binD .Mult (.int 2) (.int κ)=.ok (.int (2*κ)):=JBL (L.of (k:=10) ∅ ∅) (L.of (k:=10) ∅ ∅)
  have ed:(#[q,cadb.getD κ.toNat ""]:Mk).d=.tuple [F q,.str (cadb.getD κ.toNat "")]:=rfl;have rn16:∀ds,runR kR tabA tabR gloA sub π (n+12) 16 ds=run true tabA gloA sub (n+12) 16 ds:=λds=>by unfold runR;rfl
  have lk:look (.val (.int κ)::U) 1=.ok (sc ns):=by simp![look,List.getElem?_cons_succ,h0,Sl.get]
  rw[JBR,ed];generalize cadb.getD κ.toNat ""=lb at *;dsimp? [fn,fg,bm,rn16,hq,c2,lk])
 have hlen:mk.length<=4:=by rw[m1,q_g,List.length_range];omega
 refine#[mk,hlen,λa ha=>(m2 a ha).1,λa ha=>(m2 a ha).2.1,λa ha=>(m2 a ha).2.2,?_,?_]
 ·rw[m4];obtain rfl|rfl|rfl|rfl|rfl:g=0\/g=1\/g=2\/g=3\/g=4:=by omega
  all_goals decide +kernel
 ·rw[JBK (by simp![q_g,List.length_range];omega),m3]
  rfl
def JKn{U:VI.Env}{ns:List Int}{C:Cn}{g:Int}(fn:C.fn=runR kR tabA tabR gloA sub π (n+12))(fg:C.glo=gloA)(g0:0<=g)(g1:g<4)(h0:U[0]? = some (.val (sc ns))):∃ss:List Rat,ss.length<=4/\(∀s∈ss,Hq 72 s/\0<s)/\JCO C 0 (.call 19 (.cons (.call 16 (.cons (.var 1) (.cons (.bin .Add (.cint 100) (.bin .Mult (.cint 2) (.var 0))) .nil))) (.cons (.tup (.cons (.cint 1) (.cons (.cint 8) .nil))) .nil))) (.cbl true) U (.ok (((List.range (1+g).toNat).map λj:Nat=>(j:Int)).map PyData.int))=.ok (.list (ss.map F)):=by
 have h1:∀κ∈(List.range (1+g).toNat).map (λj:Nat=>(j:Int)),0<=κ/\κ<4:=λκ hk=>by
  obtain⟨j,hj,rfl⟩:=List.mem_map.mp hk;have:=List.mem_range.mp hj;omega
 obtain⟨ss,m1,m2,_,m3⟩:=JET (c:=F) (lb:=λ_=>("":Str)) (lab:=λ_=>"") (f:=JDH C 0 (.call 19 (.cons (.call 16 (.cons (.var 1) (.cons (.bin .Add (.cint 100) (.bin .Mult (.cint 2) (.var 0))) .nil))) (.cons (.tup (.cons (.cint 1) (.cons (.cint 8) .nil))) .nil))) (.cbl true) U) (P:=λs=>Hq 72 s/\0<s) (is:=(List.range (1+g).toNat).map λj:Nat=>(j:Int)) (λκ hk=>by
  obtain⟨k0,k1⟩:=h1 κ hk;obtain⟨q,sq,p0,hq⟩:=JGD (x:=true) (sub:=sub) (m:=n+12) ns (100+2*κ) ∅ ∅ ∅
  refine#[q*Rat.divInt 1 8,#[sq.tw.eighth,?_],rfl,?_]
  ·rw[Rat.divInt_eq_div];have h2:((8:Int):Rat)=8:=rfl;have h3:((1:Int):Rat)=1:=rfl;rw[h2,h3];grind
  have bm:binD .Mult (.int 2) (.int κ)=.ok (.int (2*κ)):=JBL (L.of (k:=10) ∅ ∅) (L.of (k:=10) ∅ ∅)
  have rn16:∀ds,runR kR tabA tabR gloA sub π (n+12) 16 ds=run true tabA gloA sub (n+12) 16 ds:=λds=>by unfold runR;rfl
  have lk:look (.val (.int κ)::U) 1=.ok (sc ns):=by simp![look,List.getElem?_cons_succ,h0,Sl.get]
  have F8:PyData.tuple [.int 1,.int 8]=F (Rat.divInt 1 8):=by rfl
  have z8:Z 5 (Rat.divInt 1 8):=#[Sz.of (by decide) (by decide) (by decide)]
  have zq:=sq.Z;rw[JBR];dsimp? [fn,fg,bm,rn16,hq,lk,F8,JFt])
 refine#[ss,by rw[m1,q_g,List.length_range];omega,m2,?_]
 rw[JBK (by simp![q_g,List.length_range];omega),m3]
 rfl
end
end VI.VP
end
section
namespace VI.VP
open PySem Fr
section
variable{sub:Nat->Nat->Bool}{π:Ta}{k m n i j l:Nat}{T M:D}{La t p q x one w:Rat}{b:Bool}{hs:List D}{ms:List Mv}{mk:List Mk}{ds:List D}{C:Ta->Cn}{f3:F3}
def e_lmk(h:evI (C π) z U=.ok ds)(hl:ds.length<=16777216):ev3 C f3 U (.lmk i es z) π=mks C f3 i es U ds [] π:=by simp![ev3,h,R.at,R3.bind,if_pos hl]
def JKK{C:Cn}{e c:E}{U:VI.Env}{a b:D}:JDH C 2 e c U (.tuple [a,b])=JHV C e (.val a::.val b::U) (evT C c (.val a::.val b::U)):=by
 unfold JDH;simp![push,List.length_cons,List.length_nil,if_true,R.bind,List.map_cons,List.map_nil,List.cons_append,List.nil_append];cases evT C c (.val a::.val b::U) with
 |ok t=>cases t<;>simp![JHV,if_true,q_v,if_false]<;>cases ev C e (.val a::.val b::U)<;>rfl
 |exc c=>rfl
 |bad=>rfl
def row6{z0 z2 z4 z5:D}{dm:List D}{P:Fs}{y:Sl}(fn:∀π,(C π).fn=runR kR tabA tabR gloA sub π m)(h:∀π:Ta,f3 282 [recD π.length,T,.list dm] (π++[[]])=.ok .none (π++[P])):JAI C f3 (nS oB 6) [.val z0,.val T,.val z2,.own (.list dm),.val z4,.val z5,y,.no,.no,.no,.no,.no,.no,.no,.no] π=.nx [.val z0,.val T,.val z2,.val (.list dm),.val z4,.val z5,y,.val (recD π.length),.val (recD (π.length+1)),.val (recD (π.length+2)),.no,.no,.no,.no,.no] (π++[P,P,P]):=by
 show JAI C f3 (.un3 [7,8,9] (.lmk 282 (.cons (.var 2) (.cons (.var 4) .nil)) (.rng (.cons (.cint 3) .nil)))) _ _=_;have hf:JAL (V3.lmk 282 (.cons (.var 2) (.cons (.var 4) .nil)) (.rng (.cons (.cint 3) .nil))).toE 0 [.val z0,.val T,.val z2,.own (.list dm),.val z4,.val z5,y,.no,.no,.no,.no,.no,.no,.no,.no]=[.val z0,.val T,.val z2,.val (.list dm),.val z4,.val z5,y,.no,.no,.no,.no,.no,.no,.no,.no]:=rfl;have r3:rngD [.int 3]=.ok [.int 0,.int 1,.int 2]:=JLD ∅ ∅
 rw[y_un3,hf,e_lmk (ds:=[.int 0,.int 1,.int 2]) (by dsimp? [r3]) (by decide),mks3 (ds:=[T,.list dm]) (λd π=>by dsimp? []) h]
 rfl
def row7{z0 z1 z2 z3 z4 z5:D}{y:Sl}(hm:1<=m):JAI C (run3 kR tabA tabR tab3 gloA sub m) (nS oB 7) [.val z0,.val z1,.val z2,.val z3,.val z4,.val z5,y,.val (recD π.length),.val (recD (π.length+1)),.val (recD (π.length+2)),.no,.no,.no,.no,.no] (π++[plr T M La t p b hs,plr T M La t p b hs,plr T M La t p b hs])=.nx [.val z0,.val z1,.val z2,.val z3,.val z4,.val z5,y,.val (recD π.length),.val (recD (π.length+1)),.val (recD (π.length+2)),.val (recD (π.length+2)),.no,.no,.no,.no] (π++[plr T M La t p true hs,plr T M La t p true hs,plr T M La t p true hs]):=by
 show JAI C _ (.for1 10 (.tup (.cons (.var 7) (.cons (.var 8) (.cons (.var 9) .nil)))) (.cons (.drop (.met 279 "play" (.var 10) .nil)) .nil)) _ _=_;have he:∀π',evI (C π') (.tup (.cons (.var 7) (.cons (.var 8) (.cons (.var 9) .nil)))) [.val z0,.val z1,.val z2,.val z3,.val z4,.val z5,y,.val (recD π.length),.val (recD (π.length+1)),.val (recD (π.length+2)),.no,.no,.no,.no,.no]=.ok [recD π.length,recD (π.length+1),recD (π.length+2)]:=λπ'=>by dsimp? []
 have hf:JAL (.tup (.cons (.var 7) (.cons (.var 8) (.cons (.var 9) .nil)))) 0 [.val z0,.val z1,.val z2,.val z3,.val z4,.val z5,y,.val (recD π.length),.val (recD (π.length+1)),.val (recD (π.length+2)),.no,.no,.no,.no,.no]=[.val z0,.val z1,.val z2,.val z3,.val z4,.val z5,y,.val (recD π.length),.val (recD (π.length+1)),.val (recD (π.length+2)),.no,.no,.no,.no,.no]:=rfl;rw[JKu,he,hf,JLX,play3 (by simp) hm]
 rfl
def row9{z0 z1 z2 z3 z5:D}{y8 y9 y10 y:Sl}{ss:List Rat}(hL:Hq 8760 La)(h0:0<=La)(hM:Mks mk)(hlm:mk.length<=4)(hss:∀s∈ss,Hq 72 s/\0<s)(hl:ss.length<=4)(v:Vs y)(h:π[k]? = some (plr T (.list (mk.map Mk.d)) La 0 1 true []))(hm:6<=m):∃y',Vs y'/\JAI C (run3 kR tabA tabR tab3 gloA sub m) (nS oB 9) [.val z0,.val z1,.val z2,.val z3,.val (.list (ss.map F)),.val z5,y,.val (recD k),y8,y9,y10,.own (.list []),.no,.no,.no] π=.nx [.val z0,.val z1,.val z2,.val z3,.val (.list (ss.map F)),.val z5,y',.val (recD k),y8,y9,y10,.own (.list ((fo 0 (cl La (sumR ss)) (bt mk)).map Mk.l)),.no,.no,.no] (π.set k (plr T (.list (mk.map Mk.d)) La (cl La (sumR ss)) 1 true ((fo 0 (cl La (sumR ss)) (bt mk)).map Mk.l))):=by
 show ∃y',Vs y'/\JAI C _ (.for1 6 (.var 4) (JI7 11)) _ _=_;obtain⟨e1,e2,_⟩:=JGK (La:=La) (mk:=mk) (ss:=ss) (t:=0) (λs hs=>(hss s hs).2) Rat.le_refl h0;rw[Rat.zero_add]at e1;rw[e1]at e2;obtain⟨y',v',lp⟩:=JPM (sub:=sub) (C:=C) (T:=T) (k:=k) (j:=11) (m:=m) (p:=1) ∅ ∅ hL h0 (.inl rfl) hM hlm hm ss 0 [] [] [.val z0,.val z1,.val z2,.val z3,.val (.list (ss.map F)),.val z5,y,.val (recD k),y8,y9,y10,.own (.list []),.no,.no,.no] π y hss #[0,by simp,by simp] (by simp![List.length_nil];omega) (by simp![List.length_nil];omega) rfl v rfl rfl h
 refine#[y',v',?_];have he:evI (C π) (.var 4) [.val z0,.val z1,.val z2,.val z3,.val (.list (ss.map F)),.val z5,y,.val (recD k),y8,y9,y10,.own (.list []),.no,.no,.no]=.ok (ss.map F):=by
  generalize ss.map F=fs;dsimp? [itM]
 have hf:JAL (.var 4) 0 [.val z0,.val z1,.val z2,.val z3,.val (.list (ss.map F)),.val z5,y,.val (recD k),y8,y9,y10,.own (.list []),.no,.no,.no]=[.val z0,.val z1,.val z2,.val z3,.val (.list (ss.map F)),.val z5,y,.val (recD k),y8,y9,y10,.own (.list []),.no,.no,.no]:=rfl;rw[JKu,he,hf,JLX,lp,e1,e2];rfl
def row11{z0 z1 z2 z3 z4:D}{y y10:Sl}{π0:Ta}{A Bf:Fs}{tot:Rat}(fn:∀π,(C π).fn=runR kR tabA tabR gloA sub π (n+12))(hL:Hq 8760 La)(h0:0<=La)(hM:Mks mk)(hB:Lb mk)(hlm:mk.length<=4)(ht:Hq 288 tot)(p0:0<=tot)(v:Vs y)(v10:Vs y10):∃B' F':Fs,B'=plr T (.list (mk.map Mk.d)) La (cl La tot) 1 true ((fo 0 (cl La tot) (bt mk)).map Mk.l)/\F'=plr T (.list (mk.map Mk.d)) La (cl La tot) 2 true ((fo 0 (cl La tot) (bt mk)).map Mk.l)/\JAI C (run3 kR tabA tabR tab3 gloA sub (n+12)) (nS oB 11) [.val z0,.val z1,.val z2,.val z3,.val z4,.val (F tot),y,.val (recD π.length),.val (recD (π.length+1)),.val (recD (π.length+2)),y10,.own (.list ((fo 0 (cl La tot) (bt mk)).map Mk.l)),.no,.no,.no] (π++[A,plr T (.list (mk.map Mk.d)) La 0 1 true [],plr T (.list (mk.map Mk.d)) La 0 2 true []])=.nx [.val z0,.val z1,.val z2,.val z3,.val z4,.val (F tot),y,.val (recD π.length),.val (recD (π.length+1)),.val (recD (π.length+2)),y10,.val (.list ((fo 0 (cl La tot) (bt mk)).map Mk.l)),.no,.no,.no] (π++[A,B',F']):=by
 refine#[_,_,rfl,rfl,?_];have F12:PyData.tuple [.int 1,.int 2]=F (Rat.divInt 1 2):=by rfl
 have zL:Z 15 La:=#[hL.sz ∅]
 have zt:Z 15 tot:=#[ht.sz ∅]
 have zh:Z 15 (tot*Rat.divInt 1 2):=#[ht.half ∅]
 have z12:Z 5 (Rat.divInt 1 2):=#[Sz.of (by decide) (by decide) (by decide)]
 have zc:Z 15 (VP.cl La tot):=#[(Hq.cl h0 hL ht).sz ∅]
 have c0:0<=VP.cl La tot:=by unfold VP.cl;grind
 have hh:Rat.divInt 1 2=1 / 2:=by rw[Rat.divInt_eq_div];rfl
 have t1:=JFu (sub:=sub) (π:=π++[A,plr T (.list (mk.map Mk.d)) La 0 1 true [],plr T (.list (mk.map Mk.d)) La 0 2 true []]) (k:=π.length+1) (m:=n+12) (T:=T) (one:=tot) (t:=0) (p:=1) (La:=La) (t2:=VP.cl La tot) (ms:=mk) (hs:=[]) ∅ ∅ ∅ ∅ ∅ hM ∅ (by simp) h0 (by rw[Rat.mul_one,Rat.zero_add]) ge1 (by grind) ∅
 rw[se1,JJC c0,List.nil_append]at t1;generalize hB1:plr T (.list (mk.map Mk.d)) La (VP.cl La tot) 1 true ((fo 0 (VP.cl La tot) (bt mk)).map Mk.l)=B1 at t1 ⊢;have t2:=JFu (sub:=sub) (π:=π++[A,B1,plr T (.list (mk.map Mk.d)) La 0 2 true []]) (k:=π.length+2) (m:=n+12) (T:=T) (one:=tot*Rat.divInt 1 2) (t:=0) (p:=2) (La:=La) (t2:=VP.cl La tot) (ms:=mk) (hs:=[]) ∅ ∅ ∅ ∅ ∅ hM ∅ (by simp) h0 (by rw[Rat.zero_add,hh];congr 1;grind) ge2 (by rw[hh];grind) ∅
 rw[se2,JJC c0,List.nil_append]at t2;have g1:=ge1 (π:=π) (a:=A) (b':=plr T (.list (mk.map Mk.d)) La 0 1 true []) (c:=plr T (.list (mk.map Mk.d)) La 0 2 true []);have g2:=ge2 (π:=π) (a:=A) (b':=B1) (c:=plr T (.list (mk.map Mk.d)) La 0 2 true []);have m1:=λ(i:Nat) (ds:List D) (f3:F3)=>JFz (i:=i) (ds:=ds) (f3:=f3) g1;have m2:=λ(i:Nat) (ds:List D) (f3:F3)=>JFz (i:=i) (ds:=ds) (f3:=f3) g2;have ls:=(JOC (l:=fo 0 (VP.cl La tot) (bt mk)) hB λa ha=>(JCj mk).1.mem_iff.mp (List.mem_filter.mp ha).1).ne;generalize (fo 0 (VP.cl La tot) (bt mk)).map Mk.l=L1 at *;generalize mk.map Mk.d=dm at *;show JAI C _ (.ife (.or (.cmp .NotEq (.met 276 "tick" (.var 8) (.cons (.var 5) .nil)) (.var 11)) (.cmp .NotEq (.met 276 "tick" (.var 9) (.cons (.call 19 (.cons (.var 5) (.cons (.tup (.cons (.cint 1) (.cons (.cint 2) .nil))) .nil))) .nil)) (.var 11))) (.cons (.st (.ret (.cbl false))) .nil) .nil) _ _=_;dsimp? [fn,m1,m2,t1,t2,F12,JFt,ls]
end
end VI.VP
end
section
namespace VI.VP
open PySem Fr
theorem JJR:∀ {mk:List Mk},(mk.map Mk.s).Nodup->∀a∈mk,∀b∈mk,a.s=b.s->a=b
 | [],_,a,ha,_,_,_=>by cases ha
 |x::r,h,a,ha,b,hb,e=>by
  simp![List.map_cons,List.nodup_cons,List.mem_map,not_exists,not_and]at h;rcases q_n.mp ha with h1|h1<;>rcases q_n.mp hb with h2|h2
  ·rw[h1,h2]
  ·exact absurd (by rw[<-h1,e]) (h.1 b h2)
  ·exact absurd (by rw[<-h2,e]) (h.1 a h1)
  ·exact JJR h.2 a h1 b h2 e
section
variable{sub:Nat->Nat->Bool}{π:Ta}{k m n i j l:Nat}{T M:D}{La t p q x one w:Rat}{b:Bool}{hs:List D}{ms:List Mv}{mk:List Mk}{ds:List D}{C:Ta->Cn}{f3:F3}
def row13{z0 z1 z4:D}{y y7 y8 y9 y10:Sl}{ee tot far:Rat}(fn:∀π,(C π).fn=runR kR tabA tabR gloA sub π (n+12))(hM:Mks mk)(hB:Lb mk)(hlm:mk.length<=4)(hp:∀a∈mk,0<a.q)(hf:(if ee<tot then ee else tot)=far)(zf:Z 15 far)(h0:(if ee<0 then 0 else ee)=La)(p0:0<=tot):JAI C f3 (nS oB 13) [.val z0,.val z1,.val (F ee),.val (.list (mk.map Mk.d)),.val z4,.val (F tot),y,y7,y8,y9,y10,.val (.list ((fo 0 (cl La tot) (bt mk)).map Mk.l)),.val (F far),.no,.no] π=.nx [.val z0,.val z1,.val (F ee),.val (.list (mk.map Mk.d)),.val z4,.val (F tot),y,y7,y8,y9,y10,.val (.list ((fo 0 (cl La tot) (bt mk)).map Mk.l)),.val (F far),.no,.no] π:=by
 have cp:∀U:VI.Env,U[12]? = some (.val (F far))->JCO (C π) 2 (.var 1) (.not (.call 21 (.cons (.var 14) (.cons (.var 0) .nil)))) U (.ok (mk.map Mk.d))=.ok (.list ((mk.filter λm=>!decide (far<m.q)).map Mk.l)):=λU hU=>by
  rw[JBK (by rw[q_g];omega),JBJ (p:=λm=>!decide (far<m.q)) (g:=Mk.l) (λa ha=>?_)]
  ·rfl
  ·have zb:Z 12 a.q:=#[hM a ha];have lk:look (.val (F a.q)::.val (.str a.s)::U) 14=.ok (F far):=by simp![look,List.getElem?_cons_succ,hU,Sl.get]
   have ll:a.l=.str a.s:=rfl;rw[show a.d=.tuple [F a.q,.str a.s] from rfl,JKK,ll]
   by_cases o:far<a.q
   ·dsimp? [fn,lk,o]
   ·dsimp? [fn,lk,o]
 have hq:∀a∈mk,(decide (0<a.q)&&!decide (VP.cl La tot<a.q))=!decide (far<a.q):=λa ha=>by
  have:=hp a ha;rw[decide_eq_true this,Bool.true_and]
  congr 1
  rw[decide_eq_decide];unfold VP.cl
  grind
 have pm:(fo 0 (VP.cl La tot) (bt mk)).Perm (mk.filter λm=>!decide (far<m.q)):=by
  unfold fo;rw[<-List.filter_congr hq];exact(JCj mk).1.filter _
 obtain⟨e1,e2,e3⟩:=JSn (l:=fo 0 (VP.cl La tot) (bt mk)) hB (λa ha=>(JCj mk).1.mem_iff.mp (List.mem_filter.mp ha).1) pm (by
  have:=List.length_filter_le (λm=>decide ((0:Rat)<m.q)&&!decide (VP.cl La tot<m.q)) (bt mk);have h2:=JDt (ms:=mk);unfold fo;omega)
 have e4:=e3.ne;generalize (fo 0 (VP.cl La tot) (bt mk)).map Mk.l=L1 at *;generalize (mk.filter λm=>!decide (far<m.q)).map Mk.l=L2 at *;generalize (JDT ((fo 0 (VP.cl La tot) (bt mk)).map Mk.s)).map PyData.str=L3 at *;generalize mk.map Mk.d=dm at *;show JAI C f3 (.st (.ife (.cmp .NotEq (.xop .srt (.cons (.var 11) .nil)) (.xop .srt (.cons (.cmpr 2 (.var 1) (.var 3) (.not (.call 21 (.cons (.var 14) (.cons (.var 0) .nil))))) .nil))) (.cons (.ret (.cbl false)) .nil) .nil)) _ _=_;have cp':=cp [.val z0,.val z1,.val (F ee),.val (.list dm),.val z4,.val (F tot),y,y7,y8,y9,y10,.val (.list L1),.val (F far),.no,.no] rfl;dsimp? [fn,itM,cp',e1,e2,e4]
def row14{z0 z1 z2 z3 z4 z5 z11 z12:D}{y y10:Sl}{A B' F':Fs}{u:Rat}{h1 h2 h3:List D}{p1 p2 p3:Rat}(fn:∀π,(C π).fn=runR kR tabA tabR gloA sub π (n+12))(hA:A=plr T M La u p1 true h1)(hB:B'=plr T M La u p2 true h2)(hF:F'=plr T M La u p3 true h3)(hw:run true tabA gloA sub (n+11) 97 [T,F u]=.ok (F q)):JAI C f3 (nS oB 14) [.val z0,.val z1,.val z2,.val z3,.val z4,.val z5,y,.val (recD π.length),.val (recD (π.length+1)),.val (recD (π.length+2)),y10,.val z11,.val z12,.no,.no] (π++[A,B',F'])=.nx [.val z0,.val z1,.val z2,.val z3,.val z4,.val z5,y,.val (recD π.length),.val (recD (π.length+1)),.val (recD (π.length+2)),y10,.val z11,.val z12,.no,.no] (π++[A,B',F']):=by
 have g0:=ge0 (π:=π) (a:=A) (b':=B') (c:=F');have g1:=ge1 (π:=π) (a:=A) (b':=B') (c:=F');have g2:=ge2 (π:=π) (a:=A) (b':=B') (c:=F');rw[hA]at g0 ⊢;rw[hB]at g0 g1 ⊢;rw[hA,hF]at g1;rw[hA,hB,hF]at g2;rw[hF]at g0 ⊢;have a0:=JCd (sub:=sub) (n:=n+12) g0;have a1:=JCd (sub:=sub) (n:=n+12) g1;have a2:=JCd (sub:=sub) (n:=n+12) g2;have b0:=JEI (sub:=sub) (m:=n+12) g0 ∅
 have b1:=JEI (sub:=sub) (m:=n+12) g1 ∅
 have b2:=JEI (sub:=sub) (m:=n+12) g2 ∅
 have c0:=JCq (sub:=sub) (n:=n+12) g0;have c1:=JCq (sub:=sub) (n:=n+12) g1;have d0:=JGT (sub:=sub) (n:=n+11) g0 hw;have d1:=JGT (sub:=sub) (n:=n+11) g1 hw;have ne:∀r:Rat,cmpD .NotEq (F r) (F r)=.ok (.bool false):=λr=>by rw[F_ne];simp
 show JAI C f3 (.st (.ife (.or (.cmp .NotEq (.call 270 (.cons (.call 271 (.cons (.var 7) .nil)) .nil)) (.call 270 (.cons (.call 271 (.cons (.var 8) .nil)) .nil))) (.or (.cmp .NotEq (.call 270 (.cons (.call 271 (.cons (.var 9) .nil)) .nil)) (.call 270 (.cons (.call 271 (.cons (.var 8) .nil)) .nil))) (.cmp .NotEq (.call 272 (.cons (.call 273 (.cons (.var 7) .nil)) .nil)) (.call 272 (.cons (.call 273 (.cons (.var 8) .nil)) .nil))))) (.cons (.ret (.cbl false)) .nil) .nil)) _ _=_;dsimp? [fn,a0,a1,a2,b0,b1,b2,c0,c1,d0,d1,ne]
def in_ok{C:Cn}{U:VI.Env}{tot:Rat}(hM:Mks mk)(hB:Lb mk)(hlm:mk.length<=4)(hp:∀a∈mk,0<a.q)(hnd:(mk.map Mk.s).Nodup)(h3:U[3]? = some (.val (.list (mk.map Mk.d))))(h5:U[5]? = some (.val (F tot))):JCO C 0 (.var 0) (.cmp .NotIn (.var 0) (.cmpr 0 (.idx (.var 0) (.cint 1)) (.var 4) (.cmp .Eq (.idx (.var 0) (.cint 0)) (.var 7)))) U (.ok ((fo 0 tot (bt mk)).map Mk.l))=.ok (.list ((bk 0 tot (bt mk)).map Mk.l)):=by
 have inner:∀d,JCO C 0 (.idx (.var 0) (.cint 1)) (.cmp .Eq (.idx (.var 0) (.cint 0)) (.var 7)) (.val d::U) (.ok (mk.map Mk.d))=.ok (.list ((mk.filter λm=>decide (m.q=tot)).map Mk.l)):=λd=>by
  rw[JBK (by rw[q_g];omega),JBJ (p:=λm=>decide (m.q=tot)) (g:=Mk.l) (λa ha=>?_)]
  ·rfl
  ·have lk:look (.val a.d::.val d::U) 7=.ok (F tot):=by simp![look,List.getElem?_cons_succ,h5,Sl.get]
   have m0:=mk_0 a;have m1:=mk_1 a;have fe:=F_eq a.q tot;rw[JBR];generalize a.d=ad at *
   by_cases o:a.q=tot
   ·rw[decide_eq_true o]at fe;dsimp? [lk,m0,m1,fe,o]
   ·rw[q_o o]at fe;dsimp? [lk,m0,m1,fe,o]
 have mem:∀ {a:Mk},a∈fo 0 tot (bt mk)->a∈mk:=λha=>(JCj mk).1.mem_iff.mp (List.mem_filter.mp ha).1;have hin:∀a∈mk,cmpD .NotIn (.str a.s) (.list ((mk.filter λm=>decide (m.q=tot)).map Mk.l))=.ok (.bool (!decide (a.q=tot))):=λa ha=>by
  have hc:JB9 ((mk.filter λm=>decide (m.q=tot)).map Mk.l) (.str a.s)=true:=by
   unfold JB9;have h1:=(JOC (l:=mk.filter λm=>decide (m.q=tot)) hB λa ha=>(List.mem_filter.mp ha).1).can;have h2:PyData.canLay0 (.str a.s)=true:=hB a ha;rw[h1,h2];simp![PyData.depth];rfl
  simp![cmpD,hc,if_true]
  congr 3
  rw[Bool.eq_iff_iff,List.any_eq_true,q_D];constructor
  ·rintro⟨z,hz,e⟩;obtain⟨m,hm,rfl⟩:=List.mem_map.mp hz;obtain⟨m1,m2⟩:=List.mem_filter.mp hm;have es:m.s=a.s:=by simpa[Mk.l,PyData.eqv] using e
   rw[<-JJR hnd m m1 a ha es];simpa using m2
  ·intro e;exact#[a.l,List.mem_map.mpr #[a,List.mem_filter.mpr #[ha,by simpa using e],rfl],by simp[Mk.l,PyData.eqv]]
 have hln:((fo 0 tot (bt mk)).map Mk.l).length<=16777216:=by
  have h1:=List.length_filter_le (λm=>decide ((0:Rat)<m.q)&&!decide (tot<m.q)) (bt mk);have h2:=JDt (ms:=mk);rw[q_g];unfold fo;omega
 rw[JBK hln,JBJ (p:=λm=>!decide (m.q=tot)) (g:=Mk.l) (λa ha=>?_)]
 ·rw[show(fo 0 tot (bt mk)).filter (λm=>!decide (m.q=tot))=bk 0 tot (bt mk) by
   unfold fo bk;rw[List.filter_filter];refine List.filter_congr λa ha=>?_;have:=hp a ((JCj mk).1.mem_iff.mp ha);rw[Bool.eq_iff_iff];simp![q_i,q_D,Bool.not_eq_true',decide_eq_false_iff_not];grind]
  rfl
 ·have h:=hin a (mem ha);have lk:∀d,look (.val d::U) 4=.ok (.list (mk.map Mk.d)):=λd=>by simp![look,List.getElem?_cons_succ,h3,Sl.get]
  have ll:a.l=.str a.s:=rfl;have inn:=inner a.l;rw[JBR];rw[ll]at inn ⊢;generalize (mk.filter λm=>decide (m.q=tot)).map Mk.l=L2 at *;generalize mk.map Mk.d=dm at *;generalize a.s=as at *
  by_cases o:a.q=tot
  ·rw[decide_eq_true o]at h;dsimp? [lk,itM,inn,h,o]
  ·rw[q_o o]at h;dsimp? [lk,itM,inn,h,o]
end
end VI.VP
end
section
namespace VI.VP
open PySem Fr
section
variable{sub:Nat->Nat->Bool}{π:Ta}{k m n i j l:Nat}{T M:D}{La t p q x one w:Rat}{b:Bool}{hs:List D}{ms:List Mv}{mk:List Mk}{ds:List D}{C:Ta->Cn}{f3:F3}
def row15{z0 z1 z12:D}{y8 y9 y10 y:Sl}{ss:List Rat}{ee:Rat}(fn:∀π,(C π).fn=runR kR tabA tabR gloA sub π (n+12))(fg:∀π,(C π).glo=gloA)(hL:Hq 8760 La)(h0:0<=La)(hM:Mks mk)(hB:Lb mk)(hlm:mk.length<=4)(hp:∀a∈mk,0<a.q)(hnd:(mk.map Mk.s).Nodup)(hss:∀s∈ss,Hq 72 s/\0<s)(hl:ss.length<=4)(hh:hs.length<=100)(v:Vs y)(v8:Vs y8)(v9:Vs y9)(v10:Vs y10)(he:Hq 8760 ee)(hLe:(if ee<0 then 0 else ee)=La)(ht:Hq 288 (sumR ss))(h:π[k]? = some (plr T (.list (mk.map Mk.d)) La (cl La (sumR ss)) 1 true hs)) :
  ∃r π',JAI C (run3 kR tabA tabR tab3 gloA sub (n+12)) (nS oB 15) [.val z0,.val z1,.val (F ee),.val (.list (mk.map Mk.d)),.val (.list (ss.map F)),.val (F (sumR ss)),y,.val (recD k),y8,y9,y10,.val (.list ((fo 0 (cl La (sumR ss)) (bt mk)).map Mk.l)),.val z12,.no,.no] π=.nx (.val z0::.val z1::r) π':=by
 have p0:=JJK λs hs=>(hss s hs).2;have zt:Z 15 (sumR ss):=#[ht.sz ∅]
 have ze:Z 15 ee:=#[he.sz ∅]
 by_cases o:sumR ss<ee
 rotate_left
 ·refine#[[.val (F ee),.val (.list (mk.map Mk.d)),.val (.list (ss.map F)),.val (F (sumR ss)),y,.val (recD k),y8,y9,y10,.val (.list ((fo 0 (VP.cl La (sumR ss)) (bt mk)).map Mk.l)),.val z12,.no,.no],π,?_];generalize (fo 0 (VP.cl La (sumR ss)) (bt mk)).map Mk.l=L1 at *;generalize mk.map Mk.d=dm at *;generalize ss.map F=fs at *;show JAI C _ (.ife (.pur (.call 21 (.cons (.var 5) (.cons (.var 2) .nil)))) _ .nil) _ _=_;dsimp? [fn,o]
 have hc:VP.cl La (sumR ss)=sumR ss:=by unfold VP.cl;grind
 have hle:sumR ss<=La:=by grind
 rw[hc]at h ⊢;obtain⟨b1,b2⟩:=JIA (La:=La) (mk:=mk) (ss:=ss.reverse) (t:=sumR ss) (λs hs=>(hss s (List.mem_reverse.mp hs)).2) (by rw[JH6];exact Rat.le_refl) hle
 have e0:sumR ss - sumR ss=0:=by grind
 rw[JH6,e0]at b1 b2;have h1:=JGn (c':=plr T (.list (mk.map Mk.d)) La (sumR ss) (-1) true hs) h;obtain⟨π1,hπ1⟩:∃π1,π1=π.set k (plr T (.list (mk.map Mk.d)) La (sumR ss) (-1) true hs):=#[_,rfl];rw[<-hπ1]at h1;obtain⟨y',v',lp⟩:=JPM (sub:=sub) (C:=C) (T:=T) (k:=k) (j:=13) (m:=n+12) (p:=-1) ∅ ∅ hL h0 (.inr rfl) hM hlm ∅ ss.reverse (sumR ss) hs [] [.val z0,.val z1,.val (F ee),.val (.list (mk.map Mk.d)),.val (.list (ss.map F)),.val (F (sumR ss)),y,.val (recD k),y8,y9,y10,.val (.list ((fo 0 (sumR ss) (bt mk)).map Mk.l)),.val z12,.own (.list []),.no] π1 y (λs hs=>hss s (List.mem_reverse.mp hs)) (ht.mono ∅) (by rw[List.length_reverse];omega) (by rw[List.length_reverse];simp![List.length_nil];omega) rfl v rfl rfl h1
 rw[b1,b2]at lp;have h2:=JGn (c':=plr T (.list (mk.map Mk.d)) La 0 (-1) true (hs++(bk 0 (sumR ss) (bt mk)).reverse.map Mk.l)) h1;obtain⟨π2,hπ2⟩:∃π2,π2=π1.set k (plr T (.list (mk.map Mk.d)) La 0 (-1) true (hs++(bk 0 (sumR ss) (bt mk)).reverse.map Mk.l)):=#[_,rfl];rw[<-hπ2]at h2 lp;have t1:=JCd (sub:=sub) (n:=n+12) h2;have t2:=JEI (sub:=sub) (m:=n+12) h2 ∅
 have n1:cmpD .NotEq (F 0) (F 0)=.ok (.bool false):=by rw[F_ne];simp
 have ls:=(JOC (l:=bk 0 (sumR ss) (bt mk)) hB λa ha=>(JCj mk).1.mem_iff.mp (List.mem_filter.mp ha).1).ne;have ino:=λ(C:Cn) (y y7 y8 y9 y10 y11 y12 y13 y14:Sl)=>in_ok (C:=C) (U:=[.val z0,.val z1,.val (F ee),.val (.list (mk.map Mk.d)),.val (.list (ss.map F)),.val (F (sumR ss)),y,y7,y8,y9,y10,y11,y12,y13,y14]) (tot:=sumR ss) hM hB hlm hp hnd rfl rfl;have pk:=JI6 (sub:=sub) (m:=n+12) (q:=-1) h ∅
 rw[<-hπ1]at pk;have mt:=λ(i:Nat) (ds:List D) (f3:F3)=>JDG (i:=i) (ds:=ds) (f3:=f3) h;have fm:PyData.tuple [.int (-1),.int 1]=F (-1):=by rfl
 have ng:(-(1:Int))=-1:=rfl;have rv:op1D .rev (.list (ss.map F))=.ok (.list (ss.reverse.map F)):=by simp![op1D,List.map_reverse]
 have rv2:op1D .rev (.list ((bk 0 (sumR ss) (bt mk)).reverse.map Mk.l))=.ok (.list ((bk 0 (sumR ss) (bt mk)).map Mk.l)):=by simp![op1D,List.map_reverse,List.reverse_reverse]
 simp![List.nil_append,List.set_cons_succ,List.set_cons_zero]at lp;refine#[[.val (F ee),.val (.list (mk.map Mk.d)),.val (.list (ss.map F)),.val (F (sumR ss)),y',.val (recD k),y8,y9,y10,.val (.list ((fo 0 (sumR ss) (bt mk)).map Mk.l)),.val z12,.own (.list ((bk 0 (sumR ss) (bt mk)).reverse.map Mk.l)),.own (.list ((bk 0 (sumR ss) (bt mk)).map Mk.l))],π2,?_];generalize (bk 0 (sumR ss) (bt mk)).reverse.map Mk.l=L2 at *;generalize (bk 0 (sumR ss) (bt mk)).map Mk.l=L3 at *;generalize (fo 0 (sumR ss) (bt mk)).map Mk.l=L1 at *;generalize mk.map Mk.d=dm at *;generalize ss.reverse.map F=rs at *;generalize ss.map F=fs at *;generalize sumR ss=tot at *;have u13:(E.cmpr 0 (.var 0) (.var 11) (.cmp .NotIn (.var 0) (.cmpr 0 (.idx (.var 0) (.cint 1)) (.var 4) (.cmp .Eq (.idx (.var 0) (.cint 0)) (.var 7))))).uses 13=false:=rfl;unfold JI7 at lp;show JAI C _ (.ife (.pur (.call 21 (.cons (.var 5) (.cons (.var 2) .nil)))) (.cons (.drop (.met 278 "set_pace" (.var 7) (.cons (.tup (.cons (.neg (.cint 1)) (.cons (.cint 1) .nil))) .nil))) (.cons (.st (.asg 13 (.lst .nil))) (.cons (.for1 6 (.fn1 .rev (.var 4)) (.cons (.ext 13 (.met 276 "tick" (.var 7) (.cons (.var 6) .nil))) .nil)) (.cons (.st (.ife (.cmp .NotEq (.call 270 (.cons (.call 271 (.cons (.var 7) .nil)) .nil)) (.tup (.cons (.cint 0) (.cons (.cint 1) .nil)))) (.cons (.ret (.cbl false)) .nil) .nil)) (.cons (.st (.asg 14 (.cmpr 0 (.var 0) (.var 11) (.cmp .NotIn (.var 0) (.cmpr 0 (.idx (.var 0) (.cint 1)) (.var 4) (.cmp .Eq (.idx (.var 0) (.cint 0)) (.var 7))))))) (.cons (.st (.ife (.cmp .NotEq (.fn1 .rev (.var 13)) (.var 14)) (.cons (.ret (.cbl false)) .nil) .nil)) .nil)))))) .nil) _ _=_;dsimp? [fn,o,ng,fm,mt,pk,JKu,JPs,u13,rv,itM,JLX,↓lp,t1,t2,n1,ino,rv2,ls]
def row16{z:D}{r:VI.Env}{ns:List Int}(fn:∀π,(C π).fn=runR kR tabA tabR gloA sub π (n+12))(s4:SubOk sub 4){g:Int}(g0:0<=g)(g1:g<3)(hg:run true tabA gloA sub (n+12) 12 [sc ns,.int 120,.int 3]=.ok (.int g))(t0:idxD T (.int 0)=.ok (F w))(sl:op1D (.slice none (some 1)) T=.ok (.tuple [F w])):JAI C (run3 kR tabA tabR tab3 gloA sub (n+12)) (dS oB 16) (.val (sc ns)::.val T::r) π=.rt (.bool true) (π++[[]]):=by
 obtain⟨d,hd,hx⟩:∃d:D,(d=.none\/d=.tuple [F w,.none]\/d=.tuple [F w])/\idxD (.list [.none,.tuple [F w,.none],.tuple [F w]]) (.int g)=.ok d:=by
  obtain rfl|rfl|rfl:g=0\/g=1\/g=2:=by omega
  ·exact#[_,.inl rfl,rfl]
  ·exact#[_,.inr (.inl rfl),rfl]
  ·exact#[_,.inr (.inr rfl),rfl]
 have e:=JSs (sub:=sub) (n:=n+9) (π:=π) s4 (no_tr (n:=n+6) hd);have q:cmpD .Eq (.str "no track") (.str "no track")=.ok (.bool true):=by
  rw[JFp (by decide +kernel) (by decide +kernel)]
  rfl
 have rn12:∀π ds,runR kR tabA tabR gloA sub π (n+12) 12 ds=run true tabA gloA sub (n+12) 12 ds:=λπ ds=>by unfold runR;rfl
 show JAI C _ (.cons (.ret (.cmv .Eq (.cal 284 (.cons (.idx (.lst (.cons .cnon (.cons (.tup (.cons (.idx (.var 1) (.cint 0)) (.cons .cnon .nil))) (.cons (.fn1 (.slice none (some 1)) (.var 1)) .nil)))) (.call 12 (.cons (.var 0) (.cons (.cint 120) (.cons (.cint 3) .nil))))) .nil)) (.cstr "no track"))) .nil) _ _=_;dsimp? [fn,rn12,hg,t0,sl,hx,e,q]
end
end VI.VP
end
section
namespace VI.VP
open PySem Fr
def JPO{sub:Nat->Nat->Bool}{n:Nat}(s4:SubOk sub 4)(ns:List Int)(π:Ta):∃π',run3 kR tabA tabR tab3 gloA sub (n+13) 285 [sc ns] π=.ok (.bool true) π':=by
 obtain⟨w,ms,sw,hok,hd,hl,hn,_,htr⟩:=JPF (x:=true) (sub:=sub) (m:=n+12) ns 0 3 ∅ ∅ ∅ ∅
 obtain⟨g,g0,g1,hg⟩:=JDj (x:=true) (sub:=sub) (m:=n+12) ns 89 5 ∅ ∅ ∅ ∅
 obtain⟨h,h0,h1,hh⟩:=JDj (x:=true) (sub:=sub) (m:=n+12) ns 99 4 ∅ ∅ ∅ ∅
 obtain⟨f,f0,f1,hf⟩:=JDj (x:=true) (sub:=sub) (m:=n+12) ns 120 3 ∅ ∅ ∅ ∅
 replace htr:run true tabA gloA sub (n+12) 88 [sc ns,.int 0,.int 3]=.ok (tr w ms):=htr
 rw[JBm (n:=n+12) rfl,JBE rfl];obtain⟨C,hC⟩:∃C:Ta->Cn,C=λπ=>⟨runR kR tabA tabR gloA sub π (n+12),gloA,sub⟩:=#[_,rfl];have fn:∀π,(C π).fn=runR kR tabA tabR gloA sub π (n+12):=λπ=>by rw[hC]
 have fg:∀π,(C π).glo=gloA:=λπ=>by rw[hC]
 rw[<-hC];have rn12:∀π ds,runR kR tabA tabR gloA sub π (n+12) 12 ds=run true tabA gloA sub (n+12) 12 ds:=λπ ds=>by unfold runR;rfl
 obtain⟨mk,hml,hM,hB,hpos,hnd,hmk⟩:=JKC (C:=C π) (U:=[.val (sc ns),.val (tr w ms),.val (F ((endT ms).getD 0)),.no,.no,.no,.no,.no,.no,.no,.no,.no,.no,.no,.no]) (fn π) (fg π) g0 g1 rfl;obtain⟨ss,hsl,hss,hst⟩:=JKn (C:=C π) (U:=[.val (sc ns),.val (tr w ms),.val (F ((endT ms).getD 0)),.own (.list (mk.map Mk.d)),.no,.no,.no,.no,.no,.no,.no,.no,.no,.no,.no]) (fn π) (fg π) h0 h1 rfl;obtain⟨y6,v6,htot,hsum⟩:=JGp (C:=C π) (z0:=sc ns) (z1:=tr w ms) (z2:=F ((endT ms).getD 0)) (z3:=mk.map Mk.d) (z4:=.list (ss.map F)) (fn π) ss 0 .no 0 hss #[0,by simp,by simp] ∅ rfl
 rw[Rat.zero_add]at htot hsum
 replace htot:Hq 288 (sumR ss):=htot.mono ∅
 have ptot:=JJK λs hs=>(hss s hs).2;have te:Tw 1095 ((endT ms).getD 0):=by
  cases h:endT ms with
  |none=>exact#[0,by simp,by simp]
  |some e=>exact JNu hd h
 have hLe:(if (endT ms).getD 0<0 then 0 else (endT ms).getD 0)=JCm ms:=by
  unfold JCm;cases h:endT ms with
  |none=>simp
  |some e=>simp![Option.getD_some];grind
 have he:Hq 8760 ((endT ms).getD 0):=te.hq;have hL:Hq 8760 (JCm ms):=by
  rw[<-hLe]
  split
  ·exact#[0,by simp,by simp]
  ·exact he
 have L0:0<=JCm ms:=by rw[<-hLe];grind
 have e1:∀π:Ta,run3 kR tabA tabR tab3 gloA sub (n+12) 282 [recD π.length,tr w ms,.list (mk.map Mk.d)] (π++[[]])=.ok .none (π++[plr (tr w ms) (.list (mk.map Mk.d)) (JCm ms) 0 1 false []]):=λπ=>JPR (m:=n+12) hok ∅ hn ∅
 have hu:=Hq.cl L0 hL htot;have hwo:run true tabA gloA sub (n+11) 97 [tr w ms,F (cl (JCm ms) (sumR ss))]=.ok (F (wOf w ms (cl (JCm ms) (sumR ss)))):=by
  have zu:Z 15 (cl (JCm ms) (sumR ss)):=#[hu.sz ∅]
  exact q_wof (i3:=10) (i4:=5) #[λa ha=>hok a ha,λa ha=>(hd a ha).old.1,λa ha=>(hd a ha).old.2.1] ∅ ∅ ∅ ∅ ∅
 have t0:=tri0 (w:=w) (ms:=ms);have sl:op1D (.slice none (some 1)) (tr w ms)=.ok (.tuple [F w]):=rfl;have hla:ev (C π) (.ife (.cmp .NotEq (.idx (.var 1) (.cint 1)) (.tup .nil)) (.call 17 (.cons (.idx (.idx (.idx (.var 1) (.cint 1)) (.neg (.cint 1))) (.cint 2)) (.cons (.idx (.idx (.idx (.var 1) (.cint 1)) (.neg (.cint 1))) (.cint 3)) .nil))) (.tup (.cons (.cint 0) (.cons (.cint 1) .nil)))) [.val (sc ns),.val (tr w ms),.no,.no,.no,.no,.no,.no,.no,.no,.no,.no,.no,.no,.no]=.ok (F ((endT ms).getD 0)):=by
  have ne:=JO0 ms;have t1:=tri1 (w:=w) (ms:=ms);have ng:(-(1:Int))=-1:=rfl
  by_cases hms:ms=[]
  ·subst hms;simp![List.map_nil,List.isEmpty_nil,Bool.not_true]at ne t1;generalize tr w []=T at *;dsimp? [fn,fg,t1,ne,endT,Option.getD_none]
  ·obtain⟨r,c,rfl⟩:=JA9 hms;have em:(r++[c]).isEmpty=false:=by simp
   rw[em,Bool.not_false]at ne;have il:=JD1 (ms:=r) (m:=c);have c2:idxD c.d (.int 2)=.ok (F c.b):=rfl;have c3:idxD c.d (.int 3)=.ok (F c.l):=rfl;have dc:=hd c (by simp)
   have zb:Z 10 c.b:=#[dc.b.sz ∅]
   have zl:=dc.l.Z;have ee:(endT (r++[c])).getD 0=c.b+c.l:=by rw[JBz];rfl
   rw[ee];generalize tr w (r++[c])=T at *;generalize (r++[c]).map Mv.d=ds at *;dsimp? [fn,fg,t1,ne,ng,il,c2,c3]
 generalize JCm ms=La at *;have rg:=JLD (p:=g) ∅ ∅
 have rh:=JLD (p:=1+h) ∅ ∅
 generalize hee:(endT ms).getD 0=ee at *;have r9:=λy v hp=>row9 (sub:=sub) (C:=C) (T:=tr w ms) (z0:=sc ns) (z1:=tr w ms) (z2:=F ee) (z3:=.list (mk.map Mk.d)) (z5:=F (sumR ss)) (y8:=.val (recD (π.length+1))) (y9:=.val (recD (π.length+2))) (y10:=.val (recD (π.length+2))) (y:=y) (k:=π.length) (m:=n+12) (π:=π++[plr (tr w ms) (.list (mk.map Mk.d)) La 0 1 true [],plr (tr w ms) (.list (mk.map Mk.d)) La 0 1 true [],plr (tr w ms) (.list (mk.map Mk.d)) La 0 1 true []]) hL L0 hM hml hss hsl v hp ∅
 obtain⟨y9,v9,r9⟩:=r9 y6 v6 ge0;rw[se0]at r9;obtain⟨B',F',hB',hF',r11⟩:=row11 (sub:=sub) (C:=C) (n:=n) (π:=π) (T:=tr w ms) (z0:=sc ns) (z1:=tr w ms) (z2:=F ee) (z3:=.list (mk.map Mk.d)) (z4:=.list (ss.map F)) (y:=y9) (y10:=.val (recD (π.length+2))) (A:=plr (tr w ms) (.list (mk.map Mk.d)) La (cl La (sumR ss)) 1 true ((fo 0 (cl La (sumR ss)) (bt mk)).map Mk.l)) (π0:=[]) (Bf:=[]) fn hL L0 hM hB hml htot ptot v9 rfl;obtain⟨far,hfar⟩:∃far,(if ee<sumR ss then ee else sumR ss)=far:=#[_,rfl];have zt:Z 15 (sumR ss):=#[htot.sz ∅]
 have ze:Z 15 ee:=#[he.sz ∅]
 have zf:Z 15 far:=#[by rw[<-hfar];split;exact he.sz ∅;exact htot.sz ∅]
 have r13:=row13 (C:=C) (f3:=run3 kR tabA tabR tab3 gloA sub (n+12)) (π:=π++[plr (tr w ms) (.list (mk.map Mk.d)) La (cl La (sumR ss)) 1 true ((fo 0 (cl La (sumR ss)) (bt mk)).map Mk.l),B',F']) (z0:=sc ns) (z1:=tr w ms) (z4:=.list (ss.map F)) (y:=y9) (y7:=.val (recD π.length)) (y8:=.val (recD (π.length+1))) (y9:=.val (recD (π.length+2))) (y10:=.val (recD (π.length+2))) fn hM hB hml hpos hfar zf hLe ptot;have r14:=row14 (A:=plr (tr w ms) (.list (mk.map Mk.d)) La (cl La (sumR ss)) 1 true ((fo 0 (cl La (sumR ss)) (bt mk)).map Mk.l)) (C:=C) (f3:=run3 kR tabA tabR tab3 gloA sub (n+12)) (π:=π) (z0:=sc ns) (z1:=tr w ms) (z2:=F ee) (z3:=.list (mk.map Mk.d)) (z4:=.list (ss.map F)) (z5:=F (sumR ss)) (z11:=.list ((fo 0 (cl La (sumR ss)) (bt mk)).map Mk.l)) (z12:=F far) (y:=y9) (y10:=.val (recD (π.length+2))) fn rfl hB' hF' hwo;obtain⟨r,π',r15⟩:=row15 (sub:=sub) (C:=C) (n:=n) (k:=π.length) (π:=π++[plr (tr w ms) (.list (mk.map Mk.d)) La (cl La (sumR ss)) 1 true ((fo 0 (cl La (sumR ss)) (bt mk)).map Mk.l),B',F']) (z0:=sc ns) (z1:=tr w ms) (z12:=F far) (y8:=.val (recD (π.length+1))) (y9:=.val (recD (π.length+2))) (y10:=.val (recD (π.length+2))) (y:=y9) fn fg hL L0 hM hB hml hpos hnd hss hsl (by
  have h1:=List.length_filter_le (λm=>decide ((0:Rat)<m.q)&&!decide (cl La (sumR ss)<m.q)) (bt mk);have h2:=JDt (ms:=mk);rw[q_g];unfold fo;omega) v9 rfl rfl rfl he hLe htot ge0
 have r16:=row16 (sub:=sub) (C:=C) (n:=n) (π:=π') (r:=r) (ns:=ns) (z:=.none) fn s4 f0 f1 hf t0 sl;have r6:=row6 (C:=C) (f3:=run3 kR tabA tabR tab3 gloA sub (n+12)) (π:=π) (z0:=sc ns) (z2:=F ee) (z4:=.list (ss.map F)) (z5:=F (sumR ss)) (y:=y6) fn e1;have r7:=row7 (sub:=sub) (C:=C) (π:=π) (m:=n+12) (z0:=sc ns) (z1:=tr w ms) (z2:=F ee) (z3:=.list (mk.map Mk.d)) (z4:=.list (ss.map F)) (z5:=F (sumR ss)) (y:=y6) (T:=tr w ms) (M:=.list (mk.map Mk.d)) (La:=La) (t:=0) (p:=1) (b:=false) (hs:=[]) ∅
 have pk:=JI6 (sub:=sub) (m:=n+12) (q:=2) (ge2 (π:=π) (a:=plr (tr w ms) (.list (mk.map Mk.d)) La (cl La (sumR ss)) 1 true ((fo 0 (cl La (sumR ss)) (bt mk)).map Mk.l)) (b':=plr (tr w ms) (.list (mk.map Mk.d)) La 0 1 true []) (c:=plr (tr w ms) (.list (mk.map Mk.d)) La 0 1 true [])) ∅
 have mt:=λ(i:Nat) (ds:List D) (f3:F3)=>JDG (i:=i) (ds:=ds) (f3:=f3) (ge2 (π:=π) (a:=plr (tr w ms) (.list (mk.map Mk.d)) La (cl La (sumR ss)) 1 true ((fo 0 (cl La (sumR ss)) (bt mk)).map Mk.l)) (b':=plr (tr w ms) (.list (mk.map Mk.d)) La 0 1 true []) (c:=plr (tr w ms) (.list (mk.map Mk.d)) La 0 1 true []));rw[se2]at pk;refine#[π'++[[]],?_];have F2:PyData.tuple [.int 2,.int 1]=F 2:=by rfl
 generalize (fo 0 (cl La (sumR ss)) (bt mk)).map Mk.l=L1 at *;generalize tr w ms=T at *;generalize mk.map Mk.d=dm at *;generalize ss.map F=fs at *;generalize sumR ss=tot at *;have a0:JAI C (run3 kR tabA tabR tab3 gloA sub (n+12)) (nS oB 0) [.val (sc ns),.no,.no,.no,.no,.no,.no,.no,.no,.no,.no,.no,.no,.no,.no] π=.nx [.val (sc ns),.val T,.no,.no,.no,.no,.no,.no,.no,.no,.no,.no,.no,.no,.no] π:=by
  show JAI C _ (.st (.asg 1 (.call 88 (.cons (.var 0) (.cons (.cint 0) (.cons (.cint 3) .nil)))))) _ _=_;dsimp? [fn,htr]
 have a1:JAI C (run3 kR tabA tabR tab3 gloA sub (n+12)) (nS oB 1) [.val (sc ns),.val T,.no,.no,.no,.no,.no,.no,.no,.no,.no,.no,.no,.no,.no] π=.nx [.val (sc ns),.val T,.val (F ee),.no,.no,.no,.no,.no,.no,.no,.no,.no,.no,.no,.no] π:=by
  show JAI C _ (.st (.asg 2 (.ife (.cmp .NotEq (.idx (.var 1) (.cint 1)) (.tup .nil)) (.call 17 (.cons (.idx (.idx (.idx (.var 1) (.cint 1)) (.neg (.cint 1))) (.cint 2)) (.cons (.idx (.idx (.idx (.var 1) (.cint 1)) (.neg (.cint 1))) (.cint 3)) .nil))) (.tup (.cons (.cint 0) (.cons (.cint 1) .nil)))))) _ _=_;rw[y_st,JOW,hla];dsimp? []
 have a2:JAI C (run3 kR tabA tabR tab3 gloA sub (n+12)) (nS oB 2) [.val (sc ns),.val T,.val (F ee),.no,.no,.no,.no,.no,.no,.no,.no,.no,.no,.no,.no] π=.nx [.val (sc ns),.val T,.val (F ee),.own (.list dm),.no,.no,.no,.no,.no,.no,.no,.no,.no,.no,.no] π:=by
  show JAI C _ (.st (.asg 3 (.cmpr 0 (.tup (.cons (.call 16 (.cons (.var 1) (.cons (.bin .Add (.cint 90) (.bin .Mult (.cint 2) (.var 0))) .nil))) (.cons (.idx (.cstr "cadb") (.var 0)) .nil))) (.rng (.cons (.call 12 (.cons (.var 0) (.cons (.cint 89) (.cons (.cint 5) .nil)))) .nil)) (.cbl true)))) _ _=_;dsimp? [fn,rn12,hg,rg,hmk]
 have a3:JAI C (run3 kR tabA tabR tab3 gloA sub (n+12)) (nS oB 3) [.val (sc ns),.val T,.val (F ee),.own (.list dm),.no,.no,.no,.no,.no,.no,.no,.no,.no,.no,.no] π=.nx [.val (sc ns),.val T,.val (F ee),.own (.list dm),.own (.list fs),.no,.no,.no,.no,.no,.no,.no,.no,.no,.no] π:=by
  show JAI C _ (.st (.asg 4 (.cmpr 0 (.call 19 (.cons (.call 16 (.cons (.var 1) (.cons (.bin .Add (.cint 100) (.bin .Mult (.cint 2) (.var 0))) .nil))) (.cons (.tup (.cons (.cint 1) (.cons (.cint 8) .nil))) .nil))) (.rng (.cons (.bin .Add (.cint 1) (.call 12 (.cons (.var 0) (.cons (.cint 99) (.cons (.cint 4) .nil))))) .nil)) (.cbl true)))) _ _=_;have u3:(E.cmpr 0 (.call 19 (.cons (.call 16 (.cons (.var 1) (.cons (.bin .Add (.cint 100) (.bin .Mult (.cint 2) (.var 0))) .nil))) (.cons (.tup (.cons (.cint 1) (.cons (.cint 8) .nil))) .nil))) (.rng (.cons (.bin .Add (.cint 1) (.call 12 (.cons (.var 0) (.cons (.cint 99) (.cons (.cint 4) .nil))))) .nil)) (.cbl true)).uses 3=false:=rfl;dsimp? [fn,rn12,hh,rh,hst,u3]
 have a4:JAI C (run3 kR tabA tabR tab3 gloA sub (n+12)) (nS oB 4) [.val (sc ns),.val T,.val (F ee),.own (.list dm),.own (.list fs),.no,.no,.no,.no,.no,.no,.no,.no,.no,.no] π=.nx [.val (sc ns),.val T,.val (F ee),.own (.list dm),.own (.list fs),.val (F 0),.no,.no,.no,.no,.no,.no,.no,.no,.no] π:=by
  show JAI C _ (.st (.asg 5 (.tup (.cons (.cint 0) (.cons (.cint 1) .nil))))) _ _=_;dsimp? []
 have a5:JAI C (run3 kR tabA tabR tab3 gloA sub (n+12)) (nS oB 5) [.val (sc ns),.val T,.val (F ee),.own (.list dm),.own (.list fs),.val (F 0),.no,.no,.no,.no,.no,.no,.no,.no,.no] π=.nx [.val (sc ns),.val T,.val (F ee),.own (.list dm),.val (.list fs),.val (F tot),y6,.no,.no,.no,.no,.no,.no,.no,.no] π:=by
  show JAI C _ (.st (.for1 6 (.var 4) (.cons (.asg 5 (.call 17 (.cons (.var 5) (.cons (.var 6) .nil)))) .nil))) _ _=_;dsimp? [fn,itM,↓hsum]
 have a8:∀π,JAI C (run3 kR tabA tabR tab3 gloA sub (n+12)) (nS oB 8) [.val (sc ns),.val T,.val (F ee),.val (.list dm),.val (.list fs),.val (F tot),y6,.val (recD π.length),.val (recD (π.length+1)),.val (recD (π.length+2)),.val (recD (π.length+2)),.no,.no,.no,.no] (π++[plr T (.list dm) La 0 1 true [],plr T (.list dm) La 0 1 true [],plr T (.list dm) La 0 1 true []])=.nx [.val (sc ns),.val T,.val (F ee),.val (.list dm),.val (.list fs),.val (F tot),y6,.val (recD π.length),.val (recD (π.length+1)),.val (recD (π.length+2)),.val (recD (π.length+2)),.own (.list []),.no,.no,.no] (π++[plr T (.list dm) La 0 1 true [],plr T (.list dm) La 0 1 true [],plr T (.list dm) La 0 1 true []]):=λπ=>by
  show JAI C _ (.st (.asg 11 (.lst .nil))) _ _=_;dsimp? []
 have a10:JAI C (run3 kR tabA tabR tab3 gloA sub (n+12)) (nS oB 10) [.val (sc ns),.val T,.val (F ee),.val (.list dm),.val (.list fs),.val (F tot),y9,.val (recD π.length),.val (recD (π.length+1)),.val (recD (π.length+2)),.val (recD (π.length+2)),.own (.list L1),.no,.no,.no] (π++[plr T (.list dm) La (cl La tot) 1 true L1,plr T (.list dm) La 0 1 true [],plr T (.list dm) La 0 1 true []])=.nx [.val (sc ns),.val T,.val (F ee),.val (.list dm),.val (.list fs),.val (F tot),y9,.val (recD π.length),.val (recD (π.length+1)),.val (recD (π.length+2)),.val (recD (π.length+2)),.own (.list L1),.no,.no,.no] (π++[plr T (.list dm) La (cl La tot) 1 true L1,plr T (.list dm) La 0 1 true [],plr T (.list dm) La 0 2 true []]):=by
  show JAI C _ (.drop (.met 278 "set_pace" (.var 9) (.cons (.tup (.cons (.cint 2) (.cons (.cint 1) .nil))) .nil))) _ _=_;dsimp? [fn,F2,mt,pk]
 have a12:∀π,JAI C (run3 kR tabA tabR tab3 gloA sub (n+12)) (nS oB 12) [.val (sc ns),.val T,.val (F ee),.val (.list dm),.val (.list fs),.val (F tot),y9,.val (recD π.length),.val (recD (π.length+1)),.val (recD (π.length+2)),.val (recD (π.length+2)),.val (.list L1),.no,.no,.no] (π++[plr T (.list dm) La (cl La tot) 1 true L1,B',F'])=.nx [.val (sc ns),.val T,.val (F ee),.val (.list dm),.val (.list fs),.val (F tot),y9,.val (recD π.length),.val (recD (π.length+1)),.val (recD (π.length+2)),.val (recD (π.length+2)),.val (.list L1),.val (F far),.no,.no] (π++[plr T (.list dm) La (cl La tot) 1 true L1,B',F']):=λπ=>by
  show JAI C _ (.st (.asg 12 (.ife (.call 21 (.cons (.var 2) (.cons (.var 5) .nil))) (.var 2) (.var 5)))) _ _=_;rw[<-hfar]
  by_cases o:ee<tot
  ·dsimp? [fn,o]
  ·dsimp? [fn,o]
 have all:JAI C (run3 kR tabA tabR tab3 gloA sub (n+12)) (dS oB 0) [.val (sc ns),.no,.no,.no,.no,.no,.no,.no,.no,.no,.no,.no,.no,.no,.no] π=.rt (.bool true) (π'++[[]]):=by
  rw[y_at a0 rfl,y_at a1 rfl,y_at a2 rfl,y_at a3 rfl,y_at a4 rfl,y_at a5 rfl,y_at r6 rfl,y_at r7 rfl,y_at (a8 π) rfl,y_at r9 rfl,y_at a10 rfl,y_at r11 rfl,y_at (a12 π) rfl,y_at r13 rfl,y_at r14 rfl,y_at r15 rfl,r16]
 replace all:JAI C (run3 kR tabA tabR tab3 gloA sub (n+12)) d_285.body ([sc ns].map Sl.val++List.replicate (d_285.slots - d_285.par) Sl.no) π=.rt (.bool true) (π'++[[]]):=all
 rw[all,JQc]
def JLg{sub:Nat->Nat->Bool}{n:Nat}(s4:SubOk sub 4)(ns:List Int)(hl:ns.length<=63):∃π,run3 kR tabA tabR tab3 gloA sub (n+14) 286 [sc ns] []=.ok (.bool true) π:=by
 rw[JBm (n:=n+13) rfl,JBE rfl];obtain⟨C,hC⟩:∃C:Ta->Cn,C=λπ=>⟨runR kR tabA tabR gloA sub π (n+13),gloA,sub⟩:=#[_,rfl];have fn:∀π,(C π).fn=runR kR tabA tabR gloA sub π (n+13):=λπ=>by rw[hC]
 rw[<-hC];have cp:∀(κ:Int) π,0<=κ->κ<3->JCO (C π) 0 (.bin .Add (.var 0) (.bin .Mult (.cint 7919) (.var 2))) (.cbl true) [.val (sc ns),.val (.int κ)] (.ok (ns.map PyData.int))=.ok (sc (ns.map λc=>c+7919*κ)):=λκ π k0 k1=>by
  have bm:binD .Mult (.int 7919) (.int κ)=.ok (.int (7919*κ)):=JBL (L.of (k:=14) ∅ ∅) (L.of (k:=14) ∅ ∅)
  rw[JBK (by rw[q_g];omega)]
  have:∀l:List Int,JA5 (JDH (C π) 0 (.bin .Add (.var 0) (.bin .Mult (.cint 7919) (.var 2))) (.cbl true) [.val (sc ns),.val (.int κ)]) (l.map PyData.int)=.ok ((l.map λc=>c+7919*κ).map PyData.int):=λl=>by
   induction l with
   |nil=>rfl
   |cons a r ih =>
    simp![List.map_cons];unfold JA5;have e:JDH (C π) 0 (.bin .Add (.var 0) (.bin .Mult (.cint 7919) (.var 2))) (.cbl true) [.val (sc ns),.val (.int κ)] (.int a)=.ok (some (.int (a+7919*κ))):=by
     rw[JBR];dsimp? [bm]
    rw[e,ih]
  rw[this];rfl
 have it:JA4 (sc ns)=.ok (ns.map PyData.int):=rfl;have ne:=JDC ns;have turn:∀(κ:Int) (π:Ta),0<=κ->κ<3->∃π',JAI C (run3 kR tabA tabR tab3 gloA sub (n+13)) (.cons (.ife (.nv (.cal 285 (.cons (.cmpr 0 (.bin .Add (.var 0) (.bin .Mult (.cint 7919) (.var 2))) (.var 0) (.cbl true)) .nil))) (.cons (.st (.ret (.cbl false))) .nil) .nil) (.cons (.st (.ife (.cmp .Eq (.var 0) (.lst .nil)) (.cons .brk .nil) .nil)) .nil)) [.val (sc ns),.val (.int κ)] π=if ns.isEmpty=true then .bk [.val (sc ns),.val (.int κ)] π' else .nx [.val (sc ns),.val (.int κ)] π':=λκ π k0 k1=>by
  obtain⟨π',e⟩:=JPO (n:=n) s4 (ns.map λc=>c+7919*κ) π;refine#[π',?_];have c:=cp κ π k0 k1;generalize sc (ns.map λc=>c+7919*κ)=a at *;generalize ns.map PyData.int=l at *;generalize sc ns=s at *;cases hn:ns.isEmpty<;>rw[hn]at ne
  ·dsimp? [it,c,e,ne,if_false,q_v]
  ·dsimp? [it,c,e,ne,if_true,at_bk,s3_bk]
 obtain⟨π1,e1⟩:=turn 0 [] ∅ ∅
 obtain⟨π2,e2⟩:=turn 1 π1 ∅ ∅
 obtain⟨π3,e3⟩:=turn 2 π2 ∅ ∅
 have r3:rngD [.int 3]=.ok [.int 0,.int 1,.int 2]:=JLD ∅ ∅
 generalize sc ns=s at *;have lp:∃π κ,JC8 C (run3 kR tabA tabR tab3 gloA sub (n+13)) 1 (.cons (.ife (.nv (.cal 285 (.cons (.cmpr 0 (.bin .Add (.var 0) (.bin .Mult (.cint 7919) (.var 2))) (.var 0) (.cbl true)) .nil))) (.cons (.st (.ret (.cbl false))) .nil) .nil) (.cons (.st (.ife (.cmp .Eq (.var 0) (.lst .nil)) (.cons .brk .nil) .nil)) .nil)) [.int 0,.int 1,.int 2] [.val s,.no] []=.nx [.val s,κ] π:=by
  cases hn:ns.isEmpty<;>rw[hn]at e1 e2 e3
  ·refine#[π3,.val (.int 2),?_];simp![q_v,if_false]at e1 e2 e3;simp![JCY,List.set_cons_succ,List.set_cons_zero,e1,JHp,e2,e3,JIN]
  ·refine#[π1,.val (.int 0),?_];simp![if_true]at e1;simp![JCY,List.set_cons_succ,List.set_cons_zero,e1,g3_bk]
 obtain⟨π,κ,lp⟩:=lp;refine#[π,?_];dsimp? [JNV,JQn,JKu,r3,JLX,↓lp]
end VI.VP
end
section
set_option Elab.async false
set_option maxHeartbeats 0
namespace V73
open PySem PySem.W VH L2 VI VI.VP
noncomputable abbrev prog:Program:=PySem.Challenge.pw_glideways_k73_whole_forth_and_back
abbrev top(i:Nat):Stmt:=prog.main.body.getD i (.Pass #[0,0,0,0])
abbrev meth(i j:Nat):Stmt:=(JRV (top i)).getD j (.Pass #[0,0,0,0])
abbrev nt:List (String×Nat×Value):=[("__name__",165,.str "law_glideways_k73_whole_forth_and_back" 784),("__doc__",166,.none),("__package__",167,.none),("__loader__",168,.builtin "__main__.__loader__#opaque"),("__spec__",169,.none),("__annotations__",170,.ref 6),("__builtins__",171,.ref 4),("__file__",173,.str "/claim/cut.py" 172),("__cached__",174,.none),("_wall",193,.ref 21),("GlideError",213,.ref 31),("NoFrac",229,.ref 44),("NoKind",245,.ref 56),("NoPlan",261,.ref 68),("NoTrack",277,.ref 80),("NoTime",293,.ref 92),("NoName",309,.ref 104),("NoText",325,.ref 116),("ZERO",330,.ref 119),("ONE",333,.ref 120),("is_whole",340,.ref 127),("common_divisor",351,.ref 134),("is_frac",360,.ref 141),("is_size",367,.ref 148),("frac",376,.ref 155),("whole",383,.ref 162),("plus",391,.ref 169),("minus",399,.ref 176),("times",407,.ref 183),("over",415,.ref 190),("is_less",423,.ref 197),("least_frac",432,.ref 204),("most_frac",441,.ref 211),("between",450,.ref 218),("TIME",454,.int 0 453),("LABEL",456,.int 1 455),("marks_till",462,.ref 223),("by_times",471,.ref 230),("labels_forth",477,.ref 235),("labels_back",483,.ref 240),("passed",493,.ref 247),("KINDS",502,.ref 248),("is_kind",509,.ref 255),("need_kind",516,.ref 262),("kept_within",523,.ref 269),("eased",532,.ref 276),("START",536,.int 0 535),("GOAL",538,.int 1 537),("BEGIN",540,.int 2 539),("LONG",542,.int 3 541),("KIND",544,.int 4 543),("SPEEDS",546,.int 5 545),("KEPT",548,.str "kept" 547),("NO_SPEEDS",553,.ref 279),("are_speeds",560,.ref 286),("go_together",568,.ref 293),("is_motion",575,.ref 300),("end_of",582,.ref 307),("part_at",590,.ref 314),("worth_at",599,.ref 321),("kept_worth",612,.ref 328),("FIRST",616,.int 0 615),("MOTIONS",618,.int 1 617),("is_track",624,.ref 333),("none_overlap",632,.ref 340),("end_time",639,.ref 347),("begun_by",645,.ref 352),("worth_of",654,.ref 359),("need_track",661,.ref 366),("last_time",671,.ref 373),("Player",783,.ref 460),("_law_cell",793,.ref 471),("_law_pick",803,.ref 478),("_law_divisor",811,.ref 485),("_law_made",820,.ref 492),("_law_frac",829,.ref 499),("_law_size",838,.ref 506),("_law_plus",846,.ref 513),("_law_minus",854,.ref 520),("_law_times",862,.ref 527),("_law_over",870,.ref 534),("_law_less",878,.ref 541),("_law_kind",886,.ref 548),("_law_eased",896,.ref 555),("_law_motion",907,.ref 562),("_law_worth",927,.ref 569),("_law_time",937,.ref 576),("_law_track",952,.ref 583),("_law_any_time",961,.ref 590),("_law_on",971,.ref 597),("_law_word",979,.ref 604),("_law_bad_player",988,.ref 611),("_law_once",994,.ref 616),("law",1000,.ref 621)]
abbrev mainE(P:Params):List DictEntry:=nt.map λp=>ent P p.1 p.2.1 p.2.2
abbrev mainN:Value:=.str "law_glideways_k73_whole_forth_and_back" 784
abbrev JCD(P:Params)(m k:Nat)(v:Value):Obj:=dO (ent P "__name__" 165 v::((mainE P).take m).drop 1) k
abbrev twelve:List Value:=tw [(1,20),(5,27),(7,40),(9,52),(11,64),(13,76),(15,88),(17,100),(19,112),(24,126),(26,133),(34,140),(42,147),(44,154),(51,161),(53,168),(55,175),(57,182),(59,189),(61,196),(63,203),(69,210),(75,217),(80,222),(82,229),(87,234),(89,239),(91,246),(98,254),(100,261),(103,268),(105,275),(128,285),(130,292),(132,299),(138,306),(140,313),(142,320),(147,327),(157,332),(163,339),(168,346),(172,351),(174,358),(179,365),(183,372),(186,379),(238,470),(244,477),(247,484),(251,491),(254,498),(257,505),(260,512),(262,519),(264,526),(266,533),(268,540),(270,547),(272,554),(287,561),(294,568),(305,575),(308,582),(321,589),(325,596),(331,603),(337,610),(344,615),(377,620)]
abbrev gE(l:List Value):Obj:=#[.type "type",none,.cls { name:="GlideError",bases:=[.type "ValueError"],mro:=[.ref 31,.type "ValueError",.type "Exception",.type "BaseException",.type "object"],ns:=30,qualname:="GlideError",hasDict:=true,slotNames:=[],subclasses:=l,abstract:=false,hasDel:=false },(List.toArray [some (.ref 22),none,some (.str "GlideError" 196),some (.str "GlideError" 204),some (.builtin "ValueError.__new__"),some (.bool true)])]
abbrev clB(P:Params)(x:Str)(b t n:Nat):List Obj:=[tO [.ref 31],#[.type "builtin_function_or_method",none,.fields (List.toArray [.builtin "type.__prepare__",.type "type"]),#[]],dO [ent P "__module__" (t+7) (.str "glideways.errors" 194),ent P "__qualname__" (t+9) (.str x (t+8)),ent P "__firstlineno__" (t+11) (.int n (t+10)),ent P "__static_attributes__" (t+12) (.ref (b+7))] 4,tO [],fO [],#[.type "code",none,.fields (List.toArray [.str x (t+2),.str x (t+3),.str "/claim/cut.py" (t+4),.int n 0,.int 0 0,.int 0 0,.int 0 0,.int 0 0,.ref (b+3),.bool false,.int 181 0,.ref (b+4),.none,.none,.none,.none,.int (t+5) 0,.int n 0,.str "/claim/cut.py" (t+6)]),#[]],#[.type "frame",none,.plain,(List.toArray [some (.ref (b+5)),some (.ref 3),some (.ref (b+2)),none,some (.str "glideways.errors" 194),none,some (.ref 0)])],tO [],dO [ent P "__module__" (t+7) (.str "glideways.errors" 194),ent P "__firstlineno__" (t+11) (.int n (t+10)),ent P "__static_attributes__" (t+12) (.ref (b+7)),ent P "__doc__" (t+13) (.none)] 2,#[.type "type",none,.cls { name:=x,bases:=[.ref 31],mro:=[.ref (b+9),.ref 31,.type "ValueError",.type "Exception",.type "BaseException",.type "object"],ns:=b+8,qualname:=x,hasDict:=true,slotNames:=[],subclasses:=[],abstract:=false,hasDel:=false },(List.toArray [some (.ref b),none,some (.str x t),some (.str x (t+8)),some (.builtin "ValueError.__new__"),some (.bool true)])],#[.type "super",none,.fields (List.toArray [.ref (b+9),.ref (b+9),.ref (b+9)]),#[]],#[.type "builtin_function_or_method",none,.fields (List.toArray [.builtin "object.__init_subclass__",.ref (b+9)]),#[]]]
abbrev pv0:Value:=.str "__main__" 164
abbrev pv1:Value:=.str "glideways.fracs" 326
abbrev pv2:Value:=.str "glideways.marks" 451
abbrev pv3:Value:=.str "glideways.kinds" 494
abbrev pv4:Value:=.str "glideways.motions" 533
abbrev pv5:Value:=.str "glideways.tracks" 613
abbrev pv6:Value:=.str "glideways.players" 662
abbrev pv7:Value:=.str "law_glideways_k73_whole_forth_and_back" 784
abbrev ob(P:Params):List Obj:=[boot_o_0 P,boot_o_1 P,boot_o_2 P,JCD P 94 94 mainN,boot_o_4 P,boot_o_5 P,boot_o_6 P,boot_o_7 P,boot_o_8 P,boot_o_9 P,boot_o_10 P,tO [],fO twelve,#[.type "code",none,.fields (List.toArray [.str "<module>" 182,.str "<module>" 183,.str "/claim/cut.py" 184,.int 1 0,.int 0 0,.int 0 0,.int 0 0,.int 0 0,.ref 11,.bool false,.int 181 0,.ref 12,.none,.none,.none,.none,.int 185 0,.int 1 0,.str "/claim/cut.py" 186]),#[]],#[.type "frame",none,.plain,(List.toArray [some (.ref 13),some (.ref 3),some (.ref 3),none,some (.str "__main__" 164),none,some (.ref 0)])]]++((dC (top 0) 190 15 pv0)++([tO [.type "ValueError"],#[.type "builtin_function_or_method",none,.fields (List.toArray [.builtin "type.__prepare__",.type "type"]),#[]],dO [ent P "__module__" 203 (.str "glideways.errors" 194),ent P "__qualname__" 205 (.str "GlideError" 204),ent P "__firstlineno__" 207 (.int 5 206),ent P "__static_attributes__" 208 (.ref 29)] 4,tO [],fO [],#[.type "code",none,.fields (List.toArray [.str "GlideError" 198,.str "GlideError" 199,.str "/claim/cut.py" 200,.int 5 0,.int 0 0,.int 0 0,.int 0 0,.int 0 0,.ref 25,.bool false,.int 181 0,.ref 26,.none,.none,.none,.none,.int 201 0,.int 5 0,.str "/claim/cut.py" 202]),#[]],#[.type "frame",none,.plain,(List.toArray [some (.ref 27),some (.ref 3),some (.ref 24),none,some (.str "glideways.errors" 194),none,some (.ref 0)])],tO [],dO [ent P "__module__" 203 (.str "glideways.errors" 194),ent P "__firstlineno__" 207 (.int 5 206),ent P "__static_attributes__" 208 (.ref 29),ent P "__weakref__" 210 (.ref 32),ent P "__doc__" 211 (.none)] 3,gE [.ref 44,.ref 56,.ref 68,.ref 80,.ref 92,.ref 104,.ref 116],#[.type "getset_descriptor",none,.fields (List.toArray [.str "__weakref__" 209,.ref 31,.builtin "ExceptionGroup.__weakref__",.none]),#[]],#[.type "super",none,.fields (List.toArray [.ref 31,.ref 31,.ref 31]),#[]],#[.type "builtin_function_or_method",none,.fields (List.toArray [.builtin "object.__init_subclass__",.ref 31]),#[]]]++((clB P "NoFrac" 35 214 7)++((clB P "NoKind" 47 230 9)++((clB P "NoPlan" 59 246 11)++((clB P "NoTrack" 71 262 13)++((clB P "NoTime" 83 278 15)++((clB P "NoName" 95 294 17)++((clB P "NoText" 107 310 19)++([tO [.int 0 328,.int 1 329],tO [.int 1 331,.int 1 332]]++((dC (top 13) 337 121 pv1)++((dC (top 14) 344 128 pv1)++((dC (top 15) 355 135 pv1)++((dC (top 16) 364 142 pv1)++((dC (top 17) 371 149 pv1)++((dC (top 18) 380 156 pv1)++((dC (top 19) 387 163 pv1)++((dC (top 20) 395 170 pv1)++((dC (top 21) 403 177 pv1)++((dC (top 22) 411 184 pv1)++((dC (top 23) 419 191 pv1)++((dC (top 24) 427 198 pv1)++((dC (top 25) 436 205 pv1)++((dC (top 26) 445 212 pv1)++((dD (top 30) 457 219 pv2++((dC (top 31) 466 224 pv2)++((dD (top 32) 472 231 pv2++(dD (top 33) 478 236 pv2++((dC (top 34) 487 241 pv2)++([tO (sqs 496 ["even","in","out","both","hold","jump"])]++((dC (top 37) 506 249 pv3)++((dC (top 38) 513 256 pv3)++((dC (top 39) 520 263 pv3)++((dC (top 40) 527 270 pv3)++([tO [.int 0 549,.int 1 550],tO [.int 0 551,.int 1 552],tO [.ref 277,.ref 278]]++((dC (top 50) 557 280 pv4)++((dC (top 51) 564 287 pv4)++((dC (top 52) 572 294 pv4)++((dC (top 53) 579 301 pv4)++((dC (top 54) 586 308 pv4)++((dC (top 55) 594 315 pv4)++((dC (top 56) 603 322 pv4)++((dD (top 60) 619 329 pv5++((dC (top 61) 628 334 pv5)++((dC (top 62) 636 341 pv5)++((dD (top 63) 640 348 pv5++((dC (top 64) 649 353 pv5)++((dC (top 65) 658 360 pv5)++((dC (top 67) 667 367 pv6)++([tO [],#[.type "builtin_function_or_method",none,.fields (List.toArray [.builtin "type.__prepare__",.type "type"]),#[]],dO [ent P "__module__" 679 (.str "glideways.players" 662),ent P "__qualname__" 681 (.str "Player" 680),ent P "__firstlineno__" 683 (.int 186 682),ent P "__init__" 692 (.ref 387),ent P "play" 699 (.ref 394),ent P "pause" 706 (.ref 401),ent P "set_pace" 714 (.ref 408),ent P "seek" 722 (.ref 415),ent P "tick" 732 (.ref 422),ent P "kept_in" 740 (.ref 429),ent P "time" 747 (.ref 436),ent P "worth" 754 (.ref 443),ent P "is_over" 761 (.ref 450),ent P "all_heard" 768 (.ref 457),ent P "__static_attributes__" 776 (.ref 458)] 15,tO [],fO [.int 188 0,.int 4 0,.ref 386,.int 198 0,.int 4 0,.ref 393,.int 201 0,.int 4 0,.ref 400,.int 204 0,.int 4 0,.ref 407,.int 207 0,.int 4 0,.ref 414,.int 212 0,.int 4 0,.ref 421,.int 223 0,.int 4 0,.ref 428,.int 226 0,.int 4 0,.ref 435,.int 229 0,.int 4 0,.ref 442,.int 232 0,.int 4 0,.ref 449,.int 235 0,.int 4 0,.ref 456],#[.type "code",none,.fields (List.toArray [.str "Player" 674,.str "Player" 675,.str "/claim/cut.py" 676,.int 186 0,.int 0 0,.int 0 0,.int 0 0,.int 0 0,.ref 377,.bool false,.int 181 0,.ref 378,.none,.none,.none,.none,.int 677 0,.int 186 0,.str "/claim/cut.py" 678]),#[]],#[.type "frame",none,.plain,(List.toArray [some (.ref 379),some (.ref 3),some (.ref 376),none,some (.str "glideways.players" 662),none,some (.ref 0)])]]++(dM (meth 68 0) "Player.__init__" 687 381 pv6++(dM (meth 68 1) "Player.play" 696 388 pv6++(dM (meth 68 2) "Player.pause" 703 395 pv6++(dM (meth 68 3) "Player.set_pace" 710 402 pv6++(dM (meth 68 4) "Player.seek" 718 409 pv6++(dM (meth 68 5) "Player.tick" 726 416 pv6++(dM (meth 68 6) "Player.kept_in" 736 423 pv6++(dM (meth 68 7) "Player.time" 744 430 pv6++(dM (meth 68 8) "Player.worth" 751 437 pv6++(dM (meth 68 9) "Player.is_over" 758 444 pv6++(dM (meth 68 10) "Player.all_heard" 765 451 pv6++[tO (sqs 769 ["heard","last","marks","now","pace","plays","track"]),dO [ent P "__module__" 679 (.str "glideways.players" 662),ent P "__firstlineno__" 683 (.int 186 682),ent P "__init__" 692 (.ref 387),ent P "play" 699 (.ref 394),ent P "pause" 706 (.ref 401),ent P "set_pace" 714 (.ref 408),ent P "seek" 722 (.ref 415),ent P "tick" 732 (.ref 422),ent P "kept_in" 740 (.ref 429),ent P "time" 747 (.ref 436),ent P "worth" 754 (.ref 443),ent P "is_over" 761 (.ref 450),ent P "all_heard" 768 (.ref 457),ent P "__static_attributes__" 776 (.ref 458),ent P "__dict__" 778 (.ref 461),ent P "__weakref__" 780 (.ref 462),ent P "__doc__" 781 (.none)] 4,#[.type "type",none,.cls { name:="Player",bases:=[.type "object"],mro:=[.ref 460,.type "object"],ns:=459,qualname:="Player",hasDict:=true,slotNames:=[],subclasses:=[],abstract:=false,hasDel:=false },(List.toArray [none,none,some (.str "Player" 672),some (.str "Player" 680),some (.builtin "object.__new__"),some (.bool true)])],#[.type "getset_descriptor",none,.fields (List.toArray [.str "__dict__" 777,.ref 460,.builtin "function.__dict__",.builtin "function.__dict__#set"]),#[]],#[.type "getset_descriptor",none,.fields (List.toArray [.str "__weakref__" 779,.ref 460,.builtin "ExceptionGroup.__weakref__",.none]),#[]],#[.type "super",none,.fields (List.toArray [.ref 460,.ref 460,.ref 460]),#[]],#[.type "builtin_function_or_method",none,.fields (List.toArray [.builtin "object.__init_subclass__",.ref 460]),#[]]]++((dC (top 70) 789 465 pv7)++((dC (top 71) 797 472 pv7)++((dC (top 72) 807 479 pv7)++((dC (top 73) 815 486 pv7)++((dC (top 74) 824 493 pv7)++((dC (top 75) 833 500 pv7)++((dC (top 76) 842 507 pv7)++((dC (top 77) 850 514 pv7)++((dC (top 78) 858 521 pv7)++((dC (top 79) 866 528 pv7)++((dC (top 80) 874 535 pv7)++((dC (top 81) 882 542 pv7)++((dC (top 82) 890 549 pv7)++((dC (top 83) 900 556 pv7)++((dC (top 84) 911 563 pv7)++((dC (top 85) 931 570 pv7)++((dC (top 86) 941 577 pv7)++((dC (top 87) 956 584 pv7)++((dC (top 88) 965 591 pv7)++((dC (top 89) 975 598 pv7)++((dC (top 90) 983 605 pv7)++((dD (top 91) 989 612 pv7++(dD (top 92) 995 617 pv7)))))))))))))))))))))))))))))))))))))))))))))))))))))))))))))))))))))))))))))))))))))))))
abbrev l0(P:Params):List Obj:=put 12 (fO (twelve.take 0)) (put 3 (JCD P 9 9 (.str "__main__" 164)) ((ob P).take 15))
abbrev l1(P:Params):List Obj:=put 31 (gE []) (put 12 (fO (twelve.take 6)) (put 3 (JCD P 11 11 (.str "glideways.errors" 194)) ((ob P).take 35)))
@[reducible]def PR(a b:Nat)(l:Params->List Obj)(n k d t:Nat)(c:Pos)(l2:Params->List Obj)(n2 k2:Nat)(c2:Pos):Prop:=∀(w:World) (os:OsState),segRunT treeTable prog w 11 (some (.ref 6)) a b (sT (l w.params) n k os) (piecesOf ((prog.main.body.drop d).take t) (envOf prog) (cdOf prog) c [topFrame rP])=some (.next,sT (l2 w.params) n2 k2 os,cdOf prog,c2)
def p0:PR 1 225 l0 15 187 0 3 #[0,0,0,0] l1 35 214 #[5,0,6,8]:=λw os=>by kernel_rfl
abbrev l2(P:Params):List Obj:=put 31 (gE [.ref 44]) (put 12 (fO (twelve.take 9)) (put 3 (JCD P 12 12 (.str "glideways.errors" 194)) ((ob P).take 47)))
def p1:PR 1 214 l1 35 214 3 1 #[5,0,6,8] l2 47 230 #[7,0,8,8]:=λw os=>by kernel_rfl
abbrev l3(P:Params):List Obj:=put 31 (gE [.ref 44,.ref 56]) (put 12 (fO (twelve.take 12)) (put 3 (JCD P 13 13 (.str "glideways.errors" 194)) ((ob P).take 59)))
def p2:PR 1 214 l2 47 230 4 1 #[7,0,8,8] l3 59 246 #[9,0,10,8]:=λw os=>by kernel_rfl
abbrev l4(P:Params):List Obj:=put 31 (gE [.ref 44,.ref 56,.ref 68]) (put 12 (fO (twelve.take 15)) (put 3 (JCD P 14 14 (.str "glideways.errors" 194)) ((ob P).take 71)))
def p3:PR 1 214 l3 59 246 5 1 #[9,0,10,8] l4 71 262 #[11,0,12,8]:=λw os=>by kernel_rfl
abbrev l5(P:Params):List Obj:=put 31 (gE [.ref 44,.ref 56,.ref 68,.ref 80]) (put 12 (fO (twelve.take 18)) (put 3 (JCD P 15 15 (.str "glideways.errors" 194)) ((ob P).take 83)))
def p4:PR 1 214 l4 71 262 6 1 #[11,0,12,8] l5 83 278 #[13,0,14,8]:=λw os=>by kernel_rfl
abbrev l6(P:Params):List Obj:=put 31 (gE [.ref 44,.ref 56,.ref 68,.ref 80,.ref 92]) (put 12 (fO (twelve.take 21)) (put 3 (JCD P 16 16 (.str "glideways.errors" 194)) ((ob P).take 95)))
def p5:PR 1 214 l5 83 278 7 1 #[13,0,14,8] l6 95 294 #[15,0,16,8]:=λw os=>by kernel_rfl
abbrev l7(P:Params):List Obj:=put 31 (gE [.ref 44,.ref 56,.ref 68,.ref 80,.ref 92,.ref 104]) (put 12 (fO (twelve.take 24)) (put 3 (JCD P 17 17 (.str "glideways.errors" 194)) ((ob P).take 107)))
def p6:PR 1 214 l6 95 294 8 1 #[15,0,16,8] l7 107 310 #[17,0,18,8]:=λw os=>by kernel_rfl
abbrev l8(P:Params):List Obj:=put 12 (fO (twelve.take 42)) (put 3 (JCD P 25 25 (.str "glideways.fracs" 326)) ((ob P).take 156))
def p7:PR 1 400 l7 107 310 9 9 #[17,0,18,8] l8 156 377 #[44,0,50,43]:=λw os=>by kernel_rfl
abbrev l9(P:Params):List Obj:=put 12 (fO (twelve.take 81)) (put 3 (JCD P 40 40 (.str "glideways.marks" 451)) ((ob P).take 241))
def p8:PR 1 409 l8 156 377 18 16 #[44,0,50,43] l9 241 484 #[89,0,90,104]:=λw os=>by kernel_rfl
abbrev l10(P:Params):List Obj:=put 12 (fO (twelve.take 111)) (put 3 (JCD P 59 59 (.str "glideways.motions" 533)) ((ob P).take 315))
def p9:PR 1 413 l9 241 484 34 21 #[89,0,90,104] l10 315 591 #[140,0,141,57]:=λw os=>by kernel_rfl
abbrev l11(P:Params):List Obj:=put 12 (fO (twelve.take 138)) (put 3 (JCD P 70 70 (.str "glideways.players" 662)) ((ob P).take 374))
def p10:PR 1 304 l10 315 591 55 13 #[140,0,141,57] l11 374 672 #[183,0,185,58]:=λw os=>by kernel_rfl
abbrev l12(P:Params):List Obj:=put 12 (fO (twelve.take 141)) (put 3 (JCD P 71 71 (.str "glideways.players" 662)) ((ob P).take 465))
def p11:PR 1 546 l11 374 672 68 1 #[183,0,185,58] l12 465 784 #[186,0,236,16]:=λw os=>by kernel_rfl
abbrev l13(P:Params):List Obj:=put 12 (fO (twelve.take 180)) (put 3 (JCD P 84 84 (.str "law_glideways_k73_whole_forth_and_back" 784)) ((ob P).take 556))
def p12:PR 1 407 l12 465 784 69 14 #[186,0,236,16] l13 556 897 #[272,0,286,124]:=λw os=>by kernel_rfl
abbrev l14(P:Params):List Obj:=ob P
def p13:PR 1 321 l13 556 897 83 10 #[272,0,286,124] l14 622 1001 #[377,0,383,15]:=λw os=>by kernel_rfl
def pre(w:World)(os:OsState):topGo treeTable prog w 11 (some (.ref 6)) 12 #[boot_heap w.params,Array.mk [],boot_drawn,boot_toks,os] (topStub prog)=some (sH (l0 w.params) 187 os,#[denote treeTable (cdOf prog),cdOf prog,#[0,0,0,0],[topFrame rP]]):=by kernel_rfl
def blk(w:World)(os:OsState):segRun treeTable prog w 11 (some (.ref 6)) 1 1 (sH (l0 w.params) 187 os) (blockOf (behindTheImports prog) (envOf prog) (cdOf prog) #[0,0,0,0] [topFrame rP])=some (.next,(sT (l0 w.params) 15 187 os).abs,cdOf prog,#[0,0,0,0]):=by kernel_rfl
def fin(w:World)(os:OsState):topRun treeTable prog w 11 (some (.ref 6)) 2 (sT (l14 w.params) 622 1001 os).abs #[doneF .next,cdOf prog,#[377,0,383,15],[topFrame rP]]=some (sH (l14 w.params) 1001 os):=by kernel_rfl
theorem body:behindTheImports prog=(((prog.main.body.drop 0).take 3)++(((prog.main.body.drop 3).take 1)++(((prog.main.body.drop 4).take 1)++(((prog.main.body.drop 5).take 1)++(((prog.main.body.drop 6).take 1)++(((prog.main.body.drop 7).take 1)++(((prog.main.body.drop 8).take 1)++(((prog.main.body.drop 9).take 9)++(((prog.main.body.drop 18).take 16)++(((prog.main.body.drop 34).take 21)++(((prog.main.body.drop 55).take 13)++(((prog.main.body.drop 68).take 1)++(((prog.main.body.drop 69).take 14)++(((prog.main.body.drop 83).take 10)++[])))))))))))))):=by kernel_rfl
def rn(w:World)(os:OsState):topRun treeTable prog w 11 (some (.ref 6)) (12+(1+(225+(214+(214+(214+(214+(214+(214+(400+(409+(413+(304+(546+(407+(321+2)))))))))))))))) #[boot_heap w.params,Array.mk [],boot_drawn,boot_toks,os] (topStub prog)=some (sH (l14 w.params) 1001 os) :=
 go_top (pre w os) (piece_block (blk w os) (body▸(piece_app (segRun_of (p0 w os)) (piece_app (segRun_of (p1 w os)) (piece_app (segRun_of (p2 w os)) (piece_app (segRun_of (p3 w os)) (piece_app (segRun_of (p4 w os)) (piece_app (segRun_of (p5 w os)) (piece_app (segRun_of (p6 w os)) (piece_app (segRun_of (p7 w os)) (piece_app (segRun_of (p8 w os)) (piece_app (segRun_of (p9 w os)) (piece_app (segRun_of (p10 w os)) (piece_app (segRun_of (p11 w os)) (piece_app (segRun_of (p12 w os)) (piece_app (segRun_of (p13 w os)) (piece_nil (fin w os))))))))))))))))))
abbrev ktok:Nat:=1001
abbrev view:Program:={ prog with main:={ prog.main with body:=[top 92] } }
abbrev loose:List Str:=(nt.drop 9).dropLast.map λp=>Str.ofString p.1
abbrev K(P:Params):Frag:=(List.range 622).zip (ob P)
abbrev hk:Hook:=kHook K (List.range 622) (λ_=>by kernel_rfl)
def left:LeftO prog view loose (λs=>xlAt view [] s&&recOk (RowW.records PySem.Challenge.rw_glideways_k73_whole_forth_and_back.row.toRowW) s) hk.obs hk.val 9316 true :=
 LeftO.of_pieces (H₀:=boot_heap) (H₁:=λP=>#[(l14 P).toArray,{}]) (gs₀:=Array.mk []) (gs₁:=#[]) (d₀:=boot_drawn) (d₁:={}) (k₀:=boot_toks) (k₁:=ktok) (m₀:=11) (ann:=some (.ref 6))
  (boot_open (by kernel_rfl) (by decide) (λs=>by kernel_rfl)) (λw=>by kernel_rfl) (λw os=>rn w os) (by decide +kernel) (λw=>by kernel_rfl)
abbrev G:List (Str×GK):=gX [("GlideError",0),("NoFrac",1),("NoKind",2),("NoPlan",3),("NoTrack",4),("NoTime",5),("NoName",6),("NoText",7)]++(gF [("is_whole",23),("common_divisor",0),("is_frac",24),("is_size",68),("frac",1),("whole",2),("plus",3),("minus",4),("times",5),("over",25),("is_less",6),("least_frac",7),("most_frac",8),("between",10),("marks_till",218),("by_times",219),("labels_forth",220),("labels_back",221),("passed",222),("is_kind",29),("need_kind",30),("kept_within",31),("eased",32),("are_speeds",69),("go_together",70),("is_motion",71),("end_of",72),("part_at",46),("worth_at",48),("kept_worth",49),("is_track",81),("none_overlap",82),("end_time",83),("begun_by",96),("worth_of",97),("need_track",85),("last_time",257),("_law_cell",11),("_law_pick",12),("_law_divisor",13),("_law_made",14),("_law_frac",15),("_law_size",16),("_law_plus",17),("_law_times",19),("_law_less",21),("_law_kind",35),("_law_motion",51),("_law_track",88),("_law_word",26)]++(gC [("ZERO",39),("ONE",40),("TIME",128),("LABEL",226),("KINDS",41),("START",55),("GOAL",56),("BEGIN",57),("LONG",58),("KIND",59),("SPEEDS",60),("KEPT",61),("NO_SPEEDS",77),("FIRST",93),("MOTIONS",94)]++([(("len":Str),GK.blt Blt.len),(("abs":Str),GK.blt Blt.abs),(("all":Str),GK.blt Blt.all),(("range":Str),GK.rng),(("isinstance":Str),GK.isi),(("reversed":Str),GK.nam),(("sorted":Str),GK.nam),(("int":Str),GK.ty Ty.int),(("bool":Str),GK.ty Ty.bool),(("list":Str),GK.ty Ty.list),(("tuple":Str),GK.ty Ty.tuple),(("ValueError":Str),GK.ty Ty.valueError)]++gO [".ext",".ins",".met",".rvs",".rev",".srt"])))
abbrev Gr:List (Str×GK):=[(("track":Str),GK.rcf 262),(("marks":Str),GK.rcf 263),(("last":Str),GK.rcf 264),(("now":Str),GK.rcf 265),(("pace":Str),GK.rcf 266),(("plays":Str),GK.rcf 267),(("kept_in":Str),GK.rcm 268 269),(("time":Str),GK.rcm 270 271),(("worth":Str),GK.rcm 272 273),((".rec":Str),GK.opt)]
noncomputable abbrev G1:List (Str×GK):=G++Gr
instance:Cool G:=#[by kernel_rfl]
instance:Cool G1:=#[by kernel_rfl]
abbrev L:List (Str×GK3):=[(("tick":Str),GK3.met 276),(("set_pace":Str),GK3.met 278),(("play":Str),GK3.met 279),(("Player":Str),GK3.mak 282),(("_law_bad_player":Str),GK3.fn 284),(("_law_once":Str),GK3.fn 285)]
abbrev κ:Kl:=#[460,["heard"]]
abbrev fl:List Str:=["track","marks","last","now","pace","plays","heard"]
noncomputable abbrev tab:Nat->Option Fd:=tabA
noncomputable abbrev glo:Nat->R D:=gloA
def JHo:∀i c,glo i≠.exc c:=by
 intro i c h;unfold glo gloA at h
 split at h<;>cases h
abbrev rs:List (Nat×List Nat):=[(4,[0,4])]
abbrev cl(k:Nat):Addr:=match k with|0=>31|1=>44|2=>56|3=>68|4=>80|5=>92|6=>104|7=>116|_=>0
noncomputable abbrev Bq(w:World):Bs:=#[K w.params,cl,w,λ_ _ _=>False,λ_ _ _ _ _ h=>h]
abbrev pm0:Value:=.str "glideways.fracs" 326
abbrev pm1:Value:=.str "glideways.marks" 451
abbrev pm2:Value:=.str "glideways.kinds" 494
abbrev pm3:Value:=.str "glideways.motions" 533
abbrev pm4:Value:=.str "glideways.tracks" 613
abbrev pm5:Value:=.str "glideways.players" 662
abbrev pm6:Value:=.str "law_glideways_k73_whole_forth_and_back" 784
def mo(w:World)(ρ:Tb){h:Heap}{mg:Mq}(X:(K w.params).In h)(Gm:h.Ns mainGlobals mg):AllP (MoP mg (JAD κ (Bq w) ρ) G tab glo) G :=
 #[#[#[by kernel_rfl,by kernel_rfl,by kernel_rfl],mg_of X Gm (by kernel_rfl)],#[#[by kernel_rfl,by kernel_rfl,by kernel_rfl],mg_of X Gm (by kernel_rfl)],#[#[by kernel_rfl,by kernel_rfl,by kernel_rfl],mg_of X Gm (by kernel_rfl)],#[#[by kernel_rfl,by kernel_rfl,by kernel_rfl],mg_of X Gm (by kernel_rfl)],#[#[by kernel_rfl,by kernel_rfl,by kernel_rfl],mg_of X Gm (by kernel_rfl)],#[#[by kernel_rfl,by kernel_rfl,by kernel_rfl],mg_of X Gm (by kernel_rfl)],#[#[by kernel_rfl,by kernel_rfl,by kernel_rfl],mg_of X Gm (by kernel_rfl)],#[#[by kernel_rfl,by kernel_rfl,by kernel_rfl],mg_of X Gm (by kernel_rfl)],#[_,rfl,dJ X Gm 127 pm0 (top 13)],#[_,rfl,dJ X Gm 134 pm0 (top 14)],#[_,rfl,dJ X Gm 141 pm0 (top 15)],#[_,rfl,dJ X Gm 148 pm0 (top 16)],#[_,rfl,dJ X Gm 155 pm0 (top 17)],#[_,rfl,dJ X Gm 162 pm0 (top 18)],#[_,rfl,dJ X Gm 169 pm0 (top 19)],#[_,rfl,dJ X Gm 176 pm0 (top 20)],#[_,rfl,dJ X Gm 183 pm0 (top 21)],#[_,rfl,dJ X Gm 190 pm0 (top 22)],#[_,rfl,dJ X Gm 197 pm0 (top 23)],#[_,rfl,dJ X Gm 204 pm0 (top 24)],#[_,rfl,dJ X Gm 211 pm0 (top 25)],#[_,rfl,dJ X Gm 218 pm0 (top 26)],#[_,rfl,dJ X Gm 223 pm1 (top 30)],#[_,rfl,dJ X Gm 230 pm1 (top 31)],#[_,rfl,dJ X Gm 235 pm1 (top 32)],#[_,rfl,dJ X Gm 240 pm1 (top 33)],#[_,rfl,dJ X Gm 247 pm1 (top 34)],#[_,rfl,dJ X Gm 255 pm2 (top 37)],#[_,rfl,dJ X Gm 262 pm2 (top 38)],#[_,rfl,dJ X Gm 269 pm2 (top 39)],#[_,rfl,dJ X Gm 276 pm2 (top 40)],#[_,rfl,dJ X Gm 286 pm3 (top 50)],#[_,rfl,dJ X Gm 293 pm3 (top 51)],#[_,rfl,dJ X Gm 300 pm3 (top 52)],#[_,rfl,dJ X Gm 307 pm3 (top 53)],#[_,rfl,dJ X Gm 314 pm3 (top 54)],#[_,rfl,dJ X Gm 321 pm3 (top 55)],#[_,rfl,dJ X Gm 328 pm3 (top 56)],#[_,rfl,dJ X Gm 333 pm4 (top 60)],#[_,rfl,dJ X Gm 340 pm4 (top 61)],#[_,rfl,dJ X Gm 347 pm4 (top 62)],#[_,rfl,dJ X Gm 352 pm4 (top 63)],#[_,rfl,dJ X Gm 359 pm4 (top 64)],#[_,rfl,dJ X Gm 366 pm4 (top 65)],#[_,rfl,dJ X Gm 373 pm5 (top 67)],#[_,rfl,dJ X Gm 471 pm6 (top 70)],#[_,rfl,dJ X Gm 478 pm6 (top 71)],#[_,rfl,dJ X Gm 485 pm6 (top 72)],#[_,rfl,dJ X Gm 492 pm6 (top 73)],#[_,rfl,dJ X Gm 499 pm6 (top 74)],#[_,rfl,dJ X Gm 506 pm6 (top 75)],#[_,rfl,dJ X Gm 513 pm6 (top 76)],#[_,rfl,dJ X Gm 527 pm6 (top 78)],#[_,rfl,dJ X Gm 541 pm6 (top 80)],#[_,rfl,dJ X Gm 548 pm6 (top 81)],#[_,rfl,dJ X Gm 562 pm6 (top 83)],#[_,rfl,dJ X Gm 583 pm6 (top 86)],#[_,rfl,dJ X Gm 604 pm6 (top 89)],cJ X Gm rfl,cJ X Gm rfl,cJ X Gm rfl,cJ X Gm rfl,cJ X Gm rfl,cJ X Gm rfl,cJ X Gm rfl,cJ X Gm rfl,cJ X Gm rfl,cJ X Gm rfl,cJ X Gm rfl,cJ X Gm rfl,cJ X Gm rfl,cJ X Gm rfl,cJ X Gm rfl,mg_none_of X Gm (by kernel_rfl),mg_none_of X Gm (by kernel_rfl),mg_none_of X Gm (by kernel_rfl),mg_none_of X Gm (by kernel_rfl),mg_none_of X Gm (by kernel_rfl),mg_none_of X Gm (by kernel_rfl),mg_none_of X Gm (by kernel_rfl),mg_none_of X Gm (by kernel_rfl),mg_none_of X Gm (by kernel_rfl),mg_none_of X Gm (by kernel_rfl),mg_none_of X Gm (by kernel_rfl),mg_none_of X Gm (by kernel_rfl),trivial,trivial,trivial,trivial,trivial,trivial,trivial]
def ra(w:World)(ρ:Tb):AllR (RaP (JAD κ (Bq w) ρ) G) rs :=
 #[#[#[#[by kernel_rfl,by kernel_rfl,by kernel_rfl,by kernel_rfl,by kernel_rfl,by kernel_rfl,by kernel_rfl],by kernel_rfl],JPe (by kernel_rfl) (by kernel_rfl),JHL (by kernel_rfl),JHL (by kernel_rfl),JHL (by kernel_rfl),JPe (by kernel_rfl) (by kernel_rfl),JHL (by kernel_rfl),JHL (by kernel_rfl),JHL (by kernel_rfl),JIm (by kernel_rfl)],trivial]
def rc(P:Params):AllP (RcP κ (K P) kR tabR G1) Gr :=
 #[#[rfl,naI,rfl],#[rfl,naI,rfl],#[rfl,naI,rfl],#[rfl,naI,rfl],#[rfl,naI,rfl],#[rfl,naI,rfl],#[rfl,rfl,rJ "Player.kept_in" 429 pm5 (meth 68 6) rfl],#[rfl,rfl,rJ "Player.time" 436 pm5 (meth 68 7) rfl],#[rfl,rfl,rJ "Player.worth" 443 pm5 (meth 68 8) rfl],trivial,trivial]
def r3(w:World){h:Heap}{mg:Mq}(X:(K w.params).In h)(Gm:h.Ns mainGlobals mg):AllL (R3P mg κ (K w.params) tab3 G1 L fl) L :=
 #[m3J (x:="tick") "Player.tick" 422 pm5 (meth 68 5) mthI rfl,m3J (x:="set_pace") "Player.set_pace" 408 pm5 (meth 68 3) mthI rfl,m3J (x:="play") "Player.play" 394 pm5 (meth 68 1) mthI rfl,#[mg_of X Gm (by kernel_rfl),m3J (x:="__init__") "Player.__init__" 387 pm5 (meth 68 0) #[by kernel_rfl,by kernel_rfl,by kernel_rfl,by kernel_rfl] rfl],f3J X Gm 611 pm6 (top 90) rfl,f3J X Gm 616 pm6 (top 91) rfl,trivial]
def mo3(w:World){h:Heap}{mg:Mq}(X:(K w.params).In h)(Gm:h.Ns mainGlobals mg):Mo3 mg κ (Bq w) kR tab tabR tab3 glo (JD4 rs) G G1 L fl :=
 JPb (λρ=>mo w ρ X Gm) (λρ=>ra w ρ) JHo (by kernel_rfl) (rc w.params) (r3 w X Gm) #[by kernel_rfl,by kernel_rfl,by kernel_rfl,by kernel_rfl] (JEP #[naI,trivial]) (JEP #[naI,naI,naI,naI,naI,naI,naI,trivial])
def walk{d:DefRec}(hd:d.name="law")(hdf:d.params.defaults=[]):WalkO view loose (XL view []) hk.says PySem.Challenge.rw_glideways_k73_whole_forth_and_back.row.toRowW d [] (λf vs=>PySem.call f vs) :=
 L2.walk_of (l:=PySem.Challenge.rw_glideways_k73_whole_forth_and_back) (n:=63) (k:=28) (x:="_law_script") (K:=K) (CX:=λ_=>CX0) (sp:=λw=>JNx (K w.params)) rfl (by decide) hdf #[rfl,by decide,by decide] (λw h Y0=>kIn_of Y0)
  (by rw[hd];exact λw mg fa h kb nb hmg=>JO7 (n:=13) (κ:=κ) (L:=L) (fl:=fl) (G0:=G) (G1:=G1) (i:=286) (fd:=JNV) (st:=top 92) (N:=["_law_script","_law_turn"]) (cl:=cl) (tab:=tab) (glo:=glo) (sub:=JD4 rs) kb nb hmg (fnI 621 620 (.str "law_glideways_k73_whole_forth_and_back" 784)) t3I rfl (λbase kb nb=>mo3 w kb nb) (λρ n=>#[JIk (JMP (mo w ρ kb nb) (ra w ρ)) (λk z=>by cases k with|rev=>exact JQY|srt=>exact JQy) #[λ_ X XX g=>JIi g,λ_ X XX g=>JHy g,JMk,JM3] (nofl (by kernel_rfl)),#[nofl (by kernel_rfl),JMU,JMc]]) (λρ n=>#[JIk (JOS (JMP (mo w ρ kb nb) (ra w ρ)) (rc w.params)) (λk z=>by cases k with|rev=>exact JQY|srt=>exact JQy) #[λ_ X XX g=>JIi g,λ_ X XX g=>JHy g,JMk,JM3] (λ_ X XX g e q args y h1 h2 h3=>r_rcd g e q args y h1 h2 h3),#[nofl (by kernel_rfl),JMU,JMc]]) (λ_ _ _ _ _ _ _ _=>.of_eq rfl) (λns hl=>JLg (n:=0) #[rfl,rfl,rfl,rfl,rfl,rfl,rfl,rfl,rfl] ns hl))
  (λ_ _ a ns hl _ hS=>#[a,ns,rfl,hl,hS,λ_=>rfl]) λ_ _ _ _ _ z=>z
end V73
open PySem PySem.W PyProof.Rows
set_option maxRecDepth 100000 in
set_option maxHeartbeats 0 in
theorem PySem.Challenge.cw_glideways_k73_whole_forth_and_back_holds : PySem.Challenge.rw_glideways_k73_whole_forth_and_back.Holds := by
 w_on
 refine holds_law V73.said λsaid=>?_;refine holds_open (q:=V73.view) (loose:=V73.loose) (XP:=XL V73.view []) (Yf:=V73.hk.obs) (Ya:=V73.hk.val) (YP:=V73.hk.says) V73.left V73.hk.of V73.hk.keeps (λs e=>xl_of s (Bool.and_eq_true_iff.mp e).1) XL.keeps (by rfl) (by rfl) (by rfl) (λs e=>recFacts_of (Bool.and_eq_true_iff.mp e).2) (by rfl) (by first|assumption|decide +kernel) (by decide +kernel) #[rfl,rfl,rfl,rfl,rfl,by decide +kernel] ?hw (V73.walk rfl rfl)
 case hw=>w_witness2
end
