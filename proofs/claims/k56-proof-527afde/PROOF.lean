import PyProof.Rows.All
import Wide.All
import OpenK.AllK
import Wide.FinOn
import Lean
import PyProof.EqAt
import PyProof.EqKinds
import PyProof.TupleCall
import KE.KDictList
import KE.KDictOf
import KE.KEqDict
import KE.KIsAll
import KE.KLam
import KE.KTryMore
import OpenK.KRaise
import PyProof.AttrMiss
import PyProof.CompFree
import PyProof.ConsumeWalk
import PyProof.DictWalks
import PyProof.ExcAttrAll.ValueError
import PyProof.FactsAll.list_3
import PyProof.FactsAll.tuple_2
import PyProof.Fits
import PyProof.IsiH_list
import PyProof.Lay0
import PyProof.MeetsDictList
import PyProof.P3Statements
import PyProof.Rows.SortStr
import PyProof.StrWalks
import PySem.Eval
import PySem.Challenge.RW_glideways_k56_whole_scores
set_option genInjectivity false
set_option genSizeOf false
local macro_rules|`(#v[])=>`(.nil)|`(#v[$a])=>`(.cons $a .nil)|`(#v[$a,$t,*])=>`(.cons $a #v[$t,*])
local macro_rules|`(⋯)=>`(by kernel_rfl)
local macro_rules|`(tactic|simp![$ts,*])=>`(tactic|simp only [$ts,*])|`(tactic|simp![$ts,*]$l:location)=>`(tactic|simp only [$ts,*]$l)
def fF{p:Prop}(h:False):p:=h.elim
@[reducible]def Pq:=List (PySem.Addr×PySem.Obj)
@[reducible]def Nq:=List (PySem.Str×PySem.NameKind)
@[reducible]def Mq:=PySem.Str->Option PySem.Value
@[reducible]def Vq:=PySem.Value->PySem.Shared->Prop
@[reducible]def Kq:=PySem.W.Frag
def q_a:=@Option.bind_eq_some_iff
def q_b:=@PySem.wpAny_bind
def q_c:=@PySem.Heap.get?_push_of_some
def q_d:=@Option.map_eq_some_iff
def q_e:=@PySem.wpAny_pure
def q_f:=@List.size_toArray
def q_g:=@List.length_map
def q_h:=@PySem.Heap.lt_size
def q_i:=@Bool.and_eq_true
def q_j:=@Option.some.injEq
def q_k:=@PySem.Heap.get?_push_size
def q_l:=@Nat.ne_of_lt
def q_m:=@Nat.lt_of_lt_of_le
def q_n:=@List.mem_cons
def q_o:=@decide_eq_false
def q_p:=@List.getElem?_eq_some_iff
def q_q:=@List.getElem?_eq_getElem
def q_r:=@List.mem_append_right
def q_s:=@List.mem_cons_of_mem
def q_t:=@Nat.le_refl
def q_u:=@List.length_append
def q_v:=@Bool.false_eq_true
def q_y:=@List.getElem?_set_self
def q_z:=@List.getElem?_set_ne
def q_A:=@List.length_eq_zero_iff
def q_B:=@List.getElem?_append_left
def q_C:=@decide_eq_true_eq
def q_D:=@Nat.lt_succ_of_lt
def q_E:=@Array.length_toList
local macro_rules(kind:=Lean.Parser.Command.declaration)|x=>do
 if x[1].isOfKind ``Lean.Parser.Command.abbrev&&x[0].getArgs.all (·.isNone) then
  let y<-`(command|noncomputable def a:=0)
  return y.raw.setArg 1 (y.raw[1].setArgs (#[y.raw[1][0]]++x[1].getArgs.extract 1 4++#[y.raw[1][4]]))
 else Lean.Macro.throwUnsupported
local macro_rules|`(#[$t,*])=>if t.getElems.isEmpty then Lean.Macro.throwUnsupported else`(⟨$t,*⟩)
local macro_rules|`(∅)=>`(by omega)
set_option Elab.async false
set_option compiler.extract_closed false
set_option bootstrap.genMatcherCode false
set_option maxRecDepth 100000 in set_option maxHeartbeats 0 in theorem V56.said:PySem.Challenge.rw_glideways_k56_whole_scores.wellSaid=true:=by kernel_rfl
set_option maxRecDepth 100000
set_option Elab.async false
set_option linter.all false
namespace L2
open PySem PySem.Spec PyProof.Rows
noncomputable abbrev Key:=Sum Int Str
abbrev JJB:Key->Value->Bool
 |.inl k,v=>Value.isInt k v
 |.inr x,v=>Value.isStrOf x v
abbrev keyH(w:World):Key->Int
 |.inl k=>hashInt k
 |.inr x=>hashStr w x
def JAh:∀ {k:Key}{v:Value},JJB k v=true->(∃i t,k=Sum.inl i/\v=Value.int i t)\/(∃x t,k=Sum.inr x/\v=Value.str x t)
 |.inl i,v,h=>by
  obtain⟨t,e⟩:=Value.isInt_shape (k:=i) (v:=v) h;exact .inl #[i,t,rfl,e]
 |.inr x,v,h=>by
  obtain⟨t,e⟩:=Value.isStrOf_shape (x:=x) (v:=v) h;exact .inr #[x,t,rfl,e]
def JJF(x:Str)(t:Tok):JJB (.inr x) (.str x t)=true:=by simp[JJB,Value.isStrOf]
def JSu(a b:Int):decide ((Sum.inl a:Key)=Sum.inl b)=(a==b):=by
 by_cases e:a=b
 ·subst e;simp
 ·have h:¬(Sum.inl a:Key)=Sum.inl b:=λq=>e (Sum.inl.inj q);rw[q_o h];exact(beq_eq_false_iff_ne.mpr e).symm
def JS4(a b:Str):decide ((Sum.inr a:Key)=Sum.inr b)=decide (a=b):=by
 by_cases e:a=b
 ·subst e;simp
 ·have h:¬(Sum.inr a:Key)=Sum.inr b:=λq=>e (Sum.inr.inj q);rw[q_o h,q_o e]
def JSe(a:Int)(b:Str):decide ((Sum.inl a:Key)=Sum.inr b)=false:=q_o (λq=>nomatch q)
def JRj(a:Str)(b:Int):decide ((Sum.inr a:Key)=Sum.inl b)=false:=q_o (λq=>nomatch q)
abbrev JAQ(prog:Program)(w:World):PySem.KeyKind prog w Key where
 is:=JJB
 hash:=keyH w
 inj:=λv a b ha hb=>by
  rcases JAh ha with ⟨i,t,rfl,rfl⟩|⟨x,t,rfl,rfl⟩
  ·rcases JAh hb with ⟨j,u,rfl,e⟩|⟨y,u,rfl,e⟩
   ·injection e with e1 _;rw[e1]
   ·exact nomatch e
  ·rcases JAh hb with ⟨j,u,rfl,e⟩|⟨y,u,rfl,e⟩
   ·exact nomatch e
   ·injection e with e1 _;rw[e1]
 byValue:=λk v h=>by
  rcases JAh h with ⟨i,t,rfl,rfl⟩|⟨x,t,rfl,rfl⟩<;>rfl
 pyHash:=λhv h=>by
  rcases JAh hv with ⟨i,t,rfl,rfl⟩|⟨x,t,rfl,rfl⟩
  ·exact wpAny_pyHash_int h
  ·exact wpAny_pyHash_str h
 eqBool:=λhu hv h=>by
  rcases JAh hu with ⟨i,t,rfl,rfl⟩|⟨x,t,rfl,rfl⟩
  ·rcases JAh hv with ⟨j,u,rfl,rfl⟩|⟨y,u,rfl,rfl⟩
   ·rw[JSu]at h;exact wpAny_eqBool_int h
   ·rw[JSe]at h;exact SeqAt.EqAt.int_str i t y u _ _ _ _ h
  ·rcases JAh hv with ⟨j,u,rfl,rfl⟩|⟨y,u,rfl,rfl⟩
   ·rw[JRj]at h;exact SeqAt.EqAt.str_int x t j u _ _ _ _ h
   ·rw[JS4]at h;exact wpAny_eqBool_str h
 «strs»:=λk x t v h=>by
  rcases JAh h with ⟨i,u,rfl,e⟩|⟨y,u,rfl,e⟩
  ·exact nomatch e
  ·injection e with e1 _
   subst e1;cases v<;>rfl
def JHt(prog:Program)(w:World)(k:Key)(v:Value):(JAQ prog w).is k v=JJB k v:=rfl
def JAY(prog:Program)(w:World)(x:Str)(t:Tok):(JAQ prog w).is (.inr x) (.str x t)=true:=JJF x t
end L2
namespace L2
open PySem PySem.Spec PyProof.Rows
inductive V where
 |non|bl (b:Bool)|int (i:Int)|str (x:Str)|byt (b:Array UInt8)|flt (b:UInt64)|ref (a:Addr)|ty (n:String)
 deriving DecidableEq
def RelV:V->Value->Prop
 |.non,u=>u=Value.none
 |.bl b,u=>u=Value.bool b
 |.int i,u=>∃t,u=Value.int i t
 |.str x,u=>∃t,u=Value.str x t
 |.byt b,u=>∃t,u=Value.bytes b t
 |.flt b,u=>∃t,u=Value.float b t
 |.ref a,u=>u=Value.ref a
 |.ty n,u=>u=Value.type n
@[reducible]def Vals:List V->List Value->Prop:=Paired RelV
theorem Vals.length{xs:List V}{us:List Value}(r:Vals xs us):xs.length=us.length:=Paired.length r
theorem Vals.get:∀ {xs:List V}{us:List Value}{i:Nat}{x:V},Vals xs us->xs[i]? = some x->∃u,us[i]? = some u/\RelV x u
 |_,_,_,_,.nil,e=>by simp at e
 |_,_,0,_,.cons r _,e=>by simp at e;subst e;exact#[_,rfl,r]
 |_,_,i+1,x,.cons _ t,e=>by
  obtain⟨u,h1,h2⟩:=Vals.get (i:=i) (x:=x) t (by simpa using e)
  exact#[u,by simpa using h1,h2]
theorem Vals.append:∀ {xs ys:List V}{us ws:List Value},Vals xs us->Vals ys ws->Vals (xs++ys) (us++ws)
 |_,_,_,_,.nil,s=>s
 |_,_,_,_,.cons r t,s=>.cons r (Vals.append t s)
def RelO:Option V->Option Value->Prop
 |some v,some u=>RelV v u
 |none,none=>True
 |_,_=>False
def KV{κ:Type}:List (κ×V)->List (κ×Value)->Prop:=Paired λ(p:κ×V) (q:κ×Value)=>p.1=q.1/\RelV p.2 q.2
abbrev kV:Key->V
 |.inl i=>.int i
 |.inr x=>.str x
set_option genInjectivity true in
inductive HO where
 |lst (xs:List V)
 |tup (xs:List V)
 |dK (kvs:List (Key×V))|dT (kvs:List (List Key×V))
 |set (S:Int->Bool) (n:Nat)
 |ins (C dx:Addr) (fs:List (Str×V))
 |own (x:Addr)
 |xd (fs:List (Str×V))
 |met (f x:Addr)
 |rng (lo hi:Int)
 |frz (o:Obj) (u:HO)
 |tbl (ps:Array Value)
 |ext (φ:Heap->Prop)
noncomputable abbrev Hp:=Addr->Option HO
abbrev upd(H:Hp)(a:Addr)(o:HO):Hp:=λb=>if b=a then some o else H b
def JAF{H:Hp}{a:Addr}{o:HO}:upd H a o a=some o:=by unfold upd;rw[if_pos rfl]
def JAI{H:Hp}{a b:Addr}{o:HO}(h:b≠a):upd H a o b=H b:=by unfold upd;rw[if_neg h]
def JGX{a:Addr}:upd (upd H a o) a u=upd H a u:=by
 funext b;unfold upd;split<;>rfl
def JAd{H:Hp}{a b:Addr}{o:HO}(h:H a=some o)(h':H b=none):a≠b:=by
 intro e;subst e;rw[h]at h';cases h'
section
variable(P:Program)(w:World)
def ObjOk(H:Hp)(h:Heap)(a:Addr):HO->Prop
 |.lst xs=>xs.length<=sizeLine/\∃(its:List Value) (n:Nat),Vals xs its/\h.get? a=some { cls:=.type "list",data:=.seq its.toArray n }
 |.tup xs=>xs.length<=sizeLine/\∃its:List Value,Vals xs its/\IsTup h a its.toArray
 |.dK kvs=>kvs.length<=sizeLine/\(a==sysModules)=false/\∃vs,KV kvs vs/\h.DictOf (JAQ P w) a vs
 |.dT kvs=>kvs.length<=sizeLine/\(a==sysModules)=false/\∃xs:List (List Key×Addr×Value),
  Paired (λ(p:List Key×V) (q:List Key×Addr×Value)=>p.1=q.1/\H q.2.1=some (.tup (p.1.map kV))/\RelV p.2 q.2.2) kvs xs /\
  ∃o es ep,h.get? a=some o/\o.ExactDict/\o.data=.dict es ep/\es.toList=xs.map (entryOfKey (tupleKind (JAQ P w)))/\(xs.map (·.1)).Nodup
 |.set S n=>h.SetOf (intKind P w) a S n
 |.ins C dx fs=>H dx=some (.own a)/\fs.length<=1000/\dx≠a/\h.get? a=some (PySem.W.instObj C dx) /\
  ∃mA,h.Ns1 dx mA/\(∀f,RelO (fs.lookup f) (mA f))/\PySem.Within mA (fs.map (·.1))
 |.own _=>∃o,h.get? a=some o
 |.xd fs=>∃mA,h.Ns1 a mA/\∀f,RelO (fs.lookup f) (mA f)
 |.rng lo hi=>∃t u v,h.get? a=some { cls:=.type "range",data:=.fields (List.toArray [.int lo t,.int hi u,.int 1 v]) }
 |.frz o u=>h.get? a=some o/\ObjOk H h a u
 |.tbl ps=>h.get? a=some { cls:=.none,data:=.fields ps }
 |.met f x=>h.get? a=some (PySem.W.methodObj (.ref f) (.ref x))
 |.ext φ=>φ h/\(∃o,h.get? a=some o)/\∀h1 h2:Heap,φ h1->(∀o,h1.get? a=some o->h2.get? a=some o)->φ h2
def HOk(H:Hp)(h:Heap):Prop:=∀a o,H a=some o->ObjOk P w H h a o
end
section
variable{P:Program}{w:World}{H H':Hp}{h h':Heap}{a:Addr}{o:HO}
theorem ObjOk.lt(x:ObjOk P w H h a o):a<h.objs.size:=by
 cases o with
 |lst xs=>obtain⟨_,_,_,_,e⟩:=x;exact q_h e
 |tup xs=>obtain⟨_,_,_,p⟩:=x;exact p.lt
 |dK kvs=>obtain⟨_,_,_,_,o,_,_,e,_⟩:=x;exact q_h e
 |dT kvs=>obtain⟨_,_,_,_,o,_,_,e,_⟩:=x;exact q_h e
 |set S n=>obtain⟨o,_,_,_,e,_⟩:=x;exact q_h e
 |ins C dx fs=>obtain⟨_,_,_,e,_⟩:=x;exact q_h e
 |own y=>obtain⟨_,e⟩:=x;exact q_h e
 |xd fs=>obtain⟨_,⟨_,_,_,e,_⟩,_⟩:=x;exact q_h e
 |rng lo hi=>obtain⟨_,_,_,e⟩:=x;exact q_h e
 |frz ob u=>obtain⟨e,_⟩:=x;exact q_h e
 |tbl ps=>exact q_h (show h.get? a=some _ from x)
 |met f y=>exact q_h (show h.get? a=some _ from x)
 |ext φ=>obtain⟨_,⟨_,e⟩,_⟩:=x;exact q_h e
theorem Paired.mapP{α β:Type}{F G:α->β->Prop}:∀ {l₁:List α}{l₂:List β},Paired F l₁ l₂->(∀a b,F a b->G a b)->Paired G l₁ l₂
 |_,_,.nil,_=>.nil
 |_,_,.cons r t,f=>.cons (f _ _ r) (Paired.mapP t f)
def ObjOk.stay(x:ObjOk P w H h a o)(k:∀b u,(b=a\/H b=some (.own a))->h.get? b=some u->h'.get? b=some u)
  (ho:∀b,H b=some (.own a)->H' b=some (.own a)) (ht:∀b xs,H b=some (.tup xs)->H' b=some (.tup xs)):ObjOk P w H' h' a o:=by
 induction o with
 |lst xs=>obtain⟨z,its,n,r,e⟩:=x;exact#[z,its,n,r,k _ _ (.inl rfl) e]
 |tup xs=>obtain⟨z,its,r,ob,e,c⟩:=x;exact#[z,its,r,ob,k _ _ (.inl rfl) e,c]
 |dK kvs=>obtain⟨z,y,vs,r,ob,es,ep,e,c⟩:=x;exact#[z,y,vs,r,ob,es,ep,k _ _ (.inl rfl) e,c]
 |dT kvs =>
  obtain⟨z,y,xs,r,ob,es,ep,e,c⟩:=x;exact#[z,y,xs,Paired.mapP r λp q z=>#[z.1,ht _ _ z.2.1,z.2.2],ob,es,ep,k _ _ (.inl rfl) e,c]
 |set S n=>obtain⟨ob,es,ep,t,e,c⟩:=x;exact#[ob,es,ep,t,k _ _ (.inl rfl) e,c]
 |ins C dx fs =>
  obtain⟨d,z,ne,e,mA,⟨od,es,ep,e2,c⟩,r⟩:=x;exact#[ho _ d,z,ne,k _ _ (.inl rfl) e,mA,#[od,es,ep,k _ _ (.inr d) e2,c],r]
 |own y=>obtain⟨ob,e⟩:=x;exact#[ob,k _ _ (.inl rfl) e]
 |xd fs=>obtain⟨mA,⟨od,es,ep,e,c⟩,r⟩:=x;exact#[mA,#[od,es,ep,k _ _ (.inl rfl) e,c],r]
 |rng lo hi=>obtain⟨t,u,v,e⟩:=x;exact#[t,u,v,k _ _ (.inl rfl) e]
 |frz ob u ih=>obtain⟨e,q⟩:=x;exact#[k _ _ (.inl rfl) e,ih q]
 |tbl ps =>
  have e:h.get? a=some { cls:=.none,data:=.fields ps }:=x;show h'.get? a=some { cls:=.none,data:=.fields ps };exact k a _ (.inl rfl) e
 |met f y =>
  have e:h.get? a=some (PySem.W.methodObj (.ref f) (.ref y)):=x;show h'.get? a=some (PySem.W.methodObj (.ref f) (.ref y));exact k a _ (.inl rfl) e
 |ext φ=>obtain⟨p,⟨o,e⟩,st⟩:=x;exact#[st _ _ p λo q=>k _ _ (.inl rfl) q,#[o,k _ _ (.inl rfl) e],st]
theorem HOk.lt(x:HOk P w H h)(e:H a=some o):a<h.objs.size:=(x a o e).lt
def HOk.fresh(x:HOk P w H h)(e:h.objs.size<=a):H a=none:=by
 cases q:H a with
 |none=>rfl
 |some u=>exact absurd (q_m (x.lt q) e) (Nat.lt_irrefl _)
def HOk.kept(x:HOk P w H h)(k:∀b u,h.get? b=some u->h'.get? b=some u):HOk P w H h':=λa o e =>
 (x a o e).stay (λb u _ q=>k b u q) (λ_ q=>q) λ_ _ q=>q
def HOk.laid(x:HOk P w H h)(k:∀b u,h.get? b=some u->h'.get? b=some u)(hp:h.objs.size<=a)(new:ObjOk P w (upd H a o) h' a o):HOk P w (upd H a o) h':=λb u e=>by
 have hn:=x.fresh hp
 by_cases hb:b=a
 ·subst hb;rw[JAF]at e;cases e;exact new
 ·rw[JAI hb]at e;exact(x b u e).stay (λc v _ q=>k c v q) (λc q=>by rw[JAI (JAd q hn)];exact q) λc xs q=>by rw[JAI (JAd q hn)];exact q
end
def Rd(H:Hp)(a:Addr)(u:HO):Prop:=H a=some u\/∃o,H a=some (.frz o u)
def Rd.of{H:Hp}{a:Addr}{u:HO}(h:H a=some u):Rd H a u:=.inl h
def Rd.ok{P:Program}{w:World}{H:Hp}{h:Heap}{a:Addr}{u:HO}(r:Rd H a u)(x:HOk P w H h):ObjOk P w H h a u:=by
 rcases r with r|⟨o,r⟩
 ·exact x a u r
 ·obtain⟨_,q⟩:=x a _ r;exact q
def Mut:Option HO->Prop
 |some (.lst _)=>True
 |some (.dK _)=>True
 |some (.dT _)=>True
 |some (.set _ _)=>True
 |some (.ins _ _ _)=>True
 |some (.ext _)=>True
 |_=>False
section
variable{P:Program}{w:World}{H:Hp}{h h':Heap}{x e:Addr}{o':HO}
def HOk.write(ok:HOk P w H h)(mu:Mut (H x))(he:e=x\/H e=some (.own x))(k:∀b u,b≠e->h.get? b=some u->h'.get? b=some u)(heo:∃u,h'.get? e=some u)
  (new:ObjOk P w (upd H x o') h' x o'):HOk P w (upd H x o') h':=λb u q=>by
 have nown:∀c y,H c=some (.own y)->c≠x:=λc y r z=>by subst z;rw[r]at mu;exact mu
 have ntup:∀c xs,H c=some (.tup xs)->c≠x:=λc xs r z=>by subst z;rw[r]at mu;exact mu
 by_cases hb:b=x
 ·subst hb;rw[JAF]at q;cases q;exact new
 ·rw[JAI hb]at q
  by_cases hbe:b=e
  · have q':H b=some (.own x):=by
     rcases he with z|z
     ·exact absurd (hbe.trans z) hb
     ·rw[hbe];exact z
    rw[q]at q';cases q';obtain⟨v,hv⟩:=heo;exact#[v,by rw[hbe];exact hv]
  · refine(ok b u q).stay (λc v hc r=>k c v ?_ r) (λc r=>by rw[JAI (nown c b r)];exact r) λc xs r=>by rw[JAI (ntup c xs r)];exact r
    rcases hc with rfl|hc
    ·exact hbe
    ·rintro rfl;rcases he with z|z
     ·exact nown c b hc z
     ·rw[hc]at z;cases z;exact hb rfl
end
structure Un(fs ex:List Addr)(H H':Hp)(h h':Heap):Prop where
 keep:∀b o,h.get? b=some o->H b=none->b ∉ fs->b ∉ ex->h'.get? b=some o
 slot:∀b o,h.get? b=some o->H b=none->b∈fs->b ∉ ex->∃sl,h'.get? b=some { o with slots:=sl }
 free:∀b o,h.get? b=some o->H b=none->b ∉ ex->H' b=none
 there:∀b o,h.get? b=some o->b ∉ ex->∃o',h'.get? b=some o'
 tups:∀b xs,H b=some (.tup xs)->H' b=some (.tup xs)
 frzs:∀b o u,H b=some (.frz o u)->H' b=some (.frz o u)
 tbls:∀b ps,H b=some (.tbl ps)->∃more,H' b=some (.tbl (ps++more))
section
variable{fs fs' ex ex':List Addr}{H H1 H2:Hp}{h h1 h2 h':Heap}{a x e:Addr}{o:HO}
def Un.any(u:Un fs ex H H1 h h1){b:Addr}{ob:Obj}(q:h.get? b=some ob)(n:H b=none)(hx:b ∉ ex):∃sl,h1.get? b=some { ob with slots:=sl }:=by
 by_cases hb:b∈fs
 ·exact u.slot b ob q n hb hx
 ·exact#[ob.slots,u.keep b ob q n hb hx]
def Un.kept(k:∀b u,h.get? b=some u->h'.get? b=some u):Un fs ex H H h h' :=
 #[λb ob q _ _ _=>k b ob q,λb ob q _ _ _=>#[ob.slots,k b ob q],λ_ _ _ n _=>n,λb ob q _=>#[ob,k b ob q],λ_ _ q=>q,λ_ _ _ q=>q,λ_ ps q=>#[#[],by rw[q];simp]]
def Un.refl:Un fs ex H H h h:=Un.kept λ_ _ q=>q
def Un.laid(k:∀b u,h.get? b=some u->h'.get? b=some u)(hp:h.objs.size<=a)(hn:H a=none):Un fs ex H (upd H a o) h h' where
 keep:=λb u q _ _ _=>k b u q
 slot:=λb u q _ _ _=>#[u.slots,k b u q]
 free:=λb u q n _=>by rw[JAI (q_l (q_m (q_h q) hp))];exact n
 there:=λb u q _=>#[u,k b u q]
 tups:=λb xs q=>by rw[JAI (JAd q hn)];exact q
 frzs:=λb u xs q=>by rw[JAI (JAd q hn)];exact q
 tbls:=λb ps q=>#[#[],by rw[JAI (JAd q hn),q];simp]
def Un.write(mu:Mut (H x))(he:e=x\/H e=some (.own x))(k:∀b u,b≠e->h.get? b=some u->h'.get? b=some u)(heo:∃u,h'.get? e=some u):Un fs ex H (upd H x o) h h':=by
 have hx:∀b,H b=none->b≠x:=λb n z=>by subst z;rw[n]at mu;exact mu
 have hb:∀b,H b=none->b≠e:=λb n z=>by
  subst z;rcases he with r|r
  ·exact hx b n r
  ·rw[n]at r;cases r
 have hm:∀b u,H b=some u->¬Mut (some u)->b≠x:=λb u q nm z=>by subst z;rw[q]at mu;exact nm mu
 refine#[λb u q n _ _=>k b u (hb b n) q,λb u q n _ _=>#[u.slots,k b u (hb b n) q],λb u q n _=>by rw[JAI (hx b n)];exact n,λb u q _=>?_,
  λb xs q=>by rw[JAI (hm b _ q λz=>z)];exact q,λb u xs q=>by rw[JAI (hm b _ q λz=>z)];exact q,λb ps q=>#[#[],by rw[JAI (hm b _ q λz=>z),q];simp]]
 by_cases hbe:b=e
 ·subst hbe;exact heo
 ·exact#[u,k b u hbe q]
end
abbrev trk(h:Heap)(H:Hp):List Addr:=(List.range h.objs.size).filter λa=>(H a).isSome
abbrev hidT(h:Heap)(H:Hp):Heap:=PySem.W.hideAll h (trk h H)
def JKO(h:Heap)(H:Hp):(hidT h H).objs.size=h.objs.size:=PySem.W.hideAll_size _ _
def JHQ{b:Addr}(e:h.get? b=some o)(n:H b=none):(hidT h H).get? b=some o :=
 PySem.W.hideAll_get _ e λhm=>by
  have q:(H b).isSome=true:=(List.mem_filter.mp hm).2;rw[n]at q;simp at q
def JOB{b:Addr}(e:(hidT h H).get? b=some o):h.get? b=some o/\H b=none:=by
 have e':h.get? b=some o:=PySem.W.of_hideAll (trk h H) e;refine#[e',?_];cases q:H b with
 |none=>rfl
 |some x =>
  have hm:b∈trk h H:=List.mem_filter.mpr #[List.mem_range.mpr (q_h e'),by simp[q]]
  have z:(hidT h H).get? b=none:=PySem.W.hideAll_none (trk h H) hm;rw[z]at e;cases e
abbrev JN6(g h:Heap)(L:Addr):Pq:=(List.range h.objs.size).filterMap λa=>if a=L\/(g.get? a).isSome=true then none else (h.get? a).map λo=>(a,o)
abbrev rest(g h:Heap)(L d:Addr):Pq:=(JN6 g h L).filter λp=>decide (p.1≠d)
end L2
namespace L2
open PySem PySem.Spec PyProof.Rows
structure Mod(K:Kq)(mg:Mq)(base:Heap):Prop where
 kin:K.In base
 glob:base.Ns mainGlobals mg
 blt:∃mb,base.Ns builtinsNs mb/\∀x:Str,x≠"__name__"->mb x=bootBuiltins x
 nolimit:base.NoLimit
set_option genInjectivity true in
structure Cx where
 prog:Program
 w:World
 K:Kq
 mg:Str->Option Value
 base:Heap
 A:Around
 N:List Str
 s₀:Shared
 H₀:Hp
 env:Env
 outer:List Env
 stack:List Env
 ex:List Addr
 fn:Str->Bool
 calm:Bool
 pn:Pq
 xe:Vq
abbrev frs(l:List Env):List Addr:=l.filterMap (·.frame)
noncomputable abbrev Cx.fs(X:Cx):List Addr:=frs X.outer
def Vis(sc:Scope)(x:Str):Prop:=sc.names.lookup x=some .local\/sc.names.lookup x=some .cell\/sc.names.lookup x=some .free
def Loc(sc:Scope)(x:Str):Prop:=sc.names.lookup x=some .local\/sc.names.lookup x=some .cell
def Look(env:Env)(h:Heap)(m:Mq)(x:Str)(u:Value):Prop :=
 (env.kindOf x=some .local/\m x=some u)\/((env.kindOf x=some .cell\/env.kindOf x=some .free)/\∃c,env.cells.lookup x=some c/\h.IsCell c (some u))
structure Cx.Ok(X:Cx):Prop where
 mod:Mod X.K X.mg X.base
 kind:X.env.scope.kind=.function
 glob:X.env.globals=mainGlobals
 blt:X.env.builtins=builtinsNs
 above:X.s₀.heap.objs.size<=X.env.locals
 inj:∀x y c,X.env.cells.lookup x=some c->X.env.cells.lookup y=some c->x=y
 has:∀x,(X.env.kindOf x=some .cell\/X.env.kindOf x=some .free)->∃c,X.env.cells.lookup x=some c
 cab:∀x c,X.fn x=true->X.env.cells.lookup x=some c->X.s₀.heap.objs.size<=c
 hd:X.calm=true->X.A.handled=none
 frames:X.A.frames=some X.stack
 stk:X.stack=X.outer\/(X.stack=X.env::X.outer/\X.env.frame=some X.env.locals)
 exf:∀b∈X.ex,b≠X.env.locals/\∀x c,X.env.cells.lookup x=some c->c≠b
 bs:∀b o,X.base.get? b=some o->X.s₀.heap.get? b=some o/\X.H₀ b=none
 bsz:X.base.objs.size<=X.s₀.heap.objs.size
 noex:∀b o,X.base.get? b=some o->b ∉ X.ex
 exfs:∀b∈X.ex,b ∉ X.fs
 funs:X.s₀.heap.FunFrames X.base X.outer
 frf:∀b∈X.fs,X.H₀ b=none
structure Inv(X:Cx)(zp:Pq)(Y:List (Option V))(H:Hp)(s:Shared):Prop where
 ok:X.Ok
 os:s.os=X.s₀.os
 bare:AllBare s.gens
 base:Un X.fs X.ex X.H₀ H X.s₀.heap s.heap
 loc:∃m,s.heap.Ns X.env.locals m/\∀(i:Nat) (x:Str) (v:V),X.N[i]? = some x->Y[i]? = some (some v)->Vis X.env.scope x->∃u,RelV v u/\Look X.env s.heap m x u
 cell:∀x c,X.env.cells.lookup x=some c->∃v,s.heap.IsCell c v
 free:H X.env.locals=none
 freeC:∀x c,X.env.cells.lookup x=some c->H c=none
 pin:∀p∈X.pn++zp,s.heap.get? p.1=some p.2/\H p.1=none/\p.1≠X.env.locals/\p.1 ∉ X.fs/\∀v,p.2.data≠.cell v
 hok:HOk X.prog X.w H s.heap
 len:Y.length=X.N.length
section
variable{X:Cx}{zp:Pq}{Y:List (Option V)}{H H':Hp}{s:Shared}{h':Heap}
def Cx.Ok.nofr(ok:X.Ok){b:Addr}(e:X.base.get? b=some o):b ∉ X.fs:=λhb=>by
 have:=(ok.funs.mem hb).1;rw[e]at this;cases this
theorem Inv.bs(I:Inv X zp Y H s):∀b o,X.base.get? b=some o->s.heap.get? b=some o/\H b=none:=λb o e =>
 #[I.base.keep b o (I.ok.bs b o e).1 (I.ok.bs b o e).2 (I.ok.nofr e) (I.ok.noex b o e),I.base.free b o (I.ok.bs b o e).1 (I.ok.bs b o e).2 (I.ok.noex b o e)]
def Inv.bk(I:Inv X zp Y H s):∀b o,X.base.get? b=some o->s.heap.get? b=some o:=λb o e=>(I.bs b o e).1
theorem Inv.mod(I:Inv X zp Y H s):Mod X.K X.mg X.base:=I.ok.mod
def Inv.kIn(I:Inv X zp Y H s):X.K.In s.heap:=I.ok.mod.kin.keeps I.bk
theorem Inv.nolimit(I:Inv X zp Y H s):s.heap.NoLimit:=I.ok.mod.nolimit.keeps I.bk
theorem Inv.lt(I:Inv X zp Y H s):X.env.locals<s.heap.objs.size:=let ⟨_,hn,_⟩:=I.loc;hn.lt
def Inv.sz(I:Inv X zp Y H s):X.s₀.heap.objs.size<=s.heap.objs.size:=Nat.le_trans I.ok.above (Nat.le_of_lt I.lt)
def Inv.nofs(I:Inv X zp Y H s){a:Addr}(h:s.heap.objs.size<=a):a ∉ X.fs:=λhb=>by
 obtain⟨_,o,ho,_⟩:=I.ok.funs.mem hb;exact absurd (q_m (q_h ho) (Nat.le_trans I.sz h)) (Nat.lt_irrefl _)
def Inv.cne(I:Inv X zp Y H s):∀x c,X.env.cells.lookup x=some c->c≠X.env.locals:=λx c e z=>by
 obtain⟨v,o,ho,hd⟩:=I.cell x c e;obtain⟨m,⟨o',es,ep,ho',hd',_⟩,_⟩:=I.loc;rw[z,ho']at ho;cases ho;rw[hd']at hd;cases hd
theorem Inv.funs(I:Inv X zp Y H s):s.heap.FunFrames X.base X.outer:=by
 have all:∀(l:List Env),(∀b∈frs l,b∈X.fs)->X.s₀.heap.FunFrames X.base l->s.heap.FunFrames X.base l:=by
  intro l
  induction l with
  |nil=>intro _ _;trivial
  |cons env r ih =>
   intro hs hl;obtain⟨hk,⟨L,o,hf,hn,ho,hd⟩,hr⟩:=hl;have hL:L∈X.fs:=hs L (by unfold frs;rw[List.filterMap_cons,hf];exact List.mem_cons_self)
   obtain⟨sl,e⟩:=I.base.slot L o ho (I.ok.frf L hL) hL λz=>I.ok.exfs L z hL;exact#[hk,#[L,_,hf,hn,e,hd],ih (λb hb=>hs b (by unfold frs;rw[List.filterMap_cons,hf];exact q_s _ hb)) hr]
 exact all X.outer (λ_ hb=>hb) I.ok.funs
theorem Inv.stack(I:Inv X zp Y H s):s.heap.FunFrames X.base X.stack:=by
 rcases I.ok.stk with e|⟨e,hf⟩
 ·rw[e];exact I.funs
 ·rw[e];obtain⟨m,hn,_⟩:=I.loc;refine .cons (by rw[I.ok.kind];decide) hf hn ?_ I.funs
  exact Heap.get?_none_of_le (Nat.le_trans I.ok.bsz I.ok.above)
def Inv.stkSub(I:Inv X zp Y H s):∀b∈frs X.stack,b∈X.env.locals::X.fs:=λb hb=>by
 rcases I.ok.stk with e|⟨e,hf⟩
 ·rw[e]at hb;exact q_s _ hb
 ·rw[e]at hb;unfold frs at hb;rw[List.filterMap_cons,hf]at hb;exact hb
def Inv.stkFree(I:Inv X zp Y H s):∀b∈frs X.stack,H b=none:=λb hb=>by
 rcases q_n.mp (I.stkSub b hb) with e|hb
 ·rw[e];exact I.free
 ·obtain⟨_,o,ho,_⟩:=I.ok.funs.mem hb;exact I.base.free b o ho (I.ok.frf b hb) λz=>I.ok.exfs b z hb
def Inv.step{g':Array GenState}{t':Nat}{d':Drawn}{ch:List Addr}(I:Inv X zp Y H s)
  (hch:∀b∈ch,(b∈X.ex\/X.s₀.heap.objs.size<=b)/\b≠X.env.locals/\(∀x c,X.env.cells.lookup x=some c->c≠b)/\∀p∈X.pn++zp,p.1≠b)
  (keep:∀b o,b≠X.env.locals->b ∉ X.fs->b ∉ ch->s.heap.get? b=some o->H b=none->h'.get? b=some o)
  (slot:∀b o,b≠X.env.locals->b∈X.fs->b ∉ ch->s.heap.get? b=some o->H b=none->∃sl,h'.get? b=some { o with slots:=sl }) (free:∀b o,b ∉ ch->s.heap.get? b=some o->H b=none->H' b=none)
  (there:∀b o,b ∉ ch->s.heap.get? b=some o->∃o',h'.get? b=some o')
  (tups:∀b xs,H b=some (.tup xs)->H' b=some (.tup xs)) (frzs:∀b o u,H b=some (.frz o u)->H' b=some (.frz o u)) (tbls:∀b ps,H b=some (.tbl ps)->∃more,H' b=some (.tbl (ps++more)))
  (ns:∀m,s.heap.Ns X.env.locals m->h'.Ns X.env.locals m) (hok:HOk X.prog X.w H' h') (hg:AllBare g') :
  Inv X zp Y H' { s with heap:=h',gens:=g',drawn:=d',toks:=t' }:=by
 have neL:∀b o,X.s₀.heap.get? b=some o->b≠X.env.locals:=λb o e=>q_l (q_m (q_h e) I.ok.above);have neC:∀b o,X.s₀.heap.get? b=some o->b ∉ X.ex->b ∉ ch:=λb o e hx hb=>by
  rcases(hch b hb).1 with z|z
  · exact hx z
  · exact absurd (q_m (q_h e) z) (Nat.lt_irrefl _)
 have cellK:∀x c,X.env.cells.lookup x=some c->∀v,s.heap.IsCell c v->h'.IsCell c v:=λx c e v h_=>by
  obtain⟨o,ho,hd⟩:=h_;have nch:c ∉ ch:=λz=>(hch c z).2.2.1 x c e rfl
  by_cases hc:c∈X.fs
  · obtain⟨sl,q⟩:=slot c o (I.cne x c e) hc nch ho (I.freeC x c e)
    exact#[_,q,hd]
  · exact#[o,keep c o (I.cne x c e) hc nch ho (I.freeC x c e),hd]
 refine#[I.ok,I.os,hg,#[λb o e n hb hx=>?_,λb o e n hb hx=>?_,λb o e n hx=>?_,λb o e hx=>?_,λb xs e=>tups b xs (I.base.tups b xs e),λb o xs e=>frzs b o xs (I.base.frzs b o xs e),λb ps e=>?_],?_,λx c e=>?_,?_,λx c e=>?_,λp hp=>?_,hok,I.len]
 ·exact keep b o (neL b o e) hb (neC b o e hx) (I.base.keep b o e n hb hx) (I.base.free b o e n hx)
 ·obtain⟨sl,e1⟩:=I.base.slot b o e n hb hx;obtain⟨sl',e2⟩:=slot b _ (neL b o e) hb (neC b o e hx) e1 (I.base.free b o e n hx);exact#[sl',e2]
 ·obtain⟨o',e1⟩:=I.base.there b o e hx;exact free b o' (neC b o e hx) e1 (I.base.free b o e n hx)
 ·obtain⟨o',e1⟩:=I.base.there b o e hx;exact there b o' (neC b o e hx) e1
 ·obtain⟨m1,e1⟩:=I.base.tbls b ps e;obtain⟨m2,e2⟩:=tbls b _ e1;exact#[m1++m2,by rw[e2,Array.append_assoc]]
 ·obtain⟨m,hn,hl⟩:=I.loc;refine#[m,ns m hn,λi x v e1 e2 e3=>?_];obtain⟨u,r,l⟩:=hl i x v e1 e2 e3;refine#[u,r,?_];rcases l with l|⟨k,c,e,z⟩
  · exact .inl l
  · exact .inr #[k,c,e,cellK x c e _ z]
 ·obtain⟨v,z⟩:=I.cell x c e;exact#[v,cellK x c e v z]
 ·obtain⟨m,⟨o,_,_,ho,_⟩,_⟩:=I.loc;exact free _ o (λz=>(hch _ z).2.1 rfl) ho I.free
 ·obtain⟨v,o,ho,hd⟩:=I.cell x c e;exact free c o (λz=>(hch c z).2.2.1 x c e rfl) ho (I.freeC x c e)
 ·obtain⟨e,n,ne,nf,d⟩:=I.pin p hp;have nch:p.1 ∉ ch:=λz=>(hch p.1 z).2.2.2 p hp rfl;exact#[keep p.1 p.2 ne nf nch e n,free p.1 p.2 nch e n,ne,nf,d]
def Inv.un{t':Nat}(I:Inv X zp Y H s)(u:Un X.fs [] H H' s.heap h')(hok:HOk X.prog X.w H' h'):Inv X zp Y H' { s with heap:=h',toks:=t' }:=by
 obtain⟨m,⟨o,es,ep,ho,r⟩,_⟩:=id I.loc;obtain⟨sl,hL⟩:=u.any ho I.free (by simp)
 exact I.step (g':=s.gens) (d':=s.drawn) (ch:=[]) (λ_ z=>nomatch z) (λb o _ hb _ e n=>u.keep b o e n hb (by simp)) (λb o _ hb _ e n=>u.slot b o e n hb (by simp)) (λb o _ e n=>u.free b o e n (by simp)) (λb o _ e=>u.there b o e (by simp)) u.tups u.frzs u.tbls (λm' hm=>by
  obtain⟨o',es',ep',ho',r'⟩:=hm;rw[ho]at ho';cases ho';exact#[_,es',ep',hL,r']) hok I.bare
def Inv.call{g':Array GenState}{t':Nat}{d':Drawn}{ch:List Addr}(I:Inv X zp Y H s)(u:Un (frs X.stack) ch H H' s.heap h')(hok:HOk X.prog X.w H' h')(hg:AllBare g')
  (hch:∀b∈ch,(b∈X.ex\/X.s₀.heap.objs.size<=b)/\b≠X.env.locals/\(∀x c,X.env.cells.lookup x=some c->c≠b)/\∀p∈X.pn++zp,p.1≠b) :
  Inv X zp Y H' { s with heap:=h',gens:=g',drawn:=d',toks:=t' }:=by
 obtain⟨m,⟨o,es,ep,ho,r⟩,_⟩:=id I.loc;obtain⟨sl,hL⟩:=u.any ho I.free λz=>(hch _ z).2.1 rfl;exact I.step (ch:=ch) hch (λb o hL hb hc e n=>u.keep b o e n (λz=>(q_n.mp (I.stkSub b z)).elim hL hb) hc) (λb o _ _ hc e n=>u.any e n hc) (λb o hc e n=>u.free b o e n hc) (λb o hc e=>u.there b o e hc) u.tups u.frzs u.tbls (λm' hm=>by
  obtain⟨o',es',ep',ho',r'⟩:=hm;rw[ho]at ho';cases ho';exact#[_,es',ep',hL,r']) hok hg
def Inv.turned{t':Nat}{it:Addr}(I:Inv X zp Y H s)(k:∀b o,b≠it->s.heap.get? b=some o->h'.get? b=some o)(hn:H it=none)(hL:it≠X.env.locals)
  (h1:it∈X.ex\/X.s₀.heap.objs.size<=it) (h2:∀x c,X.env.cells.lookup x=some c->c≠it) (h3:∀p∈X.pn++zp,p.1≠it):Inv X zp Y H { s with heap:=h',toks:=t' }:=by
 have nit:∀b u,H b=some u->b≠it:=λb u e z=>by rw[z,hn]at e;cases e
 refine I.step (g':=s.gens) (d':=s.drawn) (ch:=[it]) (λb hb=>?_) (λb o _ _ hc e _=>k b o (λz=>hc (by simp[z])) e) (λb o _ _ hc e _=>#[o.slots,k b o (λz=>hc (by simp[z])) e]) (λ_ _ _ _ n=>n)
  (λb o hc e=>#[o,k b o (λz=>hc (by simp[z])) e]) (λ_ _ e=>e) (λ_ _ _ e=>e) (λb ps e=>#[#[],by rw[e];simp]) (λm hm=>?_) (λb u e=>?_) I.bare
 ·have e:b=it:=by simpa using hb
  subst e;exact#[h1,hL,h2,h3]
 ·obtain⟨o,es,ep,ho,r⟩:=hm;exact#[o,es,ep,k _ o (Ne.symm hL) ho,r]
 ·refine(I.hok b u e).stay (λc v hc q=>k c v ?_ q) (λ_ q=>q) λ_ _ q=>q;rcases hc with z|z
  · rw[z];exact nit b u e
  · exact nit c _ z
def Inv.tok(I:Inv X zp Y H s)(t:Nat):Inv X zp Y H { s with toks:=t }:=I.un (h':=s.heap) (t':=t) Un.refl I.hok
theorem Inv.kept{t':Nat}(I:Inv X zp Y H s)(k:∀b u,s.heap.get? b=some u->h'.get? b=some u):Inv X zp Y H { s with heap:=h',toks:=t' }:=I.un (Un.kept k) (I.hok.kept k)
theorem Inv.laid{a:Addr}{o:HO}{t':Nat}(I:Inv X zp Y H s)(k:∀b u,s.heap.get? b=some u->h'.get? b=some u)(hp:s.heap.objs.size<=a)(new:ObjOk X.prog X.w (upd H a o) h' a o) :
 Inv X zp Y (upd H a o) { s with heap:=h',toks:=t' }:=I.un (Un.laid k hp (I.hok.fresh hp)) (I.hok.laid k hp new)
theorem Inv.write{x e:Addr}{t':Nat}(I:Inv X zp Y H s)(mu:Mut (H x))(he:e=x\/H e=some (.own x))(k:∀b u,b≠e->s.heap.get? b=some u->h'.get? b=some u)(heo:∃u,h'.get? e=some u)
 (new:ObjOk X.prog X.w (upd H x o) h' x o):Inv X zp Y (upd H x o) { s with heap:=h',toks:=t' }:=I.un (Un.write mu he k heo) (I.hok.write mu he k heo new)
def Inv.pins_of{pins':Pq}(I:Inv X zp Y H s)(h:∀p∈pins',s.heap.get? p.1=some p.2/\H p.1=none/\p.1≠X.env.locals/\p.1 ∉ X.fs/\∀v,p.2.data≠.cell v):Inv X pins' Y H s :=
 #[I.ok,I.os,I.bare,I.base,I.loc,I.cell,I.free,I.freeC,λp hp=>(List.mem_append.mp hp).elim (λz=>I.pin p (List.mem_append_left _ z)) (h p),I.hok,I.len]
def JEo{N:List Str}(hN:N.Nodup){i j:Nat}{x:Str}(a:N[i]? = some x)(b:N[j]? = some x):i=j:=by
 obtain⟨h1,e1⟩:=q_p.mp a;obtain⟨h2,e2⟩:=q_p.mp b;exact(List.getElem_inj hN).mp (e1.trans e2.symm)
def JF9{M:Model}{A:Around}{E:Vq}{i:Nat}{x:Str}{v:V}{u:Value}{Q:Unit->Shared->Prop}(I:Inv X zp Y H s)(hN:X.N.Nodup)(hi:X.N[i]? = some x)(hx:Loc X.env.scope x)(r:RelV v u)
  (h:∀s',Inv X zp (Y.set i (some v)) H s'->(∃a,Heap.SameBut a s.heap s'.heap/\(a=X.env.locals\/X.env.cells.lookup x=some a))->Q () s') (hf:X.fn x=true\/X.env.scope.names.lookup x=some .local:=by first|exact .inl rfl|exact .inr rfl|assumption):wpAny M A (storeName X.env x u) Q E s:=by
 obtain⟨m,hn,hl⟩:=id I.loc;have hcls:(X.env.scope.kind==.class || (X.env.scope.kind==.module&&X.env.locals != X.env.globals))=false:=by rw[I.ok.kind];rfl
 have hiY:i<Y.length:=by rw[I.len];exact(q_p.mp hi).1
 have cne:=I.cne;have tracked:∀ {a:Addr}{h':Heap},(∃o,s.heap.get? a=some o/\H a=none)->Heap.SameBut a s.heap h'->HOk X.prog X.w H h':=λ{a h'} ha hs b ob e=>by
  obtain⟨_,_,hfree⟩:=ha;refine(I.hok b ob e).stay (λc w' hc q=>(hs.2 c ?_).trans q) (λ_ q=>q) λ_ _ q=>q;rintro rfl;rcases hc with rfl|hc
  · rw[hfree]at e;cases e
  · rw[hfree]at hc;cases hc
 rcases hx with hk|hk
 ·refine wpAny_storeName_local hk hn (λh' hn' hs=>?_) hcls;obtain⟨oL,_,_,hoL,_⟩:=id hn;refine h _ #[I.ok,I.os,I.bare,#[λb o e n hb hx=>?_,λb o e n hb hx=>?_,I.base.free,λb o e hx=>?_,I.base.tups,I.base.frzs,I.base.tbls],#[_,hn',λj y v' e1 e2 e3=>?_],λy c e=>?_,I.free,I.freeC,λp hp=>?_,tracked #[oL,hoL,I.free] hs,by simpa using I.len] #[_,hs,.inl rfl]
  · exact(hs.2 b (q_l (q_m (q_h e) I.ok.above))).trans (I.base.keep b o e n hb hx)
  · obtain⟨sl,e1⟩:=I.base.slot b o e n hb hx
    exact#[sl,(hs.2 b (q_l (q_m (q_h e) I.ok.above))).trans e1]
  · obtain⟨o',e1⟩:=I.base.there b o e hx
    exact#[o',(hs.2 b (q_l (q_m (q_h e) I.ok.above))).trans e1]
  · by_cases hj:j=i
    ·subst hj;rw[hi]at e1;cases e1;rw[q_y hiY]at e2;cases e2;exact#[u,r,.inl #[hk,by simp]]
    ·rw[q_z (Ne.symm hj)]at e2;obtain⟨u',r',q⟩:=hl j y v' e1 e2 e3;refine#[u',r',?_];rcases q with ⟨k,e⟩|⟨k,c,e,z⟩
     ·refine .inl #[k,?_];have:y≠x:=λe=>hj (JEo hN e1 (e▸hi));simp[this,e]
     ·exact .inr #[k,c,e,z.sameBut hs (cne y c e)]
  · obtain⟨w',z⟩:=I.cell y c e
    exact#[w',z.sameBut hs (cne y c e)]
  · obtain⟨e,n,ne,nf,d⟩:=I.pin p hp
    exact#[(hs.2 p.1 ne).trans e,n,ne,nf,d]
 ·have hfn:X.fn x=true:=by
    rcases hf with z|z
    ·exact z
    ·rw[z]at hk;cases hk
  obtain⟨c,hc⟩:=I.ok.has x (.inl hk);obtain⟨w',z⟩:=I.cell x c hc;refine wpAny_storeName_cell I.ok.kind hk hc z (λh' hc' hs=>?_);obtain⟨oc,hoc,hocd⟩:=id z;refine h { s with heap:=h' } #[I.ok,I.os,I.bare,#[λb o e n hb hx=>?_,λb o e n hb hx=>?_,I.base.free,λb o e hx=>?_,I.base.tups,I.base.frzs,I.base.tbls],#[m,hn.sameBut hs (Ne.symm (cne x c hc)),λj y v' e1 e2 e3=>?_],λy c' e=>?_,I.free,I.freeC,λp hp=>?_,tracked #[oc,hoc,I.freeC x c hc] hs,by simpa using I.len] #[c,hs,.inr hc]
  · exact(hs.2 b (q_l (q_m (q_h e) (I.ok.cab x c hfn hc)))).trans (I.base.keep b o e n hb hx)
  · obtain⟨sl,e1⟩:=I.base.slot b o e n hb hx
    exact#[sl,(hs.2 b (q_l (q_m (q_h e) (I.ok.cab x c hfn hc)))).trans e1]
  · obtain⟨o',e1⟩:=I.base.there b o e hx
    exact#[o',(hs.2 b (q_l (q_m (q_h e) (I.ok.cab x c hfn hc)))).trans e1]
  · by_cases hj:j=i
    ·subst hj;rw[hi]at e1;cases e1;rw[q_y hiY]at e2;cases e2;exact#[u,r,.inr #[.inl hk,c,hc,hc']]
    ·rw[q_z (Ne.symm hj)]at e2;obtain⟨u',r',q⟩:=hl j y v' e1 e2 e3;refine#[u',r',?_];rcases q with q|⟨k,c',e,z'⟩
     ·exact .inl q
     ·refine .inr #[k,c',e,z'.sameBut hs ?_];rintro rfl;exact hj (JEo hN e1 (I.ok.inj _ _ _ e hc▸hi))
  · by_cases hcc:c'=c
    ·subst hcc;exact#[_,hc']
    ·obtain⟨w2,z2⟩:=I.cell y c' e;exact#[w2,z2.sameBut hs hcc]
  · obtain⟨e,n,ne,nf,d⟩:=I.pin p hp
    refine#[(hs.2 p.1 ?_).trans e,n,ne,nf,d];intro q;rw[q,hoc]at e;have q':oc=p.2:=Option.some.inj e;exact d w' (by rw[<-q'];exact hocd)
def JCB{M:Model}{A:Around}{E:Vq}{i:Nat}{x:Str}{v:V}{u:Value}{Q:Unit->Shared->Prop}(I:Inv X zp Y H s)(hN:X.N.Nodup)(hi:X.N[i]? = some x)(hx:Loc X.env.scope x)(r:RelV v u)
  (h:∀s',Inv X zp (Y.set i (some v)) H s'->Q () s') (hf:X.fn x=true\/X.env.scope.names.lookup x=some .local:=by first|exact .inl rfl|exact .inr rfl|assumption):wpAny M A (storeName X.env x u) Q E s :=
 JF9 I hN hi hx r (λs' I' _=>h s' I') hf
def Inv.call'{s':Shared}{ch:List Addr}(I:Inv X zp Y H s)(ho:s'.os=s.os)(u:Un (frs X.stack) ch H H' s.heap s'.heap)(hok:HOk X.prog X.w H' s'.heap)(hg:AllBare s'.gens)
  (hch:∀b∈ch,(b∈X.ex\/X.s₀.heap.objs.size<=b)/\b≠X.env.locals/\(∀x c,X.env.cells.lookup x=some c->c≠b)/\∀p∈X.pn++zp,p.1≠b):Inv X zp Y H' s':=by
 obtain⟨h',g',d',t',o'⟩:=s';have e:o'=s.os:=ho;subst e;exact I.call (g':=g') (t':=t') (d':=d') u hok hg hch
end
noncomputable abbrev XK:=Value->Option Addr->Hp->Prop
noncomputable abbrev St:=List (Option V)
noncomputable abbrev VK:=V->Hp->Prop
noncomputable abbrev TE:=St->Hp->VK->Prop
noncomputable abbrev TT:=St->Hp->(Bool->Hp->Prop)->Prop
noncomputable abbrev TA:=St->Hp->(List V->Hp->Prop)->Prop
structure Ends where
 nx:St->Hp->Prop
 rt:VK
 bk:St->Hp->Prop:=λ_ _=>False
 ct:St->Hp->Prop:=λ_ _=>False
noncomputable abbrev TS:=Ends->St->Hp->Prop
def EP(X:Cx)(zp:Pq)(Y:St)(Q:VK)(u:Value)(s':Shared):Prop:=∃v H',Inv X zp Y H' s'/\RelV v u/\Q v H'
def TP(X:Cx)(zp:Pq)(Y:St)(Q:Bool->Hp->Prop)(b:Bool)(s':Shared):Prop:=∃H',Inv X zp Y H' s'/\Q b H'
def AP(X:Cx)(zp:Pq)(Y:St)(Q:List V->Hp->Prop)(us:List Value)(s':Shared):Prop:=∃vs H',Inv X zp Y H' s'/\Vals vs us/\Q vs H'
def SP(X:Cx)(zp:Pq)(D:Ends)(f:Flow)(s':Shared):Prop :=
 match f with
 |.next=>∃Y' H',Inv X zp Y' H' s'/\D.nx Y' H'
 |.brk=>∃Y' H',Inv X zp Y' H' s'/\D.bk Y' H'
 |.cont=>∃Y' H',Inv X zp Y' H' s'/\D.ct Y' H'
 |.ret u=>∃v Y' H',Inv X zp Y' H' s'/\RelV v u/\D.rt v H'
def PE(X:Cx)(e:Expr)(t:TE):Prop :=
 ∀(zp:Pq) (s:Shared) (Y:St) (H:Hp) (Q:VK),Inv X zp Y H s->t Y H Q->wpAny (model X.prog X.w) X.A (eval e X.env) (EP X zp Y Q) X.xe s
def PT(X:Cx)(e:Expr)(t:TT):Prop :=
 ∀(zp:Pq) (s:Shared) (Y:St) (H:Hp) (Q:Bool->Hp->Prop),Inv X zp Y H s->t Y H Q->wpAny (model X.prog X.w) X.A (isTrue e X.env (eval e X.env)) (TP X zp Y Q) X.xe s
def PW(X:Cx)(e:Expr)(t:TT):Prop :=
 ∀(whole:Sem Value) (zp:Pq) (s:Shared) (Y:St) (H:Hp) (Q:Bool->Hp->Prop),Inv X zp Y H s->t Y H Q->wpAny (model X.prog X.w) X.A (isTrue e X.env whole) (TP X zp Y Q) X.xe s
def PW.pt{X:Cx}{e:Expr}{t:TT}(h:PW X e t):PT X e t:=h _
def PA(X:Cx)(es:List Expr)(t:TA):Prop :=
 ∀(pos:Pos) (zp:Pq) (s:Shared) (Y:St) (H:Hp) (Q:List V->Hp->Prop),Inv X zp Y H s->t Y H Q->wpAny (model X.prog X.w) X.A (spliced (backTo pos (starEach es X.env))) (AP X zp Y Q) X.xe s
def PS(X:Cx)(st:Stmt)(t:TS):Prop :=
 ∀(zp:Pq) (s:Shared) (Y:St) (H:Hp) (D:Ends),Inv X zp Y H s->t D Y H->wpAny (model X.prog X.w) X.A (exec st X.env) (SP X zp D) X.xe s
def PSs(X:Cx)(st:List Stmt)(t:TS):Prop :=
 ∀(zp:Pq) (s:Shared) (Y:St) (H:Hp) (D:Ends),Inv X zp Y H s->t D Y H->wpAny (model X.prog X.w) X.A (execs st X.env) (SP X zp D) X.xe s
def thn{α:Type}{t:Sem α}{Q Q':α->Shared->Prop}{M:Model}{A:Around}{E:Vq}{s:Shared}(h:wpAny M A t Q E s)(hQ:∀a s,Q a s->Q' a s):wpAny M A t Q' E s:=wpAny_mono h hQ λ_ _ x=>x
end L2
namespace L2
open PySem PySem.Spec PyProof.Rows
section
variable{X:Cx}
def tVar(i:Nat):TE:=λY H Q=>∃v,Y[i]? = some (some v)/\Q v H
def tC(v:V):TE:=λ_ H Q=>Q v H
def JFF{i:Nat}{x:Str}{pos:Pos}(hN:X.N[i]? = some x)(hv:Vis X.env.scope x)(hd:(x==("__debug__":Str))=false:=by decide)(hcd:(x==("__classdict__":Str))=false:=by decide):PE X (.Name x pos) (tVar i):=by
 intro zp s Y H Q I h;obtain⟨v,e,h⟩:=h;obtain⟨m,hn,hl⟩:=I.loc;obtain⟨u,r,l⟩:=hl i x v hN e hv;have fin:EP X zp Y Q u s:=#[v,H,I,r,h];rcases l with ⟨hk,hm⟩|⟨hk,c,hc,hcell⟩
 ·exact wpAny_Name (wpAny_loadName_local I.ok.kind hk hn hm fin) hd
 ·rcases hk with hk|hk
  ·exact wpAny_Name (wpAny_loadName_cell I.ok.kind hk hc hcell fin) hd
  ·exact wpAny_Name (wpAny_loadName_free I.ok.kind hk hc hcell fin hcd) hd
def JRG{i j pos}:PE X (.Constant (.int i) j pos) (tC (.int i)):=λ_ _ _ H _ I h=>wpAny_Constant_int #[.int i,H,I.tok _,#[_,rfl],h]
def pe_bl{b j pos}:PE X (.Constant (.bool b) j pos) (tC (.bl b)):=λ_ _ _ H _ I h=>Constant_bool #[.bl b,H,I,rfl,h]
def JQ5{j pos}:PE X (.Constant .none j pos) (tC .non):=λ_ _ _ H _ I h=>Constant_none #[.non,H,I,rfl,h]
def JPz{x j pos}:PE X (.Constant (.str x) j pos) (tC (.str x)):=λ_ _ _ H _ I h=>Calls.Constant_str #[.str x,H,I.tok _,#[_,rfl],h]
def Gl(X:Cx)(x:Str):Prop:=X.env.kindOf x=some .globalImplicit
def JB0{E:Vq}{zp:Pq}{s:Shared}{Y:St}{H:Hp}{x:Str}{u:Value}{pos:Pos}{Q:Vq}(I:Inv X zp Y H s)(hg:Gl X x)(hm:X.mg x=some u)(h:Q u s)
  (hd:(x==("__debug__":Str))=false:=by decide):wpAny (model X.prog X.w) X.A (eval (.Name x pos) X.env) Q E s :=
 Calls.Name_function_global I.ok.kind hg (Calls.loadGlobal_global (by rw[I.ok.glob];exact I.mod.glob.keeps I.bk) hm h) hd
def JFy{E:Vq}{Q:Vq}(I:Inv X zp Y H s)(hg:Gl X x)(hm:X.mg x=none)(hv:bootBuiltins x=some u)(h:Q u s)
  (hn:x≠"__name__":=by decide) (hd:(x==("__debug__":Str))=false:=by decide):wpAny (model X.prog X.w) X.A (eval (.Name x pos) X.env) Q E s:=by
 obtain⟨mb,h1,h2⟩:=I.mod.blt;exact Calls.Name_function_global I.ok.kind hg (Calls.loadGlobal_builtin (by rw[I.ok.glob];exact I.mod.glob.keeps I.bk) hm (by rw[I.ok.blt];exact h1.keeps I.bk) ((h2 x hn).trans hv) h) hd
def JKU(hg:Gl X x)(hm:X.mg x=some u)(r:RelV v u)(hd:(x==("__debug__":Str))=false:=by decide):PE X (.Name x pos) (tC v) :=
 λ_ _ _ H _ I h=>JB0 I hg hm #[v,H,I,r,h] hd
def JNe(hg:Gl X x)(hm:X.mg x=none)(hv:bootBuiltins x=some u)(r:RelV v u)(hn:x≠"__name__":=by decide)(hd:(x==("__debug__":Str))=false:=by decide):PE X (.Name x pos) (tC v) :=
 λ_ _ _ H _ I h=>JFy I hg hm hv #[v,H,I,r,h] hn hd
variable{a b:Expr}{ta tb:TE}{pos:Pos}
def PC(X:Cx)(op:CmpOp)(a b:Expr)(t:TE):Prop :=
 ∀(zp:Pq) (s:Shared) (Y:St) (H:Hp) (Q:VK),Inv X zp Y H s->t Y H Q ->
  wpAny (model X.prog X.w) X.A (eval a X.env) (λv s₁=>wpAny (model X.prog X.w) X.A (eval b X.env) (λu s₂=>wpAny (model X.prog X.w) X.A (compareOp op v u) (EP X zp Y Q) X.xe s₂) X.xe s₁) X.xe s
def JHl(b:Expr)(h:op≠.In)(h2:op≠.NotIn):behindInMarks op b=false:=by
 have e1:(op==CmpOp.In)=false:=by cases op<;>first|rfl|exact absurd rfl h
 have e2:(op==CmpOp.NotIn)=false:=by cases op<;>first|rfl|exact absurd rfl h2
 cases b<;>simp[behindInMarks,e1,e2]
def tIsN(ta:TE):TE:=λY H Q=>ta Y H λx H1=>Q (.bl (decide (x=.non))) H1
def tNotN(ta:TE):TE:=λY H Q=>ta Y H λx H1=>Q (.bl (!decide (x=.non))) H1
def RelV.none_iff{x:V}{v:Value}(r:RelV x v):(v==Value.none)=decide (x=.non):=by
 cases x with
 |non=>cases r;rfl
 |bl _=>cases r;rfl
 |int _=>obtain⟨t,rfl⟩:=r;rfl
 |str _=>obtain⟨t,rfl⟩:=r;rfl
 |byt _=>obtain⟨t,rfl⟩:=r;rfl
 |flt _=>obtain⟨t,rfl⟩:=r;rfl
 |ref _=>cases r;rfl
 |ty _=>cases r;rfl
def JMm{j pos'}(ha:PE X a ta):PC X .Is a (.Constant .none j pos') (tIsN ta):=by
 intro zp s Y H Q I h;refine thn (ha zp s Y H _ I h) λv s1 h_=>?_;obtain⟨x,H1,I1,r1,q1⟩:=h_;exact Constant_none (is_none_gen #[.bl _,H1,I1,by rw[r1.none_iff];rfl,q1])
def JIZ{j pos'}(ha:PE X a ta):PC X .IsNot a (.Constant .none j pos') (tNotN ta):=by
 intro zp s Y H Q I h;refine thn (ha zp s Y H _ I h) λv s1 h_=>?_;obtain⟨x,H1,I1,r1,q1⟩:=h_;exact Constant_none (isnot_none_gen #[.bl _,H1,I1,by rw[r1.none_iff];rfl,q1])
def tB(t:TE):TT:=λY H Q=>t Y H λx H1=>∃c,x=.bl c/\Q c H1
def JMi(h:PC X op a b t)(h1:behindInMarks op b=false:=by first|exact JHl _ (by decide) (by decide)|rfl):PE X (.Compare a [op] [b] pos) t:=λzp s Y H Q I hw=>wpAny_Compare1 (h zp s Y H Q I hw) h1
def JMK{op:CmpOp}{t:TE}(h:PC X op a b t)(h1:behindInMarks op b=false:=by first|exact JHl _ (by decide) (by decide)|rfl):PT X (.Compare a [op] [b] pos) (tB t):=by
 intro zp s Y H Q I hw;refine wpAny_isTrue_Compare1 (thn (h zp s Y H _ I hw) λv s1 h1=>thn h1 λu s2 h2=>thn h2 λc s3 ⟨x,H1,I1,r1,q1⟩=>?_) h1;obtain⟨d,rfl,q⟩:=q1;cases r1;exact wpAny_truthy_bool #[H1,I1,q]
variable{tA tB':TT}{rest:List Expr}
def tAnd(t u:TT):TT:=λY H Q=>t Y H λc H1=>if c=true then u Y H1 Q else Q false H1
def tOr(t u:TT):TT:=λY H Q=>t Y H λc H1=>if c=true then Q true H1 else u Y H1 Q
def tNot(t:TT):TT:=λY H Q=>t Y H λc H1=>Q (!c) H1
def JPP(ha:PT X a tA):PW X (.BoolOp .And [a] pos) tA:=by
 intro wh zp s Y H Q I h;refine isTrue_and (thn (ha zp s Y H Q I h) λc s1 e=>?_);cases c with
 |true=>exact isTrue_and_nil e
 |false=>exact e
def JJm(ha:PT X a tA):PW X (.BoolOp .Or [a] pos) tA:=by
 intro wh zp s Y H Q I h;refine isTrue_or (thn (ha zp s Y H Q I h) λc s1 e=>?_);cases c with
 |false=>exact isTrue_or_nil e
 |true=>exact e
def JSw(ha:PT X a tA)(hb:PW X (.BoolOp .And (b::rest) pos) tB'):PW X (.BoolOp .And (a::b::rest) pos) (tAnd tA tB'):=by
 intro wh zp s Y H Q I h;refine isTrue_and (thn (ha zp s Y H _ I h) λc s1 h_=>?_);obtain⟨H1,I1,q1⟩:=h_;cases c with
 |true=>exact hb wh zp s1 Y H1 Q I1 q1
 |false=>exact#[H1,I1,q1]
def JRc(ha:PT X a tA)(hb:PW X (.BoolOp .Or (b::rest) pos) tB'):PW X (.BoolOp .Or (a::b::rest) pos) (tOr tA tB'):=by
 intro wh zp s Y H Q I h;refine isTrue_or (thn (ha zp s Y H _ I h) λc s1 h_=>?_);obtain⟨H1,I1,q1⟩:=h_;cases c with
 |true=>exact#[H1,I1,q1]
 |false=>exact hb wh zp s1 Y H1 Q I1 q1
def JRH(ha:PT X a tA):PT X (.UnaryOp .Not a pos) (tNot tA):=by
 intro zp s Y H Q I h;exact isTrue_not (ha zp s Y H (λc H1=>Q (!c) H1) I h)
def tAndV(ta tb:TE):TE:=λY H Q=>ta Y H λx H1=>∃c,x=.bl c/\if c=true then tb Y H1 Q else Q (.bl false) H1
def tOrV(ta tb:TE):TE:=λY H Q=>ta Y H λx H1=>∃c,x=.bl c/\if c=true then Q (.bl true) H1 else tb Y H1 Q
def JL9{op}(h:PE X a t):PE X (.BoolOp op [a] pos) t:=λzp s Y H Q I hw=>BoolOp_one (h zp s Y H Q I hw)
def JPk(ha:PE X a ta)(hb:PE X (.BoolOp .And (b::rest) pos) tb):PE X (.BoolOp .And (a::b::rest) pos) (tAndV ta tb):=by
 intro zp s Y H Q I h;refine BoolOp_and (thn (ha zp s Y H _ I h) λv s1 h_=>?_);obtain⟨x,H1,I1,r1,q1⟩:=h_;obtain⟨c,rfl,q1⟩:=q1;cases r1;refine wpAny_truthy_bool ?_;cases c with
 |true=>exact hb zp s1 Y H1 Q I1 q1
 |false=>exact#[.bl false,H1,I1,rfl,q1]
def pe_or(ha:PE X a ta)(hb:PE X (.BoolOp .Or (b::rest) pos) tb):PE X (.BoolOp .Or (a::b::rest) pos) (tOrV ta tb):=by
 intro zp s Y H Q I h;refine BoolOp_or (thn (ha zp s Y H _ I h) λv s1 h_=>?_);obtain⟨x,H1,I1,r1,q1⟩:=h_;obtain⟨c,rfl,q1⟩:=q1;cases r1;refine wpAny_truthy_bool ?_;cases c with
 |false=>exact hb zp s1 Y H1 Q I1 q1
 |true=>exact#[.bl true,H1,I1,rfl,q1]
def tIf(t:TT)(ta tb:TE):TE:=λY H Q=>t Y H λc H1=>if c=true then ta Y H1 Q else tb Y H1 Q
def JHY{c:Expr}(hc:PT X c tA)(ha:PE X a ta)(hb:PE X b tb):PE X (.IfExp c a b pos) (tIf tA ta tb):=by
 intro zp s Y H Q I h;refine wpAny_IfExp (thn (hc zp s Y H _ I h) λd s1 h_=>?_);obtain⟨H1,I1,q1⟩:=h_;cases d with
 |true=>exact ha zp s1 Y H1 Q I1 q1
 |false=>exact hb zp s1 Y H1 Q I1 q1
end
end L2
namespace L2
open PySem PySem.Spec PyProof.Rows
def SqL(K:Kq)(H:Hp)(a:Addr)(xs:List V):Prop :=
 Rd H a (.lst xs) \/
  ∃(o:Obj) (its:Array Value) (n:Nat),K.lookup a=some o/\o.cls=.type "list"/\o.dict=none/\o.data=.seq its n/\its.size<=sizeLine/\Vals xs its.toList
def SqT(K:Kq)(H:Hp)(a:Addr)(xs:List V):Prop :=
 Rd H a (.tup xs) \/
  ∃(o:Obj) (its:Array Value) (n:Nat),K.lookup a=some o/\o.cls=.type "tuple"/\o.data=.seq its n/\its.size<=sizeLine/\Vals xs its.toList
abbrev absV:Value->Option V
 |.none=>some .non
 |.bool b=>some (.bl b)
 |.int i _=>some (.int i)
 |.str x _=>some (.str x)
 |.bytes b _=>some (.byt b)
 |.float b _=>some (.flt b)
 |.ref a=>some (.ref a)
 |.type n=>some (.ty n)
 |_=>none
def RelV.abs(r:RelV x u):absV u=some x:=by
 cases x with
 |non=>cases r;rfl
 |bl _=>cases r;rfl
 |int _=>obtain⟨t,rfl⟩:=r;rfl
 |str _=>obtain⟨t,rfl⟩:=r;rfl
 |byt _=>obtain⟨t,rfl⟩:=r;rfl
 |flt _=>obtain⟨t,rfl⟩:=r;rfl
 |ref _=>cases r;rfl
 |ty _=>cases r;rfl
theorem RelV.inj{x y:V}{u:Value}(r:RelV x u)(q:RelV y u):x=y:=Option.some.inj (r.abs.symm.trans q.abs)
theorem Vals.inj:∀ {xs ys:List V}{us:List Value},Vals xs us->Vals ys us->xs=ys
 |_,_,_,.nil,.nil=>rfl
 |_,_,_,.cons r t,.cons r' t'=>by rw[r.inj r',Vals.inj t t']
section
variable{X:Cx}{zp:Pq}{Y:St}{H:Hp}{s:Shared}{a:Addr}{xs ys:List V}
def SqL.of{K:Kq}(h:H a=some (.lst xs)):SqL K H a xs:=.inl (.inl h)
def SqT.of{K:Kq}(h:H a=some (.tup xs)):SqT K H a xs:=.inl (.inl h)
def Inv.list(I:Inv X zp Y H s)(h:SqL X.K H a xs):∃its:List Value,Vals xs its/\PlainL s.heap a its.toArray/\xs.length<=sizeLine:=by
 rcases h with h|⟨o,its,n,hk,hc,hd,hs,hz,r⟩
 ·obtain⟨z,its,n,r,e⟩:=h.ok I.hok;exact#[its,r,#[_,n,e,rfl,rfl,rfl],z]
 ·refine#[its.toList,r,#[o,n,I.kIn a o hk,hc,hd,by simpa using hs],?_]
  have e:=r.length;simp![q_E]at e;omega
def Inv.tuple(I:Inv X zp Y H s)(h:SqT X.K H a xs):∃its:List Value,Vals xs its/\IsTup s.heap a its.toArray/\xs.length<=sizeLine:=by
 rcases h with h|⟨o,its,n,hk,hc,hs,hz,r⟩
 ·obtain⟨z,its,r,p⟩:=h.ok I.hok;exact#[its,r,p,z]
 ·refine#[its.toList,r,#[o,I.kIn a o hk,hc,n,by simpa using hs],?_]
  have e:=r.length;simp![q_E]at e;omega
def Inv.list_inj(I:Inv X zp Y H s)(h:SqL X.K H a xs)(h':SqL X.K H a ys):xs=ys:=by
 obtain⟨its,r,⟨o,n,e,_,_,d⟩,_⟩:=I.list h;obtain⟨its',r',⟨o',n',e',_,_,d'⟩,_⟩:=I.list h';rw[e]at e';cases e';rw[d]at d';injection d' with d1 _
 have:its=its':=by simpa using congrArg Array.toList d1
 subst this;exact r.inj r'
def Inv.tuple_inj(I:Inv X zp Y H s)(h:SqT X.K H a xs)(h':SqT X.K H a ys):xs=ys:=by
 obtain⟨its,r,⟨o,e,_,n,d⟩,_⟩:=I.tuple h;obtain⟨its',r',⟨o',e',_,n',d'⟩,_⟩:=I.tuple h';rw[e]at e';cases e';rw[d]at d';injection d' with d1 _
 have:its=its':=by simpa using congrArg Array.toList d1
 subst this;exact r.inj r'
end
section
variable{X:Cx}{zp:Pq}{Y:St}{H:Hp}{s:Shared}{E:Vq}
end
section
variable{X:Cx}{st:Stmt}{rest:List Stmt}{t u:TS}{e:Expr}{te:TE}{pos:Pos}
def JNb:TS:=λD Y H=>D.nx Y H
def tSeq(t u:TS):TS:=λD Y H=>t { D with nx:=u D } Y H
def JIO:PSs X [] JNb:=λ_ _ Y H _ I h=>wpAny_execs_nil #[Y,H,I,h]
def JG0(h1:PS X st t)(h2:PSs X rest u):PSs X (st::rest) (tSeq t u):=by
 intro zp s Y H D I h;refine wpAny_execs_cons (thn (h1 zp s Y H { D with nx:=u D } I h) λf s1 q=>?_)
 cases f with
 |next =>
  obtain⟨Y',H',I',q⟩:=q;exact h2 zp s1 Y' H' D I' q
 |ret v=>exact q
 |brk=>exact q
 |cont=>exact q
def JRB:TS:=λD Y H=>D.bk Y H
def tCont:TS:=λD Y H=>D.ct Y H
def JOw:PS X (.Pass pos) JNb:=λ_ _ Y H _ I h=>wpAny_Pass #[Y,H,I,h]
def JKi:PS X (.Break pos) JRB:=λ_ _ Y H _ I h=>wpAny_Break #[Y,H,I,h]
def JGT:PS X (.Continue pos) tCont:=λ_ _ Y H _ I h=>wpAny_Continue #[Y,H,I,h]
def Inv.quiet{zp:Pq}{Y:St}{H:Hp}{s:Shared}(I:Inv X zp Y H s):interactive X.env=false:=by simp[interactive,I.ok.kind]
def JTF{x j pos pos'}:PS X (.Expr (.Constant (.str x) j pos) pos') JNb:=λ_ s Y H _ I h=>wpAny_Expr (Calls.Constant_str (show SP X _ _ .next { s with toks:=s.toks+1 } from#[Y,H,I.tok _,h])) I.quiet
def tDrop(te:TE):TS:=λD Y H=>te Y H λ_ H1=>D.nx Y H1
def JDu(he:PE X e te)(hs:swapsWith e none pos.line X.env=pure false:=by rfl):PS X (.Expr e pos) (tDrop te):=by
 intro zp s Y H D I h;exact wpAny_Expr_any (thn (he zp s Y H _ I h) λv s1 ⟨x,H1,I1,r1,q1⟩=>#[Y,H1,I1,q1]) I.quiet hs
def tRet(te:TE):TS:=λD Y H=>te Y H D.rt
def JMd(he:PE X e te):PS X (.Return (some e) pos) (tRet te):=by
 intro zp s Y H D I h;exact wpAny_Return_some (thn (he zp s Y H _ I h) λv s1 ⟨x,H1,I1,r1,q1⟩=>#[x,Y,H1,I1,r1,q1])
def tRetN:TS:=λD _ H=>D.rt .non H
def JOD:PS X (.Return none pos) tRetN:=λ_ _ Y H _ I h=>wpAny_Return_none #[.non,Y,H,I,rfl,h]
def tIfS(c:TT)(t u:TS):TS:=λD Y H=>c Y H λb H1=>if b=true then t D Y H1 else u D Y H1
def JS8{c:Expr}{a b:List Stmt}{tc:TT}(hc:PT X c tc)(ha:PSs X a t)(hb:PSs X b u):PS X (.If c a b pos) (tIfS tc t u):=by
 intro zp s Y H D I h;refine wpAny_If (thn (hc zp s Y H _ I h) λd s1 h_=>?_);obtain⟨H1,I1,q1⟩:=h_;cases d with
 |true=>exact ha zp s1 Y H1 D I1 q1
 |false=>exact hb zp s1 Y H1 D I1 q1
end
noncomputable abbrev TG:=V->St->Hp->(St->Hp->Prop)->Prop
noncomputable abbrev TGs:=List V->St->Hp->(St->Hp->Prop)->Prop
def PG(X:Cx)(target:Expr)(t:TG):Prop :=
 ∀(zp:Pq) (s:Shared) (Y:St) (H:Hp) (v:V) (u:Value) (Q:St->Hp->Prop),Inv X zp Y H s->RelV v u->t v Y H Q ->
  wpAny (model X.prog X.w) X.A (assign target X.env u) (λ_ s'=>∃Y' H',Inv X zp Y' H' s'/\Q Y' H') X.xe s
def PGs(X:Cx)(ts:List Expr)(t:TGs):Prop :=
 ∀(zp:Pq) (s:Shared) (Y:St) (H:Hp) (vs:List V) (us:List Value) (Q:St->Hp->Prop),Inv X zp Y H s->Vals vs us->t vs Y H Q ->
  wpAny (model X.prog X.w) X.A (assignInOrder ((assignEach ts X.env).map (·.2)) us) (λ_ s'=>∃Y' H',Inv X zp Y' H' s'/\Q Y' H') X.xe s
section
variable{X:Cx}{pos:Pos}
def JGF(i:Nat):TG:=λv Y H Q=>Q (Y.set i (some v)) H
def JEm{i:Nat}(hN:X.N.Nodup)(hi:X.N[i]? = some x)(hx:Loc X.env.scope x)(hf:X.fn x=true\/X.env.scope.names.lookup x=some .local:=by first|exact .inl rfl|exact .inr rfl|assumption):PG X (.Name x pos) (JGF i):=by
 intro zp s Y H v u Q I r h;exact wpAny_assign_Name (JCB I hN hi hx r (λs' I'=>#[_,H,I',h]) hf)
abbrev gNil:TGs:=λvs Y H Q=>vs=[]/\Q Y H
abbrev gCons(t:TG)(u:TGs):TGs:=λvs Y H Q=>∃v r,vs=v::r/\t v Y H λY' H'=>u r Y' H' Q
def JOT:PGs X [] gNil:=by
 intro zp s Y H vs us Q I r h;obtain⟨e,h⟩:=h;subst e;cases r;exact assignInOrder_nil #[Y,H,I,h]
def JKj{e:Expr}{es:List Expr}{t:TG}{u:TGs}(h1:PG X e t)(h2:PGs X es u)
  (hs:(assignEach (e::es) X.env).map (·.2)=assign e X.env::(assignEach es X.env).map (·.2):=by rfl):PGs X (e::es) (gCons t u):=by
 intro zp s Y H vs us Q I r h;obtain⟨v,vr,e1,h⟩:=h;subst e1;cases r with
 |cons r rr =>
  rw[hs];refine assignInOrder_cons (thn (h1 zp s Y H _ _ _ I r h) λ_ s1 h_=>?_);obtain⟨Y1,H1,I1,q1⟩:=h_;exact h2 zp s1 Y1 H1 _ _ Q I1 rr q1
def gTup(K:Kq)(n:Nat)(t:TGs):TG:=λv Y H Q=>∃a xs,v=.ref a/\SqT K H a xs/\xs.length=n/\t xs Y H Q
def JNV{k:Nat}{n:Nat}(hc:X.calm=true)(h:PGs X es t)
  (hn:(assignEach es X.env).length=n:=by rfl) (hst:(assignEach es X.env).findIdx? (·.1)=none:=by rfl):PG X (.Tuple es k pos) (gTup X.K n t):=by
 intro zp s Y H v u Q I r hw;obtain⟨a,xs,e1,hq,hl,hw⟩:=hw;subst e1;cases r;obtain⟨its,rv,ht,hz⟩:=I.tuple hq;refine assign_Tuple_tuple (I.ok.hd hc) ht (by simp[hn,<-hl,rv.length]) hst λh' hx=>?_
 have I1:Inv X zp Y H { s with heap:=h' }:=I.kept (t':=s.toks) λb o e=>hx b o (q_l (q_h e)) e
 exact h zp _ Y H xs _ Q I1 (by simpa using rv) hw
def tAsg(te:TE)(g:TG):TS:=λD Y H=>te Y H λx H1=>g x Y H1 D.nx
def JNX{tg e:Expr}{te:TE}{g:TG}(he:PE X e te)(hg:PG X tg g)(hs:swapsWithSole [tg] e pos.line X.env=pure false:=by rfl)(hw:swappedStores [tg] e X.env=pure none:=by rfl)
  (h1:(assignEach [tg] X.env).map (·.2)=[assign tg X.env]:=by rfl):PS X (.Assign [tg] e pos) (tAsg te g):=by
 intro zp s Y H D I h;refine wpAny_Assign_stores (thn (he zp s Y H _ I h) λv s1 ⟨x,H1,I1,r1,q1⟩=>?_) hs hw;rw[h1];exact thn (hg zp s1 Y H1 x v _ I1 r1 q1) λ_ s2 q=>q
def JMb{i:Nat}{x:Str}{e:Expr}{te:TE}{pos':Pos}(hN:X.N.Nodup)(hi:X.N[i]? = some x)(hx:Loc X.env.scope x)(he:PE X e te)(hs:swapsWith e (some (.Name x pos')) pos.line X.env=pure false:=by rfl)(hf:X.fn x=true\/X.env.scope.names.lookup x=some .local:=by first|exact .inl rfl|exact .inr rfl|assumption) :
  PS X (.Assign [.Name x pos'] e pos) (tAsg te (JGF i)):=by
 intro zp s Y H D I h;refine wpAny_Assign_Name (thn (he zp s Y H _ I h) λv s1 ⟨y,H1,I1,r1,q1⟩=>?_) hs;exact JCB I1 hN hi hx r1 (λs2 I2=>#[_,H1,I2,q1]) hf
def tPar(i j:Nat)(ta:TA):TS:=λD Y H=>ta Y H λvs H1=>∃v w,vs=[v,w]/\D.nx ((Y.set i (some v)).set j (some w)) H1
def JMQ{i j:Nat}{x y:Str}{a b:Expr}{ta:TA}{px py pt:Pos}{kt k2 pt2}(hc:X.calm=true)(hN:X.N.Nodup)(hi:X.N[i]? = some x)(hj:X.N[j]? = some y)(hij:i≠j)
  (hx:X.env.scope.names.lookup x=some .local) (hy:X.env.scope.names.lookup y=some .local) (ha:PA X [a,b] ta)
  (hw:swappedStores [.Tuple [.Name x px,.Name y py] kt pt] (.Tuple [a,b] k2 pt2) X.env=pure (some [x,y]))
  (hs:swapsWithSole [.Tuple [.Name x px,.Name y py] kt pt] (.Tuple [a,b] k2 pt2) pos.line X.env=pure false:=by rfl) :
  PS X (.Assign [.Tuple [.Name x px,.Name y py] kt pt] (.Tuple [a,b] k2 pt2) pos) (tPar i j ta):=by
 intro zp s Y H D I h;rw[exec_Assign_arm];refine q_b (wpAny_standAt ?_);rw[hs];refine q_b (q_e ?_);rw[if_neg (by decide)]
 refine q_b (Tuple_ (thn (ha _ zp s Y H _ I h) λus s1 h_=>?_));obtain⟨vs,H1,I1,r1,q1⟩:=h_;obtain⟨v,w,e1,q1⟩:=q1;subst e1;obtain⟨u1,u2,rfl,rv,rw'⟩:∃u1 u2,us=[u1,u2]/\RelV v u1/\RelV w u2:=by
  cases r1 with
  |cons p q =>
    cases q with
    |cons p' q' =>
     cases q';exact#[_,_,rfl,p,p']
 refine wpAny_newObj_type ?_ (by show 2<=sizeLine;decide)
 have I2:Inv X zp Y H1 { s1 with heap:=s1.heap.push { cls:=.type "tuple",data:=.seq [u1,u2].toArray } }:=I1.kept (t':=s1.toks) λb o e=>q_c _ e
 rw[hw];refine q_b (q_e ?_);show wpAny (model X.prog X.w) X.A (do rule "assign.swapped-stores";let items<-unpackItems (.ref s1.heap.objs.size) 2 none;assignInOrder [λv=>bindName X.env y v,λv=>bindName X.env x v] items.reverse;pure Flow.next) _ _ _
 refine q_b (wpAny_rule (q_b (unpackItems_tuple (items:=(List.toArray [u1,u2])) (I.ok.hd hc) (IsTup.new s1.heap _) λh' hx'=>?_)));have I3:=I2.kept (h':=h') (t':=s1.toks) λb o e=>hx' b o (q_l (q_h e)) e;show wpAny _ _ (assignInOrder [λv=>bindName X.env y v,λv=>bindName X.env x v] [u2,u1] >>= λ_=>pure Flow.next) _ _ _;refine q_b (assignInOrder_cons (wpAny_bindName (JCB I3 hN hj (.inl hy) rw' (λs2 I4=>?_) (.inr hy))));refine assignInOrder_cons (wpAny_bindName (JCB I4 hN hi (.inl hx) rv (λs3 I5=>assignInOrder_nil (q_e ?_)) (.inr hx)));rw[List.set_comm _ _ (Ne.symm hij)]at I5;exact#[_,H1,I5,q1]
end
section
variable{X:Cx}{pos:Pos}
def JRx(c:TT)(tb:TS):TS:=λD Y H=>∃W:Nat->St->Hp->Prop,(∃m,W m Y H)/\∀m Y H,W m Y H ->
 c Y H λb H1=>if b=true then ∃N:St->Hp->Prop,(∀Y' H',N Y' H'->∃m',m'<m/\W m' Y' H')/\tb { D with nx:=N,ct:=N,bk:=D.nx } Y H1 else D.nx Y H1
def JKo{c:Expr}{body:List Stmt}{tc:TT}{tb:TS}(hp:PassesOwn (model X.prog X.w) X.A X.env X.xe)(hc:PT X c tc)(hb:PSs X body tb):PS X (.While c body [] pos) (JRx tc tb):=by
 intro zp s Y H D I h;obtain⟨W,⟨m0,w0⟩,turn⟩:=h;refine wpAny_While (codeAny_whileLoop (λn s'=>∃Y' H',Inv X zp Y' H' s'/\W n Y' H') ?_ m0 #[Y,H,I,w0]);rintro n s1 ⟨Y1,H1,I1,w1⟩;refine wpAny_passesOwn hp (thn (hc zp s1 Y1 H1 _ I1 (turn n Y1 H1 w1)) λb s2 h_=>?_);obtain⟨H2,I2,q2⟩:=h_;cases b with
 |true =>
  obtain⟨N,hN,q2⟩:=q2;rw[if_pos rfl];refine wpAny_passesOwn hp (thn (hb zp s2 Y1 H2 _ I2 q2) λf s3 q3=>?_);cases f with
  |next =>
   obtain⟨Y3,H3,I3,n3⟩:=q3;obtain⟨m',hm,w3⟩:=hN Y3 H3 n3;exact#[m',hm,Y3,H3,I3,w3]
  |cont =>
   obtain⟨Y3,H3,I3,n3⟩:=q3;obtain⟨m',hm,w3⟩:=hN Y3 H3 n3;exact#[m',hm,Y3,H3,I3,w3]
  |brk=>exact q3
  |ret v=>exact q3
 |false =>
  rw[if_neg Bool.false_ne_true];exact wpAny_execs_nil #[Y1,H2,I2,q2]
end
structure It where
 go:Nat->Hp->Prop
 yld:Nat->Hp->V->Hp->Prop
 stop:Nat->Hp->Prop
def FpOk(X:Cx)(zp:Pq)(H:Hp)(b:Addr):Prop :=
 H b=none/\b≠X.env.locals/\b ∉ X.fs/\(b∈X.ex\/X.s₀.heap.objs.size<=b)/\(∀x c,X.env.cells.lookup x=some c->c≠b)/\∀p∈X.pn++zp,p.1≠b
def Inv.fpOk{X:Cx}{zp:Pq}{Y:St}{H H':Hp}{s:Shared}{b:Addr}(I:Inv X zp Y H s)(hb:s.heap.objs.size<=b)(hn:H' b=none):FpOk X zp H' b:=by
 refine#[hn,Nat.ne_of_gt (q_m I.lt hb),I.nofs hb,.inr (Nat.le_trans I.sz hb),λx c e z=>?_,λp hp z=>?_]
 ·obtain⟨v,q⟩:=I.cell x c e;exact absurd (q_m q.lt (by rw[z];exact hb)) (Nat.lt_irrefl _)
 ·exact absurd (q_m (q_h (I.pin p hp).1) (by rw[z];exact hb)) (Nat.lt_irrefl _)
structure Turn(P:Program)(w:World)(K:Kq)(tg:Expr)(J:It)(fp:List Addr)(it:Addr)(tn:Nat->Heap->Prop):Prop where
 mem:it∈fp
 obj:∀i h,tn i h->∀b∈fp,∃o,h.get? b=some o/\∀v,o.data≠.cell v
 keep:∀i h h',tn i h->(∀b∈fp,∀o,h.get? b=some o->h'.get? b=some o)->tn i h'
 item:∀(X:Cx),X.prog=P->X.w=w->X.K=K->X.calm=true->∀(i:Nat) (zp:Pq) (s:Shared) (Y:St) (H:Hp) (E:Vq),Inv X zp Y H s->(∀b∈fp,FpOk X zp H b)->tn i s.heap->J.go i H ->
  wpAny (model P w) X.A (pyNext (.ref it)) (λr s1=>∃u,r=some u /\
   wpAny (model P w) X.A (letOwnedTupleGo tg (.ref it) u) (λ_ s2=>∃x H',Inv X zp Y H' s2/\RelV x u/\J.yld i H x H'/\tn (i+1) s2.heap/\∀b∈fp,H' b=none) E s1) E s
 done:∀(X:Cx),X.prog=P->X.w=w->X.K=K->X.calm=true->∀(i:Nat) (zp:Pq) (s:Shared) (Y:St) (H:Hp) (E:Vq),Inv X zp Y H s->(∀b∈fp,FpOk X zp H b)->tn i s.heap->J.stop i H ->
  wpAny (model P w) X.A (pyNext (.ref it)) (λr s1=>r=none/\Inv X zp Y H s1) E s
 self:∀(A:Around) (i:Nat) (s:Shared) (Q:Vq) (E:Vq),tn i s.heap->Q (.ref it) s->wpAny (model P w) A (pyIter (.ref it)) Q E s
noncomputable abbrev TI:=St->Hp->(It->Hp->Prop)->Prop
def PIE(X:Cx)(zp:Pq)(Y:St)(tg:Expr)(R:It->Hp->Prop)(itv:Value)(s2:Shared):Prop :=
 ∃(it:Addr) (fp:List Addr) (tn:Nat->Heap->Prop) (J:It) (H':Hp),itv=.ref it/\Inv X zp Y H' s2/\Turn X.prog X.w X.K tg J fp it tn/\tn 0 s2.heap/\(∀b∈fp,FpOk X zp H' b)/\R J H'
def PI(X:Cx)(tg iter:Expr)(wi:TI):Prop :=
 ∀(zp:Pq) (s:Shared) (Y:St) (H:Hp) (R:It->Hp->Prop),Inv X zp Y H s->wi Y H R ->
  wpAny (model X.prog X.w) X.A (eval iter X.env) (λv s1=>wpAny (model X.prog X.w) X.A (pyIter v) (PIE X zp Y tg R) X.xe s1) X.xe s
def JKW{E:Vq}{it:Addr}{n:String}{Q:Unit->Shared->Prop}(ho:s.heap.get? it=some o)(hc:o.cls=.type n)(hd:o.data=.fields vs)
  (hn:["enumerate","zip","dict_itemiterator","dict_reverseitemiterator","odict_iterator","itertools.zip_longest","itertools.pairwise"].contains n=false) (hQ:Q () s):wpAny M A (letOwnedTupleGo tg (.ref it) u) Q E s:=by
 unfold letOwnedTupleGo;cases tg<;>first
  |exact q_e hQ
  |(cases u<;>first
      |exact q_e hQ
      |(refine q_b (wpAny_load ho ?_)
        rw[hc,hd];show wpAny M A (if (["enumerate","zip","dict_itemiterator","dict_reverseitemiterator","odict_iterator","itertools.zip_longest","itertools.pairwise"].contains n&&vs[0]? == some (rawInt _))=true then _ else _) Q E s;rw[if_neg (by intro h;rw[hn,Bool.false_and]at h;cases h)]
        exact q_e hQ))
abbrev Itl(K:Kq)(a:Addr):It :=
 #[λi H=>∃xs x,SqL K H a xs/\xs[i]? = some x,λi H x H'=>H'=H/\∀xs,SqL K H a xs->xs[i]? = some x,λi H=>∃xs,SqL K H a xs/\xs.length<=i]
abbrev Itt(K:Kq)(a:Addr):It :=
 #[λi H=>∃xs x,SqT K H a xs/\xs[i]? = some x,λi H x H'=>H'=H/\∀xs,SqT K H a xs->xs[i]? = some x,λi H=>∃xs,SqT K H a xs/\xs.length<=i]
abbrev Itr(lo:Int)(n:Nat):It:=#[λi _=>i<n,λi H x H'=>H'=H/\x=.int (lo+i),λi _=>n<=i]
def JJZ{P:Program}{w:World}{K:Kq}{tg:Expr}(a it:Addr):Turn P w K tg (Itl K a) [it] it (λi h=>h.IsListIter it a i) where
 mem:=by simp
 obj:=λi h st b hb=>by
  have e:b=it:=by simpa using hb
  subst e;obtain⟨o,e,c,d⟩:=st;exact#[o,e,λv z=>by rw[d]at z;cases z]
 keep:=λi h h' st k=>st.at λo e=>k it (by simp) o e
 item:=by
  intro X hP hw hK hc i zp s Y H E I hf st hg;subst hP hw hK;obtain⟨xs,x,hq,hx⟩:=hg;obtain⟨its,rv,p,hz⟩:=I.list hq;obtain⟨u,hu,ru⟩:=rv.get hx;obtain⟨f0,f1,f2,f3,f4,f5⟩:=hf it (by simp)
  refine wpAny_pyNext_list_item st p.isList (x:=u) (by simpa using hu) λh' st' sb=>?_
  have I1:Inv X zp Y H { s with heap:=h' }:=I.turned (t':=s.toks) (λb o hb e=>(sb.2 b hb).trans e) f0 f1 f3 f4 f5
  obtain⟨o,e,c,d⟩:=id st';exact#[u,rfl,JKW (s:={ s with heap:=h' }) e c d (by decide) #[x,H,I1,ru,#[rfl,λys hy=>by rw[I.list_inj hy hq];exact hx],st',λb hb=>(hf b hb).1]]
 done:=by
  intro X hP hw hK hc i zp s Y H E I hf st hg;subst hP hw hK;obtain⟨xs,hq,hx⟩:=hg;obtain⟨its,rv,p,hz⟩:=I.list hq;obtain⟨f0,f1,f2,f3,f4,f5⟩:=hf it (by simp)
  have hl:=rv.length;exact wpAny_pyNext_list_end (I.ok.hd hc) st p.isList (by simp;omega) λh' eb=>#[rfl,I.turned (t':=s.toks) (λb o hb e=>eb b o hb e) f0 f1 f3 f4 f5]
 self:=λ_ _ _ _ _ st h=>wpAny_pyIter_listiter st h
def JH5{P:Program}{w:World}{K:Kq}{tg:Expr}(a it:Addr):Turn P w K tg (Itt K a) [it] it (λi h=>h.IsTupleIter it a i) where
 mem:=by simp
 obj:=λi h st b hb=>by
  have e:b=it:=by simpa using hb
  subst e;obtain⟨o,e,c,d⟩:=st;exact#[o,e,λv z=>by rw[d]at z;cases z]
 keep:=λi h h' st k=>st.at λo e=>k it (by simp) o e
 item:=by
  intro X hP hw hK hc i zp s Y H E I hf st hg;subst hP hw hK;obtain⟨xs,x,hq,hx⟩:=hg;obtain⟨its,rv,p,hz⟩:=I.tuple hq;obtain⟨u,hu,ru⟩:=rv.get hx;obtain⟨f0,f1,f2,f3,f4,f5⟩:=hf it (by simp)
  refine wpAny_pyNext_tuple_item st (show s.heap.IsTuple a its.toArray from p) (x:=u) (by simpa using hu) λh' st' sb=>?_
  have I1:Inv X zp Y H { s with heap:=h' }:=I.turned (t':=s.toks) (λb o hb e=>(sb.2 b hb).trans e) f0 f1 f3 f4 f5
  obtain⟨o,e,c,d⟩:=id st';exact#[u,rfl,JKW (s:={ s with heap:=h' }) e c d (by decide) #[x,H,I1,ru,#[rfl,λys hy=>by rw[I.tuple_inj hy hq];exact hx],st',λb hb=>(hf b hb).1]]
 done:=by
  intro X hP hw hK hc i zp s Y H E I hf st hg;subst hP hw hK;obtain⟨xs,hq,hx⟩:=hg;obtain⟨its,rv,p,hz⟩:=I.tuple hq;obtain⟨f0,f1,f2,f3,f4,f5⟩:=hf it (by simp)
  have hl:=rv.length;exact wpAny_pyNext_tuple_end (I.ok.hd hc) st (show s.heap.IsTuple a its.toArray from p) (by simp;omega) λh' eb=>#[rfl,I.turned (t':=s.toks) (λb o hb e=>eb b o hb e) f0 f1 f3 f4 f5]
 self:=λ_ _ _ _ _ st h=>wpAny_pyIter_tupleiter st h
def JHv{P:Program}{w:World}{K:Kq}{tg:Expr}(it:Addr)(lo:Int)(n:Nat):Turn P w K tg (Itr lo n) [it] it (λi h=>IsRangeIter h it (lo+(i:Nat)*1) ((n:Int) - (i:Nat)) 1) where
 mem:=by simp
 obj:=λi h st b hb=>by
  have e:b=it:=by simpa using hb
  subst e;exact#[_,st,λv z=>by
   have z':Data.fields _=Data.cell v:=z;cases z']
 keep:=λi h h' st k=>k it (by simp) _ st
 item:=by
  intro X hP hw hK hc i zp s Y H E I hf st hg;subst hP hw hK;obtain⟨f0,f1,f2,f3,f4,f5⟩:=hf it (by simp)
  have W:=Walks.range (prog:=X.prog) (w:=X.w) (I.ok.hd hc) it lo 1 n;refine W.item i s _ _ hg st λv h' tk hv st' kk=>?_;obtain⟨t,rfl⟩:=hv;have I1:Inv X zp Y H { s with heap:=h',toks:=tk }:=I.turned (λb o hb e=>kk b o (by simpa using hb) e) f0 f1 f3 f4 f5
  refine#[_,rfl,JKW (s:={ s with heap:=h',toks:=tk }) (n:="range_iterator") st' rfl rfl (by decide) #[.int (lo+i),H,I1,#[t,?_],#[rfl,rfl],st',λb hb=>(hf b hb).1]]
  rw[Int.mul_one]
 done:=by
  intro X hP hw hK hc i zp s Y H E I hf st hg;subst hP hw hK;obtain⟨f0,f1,f2,f3,f4,f5⟩:=hf it (by simp)
  exact wpAny_pyNext_range_end (I.ok.hd hc) st (by have:n<=i:=hg;omega) λh' eb=>#[rfl,I.turned (t':=s.toks) (λb o hb e=>eb b o hb e) f0 f1 f3 f4 f5]
 self:=λ_ _ _ _ _ st h=>wpAny_pyIter_rangeiter st h
end L2
namespace L2
open PySem PySem.Spec PyProof.Rows
section
variable{X:Cx}{tg:Expr}
def iList(K:Kq)(tl:TE):TI:=λY H R=>tl Y H λx H1=>∃a,x=.ref a/\(∃xs,SqL K H1 a xs)/\R (Itl K a) H1
def iTup(K:Kq)(tl:TE):TI:=λY H R=>tl Y H λx H1=>∃a,x=.ref a/\(∃xs,SqT K H1 a xs)/\R (Itt K a) H1
def JJG{l:Expr}{tl:TE}(hl:PE X l tl):PI X tg l (iList X.K tl):=by
 intro zp s Y H R I h;refine thn (hl zp s Y H _ I h) λv s1 h_=>?_;obtain⟨x,H1,I1,r1,q1⟩:=h_;obtain⟨a,e,⟨xs,hq⟩,q⟩:=q1;subst e;cases r1;obtain⟨its,rv,p,hz⟩:=I1.list hq;refine wpAny_pyIter_list p.isList ?_;refine#[s1.heap.objs.size,[s1.heap.objs.size],_,_,H1,rfl,I1.kept (t':=s1.toks) λb o e=>q_c _ e,JJZ a _,#[_,q_k _ rfl,rfl,rfl],λb hb=>?_,q];have e:b=s1.heap.objs.size:=by simpa using hb
 subst e;exact I1.fpOk (q_t _) (I1.hok.fresh (q_t _))
def JSm{l:Expr}{tl:TE}(hl:PE X l tl):PI X tg l (iTup X.K tl):=by
 intro zp s Y H R I h;refine thn (hl zp s Y H _ I h) λv s1 h_=>?_;obtain⟨x,H1,I1,r1,q1⟩:=h_;obtain⟨a,e,⟨xs,hq⟩,q⟩:=q1;subst e;cases r1;obtain⟨its,rv,p,hz⟩:=I1.tuple hq;refine wpAny_pyIter_tuple (show s1.heap.IsTuple a its.toArray from p) ?_;refine#[s1.heap.objs.size,[s1.heap.objs.size],_,_,H1,rfl,I1.kept (t':=s1.toks) λb o e=>q_c _ e,JH5 a _,#[_,q_k _ rfl,rfl,rfl],λb hb=>?_,q];have e:b=s1.heap.objs.size:=by simpa using hb
 subst e;exact I1.fpOk (q_t _) (I1.hok.fresh (q_t _))
def JHA{R:It->Hp->Prop}{E:Vq}{lo hi:Int}{tk:Nat}(I:Inv X zp Y H s)(h1:-(2 ^ 62)<=lo)(h2:lo<2 ^ 62)(h3:-(2 ^ 62)<=hi)(h4:hi<2 ^ 62)
  (q:R (Itr lo (hi - lo).toNat) H):wpAny (model X.prog X.w) X.A (pyIter (.ref s.heap.objs.size)) (PIE X zp Y tg R) E { s with heap:=s.heap.push { cls:=.type "range",data:=.fields (List.toArray [.int lo t,.int hi u,.int 1 v]) },toks:=tk }:=by
 refine wpAny_pyIter_range (IsRange.new ..) (small_one h1 h2 h3 h4) ?_;have I1:Inv X zp Y H { s with heap:=s.heap.push { cls:=.type "range",data:=.fields (List.toArray [.int lo t,.int hi u,.int 1 v]) },toks:=tk }:=I.kept λb o e=>q_c _ e
 refine#[(s.heap.push { cls:=.type "range",data:=.fields (List.toArray [.int lo t,.int hi u,.int 1 v]) }).objs.size,[(s.heap.push { cls:=.type "range",data:=.fields (List.toArray [.int lo t,.int hi u,.int 1 v]) }).objs.size],_,_,H,rfl,
  I1.kept (t':=tk) λb o e=>q_c _ e,JHv _ lo (hi - lo).toNat,?_,λb hb=>?_,q]
 ·have e1:lo+((0:Nat):Int)*1=lo:=by simp
  have e2:(((hi - lo).toNat:Nat):Int) - ((0:Nat):Int)=Builtin.Range.rangeSize lo hi 1:=by rw[rangeSize_one];split<;>omega
  show IsRangeIter _ _ (lo+((0:Nat):Int)*1) ((((hi - lo).toNat:Nat):Int) - ((0:Nat):Int)) 1;rw[e1,e2];exact q_k _ rfl
 ·have e:b=(s.heap.push { cls:=.type "range",data:=.fields (List.toArray [.int lo t,.int hi u,.int 1 v]) }).objs.size:=by simpa using hb
  subst e;exact I1.fpOk (q_t _) (I1.hok.fresh (q_t _))
def iRng1(ta:TA):TI:=λY H R=>ta Y H λvs H1=>∃j:Int,vs=[.int j]/\-(2 ^ 62)<=j/\j<2 ^ 62/\R (Itr 0 j.toNat) H1
def iRng2(ta:TA):TI:=λY H R=>ta Y H λvs H1=>∃i j:Int,vs=[.int i,.int j]/\(-(2 ^ 62)<=i/\i<2 ^ 62/\-(2 ^ 62)<=j/\j<2 ^ 62)/\R (Itr i (j - i).toNat) H1
def JKG(hg:Gl X "range")(hm:X.mg "range"=none)(ha:PA X [a] ta)(hs:starEach [a] X.env=[(false,eval a X.env)]:=by rfl):PI X tg (.Call (.Name "range" p) [a] [] pos) (iRng1 ta):=by
 intro zp s Y H R I h;refine Call_ (JFy I hg hm boot_range (PyProof.Rows.callWith_type1 (thn (ha pos zp s Y H _ I h) λus s1 ⟨vs,H1,I1,r1,q1⟩=>?_) hs rfl));obtain⟨j,e,q1,q2,q⟩:=q1;subst e;cases r1 with
 |cons r rr =>
  cases rr;obtain⟨t,rfl⟩:=r;exact call_range_1 (JHA I1 ∅ ∅ q1 q2 (by simpa using q))
def JJq{a b:Expr}(hg:Gl X "range")(hm:X.mg "range"=none)(ha:PA X [a,b] ta)(hs:starEach [a,b] X.env=[(false,eval a X.env),(false,eval b X.env)]:=by rfl)(hs2:starEach [b] X.env=[(false,eval b X.env)]:=by rfl) :
  PI X tg (.Call (.Name "range" p) [a,b] [] pos) (iRng2 ta):=by
 intro zp s Y H R I h;refine Call_ (JFy I hg hm boot_range (PyProof.Rows.callWith_type1 (thn (ha pos zp s Y H _ I h) λus s1 ⟨vs,H1,I1,r1,q1⟩=>?_) (by rw[hs,hs2]) (by rw[hs2];rfl)))
 obtain⟨i,j,e,⟨q1,q2,q3,q4⟩,q⟩:=q1;subst e;cases r1 with
 |cons r rr =>
  cases rr with
  |cons r' rr =>
   cases rr;obtain⟨t,rfl⟩:=r;obtain⟨t',rfl⟩:=r';exact call_range_2 (JHA I1 q1 q2 q3 q4 q)
def tFor(wi:TI)(g:TG)(tb:TS):TS:=λD Y H=>wi Y H λJ H1=>∃W:Nat->Nat->St->Hp->Prop,(∃m,W 0 m Y H1)/\∀i m Y H,W i m Y H ->
 (J.stop i H/\D.nx Y H)\/(J.go i H/\∃N:St->Hp->Prop,(∀Y' H',N Y' H'->∃m',m'<m/\W (i+1) m' Y' H')/\∀x H',J.yld i H x H'->g x Y H' λY2 H2=>tb { D with nx:=N,ct:=N,bk:=D.nx } Y2 H2)
abbrev JF7(fp:List Addr)(h:Heap):Pq:=fp.filterMap λb=>(h.get? b).map λo=>(b,o)
def JB5{fp:List Addr}{h:Heap}{b:Addr}{o:Obj}(hb:b∈fp)(e:h.get? b=some o):(b,o)∈JF7 fp h:=List.mem_filterMap.mpr #[b,hb,by rw[e];rfl]
def JJW(hp:p∈JF7 fp h):p.1∈fp/\h.get? p.1=some p.2:=by
 obtain⟨b,hb,e⟩:=List.mem_filterMap.mp hp;cases q:h.get? b with
 |none=>rw[q]at e;cases e
 |some o =>
  rw[q]at e;have e':(b,o)=p:=Option.some.inj e;subst e';exact#[hb,q]
def Inv.pinned{zp:Pq}{Y:St}{H:Hp}{s:Shared}{fp:List Addr}(I:Inv X zp Y H s)(hf:∀b∈fp,FpOk X zp H b)(ho:∀b∈fp,∃o,s.heap.get? b=some o/\∀v,o.data≠.cell v):Inv X (zp++JF7 fp s.heap) Y H s :=
 I.pins_of λp hp=>(List.mem_append.mp hp).elim (λz=>I.pin p (q_r _ z)) λz=>by
  obtain⟨hb,e⟩:=JJW z;obtain⟨f0,f1,f2,_⟩:=hf p.1 hb;obtain⟨o,e',d⟩:=ho p.1 hb;rw[e]at e';cases e';exact#[e,f0,f1,f2,d]
def Inv.unpinned(I:Inv X (zp++pl) Y H s):Inv X zp Y H s:=I.pins_of λp hp=>I.pin p (q_r _ (List.mem_append_left _ hp))
def JM3(hp:PassesOwn (model X.prog X.w) X.A X.env X.xe)(hc:X.calm=true)(hi:PI X tg iter wi)(hg:PG X tg g)(hb:PSs X body tb)
  (hs:∀x,foldedSetIterable iter X.env x=pure x:=by intro _;rfl):PS X (.For tg iter body [] pos) (tFor wi g tb):=by
 intro zp s Y H D I h;refine wpAny_For (thn (hi zp s Y H _ I h) λv s1 h1=>thn h1 λitv s2 h2=>?_) hs;obtain⟨it,fp,tn,J,H2,e,I2,T,st2,f2,W,⟨m0,w0⟩,turn⟩:=h2;subst e;have stat:∀ {H':Hp},(∀b∈fp,H' b=none)->∀b∈fp,FpOk X zp H' b:=λhn b hb=>#[hn b hb,(f2 b hb).2];refine codeAny_forLoop_any (λn s'=>∃i Y' H',Inv X zp Y' H' s'/\tn i s'.heap/\(∀b∈fp,H' b=none)/\W i n Y' H') ?_ m0 #[0,Y,H2,I2,st2,λb hb=>(f2 b hb).1,w0];rintro n s3 ⟨i,Y3,H3,I3,st3,fr3,w3⟩;rcases turn i n Y3 H3 w3 with ⟨stop,qn⟩|⟨go,N,hN,step⟩
 ·refine wpAny_passesOwn hp (thn (T.done X rfl rfl rfl hc i zp s3 Y3 H3 X.xe I3 (stat fr3) st3 stop) λr s4 h_=>?_);obtain⟨hr,I4⟩:=h_;subst hr;exact wpAny_execs_nil #[Y3,H3,I4,qn]
 ·refine wpAny_passesOwn hp (thn (T.item X rfl rfl rfl hc i zp s3 Y3 H3 X.xe I3 (stat fr3) st3 go) λr s4 h_=>?_);obtain⟨u,hr,h4⟩:=h_;subst hr;refine wpAny_passesOwn hp (thn h4 λ_ s5 h_=>?_);obtain⟨x,H5,I5,r5,y5,st5,fr5⟩:=h_;have I5':=I5.pinned (stat fr5) (T.obj _ _ st5);refine wpAny_passesOwn hp (thn (hg _ s5 Y3 H5 x u _ I5' r5 (step x H5 y5)) λ_ s6 h_=>?_);obtain⟨Y6,H6,I6,q6⟩:=h_;refine wpAny_passesOwn hp (thn (hb _ s6 Y6 H6 _ I6 q6) λf s7 q7=>?_);have again:∀ {Y7:St}{H7:Hp},Inv X (zp++JF7 fp s5.heap) Y7 H7 s7->N Y7 H7->∃m,m<n/\∃i Y' H',Inv X zp Y' H' s7/\tn i s7.heap/\(∀b∈fp,H' b=none)/\W i m Y' H':=λ{Y7 H7} I7 n7=>by
    obtain⟨m',hm,w7⟩:=hN Y7 H7 n7;refine#[m',hm,i+1,Y7,H7,I7.unpinned,T.keep _ _ _ st5 λb hb o e=>(I7.pin (b,o) (q_r _ (q_r _ (JB5 hb e)))).1,λb hb=>?_,w7];obtain⟨o,e,d⟩:=T.obj _ _ st5 b hb;exact(I7.pin (b,o) (q_r _ (q_r _ (JB5 hb e)))).2.1
  cases f with
  |next=>obtain⟨Y7,H7,I7,n7⟩:=q7;exact again I7 n7
  |cont=>obtain⟨Y7,H7,I7,n7⟩:=q7;exact again I7 n7
  |brk=>obtain⟨Y7,H7,I7,q7⟩:=q7;exact#[Y7,H7,I7.unpinned,q7]
  |ret v=>obtain⟨x7,Y7,H7,I7,r7,q7⟩:=q7;exact#[x7,Y7,H7,I7.unpinned,r7,q7]
end
end L2
namespace L2
open PySem PySem.Spec PyProof.Rows
noncomputable abbrev R2:=V->V->Hp->VK->Prop
def OpR(X:Cx)(f:Value->Value->Sem Value)(r:R2):Prop :=
 ∀(zp:Pq) (s:Shared) (Y:St) (H:Hp) (x y:V) (v u:Value) (Q:VK),Inv X zp Y H s->RelV x v->RelV y u->r x y H Q ->
  wpAny (model X.prog X.w) X.A (f v u) (EP X zp Y Q) X.xe s
def UnR(X:Cx)(f:Value->Sem Value)(r:V->Hp->VK->Prop):Prop :=
 ∀(zp:Pq) (s:Shared) (Y:St) (H:Hp) (x:V) (v:Value) (Q:VK),Inv X zp Y H s->RelV x v->r x H Q ->
  wpAny (model X.prog X.w) X.A (f v) (EP X zp Y Q) X.xe s
def JCE(X:Cx)(f:Value)(r:List V->Hp->VK->Prop):Prop :=
 ∀(zp:Pq) (s:Shared) (Y:St) (H:Hp) (xs:List V) (us:List Value) (Q:VK),Inv X zp Y H s->Vals xs us->r xs H Q ->
  wpAny (model X.prog X.w) X.A (call f us) (EP X zp Y Q) X.xe s
def TruR(X:Cx)(r:V->Hp->(Bool->Hp->Prop)->Prop):Prop :=
 ∀(zp:Pq) (s:Shared) (Y:St) (H:Hp) (x:V) (v:Value) (Q:Bool->Hp->Prop),Inv X zp Y H s->RelV x v->r x H Q ->
  wpAny (model X.prog X.w) X.A (truthy v) (TP X zp Y Q) X.xe s
def tOp(r:R2)(ta tb:TE):TE:=λY H Q=>ta Y H λx H1=>tb Y H1 λy H2=>r x y H2 Q
def tUn(r:V->Hp->VK->Prop)(ta:TE):TE:=λY H Q=>ta Y H λx H1=>r x H1 Q
abbrev rI(C:Int->Int->Prop)(g:Int->Int->V):R2:=λx y H Q=>∃i j,x=.int i/\y=.int j/\C i j/\Q (g i j) H
abbrev rI0(g:Int->Int->V):R2:=λx y H Q=>∃i j,x=.int i/\y=.int j/\Q (g i j) H
def rU(g:Int->V):V->Hp->VK->Prop:=λx H Q=>∃i,x=.int i/\Q (g i) H
section
variable{X:Cx}{a b c:Expr}{ta tb tc:TE}{pos:Pos}
def binT(ha:PE X a ta)(hb:PE X b tb){zp:Pq}{s:Shared}{Y:St}{H:Hp}{R:V->V->Hp->Prop}(I:Inv X zp Y H s)
  (h:ta Y H λx H1=>tb Y H1 λy H2=>R x y H2) {Q:Vq}{f:Value->Value->Sem Value}
  (hf:∀v u s2 x y H2,Inv X zp Y H2 s2->RelV x v->RelV y u->R x y H2->wpAny (model X.prog X.w) X.A (f v u) Q X.xe s2) :
  wpAny (model X.prog X.w) X.A (eval a X.env) (λv s₁=>wpAny (model X.prog X.w) X.A (eval b X.env) (λu s₂=>wpAny (model X.prog X.w) X.A (f v u) Q X.xe s₂) X.xe s₁) X.xe s:=by
 refine thn (ha zp s Y H _ I h) λv s1 h_=>?_;obtain⟨x,H1,I1,r1,q1⟩:=h_;refine thn (hb zp s1 Y H1 _ I1 q1) λu s2 h_=>?_;obtain⟨y,H2,I2,r2,q2⟩:=h_;exact hf v u s2 x y H2 I2 r1 r2 q2
def pe_op{op:Operator}{r:R2}(ho:OpR X (binaryOp op) r)(ha:PE X a ta)(hb:PE X b tb):PE X (.BinOp a op b pos) (tOp r ta tb):=by
 intro zp s Y H Q I h;exact wpAny_BinOp (binT ha hb I h λv u s2 x y H2 I2 rx ry q=>ho zp s2 Y H2 x y v u Q I2 rx ry q)
def pe_un(ho:UnR X (unaryOp op) r)(ha:PE X a ta):PE X (.UnaryOp op a pos) (tUn r ta):=by
 intro zp s Y H Q I h;exact UnaryOp_ (thn (ha zp s Y H _ I h) λv s1 ⟨x,H1,I1,r1,q1⟩=>ho zp s1 Y H1 x v Q I1 r1 q1)
def opI{f:Value->Value->Sem Value}{C:Int->Int->Prop}{g:Int->Int->Int}
  (rule:∀(i j:Int) (t u:Tok) (s:Shared) (Q:Vq) (E:Vq),C i j->Q (.int (g i j) s.toks) { s with toks:=s.toks+1 }->wpAny (model X.prog X.w) X.A (f (.int i t) (.int j u)) Q E s) :
  OpR X f (rI C λi j=>.int (g i j)):=by
 intro zp s Y H x y v u Q I rx ry h;obtain⟨i,j,rfl,rfl,hc,q⟩:=h;obtain⟨t,rfl⟩:=rx;obtain⟨t',rfl⟩:=ry;exact rule i j t t' s _ _ hc #[.int (g i j),H,I.tok _,#[_,rfl],q]
def opI0{f:Value->Value->Sem Value}{g:Int->Int->Int}
  (rule:∀(i j:Int) (t u:Tok) (s:Shared) (Q:Vq) (E:Vq),Q (.int (g i j) s.toks) { s with toks:=s.toks+1 }->wpAny (model X.prog X.w) X.A (f (.int i t) (.int j u)) Q E s) :
  OpR X f (rI0 λi j=>.int (g i j)):=by
 intro zp s Y H x y v u Q I rx ry h;obtain⟨i,j,rfl,rfl,q⟩:=h;obtain⟨t,rfl⟩:=rx;obtain⟨t',rfl⟩:=ry;exact rule i j t t' s _ _ #[.int (g i j),H,I.tok _,#[_,rfl],q]
def opB0{f:Value->Value->Sem Value}{g:Int->Int->Bool}
  (rule:∀(i j:Int) (t u:Tok) (s:Shared) (Q:Vq) (E:Vq),Q (.bool (g i j)) s->wpAny (model X.prog X.w) X.A (f (.int i t) (.int j u)) Q E s) :
  OpR X f (rI0 λi j=>.bl (g i j)):=by
 intro zp s Y H x y v u Q I rx ry h;obtain⟨i,j,rfl,rfl,q⟩:=h;obtain⟨t,rfl⟩:=rx;obtain⟨t',rfl⟩:=ry;exact rule i j t t' s _ _ #[.bl (g i j),H,I,rfl,q]
def JPX:OpR X (binaryOp .Add) (rI0 λi j=>.int (i+j)):=opI0 λ_ _ _ _ _ _ _ q=>add_int q
def JQC:OpR X (binaryOp .Sub) (rI0 λi j=>.int (i - j)):=opI0 λ_ _ _ _ _ _ _ q=>sub_int q
def JPQ:OpR X (binaryOp .Mod) (rI (λ_ j=>j≠0) λi j=>.int (i.fmod j)):=opI λ_ _ _ _ _ _ _ hc q=>mod_int' hc q
def unI{f:Value->Sem Value}{g:Int->Int}
  (rule:∀(i:Int) (t:Tok) (s:Shared) (Q:Vq) (E:Vq),Q (.int (g i) s.toks) { s with toks:=s.toks+1 }->wpAny (model X.prog X.w) X.A (f (.int i t)) Q E s) :
  UnR X f (rU λi=>.int (g i)):=by
 intro zp s Y H x v Q I rx h;obtain⟨i,rfl,q⟩:=h;obtain⟨t,rfl⟩:=rx;exact rule i t s _ _ #[.int (g i),H,I.tok _,#[_,rfl],q]
def JTD:UnR X (unaryOp .USub) (rU λi=>.int (-i)):=unI λ_ _ _ _ _ q=>neg_int q
end
section
variable{X:Cx}{a b c:Expr}{ta tb tc:TE}{pos:Pos}
def JSp{Q:VK}{k k':Bool}(I:Inv X zp Y H s)(q:Q (.bl k) H)(e:k=k'):EP X zp Y Q (.bool k') s:=by
 subst e;exact#[.bl k,H,I,rfl,q]
def op_lt:OpR X (compareOp .Lt) (rI0 λi j=>.bl (decide (i<j))):=opB0 λ_ _ _ _ _ _ _ q=>lt_int q
def op_le:OpR X (compareOp .LtE) (rI0 λi j=>.bl (decide (i<=j))):=opB0 λ_ _ _ _ _ _ _ q=>le_int q
def op_gt:OpR X (compareOp .Gt) (rI0 λi j=>.bl (decide (j<i))):=opB0 λ_ _ _ _ _ _ _ q=>gt_int q
def op_ge:OpR X (compareOp .GtE) (rI0 λi j=>.bl (decide (j<=i))):=opB0 λ_ _ _ _ _ _ _ q=>ge_int q
def JJ4:OpR X (compareOp .In) (λx y H Q=>∃i j,x=.str i/\y=.str j/\Q (.bl (!(Builtin.Str.occurrences j i 0 j.length 1).isEmpty)) H):=by
 intro zp s Y H x y v u Q I rx ry h;obtain⟨i,j,rfl,rfl,q⟩:=h;obtain⟨t,rfl⟩:=rx;obtain⟨t',rfl⟩:=ry;exact in_str (JSp I q rfl)
def JKF{op:CmpOp}{r:R2}(ho:OpR X (compareOp op) r)(ha:PE X a ta)(hb:PE X b tb)(hm:behindInMarks op b=false):PE X (.Compare a [op] [b] pos) (tOp r ta tb):=by
 intro zp s Y H Q I h;exact wpAny_Compare1 (binT ha hb I h λv u s2 x y H2 I2 rx ry q=>ho zp s2 Y H2 x y v u Q I2 rx ry q) hm
def JRz(t:TE):TT:=λY H Q=>t Y H λx H'=>∃k,x=.bl k/\Q k H'
def JGe(ho:OpR X (compareOp op) r)(ha:PE X a ta)(hb:PE X b tb)(hm:behindInMarks op b=false):PT X (.Compare a [op] [b] pos) (JRz (tOp r ta tb)):=by
 intro zp s Y H Q I h;refine wpAny_isTrue_Compare1 (thn (ha zp s Y H _ I h) λv s1 ⟨x,H1,I1,r1,q1⟩=>thn (hb zp s1 Y H1 _ I1 q1) λu s2 ⟨y,H2,I2,r2,q2⟩ =>
  thn (ho zp s2 Y H2 x y v u _ I2 r1 r2 q2) λc s3 ⟨z,H3,I3,r3,k,e,q3⟩=>?_) hm
 subst e;cases r3;exact wpAny_truthy_bool #[H3,I3,q3]
def TruV(K:Kq)(x:V)(H:Hp)(k:Bool):Prop :=
 match x with
 |.non=>k=false
 |.bl b=>k=b
 |.int i=>k=(i != 0)
 |.str y=>y.length<=sizeLine/\k=((y.length:Int) != 0)
 |.byt y=>y.size<=sizeLine/\k=((y.size:Int) != 0)
 |.ref p=>(∃xs,SqL K H p xs/\k=!xs.isEmpty)\/(∃xs,SqT K H p xs/\k=!xs.isEmpty)\/∃kvs,H p=some (.dK kvs)/\k=!kvs.isEmpty
 |_=>False
def JH7{κ:Type}{kvs:List (κ×V)}{vs:List (κ×Value)}(r:KV kvs vs):(!vs.isEmpty)=!kvs.isEmpty:=by
 cases r<;>rfl
def JEX{xs:List V}{its:List Value}(r:Vals xs its):(!its.toArray.isEmpty)=!xs.isEmpty:=by
 cases r<;>simp
def JER:(sizeLine:Nat)<2 ^ 63:=by rw[sizeLine_eq];decide
def JMy:TruR X (λx H Q=>∃k,TruV X.K x H k/\Q k H):=by
 intro zp s Y H x v Q I rx h;obtain⟨k,e,q⟩:=h;have hl:=JER;have hs:sizeLine=16777216:=sizeLine_eq;cases x with
 |non =>
  cases rx;have e':k=false:=e;subst e';exact truthy_none #[H,I,q]
 |bl b =>
  cases rx;have e':k=b:=e;subst e';exact wpAny_truthy_bool #[H,I,q]
 |int i =>
  obtain⟨t,rfl⟩:=rx;have e':k=(i != 0):=e;subst e';exact PySem.P.truthy_int #[H,I,q]
 |str y =>
  obtain⟨t,rfl⟩:=rx;obtain⟨hy,e'⟩:y.length<=sizeLine/\k=((y.length:Int) != 0):=e;subst e';exact PySem.P.truthy_str ∅ #[H,I.tok _,q]
 |byt y =>
  obtain⟨t,rfl⟩:=rx;obtain⟨hy,e'⟩:y.size<=sizeLine/\k=((y.size:Int) != 0):=e;subst e';exact PySem.W.truthy_bytes ∅ #[H,I.tok _,q]
 |ref p =>
  cases rx;have e':(∃xs,SqL X.K H p xs/\k=!xs.isEmpty)\/(∃xs,SqT X.K H p xs/\k=!xs.isEmpty)\/∃kvs,H p=some (.dK kvs)/\k=!kvs.isEmpty:=e;rcases e' with ⟨xs,hx,e'⟩|⟨xs,hx,e'⟩|⟨kvs,hx,e'⟩
  ·subst e';obtain⟨its,r,pl,hz⟩:=I.list hx;have hlen:=r.length;exact wpAny_truthy_list pl.isList (by simp![q_f];omega) #[H,I.tok _,by rw[JEX r];exact q]
  ·subst e';obtain⟨its,r,pl,hz⟩:=I.tuple hx;have hlen:=r.length;exact truthy_tuple pl (by simp![q_f];omega) #[H,I.tok _,by rw[JEX r];exact q]
  ·subst e';obtain⟨hz,hS,vs,r,m⟩:kvs.length<=sizeLine/\(p==sysModules)=false/\∃vs,KV kvs vs/\s.heap.DictOf (JAQ X.prog X.w) p vs:=I.hok p _ hx;have hlen:kvs.length=vs.length:=Paired.length r;exact wpAny_truthy_dict hS m ∅ #[H,I.tok _,by rw[JH7 r];exact q]
 |_=>exact(show False from e).elim
def JLd(ha:PE X a ta)(he:∀whole,isTrue a X.env whole=(do let v<-whole;standAt a.pos;holding [v] (truthy v))) :
  PT X a (λY H Q=>ta Y H λx H'=>∃k,TruV X.K x H' k/\Q k H'):=by
 intro zp s Y H Q I h;exact isTrue_plain (thn (ha zp s Y H _ I h) λv s1 ⟨x,H1,I1,r1,q1⟩=>JMy zp s1 Y H1 x v Q I1 r1 q1) (he _)
def vals1{x:V}{us:List Value}(r:Vals [x] us):∃u,us=[u]/\RelV x u:=by
 cases r with
 |cons r1 r2=>cases r2;exact#[_,rfl,r1]
def JL2:JCE X (.builtin "abs") (λxs H Q=>∃i,xs=[.int i]/\Q (.int (if i<0 then -i else i)) H):=by
 intro zp s Y H xs us Q I r h;obtain⟨i,rfl,q⟩:=h;obtain⟨u,rfl,t,rfl⟩:=vals1 r;exact call_abs_int λu tk=>#[.int (if i<0 then -i else i),H,I.tok _,#[_,rfl],q]
def LenV(K:Kq)(x:V)(H:Hp)(n:Nat):Prop :=
 match x with
 |.str y=>y.length<=sizeLine/\n=y.length
 |.byt y=>y.size<=sizeLine/\n=y.size
 |.ref p=>(∃xs,SqL K H p xs/\n=xs.length)\/∃xs,SqT K H p xs/\n=xs.length
 |_=>False
def JEy:JCE X (.builtin "len") (λxs H Q=>∃x n,xs=[x]/\LenV X.K x H n/\Q (.int n) H):=by
 intro zp s Y H xs us Q I r h;obtain⟨x,n,rfl,e,q⟩:=h;obtain⟨u,rfl,rx⟩:=vals1 r;have hl:=JER;have hs:sizeLine=16777216:=sizeLine_eq;cases x with
 |str y =>
  obtain⟨t,rfl⟩:=rx;obtain⟨hy,e'⟩:y.length<=sizeLine/\n=y.length:=e;subst e';exact len_str ∅ #[.int _,H,I.tok _,#[_,rfl],q]
 |byt y =>
  obtain⟨t,rfl⟩:=rx;obtain⟨hy,e'⟩:y.size<=sizeLine/\n=y.size:=e;subst e';exact PySem.W.len_bytes ∅ #[.int _,H,I.tok _,#[_,rfl],q]
 |ref p =>
  cases rx;have e':(∃xs,SqL X.K H p xs/\n=xs.length)\/∃xs,SqT X.K H p xs/\n=xs.length:=e;rcases e' with ⟨xs,hx,e'⟩|⟨xs,hx,e'⟩
  ·subst e';obtain⟨its,r',pl,hz⟩:=I.list hx;have hlen:=r'.length;exact Calls.call_len_list pl.isList (by simp![q_f];omega) #[.int xs.length,H,I.tok _,#[_,by simp![q_f];rw[hlen]],q]
  ·subst e';obtain⟨its,r',pl,hz⟩:=I.tuple hx;have hlen:=r'.length;exact len_tuple pl (by simp![q_f];omega) #[.int xs.length,H,I.tok _,#[_,by simp![q_f];rw[hlen]],q]
 |_=>exact(show False from e).elim
end
end L2
namespace L2
open PySem PySem.Spec PyProof.Rows
structure ObjM(h:Heap)(x dx C:Addr)(mA:Mq):Prop where
 obj:h.get? x=some (PySem.W.instObj C dx)
 ns:h.Ns1 dx mA
 ne:dx≠x
def JIv{h:Heap}{dx:Addr}{mA:Mq}(n:h.Ns1 dx mA):∃od,h.get? dx=some od/\∀name,PySem.W.lookIn name od=some (mA name):=by
 obtain⟨o,es,ep,ho,hd,hk,_,hm⟩:=n;refine#[o,ho,λname=>?_];have e:=hm name;unfold nsFind findBy at e;rw[<-Array.find?_toList]at e;unfold PySem.W.lookIn;rw[hd]
 dsimp only
 split
 ·rename_i y q;rw[q]at e;exact congrArg some e
 ·rename_i q;rw[q]at e;have a:es.toList.any (·.refKey)=false:=by
   rw[List.any_eq_false];intro y hy;obtain⟨z,t,hkey⟩:=hk y (Array.mem_toList_iff.mp hy);simp[DictEntry.refKey,hkey]
  have a':¬es.toList.any (·.refKey)=true:=by rw[a];exact Bool.false_ne_true
  rw[if_neg a'];exact congrArg some e
def ObjM.look{h:Heap}{x dx C:Addr}{mA:Mq}(I:ObjM h x dx C mA):∃od,PySem.W.InstAt h x (PySem.W.instObj C dx) C (some od)/\∀name,PySem.W.lookIn name od=some (mA name) :=
 let ⟨od,ho,hl⟩:=JIv I.ns
 #[od,#[I.obj,rfl,rfl,ho],hl]
section
variable{prog:Program}{w:World}{A:Around}{E:Vq}{s:Shared}{K:Kq}{x dx C f:Addr}{mA:Mq}{name:Str}{v:Value}
def JOk{expr:Bool}{Q:Vq}(X:K.In s.heap)(I:ObjM s.heap x dx C mA)(hg:PySem.W.plainGet K C name=true)(hh:PySem.W.hasDictIn K C=true)
  (ha:PySem.W.findIn K (.ref C) name=some none) (hv:mA name=some v) (hv':PySem.W.handedIn v=true) (h:Q v { s with toks:=s.toks+1 }) :
  wpAny (model prog w) A (getAttr (.ref x) name expr) Q E s:=by
 obtain⟨od,J,hl⟩:=I.look;exact PySem.W.get_value X J (PySem.W.plainGet_of hg).1 (PySem.W.findObj_own hh ha rfl (by rw[hl,hv])) hv' h
def JK9{Q:Value×List Value->Shared->Prop}(X:K.In s.heap)(I:ObjM s.heap x dx C mA)(hg:PySem.W.plainGet K C name=true)
  (hf:PySem.W.findIn K (.ref C) name=some (some (.ref f))) (ht:PySem.W.isFn K (.ref f)=true) (hv:mA name=none) (h:Q (.ref f,[.ref x]) s) :
  wpAny (model prog w) A (getMethod (.ref x) name pl) Q E s:=by
 obtain⟨od,J,hl⟩:=I.look;exact PySem.W.method_fn X J (PySem.W.plainGet_of hg).1 (PySem.W.plainGet_of hg).2 hf (beq_iff_eq.mp ht) (by show(PySem.W.lookIn name od).map (·.isSome)=some false;rw[hl,hv];rfl) h
def JPK{Q:Unit->Shared->Prop}(X:K.In s.heap)(I:ObjM s.heap x dx C mA)
  (hs:PySem.W.findIn K (.ref C) "__setattr__"=some (some (.builtin "object.__setattr__"))) (hp:PySem.W.plainOver K C=true) (ht:PySem.W.takerIn K C name=some none) (hh:PySem.W.hasDictIn K C=true)
  (hw:PySem.Within mA ns) (hsz:ns.length<=sizeLine)
  (h:∀h',ObjM h' x dx C (λy=>if y=name then some v else mA y)->Heap.SameBut dx s.heap h'->Q () { s with heap:=h',toks:=s.toks+2 }) :
  wpAny (model prog w) A (setAttr (.ref x) name v) Q E s:=by
 obtain⟨od,J,hl⟩:=I.look;refine PySem.W.set_plain X J hs (PySem.W.osa_open (s:={ s with toks:=s.toks+1 }) (r:=none) X J hp ht λb=>?_)
 obtain⟨cd,hc,hd'⟩:=PySem.W.any_some hh;have hx:s.heap.get? x=some #[.ref C,some dx,.plain,#[]]:=I.obj;refine q_b (q_e (q_b (q_b (wpAny_loadPart hx (q_b (PySem.W.Looks.here (s:={ s with toks:=s.toks+1 }) (PySem.W.looks_clsIn X hc) ?_))))))
 rw[hd'];refine q_e (a:=some dx) (q_b (q_e (q_b ?_)));refine wpAny_nsSet1 (s:={ s with toks:=s.toks+1 }) I.ns λh' hn2 hs2=>?_
 obtain⟨oD,esD,epD,hoD,hdD,hcD⟩:=hn2.count (PySem.Within.cons name v hw);refine q_b (wpAny_lookBehind hoD (by rw[hdD];exact pastItsLine_dict (Nat.le_trans hcD (by rw[List.length_cons];omega))) ?_)
 exact q_e (h _ #[(hs2.2 _ (Ne.symm I.ne)).trans I.obj,hn2,I.ne] hs2)
def JKn{R:Result->Shared->Prop}{kw:List (Str×Value)}(X:K.In s.heap)(hm:PySem.W.makesIn K C=true)
  (hi:PySem.W.findIn K (.ref C) "__init__"=some (some (.ref f))) (hf:PySem.W.typeIn K (.ref f)=some (.type "function"))
  (h:codeAny (model prog w) (A.under (.builtin "type.__call__" #[.ref C::vs,kw])) (.call (.ref f) #[.ref (s.heap.objs.size+1)::vs,kw]) (PySem.W.InitBack (s.heap.objs.size+1) R)
    { s with heap:=(s.heap.push PySem.W.emptyDict).push (PySem.W.instObj C s.heap.objs.size) }) :
  codeAny (model prog w) A (.call (.ref C) #[vs,kw]) R s:=by
 obtain⟨hh,g,d,t,os⟩:=s;exact PySem.W.make_core (PySem.W.makes_of X hm) (PySem.W.looks_findIn X hi) (λself=>PySem.W.bind_fn X self hf) (.inl rfl) h
end
abbrev putF(f:Str)(v:V):List (Str×V)->List (Str×V)
 | []=>[(f,v)]
 |(g,x)::r=>if g=f then (g,v)::r else (g,x)::putF f v r
theorem JCR(f g:Str)(v:V):∀fs:List (Str×V),(putF f v fs).lookup g=if g=f then some v else fs.lookup g
 | []=>by
  show List.lookup g [(f,v)]=_
  by_cases h:g=f
  · have hb:(g==f)=true:=beq_iff_eq.mpr h
    simp![List.lookup,hb,if_pos h]
  · have hb:(g==f)=false:=beq_eq_false_iff_ne.mpr h
    simp![List.lookup,hb,if_neg h]
 |(k,x)::r=>by
  have ih:=JCR f g v r;rw[show putF f v ((k,x)::r)=(if k=f then (k,v)::r else (k,x)::putF f v r) from rfl]
  by_cases hk:k=f
  · rw[if_pos hk]
    by_cases h:g=k
    ·have hb:(g==k)=true:=beq_iff_eq.mpr h;simp![List.lookup,hb,if_pos (h.trans hk)]
    ·have hb:(g==k)=false:=beq_eq_false_iff_ne.mpr h;simp![List.lookup,hb,if_neg (λe:g=f=>h (e.trans hk.symm))]
  · rw[if_neg hk]
    by_cases h:g=k
    ·have hb:(g==k)=true:=beq_iff_eq.mpr h;simp![List.lookup,hb,if_neg (λe:g=f=>hk (h.symm.trans e))]
    ·have hb:(g==k)=false:=beq_eq_false_iff_ne.mpr h;simp![List.lookup,hb];exact ih
theorem JD6(f:Str)(v:V):∀fs:List (Str×V),f∈(putF f v fs).map (·.1)/\∀g,g∈fs.map (·.1)->g∈(putF f v fs).map (·.1)
 | []=>#[by simp[putF],λg h=>by simp at h]
 |(k,x)::r=>by
  obtain⟨i1,i2⟩:=JD6 f v r;rw[show putF f v ((k,x)::r)=(if k=f then (k,v)::r else (k,x)::putF f v r) from rfl]
  by_cases hk:k=f
  · rw[if_pos hk]
    subst hk;exact#[by simp,λg h=>by simpa using h]
  · rw[if_neg hk]
    refine#[?_,λg h=>?_]
    ·rw[List.map_cons];exact q_s _ i1
    ·rw[List.map_cons]at h ⊢;rcases q_n.mp h with e|e
     ·exact q_n.mpr (.inl e)
     ·exact q_s _ (i2 g e)
theorem JD3(f:Str)(v:V):∀fs:List (Str×V),(putF f v fs).length<=fs.length+1
 | []=>by simp[putF]
 |(k,x)::r=>by
  have ih:=JD3 f v r;rw[show putF f v ((k,x)::r)=(if k=f then (k,v)::r else (k,x)::putF f v r) from rfl]
  by_cases hk:k=f
  · rw[if_pos hk,List.length_cons,List.length_cons];omega
  · rw[if_neg hk,List.length_cons,List.length_cons];omega
def RelO.some_of(r:RelO (some v) o):∃u,o=some u/\RelV v u:=by
 cases o with
 |none=>exact(show False from r).elim
 |some u=>exact#[u,rfl,r]
def RelO.none_of(r:RelO none o):o=none:=by
 cases o with
 |none=>rfl
 |some u=>exact(show False from r).elim
def JI8(r:RelV v u):PySem.W.handedIn u=true:=by
 cases v with
 |non=>cases(show u=Value.none from r);rfl
 |bl b=>cases(show u=Value.bool b from r);rfl
 |int i=>obtain⟨t,e⟩:=(show ∃t,u=Value.int i t from r);cases e;rfl
 |str x=>obtain⟨t,e⟩:=(show ∃t,u=Value.str x t from r);cases e;rfl
 |byt b=>obtain⟨t,e⟩:=(show ∃t,u=Value.bytes b t from r);cases e;rfl
 |flt b=>obtain⟨t,e⟩:=(show ∃t,u=Value.float b t from r);cases e;rfl
 |ref a=>cases(show u=Value.ref a from r);rfl
 |ty n=>cases(show u=Value.type n from r);rfl
section
variable{P:Program}{w:World}{H H':Hp}{h h':Heap}{a C dx:Addr}{fs fs':List (Str×V)}
def JGa(hok:HOk P w H h)(e:H a=some (.ins C dx fs)):∃mA,ObjM h a dx C mA/\(∀f,RelO (fs.lookup f) (mA f))/\PySem.Within mA (fs.map (·.1))/\fs.length<=1000/\H dx=some (.own a):=by
 obtain⟨d,z,ne,ob,mA,n,r,q⟩:=(show ObjOk P w H h a (.ins C dx fs) from hok a _ e);exact#[mA,#[ob,n,ne],r,q,z,d]
end
structure Cls(K:Kq)(C:Addr):Prop where
 pg:PySem.W.plainGet K C Str.empty=true
 hd:PySem.W.hasDictIn K C=true
 po:PySem.W.plainOver K C=true
 sa:PySem.W.findIn K (.ref C) "__setattr__"=some (some (.builtin "object.__setattr__"))
def Cls.get{K:Kq}{C:Addr}(c:Cls K C)(f:Str):PySem.W.plainGet K C f=true:=c.pg
def NoAttr(K:Kq)(C:Addr)(f:Str):Prop:=PySem.W.findIn K (.ref C) f=some none
def NoAttr.taker{K:Kq}{C:Addr}{f:Str}(n:NoAttr K C f):PySem.W.takerIn K C f=some none:=by
 unfold PySem.W.takerIn;rw[show PySem.W.findIn K (.ref C) f=some none from n];rfl
structure Meth(K:Kq)(C:Addr)(m:Str)(f:Addr):Prop where
 at_:PySem.W.findIn K (.ref C) m=some (some (.ref f))
 fn:PySem.W.isFn K (.ref f)=true
 kp:PySem.W.keepIn K (.ref f)=true
section
variable{X:Cx}{zp:Pq}{Y:St}{H:Hp}{s:Shared}{a C dx:Addr}{fs:List (Str×V)}{f:Str}{v:V}{A:Around}{E:Vq}
def JH6{b:Bool}{Q:Vq}(I:Inv X zp Y H s)(e:H a=some (.ins C dx fs))(c:Cls X.K C)(n:NoAttr X.K C f)(l:fs.lookup f=some v)
  (h:∀u s',Inv X zp Y H s'->RelV v u->Q u s'):wpAny (model X.prog X.w) A (getAttr (.ref a) f b) Q E s:=by
 obtain⟨mA,O,r,_,_,_⟩:=JGa I.hok e;obtain⟨u,hu,ru⟩:=RelO.some_of (v:=v) (o:=mA f) (by rw[<-l];exact r f)
 exact JOk I.kIn O (c.get f) c.hd n hu (JI8 ru) (h u _ (I.tok _) ru)
def JEe{g:Addr}{Q:Value×List Value->Shared->Prop}(I:Inv X zp Y H s)(e:H a=some (.ins C dx fs))(c:Cls X.K C)(k:Meth X.K C m g)(l:fs.lookup m=none)
  (h:Q (.ref g,[.ref a]) s):wpAny (model X.prog X.w) A (getMethod (.ref a) m pl) Q E s:=by
 obtain⟨mA,O,r,_,_,_⟩:=JGa I.hok e;have hn:mA m=none:=RelO.none_of (by rw[<-l];exact r m)
 exact JK9 I.kIn O (c.get m) k.at_ k.fn hn h
def JHx{Q:Unit->Shared->Prop}(I:Inv X zp Y H s)(e:H a=some (.ins C dx fs))(c:Cls X.K C)(n:NoAttr X.K C f)(hl:fs.length<1000)(ry:RelV y u)
  (h:∀s',Inv X zp Y (upd H a (.ins C dx (putF f y fs))) s'->Q () s'):wpAny (model X.prog X.w) A (setAttr (.ref a) f u) Q E s:=by
 obtain⟨mA,O,r,wi,_,ho⟩:=JGa I.hok e;have hz:(fs.map (·.1)).length<=sizeLine:=by rw[q_g,sizeLine_eq];omega
 refine JPK I.kIn O c.sa c.po n.taker c.hd wi hz λh' O' sb=>h _ ?_;have hd:∃o,h'.get? dx=some o:=let ⟨o,_,_,e',_⟩:=O'.ns;#[o,e']
 refine I.write (x:=a) (e:=dx) (by rw[e];exact True.intro) (.inr ho) (λb q hb z=>(sb.2 b hb).trans z) hd ?_
 refine#[by rw[JAI O.ne];exact ho,?_,O.ne,O'.obj,_,O'.ns,λg=>?_,λg hg=>?_]
 ·have:=JD3 f y fs;omega
 ·show RelO ((putF f y fs).lookup g) (if g=f then some u else mA g);rw[JCR]
  by_cases q:g=f
  · rw[if_pos q,if_pos q];exact ry
  · rw[if_neg q,if_neg q];exact r g
 ·by_cases q:g=f
  · rw[q];exact(JD6 f y fs).1
  · refine(JD6 f y fs).2 g (wi g λz=>hg ?_)
    show(if g=f then some u else mA g)=none;rw[if_neg q];exact z
def Inv.made(I:Inv X zp Y H s):Inv X zp Y (upd (upd H s.heap.objs.size (.own (s.heap.objs.size+1))) (s.heap.objs.size+1) (.ins C s.heap.objs.size []))
  { s with heap:=(s.heap.push PySem.W.emptyDict).push (PySem.W.instObj C s.heap.objs.size) }:=by
 have e1:(s.heap.push PySem.W.emptyDict).get? s.heap.objs.size=some PySem.W.emptyDict:=q_k s.heap rfl;have e2:((s.heap.push PySem.W.emptyDict).push (PySem.W.instObj C s.heap.objs.size)).get? (s.heap.objs.size+1)=some (PySem.W.instObj C s.heap.objs.size):=by
  have:=q_k (s.heap.push PySem.W.emptyDict) (o:=PySem.W.instObj C s.heap.objs.size) rfl
  rwa [Heap.size_push]at this
 have e3:(s.heap.push PySem.W.emptyDict).Ns s.heap.objs.size (λ_=>none):=#[PySem.W.emptyDict,#[],_,e1,rfl,(λe he=>absurd he (by simp)),λ_=>rfl]
 have I1:=I.laid (a:=s.heap.objs.size) (o:=.own (s.heap.objs.size+1)) (h':=s.heap.push PySem.W.emptyDict) (t':=s.toks) (λb u q=>q_c _ q) (q_t _) #[_,e1];refine I1.laid (a:=s.heap.objs.size+1) (o:=.ins C s.heap.objs.size []) (t':=s.toks) (λb u q=>q_c _ q) (Nat.le_of_eq (Heap.size_push _ _)) ?_;have ne:s.heap.objs.size≠s.heap.objs.size+1:=q_l (Nat.lt_succ_self _);refine#[by rw[JAI ne,JAF],Nat.zero_le _,ne,e2,λ_=>none,(Heap.Ns1.of_empty e3).at λo q=>q_c _ q,λ_=>True.intro,λy hy=>absurd rfl hy]
def JOy{w:World}{e:Expr}{Q:Vq}(hb:attributeBase e f env (eval e env)=eval e env)
  (h:wpAny (model prog w) A (eval e env) (λo s₁=>wpAny (model prog w) A (getAttr o f true) Q E s₁) E s):wpAny (model prog w) A (eval (.Attribute e f pos) env) Q E s :=
 Attribute_any_ h (by rw[arm_eval_Attribute,hb])
end
def tFld(K:Kq)(ta:TE)(f:Str):TE:=λY H Q=>ta Y H λx H1=>∃a C dx fs v,x=.ref a/\H1 a=some (.ins C dx fs)/\Cls K C/\NoAttr K C f/\fs.lookup f=some v/\Q v H1
def sFld(K:Kq)(ta tv:TE)(f:Str):TS:=λD Y H=>tv Y H λy H1=>ta Y H1 λx H2=>∃a C dx fs,x=.ref a/\H2 a=some (.ins C dx fs)/\Cls K C/\NoAttr K C f/\fs.length<1000 /\
 D.nx Y (upd H2 a (.ins C dx (putF f y fs)))
section
variable{X:Cx}{o e value:Expr}{f:Str}{pos pos' tpos:Pos}{ta tv:TE}
def JEf(he:PE X e ta)(hb:attributeBase e f X.env (eval e X.env)=eval e X.env):PE X (.Attribute e f pos) (tFld X.K ta f):=by
 intro zp s Y H Q I h;refine JOy hb (thn (he zp s Y H _ I h) λu s1 h_=>?_);obtain⟨x,H1,I1,rx,a,C,dx,fs,v,ex,ea,c,n,l,q⟩:=h_;subst ex;obtain rfl:u=Value.ref a:=rx;exact JH6 I1 ea c n l λu' s2 I2 ru=>#[v,H1,I2,ru,q]
def JMc(ha:PE X o ta)(hv:PE X value tv)(hs:swapsWith value (some (.Attribute o f pos')) pos.line X.env=pure false):PS X (.Assign [.Attribute o f pos'] value pos) (sFld X.K ta tv f):=by
 intro zp s Y H D I h;refine plainObj_wpAny_Assign_Attribute (thn (hv zp s Y H _ I h) λu s1 ⟨y,H1,I1,ry,q⟩=>thn (ha zp s1 Y H1 _ I1 q) λov s2 ⟨x,H2,I2,rx,a,C,dx,fs,ex,ea,c,n,l,q2⟩=>?_) hs;subst ex;obtain rfl:ov=Value.ref a:=rx;exact JHx I2 ea c n l ry λs3 I3=>#[Y,_,I3,q2]
end
section
variable{X:Cx}{zp:Pq}{Y:St}{H:Hp}{s:Shared}{A:Around}{E:Vq}{Q:Vq}{c:Value}{b:Bool}
end
end L2
namespace L2
open PySem PySem.Spec PyProof.Rows
structure Room(k:Nat)(A:Around):Prop where
 hd:A.handled=none
 dp:A.depth+3*k+5<recursionLimit
 un:A.units+16*k+200<cLine
def Room.mono{j k:Nat}{A:Around}(r:Room k A)(h:j<=k):Room j A:=#[r.hd,by have:=r.dp;omega,by have:=r.un;omega]
theorem Room.deeper{k:Nat}(r:Room (k+1) A)(env:Env):Room k (A.deeper env) :=
 #[r.hd,by have:=r.dp;show A.depth+1+3*k+5<_;omega,by have:=r.un;show A.units+3+16*k+200<_;omega]
def JHw{A:Around}{C:Addr}{us:List Value}{kw:List (Str×Value)}:(A.under (.builtin "type.__call__" #[.ref C::us,kw])).depth=A.depth+1:=by
 first|rfl|simp[Around.under,Code.weight,Code.isCreation,Code.isGuard,Code.isCaller,Code.frames,Code.isFrame,guardIds]
def JID{A:Around}{C:Addr}{us:List Value}{kw:List (Str×Value)}:(A.under (.builtin "type.__call__" #[.ref C::us,kw])).units=A.units+1:=by
 first|rfl|simp[Around.under,Code.cUnits,Code.frames,Code.isFrame]
def Room.make{k:Nat}(r:Room (k+1) A)(C:Addr)(us:List Value)(kw:List (Str×Value)):Room k (A.under (.builtin "type.__call__" #[.ref C::us,kw])) :=
 #[r.hd,by have:=r.dp;rw[JHw];omega,by have:=r.un;rw[JID];omega]
theorem Room.depth{k:Nat}{A:Around}(r:Room k A):A.depth<recursionLimit:=by have:=r.dp;omega
def tNil:TA:=λ_ H Q=>Q [] H
def JQQ(ta:TE)(tr:TA):TA:=λY H Q=>ta Y H λx H1=>tr Y H1 λxs H2=>Q (x::xs) H2
section
variable{X:Cx}{e:Expr}{es:List Expr}{te:TE}{t:TA}{pos:Pos}
def JBQ:PA X [] tNil:=λ_ _ _ _ H Q I h=>Calls.spliced_nil #[[],H,I,.nil,h]
def JAz(ha:PE X e te)(hr:PA X es t)(hs:starEach (e::es) X.env=(false,eval e X.env)::starEach es X.env:=by rfl):PA X (e::es) (JQQ te t):=by
 intro pos zp s Y H Q I h;rw[hs];show wpAny _ _ (spliced ((false,eval e X.env)::backTo pos (starEach es X.env))) _ _ s;refine Calls.spliced_cons (thn (ha zp s Y H _ I h) λu s1 h_=>?_);obtain⟨x,H1,I1,r1,q1⟩:=h_;exact thn (hr pos zp s1 Y H1 _ I1 q1) λus s2 ⟨xs,H2,I2,r2,q2⟩=>#[x::xs,H2,I2,.cons r1 r2,q2]
def tTup(t:TA):TE:=λY H Q=>t Y H λxs H1=>xs.length<=sizeLine/\∀p,H1 p=none->Q (.ref p) (upd H1 p (.tup xs))
def tLst(t:TA):TE:=λY H Q=>t Y H λxs H1=>xs.length<=sizeLine/\∀p,H1 p=none->Q (.ref p) (upd H1 p (.lst xs))
def JMD{x1}(h:PA X es t):PE X (.Tuple es x1 pos) (tTup t):=by
 intro zp s Y H Q I hq;refine wpAny_Tuple_spliced (thn (h pos zp s Y H _ I hq) λus s1 ⟨xs,H1,I1,r,z,q⟩=>#[by rw[<-r.length];exact z,?_])
 have hf:H1 s1.heap.objs.size=none:=I1.hok.fresh (q_t _);refine#[.ref s1.heap.objs.size,upd H1 s1.heap.objs.size (.tup xs),I1.laid (t':=s1.toks) (λb u e=>q_c _ e) (q_t _) ?_,rfl,q _ hf];exact#[z,us,r,#[_,q_k _ rfl,rfl,_,rfl]]
def JJk(h:PA X es t):PE X (.List es pos) (tLst t):=by
 intro zp s Y H Q I hq;refine wpAny_List_spliced (thn (h pos zp s Y H _ I hq) λus s1 ⟨xs,H1,I1,r,z,q⟩=>#[by rw[<-r.length];exact z,?_])
 have hf:H1 s1.heap.objs.size=none:=I1.hok.fresh (q_t _);refine#[.ref s1.heap.objs.size,upd H1 s1.heap.objs.size (.lst xs),I1.laid (t':=s1.toks) (λb u e=>q_c _ e) (q_t _) ?_,rfl,q _ hf];exact#[z,us,0,r,q_k _ rfl]
end
noncomputable abbrev Sp:=List V->Hp->VK->XK->Prop
noncomputable abbrev CXT:=List Env->Hp->Shared->XK->Vq
structure Env0(P:Program)(w:World)(K:Kq)(mg:Mq)(base:Heap)(A:Around)(outer:List Env)(s:Shared)(H:Hp):Prop where
 frames:A.frames=some outer
 mod:Mod K mg base
 bs:∀b o,base.get? b=some o->s.heap.get? b=some o/\H b=none
 bsz:base.objs.size<=s.heap.objs.size
 funs:s.heap.FunFrames base outer
 frf:∀b∈frs outer,H b=none
 hok:HOk P w H s.heap
 bare:AllBare s.gens
def CE(outer:List Env)(P:Program)(w:World)(H:Hp)(s:Shared)(Q:VK)(u:Value)(s':Shared):Prop :=
 ∃v H',s'.os=s.os/\AllBare s'.gens/\Un (frs outer) [] H H' s.heap s'.heap/\HOk P w H' s'.heap/\RelV v u/\Q v H'
def CR(CX:CXT)(outer:List Env)(P:Program)(w:World)(H:Hp)(s:Shared)(Q:VK)(E:XK)(r:Result)(s':Shared):Prop :=
 match r with
 |.ok (.ret u)=>CE outer P w H s Q u s'
 |.ok _=>False
 |.error e=>CX outer H s E e s'
structure FnOk(P:Program)(w:World)(K:Kq)(mg:Mq)(base:Heap)(CX:CXT)(k:Nat)(f:Addr)(fd:FuncData)(ps:List Str)(sp:Sp):Prop where
 len:∀vs H Q E,sp vs H Q E->vs.length=ps.length
 run:∀(A:Around) (outer:List Env) (s:Shared) (H:Hp) (args:Args) (us:List Value) (vs:List V) (Q:VK) (E:XK),Room k A->Env0 P w K mg base A outer s H->BindsTo s fd args (ps.zip us)->Vals vs us->sp vs H Q E ->
  codeAny (model P w) A (.call (.ref f) args) (CR CX outer P w H s Q E) s
def Env0.make{P:Program}{w:World}{K:Kq}{mg:Mq}{base:Heap}{A:Around}{outer:List Env}{s:Shared}{H:Hp}(e:Env0 P w K mg base A outer s H)(C:Addr)(us:List Value)(kw:List (Str×Value)) :
 Env0 P w K mg base (A.under (.builtin "type.__call__" #[.ref C::us,kw])) outer s H:=#[by first|exact e.frames|(simpa[Around.under,Code.envs,Code.isFrame,pushEnvs] using e.frames),e.mod,e.bs,e.bsz,e.funs,e.frf,e.hok,e.bare]
section
variable{X:Cx}{zp:Pq}{Y:St}{H:Hp}{s s':Shared}
def Inv.env0(I:Inv X zp Y H s):Env0 X.prog X.w X.K X.mg X.base X.A X.stack s H :=
 #[I.ok.frames,I.ok.mod,I.bs,Nat.le_trans I.ok.bsz I.sz,I.stack,I.stkFree,I.hok,I.bare]
def Inv.after{Q:VK}{u:Value}(I:Inv X zp Y H s)(h:CE X.stack X.prog X.w H s Q u s'):EP X zp Y Q u s':=by
 obtain⟨v,H',os,bare,un,hok,r,q⟩:=h;obtain⟨hh,g,d,t,os'⟩:=s';obtain rfl:os'=s.os:=os;exact#[v,H',I.call (h':=hh) (g':=g) (d':=d) (t':=t) (ch:=[]) un hok bare (λb z=>absurd z (by simp)),r,q]
end
def tCall(sp:Sp)(dvs:List V)(E:XK)(t:TA):TE:=λY H Q=>t Y H λvs H1=>sp (vs++dvs) H1 Q E
def JKp(C:Addr)(m:Str)(sp:Sp)(dvs:List V)(E:XK)(ta:TE)(t:TA):TE:=λY H Q=>ta Y H λx H1=>∃a dx fs,x=.ref a/\H1 a=some (.ins C dx fs)/\fs.lookup m=none /\
 t Y H1 λvs H2=>sp (x::(vs++dvs)) H2 Q E
def JRa(C:Addr)(sp:Sp)(dvs:List V)(E:XK)(t:TA):TE:=λY H Q=>t Y H λvs H1=>∀x dx,H1 x=none->H1 dx=none->dx≠x ->
 sp (.ref x::(vs++dvs)) (upd (upd H1 dx (.own x)) x (.ins C dx [])) (λv H2=>v=.non/\Q (.ref x) H2) E
def Binds(K:Kq)(fd:FuncData)(ps:List Str)(ds:List Value):Prop :=
 ∀(s:Shared) (us:List Value),K.In s.heap->(us++ds).length=ps.length->BindsTo s fd #[us,[]] (ps.zip (us++ds))
def Binds.all{K:Kq}{fd:FuncData}{ps:List Str}(h:∀us:List Value,us.length=ps.length->bindArgs fd #[us,[]]=pure (ps.zip us)):Binds K fd ps []:=λs us _ hl=>by
 rw[List.append_nil]at hl ⊢;exact .of_eq (h us hl)
def JBX(CX:CXT)(X:Cx)(E:XK):Prop:=∀(zp:Pq) (Y:St) (H:Hp) (s:Shared) (e:Value) (s':Shared),Inv X zp Y H s->CX X.stack H s E e s'->X.xe e s'
section
variable{X:Cx}{CX:CXT}{k:Nat}{f C:Addr}{fd:FuncData}{ps:List Str}{sp:Sp}{dvs:List V}{ds:List Value}{E:XK}{x m:Str}{p pos apos:Pos}{e o:Expr}{es:List Expr}{ta:TE}{t:TA}
def JIb{Q:VK}(F:FnOk X.prog X.w X.K X.mg X.base CX k f fd ps sp)(hr:Room k X.A)(hb:Binds X.K fd ps ds)(hd:Vals dvs ds)(hx:JBX CX X E)
  (I:Inv X zp Y H s) (r:Vals vs us) (h:sp (vs++dvs) H Q E):wpAny (model X.prog X.w) X.A (call (.ref f) us) (EP X zp Y Q) X.xe s:=by
 have r2:Vals (vs++dvs) (us++ds):=r.append hd;have hl:(us++ds).length=ps.length:=by rw[<-r2.length];exact F.len _ _ _ _ h
 refine wpAny_call (codeAny_mono (F.run X.A X.stack s H #[us,[]] (us++ds) (vs++dvs) Q E hr I.env0 (hb s us I.kIn hl) r2 h) λr s' hq=>?_);cases r with
 |error e=>exact hx zp Y H s e s' I hq
 |ok fl =>
  cases fl with
  |ret u=>exact I.after hq
  |next=>exact fF hq
  |brk=>exact fF hq
  |cont=>exact fF hq
def JKQ(F:FnOk X.prog X.w X.K X.mg X.base CX k f fd ps sp)(hr:Room k X.A)(hg:Gl X x)(hm:X.mg x=some (.ref f))(hk:PySem.W.keepIn X.K (.ref f)=true)(hb:Binds X.K fd ps ds)(hd:Vals dvs ds)(hx:JBX CX X E)
  (ha:PA X (e::es) t) (hdb:(x==("__debug__":Str))=false:=by decide) (he:starEach (e::es) X.env=(false,eval e X.env)::starEach es X.env:=by rfl) (hpl:(backTo pos (starEach es X.env)).any (·.1)=false:=by rfl) :
  PE X (.Call (.Name x p) (e::es) [] pos) (tCall sp dvs E t):=by
 intro zp s Y H Q I h;refine wpAny_Call_Name_kw (JB0 I hg hm ?_ hdb);refine PySem.W.callWith_K (h₀:=X.base) I.ok.mod.kin hk (thn (ha pos zp s Y H _ I h) λus s1 ⟨vs,H1,I1,r,q⟩=>#[I1.kIn,?_]) he hpl;exact JIb F hr hb hd hx I1 r q
def JIY(he:PE X o ta)(c:Cls X.K C)(hm:Meth X.K C m f)(F:FnOk X.prog X.w X.K X.mg X.base CX k f fd ps sp)(hr:Room k X.A)(hb:Binds X.K fd ps ds)(hd:Vals dvs ds)(hx:JBX CX X E)(ha:PA X (e::es) t)
  (hst:starEach (e::es) X.env=(false,eval e X.env)::starEach es X.env:=by rfl) (hpl:(backTo pos (starEach es X.env)).any (·.1)=false:=by rfl)
  (ht:eval (.Call (.Attribute o m apos) (e::es) [] pos) X.env=(do
    let ov<-eval o X.env
    standAt apos.atName
    let (f,first)<-holding [ov] (getMethod ov m pl)
    callWith pos f first (backTo pos (starEach (e::es) X.env)) (backToKw pos (keywordEach [] X.env))):=by rfl) :
  PE X (.Call (.Attribute o m apos) (e::es) [] pos) (JKp C m sp dvs E ta t):=by
 intro zp s Y H Q I h;refine PySem.W.methodCall_KW (pl:=pl) (thn (he zp s Y H _ I h) λu s1 ⟨x,H1,I1,rx,a,dx,fs,ex,ea,l,q⟩=>?_) ht;subst ex;obtain rfl:u=Value.ref a:=rx;refine JEe I1 ea c hm l ?_;refine PySem.W.callWith_K (first:=[.ref a]) (h₀:=X.base) I.ok.mod.kin hm.kp (thn (ha pos zp s1 Y H1 _ I1 q) λus s2 ⟨vs,H2,I2,r,q2⟩=>#[I2.kIn,?_]) hst hpl
 exact JIb (us:=.ref a::us) (vs:=.ref a::vs) F hr hb hd hx I2 (.cons rfl r) q2
def JHe(he:PE X o ta)(c:Cls X.K C)(hm:Meth X.K C m f)(F:FnOk X.prog X.w X.K X.mg X.base CX k f fd ps sp)(hr:Room k X.A)(hb:Binds X.K fd ps ds)(hd:Vals dvs ds)(hx:JBX CX X E)
  (ht:eval (.Call (.Attribute o m apos) [] [] pos) X.env=(do
    let ov<-eval o X.env
    standAt apos.atName
    let (f,first)<-holding [ov] (getMethod ov m pl)
    callWith pos f first (backTo pos (starEach [] X.env)) (backToKw pos (keywordEach [] X.env))):=by rfl) :
  PE X (.Call (.Attribute o m apos) [] [] pos) (JKp C m sp dvs E ta tNil):=by
 intro zp s Y H Q I h;refine PySem.W.methodCall_KW (pl:=pl) (thn (he zp s Y H _ I h) λu s1 ⟨x,H1,I1,rx,a,dx,fs,ex,ea,l,q⟩=>?_) ht;subst ex;obtain rfl:u=Value.ref a:=rx;refine JEe I1 ea c hm l ?_;exact PySem.W.callWith_K0 (first:=[.ref a]) I1.kIn hm.kp (JIb (us:=[.ref a]) (vs:=[.ref a]) F hr hb hd hx I1 (.cons rfl .nil) q)
structure Mk(K:Kq)(C f:Addr):Prop where
 makes:PySem.W.makesIn K C=true
 init:PySem.W.findIn K (.ref C) "__init__"=some (some (.ref f))
 fn:PySem.W.isFn K (.ref f)=true
 kp:PySem.W.keepIn K (.ref C)=true
def JHa{Q:VK}(M:Mk X.K C f)(F:FnOk X.prog X.w X.K X.mg X.base CX k f fd ps sp)(hr:Room (k+1) X.A)(hb:Binds X.K fd ps ds)(hd:Vals dvs ds)
  (hx:JBX CX X E) (I:Inv X zp Y H s) (r:Vals vs us)
  (h:∀x dx,H x=none->H dx=none->dx≠x->sp (.ref x::(vs++dvs)) (upd (upd H dx (.own x)) x (.ins C dx [])) (λv H2=>v=.non/\Q (.ref x) H2) E) :
  wpAny (model X.prog X.w) X.A (call (.ref C) us) (EP X zp Y Q) X.xe s:=by
 have hq:=h (s.heap.objs.size+1) s.heap.objs.size (I.hok.fresh (Nat.le_succ _)) (I.hok.fresh (q_t _)) (q_l (Nat.lt_succ_self _));have I2:=Inv.made (C:=C) I;have r2:Vals (V.ref (s.heap.objs.size+1)::(vs++dvs)) (Value.ref (s.heap.objs.size+1)::(us++ds)):=.cons rfl (r.append hd);have hl:(Value.ref (s.heap.objs.size+1)::us++ds).length=ps.length:=by
  have e:=r2.length;rw[F.len _ _ _ _ hq]at e;exact e.symm
 refine wpAny_call (JKn (f:=f) I.kIn M.makes M.init (beq_iff_eq.mp M.fn) (codeAny_mono (F.run _ X.stack _ _ #[Value.ref (s.heap.objs.size+1)::us,[]] (Value.ref (s.heap.objs.size+1)::(us++ds)) _ _ E (hr.make C us [])
  (I2.env0.make C us []) (hb _ (Value.ref (s.heap.objs.size+1)::us) I2.kIn hl) r2 hq) λr s' hq'=>?_))
 cases r with
 |error e=>exact hx zp Y _ _ e s' I2 hq'
 |ok fl =>
  cases fl with
  |ret u =>
    obtain⟨v,H',I3,rv,ev,q3⟩:=I2.after hq';subst ev;exact#[rv,#[V.ref (s.heap.objs.size+1),H',I3,rfl,q3]]
  |next=>exact fF hq'
  |brk=>exact fF hq'
  |cont=>exact fF hq'
def JNr(M:Mk X.K C f)(F:FnOk X.prog X.w X.K X.mg X.base CX k f fd ps sp)(hr:Room (k+1) X.A)(hg:Gl X x)(hm:X.mg x=some (.ref C))(hb:Binds X.K fd ps ds)(hd:Vals dvs ds)(hx:JBX CX X E)
  (ha:PA X (e::es) t) (hdb:(x==("__debug__":Str))=false:=by decide) (he:starEach (e::es) X.env=(false,eval e X.env)::starEach es X.env:=by rfl) (hpl:(backTo pos (starEach es X.env)).any (·.1)=false:=by rfl) :
  PE X (.Call (.Name x p) (e::es) [] pos) (JRa C sp dvs E t):=by
 intro zp s Y H Q I h;refine wpAny_Call_Name_kw (JB0 I hg hm ?_ hdb);refine PySem.W.callWith_K (h₀:=X.base) I.ok.mod.kin M.kp (thn (ha pos zp s Y H _ I h) λus s1 ⟨vs,H1,I1,r,q⟩=>#[I1.kIn,?_]) he hpl;exact JHa M F hr hb hd hx I1 r q
def JKd(M:Mk X.K C f)(F:FnOk X.prog X.w X.K X.mg X.base CX k f fd ps sp)(hr:Room (k+1) X.A)(hg:Gl X x)(hm:X.mg x=some (.ref C))(hb:Binds X.K fd ps ds)(hd:Vals dvs ds)(hx:JBX CX X E)
  (hdb:(x==("__debug__":Str))=false:=by decide):PE X (.Call (.Name x p) [] [] pos) (JRa C sp dvs E tNil):=by
 intro zp s Y H Q I h;refine wpAny_Call_Name_kw (JB0 I hg hm ?_ hdb);exact PySem.W.callWith_K0 I.kIn M.kp (JHa (us:=[]) M F hr hb hd hx I .nil h)
end
section
variable{X:Cx}{CX:CXT}{k:Nat}{f C:Addr}{fd:FuncData}{ps ks:List Str}{sp:Sp}{E:XK}{x m:Str}{p pos apos kpos:Pos}{e o:Expr}{es:List Expr}{kws:List Keyword}{te ta:TE}{t tk:TA}{nm:Option Str}
variable{g:List Value->List Value->List Value}{gV:List V->List V->List V}
end
structure FnScope(N P:List Str)(sc:Scope):Prop where
 kind:sc.kind=.function
 co:sc.isCoroutine=false
 gen:sc.isGenerator=false
 nd:N.Nodup
 pre:N.take P.length=P
 par:∀x∈P,sc.names.lookup x=some .local\/sc.names.lookup x=some .cell
 nofree:∀y∈sc.names,y.2≠.free
theorem JFh{kindOf:Str->Option NameKind}{x:Str}:∀ {binds:List (Str×Value)}{m:Mq},(∀v,(x,v) ∉ binds)->bindL kindOf binds m x=m x
 | [],_,_=>rfl
 |(n,v)::r,m,h=>by
  unfold bindL;rw[JFh λw hw=>h w (q_s _ hw)]
  split
  · have:x≠n:=by rintro rfl;exact h v List.mem_cons_self
    simp[this]
  · rfl
theorem JF8{kindOf:Str->Option NameKind}{x:Str}:∀ {binds:List (Str×Value)}{m:Mq},(∀v,(x,v) ∉ binds)->bindC kindOf binds m x=m x
 | [],_,_=>rfl
 |(n,v)::r,m,h=>by
  unfold bindC;rw[JF8 λw hw=>h w (q_s _ hw)]
  split
  · rfl
  · have:x≠n:=by rintro rfl;exact h v List.mem_cons_self
    simp[this]
theorem JFU{kindOf:Str->Option NameKind}{x:Str}{v:Value}:∀ {P:List Str}{vs:List Value}{i:Nat}{m:Mq},P.Nodup->P[i]? = some x->vs[i]? = some v->kindOf x=some .local ->
  bindL kindOf (P.zip vs) m x=some v
 | [],_,_,_,_,h,_,_=>by simp at h
 |_::_,[],_,_,_,_,h,_=>by simp at h
 |p::P,w::vs,0,m,nd,h1,h2,hk=>by
  simp at h1 h2;subst h1;subst h2;show bindL kindOf ((p,w)::P.zip vs) m p=_;unfold bindL;rw[JFh λv hv=>(List.nodup_cons.mp nd).1 (List.of_mem_zip hv).1,if_pos hk];simp
 |p::P,w::vs,i+1,m,nd,h1,h2,hk=>by
  show bindL kindOf ((p,w)::P.zip vs) m x=_;unfold bindL;exact JFU (i:=i) (List.nodup_cons.mp nd).2 (by simpa using h1) (by simpa using h2) hk
theorem JFl{kindOf:Str->Option NameKind}{x:Str}{v:Value}:∀ {P:List Str}{vs:List Value}{i:Nat}{m:Mq},P.Nodup->P[i]? = some x->vs[i]? = some v->kindOf x≠some .local ->
  bindC kindOf (P.zip vs) m x=some v
 | [],_,_,_,_,h,_,_=>by simp at h
 |_::_,[],_,_,_,_,h,_=>by simp at h
 |p::P,w::vs,0,m,nd,h1,h2,hk=>by
  simp at h1 h2;subst h1;subst h2;show bindC kindOf ((p,w)::P.zip vs) m p=_;unfold bindC;rw[JF8 λv hv=>(List.nodup_cons.mp nd).1 (List.of_mem_zip hv).1,if_neg hk];simp
 |p::P,w::vs,i+1,m,nd,h1,h2,hk=>by
  show bindC kindOf ((p,w)::P.zip vs) m x=_;unfold bindC;exact JFl (i:=i) (List.nodup_cons.mp nd).2 (by simpa using h1) (by simpa using h2) hk
abbrev start(N:List Str)(vs:List V):St:=vs.map some++List.replicate (N.length - vs.length) none
abbrev cxOf(CX:CXT)(P:Program)(w:World)(K:Kq)(mg:Mq)(base:Heap)(N:List Str)(qual:Str)(scope:Scope)(f:Addr)(cd:Value)(A:Around)(outer:List Env)(s:Shared)(H:Hp)(E:XK):Cx where
 prog:=P
 w:=w
 K:=K
 mg:=mg
 base:=base
 A:=A.deeper (envOfC qual scope s.heap.objs.size f cd)
 N:=N
 s₀:=s
 H₀:=H
 env:=envOfC qual scope s.heap.objs.size f cd
 outer:=outer
 stack:=envOfC qual scope s.heap.objs.size f cd::outer
 ex:=[]
 calm:=true
 fn:=λ_=>true
 pn:=[]
 xe:=λe s'=>wpAny (model P w) (A.deeper (envOfC qual scope s.heap.objs.size f cd)) (leaving (envOfC qual scope s.heap.objs.size f cd) e) (λ_ s''=>CX outer H s E e s'') (λe' s''=>CX outer H s E e' s'') s'
def JHn{sc:Scope}{n:Nat}{x:Str}(h:sc.names.lookup x=some .cell):∃c,(cellsFrom n sc.names []).lookup x=some c:=by
 have q:=PySem.W.cellsFrom_some sc.names n [] (.inl h);exact Option.isSome_iff_exists.mp q
def JDg{CX:CXT}{P:Program}{w:World}{K:Kq}{mg:Mq}{base:Heap}{N ps:List Str}{qual:Str}{scope:Scope}{f:Addr}{cd:Value}{A:Around}{outer:List Env}{s s1:Shared}{H:Hp}{E:XK}{us:List Value}{vs:List V}
  (S:FnScope N ps scope) (hd:A.handled=none) (e0:Env0 P w K mg base A outer s H) (hl:vs.length=ps.length) (r:Vals vs us)
  (x:InCallC s s.heap.objs.size (bindL (envOfC qual scope s.heap.objs.size f cd).kindOf (ps.zip us) λ_=>none) (cellsFrom (s.heap.objs.size+1) scope.names []) (bindC (envOfC qual scope s.heap.objs.size f cd).kindOf (ps.zip us) λ_=>none) s1) :
  Inv (cxOf CX P w K mg base N qual scope f cd A outer s H E) [] (start N vs) H s1:=by
 have hpl:ps.length<=N.length:=by have:=congrArg List.length S.pre;rw[List.length_take]at this;omega
 obtain⟨h1,tk,rfl,hk⟩:=x.done;have noA:∀b:Addr,b ∉ (cxOf CX P w K mg base N qual scope f cd A outer s H E).ex:=λb z=>absurd (show b∈([]:List Addr) from z) (by simp)
 refine#[#[e0.mod,S.kind,rfl,rfl,q_t _,λy z c h1 h2=>?_,λy hy=>?_,λy c _ h=>?_,λ_=>hd,Around.frames_deeper e0.frames,.inr #[rfl,rfl],λb z=>absurd z (noA b),e0.bs,e0.bsz,λb _ _=>noA b,λb z=>absurd z (noA b),e0.funs,e0.frf],
  rfl,e0.bare,Un.kept hk,#[_,x.toInCall.ns,λi y v h1 h2 h3=>?_],λy c h=>#[_,x.cell y c h],e0.hok.fresh (q_t _),λy c h=>?_,λp hp=>absurd (show p∈([]:Pq) from hp) (by simp),e0.hok.kept hk,?_]
 ·exact name_of_addr x.apart (PySem.mem_of_lookup h1) (PySem.mem_of_lookup h2)
 ·have hy:scope.names.lookup y=some .cell\/scope.names.lookup y=some .free:=hy;rcases hy with hy|hy
  · exact JHn hy
  · exact absurd rfl (S.nofree _ (PySem.mem_of_lookup hy))
 ·exact Nat.le_of_lt (x.above y c (PySem.mem_of_lookup h))
 ·have hi:i<vs.length:=by
    unfold start at h2
    by_cases hi:i<vs.length
    ·exact hi
    ·rw[List.getElem?_append_right (by simpa using hi)]at h2
     rw[List.getElem?_replicate]at h2
     split at h2<;>cases h2
  have ha:vs[i]? = some v:=by
    unfold start at h2;rw[q_B (by simpa using hi),List.getElem?_map]at h2
    cases e:vs[i]? with
    |none=>rw[e]at h2;cases h2
    |some a=>rw[e]at h2;cases h2;rfl
  obtain⟨u,hu,rv⟩:=r.get ha;have hp:ps[i]? = some y:=by
    rw[<-S.pre,List.getElem?_take_of_lt ∅];exact h1
  have ndP:ps.Nodup:=by rw[<-S.pre];exact S.nd.sublist (List.take_sublist _ _)
  refine#[u,rv,?_];rcases S.par y (List.mem_of_getElem? hp) with k|k
  · exact .inl #[k,JFU ndP hp hu k]
  · obtain⟨c,e⟩:=JHn (n:=s.heap.objs.size+1) k
    refine .inr #[.inl k,c,e,?_];have q:=x.cell y c e;rw[JFl ndP hp hu (by show scope.names.lookup y≠_;rw[k];decide)]at q
    exact q
 ·exact e0.hok.fresh (Nat.le_of_lt (x.above y c (PySem.mem_of_lookup h)))
 ·unfold start;show _=N.length;rw[q_u,q_g,List.length_replicate];omega
def JOL{CX:CXT}{P:Program}{w:World}{K:Kq}{mg:Mq}{base:Heap}{k:Nat}{f:Addr}{name qual:Str}{params:Arguments}{body:List Stmt}{scope:Scope}{dV kV doc pm cdv ct oc:Value}{an od:Option Addr}
  {osl:Array (Option Value)}{N ps:List Str}{sp:Sp}(lk:K.lookup f=some #[oc,od,.func (PySem.W.fnOf name qual params body scope dV kV doc pm an cdv ct),osl]) (hcd:PySem.W.codeIn K cdv qual=true) (S:FnScope N ps scope)
  (len:∀vs H Q E,sp vs H Q E->vs.length=ps.length)
  (hbody:∀(A:Around) (outer:List Env) (s:Shared) (H:Hp) (vs:List V) (Q:VK) (E:XK),Room k (A.deeper (envOfC qual scope s.heap.objs.size f cdv))->sp vs H Q E ->
    ∃t,PSs (cxOf CX P w K mg base N qual scope f cdv A outer s H E) body t/\t { nx:=λ_ H'=>Q .non H',rt:=Q } (start N vs) H) :
  FnOk P w K mg base CX (k+1) f (PySem.W.fnOf name qual params body scope dV kV doc pm an cdv ct) ps sp:=by
 refine#[len,λA outer s H args us vs Q E hr e0 hb r hsp=>?_];have hl:=len _ _ _ _ hsp;have KX:K.In s.heap:=e0.mod.kin.keeps λb o e=>(e0.bs b o e).1;have lim:s.heap.NoLimit:=e0.mod.nolimit.keeps λb o e=>(e0.bs b o e).1;have hkind:∀y∈ps.zip us,scope.names.lookup y.1=some .local\/(scope.names.lookup y.1=some .cell/\((cellsFrom (s.heap.objs.size+1) scope.names []).lookup y.1).isSome=true):=λ⟨n,v⟩ hy=>by
  rcases S.par n (List.of_mem_zip hy).1 with q|q
  · exact .inl q
  · exact .inr #[q,PySem.W.cellsFrom_some _ _ _ (.inl q)]
 refine codeAny_call_function hr.depth (KX _ _ lk) rfl S.co S.gen rfl (PySem.W.codeRec_of KX hcd) (hb _ _ _ _ ?_);refine wpAny_newFunctionEnv_cells S.kind hkind λenv he s1 x=>?_;subst he;refine#[lim.keeps x.toInCall.keep,codeAny_func ?_];obtain⟨t,ht,hq⟩:=hbody A outer s H vs Q E (hr.deeper _) hsp;have I:Inv (cxOf CX P w K mg base N qual scope f cdv A outer s H E) [] (start N vs) H s1:=JDg S hr.hd e0 hl r x;refine wpAny_mono (ht [] s1 (start N vs) H _ I hq) (λfl s' hs=>?_) λe s' hs=>hs;have fin:∀ {Y':St}{H':Hp}{v:V}{u:Value},Inv (cxOf CX P w K mg base N qual scope f cdv A outer s H E) [] Y' H' s'->RelV v u->Q v H'->CE outer P w H s Q u s' :=
  λ{Y' H' v u} J rv q=>#[v,H',J.os,J.bare,J.base,J.hok,rv,q]
 cases fl with
 |ret u =>
  obtain⟨v,Y',H',J,rv,q⟩:=hs;exact fin J rv q
 |next =>
  obtain⟨Y',H',J,q⟩:=hs;exact fin (v:=V.non) (u:=Value.none) J rfl q
 |brk =>
  obtain⟨_,_,_,q⟩:=hs;exact fF q
 |cont =>
  obtain⟨_,_,_,q⟩:=hs;exact fF q
end L2
namespace L2
open PySem PySem.Spec PyProof.Rows
section
variable{X:Cx}{x:Str}{p pos:Pos}{e:Expr}{es:List Expr}{t:TA}{id T:String}{r:List V->Hp->VK->Prop}
def tCB(r:List V->Hp->VK->Prop)(t:TA):TE:=λY H Q=>t Y H λvs H1=>r vs H1 Q
def JCV(hc:JCE X (.builtin id) r)(hg:Gl X x)(hm:X.mg x=none)(hv:bootBuiltins x=some (.builtin id))(ha:PA X (e::es) t)(hn:x≠"__name__":=by decide)(hdb:(x==("__debug__":Str))=false:=by decide)
  (he:starEach (e::es) X.env=(false,eval e X.env)::starEach es X.env:=by rfl) (hpl:(backTo pos (starEach es X.env)).any (·.1)=false:=by rfl):PE X (.Call (.Name x p) (e::es) [] pos) (tCB r t):=by
 intro zp s Y H Q I h;refine wpAny_Call_Name_kw (JFy I hg hm hv ?_ hn hdb);exact PyProof.Rows.callWith_builtin1 (thn (ha pos zp s Y H _ I h) λus s1 ⟨vs,H1,I1,r1,q1⟩=>hc zp s1 Y H1 vs us Q I1 r1 q1) he hpl
def JFR(hc:JCE X (.type T) r)(hg:Gl X x)(hm:X.mg x=none)(hv:bootBuiltins x=some (.type T))(ha:PA X (e::es) t)(hn:x≠"__name__":=by decide)(hdb:(x==("__debug__":Str))=false:=by decide)
  (he:starEach (e::es) X.env=(false,eval e X.env)::starEach es X.env:=by rfl) (hpl:(backTo pos (starEach es X.env)).any (·.1)=false:=by rfl):PE X (.Call (.Name x p) (e::es) [] pos) (tCB r t):=by
 intro zp s Y H Q I h;refine wpAny_Call_Name_kw (JFy I hg hm hv ?_ hn hdb);exact PyProof.Rows.callWith_type1 (thn (ha pos zp s Y H _ I h) λus s1 ⟨vs,H1,I1,r1,q1⟩=>hc zp s1 Y H1 vs us Q I1 r1 q1) he hpl
end
end L2
namespace HT
open PySem PyProof.Rows
section
open PySem.SeqAt
open PySem.AutoSeq1 (wpAny_loadPart')
open PySem.MeetsSeq PySem.MeetsSeq2 PySem.MeetsSeq3
end
section
variable{prog:Program}{w:World}{A:Around}{E:Vq}{s:Shared}
def cat_tup{t b:Addr}{Q:Vq}(ht:IsTup s.heap t vs.toArray)(hb:IsTup s.heap b ws.toArray)(hv:vs≠[])
  (h1:ws=[]->Q (.ref t) s) (h2:ws≠[]->Q (.ref s.heap.objs.size) { s with heap:=s.heap.push { cls:=.type "tuple",data:=.seq (vs++ws).toArray } })
  (hsz:vs.length+ws.length<=sizeLine):wpAny (model prog w) A (binaryOp .Add (.ref t) (.ref b)) Q E s:=by
 obtain⟨⟨cls,dd,data,sl⟩,ho,hc,n,hd⟩:=id ht;obtain⟨⟨cls2,dd2,data2,sl2⟩,ho2,hc2,n2,hd2⟩:=id hb;simp only at hc hd hc2 hd2;subst hc hd hc2 hd2;have e:vs.toArray++ws.toArray=(vs++ws).toArray:=by simp
 by_cases hw:ws=[]
 ·exact concat_meets #[_,ho,rfl] #[_,ho2,rfl] noFill_tuple_add seq_tuple_add PySem.F.slot_tuple_add PySem.F.entry_tuple_add (PySem.F.args_tuple_add_2 _ _)
    (tuple_addW1 t b vs.toArray ws.toArray n n2 dd dd2 sl sl2 (by simpa using hv) (by simp[hw])) #[ho,ho2,h1 hw]
 ·refine concat_meets #[_,ho,rfl] #[_,ho2,rfl] noFill_tuple_add seq_tuple_add PySem.F.slot_tuple_add PySem.F.entry_tuple_add (PySem.F.args_tuple_add_2 _ _)
    (tuple_addW2 t b vs.toArray ws.toArray n n2 dd dd2 sl sl2 (by simpa using hv) (by simpa using hw) (by rw[q_f,q_f];exact hsz)) #[ho,ho2,?_]
  rw[e];exact h2 hw
end
end HT
namespace L2
open PySem PySem.Spec PyProof.Rows
noncomputable abbrev TO:=St->Hp->(Option Int->Hp->Prop)->Prop
section
variable{X:Cx}{e:Expr}{te:TE}{lo hi:Option Expr}{tl th:TO}{pos p2:Pos}
def SlR(X:Cx)(r:V->Option Int->Option Int->Hp->VK->Prop):Prop :=
 ∀(zp:Pq) (s:Shared) (Y:St) (H:Hp) (x:V) (v vl vu:Value) (lo hi:Option Int) (sl:Addr) (Q:VK),Inv X zp Y H s->RelV x v->s.heap.IsSliceOf sl vl vu .none->IsPart vl lo->IsPart vu hi->r x lo hi H Q ->
  ∃T id,typeLookup (.type T) "__getitem__"=pure (some (.builtin id))/\s.TypeIs v T/\wpAny (model X.prog X.w) X.A (getItem v (.ref sl)) (EP X zp Y Q) X.xe s
def SlR.or{r r':V->Option Int->Option Int->Hp->VK->Prop}(h:SlR X r)(h':SlR X r'):SlR X (λx lo hi H Q=>r x lo hi H Q\/r' x lo hi H Q):=by
 intro zp s Y H x v vl vu lo hi sl Q I rx hs pl pu q;rcases q with q|q
 ·exact h zp s Y H x v vl vu lo hi sl Q I rx hs pl pu q
 ·exact h' zp s Y H x v vl vu lo hi sl Q I rx hs pl pu q
abbrev rCatT(K:Kq):R2:=λx y H Q=>∃a b xs ys,x=.ref a/\y=.ref b/\SqT K H a xs/\SqT K H b ys/\xs≠[]/\xs.length+ys.length<=sizeLine /\
 (ys=[]->Q (.ref a) H)/\(ys≠[]->∀p,H p=none->Q (.ref p) (upd H p (.tup (xs++ys))))
def Vals.nil_iff(r:Vals xs us):us=[]↔xs=[]:=by
 cases r with
 |nil=>simp
 |cons _ _=>simp
def JOY:OpR X (binaryOp .Add) (rCatT X.K):=by
 intro zp s Y H x y v u Q I rx ry h;obtain⟨a,b,xs,ys,rfl,rfl,ha,hb,hx,hz,q1,q2⟩:=h;cases rx;cases ry;obtain⟨its,r1,p1,_⟩:=I.tuple ha;obtain⟨its2,r2,p2,_⟩:=I.tuple hb;refine HT.cat_tup p1 p2 (λz=>hx (r1.nil_iff.mp z)) (λz=>#[.ref a,H,I,rfl,q1 (r2.nil_iff.mp z)]) (λz=>?_) (by rw[<-r1.length,<-r2.length];exact hz)
 refine#[.ref s.heap.objs.size,_,I.laid (t':=s.toks) (o:=.tup (xs++ys)) (λb ob q=>q_c _ q) (q_t _) ?_,rfl,q2 (λw=>z (r2.nil_iff.mpr w)) _ (I.hok.fresh (q_t _))];exact#[by rw[q_u];exact hz,_,r1.append r2,IsTup.new _ _]
end
end L2
namespace L2
open PySem PySem.Spec PyProof.Rows
abbrev ixN(n:Nat)(i:Int):Option Nat:=if 0<=i then (if i<n then some i.toNat else none) else if -(n:Int)<=i then some (i+n).toNat else none
abbrev atI{α:Type}(xs:List α)(i:Int):Option α:=(ixN xs.length i).bind λj=>xs[j]?
def JPL{n:Nat}{i:Int}{j:Nat}(h:ixN n i=some j):seqIndex? i n=some j/\j<n/\-(n:Int)<=i/\i<n:=by
 unfold ixN at h
 by_cases h0:0<=i
 ·rw[if_pos h0]at h
  by_cases h1:i<n
  ·rw[if_pos h1]at h;have e:i.toNat=j:=Option.some.inj h;exact#[by rw[seqIndex_of h0 h1,e],by omega,by omega,h1]
  ·rw[if_neg h1]at h;cases h
 ·rw[if_neg h0]at h
  by_cases h1:-(n:Int)<=i
  ·rw[if_pos h1]at h;have e:(i+n).toNat=j:=Option.some.inj h;exact#[by rw[seqIndex_neg ∅ h1,e],by omega,h1,by omega]
  ·rw[if_neg h1]at h;cases h
def JGh{α:Type}{xs:List α}{i:Int}{v:α}(h:atI xs i=some v):∃j,seqIndex? i xs.length=some j/\xs[j]? = some v/\j<xs.length/\-(xs.length:Int)<=i/\i<xs.length:=by
 unfold atI at h;cases e:ixN xs.length i with
 |none=>rw[e]at h;cases h
 |some j =>
  rw[e]at h;obtain⟨h1,h2,h3,h4⟩:=JPL e;exact#[j,h1,h,h2,h3,h4]
def JJ5(b:Expr):Prop:=∀o i,subscripted b false o i=operate [o,i] (getItem o i)
def IxR(X:Cx)(r:R2):Prop :=
 ∀(value slice:Expr) (zp:Pq) (s:Shared) (Y:St) (H:Hp) (x y:V) (v u:Value) (Q:VK),Inv X zp Y H s->RelV x v->RelV y u->r x y H Q ->
  subscripted slice false v u=operate [v,u] (getItem v u)->wpAny (model X.prog X.w) X.A (subscriptTail value slice v u) (EP X zp Y Q) X.xe s
def MtR(X:Cx)(id:String)(r:V->List V->Hp->VK->Prop):Prop :=
 ∀(zp:Pq) (s:Shared) (Y:St) (H:Hp) (x:V) (xs:List V) (v:Value) (us:List Value) (Q:VK),Inv X zp Y H s->RelV x v->Vals xs us->r x xs H Q ->
  wpAny (model X.prog X.w) X.A (call (.builtin id) (v::us)) (EP X zp Y Q) X.xe s
section
variable{X:Cx}{a b:Expr}{ta tb:TE}{pos:Pos}
def IxR.or{r r':R2}(h:IxR X r)(h':IxR X r'):IxR X (λx y H Q=>r x y H Q\/r' x y H Q):=by
 intro value slice zp s Y H x y v u Q I rx ry q hs;rcases q with q|q
 ·exact h value slice zp s Y H x y v u Q I rx ry q hs
 ·exact h' value slice zp s Y H x y v u Q I rx ry q hs
def JRT{r:R2}(hr:IxR X r)(ha:PE X a ta)(hb:PE X b tb)(hs:JJ5 b):PE X (.Subscript a b pos) (tOp r ta tb):=by
 intro zp s Y H Q I h;exact Subscript_ (binT ha hb I h λv u s2 x y H2 I2 rx ry q=>hr a b zp s2 Y H2 x y v u Q I2 rx ry q (hs _ _))
abbrev rIxL(K:Kq):R2:=λx y H Q=>∃p xs i v,x=.ref p/\y=.int i/\SqL K H p xs/\atI xs i=some v/\Q v H
abbrev rIxT(K:Kq):R2:=λx y H Q=>∃p xs i v,x=.ref p/\y=.int i/\SqT K H p xs/\atI xs i=some v/\Q v H
abbrev rIxS:R2:=λx y H Q=>∃z i c,x=.str z/\y=.int i/\z.length<=sizeLine/\atI z.cps.toList i=some c/\Q (.str #[(List.toArray [c])]) H
def ix_list:IxR X (rIxL X.K):=by
 intro value slice zp s Y H x y v u Q I rx ry h hs;obtain⟨p,xs,i,z,rfl,rfl,hq,he,q⟩:=h;cases rx;obtain⟨t,rfl⟩:=ry;obtain⟨its,r,pl,hz⟩:=I.list hq;obtain⟨j,h1,h2,h3,h4,h5⟩:=JGh he;obtain⟨w,ew,rw'⟩:=r.get h2;have hl:=r.length;have hn:=JER;have fin:EP X zp Y Q w s:=#[z,H,I,rw',q]
 by_cases h0:0<=i
 ·have hj:i.toNat=j:=by
   rw[seqIndex_of h0 h5]at h1;exact Option.some.inj h1
  exact item_listR pl.isList h0 ∅ (by rw[hj];simpa using ew) fin hs
 ·have hj:(i+(its.toArray.size:Int)).toNat=j:=by
   rw[seqIndex_neg ∅ h4]at h1
   rw[q_f,<-hl];exact Option.some.inj h1
  exact subscriptTail_builtinR (x:=w) pl.isList.typeIs slot_list_getitem.lookup
   (wpAny_getItem_list_neg (Q:=λr s'=>r=w/\EP X zp Y Q r s') pl.isList ∅ (by rw[q_f]<;>omega) ∅ (by rw[hj];simpa using ew) #[rfl,fin]) hs
def ix_tup:IxR X (rIxT X.K):=by
 intro value slice zp s Y H x y v u Q I rx ry h hs;obtain⟨p,xs,i,z,rfl,rfl,hq,he,q⟩:=h;cases rx;obtain⟨t,rfl⟩:=ry;obtain⟨its,r,pl,hz⟩:=I.tuple hq;obtain⟨j,h1,h2,h3,h4,h5⟩:=JGh he;obtain⟨w,ew,rw'⟩:=r.get h2;have hl:=r.length;have hn:=JER;have fin:EP X zp Y Q w s:=#[z,H,I,rw',q];exact subscriptTail_builtinR (x:=w) pl.typeIs slot_tuple_getitem.lookup
  (getItem_tuple (j:=j) (Q:=λr s'=>r=w/\EP X zp Y Q r s') pl ∅ ∅ (by rw[q_f,<-hl];exact h1) (by simpa using ew) #[rfl,fin]) hs
def JQI:IxR X rIxS:=by
 intro value slice zp s Y H x y v u Q I rx ry h hs;obtain⟨z,i,c,rfl,rfl,hz,he,q⟩:=h;obtain⟨t,rfl⟩:=rx;obtain⟨t',rfl⟩:=ry;obtain⟨j,h1,h2,h3,h4,h5⟩:=JGh he;have hl:z.cps.toList.length=z.length:=by simp[Str.length]
 rw[hl]at h1 h4 h5;have hn:=JER;exact tail_any (typeIs_str s z t) slot_str_getitem.lookup (getItem_str (c:=c) (by
  have e1:decide (i < -(2 ^ 63:Int))=false:=q_o ∅
  have e2:decide (i ≥ 2 ^ 63)=false:=q_o ∅
  rw[e1,e2,Bool.or_false]) (by rw[h1];simpa using h2) #[.str #[(List.toArray [c])],H,I.tok _,#[_,rfl],q]) hs
abbrev rIx(K:Kq):R2:=λx y H Q=>rIxL K x y H Q\/rIxT K x y H Q\/rIxS x y H Q
def ix_seq:IxR X (rIx X.K):=ix_list.or (ix_tup.or JQI)
def JFs:JCE X (.builtin "len") (λxs H Q=>∃z,xs=[.str z]/\z.length<=sizeLine/\Q (.int z.length) H):=by
 intro zp s Y H xs us Q I r h;obtain⟨z,rfl,hz,q⟩:=h;obtain⟨u,rfl,t,rfl⟩:=vals1 r;have hn:=JER;exact len_str ∅ #[.int z.length,H,I.tok _,#[_,rfl],q]
def tyV(K:Kq)(T:String)(x:V)(H:Hp):Prop:=match x with
 |.str _=>T="str"
 |.int _=>T="int"
 |.ref p=>(T="list"/\∃xs,SqL K H p xs)\/(T="tuple"/\∃o,K.lookup p=some o/\o.cls=.type "tuple"/\o.dict=none) \/
  (T="dict"/\((∃kvs,H p=some (.dK kvs))\/∃kvs,H p=some (.dT kvs)))\/(T="set"/\∃S n,H p=some (.set S n))
 |_=>False
def JKS(I:Inv X zp Y H s)(r:RelV x v)(ty:tyV X.K T x H) :
  s.TypeIs v T/\∀a,v=.ref a->∃ob,s.heap.get? a=some ob/\ob.dict=none:=by
 cases x with
 |str z =>
  obtain⟨t,rfl⟩:=r;cases(show T="str" from ty);exact#[typeIs_str s z t,λ_ e=>nomatch e]
 |int i =>
  obtain⟨t,rfl⟩:=r;cases(show T="int" from ty);exact#[typeIs_int s i t,λ_ e=>nomatch e]
 |ref p =>
  cases r;rcases ty with ⟨rfl,xs,hq⟩|⟨rfl,o,hk,hc,hd⟩|⟨rfl,hk⟩|⟨rfl,S,n,hk⟩
  ·obtain⟨its,_,pl,_⟩:=I.list hq;refine#[pl.isList.typeIs,λa e=>?_];cases e;obtain⟨o,n,e,c,hd,_⟩:=pl;exact#[o,e,hd]
  ·refine#[#[o,I.kIn p o hk,hc],λa e=>?_];cases e;exact#[o,I.kIn _ o hk,hd]
  ·have z:∃o,s.heap.get? p=some o/\o.ExactDict:=by
    rcases hk with ⟨kvs,hk⟩|⟨kvs,hk⟩
    ·obtain⟨_,_,_,_,o,_,_,e,ex,_⟩:=I.hok p _ hk;exact#[o,e,ex]
    ·obtain⟨_,_,_,_,o,_,_,e,ex,_⟩:=I.hok p _ hk;exact#[o,e,ex]
   obtain⟨o,e,ex⟩:=z;refine#[#[o,e,ex.1],λa e2=>?_];cases e2;exact#[o,e,ex.2.1]
  ·obtain⟨o,_,_,_,e,ex,_⟩:=I.hok p _ hk;refine#[#[o,e,ex.1],λa e2=>?_];cases e2;exact#[o,e,ex.2.1]
 |_=>exact fF ty
def tBM(K:Kq)(T:String)(r:V->List V->Hp->VK->Prop)(to:TE)(t:TA):TE:=λY H Q=>to Y H λx H1=>tyV K T x H1/\t Y H1 λxs H2=>r x xs H2 Q
variable{o e:Expr}{es:List Expr}{to:TE}{t:TA}{name:Str}{apos cpos:Pos}{T id:String}{r:V->List V->Hp->VK->Prop}
def JNg(pa:PlainAttrs T)(slot:Slot T name id)(hty:typeOf (.builtin id)=pure (.type "method_descriptor"))(hm:MtR X id r)(ho:PE X o to)(ha:PA X (e::es) t)
  (hbase:attributeBase o name X.env (eval o X.env)=eval o X.env:=by rfl)
  (hfew:((backTo cpos (starEach (e::es) X.env)).all (λx=>!x.1)&&(backToKw cpos (keywordEach [] X.env)).all (λx=>x.1.isSome)
    && decide ((e::es).length+([]:List Keyword).length+(if ([]:List Keyword).isEmpty then 0 else 1)<30))=true:=by rfl)
  (hline:(apos.endLine==cpos.line)=true:=by rfl) (hs:starEach (e::es) X.env=(false,eval e X.env)::starEach es X.env:=by rfl) (hplain:(backTo cpos (starEach es X.env)).any (·.1)=false:=by rfl) :
  PE X (.Call (.Attribute o name apos) (e::es) [] cpos) (tBM X.K T r to t):=by
 intro zp s Y H Q I h;refine wpAny_Call_method_late hbase hfew hline rfl (thn (ho zp s Y H _ I h) λv s1 h_=>?_);obtain⟨x,H1,I1,r1,ty,q1⟩:=h_;obtain⟨h1,h2⟩:=JKS I1 r1 ty;refine#[T,id,pa,slot,hty,h1,h2,?_];have hA:=ha cpos zp s1 Y H1 _ I1 q1;rw[hs]at hA ⊢;refine Calls.callWith_builtin (by show(false || (backTo cpos (starEach es X.env)).any (·.1))=false;rw[hplain]<;>rfl) (Calls.evalArgs_plain ?_)
 exact thn hA λus s2 ⟨vs,H2,I2,r2,q2⟩=>hm zp s2 Y H2 x vs v us Q I2 r1 r2 q2
end
end L2
namespace L2
open PySem PySem.Spec PyProof.Rows
def MtM(X:Cx)(id:String)(r:V->List V->Hp->VK->Prop):Prop :=
 ∀(zp:Pq) (s:Shared) (Y:St) (H:Hp) (x:V) (xs:List V) (v:Value) (us:List Value) (Q:VK),Inv X zp Y H s->RelV x v->Vals xs us->r x xs H Q ->
  wpAny (model X.prog X.w) X.A (call (.builtin id) (v::us)) (EP X zp Y Q) X.xe s
def Vals.one:∀ {x:V}{us:List Value},Vals [x] us->∃u,us=[u]/\RelV x u
 |_,_,.cons r .nil=>#[_,rfl,r]
def Vals.zero:∀ {us:List Value},Vals [] us->us=[]
 |_,.nil=>rfl
section
variable{X:Cx}{zp:Pq}{Y:St}{H:Hp}{s:Shared}{l b:Addr}{xs ys zs:List V}
def Inv.lset{its its':List Value}{n:Nat}{f:Array Value->Array Value}{t':Nat}(I:Inv X zp Y H s)(hH:H l=some (.lst xs))
  (e:s.heap.get? l=some { cls:=.type "list",data:=.seq its.toArray n }) (hf:f its.toArray=its'.toArray) (hv:Vals ys its') (hz:ys.length<=sizeLine) :
  Inv X zp Y (upd H l (.lst ys)) { s with heap:=s.heap.update l (Obj.mapSeq f),toks:=t' }:=by
 have q:=PySem.IsL.update e f;rw[hf]at q;refine I.write (x:=l) (e:=l) (by rw[hH];exact trivial) (.inl rfl) (λb' u hb hu=>(Heap.get?_update_other s.heap (Obj.mapSeq f) (Ne.symm hb)).trans hu) #[_,q] ?_
 exact#[hz,its',_,hv,q]
def Inv.lnew{t':Nat}(I:Inv X zp Y H s)(hv:Vals ys its)(hz:ys.length<=sizeLine) :
  Inv X zp Y (upd H s.heap.objs.size (.lst ys)) { s with heap:=s.heap.push { cls:=.type "list",data:=.seq its.toArray },toks:=t' } :=
 I.laid (λ_ _ q=>q_c _ q) (q_t _) #[hz,its,0,hv,q_k _ rfl]
theorem Inv.fresh(I:Inv X zp Y H s):H s.heap.objs.size=none:=I.hok.fresh (q_t _)
def Inv.lstM(I:Inv X zp Y H s)(hH:H l=some (.lst xs)):xs.length<=sizeLine/\∃(its:List Value) (n:Nat),Vals xs its/\xs.length=its.length/\s.heap.get? l=some { cls:=.type "list",data:=.seq its.toArray n }:=by
 obtain⟨z,its,n,r,e⟩:=I.hok l _ hH;exact#[z,its,n,r,r.length,e]
end
section
variable{X:Cx}
def JOd:V->List V->Hp->VK->Prop:=λx vs H Q=>∃l xs y,x=.ref l/\vs=[y]/\H l=some (.lst xs)/\xs.length<sizeLine/\Q .non (upd H l (.lst (xs++[y])))
def JIc:MtM X "list.append" JOd:=by
 intro zp s Y H x vs v us Q I rx rv h;obtain⟨l,xs,y,rfl,rfl,hH,hz,q⟩:=h;cases rx;obtain⟨u,rfl,ru⟩:=rv.one;obtain⟨z,its,n,r,hl,e⟩:=I.lstM hH;refine call_meets F.slot_list_append #[_,e,rfl] F.entry_list_append (F.args_list_append_2 _ _) (PySem.list_append l its.toArray n u (by rw[q_f];omega)) #[e,?_]
 refine#[.non,_,I.lset (its':=its++[u]) hH e (by simp) (r.append (.cons ru .nil)) ?_,rfl,q]
 rw[q_u,List.length_singleton];omega
def JRb:V->List V->Hp->VK->Prop:=λx vs H Q=>∃l xs,x=.ref l/\vs=[]/\H l=some (.lst xs)/\Q .non (upd H l (.lst []))
def JKv:MtM X "list.clear" JRb:=by
 intro zp s Y H x vs v us Q I rx rv h;obtain⟨l,xs,rfl,rfl,hH,q⟩:=h;cases rx;have hus:=rv.zero;subst hus;obtain⟨z,its,n,r,hl,e⟩:=I.lstM hH;refine call_meets F.slot_list_clear #[_,e,rfl] F.entry_list_clear (F.args_list_clear_1 _) (AutoSeq1.list_clear_list_0 l its.toArray n (by rw[q_f];omega)) #[e,?_]
 exact#[.non,_,I.lset (its':=[]) (ys:=[]) hH e rfl .nil (Nat.zero_le _),rfl,q]
end
section
variable{prog:Program}{w:World}{A:Around}{E:Vq}{s:Shared}
set_option maxRecDepth 100000 in
end
section
variable{X:Cx}
end
end L2
namespace Att
open PySem PySem.W PySem.Calls PyProof.Rows
def JD9:∀(ns:List Int) (vs:List Value),WellAll P h vs (ns.map WData.int)->IntsAre vs ns:=by
 intro ns
 induction ns with
 |nil =>
  intro vs w;rw[List.map_nil]at w;cases w;exact .nil
 |cons n ns ih =>
  intro vs w;rw[List.map_cons]at w;cases w with
  |cons a b =>
   cases a;exact .cons _ _ (ih _ b)
def JJu{l:OpenLaw}{n:Nat}(hn:l.most=some n){P:Params}{h:Heap}{args:List WData}{vals:List Value}
  (hpre:l.row.toRowW.claim.pre args=true) (hwl:WellAll P h vals args) :
  ∃a vs ns,vals=[Value.ref a]/\args=[WData.list (ns.map WData.int)]/\h.get? a=some { cls:=.type "list",data:=.seq vs.toArray }/\IntsAre vs ns/\ns.length<=n:=by
 have hsh:WShape.hasAll [] args [.list .int]=true:=(pre_splitW hpre).1;have hc:l.pre.holds [] { args:=args }=true:=(pre_splitW hpre).2;obtain⟨d,r,rfl,h1,h2⟩:=hasAllW_cons hsh;obtain rfl:=hasAllW_nil h2;obtain⟨xs,rfl,h3⟩:=hasW_list h1;obtain⟨ns,rfl⟩:=items_int h3;have hlen:ns.length<=n:=by
  unfold OpenLaw.pre at hc;have h4:(WTm.not (.lt (.lit (.int (n:Int))) (.len (.arg 0)))).holds [] { args:=[.list (ns.map .int)] }=true:=by
    have h4:=(holds_andW hc).1;rw[hn]at h4;exact h4
  have h5:=condW_of h4 (w_not (w_lt w_lit (w_len_list (w_arg rfl))));rw[q_g]at h5;refine Nat.le_of_not_lt λq=>?_;have q':(n:Int)<((ns.length:Nat):Int):=by omega
  first
    |(rw[decide_eq_true q']at h5;exact absurd h5 (by decide))
    |(simp at h5;omega)
 cases hwl with
 |cons w1 w2 =>
  cases w2;cases w1 with
  |list ho hall=>exact#[_,_,ns,rfl,rfl,ho,JD9 ns _ hall,hlen]
def JIp(l:OpenLaw)(args:List WData):l.row.toRowW.claim.post args (.bool true) args=true :=
 postW_of (r:=l.row.toRowW) (X:=(true==true))
  (show WShape.has [] (.bool true) .bool=true by first|rfl|decide|simp[WShape.has,WShape.arms,WShape.armsAll])
  (show(WTm.eq .res (.lit (.bool true))).value [] { args:=args,res:=some (.bool true),after:=args }=some (.bool (true==true)) from w_eq_bool (w_res rfl) w_lit) rfl
def attach_call{l:OpenLaw}{n:Nat}{q:Program}{loose:List Str}{XP:(Mq)->Heap->Prop}{YP:World->Heap->Prop}{d:DefRec}
  (hn:l.most=some n) (hdf:d.params.defaults=[])
  (call:∀(w:World) (s₀ s₁:Shared) (mg mb:Mq) (fa:Addr) (o:Obj) (pm cd doc:Value) (a:Addr) (vs:List Value) (ns:List Int),
    Ground q loose [] XP w s₀ mg mb s₁.heap->YP w s₁.heap ->
    s₁.heap.get? fa=some o->o.data=.func (docDef d.name d.params d.body d.scope pm cd doc)->s₁.heap.CodeRec cd d.name->mg d.name=some (.ref fa) ->
    s₁.heap.get? a=some { cls:=.type "list",data:=.seq vs.toArray }->IntsAre vs ns->ns.length<=n->s₁.gens=#[] ->
    codeAny (model l.prog w) callerA (.call (.ref fa) #[[.ref a],[]]) (λr s'=>r=.ok (.ret (.bool true))/\OldK s₁.heap s'.heap/\s'.os=s₁.os/\AllBare s'.gens) s₁) :
  WalkO q loose XP YP l.row.toRowW d [] (λf vs=>PySem.call f vs):=by
 intro w s₀ s₁ mg mb G Y0 fa o pm cd doc dV kV ho hd hcd hD hmg hg args vals as hpre hlay hrd hwl hlo;obtain rfl:dV=.none:=Dflts.none hD hdf;obtain rfl:kV=.none:=Dflts.noKw hD;obtain⟨a,vs,ns,rfl,rfl,hobj,hints,hlen⟩:=JJu hn hpre hwl;refine enter_call (codeAny_mono (call w s₀ s₁ mg mb fa o pm cd doc a vs ns G Y0 ho (fd_plain hd) hcd hmg hobj hints hlen hg) λr s' hq=>?_);obtain⟨rfl,h2,h3,h4⟩:=hq;exact#[.inl #[.bool true,.bool true,[],rfl,λ_=>rfl,.bool true,JIp l _,λ_=>#[List.Pairwise.nil,λ_ hm=>(nomatch hm)]],h2,h3,h4]
section
variable{prog:Program}{w:World}{A:Around}{E:Vq}{s:Shared}{K:Frag}
end
end Att
namespace L2
open PySem PySem.Spec PyProof.Rows
theorem JFm:∀ {vs:List Value}{ns:List Int},IntsAre vs ns->Vals (ns.map V.int) vs
 |_,_,.nil=>.nil
 |_,_,.cons n t h=>.cons #[t,rfl] (JFm h)
end L2
namespace L2
open PySem PySem.Spec PyProof.Rows
end L2
namespace L2
open PySem PySem.Spec PyProof.Rows
abbrev JA6(s:Stmt):Arguments:=match s with
 |.FunctionDef _ a _ _ _ _ _ _ _ _=>a
 |_=>{ posonlyargs:=[],args:=[],vararg:=none,kwonlyargs:=[],kw_defaults:=[],kwarg:=none,defaults:=[] }
abbrev JAV(s:Stmt):List Stmt:=match s with
 |.FunctionDef _ _ b _ _ _ _ _ _ _=>b
 |_=>[]
abbrev JAA(s:Stmt):Scope:=match s with
 |.FunctionDef _ _ _ _ _ _ sc _ _ _=>sc
 |_=>{ kind:=.function,names:=[],isGenerator:=false,isCoroutine:=false }
structure Fun(K:Kq)(x qual:Str)(st:Stmt)(f:Addr)(fd:FuncData):Prop where
 ex:∃(oc:Value) (od:Option Addr) (kV doc pm:Value) (an:Option Addr) (cdv ct:Value) (osl:Array (Option Value)),
  fd=PySem.W.fnOf x qual (JA6 st) (JAV st) (JAA st) .none kV doc pm an cdv ct/\K.lookup f=some #[oc,od,.func fd,osl]/\PySem.W.codeIn K cdv qual=true
 kp:PySem.W.keepIn K (.ref f)=true
section
variable{P:Program}{w:World}{K:Kq}{mg:Mq}{base:Heap}
def Fun.binds{x qual:Str}{st:Stmt}{f:Addr}{fd:FuncData}{ps:List Str}(F:Fun K x qual st f fd)
  (h:∀(kV doc pm:Value) (an:Option Addr) (cdv ct:Value) (us:List Value),us.length=ps.length->bindArgs (PySem.W.fnOf x qual (JA6 st) (JAV st) (JAA st) .none kV doc pm an cdv ct) #[us,[]]=pure (ps.zip us)):Binds K fd ps []:=by
 obtain⟨oc,od,kV,doc,pm,an,cdv,ct,osl,rfl,lk,hcd⟩:=F.ex;exact .all (h kV doc pm an cdv ct)
def JFa{x qual:Str}{st:Stmt}{f:Addr}{oc:Value}{od an:Option Addr}{osl:Array (Option Value)}{kV doc pm cdv ct:Value}(l:K.lookup f=some #[oc,od,.func (PySem.W.fnOf x qual (JA6 st) (JAV st) (JAA st) .none kV doc pm an cdv ct),osl])
 (c:PySem.W.codeIn K cdv qual=true) (k:PySem.W.keepIn K (.ref f)=true):Fun K x qual st f (PySem.W.fnOf x qual (JA6 st) (JAV st) (JAA st) .none kV doc pm an cdv ct):=#[#[oc,od,kV,doc,pm,an,cdv,ct,osl,rfl,l,c],k]
end
section
variable{X:Cx}
def pv(i:Nat){x:Str}{pos:Pos}(hN:X.N[i]? = some x:=by rfl)(hv:Vis X.env.scope x:=by first|exact Or.inl rfl|exact Or.inr (Or.inl rfl)|exact Or.inr (Or.inr rfl))(hd:(x==("__debug__":Str))=false:=by decide)
 (hcd:(x==("__classdict__":Str))=false:=by decide):PE X (.Name x pos) (tVar i):=JFF hN hv hd hcd
end
def iteF{A B:Prop}(h:B):if false=true then A else B:=by
 rw[if_neg Bool.false_ne_true];exact h
def iteT{A B:Prop}(h:A):if true=true then A else B:=by
 rw[if_pos rfl];exact h
def Same(H H':Hp):Prop:=∀b o,H b=some o->H' b=some o
def Same.refl(H:Hp):Same H H:=λ_ _ h=>h
def Same.trans{H H1 H2:Hp}(a:Same H H1)(b:Same H1 H2):Same H H2:=λc o h=>b c o (a c o h)
def Same.free{H H':Hp}(e:Same H H'){l:Addr}(h:H' l=Option.none):H l=Option.none:=by
 cases q:H l with
 |none=>rfl
 |some o =>
  rw[e l o q]at h;cases h
def Same.seq{K:Kq}{H H':Hp}{a:Addr}{xs:List V}(e:Same H H')(h:SqL K H a xs):SqL K H' a xs:=by
 rcases h with (h|⟨o,h⟩)|h
 ·exact .inl (.inl (e _ _ h))
 ·exact .inl (.inr #[o,e _ _ h])
 ·exact .inr h
end L2
set_option autoImplicit true
section
set_option backward.eqns.nonrecursive false
namespace VI
open PySem
@[reducible]def D:=PyData
abbrev excD(c:Nat):D:=.dict [(.none,.int (c:Int))]
set_option genInjectivity true in
inductive R(α:Type) where
 |ok (a:α)
 |exc (c:Nat)
 |bad
@[reducible] def R.bind {α β:Type}(r:R α) (f:α->R β):R β :=
 match r with
 |.ok a=>f a
 |.exc c=>.exc c
 |.bad=>.bad
inductive Ty where
 |int|bool|str|list|tuple|dict|valueError|own (c:Nat)
 deriving DecidableEq
inductive Blt where
 |len|abs|all
 deriving DecidableEq
inductive O1 where
 |slice (lo hi:Option Int)
 |toTup|toLst|rev
 deriving DecidableEq
inductive XO where
 |dst|dpr|dnw|dcp
 deriving DecidableEq
inductive E where
 |var (i:Nat)
 |cint (i:Int)|cbl (b:Bool)|cnon|cstr (x:Str)
 |glo (i:Nat)
 |bin (op:Operator) (a b:E)
 |neg (a:E)
 |not (a:E)
 |and (a b:E)
 |or (a b:E)
 |cmp (op:CmpOp) (a b:E)
 |isN (a:E) (neg:Bool)
 |ife (c a b:E)
 |nil
 |cons (a r:E)
 |tup (es:E)
 |lst (es:E)
 |idx (a i:E)
 |call (f:Nat) (es:E)
 |blt (b:Blt) (es:E)
 |rng (es:E)
 |isi (a:E) (t:Ty)
 |mcount (o a:E)
 |mindex (o a:E)
 |cmpr (k:Nat) (elt iter cond:E)
 |fn1 (o:O1) (a:E)
 |xop (k:XO) (es:E)
inductive Sl where
 |no
 |val (d:D)
 |own (d:D)
abbrev Sl.get:Sl->R D
 |.no=>.bad
 |.val d=>.ok d
 |.own (.dict _)=>.bad
 |.own d=>.ok d
abbrev Sl.frz:Sl->Sl
 |.own (.dict _)=>.no
 |.own d=>.val d
 |s=>s
abbrev Sl.isOwn:Sl->Bool
 |.own _=>true
 |_=>false
@[reducible]def Env:=List Sl
abbrev look(U:Env)(i:Nat):R D:=match U[i]? with
 |some s=>s.get
 |none=>.bad
structure Cn where
 fn:Nat->List D->R D
 glo:Nat->R D
 sub:Nat->Nat->Bool
abbrev truth:D->R Bool
 |.none=>.ok false
 |.bool b=>.ok b
 |.int i=>.ok (i != 0)
 |.str x=>if x.length<=16777216 then .ok ((x.length:Int) != 0) else .bad
 |.list xs=>.ok (!xs.isEmpty)
 |.tuple xs=>.ok (!xs.isEmpty)
 |.dict _=>.bad
open Classical in
abbrev binD(op:Operator)(x y:D):R D :=
 match op,x,y with
 |.Add,.int i,.int j=>.ok (.int (i+j))
 |.Sub,.int i,.int j=>.ok (.int (i - j))
 |.Mult,.int i,.int j=>if IntMulOk i j then .ok (.int (i*j)) else .bad
 |.FloorDiv,.int i,.int j=>if j≠0/\Builtin.divisionGoesByPylong i j=false then .ok (.int (i.fdiv j)) else .bad
 |.Mod,.int i,.int j=>if j≠0 then .ok (.int (i.fmod j)) else .bad
 |.Add,.tuple xs,.tuple ys=>if xs.length+ys.length<=16777216 then .ok (.tuple (xs++ys)) else .bad
 |.Add,.list xs,.list ys=>if xs.length+ys.length<=16777216 then .ok (.list (xs++ys)) else .bad
 |_,_,_=>.bad
abbrev shaped(d:D):Bool:=d.canLay0&&decide (d.depth<=64)
abbrev JCY(xs:List D)(x:D):Bool:=PyData.canLayAll0 xs&&x.canLay0&&decide (x.depth<=60)
abbrev getK:List (D×D)->Str->R D
 | [],_=>.bad
 |(.str k,v)::r,x=>if k=x then .ok v else getK r x
 |_::_,_=>.bad
abbrev JCX:List (D×D)->Option (List D)
 | []=>some []
 |(.str x,_)::r=>(JCX r).map (.str x::·)
 |_=>none
abbrev hasK:List (D×D)->Str->Bool
 | [],_=>false
 |(.str z,_)::r,k=>decide (z=k) || hasK r k
 |_::r,k=>hasK r k
abbrev JCH(kb:List (D×D)):List (D×D)->R Bool
 | []=>.ok true
 |(.str k,v)::r=>(match getK kb k with
  |.ok y=>if (shaped v&&shaped y)=true then (match JCH kb r with
    |.ok b=>.ok (PyData.eqv v y&&b)
    |_=>.bad) else .bad
  |_=>.ok false)
 |_=>.bad
abbrev eqD2(ka kb:List (D×D)):R Bool:=match JCX ka,JCX kb with
 |some _,some _=>if ka.length=kb.length then JCH kb ka else .ok false
 |_,_=>.bad
abbrev JLX:D->Option (List (D×D))
 |.dict kvs=>some kvs
 |_=>none
abbrev eqD(x y:D):R Bool:=match JLX x,JLX y with
 |some ka,some kb=>eqD2 ka kb
 |_,_=>.bad
abbrev JH4(x:D)(kvs:List (D×D)):R Bool:=match x with
 |.str k=>if (JCX kvs).isSome=true then .ok (hasK kvs k) else .bad
 |_=>.bad
abbrev cmpD(op:CmpOp)(x y:D):R D :=
 match op with
 |.Eq=>if (shaped x&&shaped y)=true then .ok (.bool (PyData.eqv x y)) else (eqD x y).bind λb=>.ok (.bool b)
 |.NotEq=>if (shaped x&&shaped y)=true then .ok (.bool (!PyData.eqv x y)) else (eqD x y).bind λb=>.ok (.bool !b)
 |.Lt=>match x,y with|.int i,.int j=>.ok (.bool (decide (i<j)))|_,_=>.bad
 |.LtE=>match x,y with|.int i,.int j=>.ok (.bool (decide (i<=j)))|_,_=>.bad
 |.Gt=>match x,y with|.int i,.int j=>.ok (.bool (decide (j<i)))|_,_=>.bad
 |.GtE=>match x,y with|.int i,.int j=>.ok (.bool (decide (j<=i)))|_,_=>.bad
 |.In=>match y with
  |.list xs=>if JCY xs x=true then .ok (.bool (xs.any λz=>PyData.eqv z x)) else .bad
  |.tuple xs=>if JCY xs x=true then .ok (.bool (xs.any λz=>PyData.eqv z x)) else .bad
  |.str j=>(match x with
   |.str i=>.ok (.bool (!(Builtin.Str.occurrences j i 0 j.length 1).isEmpty))
   |_=>.bad)
  |.dict kvs=>(JH4 x kvs).bind λb=>.ok (.bool b)
  |_=>.bad
 |.NotIn=>match y with
  |.list xs=>if JCY xs x=true then .ok (.bool (!xs.any λz=>PyData.eqv z x)) else .bad
  |.tuple xs=>if JCY xs x=true then .ok (.bool (!xs.any λz=>PyData.eqv z x)) else .bad
  |.dict kvs=>(JH4 x kvs).bind λb=>.ok (.bool !b)
  |_=>.bad
 |_=>.bad
abbrev isNone:D->Bool
 |.none=>true
 |_=>false
abbrev ixN(n:Nat)(i:Int):Option Nat:=if 0<=i then (if i<n then some i.toNat else none) else if -(n:Int)<=i then some (i+n).toNat else none
abbrev atI{α:Type}(xs:List α)(i:Int):Option α:=(ixN xs.length i).bind λj=>xs[j]?
abbrev optR{α:Type}:Option α->R α
 |some a=>.ok a
 |none=>.bad
abbrev idxD(x i:D):R D :=
 match x,i with
 |.list xs,.int i=>optR (atI xs i)
 |.tuple xs,.int i=>optR (atI xs i)
 |.dict kvs,.str y=>getK kvs y
 |.str x,.int i=>if x.cps.size<=1000 then optR ((atI x.cps.toList i).map λc=>.str #[(List.toArray [c])]) else .bad
 |_,_=>.bad
abbrev isiD(sub:Nat->Nat->Bool)(x:D)(t:Ty):R D :=
 match x with
 |.none=>.ok (.bool false)
 |.bool _=>.ok (.bool (t==.int || t==.bool))
 |.int _=>.ok (.bool (t==.int))
 |.str _=>.ok (.bool (t==.str))
 |.list _=>.ok (.bool (t==.list))
 |.tuple _=>.ok (.bool (t==.tuple))
 |.dict [(.none,.int c)]=>if sub c.toNat c.toNat=true then (match t with
  |.own e=>.ok (.bool (sub c.toNat e))
  |.valueError=>.ok (.bool true)
  |_=>.bad) else .bad
 |.dict _=>.bad
abbrev allD:List D->R D
 | []=>.ok (.bool true)
 |.bool b::r=>(match allD r with
  |.ok (.bool c)=>.ok (.bool (b&&c))
  |_=>.bad)
 |_=>.bad
abbrev bltD(b:Blt)(xs:List D):R D :=
 match b,xs with
 |.len,[.list ys]=>.ok (.int ys.length)
 |.len,[.tuple ys]=>.ok (.int ys.length)
 |.len,[.str x]=>if x.length<=16777216 then .ok (.int x.length) else .bad
 |.abs,[.int i]=>.ok (.int (if i<0 then -i else i))
 |.all,[.list ys]=>allD ys
 |_,_=>.bad
abbrev JGq(lo hi:Int):List D:=(List.range (hi - lo).toNat).map λ(k:Nat)=>.int (lo+k)
abbrev small(i:Int):Bool:=decide (-(2 ^ 62)<=i)&&decide (i<2 ^ 62)
abbrev rngD(xs:List D):R (List D) :=
 match xs with
 | [.int j]=>if small j=true then .ok (JGq 0 j) else .bad
 | [.int i,.int j]=>if (small i&&small j)=true then .ok (JGq i j) else .bad
 |_=>.bad
abbrev JBJ:D->R (List D)
 |.list xs=>.ok xs
 |.tuple xs=>.ok xs
 |.str x=>if x.cps.all (· < 128)=true then .ok (x.cps.toList.map λc=>.str #[(List.toArray [c])]) else .bad
 |.dict kvs=>optR (JCX kvs)
 |_=>.bad
abbrev JDv(x y:D):R D :=
 match x with
 |.list xs=>if JCY xs y=true then .ok (.int (xs.countP λz=>PyData.eqv z y:Nat)) else .bad
 |_=>.bad
abbrev JDj(x y:D):R D :=
 match x with
 |.list xs=>if JCY xs y=true then
  (match xs.findIdx? λz=>PyData.eqv z y with
   |some j=>.ok (.int j)
   |none=>.bad) else .bad
 |_=>.bad
abbrev getD:List (D×D)->Str->D->R D
 | [],_,z=>.ok z
 |(.str k,v)::r,x,z=>if k=x then .ok v else getD r x z
 |_,_,_=>.bad
def sI(n d:Nat):Option Int->Nat
 |none=>d
 |some v=>if v<0 then (v+(n:Int)).toNat else min v.toNat n
def cutD{α:Type}(xs:List α)(lo hi:Option Int):List α:=(xs.drop (sI xs.length 0 lo)).take (sI xs.length xs.length hi - sI xs.length 0 lo)
abbrev op1D(o:O1)(d:D):R D:=match o,d with
 |.slice lo hi,.tuple xs=>.ok (.tuple (cutD xs lo hi))
 |.slice lo hi,.list xs=>.ok (.list (cutD xs lo hi))
 |.toTup,.tuple xs=>.ok (.tuple xs)
 |.toTup,.list xs=>.ok (.tuple xs)
 |.toLst,.tuple xs=>.ok (.list xs)
 |.toLst,.list xs=>.ok (.list xs)
 |.rev,.list xs=>.ok (.list xs.reverse)
 |_,_=>.bad
abbrev strsOf:List D->Option (List Str)
 | []=>some []
 |.str x::r=>(strsOf r).map (x::·)
 |_=>none
abbrev JFO(zs:List Str):List Str:=zs.mergeSort λa b=>!decide (b.cps.toList<a.cps.toList)
abbrev srtS(ys:List D):R D:=match strsOf ys with
 |some xs=>if xs.length<64 then .ok (.list ((JFO xs).map .str)) else .bad
 |none=>.bad
abbrev repD:List (D×D)->Str->D->List (D×D)
 | [],_,_=>[]
 |(.str z,v)::r,k,x=>(.str z,if z=k then x else v)::repD r k x
 |p::r,k,x=>p::repD r k x
abbrev putD(kvs:List (D×D))(k:Str)(x:D):List (D×D):=if hasK kvs k=true then repD kvs k x else kvs++[(.str k,x)]
abbrev JCm:List D->List (D×D)->Option (List (D×D))
 | [],acc=>some acc
 |.tuple [.str k,v]::r,acc=>JCm r (putD acc k v)
 |_,_=>none
abbrev xD(k:XO)(xs:List D):R D:=match k,xs with
 |.dst,[.dict kvs]=>if (JCX kvs).isSome=true then srtS (kvs.map (·.1)) else .bad
 |.dpr,[.list ys]=>optR ((JCm ys []).map .dict)
 |.dnw,[]=>.ok (.dict [])
 |.dcp,[.dict kvs]=>if (JCX kvs).isSome=true/\kvs.length<=1000000 then .ok (.dict kvs) else .bad
 |_,_=>.bad
abbrev delK(kvs:List (D×D))(k:Str):List (D×D):=kvs.filter λp=>match p.1 with
 |.str z=>!decide (z=k)
 |_=>true
abbrev inO(n:Bool)(e t:D):R D:=match t,e with
 |.dict kvs,.str k=>.ok (.bool (hasK kvs k != n))
 |_,_=>.bad
abbrev ow1(j:Nat)(o t:D):R D:=match j with
 |0=>(match t with
  |.list ys=>.ok (.int ys.length)
  |_=>.bad)
 |5=>(match t with
  |.dict kvs=>srtS (kvs.map (·.1))
  |_=>.bad)
 |6=>(match t with
  |.dict _=>.ok o
  |_=>.bad)
 |_=>.bad
abbrev ow2(j:Nat)(g:List D->R D)(a b:D):R D:=match j with
 |1=>(g [b]).bind (inO false a)
 |2=>(g [b]).bind (inO true a)
 |3=>(match b with
  |.str k=>(g [a]).bind λt=>(match t with
   |.dict kvs=>getK kvs k
   |_=>.bad)
  |_=>.bad)
 |4=>(match b with
  |.str k=>(g [a]).bind λt=>(match t with
   |.dict kvs=>getD kvs k .none
   |_=>.bad)
  |_=>.bad)
 |_=>.bad
abbrev JBV(j:Nat)(g:List D->R D)(ds:List D):R D:=match ds with
 | [o]=>(g [o]).bind (ow1 j o)
 | [a,b]=>ow2 j g a b
 |_=>.bad
abbrev JOP:D->Bool
 |.list _=>true
 |_=>false
abbrev push(k:Nat)(x:D)(U:Env):R Env :=
 match k with
 |0=>.ok (.val x::U)
 |n+1=>match x with
  |.tuple xs=>if xs.length=n+1 then .ok (xs.map Sl.val++U) else .bad
  |_=>.bad
abbrev JBO(f:D->R (Option D)):List D->R (List D)
 | []=>.ok []
 |x::xs=>match f x with
  |.ok (some y)=>(match JBO f xs with
   |.ok ys=>.ok (y::ys)
   |_=>.bad)
  |.ok none=>JBO f xs
  |_=>.bad
mutual
noncomputable def ev(C:Cn):E->Env->R D
 |.var i,U=>look U i
 |.cint i,_=>.ok (.int i)
 |.cbl b,_=>.ok (.bool b)
 |.cnon,_=>.ok .none
 |.cstr x,_=>.ok (.str x)
 |.glo i,_=>C.glo i
 |.bin op a b,U=>(ev C a U).bind λx=>(ev C b U).bind λy=>binD op x y
 |.neg a,U=>(ev C a U).bind λx=>match x with|.int i=>.ok (.int (-i))|_=>.bad
 |.not a,U=>((ev C a U).bind truth).bind λb=>.ok (.bool (!b))
 |.and a b,U=>(ev C a U).bind λx=>match x with|.bool true=>ev C b U|.bool false=>.ok (.bool false)|_=>.bad
 |.or a b,U=>(ev C a U).bind λx=>match x with|.bool true=>.ok (.bool true)|.bool false=>ev C b U|_=>.bad
 |.cmp op a b,U=>(ev C a U).bind λx=>(ev C b U).bind λy=>cmpD op x y
 |.isN a n,U=>(ev C a U).bind λx=>.ok (.bool (if n=true then !isNone x else isNone x))
 |.ife c a b,U=>(evT C c U).bind λk=>if k=true then ev C a U else ev C b U
 |.nil,_=>.bad
 |.cons _ _,_=>.bad
 |.tup es,U=>(evA C es U).bind λxs=>.ok (.tuple xs)
 |.lst es,U=>(evA C es U).bind λxs=>.ok (.list xs)
 |.idx a i,U=>(ev C a U).bind λx=>(ev C i U).bind λy=>idxD x y
 |.call f es,U=>(evA C es U).bind λxs=>C.fn f xs
 |.blt b es,U=>(evA C es U).bind λxs=>bltD b xs
 |.rng _,_=>.bad
 |.isi a t,U=>(ev C a U).bind λx=>isiD C.sub x t
 |.mcount o a,U=>(ev C o U).bind λx=>if JOP x=true then (ev C a U).bind λy=>JDv x y else .bad
 |.mindex o a,U=>(ev C o U).bind λx=>if JOP x=true then (ev C a U).bind λy=>JDj x y else .bad
 |.cmpr k elt iter cond,U=>(evI C iter U).bind λxs=>if xs.length<=16777216 then (JBO (λx=>(push k x U).bind λU1=>(evT C cond U1).bind λt =>
  if t=true then (ev C elt U1).bind λy=>.ok (some y) else .ok none) xs).bind λys=>.ok (.list ys) else .bad
 |.fn1 o a,U=>(ev C a U).bind λx=>op1D o x
 |.xop k es,U=>(evA C es U).bind (xD k)
noncomputable def evT(C:Cn):E->Env->R Bool
 |.not a,U=>(evT C a U).bind λb=>.ok (!b)
 |.and a b,U=>(evT C a U).bind λx=>if x=true then evT C b U else .ok false
 |.or a b,U=>(evT C a U).bind λx=>if x=true then .ok true else evT C b U
 |.var i,U=>(look U i).bind truth
 |.cbl b,_=>.ok b
 |.cmp op a b,U=>((ev C a U).bind λx=>(ev C b U).bind λy=>cmpD op x y).bind truth
 |.isN a n,U=>(ev C a U).bind λx=>.ok (if n=true then !isNone x else isNone x)
 |.idx a i,U=>((ev C a U).bind λx=>(ev C i U).bind λy=>idxD x y).bind truth
 |.call f es,U=>((evA C es U).bind λxs=>C.fn f xs).bind truth
 |.blt b es,U=>((evA C es U).bind λxs=>bltD b xs).bind truth
 |.isi a t,U=>((ev C a U).bind λx=>isiD C.sub x t).bind truth
 |_,_=>.bad
noncomputable def evA(C:Cn):E->Env->R (List D)
 |.nil,_=>.ok []
 |.cons a r,U=>(ev C a U).bind λx=>(evA C r U).bind λxs=>.ok (x::xs)
 |_,_=>.bad
noncomputable def evI(C:Cn):E->Env->R (List D)
 |.rng es,U=>(evA C es U).bind rngD
 |.var i,U=>(look U i).bind JBJ
 |.glo i,_=>(C.glo i).bind JBJ
 |.idx a i,U=>((ev C a U).bind λx=>(ev C i U).bind λy=>idxD x y).bind JBJ
 |.call f es,U=>((evA C es U).bind λxs=>C.fn f xs).bind JBJ
 |.tup es,U=>evA C es U
 |.lst es,U=>evA C es U
 |.fn1 o a,U=>((ev C a U).bind λx=>op1D o x).bind JBJ
 |.bin op a b,U=>((ev C a U).bind λx=>(ev C b U).bind λy=>binD op x y).bind JBJ
 |.xop k es,U=>((evA C es U).bind (xD k)).bind JBJ
 |_,_=>.bad
end
abbrev E.uses:E->Nat->Bool
 |.var i,j=>i==j
 |.bin _ a b,j=>a.uses j || b.uses j
 |.neg a,j=>a.uses j
 |.not a,j=>a.uses j
 |.and a b,j=>a.uses j || b.uses j
 |.or a b,j=>a.uses j || b.uses j
 |.cmp _ a b,j=>a.uses j || b.uses j
 |.isN a _,j=>a.uses j
 |.ife c a b,j=>c.uses j || a.uses j || b.uses j
 |.cons a r,j=>a.uses j || r.uses j
 |.tup es,j=>es.uses j
 |.lst es,j=>es.uses j
 |.idx a i,j=>a.uses j || i.uses j
 |.call _ es,j=>es.uses j
 |.blt _ es,j=>es.uses j
 |.rng es,j=>es.uses j
 |.isi a _,j=>a.uses j
 |.mcount o a,j=>o.uses j || a.uses j
 |.mindex o a,j=>o.uses j || a.uses j
 |.fn1 _ a,j=>a.uses j
 |.xop _ es,j=>es.uses j
 |.cmpr k elt iter cond,j=>iter.uses j || elt.uses (j+(if k=0 then 1 else k)) || cond.uses (j+(if k=0 then 1 else k))
 |.cint _,_=>false
 |.cbl _,_=>false
 |.cnon,_=>false
 |.cstr _,_=>false
 |.glo _,_=>false
 |.nil,_=>false
abbrev E.fresh:E->Bool
 |.lst _=>true
 |.cmpr ..=>true
 |.xop .dcp _=>true
 |_=>false
mutual
noncomputable def JAe:D->Bool
 |.none=>true
 |.bool _=>true
 |.int _=>true
 |.str _=>true
 |.list _=>false
 |.tuple xs=>JA2 xs
 |.dict [(.none,.int _)]=>true
 |.dict _=>false
noncomputable def JA2:List D->Bool
 | []=>true
 |x::xs=>JAe x&&JA2 xs
end
abbrev JAJ(e:E):Nat->Env->Env
 |_,[]=>[]
 |i,s::r=>(if e.uses i=true then s.frz else s)::JAJ e (i+1) r
abbrev JAc(e:E):Nat->Env->Bool
 |_,[]=>false
 |i,s::r=>(e.uses i&&s.isOwn) || JAc e (i+1) r
abbrev after(e:E)(d:D)(U:Env):Env:=if (JAc e 0 U&&!JAe d)=true then JAJ e 0 U else U
inductive Fl where
 |nx (U:Env)
 |rt (d:D)
 |bk (U:Env)
 |ct (U:Env)
 |ex (c:Nat)
 |bad
inductive S where
 |nil|cons (s r:S)
 |pass|brk|cnt
 |asg (i:Nat) (e:E)
 |unp (is:List Nat) (e:E)
 |ret (e:E)|retN
 |ife (c:E) (a b:S)
 |put (i:Nat) (k e:E)
 |frz (i:Nat)
 |drop (e:E)
 |for1 (i:Nat) (e:E) (b:S)
 |whl (c:E) (b:S)
 |rais (c:Nat)
@[reducible] def stepR {α:Type}(r:R α) (f:α->Fl):Fl :=
 match r with
 |.ok a=>f a
 |.exc c=>.ex c
 |.bad=>.bad
abbrev JBK:List Nat->List D->Env->Env
 |i::is,d::ds,U=>JBK is ds (U.set i (.val d))
 |_,_,U=>U
abbrev JA1(n:Nat):D->R (List D)
 |.tuple xs=>if xs.length=n then .ok xs else .bad
 |.list xs=>if xs.length=n then .ok xs else .bad
 |_=>.bad
abbrev forL(put:D->Env->Option Env)(body:Env->Fl):List D->Env->Fl
 | [],U=>.nx U
 |d::ds,U=>match put d U with
  |none=>.bad
  |some U1=>match body U1 with
   |.nx U'=>forL put body ds U'
   |.ct U'=>forL put body ds U'
   |.bk U'=>.nx U'
   |r=>r
abbrev put1(i:Nat)(d:D)(U:Env):Option Env:=some (U.set i (.val d))
abbrev JAp(c:Env->R Bool)(body:Env->Fl):Nat->Env->Fl
 |0,_=>.bad
 |n+1,U=>match c U with
  |.ok true=>(match body U with
   |.nx U'=>JAp c body n U'
   |.ct U'=>JAp c body n U'
   |.bk U'=>.nx U'
   |r=>r)
  |.ok false=>.nx U
  |.exc k=>.ex k
  |.bad=>.bad
open Classical in
abbrev JB1(c:Env->R Bool)(body:Env->Fl)(U:Env):Fl :=
 if h:∃n,JAp c body n U≠.bad then JAp c body h.choose U else .bad
abbrev JFB(i:Nat)(kvs:List (D×D))(kd:D)(e:E)(x:D)(U:Env):Fl :=
 match kd with
 |.str k=>if kvs.length<1000000 then (if (JAc e 0 U&&!JAe x)=true then .bad else .nx (U.set i (.own (.dict (putD kvs k x))))) else .bad
 |_=>.bad
abbrev JAs:Nat->Env->Env
 |_,[]=>[]
 |0,.own d::r=>.val d::r
 |0,.val d::r=>.val d::r
 |0,.no::r=>.no::r
 |i+1,s::r=>s::JAs i r
abbrev exec(C:Cn):S->Env->Fl
 |.nil,U=>.nx U
 |.cons s r,U=>match exec C s U with
  |.nx U'=>exec C r U'
  |f=>f
 |.pass,U=>.nx U
 |.brk,U=>.bk U
 |.cnt,U=>.ct U
 |.asg i e,U=>stepR (ev C e U) λx=>if e.fresh=true then .nx ((after e x U).set i (.own x)) else .nx ((after e x U).set i (.val x))
 |.unp is e,U=>stepR (ev C e U) λd=>stepR (JA1 is.length d) λxs=>.nx (JBK is xs (after e d U))
 |.ret e,U=>stepR (ev C e U) λx=>.rt x
 |.retN,_=>.rt .none
 |.ife c a b,U=>stepR (evT C c U) λk=>if k=true then exec C a U else exec C b U
 |.put i k e,U=>match U[i]? with
  |some (.own (.dict kvs))=>stepR (ev C e U) λx=>(match ev C k U with
   |.ok y=>JFB i kvs y e x U
   |_=>.bad)
  |_=>.bad
 |.frz i,U=>.nx (JAs i U)
 |.drop e,U=>stepR (ev C e U) λx=>.nx (after e x U)
 |.for1 i e b,U=>stepR (evI C e U) λxs=>forL (put1 i) (exec C b) xs (JAJ e 0 U)
 |.whl c b,U=>JB1 (evT C c) (exec C b) U
 |.rais c,_=>.ex c
structure Fd where
 par:Nat
 slots:Nat
 body:S
abbrev JCe(x:Bool)(C:Cn)(f:Fd)(xs:List D):R D :=
 if xs.length=f.par then
  (match exec C f.body (xs.map Sl.val++List.replicate (f.slots - f.par) Sl.no) with
   |.nx _=>.ok .none
   |.rt d=>.ok d
   |.ex c=>if x=true then .exc c else .bad
   |_=>.bad)
 else .bad
abbrev run(x:Bool)(tab:Nat->Option Fd)(glo:Nat->R D)(sub:Nat->Nat->Bool):Nat->Nat->List D->R D
 |0,_,_=>.bad
 |n+1,f,xs=>match tab f with
  |none=>.bad
  |some fd=>JCe x #[run x tab glo sub n,glo,sub] fd xs
end VI
end
section
set_option backward.eqns.nonrecursive false
namespace VI
open PySem
inductive GK where
 |fn (i:Nat)|con (i:Nat)|blt (b:Blt)|ty (t:Ty)|rng|isi|cls (c:Nat)|opt|nam|rcf (i:Nat)|rcm (i j:Nat)|rco (i:Nat)
 deriving DecidableEq
@[reducible]def Lz:=List (Str×GK)
abbrev JOE:Blt->Str
 |.len=>"len"
 |.abs=>"abs"
 |.all=>"all"
abbrev JBN:Ty->Option Str
 |.int=>some "int"
 |.bool=>some "bool"
 |.str=>some "str"
 |.list=>some "list"
 |.tuple=>some "tuple"
 |.dict=>some "dict"
 |.valueError=>some "ValueError"
 |.own _=>none
abbrev idxOf(x:Str):List Str->Option Nat
 | []=>none
 |y::r=>if (x==y)=true then some 0 else (idxOf x r).map (· + 1)
abbrev vis:Option NameKind->Bool
 |some .local=>true
 |some .cell=>true
 |some .free=>true
 |_=>false
abbrev JAT(x:Str):Bool:=x=="__debug__" || x=="__classdict__" || x=="__name__"
abbrev glob(G:Lz)(names:Nq)(x:Str):Option GK :=
 if JAT x=true then none else if names.lookup x=some .globalImplicit then G.lookup x else none
abbrev JAM(f:Expr->Option E):List Expr->Option E
 | []=>some .nil
 |e::r=>(f e).bind λa=>(JAM f r).bind λb=>some (.cons a b)
abbrev JA7(mk:E->E->E)(f:Expr->Option E):List Expr->Option E
 | []=>none
 | [e]=>f e
 |e::r=>(f e).bind λa=>(JA7 mk f r).bind λb=>some (mk a b)
abbrev okBin:Operator->Bool
 |.Add|.Sub|.Mult|.FloorDiv|.Mod=>true
 |_=>false
abbrev isSlice:Expr->Bool
 |.Slice ..=>true
 |_=>false
abbrev JAU:Expr->Bool
 |.Call _ [] [] _=>true
 |_=>false
abbrev JA0(outer:Nq)(names:Nq):Nq :=
 names.map λ(n,k)=>if (k==.free&&true&&outer.lookup n==some .cell)=true then (n,.cell) else (n,k)
abbrev dots(i:Nat):Str:=#[Array.replicate (i+2) 46]
abbrev mask(xs:List Str):Nat->List Str->List Str
 |_,[]=>[]
 |i,y::r=>(if xs.contains y=true then dots i else y)::mask xs (i+1) r
abbrev JGV:Expr->Option (Nat×List Str)
 |.Name x _=>some (0,[x])
 |_=>none
abbrev JCJ(outer names:Nq)(xs N:List Str):Bool :=
 names.all (λ(n,k)=>k != .cell&&(k != .local || names.lookup n==some .local)&&(k != .free || (outer.lookup n==some .cell || outer.lookup n==some .free)))&&xs.all (λx=>names.lookup x==some .local)
  && N.all (λy=>xs.contains y || names.lookup y != some .local)&&(List.range N.length).all (λi=>!vis ((JA0 outer names).lookup (dots i)))&&decide (xs++mask xs 0 N).Nodup
abbrev sliceOf:Expr->Option (Option Int×Option Int):=λ_=>none
abbrev JSy:Expr->Bool
 |.Slice none none (some (.UnaryOp .USub (.Constant (.int 1) _ _) _)) _=>true
 |_=>false
abbrev o1Of:Ty->Option O1:=λ_=>none
abbrev XO.flag:XO->Str
 |.dst=>".dst"
 |.dpr=>".dpr"
 |.dnw=>".dnw"
 |.dcp=>".dcp"
abbrev isCm:Expr->Bool
 |.ListComp ..=>true
 |_=>false
abbrev xRaw(G:Lz)(names:Nq)(it:Bool):Expr->Option (XO×List Expr)
 |.Call (.Name f _) [a] [] _=>if it=true then none else if f="sorted"/\glob G names f=some .nam then (match a with
  |.Name _ _=>some (.dst,[a])
  |_=>none) else if f="dict"/\glob G names f=some (.ty .dict)/\isCm a=true then some (.dpr,[a]) else none
 |.Dict [] [] _=>if it=true then none else some (.dnw,[])
 |_=>none
abbrev JO6(G:Lz)(names:Nq):Expr->Option Expr
 |.Call (.Name f _) [.Name x p] [] _=>if f="dict"/\glob G names f=some (.ty .dict)/\G.lookup (".dct":Str)=some GK.opt then some (.Name x p) else none
 |_=>none
abbrev JOJ:List Expr->Option (Str×Expr)
 | [.Subscript (.Name x _) k _]=>if isSlice k=true then none else some (x,k)
 |_=>none
abbrev preF(G:Lz):List Str->Nat->E->S->S
 | [],_,_,s=>s
 |x::r,i,y,s=>if (G.lookup (".dct":Str)=some GK.opt/\G.lookup x=some GK.opt)/\y.uses i=true then .cons (.frz i) (preF G r (i+1) y s) else preF G r (i+1) y s
abbrev xOf(G:Lz)(names:Nq)(it:Bool)(e:Expr):Option (XO×List Expr):=(xRaw G names it e).bind λq=>if G.lookup q.1.flag=some GK.opt then some q else none
abbrev JAW(G:Lz)(f:Bool->Nq->List Str->Expr->Option E)(it:Bool)(names:Nq)(N:List Str)(e:Expr):Option E:=match e with
 |.Name x _=>if JAT x=true then none else if vis (names.lookup x)=true then (idxOf x N).map E.var
   else (match glob G names x with
   |some (.con i)=>some (.glo i)
   |_=>none)
 |.Constant c _ _=>(match it,c with
  |false,.none=>some .cnon
  |false,.bool b=>some (.cbl b)
  |false,.int i=>some (.cint i)
  |false,.str x=>some (.cstr x)
  |_,_=>none)
 |.Tuple es _ _=>if es.length<=1000 then (JAM (f false names N) es).map E.tup else none
 |.List es _=>if es.length<=1000 then (JAM (f false names N) es).map E.lst else none
 |.Subscript a i _=>if isSlice i=true then (if JSy i=true then (if G.lookup (".rvs":Str)=some GK.opt then (f false names N a).map (E.fn1 .rev) else none) else (sliceOf i).bind λq=>(f false names N a).map (E.fn1 (.slice q.1 q.2))) else (f false names N a).bind λx=>(f false names N i).bind λy=>some (.idx x y)
 |.Call (.Name g _) args [] _=>(match glob G names g with
   |some (.fn i)=>(match args with
       |_::_=>(JAM (f false names N) args).map (E.call i)
       | []=>none)
   |some .rng=>if it=true/\g="range" then (match args with
       | [_]=>(JAM (f false names N) args).map E.rng
       | [_,_]=>(JAM (f false names N) args).map E.rng
       |_=>none) else none
   |some (.blt b)=>if it=false/\g=JOE b then (match args with
       |_::_=>(JAM (f false names N) args).map (E.blt b)
       | []=>none) else none
   |some .isi=>if it=false/\g="isinstance" then (match args with
       | [a,.Name t _]=>(match glob G names t with
        |some (.ty y)=>if JBN y=some t then (f false names N a).map λx=>.isi x y else none
        |some (.cls c)=>(f false names N a).map λx=>.isi x (.own c)
        |_=>none)
       |_=>none) else none
   |some (.ty y)=>if it=false/\JBN y=some g then (o1Of y).bind λo=>(match args with
       | [a]=>(f false names N a).map (E.fn1 o)
       |_=>none) else none
   |_=>none)
 |.BinOp a op b _=>if okBin op=true then (f false names N a).bind λx=>(f false names N b).bind λy=>some (.bin op x y) else none
 |.UnaryOp op a _=>(match it,op with
  |false,.USub=>(f false names N a).map .neg
  |false,.Not=>(f false names N a).map .not
  |_,_=>none)
 |.BoolOp op es _=>(match it,op with
  |false,.And=>JA7 .and (f false names N) es
  |false,.Or=>JA7 .or (f false names N) es
  |_,_=>none)
 |.Compare a [op] [b] _=>if it=true then none else (match op with
  |.Is=>(match b with
   |.Constant .none _ _=>(f false names N a).map λx=>.isN x false
   |_=>none)
  |.IsNot=>(match b with
   |.Constant .none _ _=>(f false names N a).map λx=>.isN x true
   |_=>none)
  |_=>if behindInMarks op b=true then none else (f false names N a).bind λx=>(f false names N b).bind λy=>some (.cmp op x y))
 |.IfExp c a b _=>if it=true then none else (f false names N c).bind λz=>(f false names N a).bind λx=>(f false names N b).bind λy=>some (.ife z x y)
 |.Call (.Attribute o m ap) [a] [] cp=>if (it=false/\JAU o=false/\(ap.endLine==cp.line)=true)/\G.lookup (".met":Str)=some GK.opt then
   (if m="count" then (f false names N o).bind λx=>(f false names N a).bind λy=>some (.mcount x y)
    else if m="index" then (f false names N o).bind λx=>(f false names N a).bind λy=>some (.mindex x y) else none) else none
 |.ListComp elt [⟨tg,iter,ifs,as⟩] sc _=>if it=true\/as≠0\/sc.kind≠.function\/(G.lookup (".hot":Str)).isSome=true then none else (match JGV tg with
  |none=>none
  |some (k,xs)=>if JCJ names sc.names xs N=true then
     (f true names N iter).bind λi =>
     (f false (JA0 names sc.names) (xs++mask xs 0 N) elt).bind λx =>
     (match ifs with
      | []=>some (.cmpr k x i (.cbl true))
      | [c]=>(f false (JA0 names sc.names) (xs++mask xs 0 N) c).bind λy=>some (.cmpr k x i y)
      |_=>none)
   else none)
 |_=>none
abbrev ownF(G:Lz):Expr->Option (Expr×Nat)
 |.Attribute o f _=>if JAU o=true then none else (match G.lookup f with
  |some (.rco b)=>some (o,b)
  |_=>none)
 |_=>none
abbrev ownN(G:Lz)(names:Nq)(g:Str)(q:Expr×Nat):Option ((Nat×Option Nat)×List Expr):=if g="len"/\glob G names g=some (.blt .len) then some ((q.2+1,none),[q.1]) else if g="sorted"/\glob G names g=some .nam/\(G.lookup (".hot":Str)).isSome=false then some ((q.2+6,none),[q.1]) else none
abbrev ownC(op:CmpOp)(a:Expr)(q:Expr×Nat):Option ((Nat×Option Nat)×List Expr):=match op with
 |.In=>some ((q.2+2,none),[a,q.1])
 |.NotIn=>some ((q.2+3,none),[a,q.1])
 |_=>none
abbrev ownG(G:Lz)(o:Expr)(m:Str):Option (Expr×Nat):=if m="get" then ownF G o else none
abbrev ownA(args:List Expr)(q:Expr×Nat):Option ((Nat×Option Nat)×List Expr):=match args with
 | [k]=>some ((q.2+5,some (q.2+7)),[q.1,k])
 |_=>none
abbrev mRaw(G:Lz)(names:Nq):Expr->Option ((Nat×Option Nat)×List Expr)
 |.Call (.Name g _) [a] [] _=>(ownF G a).bind (ownN G names g)
 |.Compare a [op] [d] _=>(ownF G d).bind (ownC op a)
 |.Subscript d k _=>if isSlice k=true then none else (ownF G d).map λq=>((q.2+4,some (q.2+7)),[q.1,k])
 |.Attribute o f _=>if JAU o=true then none else (match G.lookup f with
  |some (.rcf i)=>some ((i,none),[o])
  |_=>none)
 |.Call (.Attribute o m ap) args [] cp=>if JAU o=true\/(ap.endLine==cp.line)=false\/20<args.length then none else (match ownG G o m with
  |some q=>ownA args q
  |none=>(match G.lookup m with
   |some (.rcm i j)=>some ((i,some j),o::args)
   |_=>none))
 |_=>none
abbrev mkM:Nat×Option Nat->E->E
 |(i,some j),.cons x y=>.call i (.cons (.call j (.cons x .nil)) y)
 |(i,_),y=>.call i y
abbrev mOf(G:Lz)(names:Nq)(e:Expr):Option ((Nat×Option Nat)×List Expr):=if G.lookup (".rec":Str)=some GK.opt then mRaw G names e else none
abbrev JAr(G:Lz)(f:Bool->Nq->List Str->Expr->Option E)(it:Bool)(names:Nq)(N:List Str)(e:Expr):Option E:=match xOf G names it e with
 |some q=>(JAM (f false names N) q.2).map (E.xop q.1)
 |none=>match mOf G names e with
  |some q=>(JAM (f false names N) q.2).map (mkM q.1)
  |none=>JAW G f it names N e
abbrev JAL(G:Lz):Nat->Bool->Nq->List Str->Expr->Option E
 |0,_,_,_,_=>none
 |n+1,it,names,N,e=>JAr G (JAL G n) it names N e
def JAD{n:Nat}{it:Bool}{e:Expr}(h:xOf G names it e=none/\mOf G names e=none):JAL G (n+1) it names N e=JAW G (JAL G n) it names N e:=by
 unfold JAL JAr;rw[h.1];simp only;rw[h.2]
def JHG(q:Nat×Option Nat)(y:E):∃z,mkM q y=.call q.1 z:=by
 obtain⟨i,j⟩:=q;cases j with
 |none=>exact#[_,rfl]
 |some j=>cases y<;>exact#[_,rfl]
def JGy{n:Nat}{it:Bool}{e:Expr}{q:(Nat×Option Nat)×List Expr}(h:xOf G names it e=none)(h2:mOf G names e=some q):JAL G (n+1) it names N e=(JAM (JAL G n false names N) q.2).map (mkM q.1):=by
 unfold JAL JAr;rw[h];simp only;rw[h2]
def JHV{n:Nat}{it:Bool}{e:Expr}{q:XO×List Expr}(h:xOf G names it e=some q):JAL G (n+1) it names N e=(JAM (JAL G n false names N) q.2).map (E.xop q.1):=by
 unfold JAL JAr;rw[h]
def JAO{α:Type}{x:α}{P:Prop}(h:(none:Option α)=some x):P:=by cases h
abbrev JE7:Option NameKind->Bool
 |some .local=>true
 |some .cell=>true
 |_=>false
abbrev slot(names:Nq)(N:List Str)(x:Str):Option Nat:=if JE7 (names.lookup x)=true then idxOf x N else none
abbrev slots(names:Nq)(N:List Str):List Expr->Option (List Nat)
 | []=>some []
 |.Name x _::r=>(slot names N x).bind λi=>(slots names N r).bind λis=>some (i::is)
 |_=>none
abbrev JAk(f:Stmt->Option S):List Stmt->Option S
 | []=>some .nil
 |s::r=>(f s).bind λa=>(JAk f r).bind λb=>some (.cons a b)
abbrev JEQ:Expr->Bool
 |.ListComp ..=>true
 |_=>false
abbrev isTup:Expr->Bool
 |.Tuple ..=>true
 |_=>false
abbrev JGK:Expr->Bool
 |.List ..=>true
 |_=>false
abbrev JPZ(names:Nq)(t1 t2 e:Expr):Bool:=match t1,t2,e with
 |.Name x px,.Name y py,.Tuple [a,b] _ _=>names.lookup x==some .local&&names.lookup y==some .local&&px.line==py.line&&x != y&&!([a,b].all (foldedForSure 8))&&!([a,b].all (constantsAlone 8))
 |_,_,_=>false
abbrev JDH(names:Nq)(ts:List Expr)(e:Expr):Bool:=match ts with
 | [a,b]=>JPZ names a b e
 |_=>false
abbrev JFb(names:Nq):Expr->Bool
 |.Name x _=>names.lookup x==some .cell
 |_=>false
abbrev JGm(e c:Option Expr):Option Str:=match e,c with
 |some (.Call (.Name x _) [.Constant (.str _) _ _] [] _),none=>some x
 |_,_=>none
abbrev docOf:Expr->Bool
 |.Constant (.str _) _ _=>true
 |_=>false
abbrev JHr:List Expr->Option (Sum Str (List Expr))
 | [.Name x _]=>some (.inl x)
 | [.Tuple ts _ _]=>some (.inr ts)
 |_=>none
abbrev JDM(G:Lz)(fE:Bool->Nq->List Str->Expr->Option E)(fS:Bool->Nq->List Str->Stmt->Option S)(zz:Bool)(names:Nq)(N:List Str)(st:Stmt):Option S:=match st with
 |.Pass _=>some .pass
 |.Break _=>some .brk
 |.Continue _=>some .cnt
 |.Return none _=>some .retN
 |.Return (some e) _=>(fE false names N e).map λy=>preF G N 0 y (.ret y)
 |.Assign ts e _=>(match JHr ts with
  |some (.inl x)=>(slot names N x).bind λi=>(match JO6 G names e with
   |some a=>(fE false names N a).map λy=>.asg i (.xop .dcp (.cons y .nil))
   |none=>(fE false names N e).bind λy=>if y.fresh=true/\JGK e=false/\JEQ e=false then none else some (.asg i y))
  |some (.inr ts)=>(slots names N ts).bind λis=>if (decide is.Nodup=true/\(isTup e=false\/JDH names ts e=true))/\(G.lookup (".hot":Str)).isSome=false then (fE false names N e).map (S.unp is)
    else none
  |none=>(JOJ ts).bind λq=>if JAT q.1=false/\JEQ e=false/\G.lookup (".dct":Str)=some GK.opt then (slot names N q.1).bind λi=>(fE false names N e).bind λy=>(fE false names N q.2).bind λz=>some (.put i z y) else none)
 |.If c a b _=>(fE false names N c).bind λz=>(JAk (fS zz names N) a).bind λx=>(JAk (fS zz names N) b).bind λy=>some (.ife z x y)
 |.Expr e _=>if docOf e=true then some .pass else if JEQ e=true then none else (fE false names N e).map S.drop
 |.For tg iter body [] _=>if (G.lookup (".hot":Str)).isSome=true then none else (match JHr [tg] with
  |some (.inl x)=>(slot names N x).bind λi=>(fE true names N iter).bind λe=>(JAk (fS zz names N) body).bind λb=>some (.for1 i e b)
  |_=>none)
 |.While c body [] _=>(fE false names N c).bind λz=>(JAk (fS zz names N) body).bind λb=>some (.whl z b)
 |.Raise e c _=>(JGm e c).bind λx=>(match glob G names x with
   |some (.cls c)=>if zz=true then some (.rais c) else none
   |_=>none)
 |_=>none
abbrev JCD(G:Lz):Nat->Bool->Nq->List Str->Stmt->Option S
 |0,_,_,_,_=>none
 |n+1,zz,names,N,st=>JDM G (JAL G n) (JCD G n) zz names N st
end VI
end
section
namespace VI
open PySem
def JA5(cells:List (Str×Addr)):Nq->List (Str×Addr)->List (Str×Addr)
 | [],cs=>cs
 |(n,k)::r,cs=>if (k==NameKind.free)=true then JA5 cells r ((n,(cells.lookup n).getD 0)::cs) else JA5 cells r cs
theorem JCh:∀(names:Nq) (cs:List (Str×Addr)),(∀n,(n,NameKind.free)∈names->(env.cells.lookup n).isSome=true) ->
  (forIn names cs (λ(x:Str×NameKind) (r:List (Str×Addr))=>if (x.2==NameKind.free)=true then (do let c<-cellOf env x.1;pure (ForInStep.yield ((x.1,c)::r))) else pure (ForInStep.yield r)):Sem (List (Str×Addr)))=pure (JA5 env.cells names cs)
 | [],cs,_=>rfl
 |(n,k)::r,cs,h=>by
  rw[List.forIn_cons];have ih:=λcs=>JCh (env:=env) r cs λm hm=>h m (q_s _ hm)
  by_cases hk:(k==NameKind.free)=true
  · have e:k=.free:=eq_of_beq hk
    subst e;have q:=h n List.mem_cons_self;obtain⟨c,hc⟩:=Option.isSome_iff_exists.mp q;simp![hk,if_true];have e2:cellOf env n=pure c:=by unfold cellOf;rw[hc]
    rw[e2,pure_bind,pure_bind];show(forIn r ((n,c)::cs) _:Sem _)=_;rw[ih];show pure (JA5 env.cells r ((n,c)::cs))=pure (JA5 env.cells ((n,NameKind.free)::r) cs);rw[show JA5 env.cells ((n,NameKind.free)::r) cs=JA5 env.cells r ((n,(env.cells.lookup n).getD 0)::cs) from if_pos rfl,hc];rfl
  · rw[if_neg hk,pure_bind]
    show(forIn r cs _:Sem _)=_;rw[ih];show _=pure (JA5 env.cells ((n,k)::r) cs);rw[show JA5 env.cells ((n,k)::r) cs=JA5 env.cells r cs from if_neg hk]
def JCk{sc:Scope}(h:∀n,(n,NameKind.free)∈sc.names->(env.cells.lookup n).isSome=true):closureFor sc env=pure (JA5 env.cells sc.names []):=by
 have:=JCh (env:=env) sc.names [] h;unfold closureFor
 first
  |exact this
  |(simp![]at this ⊢;rw[show(forIn sc.names [] _:Sem (List (Str×Addr)))=_ from this];rfl)
  |(rw[this];rfl)
theorem JBT{cells:List (Str×Addr)}{x:Str}:∀(names:Nq) (cs:List (Str×Addr)),(JA5 cells names cs).lookup x =
  if (x,NameKind.free)∈names then some ((cells.lookup x).getD 0) else cs.lookup x
 | [],cs=>by simp[JA5]
 |(n,k)::r,cs=>by
  unfold JA5
  by_cases hk:(k==NameKind.free)=true
  · have e:k=.free:=eq_of_beq hk
    subst e;rw[if_pos hk,JBT r]
    by_cases hr:(x,NameKind.free)∈r
    ·rw[if_pos hr,if_pos (q_s _ hr)]
    ·rw[if_neg hr]
     by_cases hx:x=n
     ·subst hx;rw[if_pos List.mem_cons_self,List.lookup_cons,beq_self_eq_true]
     ·have hb:(x==n)=false:=beq_eq_false_iff_ne.mpr hx;rw[List.lookup_cons,hb,if_neg];intro hm;rcases q_n.mp hm with e|e
      ·exact hx (Prod.mk.inj e).1
      ·exact hr e
  · rw[if_neg hk,JBT r]
    have:((x,NameKind.free)∈(n,k)::r)↔(x,NameKind.free)∈r:=by
     constructor
     ·intro hm;rcases q_n.mp hm with e|e
      ·exfalso;apply hk;rw[<-(Prod.mk.inj e).2];rfl
      ·exact e
     ·exact q_s _
    simp![this]
end VI
end
section
namespace VI
open PySem PySem.Spec PyProof.Rows L2
section
variable{X:Cx}
abbrev rCat2(K:Kq):R2:=λx y H Q=>∃a b xs ys,x=.ref a/\y=.ref b/\SqT K H a xs/\SqT K H b ys/\xs.length+ys.length<=sizeLine /\
 (xs=[]->Q (.ref b) H)/\(xs≠[]->ys=[]->Q (.ref a) H)/\(xs≠[]->ys≠[]->∀p,H p=none->Q (.ref p) (upd H p (.tup (xs++ys))))
def JL5:OpR X (binaryOp .Add) (rCat2 X.K):=by
 intro zp s Y H x y v u Q I rx ry h;obtain⟨a,b,xs,ys,e1,e2,ha,hb,hz,q0,q1,q2⟩:=h
 by_cases hx:xs=[]
 ·subst e1 e2;cases rx;cases ry;obtain⟨its,r1,p1,_⟩:=I.tuple ha;obtain⟨its2,r2,p2,_⟩:=I.tuple hb;obtain⟨⟨cls,dd,data,sl⟩,ho,hc,n,hd⟩:=id p1;obtain⟨⟨cls2,dd2,data2,sl2⟩,ho2,hc2,n2,hd2⟩:=id p2;simp only at hc hd hc2 hd2;subst hc hd hc2 hd2;have hv:its=[]:=r1.nil_iff.mpr hx;exact concat_meets #[_,ho,rfl] #[_,ho2,rfl] noFill_tuple_add seq_tuple_add PySem.F.slot_tuple_add PySem.F.entry_tuple_add (PySem.F.args_tuple_add_2 _ _)
   (tuple_addW0 a b its.toArray its2.toArray n n2 dd dd2 sl sl2 (by simp[hv])) #[ho,ho2,#[.ref b,H,I,rfl,q0 hx]]
 ·exact JOY zp s Y H x y v u Q I rx ry #[a,b,xs,ys,e1,e2,ha,hb,hx,hz,q1 hx,q2 hx]
abbrev rCatL(K:Kq):R2:=λx y H Q=>∃a b xs ys,x=.ref a/\y=.ref b/\SqL K H a xs/\SqL K H b ys/\xs.length+ys.length<=sizeLine/\∀p,H p=none->Q (.ref p) (upd H p (.lst (xs++ys)))
def JPR:OpR X (binaryOp .Add) (rCatL X.K):=by
 intro zp s Y H x y v u Q I rx ry h;obtain⟨a,b,xs,ys,rfl,rfl,ha,hb,hz,q⟩:=h;cases rx;cases ry;obtain⟨its,r,⟨⟨cls,dd,data,sl⟩,n,ho,hc,hdd,hd⟩,_⟩:=I.list ha;obtain⟨its2,r2,⟨⟨cls2,dd2,data2,sl2⟩,n2,ho2,hc2,hdd2,hd2⟩,_⟩:=I.list hb;simp only at hc hd hc2 hd2;subst hc hd hc2 hd2;have e:its.toArray++its2.toArray=(its++its2).toArray:=by simp
 have hl:its.toArray.size+its2.toArray.size<=sizeLine:=by
  rw[q_f,q_f,<-r.length,<-r2.length];exact hz
 refine concat_meets #[_,ho,rfl] #[_,ho2,rfl] noFill_list_add seq_list_add PySem.F.slot_list_add PySem.F.entry_list_add (PySem.F.args_list_add_2 _ _) (list_addW a b its.toArray its2.toArray n n2 dd dd2 sl sl2 hl) #[ho,ho2,?_];rw[e];exact#[.ref _,_,I.lnew (t':=s.toks) (r.append r2) (by rw[q_u];omega),rfl,q _ I.fresh]
end
section
variable{prog:Program}{w:World}{A:Around}{E:Vq}{s:Shared}
end
section
variable{X:Cx}
end
end VI
end
section
namespace VI
open PySem PySem.Spec PyProof.Rows L2
@[reducible]def St:=L2.St
@[reducible]def RcM(rc:Nat->Addr->Hp->Prop):Prop:=∀n a H H',Same H H'->rc n a H->rc n a H'
structure Bs where
 K:Kq
 cl:Nat->Addr
 w:World
 rc:Nat->Addr->Hp->Prop
 rcm:RcM rc
def ExcAt(a C:Addr)(h:Heap):Prop:=∃o,h.get? a=some o/\o.cls=.ref C
def SqDo(K:Kq)(w:World)(H:Hp)(a:Addr)(o:Obj)(xs:List (Key×V)):Prop :=
 H a=some (.frz o (.dK xs))\/∀(P:Program) (h:Heap),K.In h->(a==sysModules)=false/\h.get? a=some o/\∃vs,KV xs vs/\h.DictOf (JAQ P w) a vs
def SqD(K:Kq)(w:World)(H:Hp)(a:Addr)(xs:List (Key×V)):Prop:=∃o,SqDo K w H a o xs
mutual
def Den(B:Bs)(H:Hp):D->V->Prop
 |.none,v=>v=.non
 |.bool b,v=>v=.bl b
 |.int i,v=>v=.int i
 |.str x,v=>v=.str x
 |.tuple ds,v=>∃a xs,v=.ref a/\SqT B.K H a xs/\DenL B H ds xs
 |.list ds,v=>∃a xs,v=.ref a/\SqL B.K H a xs/\DenL B H ds xs
 |.dict kvs,v=>(∃a c,v=.ref a/\kvs=[(.none,.int ((c:Nat):Int))]/\H a=some (.ext (ExcAt a (B.cl c))))\/(∃a xs,v=.ref a/\SqD B.K B.w H a xs/\DenK B H kvs xs)\/∃a n,v=.ref a/\kvs=[(.bool true,.int ((n:Nat):Int))]/\B.rc n a H
def DenL(B:Bs)(H:Hp):List D->List V->Prop
 | [],vs=>vs=[]
 |d::ds,vs=>∃v r,vs=v::r/\Den B H d v/\DenL B H ds r
def DenK(B:Bs)(H:Hp):List (D×D)->List (Key×V)->Prop
 | [],vs=>vs=[]
 |(k,d)::ds,vs=>∃x v r,vs=(Sum.inr x,v)::r/\k=.str x/\Den B H d v/\DenK B H ds r
end
def JPx{K:Kq}{H H':Hp}{a:Addr}{xs:List V}(e:Same H H')(h:SqT K H a xs):SqT K H' a xs:=by
 rcases h with (h|⟨o,h⟩)|h
 ·exact .inl (.inl (e _ _ h))
 ·exact .inl (.inr #[o,e _ _ h])
 ·exact .inr h
def JSq{K:Kq}{w:World}{H H':Hp}{a:Addr}{o:Obj}{xs:List (Key×V)}(e:Same H H')(h:SqDo K w H a o xs):SqDo K w H' a o xs:=h.imp (λh=>e _ _ h) λh=>h
def sameD{K:Kq}{w:World}{H H':Hp}{a:Addr}{xs:List (Key×V)}(e:Same H H')(h:SqD K w H a xs):SqD K w H' a xs:=h.imp λ_ h=>JSq e h
mutual
theorem Den.mono{B:Bs}{H H':Hp}(s:Same H H'):∀(d:D) (v:V),Den B H d v->Den B H' d v
 |.none,_,h=>h
 |.bool _,_,h=>h
 |.int _,_,h=>h
 |.str _,_,h=>h
 |.tuple ds,v,h=>by
  simp![Den]at h ⊢;obtain⟨a,xs,e,q,l⟩:=h;exact#[a,xs,e,JPx s q,DenL.mono s ds xs l]
 |.list ds,v,h=>by
  simp![Den]at h ⊢;obtain⟨a,xs,e,q,l⟩:=h;exact#[a,xs,e,s.seq q,DenL.mono s ds xs l]
 |.dict kvs,v,h=>by
  simp![Den]at h ⊢;rcases h with ⟨a,c,e,k,q⟩|⟨a,xs,e,q,l⟩|⟨a,n,e,k,q⟩
  ·exact .inl #[a,c,e,k,s _ _ q]
  ·exact .inr (.inl #[a,xs,e,sameD s q,DenK.mono s kvs xs l])
  ·exact .inr (.inr #[a,n,e,k,B.rcm n a H H' s q])
theorem DenL.mono{B:Bs}{H H':Hp}(s:Same H H'):∀(ds:List D) (vs:List V),DenL B H ds vs->DenL B H' ds vs
 | [],_,h=>h
 |d::ds,vs,h=>by
  simp![DenL]at h ⊢;obtain⟨v,r,e,q,l⟩:=h;exact#[v,r,e,Den.mono s d v q,DenL.mono s ds r l]
theorem DenK.mono{B:Bs}{H H':Hp}(s:Same H H'):∀(ds:List (D×D)) (vs:List (Key×V)),DenK B H ds vs->DenK B H' ds vs
 | [],_,h=>h
 |(k,d)::ds,vs,h=>by
  simp![DenK]at h ⊢;obtain⟨x,v,r,e,e',q,l⟩:=h;exact#[x,v,r,e,e',Den.mono s d v q,DenK.mono s ds r l]
end
theorem DenL.len{B:Bs}{H:Hp}:∀(ds:List D) (vs:List V),DenL B H ds vs->ds.length=vs.length
 | [],_,h=>by simp![DenL]at h;subst h;rfl
 |d::ds,vs,h=>by
  simp![DenL]at h;obtain⟨v,r,e,q,l⟩:=h;subst e;simp![List.length_cons,DenL.len ds r l]
theorem DenL.get{B:Bs}{H:Hp}:∀(ds:List D) (vs:List V) (i:Nat) (d:D),DenL B H ds vs->ds[i]? = some d->∃v,vs[i]? = some v/\Den B H d v
 | [],_,_,_,_,e=>by simp at e
 |d::ds,vs,i,x,h,e=>by
  simp![DenL]at h;obtain⟨v,r,e1,q,l⟩:=h;subst e1;cases i with
  |zero =>
   simp![List.getElem?_cons_zero,q_j]at e;subst e;exact#[v,rfl,q]
  |succ i =>
   simp![List.getElem?_cons_succ]at e;obtain⟨u,e2,q2⟩:=DenL.get ds r i x l e;exact#[u,by simpa using e2,q2]
theorem DenL.append{B:Bs}{H:Hp}:∀(ds es:List D) (vs us:List V),DenL B H ds vs->DenL B H es us->DenL B H (ds++es) (vs++us)
 | [],es,_,us,h,h2=>by simp![DenL]at h;subst h;exact h2
 |d::ds,es,vs,us,h,h2=>by
  simp![DenL,List.cons_append]at h ⊢;obtain⟨v,r,e,q,l⟩:=h;subst e;exact#[v,r++us,rfl,q,DenL.append ds es r us l h2]
mutual
theorem Den.reads(hK:X.K=B.K)(I:Inv X zp Y H s) :
  ∀(d:D) (v:V) (u:Value),d.canLay0=true->Den B H d v->RelV v u->∃as,Reads s.heap u d as
 |.none,v,u,_,h,r=>by simp![Den]at h;subst h;cases r;exact#[_,.none]
 |.bool b,v,u,_,h,r=>by simp![Den]at h;subst h;cases r;exact#[_,.bool b]
 |.int i,v,u,_,h,r=>by simp![Den]at h;subst h;obtain⟨t,rfl⟩:=r;exact#[_,.int i t]
 |.str x,v,u,_,h,r=>by simp![Den]at h;subst h;obtain⟨t,rfl⟩:=r;exact#[_,.str x t]
 |.tuple ds,v,u,c,h,r=>by
  simp![Den]at h;obtain⟨a,xs,e,q,l⟩:=h;subst e;cases r;obtain⟨its,rv,⟨o,h1,h2,n,h3⟩,_⟩:=I.tuple (hK▸q);obtain⟨as,ra⟩:=DenL.reads hK I ds xs its (by simpa only[PyData.canLay0] using c) l rv
  exact#[as,.tuple h1 h2 h3 (by simpa using ra)]
 |.list ds,v,u,c,h,r=>by
  simp![Den]at h;obtain⟨a,xs,e,q,l⟩:=h;subst e;cases r;obtain⟨its,rv,⟨o,n,h1,h2,_,h3⟩,_⟩:=I.list (hK▸q);obtain⟨as,ra⟩:=DenL.reads hK I ds xs its (by simpa only[PyData.canLay0] using c) l rv
  exact#[a::as,.list h1 h2 h3 (by simpa using ra)]
 |.dict kvs,v,u,c,h,r=>by simp![PyData.canLay0]at c;cases c
theorem DenL.reads(hK:X.K=B.K)(I:Inv X zp Y H s) :
  ∀(ds:List D) (vs:List V) (us:List Value),PyData.canLayAll0 ds=true->DenL B H ds vs->Vals vs us->∃as,ReadsAll s.heap us ds as
 | [],vs,us,_,h,r=>by simp![DenL]at h;subst h;cases r;exact#[_,.nil]
 |d::ds,vs,us,c,h,r=>by
  simp![DenL]at h;obtain⟨v,t,e,q,l⟩:=h;subst e;simp![PyData.canLayAll0,q_i]at c;cases r with
  |cons r1 r2 =>
   obtain⟨as,h1⟩:=Den.reads hK I d v _ c.1 q r1;obtain⟨bs,h2⟩:=DenL.reads hK I ds t _ c.2 l r2;exact#[_,.cons h1 h2]
end
def KE(B:Bs)(XX:Nat->Hp->Prop)(r:R D)(H:Hp)(Q:VK):Prop:=match r with
 |.ok d=>∀v H',Same H H'->Den B H' d v->Q v H'
 |.exc c=>XX c H
 |.bad=>False
def KL(B:Bs)(XX:Nat->Hp->Prop)(r:R (List D))(H:Hp)(Q:List V->Hp->Prop):Prop:=match r with
 |.ok ds=>∀vs H',Same H H'->DenL B H' ds vs->Q vs H'
 |.exc c=>XX c H
 |.bad=>False
def KB(XX:Nat->Hp->Prop)(r:R Bool)(H:Hp)(Q:Bool->Hp->Prop):Prop:=match r with
 |.ok b=>∀H',Same H H'->Q b H'
 |.exc c=>XX c H
 |.bad=>False
def Sok(B:Bs)(Y:St)(H:Hp)(U:Env):Prop:=∀i d,look U i=.ok d->∃v,Y[i]? = some (some v)/\Den B H d v
theorem Sok.mono{B:Bs}{Y:St}{H H':Hp}{U:Env}(h:Sok B Y H U)(s:Same H H'):Sok B Y H' U:=λi d e =>
 let ⟨v,e1,q⟩:=h i d e
 #[v,e1,Den.mono s d v q]
def Dm(H H':Hp):Prop:=∀b o,H b=some o->∃o',H' b=some o'
def Dm.refl(H:Hp):Dm H H:=λ_ o e=>#[o,e]
def Dm.trans{H H1 H2:Hp}(a:Dm H H1)(s:Same H1 H2):Dm H H2:=λb o e=>let ⟨u,q⟩:=a b o e;#[u,s b u q]
def Dm.free{H H':Hp}{b:Addr}(a:Dm H H')(e:H' b=none):H b=none:=by
 cases q:H b with
 |none=>rfl
 |some o=>obtain⟨u,z⟩:=a b o q;rw[e]at z;cases z
def LsAt(b:Addr)(xs:List V)(h:Heap):Prop:=xs.length<=sizeLine/\∃(its:List Value) (n:Nat),Vals xs its/\h.get? b=some { cls:=.type "list",data:=.seq its.toArray n }
def TabAt(b:Addr)(cs:List Addr)(h:Heap):Prop:=∃ps:Array Value,h.get? b=some { cls:=.none,data:=.fields ps }/\TriplesOk ps.toList/\∀pos v,codeAmong pos ps.toList=some v->∃c∈cs,v=.ref c
def JHh:HO->Prop
 |.ins _ _ _=>True
 |.own _=>True
 |.dK _=>True
 |.ext φ=>(∃b xs,φ=LsAt b xs)\/∃b cs,φ=TabAt b cs
 |_=>False
def Kpt(H H':Hp):Prop:=∀b o,H b=some o->¬JHh o->H' b=some o
def Same.kp{H H':Hp}(s:Same H H'):Kpt H H':=λb o e _=>s b o e
def Same.kpT(s:Same H H1)(k:Kpt H1 H2):Kpt H H2:=λb o e n=>k b o (s b o e) n
def Kpt.same{H H1 H2:Hp}(k:Kpt H H1)(s:Same H1 H2):Kpt H H2:=λb o e n=>s b o (k b o e n)
def Kpt.seq{K:Kq}{H H':Hp}{a:Addr}{xs:List V}(e:Kpt H H')(h:SqL K H a xs):SqL K H' a xs:=by
 rcases h with (h|⟨o,h⟩)|h
 ·exact .inl (.inl (e _ _ h λz=>z))
 ·exact .inl (.inr #[o,e _ _ h λz=>z])
 ·exact .inr h
def Kpt.tup{K:Kq}{H H':Hp}{a:Addr}{xs:List V}(e:Kpt H H')(h:SqT K H a xs):SqT K H' a xs:=by
 rcases h with (h|⟨o,h⟩)|h
 ·exact .inl (.inl (e _ _ h λz=>z))
 ·exact .inl (.inr #[o,e _ _ h λz=>z])
 ·exact .inr h
def Kpt.dict{K:Kq}{w:World}{H H':Hp}{a:Addr}{o:Obj}{xs:List (Key×V)}(e:Kpt H H')(h:SqDo K w H a o xs):SqDo K w H' a o xs:=h.imp (λh=>e _ _ h λz=>z) λh=>h
abbrev JBR(B:Bs)(n:Nat)(fn:List D->R D):Sp:=λvs H Q E=>vs.length=n/\∃ds,DenL B H ds vs/\(match fn ds with
 |.ok d=>∀v H',Same H H'->Den B H' d v->Q v H'
 |.exc c=>∀H',Same H H'->E (.ref (B.cl c)) none H'
 |.bad=>False)
abbrev EX(B:Bs)(XX:Nat->Hp->Prop):XK:=λu _ H=>∃c,u=.ref (B.cl c)/\XX c H
class Cool (G:Lz):Prop where
 out:G.lookup (".hot":Str)=none
def JEs(h:¬(G.lookup (".hot":Str)).isSome=true):Cool G:=#[by
 cases q:G.lookup (".hot":Str) with
 |none=>rfl
 |some k=>rw[q]at h;exact absurd rfl h]
def JI6(K:Kq)(B:Bs)(fn:List D->R D)(f:Str):Prop:=∀H ds vs,DenL B H ds vs->(match fn ds with
 |.ok d=>∃a Cc dx fs v,vs=[.ref a]/\H a=some (.ins Cc dx fs)/\Cls K Cc/\NoAttr K Cc f/\fs.lookup f=some v/\Den B H d v
 |.exc _=>False
 |.bad=>True)
def OwnHO(B:Bs)(H:Hp)(b:Addr)(d:D)(o:HO):Prop:=match d with
 |.list ds=>∃xs,o=.ext (LsAt b xs)/\DenL B H ds xs
 |.dict kvs=>∃xs,o=.dK xs/\DenK B H kvs xs
 |_=>False
def OwnP(K:Kq)(B:Bs)(fn:Nat->List D->R D)(b:Nat)(f:Str):Prop:=(∀j,j<7->fn (b+1+j)=JBV j (fn b))/\∀H d v,Den B H d v->(match fn b [d] with
 |.ok t=>∃a Cc dx fs l o,v=.ref a/\H a=some (.ins Cc dx fs)/\Cls K Cc/\NoAttr K Cc f/\fs.lookup f=some (.ref l)/\H l=some o/\OwnHO B H l t o
 |.exc _=>False
 |.bad=>True)
def MethP(X:Cx)(B:Bs)(CX:CXT)(fn ck:List D->R D)(m:Str):Prop:=(∀ds,ck ds=.bad)\/∃Cc f fd ps k,Cls X.K Cc/\Meth X.K Cc m f/\FnOk X.prog X.w X.K X.mg X.base CX k f fd ps (JBR B ps.length fn)/\Room k X.A/\Binds X.K fd ps [] /\
 (∀ds,fn ds≠.bad->ds.length=ps.length)/\∀H d v,Den B H d v->(match ck [d] with
 |.ok d'=>d'=d/\∃a dx fs,v=.ref a/\H a=some (.ins Cc dx fs)/\fs.lookup m=none
 |.exc _=>False
 |.bad=>True)
structure Gk(X:Cx)(B:Bs)(C:Cn)(CX:CXT)(XX:Nat->Hp->Prop)(G:Lz):Prop where
 K:X.K=B.K
 W:X.w=B.w
 anti:∀c H H',Same H H'->XX c H->XX c H'
 units:X.A.units+200<cLine
 calm:Cool G->X.calm=true
 fn:∀x i,G.lookup x=some (.fn i)->∃f fd ps k,X.mg x=some (.ref f)/\PySem.W.keepIn X.K (.ref f)=true /\
  FnOk X.prog X.w X.K X.mg X.base CX k f fd ps (JBR B ps.length (C.fn i))/\Room k X.A/\Binds X.K fd ps []/\∀ds,C.fn i ds≠.bad->ds.length=ps.length
 pas:JBX CX X (EX B XX)
 con:∀x i d,G.lookup x=some (.con i)->C.glo i=.ok d->∃u v,X.mg x=some u/\RelV v u/\∀H,Den B H d v
 noexg:∀i c,C.glo i≠.exc c
 blt:∀x b,G.lookup x=some (.blt b)->X.mg x=none
 rng:∀x,G.lookup x=some .rng->X.mg x=none
 isi:∀x,G.lookup x=some .isi->X.mg x=none
 ty:∀x t,G.lookup x=some (.ty t)->X.mg x=none
 cls:∀x c,G.lookup x=some (.cls c)->X.mg x=some (.ref (B.cl c))
 nam:∀x,G.lookup x=some .nam->X.mg x=none
 fld:∀f i,G.lookup f=some (.rcf i)->JI6 X.K B (C.fn i) f
 mth:∀m i j,G.lookup m=some (.rcm i j)->MethP X B CX (C.fn i) (C.fn j) m
 own:∀f b,G.lookup f=some (.rco b)->OwnP X.K B C.fn b f
section
variable{X:Cx}{B:Bs}{C:Cn}{CX:CXT}{XX:Nat->Hp->Prop}{G:Lz}
def RE(B:Bs)(C:Cn)(XX:Nat->Hp->Prop)(e:E):TE:=λY H Q=>∃U,Sok B Y H U/\KE B XX (ev C e U) H Q
def RT(B:Bs)(C:Cn)(XX:Nat->Hp->Prop)(e:E):TT:=λY H Q=>∃U,Sok B Y H U/\KB XX (evT C e U) H Q
def RA(B:Bs)(C:Cn)(XX:Nat->Hp->Prop)(e:E):TA:=λY H Q=>∃U,Sok B Y H U/\KL B XX (evA C e U) H Q
def PE.imp{e:Expr}{t t':TE}(h:PE X e t)(i:∀Y H Q,t' Y H Q->t Y H Q):PE X e t':=λzp s Y H Q I q=>h zp s Y H Q I (i Y H Q q)
def PT.imp{e:Expr}{t t':TT}(h:PT X e t)(i:∀Y H Q,t' Y H Q->t Y H Q):PT X e t':=λzp s Y H Q I q=>h zp s Y H Q I (i Y H Q q)
def PA.imp{e:List Expr}{t t':TA}(h:PA X e t)(i:∀Y H Q,t' Y H Q->t Y H Q):PA X e t':=λpos zp s Y H Q I q=>h pos zp s Y H Q I (i Y H Q q)
def RE.of{e:E}{U:Env}{Y:St}{H:Hp}{Q:VK}{α:Type}{f:D->R α}{W:R α->Hp->Prop}(ok:Sok B Y H U)
  (hx:∀c H,W (.exc c) H->XX c H) (hb:∀H,W .bad H->False) (h:W ((ev C e U).bind f) H)
  (go:∀d v H1,Same H H1->Den B H1 d v->W (f d) H->Q v H1):RE B C XX e Y H Q:=by
 refine#[U,ok,?_];cases q:ev C e U with
 |ok d =>
  rw[q]at h;exact λv H1 s1 d1=>go d v H1 s1 d1 h
 |exc c =>
  rw[q]at h;exact hx c H h
 |bad =>
  rw[q]at h;exact(hb H h).elim
def RT.of{e:E}{U:Env}{Y:St}{H:Hp}{Q:Bool->Hp->Prop}{α:Type}{f:Bool->R α}{W:R α->Hp->Prop}(ok:Sok B Y H U)
  (hx:∀c H,W (.exc c) H->XX c H) (hb:∀H,W .bad H->False) (h:W ((evT C e U).bind f) H)
  (go:∀b H1,Same H H1->W (f b) H->Q b H1):RT B C XX e Y H Q:=by
 refine#[U,ok,?_];cases q:evT C e U with
 |ok d =>
  rw[q]at h;exact λH1 s1=>go d H1 s1 h
 |exc c =>
  rw[q]at h;exact hx c H h
 |bad =>
  rw[q]at h;exact(hb H h).elim
def RA.of{e:E}{U:Env}{Y:St}{H:Hp}{Q:List V->Hp->Prop}{α:Type}{f:List D->R α}{W:R α->Hp->Prop}(ok:Sok B Y H U)
  (hx:∀c H,W (.exc c) H->XX c H) (hb:∀H,W .bad H->False) (h:W ((evA C e U).bind f) H)
  (go:∀ds vs H1,Same H H1->DenL B H1 ds vs->W (f ds) H->Q vs H1):RA B C XX e Y H Q:=by
 refine#[U,ok,?_];cases q:evA C e U with
 |ok d =>
  rw[q]at h;exact λv H1 s1 d1=>go d v H1 s1 d1 h
 |exc c =>
  rw[q]at h;exact hx c H h
 |bad =>
  rw[q]at h;exact(hb H h).elim
def KE.mono(g:Gk X B C CX XX G){r:R D}{H H':Hp}{Q:VK}(s:Same H H')(h:KE B XX r H Q):KE B XX r H' Q:=by
 cases r with
 |ok d=>exact λv H2 s2 d2=>h v H2 (s.trans s2) d2
 |exc c=>exact g.anti c H H' s h
 |bad=>exact h
def KB.mono(g:Gk X B C CX XX G){r:R Bool}{H H':Hp}{Q:Bool->Hp->Prop}(s:Same H H')(h:KB XX r H Q):KB XX r H' Q:=by
 cases r with
 |ok d=>exact λH2 s2=>h H2 (s.trans s2)
 |exc c=>exact g.anti c H H' s h
 |bad=>exact h
def KL.mono(g:Gk X B C CX XX G){r:R (List D)}{H H':Hp}{Q:List V->Hp->Prop}(s:Same H H')(h:KL B XX r H Q):KL B XX r H' Q:=by
 cases r with
 |ok d=>exact λv H2 s2 d2=>h v H2 (s.trans s2) d2
 |exc c=>exact g.anti c H H' s h
 |bad=>exact h
theorem KE.ok{d:D}{v:V}{H:Hp}{Q:VK}(h:KE B XX (.ok d) H Q)(q:Den B H d v):Q v H:=h v H (Same.refl H) q
def two(g:Gk X B C CX XX G){a b:E}{Y:St}{H:Hp}{Q:VK}{f:D->D->R D}{r:R2}
  (hr:∀x y H dx dy,Den B H dx x->Den B H dy y->KE B XX (f dx dy) H Q->r x y H Q) :
  (∃U,Sok B Y H U/\KE B XX ((ev C a U).bind λx=>(ev C b U).bind λy=>f x y) H Q)->tOp r (RE B C XX a) (RE B C XX b) Y H Q:=by
 rintro⟨U,ok,h⟩;refine RE.of (W:=λr H=>KE B XX r H Q) ok (λ_ _ z=>z) (λ_ z=>z) h λdx x H1 s1 d1 h1=>?_;refine RE.of (W:=λr H=>KE B XX r H Q) (ok.mono s1) (λ_ _ z=>z) (λ_ z=>z) (KE.mono g s1 h1) λdy y H2 s2 d2 h2=>?_;exact hr x y H2 dx dy (Den.mono s2 dx x d1) d2 (KE.mono g s2 h2)
def binOk(g:Gk X B C CX XX G)(op:Operator):OpR X (binaryOp op) (λx y H Q=>∃dx dy,Den B H dx x/\Den B H dy y/\KE B XX (binD op dx dy) H Q):=by
 rintro zp s Y H x y v u Q I rx ry ⟨dx,dy,hx,hy,k⟩;cases dx<;>cases dy<;>first
  |(exfalso;cases op<;>exact k)
  |skip
 case list.list xs ys =>
  cases op<;>first
   |exact fF k
   |skip
  simp![binD]at k
  split at k
  ·rename_i hz;simp![Den]at hx hy;obtain⟨a,us,e1,q1,l1⟩:=hx;obtain⟨c,ws,e2,q2,l2⟩:=hy;subst e1;subst e2;have n1:=DenL.len _ _ l1;have n2:=DenL.len _ _ l2;refine JPR zp s Y H _ _ v u Q I rx ry #[a,c,us,ws,rfl,rfl,g.K▸q1,g.K▸q2,by rw[sizeLine_eq];omega,λp hp=>?_]
   have sm:Same H (upd H p (.lst (us++ws))):=λb o e=>by rw[JAI (JAd e hp)];exact e
   refine k _ _ sm ?_;simp![Den];exact#[p,_,rfl,SqL.of JAF,DenL.append _ _ _ _ (DenL.mono sm _ _ l1) (DenL.mono sm _ _ l2)]
  ·exact k.elim
 case tuple.tuple xs ys =>
  cases op<;>first
   |exact fF k
   |skip
  simp![binD]at k
  split at k
  ·rename_i hz;simp![Den]at hx hy;obtain⟨a,us,e1,q1,l1⟩:=hx;obtain⟨c,ws,e2,q2,l2⟩:=hy;subst e1;subst e2;have n1:=DenL.len _ _ l1;have n2:=DenL.len _ _ l2;refine JL5 zp s Y H _ _ v u Q I rx ry #[a,c,us,ws,rfl,rfl,g.K▸q1,g.K▸q2,by rw[sizeLine_eq];omega,λh=>?_,λh h2=>?_,λh h2 p hp=>?_]
   · have:xs=[]:=by rw[h]at n1;exact List.eq_nil_of_length_eq_zero n1
     subst this;refine k _ _ (Same.refl H) ?_;simp![Den,List.nil_append];exact#[c,ws,rfl,q2,l2]
   · have:ys=[]:=by rw[h2]at n2;exact List.eq_nil_of_length_eq_zero n2
     subst this;refine k _ _ (Same.refl H) ?_;simp![Den,List.append_nil];exact#[a,us,rfl,q1,l1]
   · have sm:Same H (upd H p (.tup (us++ws))):=λb o e=>by rw[JAI (JAd e hp)];exact e
     refine k _ _ sm ?_;simp![Den];exact#[p,_,rfl,SqT.of JAF,DenL.append _ _ _ _ (DenL.mono sm _ _ l1) (DenL.mono sm _ _ l2)]
  ·exact k.elim
 rename_i i j;simp![Den]at hx hy;subst hx;subst hy;cases op<;>first
  |exact fF k
  |skip
 ·exact JPX zp s Y H _ _ v u Q I rx ry #[i,j,rfl,rfl,KE.ok k (by simp![Den])]
 ·exact JQC zp s Y H _ _ v u Q I rx ry #[i,j,rfl,rfl,KE.ok k (by simp![Den])]
 ·simp![binD]at k
  split at k
  ·rename_i hm;obtain⟨t,rfl⟩:=rx;obtain⟨t',rfl⟩:=ry;exact mul_int #[.int _,H,I.tok _,#[_,rfl],KE.ok k (by simp![Den])] hm
  ·exact k.elim
 ·simp![binD]at k
  split at k
  ·rename_i hm;exact JPQ zp s Y H _ _ v u Q I rx ry #[i,j,rfl,rfl,hm,KE.ok k (by simp![Den])]
  ·exact k.elim
 ·simp![binD]at k
  split at k
  ·rename_i hm;obtain⟨t,rfl⟩:=rx;obtain⟨t',rfl⟩:=ry;exact floordiv_int hm.1 #[.int _,H,I.tok _,#[_,rfl],KE.ok k (by simp![Den])] (.inl hm.2)
  ·exact k.elim
def JIP(g:Gk X B C CX XX G):X.A.units+64<cLine:=by have:=g.units;omega
def SqDo.at{zp:Pq}{Y:St}{H:Hp}{s:Shared}{a:Addr}{o:Obj}{xs:List (Key×V)}(I:Inv X zp Y H s)(h:SqDo X.K X.w H a o xs):(a==sysModules)=false/\s.heap.get? a=some o/\∃vs,KV xs vs/\s.heap.DictOf (JAQ X.prog X.w) a vs:=by
 rcases h with h|h
 ·obtain⟨e,_,h1,h2⟩:=I.hok a _ h;exact#[h1,e,h2]
 ·exact h X.prog s.heap I.kIn
theorem SqD.at{zp:Pq}{Y:St}{H:Hp}{s:Shared}{a:Addr}{xs:List (Key×V)}(I:Inv X zp Y H s)(h:SqD X.K X.w H a xs):(a==sysModules)=false/\∃vs,KV xs vs/\s.heap.DictOf (JAQ X.prog X.w) a vs:=by
 obtain⟨o,h⟩:=h;obtain⟨h1,_,h2⟩:=SqDo.at I h;exact#[h1,h2]
def JBc{ks:List (Key×V)}(h:KV ks vs):(∀v,(ks.find? λp=>p.1=Sum.inr x).map (·.2)=some v->∃u,valueAt vs (Sum.inr x:Key)=some u/\RelV v u)/\((ks.find? λp=>p.1=Sum.inr x).map (·.2)=none->valueAt vs (Sum.inr x:Key)=none):=by
 induction h with
 |nil=>exact#[λv e=>(by simp at e),λ_=>rfl]
 | @cons p q ps qs hq t ih =>
  obtain⟨k,v⟩:=p;obtain⟨k',u⟩:=q;obtain⟨e1,e2⟩:=hq;simp only at e1 e2;subst e1;unfold valueAt at ih ⊢;simp![List.find?_cons]
  by_cases hk:k=Sum.inr x
  ·simp![hk,decide_true,Option.map_some,q_j];exact#[λv' e=>#[u,rfl,e▸e2],λe=>by cases e]
  ·simp![hk,decide_false];exact ih
theorem JCb{d:D}:∀ {kvs:List (D×D)}{xs:List (Key×V)},DenK B H kvs xs->getK kvs x=.ok d->∃v,(xs.find? λp=>p.1=Sum.inr x).map (·.2)=some v/\Den B H d v
 | [],xs,h,e=>by cases e
 |(k,b)::r,xs,h,e=>by
  simp![DenK]at h;obtain⟨y,v,r',rfl,rfl,h1,h2⟩:=h;simp![getK]at e
  by_cases hk:y=x
  · rw[if_pos hk]at e
    cases e;exact#[v,by simp[List.find?,hk],h1]
  · rw[if_neg hk]at e
    obtain⟨v',e1,e2⟩:=JCb h2 e;have:¬((Sum.inr y:Key)=Sum.inr x):=λz=>hk (Sum.inr.inj z);exact#[v',by simpa[List.find?,this] using e1,e2]
theorem JDV{c:Nat}:∀ {kvs:List (D×D)},getK kvs x≠.exc c
 | []=>by intro h;cases h
 |(k,b)::r=>by
  cases k<;>simp![getK]<;>first|(intro h;cases h;done)|skip
  split
  · intro h;cases h
  · exact JDV
theorem JDy:∀ {kvs:List (D×D)}{xs:List (Key×V)},DenK B H kvs xs->hasK kvs k=(xs.find? λp=>p.1=Sum.inr k).isSome
 | [],xs,h=>by simp![DenK]at h;subst h;rfl
 |(z,d)::r,xs,h=>by
  simp![DenK]at h;obtain⟨y,v,r',rfl,rfl,h1,h2⟩:=h;simp![hasK,JDy h2,List.find?_cons]
  by_cases e:y=k
  · subst e;simp
  · have:¬((Sum.inr y:Key)=Sum.inr k):=λz=>e (Sum.inr.inj z)
    simp[e,this]
def JGM(h:KV xs vs):(valueAt vs (Sum.inr k:Key)).isSome=(xs.find? λp=>p.1=Sum.inr k).isSome:=by
 cases q:(xs.find? λp=>p.1=Sum.inr k) with
 |none=>rw[(JBc h).2 (by rw[q];rfl)];rfl
 |some p =>
  obtain⟨u,e,_⟩:=(JBc h).1 p.2 (by rw[q];rfl)
  rw[e];rfl
def JBs{xs:List (Key×V)}{vs:List (Key×Value)}(h:KV xs vs):xs.length=vs.length:=Paired.length h
theorem JB6:∀ {kvs:List (D×D)}{xs:List (Key×V)},DenK B H kvs xs->xs.length=kvs.length
 | [],xs,h=>by simp![DenK]at h;subst h;rfl
 |(k,d)::r,xs,h=>by
  simp![DenK]at h;obtain⟨y,v,r',rfl,rfl,h1,h2⟩:=h;simp![List.length_cons,JB6 h2]
def JEg{H:Hp}{kvs:List (D×D)}{ks:List D}{v:V}(h:Den B H (.dict kvs) v)(hk:JCX kvs=some ks):∃a o xs,v=.ref a/\SqDo B.K B.w H a o xs/\DenK B H kvs xs:=by
 simp![Den]at h;rcases h with ⟨a,c,e,rfl,_⟩|⟨a,xs,e,⟨o,q⟩,l⟩|⟨a,c,e,rfl,_⟩
 ·cases hk
 rotate_left 1
 ·cases hk
 ·exact#[a,o,xs,e,q,l]
def JHE{d:D}(h:JLX d=some kvs):d=.dict kvs:=by
 cases d<;>first|(cases h;done)|(cases h;rfl)
def JMO(g:Gk X B C CX XX G){Q:VK}(I:Inv X zp Y H s)(rx:RelV x v)(ry:RelV y u)(hx:Den B H dx x)(hy:Den B H (.dict kvs) y)
  (k:KE B XX ((JH4 dx kvs).bind f) H Q):∃a vs kx t,u=.ref a/\v=.str kx t/\(a==sysModules)=false/\s.heap.DictOf (JAQ X.prog X.w) a vs/\KE B XX (f (valueAt vs (Sum.inr kx:Key)).isSome) H Q:=by
 cases dx<;>first|exact fF k|skip
 rename_i kx;simp![JH4]at k
 split at k
 case isFalse=>exact k.elim
 rename_i hk;obtain⟨ks,hk⟩:=Option.isSome_iff_exists.mp hk;obtain⟨a',o,xs,rfl,hq,l⟩:=JEg hy hk;cases ry;simp![Den]at hx;subst hx;obtain⟨t,rfl⟩:=rx;rw[<-g.K,<-g.W]at hq;obtain⟨hsys,_,vs,kv,dd⟩:=SqDo.at I hq;refine#[a',vs,kx,t,rfl,rfl,hsys,dd,?_];rw[JGM kv,<-JDy l];exact k
theorem JHH:∀ {kb:List (D×D)}{xb:List (Key×V)},DenK B H kb xb->getK kb y=.bad->(xb.find? λp=>p.1=Sum.inr y).map (·.2)=none
 | [],xb,h,_=>by simp![DenK]at h;subst h;rfl
 |(z,d)::r,xb,h,hb=>by
  simp![DenK]at h;obtain⟨y2,v2,r2,rfl,rfl,g1,g2⟩:=h;simp![getK]at hb
  split at hb
  · cases hb
  · rename_i hne
    have:¬((Sum.inr y2:Key)=Sum.inr y):=λz=>hne (Sum.inr.inj z);simpa[List.find?,this] using JHH g2 hb
theorem JJI(g:Gk X B C CX XX G){zp:Pq}{s:Shared}{Y:St}{H:Hp}{A:Around}(I:Inv X zp Y H s)(hu:A.in1.units+64<cLine){kb:List (D×D)}{xb:List (Key×V)}{vb:List (Key×Value)}(lb:DenK B H kb xb)(kvb:KV xb vb) :
  ∀ {ka:List (D×D)}{xa:List (Key×V)}{va:List (Key×Value)}{r:Bool},DenK B H ka xa->KV xa va->JCH kb ka=.ok r->PySem.W.KeqHits A.in1 s vb va r
 | [],xa,va,r,h,kv,e=>by
  simp![DenK]at h;subst h;cases kv;cases e;exact .nil
 |(z,d)::ra,xa,va,r,h,kv,e=>by
  simp![DenK]at h;obtain⟨y,v,r',rfl,rfl,h1,h2⟩:=h;cases kv with
  | @cons _ q _ qs hq t =>
    obtain⟨k',u⟩:=q;obtain⟨e1,e2⟩:=hq;simp only at e1 e2;subst e1;simp![JCH]at e;cases hg:getK kb y with
    |ok d2 =>
     rw[hg]at e;simp only at e
     split at e
     ·rename_i hs;cases hr:JCH kb ra with
      |ok b =>
       rw[hr]at e;cases e;obtain⟨v2,f1,f2⟩:=JCb lb hg;obtain⟨u2,f3,f4⟩:=(JBc kvb).1 v2 f1;simp![q_i]at hs;have c1:d.canLay0=true:=(Bool.and_eq_true_iff.mp hs.1).1;have c2:d2.canLay0=true:=(Bool.and_eq_true_iff.mp hs.2).1;obtain⟨as,ra'⟩:=Den.reads g.K I d v u c1 h1 e2;obtain⟨bs,rb'⟩:=Den.reads g.K I d2 v2 u2 c2 f2 f4;exact .hit f3 (PySem.W.keq_at ra' rb' hs.1 hs.2 hu) (JJI g I hu lb kvb h2 t hr)
      |exc c=>rw[hr]at e;cases e
      |bad=>rw[hr]at e;cases e
     ·cases e
    |exc c=>exact(JDV hg).elim
    |bad =>
     rw[hg]at e;cases e;exact .miss ((JBc kvb).2 (JHH lb hg))
def JHy{c:Nat}:∀ {ka:List (D×D)},JCH kb ka≠.exc c
 | []=>by intro h;cases h
 |(z,d)::r=>by
  intro h;cases z<;>simp![JCH]at h<;>first|(cases h;done)|skip
  split at h
  · split at h
    ·split at h<;>cases h
    ·cases h
  · cases h
def JMF(g:Gk X B C CX XX G){Q:VK}(I:Inv X zp Y H s)(rx:RelV x v)(ry:RelV y u)(hx:Den B H dx x)(hy:Den B H dy y)(k:KE B XX (if (shaped dx&&shaped dy)=true then f (PyData.eqv dx dy) else (eqD dx dy).bind f) H Q) :
  (∃as bs,Reads s.heap v dx as/\Reads s.heap u dy bs/\shaped dx=true/\shaped dy=true/\KE B XX (f (PyData.eqv dx dy)) H Q)\/∃a b va vb t,v=.ref a/\u=.ref b/\(a==sysModules)=false/\(b==sysModules)=false/\s.heap.DictOf (JAQ X.prog X.w) a va/\s.heap.DictOf (JAQ X.prog X.w) b vb/\(va.length=vb.length->PySem.W.KeqHits X.A.in1 s vb va t)/\KE B XX (f (va.length==vb.length&&t)) H Q:=by
 split at k
 ·rename_i hs;simp![q_i]at hs;obtain⟨as,ra⟩:=Den.reads g.K I dx x v (Bool.and_eq_true_iff.mp hs.1).1 hx rx;obtain⟨bs,rb⟩:=Den.reads g.K I dy y u (Bool.and_eq_true_iff.mp hs.2).1 hy ry;exact .inl #[as,bs,ra,rb,hs.1,hs.2,k]
 unfold eqD at k
 split at k
 ·rename_i ka kb ha hb;rw[JHE ha]at hx;rw[JHE hb]at hy;unfold eqD2 at k
  split at k
  · rename_i k1 k2 h1 h2
    obtain⟨a',o,xs,rfl,hq,l⟩:=JEg hx h1;obtain⟨b',o',ys,rfl,hq',l'⟩:=JEg hy h2;cases rx;cases ry;rw[<-g.K,<-g.W]at hq hq';obtain⟨s1,_,va,kva,da⟩:=SqDo.at I hq;obtain⟨s2,_,vb,kvb,db⟩:=SqDo.at I hq';have la:ka.length=va.length:=by rw[<-JBs kva,JB6 l]
    have lb:kb.length=vb.length:=by rw[<-JBs kvb,JB6 l']
    have hu:X.A.in1.units+64<cLine:=by
     have h1:=g.units;have h2:X.A.in1.units<=X.A.units+1:=by first|exact q_t _|(show X.A.units+1<=_;omega)|(simp[Around.in1])
     omega
    by_cases hl:ka.length=kb.length
    ·simp![if_pos hl]at k;cases hr:JCH kb ka with
     |ok t =>
      rw[hr]at k;refine .inr #[a',b',va,vb,t,rfl,rfl,s1,s2,da,db,λ_=>JJI g I hu l' kvb l kva hr,?_];have:(va.length==vb.length)=true:=by rw[beq_iff_eq];omega
      rw[this,Bool.true_and];exact k
     |exc c=>exact(JHy hr).elim
     |bad=>rw[hr]at k;exact k.elim
    ·simp![if_neg hl]at k;refine .inr #[a',b',va,vb,false,rfl,rfl,s1,s2,da,db,λe=>absurd ∅ hl,?_]
     rw[Bool.and_false];exact k
  · exact k.elim
 ·exact k.elim
def JOI(g:Gk X B C CX XX G)(op:CmpOp):OpR X (compareOp op) (λx y H Q=>∃dx dy,Den B H dx x/\Den B H dy y/\KE B XX (cmpD op dx dy) H Q):=by
 rintro zp s Y H x y v u Q I rx ry ⟨dx,dy,hx,hy,k⟩;cases op with
 |Eq =>
  rcases JMF (f:=λb=>.ok (.bool b)) g I rx ry hx hy k with ⟨as,bs,ra,rb,h1,h2,k⟩|⟨a',b',va,vb,t,rfl,rfl,s1,s2,da,db,hh,k2⟩
  ·exact SeqAt.compareEq_shaped ra rb h1 h2 (JIP g) #[.bl _,H,I,rfl,KE.ok k (by simp![Den])]
  ·exact PySem.W.keq_eq s1 s2 da db (by have:=g.units;omega) hh #[.bl _,H,I,rfl,KE.ok k2 (by simp![Den])]
 |NotEq =>
  rcases JMF (f:=λb=>.ok (.bool !b)) g I rx ry hx hy k with ⟨as,bs,ra,rb,h1,h2,k⟩|⟨a',b',va,vb,t,rfl,rfl,s1,s2,da,db,hh,k2⟩
  ·exact SeqAt.compareNe_shaped ra rb h1 h2 (JIP g) #[.bl _,H,I,rfl,KE.ok k (by simp![Den])]
  ·exact PySem.W.keq_ne s1 s2 da db (by have:=g.units;omega) hh #[.bl _,H,I,rfl,KE.ok k2 (by simp![Den])]
 |Lt =>
  cases dx<;>cases dy<;>first|exact fF k|skip
  rename_i i j;simp![Den]at hx hy;subst hx;subst hy;exact op_lt zp s Y H _ _ v u Q I rx ry #[i,j,rfl,rfl,KE.ok k (by simp![Den])]
 |LtE =>
  cases dx<;>cases dy<;>first|exact fF k|skip
  rename_i i j;simp![Den]at hx hy;subst hx;subst hy;exact op_le zp s Y H _ _ v u Q I rx ry #[i,j,rfl,rfl,KE.ok k (by simp![Den])]
 |Gt =>
  cases dx<;>cases dy<;>first|exact fF k|skip
  rename_i i j;simp![Den]at hx hy;subst hx;subst hy;exact op_gt zp s Y H _ _ v u Q I rx ry #[i,j,rfl,rfl,KE.ok k (by simp![Den])]
 |GtE =>
  cases dx<;>cases dy<;>first|exact fF k|skip
  rename_i i j;simp![Den]at hx hy;subst hx;subst hy;exact op_ge zp s Y H _ _ v u Q I rx ry #[i,j,rfl,rfl,KE.ok k (by simp![Den])]
 |Is=>exact fF k
 |IsNot=>exact fF k
 |In =>
  cases dy with
  |list ds =>
   simp![cmpD]at k
   split at k
   ·rename_i hs;simp![JCY,q_i,q_C]at hs;obtain⟨as,ra⟩:=Den.reads g.K I dx x v hs.1.2 hx rx;obtain⟨bs,rb⟩:=Den.reads g.K I (.list ds) y u (by simpa only[PyData.canLay0] using hs.1.1) hy ry
    have hu:=g.units;refine SeqAt.in_list_reads rb ra hs.1.1 hs.1.2 ?_ #[.bl _,H,I,rfl,KE.ok k (by simp![Den])]
    have:=Nat.min_le_right (PyData.depthAll ds) dx.depth;omega
   ·exact k.elim
  |tuple ds =>
   simp![cmpD]at k
   split at k
   ·rename_i hs;simp![JCY,q_i,q_C]at hs;obtain⟨as,ra⟩:=Den.reads g.K I dx x v hs.1.2 hx rx;obtain⟨bs,rb⟩:=Den.reads g.K I (.tuple ds) y u (by simpa only[PyData.canLay0] using hs.1.1) hy ry
    have hu:=g.units;refine SeqAt.in_tuple_reads rb ra hs.1.1 hs.1.2 ?_ #[.bl _,H,I,rfl,KE.ok k (by simp![Den])]
    have:=Nat.min_le_right (PyData.depthAll ds) dx.depth;omega
   ·exact k.elim
  |str j =>
   cases dx<;>first|exact fF k|skip
   simp![Den]at hx hy;subst hx;subst hy;exact JJ4 zp s Y H _ _ v u Q I rx ry #[_,_,rfl,rfl,KE.ok k (by simp![Den])]
  |dict kvs =>
   obtain⟨a',vs,kx,t,rfl,rfl,s1,dd,k2⟩:=JMO g I rx ry hx hy k;exact wpAny_in_of (JAY _ _ kx t) s1 dd.mapOf #[.bl _,H,I.tok _,rfl,KE.ok k2 (by simp![Den])]
  |_=>exact fF k
 |NotIn =>
  cases dy with
  |list ds =>
   simp![cmpD]at k
   split at k
   ·rename_i hs;simp![JCY,q_i,q_C]at hs;obtain⟨as,ra⟩:=Den.reads g.K I dx x v hs.1.2 hx rx;obtain⟨bs,rb⟩:=Den.reads g.K I (.list ds) y u (by simpa only[PyData.canLay0] using hs.1.1) hy ry
    have hu:=g.units;refine SeqAt.notIn_list_reads rb ra hs.1.1 hs.1.2 ?_ #[.bl _,H,I,rfl,KE.ok k (by simp![Den])]
    have:=Nat.min_le_right (PyData.depthAll ds) dx.depth;omega
   ·exact k.elim
  |tuple ds =>
   simp![cmpD]at k
   split at k
   ·rename_i hs;simp![JCY,q_i,q_C]at hs;obtain⟨as,ra⟩:=Den.reads g.K I dx x v hs.1.2 hx rx;obtain⟨bs,rb⟩:=Den.reads g.K I (.tuple ds) y u (by simpa only[PyData.canLay0] using hs.1.1) hy ry
    have hu:=g.units;refine SeqAt.notIn_tuple_reads rb ra hs.1.1 hs.1.2 ?_ #[.bl _,H,I,rfl,KE.ok k (by simp![Den])]
    have:=Nat.min_le_right (PyData.depthAll ds) dx.depth;omega
   ·exact k.elim
  |dict kvs =>
   obtain⟨a',vs,kx,t,rfl,rfl,s1,dd,k2⟩:=JMO g I rx ry hx hy k;exact wpAny_notIn_of (JAY _ _ kx t) s1 dd.mapOf #[.bl _,H,I.tok _,rfl,KE.ok k2 (by simp![Den])]
  |_=>exact fF k
end
def NewT(B:Bs)(H H2 H3:Hp)(d:D)(x:V):Prop:=∃p xs es,H2 p=none/\H3=upd H2 p (.tup xs)/\x=.ref p/\d=.tuple es/\DenL B H es xs
def ItOk(B:Bs)(J:It)(H:Hp)(ds:List D):Prop:=∀H2,Kpt H H2->∀i:Nat,
 (∀d,ds[i]? = some d->J.go i H2/\∀x H3,J.yld i H2 x H3->(H3=H2/\Den B H d x)\/NewT B H H2 H3 d x)/\(ds.length<=i->J.stop i H2)
def KI(B:Bs)(XX:Nat->Hp->Prop)(r:R (List D))(H:Hp)(Q:It->Hp->Prop):Prop:=match r with
 |.ok ds=>∀J H',Same H H'->ItOk B J H' ds->Q J H'
 |.exc c=>XX c H
 |.bad=>False
def RI(B:Bs)(C:Cn)(XX:Nat->Hp->Prop)(e:E):TI:=λY H Q=>∃U,Sok B Y H U/\KI B XX (evI C e U) H Q
def JL1{i c:Nat}:look U i≠.exc c:=by
 unfold look;cases U[i]? with
 |none=>intro h;cases h
 |some s=>cases s with
  |own d=>cases d<;>(intro h;cases h)
  |_=>intro h;cases h
theorem JD0:∀ {N:List Str}{x:Str}{i:Nat},idxOf x N=some i->N[i]? = some x
 | [],x,i,h=>by simp[idxOf]at h
 |y::r,x,i,h=>by
  unfold idxOf at h
  split at h
  ·rename_i hy;cases h;have:x=y:=eq_of_beq hy;subst this;rfl
  ·cases q:idxOf x r with
   |none=>rw[q]at h;cases h
   |some j =>
    rw[q]at h;simp![Option.map_some,q_j]at h;subst h;simpa using JD0 q
def JAq{H:Hp}{p:Addr}{o:HO}(h:H p=none):Same H (upd H p o):=λb u e=>by rw[JAI (JAd e h)];exact e
def JAx{n:Nat}{it:Bool}{e:Expr}(h:JAL G n it names N e=some x)(es:List Expr)(env:PySem.Env) :
  starEach (e::es) env=(false,eval e env)::starEach es env:=by
 cases n with
 |zero=>simp[JAL,JAr,JAW]at h
 |succ n=>cases e<;>first|rfl|(cases it<;>simp[JAL,JAr,JAW,xOf,Option.bind_none,ite_self,xRaw,mOf,mRaw]at h)
theorem JCc{n:Nat}{it:Bool}:∀ {es:List Expr}{x:E},JAM (JAL G n it names N) es=some x ->
  (backTo pos (starEach es env)).any (·.1)=false
 | [],_,_=>rfl
 |e::es,x,h=>by
  unfold JAM at h;cases h1:JAL G n it names N e with
  |none=>rw[h1]at h;cases h
  |some a =>
    rw[h1]at h;cases h2:JAM (JAL G n it names N) es with
    |none=>simp[h2]at h
    |some b =>
     rw[JAx h1 es env];show(false || (backTo pos (starEach es env)).any (·.1))=false
     rw[JCc h2];rfl
def JIj{b:Expr}(h:isSlice b=false):JJ5 b:=by
 intro o i;cases b<;>first|rfl|cases h
def JAE{x:Str}(h:JAT x=false):(x==("__debug__":Str))=false/\(x==("__classdict__":Str))=false/\x≠"__name__":=by
 unfold JAT at h;simp![Bool.or_eq_false_iff]at h;exact#[h.1.1,h.1.2,λe=>by have:=h.2;rw[e]at this;simp at this]
abbrev cnt:E->Nat
 |.cons _ r=>cnt r+1
 |_=>0
theorem JC1:∀(e:E) (U:Env) (ds:List D),evA C e U=.ok ds->ds.length=cnt e
 |.nil,U,ds,h=>by simp![evA]at h;cases h;rfl
 |.cons a r,U,ds,h=>by
  simp![evA]at h;cases q:ev C a U with
  |ok d =>
   cases q2:evA C r U with
   |ok es =>
    rw[q,q2]at h;cases h;simp![List.length_cons,cnt,JC1 r U es q2]
   |exc c=>rw[q,q2]at h;cases h
   |bad=>rw[q,q2]at h;cases h
  |exc c=>rw[q]at h;cases h
  |bad=>rw[q]at h;cases h
 |.var _,_,_,h|.cint _,_,_,h|.cbl _,_,_,h|.cnon,_,_,h|.cstr _,_,_,h|.glo _,_,_,h|.bin _ _ _,_,_,h|.neg _,_,_,h|.not _,_,_,h|.and _ _,_,_,h|.or _ _,_,_,h|.cmp _ _ _,_,_,h
 |.isN _ _,_,_,h|.ife _ _ _,_,_,h|.tup _,_,_,h|.lst _,_,_,h|.idx _ _,_,_,h|.call _ _,_,_,h|.blt _ _,_,_,h|.rng _,_,_,h|.isi _ _,_,_,h|.mcount _ _,_,_,h|.mindex _ _,_,_,h|.cmpr _ _ _ _,_,_,h=>by simp![evA]at h;cases h
theorem JAu:∀ {es:List Expr}{x:E},JAM f es=some x->cnt x=es.length
 | [],x,h=>by unfold JAM at h;cases h;rfl
 |e::es,x,h=>by
  unfold JAM at h;cases h1:f e with
  |none=>rw[h1]at h;cases h
  |some a =>
   cases h2:JAM f es with
   |none=>simp[h1,h2]at h
   |some b =>
    simp![h1,h2,Option.bind_some,q_j]at h;subst h;simp![cnt,List.length_cons,JAu h2]
section
variable{X:Cx}{B:Bs}{C:Cn}{CX:CXT}{XX:Nat->Hp->Prop}{G:Lz}{a b c:Expr}{x y z:E}{pos:Pos}
def s_bad{e:Expr}(h:∀U,ev C x U=.bad):PE X e (RE B C XX x):=λ_ _ _ _ _ _ ⟨U,_,k⟩=>by rw[h U]at k;exact k.elim
def t_bad{e:Expr}(h:∀U,evT C x U=.bad):PT X e (RT B C XX x):=λ_ _ _ _ _ _ ⟨U,_,k⟩=>by rw[h U]at k;exact k.elim
def s_var{i:Nat}(hN:X.N[i]? = some nm)(hv:Vis X.env.scope nm)(hb:JAT nm=false):PE X (.Name nm pos) (RE B C XX (.var i)) :=
 PE.imp (JFF hN hv (JAE hb).1 (JAE hb).2.1) λY H Q h_=>by
  obtain⟨U,ok,k⟩:=h_;simp![ev]at k;cases q:look U i with
  |ok d =>
   obtain⟨v,e,dn⟩:=ok i d q;rw[q]at k;exact#[v,e,KE.ok k dn]
  |exc c=>exact(JL1 q).elim
  |bad=>rw[q]at k;exact k.elim
def s_int{i:Int}{j:Nat}:PE X (.Constant (.int i) j pos) (RE B C XX (.cint i)):=PE.imp JRG λY H Q ⟨U,ok,k⟩=>KE.ok k (by simp![Den])
def s_bl{i:Bool}{j:Nat}:PE X (.Constant (.bool i) j pos) (RE B C XX (.cbl i)):=PE.imp pe_bl λY H Q ⟨U,ok,k⟩=>KE.ok k (by simp![Den])
def s_non{j:Nat}:PE X (.Constant .none j pos) (RE B C XX .cnon):=PE.imp JQ5 λY H Q ⟨U,ok,k⟩=>KE.ok k (by simp![Den])
def s_str{j:Nat}:PE X (.Constant (.str i) j pos) (RE B C XX (.cstr i)):=PE.imp JPz λY H Q ⟨U,ok,k⟩=>KE.ok k (by simp![Den])
def s_glo(g:Gk X B C CX XX G){i:Nat}(hg:Gl X nm)(hl:G.lookup nm=some (.con i))(hb:JAT nm=false):PE X (.Name nm pos) (RE B C XX (.glo i)):=by
 cases q:C.glo i with
 |ok d =>
  obtain⟨u,v,hm,r,dn⟩:=g.con nm i d hl q;exact PE.imp (JKU hg hm r (JAE hb).1) λY H Q h_=>by
   obtain⟨U,ok,k⟩:=h_;simp![ev]at k;rw[q]at k;exact KE.ok k (dn H)
 |exc c=>exact(g.noexg i c q).elim
 |bad=>exact s_bad λU=>by simp![ev];exact q
def JQF(g:Gk X B C CX XX G)(ha:PE X a (RE B C XX x))(hb:PE X b (RE B C XX y)):PE X (.BinOp a op b pos) (RE B C XX (.bin op x y)) :=
 PE.imp (pe_op (binOk g op) ha hb) λY H Q ⟨U,ok,k⟩=>two g (f:=binD op) (λx y H dx dy h1 h2 k=>#[dx,dy,h1,h2,k]) #[U,ok,by simpa only[ev] using k]
def JAg(g:Gk X B C CX XX G)(ha:PE X a (RE B C XX x))(hb:PE X b (RE B C XX y))(hm:behindInMarks op b=false):PE X (.Compare a [op] [b] pos) (RE B C XX (.cmp op x y)) :=
 PE.imp (JKF (JOI g op) ha hb hm) λY H Q ⟨U,ok,k⟩=>two g (f:=cmpD op) (λx y H dx dy h1 h2 k=>#[dx,dy,h1,h2,k]) #[U,ok,by simpa only[ev] using k]
def s_neg(g:Gk X B C CX XX G)(ha:PE X a (RE B C XX x)):PE X (.UnaryOp .USub a pos) (RE B C XX (.neg x)) :=
 PE.imp (pe_un JTD ha) λY H Q h_=>by
  obtain⟨U,ok,k⟩:=h_;simp![ev]at k;refine RE.of (W:=λr H=>KE B XX r H Q) ok (λ_ _ z=>z) (λ_ z=>z) k λd v H1 s1 d1 h1=>?_;have h2:=KE.mono g s1 h1;cases d<;>first|exact fF h2|skip
  rename_i i;simp![Den]at d1;exact#[i,d1,KE.ok h2 (by simp![Den])]
def truV{K:Kq}(hK:K=B.K){d:D}{v:V}{H:Hp}{k:Bool}(h:Den B H d v)(t:truth d=.ok k):TruV K v H k:=by
 subst hK;cases d with
 |none=>simp![Den]at h;subst h;simp![truth]at t;cases t;rfl
 |bool b=>simp![Den]at h;subst h;simp![truth]at t;cases t;rfl
 |int i=>simp![Den]at h;subst h;simp![truth]at t;cases t;rfl
 |str s =>
  simp![Den]at h;subst h;simp![truth]at t
  split at t
  ·rename_i hl;cases t;exact#[by rw[sizeLine_eq];exact hl,rfl]
  ·cases t
 |list ds =>
  simp![Den]at h;obtain⟨p,xs,e,q,l⟩:=h;subst e;simp![truth]at t;cases t;refine .inl #[xs,q,?_];have:=DenL.len ds xs l;cases ds<;>cases xs<;>simp_all
 |tuple ds =>
  simp![Den]at h;obtain⟨p,xs,e,q,l⟩:=h;subst e;simp![truth]at t;cases t;refine .inr (.inl #[xs,q,?_]);have:=DenL.len ds xs l;cases ds<;>cases xs<;>simp_all
 |dict kvs=>simp![truth]at t;cases t
def JFJ{d:D}{c:Nat}:truth d≠.exc c:=by
 cases d<;>simp![truth]<;>(try split)<;>(intro h;cases h)
def s_not(g:Gk X B C CX XX G)(ha:PE X a (RE B C XX x)):PE X (.UnaryOp .Not a pos) (RE B C XX (.not x)):=by
 rintro zp s Y H Q I ⟨U,ok,k⟩;refine UnaryOp_ (thn (ha zp s Y H (λv H1=>∃t,TruV X.K v H1 t/\Q (.bl (!t)) H1) I ?_) λv s1 ⟨w,H1,I1,r1,t,tv,q⟩=>?_)
 ·refine#[U,ok,?_];simp![ev]at k;cases q:ev C x U with
  |ok d =>
   rw[q]at k;cases q2:truth d with
   |ok t =>
    simp![R.bind,q2]at k;exact λv H1 s1 d1=>#[t,truV g.K d1 q2,k _ H1 s1 (by simp![Den])]
   |exc c=>exact(JFJ q2).elim
   |bad=>simp![R.bind,q2]at k;exact k.elim
  |exc c=>rw[q]at k;exact k
  |bad=>rw[q]at k;exact k.elim
 ·exact not_of (thn (JMy zp s1 Y H1 w v (λb H=>b=t/\H=H1) I1 r1 #[t,tv,rfl,rfl]) λb s2 ⟨H2,I2,e1,e2⟩=>by subst e1;subst e2;exact#[.bl (!b),H2,I2,rfl,q])
def s_and(g:Gk X B C CX XX G){rest:List Expr}(ha:PE X a (RE B C XX x))(hb:PE X (.BoolOp .And (b::rest) pos) (RE B C XX y)):PE X (.BoolOp .And (a::b::rest) pos) (RE B C XX (.and x y)) :=
 PE.imp (JPk ha hb) λY H Q h_=>by
  obtain⟨U,ok,k⟩:=h_;simp![ev]at k;refine RE.of (W:=λr H=>KE B XX r H Q) ok (λ_ _ z=>z) (λ_ z=>z) k λd v H1 s1 d1 h1=>?_;cases d<;>first|exact fF h1|skip
  rename_i t;simp![Den]at d1;refine#[t,d1,?_];cases t with
  |true=>exact iteT #[U,ok.mono s1,KE.mono g s1 h1]
  |false=>exact iteF (KE.ok (KE.mono g s1 h1) (by simp![Den]))
def s_or(g:Gk X B C CX XX G){rest:List Expr}(ha:PE X a (RE B C XX x))(hb:PE X (.BoolOp .Or (b::rest) pos) (RE B C XX y)):PE X (.BoolOp .Or (a::b::rest) pos) (RE B C XX (.or x y)) :=
 PE.imp (pe_or ha hb) λY H Q h_=>by
  obtain⟨U,ok,k⟩:=h_;simp![ev]at k;refine RE.of (W:=λr H=>KE B XX r H Q) ok (λ_ _ z=>z) (λ_ z=>z) k λd v H1 s1 d1 h1=>?_;cases d<;>first|exact fF h1|skip
  rename_i t;simp![Den]at d1;refine#[t,d1,?_];cases t with
  |true=>exact iteT (KE.ok (KE.mono g s1 h1) (by simp![Den]))
  |false=>exact iteF #[U,ok.mono s1,KE.mono g s1 h1]
def JDR{d:D}(h:Den B H d v):decide (v=.non)=isNone d:=by
 cases d with
 |none=>simp![Den]at h;subst h;rfl
 |bool _=>simp![Den]at h;subst h;rfl
 |int _=>simp![Den]at h;subst h;rfl
 |str _=>simp![Den]at h;subst h;rfl
 |list _=>simp![Den]at h;obtain⟨p,xs,e,_⟩:=h;subst e;rfl
 |tuple _=>simp![Den]at h;obtain⟨p,xs,e,_⟩:=h;subst e;rfl
 |dict _ =>
  simp![Den]at h;rcases h with ⟨p,xs,e,_⟩|⟨p,xs,e,_⟩|⟨p,xs,e,_⟩
  ·subst e;rfl
  ·subst e;rfl
  ·subst e;rfl
def s_isN(g:Gk X B C CX XX G){j:Nat}(ha:PE X a (RE B C XX x)):PE X (.Compare a [.Is] [.Constant .none j pos'] pos) (RE B C XX (.isN x false)) :=
 PE.imp (JMi (JMm ha)) λY H Q h_=>by
  obtain⟨U,ok,k⟩:=h_;simp![ev]at k;refine RE.of (W:=λr H=>KE B XX r H Q) ok (λ_ _ z=>z) (λ_ z=>z) k λd v H1 s1 d1 h1=>?_;rw[JDR d1];exact KE.ok (KE.mono g s1 h1) (by simp[Den])
def JOQ(g:Gk X B C CX XX G){j:Nat}(ha:PE X a (RE B C XX x)):PE X (.Compare a [.IsNot] [.Constant .none j pos'] pos) (RE B C XX (.isN x true)) :=
 PE.imp (JMi (JIZ ha)) λY H Q h_=>by
  obtain⟨U,ok,k⟩:=h_;simp![ev]at k;refine RE.of (W:=λr H=>KE B XX r H Q) ok (λ_ _ z=>z) (λ_ z=>z) k λd v H1 s1 d1 h1=>?_;rw[JDR d1];exact KE.ok (KE.mono g s1 h1) (by simp[Den])
def s_ife(g:Gk X B C CX XX G)(hc:PT X c (RT B C XX z))(ha:PE X a (RE B C XX x))(hb:PE X b (RE B C XX y)):PE X (.IfExp c a b pos) (RE B C XX (.ife z x y)) :=
 PE.imp (JHY hc ha hb) λY H Q h_=>by
  obtain⟨U,ok,k⟩:=h_;simp![ev]at k;refine RT.of (W:=λr H=>KE B XX r H Q) ok (λ_ _ z=>z) (λ_ z=>z) k λt H1 s1 h1=>?_;cases t with
  |true=>exact iteT #[U,ok.mono s1,KE.mono g s1 h1]
  |false=>exact iteF #[U,ok.mono s1,KE.mono g s1 h1]
def a_nil:PA X [] (RA B C XX .nil):=PA.imp JBQ λY H Q ⟨U,ok,k⟩=>k [] H (Same.refl H) (by simp![DenL])
def JP5(g:Gk X B C CX XX G)(ha:PE X a (RE B C XX x))(hr:PA X es (RA B C XX y))(hs:starEach (a::es) X.env=(false,eval a X.env)::starEach es X.env):PA X (a::es) (RA B C XX (.cons x y)) :=
 PA.imp (JAz ha hr hs) λY H Q h_=>by
  obtain⟨U,ok,k⟩:=h_;simp![evA]at k;refine RE.of (W:=λr H=>KL B XX r H Q) ok (λ_ _ z=>z) (λ_ z=>z) k λd v H1 s1 d1 h1=>?_;refine RA.of (W:=λr H=>KL B XX r H Q) (ok.mono s1) (λ_ _ z=>z) (λ_ z=>z) (KL.mono g s1 h1) λds vs H2 s2 d2 h2=>?_;exact h2 (v::vs) H2 s2 (by simp![DenL];exact#[v,vs,rfl,Den.mono s2 d v d1,d2])
def s_tup(g:Gk X B C CX XX G){k2:Nat}(h:PA X es (RA B C XX x))(hl:cnt x<=1000):PE X (.Tuple es k2 pos) (RE B C XX (.tup x)) :=
 PE.imp (JMD h) λY H Q h_=>by
  obtain⟨U,ok,k⟩:=h_;simp![ev]at k;cases q:evA C x U with
  |ok ds =>
   rw[q]at k;refine#[U,ok,?_];rw[q];intro vs H1 s1 d1;have e1:=DenL.len ds vs d1;have e2:=JC1 x U ds q;refine#[by rw[sizeLine_eq];omega,λp hp=>k _ _ (s1.trans (JAq hp)) ?_]
   simp![Den];exact#[p,vs,rfl,SqT.of JAF,DenL.mono (JAq hp) ds vs d1]
  |exc c=>rw[q]at k;exact#[U,ok,by rw[q];exact k]
  |bad=>rw[q]at k;exact k.elim
def s_lst(g:Gk X B C CX XX G)(h:PA X es (RA B C XX x))(hl:cnt x<=1000):PE X (.List es pos) (RE B C XX (.lst x)) :=
 PE.imp (JJk h) λY H Q h_=>by
  obtain⟨U,ok,k⟩:=h_;simp![ev]at k;cases q:evA C x U with
  |ok ds =>
   rw[q]at k;refine#[U,ok,?_];rw[q];intro vs H1 s1 d1;have e1:=DenL.len ds vs d1;have e2:=JC1 x U ds q;refine#[by rw[sizeLine_eq];omega,λp hp=>k _ _ (s1.trans (JAq hp)) ?_]
   simp![Den];exact#[p,vs,rfl,SqL.of JAF,DenL.mono (JAq hp) ds vs d1]
  |exc c=>rw[q]at k;exact#[U,ok,by rw[q];exact k]
  |bad=>rw[q]at k;exact k.elim
def JJw{H:Hp}{ds:List D}{vs:List V}{i:Int}{d:D}(h:DenL B H ds vs)(e:VI.atI ds i=some d):∃v,L2.atI vs i=some v/\Den B H d v:=by
 have hl:=DenL.len ds vs h;unfold VI.atI at e;cases q:VI.ixN ds.length i with
 |none=>rw[q]at e;cases e
 |some j =>
  rw[q]at e;obtain⟨v,e1,dn⟩:=DenL.get ds vs j d h e;refine#[v,?_,dn];unfold L2.atI;have q':L2.ixN vs.length i=some j:=by rw[<-hl];exact q
  rw[q'];exact e1
def JO8:IxR X (λx y H Q=>∃p xs k v,x=.ref p/\y=.str k/\SqD X.K X.w H p xs/\((xs.find? λp=>p.1=Sum.inr k).map (·.2))=some v/\Q v H):=by
 intro value slice zp s Y H x y v u Q I rx ry h hs;obtain⟨p,xs,k,z,rfl,rfl,hq,he,q⟩:=h;cases rx;obtain⟨t,rfl⟩:=ry;obtain⟨hsys,vs,kv,dd⟩:=SqD.at I hq;obtain⟨u,g1,g2⟩:=(JBc kv).1 z he;exact subscriptTail_builtinR (x:=u) dd.typeIs slot_dict_getitem.lookup (wpAny_getItem_of (Q:=λr s'=>r=u/\EP X zp Y Q r s') (JAY _ _ k t) dd.mapOf g1 #[rfl,z,H,I.tok _,g2,q]) hs
def idxOk(g:Gk X B C CX XX G):IxR X (λv u H Q=>∃dx dy,Den B H dx v/\Den B H dy u/\KE B XX (idxD dx dy) H Q):=by
 rintro value slice zp s Y H v u w t Q I rx ry ⟨dx,dy,hx,hy,k⟩ hs;refine(ix_seq.or JO8) value slice zp s Y H v u w t Q I rx ry ?_ hs;cases dx with
 |list ds =>
  cases dy<;>first|exact fF k|skip
  rename_i i;simp![Den]at hx hy;obtain⟨p,xs,e,q,l⟩:=hx;simp![idxD]at k;cases qa:VI.atI ds i with
  |none=>rw[qa]at k;exact k.elim
  |some d =>
   rw[qa]at k;obtain⟨z,e2,dn⟩:=JJw l qa;exact .inl (.inl #[p,xs,i,z,e,hy,g.K▸q,e2,KE.ok k dn])
 |tuple ds =>
  cases dy<;>first|exact fF k|skip
  rename_i i;simp![Den]at hx hy;obtain⟨p,xs,e,q,l⟩:=hx;simp![idxD]at k;cases qa:VI.atI ds i with
  |none=>rw[qa]at k;exact k.elim
  |some d =>
   rw[qa]at k;obtain⟨z,e2,dn⟩:=JJw l qa;exact .inl (.inr (.inl #[p,xs,i,z,e,hy,g.K▸q,e2,KE.ok k dn]))
 |dict kvs =>
  cases dy<;>first|exact fF k|skip
  rename_i y;simp![Den]at hx hy;simp![idxD]at k;rcases hx with ⟨p,c,e1,e2,_⟩|⟨p,xs,e1,e2,e3⟩|⟨p,c,e1,e2,_⟩
  ·subst e2;exact fF k
  rotate_left 1
  ·subst e2;exact fF k
  ·cases qg:getK kvs y with
   |ok d =>
    rw[qg]at k;obtain⟨z,f1,f2⟩:=JCb e3 qg;exact .inr #[p,xs,y,z,e1,hy,by rw[g.K,g.W];exact e2,f1,KE.ok k f2]
   |exc c=>exact(JDV qg).elim
   |bad=>rw[qg]at k;exact k.elim
 |str z =>
  cases dy<;>first|exact fF k|skip
  rename_i i;simp![Den]at hx hy;simp![idxD]at k
  split at k
  ·rename_i hz;cases qa:VI.atI z.cps.toList i with
   |none=>rw[qa]at k;exact k.elim
   |some c =>
    rw[qa]at k;exact .inl (.inr (.inr #[z,i,c,hx,hy,by rw[sizeLine_eq];exact Nat.le_trans hz (by decide),qa,k _ _ (Same.refl H) (by simp![Den])]))
  ·exact k.elim
 |_=>exact fF k
def s_idx(g:Gk X B C CX XX G)(ha:PE X a (RE B C XX x))(hb:PE X b (RE B C XX y))(hs:isSlice b=false):PE X (.Subscript a b pos) (RE B C XX (.idx x y)) :=
 PE.imp (JRT (idxOk g) ha hb (JIj hs)) λY H Q ⟨U,ok,k⟩=>two g (f:=idxD) (λx y H dx dy h1 h2 k=>#[dx,dy,h1,h2,k]) #[U,ok,by simpa only[ev] using k]
def JGZ(g:Gk X B C CX XX G){n:Nat}{Q:VK}(hn:fn ds≠.bad->ds.length=n)(dn:DenL B H ds vs)(k:KE B XX (fn ds) H Q):JBR B n fn vs H Q (EX B XX):=by
 have hb:fn ds≠.bad:=λz=>by rw[z]at k;exact k
 refine#[by rw[<-DenL.len ds vs dn];exact hn hb,ds,dn,?_]
 cases q:fn ds with
 |ok d=>rw[q]at k;exact k
 |exc c=>rw[q]at k;exact λH' s'=>#[c,rfl,g.anti c H H' s' k]
 |bad=>exact(hb q).elim
end
section
variable{X:Cx}{B:Bs}{C:Cn}{CX:CXT}{XX:Nat->Hp->Prop}{G:Lz}{a b c:Expr}{x y z:E}{pos p:Pos}
def s_call(g:Gk X B C CX XX G){i:Nat}{e:Expr}(hg:Gl X nm)(hl:G.lookup nm=some (.fn i))(hb:JAT nm=false)(ha:PA X (e::r) (RA B C XX x))
  (he:starEach (e::r) X.env=(false,eval e X.env)::starEach r X.env) (hpl:(backTo pos (starEach (e::r) X.env)).any (·.1)=false):PE X (.Call (.Name nm p) (e::r) [] pos) (RE B C XX (.call i x)):=by
 obtain⟨f,fd,ps,k,hm,hk,F,hr,hbi,hn⟩:=g.fn nm i hl;refine PE.imp (JKQ F hr hg hm hk hbi .nil g.pas ha (JAE hb).1 he ?_) ?_
 ·rw[he]at hpl;exact hpl
 ·rintro Y H Q ⟨U,ok,kk⟩;simp![ev]at kk;refine RA.of (W:=λr H=>KE B XX r H Q) ok (λ_ _ z=>z) (λ_ z=>z) kk λds vs H1 s1 d1 h1=>?_;show JBR B ps.length (C.fn i) (vs++[]) H1 Q (EX B XX);rw[List.append_nil];exact JGZ g (hn ds) d1 (KE.mono g s1 h1)
def JIR(g:Gk X B C CX XX G):JCE X (.builtin "len") (λvs H Q=>∃ds,DenL B H ds vs/\KE B XX (bltD .len ds) H Q):=by
 rintro zp s Y H vs us Q I r ⟨ds,dn,k⟩
 match ds,dn,k with
 | [.str x],dn,k =>
  simp![DenL,Den]at dn;obtain⟨v,r',e,e1,e2⟩:=dn;subst e2;subst e;subst e1;simp![bltD]at k
  split at k
  ·rename_i hl;exact JFs zp s Y H _ us Q I r #[x,rfl,by rw[sizeLine_eq];exact hl,KE.ok k (by simp![Den])]
  ·exact k.elim
 | [.list ys],dn,k =>
  simp![DenL,Den]at dn;obtain⟨v,r',e,⟨a,xs,e1,q,l⟩,e2⟩:=dn;subst e2;subst e;subst e1;exact JEy zp s Y H _ us Q I r #[_,xs.length,rfl,.inl #[xs,g.K▸q,rfl],by rw[<-DenL.len ys xs l];exact KE.ok k (by simp![Den])]
 | [.tuple ys],dn,k =>
  simp![DenL,Den]at dn;obtain⟨v,r',e,⟨a,xs,e1,q,l⟩,e2⟩:=dn;subst e2;subst e;subst e1;exact JEy zp s Y H _ us Q I r #[_,xs.length,rfl,.inr #[xs,g.K▸q,rfl],by rw[<-DenL.len ys xs l];exact KE.ok k (by simp![Den])]
 | [],_,k=>exact fF k
 | [.none],_,k=>exact fF k
 | [.bool _],_,k=>exact fF k
 | [.int _],_,k=>exact fF k
 | [.dict _],_,k=>exact fF k
 |d::_::_,_,k=>cases d<;>exact fF k
def JJv(g:Gk X B C CX XX G):JCE X (.builtin "abs") (λvs H Q=>∃ds,DenL B H ds vs/\KE B XX (bltD .abs ds) H Q):=by
 rintro zp s Y H vs us Q I r ⟨ds,dn,k⟩;refine JL2 zp s Y H vs us Q I r ?_
 match ds,dn,k with
 | [.int i],dn,k =>
  simp![DenL,Den]at dn;obtain⟨v,r',e,e1,e2⟩:=dn;subst e2;subst e;subst e1;exact#[i,rfl,KE.ok k (by simp![Den])]
 | [],_,k=>exact fF k
 | [.none],_,k=>exact fF k
 | [.bool _],_,k=>exact fF k
 | [.list _],_,k=>exact fF k
 | [.tuple _],_,k=>exact fF k
 | [.str _],_,k=>exact fF k
 | [.dict _],_,k=>exact fF k
 |d::_::_,_,k=>cases d<;>exact fF k
def JPE(g:Gk X B C CX XX G){bl:Blt}{id:String}{nm:Str}{e:Expr}{r:List Expr}(hc:JCE X (.builtin id) (λvs H Q=>∃ds,DenL B H ds vs/\KE B XX (bltD bl ds) H Q))(hv:bootBuiltins nm=some (.builtin id))
  (hg:Gl X nm) (hl:G.lookup nm=some (.blt bl)) (hb:JAT nm=false) (ha:PA X (e::r) (RA B C XX x))
  (he:starEach (e::r) X.env=(false,eval e X.env)::starEach r X.env) (hpl:(backTo pos (starEach (e::r) X.env)).any (·.1)=false):PE X (.Call (.Name nm p) (e::r) [] pos) (RE B C XX (.blt bl x)):=by
 refine PE.imp (JCV hc hg (g.blt nm bl hl) hv ha (JAE hb).2.2 (JAE hb).1 he ?_) ?_
 ·rw[he]at hpl;exact hpl
 ·rintro Y H Q ⟨U,ok,kk⟩;simp![ev]at kk;refine RA.of (W:=λr H=>KE B XX r H Q) ok (λ_ _ z=>z) (λ_ z=>z) kk λds vs H1 s1 d1 h1=>?_;exact#[ds,d1,KE.mono g s1 h1]
def JI2(g:Gk X B C CX XX G)(ha:PE X a (RE B C XX x))(he:∀whole,isTrue a X.env whole=(do let v<-whole;standAt a.pos;holding [v] (truthy v)))(ht:∀U,evT C x U=(ev C x U).bind truth):PT X a (RT B C XX x) :=
 PT.imp (JLd ha he) λY H Q h_=>by
  obtain⟨U,ok,k⟩:=h_;rw[ht]at k;refine RE.of (W:=λr H=>KB XX r H Q) ok (λ_ _ z=>z) (λ_ z=>z) k λd v H1 s1 d1 h1=>?_;cases q:truth d with
  |ok t=>rw[q]at h1;exact#[t,truV g.K d1 q,h1 H1 s1]
  |exc c=>exact(JFJ q).elim
  |bad=>rw[q]at h1;exact h1.elim
def JMB(op:CmpOp)(h:PT X (.Compare a [op] [b] pos) (JRz t))(ht:∀Y H Q,RE B C XX x Y H Q->t Y H Q)(hb:∀U,evT C x U=(ev C x U).bind truth)(hbool:∀U d,ev C x U=.ok d->∃k,d=.bool k):PT X (.Compare a [op] [b] pos) (RT B C XX x) :=
 PT.imp h λY H Q h_=>by
  obtain⟨U,ok,k⟩:=h_;refine ht Y H _ #[U,ok,?_];rw[hb]at k;cases q:ev C x U with
  |ok d =>
   rw[q]at k;obtain⟨t',rfl⟩:=hbool U d q;intro v H1 s1 d1;simp![Den]at d1;exact#[t',d1,k H1 s1]
  |exc c=>rw[q]at k;exact k
  |bad=>rw[q]at k;exact k.elim
def JK4(g:Gk X B C CX XX G)(ha:PT X a (RT B C XX x)):PT X (.UnaryOp .Not a pos) (RT B C XX (.not x)) :=
 PT.imp (JRH ha) λY H Q h_=>by
  obtain⟨U,ok,k⟩:=h_;simp![evT]at k;exact RT.of (W:=λr H=>KB XX r H Q) ok (λ_ _ z=>z) (λ_ z=>z) k λt H1 s1 h1=>h1 H1 s1
def w_and(g:Gk X B C CX XX G){rest:List Expr}(ha:PT X a (RT B C XX x))(hb:PW X (.BoolOp .And (b::rest) pos) (RT B C XX y)):PW X (.BoolOp .And (a::b::rest) pos) (RT B C XX (.and x y)) :=
 λwh zp s Y H Q I ⟨U,ok,k⟩=>JSw ha hb wh zp s Y H Q I (by
  simp![evT]at k;refine RT.of (W:=λr H=>KB XX r H Q) ok (λ_ _ z=>z) (λ_ z=>z) k λt H1 s1 h1=>?_;cases t with
  |true=>exact iteT #[U,ok.mono s1,KB.mono g s1 h1]
  |false=>exact iteF (h1 H1 s1))
def w_or(g:Gk X B C CX XX G){rest:List Expr}(ha:PT X a (RT B C XX x))(hb:PW X (.BoolOp .Or (b::rest) pos) (RT B C XX y)):PW X (.BoolOp .Or (a::b::rest) pos) (RT B C XX (.or x y)) :=
 λwh zp s Y H Q I ⟨U,ok,k⟩=>JRc ha hb wh zp s Y H Q I (by
  simp![evT]at k;refine RT.of (W:=λr H=>KB XX r H Q) ok (λ_ _ z=>z) (λ_ z=>z) k λt H1 s1 h1=>?_;cases t with
  |true=>exact iteT (h1 H1 s1)
  |false=>exact iteF #[U,ok.mono s1,KB.mono g s1 h1])
end
def JEI{prog:Program}{w:World}{A:Around}{R:Result->Shared->Prop}{s:Shared}{elt target iter:Expr}{ifs:List Expr}{scope:Scope}{pos:Pos}{it acc:Value}{env:PySem.Env}(I:Nat->Shared->Prop)
  (turn:∀n s,I n s->wpAny (model prog w) A (pyNext it) (λr s₁=>match r with
    |none=>R (.ok .next) s₁
    |some v=>wpAny (model prog w) A (letOwnedTupleGo target it v) (λ_ s₁'=>wpAny (model prog w) A (assign target env v) (λ_ s₂ =>
     wpAny (model prog w) A (forIn ifs true λc r=>if r=true then do let ok<-isTrue c env (eval c env);pure (ForInStep.yield ok) else pure (ForInStep.yield r)) (λok s₃ =>
      if ok=true then wpAny (model prog w) A (eval elt env) (λx s₄ =>
       wpAny (model prog w) A (call (.builtin "list.append") [acc,x]) (λ_ s₅=>∃m,m<n/\I m s₅) (notedBy (model prog w) A env λe s'=>R (.error e) s') s₄) (notedBy (model prog w) A env λe s'=>R (.error e) s') s₃
      else ∃m,m<n/\I m s₃) (notedBy (model prog w) A env λe s'=>R (.error e) s') s₂) (notedBy (model prog w) A env λe s'=>R (.error e) s') s₁') (notedBy (model prog w) A env λe s'=>R (.error e) s') s₁) (notedBy (model prog w) A env λe s'=>R (.error e) s') s)
  (n:Nat) (h:I n s) :
  codeAny (model prog w) A (.compLoop (.ListComp elt [#[target,iter,ifs,0]] scope pos) 0 it acc env) R s:=by
 refine codeAny_loop rfl I (λn s hI=>?_) n h;show wpAny _ A ((compTurn (.ListComp elt [#[target,iter,ifs,0]] scope pos) 0 it acc env).onRaise (λx=>do noteFrame x env;theTreesLotGoes x)) _ _ s
 refine wpAny_noted ?_;rw[compTurn_list];refine q_b (wpAny_standAt (q_b (wpAny_mono (turn n s hI) (λr s₁ h₁=>?_) λ_ _ h'=>h')));cases r with
 |none=>exact q_e h₁
 |some v =>
  refine q_b (wpAny_mono h₁ (λ_ s₁' h₁'=>?_) λ_ _ h'=>h');refine q_b (wpAny_mono h₁' (λ_ s₂ h₂=>q_b (wpAny_mono h₂ (λok s₃ h₃=>?_) λ_ _ h'=>h')) λ_ _ h'=>h');cases ok with
  |false=>exact q_e #[rfl,h₃]
  |true =>
    exact q_b (q_b (wpAny_mono h₃ (λx s₄ h₄=>q_b (wpAny_mono h₄ (λ_ s₅ h₅=>q_e (q_e #[rfl,h₅])) λ_ _ h'=>h')) λ_ _ h'=>h'))
abbrev JA3(X:Cx)(sc:Scope)(Cc:Addr)(N':List Str)(fp:List Addr)(s:Shared)(H:Hp):Cx where
 prog:=X.prog
 w:=X.w
 K:=X.K
 mg:=X.mg
 base:=X.base
 A:=X.A
 N:=N'
 s₀:=s
 H₀:=H
 env:=compEnvC sc (JA5 X.env.cells sc.names []) Cc X.env
 outer:=X.stack
 stack:=X.stack
 ex:=fp
 fn:=λ_=>false
 calm:=true
 pn:=[]
 xe:=λ_ _=>False
def JBB{X:Cx}{sc:Scope}{Cc:Addr}(hk:X.env.scope.kind=.function):(compEnvC sc (JA5 X.env.cells sc.names []) Cc X.env).scope.names=JA0 X.env.scope.names sc.names:=by
 show(sc.names.map λ(x:Str×NameKind)=>match x with|(n,k)=>if (k==NameKind.free&&X.env.scope.kind==ScopeKind.function&&X.env.kindOf n==some NameKind.cell)=true then (n,NameKind.cell) else (n,k))=_
 have:(X.env.scope.kind==ScopeKind.function)=true:=by rw[hk];rfl
 simp![this];rfl
theorem JCQ:∀ {names:Nq}{x:Str},names.lookup x=some .local->(JA0 outer names).lookup x=some .local
 | [],x,h=>by simp at h
 |(n,k)::r,x,h=>by
  unfold JA0;rw[List.map_cons];rw[List.lookup_cons]at h;cases q:x==n with
  |true =>
    rw[q]at h;cases h;show List.lookup x ((if (NameKind.local==NameKind.free&&true&&outer.lookup n==some NameKind.cell)=true then (n,NameKind.cell) else (n,NameKind.local))::_)=_;rw[if_neg (by simp),List.lookup_cons,q]
  |false =>
    rw[q]at h;have e:∀kk,List.lookup x ((n,kk)::JA0 outer r)=List.lookup x (JA0 outer r):=λkk=>by rw[List.lookup_cons,q]
    show List.lookup x ((if (k==NameKind.free&&true&&outer.lookup n==some NameKind.cell)=true then (n,NameKind.cell) else (n,k))::JA0 outer r)=_
    split
    ·rw[e];exact JCQ h
    ·rw[e];exact JCQ h
theorem JBY:∀ {names:Nq}{x:Str},(∀y∈names,y.2≠.cell)->(JA0 outer names).lookup x=some .cell\/(JA0 outer names).lookup x=some .free->(x,NameKind.free)∈names
 | [],x,_,h=>by simp[JA0]at h
 |(n,k)::r,x,hc,h=>by
  have hc':∀y∈r,y.2≠.cell:=λy hy=>hc y (q_s _ hy);have hk:k≠.cell:=hc (n,k) List.mem_cons_self;have e0:JA0 outer ((n,k)::r)=(if (k==NameKind.free&&true&&outer.lookup n==some NameKind.cell)=true then (n,NameKind.cell) else (n,k))::JA0 outer r:=rfl;rw[e0]at h;cases q:x==n with
  |true =>
    have e:x=n:=eq_of_beq q;subst e
    by_cases hf:k=.free
    ·subst hf;exact List.mem_cons_self
    ·rw[if_neg (by simp[hf]),List.lookup_cons,q]at h
     rcases h with h|h
     ·exact absurd (Option.some.inj h) hk
     ·exact absurd (Option.some.inj h) hf
  |false =>
    have e:∀kk,List.lookup x ((n,kk)::JA0 outer r)=List.lookup x (JA0 outer r):=λkk=>by rw[List.lookup_cons,q]
    have h':List.lookup x (JA0 outer r)=some .cell\/List.lookup x (JA0 outer r)=some .free:=by
     split at h
     ·rw[e]at h;exact h
     ·rw[e]at h;exact h
    exact q_s _ (JBY hc' h')
section
variable{X:Cx}{B:Bs}{C:Cn}{CX:CXT}{G:Lz}{zp:Pq}{Y:St}{H:Hp}{s:Shared}{sc:Scope}{fp:List Addr}{N':List Str}{Cc:Addr}
structure BlkOk(X:Cx)(sc:Scope)(xs:List Str):Prop where
 kind:sc.kind=.function
 nocell:∀y∈sc.names,y.2≠.cell
 loc:∀y∈sc.names,y.2=.local->sc.names.lookup y.1=some .local
 free:∀n,(n,NameKind.free)∈sc.names->X.env.kindOf n=some .cell\/X.env.kindOf n=some .free
 tg:∀x∈xs,sc.names.lookup x=some .local
 out:∀y∈X.N,y ∉ xs->sc.names.lookup y≠some .local
 dots:∀i,i<X.N.length->Vis (compEnvC sc (JA5 X.env.cells sc.names []) 0 X.env).scope (dots i)->False
 nd:(xs++mask xs 0 X.N).Nodup
def vis_same{Cc C':Addr}:Vis (compEnvC sc (JA5 X.env.cells sc.names []) Cc X.env).scope x↔Vis (compEnvC sc (JA5 X.env.cells sc.names []) C' X.env).scope x:=Iff.rfl
def BlkOk.clos{xs:List Str}(b:BlkOk X sc xs)(ok:X.Ok):closureFor sc X.env=pure (JA5 X.env.cells sc.names []) :=
 JCk λn hn=>by
  obtain⟨c,hc⟩:=ok.has n (b.free n hn);rw[hc];rfl
def JBS{xs:List Str}(b:BlkOk X sc xs)(ok:X.Ok){x:Str}{c:Addr}:(JA5 X.env.cells sc.names []).lookup x=some c↔(x,NameKind.free)∈sc.names/\X.env.cells.lookup x=some c:=by
 rw[JBT]
 by_cases h:(x,NameKind.free)∈sc.names
 ·rw[if_pos h];obtain⟨d,hd⟩:=ok.has x (b.free x h);rw[hd];simp[h]
 ·rw[if_neg h];simp[h]
def JOF{xs:List Str}(b:BlkOk X sc xs)(hcalm:X.calm=true)(I:Inv X zp Y H s)(hf:∀b∈fp,FpOk X zp H b)(hlt:∀b∈fp,b<s.heap.objs.size)(hC:s.heap.objs.size<=Cc):(JA3 X sc Cc N' fp s H).Ok where
 mod:=I.mod
 kind:=b.kind
 glob:=I.ok.glob
 blt:=I.ok.blt
 above:=hC
 inj:=λx y c h1 h2=>I.ok.inj x y c ((JBS b I.ok).mp h1).2 ((JBS b I.ok).mp h2).2
 has:=λx h=>by
  have e:=JBB (X:=X) (sc:=sc) (Cc:=Cc) I.ok.kind;have h':(JA0 X.env.scope.names sc.names).lookup x=some .cell\/(JA0 X.env.scope.names sc.names).lookup x=some .free:=by
   rw[<-e];exact h
  have hm:=JBY b.nocell h';obtain⟨c,hc⟩:=I.ok.has x (b.free x hm);exact#[c,(JBS b I.ok).mpr #[hm,hc]]
 cab:=λ_ _ z=>by cases z
 hd:=λ_=>I.ok.hd hcalm
 frames:=I.ok.frames
 stk:=.inl rfl
 exf:=λa ha=>#[q_l (q_m (hlt a ha) hC),λx c e=>(hf a ha).2.2.2.2.1 x c ((JBS b I.ok).mp e).2]
 bs:=I.bs
 bsz:=Nat.le_trans I.ok.bsz I.sz
 noex:=λa o e ha=>by
  rcases(hf a ha).2.2.2.1 with z|z
  ·exact I.ok.noex a o e z
  ·exact absurd (q_m (q_h e) (Nat.le_trans I.ok.bsz z)) (Nat.lt_irrefl _)
 exfs:=λa ha hm=>by
  rcases q_n.mp (I.stkSub a hm) with z|z
  ·exact(hf a ha).2.1 z
  ·exact(hf a ha).2.2.1 z
 funs:=I.stack
 frf:=I.stkFree
theorem JG2:∀(N:List Str) (i j:Nat) (y:Str),(mask xs i N)[j]? = some y->∃z,N[j]? = some z/\((z ∉ xs/\y=z)\/(z∈xs/\y=dots (i+j)))
 | [],_,_,_,h=>by simp[mask]at h
 |z::r,i,0,y,h=>by
  unfold mask at h;simp![List.getElem?_cons_zero,q_j]at h;refine#[z,rfl,?_]
  split at h
  ·rename_i hc;exact .inr #[by simpa using hc,h.symm]
  ·rename_i hc;exact .inl #[by simpa using hc,h.symm]
 |z::r,i,j+1,y,h=>by
  unfold mask at h;simp![List.getElem?_cons_succ]at h;obtain⟨w,e,q⟩:=JG2 r (i+1) j y h;refine#[w,by simpa using e,?_]
  rw[show i+(j+1)=i+1+j by omega]
  exact q
theorem JHk:∀(N:List Str) (i:Nat),(mask xs i N).length=N.length
 | [],_=>rfl
 |_::r,i=>by simp![mask,List.length_cons,JHk r]
def JHo{xs:List Str}(b:BlkOk X sc xs)(hcalm:X.calm=true)(I:Inv X zp Y H s)(hf:∀b∈fp,FpOk X zp H b)(hlt:∀b∈fp,b<s.heap.objs.size)(hC:s.heap.objs.size<=Cc)
  {h':Heap}{t':Nat}{m:Mq}(k:∀b o,s.heap.get? b=some o->h'.get? b=some o) (hn:h'.Ns Cc m) :
  Inv (JA3 X sc Cc (xs++mask xs 0 X.N) fp s H) [] (xs.map (λ_=>none)++Y) H { s with heap:=h',toks:=t' } where
 ok:=JOF b hcalm I hf hlt hC
 os:=rfl
 bare:=I.bare
 base:=Un.kept k
 loc:=by
  refine#[m,hn,λi y v e1 e2 e3=>?_]
  by_cases hi:i<xs.length
  ·rw[q_B (by simpa using hi)]at e2
   simp[hi]at e2
  ·have hi':xs.length<=i:=by omega
   rw[List.getElem?_append_right (by simpa using hi')]at e2
   simp![q_g]at e2;have e1':(mask xs 0 X.N)[i - xs.length]? = some y:=by
    have:(xs++mask xs 0 X.N)[i]? = some y:=e1
    rwa [List.getElem?_append_right hi']at this
   obtain⟨z,ez,q⟩:=JG2 X.N 0 _ y e1';rcases q with ⟨hz,rfl⟩|⟨hz,rfl⟩
   ·have e3':Vis (compEnvC sc (JA5 X.env.cells sc.names []) Cc X.env).scope y:=e3;have hfree:(y,NameKind.free)∈sc.names:=by
     have en:=JBB (X:=X) (sc:=sc) (Cc:=Cc) I.ok.kind;unfold Vis at e3';rw[en]at e3';rcases e3' with e|e|e
     ·exfalso;refine b.out y (List.mem_of_getElem? ez) hz ?_;have:∀(names:Nq),(JA0 X.env.scope.names names).lookup y=some .local->names.lookup y=some .local:=by
       intro names
       induction names with
       |nil=>intro h;simp[JA0]at h
       |cons p r ih =>
        obtain⟨n,kk⟩:=p;intro h;have e0:JA0 X.env.scope.names ((n,kk)::r)=(if (kk==NameKind.free&&true&&X.env.scope.names.lookup n==some NameKind.cell)=true then (n,NameKind.cell) else (n,kk))::JA0 X.env.scope.names r:=rfl;rw[e0]at h;rw[List.lookup_cons]
        split at h
        ·rw[List.lookup_cons]at h;cases q:y==n with
         |true=>rw[q]at h;cases h
         |false=>rw[q]at h;exact ih h
        ·rw[List.lookup_cons]at h;cases q:y==n with
         |true=>rw[q]at h;exact h
         |false=>rw[q]at h;exact ih h
      exact this sc.names e
     ·exact JBY b.nocell (.inl e)
     ·exact JBY b.nocell (.inr e)
    have hvis:Vis X.env.scope y:=by
     rcases b.free y hfree with e|e
     ·exact .inr (.inl e)
     ·exact .inr (.inr e)
    obtain⟨mm,hmm,hl⟩:=I.loc;obtain⟨u,r,l⟩:=hl (i - xs.length) y v ez e2 hvis;refine#[u,r,.inr #[?_,?_]]
    ·have en:=JBB (X:=X) (sc:=sc) (Cc:=Cc) I.ok.kind;rcases e3' with e|e|e
     ·exfalso;have e':(JA0 X.env.scope.names sc.names).lookup y=some .local:=by rw[<-en];exact e
      have hh:=JBY (outer:=X.env.scope.names) (names:=sc.names) (x:=y) b.nocell;have:∀(names:Nq),(JA0 X.env.scope.names names).lookup y=some .local->names.lookup y=some .local:=by
       intro names
       induction names with
       |nil=>intro h;simp[JA0]at h
       |cons p r ih =>
        obtain⟨n,kk⟩:=p;intro h;have e0:JA0 X.env.scope.names ((n,kk)::r)=(if (kk==NameKind.free&&true&&X.env.scope.names.lookup n==some NameKind.cell)=true then (n,NameKind.cell) else (n,kk))::JA0 X.env.scope.names r:=rfl;rw[e0]at h;rw[List.lookup_cons]
        split at h
        ·rw[List.lookup_cons]at h;cases q:y==n with
         |true=>rw[q]at h;cases h
         |false=>rw[q]at h;exact ih h
        ·rw[List.lookup_cons]at h;cases q:y==n with
         |true=>rw[q]at h;exact h
         |false=>rw[q]at h;exact ih h
      exact b.out y (List.mem_of_getElem? ez) hz (this sc.names e')
     ·exact .inl e
     ·exact .inr e
    ·rcases l with ⟨hk,_⟩|⟨_,c,hc,hcell⟩
     ·exfalso;rcases b.free y hfree with e|e
      ·rw[e]at hk;cases hk
      ·rw[e]at hk;cases hk
     ·refine#[c,(JBS b I.ok).mpr #[hfree,hc],?_];obtain⟨o,ho,hd⟩:=hcell;exact#[o,k _ _ ho,hd]
   ·exfalso;have hlt':i - xs.length<X.N.length:=(q_p.mp ez).1;have:dots (0+(i - xs.length))=dots (i - xs.length):=by rw[Nat.zero_add]
    exact b.dots (i - xs.length) hlt' (by rw[<-this];exact vis_same.mp e3)
 cell:=λx c e=>by
  obtain⟨v,o,ho,hd⟩:=I.cell x c ((JBS b I.ok).mp e).2;exact#[v,o,k _ _ ho,hd]
 free:=I.hok.fresh hC
 freeC:=λx c e=>I.freeC x c ((JBS b I.ok).mp e).2
 pin:=λp hp=>absurd (show p∈([]:Pq) from hp) (by simp)
 hok:=I.hok.kept k
 len:=by
  show(xs.map (λ_=>(none:Option V))++Y).length=(xs++mask xs 0 X.N).length;rw[q_u,q_u,q_g,JHk,I.len]
end
section
variable{X:Cx}{B:Bs}{C:Cn}{CX:CXT}{XX:Nat->Hp->Prop}{G:Lz}{zp:Pq}{Y:St}{H:Hp}{s:Shared}{sc:Scope}{N':List Str}{Cc:Addr}
@[reducible]def noE:Vq:=λ_ _=>False
structure Sts(T:Type) where
 B:T->Bs
 ok:T->Hp->Prop
 st:T->Hp->T->Hp->Prop
 same:∀t H H',ok t H->Same H H'->st t H t H'
 trans:∀ {t H t' H' t'' H''},st t H t' H'->st t' H' t'' H''->st t H t'' H''
 all:∀ {t H t' H'},st t H t' H'->ok t' H'
 kp:∀ {t H t' H'},ok t H->st t H t' H'->Kpt H H'
 den:∀ {t H t' H'} d v,ok t H->st t H t' H'->Den (B t) H d v->Den (B t') H' d v
def JBz{T:Type}(X':Cx)(S:Sts T)(Y:St)(n:Nat)(U:Env)(target elt:Expr)(ifs:List Expr)(R:T->List D->List D->Prop):Prop :=
 ∀(zp:Pq) (s:Shared) (pre:St) (H:Hp) (t:T) (d:D) (ds ys:List D) (v:V) (u:Value),pre.length=n->R t (d::ds) ys->S.ok t H->Inv X' zp (pre++Y) H s->RelV v u->Den (S.B t) H d v->Sok (S.B t) Y H U ->
  wpAny (model X'.prog X'.w) X'.A (assign target X'.env u) (λ_ s₂ =>
   wpAny (model X'.prog X'.w) X'.A (forIn ifs true λc r=>if r=true then do let ok<-isTrue c X'.env (eval c X'.env);pure (ForInStep.yield ok) else pure (ForInStep.yield r)) (λok s₃ =>
    if ok=true then wpAny (model X'.prog X'.w) X'.A (eval elt X'.env) (λx s₄=>∃t' y pre' H' w,R t' ds (ys++[y])/\pre'.length=n/\Inv X' zp (pre'++Y) H' s₄/\S.st t H t' H'/\RelV w x/\Den (S.B t') H' y w) noE s₃
    else ∃t' pre' H',R t' ds ys/\pre'.length=n/\Inv X' zp (pre'++Y) H' s₃/\S.st t H t' H') noE s₂) noE s
theorem Sts.dens{T:Type}(S:Sts T){t t':T}{H H':Hp}(o:S.ok t H)(s:S.st t H t' H'):∀(ds:List D) (vs:List V),DenL (S.B t) H ds vs->DenL (S.B t') H' ds vs
 | [],_,h=>h
 |d::ds,vs,h=>by
  simp![DenL]at h ⊢;obtain⟨v,r,e,q,l⟩:=h;exact#[v,r,e,S.den d v o s q,S.dens o s ds r l]
def Sts.one(B:Bs):Sts Unit:=#[λ_=>B,λ_ _=>True,λ_ H _ H'=>Same H H',λ_ _ _ _ s=>s,Same.trans,λ_=>trivial,λ_=>Same.kp,λd v _ s=>Den.mono s d v]
def JDr{α:Type}{l:List α}{j:Nat}(h:j<l.length):l.drop j=l[j]::l.drop (j+1):=List.drop_eq_getElem_cons h
def JIy[Cool G]{τ:Type}(S:Sts τ){t0:τ}{elt iter target:Expr}{ifs:List Expr}{pos pos':Pos}{i:E}{U:Env}{xs:List Str}{ds:List D}{R:τ->List D->List D->Prop}{use:Option (Value->Sem Unit)}{Q:Vq}
  (g:Gk X (S.B t0) C CX XX G) (b:BlkOk X sc xs) (hi:PI X target iter (RI (S.B t0) C XX i)) (hs:∀x,foldedSetIterable iter X.env x=pure x)
  (hrun:∀Cc fp s0 H0,JBz (JA3 X sc Cc (xs++mask xs 0 X.N) fp s0 H0) S Y xs.length U target elt ifs R)
  (I:Inv X zp Y H s) (hok:S.ok t0 H) (ok:Sok (S.B t0) Y H U) (hds:evI C i U=.ok ds) (hlen:ds.length<=16777216) (hz:R t0 ds [])
  (fin:∀(ys:List D) (D Cc:Addr) (s':Shared) (m:Mq) (t:τ) (H3:Hp) (yv:List V),s'.heap.Ns Cc m->Inv X zp Y (upd H3 D (.lst yv)) s'->S.st t0 H t H3->R t [] ys->H3 D=none->DenL (S.B t) H3 ys yv->(upd H3 D (.lst yv)) Cc=none->Cc≠X.env.locals->X.s₀.heap.objs.size<=Cc ->
    (∀x c,X.env.cells.lookup x=some c->c≠Cc)->(∀p∈X.pn++zp,p.1≠Cc)->compPost (model X.prog X.w) X.A X.xe use Q (.ref D) Cc (.ok .next) s') :
  wpAny (model X.prog X.w) X.A (comprehension (.ListComp elt [#[target,iter,ifs,0]] sc pos) sc X.env pos' (newList []) false (eval iter X.env) use) Q X.xe s:=by
 refine wpAny_comprehension_free rfl hs (b.clos I.ok) b.kind b.loc (wpAny_mono (hi zp s Y H (λJ H1=>Same H H1/\ItOk (S.B t0) J H1 ds) I #[U,ok,?_]) (λxv s₁ h₁=>wpAny_mono h₁ (λitv s₂ h₂=>?_) (λ_ _ e=>e)) (λ_ _ e=>e))
 ·rw[hds];exact λJ H' s' io=>#[s',io]
 obtain⟨it,fp,tn,J,H2,e,I2,T,st2,f2,sm2,io⟩:=h₂;subst e;have hlt:∀b∈fp,b<s₂.heap.objs.size:=λb hb=>by
  obtain⟨o,ho,_⟩:=T.obj 0 _ st2 b hb;exact q_h ho
 refine wpAny_newObj_type (wpAny_newFunctionEnv b.nocell (by intro y hy;simp at hy) (λh₁ hns₁ hsb₁=>?_) b.kind)
 dsimp only at hns₁ hsb₁ ⊢
 generalize hH2:s₂.heap.push { cls:=.type "list",dict:=none,data:=.seq ([]:List Value).toArray }=P2 at hns₁ hsb₁ ⊢;have hC:P2.objs.size=s₂.heap.objs.size+1:=by rw[<-hH2,Heap.size_push]
 have hCle:s₂.heap.objs.size<=P2.objs.size:=by rw[hC];exact Nat.le_succ _
 have hDC:s₂.heap.objs.size≠P2.objs.size:=by rw[hC];exact q_l (Nat.lt_succ_self _)
 have below:∀b,b<s₂.heap.objs.size->b≠P2.objs.size:=λb hb=>by rw[hC];exact q_l (q_D hb)
 have old:∀b o,s₂.heap.get? b=some o->h₁.get? b=some o:=λb o e=>hsb₁.extBut b o (below b (q_h e)) (q_c _ (hH2▸q_c _ e));have hacc:h₁.get? s₂.heap.objs.size=some { cls:=.type "list",dict:=none,data:=.seq ([]:List Value).toArray }:=hsb₁.extBut _ _ hDC (q_c _ (hH2▸q_k _ rfl));have I4:=JHo (fp:=fp) (t':=s₂.toks+([]:List (Str×Value)).length) b (g.calm inferInstance) I2 f2 hlt hCle old hns₁;have st4:tn 0 h₁:=T.keep _ _ _ st2 λb _ o e=>old b o e;have ok2:=S.all (S.same t0 H H2 hok sm2);have hH2D:H2 s₂.heap.objs.size=none:=I2.hok.fresh (q_t _);have fpX:∀ {ps:Pq}{H':Hp},(∀b∈fp,H' b=none)->(∀p∈ps,p.1=s₂.heap.objs.size)->∀b∈fp,FpOk (JA3 X sc P2.objs.size (xs++mask xs 0 X.N) fp s₂ H2) ps H' b:=λ{ps H'} hn hp a ha=>by
  refine#[hn a ha,below a (hlt a ha),I4.ok.exfs a ha,.inl ha,λx c e=>(I4.ok.exf a ha).2 x c e,λp hpp=>?_];have hpp':p∈ps:=hpp;rw[hp p hpp'];exact Nat.ne_of_gt (hlt a ha)
 have loop:∀s₃:Shared,s₃={ s₂ with heap:=h₁,toks:=s₂.toks+([]:List (Str×Value)).length } ->
    codeAny (model X.prog X.w) X.A (.compLoop (.ListComp elt [#[target,iter,ifs,0]] sc pos) 0 (.ref it) (.ref s₂.heap.objs.size) (JA3 X sc P2.objs.size (xs++mask xs 0 X.N) fp s₂ H2).env)
      (compPost (model X.prog X.w) X.A X.xe use Q (.ref s₂.heap.objs.size) P2.objs.size) s₃:=by
  rintro s₃ rfl;refine JEI (λn s'=>∃(j:Nat) (t:τ) (pre:St) (H':Hp) (ys:List D) (yv:List V) (its:List Value) (ep:Nat),n=ds.length - j/\j<=ds.length/\pre.length=xs.length /\
    Inv (JA3 X sc P2.objs.size (xs++mask xs 0 X.N) fp s₂ H2) [] (pre++Y) H' s'/\tn j s'.heap/\(∀b∈fp,H' b=none)/\S.st t0 H2 t H'/\H' s₂.heap.objs.size=none /\
    s'.heap.get? s₂.heap.objs.size=some { cls:=.type "list",data:=.seq its.toArray ep }/\Vals yv its/\DenL (S.B t) H' ys yv/\ys.length<=j/\R t (ds.drop j) ys) ?_ ds.length
    #[0,t0,xs.map (λ_=>none),H2,[],[],[],0,by simp,Nat.zero_le _,by simp,I4,st4,λb hb=>(f2 b hb).1,S.same t0 H2 H2 ok2 (Same.refl _),hH2D,hacc,.nil,by simp![DenL],q_t _,by simpa using hz]
  rintro n s3 ⟨j,t,pre,H3,ys,yv,its,ep,hn,hj,hpl,I3,st3,fr3,sm3,hD3,ho3,rv3,dn3,hyl,hr3⟩;subst hn;have I3p:Inv (JA3 X sc P2.objs.size (xs++mask xs 0 X.N) fp s₂ H2) [(s₂.heap.objs.size,{ cls:=.type "list",data:=.seq its.toArray ep })] (pre++Y) H3 s3:=I3.pins_of λp hp=>by
    have e:p=(s₂.heap.objs.size,{ cls:=.type "list",data:=.seq its.toArray ep }):=by simpa using hp
    subst e;refine#[ho3,hD3,hDC,λhm=>?_,λv z=>?_]
    · obtain⟨_,o,ho,_⟩:=I4.ok.funs.mem hm
      exact absurd (q_h ho) (Nat.lt_irrefl _)
    · have z':Data.seq its.toArray ep=Data.cell v:=z
      cases z'
  have sameE:∀(e:Value) (s':Shared),noE e s'->notedBy (model X.prog X.w) X.A (JA3 X sc P2.objs.size (xs++mask xs 0 X.N) fp s₂ H2).env (λe s'=>compPost (model X.prog X.w) X.A X.xe use Q (.ref s₂.heap.objs.size) P2.objs.size (.error e) s') e s':=λ_ _ z=>z.elim
  by_cases hlt3:j<ds.length
  ·
    have hd:ds[j]? = some ds[j]:=by simp[hlt3]
    obtain⟨go,yl⟩:=(io H3 (S.kp ok2 sm3) j).1 ds[j] hd;refine wpAny_mono (T.item (JA3 X sc P2.objs.size (xs++mask xs 0 X.N) fp s₂ H2) rfl rfl rfl rfl j [(s₂.heap.objs.size,{ cls:=.type "list",data:=.seq its.toArray ep })] s3 (pre++Y) H3 noE I3p (fpX fr3 (λp hp=>by rw[List.mem_singleton.mp hp])) st3 go) (λr s4 h4=>?_) sameE
    obtain⟨u,hu,h4⟩:=h4;subst hu;show wpAny _ _ (letOwnedTupleGo target (.ref it) u) _ _ s4;refine wpAny_mono h4 (λ_ s5 h5=>?_) sameE;obtain⟨v,H5,I5,r5,y5,st5,fr5⟩:=h5;obtain⟨s35,d5⟩:Same H3 H5/\Den (S.B t) H5 ds[j] v:=by
      rcases yl v H5 y5 with ⟨e5,d5⟩|⟨p,ws,es,hp,e5,ex,ed,dl⟩
      · subst e5;exact#[Same.refl _,S.den _ _ ok2 sm3 d5]
      · subst e5;subst ex
        have s35:Same H3 (upd H3 p (.tup ws)):=JAq hp;refine#[s35,?_];rw[ed];simp![Den];exact#[p,ws,rfl,SqT.of JAF,DenL.mono s35 _ _ (S.dens ok2 sm3 _ _ dl)]
    replace sm3:=S.trans sm3 (S.same _ _ _ (S.all sm3) s35)
    have ok5:=S.all sm3
    replace dn3:=DenL.mono s35 ys yv dn3
    have I5p:=I5.pinned (fpX fr5 (λp hp=>by rw[List.mem_singleton.mp hp])) (T.obj _ _ st5)
    rw[JDr hlt3]at hr3;have okY:Sok (S.B t) Y H5 U:=λi d e=>let ⟨v,e1,q⟩:=ok i d e;#[v,e1,S.den d v ok2 sm3 (Den.mono sm2 _ _ q)]
    have hstep:=hrun P2.objs.size fp s₂ H2 _ s5 pre H5 t ds[j] _ ys v u hpl hr3 ok5 I5p r5 d5 okY;refine wpAny_mono hstep (λ_ s6 h6=>wpAny_mono h6 (λokb s7 h7=>?_) sameE) sameE;have back:∀ {Y':St}{H':Hp}{s':Shared},Inv (JA3 X sc P2.objs.size (xs++mask xs 0 X.N) fp s₂ H2) ([(s₂.heap.objs.size,{ cls:=.type "list",data:=.seq its.toArray ep })]++JF7 fp s5.heap) Y' H' s' ->
        s'.heap.get? s₂.heap.objs.size=some { cls:=.type "list",data:=.seq its.toArray ep }/\H' s₂.heap.objs.size=none/\tn (j+1) s'.heap/\(∀b∈fp,H' b=none):=λ{Y' H' s'} J'=>by
      have p0:=J'.pin (s₂.heap.objs.size,{ cls:=.type "list",data:=.seq its.toArray ep }) (q_r _ (List.mem_append_left _ (by simp)))
      refine#[p0.1,p0.2.1,T.keep _ _ _ st5 λa ha o e=>(J'.pin (a,o) (q_r _ (q_r _ (JB5 ha e)))).1,λa ha=>?_];obtain⟨o,e,_⟩:=T.obj _ _ st5 a ha;exact(J'.pin (a,o) (q_r _ (q_r _ (JB5 ha e)))).2.1
    cases okb with
    |false =>
      obtain⟨t',pre',H',hr,hp',I',sm'⟩:=h7;obtain⟨b1,b2,b3,b4⟩:=back I';rw[if_neg Bool.false_ne_true];refine#[ds.length - (j+1),by omega,j+1,t',pre',H',ys,yv,its,ep,rfl,hlt3,hp',I'.pins_of (λp hp=>absurd hp (by simp)),b3,b4,S.trans sm3 sm',b2,b1,rv3,S.dens ok5 sm' ys yv dn3,by omega,hr]
    |true =>
      rw[if_pos rfl]at h7 ⊢;refine wpAny_mono h7 (λx s8 h8=>?_) sameE;obtain⟨t',y,pre',H',w',hr,hp',I',sm',rw8,d8⟩:=h8;obtain⟨b1,b2,b3,b4⟩:=back I';have hsz:its.length<=j:=by rw[<-rv3.length,<-DenL.len ys yv dn3];exact hyl
      have hlim:its.toArray.size<sizeLine:=by rw[q_f,sizeLine_eq];omega
      refine call_meets PySem.F.slot_list_append #[_,b1,rfl] PySem.F.entry_list_append (PySem.F.args_list_append_2 _ _) (PySem.list_append s₂.heap.objs.size its.toArray ep x ∅) #[b1,?_]
      have q8:=PySem.IsL.update b1 (λa=>a.push x);have q8':(s8.heap.update s₂.heap.objs.size (Obj.mapSeq (λa=>a.push x))).get? s₂.heap.objs.size=some { cls:=.type "list",data:=.seq (its++[x]).toArray (if (its.toArray.push x).size==its.toArray.size then ep else ep+1) }:=by simpa using q8
      have I0:Inv (JA3 X sc P2.objs.size (xs++mask xs 0 X.N) fp s₂ H2) [] (pre'++Y) H' s8:=I'.pins_of (λp hp=>absurd hp (by simp))
      have I9:=I0.turned (h':=s8.heap.update s₂.heap.objs.size (Obj.mapSeq (λa=>a.push x))) (t':=s8.toks) (it:=s₂.heap.objs.size) (λb o hb e=>(Heap.get?_update_other _ _ (Ne.symm hb)).trans e) b2 hDC (.inr (q_t _))
        (λx c e z=>by
          obtain⟨v',o',ho',_⟩:=I2.cell x c ((JBS b I.ok).mp e).2;rw[z]at ho';exact absurd (q_h ho') (Nat.lt_irrefl _)) (λp hp=>absurd (show p∈([]:Pq) from hp) (by simp))
      refine#[ds.length - (j+1),by omega,j+1,t',pre',H',ys++[y],yv++[w'],its++[x],_,rfl,hlt3,hp',I9,T.keep _ _ _ b3 λa ha o e=>(Heap.get?_update_other _ _ (Nat.ne_of_gt (hlt a ha))).trans e,b4,S.trans sm3 sm',b2,q8',rv3.append (.cons rw8 .nil),
        DenL.append ys [y] yv [w'] (S.dens ok5 sm' ys yv dn3) (by simp![DenL];exact#[w',[],rfl,d8,rfl]),by rw[q_u,List.length_singleton];omega,hr]
  ·
    have ej:j=ds.length:=by omega
    have stop:=(io H3 (S.kp ok2 sm3) j).2 ∅
    refine wpAny_mono (T.done (JA3 X sc P2.objs.size (xs++mask xs 0 X.N) fp s₂ H2) rfl rfl rfl rfl j [(s₂.heap.objs.size,{ cls:=.type "list",data:=.seq its.toArray ep })] s3 (pre++Y) H3 noE I3p (fpX fr3 (λp hp=>by rw[List.mem_singleton.mp hp])) st3 stop) (λr s4 h4=>?_) sameE
    obtain⟨hr,I5⟩:=h4;subst hr;show compPost _ _ _ _ _ _ _ _ s4;have p0:=I5.pin (s₂.heap.objs.size,{ cls:=.type "list",data:=.seq its.toArray ep }) (q_r _ (by simp))
    rw[ej,List.drop_length]at hr3;have u0:Un (frs X.stack) fp H2 H3 s₂.heap s4.heap:=I5.base;have neD:∀b o,s₂.heap.get? b=some o->b≠s₂.heap.objs.size:=λb o e=>q_l (q_h e);have nD:∀b o,H3 b=some o->b≠s₂.heap.objs.size:=λb o e z=>by rw[z,hD3]at e;cases e
    have u1:Un (frs X.stack) fp H2 (upd H3 s₂.heap.objs.size (.lst yv)) s₂.heap s4.heap :=
      #[u0.keep,u0.slot,λb o e n hx=>by rw[JAI (neD b o e)];exact u0.free b o e n hx,u0.there,λb xs' e=>by rw[JAI (nD b _ (u0.tups b xs' e))];exact u0.tups b xs' e,
        λb o u e=>by rw[JAI (nD b _ (u0.frzs b o u e))];exact u0.frzs b o u e,λb ps e=>by
          obtain⟨more,q⟩:=u0.tbls b ps e;exact#[more,by rw[JAI (nD b _ q)];exact q]]
    have hvl:yv.length<=sizeLine:=by rw[<-DenL.len ys yv dn3,sizeLine_eq];omega
    have hok1:HOk X.prog X.w (upd H3 s₂.heap.objs.size (.lst yv)) s4.heap:=λa u e=>by
      by_cases ha:a=s₂.heap.objs.size
      · subst ha
        rw[JAF]at e;cases e;exact#[hvl,its,ep,rv3,p0.1]
      · rw[JAI ha]at e
        exact(I5.hok a u e).stay (λc w' _ q=>q) (λc q=>by rw[JAI (nD c _ q)];exact q) λc xs' q=>by rw[JAI (nD c _ q)];exact q
    have J:=I2.call' (s':=s4) I5.os u1 hok1 I5.bare λa ha=>#[(f2 a ha).2.2.2.1,(f2 a ha).2.1,(f2 a ha).2.2.2.2.1,(f2 a ha).2.2.2.2.2];obtain⟨m4,hn4,_⟩:=I5.loc;refine fin ys s₂.heap.objs.size P2.objs.size s4 m4 t H3 yv hn4 J (S.trans (S.same t0 H H2 hok sm2) sm3) hr3 hD3 dn3 ?_ ?_ ?_ ?_ ?_
    · rw[JAI (Ne.symm hDC)];exact I5.free
    · exact Nat.ne_of_gt (q_m I2.lt hCle)
    · exact Nat.le_trans I2.sz hCle
    · intro x c e z
      obtain⟨v',o',ho',_⟩:=I2.cell x c e;rw[z]at ho';exact absurd (q_m (q_h ho') hCle) (Nat.lt_irrefl _)
    · intro p hp z
      exact absurd (q_m (q_h (I2.pin p hp).1) (by rw[z];exact hCle)) (Nat.lt_irrefl _)
 exact codeAny_compStart_list (loop _ rfl) (T.self _ _ _ _ _ st4 (loop _ rfl))
end
def JJ9{B:Bs}{H:Hp}{a:Addr}{ds:List D}{xs:List V}(q:SqL B.K H a xs)(l:DenL B H ds xs):ItOk B (Itl B.K a) H ds:=by
 intro H2 s2 i;have q2:=s2.seq q;refine#[λd e=>?_,λh=>#[xs,q2,by rw[<-DenL.len ds xs l];exact h]]
 obtain⟨v,e1,dn⟩:=DenL.get ds xs i d l e;refine#[#[xs,v,q2,e1],λx H3 y=>?_];obtain⟨e3,y⟩:=y;have:=y xs q2;rw[e1]at this;cases this;exact .inl #[e3,dn]
def JKu{B:Bs}{H:Hp}{a:Addr}{ds:List D}{xs:List V}(q:SqT B.K H a xs)(l:DenL B H ds xs):ItOk B (Itt B.K a) H ds:=by
 intro H2 s2 i;have q2:=s2.tup q;refine#[λd e=>?_,λh=>#[xs,q2,by rw[<-DenL.len ds xs l];exact h]]
 obtain⟨v,e1,dn⟩:=DenL.get ds xs i d l e;refine#[#[xs,v,q2,e1],λx H3 y=>?_];obtain⟨e3,y⟩:=y;have:=y xs q2;rw[e1]at this;cases this;exact .inl #[e3,dn]
def JHL{lo hi:Int}:ItOk B (Itr lo (hi - lo).toNat) H (JGq lo hi):=by
 intro H2 s2 i;unfold JGq;refine#[λd e=>?_,λh=>show(hi - lo).toNat<=i by simpa using h]
 rw[List.getElem?_map]at e
 by_cases hi':i<(hi - lo).toNat
 ·rw[List.getElem?_range hi']at e;simp![Option.map_some,q_j]at e;refine#[hi',λx H3 y=>?_];obtain⟨e3,y⟩:=y;refine .inl #[e3,?_];rw[<-e,y];simp![Den]
 ·rw[List.getElem?_eq_none_iff.mpr (by simpa using hi')]at e
  cases e
abbrev Its(x:Str):It:=#[λi _=>i<x.cps.size,λi H v H'=>H'=H/\∃c,x.cps[i]? = some c/\v=.str #[(List.toArray [c])],λi _=>x.cps.size<=i]
def JKt{P:Program}{w:World}{K:Kq}{tg:Expr}(x:Str)(t:Tok)(it:Addr):Turn P w K tg (Its x) [it] it (λi h=>h.IsStrIter it "str_ascii_iterator" x t i) where
 mem:=by simp
 obj:=λi h st b hb=>by
  have e:b=it:=by simpa using hb
  subst e;obtain⟨o,e,c,d⟩:=st;exact#[o,e,λv z=>by rw[d]at z;cases z]
 keep:=λi h h' st k=>let ⟨o,ho,r⟩:=st;#[o,k it (by simp) o ho,r]
 item:=by
  rintro X rfl rfl rfl hc i zp s Y H E I hf st hg;obtain⟨f0,f1,f2,f3,f4,f5⟩:=hf it (by simp)
  have hg:i<x.cps.size:=hg;refine wpAny_pyNext_ascii_item st (c:=x.cps[i]) (by simp[hg]) λh' st' sb=>?_
  have I1:Inv X zp Y H { s with heap:=h',toks:=s.toks+1 }:=I.turned (t':=s.toks+1) (λb o hb e=>(sb.2 b hb).trans e) f0 f1 f3 f4 f5
  obtain⟨o,e,c,d⟩:=id st';exact#[_,rfl,JKW (s:={ s with heap:=h',toks:=s.toks+1 }) e c d (by decide) #[.str #[(List.toArray [x.cps[i]])],H,I1,#[_,rfl],#[rfl,x.cps[i],by simp[hg],rfl],st',λb hb=>(hf b hb).1]]
 done:=by
  rintro X rfl rfl rfl hc i zp s Y H E I hf st hg;obtain⟨f0,f1,f2,f3,f4,f5⟩:=hf it (by simp)
  exact wpAny_pyNext_ascii_end (I.ok.hd hc) st (by have:x.cps.size<=i:=hg;simp[this]) λh' eb=>#[rfl,I.turned (t':=s.toks) (λb o hb e=>eb b o hb e) f0 f1 f3 f4 f5]
 self:=λ_ _ _ _ _ st h=>wpAny_pyIter_striter_ascii st h
def JKz{B:Bs}{H:Hp}{x:Str}:ItOk B (Its x) H (x.cps.toList.map λc=>.str #[(List.toArray [c])]):=by
 intro H2 s2 i;refine#[λd e=>?_,λh=>show x.cps.size<=i by simpa using h]
 rw[List.getElem?_map]at e;obtain⟨c,e1,rfl⟩:=q_d.mp e;refine#[show i<x.cps.size by simpa using(q_p.mp e1).1,λv H3 y=>?_]
 obtain⟨e3,c',e4,e5⟩:=y;refine .inl #[e3,?_];rw[Array.getElem?_toList]at e1;rw[e1]at e4;cases e4;simp![Den];exact e5
abbrev keyD:Key->D
 |.inl n=>.int n
 |.inr x=>.str x
def JLW(k:Key):Den B H (keyD k) (kV k):=by cases k<;>simp![keyD,kV,Den]
theorem JI3:∀ {kvs:List (D×D)}{xs:List (Key×V)}{ks:List D},DenK B H kvs xs->JCX kvs=some ks->ks=xs.map λp=>keyD p.1
 | [],xs,ks,h,e=>by simp![DenK]at h;subst h;cases e;rfl
 |(k,d)::r,xs,ks,h,e=>by
  simp![DenK]at h;obtain⟨y,v,r',rfl,rfl,h1,h2⟩:=h;simp![JCX]at e;obtain⟨ks',e1,rfl⟩:=q_d.mp e;rw[List.map_cons,<-JI3 h2 e1];rfl
def JPq{w:World}(h:(JAQ P w).is k u=true):RelV (kV k) u:=by
 cases k with
 |inl n=>obtain⟨t,rfl⟩:=Value.isInt_shape h;exact#[t,rfl]
 |inr x=>obtain⟨t,rfl⟩:=Value.isStrOf_shape h;exact#[t,rfl]
def JJg(I:Inv X zp Y H s):sysModules<s.heap.objs.size :=
 Nat.lt_trans (by decide) (show mainGlobals<s.heap.objs.size from(I.mod.glob.keeps I.bk).lt)
def JQM(h:KV xs vs):∀ {i:Nat}{k:Key}{v:V},xs[i]? = some (k,v)->∃u,vs[i]? = some (k,u)/\RelV v u:=by
 unfold KV at h
 induction h with
 |nil=>intro i k v e;simp at e
 | @cons p q ps qs hq t ih =>
  intro i k v e;cases i with
  |zero =>
   simp![List.getElem?_cons_zero,q_j]at e;subst e;have hk:k=q.1:=hq.1;exact#[q.2,by simp![List.getElem?_cons_zero];rw[hk],hq.2]
  |succ i=>exact ih (by simpa using e)
def JIo{X:Cx}{zp:Pq}{Y:St}{H:Hp}{s:Shared}{a:Addr}{o:Obj}{xs:List (Key×V)}{es:Array DictEntry}{ep:Nat}(I:Inv X zp Y H s)(q:SqDo X.K X.w H a o xs)(ho:o.data=.dict es ep) :
  (a==sysModules)=false/\∃vs,KV xs vs/\s.heap.DictAt (JAQ X.prog X.w) a vs ep:=by
 obtain⟨h1,h2,vs,kv,o',es',ep',g1,g2,g3,g4⟩:=SqDo.at I q;rw[h2]at g1;cases g1;rw[ho]at g3;cases g3;exact#[h1,vs,kv,o,es,h2,g2,ho,g4]
def JSN{X:Cx}{zp:Pq}{Y:St}{H:Hp}{s:Shared}{a:Addr}{o:Obj}{xs:List (Key×V)}(I:Inv X zp Y H s)(q:SqDo X.K X.w H a o xs):∃es ep,o.data=.dict es ep:=by
 obtain⟨h1,h2,vs,kv,o',es',ep',g1,g2,g3,g4⟩:=SqDo.at I q;rw[h2]at g1;cases g1;exact#[es',ep',g3]
abbrev Itd(K:Kq)(w:World)(a:Addr)(o:Obj)(xs:List (Key×V)):It :=
 #[λi H=>SqDo K w H a o xs/\i<xs.length,λi H x H'=>H'=H/\∃k v,xs[i]? = some (k,v)/\x=kV k,λi H=>SqDo K w H a o xs/\xs.length<=i]
def JJE{P:Program}{w:World}{K:Kq}{tg:Expr}(a it:Addr)(o:Obj)(xs:List (Key×V)){es:Array DictEntry}{ep:Nat}(ho:o.data=.dict es ep):Turn P w K tg (Itd K w a o xs) [it] it (λi h=>h.IsKeyIter it a i xs.length ep) where
 mem:=by simp
 obj:=λi h st b hb=>by
  have e:b=it:=by simpa using hb
  subst e;obtain⟨o,e,c,d⟩:=st;exact#[o,e,λv z=>by rw[d]at z;cases z]
 keep:=λi h h' st k=>by
  obtain⟨o,e,c,d⟩:=st;exact#[o,k it (by simp) o e,c,d]
 item:=by
  intro X hP hw hK hc i zp s Y H E I hf st hg;subst hP hw hK;obtain⟨hq,hi⟩:=hg;obtain⟨hsys,vs,kv,dat⟩:=JIo I hq ho;obtain⟨⟨k,v⟩,hx⟩:∃p,xs[i]? = some p:=#[xs[i],by simp[hi]]
  obtain⟨u,hu,ru⟩:=JQM kv hx;have hl:=JBs kv;obtain⟨f0,f1,f2,f3,f4,f5⟩:=hf it (by simp)
  rw[hl]at st;refine wpAny_pyNext_dict_item st dat hu λkey h' hkey st' sb=>?_;have I1:Inv X zp Y H { s with heap:=h' }:=I.turned (t':=s.toks) (λb o hb e=>(sb.2 b hb).trans e) f0 f1 f3 f4 f5
  obtain⟨o2,e,c,d⟩:=id st';exact#[key,rfl,JKW (s:={ s with heap:=h' }) e c d (by decide) #[kV k,H,I1,JPq hkey,#[rfl,k,v,hx,rfl],by rw[hl];exact st',λb hb=>(hf b hb).1]]
 done:=by
  intro X hP hw hK hc i zp s Y H E I hf st hg;subst hP hw hK;obtain⟨hq,hi⟩:=hg;obtain⟨hsys,vs,kv,dat⟩:=JIo I hq ho;obtain⟨f0,f1,f2,f3,f4,f5⟩:=hf it (by simp)
  have hl:=JBs kv;rw[hl]at st hi;exact wpAny_pyNext_dict_end (I.ok.hd hc) st dat (by simp;omega) λh' eb=>#[rfl,I.turned (t':=s.toks) (λb o hb e=>eb b o hb e) f0 f1 f3 f4 f5]
 self:=λ_ _ _ _ _ st h=>wpAny_pyIter_keyiter st h
def JJd{B:Bs}{H:Hp}{a:Addr}{o:Obj}{kvs:List (D×D)}{xs:List (Key×V)}{ks:List D}(q:SqDo B.K B.w H a o xs)(l:DenK B H kvs xs)(hk:JCX kvs=some ks):ItOk B (Itd B.K B.w a o xs) H ks:=by
 intro H2 s2 i;have q2:=s2.dict q;have e:=JI3 l hk;subst e;refine#[λd e=>?_,λh=>#[q2,by simpa using h]]
 rw[List.getElem?_map]at e;obtain⟨p,e1,rfl⟩:=q_d.mp e;refine#[#[q2,(q_p.mp e1).1],λx H3 y=>?_];obtain⟨e3,k,v,e4,rfl⟩:=y;rw[e1]at e4;cases e4;exact .inl #[e3,JLW k]
section
variable{X:Cx}{B:Bs}{C:Cn}{CX:CXT}{XX:Nat->Hp->Prop}{G:Lz}{a b c tg:Expr}{x y z:E}{pos p:Pos}
def JFe(g:Gk X B C CX XX G)(ha:PE X a (RE B C XX x))(hi:∀U,evI C x U=(ev C x U).bind JBJ):PI X tg a (RI B C XX x):=by
 rintro zp s Y H R I ⟨U,ok,k⟩;rw[hi]at k;cases q:ev C x U with
 |ok d =>
  rw[q]at k;cases d with
  |list ds =>
   refine JJG ha zp s Y H R I #[U,ok,?_];rw[q];intro v H1 s1 d1;simp![Den]at d1;obtain⟨p,xs,e,hq,l⟩:=d1;refine#[p,e,#[xs,g.K▸hq],?_];rw[g.K];exact k _ H1 s1 (JJ9 hq l)
  |tuple ds =>
   refine JSm ha zp s Y H R I #[U,ok,?_];rw[q];intro v H1 s1 d1;simp![Den]at d1;obtain⟨p,xs,e,hq,l⟩:=d1;refine#[p,e,#[xs,g.K▸hq],?_];rw[g.K];exact k _ H1 s1 (JKu hq l)
  |str w =>
   simp![VI.R.bind,JBJ]at k
   split at k
   case isFalse=>exact k.elim
   rename_i hw;refine thn (ha zp s Y H (λv H1=>v=.str w/\R (Its w) H1) I #[U,ok,?_]) λv s1 h_=>?_
   ·rw[q];intro v H1 s1 d1;simp![Den]at d1;exact#[d1,k _ H1 s1 JKz]
   ·obtain⟨v,H1,I1,r1,rfl,q1⟩:=h_;obtain⟨t,rfl⟩:=r1;refine wpAny_pyIter_ascii hw ?_;refine#[s1.heap.objs.size,[s1.heap.objs.size],_,_,H1,rfl,I1.kept (t':=s1.toks) λb o e=>q_c _ e,JKt w t _,#[_,q_k _ rfl,rfl,rfl],λb hb=>?_,q1];have e:b=s1.heap.objs.size:=by simpa using hb
    subst e;exact I1.fpOk (q_t _) (I1.hok.fresh (q_t _))
  |dict kvs =>
   refine thn (ha zp s Y H (λv H1=>Same H H1/\Den B H1 (.dict kvs) v) I #[U,ok,by rw[q];exact λv H1 s1 d1=>#[s1,d1]]) λu s1 h_=>?_
   obtain⟨v,H1,I1,r1,sm,d1⟩:=h_;simp![VI.R.bind,JBJ]at k;cases hk:JCX kvs with
   |none=>rw[hk]at k;exact k.elim
   |some ks =>
    rw[hk]at k;obtain⟨a',o,xs,rfl,hq,l⟩:=JEg d1 hk;cases r1;have hq':SqDo X.K X.w H1 a' o xs:=by rw[g.K,g.W];exact hq
    obtain⟨es,ep,ho⟩:=JSN I1 hq';obtain⟨hsys,vs,kv,dat⟩:=JIo I1 hq' ho;refine wpAny_pyIter_dict hsys dat ?_;refine#[s1.heap.objs.size,[s1.heap.objs.size],_,_,H1,rfl,I1.kept (t':=s1.toks) λb o e=>q_c _ e,JJE (P:=X.prog) a' _ o xs ho,#[_,q_k _ rfl,rfl,by rw[JBs kv];rfl],λb hb=>?_,?_]
    ·have e:b=s1.heap.objs.size:=by simpa using hb
     subst e;exact I1.fpOk (q_t _) (I1.hok.fresh (q_t _))
    ·rw[g.K,g.W];exact k _ H1 sm (JJd hq l hk)
  |_=>exact fF k
 |exc c =>
  rw[q]at k;refine JJG ha zp s Y H R I #[U,ok,?_];rw[q];exact k
 |bad=>rw[q]at k;exact k.elim
def JDY{i:Int}(h:small i=true):-(2 ^ 62)<=i/\i<2 ^ 62:=by
 unfold small at h;simp![q_i,q_C]at h;exact h
def JOb(h:ds.length=1):(∃j,ds=[.int j])\/rngD ds=.bad:=by
 cases ds with
 |nil=>cases h
 |cons a r =>
  cases q_A.mp (Nat.succ.inj h);cases a<;>first|exact .inr rfl|exact .inl ⟨_,rfl⟩
def JOr(h:ds.length=2):(∃i j,ds=[.int i,.int j])\/rngD ds=.bad:=by
 cases ds with
 |nil=>cases h
 |cons a r =>
  cases r with
  |nil=>cases h
  |cons b r =>
   cases q_A.mp (Nat.succ.inj (Nat.succ.inj h));cases a<;>first|exact .inr rfl|(cases b<;>first|exact .inr rfl|exact .inl ⟨_,_,rfl⟩)
def JRl(g:Gk X B C CX XX G)(hg:Gl X "range")(hm:X.mg "range"=none)(ha:PA X [a] (RA B C XX x))(hc:cnt x=1)(hs:starEach [a] X.env=[(false,eval a X.env)]):PI X tg (.Call (.Name "range" p) [a] [] pos) (RI B C XX (.rng x)):=by
 rintro zp s Y H R I ⟨U,ok,k⟩;refine JKG hg hm ha hs zp s Y H R I ?_;simp![evI]at k;refine#[U,ok,?_];cases q:evA C x U with
 |ok ds =>
  rw[q]at k;intro vs H1 s1 d1;have hl:=JC1 x U ds q;rw[hc]at hl;rcases JOb hl with ⟨j,rfl⟩|z
  rotate_left
  · rw[show VI.R.bind _ _=rngD ds from rfl,z]at k;exact fF k
  ·
    simp![VI.R.bind,rngD]at k
    split at k
    ·rename_i hsm;simp![DenL,Den]at d1;obtain⟨v,r,e,e1,e2⟩:=d1;subst e2;subst e;subst e1;obtain⟨b1,b2⟩:=JDY hsm;refine#[j,rfl,b1,b2,?_];have:=k (Itr 0 (j - 0).toNat) H1 s1 JHL;simpa using this
    ·exact k.elim
 |exc c=>rw[q]at k;exact k
 |bad=>rw[q]at k;exact k.elim
def JRn(g:Gk X B C CX XX G)(hg:Gl X "range")(hm:X.mg "range"=none)(ha:PA X [a,b] (RA B C XX x))(hc:cnt x=2)(hs:starEach [a,b] X.env=[(false,eval a X.env),(false,eval b X.env)])(hs2:starEach [b] X.env=[(false,eval b X.env)]) :
  PI X tg (.Call (.Name "range" p) [a,b] [] pos) (RI B C XX (.rng x)):=by
 rintro zp s Y H R I ⟨U,ok,k⟩;refine JJq hg hm ha hs hs2 zp s Y H R I ?_;simp![evI]at k;refine#[U,ok,?_];cases q:evA C x U with
 |ok ds =>
  rw[q]at k;intro vs H1 s1 d1;have hl:=JC1 x U ds q;rw[hc]at hl;rcases JOr hl with ⟨i,j,rfl⟩|z
  rotate_left
  · rw[show VI.R.bind _ _=rngD ds from rfl,z]at k;exact fF k
  ·
    simp![VI.R.bind,rngD]at k
    split at k
    ·rename_i hsm;simp![q_i]at hsm;simp![DenL,Den]at d1;obtain⟨v,r,e,e1,v',r',e',e1',e2⟩:=d1;subst e2;subst e';subst e;subst e1;subst e1';obtain⟨b1,b2⟩:=JDY hsm.1;obtain⟨b3,b4⟩:=JDY hsm.2;exact#[i,j,rfl,#[b1,b2,b3,b4],k _ H1 s1 JHL]
    ·exact k.elim
 |exc c=>rw[q]at k;exact k
 |bad=>rw[q]at k;exact k.elim
end
def Ownb:HO->Prop
 |.lst _=>True
 |.dK _=>True
 |_=>False
def OwnO(B:Bs)(H:Hp):D->HO->Prop
 |.list ds,.lst xs=>DenL B H ds xs
 |.dict kvs,.dK xs=>DenK B H kvs xs
 |_,_=>False
theorem OwnO.mono{B:Bs}{H H':Hp}(s:Same H H')(d:D)(o:HO)(h:OwnO B H d o):OwnO B H' d o:=by
 cases d<;>cases o<;>first|exact fF h|exact DenL.mono s _ _ h|exact DenK.mono s _ _ h
def OwnO.b{B:Bs}{H:Hp}{d:D}{o:HO}(h:OwnO B H d o):Ownb o:=by
 cases d<;>cases o<;>first|exact fF h|exact trivial
def OwnO.den{B:Bs}{H:Hp}{d:List D}{o:HO}{a:Addr}(h:OwnO B H (.list d) o)(e:H a=some o):Den B H (.list d) (.ref a):=by
 cases o<;>first
  |exact fF h
  |(simp![Den];exact⟨a,_,rfl,SqL.of e,h⟩)
def OwnO.nl{B:Bs}{H:Hp}{d:D}{o:HO}(h:OwnO B H d o):JAe d=false:=by
 cases d with
 |list ds=>simp![JAe]
 |dict kvs =>
  cases o with
  |dK xs =>
   cases kvs with
   |nil=>simp![JAe]
   |cons p r =>
    obtain⟨k,w⟩:=p;have h:DenK B H ((k,w)::r) xs:=h;simp![DenK]at h;obtain⟨x,v',r',_,ek,_⟩:=h;subst ek;simp[JAe]
  |_=>exact fF h
 |_=>cases o<;>exact fF h
def JGR{n:Nat}{it:Bool}{e:Expr}(h:JAL G n it names N e=some x)(env:PySem.Env)(v:Value):foldedSetIterable e env v=pure v:=by
 cases n with
 |zero=>simp[JAL,JAr,JAW]at h
 |succ n=>cases e<;>first|rfl|(cases it<;>simp[JAL,JAr,JAW,xOf,Option.bind_none,ite_self,xRaw,mOf,mRaw]at h)
def Gk.nox(g:Gk X B C CX XX G)(h1:X'.K=X.K)(h2:X'.A=X.A)(h3:X'.mg=X.mg)(h4:X'.prog=X.prog)(h5:X'.w=X.w)(h6:X'.base=X.base)(h7:X'.calm=true)
  (hp:JBX CX X' (EX B λ_ _=>False)):Gk X' B C CX (λ_ _=>False) G where
 K:=h1.trans g.K
 W:=h5.trans g.W
 anti:=λ_ _ _ _ z=>z
 units:=by rw[h2];exact g.units
 calm:=λ_=>h7
 fn:=by rw[h1,h2,h3,h4,h5,h6];exact g.fn
 pas:=hp
 con:=by rw[h3];exact g.con
 noexg:=g.noexg
 blt:=by rw[h3];exact g.blt
 rng:=by rw[h3];exact g.rng
 isi:=by rw[h3];exact g.isi
 ty:=by rw[h3];exact g.ty
 cls:=by rw[h3];exact g.cls
 nam:=by rw[h3];exact g.nam
 fld:=by rw[h1];exact g.fld
 mth:=by unfold MethP;rw[h1,h2,h3,h4,h5,h6];exact g.mth
 own:=by rw[h1];exact g.own
theorem JCi{c:Nat}:∀ {ds:List D},JBO f ds≠.exc c
 | []=>λh=>by unfold JBO at h;cases h
 |x::xs=>λh=>by
  unfold JBO at h;cases q:f x with
  |ok o =>
   rw[q]at h;cases o with
   |none=>exact JCi h
   |some y =>
    cases q2:JBO f xs with
    |ok ys=>simp![q2]at h;cases h
    |exc c=>simp![q2]at h;cases h
    |bad=>simp![q2]at h;cases h
  |exc c=>rw[q]at h;cases h
  |bad=>rw[q]at h;cases h
section
variable{X:Cx}{B:Bs}{C:Cn}{CX:CXT}{XX:Nat->Hp->Prop}{G:Lz}{a b c tg:Expr}{x y z:E}{pos p:Pos}
abbrev itemF(C:Cn)(k:Nat)(x y:E)(U:Env)(d:D):R (Option D):=(push k d U).bind λU1=>(evT C y U1).bind λt=>if t=true then (ev C x U1).bind λz=>.ok (some z) else .ok none
def JK0{d:D}(ok:Sok B Y H U)(dn:Den B H d v):Sok B (some v::Y) H (.val d::U):=by
 intro i d' e;cases i with
 |zero =>
  have:d=d':=by
   have e':(R.ok d:R D)=.ok d':=e;injection e'
  subst this;exact#[v,rfl,dn]
 |succ i=>exact ok i d' e
def Rp(F:D->R (Option D))(zs:List D):Unit->List D->List D->Prop:=λ_ ds ys=>∃rest,JBO F ds=.ok rest/\zs=ys++rest
def JLh{n k:Nat}
  (hst:∀zp s pre H d v u U1,pre.length=n->push k d U=.ok U1->Inv X' zp (pre++Y) H s->RelV v u->Den B H d v->Sok B Y H U->wpAny (model X'.prog X'.w) X'.A (assign target X'.env u) (λ_ s2=>∃P:St,P.length=n/\Inv X' zp (P++Y) H s2/\Sok B (P++Y) H U1) noE s)
  (he:PE X' elt (RE B C (λ_ _=>False) x)) (hc:∀c,ifs=[c]->PT X' c (RT B C (λ_ _=>False) y)) (hifs:ifs=[]/\y=.cbl true\/∃c,ifs=[c]) (hxe:X'.xe=noE) :
  JBz X' (Sts.one B) Y n U target elt ifs (Rp (itemF C k x y U) zs):=by
 rintro zp s pre H _ d ds ys v u hpre ⟨rest,hR,hz⟩ _ I r dn ok;unfold JBO at hR;cases qF:itemF C k x y U d with
 |exc c=>rw[qF]at hR;cases hR
 |bad=>rw[qF]at hR;cases hR
 |ok o =>
 rw[qF]at hR;unfold itemF at qF;cases qp:push k d U with
 |exc c=>rw[qp]at qF;cases qF
 |bad=>rw[qp]at qF;cases qF
 |ok U1 =>
 rw[qp]at qF;have hF':(evT C y U1).bind (λt=>if t=true then (ev C x U1).bind λz=>.ok (some z) else .ok none)=.ok o:=qF;refine thn (hst zp s pre H d v u U1 hpre qp I r dn ok) λ_ s2 h_=>?_;obtain⟨P,hlen,I2,ok1⟩:=h_;have elt_go:∀(s3:Shared) (H3:Hp) (t:Bool),Inv X' zp (P++Y) H3 s3->Same H H3->evT C y U1=.ok t ->
    (if t=true then wpAny (model X'.prog X'.w) X'.A (eval elt X'.env) (λxv s₄=>∃(t':Unit) (z:D) (pre':St) (H':Hp) (w:V),Rp (itemF C k x y U) zs t' ds (ys++[z])/\pre'.length=n/\Inv X' zp (pre'++Y) H' s₄/\Same H H'/\RelV w xv/\Den B H' z w) noE s3
      else ∃(t':Unit) (pre':St) (H':Hp),Rp (itemF C k x y U) zs t' ds ys/\pre'.length=n/\Inv X' zp (pre'++Y) H' s3/\Same H H'):=by
  intro s3 H3 t I3 s23 qt;rw[qt]at hF';cases t with
  |true =>
    rw[if_pos rfl];simp![R.bind,if_true]at hF';cases qx:ev C x U1 with
    |ok z =>
      simp![qx]at hF';have eo:o=some z:=by injection hF' with h;exact h.symm
      subst eo;cases qr:JBO (itemF C k x y U) ds with
      |exc c=>simp![qr]at hR;cases hR
      |bad=>simp![qr]at hR;cases hR
      |ok rs =>
      simp![qr]at hR;have hr:z::rs=rest:=by injection hR
      have hh:=he zp s3 (P++Y) H3 (λw H'=>Same H3 H'/\Den B H' z w) I3 #[_,ok1.mono s23,by rw[qx];exact λw H' s' d'=>#[s',d']]
      rw[hxe]at hh;exact thn hh λx' s4 ⟨w,H',I4,rw4,s34,d4⟩=>#[(),z,P,H',w,#[rs,qr,by rw[hz,<-hr];simp],hlen,I4,s23.trans s34,rw4,d4]
    |exc c=>simp![qx]at hF';cases hF'
    |bad=>simp![qx]at hF';cases hF'
  |false =>
    rw[if_neg Bool.false_ne_true];simp![R.bind,q_v,if_false]at hF';have eo:o=none:=by injection hF' with h;exact h.symm
    subst eo;exact#[(),P,H3,#[rest,hR,hz],hlen,I3,s23]
 rcases hifs with ⟨e1,e2⟩|⟨c',e1⟩
 ·subst e1;subst e2;exact wpAny_tests_nil (elt_go s2 H true I2 (Same.refl _) (by simp![evT]))
 ·subst e1;refine wpAny_tests_one ?_;cases qt:evT C y U1 with
  |ok t =>
    have hh:=hc c' rfl zp s2 (P++Y) H (λt' H'=>t'=t/\Same H H') I2 #[_,ok1,by rw[qt];exact λH' s'=>#[rfl,s']]
    rw[hxe]at hh;refine thn hh λt' s3 h_=>?_;obtain⟨H3,I3,e3,s23⟩:=h_;subst e3;exact elt_go s3 H3 t' I3 s23 qt
  |exc c=>rw[qt]at hF';cases hF'
  |bad=>rw[qt]at hF';cases hF'
def JJT(hN0:X'.N.Nodup)(hN:X'.N[0]? = some nm)(hloc:X'.env.scope.names.lookup nm=some .local)(hxe:X'.xe=noE)(zp:Pq)(s:Shared)(pre:St)(H:Hp)(d:D)(v:V)(u:Value)(U1:Env)(hpre:pre.length=1)(hp:push 0 d U=.ok U1)(I:Inv X' zp (pre++Y) H s)(r:RelV v u)(dn:Den B H d v)(ok:Sok B Y H U):wpAny (model X'.prog X'.w) X'.A (assign (.Name nm px) X'.env u) (λ_ s2=>∃P:St,P.length=1/\Inv X' zp (P++Y) H s2/\Sok B (P++Y) H U1) noE s:=by
 obtain⟨p0,rfl⟩:∃p0,pre=[p0]:=by
  match pre,hpre with
  | [p0],_=>exact#[p0,rfl]
 have e:(.val d::U)=U1:=by injection hp
 subst e;have hst:=JEm (X:=X') (pos:=px) hN0 hN (.inl hloc) (.inr hloc) zp s ([p0]++Y) H v u (λY' H'=>Y'=some v::Y/\H'=H) I r #[rfl,rfl];rw[hxe]at hst;refine thn hst λ_ s2 h_=>?_;obtain⟨Y2,H2,I2,e1,e2⟩:=h_;subst e1;subst e2;exact#[[some v],rfl,I2,JK0 ok dn]
def REF(B:Bs)(C:Cn)(XX:Nat->Hp->Prop)(x:E):TE:=λY H Q=>∃U,Sok B Y H U/\(match ev C x U with
 |.ok d=>∀D ds xs H1,d=ds->Same H H1->H1 D=none->OwnO B H1 ds xs->Q (.ref D) (upd H1 D xs)
 |.exc c=>XX c H
 |.bad=>False)
def REF.of{e:Expr}(h:PE X e (REF B C XX x))(hl:∀U d,ev C x U=.ok d->∃ds,d=.list ds):PE X e (RE B C XX x) :=
 PE.imp h λY H Q h_=>by
  obtain⟨U,ok,k⟩:=h_;refine#[U,ok,?_];cases q:ev C x U with
  |ok d =>
   rw[q]at k;intro D ds xs H1 e s1 hD dn;refine k _ _ (s1.trans (JAq hD)) ?_;subst e;obtain⟨ys,rfl⟩:=hl U _ q;exact(OwnO.mono (JAq hD) _ xs dn).den JAF
  |exc c=>rw[q]at k;exact k
  |bad=>rw[q]at k;exact k
def JSb(g:Gk X B C CX XX G)(h:PA X es (RA B C XX x))(hl:cnt x<=1000):PE X (.List es pos) (REF B C XX (.lst x)) :=
 PE.imp (JJk h) λY H Q h_=>by
  obtain⟨U,ok,k⟩:=h_;simp![ev]at k;refine#[U,ok,?_];cases q:evA C x U with
  |ok ds =>
   rw[q]at k;intro vs H1 s1 d1;have e1:=DenL.len ds vs d1;have e2:=JC1 x U ds q;exact#[by rw[sizeLine_eq];omega,λp hp=>k p _ (.lst vs) H1 rfl s1 hp d1]
  |exc c=>rw[q]at k;exact k
  |bad=>rw[q]at k;exact k.elim
def JGs[Cool G](g:Gk X B C CX XX G){sc:Scope}{k:Nat}(b:BlkOk X sc xs)(hi:PI X target iter (RI B C XX z))(hs:∀v,foldedSetIterable iter X.env v=pure v)
  (hrun:∀Cc fp s0 H0 Y U zs,JBz (JA3 X sc Cc (xs++mask xs 0 X.N) fp s0 H0) (Sts.one B) Y xs.length U target elt ifs (Rp (itemF C k x y U) zs))
  {zp:Pq}{s:Shared}{Y:St}{H:Hp}{Q:VK}{pos':Pos}{use:Option (Value->Sem Unit)}{Q':Vq}(I:Inv X zp Y H s) (h:REF B C XX (.cmpr k x z y) Y H Q)
  (fin:∀(D Cc:Addr) (s':Shared) (m:Mq) (H':Hp),s'.heap.Ns Cc m->Inv X zp Y H' s'->Q (.ref D) H'->H' Cc=none->Cc≠X.env.locals->X.s₀.heap.objs.size<=Cc ->
    (∀x c,X.env.cells.lookup x=some c->c≠Cc)->(∀p∈X.pn++zp,p.1≠Cc)->compPost (model X.prog X.w) X.A X.xe use Q' (.ref D) Cc (.ok .next) s') :
  wpAny (model X.prog X.w) X.A (comprehension (.ListComp elt [#[target,iter,ifs,0]] sc pos) sc X.env pos' (newList []) false (eval iter X.env) use) Q' X.xe s:=by
 obtain⟨U,ok,kk⟩:=h;simp![ev]at kk;cases q:evI C z U with
 |ok ds =>
  simp![q,R.bind]at kk
  split at kk
  · rename_i d hd
    split at hd
    · rename_i hlen
      cases qz:JBO (itemF C k x y U) ds with
      |ok zs =>
       have qz':=qz;unfold itemF at qz';simp![R.bind]at qz';rw[qz']at hd;have hd':PyData.list zs=d:=by injection hd
       refine JIy (Sts.one B) (t0:=()) g b hi hs (λCc fp s0 H0=>hrun Cc fp s0 H0 Y U zs) I trivial ok q hlen #[zs,qz,rfl] ?_;rintro ys D Cc s' m t H3 yv hn J sm ⟨rest,e0,e1⟩ hD dn h1 h2 h3 h4 h5;have e0:rest=[]:=by unfold JBO at e0;injection e0 with e0;exact e0.symm
       rw[e0,List.append_nil]at e1;subst e1;exact fin D Cc s' m _ hn J (kk D _ (.lst yv) H3 hd'.symm sm hD dn) h1 h2 h3 h4 h5
      |exc c=>exact(JCi qz).elim
      |bad=>unfold itemF at qz;simp![R.bind]at qz;rw[qz]at hd;cases hd
    · cases hd
  · rename_i c hd
    exfalso
    split at hd
    · cases qz:JBO (itemF C k x y U) ds with
      |ok zs=>unfold itemF at qz;simp![R.bind]at qz;rw[qz]at hd;cases hd
      |exc c=>exact(JCi qz).elim
      |bad=>unfold itemF at qz;simp![R.bind]at qz;rw[qz]at hd;cases hd
    · cases hd
  · exact kk.elim
 |exc c =>
  simp![q,R.bind]at kk;refine wpAny_comprehension_free rfl hs (b.clos I.ok) b.kind b.loc (wpAny_mono (hi zp s Y H (λ_ _=>False) I #[U,ok,by rw[q];exact kk]) (λxv s₁ h₁=>wpAny_mono h₁ (λitv s₂ h₂=>?_) (λ_ _ e=>e)) (λ_ _ e=>e))
  obtain⟨_,_,_,_,_,_,_,_,_,_,f⟩:=h₂;exact f.elim
 |bad=>simp![q,R.bind]at kk
def JIU[Cool G](g:Gk X B C CX XX G){sc:Scope}{k:Nat}(b:BlkOk X sc xs)(hi:PI X target iter (RI B C XX z))(hs:∀v,foldedSetIterable iter X.env v=pure v)
  (hrun:∀Cc fp s0 H0 Y U zs,JBz (JA3 X sc Cc (xs++mask xs 0 X.N) fp s0 H0) (Sts.one B) Y xs.length U target elt ifs (Rp (itemF C k x y U) zs)) :
  PE X (.ListComp elt [#[target,iter,ifs,0]] sc pos) (REF B C XX (.cmpr k x z y)):=by
 intro zp s Y H Q I h;rw[eval_ListComp];refine JGs (use:=none) g b hi hs hrun I h ?_;intro D Cc s' m H' hn J hq h1 h2 h3 h4 h5;refine#[m,hn,λh' hsb=>?_];have J':=J.turned (h':=h') (t':=s'.toks) (it:=Cc) (λb o hb e=>(hsb.2 b hb).trans e) h1 h2 (.inr h3) h4 h5;exact#[.ref D,H',J',rfl,hq]
def JLs[Cool G](g:Gk X B C CX XX G){sc:Scope}{k i:Nat}(b:BlkOk X sc xs)(hi:PI X target iter (RI B C XX z))(hs:∀v,foldedSetIterable iter X.env v=pure v)
  (hrun:∀Cc fp s0 H0 Y U zs,JBz (JA3 X sc Cc (xs++mask xs 0 X.N) fp s0 H0) (Sts.one B) Y xs.length U target elt ifs (Rp (itemF C k x y U) zs))
  (hsw:swapsWith (.ListComp elt [#[target,iter,ifs,0]] sc pos) (some (.Name nm px)) spos.line X.env=pure true) (hnd:X.N.Nodup) (hN:X.N[i]? = some nm) (hloc:X.env.scope.names.lookup nm=some .local) :
  PS X (.Assign [.Name nm px] (.ListComp elt [#[target,iter,ifs,0]] sc pos) spos) (tAsg (REF B C XX (.cmpr k x z y)) (JGF i)):=by
 intro zp s Y H D I h;rw[exec_Assign_Name_used _ _ _ _ hsw];refine q_b (wpAny_standAt (q_b ?_));show wpAny _ _ (do let _<-comprehension (.ListComp elt [⟨target,iter,ifs,0⟩] sc pos) sc X.env _ (newList []) false (eval iter X.env) (some (assign (.Name nm px) X.env))) _ _ s
 refine q_b (wpAny_mono (JGs (use:=some (assign (.Name nm px) X.env)) (Q':=λ_ s'=>SP X zp D .next s') g b hi hs hrun I h ?_) (λ_ s' hq=>q_e (q_e hq)) λ_ _ e=>e);intro Da Cc s' m H' hn J hq h1 h2 h3 h4 h5;show wpAny _ _ (assign (.Name nm px) X.env (.ref Da)) _ _ s';refine wpAny_assign_Name (JF9 J hnd hN (.inl hloc) (v:=.ref Da) rfl (λs2 J2 hch=>?_) (.inr hloc));obtain⟨a,sb,ha⟩:=hch;have hne:Cc≠a:=by
  rcases ha with z|z
  · rw[z];exact h2
  · exact λe=>h4 nm a z e.symm
 refine#[m,hn.sameBut sb hne,λh' hsb=>?_];exact#[_,H',J2.turned (h':=h') (t':=s2.toks) (it:=Cc) (λb o hb e=>(hsb.2 b hb).trans e) h1 h2 (.inr h3) h4 h5,hq]
end
def JR0{sc:Scope}(hk:X.env.scope.kind=.function)(hn:X.env.scope.names=names)(hN:X.N=N)(hs:sc.kind=.function)(h:JCJ names sc.names xs N=true):BlkOk X sc xs:=by
 subst hn;subst hN;unfold JCJ at h;simp![q_i,List.all_eq_true]at h;obtain⟨⟨⟨⟨h1,h2⟩,h3⟩,h4⟩,h5⟩:=h;refine#[hs,λy hy=>?_,λy hy hl=>?_,λn hm=>?_,λx hx=>?_,λy hy hx=>?_,λi hi hv=>?_,of_decide_eq_true h5]
 ·have:=(h1 y hy).1.1;intro e;rw[e]at this;simp at this
 ·have:=(h1 y hy).1.2;rw[hl]at this;simpa using this
 ·have:=(h1 (n,.free) hm).2;simpa[PySem.Env.kindOf] using this
 ·simpa using h2 x hx
 ·have:=h3 y hy;simp![Bool.or_eq_true,bne_iff_ne,ne_eq]at this;rcases this with e|e
  ·exact absurd (by simpa using e) hx
  ·exact e
 ·have:=h4 i (List.mem_range.mpr hi);unfold Vis at hv;rw[JBB hk]at hv;rcases hv with e|e|e<;>(rw[e]at this;simp[vis]at this)
section
variable{X:Cx}{B:Bs}{C:Cn}{CX:CXT}{XX:Nat->Hp->Prop}{G:Lz}{pos p:Pos}{names:Nq}{N:List Str}{n:Nat}
theorem allA(g:Gk X B C CX XX G)(ih:∀e x,JAL G n false names N e=some x->PE X e (RE B C XX x)):∀ {es:List Expr}{x:E},JAM (JAL G n false names N) es=some x->PA X es (RA B C XX x)
 | [],x,h=>by unfold JAM at h;cases h;exact a_nil
 |e::es,x,h=>by
  unfold JAM at h;obtain⟨a,h1,h⟩:=q_a.mp h;obtain⟨b,h2,h⟩:=q_a.mp h;cases h;exact JP5 g (ih e a h1) (allA g ih h2) (JAx h1 es X.env)
theorem JMC(g:Gk X B C CX XX G)(ih:∀e x,JAL G n false names N e=some x->PE X e (RE B C XX x)/\PT X e (RT B C XX x)):∀ {es:List Expr}{x:E},JA7 .and (JAL G n false names N) es=some x ->
  PE X (.BoolOp .And es pos) (RE B C XX x)/\PW X (.BoolOp .And es pos) (RT B C XX x)
 | [],x,h=>by unfold JA7 at h;cases h
 | [e],x,h=>by
  unfold JA7 at h;exact#[JL9 (ih e x h).1,JPP (ih e x h).2]
 |e::e'::es,x,h=>by
  unfold JA7 at h;obtain⟨a,h1,h⟩:=q_a.mp h;obtain⟨b,h2,h⟩:=q_a.mp h;cases h;obtain⟨q1,q2⟩:=JMC g ih h2;exact#[s_and g (ih e a h1).1 q1,w_and g (ih e a h1).2 q2]
theorem JSQ(g:Gk X B C CX XX G)(ih:∀e x,JAL G n false names N e=some x->PE X e (RE B C XX x)/\PT X e (RT B C XX x)):∀ {es:List Expr}{x:E},JA7 .or (JAL G n false names N) es=some x ->
  PE X (.BoolOp .Or es pos) (RE B C XX x)/\PW X (.BoolOp .Or es pos) (RT B C XX x)
 | [],x,h=>by unfold JA7 at h;cases h
 | [e],x,h=>by
  unfold JA7 at h;exact#[JL9 (ih e x h).1,JJm (ih e x h).2]
 |e::e'::es,x,h=>by
  unfold JA7 at h;obtain⟨a,h1,h⟩:=q_a.mp h;obtain⟨b,h2,h⟩:=q_a.mp h;cases h;obtain⟨q1,q2⟩:=JSQ g ih h2;exact#[s_or g (ih e a h1).1 q1,w_or g (ih e a h1).2 q2]
def JA9{x:Str}{k:GK}(h:glob G names x=some k):JAT x=false/\names.lookup x=some .globalImplicit/\G.lookup x=some k:=by
 unfold glob at h
 split at h
 ·cases h
 ·rename_i hb
  split at h
  ·rename_i hg;exact#[by simpa using hb,hg,h]
  ·cases h
def JR4(hn:X.env.scope.names=names)(h:vis (names.lookup x)=true):Vis X.env.scope x:=by
 unfold Vis;rw[hn];cases q:names.lookup x with
 |none=>rw[q]at h;cases h
 |some k=>cases k<;>simp_all [vis]
def JBl(hn:X.env.scope.names=names)(h:names.lookup x=some .globalImplicit):Gl X x:=by
 show X.env.scope.names.lookup x=_;rw[hn];exact h
def JHK{d d' r:D}(h:cmpD op d d'=.ok r):∃k,r=.bool k:=by
 have bi:∀ {q:R Bool}{f:Bool->Bool},(q.bind λb=>.ok (.bool (f b)))=R.ok r->∃k,r=.bool k:=λ{q f} h=>by
  cases q<;>cases h;exact#[_,rfl]
 cases op<;>simp![cmpD]at h<;>first|exact bi (f:=id) h|exact bi h|skip
 all_goals (repeat' split at h)<;>first|exact bi (f:=id) h|exact bi h|(cases h;exact⟨_,rfl⟩)|cases h
def JGf{d:D}(h:ev C (.cmp op x y) U=.ok d):∃k,d=.bool k:=by
 simp![ev]at h;cases q:ev C x U with
 |ok dx =>
  cases q2:ev C y U with
  |ok dy=>rw[q,q2]at h;exact JHK h
  |exc c=>rw[q,q2]at h;cases h
  |bad=>rw[q,q2]at h;cases h
 |exc c=>rw[q]at h;cases h
 |bad=>rw[q]at h;cases h
end
end VI
end
section
namespace VI
open PySem PySem.Spec PyProof.Rows L2
section
variable{X:Cx}{B:Bs}{C:Cn}{CX:CXT}{XX:Nat->Hp->Prop}{G:Lz}{a b c:Expr}{x y z:E}{pos p:Pos}
def JEk{H:Hp}{q:Addr}{o:HO}(h:H q=none):Same H (upd H q o):=λb u e=>by rw[JAI (JAd e h)];exact e
def JPB(g:Gk X B C CX XX G){lo hi:Option Int}(hs:sliceOf i=some (lo,hi))(ha:PE X a (RE B C XX x)):PE X (.Subscript a i pos) (RE B C XX (.fn1 (.slice lo hi) x)):=by cases hs
def JPn(g:Gk X B C CX XX G)(ho:o1Of ty=some o)(hf:JBN ty=some f)(hg:Gl X f)(hl:G.lookup f=some (.ty ty))(hb:JAT f=false)(ha:PE X a (RE B C XX x))
 (he:starEach [a] X.env=[(false,eval a X.env)]):PE X (.Call (.Name f p) [a] [] pos) (RE B C XX (.fn1 o x)):=by cases ho
theorem JEN:∀ {ys:List D}{d:D},allD ys=.ok d->∃bs:List Bool,ys=bs.map PyData.bool/\d=.bool (bs.all id)
 | [],d,h=>by simp![allD]at h;cases h;exact#[[],rfl,rfl]
 |y::r,d,h=>by
  cases y<;>simp![allD,reduceCtorEq]at h;rename_i b
  split at h
  ·rename_i c e;cases h;obtain⟨bs,h1,h2⟩:=JEN e;refine#[b::bs,by rw[h1];rfl,?_]
   simp![PyData.bool.injEq]at h2;simp![List.all_cons,id,h2]
  ·cases h
def JLg:∀ {ys:List D}{c:Nat},allD ys≠.exc c
 | [],c=>by simp![allD];intro h;cases h
 |y::r,c=>by
  cases y<;>simp![allD]<;>first|(intro h;cases h;done)|skip
  split<;>(intro h;cases h)
theorem JEL:∀ {bs:List Bool}{vs:List V},DenL B H (bs.map PyData.bool) vs->vs=bs.map V.bl
 | [],vs,h=>by simpa only[List.map_nil,DenL] using h
 |b::bs,vs,h=>by
  simp![List.map_cons,DenL,Den]at h;obtain⟨v,r,e,q,l⟩:=h;subst e;subst q;rw[JEL l];rfl
theorem JEP:∀ {bs:List Bool}{us:List Value},Vals (bs.map V.bl) us->us=bs.map Value.bool
 | [],us,h=>by cases h;rfl
 |b::bs,us,h=>by
  cases h with
  |cons r1 r2 =>
   cases r1;rw[JEP r2];rfl
def all_range(bs:List Bool):((List.range bs.length).all λi=>bs.getD i false)=bs.all id:=by
 rw[Bool.eq_iff_iff];simp![List.all_eq_true,List.mem_range,id];constructor
 ·intro h b hb;obtain⟨i,hi,e⟩:=List.getElem_of_mem hb;have:=h i hi;rw[List.getD_eq_getElem?_getD,q_q hi]at this;simpa[e] using this
 ·intro h i hi;rw[List.getD_eq_getElem?_getD,q_q hi];exact h _ (List.getElem_mem hi)
def JIe[Cool G](g:Gk X B C CX XX G):JCE X (.builtin "all") (λvs H Q=>∃ds,DenL B H ds vs/\KE B XX (bltD .all ds) H Q):=by
 rintro zp s Y H vs us Q I r ⟨ds,dn,k⟩
 match ds,dn,k with
 | [.list ys],dn,k =>
  simp![DenL,Den]at dn;obtain⟨v,r1,e,⟨a,xs,e1,hq,dl⟩,e2⟩:=dn;subst e2;subst e1;subst e;cases r with
  |cons ra rb =>
   cases rb;cases ra;rw[<-g.K]at hq;obtain⟨its,rv,p,hz⟩:=I.list hq;simp![bltD]at k;cases hk:allD ys with
   |ok d =>
    rw[hk]at k;obtain⟨bs,e1,e2⟩:=JEN hk;subst e1;subst e2;have e3:=JEL dl;subst e3;have e4:=JEP rv;subst e4;have hA:X.A.handled=none:=I.ok.hd (g.calm inferInstance);have hlt:a<s.heap.objs.size:=by
     obtain⟨o,n,ho,_⟩:=p;exact q_h ho
    refine call_all_walk (wpAny_pyIter_list p.isList ?_);have hne:a≠s.heap.objs.size:=q_l hlt;refine#[s.heap.objs.size,_,_,_,_,_,(λi=>bs.getD i false),rfl,Walks.list (prog:=X.prog) (w:=X.w) (A:=X.A.in1) hA s.heap.objs.size a hne (bs.map Value.bool).toArray,?_,?_,?_]
    ·exact#[#[_,q_k _ rfl,rfl,rfl],p.isList.at λo e=>q_c _ e]
    ·intro i v s' Q' E' hP hQ;simp![List.getElem?_toArray,List.getElem?_map]at hP;obtain⟨b,hb,rfl⟩:=q_d.mp hP;refine wpAny_truthy_bool ?_;have hQ:Q' (bs.getD i false) s':=hQ;rw[List.getD_eq_getElem?_getD,hb]at hQ;exact hQ
    ·intro h' tk hk';refine#[.bl _,H,I.kept λb o e=>hk' b o ?_ (q_c _ e),rfl,?_]
     ·simp![List.mem_singleton];exact q_l (q_h e)
     ·have:((List.range (bs.map Value.bool).toArray.size).all λi=>bs.getD i false)=bs.all id:=by
       rw[q_f,q_g];exact all_range bs
      rw[this];exact KE.ok k (by simp![Den])
   |exc c=>exact(JLg hk).elim
   |bad=>rw[hk]at k;exact k.elim
 | [],_,k=>exact fF k
 | [.none],_,k=>exact fF k
 | [.bool _],_,k=>exact fF k
 | [.int _],_,k=>exact fF k
 | [.str _],_,k=>exact fF k
 | [.tuple _],_,k=>exact fF k
 | [.dict _],_,k=>exact fF k
 |d1::d2::r,_,k=>cases d1<;>exact fF k
end
end VI
end
section
namespace VI
open PySem PySem.Spec PyProof.Rows L2
section
variable{X:Cx}{B:Bs}{C:Cn}{CX:CXT}{XX:Nat->Hp->Prop}{G:Lz}{a b c tg:Expr}{x y z:E}{pos p:Pos}
def JLy(g:Gk X B C CX XX G){j:Nat}(ha:PE X a (RE B C XX x)):PT X (.Compare a [.Is] [.Constant .none j pos'] pos) (RT B C XX (.isN x false)) :=
 PT.imp (JMK (JMm ha)) λY H Q h_=>by
  obtain⟨U,ok,k⟩:=h_;simp![evT]at k;refine RE.of (W:=λr H=>KB XX r H Q) ok (λ_ _ z=>z) (λ_ z=>z) k λd v H1 s1 d1 h1=>?_;exact#[isNone d,by rw[JDR d1],by simpa using h1 H1 s1]
def JNj(g:Gk X B C CX XX G){j:Nat}(ha:PE X a (RE B C XX x)):PT X (.Compare a [.IsNot] [.Constant .none j pos'] pos) (RT B C XX (.isN x true)) :=
 PT.imp (JMK (JIZ ha)) λY H Q h_=>by
  obtain⟨U,ok,k⟩:=h_;simp![evT]at k;refine RE.of (W:=λr H=>KB XX r H Q) ok (λ_ _ z=>z) (λ_ z=>z) k λd v H1 s1 d1 h1=>?_;exact#[!isNone d,by rw[JDR d1],by simpa using h1 H1 s1]
end
def JJV{k:Nat}(U:Env)(d:D)(h:ev C (.cmpr k x z y) U=.ok d):∃ds,d=.list ds:=by
 simp![ev]at h;cases q:evI C z U with
 |ok xs =>
  simp![q,R.bind]at h
  split at h
  ·cases qz:JBO (itemF C k x y U) xs with
   |ok zs=>unfold itemF at qz;simp![R.bind]at qz;rw[qz]at h;cases h;exact#[zs,rfl]
   |exc c=>exact(JCi qz).elim
   |bad=>unfold itemF at qz;simp![R.bind]at qz;rw[qz]at h;cases h
  ·cases h
 |exc c=>simp![q,R.bind]at h;cases h
 |bad=>simp![q,R.bind]at h;cases h
@[reducible]def Ow:=Nat->Option Addr
open Classical in
abbrev hidP(H:Hp)(P:Addr->Prop):Hp:=λb=>if P b then none else H b
def ownP(O:Ow)(b:Addr):Prop:=∃i,O i=some b
noncomputable abbrev hid(H:Hp)(O:Ow):Hp:=hidP H (ownP O)
def JAN(B:Bs)(H₀ H:Hp)(O:Ow)(Y:St)(i:Nat):Option Sl->Prop
 |some (.own d)=>∃a ds xs,O i=some a/\d=ds/\Y[i]? = some (some (.ref a))/\H a=some xs/\H₀ a=none/\OwnO B (hid H O) ds xs
 |some (.val d)=>O i=none/\∃v,Y[i]? = some (some v)/\Den B (hid H O) d v
 |_=>O i=none
structure SO(B:Bs)(H₀:Hp)(Y:St)(H:Hp)(U:Env)(O:Ow):Prop where
 len:Y.length=U.length
 same:Same H₀ H
 inj:∀i j a,O i=some a->O j=some a->i=j
 slot:∀i,JAN B H₀ H O Y i U[i]?
def JFE(X:Cx)(B:Bs)(XX:Nat->Hp->Prop)(Hb:Hp)(D:Ends):Fl->Prop
 |.nx U=>∀Y H O,SO B Hb Y H U O->D.nx Y H
 |.rt d=>∀v H,Same Hb H->Den B H d v->D.rt v H
 |.bk U=>∀Y H O,SO B Hb Y H U O->D.bk Y H
 |.ct U=>∀Y H O,SO B Hb Y H U O->D.ct Y H
 |.ex c=>XX c Hb
 |.bad=>False
def RSt(X:Cx)(B:Bs)(C:Cn)(XX:Nat->Hp->Prop)(t:S):TS:=λD Y H=>∃U O Hb,Dm X.H₀ Hb/\SO B Hb Y H U O/\JFE X B XX Hb D (exec C t U)
section
variable{B:Bs}{C:Cn}{CX:CXT}{G:Lz}
def PEs(X:Cx)(B:Bs)(C:Cn)(XX:Nat->Hp->Prop):List Expr->E->Prop
 | [],.nil=>True
 |a::r,.cons x y=>PE X a (RE B C XX x)/\PEs X B C XX r y
 |_,_=>False
structure XOk(B:Bs)(C:Cn)(CX:CXT)(G:Lz)(k:XO):Prop where
 val:∀(X:Cx) (XX:Nat->Hp->Prop),Gk X B C CX XX G->∀(e:Expr) (args:List Expr) (y:E),xRaw G X.env.scope.names false e=some (k,args)->PEs X B C XX args y->PA X args (RA B C XX y)->(∀a∈args,∀es env,starEach (a::es) env=(false,eval a env)::starEach es env)->cnt y=args.length->PE X e (RE B C XX (.xop k y))
 itr:∀(X:Cx) (XX:Nat->Hp->Prop),Gk X B C CX XX G->∀(tg e:Expr) (args:List Expr) (y:E),xRaw G X.env.scope.names true e=some (k,args)->PA X args (RA B C XX y)->(∀a∈args,∀es env,starEach (a::es) env=(false,eval a env)::starEach es env)->cnt y=args.length->PI X tg e (RI B C XX (.xop k y))
structure RO(B:Bs)(C:Cn)(CX:CXT)(G:Lz):Prop where
 count:G.lookup (".met":Str)=some GK.opt->∀(X:Cx) (XX:Nat->Hp->Prop),Gk X B C CX XX G->∀(o a:Expr) (x y:E) (ap cp:Pos),JAU o=false->(ap.endLine==cp.line)=true->PE X o (RE B C XX x)->PE X a (RE B C XX y)->starEach [a] X.env=[(false,eval a X.env)] ->
  PE X (.Call (.Attribute o "count" ap) [a] [] cp) (RE B C XX (.mcount x y))
 index:G.lookup (".met":Str)=some GK.opt->∀(X:Cx) (XX:Nat->Hp->Prop),Gk X B C CX XX G->∀(o a:Expr) (x y:E) (ap cp:Pos),JAU o=false->(ap.endLine==cp.line)=true->PE X o (RE B C XX x)->PE X a (RE B C XX y)->starEach [a] X.env=[(false,eval a X.env)] ->
  PE X (.Call (.Attribute o "index" ap) [a] [] cp) (RE B C XX (.mindex x y))
 all:G.lookup ("all":Str)=some (.blt .all)->∀(X:Cx) (XX:Nat->Hp->Prop),Gk X B C CX XX G->JCE X (.builtin "all") (λvs H Q=>∃ds,DenL B H ds vs/\KE B XX (bltD .all ds) H Q)
 rvs:G.lookup (".rvs":Str)=some GK.opt->∀(X:Cx) (XX:Nat->Hp->Prop),Gk X B C CX XX G->∀(a i:Expr) (x:E) (pos:Pos),JSy i=true->PE X a (RE B C XX x)->PE X (.Subscript a i pos) (RE B C XX (.fn1 .rev x))
def RcOk(B:Bs)(C:Cn)(CX:CXT)(G:Lz):Prop:=∀(X:Cx) (XX:Nat->Hp->Prop),Gk X B C CX XX G->∀(e:Expr) (q:Nat×Option Nat) (args:List Expr) (y:E),mRaw G X.env.scope.names e=some (q,args)->PEs X B C XX args y->(∀a∈args,∀es env,starEach (a::es) env=(false,eval a env)::starEach es env)->PE X e (RE B C XX (mkM q y))/\PT X e (RT B C XX (mkM q y))
structure Rare(B:Bs)(C:Cn)(CX:CXT)(G:Lz):Prop where
 nox:∀outer H s e s',¬CX outer H s (EX B λ_ _=>False) e s'
 isi:∀(X:Cx) (XX:Nat->Hp->Prop),Gk X B C CX XX G->∀(a:Expr) (x:E) (t:Str) (ty:Ty) (p pt pos:Pos),Gl X "isinstance"->Gl X t->G.lookup ("isinstance":Str)=some GK.isi->(G.lookup t=some (.ty ty)/\JBN ty=some t\/∃c,ty=.own c/\G.lookup t=some (.cls c))->JAT t=false ->
  PE X a (RE B C XX x)->starEach [a,.Name t pt] X.env=(false,eval a X.env)::starEach [.Name t pt] X.env->PE X (.Call (.Name "isinstance" p) [a,.Name t pt] [] pos) (RE B C XX (.isi x ty))
 xop:∀k:XO,G.lookup k.flag=some GK.opt->XOk B C CX G k
 rcd:G.lookup (".rec":Str)=some GK.opt->RcOk B C CX G
 ro:RO B C CX G
def JDX{e:Expr}{q:(Nat×Option Nat)×List Expr}(h:mOf G names e=some q):mRaw G names e=some q/\G.lookup (".rec":Str)=some GK.opt:=by
 unfold mOf at h
 split at h
 ·exact#[h,by assumption]
 ·cases h
def JGp{it:Bool}{e:Expr}{q:XO×List Expr}(h:xOf G names it e=some q):xRaw G names it e=some q/\G.lookup q.1.flag=some GK.opt:=by
 unfold xOf at h;obtain⟨r,h1,h2⟩:=q_a.mp h
 split at h2
 ·cases h2;exact#[h1,by assumption]
 ·cases h2
theorem JDO{n:Nat}:∀ {es:List Expr}{x:E},JAM (JAL G n false names N) es=some x->∀a∈es,∀r env,starEach (a::r) env=(false,eval a env)::starEach r env
 |e::es,x,h,a,ha,r,env=>by
  unfold JAM at h;obtain⟨y,h1,h⟩:=q_a.mp h;obtain⟨z,h2,h⟩:=q_a.mp h;rcases q_n.mp ha with z|ha
  ·subst z;exact JAx h1 r env
  ·exact JDO h2 a ha r env
theorem pes{n:Nat}(ih:∀e x,JAL G n false names N e=some x->PE X e (RE B C XX x)):∀ {es:List Expr}{x:E},JAM (JAL G n false names N) es=some x->PEs X B C XX es x
 | [],x,h=>by unfold JAM at h;cases h;exact trivial
 |e::r,x,h=>by
  unfold JAM at h;obtain⟨y,h1,h⟩:=q_a.mp h;obtain⟨z,h2,h⟩:=q_a.mp h;cases h;exact#[ih e y h1,pes ih h2]
def SndAt(B:Bs)(C:Cn)(CX:CXT)(G:Lz)(n:Nat):Prop:=∀(X:Cx) (XX:Nat->Hp->Prop) (names:Nq) (N:List Str),Gk X B C CX XX G->X.env.scope.kind=.function->X.env.scope.names=names->X.N=N->N.Nodup ->
 (∀e x,JAL G n false names N e=some x->PE X e (RE B C XX x)/\PT X e (RT B C XX x))/\(∀tg e x,JAL G n true names N e=some x->PI X tg e (RI B C XX x))
def JJs{n:Nat}(ih:SndAt B C CX G n)(nox:∀outer H s e s',¬CX outer H s (EX B λ_ _=>False) e s')(g:Gk X B C CX XX G)(hk:X.env.scope.kind=.function)(hn:X.env.scope.names=names)(hN:X.N=N)(hnd:N.Nodup)
  {elt:Expr}{gens:List Comprehension}{sc:Scope}{p:Pos}{x:E}(h:JAW G (JAL G n) false names N (.ListComp elt gens sc p)=some x) :
  Cool G/\∃target iter ifs xs k y z w,gens=[#[target,iter,ifs,0]]/\x=.cmpr k y z w/\BlkOk X sc xs/\PI X target iter (RI B C XX z)/\(∀v,foldedSetIterable iter X.env v=pure v) /\
   ∀Cc fp s0 H0 Y U zs,JBz (JA3 X sc Cc (xs++mask xs 0 X.N) fp s0 H0) (Sts.one B) Y xs.length U target elt ifs (Rp (itemF C k y w U) zs):=by
 match gens,h with
 | [],h=>exact JAO h
 |⟨_,_,_,_⟩::_::_,h=>exact JAO h
 | [⟨tg,iter,ifs,as⟩],h =>
  dsimp only[JAW]at h
  split at h
  ·cases h
  ·rename_i hc;have hc1:as=0:=Decidable.byContradiction λz=>hc (.inr (.inl z));have hc2:sc.kind=.function:=Decidable.byContradiction λz=>hc (.inr (.inr (.inl z)));have hco:Cool G:=JEs λz=>hc (.inr (.inr (.inr z)));subst hc1;refine#[hco,?_]
   split at h
   ·cases h
   ·rename_i k xs htg
    split at h
    ·rename_i hs;obtain⟨i,hi,h⟩:=q_a.mp h;obtain⟨y,hy,h⟩:=q_a.mp h;have bk:=JR0 hk hn hN hc2 hs;have inner:=λ(Cc:Addr) (fp:List Addr) (s0:Shared) (H0:Hp)=>ih (JA3 X sc Cc (xs++mask xs 0 X.N) fp s0 H0) (λ_ _=>False) (JA0 names sc.names) (xs++mask xs 0 N)
      (Gk.nox g rfl rfl rfl rfl rfl rfl rfl λ_ _ _ _ _ _ _ z=>(nox _ _ _ _ _ z).elim) hc2 (by rw[<-hn];exact JBB hk) (by rw[<-hN];rfl) (by rw[<-hN];exact bk.nd)
     have hloc:∀Cc fp s0 H0,∀nm∈xs,(JA3 X sc Cc (xs++mask xs 0 X.N) fp s0 H0).env.scope.names.lookup nm=some .local:=λCc fp s0 H0 nm hnm=>by
      show(compEnvC sc (JA5 X.env.cells sc.names []) Cc X.env).scope.names.lookup nm=_;rw[JBB hk];exact JCQ (bk.tg nm hnm)
     have key:∀(w:E),(ifs=[]/\w=.cbl true\/∃c,ifs=[c])->(∀c,ifs=[c]->JAL G n false (JA0 names sc.names) (xs++mask xs 0 N) c=some w)->∃target iter' ifs' xs' k' y' z w',[(#[tg,iter,ifs,0]:Comprehension)]=[#[target,iter',ifs',0]]/\E.cmpr k y i w=.cmpr k' y' z w'/\BlkOk X sc xs'/\PI X target iter' (RI B C XX z)/\(∀v,foldedSetIterable iter' X.env v=pure v) /\
        ∀Cc fp s0 H0 Y U zs,JBz (JA3 X sc Cc (xs'++mask xs' 0 X.N) fp s0 H0) (Sts.one B) Y xs'.length U target elt ifs' (Rp (itemF C k' y' w' U) zs):=λw h1 h2=>by
      refine#[tg,iter,ifs,xs,k,y,i,w,rfl,rfl,bk,(ih X XX names N g hk hn hN hnd).2 _ iter i hi,JGR hi X.env,λCc fp s0 H0 Y U zs=>?_];have he:=((inner Cc fp s0 H0).1 elt y hy).1;have hcs:=λc (hc:ifs=[c])=>((inner Cc fp s0 H0).1 c w (h2 c hc)).2;cases tg with
      |Name nm px =>
        simp![JGV,q_j,Prod.mk.injEq]at htg;obtain⟨e1,e2⟩:=htg;subst e1;subst e2;exact JLh (JJT (by exact bk.nd) rfl (hloc Cc fp s0 H0 nm (by simp)) rfl) he hcs h1 rfl
      |_=>simp[JGV]at htg
     match ifs,h,key with
     | [],h,key=>cases h;exact key _ (.inl #[rfl,rfl]) λc hc=>by cases hc
     | [c],h,key =>
      obtain⟨w,hw,h⟩:=q_a.mp h;cases h;exact key w (.inr #[c,rfl]) λc' hc=>by cases hc;exact hw
     |_::_::_,h,_=>cases h
    ·cases h
theorem sound(ra:Rare B C CX G):∀(n:Nat) (X:Cx) (XX:Nat->Hp->Prop) (names:Nq) (N:List Str),Gk X B C CX XX G->X.env.scope.kind=.function->X.env.scope.names=names->X.N=N->N.Nodup ->
  (∀e x,JAL G n false names N e=some x->PE X e (RE B C XX x)/\PT X e (RT B C XX x))/\(∀tg e x,JAL G n true names N e=some x->PI X tg e (RI B C XX x))
 |0,X,XX,names,N,g,hk,hn,hN,hnd=>#[λe x h=>by simp[JAL,JAr,JAW]at h,λtg e x h=>by simp[JAL,JAr,JAW]at h]
 |n+1,X,XX,names,N,g,hk,hn,hN,hnd=>by
  obtain⟨ih,ihI⟩:=sound ra n X XX names N g hk hn hN hnd;have ihE:∀e x,JAL G n false names N e=some x->PE X e (RE B C XX x):=λe x h=>(ih e x h).1;have truthOf:∀ {e:Expr}{x:E},PE X e (RE B C XX x)->(∀whole,isTrue e X.env whole=(do let v<-whole;standAt e.pos;holding [v] (truthy v)))->(∀U,evT C x U=(ev C x U).bind truth)->PE X e (RE B C XX x)/\PT X e (RT B C XX x) :=
    λh1 h2 h3=>#[h1,JI2 g h1 h2 h3]
  have valOnly:∀ {e:Expr}{x:E},PE X e (RE B C XX x)->(∀U,evT C x U=.bad)->PE X e (RE B C XX x)/\PT X e (RT B C XX x):=λh1 h2=>#[h1,t_bad h2];have nameE:∀(b:Bool) (x:Str) (p:Pos) (y:E),xOf G names b (.Name x p)=none/\mOf G names (.Name x p)=none->JAL G (n+1) b names N (.Name x p)=some y->PE X (.Name x p) (RE B C XX y)/\((∀U,evT C y U=(ev C y U).bind truth)\/∀U,evT C y U=.bad)/\∀U,evI C y U=(ev C y U).bind JBJ:=by
    intro b x p y hxx h;rw[JAD hxx]at h;dsimp only[JAW]at h
    split at h
    ·cases h
    ·rename_i hb;have hb':JAT x=false:=by simpa using hb
     split at h
     · rename_i hv
       obtain⟨i,hi,e⟩:=q_d.mp h;subst e;exact#[s_var (by rw[hN];exact JD0 hi) (JR4 hn hv) hb',(.inl λU=>by simp![evT,ev]),λU=>by simp![evI,ev]]
     · split at h
       ·rename_i i hg;cases h;obtain⟨_,h2,h3⟩:=JA9 hg;exact#[s_glo g (JBl hn h2) h3 hb',(.inr λU=>by simp![evT]),λU=>by simp![evI,ev]]
       ·cases h
  have callE:∀(b:Bool) (f:Str) (p pos:Pos) (args:List Expr) (y:E),xOf G names b (.Call (.Name f p) args [] pos)=none/\mOf G names (.Call (.Name f p) args [] pos)=none->JAL G (n+1) b names N (.Call (.Name f p) args [] pos)=some y->(∃i x,y=.call i x/\PE X (.Call (.Name f p) args [] pos) (RE B C XX y)) \/
     (b=false/\((∃i x,y=.blt i x)\/(∃a t,y=.isi a t)\/∃o a,y=.fn1 o a)/\PE X (.Call (.Name f p) args [] pos) (RE B C XX y))\/(b=true/\∃x,y=.rng x/\∀tg,PI X tg (.Call (.Name f p) args [] pos) (RI B C XX y)):=by
    intro b f p pos args y hxx h;rw[JAD hxx]at h;dsimp only[JAW]at h
    split at h
    ·rename_i i hg;obtain⟨h1,h2,h3⟩:=JA9 hg
     split at h
     · rename_i e r
       obtain⟨x,hx,e'⟩:=q_d.mp h;subst e';obtain⟨a,ha,hx'⟩:=q_a.mp (by unfold JAM at hx;exact hx)
       exact .inl #[i,x,rfl,s_call g (JBl hn h2) h3 h1 (allA g ihE hx) (JAx ha r X.env) (JCc hx)]
     · cases h
    ·rename_i hg;obtain⟨h1,h2,h3⟩:=JA9 hg
     split at h
     · rename_i hb
       obtain⟨hb1,hb2⟩:=hb;subst hb2
       split at h
       ·rename_i a;obtain⟨x,hx,e'⟩:=q_d.mp h;subst e';obtain⟨a',ha,_⟩:=q_a.mp (by unfold JAM at hx;exact hx)
        exact .inr (.inr #[hb1,x,rfl,λtg=>JRl g (JBl hn h2) (g.rng _ h3) (allA g ihE hx) (JAu hx) (JAx ha [] X.env)])
       ·rename_i a a2;obtain⟨x,hx,e'⟩:=q_d.mp h;subst e';obtain⟨a',ha,hr⟩:=q_a.mp (by unfold JAM at hx;exact hx)
        obtain⟨r',hr',_⟩:=q_a.mp hr;obtain⟨a2',ha2,_⟩:=q_a.mp (by unfold JAM at hr';exact hr')
        exact .inr (.inr #[hb1,x,rfl,λtg=>JRn g (JBl hn h2) (g.rng _ h3) (allA g ihE hx) (JAu hx) (by rw[JAx ha [a2] X.env,JAx ha2 [] X.env];rfl) (JAx ha2 [] X.env)])
       ·cases h
     · cases h
    ·rename_i bl hg;obtain⟨h1,h2,h3⟩:=JA9 hg
     split at h
     · rename_i hb
       obtain⟨hb1,hb2⟩:=hb
       split at h
       ·rename_i e r;obtain⟨x,hx,e'⟩:=q_d.mp h;subst e';obtain⟨a,ha,hx'⟩:=q_a.mp (by unfold JAM at hx;exact hx)
        refine .inr (.inl #[hb1,.inl #[bl,x,rfl],?_]);subst hb2;cases bl with
        |len=>exact JPE g (JIR g) PySem.boot_len (JBl hn h2) h3 h1 (allA g ihE hx) (JAx ha r X.env) (JCc hx)
        |abs=>exact JPE (id:="abs") g (JJv g) (by decide +kernel) (JBl hn h2) h3 h1 (allA g ihE hx) (JAx ha r X.env) (JCc hx)
        |all=>exact JPE (id:="all") g (ra.ro.all h3 X XX g) (by decide +kernel) (JBl hn h2) h3 h1 (allA g ihE hx) (JAx ha r X.env) (JCc hx)
       ·cases h
     · cases h
    ·rename_i hg;obtain⟨h1,h2,h3⟩:=JA9 hg
     split at h
     · rename_i hb
       obtain⟨hb1,hb2⟩:=hb;subst hb2
       split at h
       ·rename_i a t pt
        split at h
        ·rename_i ty hgt;obtain⟨t1,t2,t3⟩:=JA9 hgt
         split at h
         · rename_i ht
           obtain⟨x,hx,e'⟩:=q_d.mp h;subst e';exact .inr (.inl #[hb1,.inr (.inl #[x,ty,rfl]),ra.isi X XX g a x t ty p pt pos (JBl hn h2) (JBl hn t2) h3 (.inl #[t3,ht]) t1 (ihE a x hx) (JAx hx _ X.env)])
         · cases h
        ·rename_i c hgt;obtain⟨t1,t2,t3⟩:=JA9 hgt;obtain⟨x,hx,e'⟩:=q_d.mp h;subst e';exact .inr (.inl #[hb1,.inr (.inl #[x,.own c,rfl]),ra.isi X XX g a x t (.own c) p pt pos (JBl hn h2) (JBl hn t2) h3 (.inr #[c,rfl,t3]) t1 (ihE a x hx) (JAx hx _ X.env)])
        ·cases h
       ·cases h
     · cases h
    ·rename_i ty hg;obtain⟨h1,h2,h3⟩:=JA9 hg
     split at h
     · rename_i hb
       obtain⟨hb1,hb2⟩:=hb;obtain⟨o,ho,h⟩:=q_a.mp h
       match args,h with
       | [a],h =>
        obtain⟨x,hx,e'⟩:=q_d.mp h;subst e';exact .inr (.inl #[hb1,.inr (.inr #[o,x,rfl]),JPn g ho hb2 (JBl hn h2) h3 h1 (ihE a x hx) (JAx hx [] X.env)])
       | [],h=>cases h
       |_::_::_,h=>cases h
     · cases h
    ·cases h
  have tupE:∀(b:Bool) (es:List Expr) (k:Nat) (p:Pos) (y:E),xOf G names b (.Tuple es k p)=none/\mOf G names (.Tuple es k p)=none->JAL G (n+1) b names N (.Tuple es k p)=some y->∃x,y=.tup x/\PE X (.Tuple es k p) (RE B C XX y):=by
    intro b es k p y hxx h;rw[JAD hxx]at h;dsimp only[JAW]at h
    split at h
    ·rename_i hl;obtain⟨x,hx,e'⟩:=q_d.mp h;subst e';exact#[x,rfl,s_tup g (allA g ihE hx) (by rw[JAu hx];exact hl)]
    ·cases h
  have lstE:∀(b:Bool) (es:List Expr) (p:Pos) (y:E),xOf G names b (.List es p)=none/\mOf G names (.List es p)=none->JAL G (n+1) b names N (.List es p)=some y->∃x,y=.lst x/\PE X (.List es p) (RE B C XX y):=by
    intro b es p y hxx h;rw[JAD hxx]at h;dsimp only[JAW]at h
    split at h
    ·rename_i hl;obtain⟨x,hx,e'⟩:=q_d.mp h;subst e';exact#[x,rfl,s_lst g (allA g ihE hx) (by rw[JAu hx];exact hl)]
    ·cases h
  have subE:∀(b:Bool) (a i:Expr) (p:Pos) (y:E),xOf G names b (.Subscript a i p)=none/\mOf G names (.Subscript a i p)=none->JAL G (n+1) b names N (.Subscript a i p)=some y->((∃x z,y=.idx x z)\/∃o x,y=.fn1 o x)/\PE X (.Subscript a i p) (RE B C XX y):=by
    intro b a i p y hxx h;rw[JAD hxx]at h;dsimp only[JAW]at h
    split at h
    ·split at h
     · rename_i hr
       split at h
       case isFalse=>cases h
       rename_i hfl;obtain⟨x,hx,e'⟩:=q_d.mp h;subst e';exact#[.inr #[_,x,rfl],ra.ro.rvs hfl X XX g a i x p hr (ihE a x hx)]
     · obtain⟨q,hq,h⟩:=q_a.mp h
       obtain⟨x,hx,e'⟩:=q_d.mp h;subst e';exact#[.inr #[_,x,rfl],JPB g hq (ihE a x hx)]
    ·rename_i hs;obtain⟨x,hx,h⟩:=q_a.mp h;obtain⟨z,hz,h⟩:=q_a.mp h;cases h;exact#[.inl #[x,z,rfl],s_idx g (ihE a x hx) (ihE i z hz) (by simpa using hs)]
  constructor
  · intro e x h
    cases hxx:xOf G names false e with
    |some q =>
     rw[JHV hxx]at h;obtain⟨y,hy,e'⟩:=q_d.mp h;subst e';obtain⟨q1,q2⟩:=JGp hxx;exact valOnly ((ra.xop q.1 q2).val X XX g e q.2 y (by rw[hn];exact q1) (pes ihE hy) (allA g ihE hy) (JDO hy) (JAu hy)) λU=>by simp![evT]
    |none =>
    cases hmm:mOf G names e with
    |some q =>
     rw[JGy hxx hmm]at h;obtain⟨y,hy,e'⟩:=q_d.mp h;subst e';exact ra.rcd (JDX hmm).2 X XX g e q.1 q.2 y (by rw[hn];exact(JDX hmm).1) (pes ihE hy) (JDO hy)
    |none =>
    replace hxx:xOf G names false e=none/\mOf G names e=none:=#[hxx,hmm]
    cases e with
    |Name nm p =>
     obtain⟨h1,h2,_⟩:=nameE false nm p x hxx h;rcases h2 with h2|h2
     · exact truthOf h1 (λ_=>rfl) h2
     · exact valOnly h1 h2
    |Constant c j p =>
     rw[JAD hxx]at h;dsimp only[JAW]at h;cases c<;>simp![q_j,reduceCtorEq]at h<;>subst h
     · exact valOnly s_non λU=>by simp![evT]
     · exact truthOf s_bl (λ_=>rfl) λU=>by simp![evT,ev,R.bind,truth]
     · exact valOnly s_int λU=>by simp![evT]
     · exact valOnly s_str λU=>by simp![evT]
    |Tuple es k p =>
     obtain⟨y,rfl,h1⟩:=tupE false es k p x hxx h;exact valOnly h1 λU=>by simp![evT]
    |List es p =>
     obtain⟨y,rfl,h1⟩:=lstE false es p x hxx h;exact valOnly h1 λU=>by simp![evT]
    |Subscript a i p =>
     obtain⟨⟨y,z,rfl⟩|⟨o,y,rfl⟩,h1⟩:=subE false a i p x hxx h
     · exact truthOf h1 (λ_=>rfl) λU=>by simp![evT,ev]
     · exact valOnly h1 λU=>by simp![evT]
    |BinOp a op b p =>
     rw[JAD hxx]at h;dsimp only[JAW]at h
     split at h
     · rename_i ho
       obtain⟨y,hy,h⟩:=q_a.mp h;obtain⟨z,hz,h⟩:=q_a.mp h;cases h;exact valOnly (JQF g (ihE a y hy) (ihE b z hz)) λU=>by simp![evT]
     · cases h
    |UnaryOp op a p =>
     rw[JAD hxx]at h;dsimp only[JAW]at h;cases op<;>simp![q_d,reduceCtorEq]at h
     · obtain⟨y,hy,e'⟩:=h
       subst e';exact#[s_not g (ihE a y hy),JK4 g (ih a y hy).2]
     · obtain⟨y,hy,e'⟩:=h
       subst e';exact valOnly (s_neg g (ihE a y hy)) λU=>by simp![evT]
    |BoolOp op es p =>
     rw[JAD hxx]at h;dsimp only[JAW]at h;cases op
     · obtain⟨q1,q2⟩:=JMC g ih h
       exact#[q1,q2.pt]
     · obtain⟨q1,q2⟩:=JSQ g ih h
       exact#[q1,q2.pt]
    |Compare a ops bs p =>
     match ops,bs,h with
     | [op],[b],h =>
       rw[JAD hxx]at h;dsimp only[JAW]at h;rw[if_neg Bool.false_ne_true]at h;have cmpd:∀(y z:E),PE X a (RE B C XX y)->PE X b (RE B C XX z)->behindInMarks op b=false->PE X (.Compare a [op] [b] p) (RE B C XX (.cmp op y z))/\PT X (.Compare a [op] [b] p) (RT B C XX (.cmp op y z)):=λy z h1 h2 hm =>
        #[JAg g h1 h2 hm,JMB op (JGe (JOI g op) h1 h2 hm) (λY H Q ⟨U,ok,k⟩=>two g (f:=cmpD op) (λx y H dx dy h1 h2 k=>#[dx,dy,h1,h2,k]) #[U,ok,by simpa only[ev] using k]) (λU=>by simp![evT,ev]) λU d h=>JGf h]
       cases op<;>simp only at h<;>first
        |(split at h
          · cases h
          · rename_i hm
            obtain⟨y,hy,h⟩:=q_a.mp h;obtain⟨z,hz,h⟩:=q_a.mp h;cases h;exact cmpd y z (ihE a y hy) (ihE b z hz) (by simpa using hm))
        |skip
       ·split at h
        ·obtain⟨y,hy,e'⟩:=q_d.mp h;subst e';exact#[s_isN g (ihE a y hy),JLy g (ihE a y hy)]
        ·cases h
       ·split at h
        ·obtain⟨y,hy,e'⟩:=q_d.mp h;subst e';exact#[JOQ g (ihE a y hy),JNj g (ihE a y hy)]
        ·cases h
     | [],_,h=>exact JAO ((JAD hxx).symm.trans h)
     |_::_::_,_,h=>exact JAO ((JAD hxx).symm.trans h)
     | [_],[],h=>exact JAO ((JAD hxx).symm.trans h)
     | [_],_::_::_,h=>exact JAO ((JAD hxx).symm.trans h)
    |IfExp c a b p =>
     rw[JAD hxx]at h;dsimp only[JAW]at h;rw[if_neg Bool.false_ne_true]at h;obtain⟨z,hz,h⟩:=q_a.mp h;obtain⟨y,hy,h⟩:=q_a.mp h;obtain⟨w,hw,h⟩:=q_a.mp h;cases h;exact valOnly (s_ife g (ih c z hz).2 (ihE a y hy) (ihE b w hw)) λU=>by simp![evT]
    |Call f args kws p =>
     cases f with
     |Name nm p2 =>
       cases kws with
       |nil =>
        rcases callE false nm p2 p args x hxx h with ⟨i,y,rfl,h1⟩|⟨_,hs,h1⟩|⟨hb,_⟩
        ·exact truthOf h1 (λ_=>rfl) λU=>by simp![evT,ev]
        ·rcases hs with ⟨i,y,rfl⟩|⟨y,t,rfl⟩|⟨o,y,rfl⟩
         · exact truthOf h1 (λ_=>rfl) λU=>by simp![evT,ev]
         · exact truthOf h1 (λ_=>rfl) λU=>by simp![evT,ev]
         · exact valOnly h1 λU=>by simp![evT]
        ·cases hb
       |cons k ks=>exact JAO ((JAD hxx).symm.trans h)
     |Attribute o m ap =>
       cases kws with
       |cons k ks=>match args,h with
        | [],h=>exact JAO ((JAD hxx).symm.trans h)
        | [_],h=>exact JAO ((JAD hxx).symm.trans h)
        | [_,_],h=>exact JAO ((JAD hxx).symm.trans h)
        |_::_::_::_,h=>exact JAO ((JAD hxx).symm.trans h)
       |nil=>match args,h with
        | [],h=>exact JAO ((JAD hxx).symm.trans h)
        |_::_::_,h=>exact JAO ((JAD hxx).symm.trans h)
        | [a],hh =>
         clear h;rw[JAD hxx]at hh;dsimp only[JAW]at hh
         split at hh
         · rename_i hc
           split at hh
           · rename_i hm
             subst hm;obtain⟨y,hy,hh⟩:=q_a.mp hh;obtain⟨z,hz,hh⟩:=q_a.mp hh;cases hh;exact valOnly (ra.ro.count hc.2 X XX g o a y z ap p hc.1.2.1 hc.1.2.2 (ihE o y hy) (ihE a z hz) (JAx hz [] X.env)) λU=>by simp![evT]
           · split at hh
             ·rename_i hm;subst hm;obtain⟨y,hy,hh⟩:=q_a.mp hh;obtain⟨z,hz,hh⟩:=q_a.mp hh;cases hh;exact valOnly (ra.ro.index hc.2 X XX g o a y z ap p hc.1.2.1 hc.1.2.2 (ihE o y hy) (ihE a z hz) (JAx hz [] X.env)) λU=>by simp![evT]
             ·cases hh
         · cases hh
     |_=>exact JAO ((JAD hxx).symm.trans h)
    |ListComp elt gens sc p =>
     rw[JAD hxx]at h;obtain⟨_,tg,iter,ifs,xs,k,y,z,w,rfl,rfl,bk,hi,hf,hr⟩:=JJs (sound ra n) ra.nox g hk hn hN hnd h;exact valOnly (REF.of (JIU g bk hi hf hr) JJV) λU=>by simp![evT]
    |_=>exact JAO ((JAD hxx).symm.trans h)
  · intro tg e x h
    cases hxx:xOf G names true e with
    |some q =>
     rw[JHV hxx]at h;obtain⟨y,hy,e'⟩:=q_d.mp h;subst e';obtain⟨q1,q2⟩:=JGp hxx;exact(ra.xop q.1 q2).itr X XX g tg e q.2 y (by rw[hn];exact q1) (allA g ihE hy) (JDO hy) (JAu hy)
    |none =>
    cases hmm:mOf G names e with
    |some q =>
     rw[JGy hxx hmm]at h;obtain⟨y,hy,e'⟩:=q_d.mp h;subst e';exact JFe g (ra.rcd (JDX hmm).2 X XX g e q.1 q.2 y (by rw[hn];exact(JDX hmm).1) (pes ihE hy) (JDO hy)).1 λU=>by obtain⟨z,hz⟩:=JHG q.1 y;rw[hz];simp![evI,ev]
    |none =>
    replace hxx:xOf G names true e=none/\mOf G names e=none:=#[hxx,hmm]
    cases e with
    |Name nm p =>
     obtain⟨h1,_,h3⟩:=nameE true nm p x hxx h;exact JFe g h1 h3
    |Tuple es k p =>
     obtain⟨y,rfl,h1⟩:=tupE true es k p x hxx h;refine JFe g h1 λU=>?_;simp![evI,ev];cases evA C y U<;>rfl
    |List es p =>
     obtain⟨y,rfl,h1⟩:=lstE true es p x hxx h;refine JFe g h1 λU=>?_;simp![evI,ev];cases evA C y U<;>rfl
    |Subscript a i p =>
     obtain⟨⟨y,z,rfl⟩|⟨o,y,rfl⟩,h1⟩:=subE true a i p x hxx h
     · exact JFe g h1 λU=>by simp![evI,ev]
     · exact JFe g h1 λU=>by simp![evI,ev]
    |Call f args kws p =>
     cases f with
     |Name nm p2 =>
       cases kws with
       |nil =>
        rcases callE true nm p2 p args x hxx h with ⟨i,y,rfl,h1⟩|⟨hb,_⟩|⟨_,y,rfl,h1⟩
        ·exact JFe g h1 λU=>by simp![evI,ev]
        ·cases hb
        ·exact h1 tg
       |cons k ks=>exact JAO ((JAD hxx).symm.trans h)
     |Attribute o m ap =>
       cases kws with
       |cons k ks=>match args,h with
        | [],h=>exact JAO ((JAD hxx).symm.trans h)
        | [_],h=>exact JAO ((JAD hxx).symm.trans h)
        | [_,_],h=>exact JAO ((JAD hxx).symm.trans h)
        |_::_::_::_,h=>exact JAO ((JAD hxx).symm.trans h)
       |nil=>match args,h with
        | [],h=>exact JAO ((JAD hxx).symm.trans h)
        | [_],h=>exact JAO ((JAD hxx).symm.trans h)
        | [_,_],h=>exact JAO ((JAD hxx).symm.trans h)
        |_::_::_::_,h=>exact JAO ((JAD hxx).symm.trans h)
     |_=>exact JAO ((JAD hxx).symm.trans h)
    |Compare a ops bs p=>match ops,bs,h with
     | [_],[_],h=>exact JAO ((JAD hxx).symm.trans h)
     | [],_,h=>exact JAO ((JAD hxx).symm.trans h)
     |_::_::_,_,h=>exact JAO ((JAD hxx).symm.trans h)
     | [_],[],h=>exact JAO ((JAD hxx).symm.trans h)
     | [_],_::_::_,h=>exact JAO ((JAD hxx).symm.trans h)
    |ListComp elt gens sc p=>match gens,h with
     | [],h=>exact JAO ((JAD hxx).symm.trans h)
     |⟨_,_,_,_⟩::_::_,h=>exact JAO ((JAD hxx).symm.trans h)
     | [⟨tg,iter,ifs,as⟩],h=>exact JAO ((JAD hxx).symm.trans h)
    |BinOp a op b p =>
     rw[JAD hxx]at h;dsimp only[JAW]at h
     split at h
     · obtain⟨y,hy,h⟩:=q_a.mp h
       obtain⟨z,hz,h⟩:=q_a.mp h;cases h;exact JFe g (JQF g (ihE a y hy) (ihE b z hz)) λU=>by simp![evI,ev]
     · cases h
    |_=>exact JAO ((JAD hxx).symm.trans h)
def JJf(ra:Rare B C CX G){n:Nat}(g:Gk X B C CX XX G)(hk:X.env.scope.kind=.function)(hn:X.env.scope.names=names)(hN:X.N=N)(hnd:N.Nodup)
  {elt:Expr}{gens:List Comprehension}{sc:Scope}{p:Pos}{x:E}(h:JAL G n false names N (.ListComp elt gens sc p)=some x) :
  Cool G/\∃target iter ifs xs k y z w,gens=[#[target,iter,ifs,0]]/\x=.cmpr k y z w/\BlkOk X sc xs/\PI X target iter (RI B C XX z)/\(∀v,foldedSetIterable iter X.env v=pure v) /\
   ∀Cc fp s0 H0 Y U zs,JBz (JA3 X sc Cc (xs++mask xs 0 X.N) fp s0 H0) (Sts.one B) Y xs.length U target elt ifs (Rp (itemF C k y w U) zs):=by
 cases n with
 |zero=>exact JAO h
 |succ n=>exact JJs (sound ra n) ra.nox g hk hn hN hnd ((JAD #[rfl,by unfold mOf;split<;>rfl]).symm.trans h)
def JJU(ra:Rare B C CX G){n:Nat}(g:Gk X B C CX XX G)(hk:X.env.scope.kind=.function)(hn:X.env.scope.names=names)(hN:X.N=N)(hnd:N.Nodup)
  {es:List Expr}{p:Pos}{x:E}(h:JAL G n false names N (.List es p)=some x):PE X (.List es p) (REF B C XX x):=by
 cases n with
 |zero=>simp[JAL,JAr,JAW,xOf,Option.bind_none,ite_self,xRaw,mOf,mRaw]at h
 |succ n =>
  simp![JAL,JAr,JAW,xOf,Option.bind_none,ite_self,xRaw,Option.bind_none,mOf,mRaw]at h
  split at h
  ·rename_i hl;obtain⟨y,hx,e'⟩:=q_d.mp h;subst e';exact JSb g (allA g (λe x h=>((sound ra n X XX names N g hk hn hN hnd).1 e x h).1) hx) (by rw[JAu hx];exact hl)
  ·cases h
end
def Agr(x:E)(U U':Env):Prop:=∀i,x.uses i=true->U[i]? = U'[i]?
def JLY{i:Nat}(h:U[i]? = U'[i]?):look U i=look U' i:=by unfold look;rw[h]
def JK8{k:Nat}{d:D}(h:push k d U=.ok U1):∃U1',push k d U'=.ok U1'/\∀x:E,(∀i,x.uses (i+(if k=0 then 1 else k))=true->U[i]? = U'[i]?)->Agr x U1 U1':=by
 cases k with
 |zero =>
  have e:(.val d::U)=U1:=by injection h
  subst e;refine#[_,rfl,λx hx i hi=>?_];cases i with
  |zero=>rfl
  |succ i=>simpa using hx i hi
 |succ k =>
  unfold push at h ⊢;cases d<;>first|cases h|skip
  rename_i ds;simp only at h ⊢
  split at h
  ·rename_i hl;have e:ds.map Sl.val++U=U1:=by injection h
   subst e;rw[if_pos hl];refine#[_,rfl,λx hx i hi=>?_]
   by_cases hi2:i<ds.length
   ·rw[q_B (by simpa using hi2),q_B (by simpa using hi2)]
   ·rw[List.getElem?_append_right (by simpa using hi2),List.getElem?_append_right (by simpa using hi2)]
    simp![q_g];refine hx _ ?_;rw[if_neg (Nat.succ_ne_zero k),<-hl,Nat.sub_add_cancel ∅]
    exact hi
  ·cases h
def JLw{k:Nat}{d:D}(h:push k d U=.bad):push k d U'=.bad:=by
 cases k with
 |zero=>cases h
 |succ k =>
  unfold push at h ⊢;cases d<;>first|rfl|skip
  simp only at h ⊢
  split at h
  ·cases h
  ·rename_i hl;rw[if_neg hl]
def JLn{k c:Nat}{d:D}:push k d U≠.exc c:=by
 cases k with
 |zero=>intro h;cases h
 |succ k =>
  unfold push;cases d<;>simp only<;>(try split)<;>(intro h;cases h)
def ub_l{a b:Bool}(h:a=true):(a || b)=true:=by rw[h];rfl
def ub_r{a b:Bool}(h:b=true):(a || b)=true:=by rw[h];exact Bool.or_true a
def ub_lr{a b c:Bool}(h:b=true):(a || b || c)=true:=ub_l (ub_r h)
def orl{p q:Nat->Bool}{Q:Nat->Prop}(h:∀i,(p i || q i)=true->Q i)(i:Nat)(e:p i=true):Q i:=h i (ub_l e)
def orr{p q:Nat->Bool}{Q:Nat->Prop}(h:∀i,(p i || q i)=true->Q i)(i:Nat)(e:q i=true):Q i:=h i (ub_r e)
def agree(C:Cn)(x:E):∀(U U':Env),Agr x U U'->ev C x U=ev C x U'/\evT C x U=evT C x U'/\evA C x U=evA C x U'/\evI C x U=evI C x U':=by
 induction x with
 |var i=>intro U U' h;simp![ev,evT,evA,evI,JLY (h i (show(i==i)=true from beq_self_eq_true i)),and_self]
 |cint _|cbl _|cnon|cstr _|glo _|nil=>intro U U' h;simp![ev,evT,evA,evI,and_self]
 |bin op a b iha ihb =>
  intro U U' h;have ha:=iha U U' (orl h);have hb:=ihb U U' (orr h);simp![ev,evT,evA,evI,ha.1,hb.1,and_self]
 |neg a iha =>
  intro U U' h;have ha:=iha U U' h;simp![ev,evT,evA,evI,ha.1,and_self]
 |not a iha =>
  intro U U' h;have ha:=iha U U' h;simp![ev,evT,evA,evI,ha.1,ha.2.1,and_self]
 |and a b iha ihb =>
  intro U U' h;have ha:=iha U U' (orl h);have hb:=ihb U U' (orr h);simp![ev,evT,evA,evI,ha.1,hb.1,ha.2.1,hb.2.1,and_self]
 |or a b iha ihb =>
  intro U U' h;have ha:=iha U U' (orl h);have hb:=ihb U U' (orr h);simp![ev,evT,evA,evI,ha.1,hb.1,ha.2.1,hb.2.1,and_self]
 |cmp op a b iha ihb =>
  intro U U' h;have ha:=iha U U' (orl h);have hb:=ihb U U' (orr h);simp![ev,evT,evA,evI,ha.1,hb.1,and_self]
 |isN a n iha =>
  intro U U' h;have ha:=iha U U' h;simp![ev,evT,evA,evI,ha.1,and_self]
 |ife c a b ihc iha ihb =>
  intro U U' h;have hc:=ihc U U' (orl (orl h));have ha:=iha U U' (orr (orl h));have hb:=ihb U U' (orr h);simp![ev,evT,evA,evI,ha.1,hb.1,hc.2.1,and_self]
 |cons a r iha ihr =>
  intro U U' h;have ha:=iha U U' (orl h);have hr:=ihr U U' (orr h);simp![ev,evT,evA,evI,ha.1,hr.2.2.1,and_self]
 |tup es ih =>
  intro U U' h;have ha:=ih U U' h;simp![ev,evT,evA,evI,ha.2.2.1,and_self]
 |lst es ih =>
  intro U U' h;have ha:=ih U U' h;simp![ev,evT,evA,evI,ha.2.2.1,and_self]
 |fn1 o a iha =>
  intro U U' h;have ha:=iha U U' h;simp![ev,evT,evA,evI,ha.1,and_self]
 |xop k es ih =>
  intro U U' h;have ha:=ih U U' h;simp![ev,evT,evA,evI,ha.2.2.1,and_self]
 |idx a b iha ihb =>
  intro U U' h;have ha:=iha U U' (orl h);have hb:=ihb U U' (orr h);simp![ev,evT,evA,evI,ha.1,hb.1,and_self]
 |call f es ih =>
  intro U U' h;have ha:=ih U U' h;simp![ev,evT,evA,evI,ha.2.2.1,and_self]
 |blt b es ih =>
  intro U U' h;have ha:=ih U U' h;simp![ev,evT,evA,evI,ha.2.2.1,and_self]
 |rng es ih =>
  intro U U' h;have ha:=ih U U' h;simp![ev,evT,evA,evI,ha.2.2.1,and_self]
 |isi a t iha =>
  intro U U' h;have ha:=iha U U' h;simp![ev,evT,evA,evI,ha.1,and_self]
 |mcount a b iha ihb =>
  intro U U' h;have ha:=iha U U' (orl h);have hb:=ihb U U' (orr h);simp![ev,evT,evA,evI,ha.1,hb.1,and_self]
 |mindex a b iha ihb =>
  intro U U' h;have ha:=iha U U' (orl h);have hb:=ihb U U' (orr h);simp![ev,evT,evA,evI,ha.1,hb.1,and_self]
 |cmpr k elt iter cond ihe ihi ihc =>
  intro U U' h;have hi:=ihi U U' (orl (orl h));refine#[?_,by simp![evT],by simp![evA],by simp![evI]]
  simp![ev,hi.2.2.2]
  congr 1
  funext xs
  congr 2
  congr 1
  funext d
  cases q:push k d U with
  |ok U1 =>
   obtain⟨U1',q',ag⟩:=JK8 (U':=U') q;rw[q'];have h1:=ihc U1 U1' (ag cond λi hi=>h i (by exact ub_r hi))
   have h2:=ihe U1 U1' (ag elt λi hi=>h i (by exact ub_lr hi))
   simp![R.bind,h1.2.1,h2.1]
  |exc c=>exact(JLn q).elim
  |bad=>rw[JLw (U':=U') q]
def JAw{b:Addr}(h:P b):hidP H P b=none:=by unfold hidP;rw[if_pos h]
def JAH{b:Addr}(h:¬P b):hidP H P b=H b:=by unfold hidP;rw[if_neg h]
def JAy{b:Addr}(h:hidP H P b=some o):¬P b/\H b=some o:=by
 by_cases hp:P b
 ·rw[JAw hp]at h;cases h
 ·rw[JAH hp]at h;exact#[hp,h]
open Classical in
abbrev mixP(H H1:Hp)(P:Addr->Prop):Hp:=λb=>if P b then H b else H1 b
def JBe{b:Addr}(h:P b):mixP H H1 P b=H b:=by unfold mixP;rw[if_pos h]
def JAR{b:Addr}(h:¬P b):mixP H H1 P b=H1 b:=by unfold mixP;rw[if_neg h]
section
variable{X:Cx}{zp ps:Pq}{Y:St}{H H1:Hp}{s s1:Shared}{P:Addr->Prop}
def JKC(I:Inv X zp Y H s){a:Addr}(h:H a=some xs)(h0:X.H₀ a=none):a≠X.env.locals/\a ∉ X.fs:=by
 refine#[λz=>(by rw[z,I.free]at h;cases h),λz=>?_]
 obtain⟨_,o,ho,_⟩:=I.ok.funs.mem z;have:=I.base.free a o ho (I.ok.frf a z) λq=>I.ok.exfs a q z;rw[h]at this;cases this
def JBF(I:Inv X zp Y H s)(hP:∀a,P a->∃xs,H a=some xs/\X.H₀ a=none/\Ownb xs)(hps:∀p∈ps,P p.1/\s.heap.get? p.1=some p.2):Inv X (zp++ps) Y (hidP H P) s where
 ok:=I.ok
 os:=I.os
 bare:=I.bare
 base:=by
  have nP:∀b u,H b=some u->¬Ownb u->¬P b:=λb u e hu hp=>by
   obtain⟨xs,h1,_,h3⟩:=hP b hp;rw[e]at h1;cases h1;exact hu h3
  refine#[I.base.keep,I.base.slot,λb o e n hx=>?_,I.base.there,λb xs e=>?_,λb o u e=>?_,λb t e=>?_]
  ·have:=I.base.free b o e n hx
   by_cases hp:P b
   ·exact JAw hp
   ·rw[JAH hp];exact this
  ·have q:=I.base.tups b xs e;rw[JAH (nP b _ q λz=>z)];exact q
  ·have q:=I.base.frzs b o u e;rw[JAH (nP b _ q λz=>z)];exact q
  ·obtain⟨m,q⟩:=I.base.tbls b t e;exact#[m,by rw[JAH (nP b _ q λz=>z)];exact q]
 loc:=I.loc
 cell:=I.cell
 free:=by
  by_cases hp:P X.env.locals
  ·exact JAw hp
  ·rw[JAH hp];exact I.free
 freeC:=λx c e=>by
  by_cases hp:P c
  ·exact JAw hp
  ·rw[JAH hp];exact I.freeC x c e
 pin:=λp hp=>by
  have old:∀p∈X.pn++zp,s.heap.get? p.1=some p.2/\hidP H P p.1=none/\p.1≠X.env.locals/\p.1 ∉ X.fs/\∀v,p.2.data≠.cell v:=λp hp=>by
   obtain⟨h1,h2,h3⟩:=I.pin p hp;refine#[h1,?_,h3]
   by_cases hq:P p.1
   ·exact JAw hq
   ·rw[JAH hq];exact h2
  rcases List.mem_append.mp hp with z|z
  ·exact old p (List.mem_append_left _ z)
  ·rcases List.mem_append.mp z with z|z
   ·exact old p (q_r _ z)
   ·obtain⟨hq,ho⟩:=hps p z;obtain⟨xs,h1,h0,h9⟩:=hP _ hq;obtain⟨n1,n2⟩:=JKC I h1 h0;refine#[ho,JAw hq,n1,n2,λv e=>?_];cases xs with
    |lst xs =>
     obtain⟨_,its,n,_,e2⟩:=I.hok _ _ h1;rw[ho]at e2;have e3:p.2={ cls:=.type "list",data:=.seq its.toArray n }:=Option.some.inj e2;rw[e3]at e;have e4:Data.seq its.toArray n=Data.cell v:=e;cases e4
    |dK kvs =>
     obtain⟨_,_,vs,_,o2,es,ep,e2,_,e3,_⟩:=I.hok _ _ h1;rw[ho]at e2;cases e2;rw[e]at e3;cases e3
    |_=>exact h9.elim
 hok:=λb u e=>by
  obtain⟨hb,e⟩:=JAy e;refine(I.hok b u e).stay (λc w _ q=>q) (λc q=>?_) λc xs q=>?_
  ·rw[JAH λhc=>by obtain⟨xs,h1,_,h9⟩:=hP c hc;rw[q]at h1;cases h1;exact h9];exact q
  ·rw[JAH λhc=>by obtain⟨ys,h1,_,h9⟩:=hP c hc;rw[q]at h1;cases h1;exact h9];exact q
 len:=I.len
def JAn(I:Inv X zp Y H s)(J:Inv X (zp++ps) Y' H1 s1)(hP:∀a,P a->∃xs,H a=some xs/\X.H₀ a=none/\Ownb xs)(hps:∀a,P a->∃o,(a,o)∈ps/\s.heap.get? a=some o) :
  Inv X zp Y' (mixP H H1 P) s1/\∀a,P a->H1 a=none:=by
 have hpin:∀a,P a->∃o,s1.heap.get? a=some o/\H1 a=none/\s.heap.get? a=some o:=λa ha=>by
  obtain⟨o,hm,ho⟩:=hps a ha;obtain⟨h1,h2,_⟩:=J.pin (a,o) (q_r _ (q_r _ hm));exact#[o,h1,h2,ho]
 have nP:∀b u,H1 b=some u->¬P b:=λb u e hp=>by obtain⟨_,_,h,_⟩:=hpin b hp;rw[e]at h;cases h
 have nS:∀b o,X.s₀.heap.get? b=some o->X.H₀ b=none->b ∉ X.ex->¬P b:=λb o e n hx hp=>by
  obtain⟨xs,h1,_⟩:=hP b hp;have:=I.base.free b o e n hx;rw[h1]at this;cases this
 refine#[#[J.ok,J.os,J.bare,#[J.base.keep,J.base.slot,λb o e n hx=>?_,J.base.there,λb xs e=>?_,λb o u e=>?_,λb t e=>?_],J.loc,J.cell,?_,λx c e=>?_,λp hp=>?_,λb u e=>?_,J.len],λa ha=>?_]
 ·rw[JAR (nS b o e n hx)];exact J.base.free b o e n hx
 ·have q:=J.base.tups b xs e;rw[JAR (nP b _ q)];exact q
 ·have q:=J.base.frzs b o u e;rw[JAR (nP b _ q)];exact q
 ·obtain⟨m,q⟩:=J.base.tbls b t e;exact#[m,by rw[JAR (nP b _ q)];exact q]
 ·rw[JAR λhp=>by obtain⟨xs,h1,_⟩:=hP _ hp;rw[I.free]at h1;cases h1];exact J.free
 ·rw[JAR λhp=>by obtain⟨xs,h1,_⟩:=hP _ hp;rw[I.freeC x c e]at h1;cases h1];exact J.freeC x c e
 ·have hp':p∈X.pn++(zp++ps):=by
   rcases List.mem_append.mp hp with z|z
   ·exact List.mem_append_left _ z
   ·exact q_r _ (List.mem_append_left _ z)
  obtain⟨h1,h2,h3⟩:=J.pin p hp';refine#[h1,?_,h3];rw[JAR λhq=>by
   obtain⟨xs,g1,_⟩:=hP _ hq;have:=(I.pin p hp).2.1;rw[g1]at this;cases this]
  exact h2
 ·by_cases hb:P b
  ·rw[JBe hb]at e;obtain⟨xs,h1,_,h9⟩:=hP b hb;rw[h1]at e;cases e;obtain⟨o,g1,_,g3⟩:=hpin b hb;cases u with
   |lst xs =>
    obtain⟨z,its,n,r,e2⟩:=I.hok b _ h1;rw[g3]at e2;cases e2;exact#[z,its,n,r,g1]
   |dK kvs =>
    obtain⟨z,z2,vs,r,o2,es,ep,e2,z3⟩:=I.hok b _ h1;rw[g3]at e2;cases e2;exact#[z,z2,vs,r,o,es,ep,g1,z3]
   |_=>exact h9.elim
  ·rw[JAR hb]at e;refine(J.hok b u e).stay (λc w _ q=>q) (λc q=>?_) λc xs q=>?_
   ·rw[JAR (nP c _ q)];exact q
   ·rw[JAR (nP c _ q)];exact q
 ·obtain⟨_,_,h,_⟩:=hpin a ha;exact h
end
abbrev JAb(x:E):Nat->Env->Env
 |_,[]=>[]
 |i,s::r=>(if x.uses i=true then s else if s.isOwn=true then .no else s)::JAb x (i+1) r
theorem JDB(x:E):∀(U:Env) (k i:Nat),(JAb x k U)[i]? = (U[i]?).map λs=>if x.uses (k+i)=true then s else if s.isOwn=true then .no else s
 | [],_,_=>by simp[JAb]
 |s::r,k,0=>by simp[JAb]
 |s::r,k,i+1=>by
  have:=JDB x r (k+1) i;rw[show k+1+i=k+(i+1) by omega]at this
  simpa[JAb] using this
theorem JFG(x:E):∀(U:Env) (k i:Nat),(JAJ x k U)[i]? = (U[i]?).map λs=>if x.uses (k+i)=true then s.frz else s
 | [],_,_=>by simp[JAJ]
 |s::r,k,0=>by simp[JAJ]
 |s::r,k,i+1=>by
  have:=JFG x r (k+1) i;rw[show k+1+i=k+(i+1) by omega]at this
  simpa[JAJ] using this
theorem JFt(x:E):∀(U:Env) (k:Nat),(JAJ x k U).length=U.length
 | [],_=>rfl
 |s::r,k=>by simp![JAJ,List.length_cons,JFt x r]
theorem JBh(x:E):∀(U:Env) (k i:Nat) (s:Sl),JAc x k U=false->U[i]? = some s->x.uses (k+i)=true->s.isOwn=false
 | [],_,_,_,_,e,_=>by simp at e
 |s::r,k,0,t,h,e,hu=>by
  unfold JAc at h;simp![Bool.or_eq_false_iff,Bool.and_eq_false_iff]at h;simp![List.getElem?_cons_zero,q_j]at e;subst e;rcases h.1 with z|z
  ·rw[Nat.add_zero]at hu;rw[hu]at z;cases z
  ·exact z
 |s::r,k,i+1,t,h,e,hu=>by
  unfold JAc at h;simp![Bool.or_eq_false_iff]at h;exact JBh x r (k+1) i t h.2 (by simpa using e) (by rw[show k+1+i=k+(i+1) by omega];exact hu)
mutual
theorem JEa(hk:∀b o,H1 b=some o->¬Ownb o->H2 b=some o):∀(d:D) (v:V),JAe d=true->Den B H1 d v->Den B H2 d v
 |.none,_,_,h=>h
 |.bool _,_,_,h=>h
 |.int _,_,_,h=>h
 |.str _,_,_,h=>h
 |.list _,_,n,_=>by simp![JAe]at n;cases n
 |.tuple ds,v,n,h=>by
  simp![Den]at h ⊢;obtain⟨a,xs,e,q,l⟩:=h;refine#[a,xs,e,?_,JCN hk ds xs (by simpa only[JAe] using n) l]
  rcases q with (q|⟨o,q⟩)|q
  ·exact .inl (.inl (hk _ _ q λz=>z))
  ·exact .inl (.inr #[o,hk _ _ q λz=>z])
  ·exact .inr q
 |.dict kvs,v,n,h=>by
  simp![Den]at h ⊢;rcases h with ⟨a,c,e,k,q⟩|⟨a,xs,e,q,l⟩|⟨a,c,e,k,q⟩
  ·exact .inl #[a,c,e,k,hk _ _ q λz=>z]
  rotate_left 1
  ·subst k;simp[JAe]at n
  ·exfalso
   match kvs,n,l with
   | [],n,_=>simp[JAe]at n
   |(k,w)::r,n,l =>
    simp![DenK]at l;obtain⟨x,v',r',_,ek,_⟩:=l;subst ek;simp[JAe]at n
theorem JCN(hk:∀b o,H1 b=some o->¬Ownb o->H2 b=some o):∀(ds:List D) (vs:List V),JA2 ds=true->DenL B H1 ds vs->DenL B H2 ds vs
 | [],_,_,h=>h
 |d::ds,vs,n,h=>by
  simp![DenL]at h ⊢;simp![JA2,q_i]at n;obtain⟨v,r,e,q,l⟩:=h;exact#[v,r,e,JEa hk d v n.1 q,JCN hk ds r n.2 l]
end
section
variable{X:Cx}{B:Bs}{C:Cn}{CX:CXT}{XX:Nat->Hp->Prop}{G:Lz}{zp:Pq}{Y:St}{H:Hp}{s:Shared}{U:Env}{O:Ow}{x:E}{Hb:Hp}
def unP(x:E)(O:Ow)(b:Addr):Prop:=∃i,O i=some b/\x.uses i=false
theorem SO.own(so:SO B Hb Y H U O){i:Nat}{a:Addr}(h:O i=some a):∃ds xs,U[i]? = some (.own ds)/\Y[i]? = some (some (.ref a))/\H a=some xs/\Hb a=none/\OwnO B (hid H O) ds xs:=by
 have q:=so.slot i;cases e:U[i]? with
 |none=>rw[e]at q;simp![JAN]at q;rw[h]at q;cases q
 |some t =>
  rw[e]at q;cases t with
  |no=>simp![JAN]at q;rw[h]at q;cases q
  |val d=>simp![JAN]at q;rw[h]at q;cases q.1
  |own d =>
   simp![JAN]at q;obtain⟨a',ds,xs,e1,e2,e3,e4,e5,e6⟩:=q;rw[h]at e1;cases e1;subst e2;exact#[_,xs,rfl,e3,e4,e5,e6]
abbrev JBi(x:E)(O:Ow)(n:Nat)(h:Heap):Pq :=
 (List.range n).filterMap λi=>match O i with
   |some a=>if x.uses i=true then none else (h.get? a).map λo=>(a,o)
   |none=>none
def JAl(hb:Dm X.H₀ Hb)(so:SO B Hb Y H U O):∀a,unP x O a->∃xs,H a=some xs/\X.H₀ a=none/\Ownb xs:=λa h_=>by
 obtain⟨i,h,_⟩:=h_;obtain⟨ds,xs,_,_,e4,e5,e6⟩:=so.own h;exact#[xs,e4,hb.free e5,e6.b]
def JAo{n:Nat}:∀p∈JBi x O n h,unP x O p.1/\h.get? p.1=some p.2:=λp hp=>by
 obtain⟨i,_,e⟩:=List.mem_filterMap.mp hp;cases q:O i with
 |none=>rw[q]at e;cases e
 |some a =>
  rw[q]at e;simp only at e
  split at e
  ·cases e
  ·rename_i hu;obtain⟨o,ho,e2⟩:=q_d.mp e;subst e2;exact#[#[i,q,by simpa using hu],ho]
def JAj(I:Inv X zp Y H s)(so:SO B Hb Y H U O):∀a,unP x O a->∃o,(a,o)∈JBi x O U.length s.heap/\s.heap.get? a=some o:=λa h_=>by
 obtain⟨i,h,hu⟩:=h_;obtain⟨ds,xs,e1,_,e4,_,e9⟩:=so.own h;obtain⟨oo,ho⟩:∃oo,s.heap.get? a=some oo:=by
  have h9:=e9.b;cases xs with
  |lst xs=>obtain⟨_,its,n,_,ho⟩:=I.hok a _ e4;exact#[_,ho]
  |dK kvs=>obtain⟨_,_,vs,_,o2,es,ep,e2,_⟩:=I.hok _ _ e4;exact#[_,e2]
  |_=>exact h9.elim
 refine#[_,List.mem_filterMap.mpr #[i,List.mem_range.mpr (q_p.mp e1).1,?_],ho];rw[h];simp![hu,q_v,if_false,ho,Option.map_some]
def JAX(so:SO B Hb Y H U O):Same Hb (hid H O):=λb o e=>by
 rw[hid,JAH λ⟨i,h⟩=>by obtain⟨_,_,_,_,_,e5,_⟩:=so.own h;rw[e]at e5;cases e5]
 exact so.same b o e
def same_un:Same (hid H O) (hidP H (unP x O)):=λb o e=>by
 obtain⟨h1,h2⟩:=JAy e;rw[JAH λ⟨i,h,_⟩=>h1 #[i,h]];exact h2
def JAi(so:SO B Hb Y H U O):Sok B Y (hidP H (unP x O)) (JAb x 0 U):=λi d e=>by
 unfold look at e;rw[JDB,Nat.zero_add]at e;have q:=so.slot i;cases e1:U[i]? with
 |none=>rw[e1]at e;cases e
 |some t =>
  rw[e1]at e q;simp![Option.map_some]at e;cases t with
  |no =>
   simp![Sl.isOwn,q_v,if_false,ite_self,Sl.get]at e;cases e
  |val d' =>
   simp![Sl.isOwn,q_v,if_false,ite_self,Sl.get]at e;cases e;simp![JAN]at q;obtain⟨_,v,e2,dn⟩:=q;exact#[v,e2,Den.mono same_un d v dn]
  |own d' =>
   by_cases hu:x.uses i=true
   ·rw[if_pos hu]at e;simp![JAN]at q;obtain⟨a,ds,xs,q1,q2,q3,q4,q5,q6⟩:=q;subst q2;obtain⟨ys,rfl,rfl⟩:∃ys,d'=.list ys/\d=.list ys:=by
     cases d' with
     |list ys=>simp![Sl.get]at e;cases e;exact#[ys,rfl,rfl]
     |dict kvs=>simp![Sl.get]at e;cases e
     |_=>cases xs<;>exact fF q6
    refine#[_,q3,(OwnO.mono same_un _ xs q6).den ?_];rw[JAH λh_=>by
     obtain⟨j,hj,hu2⟩:=h_;have:=so.inj i j a q1 hj;subst this;rw[hu]at hu2;cases hu2]
    exact q4
   ·rw[if_neg hu]at e;simp![Sl.isOwn,if_true,Sl.get]at e;cases e
def JBE:Agr x U (JAb x 0 U):=λi hi=>by
 rw[JDB,Nat.zero_add];cases U[i]? with
 |none=>rfl
 |some t=>simp[hi]
def JDa(so:SO B Hb Y H U O)(sm:Same (hidP H (unP x O)) H1)(hz:∀a,unP x O a->H1 a=none):SO B Hb Y (mixP H H1 (unP x O)) U O:=by
 have s1:Same (hid H O) (hid (mixP H H1 (unP x O)) O):=λb o e=>by
  obtain⟨h1,h2⟩:=JAy e;rw[hid,JAH h1,JAR λ⟨i,h,_⟩=>h1 #[i,h]];exact sm b o (by rw[JAH λ⟨i,h,_⟩=>h1 #[i,h]];exact h2)
 refine#[so.len,λb o e=>?_,so.inj,λi=>?_]
 ·have e1:=JAX so b o e;obtain⟨_,h2⟩:=JAy (s1 b o e1);exact h2
 ·have q:=so.slot i;cases e1:U[i]? with
  |none=>rw[e1]at q;exact q
  |some t =>
   rw[e1]at q;cases t with
   |no=>exact q
   |val d =>
    simp![JAN]at q ⊢;obtain⟨h0,v,e2,dn⟩:=q;exact#[h0,v,e2,Den.mono s1 d v dn]
   |own d =>
    simp![JAN]at q ⊢;obtain⟨a,ds,xs,q1,q2,q3,q4,q5,q6⟩:=q;refine#[a,ds,xs,q1,q2,q3,?_,q5,OwnO.mono s1 ds xs q6]
    by_cases hp:unP x O a
    ·rw[JBe hp];exact q4
    ·rw[JAR hp];exact sm a _ (by rw[JAH hp];exact q4)
abbrev frzO(x:E)(O:Ow):Ow:=λi=>if x.uses i=true then none else O i
def ownP_frz{b:Addr}:ownP (frzO x O) b↔unP x O b:=by
 constructor
 ·rintro⟨i,h⟩;unfold frzO at h
  split at h
  ·cases h
  ·rename_i hu;exact#[i,h,by simpa using hu]
 ·rintro⟨i,h,hu⟩;exact#[i,by unfold frzO;rw[if_neg (by rw[hu];exact Bool.false_ne_true)];exact h]
def JBG(hz:∀a,unP x O a->H1 a=none):Same H1 (hid (mixP H H1 (unP x O)) (frzO x O)):=λb o e=>by
 have hb:¬unP x O b:=λh=>by rw[hz b h]at e;cases e
 rw[hid,JAH (λh=>hb (ownP_frz.mp h)),JAR hb];exact e
def JF6(so:SO B Hb Y H U O)(sm:Same (hidP H (unP x O)) H1)(hz:∀a,unP x O a->H1 a=none):SO B Hb Y (mixP H H1 (unP x O)) (JAJ x 0 U) (frzO x O):=by
 have s1:Same (hid H O) (hid (mixP H H1 (unP x O)) (frzO x O)):=(same_un.trans sm).trans (JBG hz);have k:=JDa so sm hz;refine#[by rw[JFt];exact so.len,k.same,λi j a h1 h2=>?_,λi=>?_]
 ·unfold frzO at h1 h2
  split at h1
  ·cases h1
  ·split at h2
   ·cases h2
   ·exact so.inj i j a h1 h2
 ·rw[JFG,Nat.zero_add];have q:=so.slot i;cases e1:U[i]? with
  |none=>rw[e1]at q;simp![JAN,Option.map_none]at q ⊢;unfold frzO;split<;>first|rfl|exact q
  |some t =>
   rw[e1]at q;simp![Option.map_some];cases t with
   |no =>
    simp![Sl.frz,ite_self,JAN]at q ⊢;unfold frzO;split<;>first|rfl|exact q
   |val d =>
    simp![Sl.frz,ite_self,JAN]at q ⊢;obtain⟨h0,v,e2,dn⟩:=q;exact#[by unfold frzO;split<;>first|rfl|exact h0,v,e2,Den.mono s1 d v dn]
   |own d =>
    by_cases hu:x.uses i=true
    ·rw[if_pos hu];have ho:frzO x O i=none:=by unfold frzO;rw[if_pos hu]
     simp![JAN]at q;obtain⟨a,ds,xs,q1,q2,q3,q4,q5,q6⟩:=q;subst q2;cases d with
     |dict kvs=>simp![Sl.frz,JAN];exact ho
     |none=>cases xs<;>exact fF q6
     |bool _=>cases xs<;>exact fF q6
     |int _=>cases xs<;>exact fF q6
     |str _=>cases xs<;>exact fF q6
     |tuple _=>cases xs<;>exact fF q6
     |list ys =>
     simp![Sl.frz,JAN];refine#[ho,_,q3,(OwnO.mono s1 _ xs q6).den ?_];have hp:¬unP x O a:=λh_=>by
      obtain⟨j,hj,hu2⟩:=h_;have:=so.inj i j a q1 hj;subst this;rw[hu]at hu2;cases hu2
     exact JBG hz a _ (sm a _ (by rw[JAH hp];exact q4))
    ·rw[if_neg hu];simp![JAN]at q ⊢;obtain⟨a,ds,xs,q1,q2,q3,q4,q5,q6⟩:=q;have hp:unP x O a:=#[i,q1,by simpa using hu]
     refine#[a,ds,xs,by unfold frzO;rw[if_neg hu];exact q1,q2,q3,by rw[JBe hp];exact q4,q5,OwnO.mono s1 ds xs q6]
def JLl(so:SO B Hb Y H U O){d:D}(sm:Same (hidP H (unP x O)) H1)(hz:∀a,unP x O a->H1 a=none)(dn:Den B H1 d v) :
  ∃O',SO B Hb Y (mixP H H1 (unP x O)) (after x d U) O'/\Den B (hid (mixP H H1 (unP x O)) O') d v:=by
 unfold after
 split
 ·exact#[_,JF6 so sm hz,Den.mono (JBG hz) d v dn]
 ·rename_i hb;refine#[O,JDa so sm hz,?_];cases hu:JAc x 0 U with
  |false =>
   refine Den.mono (λb o e=>?_) d v dn;have hb':¬unP x O b:=λh=>by rw[hz b h]at e;cases e
   have hb2:¬ownP O b:=λh_=>by
    obtain⟨i,h⟩:=h_;obtain⟨ds,xs,e1,_⟩:=so.own h;refine hb' #[i,h,?_];cases q:x.uses i with
    |false=>rfl
    |true =>
     have:=JBh x U 0 i _ hu e1 (by rw[Nat.zero_add];exact q)
     cases this
   rw[hid,JAH hb2,JAR hb'];exact e
  |true =>
   have hl:JAe d=true:=by
    rw[hu]at hb;cases q:JAe d with
    |true=>rfl
    |false=>rw[q]at hb;exact absurd rfl hb
   refine JEa (λb o e ho=>?_) d v hl dn;have hb':¬unP x O b:=λh=>by rw[hz b h]at e;cases e
   have hb2:¬ownP O b:=λh_=>by
    obtain⟨i,h⟩:=h_;obtain⟨ds,xs,_,_,e4,_,e9⟩:=so.own h;have:=sm b _ (by rw[JAH hb'];exact e4)
    rw[e]at this;cases this;exact ho e9.b
   rw[hid,JAH hb2,JAR hb'];exact e
def RS(X:Cx)(B:Bs)(C:Cn)(XX:Nat->Hp->Prop)(x:E):TE:=λY H Q=>∃U O Hb,Dm X.H₀ Hb/\SO B Hb Y H U O/\(match ev C x U with
 |.ok d=>∀v H' O',SO B Hb Y H' (after x d U) O'->Den B (hid H' O') d v->Q v H'
 |.exc c=>XX c Hb
 |.bad=>False)
def RTS(X:Cx)(B:Bs)(C:Cn)(XX:Nat->Hp->Prop)(x:E):TT:=λY H Q=>∃U O Hb,Dm X.H₀ Hb/\SO B Hb Y H U O/\(match evT C x U with
 |.ok b=>∀H',SO B Hb Y H' U O->Q b H'
 |.exc c=>XX c Hb
 |.bad=>False)
def RIS(X:Cx)(B:Bs)(C:Cn)(XX:Nat->Hp->Prop)(x:E):TI:=λY H Q=>∃U O Hb,Dm X.H₀ Hb/\SO B Hb Y H U O/\(match evI C x U with
 |.ok ds=>∀J H' O',SO B Hb Y H' (JAJ x 0 U) O'->ItOk B J (hid H' O') ds->Q J H'
 |.exc c=>XX c Hb
 |.bad=>False)
def JGW(g:Gk X B C CX XX G){e:Expr}(he:PE X e (RE B C XX x)):PE X e (RS X B C XX x):=by
 rintro zp s Y H Q I ⟨U,O,Hb,hb,so,k⟩;have J0:=JBF (ps:=JBi x O U.length s.heap) I (JAl (x:=x) hb so) JAo;have hev:=(agree C x U (JAb x 0 U) JBE).1;cases q:ev C x U with
 |ok d =>
  rw[q]at k;refine thn (he _ s Y _ (λv H1=>Same (hidP H (unP x O)) H1/\Den B H1 d v) J0 #[JAb x 0 U,JAi so,by rw[<-hev,q];exact λv H1 s1 d1=>#[s1,d1]]) λu s1 h_=>?_
  obtain⟨v,H1,J,r,sm,dn⟩:=h_;obtain⟨I',hz⟩:=JAn I J (JAl hb so) (JAj I so);obtain⟨O',so',dn'⟩:=JLl so sm hz dn;exact#[v,_,I',r,k v _ O' so' dn']
 |exc c =>
  rw[q]at k;exact thn (he _ s Y _ (λv H1=>False) J0 #[JAb x 0 U,JAi so,by rw[<-hev,q];exact g.anti c _ _ ((JAX so).trans same_un) k]) λu s1 ⟨v,H1,J,r,f⟩=>f.elim
 |bad=>rw[q]at k;exact k.elim
def JM2(g:Gk X B C CX XX G){e:Expr}(he:PT X e (RT B C XX x)):PT X e (RTS X B C XX x):=by
 rintro zp s Y H Q I ⟨U,O,Hb,hb,so,k⟩;have J0:=JBF (ps:=JBi x O U.length s.heap) I (JAl (x:=x) hb so) JAo;have hev:=(agree C x U (JAb x 0 U) JBE).2.1;cases q:evT C x U with
 |ok d =>
  rw[q]at k;refine thn (he _ s Y _ (λb H1=>b=d/\Same (hidP H (unP x O)) H1) J0 #[JAb x 0 U,JAi so,by rw[<-hev,q];exact λH1 s1=>#[rfl,s1]]) λu s1 h_=>?_
  obtain⟨H1,J,e,sm⟩:=h_;subst e;obtain⟨I',hz⟩:=JAn I J (JAl hb so) (JAj I so);exact#[_,I',k _ (JDa so sm hz)]
 |exc c =>
  rw[q]at k;exact thn (he _ s Y _ (λv H1=>False) J0 #[JAb x 0 U,JAi so,by rw[<-hev,q];exact g.anti c _ _ ((JAX so).trans same_un) k]) λu s1 ⟨H1,J,f⟩=>f.elim
 |bad=>rw[q]at k;exact k.elim
def JMa(g:Gk X B C CX XX G){tg e:Expr}(he:PI X tg e (RI B C XX x)):PI X tg e (RIS X B C XX x):=by
 rintro zp s Y H Q I ⟨U,O,Hb,hb,so,k⟩;have J0:=JBF (ps:=JBi x O U.length s.heap) I (JAl (x:=x) hb so) JAo;have hev:=(agree C x U (JAb x 0 U) JBE).2.2.2;cases q:evI C x U with
 |ok ds =>
  rw[q]at k;refine thn (he _ s Y _ (λJt H1=>Same (hidP H (unP x O)) H1/\ItOk B Jt H1 ds) J0 #[JAb x 0 U,JAi so,by rw[<-hev,q];exact λJt H1 s1 d1=>#[s1,d1]]) λu s1 h1=>thn h1 λitv s2 h2=>?_
  obtain⟨it,fp,tn,Jt,H1,e,J,T,st,f,sm,io⟩:=h2;obtain⟨I',hz⟩:=JAn I J (JAl hb so) (JAj I so);refine#[it,fp,tn,Jt,_,e,I',T,st,λb hb=>?_,k Jt _ _ (JF6 so sm hz) λH2 s2 i=>#[λd e=>#[((io H2 (Same.kpT (JBG hz) s2) i).1 d e).1,λv H3 y=>(((io H2 (Same.kpT (JBG hz) s2) i).1 d e).2 v H3 y).imp (λq=>#[q.1,Den.mono (JBG hz) d v q.2]) λ⟨p,xs,es,z1,z2,z3,z4,z5⟩=>#[p,xs,es,z1,z2,z3,z4,DenL.mono (JBG hz) _ _ z5]],(io H2 (Same.kpT (JBG hz) s2) i).2]];obtain⟨f1,f2,f3,f4,f5,f6⟩:=f b hb;refine#[?_,f2,f3,f4,f5,λp hp=>f6 p ?_]
  ·rw[JAR λhp=>by
    obtain⟨o,hm,_⟩:=JAj I so b hp;exact f6 (b,o) (q_r _ (q_r _ hm)) rfl]
   exact f1
  ·rcases List.mem_append.mp hp with z|z
   ·exact List.mem_append_left _ z
   ·exact q_r _ (List.mem_append_left _ z)
 |exc c =>
  rw[q]at k;refine thn (he _ s Y _ (λ_ _=>False) J0 #[JAb x 0 U,JAi so,by rw[<-hev,q];exact g.anti c _ _ ((JAX so).trans same_un) k]) λu s1 h1=>thn h1 λitv s2 h2=>?_
  obtain⟨_,_,_,_,_,_,_,_,_,_,f⟩:=h2;exact f.elim
 |bad=>rw[q]at k;exact k.elim
end
def same_hidP:Same (hidP H P) H:=λb o e=>(JAy e).2
section
variable{X:Cx}{B:Bs}{C:Cn}{CX:CXT}{XX:Nat->Hp->Prop}{G:Lz}{zp:Pq}{Y:St}{H:Hp}{s:Shared}{U:Env}{O:Ow}{x:E}{Hb Hb':Hp}
def SO.weak(so:SO B Hb' Y H U O)(h:Same Hb Hb'):SO B Hb Y H U O:=by
 refine#[so.len,h.trans so.same,so.inj,λi=>?_];have q:=so.slot i;cases e:U[i]? with
 |none=>rw[e]at q;exact q
 |some t =>
  rw[e]at q;cases t with
  |no=>exact q
  |val d=>exact q
  |own d =>
   simp![JAN]at q ⊢;obtain⟨a,ds,xs,q1,q2,q3,q4,q5,q6⟩:=q;exact#[a,ds,xs,q1,q2,q3,q4,h.free q5,q6]
def SO.base(so:SO B Hb Y H U O):SO B (hid H O) Y H U O:=by
 refine#[so.len,same_hidP,so.inj,λi=>?_];have q:=so.slot i;cases e:U[i]? with
 |none=>rw[e]at q;exact q
 |some t =>
  rw[e]at q;cases t with
  |no=>exact q
  |val d=>exact q
  |own d =>
   simp![JAN]at q ⊢;obtain⟨a,ds,xs,q1,q2,q3,q4,q5,q6⟩:=q;exact#[a,ds,xs,q1,q2,q3,q4,JAw #[i,q1],q6]
abbrev setO(O:Ow)(i:Nat)(a:Option Addr):Ow:=λj=>if j=i then a else O j
def JAf{i:Nat}:setO O i a i=a:=if_pos rfl
def JAZ{i j:Nat}(h:j≠i):setO O i a j=O j:=if_neg h
def JBD{i:Nat}:Same (hid H O) (hid H (setO O i none)):=λb o e=>by
 obtain⟨h1,h2⟩:=JAy e;rw[hid,JAH λ⟨j,hj⟩=>h1 #[j,by
  by_cases hji:j=i
  ·subst hji;rw[JAf]at hj;cases hj
  ·rw[JAZ hji]at hj;exact hj]]
 exact h2
def JGv(so:SO B Hb Y H U O){i:Nat}{d:D}(dn:Den B (hid H O) d v):SO B Hb (Y.set i (some v)) H (U.set i (.val d)) (setO O i none):=by
 refine#[by simpa using so.len,so.same,λj k a h1 h2=>?_,λj=>?_]
 ·by_cases hj:j=i
  ·subst hj;rw[JAf]at h1;cases h1
  ·by_cases hk:k=i
   ·subst hk;rw[JAf]at h2;cases h2
   ·rw[JAZ hj]at h1;rw[JAZ hk]at h2;exact so.inj j k a h1 h2
 ·by_cases hj:j=i
  ·subst hj
   by_cases hl:j<U.length
   ·rw[q_y hl];simp![JAN];exact#[JAf,v,q_y (by rw[so.len];exact hl),Den.mono JBD d v dn]
   ·rw[List.getElem?_eq_none_iff.mpr (by simpa using hl)]
    exact JAf
  ·rw[q_z (Ne.symm hj)];have q:=so.slot j;cases e:U[j]? with
   |none=>rw[e]at q;simp![JAN]at q ⊢;rw[JAZ hj];exact q
   |some t =>
    rw[e]at q;cases t with
    |no=>simp![JAN]at q ⊢;rw[JAZ hj];exact q
    |val d' =>
     simp![JAN]at q ⊢;rw[JAZ hj,q_z (Ne.symm hj)];obtain⟨h0,w,e2,dn'⟩:=q;exact#[h0,w,e2,Den.mono JBD d' w dn']
    |own d' =>
     simp![JAN]at q ⊢;rw[JAZ hj,q_z (Ne.symm hj)];obtain⟨a,ds,xs,q1,q2,q3,q4,q5,q6⟩:=q;exact#[a,ds,xs,q1,q2,q3,q4,q5,OwnO.mono JBD ds xs q6]
def JHW(so:SO B Hb Y H U O){Da:Addr}(hD:H Da=none):SO B Hb Y (upd H Da o) U O:=by
 have own:∀j a,O j=some a->∃xs,H a=some xs:=λj a h=>by
  have q:=so.slot j;cases e:U[j]? with
  |none=>rw[e]at q;simp![JAN]at q;rw[h]at q;cases q
  |some t =>
   rw[e]at q;cases t with
   |no=>simp![JAN]at q;rw[h]at q;cases q
   |val d=>simp![JAN]at q;rw[h]at q;cases q.1
   |own d =>
    simp![JAN]at q;obtain⟨a',ds',xs',e1,e2,e3,e4,_⟩:=q;rw[h]at e1;cases e1;exact#[xs',e4]
 have s1:Same (hid H O) (hid (upd H Da o) O):=λb u e=>by
  obtain⟨h1,h2⟩:=JAy e;have hb:b≠Da:=λz=>by rw[z,hD]at h2;cases h2
  rw[hid,JAH h1,JAI hb];exact h2
 refine#[so.len,so.same.trans (JAq hD),so.inj,λj=>?_];have q:=so.slot j;cases e:U[j]? with
 |none=>rw[e]at q;exact q
 |some t =>
  rw[e]at q;cases t with
  |no=>exact q
  |val d' =>
   simp![JAN]at q ⊢;obtain⟨h0,w,e2,dn'⟩:=q;exact#[h0,w,e2,Den.mono s1 d' w dn']
  |own d' =>
   simp![JAN]at q ⊢;obtain⟨a,ds',xs',q1,q2,q3,q4,q5,q6⟩:=q;exact#[a,ds',xs',q1,q2,q3,by rw[JAI λz=>by rw[z,hD]at q4;cases q4];exact q4,q5,OwnO.mono s1 ds' xs' q6]
def JIE(so:SO B Hb Y H U O){i:Nat}(hil:i<U.length){Da:Addr}(hD:H Da=none)(dn:OwnO B (hid H O) ds xs):SO B Hb (Y.set i (some (.ref Da))) (upd H Da xs) (U.set i (.own ds)) (setO O i (some Da)):=by
 have nO:∀j a,O j=some a->a≠Da:=λj a h z=>by
  subst z;have q:=so.slot j;cases e:U[j]? with
  |none=>rw[e]at q;simp![JAN]at q;rw[h]at q;cases q
  |some t =>
   rw[e]at q;cases t with
   |no=>simp![JAN]at q;rw[h]at q;cases q
   |val d=>simp![JAN]at q;rw[h]at q;cases q.1
   |own d =>
    simp![JAN]at q;obtain⟨a',ds',xs',e1,e2,e3,e4,_⟩:=q;rw[h]at e1;cases e1;rw[hD]at e4;cases e4
 have s1:Same (hid H O) (hid (upd H Da xs) (setO O i (some Da))):=λb o e=>by
  obtain⟨h1,h2⟩:=JAy e;have hb:b≠Da:=λz=>by rw[z,hD]at h2;cases h2
  rw[hid,JAH λh_=>by
   obtain⟨j,hj⟩:=h_
   by_cases hji:j=i
   ·subst hji;rw[JAf]at hj;exact hb (Option.some.inj hj).symm
   ·rw[JAZ hji]at hj;exact h1 #[j,hj],JAI hb]
  exact h2
 refine#[by simpa using so.len,so.same.trans (JAq hD),λj k a h1 h2=>?_,λj=>?_]
 ·by_cases hj:j=i
  ·subst hj;rw[JAf]at h1
   by_cases hk:k=j
   ·exact hk.symm
   ·rw[JAZ hk]at h2;exact absurd (Option.some.inj h1).symm (nO k a h2)
  ·by_cases hk:k=i
   ·subst hk;rw[JAf]at h2;rw[JAZ hj]at h1;exact absurd (Option.some.inj h2).symm (nO j a h1)
   ·rw[JAZ hj]at h1;rw[JAZ hk]at h2;exact so.inj j k a h1 h2
 ·by_cases hj:j=i
  ·subst hj
   by_cases hl:j<U.length
   ·rw[q_y hl];simp![JAN];exact#[Da,ds,xs,JAf,rfl,q_y (by rw[so.len];exact hl),JAF,so.same.free hD,OwnO.mono s1 ds xs dn]
   ·exact absurd hil hl
  ·rw[q_z (Ne.symm hj)];have q:=so.slot j;cases e:U[j]? with
   |none=>rw[e]at q;simp![JAN]at q ⊢;rw[JAZ hj];exact q
   |some t =>
    rw[e]at q;cases t with
    |no=>simp![JAN]at q ⊢;rw[JAZ hj];exact q
    |val d' =>
     simp![JAN]at q ⊢;rw[JAZ hj,q_z (Ne.symm hj)];obtain⟨h0,w,e2,dn'⟩:=q;exact#[h0,w,e2,Den.mono s1 d' w dn']
    |own d' =>
     simp![JAN]at q ⊢;rw[JAZ hj,q_z (Ne.symm hj)];obtain⟨a,ds',xs',q1,q2,q3,q4,q5,q6⟩:=q;exact#[a,ds',xs',q1,q2,q3,by rw[JAI (nO j a q1)];exact q4,q5,OwnO.mono s1 ds' xs' q6]
def JIN(so:SO B Hb Y H U O){i:Nat}{Da:Addr}(hD:H Da=none)(dn:OwnO B (hid H O) ds xs):∃O',SO B Hb (Y.set i (some (.ref Da))) (upd H Da xs) (U.set i (.own ds)) O':=by
 by_cases hi:i<U.length
 ·exact#[_,JIE so hi hD dn]
 ·rw[List.set_eq_of_length_le (l:=Y) (by rw[so.len];omega),List.set_eq_of_length_le (l:=U) ∅]
  exact#[O,JHW so hD]
def JQo(so:SO B Hb Y H U O){i:Nat}{a:Addr}(ha:O i=some a)(dn:OwnO B (hid H O) ds xs):SO B Hb Y (upd H a xs) (U.set i (.own ds)) O:=by
 have eh:hid (upd H a xs) O=hid H O:=by
  funext b
  by_cases hb:ownP O b
  ·rw[hid,hid,JAw hb,JAw hb]
  ·rw[hid,hid,JAH hb,JAH hb,JAI λz=>hb #[i,by rw[z];exact ha]]
 have own:=λ(j:Nat) (b:Addr) (h:O j=some b)=>so.inj i j;have hq:=so.slot i;obtain⟨ds0,xs0,e1,e2,e3,e4⟩:∃ds0 xs0,U[i]? = some (.own ds0)/\Y[i]? = some (some (.ref a))/\H a=some xs0/\Hb a=none:=by
  cases e:U[i]? with
  |none=>rw[e]at hq;simp![JAN]at hq;rw[ha]at hq;cases hq
  |some t =>
   rw[e]at hq;cases t with
   |no=>simp![JAN]at hq;rw[ha]at hq;cases hq
   |val d=>simp![JAN]at hq;rw[ha]at hq;cases hq.1
   |own d =>
    simp![JAN]at hq;obtain⟨a',ds',xs',f1,f2,f3,f4,f5,_⟩:=hq;rw[ha]at f1;cases f1;subst f2;exact#[_,xs',rfl,f3,f4,f5]
 refine#[by simpa using so.len,λb o e=>?_,so.inj,λj=>?_]
 ·rw[JAI λz=>by rw[z,e4]at e;cases e]
  exact so.same b o e
 ·by_cases hj:j=i
  ·subst hj;rw[q_y (q_p.mp e1).1];simp![JAN];exact#[a,ds,xs,ha,rfl,e2,JAF,e4,by rw[eh];exact dn]
  ·rw[q_z (Ne.symm hj)];have q:=so.slot j;cases e:U[j]? with
   |none=>rw[e]at q;exact q
   |some t =>
    rw[e]at q;cases t with
    |no=>exact q
    |val d' =>
     simp![JAN]at q ⊢;rw[eh];exact q
    |own d' =>
     simp![JAN]at q ⊢;obtain⟨a',ds',xs',q1,q2,q3,q4,q5,q6⟩:=q;refine#[a',ds',xs',q1,q2,q3,?_,q5,by rw[eh];exact q6]
     rw[JAI λz=>hj (so.inj j i a (by rw[<-z];exact q1) ha)]
     exact q4
def RSF(X:Cx)(B:Bs)(C:Cn)(XX:Nat->Hp->Prop)(x:E):TE:=λY H Q=>∃U O Hb,Dm X.H₀ Hb/\SO B Hb Y H U O/\(match ev C x U with
 |.ok d=>∀Da ds xs H1 O',d=ds->SO B Hb Y H1 (after x d U) O'->H1 Da=none->OwnO B (hid H1 O') ds xs->Q (.ref Da) (upd H1 Da xs)
 |.exc c=>XX c Hb
 |.bad=>False)
def JJt{Da:Addr}(h:¬P Da):mixP H (upd H1 Da o) P=upd (mixP H H1 P) Da o:=by
 funext b
 by_cases hb:b=Da
 ·subst hb;rw[JAR h,JAF,JAF]
 ·rw[JAI hb]
  by_cases hp:P b
  ·rw[JBe hp,JBe hp]
  ·rw[JAR hp,JAR hp,JAI hb]
def JFQ(so:SO B Hb Y H U O)(sm:Same (hidP H (unP x O)) H1)(hz:∀a,unP x O a->H1 a=none)(dn:OwnO B H1 ds xs) :
  ∃O',SO B Hb Y (mixP H H1 (unP x O)) (after x ds U) O'/\OwnO B (hid (mixP H H1 (unP x O)) O') ds xs:=by
 unfold after
 split
 ·exact#[_,JF6 so sm hz,OwnO.mono (JBG hz) ds xs dn]
 ·rename_i hb;have hu:JAc x 0 U=false:=by
   cases q:JAc x 0 U with
   |false=>rfl
   |true=>rw[q]at hb;exact absurd (by rw[dn.nl];rfl) hb
  refine#[O,JDa so sm hz,OwnO.mono (λb o e=>?_) ds xs dn];have hb':¬unP x O b:=λh=>by rw[hz b h]at e;cases e
  have hb2:¬ownP O b:=λh_=>by
   obtain⟨i,h⟩:=h_;obtain⟨ds,xs,e1,_⟩:=so.own h;refine hb' #[i,h,?_];cases q:x.uses i with
   |false=>rfl
   |true =>
    have:=JBh x U 0 i _ hu e1 (by rw[Nat.zero_add];exact q)
    cases this
  rw[hid,JAH hb2,JAR hb'];exact e
def JQ4(g:Gk X B C CX XX G){e:Expr}(he:PE X e (REF B C XX x)):PE X e (RSF X B C XX x):=by
 rintro zp s Y H Q I ⟨U,O,Hb,hb,so,k⟩;have J0:=JBF (ps:=JBi x O U.length s.heap) I (JAl (x:=x) hb so) JAo;have hev:=(agree C x U (JAb x 0 U) JBE).1;cases q:ev C x U with
 |ok d =>
  rw[q]at k;refine thn (he _ s Y _ (λv H1=>∃Da ds xs H2,v=.ref Da/\H1=upd H2 Da xs/\d=ds/\Same (hidP H (unP x O)) H2/\H2 Da=none/\OwnO B H2 ds xs) J0
   #[JAb x 0 U,JAi so,by rw[<-hev,q];exact λDa ds xs H1 e s1 hD dn=>#[Da,ds,xs,H1,rfl,rfl,e,s1,hD,dn]]) λu s1 ⟨v,H1,J,r,Da,ds,xs,H2,e1,e2,e3,sm,hD,dn⟩=>?_
  subst e1;subst e2;subst e3;obtain⟨I',hz⟩:=JAn I J (JAl hb so) (JAj I so);have nD:¬unP x O Da:=λh=>by have:=hz Da h;rw[JAF]at this;cases this
  have hz2:∀a,unP x O a->H2 a=none:=λa h=>by
   have:=hz a h
   rwa [JAI λz=>nD (by rw[<-z];exact h)]at this
  rw[JJt nD]at I';obtain⟨O',so',dn'⟩:=JFQ so sm hz2 dn;exact#[_,_,I',r,k Da _ xs _ O' rfl so' (by rw[JAR nD];exact hD) dn']
 |exc c =>
  rw[q]at k;exact thn (he _ s Y _ (λv H1=>False) J0 #[JAb x 0 U,JAi so,by rw[<-hev,q];exact g.anti c _ _ ((JAX so).trans same_un) k]) λu s1 ⟨v,H1,J,r,f⟩=>f.elim
 |bad=>rw[q]at k;exact k.elim
def JRM(g:Gk X B C CX XX G){st:Stmt}{i:Nat}(he:PS X st (tAsg (REF B C XX x) (JGF i))):PS X st (tAsg (RSF X B C XX x) (JGF i)):=by
 intro zp s Y H D I h;obtain⟨U,O,Hb,hb,so,k⟩:=h;have J0:=JBF (ps:=JBi x O U.length s.heap) I (JAl (x:=x) hb so) JAo;have hev:=(agree C x U (JAb x 0 U) JBE).1;cases q:ev C x U with
 |ok d =>
  rw[q]at k;refine thn (he _ s Y _ { nx:=λY' H1=>∃Da ds xs H2,Y'=Y.set i (some (.ref Da))/\H1=upd H2 Da xs/\d=ds/\Same (hidP H (unP x O)) H2/\H2 Da=none/\OwnO B H2 ds xs,rt:=λ_ _=>False } J0
   #[JAb x 0 U,JAi so,by rw[<-hev,q];exact λDa ds xs H1 e s1 hD dn=>#[Da,ds,xs,H1,rfl,rfl,e,s1,hD,dn]]) λf s1 hf=>?_
  cases f with
  |next =>
   obtain⟨Y',H1,J,Da,ds,xs,H2,e1,e2,e3,sm,hD,dn⟩:=hf;subst e1;subst e2;subst e3;obtain⟨I',hz⟩:=JAn I J (JAl hb so) (JAj I so);have nD:¬unP x O Da:=λh=>by have:=hz Da h;rw[JAF]at this;cases this
   have hz2:∀a,unP x O a->H2 a=none:=λa h=>by
    have:=hz a h
    rwa [JAI λz=>nD (by rw[<-z];exact h)]at this
   rw[JJt nD]at I';obtain⟨O',so',dn'⟩:=JFQ so sm hz2 dn;exact#[_,_,I',k Da _ xs _ O' rfl so' (by rw[JAR nD];exact hD) dn']
  |ret v=>obtain⟨_,_,_,_,_,f⟩:=hf;exact f.elim
  |brk=>obtain⟨_,_,_,f⟩:=hf;exact fF f
  |cont=>obtain⟨_,_,_,f⟩:=hf;exact fF f
 |exc c =>
  rw[q]at k;refine thn (he _ s Y _ { nx:=λ_ _=>False,rt:=λ_ _=>False } J0 #[JAb x 0 U,JAi so,by rw[<-hev,q];exact g.anti c _ _ ((JAX so).trans same_un) k]) λf s1 hf=>?_
  cases f with
  |next=>obtain⟨_,_,_,f⟩:=hf;exact f.elim
  |ret v=>obtain⟨_,_,_,_,_,f⟩:=hf;exact f.elim
  |brk=>obtain⟨_,_,_,f⟩:=hf;exact fF f
  |cont=>obtain⟨_,_,_,f⟩:=hf;exact fF f
 |bad=>rw[q]at k;exact k.elim
end
section
variable{X:Cx}{B:Bs}{C:Cn}{CX:CXT}{XX:Nat->Hp->Prop}{G:Lz}{x:E}{pos:Pos}
def PS.imp{st:Stmt}{t t':TS}(h:PS X st t)(i:∀D Y H,t' D Y H->t D Y H):PS X st t':=λzp s Y H D I q=>h zp s Y H D I (i D Y H q)
def PSs.imp{st:List Stmt}{t t':TS}(h:PSs X st t)(i:∀D Y H,t' D Y H->t D Y H):PSs X st t':=λzp s Y H D I q=>h zp s Y H D I (i D Y H q)
def JPy:PSs X [] (RSt X B C XX .nil):=PSs.imp JIO λD Y H ⟨U,O,Hb,hb,so,k⟩=>k Y H O so
def JN4{st:Stmt}{r:List Stmt}{a b:S}(h1:PS X st (RSt X B C XX a))(h2:PSs X r (RSt X B C XX b)):PSs X (st::r) (RSt X B C XX (.cons a b)) :=
 PSs.imp (JG0 h1 h2) λD Y H h_=>by
  obtain⟨U,O,Hb,hb,so,k⟩:=h_;refine#[U,O,Hb,hb,so,?_];simp![exec]at k;cases q:exec C a U with
  |nx U'=>rw[q]at k;exact λY' H' O' so'=>#[U',O',Hb,hb,so',k]
  |rt d=>rw[q]at k;exact k
  |bk d=>rw[q]at k;exact k
  |ct d=>rw[q]at k;exact k
  |ex c=>rw[q]at k;exact k
  |bad=>rw[q]at k;exact k
def JNZ:PS X (.Pass pos) (RSt X B C XX .pass):=PS.imp JOw λD Y H ⟨U,O,Hb,hb,so,k⟩=>k Y H O so
def JRv:PS X (.Break pos) (RSt X B C XX .brk):=PS.imp JKi λD Y H ⟨U,O,Hb,hb,so,k⟩=>k Y H O so
def JSK:PS X (.Continue pos) (RSt X B C XX .cnt):=PS.imp JGT λD Y H ⟨U,O,Hb,hb,so,k⟩=>k Y H O so
def JSW{y:Str}{j:Nat}{pos':Pos}:PS X (.Expr (.Constant (.str y) j pos) pos') (RSt X B C XX .pass):=PS.imp JTF λD Y H ⟨U,O,Hb,hb,so,k⟩=>k Y H O so
def JOf:PS X (.Return none pos) (RSt X B C XX .retN):=PS.imp JOD λD Y H ⟨U,O,Hb,hb,so,k⟩=>k .non H so.same (by simp![Den])
def JQJ(g:Gk X B C CX XX G){e:Expr}(he:PE X e (RE B C XX x)):PS X (.Return (some e) pos) (RSt X B C XX (.ret x)) :=
 PS.imp (JMd (JGW g he)) λD Y H h_=>by
  obtain⟨U,O,Hb,hb,so,k⟩:=h_;refine#[U,O,Hb,hb,so,?_];simp![exec]at k;cases q:ev C x U with
  |ok d=>rw[q]at k;exact λv H' O' so' dn=>k v H' so'.same (Den.mono same_hidP d v dn)
  |exc c=>rw[q]at k;exact k
  |bad=>rw[q]at k;exact k
def JQL(g:Gk X B C CX XX G){c:Expr}{a b:List Stmt}{s1 s2:S}(hc:PT X c (RT B C XX x))(ha:PSs X a (RSt X B C XX s1))(hb:PSs X b (RSt X B C XX s2)):PS X (.If c a b pos) (RSt X B C XX (.ife x s1 s2)) :=
 PS.imp (JS8 (JM2 g hc) ha hb) λD Y H h_=>by
  obtain⟨U,O,Hb,hb,so,k⟩:=h_;refine#[U,O,Hb,hb,so,?_];simp![exec]at k;cases q:evT C x U with
  |ok t =>
   rw[q]at k;intro H' so';cases t with
   |true=>exact iteT #[U,O,Hb,hb,so',k]
   |false=>exact iteF #[U,O,Hb,hb,so',k]
  |exc c=>rw[q]at k;exact k
  |bad=>rw[q]at k;exact k
def JOS(g:Gk X B C CX XX G){e:Expr}(he:PE X e (RE B C XX x))(hs:swapsWith e none pos.line X.env=pure false):PS X (.Expr e pos) (RSt X B C XX (.drop x)) :=
 PS.imp (JDu (JGW g he) hs) λD Y H h_=>by
  obtain⟨U,O,Hb,hb,so,k⟩:=h_;refine#[U,O,Hb,hb,so,?_];simp![exec]at k;cases q:ev C x U with
  |ok d=>rw[q]at k;exact λv H' O' so' dn=>k Y H' O' so'
  |exc c=>rw[q]at k;exact k
  |bad=>rw[q]at k;exact k
def JSh(g:Gk X B C CX XX G){e:Expr}{i:Nat}{nm:Str}{pos':Pos}(he:PE X e (RE B C XX x))(hf:x.fresh=false)(hnd:X.N.Nodup)(hN:X.N[i]? = some nm)(hx:Loc X.env.scope nm)(hs:swapsWith e (some (.Name nm pos')) pos.line X.env=pure false)
  (hfn:X.fn nm=true\/X.env.scope.names.lookup nm=some .local):PS X (.Assign [.Name nm pos'] e pos) (RSt X B C XX (.asg i x)) :=
 PS.imp (JMb hnd hN hx (JGW g he) hs hfn) λD Y H h_=>by
  obtain⟨U,O,Hb,hb,so,k⟩:=h_;refine#[U,O,Hb,hb,so,?_];simp![exec,hf,q_v,if_false]at k;cases q:ev C x U with
  |ok d=>rw[q]at k;exact λv H' O' so' dn=>k _ H' _ (JGv so' dn)
  |exc c=>rw[q]at k;exact k
  |bad=>rw[q]at k;exact k
def JFN{i:Nat}(hf:x.fresh=true){D:Ends}{Y:St}{H:Hp}(h:RSt X B C XX (.asg i x) D Y H):tAsg (RSF X B C XX x) (JGF i) D Y H:=by
 obtain⟨U,O,Hb,hb,so,k⟩:=h;refine#[U,O,Hb,hb,so,?_];simp![exec,hf,if_true]at k;cases q:ev C x U with
 |ok d =>
  rw[q]at k;intro Da ds xs H1 O' e so' hD dn;subst e;obtain⟨O2,so2⟩:=JIN (i:=i) so' hD dn;exact k _ _ O2 so2
 |exc c=>rw[q]at k;exact k
 |bad=>rw[q]at k;exact k
def JGN(g:Gk X B C CX XX G){e:Expr}{i:Nat}(he:PE X e (REF B C XX x))(hf:x.fresh=true)(hnd:X.N.Nodup)(hN:X.N[i]? = some nm)(hx:Loc X.env.scope nm)(hs:swapsWith e (some (.Name nm pos')) pos.line X.env=pure false)
  (hfn:X.fn nm=true\/X.env.scope.names.lookup nm=some .local):PS X (.Assign [.Name nm pos'] e pos) (RSt X B C XX (.asg i x)) :=
 PS.imp (JMb hnd hN hx (JQ4 g he) hs hfn) λD Y H h=>JFN hf h
def JO2(g:Gk X B C CX XX G){st:Stmt}{i:Nat}(h:PS X st (tAsg (REF B C XX x) (JGF i)))(hf:x.fresh=true):PS X st (RSt X B C XX (.asg i x)) :=
 PS.imp (JRM g h) λD Y H h=>JFN hf h
def JRD(g:Gk X B C CX XX G)(hp:PassesOwn (model X.prog X.w) X.A X.env X.xe){c:Expr}{body:List Stmt}{b:S}(hc:PT X c (RT B C XX x))(hb:PSs X body (RSt X B C XX b)):PS X (.While c body [] pos) (RSt X B C XX (.whl x b)) :=
 PS.imp (JKo hp (JM2 g hc) hb) λD Y H h_=>by
  obtain⟨U,O,Hb,hb0,so,k⟩:=h_;simp![exec]at k;unfold JB1 at k
  split at k
  ·rename_i hex;refine#[λm Y H=>∃U O,SO B Hb Y H U O/\JFE X B XX Hb D (JAp (evT C x) (exec C b) m U),#[hex.choose,U,O,so,k],?_];rintro m Y H ⟨U,O,so,k⟩;cases m with
   |zero=>exact fF k
   |succ m =>
    refine#[U,O,Hb,hb0,so,?_];simp![JAp]at k;cases q:evT C x U with
    |ok t =>
     rw[q]at k;intro H' so';cases t with
     |true =>
      refine iteT #[λY' H'=>∃U O,SO B Hb Y' H' U O/\JFE X B XX Hb D (JAp (evT C x) (exec C b) m U),λY' H' h=>#[m,Nat.lt_succ_self m,h],U,O,Hb,hb0,so',?_];simp only at k;cases q2:exec C b U with
      |nx U'=>rw[q2]at k;exact λY2 H2 O2 so2=>#[U',O2,so2,k]
      |ct U'=>rw[q2]at k;exact λY2 H2 O2 so2=>#[U',O2,so2,k]
      |bk U'=>rw[q2]at k;exact k
      |rt d=>rw[q2]at k;exact k
      |ex c=>rw[q2]at k;exact k
      |bad=>rw[q2]at k;exact k
     |false=>exact iteF (k Y H' O so')
    |exc c=>rw[q]at k;exact k
    |bad=>rw[q]at k;exact k
  ·exact fF k
def JSU(g:Gk X B C CX XX G){put:D->Env->Option Env}{gt:TG}{tb:TS}{b:S}{De:Ends}{Y:St}{H1:Hp}{J:It}{ds:List D}{U:Env}{O:Ow}{Hb:Hp}(hb:Dm X.H₀ Hb)(so:SO B Hb Y H1 U O)(io:ItOk B J (hid H1 O) ds)
  (hput:∀(d:D) (v:V) (Y:St) (H:Hp) (U U':Env) (O:Ow) (Hb':Hp) (Q:St->Hp->Prop),SO B Hb' Y H U O->Den B (hid H O) d v->put d U=some U'->(∀Y' O',SO B Hb' Y' H U' O'->Q Y' H)->gt v Y H Q)
  (htb:∀De Y H,RSt X B C XX b De Y H->tb De Y H) (k:JFE X B XX Hb De (forL put (exec C b) ds U)) :
  ∃W:Nat->Nat->St->Hp->Prop,(∃m,W 0 m Y H1)/\∀i m Y H,W i m Y H->(J.stop i H/\De.nx Y H)\/(J.go i H/\∃N:St->Hp->Prop,(∀Y' H',N Y' H'->∃m',m'<m/\W (i+1) m' Y' H')/\∀x H',J.yld i H x H'->gt x Y H' λY2 H2=>tb { De with nx:=N,ct:=N,bk:=De.nx } Y2 H2):=by
 have hb1:Same Hb (hid H1 O):=JAX so;refine#[λi m Y H=>m=ds.length - i/\i<=ds.length/\∃U O',SO B (hid H1 O) Y H U O'/\JFE X B XX Hb De (forL put (exec C b) (ds.drop i) U),#[ds.length,by simp,Nat.zero_le _,U,O,so.base,by simpa using k],?_]
 rintro i m Y H ⟨rfl,hi,U2,O2,so2,k2⟩
 by_cases hlt:i<ds.length
 ·right;have hd:ds[i]? = some ds[i]:=by simp[hlt]
  obtain⟨go,yl⟩:=(io H (Same.kp so2.same) i).1 ds[i] hd;refine#[go,λY' H'=>∃U O',SO B (hid H1 O) Y' H' U O'/\JFE X B XX Hb De (forL put (exec C b) (ds.drop (i+1)) U),λY' H' ⟨U3,O3,so3,k3⟩=>#[ds.length - (i+1),by omega,rfl,hlt,U3,O3,so3,k3],λv H' y=>?_]
  obtain⟨so3',dn2⟩:SO B (hid H1 O) Y H' U2 O2/\Den B (hid H' O2) ds[i] v:=by
    rcases yl v H' y with ⟨e,dn⟩|⟨p,xs,es,hp,e,ex,ed,dl⟩
    ·subst e;exact#[so2,Den.mono (JAX so2) _ v dn]
    ·subst e;subst ex;have s3:=JHW so2 (o:=.tup xs) hp;refine#[s3,?_];rw[ed];simp![Den];refine#[p,xs,rfl,SqT.of ?_,DenL.mono (JAX s3) _ _ dl];rw[hid,JAH λ⟨j,hj⟩=>by obtain⟨_,_,_,_,e5,_⟩:=so2.own hj;rw[hp]at e5;cases e5]
     exact JAF
  rw[JDr hlt]at k2;unfold forL at k2;cases qp:put ds[i] U2 with
  |none=>rw[qp]at k2;exact fF k2
  |some U3 =>
    rw[qp]at k2;refine hput ds[i] v Y H' U2 U3 O2 _ _ so3' dn2 qp λY3 O3 so3=>?_;refine htb _ _ _ #[U3,O3,_,hb.trans hb1,so3,?_];simp only at k2;cases q2:exec C b U3 with
    |nx U'=>rw[q2]at k2;exact λY4 H4 O4 so4=>#[U',O4,so4,k2]
    |ct U'=>rw[q2]at k2;exact λY4 H4 O4 so4=>#[U',O4,so4,k2]
    |bk U'=>rw[q2]at k2;exact λY4 H4 O4 so4=>k2 Y4 H4 O4 (so4.weak hb1)
    |rt d=>rw[q2]at k2;exact λv4 H4 s4 d4=>k2 v4 H4 (hb1.trans s4) d4
    |ex c=>rw[q2]at k2;exact g.anti c Hb _ hb1 k2
    |bad=>rw[q2]at k2;exact k2
 ·left;have ei:i=ds.length:=by omega
  refine#[(io H (Same.kp so2.same) i).2 ∅,?_]
  rw[ei,List.drop_length]at k2;exact k2 Y H O2 (so2.weak hb1)
def JO9[Cool G](g:Gk X B C CX XX G)(hp:PassesOwn (model X.prog X.w) X.A X.env X.xe){iter:Expr}{body:List Stmt}{b:S}{i:Nat}{nm:Str}{pos':Pos}(hi:PI X (.Name nm pos') iter (RI B C XX x))(hb:PSs X body (RSt X B C XX b))(hnd:X.N.Nodup)(hN:X.N[i]? = some nm)(hx:Loc X.env.scope nm)
  (hfn:X.fn nm=true\/X.env.scope.names.lookup nm=some .local) (hs:∀v,foldedSetIterable iter X.env v=pure v):PS X (.For (.Name nm pos') iter body [] pos) (RSt X B C XX (.for1 i x b)) :=
 PS.imp (JM3 hp (g.calm inferInstance) (JMa g hi) (JEm hnd hN hx hfn) hb hs) λDe Y H h_=>by
  obtain⟨U,O,Hb,hb0,so,k⟩:=h_;refine#[U,O,Hb,hb0,so,?_];simp![exec]at k;cases q:evI C x U with
  |ok ds =>
    rw[q]at k;intro J H' O' so' io;refine JSU g hb0 so' io (put:=put1 i) (λd v Y H U U' O Hb' Q so dn e h=>?_) (λ_ _ _ h=>h) k;have e':U.set i (.val d)=U':=Option.some.inj e;subst e';exact h _ _ (JGv so dn)
  |exc c=>rw[q]at k;exact k
  |bad=>rw[q]at k;exact k
end
section
variable{prog:Program}{w:World}{A:Around}{E:Vq}
theorem JFY{it t:Addr}(hne:t≠it):∀(n i:Nat) (s:Shared) (Q:List Value->Shared->Prop),s.heap.IsListIter it t i->s.heap.IsList t items->i+n<=items.size ->
  (∀h':Heap,h'.IsListIter it t (i+n)->Heap.SameBut it s.heap h'->Q ((items.toList.drop i).take n) { s with heap:=h' })->wpAny (model prog w) A (draw (.ref it) n) Q E s
 |0,i,s,Q,hit,_,_,hQ=>by
  show wpAny _ _ (pure []) Q E s;exact q_e (by simpa using hQ s.heap hit (Heap.SameBut.refl ..))
 |n+1,i,s,Q,hit,ht,hle,hQ=>by
  have hlt:i<items.size:=by omega
  show wpAny _ _ (pyNext (.ref it) >>= _) Q E s;refine q_b (wpAny_pyNext_list_item hit ht (x:=items[i]) (by simp[hlt]) λh₁ hit₁ hs₁=>?_)
  refine q_b (wpAny_holding (JFY hne n (i+1) _ _ hit₁ (ht.extBut hs₁.extBut hne) ∅ λh₂ hit₂ hs₂=>q_e ?_))
  have hd:items.toList.drop i=items[i]::items.toList.drop (i+1):=by simp[List.drop_eq_getElem_cons,hlt]
  have:=hQ h₂ (by rw[show i+(n+1)=i+1+n by omega];exact hit₂) (hs₁.trans hs₂)
  rw[hd,List.take_succ_cons]at this;exact this
def JCz{x1:Nat}{t:Addr}{Q:Unit->Shared->Prop}(hh:A.handled=none)(ht:s.heap.IsList t items)
  (hn:(assignEach elts env).length=items.size) (hstar:(assignEach elts env).findIdx? (·.1)=none)
  (h:∀h',Heap.ExtBut s.heap.objs.size s.heap h'->wpAny (model prog w) A (assignInOrder ((assignEach elts env).map (·.2)) items.toList) Q E { s with heap:=h' }) :
  wpAny (model prog w) A (assign (.Tuple elts x1 pos) env (.ref t)) Q E s:=by
 have hlt:t≠s.heap.objs.size:=by obtain⟨o,ho,_⟩:=ht;exact q_l (q_h ho)
 rw[assign_Tuple];refine q_b (wpAny_standAt ?_);unfold unpack;rw[hn,hstar];refine q_b (wpAny_holding ?_);unfold unpackItems;refine q_b ?_;unfold notIterableAtAll;refine q_b (wpAny_specialOf ht.typeIs slot_list_iter.lookup ?_);refine q_e ?_;simp![q_v,if_false];refine q_b (wpAny_holding (wpAny_pyIter_list ht ?_));refine q_b (wpAny_holding (JFY hlt items.size 0 _ _ #[_,q_k _ rfl,rfl,rfl] (ht.extBut (λb o _ e=>q_c _ e) (q_l (q_D (by obtain⟨o,ho,_⟩:=ht;exact q_h ho)))) ∅ λh₁ hit₁ hs₁=>?_))
 have hall:List.take items.size (List.drop 0 items.toList)=items.toList:=by
  rw[List.drop_zero];exact List.take_of_length_le (by simp)
 rw[hall];rw[if_neg (by simp)]
 have ht1:h₁.IsList t items:=by
  refine Heap.IsList.extBut ?_ hs₁.extBut hlt;exact ht.extBut (λb o _ e=>q_c _ e) hlt
 refine q_b (wpAny_holding (wpAny_pyNext_list_end hh hit₁ ht1 (by simp) λh₂ he₂=>?_))
 simp![Option.isSome_none,q_v,if_false];refine q_e (h h₂ λb o hb e=>he₂ b o hb (hs₁.extBut b o hb (q_c _ e)))
end
abbrev setV:List Nat->List V->St->St
 |i::is,v::vs,Y=>setV is vs (Y.set i (some v))
 |_,_,Y=>Y
section
variable{X:Cx}{B:Bs}{C:Cn}{CX:CXT}{XX:Nat->Hp->Prop}{G:Lz}{x:E}{pos:Pos}{names:Nq}{N:List Str}
def JFp(hn:X.env.scope.names=names)(h:JE7 (names.lookup nm)=true):L2.Loc X.env.scope nm:=by
 unfold L2.Loc;rw[hn];cases q:names.lookup nm with
 |none=>rw[q]at h;cases h
 |some k=>cases k<;>simp_all [JE7]
def slot_of{i:Nat}(hn:X.env.scope.names=names)(hN:X.N=N)(h:slot names N nm=some i):X.N[i]? = some nm/\L2.Loc X.env.scope nm:=by
 unfold slot at h
 split at h
 ·rename_i hb;exact#[by rw[hN];exact JD0 h,JFp hn hb]
 ·cases h
def JCC{e:Expr}(h:slots names N (e::r)=some is):∃nm p i js,e=.Name nm p/\slot names N nm=some i/\slots names N r=some js/\is=i::js:=by
 unfold slots at h
 split at h
 ·rename_i q;cases q
 ·rename_i q;cases q;obtain⟨i,h1,h⟩:=q_a.mp h;obtain⟨js,h2,h⟩:=q_a.mp h;cases h;exact#[_,_,i,js,rfl,h1,h2,rfl]
 ·cases h
theorem JCw:∀ {ts:List Expr}{is:List Nat},slots names N ts=some is->(assignEach ts env).findIdx? (·.1)=none/\(assignEach ts env).length=is.length
 | [],is,h=>by unfold slots at h;cases h;exact#[rfl,rfl]
 |e::r,is,h=>by
  obtain⟨nm,p,i,js,rfl,h1,h2,rfl⟩:=JCC h;obtain⟨q1,q2⟩:=JCw (env:=env) h2;refine#[?_,by show(assignEach r env).length+1=_;rw[q2];rfl]
  show List.findIdx? (·.1) ((false,assign (.Name nm p) env)::assignEach r env)=none;rw[List.findIdx?_cons];simp[q1]
theorem JDZ(hn:X.env.scope.names=names)(hN:X.N=N)(hnd:N.Nodup)(hfn:∀nm,X.fn nm=true\/X.env.scope.names.lookup nm≠some .cell):∀ {ts:List Expr}{is:List Nat},slots names N ts=some is->PGs X ts (λvs Y H Q=>vs.length=is.length/\Q (setV is vs Y) H)
 | [],is,h=>by
  unfold slots at h;cases h;rintro zp s Y H vs us Q I r ⟨e,q⟩;refine JOT zp s Y H vs us Q I r #[q_A.mp e,?_];cases vs<;>exact q
 |e::r,is,h=>by
  obtain⟨nm,p,i,js,rfl,h1,h2,rfl⟩:=JCC h;obtain⟨q1,q2⟩:=slot_of hn hN h1;have hf:X.fn nm=true\/X.env.scope.names.lookup nm=some .local:=by
   rcases hfn nm with z|z
   ·exact .inl z
   ·rcases q2 with k|k
    ·exact .inr k
    ·exact absurd k z
  rintro zp s Y H vs us Q I rv ⟨e,q⟩;refine JKj (JEm (by rw[hN];exact hnd) q1 q2 hf) (JDZ hn hN hnd hfn h2) rfl zp s Y H vs us Q I rv ?_
  match vs,e,q with
  |v::vr,e,q=>exact#[v,vr,rfl,by simpa using e,q]
def JR2[Cool G](g:Gk X B C CX XX G){k n:Nat}(h:PGs X es t)(hn:(assignEach es X.env).length=n)(hst:(assignEach es X.env).findIdx? (·.1)=none) :
  PG X (.Tuple es k pos) (λv Y H Q=>∃a xs,v=.ref a/\(SqT X.K H a xs\/SqL X.K H a xs)/\xs.length=n/\t xs Y H Q):=by
 rintro zp s Y H v u Q I r ⟨a,xs,e1,hq,hl,hw⟩;rcases hq with hq|hq
 ·exact JNV (g.calm inferInstance) h hn hst zp s Y H v u Q I r #[a,xs,e1,hq,hl,hw]
 ·subst e1;cases r;obtain⟨its,rv,⟨o,m,ho,hc,hd,hs⟩,hz⟩:=I.list hq;refine JCz (I.ok.hd (g.calm inferInstance)) (items:=its.toArray) #[o,ho,hc,m,hs] (by simp[hn,<-hl,rv.length]) hst λh' hx=>?_
  have I1:Inv X zp Y H { s with heap:=h' }:=I.kept (t':=s.toks) λb o e=>hx b o (q_l (q_h e)) e
  exact h zp _ Y H xs _ Q I1 (by simpa using rv) hw
theorem JB2:∀(is:List Nat) (ds:List D) (vs:List V) {Hb:Hp}{Y:St}{H:Hp}{U:Env}{O:Ow},SO B Hb Y H U O->DenL B (hid H O) ds vs->∃O',SO B Hb (setV is vs Y) H (JBK is ds U) O'
 | [],ds,vs,_,_,_,_,O,so,dn=>by cases ds<;>cases vs<;>exact#[O,so]
 |i::is,[],vs,_,_,_,_,O,so,dn=>by
  simp![DenL]at dn;subst dn;exact#[O,so]
 |i::is,d::ds,vs,_,_,_,_,O,so,dn=>by
  simp![DenL]at dn;obtain⟨v,r,e,q,l⟩:=dn;subst e;exact JB2 is ds r (JGv (i:=i) so q) (DenL.mono JBD ds r l)
def JGb{n c:Nat}{d:D}:JA1 n d≠.exc c:=by
 cases d<;>simp![JA1]<;>(try split)<;>(intro h;cases h)
def JSk[Cool G](g:Gk X B C CX XX G){e:Expr}{k:Nat}{pt:Pos}(he:PE X e (RE B C XX x))(hn:X.env.scope.names=names)(hN:X.N=N)(hnd:N.Nodup)(hfn:∀nm,X.fn nm=true\/X.env.scope.names.lookup nm≠some .cell)
  (h:slots names N ts=some is) (hs:swapsWithSole [.Tuple ts k pt] e pos.line X.env=pure false) (hw:swappedStores [.Tuple ts k pt] e X.env=pure none):PS X (.Assign [.Tuple ts k pt] e pos) (RSt X B C XX (.unp is x)):=by
 obtain⟨q1,q2⟩:=JCw (env:=X.env) h;refine PS.imp (JNX (JGW g he) (JR2 g (JDZ hn hN hnd hfn h) q2 q1) hs hw rfl) λDe Y H h_=>?_;obtain⟨U,O,Hb,hb,so,kk⟩:=h_;refine#[U,O,Hb,hb,so,?_];simp![exec]at kk;cases q:ev C x U with
 |ok d =>
  rw[q]at kk;intro v H' O' so' dn;have kk:JFE X B XX Hb De (stepR (JA1 is.length d) λxs=>Fl.nx (JBK is xs (after x d U))):=kk;cases qu:JA1 is.length d with
  |ok ds =>
    rw[qu]at kk;have hl:ds.length=is.length/\∃a xs,v=.ref a/\(SqT X.K H' a xs\/SqL X.K H' a xs)/\DenL B (hid H' O') ds xs:=by
     cases d with
     |tuple ys =>
      simp![JA1]at qu
      split at qu
      ·rename_i hy;cases qu;simp![Den]at dn;obtain⟨a,xs,e1,e2,e3⟩:=dn;exact#[hy,a,xs,e1,.inl (JPx same_hidP (g.K▸e2)),e3]
      ·cases qu
     |list ys =>
      simp![JA1]at qu
      split at qu
      ·rename_i hy;cases qu;simp![Den]at dn;obtain⟨a,xs,e1,e2,e3⟩:=dn;exact#[hy,a,xs,e1,.inr (same_hidP.seq (g.K▸e2)),e3]
      ·cases qu
     |_=>simp![JA1]at qu;cases qu
    obtain⟨hl1,a,xs,e1,e2,e3⟩:=hl;have hlx:=DenL.len ds xs e3;obtain⟨O2,so2⟩:=JB2 is ds xs so' e3;exact#[a,xs,e1,e2,by omega,by omega,kk _ _ O2 so2]
  |exc c=>exact(JGb qu).elim
  |bad=>rw[qu]at kk;exact kk.elim
 |exc c=>rw[q]at kk;exact kk
 |bad=>rw[q]at kk;exact kk
def RAS(X:Cx)(B:Bs)(C:Cn)(XX:Nat->Hp->Prop)(x:E):TA:=λY H Q=>∃U O Hb,Dm X.H₀ Hb/\SO B Hb Y H U O/\(match evA C x U with
 |.ok ds=>∀vs H' O',SO B Hb Y H' (after (.tup x) (.tuple ds) U) O'->DenL B (hid H' O') ds vs->Q vs H'
 |.exc c=>XX c Hb
 |.bad=>False)
def JIs(so:SO B Hb Y H U O)(sm:Same (hidP H (unP x O)) H1)(hz:∀a,unP x O a->H1 a=none)(dn:DenL B H1 ds vs) :
  ∃O',SO B Hb Y (mixP H H1 (unP x O)) (after x (.tuple ds) U) O'/\DenL B (hid (mixP H H1 (unP x O)) O') ds vs:=by
 unfold after
 split
 ·exact#[_,JF6 so sm hz,DenL.mono (JBG hz) ds vs dn]
 ·rename_i hb;refine#[O,JDa so sm hz,?_];cases hu:JAc x 0 U with
  |false =>
   refine DenL.mono (λb o e=>?_) ds vs dn;have hb':¬unP x O b:=λh=>by rw[hz b h]at e;cases e
   have hb2:¬ownP O b:=λh_=>by
    obtain⟨i,h⟩:=h_;obtain⟨ds,xs,e1,_⟩:=so.own h;refine hb' #[i,h,?_];cases q:x.uses i with
    |false=>rfl
    |true =>
     have:=JBh x U 0 i _ hu e1 (by rw[Nat.zero_add];exact q)
     cases this
   rw[hid,JAH hb2,JAR hb'];exact e
  |true =>
   have hl:JA2 ds=true:=by
    rw[hu]at hb;cases q:JA2 ds with
    |true=>rfl
    |false=>exact absurd (by simp[JAe,q]) hb
   refine JCN (λb o e ho=>?_) ds vs hl dn;have hb':¬unP x O b:=λh=>by rw[hz b h]at e;cases e
   have hb2:¬ownP O b:=λh_=>by
    obtain⟨i,h⟩:=h_;obtain⟨ds,xs,_,_,e4,_,e9⟩:=so.own h;have:=sm b _ (by rw[JAH hb'];exact e4)
    rw[e]at this;cases this;exact ho e9.b
   rw[hid,JAH hb2,JAR hb'];exact e
def JLq{j:Nat}:(E.tup es).uses j=es.uses j:=rfl
theorem JDz:∀(U:Env) (k:Nat),JAc (.tup x) k U=JAc x k U
 | [],_=>rfl
 |s::r,k=>by simp![JAc,JLq,JDz r]
theorem JFg:∀(U:Env) (k:Nat),JAJ (.tup x) k U=JAJ x k U
 | [],_=>rfl
 |s::r,k=>by simp![JAJ,JFg r];rfl
def JSt(g:Gk X B C CX XX G)(he:PA X es (RA B C XX x)):PA X es (RAS X B C XX x):=by
 rintro pos zp s Y H Q I ⟨U,O,Hb,hb,so,k⟩;have J0:=JBF (ps:=JBi x O U.length s.heap) I (JAl (x:=x) hb so) JAo;have hev:=(agree C x U (JAb x 0 U) JBE).2.2.1;cases q:evA C x U with
 |ok ds =>
  rw[q]at k;refine thn (he pos _ s Y _ (λvs H1=>Same (hidP H (unP x O)) H1/\DenL B H1 ds vs) J0 #[JAb x 0 U,JAi so,by rw[<-hev,q];exact λv H1 s1 d1=>#[s1,d1]]) λu s1 h_=>?_
  obtain⟨vs,H1,J,r,sm,dn⟩:=h_;obtain⟨I',hz⟩:=JAn I J (JAl hb so) (JAj I so);obtain⟨O',so',dn'⟩:=JIs so sm hz dn;refine#[vs,_,I',r,k vs _ O' ?_ dn'];have:after (.tup x) (.tuple ds) U=after x (.tuple ds) U:=by unfold after;rw[JDz,JFg]
  rw[this];exact so'
 |exc c =>
  rw[q]at k;exact thn (he pos _ s Y _ (λv H1=>False) J0 #[JAb x 0 U,JAi so,by rw[<-hev,q];exact g.anti c _ _ ((JAX so).trans same_un) k]) λu s1 ⟨v,H1,J,r,f⟩=>f.elim
 |bad=>rw[q]at k;exact k.elim
def JSn[Cool G](g:Gk X B C CX XX G){a b:Expr}{i j:Nat}{px py pt pt2:Pos}{kt k2:Nat}(ha:PA X [a,b] (RA B C XX x))(hnd:X.N.Nodup)(hi:X.N[i]? = some nx)(hj:X.N[j]? = some ny)(hij:i≠j)
  (hx:X.env.scope.names.lookup nx=some .local) (hy:X.env.scope.names.lookup ny=some .local)
  (hw:swappedStores [.Tuple [.Name nx px,.Name ny py] kt pt] (.Tuple [a,b] k2 pt2) X.env=pure (some [nx,ny])):PS X (.Assign [.Tuple [.Name nx px,.Name ny py] kt pt] (.Tuple [a,b] k2 pt2) pos) (RSt X B C XX (.unp [i,j] (.tup x))) :=
 PS.imp (JMQ (g.calm inferInstance) hnd hi hj hij hx hy (JSt g ha) hw) λDe Y H h_=>by
  obtain⟨U,O,Hb,hb,so,kk⟩:=h_;refine#[U,O,Hb,hb,so,?_];simp![exec,ev]at kk;cases q:evA C x U with
  |ok ds =>
    rw[q]at kk;intro vs H' O' so' dn;simp![R.bind,JA1,List.length_cons,List.length_nil]at kk
    match ds,vs,dn,kk,so' with
    | [d1,d2],vs,dn,kk,so' =>
     obtain⟨O2,so2⟩:=JB2 [i,j] [d1,d2] vs so' dn;simp![DenL]at dn;obtain⟨v1,r,e,q1,v2,r2,e2,q2,e3⟩:=dn;subst e3;subst e2;subst e;exact#[v1,v2,rfl,kk _ _ O2 so2]
    | [],_,_,kk,_=>exact fF kk
    | [_],_,_,kk,_=>exact fF kk
    |_::_::_::_,_,_,kk,_=>simp at kk;exact fF kk
  |exc c=>rw[q]at kk;exact kk
  |bad=>rw[q]at kk;exact kk
def JNp(is:List Nat)(ta:TA):TS:=λD Y H=>ta Y H λvs H1=>vs.length=is.length/\vs.length<=1000/\∀H2,(H2=H1\/∃p,H1 p=none/\H2=upd H1 p (.tup vs))->D.nx (setV is vs Y) H2
def JNf[Cool G](g:Gk X B C CX XX G){k k2:Nat}{pt pt2:Pos}(ha:PA X es ta)(hn:X.env.scope.names=names)(hN:X.N=N)(hnd:N.Nodup)(hfn:∀nm,X.fn nm=true\/X.env.scope.names.lookup nm≠some .cell)
  (h:slots names N ts=some is) (hs:swapsWithSole [.Tuple ts k pt] (.Tuple es k2 pt2) pos.line X.env=pure false) (hw:swappedStores [.Tuple ts k pt] (.Tuple es k2 pt2) X.env=pure none):PS X (.Assign [.Tuple ts k pt] (.Tuple es k2 pt2) pos) (JNp is ta):=by
 obtain⟨q1,q2⟩:=JCw (env:=X.env) h;have ha':PA X es (λY H Q'=>∃Q,ta Y H Q/\∀vs H,Q vs H->Q' vs H):=λpos zp s Y H Q I ⟨Q0,h,m⟩=>thn (ha pos zp s Y H Q0 I h) λu s1 ⟨vs,H1,I1,r,q⟩=>#[vs,H1,I1,r,m _ _ q];refine PS.imp (JNX (JMD ha') (JNV (g.calm inferInstance) (JDZ hn hN hnd hfn h) q2 q1) hs hw rfl) λDe Y H hh=>#[_,hh,λvs H1 ⟨a1,a2,a3⟩=>#[Nat.le_trans a2 (by decide),λp hp=>#[p,vs,rfl,SqT.of JAF,a1,a1,a3 _ (.inr #[p,hp,rfl])]]]
end
section
variable{X:Cx}{B:Bs}{C:Cn}{CX:CXT}{XX:Nat->Hp->Prop}{G:Lz}{x:E}{pos:Pos}
end
end VI
end
section
namespace VI
open PySem PySem.Spec PyProof.Rows L2
theorem JDo{d:D}:∀ {U:Env}{i:Nat},U[i]? = some (.own d)->JAs i U=U.set i (.val d)
 | [],_,h=>by simp at h
 |s::r,0,h=>by
  simp![List.getElem?_cons_zero,q_j]at h;subst h;simp![JAs,List.set_cons_zero]
 |s::r,i+1,h=>by simp![JAs,List.set_cons_succ,JDo (U:=r) (i:=i) (by simpa using h)]
theorem JDd:∀ {U:Env}{i:Nat},(∀d,U[i]?≠some (.own d))->JAs i U=U
 | [],_,_=>by simp![JAs]
 |s::r,0,h=>by
  cases s with
  |own d=>exact absurd (by simp) (h d)
  |no=>simp![JAs]
  |val d=>simp![JAs]
 |s::r,i+1,h=>by simp![JAs];rw[JDd (U:=r) (i:=i) λd e=>h d (by simpa using e)]
section
variable{X:Cx}{B:Bs}{C:Cn}{CX:CXT}{XX:Nat->Hp->Prop}{G:Lz}{zp:Pq}{Y:St}{H H':Hp}{s:Shared}{U:Env}{O:Ow}{Hb:Hp}{pos p:Pos}{a b:Expr}{x y:E}
def JPS{t':Nat}(I:Inv X zp Y H s)(kp:∀b o,s.heap.get? b=some o->h'.get? b=some o)(hl:xs.length<=sizeLine)(kv:KV xs vs)
  (dd:h'.DictOf (JAQ X.prog X.w) s.heap.objs.size vs):Inv X zp Y (upd H s.heap.objs.size (.dK xs)) { s with heap:=h',toks:=t' } :=
 I.laid (a:=s.heap.objs.size) (o:=.dK xs) (t':=t') kp (q_t _) #[hl,beq_eq_false_iff_ne.mpr (Ne.symm (q_l (JJg I))),vs,kv,dd]
def JHp:JCE X (.type "dict") (λxs H Q=>∃a o ys,xs=[.ref a]/\SqDo X.K X.w H a o ys/\ys.length<=sizeLine/\∀p,H p=none->Q (.ref p) (upd H p (.dK ys))):=by
 intro zp s Y H xs us Q I r h;obtain⟨a,o,ys,rfl,hq,hz,q⟩:=h;obtain⟨u,rfl,rx⟩:=vals1 r;cases rx;obtain⟨hsys,_,vs,kv,dd⟩:=SqDo.at I hq;refine kt_call_dict hsys dd (by rw[<-JBs kv];exact hz) λh' dd' hs=>?_
 have J:=JPS (t':=s.toks) I (λb q hq=>(hs.2 b (q_l (q_h hq))).trans (q_c _ hq)) hz kv dd';exact#[.ref s.heap.objs.size,_,J,rfl,q _ (I.hok.fresh (q_t _))]
def JQw(g:Gk X B C CX XX G)(hg:Gl X "dict")(hl:G.lookup ("dict":Str)=some (.ty .dict))(ha:PE X a (RE B C XX x))(he:starEach [a] X.env=[(false,eval a X.env)]):PE X (.Call (.Name "dict" p) [a] [] pos) (REF B C XX (.xop .dcp (.cons x .nil))):=by
 refine PE.imp (JFR (es:=[]) JHp hg (g.ty _ _ hl) (by decide +kernel) (JAz ha JBQ he) (by decide) (by decide) he rfl) λY H Q h_=>?_
 obtain⟨U,ok,k⟩:=h_;simp![ev,evA]at k;refine#[U,ok,?_];cases q:ev C x U with
 |exc c=>rw[q]at k;exact k
 |bad=>rw[q]at k;exact k
 |ok d =>
  rw[q]at k;intro v H1 s1 d1;cases d<;>first|exact fF k|skip
  rename_i kvs;simp![VI.R.bind,xD]at k
  split at k
  ·rename_i d' hr
   split at hr
   ·rename_i hk;cases hr;obtain⟨ks,hks⟩:=Option.isSome_iff_exists.mp hk.1;obtain⟨a',o,xs,rfl,hq,l⟩:=JEg d1 hks;rw[<-g.K,<-g.W]at hq;refine#[a',o,xs,rfl,hq,by rw[JB6 l,sizeLine_eq];omega,λp hp=>k p _ (.dK xs) H1 rfl s1 hp l]
   ·cases hr
  ·rename_i hr
   split at hr<;>cases hr
  ·exact k.elim
def JHc(so:SO B Hb Y H U O){i:Nat}{a:Addr}{d d0:D}(hd0:U[i]? = some (.own d0))(ha:O i=some a)(hs:Y[i]? = some (some (.ref a)))(hb:Hb a=none)(hH:∀b,b≠a->H' b=H b)(dn:Den B (hid H' (setO O i none)) d (.ref a)):SO B Hb Y H' (U.set i (.val d)) (setO O i none):=by
 have s1:Same (hid H O) (hid H' (setO O i none)):=λb o e=>by
  obtain⟨h1,h2⟩:=JAy e;have hba:b≠a:=λz=>h1 #[i,by rw[z];exact ha]
  rw[hid,JAH λ⟨j,hj⟩=>h1 #[j,by
   by_cases hji:j=i
   ·subst hji;rw[JAf]at hj;cases hj
   ·rw[JAZ hji]at hj;exact hj],hH b hba]
  exact h2
 refine#[by simpa using so.len,λb o e=>?_,λj k c h1 h2=>?_,λj=>?_]
 ·have hba:b≠a:=λz=>by rw[z,hb]at e;cases e
  rw[hH b hba];exact so.same b o e
 ·by_cases hj:j=i
  ·subst hj;rw[JAf]at h1;cases h1
  ·by_cases hk:k=i
   ·subst hk;rw[JAf]at h2;cases h2
   ·rw[JAZ hj]at h1;rw[JAZ hk]at h2;exact so.inj j k c h1 h2
 ·by_cases hj:j=i
  ·subst hj;rw[q_y (q_p.mp hd0).1];simp![JAN];exact#[JAf,_,hs,dn]
  ·rw[q_z (Ne.symm hj)];have q:=so.slot j;cases e:U[j]? with
   |none=>rw[e]at q;simp![JAN]at q ⊢;rw[JAZ hj];exact q
   |some t =>
    rw[e]at q;cases t with
    |no=>simp![JAN]at q ⊢;rw[JAZ hj];exact q
    |val d' =>
     simp![JAN]at q ⊢;rw[JAZ hj];obtain⟨h0,w,e2,dn'⟩:=q;exact#[h0,w,e2,Den.mono s1 d' w dn']
    |own d' =>
     simp![JAN]at q ⊢;rw[JAZ hj];obtain⟨c,ds,xs,q1,q2,q3,q4,q5,q6⟩:=q;exact#[c,ds,xs,q1,q2,q3,by rw[hH c λz=>hj (so.inj j i a (by rw[<-z];exact q1) ha)];exact q4,q5,OwnO.mono s1 ds xs q6]
def JJy(so:SO B Hb Y H U O){i:Nat}{a:Addr}(ha:O i=some a):¬ownP (setO O i none) a:=λ⟨j,hj⟩=>by
 by_cases hji:j=i
 ·subst hji;rw[JAf]at hj;cases hj
 ·rw[JAZ hji]at hj;exact hji (so.inj j i a hj ha)
def d_frz(g:Gk X B C CX XX G)(st:Stmt)(t:S)(i:Nat)(h:PS X st (RSt X B C XX t)):PS X st (RSt X B C XX (.cons (.frz i) t)):=by
 rintro zp s Y H D I ⟨U,O,Hb,hb,so,k⟩;have k:JFE X B XX Hb D (exec C t (JAs i U)):=by simpa only[exec] using k
 by_cases hown:∃d,U[i]? = some (.own d)
 ·obtain⟨d,hd⟩:=hown;rw[JDo hd]at k;have q:=so.slot i;rw[hd]at q;simp![JAN]at q;obtain⟨a,ds,xo,q1,q2,q3,q4,q5,q6⟩:=q;subst q2;have s1:∀ {H'':Hp},(∀b,b≠a->H'' b=H b)->Same (hid H O) (hid H'' (setO O i none)):=λhH b o e=>by
   obtain⟨h1,h2⟩:=JAy e;have hba:b≠a:=λz=>h1 #[i,by rw[z];exact q1]
   rw[hid,JAH λ⟨j,hj⟩=>h1 #[j,by
    by_cases hji:j=i
    ·subst hji;rw[JAf]at hj;cases hj
    ·rw[JAZ hji]at hj;exact hj],hH b hba]
   exact h2
  cases d with
  |list ys =>
   cases xo with
   |lst xs =>
    refine h zp s Y H D I #[_,_,Hb,hb,JHc so (d:=.list ys) hd q1 q3 q5 (λ_ _=>rfl) ?_,k];have dl:DenL B (hid H (setO O i none)) ys xs:=DenL.mono (s1 λ_ _=>rfl) _ _ q6;simp![Den];exact#[a,xs,rfl,SqL.of (by rw[hid,JAH (JJy so q1)];exact q4),dl]
   |_=>exact fF q6
  |dict kvs =>
   cases xo with
   |dK xs =>
    obtain⟨z,hsys,vs,kv,dd⟩:=I.hok a _ q4;obtain⟨o,es,ep,g1,g2⟩:=id dd;have J:Inv X zp Y (upd H a (.frz o (.dK xs))) s:=I.write (x:=a) (e:=a) (h':=s.heap) (t':=s.toks) (by rw[q4];exact True.intro) (.inl rfl) (λb q hb z=>z) #[o,g1] #[g1,z,hsys,vs,kv,dd]
    have hH:∀b,b≠a->upd H a (.frz o (.dK xs)) b=H b:=λb hb=>JAI hb;refine h zp s Y _ D J #[_,_,Hb,hb,JHc so (d:=.dict kvs) hd q1 q3 q5 hH ?_,k];have dl:DenK B (hid (upd H a (.frz o (.dK xs))) (setO O i none)) kvs xs:=DenK.mono (s1 hH) _ _ q6;simp![Den];exact .inr (.inl #[a,xs,rfl,#[o,.inl (by rw[hid,JAH (JJy so q1)];exact JAF)],dl])
   |_=>exact fF q6
  |_=>cases xo<;>exact fF q6
 ·rw[JDd λd e=>hown #[d,e]]at k;exact h zp s Y H D I #[U,O,Hb,hb,so,k]
abbrev putK(kvs:List (Key×V))(k:Key)(v:V):List (Key×V):=if (kvs.any λkv=>decide (kv.1=k))=true then kvs.map (λkv=>if kv.1=k then (kv.1,v) else kv) else kvs++[(k,v)]
def JRr(r:KV kvs vs)(k:Key):(kvs.any λkv=>decide (kv.1=k))=vs.any λkv=>decide (kv.1=k):=by
 unfold KV at r
 induction r with
 |nil=>rfl
 |cons h t ih=>rw[List.any_cons,List.any_cons,ih,h.1]
def JO4{kvs:List (Key×V)}{vs:List (Key×Value)}(r:KV kvs vs)(k:Key){y:V}{u:Value}(ry:RelV y u):KV (kvs.map λkv=>if kv.1=k then (kv.1,y) else kv) (vs.map λkv=>if kv.1=k then (kv.1,u) else kv):=by
 unfold KV at r ⊢
 induction r with
 |nil=>exact .nil
 | @cons p q ps qs h t ih =>
  rw[List.map_cons,List.map_cons];refine .cons ?_ ih;obtain⟨h1,h2⟩:=h
  by_cases e:p.1=k
  ·rw[if_pos e,if_pos (h1.symm.trans e)];exact#[h1,ry]
  ·rw[if_neg e,if_neg (λz=>e (h1.trans z))];exact#[h1,h2]
def JIa{kvs:List (Key×V)}{vs:List (Key×Value)}(r:KV kvs vs)(k:Key){y:V}{u:Value}(ry:RelV y u):KV (putK kvs k y) (stored vs k u):=by
 unfold putK stored;rw[JRr r k]
 by_cases e:(vs.any λkv=>decide (kv.1=k))=true
 ·rw[if_pos e,if_pos e];exact JO4 r k ry
 ·rw[if_neg e,if_neg e];exact Paired.snoc r #[rfl,ry]
def JEt(kvs:List (Key×V))(k:Key)(v:V):(putK kvs k v).length<=kvs.length+1:=by
 unfold putK
 split
 ·rw[q_g];omega
 ·rw[q_u,List.length_cons,List.length_nil];omega
theorem JEz{H:Hp}{k:Str}{x:D}{v:V}(dx:Den B H x v):∀ {kvs:List (D×D)}{xs:List (Key×V)},DenK B H kvs xs->DenK B H (repD kvs k x) (xs.map λkv=>if kv.1=Sum.inr k then (kv.1,v) else kv)
 | [],xs,h=>by simp![DenK]at h;subst h;simp[repD,DenK]
 |(z,d)::r,xs,h=>by
  simp![DenK]at h;obtain⟨y,w,r',rfl,rfl,h1,h2⟩:=h;simp![repD,DenK,List.map_cons]
  by_cases e:y=k
  · subst e
    rw[if_pos rfl,if_pos rfl];exact#[y,v,_,rfl,rfl,dx,JEz dx h2]
  · have:¬((Sum.inr y:Key)=Sum.inr k):=λz=>e (Sum.inr.inj z)
    rw[if_neg e,if_neg this];exact#[y,w,_,rfl,rfl,h1,JEz dx h2]
theorem JFc{H:Hp}{k:Str}{x:D}{v:V}(dx:Den B H x v):∀ {kvs:List (D×D)}{xs:List (Key×V)},DenK B H kvs xs->DenK B H (kvs++[(.str k,x)]) (xs++[(Sum.inr k,v)])
 | [],xs,h=>by simp![DenK]at h;subst h;simp![List.nil_append,DenK];exact#[k,v,[],rfl,rfl,dx,rfl]
 |(z,d)::r,xs,h=>by
  simp![DenK]at h;obtain⟨y,w,r',rfl,rfl,h1,h2⟩:=h;simp![List.cons_append,DenK];exact#[y,w,_,rfl,rfl,h1,JFc dx h2]
def JEu{H:Hp}{k:Str}{x:D}{v:V}{kvs:List (D×D)}{xs:List (Key×V)}(dx:Den B H x v)(h:DenK B H kvs xs):DenK B H (putD kvs k x) (putK xs (Sum.inr k) v):=by
 have e:hasK kvs k=xs.any λkv=>decide (kv.1=Sum.inr k):=by
  rw[JDy h];clear h
  induction xs with
  |nil=>rfl
  |cons p r ih =>
   rw[List.find?_cons,List.any_cons]
   by_cases z:p.1=Sum.inr k
   ·simp[z]
   ·simp[z,ih]
 unfold putD putK;rw[e]
 split
 ·exact JEz dx h
 ·exact JFc dx h
def JHd(so:SO B Hb Y H U O){i:Nat}(h:U[i]? = some (.own (.dict kvs))):∃a xs,O i=some a/\Y[i]? = some (some (.ref a))/\H a=some (.dK xs)/\DenK B (hid H O) kvs xs:=by
 have q:=so.slot i;rw[h]at q;simp![JAN]at q;obtain⟨a,ds',xs,q1,q2,q3,q4,q5,q6⟩:=q;cases q2;cases xs with
 |dK xs=>exact#[a,xs,q1,q3,q4,q6]
 |_=>exact fF q6
def d_put(g:Gk X B C CX XX G){i:Nat}(hN:X.N[i]? = some nm)(hv:Vis X.env.scope nm)(hbn:JAT nm=false)(hsl:isSlice ke=false)(hy:PE X v (RE B C XX y))(hz:PE X ke (RE B C XX z))
  (hs:∀t l,swapsWith v t l X.env=pure false):PS X (.Assign [.Subscript (.Name nm p1) ke p2] v pos) (RSt X B C XX (.put i z y)):=by
 rintro zp s Y H D I ⟨U,O,Hb,hb,so,k⟩;simp![exec]at k
 split at k
 case h_2=>exact k.elim
 rename_i kvs hd;cases qy:ev C y U with
 |bad=>rw[qy]at k;exact k.elim
 |exc c =>
  rw[qy]at k;refine wpAny_Assign_Subscript (thn (JGW g hy zp s Y H (λ_ _=>False) I #[U,O,Hb,hb,so,by rw[qy];exact k]) λr s1 ⟨v1,H1,I1,rv,f⟩=>f.elim) (hs _ _)
 |ok x =>
  rw[qy]at k;simp![stepR]at k;refine wpAny_Assign_Subscript (thn (JGW g hy zp s Y H (λv1 H1=>∃O',SO B Hb Y H1 (after y x U) O'/\Den B (hid H1 O') x v1) I #[U,O,Hb,hb,so,by rw[qy];exact λv1 H1 O' so' dn=>#[O',so',dn]]) λr s1 ⟨v1,H1,I1,rv,O',so1,dn1⟩=>?_) (hs _ _)
  cases qz:ev C z U with
  |bad=>rw[qz]at k;exact k.elim
  |exc c=>rw[qz]at k;exact k.elim
  |ok kd =>
    rw[qz]at k;simp only at k;unfold JFB at k
    split at k
    case h_2=>exact k.elim
    rename_i kx
    split at k
    case isFalse=>exact k.elim
    rename_i hlen
    split at k
    ·exact k.elim
    rename_i hno;have ea:after y x U=U:=by unfold after;rw[if_neg hno]
    rw[ea]at so1;have so1b:=so1.base;have hbb:Dm X.H₀ (hid H1 O'):=hb.trans (JAX so1);obtain⟨a,xs1,o1,o2,o3,o4⟩:=JHd so1 hd;refine thn (JFF hN hv (JAE hbn).1 (JAE hbn).2.1 zp s1 Y H1 (λu H2=>u=.ref a/\H2=H1) I1 #[_,o2,rfl,rfl]) λu s2 ⟨u',H2,I2,ru,e1,e2⟩=>?_;subst e1;subst e2;cases ru;refine thn (JGW g hz zp s2 Y H2 (λkv H3=>∃O3,SO B (hid H2 O') Y H3 (after z (.str kx) U) O3/\Den B (hid H3 O3) (.str kx) kv) I2 #[U,O',_,hbb,so1b,by rw[qz];exact λkv H3 O3 so' dn=>#[O3,so',dn]]) λiv s3 ⟨kv,H3,I3,rk,O3,so3,dk⟩=>?_
    have ez:after z (.str kx) U=U:=by unfold after;have:JAe (.str kx)=true:=rfl;rw[this];simp
    rw[ez]at so3;simp![Den]at dk;subst dk;obtain⟨t,rfl⟩:=rk;obtain⟨a3,xs3,r1,r2,r3,r4⟩:=JHd so3 hd;rw[o2]at r2;cases r2;obtain⟨zl,hsys,vs,kvv,dd⟩:=I3.hok a _ r3;have hz':vs.length<=sizeLine:=by rw[<-JBs kvv];exact zl
    have lk:xs3.length=kvs.length:=JB6 r4;have hl':(putK xs3 (Sum.inr kx) v1).length<=sizeLine:=by have:=JEt xs3 (Sum.inr kx) v1;rw[sizeLine_eq];omega
    refine wpAny_setItem_pairs (hsz:=hz') (JAY _ _ kx t) dd λh' dd' hsb=>?_;have he:∃q,h'.get? a=some q:=let ⟨q,_,_,hq,_⟩:=dd';#[q,hq]
    have dn3:Den B (hid H3 O3) x v1:=Den.mono (JAX so3) x v1 dn1;refine#[Y,_,I3.write (x:=a) (e:=a) (o:=.dK (putK xs3 (Sum.inr kx) v1)) (by rw[r3];exact True.intro) (.inl rfl) (λb q hb z=>(hsb.2 b hb).trans z) he #[hl',hsys,_,JIa kvv _ rv,dd'],?_]
    exact k Y _ O3 ((JQo so3 r1 (ds:=.dict (putD kvs kx x)) (xs:=.dK (putK xs3 (Sum.inr kx) v1)) (JEu dn3 r4)).weak (JAX so1))
theorem JGI(g:Gk X B C CX XX G){st:Stmt}{t:S}(h:PS X st (RSt X B C XX t)):∀(N:List Str) (i:Nat) (y:E),PS X st (RSt X B C XX (preF G N i y t))
 | [],i,y=>h
 |z::r,i,y=>by
  unfold preF
  split
  ·exact d_frz g st _ i (JGI g h r (i+1) y)
  ·exact JGI g h r (i+1) y
end
def JK6{e a:Expr}(h:JO6 G names e=some a):∃p1 pos x p,a=.Name x p/\e=.Call (.Name "dict" p1) [a] [] pos/\glob G names "dict"=some (.ty .dict):=by
 unfold JO6 at h
 split at h
 ·split at h
  ·rename_i hc;obtain⟨rfl,hc,_⟩:=hc;cases h;exact#[_,_,_,_,rfl,rfl,hc]
  ·cases h
 ·cases h
def JHu{q:Str×Expr}(h:JOJ ts=some q):∃p1 p2,ts=[.Subscript (.Name q.1 p1) q.2 p2]/\isSlice q.2=false:=by
 rcases ts with _|⟨t,ts⟩
 ·exact JAO h
 cases t<;>try exact JAO h
 rename_i o k p2;cases o<;>try exact JAO h
 rcases ts with _|⟨_,_⟩<;>try exact JAO h
 dsimp only[JOJ]at h
 split at h
 ·cases h
 ·rename_i hs;cases h;exact#[_,_,rfl,by simpa using hs]
end VI
end
section
namespace VI
open PySem PySem.Spec PyProof.Rows L2
def JEx{n:Nat}{it:Bool}{e:Expr}(h:JAL G n it names N e=some x)(hc:JEQ e=false)(t:Option Expr)(l:Nat)(env:PySem.Env):swapsWith e t l env=pure false:=by
 cases n with
 |zero=>simp[JAL,JAr,JAW]at h
 |succ n=>cases e<;>first|rfl|(cases it<;>simp[JAL,JAr,JAW,xOf,Option.bind_none,ite_self,xRaw,mOf,mRaw]at h<;>done)|cases hc
def JJQ{n:Nat}{it:Bool}{e:Expr}(h:JAL G n it names N e=some x)(ts:List Expr)(k:Nat)(p:Pos)(l:Nat)(env:PySem.Env):swapsWithSole [.Tuple ts k p] e l env=pure false:=by
 cases n with
 |zero=>simp[JAL,JAr,JAW]at h
 |succ n=>cases e<;>first|rfl|(cases it<;>simp[JAL,JAr,JAW,xOf,Option.bind_none,ite_self,xRaw,mOf,mRaw]at h)
def JFT{e:Expr}(hc:isTup e=false)(ts:List Expr)(k:Nat)(p:Pos)(env:PySem.Env):swappedStores [.Tuple ts k p] e env=pure none:=by
 cases e<;>first|rfl|cases hc
def JC5{P:Prop}(h:false=true):P:=by cases h
def JDl{e:Expr}(h:JDH names ts e=true):∃nx px ny py a b k2 pt2,ts=[.Name nx px,.Name ny py]/\e=.Tuple [a,b] k2 pt2:=by
 rcases ts with _|⟨t1,_|⟨t2,_|⟨_,_⟩⟩⟩<;>try exact JC5 h
 cases t1<;>try exact JC5 h
 cases t2<;>try exact JC5 h
 cases e<;>try exact JC5 h
 rename_i es k p;rcases es with _|⟨a,_|⟨b,_|⟨_,_⟩⟩⟩<;>try exact JC5 h
 exact#[_,_,_,_,_,_,_,_,rfl,rfl]
def JDD{a b:Expr}{px py pt pt2:Pos}{kt k2:Nat}(hk:env.scope.kind=.function)(hn:env.scope.names=names)(hs:∀es:List Expr,es=[a,b]->(es.any λ|.Starred ..=>true|_=>false)=false)
  (h:JDH names [.Name nx px,.Name ny py] (.Tuple [a,b] k2 pt2)=true) :
  swappedStores [.Tuple [.Name nx px,.Name ny py] kt pt] (.Tuple [a,b] k2 pt2) env=pure (some [nx,ny])/\nx≠ny/\env.scope.names.lookup nx=some .local/\env.scope.names.lookup ny=some .local:=by
 simp![JDH,JPZ,q_i,beq_iff_eq,Bool.not_eq_true',bne_iff_ne,ne_eq]at h;obtain⟨⟨⟨⟨⟨h1,h2⟩,h3⟩,h4⟩,h5⟩,h6⟩:=h;have hb:env.blockKind=.function:=by unfold PySem.Env.blockKind;rw[hk];rfl
 have e1:env.kindOf nx=some .local:=by show env.scope.names.lookup nx=_;rw[hn];exact h1
 have e2:env.kindOf ny=some .local:=by show env.scope.names.lookup ny=_;rw[hn];exact h2
 refine#[?_,h4,e1,e2];have hst:=hs [a,b] rfl;unfold swappedStores;simp![List.length_cons,List.length_nil,hb,List.head?_cons,Option.map_some,Option.getD_some,List.filterMap_cons,List.filterMap_nil,e1,e2];have l1:((Expr.Name nx px).pos).line=px.line:=rfl;simp![l1,h3,beq_self_eq_true,Bool.and_self,Bool.true_or,Bool.or_true,Bool.true_and,if_true,bne_self_eq_false,Bool.or_false,Bool.not_true,Bool.false_or,q_v,if_false,h5,h6,hst];have l2:([nx,ny]:List Str).eraseDups.length=2:=by
  have hne:(ny==nx)=false:=beq_eq_false_iff_ne.mpr (Ne.symm h4);simp[List.eraseDups_cons,List.filter_cons,hne,bne]
 have hst':∀q:Expr->Bool,([a,b].any q)=false->q a=false/\q b=false:=λq h=>by simpa using h
 have hab:=hst' _ hst;simp[l2];intro hz;exfalso;rcases hz with z|z
 ·have:=hab.1;cases a<;>first|(cases z;done)|(cases this;done)
 ·have:=hab.2;cases b<;>first|(cases z;done)|(cases this;done)
def JLH{e:Expr}(h:JGK e=true):∃es p,e=.List es p:=by
 cases e<;>first|exact⟨_,_,rfl⟩|cases h
def JLr{e:Expr}(h:JEQ e=true):∃a b c p,e=.ListComp a b c p:=by
 cases e<;>first|exact⟨_,_,_,_,rfl⟩|cases h
section
variable{B:Bs}{C:Cn}{CX:CXT}{G:Lz}
def JJD(X:Cx)(B:Bs)(G:Lz)(XX:Nat->Hp->Prop):Prop:=∀(nm:Str) (c:Nat) (m:Str) (j:Nat) (p1 p2 p3 pos:Pos),Gl X nm->JAT nm=false->G.lookup nm=some (.cls c) ->
 ∀(zp:Pq) (s:Shared) (Y:St) (H:Hp) (D:Ends),Inv X zp Y H s->XX c H->wpAny (model X.prog X.w) X.A (PySem.exec (.Raise (some (.Call (.Name nm p1) [.Constant (.str m) j p2] [] p3)) none pos) X.env) (SP X zp D) X.xe s
abbrev atX(X:Cx)(A:Around)(pn:Pq)(xe:Vq)(calm:Bool):Cx:={ X with A:=A,pn:=pn,xe:=xe,calm:=calm }
def JE9{e c:Option Expr}(h:JGm e c=some x):∃p1 m j p2 p3,e=some (.Call (.Name x p1) [.Constant (.str m) j p2] [] p3)/\c=none:=by
 rcases e with _|e
 ·exact JAO h
 cases e<;>try exact JAO h
 rename_i f as ks p3;cases f<;>try exact JAO h
 rename_i x' p1;rcases as with _|⟨a,as⟩
 ·exact JAO h
 cases a<;>try exact JAO h
 rename_i k j p2;cases k<;>try exact JAO h
 rcases as with _|⟨_,_⟩<;>try exact JAO h
 rcases ks with _|⟨_,_⟩<;>try exact JAO h
 rcases c with _|c<;>try exact JAO h
 cases h;exact#[_,_,_,_,_,rfl,rfl]
def JHs{e:Expr}(h:docOf e=true):∃y j p,e=.Constant (.str y) j p:=by
 unfold docOf at h
 split at h
 ·exact#[_,_,_,rfl]
 ·cases h
def JFH(h:JHr ts=some (.inl x)):∃p,ts=[.Name x p]:=by
 unfold JHr at h
 split at h
 ·cases h;exact#[_,rfl]
 ·cases h
 ·cases h
def JKA(h:JHr ts=some (.inr us)):∃k p,ts=[.Tuple us k p]:=by
 unfold JHr at h
 split at h
 ·cases h
 ·cases h;exact#[_,_,rfl]
 ·cases h
abbrev isStar:Expr->Bool
 |.Starred ..=>true
 |_=>false
def JOK{n:Nat}{e:Expr}(h:JAL G n false names N e=some x):isStar e=false:=by
 cases e<;>first|rfl|(cases n<;>simp[JAL,JAr,JAW,xOf,Option.bind_none,ite_self,xRaw,mOf,mRaw]at h)
def JIQ{pt pt2:Pos}{kt k2:Nat}(hn:env.scope.names=names)(h:ts.any (JFb names)=true):swappedStores [.Tuple ts kt pt] (.Tuple es k2 pt2) env=pure none:=by
 have key:∀line:Nat,(ts.filterMap fun
  |.Name id pos=>if env.kindOf id==some .local&&pos.line==line then some id else none
  |_=>none).length≠ts.length:=λline e=>by
  rw[List.filterMap_length_eq_length]at e;obtain⟨t,ht,hc⟩:=List.any_eq_true.mp h;have:=e t ht;cases t<;>try exact JC5 hc
  rename_i x p;have hc:(names.lookup x==some NameKind.cell)=true:=hc;have hk:env.kindOf x=some .cell:=by show env.scope.names.lookup x=_;rw[hn];simpa using hc
  have e0:(some NameKind.cell==some NameKind.local)=false:=by decide
  simp![hk,e0,Bool.false_and,q_v,if_false,Option.isSome_none]at this
 unfold swappedStores
 dsimp only
 split
 ·rfl
 ·split
  ·rfl
  ·rw[if_pos];have:=key (ts.head?.map (·.pos.line) |>.getD 0)
   simp![Bool.or_eq_true,bne_iff_ne,ne_eq];exact .inl this
theorem JDK(ih:∀st t,f st=some t->PS X st (RSt X B C XX t)):∀ {sts:List Stmt}{t:S},JAk f sts=some t->PSs X sts (RSt X B C XX t)
 | [],t,h=>by unfold JAk at h;cases h;exact JPy
 |st::r,t,h=>by
  unfold JAk at h;obtain⟨a,h1,h⟩:=q_a.mp h;obtain⟨b,h2,h⟩:=q_a.mp h;cases h;exact JN4 (ih st a h1) (JDK ih h2)
structure RareS(B:Bs)(C:Cn)(CX:CXT)(G:Lz):Prop where
theorem JFX(ra:Rare B C CX G)(rr:RareS B C CX G):∀(n:Nat) (X:Cx) (XX:Nat->Hp->Prop) (names:Nq) (N:List Str) (zz:Bool),Gk X B C CX XX G->X.env.scope.kind=.function->X.env.scope.names=names->X.N=N->N.Nodup ->
  PassesOwn (model X.prog X.w) X.A X.env X.xe->(∀nm,X.fn nm=true)->(zz=true->JJD X B G XX)->∀(st:Stmt) (t:S),JCD G n zz names N st=some t->PS X st (RSt X B C XX t)
 |0,X,XX,names,N,zz,g,hk,hn,hN,hnd,hpo,hfn,hr,st,t,h=>JAO h
 |n+1,X,XX,names,N,zz,g,hk,hn,hN,hnd,hpo,hfn,hr,st,t,h=>by
  have ih:=JFX ra rr n X XX names N zz g hk hn hN hnd hpo hfn hr;obtain⟨ihE,ihI⟩:=sound ra n X XX names N g hk hn hN hnd;cases st with
  |Pass p=>cases h;exact JNZ
  |Break p=>cases h;exact JRv
  |Continue p=>cases h;exact JSK
  |Return e p =>
   cases e with
   |none=>cases h;exact JOf
   |some e =>
    dsimp only[JCD,JDM]at h
    obtain⟨x,hx,e'⟩:=q_d.mp h;subst e';exact JGI g (JQJ g (ihE e x hx).1) N 0 x
  |If c a b p =>
   dsimp only[JCD,JDM]at h
   obtain⟨z,hz,h⟩:=q_a.mp h;obtain⟨x,hx,h⟩:=q_a.mp h;obtain⟨y,hy,h⟩:=q_a.mp h;cases h;exact JQL g (ihE c z hz).2 (JDK ih hx) (JDK ih hy)
  |While c body orelse p =>
   cases orelse with
   |cons a b=>exact JAO h
   |nil =>
    dsimp only[JCD,JDM]at h
    obtain⟨z,hz,h⟩:=q_a.mp h;obtain⟨x,hx,h⟩:=q_a.mp h;cases h;exact JRD g hpo (ihE c z hz).2 (JDK ih hx)
  |For tg iter body orelse p =>
   cases orelse with
   |cons a b=>exact JAO h
   |nil =>
    dsimp only[JCD,JDM]at h
    split at h
    case isTrue=>cases h
    rename_i hcool
    haveI:Cool G:=JEs hcool
    split at h
    ·rename_i nm ht;obtain⟨p2,e2⟩:=JFH ht;cases e2;obtain⟨i,hi,h⟩:=q_a.mp h;obtain⟨x,hx,h⟩:=q_a.mp h;obtain⟨b,hb,h⟩:=q_a.mp h;cases h;obtain⟨q1,q2⟩:=slot_of hn hN hi;exact JO9 g hpo (ihI _ iter x hx) (JDK ih hb) (by rw[hN];exact hnd) q1 q2 (.inl (hfn nm)) (JGR hx X.env)
    ·cases h
  |Raise exc cause p =>
   dsimp only[JCD,JDM]at h
   obtain⟨nm,hr0,h9⟩:=q_a.mp h;clear h;obtain⟨p1,m,j,p2,p3,rfl,rfl⟩:=JE9 hr0;have h:=h9;clear h9
   split at h
   ·rename_i c hg
    split at h
    case isFalse=>cases h
    rename_i hz;cases h;obtain⟨g1,g2,g3⟩:=JA9 hg;rintro zp s Y H D I ⟨U,O,Hb,hb,so,k⟩;simp![exec]at k;exact hr hz nm c m j p1 p2 p3 p (JBl hn g2) g1 g3 zp s Y H D I (g.anti c Hb H so.same k)
   ·cases h
  |Assign ts e p =>
   have hfn':∀nm,X.fn nm=true\/X.env.scope.names.lookup nm=some .local:=λnm=>.inl (hfn nm)
   dsimp only[JCD,JDM]at h
   split at h
   ·rename_i nm ht;obtain⟨p1,rfl⟩:=JFH ht;obtain⟨i,hi,h⟩:=q_a.mp h;obtain⟨q1,q2⟩:=slot_of hn hN hi;have hnd':X.N.Nodup:=by rw[hN];exact hnd
    split at h
    ·rename_i a ha;obtain⟨y,hy,rfl⟩:=q_d.mp h;obtain⟨p2,p3,x,p4,rfl,rfl,hg⟩:=JK6 ha;obtain⟨g1,g2,g3⟩:=JA9 hg;exact JGN g (JQw g (JBl hn g2) g3 (ihE _ y hy).1 rfl) rfl hnd' q1 q2 rfl (hfn' nm)
    obtain⟨y,hy,h⟩:=q_a.mp h
    split at h
    ·cases h
    ·rename_i hc;cases h
     by_cases h1:JGK e=true
     ·obtain⟨es,p2,rfl⟩:=JLH h1;have hf:y.fresh=true:=by
       cases n with
       |zero=>simp[JAL,JAr,JAW]at hy
       |succ n =>
        simp![JAL,JAr,JAW,xOf,Option.bind_none,ite_self,xRaw,Option.bind_none,mOf,mRaw]at hy
        split at hy
        ·obtain⟨z,_,e'⟩:=q_d.mp hy;subst e';rfl
        ·cases hy
      exact JGN g (JJU ra g hk hn hN hnd hy) hf hnd' q1 q2 rfl (hfn' nm)
     ·by_cases h2:JEQ e=true
      ·obtain⟨elt,gens,sc,p2,rfl⟩:=JLr h2;obtain⟨_,target,iter,ifs,xs,k,y1,z1,w1,e1,e2,bk,hi2,hs2,hrun⟩:=JJf ra g hk hn hN hnd hy;subst e1;subst e2;cases hb:(X.env.blockKind==.function&&X.env.kindOf nm==some .local&&p1.line==(Expr.ListComp elt [#[target,iter,ifs,0]] sc p2).pos.line&&!(sc.names.any λ(n,k)=>n==nm&&(k==.local || k==.cell))) with
       |true =>
        have hsw:swapsWith (.ListComp elt [#[target,iter,ifs,0]] sc p2) (some (.Name nm p1)) p.line X.env=pure true:=by rw[<-hb];rfl
        have hloc:X.env.scope.names.lookup nm=some .local:=by
         simp![q_i,beq_iff_eq]at hb;exact hb.1.1.2
        exact JO2 g (JLs g bk hi2 hs2 hrun hsw hnd' q1 hloc) rfl
       |false =>
        have hsw:swapsWith (.ListComp elt [#[target,iter,ifs,0]] sc p2) (some (.Name nm p1)) p.line X.env=pure false:=by rw[<-hb];rfl
        exact JGN g (JIU g bk hi2 hs2 hrun) rfl hnd' q1 q2 hsw (hfn' nm)
      ·have hf:y.fresh=false:=by
        cases hz:y.fresh with
        |false=>rfl
        |true=>exact absurd #[hz,by simpa using h1,by simpa using h2] hc
       exact JSh g (ihE e y hy).1 hf hnd' q1 q2 (JEx hy (by simpa using h2) _ _ _) (hfn' nm)
   ·rename_i ts ht;obtain⟨k,pt,rfl⟩:=JKA ht;obtain⟨is,hi,h⟩:=q_a.mp h
    split at h
    ·rename_i hc0;obtain⟨hc,hcool⟩:=hc0
     haveI:Cool G:=JEs (by rw[hcool];decide)
     obtain⟨y,hy,e'⟩:=q_d.mp h;subst e'
     by_cases ht:isTup e=true
     ·have hp:JDH names ts e=true:=by
       rcases hc.2 with z|z
       ·rw[ht]at z;cases z
       ·exact z
      obtain⟨nx,px,ny,py,a,b,k2,pt2,e7,e8⟩:=JDl hp;subst e7;subst e8
      ·skip
       obtain⟨w1,w2,w3,w4⟩:=JDD (env:=X.env) (kt:=k) (pt:=pt) hk hn (λes e=>by
        subst e;cases n with
        |zero=>simp[JAL,JAr,JAW]at hy
        |succ n =>
         simp![JAL,JAr,JAW,xOf,Option.bind_none,ite_self,xRaw,Option.bind_none,mOf,mRaw]at hy
         split at hy
         ·obtain⟨z,hz,_⟩:=q_d.mp hy;unfold JAM at hz;obtain⟨z1,hz1,hz⟩:=q_a.mp hz;obtain⟨z2,hz2,hz⟩:=q_a.mp hz;unfold JAM at hz2;obtain⟨z3,hz3,hz2⟩:=q_a.mp hz2;have t1:∀ {e:Expr}{x:E},JAL G n false names N e=some x->(match e with|.Starred ..=>true|_=>false)=false:=by
           intro e x h;cases e<;>first|rfl|(cases n<;>simp[JAL,JAr,JAW,xOf,Option.bind_none,ite_self,xRaw,mOf,mRaw]at h)
          simp![List.any_cons,List.any_nil,t1 hz1,t1 hz3,Bool.or_self,Bool.or_false]
         ·cases hy) hp
       simp![slots]at hi;obtain⟨i,hi1,hi⟩:=q_a.mp hi;obtain⟨js,hi2,hi⟩:=q_a.mp hi;obtain⟨j,hi3,hi2⟩:=q_a.mp hi2;simp![Option.bind_some,q_j]at hi2;subst hi2;cases hi;have hy':=hy;cases n with
       |zero=>simp[JAL,JAr,JAW]at hy
       |succ n =>
        simp![JAL,JAr,JAW,xOf,Option.bind_none,ite_self,xRaw,Option.bind_none,mOf,mRaw]at hy
        split at hy
        ·obtain⟨z,hz,e'⟩:=q_d.mp hy;subst e';have hij:i≠j:=by
          have:=of_decide_eq_true hc.1;simp at this;exact this
         exact JSn g (allA g (λe x h=>((sound ra n X XX names N g hk hn hN hnd).1 e x h).1) hz) (by rw[hN];exact hnd) (slot_of hn hN hi1).1 (slot_of hn hN hi3).1 hij w3 w4 w1
        ·cases hy
     ·exact JSk g (ihE e y hy).1 hn hN hnd (λnm=>.inl (hfn nm)) hi (JJQ hy _ _ _ _ _) (JFT (by simpa using ht) _ _ _ _)
    ·cases h
   ·obtain⟨q,hq,h9⟩:=q_a.mp h;clear h
    split at h9
    case isFalse=>cases h9
    rename_i hc;obtain⟨p1,p2,hts,hsl⟩:=JHu hq;subst hts;obtain⟨i,hi,h9⟩:=q_a.mp h9;obtain⟨y,hy,h9⟩:=q_a.mp h9;obtain⟨z,hz,h9⟩:=q_a.mp h9;cases h9;obtain⟨q1,q2⟩:=slot_of hn hN hi;exact d_put g q1 (by
     rcases q2 with k|k
     ·exact .inl k
     ·exact .inr (.inl k)) hc.1 hsl (ihE e y hy).1 (ihE q.2 z hz).1 λt l=>JEx hy hc.2.1 t l X.env
  |Expr e p =>
   dsimp only[JCD,JDM]at h
   split at h
   ·rename_i hd;obtain⟨y,j,p2,rfl⟩:=JHs hd;cases h;exact JSW
   ·split at h
    ·cases h
    ·rename_i hc;obtain⟨y,hy,e'⟩:=q_d.mp h;subst e';exact JOS g (ihE e y hy).1 (JEx hy (by simpa using hc) _ _ _)
  |_=>exact JAO h
end
structure Turned(G:Lz)(st:Stmt)(N ps:List Str)(fd:Fd):Prop where
 comp:JAk (JCD G 60 true (JAA st).names N) (JAV st)=some fd.body
 sc:FnScope N ps (JAA st)
 par:fd.par=ps.length
 slots:fd.slots=N.length
structure DefAt(K:Kq)(mg:Mq)(G:Lz)(x:Str)(fd:Fd):Prop where
 ex:∃f fo st N ps,mg x=some (.ref f)/\Fun K x x st f fo/\Binds K fo ps []/\Turned G st N ps fd
def JB7{m:Nat}(h:DenL B H ds vs)(hl:N.length=m)(hv:vs.length<=m):SO B H (start N vs) H (ds.map Sl.val++List.replicate (m - ds.length) Sl.no) (λ_=>none):=by
 have hlen:=DenL.len ds vs h;refine#[?_,Same.refl H,(λi j a e=>by cases e),λi=>?_]
 ·simp![L2.start,q_u,q_g,List.length_replicate];omega
 ·have hh:hid H (λ_=>none)=H:=by
   funext b
   unfold hid hidP;rw[if_neg];rintro⟨i,e⟩;cases e
  by_cases hi:i<ds.length
  ·rw[q_B (by simpa using hi),List.getElem?_map]
   obtain⟨d,hd⟩:∃d,ds[i]? = some d:=#[_,q_q hi];obtain⟨v,hv,dn⟩:=DenL.get ds vs i d h hd;rw[hd];refine#[rfl,v,?_,by rw[hh];exact dn]
   unfold L2.start;rw[q_B (by rw[q_g];omega),List.getElem?_map,hv]
   rfl
  ·rw[List.getElem?_append_right (by simpa using hi),List.getElem?_replicate]
   split
   ·rfl
   ·rfl
section
variable{B:Bs}{G:Lz}{tab:Nat->Option Fd}{glo:Nat->R D}{sub:Nat->Nat->Bool}
def JPC{x:Bool}{n i:Nat}(h:run x tab glo sub n i ds≠.bad):∃fd,tab i=some fd/\ds.length=fd.par:=by
 cases n with
 |zero=>exact absurd rfl h
 |succ n =>
  unfold run at h;cases e:tab i with
  |none=>rw[e]at h;exact absurd rfl h
  |some fd =>
   have h:JCe x #[run x tab glo sub n,glo,sub] fd ds≠.bad:=by rw[e]at h;exact h
   refine#[fd,rfl,?_];unfold JCe at h
   by_cases hl:ds.length=fd.par
   ·exact hl
   ·rw[if_neg hl]at h;exact absurd rfl h
theorem JG7:∀ns:List Int,DenL B H (ns.map λi=>PyData.int i) (ns.map V.int)
 | []=>by simp![List.map_nil,DenL]
 |n::ns=>by
  simp![List.map_cons,DenL];exact#[_,_,rfl,by simp![Den],JG7 ns]
end
structure FnIn(K:Kq)(x:Str)(st:Stmt):Prop where
 ex:∃(f:Addr) (oc:Value) (od an:Option Addr) (sl:Array (Option Value)) (kV dc pm cd ct:Value),PySem.W.nsIn K mainGlobals x=some (some (.ref f)) /\
  K.lookup f=some #[oc,od,.func (PySem.W.fnOf x x (JA6 st) (JAV st) (JAA st) .none kV dc pm an cd ct),sl]/\PySem.W.codeIn K cd x=true/\PySem.W.keepIn K (.ref f)=true
def fn_in{K:Kq}{x:Str}{st:Stmt}{f:Addr}{oc:Value}{od an:Option Addr}{sl:Array (Option Value)}{kV dc pm cd ct:Value}(a:PySem.W.nsIn K mainGlobals x=some (some (.ref f)))
  (l:K.lookup f=some #[oc,od,.func (PySem.W.fnOf x x (JA6 st) (JAV st) (JAA st) .none kV dc pm an cd ct),sl]) (c:PySem.W.codeIn K cd x=true) (k:PySem.W.keepIn K (.ref f)=true):FnIn K x st :=
 #[f,oc,od,an,sl,kV,dc,pm,cd,ct,a,l,c,k]
def JGi(x:Str)(st:Stmt)(ps:List Str):Prop:=∀(kV doc pm:Value) (an:Option Addr) (cdv ct:Value) (us:List Value),us.length=ps.length->bindArgs (PySem.W.fnOf x x (JA6 st) (JAV st) (JAA st) .none kV doc pm an cdv ct) #[us,[]]=pure (ps.zip us)
def AllP(P:Str->GK->Prop):Lz->Prop
 | []=>True
 |(x,k)::r=>P x k/\AllP P r
theorem AllP.get{P:Str->GK->Prop}:∀ {G:Lz}{x:Str}{k:GK},AllP P G->G.lookup x=some k->P x k
 | [],x,k,_,h=>by cases h
 |(y,j)::r,x,k,⟨h1,h2⟩,h=>by
  rw[List.lookup_cons]at h
  by_cases e:(x==y)=true
  · rw[e]at h
    have e':x=y:=by simpa using e
    cases h;subst e';exact h1
  · have e':(x==y)=false:=by simpa using e
    rw[e']at h;exact AllP.get h2 h
def JAt(h:JAU o=false)(nm:Str)(env:PySem.Env)(m:Sem Value):attributeBase o nm env m=m:=by
 cases o with
 |Call f as ks p =>
  cases as with
  |nil =>
   cases ks with
   |nil=>cases h
   |cons k ks=>cases f<;>rfl
  |cons a as=>cases f<;>rfl
 |_=>rfl
section
variable{X:Cx}{B:Bs}{C:Cn}{CX:CXT}{XX:Nat->Hp->Prop}{G:Lz}
def JSC(B:Bs)(XX:Nat->Hp->Prop):V->List V->Hp->VK->Prop:=λv vs H Q=>∃dx dy u,Den B H dx v/\vs=[u]/\Den B H dy u/\KE B XX (JDv dx dy) H Q
def JQx(B:Bs)(XX:Nat->Hp->Prop):V->List V->Hp->VK->Prop:=λv vs H Q=>∃dx dy u,Den B H dx v/\vs=[u]/\Den B H dy u/\KE B XX (JDj dx dy) H Q
def JL6(g:Gk X B C CX XX G):MtR X "list.count" (JSC B XX):=by
 rintro zp s Y H v vs vv us Q I rv rs ⟨dx,dy,u,hx,e,hy,k⟩;subst e;obtain⟨w,rfl,rw'⟩:=rs.one;cases dx with
 |list ds =>
  simp![JDv]at k
  split at k
  ·rename_i hs;simp![JCY,q_i,q_C]at hs;obtain⟨bs,rb⟩:=Den.reads g.K I dy u w hs.1.2 hy rw';obtain⟨as,ra⟩:=Den.reads g.K I (.list ds) v vv (by simpa only[PyData.canLay0] using hs.1.1) hx rv
   have hu:=g.units;have hm:=Nat.min_le_right (PyData.depthAll ds) dy.depth;cases ra with
   |list h1 h2 h3 h4 =>
    rename_i l o items n as';obtain⟨oc,od,oD,os⟩:=o;simp only at h2 h3;subst h2;subst h3;refine call_meets PySem.F.slot_list_count #[_,h1,rfl] PySem.F.entry_list_count (PySem.F.args_list_count_2 _ _) (SeqAt.list_countAt l items n od os w _) #[h1,SeqAt.items_eqAt h4 rb hs.1.1 hs.1.2 ∅,?_]
    refine#[.int _,H,I.tok _,#[_,rfl],KE.ok k ?_];simp![Den]
    congr 2
    rw[<-SeqAt.readsAll_map ds _ _ hs.1.1 h4,List.countP_map];rfl
  ·exact k.elim
 |_=>exact fF k
def JLQ(g:Gk X B C CX XX G):MtR X "list.index" (JQx B XX):=by
 rintro zp s Y H v vs vv us Q I rv rs ⟨dx,dy,u,hx,e,hy,k⟩;subst e;obtain⟨w,rfl,rw'⟩:=rs.one;cases dx with
 |list ds =>
  simp![JDj]at k
  split at k
  ·rename_i hs;simp![JCY,q_i,q_C]at hs;obtain⟨bs,rb⟩:=Den.reads g.K I dy u w hs.1.2 hy rw';obtain⟨as,ra⟩:=Den.reads g.K I (.list ds) v vv (by simpa only[PyData.canLay0] using hs.1.1) hx rv
   have hu:=g.units;have hm:=Nat.min_le_right (PyData.depthAll ds) dy.depth
   split at k
   ·rename_i j hj;have hz:ds.length<=sizeLine:=by
     simp![Den]at hx;obtain⟨a,xs,e1,q,l⟩:=hx;obtain⟨_,_,_,z⟩:=I.list (g.K▸q);rw[DenL.len ds xs l];exact z
    cases ra with
    |list h1 h2 h3 h4 =>
     rename_i l o items n as';obtain⟨oc,od,oD,os⟩:=o;simp only at h2 h3;subst h2;subst h3;have hmap:=SeqAt.readsAll_map ds _ _ hs.1.1 h4;have hlen:items.size=ds.length:=by rw[<-hmap,q_g,q_E]
     obtain⟨q1,q2,q3⟩:=List.findIdx?_eq_some_iff_getElem.mp hj;have get:∀m (hm:m<items.size),SeqAt.readOf s.heap items[m]=ds[m]'∅:=λm hm=>by
      have:(items.toList.map (SeqAt.readOf s.heap))[m]'(by simpa using hm)=ds[m]'∅:=by simp![hmap]
      simpa using this
     refine call_meets PySem.F.slot_list_index #[_,h1,rfl] PySem.F.entry_list_index (PySem.F.args_list_index_2 _ _) (SeqAt.list_indexAt l items n od os w (λy=>PyData.eqv (SeqAt.readOf s.heap y) dy) j ∅ ?_ ?_ ?_) #[h1,SeqAt.items_eqAt h4 rb hs.1.1 hs.1.2 ∅,?_]
     ·have:(sizeLine:Int)<2 ^ 63 - 1:=by decide
      omega
     ·simp![get j ∅];exact q2
     ·intro m hm hmj;simp![get m hm];have:=q3 m hmj;simpa using this
     ·refine#[.int _,H,I.tok _,#[_,rfl],KE.ok k ?_];simp![Den]
   ·exact fF k
  ·exact k.elim
 |_=>exact fF k
def few1(hs:starEach [a] X.env=[(false,eval a X.env)]):((backTo cp (starEach [a] X.env)).all (λx=>!x.1)&&(backToKw cp (keywordEach [] X.env)).all (λx=>x.1.isSome)
  && decide (([a]:List Expr).length+([]:List Keyword).length+(if ([]:List Keyword).isEmpty then 0 else 1)<30))=true:=by
 rw[hs];rfl
def JSA(g:Gk X B C CX XX G){o a:Expr}{x y:E}{ap cp:Pos}{m:Str}{id:String}{f:D->D->R D}(slot:Slot "list" m id)(hty:typeOf (.builtin id)=pure (.type "method_descriptor"))
  (hm:MtR X id (λv vs H Q=>∃dx dy u,Den B H dx v/\vs=[u]/\Den B H dy u/\KE B XX (f dx dy) H Q)) (ho:JAU o=false) (hl:(ap.endLine==cp.line)=true) (hx:PE X o (RE B C XX x)) (hy:PE X a (RE B C XX y)) (hs:starEach [a] X.env=[(false,eval a X.env)]) {z:E}
  (hz:∀U,ev C z U=(ev C x U).bind λx=>if JOP x=true then (ev C y U).bind λy=>f x y else .bad):PE X (.Call (.Attribute o m ap) [a] [] cp) (RE B C XX z):=by
 refine PE.imp (JNg PySem.F.plainAttrs_list slot hty hm hx (JAz hy JBQ hs) (JAt ho _ _ _) (few1 hs) hl hs rfl) λY H Q h_=>?_;obtain⟨U,ok,h⟩:=h_;rw[hz]at h;refine RE.of (W:=λr H=>KE B XX r H Q) ok (λ_ _ z=>z) (λ_ z=>z) h λdx v H1 s1 d1 h1=>?_;cases dx with
 |list ds =>
  have d1':=d1;simp![Den]at d1';obtain⟨l,xs,e,q,dl⟩:=d1';subst e;refine#[.inl #[rfl,xs,by rw[g.K];exact q],?_]
  refine RE.of (W:=λr H=>KE B XX r H Q) (ok.mono s1) (λ_ _ z=>z) (λ_ z=>z) (KE.mono g s1 h1) λdy u H2 s2 d2 h2=>?_;exact#[_,_,_,Den.mono s2 _ _ d1,rfl,d2,KE.mono g s2 h2]
 |_=>exact fF h1
def JGC(g:Gk X B C CX XX G)(o a:Expr)(x y:E)(ap cp:Pos)(ho:JAU o=false)(hl:(ap.endLine==cp.line)=true)(hx:PE X o (RE B C XX x))(hy:PE X a (RE B C XX y))(hs:starEach [a] X.env=[(false,eval a X.env)]) :
  PE X (.Call (.Attribute o "count" ap) [a] [] cp) (RE B C XX (.mcount x y)) :=
 JSA g PySem.F.slot_list_count PySem.F.type_list_count (JL6 g) ho hl hx hy hs λU=>by simp![ev]
def JGD(g:Gk X B C CX XX G)(o a:Expr)(x y:E)(ap cp:Pos)(ho:JAU o=false)(hl:(ap.endLine==cp.line)=true)(hx:PE X o (RE B C XX x))(hy:PE X a (RE B C XX y))(hs:starEach [a] X.env=[(false,eval a X.env)]) :
  PE X (.Call (.Attribute o "index" ap) [a] [] cp) (RE B C XX (.mindex x y)) :=
 JSA g PySem.F.slot_list_index PySem.F.type_list_index (JLQ g) ho hl hx hy hs λU=>by simp![ev]
end
def TrAt(h:Heap)(e T:Addr)(cls:Value):Prop:=∃oe vs a0 oT ts,h.get? e=some oe/\(oe.cls=cls/\vs[0]? = some a0)/\oe.data=.fields vs/\vs[1]? = some (.ref T)/\T≠e/\h.get? T=some oT/\oT.data=.fields ts/\ts[3]? = some .none
abbrev CXV(P:Program)(w:World)(B:Bs):CXT:=λouter H s E e s'=>∃(ea T:Addr) (c:Nat) (H':Hp),e=.ref ea/\s'.os=s.os/\AllBare s'.gens/\Un (frs outer) [] H H' s.heap s'.heap/\HOk P w H' s'.heap /\
 TrAt s'.heap ea T (.ref (B.cl c))/\(s.heap.get? ea=none/\H' ea=none)/\(s.heap.get? T=none/\H' T=none)/\E (.ref (B.cl c)) none H'
def JGn{w:World}{a:Addr}(x:HOk P w H h)(q:H a=some o):∃u,h.get? a=some u:=by
 have:=x a o q;cases o with
 |lst xs=>obtain⟨_,_,_,_,e⟩:=this;exact#[_,e]
 |tup xs=>obtain⟨_,_,_,_,e,_⟩:=this;exact#[_,e]
 |dK kvs=>obtain⟨_,_,_,_,_,_,_,e,_⟩:=this;exact#[_,e]
 |dT kvs=>obtain⟨_,_,_,_,_,_,_,e,_⟩:=this;exact#[_,e]
 |set S n=>obtain⟨_,_,_,_,e,_⟩:=this;exact#[_,e]
 |ins C dx fs=>obtain⟨_,_,_,e,_⟩:=this;exact#[_,e]
 |own y=>exact this
 |xd fs=>obtain⟨_,⟨_,_,_,e,_⟩,_⟩:=this;exact#[_,e]
 |rng lo hi=>obtain⟨_,_,_,e⟩:=this;exact#[_,e]
 |frz ob u=>exact#[_,this.1]
 |tbl ps=>exact#[_,this]
 |met f y=>exact#[_,this]
 |ext φ=>exact this.2.1
def JLG{P:Program}{w:World}{H:Hp}{h:Heap}{a:Addr}(x:HOk P w H h)(q:h.get? a=none):H a=none:=by
 cases z:H a with
 |none=>rfl
 |some o =>
  obtain⟨u,e⟩:=JGn x z;rw[q]at e;cases e
section
variable{X:Cx}{zp:Pq}{Y:St}{H':Hp}{s1:Shared}{h2:Heap}
def JEV(I:Inv X zp Y H' s1)(up:s1.heap.UpToSlots h2){b:Addr}(hb:b∈frs X.stack):∃o,h2.get? b=some o/\∀vs,o.data≠.fields vs:=by
 obtain⟨_,o,ho,hd⟩:=I.stack.mem hb;obtain⟨sl,hs⟩:=up b o ho hd;exact#[_,hs,hd]
def JGz(I:Inv X zp Y H' s1)(hex:X.ex=[]){as:List Addr}(has:∀b∈as,b∈frs X.stack\/(X.s₀.heap.get? b=none/\H' b=none)){ea:Addr}{cls a0:Value}{l:List PySem.Env}
  (fl:Heap.FlyingW (PySem.W.hideAll s1.heap as) l ea cls a0 h2) (up:s1.heap.UpToSlots h2) :
  Un X.fs [] X.H₀ H' X.s₀.heap h2/\HOk X.prog X.w H' h2/\∃T,TrAt h2 ea T cls/\X.s₀.heap.get? T=none/\H' T=none:=by
 obtain⟨st,fe,ff,oe,vs,T,oT,ts,q1,q2,q3,q4,q5,q6,q7,q8,q9⟩:=fl;have U0:=I.base;rw[hex]at U0;have sub:∀b∈X.fs,b∈frs X.stack:=λb hb=>by
  rcases I.ok.stk with e|⟨e,hf⟩
  · rw[e];exact hb
  · rw[e]
    unfold frs;rw[List.filterMap_cons,hf];exact q_s _ hb
 have loc:∀b o,X.s₀.heap.get? b=some o->b ∉ X.fs->b ∉ frs X.stack:=λb o e n z=>by
  rcases q_n.mp (I.stkSub b z) with q|q
  · rw[q]at e
    exact absurd (q_h e) (Nat.not_lt.mpr I.ok.above)
  · exact n q
 have out:∀b o,X.s₀.heap.get? b=some o->b ∉ frs X.stack->b ∉ as:=λb o e n z=>by
  rcases has b z with q|⟨q,_⟩
  · exact n q
  · rw[q]at e;cases e
 have keep:∀b o,s1.heap.get? b=some o->b ∉ as->h2.get? b=some o:=λb o e n=>st b o (PySem.W.hideAll_get _ e n);have trk:∀b o,H' b=some o->b ∉ as:=λb o e z=>by
  rcases has b z with q|⟨_,q⟩
  · rw[I.stkFree b q]at e;cases e
  · rw[q]at e;cases e
 refine#[#[λb o e n hf hx=>keep b o (U0.keep b o e n hf hx) (out b o e (loc b o e hf)),λb o e n hf hx=>?_,U0.free,λb o e hx=>?_,U0.tups,U0.frzs,U0.tbls],λa o e=>?_,T,#[oe,vs,a0,oT,ts,q1,q2,q3,q4,q6,q7,q8,q9],?_,?_]
 ·obtain⟨sl,e1⟩:=U0.slot b o e n hf hx;obtain⟨_,o',ho',hd'⟩:=I.stack.mem (sub b hf);rw[e1]at ho';cases ho';obtain⟨sl',e2⟩:=up b _ e1 hd';exact#[sl',e2]
 ·obtain⟨o',e1⟩:=U0.there b o e hx
  by_cases hb:b∈frs X.stack
  · obtain⟨o2,e2,_⟩:=JEV I up hb
    exact#[o2,e2]
  · exact#[o',keep b o' e1 (out b o e hb)]
 ·refine(I.hok a o e).stay (λb u hb eb=>keep b u eb ?_) (λ_ q=>q) λ_ _ q=>q;rcases hb with rfl|hb
  · exact trk _ _ e
  · exact trk _ _ hb
 ·cases q:X.s₀.heap.get? T with
  |none=>rfl
  |some o =>
    exfalso;obtain⟨o',e1⟩:=U0.there T o q (by simp)
    by_cases hb:T∈frs X.stack
    ·obtain⟨o2,e2,hd⟩:=JEV I up hb;rw[q7]at e2;cases e2;exact hd _ q8
    ·have:=PySem.W.hideAll_get as e1 (out T o q hb);rw[q5]at this;cases this
 ·cases q:H' T with
  |none=>rfl
  |some o =>
    exfalso;have hl:=(I.hok T o q).lt;have hn:=trk T o q;obtain⟨u,e⟩:=JGn I.hok q;have:=PySem.W.hideAll_get as e hn;rw[q5]at this;cases this
end
section
variable{P:Program}{w:World}{B:Bs}{mg:Mq}{base:Heap}{N:List Str}{qual:Str}{scope:Scope}{f:Addr}{cd:Value}{A:Around}{outer:List PySem.Env}{s:Shared}{H:Hp}{E:XK}
@[reducible]def XXd(B:Bs)(E:XK):Nat->Hp->Prop:=λc H1=>∀H',Same H1 H'->E (.ref (B.cl c)) none H'
def JGY:JBX (CXV P w B) (cxOf (CXV P w B) P w B.K mg base N qual scope f cd A outer s H E) (EX B (XXd B E)):=by
 rintro zp Y H1 s1 e s' I ⟨ea,T,c,H',e1,os,bare,un,hok,tr,⟨f1,f2⟩,⟨f3,f4⟩,⟨c',ec,hE⟩⟩;subst e1;have I':=I.call' (ch:=[]) os un hok bare (λb hb=>by simp at hb)
 obtain⟨oe,vs,a0,oT,ts,q1,q2,q3,q4,q6,q7,q8,q9⟩:=id tr;have fr0:∀b,s1.heap.get? b=none->s.heap.get? b=none:=λb q=>by
  cases z:s.heap.get? b with
  |none=>rfl
  |some o =>
   obtain⟨o',e2⟩:=I.base.there b o z (by simp[cxOf])
   rw[q]at e2;cases e2
 have has:∀b∈(ea::T::frs (cxOf (CXV P w B) P w B.K mg base N qual scope f cd A outer s H E).stack),b∈frs (cxOf (CXV P w B) P w B.K mg base N qual scope f cd A outer s H E).stack\/(s.heap.get? b=none/\H' b=none):=λb hb=>by
  rcases q_n.mp hb with rfl|hb
  ·exact .inr #[fr0 _ f1,f2]
  ·rcases q_n.mp hb with rfl|hb
   ·exact .inr #[fr0 _ f3,f4]
   ·exact .inl hb
 refine PySem.wpAny_leaves_onW (base:=PySem.W.hideAll s'.heap (ea::T::frs (cxOf (CXV P w B) P w B.K mg base N qual scope f cd A outer s H E).stack)) (outer:=outer) (cls:=.ref (B.cl c)) (a0:=a0) I'.ok.frames rfl
  #[λb o q=>PySem.W.of_hideAll _ q,PySem.W.hideAll_none _ (by simp),PySem.W.funFrames_hide I'.stack (λenv he a hf=>q_s _ (q_s _ (List.mem_filterMap.mpr #[env,he,hf]))),oe,vs,T,oT,ts,q1,q2,q3,q4,PySem.W.hideAll_none _ (by simp),q6,q7,q8,q9] λh2 fl up=>?_
 obtain⟨u2,hok2,T2,tr2,t1,t2⟩:=JGz I' rfl has fl up;refine#[ea,T2,c,H',rfl,?_,bare,u2,hok2,tr2,#[fr0 _ f1,f2],#[t1,t2],?_]
 ·exact os.trans I.os
 ·rw[ec];exact hE H' (Same.refl H')
def JJR:∀(outer:List PySem.Env) (H:Hp) (s:Shared) (e:Value) (s':Shared),¬CXV P w B outer H s (EX B λ_ _=>False) e s':=by
 rintro outer H s e s' ⟨ea,T,c,H',_,_,_,_,_,_,_,_,c',_,z⟩;exact z
end
@[reducible]def bmV:List Value:=[.type "ValueError",.type "Exception",.type "BaseException",.type "object"]
def JOj{K:Kq}{h:Heap}{C:Addr}{bmB:List Value}{newId:String}(X:K.In h)(q:PySem.W.excIn K C bmB newId=true) :
  ∃(bm:List Value) (N:Addr) (nm qn:Str) (bs:List Value) (hdct:Bool) (sn:List Str) (sub:List Value) (ab:Bool) (col:Option Bool) (dd:Option Addr) (k0 k1 k2 k3 k5:Option Value) (mN:Mq),
   h.get? C=some (excClassObj nm qn C N bs bm hdct sn sub ab col dd k0 k1 k2 k3 k5 newId)/\h.Ns N mN/\mN "__init__"=none/\OwnTail h bmB bm:=by
 unfold PySem.W.excIn at q
 split at q
 case h_2=>cases q
 rename_i od cdat slots hlook
 split at q
 case h_2=>cases q
 rename_i C2 tl a0 a1 a2 a3 idn a5 hmro hsl;simp![q_i,beq_iff_eq,Bool.not_eq_true']at q;obtain⟨⟨⟨⟨⟨e1,e2⟩,e3⟩,e4⟩,e5⟩,e6⟩:=q;subst e1;subst e2;cases cdat with
 |mk nm bs mro ns qn hd sn sub ab col del =>
  simp only at hmro e3 e5 e6;subst hmro;subst e3;cases slots with
  |mk l =>
   simp only at hsl;subst hsl;exact#[tl,ns,nm,qn,bs,hd,sn,sub,ab,col,od,a0,a1,a2,a3,a5,_,X _ _ hlook,.of_isNs (PySem.W.isNs_of_in X e5),PySem.W.nsMap_none_of_in X e5 e6,PySem.W.tail_of_in X e4]
section
variable{P:Program}{w:World}{B:Bs}{mg:Mq}{base:Heap}{N:List Str}{qual:Str}{scope:Scope}{f:Addr}{cd:Value}{A:Around}{outer:List PySem.Env}{s:Shared}{H:Hp}{E:XK}{G:Lz}
structure Cl(mg:Mq)(B:Bs)(G:Lz):Prop where
 mgc:∀x c,G.lookup x=some (.cls c)->mg x=some (.ref (B.cl c))
 exc:∀x c,G.lookup x=some (.cls c)->∃Bn inN bmN newId,ExcBaseFacts Bn newId inN bmN/\bmV.contains (.type Bn)=true/\PySem.W.excIn B.K (B.cl c) bmV newId=true
def JC2(cl:Cl mg B G)(hA:A.handled=none):JJD (cxOf (CXV P w B) P w B.K mg base N qual scope f cd A outer s H E) B G (XXd B E):=by
 intro nm c m j p1 p2 p3 pos hg hb hl zp s1 Y H1 D I hx;obtain⟨Bn,inN,bmN,newId,Fn,hBn,q⟩:=cl.exc nm c hl;obtain⟨bm,N',nm',qn,bs,hdct,sn,sub,ab,col,dd,k0,k1,k2,k3,k5,mN,hC,hN,hni,TL⟩:=JOj I.kIn q;refine wpAny_Raise_call_subU (C:=B.cl c) (nm:=nm') (q:=qn) (N:=N') (bs:=bs) (bm:=bm) (hdct:=hdct) (sn:=sn) (sub:=sub) (ab:=ab) (col:=col) (dd:=dd) (k0:=k0) (k1:=k1) (k2:=k2) (k3:=k3) (k5:=k5)
  Fn hBn PySem.F.excBase_ValueError (mN:=mN) (TL.hasType PySem.F.excBase_ValueError.hasBase) hA rfl hni (JB0 I hg (cl.mgc nm c hl) #[rfl,?_] (JAE hb).1)
 refine Calls.evalArgs_plain (Calls.spliced_cons (Calls.Constant_str (k:=j) (pos:=p2) (Calls.spliced_nil #[rfl,(show(1:Nat)<=sizeLine by decide),hC,hN,TL,λh' e hx'=>?_])))
 have none0:s.heap.get? e=none:=by
  cases z:s.heap.get? e with
  |none=>rfl
  |some o =>
    obtain⟨o',e2⟩:=I.base.there e o z (by simp[cxOf])
    have:=hx'.new;rw[e2]at this;cases this
 refine PySem.wpAny_leaves_madeW (base:=PySem.W.hideAll s1.heap (frs (cxOf (CXV P w B) P w B.K mg base N qual scope f cd A outer s H E).stack)) (outer:=outer) I.ok.frames rfl (λb o q=>PySem.W.of_hideAll _ q)
  (PySem.W.funFrames_hide I.stack (λenv he a hf=>List.mem_filterMap.mpr #[env,he,hf])) hx' λh2 t x1 x2 x3 x4=>?_
 obtain⟨u2,hok2,T2,tr2,t1,t2⟩:=JGz I rfl (λb hb=>.inl hb) x1 ((Heap.UpToSlots.of_keeps hx'.keeps).trans x4);exact#[e,T2,c,H1,rfl,I.os,I.bare,u2,hok2,tr2,#[none0,JLG I.hok hx'.new],#[t1,t2],hx H1 (Same.refl H1)]
end
section
variable{X:Cx}{zp pins' pn:Pq}{Y:St}{H:Hp}{s:Shared}{A:Around}{xe:Vq}{calm:Bool}{h2:Heap}
def JHT(I:Inv X zp Y H s)(hA:A.frames=X.A.frames)(hc:calm=true->A.handled=none)(hp:∀p∈pn++pins',p∈X.pn++zp):Inv (atX X A pn xe calm) pins' Y H s :=
 let ok:=I.ok
 #[#[ok.mod,ok.kind,ok.glob,ok.blt,ok.above,ok.inj,ok.has,ok.cab,hc,hA.trans ok.frames,ok.stk,ok.exf,ok.bs,ok.bsz,ok.noex,ok.exfs,ok.funs,ok.frf],I.os,I.bare,I.base,I.loc,I.cell,I.free,I.freeC,λp q=>I.pin p (hp p q),I.hok,I.len]
def JMu(I:Inv (atX X A pn xe calm) pins' Y H s)(hA:X.A.frames=A.frames)(hc:X.calm=true->X.A.handled=none)(hp:∀p∈X.pn++zp,p∈pn++pins'):Inv X zp Y H s :=
 let ok:=I.ok
 #[#[ok.mod,ok.kind,ok.glob,ok.blt,ok.above,ok.inj,ok.has,ok.cab,hc,hA.trans ok.frames,ok.stk,ok.exf,ok.bs,ok.bsz,ok.noex,ok.exfs,ok.funs,ok.frf],I.os,I.bare,I.base,I.loc,I.cell,I.free,I.freeC,λp q=>I.pin p (hp p q),I.hok,I.len]
def JKN(I:Inv X zp Y H s)(hex:X.ex=[]){as:List Addr}(has:∀b∈as,b∈frs X.stack\/(X.s₀.heap.get? b=none/\H b=none))(hpin:∀p∈X.pn++zp,p.1 ∉ as){ea:Addr}{cls a0:Value}{l:List PySem.Env}
  (fl:Heap.FlyingW (PySem.W.hideAll s.heap as) l ea cls a0 h2) (up:s.heap.UpToSlots h2) (t:Nat):Inv X zp Y H { s with heap:=h2,toks:=t }:=by
 obtain⟨u2,hok2,_⟩:=JGz I hex has fl up;obtain⟨m,hn,hl⟩:=id I.loc;have cell:∀ {c:Addr}{v:Option Value},s.heap.IsCell c v->h2.IsCell c v:=λ{c v} ⟨o,ho,hd⟩=>by
  obtain⟨sl,e⟩:=up c o ho (λvs q=>by rw[hd]at q;cases q)
  exact#[_,e,hd]
 refine#[I.ok,I.os,I.bare,by rw[hex];exact u2,#[m,up.ns hn,λi x v e1 e2 e3=>?_],λx c e=>?_,I.free,I.freeC,λp hp=>?_,hok2,I.len]
 ·obtain⟨u,r,q⟩:=hl i x v e1 e2 e3;refine#[u,r,?_];rcases q with q|⟨k,c,e,z⟩
  · exact .inl q
  · exact .inr #[k,c,e,cell z]
 ·obtain⟨v,z⟩:=I.cell x c e;exact#[v,cell z]
 ·obtain⟨e,n,ne,nf,d⟩:=I.pin p hp;exact#[fl.1 _ _ (PySem.W.hideAll_get _ e (hpin p hp)),n,ne,nf,d]
def JFw(I:Inv X zp Y H s){ea:Addr}(he:s.heap.get? ea=some oe)(hd:oe.data=.fields vs)(h0:X.s₀.heap.get? ea=none)(hn:H ea=none)(hpin:∀p∈X.pn++zp,p.1≠ea)(new:ObjOk X.prog X.w (upd H ea u) s.heap ea u) :
  Inv X zp Y (upd H ea u) s:=by
 have hloc:ea≠X.env.locals:=λz=>by
  obtain⟨m,⟨o,es,ep,ho,hdo,_⟩,_⟩:=I.loc;rw[<-z,he]at ho;cases ho;rw[hd]at hdo;cases hdo
 have hcell:∀x c,X.env.cells.lookup x=some c->c≠ea:=λx c e z=>by
  obtain⟨v,o,ho,hdo⟩:=I.cell x c e;rw[z,he]at ho;cases ho;rw[hd]at hdo;cases hdo
 have U0:=I.base;refine#[I.ok,I.os,I.bare,#[U0.keep,U0.slot,λb o e n hx=>?_,U0.there,λb xs e=>?_,λb o u e=>?_,λb ps e=>?_],I.loc,I.cell,?_,λx c e=>?_,λp hp=>?_,λa o e=>?_,I.len]
 ·rw[JAI λz=>by rw[z,h0]at e;cases e]
  exact U0.free b o e n hx
 ·have q:=U0.tups b xs e;rw[JAI λz=>by rw[z,hn]at q;cases q]
  exact q
 ·have q:=U0.frzs b o u e;rw[JAI λz=>by rw[z,hn]at q;cases q]
  exact q
 ·obtain⟨more,q⟩:=U0.tbls b ps e;exact#[more,by rw[JAI λz=>by rw[z,hn]at q;cases q];exact q]
 ·rw[JAI hloc.symm];exact I.free
 ·rw[JAI (hcell x c e)];exact I.freeC x c e
 ·obtain⟨e,n,ne,nf,d⟩:=I.pin p hp;exact#[e,by rw[JAI (hpin p hp)];exact n,ne,nf,d]
 ·by_cases ha:a=ea
  ·subst ha;rw[JAF]at e;cases e;exact new
  ·rw[JAI ha]at e;have ne:∀b o,H b=some o->b≠ea:=λb o q z=>by rw[z,hn]at q;cases q
   exact(I.hok a o e).stay (λb u _ q=>q) (λb q=>by rw[JAI (ne b _ q)];exact q) λb xs q=>by rw[JAI (ne b _ q)];exact q
def JIx(I:Inv X zp Y H s){ea C:Addr}{oe:Obj}{vs:Array Value}(he:s.heap.get? ea=some oe)(hc:oe.cls=.ref C)(hd:oe.data=.fields vs)(h0:X.s₀.heap.get? ea=none)(hn:H ea=none)(hpin:∀p∈X.pn++zp,p.1≠ea) :
 Inv X zp Y (upd H ea (.ext (ExcAt ea C))) s:=JFw I he hd h0 hn hpin #[#[oe,he,hc],#[oe,he],λh1 h2 ⟨o1,q1,q2⟩ k=>#[o1,k o1 q1,q2]]
def JKL{M:Model}{A:Around}{E:Vq}{i:Nat}{x:Str}{v:V}{Q:Unit->Shared->Prop}(I:Inv X zp Y H s)(hN:X.N.Nodup)(hi:X.N[i]? = some x)(hx:X.env.scope.names.lookup x=some .local)(hv:Y[i]? = some (some v))
  (h:∀s',Inv X zp (Y.set i none) H s'->Q () s'):wpAny M A (unbindName X.env x) Q E s:=by
 obtain⟨m,hn,hl⟩:=id I.loc;obtain⟨u,r,q⟩:=hl i x v hi hv (.inl hx);have hm:m x=some u:=by
  rcases q with ⟨_,q⟩|⟨k,_⟩
  · exact q
  · have hk:X.env.kindOf x=some .local:=hx
    rcases k with k|k<;>rw[hk]at k<;>cases k
 have hcls:(X.env.scope.kind==.class || (X.env.scope.kind==.module&&X.env.locals != X.env.globals))=false:=by rw[I.ok.kind];rfl
 refine wpAny_unbindName_local hx hn hm hcls λh' u' hn' hs=>h _ ?_;obtain⟨oL,_,_,hoL,_⟩:=id hn;have old:∀b o,X.s₀.heap.get? b=some o->h'.get? b=s.heap.get? b:=λb o e=>hs.2 b (q_l (q_m (q_h e) I.ok.above));have trk:∀b o,H b=some o->b≠X.env.locals:=λb o e z=>by rw[z,I.free]at e;cases e
 have U0:=I.base;refine#[I.ok,I.os,I.bare,#[λb o e n hb hx=>(old b o e).trans (U0.keep b o e n hb hx),λb o e n hb hx=>?_,U0.free,λb o e hx=>?_,U0.tups,U0.frzs,U0.tbls],#[_,hn',λj y v' e1 e2 e3=>?_],λy c e=>?_,I.free,I.freeC,λp hp=>?_,λa o e=>?_,by simpa using I.len]
 ·obtain⟨sl,q⟩:=U0.slot b o e n hb hx;exact#[sl,(old b o e).trans q]
 ·obtain⟨o',q⟩:=U0.there b o e hx;exact#[o',(old b o e).trans q]
 ·have hj:j≠i:=λz=>by
    subst z;have:j<Y.length:=(q_p.mp hv).1;rw[q_y this]at e2;cases e2
  rw[q_z (Ne.symm hj)]at e2;obtain⟨w,r',q⟩:=hl j y v' e1 e2 e3;have hne:y≠x:=λe=>hj (JEo hN e1 (e▸hi));refine#[w,r',?_];rcases q with ⟨k,e⟩|⟨k,c,e,z⟩
  · exact .inl #[k,by simp[hne,e]]
  · exact .inr #[k,c,e,z.sameBut hs (I.cne y c e)]
 ·obtain⟨w,z⟩:=I.cell y c e;exact#[w,z.sameBut hs (I.cne y c e)]
 ·obtain⟨e,n,ne,nf,d⟩:=I.pin p hp;exact#[(hs.2 p.1 ne).trans e,n,ne,nf,d]
 ·refine(I.hok a o e).stay (λb w hb q=>(hs.2 b ?_).trans q) (λ_ q=>q) λ_ _ q=>q;rcases hb with rfl|hb
  · exact trk _ _ e
  · exact trk _ _ hb
end
section
variable{X:Cx}{B:Bs}{C:Cn}{XX:Nat->Hp->Prop}{G:Lz}
end
section
variable{B:Bs}{G:Lz}{tab:Nat->Option Fd}{glo:Nat->R D}{sub:Nat->Nat->Bool}
structure Mo(mg:Mq)(B:Bs)(G:Lz)(tab:Nat->Option Fd)(glo:Nat->R D)(sub:Nat->Nat->Bool):Prop where
 fn:∀x i,G.lookup x=some (.fn i)->∃fd,tab i=some fd/\DefAt B.K mg G x fd
 con:∀x i d,G.lookup x=some (.con i)->glo i=.ok d->∃u v,mg x=some u/\RelV v u/\∀H,Den B H d v
 noexg:∀i c,glo i≠.exc c
 blt:∀x b,G.lookup x=some (.blt b)->mg x=none
 rng:∀x,G.lookup x=some .rng->mg x=none
 isi:∀x,G.lookup x=some .isi->mg x=none
 ty:∀x t,G.lookup x=some (.ty t)->mg x=none
 nam:∀x,G.lookup x=some .nam->mg x=none
 rcf:∀x i,G.lookup x=some (.rcf i)->tab i=none
 rcm:∀x i j,G.lookup x=some (.rcm i j)->tab j=none
 rco:∀x i,G.lookup x≠some (.rco i)
 cl:Cl mg B G
 exm:∀x c,G.lookup x=some (.cls c)->∀k,sub k c=true->PySem.W.exmOne B.K (.ref (B.cl k)) (.ref (B.cl c))=some true
structure Ra3(B:Bs)(C:Cn)(G:Lz)(P:Program)(w:World):Prop where
 ra:Rare B C (CXV P w B) G
 rr:RareS B C (CXV P w B) G
def JHf{x:Bool}{n i:Nat}(h:tab i=none):run x tab glo sub n i ds=.bad:=by
 cases n with
 |zero=>rfl
 |succ n=>unfold run;rw[h]
def fn_at[Cool G]{P:Program}{w:World}(hw:w=B.w){mg:Mq}{base:Heap}(M:Mo mg B G tab glo sub)(ra:∀n,Ra3 B #[run true tab glo sub n,glo,sub] G P w){n i:Nat}{x:Str}{f:Addr}{fo:FuncData}{st:Stmt}{N ps:List Str}{fd:Fd}
  (ih:∀(y:Str) (j:Nat),G.lookup y=some (.fn j)->∃f fd ps,mg y=some (.ref f)/\PySem.W.keepIn B.K (.ref f)=true/\FnOk P w B.K mg base (CXV P w B) n f fd ps (JBR B ps.length (run true tab glo sub n j))/\Binds B.K fd ps []/\∀ds,run true tab glo sub n j ds≠.bad->ds.length=ps.length)
  (F:Fun B.K x x st f fo) (T:Turned G st N ps fd) (ht:tab i=some fd):FnOk P w B.K mg base (CXV P w B) (n+1) f fo ps (JBR B ps.length (run true tab glo sub (n+1) i)):=by
 obtain⟨oc,od,kV,doc,pm,an,cdv,ct,osl,rfl,lk,hcd⟩:=F.ex;refine JOL lk hcd T.sc (λvs H Q E q=>q.1) λA outer s H vs Q E hr q=>?_;obtain⟨hl,ds,dn,q⟩:=q;have hA:A.handled=none:=hr.hd;have g:Gk (cxOf (CXV P w B) P w B.K mg base N x (JAA st) f cdv A outer s H E) B #[run true tab glo sub n,glo,sub] (CXV P w B) (XXd B E) G:={
  K:=rfl
  W:=hw
  anti:=λc H1 H2 sm z H' s'=>z H' (sm.trans s')
  units:=by have:=hr.un;show(A.deeper _).units+200<_;omega
  calm:=λ_=>rfl
  fn:=λy j hy=>by
    obtain⟨f',fd',ps',w1,w2,w3,w4,w5⟩:=ih y j hy;exact#[f',fd',ps',n,w1,w2,w3,hr,w4,w5]
  pas:=JGY
  con:=M.con
  noexg:=M.noexg
  blt:=M.blt
  rng:=M.rng
  isi:=M.isi
  ty:=M.ty
  cls:=M.cl.mgc
  nam:=M.nam
  fld:=λf i e H ds vs _=>by show(match run true tab glo sub n i ds with|.ok d=>_|.exc _=>_|.bad=>_);rw[JHf (M.rcf f i e)];trivial
  mth:=λm i j e=>.inl λds=>JHf (M.rcm m i j e)
  own:=λf b e=>absurd e (M.rco f b) }
 have hs:=JFX (ra n).ra (ra n).rr 60 _ _ _ _ true g T.sc.kind rfl rfl T.sc.nd PassesOwn.leaving (λ_=>rfl) (λ_=>JC2 M.cl hA);refine#[_,JDK hs T.comp,?_];have hlen:=DenL.len ds vs dn;have hN:N.length=fd.slots:=T.slots.symm;have hpl:ps.length<=N.length:=by have:=congrArg List.length T.sc.pre;rw[List.length_take]at this;omega
 refine#[_,_,H,Dm.refl H,JB7 dn rfl ∅,?_]
 unfold run at q;rw[ht]at q;simp![JCe]at q;rw[if_pos (by rw[T.par];omega)]at q
 rw[show fd.slots - fd.par=N.length - ds.length by rw[T.slots,T.par];omega]at q
 split at q
 ·rename_i r d hd
  split at hd
  · rename_i U he
    cases hd;rw[he];exact λY' H' O' so'=>q .non H' so'.same (by simp![Den])
  · rename_i d' he
    cases hd;rw[he];exact λv H' sm dn'=>q v H' sm dn'
  · simp at hd
  · cases hd
 ·rename_i r c hd
  split at hd
  · cases hd
  · cases hd
  · rename_i c' he
    simp![if_true,R.exc.injEq]at hd;subst hd;rw[he];exact q
  · cases hd
 ·exact q.elim
theorem fns[Cool G]{w:World}(hw:w=B.w){base:Heap}(M:Mo mg B G tab glo sub)(ra:∀n,Ra3 B #[run true tab glo sub n,glo,sub] G P w):∀(n:Nat) (x:Str) (i:Nat),G.lookup x=some (.fn i) ->
  ∃f fd ps,mg x=some (.ref f)/\PySem.W.keepIn B.K (.ref f)=true/\FnOk P w B.K mg base (CXV P w B) n f fd ps (JBR B ps.length (run true tab glo sub n i))/\Binds B.K fd ps []/\∀ds,run true tab glo sub n i ds≠.bad->ds.length=ps.length
 |0,x,i,h=>by
  obtain⟨fd,ht,⟨f,fo,st,N,ps,e1,F,bi,T⟩⟩:=M.fn x i h;refine#[f,fo,ps,e1,F.kp,#[λvs H Q E q=>q.1,λA outer s H args us vs Q E hr he hb hv ⟨_,ds,_,q⟩=>?_],bi,λds q=>absurd rfl q];exact fF q
 |n+1,x,i,h=>by
  obtain⟨fd,ht,⟨f,fo,st,N,ps,e1,F,bi,T⟩⟩:=M.fn x i h;refine#[f,fo,ps,e1,F.kp,fn_at hw M ra (fns hw M ra n) F T ht,bi,λds q=>?_];obtain⟨fd',h1,h2⟩:=JPC q;rw[ht]at h1;cases h1;rw[h2,T.par]
end
end VI
end
section
namespace VI
open PySem PySem.Spec PyProof.Rows L2 Builtin Builtin.ObjectAttr Builtin.Getset_descriptor
structure ExcK(K:Kq)(C:Addr):Prop where
 ga:PySem.W.findIn K (.ref C) "__getattribute__"=some (some (.builtin "BaseException.__getattribute__"))
 gh:PySem.W.findIn K (.ref C) "__getattr__"=some none
 cl:PySem.W.findIn K (.ref C) "__class__"=some (some (.builtin "object.__class__"))
 ob:PySem.W.mroIn K C (.type "object")=some true
 bx:PySem.W.mroIn K C (.type "BaseException")=some true
 gt:PySem.W.specialIn K (.builtin "object.__class__") "__get__"=some (some (.builtin "getset_descriptor.__get__"))
 st:PySem.W.takesIn K (.builtin "object.__class__")=some true
section
variable{K:Kq}{a C:Addr}{prog:Program}{w:World}{A:Around}{s:Shared}
def JDU(p:ExcAt a C h):PySem.W.Looks M h (typeOf (.ref a)) (.ref C):=by
 obtain⟨o,h1,h2⟩:=p;rw[<-h2];exact(PySem.W.Looks.ld h1).andThen .now
def JJz{d g:Value}(X:K.In h)(h1:PySem.W.findIn K (.ref C) nm=some (some d))(h2:PySem.W.specialIn K d "__get__"=some (some g))(h3:PySem.W.takesIn K d=some true) :
   PySem.W.Looks M h (find (.ref a) (.ref C) nm) (.bind g d) :=
 (PySem.W.looks_findIn X h1).andThen ((show PySem.W.Looks M h (getOf (some d)) (some g) from PySem.W.looks_specialIn X h2).andThen
   ((show PySem.W.Looks M h (dataDescriptor? (some d) (some g)) (some (g,d)) from(PySem.W.looks_takesIn X h3).andThen .now).andThen (PySem.W.Looks.tag .now)))
def JO3{R:Result->Shared->Prop}{tp:Value}(X:K.In s.heap)(p:ExcAt a C s.heap)(hm:PySem.W.mroIn K C (.type "object")=some true)(h:R (.ok (.ret (.ref C))) s) :
  codeAny (model prog w) A (.call (.builtin "getset_descriptor.__get__") #[[.builtin "object.__class__",.ref a,tp],[]]) R s:=by
 obtain⟨hp,gs,dn,tk,os⟩:=s;have q0:=JDU (M:=model prog w) p;have q1:=PySem.W.looks_mroIn (M:=model prog w) X hm;refine codeAny_call_builtin PySem.W.KF.slot_gs.plain PySem.W.KF.entry_gs (PySem.W.KF.slot_gs.check _ _ _ _ _ _ _ _ PySem.W.KF.type_class (PySem.W.KF.args_gs _ _ _) ?_);unfold Builtin.«getset_descriptor.__get__» descrGet;rw[PySem.W.dga_obj];refine q_b (q_e ?_);unfold descrGetter descrCheckInstance descrNameAndClass isInstance;simp![PySem.W.KF.owner_class];repeat lk
 refine#[Code.quiet_builtin _ (by decide +kernel),codeAny_builtin PySem.W.KF.entry_class ?_]
 unfold Builtin.«object.__class__» shownTypeOf;repeat lk
 exact h
def JL4{nameV:Value}{E:Vq}{Q:Unit->Shared->Prop}(F:ExcK K C)(X:K.In s.heap)(p:ExcAt a C s.heap)(h:Q () s):wpAny (model prog w) A (checkBuiltinCall "BaseException.__getattribute__" #[[.ref a,nameV],[]]) Q E s:=by
 obtain⟨hp,gs,dn,tk,os⟩:=s;have q:PySem.W.Looks (model prog w) hp (isInstance (.ref a) (.type "BaseException")) true:=(JDU p).andThen (PySem.W.looks_mroIn X F.bx);have k1:builtinKind "BaseException.__getattribute__"=some .slot:=by decide +kernel
 have k2:splitId "BaseException.__getattribute__"=some ("BaseException","__getattribute__"):=by decide +kernel
 have ha:=PySem.F.args_bexc_ga (.ref a) nameV;simp![checkBuiltinCall,k1,k2];refine q_b (q.at ?_)
 repeat (first|exact h|wp_step)
def JJ1{E:Vq}{Q:Option Value->Shared->Prop}(F:ExcK K C)(X:K.In s.heap)(p:ExcAt a C s.heap)(h:Q (some (.ref C)) { s with toks:=s.toks+1 }) :
  wpAny (model prog w) A (getAttr? (.ref a) "__class__") Q E s:=by
 obtain⟨hp,gs,dn,tk,os⟩:=s;have q0:=JDU (M:=model prog w) p;have q1:=PySem.W.looks_findIn (M:=model prog w) X F.ga;have q2:=PySem.W.looks_findIn (M:=model prog w) X F.gh;have q3:=JJz (M:=model prog w) (a:=a) X F.cl F.gt F.st;have B:=PySem.F.attr_ValueError.ga;unfold getAttr? getAttrBy? getAttrBy;refine q_b (wpAny_mkText (q_b (wpAny_attempt (wpAny_holding (q_b (q0.at (q_b (q1.at ?_))))))));show wpAny _ _ (getAttrByItsOwn _ _ _ _ _ _) _ _ _;refine q_b (q2.at (q_b (wpAny_attempt (wpAny_holding ?_))));show wpAny _ _ (boundAndCalled _ _ _) _ _ _;unfold boundAndCalled;rw[B.bind];refine q_b (q_e (wpAny_call (codeAny_call_builtin B.plain PySem.F.entry_bexc_ga (JL4 F X p ?_))));refine q_b (q_e (q_b (q_e (q_b (q0.at (q_b (q3.at ?_)))))));show wpAny _ _ (holding [Value.builtin "object.__class__"] (call (.builtin "getset_descriptor.__get__") [Value.builtin "object.__class__",.ref a,.ref C]) >>= ret) _ _ _;refine q_b (wpAny_holding (wpAny_call (JO3 X p F.ob (q_e ?_))));show wpAny _ _ (handedOut (.ref C)) _ _ _;exact PySem.W.handed_on rfl (q_e h)
def JHN(F:ExcK K C):PySem.W.KitX K (.ref a) (.ref C) (ExcAt a C) where
 ty:=λM h _ p=>JDU p
 it:=λM h X _=>by
  obtain⟨cd,e1,_⟩:=q_a.mp F.ob;unfold PySem.W.clsIn at e1
  split at e1
  ·rename_i ho;intro A' Q' E' s' k q;unfold isType loadHead;exact q_b (wpAny_loadPart (k _ _ (X _ _ ho)) (q_e q))
  ·cases e1
 ne:=λh tp dd its n sl X ht=>by
  obtain⟨cd,e1,_⟩:=q_a.mp F.ob;refine Bool.eq_false_iff.mpr λq=>?_;have e:C=tp:=Value.ref.inj (beq_iff_eq.mp q);subst e;unfold PySem.W.clsIn at e1
  split at e1
  ·rename_i ho;have z:=(X _ _ ho).symm.trans ht;cases z
  ·cases e1
 ca:=λX p k=>JJ1 F X p k
end
abbrev nmOf:Ty->String
 |.int=>"int"
 |.bool=>"bool"
 |.str=>"str"
 |.list=>"list"
 |.tuple=>"tuple"
 |.dict=>"dict"
 |.valueError=>"ValueError"
 |.own _=>""
def JO5(h:JBN ty=some t):bootBuiltins t=some (.type (nmOf ty)):=by
 cases ty<;>simp![JBN,q_j,reduceCtorEq]at h<;>subst h<;>boot_by_name
section
variable{K:Kq}
def JRQ(h:(JBN ty).isSome=true):PySem.W.kitOne K (.type "NoneType") (.type (nmOf ty))=some false:=by
 cases ty<;>first|(cases h;done)|kernel_rfl
def JN1(h:(JBN ty).isSome=true):PySem.W.kitOne K (.type "bool") (.type (nmOf ty))=some (ty==.int || ty==.bool):=by
 cases ty<;>first|(cases h;done)|kernel_rfl
def JSx(h:(JBN ty).isSome=true):PySem.W.kitOne K (.type "int") (.type (nmOf ty))=some (ty==.int):=by
 cases ty<;>first|(cases h;done)|kernel_rfl
def JSl(h:(JBN ty).isSome=true):PySem.W.kitOne K (.type "str") (.type (nmOf ty))=some (ty==.str):=by
 cases ty<;>first|(cases h;done)|kernel_rfl
def JOz(h:(JBN ty).isSome=true):PySem.W.kitOne K (.type "list") (.type (nmOf ty))=some (ty==.list):=by
 cases ty<;>first|(cases h;done)|kernel_rfl
def JLC(h:(JBN ty).isSome=true):PySem.W.kitOne K (.type "tuple") (.type (nmOf ty))=some (ty==.tuple):=by
 cases ty<;>first|(cases h;done)|kernel_rfl
def ko_of{C:Addr}(h:PySem.W.kitOne K (.type "NoneType") (.ref C)=some false)(hs:PySem.W.subIn K (.type T) (.ref C)=some false):PySem.W.kitOne K (.type T) (.ref C)=some false:=by
 have n1:∀T:String,((Value.type T)==Value.ref C)=false:=λT=>rfl;unfold PySem.W.kitOne PySem.W.kitCls at h ⊢;rw[n1]at h ⊢;simp![q_v,if_false]at h ⊢
 split at h
 ·rename_i z;rw[if_pos z];exact hs
 ·cases h
def JNl{C:Addr}:PySem.W.subIn K (.type "bool") (.ref C)=some false:=by kernel_rfl
def JQ7{C:Addr}:PySem.W.subIn K (.type "int") (.ref C)=some false:=by kernel_rfl
def JP0{C:Addr}:PySem.W.subIn K (.type "str") (.ref C)=some false:=by kernel_rfl
def JN5{C:Addr}:PySem.W.subIn K (.type "list") (.ref C)=some false:=by kernel_rfl
def JK1{C:Addr}:PySem.W.subIn K (.type "tuple") (.ref C)=some false:=by kernel_rfl
end
structure Isi(B:Bs)(G:Lz)(sub:Nat->Nat->Bool):Prop where
 own:∀x c,G.lookup x=some (.cls c)->PySem.W.kitOne B.K (.type "NoneType") (.ref (B.cl c))=some false
 exc:∀k,sub k k=true->ExcK B.K (B.cl k)/\PySem.W.kitOne B.K (.ref (B.cl k)) (.type "ValueError")=some true
 rel:∀k,sub k k=true->∀x c,G.lookup x=some (.cls c)->PySem.W.kitOne B.K (.ref (B.cl k)) (.ref (B.cl c))=some (sub k c)
section
variable{X:Cx}{B:Bs}{C:Cn}{CX:CXT}{XX:Nat->Hp->Prop}{G:Lz}
def TyV(B:Bs)(G:Lz)(ty:Ty)(v:V):Prop:=((JBN ty).isSome=true/\v=.ty (nmOf ty))\/∃x c,ty=.own c/\G.lookup x=some (.cls c)/\v=.ref (B.cl c)
def JLj(I0:Isi B G C.sub)(g:Gk X B C CX XX G)(ty:Ty):JCE X (.builtin "isinstance") (λvs H Q=>∃d v1 v2,vs=[v1,v2]/\Den B H d v1/\TyV B G ty v2/\KE B XX (isiD C.sub d ty) H Q):=by
 rintro zp s Y H vs us Q I r ⟨d,v1,v2,e,dn,tv,k⟩;subst e;obtain⟨u1,us',rfl,r1,rs⟩:∃u1 us',us=u1::us'/\RelV v1 u1/\Vals [v2] us':=by cases r;exact#[_,_,rfl,‹_›,‹_›]
 obtain⟨u2,rfl,r2⟩:=rs.one;have KI:B.K.In s.heap:=g.K▸I.kIn;have fin:∀ {x t:Value}{Hh:Heap->Prop}{b:Bool},PySem.W.KitX B.K x t Hh->Hh s.heap->isiD C.sub d ty=.ok (.bool b)->x=u1->x≠.builtin "__main__.__loader__#opaque"->PySem.W.kitOne B.K t u2=some b->wpAny (model X.prog X.w) X.A (call (.builtin "isinstance") [u1,u2]) (EP X zp Y Q) X.xe s:=by
  intro x t Hh b Z p e hx hne e2;subst hx;rw[e]at k;exact PySem.W.kia_one Z KI p e2 hne λtk=>#[.bl b,H,I.tok tk,rfl,KE.ok k (by simp![Den])]
 have u2e:∀(T:String) (f:Ty->Bool),((JBN ty).isSome=true->PySem.W.kitOne B.K (.type T) (.type (nmOf ty))=some (f ty))->(∀c,f (.own c)=false)->(∀c,PySem.W.subIn B.K (.type T) (.ref c)=some false)->PySem.W.kitOne B.K (.type T) u2=some (f ty):=by
  intro T f h1 h2 h3;rcases tv with ⟨t1,rfl⟩|⟨x,c,rfl,hl,rfl⟩
  ·cases r2;exact h1 t1
  ·cases r2;rw[h2];exact ko_of (I0.own x c hl) (h3 _)
 cases d with
 |none =>
  simp![Den]at dn;subst dn;cases r1;refine fin PySem.W.kitx_none trivial rfl rfl (by intro q;cases q) (u2e "NoneType" (λ_=>false) (λh=>JRQ h) (λ_=>rfl) λc=>?_)
  kernel_rfl
 |bool b =>
  simp![Den]at dn;subst dn;cases r1;exact fin PySem.W.kitx_bool trivial rfl rfl (by intro q;cases q) (u2e "bool" (λty=>ty==.int || ty==.bool) (λh=>JN1 h) (λ_=>rfl) λc=>JNl)
 |int b =>
  simp![Den]at dn;subst dn;obtain⟨t,rfl⟩:=r1;exact fin PySem.W.kitx_int trivial rfl rfl (by intro q;cases q) (u2e "int" (λty=>ty==.int) (λh=>JSx h) (λ_=>rfl) λc=>JQ7)
 |str b =>
  simp![Den]at dn;subst dn;obtain⟨t,rfl⟩:=r1;exact fin PySem.W.kitx_str trivial rfl rfl (by intro q;cases q) (u2e "str" (λty=>ty==.str) (λh=>JSl h) (λ_=>rfl) λc=>JP0)
 |list b =>
  simp![Den]at dn;obtain⟨l,xs,rfl,q,_⟩:=dn;cases r1;obtain⟨its,_,⟨o,n,e1,e2,_⟩,_⟩:=I.list (g.K▸q);exact fin PySem.W.kitx_list #[o,e1,e2] rfl rfl (by intro q;cases q) (u2e "list" (λty=>ty==.list) (λh=>JOz h) (λ_=>rfl) λc=>JN5)
 |tuple b =>
  simp![Den]at dn;obtain⟨l,xs,rfl,q,_⟩:=dn;cases r1;obtain⟨its,_,⟨o,e1,e2,_⟩,_⟩:=I.tuple (g.K▸q);exact fin PySem.W.kitx_tuple #[o,e1,e2] rfl rfl (by intro q;cases q) (u2e "tuple" (λty=>ty==.tuple) (λh=>JLC h) (λ_=>rfl) λc=>JK1)
 |dict kvs =>
  simp![Den]at dn;rcases dn with ⟨l,c,rfl,rfl,q⟩|⟨l,xs,rfl,q,dk⟩|⟨l,c,rfl,rfl,q⟩
  rotate_left 2
  ·exact fF k
  ·cases r1;simp![isiD,Int.toNat_natCast]at k fin
   by_cases hk:C.sub c c=true
   ·rw[if_pos hk]at k fin;have p:ExcAt l (B.cl c) s.heap:=by
     have:=I.hok l _ q;exact this.1
    rcases tv with ⟨t1,rfl⟩|⟨x,e,rfl,hl,rfl⟩
    ·cases r2;cases ty with
     |valueError=>exact fin (JHN (I0.exc c hk).1) p rfl rfl (by intro q;cases q) (I0.exc c hk).2
     |own e=>cases t1
     |_=>exact fF k
    ·cases r2;exact fin (JHN (I0.exc c hk).1) p rfl rfl (by intro q;cases q) (I0.rel c hk x e hl)
   ·rw[if_neg hk]at k;exact fF k
  ·cases kvs with
   |nil=>exact fF k
   |cons p r =>
    obtain⟨p1,p2⟩:=p;simp![DenK]at dk;obtain⟨_,_,_,_,rfl,_⟩:=dk;exact fF k
def r_isi(I0:Isi B G C.sub)(g:Gk X B C CX XX G)(a:Expr)(x:E)(t:Str)(ty:Ty)(p pt pos:Pos)(h1:Gl X "isinstance")(h2:Gl X t)(h3:G.lookup ("isinstance":Str)=some GK.isi)
  (h4:G.lookup t=some (.ty ty)/\JBN ty=some t\/∃c,ty=.own c/\G.lookup t=some (.cls c)) (h5:JAT t=false) (ha:PE X a (RE B C XX x)) (hs:starEach [a,.Name t pt] X.env=(false,eval a X.env)::starEach [.Name t pt] X.env) :
  PE X (.Call (.Name "isinstance" p) [a,.Name t pt] [] pos) (RE B C XX (.isi x ty)):=by
 have hst:starEach [.Name t pt] X.env=[(false,eval (.Name t pt) X.env)]:=rfl;obtain⟨v2,tv,hn⟩:∃v2,TyV B G ty v2/\PE X (.Name t pt) (tC v2):=by
  rcases h4 with ⟨e1,e2⟩|⟨c,rfl,e1⟩
  · exact#[_,.inl #[by rw[e2];rfl,rfl],JNe h2 (g.ty t ty e1) (JO5 e2) rfl (JAE h5).2.2 (JAE h5).1]
  · exact#[_,.inr #[t,c,rfl,e1,rfl],JKU h2 (g.cls t c e1) rfl (JAE h5).1]
 refine PE.imp (JCV (JLj I0 g ty) h1 (g.isi _ h3) (by boot_by_name) (JAz ha (JAz hn JBQ hst) hs) (by decide) (by decide) hs (by rw[hst];rfl)) ?_
 rintro Y H Q ⟨U,ok,kk⟩;simp![ev]at kk;refine RE.of (W:=λr H=>KE B XX r H Q) ok (λ_ _ z=>z) (λ_ z=>z) kk λd v H1 s1 d1 h1=>?_;exact#[d,v,v2,rfl,d1,tv,KE.mono g s1 h1]
end
end VI
end
section
namespace VI
open PySem PySem.Spec PyProof.Rows L2
def JOv{w:World}(I0:Isi B G C.sub)
  (xo:∀k:XO,G.lookup k.flag=some GK.opt->XOk B C (CXV P w B) G k)
  (ro:RO B C (CXV P w B) G) (rc:G.lookup (".rec":Str)=some GK.opt->RcOk B C (CXV P w B) G):Rare B C (CXV P w B) G where
 nox:=λouter H s e s'=>JJR outer H s e s'
 isi:=λX XX g a x t ty p pt pos h1 h2 h3 h4 h5 h6 h7=>r_isi I0 g a x t ty p pt pos h1 h2 h3 h4 h5 h6 h7
 xop:=xo
 ro:=ro
 rcd:=rc
def nofl{P:Prop}(h:l=none)(z:l=some x):P:=by rw[h]at z;cases z
section
variable{B:Bs}{C:Cn}{CX:CXT}{G:Lz}
def JMk[Cool G](_:G.lookup ("all":Str)=some (.blt .all))(X:Cx)(XX:Nat->Hp->Prop)(g:Gk X B C CX XX G):JCE X (.builtin "all") (λvs H Q=>∃ds,DenL B H ds vs/\KE B XX (bltD .all ds) H Q):=JIe g
end
def x_no(h:G.lookup k.flag=none)(z:G.lookup k.flag=some GK.opt):XOk B C CX G k:=by rw[h]at z;cases z
def JGO{w:World}(I0:Isi B G C.sub)(xo:∀k:XO,G.lookup k.flag=some GK.opt->XOk B C (CXV P w B) G k)(ro:RO B C (CXV P w B) G)(rc:G.lookup (".rec":Str)=some GK.opt->RcOk B C (CXV P w B) G):Rare B C (CXV P w B) G :=
 JOv I0 xo ro rc
def allN:Nat->(List Value->Prop)->Prop
 |0,P=>P []
 |n+1,P=>∀a,allN n λr=>P (a::r)
theorem JE8:∀ {n:Nat}{P:List Value->Prop},allN n P->∀us:List Value,us.length=n->P us
 |0,P,h,us,e=>by rw[q_A.mp e];exact h
 |n+1,P,h,us,e=>by
  cases us with
  |nil=>cases e
  |cons a r=>exact JE8 (h a) r (by simpa using e)
def bOk{x:Str}{st:Stmt}{ps:List Str}(h:allN ps.length λus=>∀(kV doc pm:Value) (an:Option Addr) (cdv ct:Value),bindArgs (PySem.W.fnOf x x (JA6 st) (JAV st) (JAA st) .none kV doc pm an cdv ct) #[us,[]]=pure (ps.zip us)):JGi x st ps :=
 λkV doc pm an cdv ct us hl=>JE8 h us hl kV doc pm an cdv ct
def fnI{K:Kq}{x:Str}{st:Stmt}(f c:Addr)(pm:Value)(a:PySem.W.nsIn K mainGlobals x=some (some (.ref f)):=by kernel_rfl)
 (l:K.lookup f=some #[.type "function",none,.func (PySem.W.fnOf x x (JA6 st) (JAV st) (JAA st) .none .none .none pm none (.ref c) .none),#[]]:=by kernel_rfl) (cc:PySem.W.codeIn K (.ref c) x=true:=by kernel_rfl) (k:PySem.W.keepIn K (.ref f)=true:=by kernel_rfl):FnIn K x st:=fn_in a l cc k
def tuI{G:Lz}{st:Stmt}{N ps:List Str}{fd:Fd}(c:JAk (JCD G 60 true (JAA st).names N) (JAV st)=some fd.body:=by kernel_rfl)
 (s:FnScope N ps (JAA st):=by exact#[rfl,rfl,rfl,by decide +kernel,rfl,by decide +kernel,by decide +kernel]) (p:fd.par=ps.length:=by rfl) (l:fd.slots=N.length:=by rfl):Turned G st N ps fd:=#[c,s,p,l]
abbrev JE5(rs:List (Nat×List Nat))(k c:Nat):Bool:=match rs.lookup k with
 |some l=>l.contains c
 |none=>false
def AllR(P:Nat->List Nat->Prop):List (Nat×List Nat)->Prop
 | []=>True
 |(k,l)::r=>P k l/\AllR P r
theorem AllR.get{P:Nat->List Nat->Prop}:∀ {rs:List (Nat×List Nat)}{k:Nat}{l:List Nat},AllR P rs->rs.lookup k=some l->P k l
 | [],k,l,_,h=>by cases h
 |(j,m)::r,k,l,⟨h1,h2⟩,h=>by
  rw[List.lookup_cons]at h
  by_cases e:(k==j)=true
  · rw[e]at h
    have e':k=j:=by simpa using e
    cases h;subst e';exact h1
  · have e':(k==j)=false:=by simpa using e
    rw[e']at h;exact AllR.get h2 h
structure ClIn(K:Kq)(x:Str)(C:Addr):Prop where
 ns:PySem.W.nsIn K mainGlobals x=some (some (.ref C))
 ex:PySem.W.excIn K C bmV "ValueError.__new__"=true
 ty:PySem.W.kitOne K (.type "NoneType") (.ref C)=some false
structure RaIn(K:Kq)(C:Addr):Prop where
 k:ExcK K C
 v:PySem.W.kitOne K (.ref C) (.type "ValueError")=some true
def JIw(K:Kq)(C D:Addr)(b:Bool):Prop:=PySem.W.kitOne K (.ref C) (.ref D)=some b/\(b=true->PySem.W.exmOne K (.ref C) (.ref D)=some true)
def JL7{K:Kq}{C D:Addr}(h:PySem.W.kitOne K (.ref C) (.ref D)=some true)(h2:PySem.W.exmOne K (.ref C) (.ref D)=some true):JIw K C D true:=#[h,λ_=>h2]
def JCq{K:Kq}{C D:Addr}(h:PySem.W.kitOne K (.ref C) (.ref D)=some false):JIw K C D false:=#[h,λz=>by cases z]
section
variable{B:Bs}{G:Lz}{tab:Nat->Option Fd}{glo:Nat->R D}{rs:List (Nat×List Nat)}{mg:Mq}
def MoP(mg:Mq)(B:Bs)(G:Lz)(tab:Nat->Option Fd)(glo:Nat->R D)(x:Str):GK->Prop
 |.fn i=>∃fd,tab i=some fd/\DefAt B.K mg G x fd
 |.con i=>∀d,glo i=.ok d->∃u v,mg x=some u/\RelV v u/\∀H,Den B H d v
 |.blt _=>mg x=none
 |.rng=>mg x=none
 |.isi=>mg x=none
 |.ty _=>mg x=none
 |.nam=>mg x=none
 |.cls c=>ClIn B.K x (B.cl c)/\mg x=some (.ref (B.cl c))
 |.opt=>True
 |.rcf i=>tab i=none
 |.rcm _ j=>tab j=none
 |.rco _=>False
def RaP(B:Bs)(G:Lz)(k:Nat)(l:List Nat):Prop:=RaIn B.K (B.cl k)/\AllP (λ_ gk=>match gk with
 |.cls c=>JIw B.K (B.cl k) (B.cl c) (l.contains c)
 |_=>True) G
def JC4{k c:Nat}(h:JE5 rs k c=true):∃l,rs.lookup k=some l/\l.contains c=true:=by
 unfold JE5 at h
 split at h
 ·rename_i l e;exact#[l,e,h]
 ·cases h
def JMP(hr:AllR (RaP B G) rs){k c:Nat}(hx:G.lookup x=some (.cls c))(hk:rs.lookup k=some l):JIw B.K (B.cl k) (B.cl c) (l.contains c):=(hr.get hk).2.get hx
def JJx(h:AllP (MoP mg B G tab glo) G)(hr:AllR (RaP B G) rs):Isi B G (JE5 rs) where
 own:=λx c e=>(h.get e).1.ty
 exc:=λk hk=>by
  obtain⟨l,e,_⟩:=JC4 hk;exact#[(hr.get e).1.k,(hr.get e).1.v]
 rel:=λk hk x c e=>by
  obtain⟨l,el,_⟩:=JC4 hk;have:JE5 rs k c=l.contains c:=by unfold JE5;rw[el]
  rw[this];exact(JMP hr e el).1
def mo_of(h:AllP (MoP mg B G tab glo) G)(hr:AllR (RaP B G) rs)(hg:∀i c,glo i≠.exc c):Mo mg B G tab glo (JE5 rs) where
 fn:=λx i e=>h.get e
 con:=λx i d e q=>h.get e d q
 noexg:=hg
 blt:=λx b e=>h.get e
 rng:=λx e=>h.get e
 isi:=λx e=>h.get e
 ty:=λx t e=>h.get e
 nam:=λx e=>h.get e
 rcf:=λx i e=>h.get e
 rcm:=λx i j e=>h.get e
 rco:=λx i e=>h.get e
 cl:=#[λx c e=>(h.get e).2,λx c e=>#[_,_,_,_,PySem.F.excBase_ValueError,by decide,(h.get e).1.ex]]
 exm:=λx c e k hk=>by
  obtain⟨l,el,hc⟩:=JC4 hk;exact(JMP hr e el).2 hc
end
abbrev conV:Value->Option D
 |.none=>some .none
 |.bool b=>some (.bool b)
 |.int i _=>some (.int i)
 |.str x _=>some (.str x)
 |_=>none
def JLU{d:D}(h:conV u=some d):∃v,RelV v u/\∀H,Den B H d v:=by
 cases u<;>simp![conV,q_j,reduceCtorEq]at h<;>subst h
 ·exact#[.non,rfl,λH=>by simp![Den]]
 ·exact#[.bl _,rfl,λH=>by simp![Den]]
 ·exact#[.int _,#[_,rfl],λH=>by simp![Den]]
 ·exact#[.str _,#[_,rfl],λH=>by simp![Den]]
end VI
namespace VI
open PySem PySem.Spec PyProof.Rows L2
mutual
noncomputable def conK(K:Kq):Nat->Value->Option D
 |0,_=>none
 |n+1,u=>match u with
  |.ref a=>(match K.lookup a with
   |some ⟨.type "tuple",_,.seq its 0,_⟩=>if its.size<=1000 then (JIB K n its.toList).map PyData.tuple else none
   |_=>none)
  |u=>conV u
noncomputable def JIB(K:Kq):Nat->List Value->Option (List D)
 |0,_=>none
 |_,[]=>some []
 |n+1,u::us=>(conK K n u).bind λd=>(JIB K n us).map (d::·)
end
mutual
theorem JHi:∀ {n:Nat}{u:Value}{d:D},conK B.K n u=some d->∃v,RelV v u/\∀H,Den B H d v
 |0,u,d,h=>by simp[conK]at h
 |n+1,u,d,h=>by
  unfold conK at h
  split at h
  ·rename_i a
   split at h
   ·rename_i od its sl l
    split at h
    ·rename_i hz;obtain⟨ds,h1,e⟩:=q_d.mp h;subst e;obtain⟨vs,r,q⟩:=JFW h1;refine#[.ref a,rfl,λH=>?_];simp![Den];exact#[a,vs,rfl,.inr #[_,its,_,l,rfl,rfl,by rw[sizeLine_eq];omega,r],q H]
    ·cases h
   ·cases h
  ·exact JLU h
theorem JFW:∀ {n:Nat}{us:List Value}{ds:List D},JIB B.K n us=some ds->∃vs,Vals vs us/\∀H,DenL B H ds vs
 |0,us,ds,h=>by simp[JIB]at h
 |n+1,[],ds,h=>by
  simp![JIB,q_j]at h;subst h;exact#[[],.nil,λH=>by simp![DenL]]
 |n+1,u::us,ds,h=>by
  unfold JIB at h;obtain⟨d,h1,h⟩:=q_a.mp h;obtain⟨r,h2,e⟩:=q_d.mp h;subst e;obtain⟨v,r1,q1⟩:=JHi h1;obtain⟨vs,r2,q2⟩:=JFW h2;exact#[v::vs,.cons r1 r2,λH=>by simp![DenL];exact#[v,vs,rfl,q1 H,q2 H]]
end
def JNd{K:Kq}{cl:Nat->Addr}{rc:Nat->Addr->Hp->Prop}{rcm:RcM rc}{w:World}{h:Heap}{mg:Mq}{x:Str}{d0:D}(X:K.In h)(Gm:h.Ns mainGlobals mg)
  (e:((PySem.W.nsIn K mainGlobals x).bind λo=>o.bind λu=>conK K 64 u)=some d0) {glo:Nat->R D}{i:Nat}(hg:glo i=.ok d0) :
  ∀d,glo i=.ok d->∃u v,mg x=some u/\RelV v u/\∀H,Den #[K,cl,w,rc,rcm] H d v:=by
 intro d hd;rw[hg]at hd;cases hd;obtain⟨o,h1,h2⟩:=q_a.mp e;obtain⟨u,h3,h4⟩:=q_a.mp h2;subst h3;obtain⟨v,r,q⟩:=JHi (B:=#[K,cl,w,rc,rcm]) h4;exact#[u,v,PySem.W.mg_of X Gm h1,r,q]
end VI
end
section
namespace Fr
def JBd{a g:Int}(h:g ∣ a):a.fdiv g=a / g:=Int.fdiv_eq_ediv_of_dvd h
def JDQ(up down:Int)(h:down≠0):up.fdiv (if down<0 then -((up.gcd down:Nat):Int) else ((up.gcd down:Nat):Int))=(Rat.divInt up down).num:=by
 have hg:((up.gcd down:Nat):Int) ∣ up:=Int.gcd_dvd_left ..;rw[Rat.num_divInt,Int.gcd_comm down up]
 by_cases hd:down<0
 ·rw[if_pos hd,JBd (Int.neg_dvd.mpr hg),Int.sign_eq_neg_one_of_neg hd,Int.neg_one_mul,Int.ediv_neg,Int.neg_ediv_of_dvd hg]
 ·rw[if_neg hd,JBd hg,Int.sign_eq_one_of_pos ∅,Int.one_mul]
def JE4(up down:Int)(h:down≠0):down.fdiv (if down<0 then -((up.gcd down:Nat):Int) else ((up.gcd down:Nat):Int))=((Rat.divInt up down).den:Int):=by
 have hg:((up.gcd down:Nat):Int) ∣ down:=Int.gcd_dvd_right ..;rw[Rat.den_divInt,if_neg h,Int.gcd_comm down up]
 by_cases hd:down<0
 ·rw[if_pos hd,JBd (Int.neg_dvd.mpr hg),Int.ediv_neg,Int.natCast_ediv,<-Int.neg_ediv_of_dvd hg]
  congr 1
  omega
 ·rw[if_neg hd,JBd hg,Int.natCast_ediv]
  congr 1
  omega
theorem den_pos(q:Rat):(0:Int)<(q.den:Int):=by have:=q.den_pos;omega
def JCg(q:Rat):(q.den:Int)≠0:=by have:=den_pos q;omega
def JSB(a b:Rat):Rat.divInt (a.num*b.den - b.num*a.den) ((a.den:Int)*b.den)=a - b:=by
 conv=>rhs;rw[<-Rat.num_divInt_den a,<-Rat.num_divInt_den b]
 rw[Rat.divInt_sub_divInt _ _ (JCg a) (JCg b)]
def JNF(a b:Rat):Rat.divInt (a.num*b.num) ((a.den:Int)*b.den)=a*b:=by
 conv=>rhs;rw[<-Rat.num_divInt_den a,<-Rat.num_divInt_den b]
 rw[Rat.divInt_mul_divInt]
def JOR(q:Rat):q.num.gcd (q.den:Int)=1:=by
 have:=q.reduced;unfold Nat.Coprime at this;unfold Int.gcd;simpa using this
def JHR(a b:Int):b.gcd (a.fmod b)=a.gcd b:=by
 have h:=Int.mul_fdiv_add_fmod a b;have e:a.fmod b=a - b*a.fdiv b:=by omega
 rw[e,Int.gcd_comm a b];apply Nat.dvd_antisymm
 ·apply Int.dvd_gcd
  ·exact Int.gcd_dvd_left ..
  ·have h1:((b.gcd (a - b*a.fdiv b):Nat):Int) ∣ b:=Int.gcd_dvd_left ..;have h2:((b.gcd (a - b*a.fdiv b):Nat):Int) ∣ a - b*a.fdiv b:=Int.gcd_dvd_right ..;have h3:=Int.dvd_add h2 (Int.dvd_mul_of_dvd_left (c:=a.fdiv b) h1);have e2:a - b*a.fdiv b+b*a.fdiv b=a:=by omega
   rwa [e2]at h3
 ·apply Int.dvd_gcd
  ·exact Int.gcd_dvd_left ..
  ·exact Int.dvd_sub (Int.gcd_dvd_right ..) (Int.dvd_mul_of_dvd_left (Int.gcd_dvd_left ..))
def JJ8(a b:Int)(h:b≠0):(a.fmod b).natAbs<b.natAbs:=by
 by_cases hb:0<b
 ·have h1:=Int.fmod_nonneg_of_pos a hb;have h2:=Int.fmod_lt_of_pos a hb;omega
 ·have hb':b<0:=by omega
  have h1:=Int.mul_fdiv_add_fmod a b;rw[Int.fmod_eq_emod];have h2:=Int.emod_nonneg a h;have h3:=Int.emod_lt a h
  split
  ·rename_i q;rcases q with q|q
   ·omega
   ·have:=Int.emod_eq_zero_of_dvd q;omega
  ·rename_i q;have h4:a % b≠0:=λz=>q (.inr (Int.dvd_of_emod_eq_zero z));omega
end Fr
end
section
namespace VI.VP
open PySem
def JAK{x:Bool}{tab:Nat->Option Fd}{glo:Nat->R D}{sub:Nat->Nat->Bool}{n f:Nat}{xs:List D}{fd:Fd}(h:tab f=some fd):run x tab glo sub (n+1) f xs=JCe x #[run x tab glo sub n,glo,sub] fd xs:=by
 rw[run,h]
@[simp] theorem look_zero (s:Sl) (U:Env):look (s::U) 0=s.get:=rfl
@[simp] theorem look_succ (s:Sl) (U:Env) (i:Nat):look (s::U) (i+1)=look U i:=rfl
@[simp] theorem get_val (d:D):(Sl.val d).get=.ok d:=rfl
@[simp] theorem get_own (d:List D):(Sl.own (.list d)).get=.ok (.list d):=rfl
@[simp] theorem bind_ok {α β:Type}(a:α) (f:α->R β):(R.ok a).bind f=f a:=rfl
@[simp] theorem bind_exc {α β:Type}(c:Nat) (f:α->R β):(R.exc c).bind f=.exc c:=rfl
@[simp] theorem stepR_ok {α:Type}(a:α) (f:α->Fl):stepR (.ok a) f=f a:=rfl
@[simp] theorem stepR_exc {α:Type}(c:Nat) (f:α->Fl):stepR (.exc c) f=.ex c:=rfl
def JD1(e:E)(i:Nat)(d:D)(r:Env):JAc e i (.val d::r)=JAc e (i+1) r:=by simp[JAc,Sl.isOwn]
def JEK(e:E)(i:Nat)(r:Env):JAc e i (.no::r)=JAc e (i+1) r:=by simp[JAc,Sl.isOwn]
def JAa(e:E)(i:Nat)(d:D)(r:Env):JAc e i (.own d::r)=(e.uses i || JAc e (i+1) r):=by simp[JAc,Sl.isOwn]
def JDs(e:E)(i:Nat):JAc e i []=false:=rfl
def JA4(e:E)(i:Nat)(d:D)(r:Env):JAJ e i (.val d::r)=.val d::JAJ e (i+1) r:=by simp[JAJ,Sl.frz]
def JBb(e:E)(i:Nat)(r:Env):JAJ e i (.no::r)=.no::JAJ e (i+1) r:=by simp[JAJ,Sl.frz]
def JA8(e:E)(i:Nat)(d:List D)(r:Env):JAJ e i (.own (.list d)::r)=(if e.uses i=true then .val (.list d) else .own (.list d))::JAJ e (i+1) r:=by
 simp![JAJ,Sl.frz]
def JBH(e:E)(i:Nat):JAJ e i []=[]:=rfl
def JGx(e:E)(d:D)(U:Env):after e d U=if (JAc e 0 U&&!JAe d)=true then JAJ e 0 U else U:=rfl
abbrev JDN(x:Bool):Fl->R D
 |.nx _=>.ok .none
 |.rt d=>.ok d
 |.ex c=>if x=true then .exc c else .bad
 |_=>.bad
def JAG{x:Bool}{C:Cn}{f:Fd}{xs:List D}(h:xs.length=f.par):JCe x C f xs=JDN x (exec C f.body (xs.map Sl.val++List.replicate (f.slots - f.par) Sl.no)):=by
 unfold JCe;rw[if_pos h];cases exec C f.body (xs.map Sl.val++List.replicate (f.slots - f.par) Sl.no)<;>rfl
section
variable{c:Env->R Bool}{b:Env->Fl}
theorem JCK:∀(n:Nat) (U:Env),JAp c b n U≠.bad->JAp c b (n+1) U=JAp c b n U
 |0,U,h=>absurd rfl h
 |n+1,U,h=>by
  unfold JAp at h ⊢;cases hc:c U with
  |ok k =>
   cases k with
   |true =>
    rw[hc]at h;simp only at h ⊢;cases hb:b U with
    |nx U'=>rw[hb]at h;exact JCK n U' h
    |ct U'=>rw[hb]at h;exact JCK n U' h
    |bk U'=>rfl
    |rt d=>rfl
    |ex k=>rfl
    |bad=>rfl
   |false=>rfl
  |exc k=>rfl
  |bad=>rfl
def JFI{n m:Nat}(h:JAp c b n U≠.bad)(hm:n<=m):JAp c b m U=JAp c b n U:=by
 induction hm with
 |refl=>rfl
 |step _ ih=>rw[JCK _ _ (by rw[ih];exact h),ih]
def JEC{n:Nat}(h:JAp c b n U≠.bad):JB1 c b U=JAp c b n U:=by
 unfold JB1;have hx:∃n,JAp c b n U≠.bad:=#[n,h];rw[dif_pos hx];have h2:=hx.choose_spec;rcases Nat.le_total n hx.choose with l|l
 ·exact JFI h l
 ·exact(JFI h2 l).symm
def JD5(hc:c U=.ok false):JB1 c b U=.nx U:=by
 have:JAp c b 1 U=.nx U:=by unfold JAp;rw[hc]
 rw[JEC (n:=1) (by rw[this];intro h;cases h),this]
def JDe(hc:c U=.ok true)(hb:b U=.nx U'):JB1 c b U=JB1 c b U':=by
 have hs:∀n,JAp c b (n+1) U=JAp c b n U':=λn=>by
  conv=>lhs;unfold JAp
  rw[hc];simp only;rw[hb]
 by_cases h:∃n,JAp c b n U'≠.bad
 ·obtain⟨n,h⟩:=h;rw[JEC h,JEC (n:=n+1) (by rw[hs];exact h),hs]
 ·have h1:JB1 c b U'=.bad:=by unfold JB1;rw[dif_neg h]
  have h2:¬ ∃n,JAp c b n U≠.bad:=by
   rintro⟨n,q⟩;cases n with
   |zero=>exact q rfl
   |succ n=>exact h #[n,by rw[<-hs];exact q]
  rw[h1];unfold JB1;rw[dif_neg h2]
end
def JCA{i:Int}{k:Nat}(h:i.natAbs<2 ^ k):Builtin.Int.intBits i<=k:=by
 unfold Builtin.Int.intBits
 split
 ·omega
 ·rename_i hz;have hn:i.natAbs≠0:=by simpa using hz
  have:=(Nat.log2_lt hn).mpr h;omega
def JJa{i j:Int}(h:j.natAbs<2 ^ 9000):Builtin.divisionGoesByPylong i j=false:=by
 unfold Builtin.divisionGoesByPylong;simp![Bool.and_eq_false_iff,decide_eq_false_iff_not];left
 split
 ·omega
 ·rename_i hz;have hn:j.natAbs≠0:=by simpa using hz
  have:=(Nat.log2_lt hn).mpr h;omega
end VI.VP
end
section
namespace VI.VP
open PySem Fr
def L(i:Int):Prop:=i.natAbs<2 ^ 4000
def L.of{i:Int}{k:Nat}(h:i.natAbs<2 ^ k)(hk:k<=4000):L i:=q_m h (Nat.pow_le_pow_right ∅ hk)
def JPv{i j:Int}(hi:L i)(hj:L j):IntMulOk i j:=by
 have h1:=JCA hi;have h2:=JCA hj;unfold IntMulOk;intro h;simp![q_i,q_C]at h;have h3:=h.2;unfold Builtin.Int.intTooBig at h3;have:(bitsLine:Int) ≥ 8000:=by decide
 simp![q_C]at h3;omega
def pyl{i j:Int}(hj:L j):Builtin.divisionGoesByPylong i j=false:=JJa (q_m hj (Nat.pow_le_pow_right ∅ ∅))
def JRs{i j:Int}(hi:L i)(hj:L j):binD .Mult (.int i) (.int j)=.ok (.int (i*j)):=by
 simp![binD,if_pos (JPv hi hj)]
def JG5{i j:Int}(hj:j.natAbs<2 ^ 64):binD .Mult (.int i) (.int j)=.ok (.int (i*j)):=by
 simp![binD,if_pos (IntMulOk.of_right (a:=i) (JCA hj))]
def JDi{i j:Int}(hj:i.natAbs<2 ^ 64):binD .Mult (.int i) (.int j)=.ok (.int (i*j)):=by
 simp![binD,if_pos (IntMulOk.of_left (b:=j) (JCA hj))]
def JST{i j:Int}:binD .Add (.int i) (.int j)=.ok (.int (i+j)):=rfl
def JRR{i j:Int}:binD .Sub (.int i) (.int j)=.ok (.int (i - j)):=rfl
def JIH{i j:Int}(h:j≠0)(hj:L j):binD .FloorDiv (.int i) (.int j)=.ok (.int (i.fdiv j)):=by
 simp![binD,if_pos (And.intro h (pyl (i:=i) hj))]
def JGL{i j:Int}(h:j≠0):binD .Mod (.int i) (.int j)=.ok (.int (i.fmod j)):=by
 simp![binD,if_pos h]
abbrev F(q:Rat):D:=.tuple [.int q.num,.int q.den]
def JTA(p q:Rat):PyData.eqv (F p) (F q)=decide (p=q):=by
 simp![F,PyData.eqv,PyData.eqvAll,Bool.and_true]
 by_cases h:p=q
 ·subst h;simp
 ·rw[q_o h];simp![Bool.and_eq_false_iff,beq_eq_false_iff_ne,ne_eq]
  by_cases hn:p.num=q.num
  ·right;intro hd;exact h (Rat.ext hn ∅)
  ·left;exact hn
def JNB(q:Rat):idxD (F q) (.int 0)=.ok (.int q.num):=rfl
def JMs(q:Rat):idxD (F q) (.int 1)=.ok (.int q.den):=rfl
def i_ne(i j:Int):cmpD .NotEq (.int i) (.int j)=.ok (.bool (!decide (i=j))):=by
 have:PyData.eqv (.int i) (.int j)=decide (i=j):=by simp![PyData.eqv];rfl
 simp![cmpD,shaped,PyData.canLay0,PyData.depth,this];rfl
def i_eq(i j:Int):cmpD .Eq (.int i) (.int j)=.ok (.bool (decide (i=j))):=by
 have:PyData.eqv (.int i) (.int j)=decide (i=j):=by simp![PyData.eqv];rfl
 simp![cmpD,shaped,PyData.canLay0,PyData.depth,this];rfl
def i_lt(i j:Int):cmpD .Lt (.int i) (.int j)=.ok (.bool (decide (i<j))):=rfl
def i_gt(i j:Int):cmpD .Gt (.int i) (.int j)=.ok (.bool (decide (j<i))):=rfl
def i_le(i j:Int):cmpD .LtE (.int i) (.int j)=.ok (.bool (decide (i<=j))):=rfl
def i_ge(i j:Int):cmpD .GtE (.int i) (.int j)=.ok (.bool (decide (j<=i))):=rfl
def JJH(u d:Int)(h:d≠0):(Rat.divInt u d).num.natAbs<=u.natAbs:=by
 rw[<-JDQ u d h];have hg:((u.gcd d:Nat):Int) ∣ u:=Int.gcd_dvd_left ..;have key:∀g:Int,g ∣ u->(u.fdiv g).natAbs<=u.natAbs:=λg hg=>by
  rw[JBd hg];obtain⟨k,rfl⟩:=hg
  by_cases hz:g=0
  ·subst hz;simp
  ·rw[Int.mul_ediv_cancel_left _ hz,Int.natAbs_mul];have:0<g.natAbs:=by omega
   exact Nat.le_mul_of_pos_left _ this
 split
 ·exact key _ (Int.neg_dvd.mpr hg)
 ·exact key _ hg
def JGl(u d:Int)(h:d≠0):(Rat.divInt u d).den<=d.natAbs:=by
 rw[Rat.den_divInt,if_neg h];exact Nat.div_le_self _ _
def Sz(k:Nat)(q:Rat):Prop:=q.num.natAbs<2 ^ k/\q.den<2 ^ k
def Sz.mono{i k:Nat}{q:Rat}(h:Sz i q)(hk:i<=k):Sz k q:=#[q_m h.1 (Nat.pow_le_pow_right ∅ hk),q_m h.2 (Nat.pow_le_pow_right ∅ hk)]
def Sz.of{u d:Int}{k:Nat}(h:d≠0)(hu:u.natAbs<2 ^ k)(hd:d.natAbs<2 ^ k):Sz k (Rat.divInt u d):=#[Nat.lt_of_le_of_lt (JJH u d h) hu,Nat.lt_of_le_of_lt (JGl u d h) hd]
def Sz.n{k:Nat}{q:Rat}(h:Sz k q):q.num.natAbs<2 ^ k:=h.1
def Sz.d{k:Nat}{q:Rat}(h:Sz k q):(q.den:Int).natAbs<2 ^ k:=by simpa using h.2
def JEc{a b:Int}{i j:Nat}(h1:a.natAbs<2 ^ i)(h2:b.natAbs<2 ^ j):(a*b).natAbs<2 ^ (i+j):=by
 rw[Int.natAbs_mul,Nat.pow_add];exact Nat.mul_lt_mul'' h1 h2
def JP9{a b:Int}{i:Nat}(h1:a.natAbs<2 ^ i)(h2:b.natAbs<2 ^ i):(a - b).natAbs<2 ^ (i+1):=by
 have:=Int.natAbs_sub_le a b;rw[Nat.pow_succ];omega
def JLu{a:Int}{i k:Nat}(h:a.natAbs<2 ^ i)(hk:i<=k):a.natAbs<2 ^ k:=q_m h (Nat.pow_le_pow_right ∅ hk)
section
variable{i j k:Nat}{p q:Rat}
def Sz.sub(hp:Sz i p)(hq:Sz j q)(hk:i+j+1<=k):Sz k (p - q):=by
 rw[<-JSB];have h1:=JEc hp.n hq.d;have h2:=JEc hq.n hp.d;rw[Nat.add_comm j i]at h2;refine Sz.of (Int.mul_ne_zero (JCg p) (JCg q)) (JLu (JP9 h1 h2) hk) (JLu (JEc hp.d hq.d) ∅)
def Sz.mul(hp:Sz i p)(hq:Sz j q)(hk:i+j<=k):Sz k (p*q):=by
 rw[<-JNF];exact Sz.of (Int.mul_ne_zero (JCg p) (JCg q)) (JLu (JEc hp.n hq.n) hk) (JLu (JEc hp.d hq.d) hk)
end
@[reducible]def Q(q:Rat):Prop:=Sz 1500 q
def Sz.Ln{k:Nat}{q:Rat}(h:Sz k q)(hk:k<=4000):L q.num:=L.of h.n hk
def Sz.Ld{k:Nat}{q:Rat}(h:Sz k q)(hk:k<=4000):L (q.den:Int):=L.of h.d hk
end VI.VP
end
section
namespace VI.VP
open PySem
section
variable{C:Cn}{U:Env}{a b c e es o i r:E}{x y z d:D}{xs:List D}
abbrev bin1(op:Operator):R D->R D->R D
 |.ok x,.ok y=>binD op x y
 |.ok _,r=>r
 |r,_=>r
abbrev neg1:R D->R D
 |.ok (.int i)=>.ok (.int (-i))
 |.exc c=>.exc c
 |_=>.bad
abbrev not1:R Bool->R D
 |.ok b=>.ok (.bool (!b))
 |.exc c=>.exc c
 |.bad=>.bad
abbrev tr1:R D->R Bool
 |.ok d=>truth d
 |.exc c=>.exc c
 |.bad=>.bad
abbrev and1(C:Cn)(b:E)(U:Env):R D->R D
 |.ok (.bool true)=>ev C b U
 |.ok (.bool false)=>.ok (.bool false)
 |.exc c=>.exc c
 |_=>.bad
abbrev or1(C:Cn)(b:E)(U:Env):R D->R D
 |.ok (.bool true)=>.ok (.bool true)
 |.ok (.bool false)=>ev C b U
 |.exc c=>.exc c
 |_=>.bad
abbrev cmp1(op:CmpOp):R D->R D->R D
 |.ok x,.ok y=>cmpD op x y
 |.ok _,r=>r
 |r,_=>r
abbrev isN1(n:Bool):R D->R D
 |.ok x=>.ok (.bool (if n=true then !isNone x else isNone x))
 |r=>r
abbrev ife1(C:Cn)(a b:E)(U:Env):R Bool->R D
 |.ok true=>ev C a U
 |.ok false=>ev C b U
 |.exc c=>.exc c
 |.bad=>.bad
abbrev tup1:R (List D)->R D
 |.ok xs=>.ok (.tuple xs)
 |.exc c=>.exc c
 |.bad=>.bad
abbrev lst1:R (List D)->R D
 |.ok xs=>.ok (.list xs)
 |.exc c=>.exc c
 |.bad=>.bad
abbrev idx1:R D->R D->R D
 |.ok x,.ok y=>idxD x y
 |.ok _,r=>r
 |r,_=>r
abbrev JIf(C:Cn)(f:Nat):R (List D)->R D
 |.ok xs=>C.fn f xs
 |.exc c=>.exc c
 |.bad=>.bad
abbrev blt1(b:Blt):R (List D)->R D
 |.ok xs=>bltD b xs
 |.exc c=>.exc c
 |.bad=>.bad
abbrev isi1(C:Cn)(t:Ty):R D->R D
 |.ok x=>isiD C.sub x t
 |r=>r
abbrev JNJ:R D->R D->R D
 |.ok (.list xs),.ok y=>JDv (.list xs) y
 |.ok (.list _),r=>r
 |.exc c,_=>.exc c
 |_,_=>.bad
abbrev JMr:R D->R D->R D
 |.ok (.list xs),.ok y=>JDj (.list xs) y
 |.ok (.list _),r=>r
 |.exc c,_=>.exc c
 |_,_=>.bad
abbrev JLS:R D->R (List D)->R (List D)
 |.ok x,.ok xs=>.ok (x::xs)
 |.ok _,r=>r
 |.exc c,_=>.exc c
 |.bad,_=>.bad
abbrev JEw(C:Cn)(k:Nat)(elt cond:E)(U:Env)(x:D):R (Option D):=(push k x U).bind λU1=>(evT C cond U1).bind λt=>if t=true then (ev C elt U1).bind λy=>.ok (some y) else .ok none
abbrev JNh(C:Cn)(k:Nat)(elt cond:E)(U:Env):R (List D)->R D
 |.ok xs=>if xs.length<=16777216 then (JBO (JEw C k elt cond U) xs).bind λys=>.ok (.list ys) else .bad
 |.exc c=>.exc c
 |.bad=>.bad
abbrev its1:R D->R (List D)
 |.ok d=>JBJ d
 |.exc c=>.exc c
 |.bad=>.bad
abbrev rng1:R (List D)->R (List D)
 |.ok d=>rngD d
 |r=>r
def JDf(r:R D):r.bind truth=tr1 r:=by cases r<;>rfl
def JCj(r:R D):r.bind JBJ=its1 r:=by cases r<;>rfl
def v_var{j:Nat}:ev C (.var j) U=look U j:=by simp![ev]
def JQS{j:Int}:ev C (.cint j) U=.ok (.int j):=by simp![ev]
def v_bl{j:Bool}:ev C (.cbl j) U=.ok (.bool j):=by simp![ev]
def JQW:ev C .cnon U=.ok .none:=by simp![ev]
def JR9:ev C (.cstr j) U=.ok (.str j):=by simp![ev]
def JSv{j:Nat}:ev C (.glo j) U=C.glo j:=by simp![ev]
def JQn:ev C (.bin op a b) U=bin1 op (ev C a U) (ev C b U):=by
 simp![ev];cases ev C a U<;>cases ev C b U<;>rfl
def JRy:ev C (.neg a) U=neg1 (ev C a U):=by
 simp![ev];cases h:ev C a U with
 |ok d=>cases d<;>rfl
 |exc c=>rfl
 |bad=>rfl
def v_not:ev C (.not a) U=not1 (tr1 (ev C a U)):=by
 simp![ev];cases h:ev C a U with
 |ok d=>simp![R.bind,tr1];cases truth d<;>rfl
 |exc c=>rfl
 |bad=>rfl
def v_and:ev C (.and a b) U=and1 C b U (ev C a U):=by
 simp![ev];cases h:ev C a U with
 |ok d =>
  cases d with
  |bool k=>cases k<;>rfl
  |_=>rfl
 |exc c=>rfl
 |bad=>rfl
def v_or:ev C (.or a b) U=or1 C b U (ev C a U):=by
 simp![ev];cases h:ev C a U with
 |ok d =>
  cases d with
  |bool k=>cases k<;>rfl
  |_=>rfl
 |exc c=>rfl
 |bad=>rfl
def JPU:ev C (.cmp op a b) U=cmp1 op (ev C a U) (ev C b U):=by
 simp![ev];cases ev C a U<;>cases ev C b U<;>rfl
def JP4{k:Bool}:ev C (.isN a k) U=isN1 k (ev C a U):=by
 simp![ev];cases ev C a U<;>rfl
def JPj:ev C (.ife c a b) U=ife1 C a b U (evT C c U):=by
 simp![ev];cases h:evT C c U with
 |ok k=>cases k<;>rfl
 |exc c=>rfl
 |bad=>rfl
def JR5:ev C (.tup es) U=tup1 (evA C es U):=by simp![ev];cases evA C es U<;>rfl
def JP8:ev C (.lst es) U=lst1 (evA C es U):=by simp![ev];cases evA C es U<;>rfl
def JP2:ev C (.idx a i) U=idx1 (ev C a U) (ev C i U):=by
 simp![ev];cases ev C a U<;>cases ev C i U<;>rfl
def JMY{f:Nat}:ev C (.call f es) U=JIf C f (evA C es U):=by simp![ev];cases evA C es U<;>rfl
def JRN:ev C (.blt f es) U=blt1 f (evA C es U):=by simp![ev];cases evA C es U<;>rfl
def JKq:ev C (.isi a t) U=isi1 C t (ev C a U):=by simp![ev];cases ev C a U<;>rfl
def v_count:ev C (.mcount o a) U=JNJ (ev C o U) (ev C a U):=by
 simp![ev];cases ev C o U with
 |ok d=>cases d<;>cases ev C a U<;>rfl
 |exc c=>rfl
 |bad=>rfl
def JIV:ev C (.mindex o a) U=JMr (ev C o U) (ev C a U):=by
 simp![ev];cases ev C o U with
 |ok d=>cases d<;>cases ev C a U<;>rfl
 |exc c=>rfl
 |bad=>rfl
def JMf{k:Nat}:ev C (.cmpr k e i c) U=JNh C k e c U (evI C i U):=by
 simp![ev];cases evI C i U<;>rfl
abbrev fn11(o:O1):R D->R D
 |.ok x=>op1D o x
 |r=>r
def JPr:ev C (.fn1 o1 a) U=fn11 o1 (ev C a U):=by simp![ev];cases ev C a U<;>rfl
abbrev xop1(k:XO):R (List D)->R D
 |.ok xs=>xD k xs
 |.exc c=>.exc c
 |.bad=>.bad
def JSc:ev C (.xop k es) U=xop1 k (evA C es U):=by simp![ev];cases evA C es U<;>rfl
def JQ9:evI C (.xop k es) U=its1 (xop1 k (evA C es U)):=by simp![evI,JCj];cases evA C es U<;>rfl
def JTH:evI C (.fn1 o1 a) U=its1 (fn11 o1 (ev C a U)):=by simp![evI,JCj];cases ev C a U<;>rfl
def JQ0:evI C (.bin op a b) U=its1 (bin1 op (ev C a U) (ev C b U)):=by
 simp![evI,JCj];cases ev C a U<;>cases ev C b U<;>rfl
def JMo:evA C .nil U=.ok []:=by simp![evA]
def JJo:evA C (.cons a r) U=JLS (ev C a U) (evA C r U):=by
 simp![evA];cases ev C a U<;>cases evA C r U<;>rfl
def JK4:evT C (.not a) U=tr1 (not1 (evT C a U)):=by
 simp![evT];cases evT C a U<;>rfl
abbrev andT(C:Cn)(b:E)(U:Env):R Bool->R Bool
 |.ok true=>evT C b U
 |r=>r
abbrev orT(C:Cn)(b:E)(U:Env):R Bool->R Bool
 |.ok false=>evT C b U
 |r=>r
def JRX:evT C (.and a b) U=andT C b U (evT C a U):=by
 simp![evT];cases h:evT C a U with
 |ok k=>cases k<;>rfl
 |exc c=>rfl
 |bad=>rfl
def t_or:evT C (.or a b) U=orT C b U (evT C a U):=by
 simp![evT];cases h:evT C a U with
 |ok k=>cases k<;>rfl
 |exc c=>rfl
 |bad=>rfl
def JRg{j:Nat}:evT C (.var j) U=tr1 (look U j):=by simp![evT];cases look U j<;>rfl
def t_bl{j:Bool}:evT C (.cbl j) U=.ok j:=by simp![evT]
def JRY:evT C (.cmp op a b) U=tr1 (cmp1 op (ev C a U) (ev C b U)):=by
 simp![evT,JDf];cases ev C a U<;>cases ev C b U<;>rfl
def JLy{k:Bool}:evT C (.isN a k) U=tr1 (isN1 k (ev C a U)):=by simp![evT];cases ev C a U<;>rfl
def JQA:evT C (.idx a i) U=tr1 (idx1 (ev C a U) (ev C i U)):=by
 simp![evT,JDf];cases ev C a U<;>cases ev C i U<;>rfl
def JNE{f:Nat}:evT C (.call f es) U=tr1 (JIf C f (evA C es U)):=by simp![evT,JDf];cases evA C es U<;>rfl
def JTG:evT C (.blt f es) U=tr1 (blt1 f (evA C es U)):=by simp![evT,JDf];cases evA C es U<;>rfl
def JPg:evT C (.isi a t) U=tr1 (isi1 C t (ev C a U)):=by simp![evT,JDf];cases ev C a U<;>rfl
def JR7:evI C (.rng es) U=rng1 (evA C es U):=by simp![evI];cases evA C es U<;>rfl
def JQe{j:Nat}:evI C (.var j) U=its1 (look U j):=by simp![evI];cases look U j<;>rfl
def JSE{j:Nat}:evI C (.glo j) U=its1 (C.glo j):=by simp![evI];cases C.glo j<;>rfl
def l_idx:evI C (.idx a i) U=its1 (idx1 (ev C a U) (ev C i U)):=by
 simp![evI,JCj];cases ev C a U<;>cases ev C i U<;>rfl
def JHj{f:Nat}:evI C (.call f es) U=its1 (JIf C f (evA C es U)):=by simp![evI,JCj];cases evA C es U<;>rfl
abbrev seq1(C:Cn)(r:S):Fl->Fl
 |.nx U=>exec C r U
 |f=>f
abbrev asg1(i:Nat)(e:E)(U:Env):R D->Fl
 |.ok x=>if e.fresh=true then .nx ((after e x U).set i (.own x)) else .nx ((after e x U).set i (.val x))
 |.exc c=>.ex c
 |.bad=>.bad
abbrev unp2(is:List Nat)(U:Env):R (List D)->Fl
 |.ok xs=>.nx (JBK is xs U)
 |.exc c=>.ex c
 |.bad=>.bad
abbrev unp1(is:List Nat)(e:E)(U:Env):R D->Fl
 |.ok d=>unp2 is (after e d U) (JA1 is.length d)
 |.exc c=>.ex c
 |.bad=>.bad
abbrev ret1:R D->Fl
 |.ok d=>.rt d
 |.exc c=>.ex c
 |.bad=>.bad
abbrev ifs1(C:Cn)(a b:S)(U:Env):R Bool->Fl
 |.ok true=>exec C a U
 |.ok false=>exec C b U
 |.exc c=>.ex c
 |.bad=>.bad
abbrev JNx(e:E)(U:Env):R D->Fl
 |.ok x=>.nx (after e x U)
 |.exc c=>.ex c
 |.bad=>.bad
abbrev for2(C:Cn)(i:Nat)(b:S):List D->Env->Fl:=forL (put1 i) (exec C b)
abbrev for1(C:Cn)(i:Nat)(e:E)(b:S)(U:Env):R (List D)->Fl
 |.ok xs=>for2 C i b xs (JAJ e 0 U)
 |.exc c=>.ex c
 |.bad=>.bad
abbrev whl1(C:Cn)(c:E)(b:S)(U:Env):Fl:=JB1 (evT C c) (exec C b) U
variable{s t h:S}{j k:Nat}
def JRt:exec C .nil U=.nx U:=by simp![exec]
def JMn:exec C (.cons s t) U=seq1 C t (exec C s U):=by simp![exec];cases exec C s U<;>rfl
def JSd:exec C (.asg j e) U=asg1 j e U (ev C e U):=by simp![exec];cases ev C e U<;>rfl
def JPs:exec C (.unp is e) U=unp1 is e U (ev C e U):=by
 simp![exec];cases ev C e U with
 |ok d=>simp![stepR,unp1];cases JA1 is.length d<;>rfl
 |exc c=>rfl
 |bad=>rfl
def JIC:exec C (.ret e) U=ret1 (ev C e U):=by simp![exec];cases ev C e U<;>rfl
def JP3:exec C (.ife c s t) U=ifs1 C s t U (evT C c U):=by
 simp![exec];cases h:evT C c U with
 |ok k=>cases k<;>rfl
 |exc c=>rfl
 |bad=>rfl
def JNI:exec C (.drop e) U=JNx e U (ev C e U):=by simp![exec];cases ev C e U<;>rfl
def JMV:exec C (.for1 j e s) U=for1 C j e s U (evI C e U):=by simp![exec];cases evI C e U<;>rfl
def JRI:exec C (.whl c s) U=whl1 C c s U:=by simp![exec];rfl
def JHO:exec C (.rais k) U=.ex k:=by simp![exec]
abbrev forN(C:Cn)(i:Nat)(b:S)(ds:List D):Fl->Fl
 |.nx U'=>for2 C i b ds U'
 |.ct U'=>for2 C i b ds U'
 |.bk U'=>.nx U'
 |r=>r
abbrev mkl:R (List D)->R D
 |.ok ys=>.ok (.list ys)
 |.exc c=>.exc c
 |.bad=>.bad
def JIL{k:Nat}(hl:xs.length<=16777216):JNh C k e c U (.ok xs)=mkl (JBO (JEw C k e c U) xs):=by
 simp![JNh,if_pos hl];cases JBO (JEw C k e c U) xs<;>rfl
abbrev opt1(b:Bool):R D->R (Option D)
 |.ok y=>.ok (some y)
 |.exc c=>.exc c
 |.bad=>.bad
abbrev JLB(C:Cn)(e:E)(U:Env):R Bool->R (Option D)
 |.ok true=>opt1 true (ev C e U)
 |.ok false=>.ok none
 |.exc c=>.exc c
 |.bad=>.bad
def JGS:JEw C 0 e c U x=JLB C e (.val x::U) (evT C c (.val x::U)):=by
 unfold JEw;simp![push,R.bind];cases h:evT C c (.val x::U) with
 |ok k =>
  cases k
  ·rfl
  ·simp![if_true,JLB];cases ev C e (.val x::U)<;>rfl
 |exc c=>rfl
 |bad=>rfl
end
def JM0{i:Nat}{e:E}{d:D}:asg1 i e U (.ok d)=.nx ((after e d U).set i (if e.fresh=true then .own d else .val d)):=by
 simp![asg1]
 split<;>rfl
def JFn(s:Sl)(U:Env):(s::U)[0]? = some s:=rfl
def JFL(s:Sl)(U:Env)(i:Nat):(s::U)[i+1]? = U[i]?:=rfl
def JIF(b:Bool):tr1 (.ok (.bool b))=.ok b:=rfl
def JP1:bin1 op (.ok x) (.ok y)=binD op x y:=rfl
def JRw{i:Int}:neg1 (.ok (.int i))=.ok (.int (-i)):=rfl
def JRu{b:Bool}:not1 (.ok b)=.ok (.bool (!b)):=rfl
def JMH{b:E}:and1 C b U (.ok (.bool true))=ev C b U:=rfl
def JML{b:E}:and1 C b U (.ok (.bool false))=.ok (.bool false):=rfl
def JS5{b:E}:or1 C b U (.ok (.bool true))=.ok (.bool true):=rfl
def JRU{b:E}:or1 C b U (.ok (.bool false))=ev C b U:=rfl
def JP6:cmp1 op (.ok x) (.ok y)=cmpD op x y:=rfl
def JPY{n:Bool}:isN1 n (.ok x)=.ok (.bool (if n=true then !isNone x else isNone x)):=rfl
def JMe{a b:E}:ife1 C a b U (.ok true)=ev C a U:=rfl
def JNT{a b:E}:ife1 C a b U (.ok false)=ev C b U:=rfl
def JPo:tup1 (.ok xs)=.ok (.tuple xs):=rfl
def JQg:fn11 o (.ok x)=op1D o x:=rfl
def JRF:xop1 k (.ok xs)=xD k xs:=rfl
def JRO{j:Nat}:(E.xop k es).uses j=es.uses j:=rfl
def JRE{lo hi:Option Int}:op1D (.slice lo hi) (.tuple xs)=.ok (.tuple (cutD xs lo hi)):=rfl
def JPV{lo hi:Option Int}:op1D (.slice lo hi) (.list xs)=.ok (.list (cutD xs lo hi)):=rfl
def k_tt:op1D .toTup (.tuple xs)=.ok (.tuple xs):=rfl
def k_tl:op1D .toTup (.list xs)=.ok (.tuple xs):=rfl
def k_lt:op1D .toLst (.tuple xs)=.ok (.list xs):=rfl
def k_ll:op1D .toLst (.list xs)=.ok (.list xs):=rfl
def JIl{e:E}{c:Nat}:JNx e U (.exc c)=.ex c:=rfl
def JPW:lst1 (.ok xs)=.ok (.list xs):=rfl
def JRi:idx1 (.ok x) (.ok y)=idxD x y:=rfl
def JNA{f:Nat}:JIf C f (.ok xs)=C.fn f xs:=rfl
def JSY{b:Blt}:blt1 b (.ok xs)=bltD b xs:=rfl
def JSP:isi1 C t (.ok x)=isiD C.sub x t:=rfl
def JI1:JNJ (.ok (.list x)) (.ok y)=JDv (.list x) y:=rfl
def JJK:JMr (.ok (.list x)) (.ok y)=JDj (.list x) y:=rfl
def JM8:JLS (.ok x) (.ok xs)=.ok (x::xs):=rfl
def JI0{b:E}:andT C b U (.ok true)=evT C b U:=rfl
def JIX{b:E}:andT C b U (.ok false)=.ok false:=rfl
def JMh{b:E}:orT C b U (.ok true)=.ok true:=rfl
def JMt{b:E}:orT C b U (.ok false)=evT C b U:=rfl
def JRd{d:D}:its1 (.ok d)=JBJ d:=rfl
def JPd{d:List D}:rng1 (.ok d)=rngD d:=rfl
def JRS:seq1 C r (.nx U)=exec C r U:=rfl
def JMv{d:D}:seq1 C r (.rt d)=.rt d:=rfl
def JM5{c:Nat}:seq1 C r (.ex c)=.ex c:=rfl
def JMw:seq1 C r (.bk U)=.bk U:=rfl
def JME:seq1 C r (.ct U)=.ct U:=rfl
def JM7{i:Nat}{e:E}{c:Nat}:asg1 i e U (.exc c)=.ex c:=rfl
def JP7{e:E}{d:D}:unp1 is e U (.ok d)=unp2 is (after e d U) (JA1 is.length d):=rfl
def JMI:unp2 is U (.ok xs)=.nx (JBK is xs U):=rfl
def JTE{d:D}:ret1 (.ok d)=.rt d:=rfl
def JNN{c:Nat}:ret1 (.exc c)=.ex c:=rfl
def JNW{a b:S}:ifs1 C a b U (.ok true)=exec C a U:=rfl
def JMj{a b:S}:ifs1 C a b U (.ok false)=exec C b U:=rfl
def JNL{a b:S}{c:Nat}:ifs1 C a b U (.exc c)=.ex c:=rfl
def JM6{e:E}:JNx e U (.ok x)=.nx (after e x U):=rfl
def JRA{i:Nat}{e:E}{b:S}:for1 C i e b U (.ok xs)=for2 C i b xs (JAJ e 0 U):=rfl
def JNP{C:Cn}{i:Nat}{b:S}{ds:List D}{U:Env}:forN C i b ds (.nx U)=for2 C i b ds U:=rfl
def JM1{i:Nat}{b:S}:forN C i b ds (.ct U)=for2 C i b ds U:=rfl
def JNM{i:Nat}{b:S}:forN C i b ds (.bk U)=.nx U:=rfl
def JNG{i:Nat}{b:S}{d:D}:forN C i b ds (.rt d)=.rt d:=rfl
def JMp{i:Nat}{b:S}{c:Nat}:forN C i b ds (.ex c)=.ex c:=rfl
def JMl{x:Bool}:JDN x (.nx U)=.ok .none:=rfl
def JNS{x:Bool}{d:D}:JDN x (.rt d)=.ok d:=rfl
def JMA{c:Nat}:JDN true (.ex c)=.exc c:=rfl
def JNH{e:E}:JLB C e U (.ok true)=opt1 true (ev C e U):=rfl
def JJA{e:E}:JLB C e U (.ok false)=.ok none:=rfl
def JQE{b:Bool}:opt1 b (.ok y)=.ok (some y):=rfl
def JI7{f c:Nat}:JIf C f (.exc c)=.exc c:=rfl
def JIG{c:Nat}:JLS (.exc c) r=.exc c:=rfl
def JGw{c:Nat}:JLS (.ok x) (.exc c)=.exc c:=rfl
def JSI:bltD .len [.list xs]=.ok (.int xs.length):=rfl
def JMT:bltD .len [.tuple xs]=.ok (.int xs.length):=rfl
def JRp{i:Int}:bltD .abs [.int i]=.ok (.int (if i<0 then -i else i)):=rfl
def JBv{i j:Nat}:(E.var i).uses j=(i==j):=rfl
def JB4{j:Nat}:E.nil.uses j=false:=rfl
def JBM{a r:E}{j:Nat}:(E.cons a r).uses j=(a.uses j || r.uses j):=rfl
def JDI{j:Nat}:(E.lst a).uses j=a.uses j:=rfl
def JBt{a:E}{j:Nat}:(E.tup a).uses j=a.uses j:=rfl
def JMW{j:Nat}:(E.isi a t).uses j=a.uses j:=rfl
def JBP{a:E}{f:Nat}{j:Nat}:(E.call f a).uses j=a.uses j:=rfl
def JL8{j:Nat}:(E.blt f a).uses j=a.uses j:=rfl
def JBp{a b:E}{j:Nat}:(E.idx a b).uses j=(a.uses j || b.uses j):=rfl
def JDF{a b:E}{o:Operator}{j:Nat}:(E.bin o a b).uses j=(a.uses j || b.uses j):=rfl
def JKT{k:Nat}{a b c:E}{j:Nat}:(E.cmpr k a b c).uses j=(b.uses j || a.uses (j+(if k=0 then 1 else k)) || c.uses (j+(if k=0 then 1 else k))):=rfl
def JBr{i:Int}{j:Nat}:(E.cint i).uses j=false:=rfl
def JS1{i:Bool}{j:Nat}:(E.cbl i).uses j=false:=rfl
def JBw{j:Nat}:(E.cstr i).uses j=false:=rfl
def wV0:((((type_of% @v_var/\type_of% @JQS)/\(type_of% @v_bl/\type_of% @JQW))/\((type_of% @JR9/\type_of% @JSv)/\(type_of% @JQn/\type_of% @JRy)))/\(((type_of% @v_not/\type_of% @v_and)/\(type_of% @v_or/\type_of% @JPU))/\((type_of% @JP4/\type_of% @JPj)/\(type_of% @JR5/\type_of% @JP8)))):=#[#[#[#[@v_var,@JQS],#[@v_bl,@JQW]],#[#[@JR9,@JSv],#[@JQn,@JRy]]],#[#[#[@v_not,@v_and],#[@v_or,@JPU]],#[#[@JP4,@JPj],#[@JR5,@JP8]]]]
def wV1:((((type_of% @JP2/\type_of% @JMY)/\(type_of% @JRN/\type_of% @JKq))/\((type_of% @v_count/\type_of% @JIV)/\(type_of% @JMf/\type_of% @JPr)))/\(((type_of% @JSc/\type_of% @JQ9)/\(type_of% @JTH/\type_of% @JQ0))/\((type_of% @JK4/\type_of% @JRX)/\(type_of% @t_or/\type_of% @JRg)))):=#[#[#[#[@JP2,@JMY],#[@JRN,@JKq]],#[#[@v_count,@JIV],#[@JMf,@JPr]]],#[#[#[@JSc,@JQ9],#[@JTH,@JQ0]],#[#[@JK4,@JRX],#[@t_or,@JRg]]]]
def wV2:((((type_of% @t_bl/\type_of% @JRY)/\(type_of% @JLy/\type_of% @JQA))/\((type_of% @JNE/\type_of% @JTG)/\(type_of% @JPg/\type_of% @JR7)))/\(((type_of% @JQe/\type_of% @JSE)/\(type_of% @l_idx/\type_of% @JHj))/\((type_of% @JRt/\type_of% @JMn)/\(type_of% @JSd/\type_of% @JPs)))):=#[#[#[#[@t_bl,@JRY],#[@JLy,@JQA]],#[#[@JNE,@JTG],#[@JPg,@JR7]]],#[#[#[@JQe,@JSE],#[@l_idx,@JHj]],#[#[@JRt,@JMn],#[@JSd,@JPs]]]]
def wV3:(((type_of% @JIC/\type_of% @JP3)/\(type_of% @JIC/\type_of% @JIC))/\((type_of% @JNI/\type_of% @JMV)/\(type_of% @JRI/\(type_of% @JHO/\type_of% @JM0)))):=#[#[#[@JIC,@JP3],#[@JIC,@JIC]],#[#[@JNI,@JMV],#[@JRI,#[@JHO,@JM0]]]]
end VI.VP
end
local macro_rules | `(tactic| dsimp![$ts,*])=>`(tactic| simp![VI.VP.wV0,VI.VP.wV1,VI.VP.wV2,VI.VP.wV3,VI.VP.JKq,
 VI.VP.JRF,VI.VP.JQg,VI.VP.JRE,VI.VP.JPV,VI.VP.k_tt,VI.VP.k_tl,VI.VP.k_lt,VI.VP.k_ll,VI.VP.JMo,VI.VP.JJo,VI.VP.JHj,
 VI.VP.JIF,VI.VP.JP1,VI.VP.JRw,VI.VP.JRu,VI.VP.JMH,VI.VP.JML,VI.VP.JS5,VI.VP.JRU,VI.VP.JP6,VI.VP.JPY,VI.VP.JMe,VI.VP.JNT,VI.VP.JPo,VI.VP.JPW,VI.VP.JRi,VI.VP.JNA,VI.VP.JSY,VI.VP.JSP,VI.VP.JI1,VI.VP.JJK,VI.VP.JM8,VI.VP.JI0,VI.VP.JIX,VI.VP.JMh,VI.VP.JMt,VI.VP.JRd,VI.VP.JPd,VI.VP.JRS,VI.VP.JMv,VI.VP.JM5,VI.VP.JMw,VI.VP.JME,VI.VP.JM7,VI.VP.JP7,VI.VP.JMI,VI.VP.JTE,VI.VP.JNN,VI.VP.JNW,VI.VP.JMj,VI.VP.JNL,VI.VP.JM6,VI.VP.JRA,VI.VP.JNP,VI.VP.JM1,VI.VP.JNM,VI.VP.JNG,VI.VP.JMp,VI.VP.JMl,VI.VP.JNS,VI.VP.JMA,VI.VP.JNH,VI.VP.JJA,VI.VP.JQE,VI.VP.JI7,VI.VP.JIG,VI.VP.JGw,VI.VP.JSI,VI.VP.JMT,VI.VP.JRp,VI.VP.JIl,
 VI.VP.look_zero,VI.VP.look_succ,VI.VP.get_val,VI.VP.get_own,VI.VP.JFn,VI.VP.JFL,List.map_cons,List.map_nil,List.cons_append,List.nil_append,
 List.replicate_succ,List.replicate_zero,Nat.reduceSub,List.set_cons_zero,List.set_cons_succ,VI.E.fresh,VI.VP.JGx,VI.VP.JD1,VI.VP.JEK,VI.VP.JDs,Bool.false_and,q_v,eq_self,if_true,if_false,VI.VP.i_ne,VI.VP.i_eq,VI.VP.i_lt,VI.VP.i_gt,VI.VP.i_le,VI.VP.i_ge,VI.VP.JNB,VI.VP.JMs,VI.VP.JST,VI.VP.JRR,$ts,*])
section
namespace VI.VP
abbrev b_0:S:=#v[.asg 2 (.blt .abs #v[.var 0]),.asg 3 (.blt .abs #v[.var 1]),.whl (.cmp .NotEq (.var 3) (.cint 0)) #v[.asg 4 (.bin .Mod (.var 2) (.var 3)),.asg 2 (.var 3),.asg 3 (.var 4)],.ret (.var 2)]
abbrev d_0:Fd:=#[2,5,b_0]
abbrev b_1:S:=#v[.ife (.cmp .Eq (.var 1) (.cint 0)) #v[.rais 1] .nil,.asg 2 (.call 0 #v[.var 0,.var 1]),.ife (.cmp .Lt (.var 1) (.cint 0)) #v[.asg 2 (.neg (.var 2))] .nil,.ret (.tup #v[.bin .FloorDiv (.var 0) (.var 2),.bin .FloorDiv (.var 1) (.var 2)])]
abbrev d_1:Fd:=#[2,3,b_1]
abbrev b_2:S:=#v[.ret (.tup #v[.var 0,.cint 1])]
abbrev d_2:Fd:=#[1,1,b_2]
abbrev b_3:S:=#v[.ret (.call 1 #v[.bin .Add (.bin .Mult (.idx (.var 0) (.cint 0)) (.idx (.var 1) (.cint 1))) (.bin .Mult (.idx (.var 1) (.cint 0)) (.idx (.var 0) (.cint 1))),.bin .Mult (.idx (.var 0) (.cint 1)) (.idx (.var 1) (.cint 1))])]
abbrev d_3:Fd:=#[2,2,b_3]
abbrev b_4:S:=#v[.ret (.call 1 #v[.bin .Sub (.bin .Mult (.idx (.var 0) (.cint 0)) (.idx (.var 1) (.cint 1))) (.bin .Mult (.idx (.var 1) (.cint 0)) (.idx (.var 0) (.cint 1))),.bin .Mult (.idx (.var 0) (.cint 1)) (.idx (.var 1) (.cint 1))])]
abbrev d_4:Fd:=#[2,2,b_4]
abbrev b_5:S:=#v[.ret (.call 1 #v[.bin .Mult (.idx (.var 0) (.cint 0)) (.idx (.var 1) (.cint 0)),.bin .Mult (.idx (.var 0) (.cint 1)) (.idx (.var 1) (.cint 1))])]
abbrev d_5:Fd:=#[2,2,b_5]
abbrev b_6:S:=#v[.ret (.cmp .Lt (.bin .Mult (.idx (.var 0) (.cint 0)) (.idx (.var 1) (.cint 1))) (.bin .Mult (.idx (.var 1) (.cint 0)) (.idx (.var 0) (.cint 1))))]
abbrev d_6:Fd:=#[2,2,b_6]
abbrev b_7:S:=#v[.asg 1 (.idx (.var 0) (.cint 0)),.for1 2 (.var 0) #v[.ife (.call 6 #v[.var 2,.var 1]) #v[.asg 1 (.var 2)] .nil],.ret (.var 1)]
abbrev d_7:Fd:=#[1,3,b_7]
abbrev b_8:S:=#v[.asg 1 (.idx (.var 0) (.cint 0)),.for1 2 (.var 0) #v[.ife (.call 6 #v[.var 1,.var 2]) #v[.asg 1 (.var 2)] .nil],.ret (.var 1)]
abbrev d_8:Fd:=#[1,3,b_8]
abbrev b_9:S:=#v[.ret (.bin .FloorDiv (.bin .Add (.bin .Mult (.cint 2) (.idx (.var 0) (.cint 0))) (.idx (.var 0) (.cint 1))) (.bin .Mult (.cint 2) (.idx (.var 0) (.cint 1))))]
abbrev d_9:Fd:=#[1,1,b_9]
abbrev b_10:S:=#v[.ret (.call 3 #v[.var 0,.call 5 #v[.var 2,.call 4 #v[.var 1,.var 0]]])]
abbrev d_10:Fd:=#[3,3,b_10]
abbrev b_11:S:=#v[.ife (.cmp .Lt (.var 1) (.blt .len #v[.var 0])) #v[.ret (.idx (.var 0) (.var 1))] .nil,.ife (.cmp .Eq (.var 0) (.lst .nil)) #v[.ret (.cint 0)] .nil,.ret (.bin .Add (.bin .Mult (.idx (.var 0) (.bin .Mod (.var 1) (.blt .len #v[.var 0]))) (.cint 31)) (.var 1))]
abbrev d_11:Fd:=#[2,2,b_11]
abbrev b_12:S:=#v[.asg 3 (.bin .Mod (.bin .Mult (.bin .Add (.call 11 #v[.var 0,.var 1]) (.bin .Mult (.cint 6151) (.bin .Add (.var 1) (.cint 1)))) (.cint 40692)) (.cint 2147483399)),.ret (.bin .Mod (.bin .Mod (.bin .Add (.bin .Mult (.var 3) (.var 3)) (.bin .FloorDiv (.var 3) (.cint 31))) (.cint 2147483629)) (.var 2))]
abbrev d_12:Fd:=#[3,4,b_12]
abbrev b_13:S:=#v[.whl (.cmp .NotEq (.var 1) (.cint 0)) #v[.unp [0,1] (.tup #v[.var 1,.bin .Mod (.var 0) (.var 1)])],.ret (.blt .abs #v[.var 0])]
abbrev d_13:Fd:=#[2,2,b_13]
abbrev b_14:S:=#v[.asg 2 (.bin .Mult (.call 13 #v[.var 0,.var 1]) (.ife (.cmp .Gt (.var 1) (.cint 0)) (.cint 1) (.neg (.cint 1)))),.ret (.tup #v[.bin .FloorDiv (.var 0) (.var 2),.bin .FloorDiv (.var 1) (.var 2)])]
abbrev d_14:Fd:=#[2,3,b_14]
abbrev b_15:S:=#v[.asg 2 (.bin .Add (.cint 1) (.call 12 #v[.var 0,.var 1,.cint 4])),.ret (.call 14 #v[.bin .Sub (.call 12 #v[.var 0,.bin .Add (.var 1) (.cint 1),.bin .Add (.bin .Mult (.cint 12) (.var 2)) (.cint 1)]) (.bin .Mult (.cint 6) (.var 2)),.var 2])]
abbrev d_15:Fd:=#[2,3,b_15]
abbrev b_16:S:=#v[.asg 2 (.bin .Add (.cint 1) (.call 12 #v[.var 0,.var 1,.cint 3])),.ret (.call 14 #v[.bin .Add (.cint 1) (.call 12 #v[.var 0,.bin .Add (.var 1) (.cint 1),.bin .Mult (.cint 6) (.var 2)]),.var 2])]
abbrev d_16:Fd:=#[2,3,b_16]
abbrev b_17:S:=#v[.ret (.call 14 #v[.bin .Add (.bin .Mult (.idx (.var 0) (.cint 0)) (.idx (.var 1) (.cint 1))) (.bin .Mult (.idx (.var 1) (.cint 0)) (.idx (.var 0) (.cint 1))),.bin .Mult (.idx (.var 0) (.cint 1)) (.idx (.var 1) (.cint 1))])]
abbrev d_17:Fd:=#[2,2,b_17]
abbrev b_18:S:=#v[.ret (.call 14 #v[.bin .Sub (.bin .Mult (.idx (.var 0) (.cint 0)) (.idx (.var 1) (.cint 1))) (.bin .Mult (.idx (.var 1) (.cint 0)) (.idx (.var 0) (.cint 1))),.bin .Mult (.idx (.var 0) (.cint 1)) (.idx (.var 1) (.cint 1))])]
abbrev d_18:Fd:=#[2,2,b_18]
abbrev b_19:S:=#v[.ret (.call 14 #v[.bin .Mult (.idx (.var 0) (.cint 0)) (.idx (.var 1) (.cint 0)),.bin .Mult (.idx (.var 0) (.cint 1)) (.idx (.var 1) (.cint 1))])]
abbrev d_19:Fd:=#[2,2,b_19]
abbrev b_20:S:=#v[.ret (.call 14 #v[.bin .Mult (.idx (.var 0) (.cint 0)) (.idx (.var 1) (.cint 1)),.bin .Mult (.idx (.var 0) (.cint 1)) (.idx (.var 1) (.cint 0))])]
abbrev d_20:Fd:=#[2,2,b_20]
abbrev b_21:S:=#v[.ret (.cmp .Lt (.bin .Mult (.idx (.var 0) (.cint 0)) (.idx (.var 1) (.cint 1))) (.bin .Mult (.idx (.var 1) (.cint 0)) (.idx (.var 0) (.cint 1))))]
abbrev d_21:Fd:=#[2,2,b_21]
end VI.VP
end
section
namespace VI.VP
open PySem Fr
structure TabF(tab:Nat->Option Fd):Prop where
 h0:tab 0=some d_0
 h1:tab 1=some d_1
 h2:tab 2=some d_2
 h3:tab 3=some d_3
 h4:tab 4=some d_4
 h5:tab 5=some d_5
 h6:tab 6=some d_6
section
variable{x:Bool}{tab:Nat->Option Fd}{glo:Nat->R D}{sub:Nat->Nat->Bool}{n:Nat}
def JKr(one other:D):∀(m:Nat) (a b:Int) (z:Sl),z.isOwn=false->0<=a->0<=b->b.natAbs=m->∃z',whl1 C (.cmp .NotEq (.var 3) (.cint 0)) (.cons (.asg 4 (.bin .Mod (.var 2) (.var 3))) (.cons (.asg 2 (.var 3)) (.cons (.asg 3 (.var 4)) .nil)))
  [.val one,.val other,.val (.int a),.val (.int b),z]=.nx [.val one,.val other,.val (.int (a.gcd b)),.val (.int 0),z']:=by
 intro m
 induction m using Nat.strongRecOn with
 |ind m ih =>
  intro a b z hz ha hb hm
  by_cases h0:b=0
  ·subst h0;refine#[z,?_];have e:((a.gcd 0:Nat):Int)=a:=by simp;omega
   rw[e];exact JD5 (by dsimp![];simp)
  ·have hf:=JJ8 a b h0;obtain⟨z',h⟩:=ih (a.fmod b).natAbs ∅ b (a.fmod b) (.val (.int (a.fmod b))) rfl hb (Int.fmod_nonneg_of_pos a ∅) rfl
   refine#[z',?_];rw[JHR]at h;rw[<-h];refine JDe (by dsimp![];simp[h0]) ?_
   cases z with
   |own d=>cases hz
   |no=>dsimp![JGL h0]
   |val d=>dsimp![JGL h0]
def JO7(a b:Int):((if a<0 then -a else a).gcd (if b<0 then -b else b))=a.gcd b:=by
 split<;>split<;>simp
def JKg(T:TabF tab)(a b:Int):run x tab glo sub (n+1) 0 [.int a,.int b]=.ok (.int (a.gcd b)):=by
 rw[JAK T.h0,JAG rfl];obtain⟨z',h⟩:=JKr (C:=#[run x tab glo sub n,glo,sub]) (.int a) (.int b) _ (if a<0 then -a else a) (if b<0 then -b else b) .no rfl (by split<;>omega) (by split<;>omega) rfl
 rw[JO7]at h
 dsimp![d_0,b_0,h]
def JNu(T:TabF tab)(a b:Int)(hb:b≠0)(lb:L b):run x tab glo sub (n+2) 1 [.int a,.int b]=.ok (F (Rat.divInt a b)):=by
 rw[JAK T.h1,JAG rfl];have hg:a.gcd b≠0:=by
  intro z;exact hb (Int.gcd_eq_zero_iff.mp z).2
 have lg:(a.gcd b)<=b.natAbs:=Int.gcd_le_natAbs_right _ hb;unfold L at lb;have q1:=JDQ a b hb;have q2:=JE4 a b hb
 by_cases h:b<0
 ·rw[if_pos h]at q1 q2
  dsimp![d_1,b_1,JKg T,hb,h,decide_true,decide_false,JIH (j:=-((a.gcd b:Nat):Int)) ∅ (by unfold L;omega),q1,q2,F]
 ·rw[if_neg h]at q1 q2
  dsimp![d_1,b_1,JKg T,hb,h,decide_true,decide_false,JIH (j:=((a.gcd b:Nat):Int)) ∅ (by unfold L;omega),q1,q2,F]
def JLJ(T:TabF tab){p q:Rat}(hp:Q p)(hq:Q q):run x tab glo sub (n+3) 5 [F p,F q]=.ok (F (p*q)):=by
 rw[JAK T.h5,JAG rfl]
 dsimp![d_5,b_5,JRs (hp.Ln ∅) (hq.Ln ∅),JRs (hp.Ld ∅) (hq.Ld ∅),
  JNu T _ _ (Int.mul_ne_zero (JCg p) (JCg q)) (L.of (JEc hp.d hq.d) ∅),JNF]
theorem lt_iff(p q:Rat):p.num*q.den<q.num*p.den↔p<q:=(Rat.lt_iff p q).symm
structure TabL(tab:Nat->Option Fd):Prop where
 h11:tab 11=some d_11
 h12:tab 12=some d_12
 h13:tab 13=some d_13
 h14:tab 14=some d_14
 h15:tab 15=some d_15
 h16:tab 16=some d_16
 h17:tab 17=some d_17
 h18:tab 18=some d_18
 h19:tab 19=some d_19
 h20:tab 20=some d_20
 h21:tab 21=some d_21
def JLA:∀(m:Nat) (a b:Int),b.natAbs=m->∃g:Int,g.natAbs=a.gcd b/\whl1 C (.cmp .NotEq (.var 1) (.cint 0)) (.cons (.unp [0,1] (.tup (.cons (.var 1) (.cons (.bin .Mod (.var 0) (.var 1)) .nil)))) .nil) [.val (.int a),.val (.int b)]=.nx [.val (.int g),.val (.int 0)]:=by
 intro m
 induction m using Nat.strongRecOn with
 |ind m ih =>
  intro a b hm
  by_cases h0:b=0
  ·subst h0;exact#[a,by simp,JD5 (by dsimp![];simp)]
  ·have hf:=JJ8 a b h0;obtain⟨g,h1,h2⟩:=ih (a.fmod b).natAbs ∅ b (a.fmod b) rfl
   refine#[g,by rw[h1,JHR],?_]
   rw[<-h2];refine JDe (by dsimp![];simp[h0]) ?_
   dsimp![JGL h0,JA1,JBK,List.length_cons,List.length_nil]
def JEd(T:TabL tab)(a b:Int):run x tab glo sub (n+1) 13 [.int a,.int b]=.ok (.int (a.gcd b)):=by
 rw[JAK T.h13,JAG rfl];obtain⟨g,h1,h2⟩:=JLA (C:=#[run x tab glo sub n,glo,sub]) _ a b rfl
 dsimp![d_13,b_13,h2]
 congr 2
 split<;>omega
def JIk(T:TabL tab)(a b:Int)(hb:b≠0)(lb:L b):run x tab glo sub (n+2) 14 [.int a,.int b]=.ok (F (Rat.divInt a b)):=by
 rw[JAK T.h14,JAG rfl];have hg:a.gcd b≠0:=by
  intro z;exact hb (Int.gcd_eq_zero_iff.mp z).2
 have lg:(a.gcd b)<=b.natAbs:=Int.gcd_le_natAbs_right _ hb;unfold L at lb;have q1:=JDQ a b hb;have q2:=JE4 a b hb
 by_cases h:b<0
 ·rw[if_pos h]at q1 q2;have h':¬0<b:=by omega
  dsimp![d_14,b_14,JEd T,h',decide_true,decide_false,JG5 (i:=((a.gcd b:Nat):Int)) (j:=-1) (by decide),Int.mul_neg_one,JIH (j:=-((a.gcd b:Nat):Int)) ∅ (by unfold L;omega),q1,q2,F]
 ·rw[if_neg h]at q1 q2;have h':0<b:=by omega
  dsimp![d_14,b_14,JEd T,h',decide_true,decide_false,JG5 (i:=((a.gcd b:Nat):Int)) (j:=1) (by decide),Int.mul_one,JIH (j:=((a.gcd b:Nat):Int)) ∅ (by unfold L;omega),q1,q2,F]
@[reducible]def sc(ns:List Int):D:=.list (ns.map λi=>.int i)
def JFq(ns:List Int):shaped (sc ns)=true:=by
 have h1:∀ns:List Int,PyData.canLayAll0 (ns.map λi=>PyData.int i)=true:=λns=>by
  induction ns with
  |nil=>rfl
  |cons a r ih=>simp![List.map_cons,PyData.canLayAll0,PyData.canLay0,ih,Bool.and_self]
 have h2:∀ns:List Int,PyData.depthAll (ns.map λi=>PyData.int i)=0:=λns=>by
  induction ns with
  |nil=>rfl
  |cons a r ih=>simp![List.map_cons,PyData.depthAll,PyData.depth,ih];rfl
 simp![shaped,PyData.canLay0,h1,PyData.depth,h2];decide
def JFx(ns:List Int):cmpD .Eq (sc ns) (.list [])=.ok (.bool ns.isEmpty):=by
 have:shaped (.list [])=true:=JFq [];simp![cmpD,JFq,this,Bool.and_self,if_true];cases ns<;>simp[PyData.eqv,PyData.eqvAll]
def JMg(ns:List Int)(k:Int)(h0:0<=k)(h1:k<ns.length):∃i,idxD (sc ns) (.int k)=.ok (.int i):=by
 refine#[ns[k.toNat]'∅,?_]
 simp![sc,idxD,atI,ixN,q_g,if_pos h0,if_pos h1,Option.bind_some];rw[List.getElem?_map,q_q ∅]
 rfl
def JOp(T:TabL tab)(ns:List Int)(k:Int)(hk:0<=k):∃i,run x tab glo sub (n+1) 11 [sc ns,.int k]=.ok (.int i):=by
 rw[JAK T.h11,JAG rfl]
 by_cases h:k<ns.length
 ·obtain⟨i,hi⟩:=JMg ns k hk h;refine#[i,?_]
  dsimp![d_11,b_11,q_g,h,decide_true,hi]
 ·have hd:decide (k<(ns.length:Int))=false:=q_o h
  by_cases hn:ns=[]
  ·refine#[0,?_];have e:cmpD .Eq (sc ns) (.list [])=.ok (.bool true):=by rw[JFx,hn];rfl
   dsimp![d_11,b_11,q_g,hd,e]
  ·have hl:0<(ns.length:Int):=by
    have:=List.length_pos_iff.mpr hn;omega
   obtain⟨i,hi⟩:=JMg ns (k.fmod ns.length) (Int.fmod_nonneg_of_pos k hl) (Int.fmod_lt_of_pos k hl);refine#[i*31+k,?_];have e:cmpD .Eq (sc ns) (.list [])=.ok (.bool false):=by rw[JFx];cases ns<;>simp at hn ⊢
   dsimp![d_11,b_11,q_g,hd,e,JGL (i:=k) (j:=(ns.length:Int)) ∅,hi,JG5 (i:=i) (j:=31) (by decide)]
def JCy(T:TabL tab)(ns:List Int)(k m:Int)(hk:0<=k)(hk2:k<2000000)(hm:0<m):∃i,0<=i/\i<m/\run x tab glo sub (n+2) 12 [sc ns,.int k,.int m]=.ok (.int i):=by
 rw[JAK T.h12,JAG rfl];obtain⟨c,hc⟩:=JOp (x:=x) (glo:=glo) (sub:=sub) (n:=n) T ns k hk;obtain⟨d,hd⟩:∃d,d=((c+6151*(k+1))*40692).fmod 2147483399:=#[_,rfl];have hd0:0<=d:=by rw[hd];exact Int.fmod_nonneg_of_pos _ (by decide)
 have hd1:d<2147483399:=by rw[hd];exact Int.fmod_lt_of_pos _ (by decide)
 have hm1:binD .Mod (.int ((c+6151*(k+1))*40692)) (.int 2147483399)=.ok (.int d):=by rw[JGL (by decide),hd]
 refine#[((d*d+d.fdiv 31).fmod 2147483629).fmod m,Int.fmod_nonneg_of_pos _ hm,Int.fmod_lt_of_pos _ hm,?_]
 dsimp![d_12,b_12,hc,JDi (i:=6151) (j:=k+1) (by decide),JG5 (i:=c+6151*(k+1)) (j:=40692) (by decide),hm1,JDi (i:=d) (j:=d) ∅,JIH (i:=d) (j:=31) (by decide) (L.of (k:=10) (by decide) ∅),
  JGL (j:=2147483629) (by decide),JGL (j:=m) (show m≠0 by omega)]
structure Small(q:Rat):Prop where
 n:q.num.natAbs<=24
 d:q.den<=4
 w:q.num.natAbs<=6*q.den
def Small.sz{q:Rat}(h:Small q):Sz 5 q:=#[by have:=h.n;omega,by have:=h.d;omega]
def JDG(a b:Int)(hb:0<b):∃g:Int,0<g/\a=(Rat.divInt a b).num*g/\b=((Rat.divInt a b).den:Int)*g:=by
 have hg:a.gcd b≠0:=by
  intro z;have:=(Int.gcd_eq_zero_iff.mp z).2;omega
 have q1:=JDQ a b ∅
 have q2:=JE4 a b ∅
 rw[if_neg ∅]at q1 q2
 refine#[((a.gcd b:Nat):Int),by omega,?_,?_]
 ·rw[<-q1,JBd (Int.gcd_dvd_left ..),Int.ediv_mul_cancel (Int.gcd_dvd_left ..)]
 ·rw[<-q2,JBd (Int.gcd_dvd_right ..),Int.ediv_mul_cancel (Int.gcd_dvd_right ..)]
def JF1(a b m:Int)(hb:0<b)(h1:-(m*b)<=a)(h2:a<=m*b):-(m*(Rat.divInt a b).den)<=(Rat.divInt a b).num/\(Rat.divInt a b).num<=m*(Rat.divInt a b).den:=by
 obtain⟨g,hg,e1,e2⟩:=JDG a b hb;generalize (Rat.divInt a b).num=u at *;generalize ((Rat.divInt a b).den:Int)=d at *;subst e1;subst e2;rw[<-Int.mul_assoc]at h1 h2;constructor
 ·rw[<-Int.neg_mul]at h1;exact Int.le_of_mul_le_mul_right h1 hg
 ·exact Int.le_of_mul_le_mul_right h2 hg
def JLI(T:TabL tab)(ns:List Int)(k:Int)(hk:0<=k)(hk2:k<1000000):∃q,Small q/\run x tab glo sub (n+3) 15 [sc ns,.int k]=.ok (F q):=by
 rw[JAK T.h15,JAG rfl];obtain⟨i,i0,i1,hi⟩:=JCy (x:=x) (glo:=glo) (sub:=sub) (n:=n) T ns k 4 hk ∅ (by decide)
 obtain⟨j,j0,j1,hj⟩:=JCy (x:=x) (glo:=glo) (sub:=sub) (n:=n) T ns (k+1) (12*(1+i)+1) ∅ ∅ ∅
 refine#[Rat.divInt (j - 6*(1+i)) (1+i),?_,?_]
 ·have h1:=JF1 (j - 6*(1+i)) (1+i) 6 ∅ ∅ ∅
  have h2:=JJH (j - 6*(1+i)) (1+i) ∅
  have h3:=JGl (j - 6*(1+i)) (1+i) ∅
  exact#[by omega,by omega,by omega]
 ·dsimp![d_15,b_15,hi,JDi (i:=12) (j:=1+i) (by decide),JDi (i:=6) (j:=1+i) (by decide),hj,JIk T (j - 6*(1+i)) (1+i) ∅ (L.of (k:=10) ∅ ∅)]
def JJ3(T:TabL tab)(ns:List Int)(k:Int)(hk:0<=k)(hk2:k<1000000):∃q,Small q/\0<q/\q.den<=3/\run x tab glo sub (n+3) 16 [sc ns,.int k]=.ok (F q):=by
 rw[JAK T.h16,JAG rfl];obtain⟨i,i0,i1,hi⟩:=JCy (x:=x) (glo:=glo) (sub:=sub) (n:=n) T ns k 3 hk ∅ (by decide)
 obtain⟨j,j0,j1,hj⟩:=JCy (x:=x) (glo:=glo) (sub:=sub) (n:=n) T ns (k+1) (6*(1+i)) ∅ ∅ ∅
 refine#[Rat.divInt (1+j) (1+i),?_,?_,by have h3:=JGl (1+j) (1+i) ∅;omega,?_]
 ·have h1:=JF1 (1+j) (1+i) 6 ∅ ∅ ∅
  have h2:=JJH (1+j) (1+i) ∅
  have h3:=JGl (1+j) (1+i) ∅
  exact#[by omega,by omega,by omega]
 ·rw[Rat.lt_iff];obtain⟨g,hg,e1,e2⟩:=JDG (1+j) (1+i) ∅
  have h:0<(Rat.divInt (1+j) (1+i)).num*g:=by omega
  have h2:=Int.pos_of_mul_pos_left h hg;simpa using h2
 ·dsimp![d_16,b_16,hi,JDi (i:=6) (j:=1+i) (by decide),hj,JIk T (1+j) (1+i) ∅ (L.of (k:=10) ∅ ∅)]
def JKy(T:TabL tab)(ns:List Int)(k:Int)(hk:0<=k)(hk2:k<1000000):∃q,Small q/\0<q/\run x tab glo sub (n+3) 16 [sc ns,.int k]=.ok (F q):=by
 obtain⟨q,h1,h2,_,h⟩:=JJ3 (x:=x) (glo:=glo) (sub:=sub) (n:=n) T ns k hk hk2;exact#[q,h1,h2,h]
end
end VI.VP
end
section
namespace VH
open PySem PySem.W
abbrev rP:Pos:=#[0,0,0,0]
abbrev dName:Stmt->Str
 |.FunctionDef n _ _ _ _ _ _ _ _ _=>n
 |_=>"?"
abbrev dArgs:Stmt->Arguments
 |.FunctionDef _ a _ _ _ _ _ _ _ _=>a
 |_=>#[[],[],none,[],[],none,[]]
abbrev JKs:Stmt->List Stmt
 |.FunctionDef _ _ b _ _ _ _ _ _ _=>b
 |_=>[]
abbrev JFK:Stmt->Scope
 |.FunctionDef _ _ _ _ _ _ s _ _ _=>s
 |_=>default
abbrev tO(xs:List Value):Obj:=#[.type "tuple",none,.seq xs.toArray 0,#[]]
abbrev fO(xs:List Value):Obj:=#[.none,none,.fields xs.toArray,#[]]
abbrev sqs:Nat->List Str->List Value
 |_,[]=>[]
 |t,x::r=>.str x t::sqs (t+1) r
abbrev f1(st:Stmt):Obj:=#[.none,none,.func { name:=dName st,qualname:=dName st,params:=dArgs st,body:=.stmts (JKs st),scope:=JFK st,globals:=0,closure:=[],defaults:=.none,kwdefaults:=.none },#[]]
abbrev f2(st:Stmt)(pm:Value)(cd:Addr):Obj:=#[.type "function",none,.func { name:=dName st,qualname:=dName st,params:=dArgs st,body:=.stmts (JKs st),scope:=JFK st,globals:=mainNs,closure:=[],defaults:=.none,kwdefaults:=.none,pyModule:=pm,code:=.ref cd },#[]]
abbrev f3(st:Stmt)(q:Str)(pm:Value)(cd:Addr):Obj:=#[.type "function",none,.func { name:=dName st,qualname:=q,params:=dArgs st,body:=.stmts (JKs st),scope:=JFK st,globals:=mainNs,closure:=[],defaults:=.none,kwdefaults:=.none,pyModule:=pm,code:=.ref cd },#[]]
abbrev f4(st:Stmt)(q:Str):Obj:=#[.none,none,.func { name:=dName st,qualname:=q,params:=dArgs st,body:=.stmts (JKs st),scope:=JFK st,globals:=0,closure:=[],defaults:=.none,kwdefaults:=.none },#[]]
abbrev cQ(x y:Str)(t l k loc a:Nat)(b:Bool)(u t2:Nat):Obj :=
 #[.type "code",none,.fields (List.toArray [.str x t,.str y (t+1),.str "/claim/cut.py" (t+2),.int l 0,.int k 0,.int 0 0,.int 0 0,.int loc 0,.ref a,.bool b,.int 181 0,.ref (a+1),.none,.ref (a+2),.ref (a+3),.ref (a+4),.int t2 0,.int u 0,.str "/claim/cut.py" (t2+1)]),#[]]
abbrev JR8:Stmt->List Stmt
 |.ClassDef _ _ _ b _ _ _ _ _ _ _=>b
 |_=>[]
abbrev cO(x:Str)(t l k loc a:Nat)(b:Bool)(u t2:Nat):Obj :=
 #[.type "code",none,.fields (List.toArray [.str x t,.str x (t+1),.str "/claim/cut.py" (t+2),.int l 0,.int k 0,.int 0 0,.int 0 0,.int loc 0,.ref a,.bool b,.int 181 0,.ref (a+1),.none,.ref (a+2),.ref (a+3),.ref (a+4),.int t2 0,.int u 0,.str "/claim/cut.py" (t2+1)]),#[]]
abbrev isLo:NameKind->Bool
 |.local=>true
 |.cell=>true
 |_=>false
abbrev vn(st:Stmt):List Str:=((JFK st).names.filter λp=>isLo p.2).map (·.1)
abbrev pn(st:Stmt):List Str:=(dArgs st).args.map (·.arg)
abbrev ln:Stmt->Nat
 |.FunctionDef _ _ _ _ _ _ _ _ _ p=>p.line
 |_=>0
abbrev dC(st:Stmt)(t a:Nat)(pm:Value):List Obj:=[tO [],fO [],tO (sqs t (vn st)),tO [],f1 st,cO (dName st) (t - 3) (ln st) (pn st).length 3 a true (ln st) (t+(vn st).length),f2 st pm (a+5)]
abbrev dD(st:Stmt)(t a:Nat)(pm:Value):List Obj:=[tO [],fO [],f1 st,#[.type "code",none,.fields (List.toArray [.str (dName st) t,.str (dName st) (t+1),.str "/claim/cut.py" (t+2),.int (ln st) 0,.int (pn st).length 0,.int 0 0,.int 0 0,.int 3 0,.ref a,.bool true,.int 181 0,.ref (a+1),.none,.none,.none,.ref (a+2),.int (t+3) 0,.int (ln st) 0,.str "/claim/cut.py" (t+4)]),#[]],f2 st pm (a+3)]
abbrev dM(st:Stmt)(q:Str)(t a:Nat)(pm:Value):List Obj:=[tO [],fO [],tO (sqs t (vn st)),tO [],f4 st q,cQ (dName st) q (t - 3) (ln st) (pn st).length 3 a true (ln st) (t+(vn st).length),f3 st q pm (a+5)]
abbrev tw:List (Nat×Nat)->List Value
 | []=>[]
 |(l,a)::r=>.int l 0::.int 0 0::.ref a::tw r
abbrev ent(P:Params)(x:Str)(t:Nat)(v:Value):DictEntry:=#[PyData.keyHash P x,.str x t,v]
abbrev dO(es:List DictEntry)(n:Nat):Obj:=#[.type "dict",none,.dict es.toArray n,#[]]
def alt:Bool->List Obj->List Obj
 |_,[]=>[]
 |true,o::r=>o::alt false r
 |false,_::r=>alt true r
def bt:Nat->List Obj->BT
 |0,_=>.nil
 |_,[]=>.nil
 |n+1,o::r=>.node o (bt n (alt true r)) (bt n (alt false r))
def put:Nat->Obj->List Obj->List Obj
 |_,_,[]=>[]
 |0,o,_::r=>o::r
 |n+1,o,x::r=>x::put n o r
abbrev sT(l:List Obj)(n k:Nat)(os:OsState):SharedT:=#[bt 12 l,n,{},#[],{},k,os]
abbrev sH(l:List Obj)(k:Nat)(os:OsState):Shared:=#[#[l.toArray,{}],#[],{},k,os]
abbrev envOf(p:Program):PySem.Env:={ scope:=p.main.scope,locals:=mainNs,globals:=mainNs,cells:=[],code:=.ref 13,frame:=some 14 }
abbrev cdOf(p:Program):Code:=.body (behindTheImports p) (envOf p)
end VH
end
section
set_option backward.eqns.nonrecursive false
namespace VI
open PySem
@[reducible]def Fs:=List (Str×D)
@[reducible]def Ta:=List Fs
abbrev recD(n:Nat):D:=.dict [(.bool true,.int (n:Int))]
abbrev recN:D->Option Nat
 |.dict [(.bool true,.int n)]=>if 0<=n then some n.toNat else none
 |_=>none
mutual
noncomputable def JAv:D->Bool
 |.none=>true
 |.bool _=>true
 |.int _=>true
 |.str _=>true
 |.tuple xs=>JD7 xs
 |.list xs=>JD7 xs
 |.dict kvs=>JF2 kvs
noncomputable def JD7:List D->Bool
 | []=>true
 |x::xs=>JAv x&&JD7 xs
noncomputable def JF2:List (D×D)->Bool
 | []=>true
 |(.bool _,_)::_=>false
 |(_,d)::r=>JAv d&&JF2 r
end
abbrev JBL(f:Str)(d:D):Fs->Fs
 | []=>[(f,d)]
 |(g,x)::r=>if g=f then (g,d)::r else (g,x)::JBL f d r
abbrev recF(π:Ta)(d:D):Option (Nat×Fs):=(recN d).bind λn=>π[n]?.map λc=>(n,c)
abbrev fldD(π:Ta)(f:Str):List D->R D
 | [d]=>optR ((recF π d).bind λq=>q.2.lookup f)
 |_=>.bad
abbrev chkD(π:Ta)(m:Str):List D->R D
 | [d]=>match recF π d with
  |some q=>if (q.2.lookup m).isNone=true then .ok d else .bad
  |none=>.bad
 |_=>.bad
inductive R3(α:Type) where
 |ok (a:α) (π:Ta)
 |exc (c:Nat) (π:Ta)
 |bad
@[reducible] def R3.bind {α β:Type}(r:R3 α) (f:α->Ta->R3 β):R3 β:=match r with
 |.ok a π=>f a π
 |.exc c π=>.exc c π
 |.bad=>.bad
@[reducible] def R.at {α:Type}(r:R α) (π:Ta):R3 α:=match r with
 |.ok a=>.ok a π
 |.exc c=>.exc c π
 |.bad=>.bad
inductive V3 where
 |pur (e:E)
 |cal (f:Nat) (es:E)
 |met (f:Nat) (m:Str) (x es:E)
 |mak (f:Nat) (es:E)
 |opp (x:E) (f:Str)
 |ife (c:E) (a b:V3)
 |tol (cg:Nat) (fdc:Fd) (v:V3)
inductive T3 where
 |pur (e:E)
 |cmp (op:CmpOp) (v:V3) (b:E)
 |or (a b:T3)
inductive S3 where
 |nil|cons (a r:S3)
 |st (s:S)
 |asg (i:Nat) (v:V3)
 |drop (v:V3)|ret (v:V3)
 |ife (t:T3) (a b:S3)
 |for1 (i:Nat) (e:E) (b:S3)
 |unp (is:List Nat) (v:V3) (es:E)
 |fln (i:Nat) (f:Str) (t:D)
 |app (i:Nat) (f:Str) (e:E)
 |clr (i:Nat) (f:Str)
 |dpo (i:Nat) (f:Str) (e:E)
 |dpu (i:Nat) (f:Str) (k e:E)
abbrev V3.toE:V3->E
 |.pur e=>e
 |.cal _ es=>.tup es
 |.met _ _ x es=>.tup (.cons x es)
 |.mak _ es=>.tup es
 |.opp x _=>x
 |.ife c a b=>.ife c a.toE b.toE
 |.tol _ _ v=>v.toE
abbrev T3.toE:T3->E
 |.pur e=>e
 |.cmp op v b=>.cmp op v.toE b
 |.or a b=>.or a.toE b.toE
@[reducible]def F3:=Nat->List D->Ta->R3 D
abbrev mk3(C:Ta->Cn)(f3:F3)(f:Nat)(es:E)(U:Env)(π:Ta):R3 D:=((evA (C π) es U).at π).bind λds π=>(f3 f (recD π.length::ds) (π++[[]])).bind λd π'=>if isNone d=true then .ok (recD π.length) π' else .bad
abbrev pop3(π:Ta)(f:Str)(d:D):R3 D:=match recF π d with
 |some (n,c)=>(match c.lookup f with
  |some (.list ds)=>(match ds.getLast? with
   |some y=>.ok y (π.set n (JBL f (.list ds.dropLast) c))
   |none=>.bad)
  |_=>.bad)
 |none=>.bad
abbrev JCT(C:Ta->Cn)(cg:Nat)(fdc:Fd)(r:R3 D):R3 D:=match r with
 |.ok d π=>.ok d π
 |.exc c π=>if (C π).sub c cg=true then (match exec (C π) fdc.body ([Sl.val (excD c)]++List.replicate (fdc.slots - 1) Sl.no) with
  |.rt d=>.ok d π
  |_=>.bad) else .bad
 |.bad=>.bad
abbrev ev3(C:Ta->Cn)(f3:F3)(U:Env):V3->Ta->R3 D
 |.pur e,π=>(ev (C π) e U).at π
 |.cal f es,π=>((evA (C π) es U).at π).bind (f3 f)
 |.met f m x es,π=>((ev (C π) x U).at π).bind λd π=>((chkD π m [d]).at π).bind λd π=>((evA (C π) es U).at π).bind λds π=>f3 f (d::ds) π
 |.mak f es,π=>mk3 C f3 f es U π
 |.opp x f,π=>((ev (C π) x U).at π).bind λd π=>pop3 π f d
 |.ife c a b,π=>((evT (C π) c U).at π).bind λk π=>if k=true then ev3 C f3 U a π else ev3 C f3 U b π
 |.tol cg fdc v,π=>JCT C cg fdc (ev3 C f3 U v π)
abbrev evT3(C:Ta->Cn)(f3:F3)(U:Env):T3->Ta->R3 Bool
 |.pur e,π=>(evT (C π) e U).at π
 |.cmp op v b,π=>(ev3 C f3 U v π).bind λx π=>(((ev (C π) b U).bind λy=>cmpD op x y).bind truth).at π
 |.or a b,π=>(evT3 C f3 U a π).bind λk π=>if k=true then .ok true π else evT3 C f3 U b π
inductive Fl3 where
 |nx (U:Env) (π:Ta)
 |rt (d:D) (π:Ta)
 |bk (U:Env) (π:Ta)
 |ct (U:Env) (π:Ta)
 |ex (c:Nat) (π:Ta)
 |bad
@[reducible] def step3 {α:Type}(r:R3 α) (f:α->Ta->Fl3):Fl3:=match r with
 |.ok a π=>f a π
 |.exc c π=>.ex c π
 |.bad=>.bad
abbrev Fl.at(π:Ta):Fl->Fl3
 |.nx U=>.nx U π
 |.rt d=>.rt d π
 |.bk U=>.bk U π
 |.ct U=>.ct U π
 |.ex c=>.ex c π
 |.bad=>.bad
abbrev for3(put:D->Env->Option Env)(body:Env->Ta->Fl3):List D->Env->Ta->Fl3
 | [],U,π=>.nx U π
 |d::ds,U,π=>match put d U with
  |none=>.bad
  |some U1=>match body U1 π with
   |.nx U' π'=>for3 put body ds U' π'
   |.ct U' π'=>for3 put body ds U' π'
   |.bk U' π'=>.nx U' π'
   |r=>r
abbrev JBj(π:Ta)(U:Env)(i:Nat):Option (Nat×Fs):=match look U i with
 |.ok d=>recF π d
 |_=>none
abbrev fln3(U:Env)(i:Nat)(f:Str)(t:D)(π:Ta):R3 Unit:=match JBj π U i with
 |some (n,c)=>if (c.lookup f).isNone=true/\c.length<800 then .ok () (π.set n (JBL f t c)) else .bad
 |none=>.bad
abbrev app3(C:Ta->Cn)(U:Env)(i:Nat)(f:Str)(e:E)(π:Ta):R3 Unit:=match JBj π U i with
 |some (n,c)=>(match c.lookup f with
  |some (.list ds)=>((ev (C π) e U).at π).bind λd π=>if JAv d=true/\ds.length<16777216 then .ok () (π.set n (JBL f (.list (ds++[d])) c)) else .bad
  |_=>.bad)
 |none=>.bad
abbrev clr3(U:Env)(i:Nat)(f:Str)(π:Ta):R3 Unit:=match JBj π U i with
 |some (n,c)=>(match c.lookup f with
  |some (.list _)=>.ok () (π.set n (JBL f (.list []) c))
  |_=>.bad)
 |none=>.bad
abbrev dpo3(C:Ta->Cn)(U:Env)(i:Nat)(f:Str)(e:E)(π:Ta):R3 Unit:=match JBj π U i with
 |some (n,c)=>(match c.lookup f with
  |some (.dict kvs)=>((ev (C π) e U).at π).bind λd π=>(match d with
   |.str k=>if hasK kvs k=true then .ok () (π.set n (JBL f (.dict (delK kvs k)) c)) else .bad
   |_=>.bad)
  |_=>.bad)
 |none=>.bad
abbrev dpu3(C:Ta->Cn)(U:Env)(i:Nat)(f:Str)(k e:E)(π:Ta):R3 Unit:=((ev (C π) e U).at π).bind λd _=>match JBj π U i with
 |some (n,c)=>(match c.lookup f with
  |some (.dict kvs)=>((ev (C π) k U).at π).bind λz _=>(match z with
   |.str k=>if JAv d=true/\kvs.length<16777216 then .ok () (π.set n (JBL f (.dict (putD kvs k d)) c)) else .bad
   |_=>.bad)
  |_=>.bad)
 |none=>.bad
abbrev JAS(C:Ta->Cn)(f3:F3):S3->Env->Ta->Fl3
 |.nil,U,π=>.nx U π
 |.cons a r,U,π=>match JAS C f3 a U π with
  |.nx U' π'=>JAS C f3 r U' π'
  |f=>f
 |.st s,U,π=>(exec (C π) s U).at π
 |.asg i v,U,π=>step3 (ev3 C f3 (JAJ v.toE 0 U) v π) λd π'=>.nx ((JAJ v.toE 0 U).set i (.val d)) π'
 |.drop v,U,π=>step3 (ev3 C f3 (JAJ v.toE 0 U) v π) λ_ π'=>.nx (JAJ v.toE 0 U) π'
 |.ret v,U,π=>step3 (ev3 C f3 (JAJ v.toE 0 U) v π) λd π'=>.rt d π'
 |.ife t a b,U,π=>step3 (evT3 C f3 (JAJ t.toE 0 U) t π) λk π'=>if k=true then JAS C f3 a (JAJ t.toE 0 U) π' else JAS C f3 b (JAJ t.toE 0 U) π'
 |.for1 i e b,U,π=>step3 ((evI (C π) e U).at π) λds π=>for3 (put1 i) (JAS C f3 b) ds (JAJ e 0 U) π
 |.unp is v es,U,π=>step3 (ev3 C f3 (JAJ (.cons v.toE es) 0 U) v π) λd π'=>step3 ((evA (C π') es (JAJ (.cons v.toE es) 0 U)).at π') λds π'=>if ds.length+1=is.length then .nx (JBK is (d::ds) (JAJ (.cons v.toE es) 0 U)) π' else .bad
 |.fln i f t,U,π=>step3 (fln3 (JAJ (.var i) 0 U) i f t π) λ_ π'=>.nx (JAJ (.var i) 0 U) π'
 |.app i f e,U,π=>step3 (app3 C (JAJ (.cons (.var i) e) 0 U) i f e π) λ_ π'=>.nx (JAJ (.cons (.var i) e) 0 U) π'
 |.clr i f,U,π=>step3 (clr3 (JAJ (.var i) 0 U) i f π) λ_ π'=>.nx (JAJ (.var i) 0 U) π'
 |.dpo i f e,U,π=>step3 (dpo3 C (JAJ (.cons (.var i) e) 0 U) i f e π) λ_ π'=>.nx (JAJ (.cons (.var i) e) 0 U) π'
 |.dpu i f k e,U,π=>step3 (dpu3 C (JAJ (.cons (.var i) (.cons k e)) 0 U) i f k e π) λ_ π'=>.nx (JAJ (.cons (.var i) (.cons k e)) 0 U) π'
structure Fd3 where
 par:Nat
 slots:Nat
 body:S3
abbrev JCW(C:Ta->Cn)(f3:F3)(fd:Fd3)(ds:List D)(π:Ta):R3 D :=
 if ds.length=fd.par then (match JAS C f3 fd.body (ds.map Sl.val++List.replicate (fd.slots - fd.par) Sl.no) π with
  |.nx _ π'=>.ok .none π'
  |.rt d π'=>.ok d π'
  |.ex c π'=>.exc c π'
  |_=>.bad) else .bad
inductive RK where
 |fld (f:Str)|chk (m:Str)|def_|no|own (j:Nat) (f:Str)
abbrev runR(kR:Nat->RK)(tab tabR:Nat->Option Fd)(glo:Nat->R D)(sub:Nat->Nat->Bool)(π:Ta):Nat->Nat->List D->R D
 |n,i,ds=>match kR i with
  |.fld f=>fldD π f ds
  |.chk m=>chkD π m ds
  |.own j f=>JBV j (fldD π f) ds
  |.no=>run true tab glo sub n i ds
  |.def_=>match n with
   |0=>.bad
   |n+1=>match tabR i with
    |some fd=>JCe true #[runR kR tab tabR glo sub π n,glo,sub] fd ds
    |none=>.bad
abbrev run3(kR:Nat->RK)(tab tabR:Nat->Option Fd)(tab3:Nat->Option Fd3)(glo:Nat->R D)(sub:Nat->Nat->Bool):Nat->F3
 |0,_,_,_=>.bad
 |n+1,i,ds,π=>match tab3 i with
  |some fd=>JCW (λπ=>#[runR kR tab tabR glo sub π n,glo,sub]) (run3 kR tab tabR tab3 glo sub n) fd ds π
  |none=>.bad
end VI
end
section
namespace VI
open PySem PySem.Spec PyProof.Rows L2
def JIJ{a b C:Addr}(h:ExcAt a C=LsAt b xs)(e:a=b):False:=by
 subst e;have q:ExcAt a C { objs:=Array.replicate (a+1) { cls:=.ref C,data:=.fields #[] } }:=#[{ cls:=.ref C,data:=.fields #[] },by unfold Heap.get?;simp,rfl]
 rw[h]at q;obtain⟨_,its,n,_,z⟩:=q;unfold Heap.get? at z;simp at z
def JHS{P:Addr}:∃h:Heap,TabAt P cs h/\∀o,h.get? P=some o->o.cls=.none:=by
 have q:({ objs:=Array.replicate (P+1) { cls:=.none,data:=.fields #[] } }:Heap).get? P=some { cls:=.none,data:=.fields #[] }:=by unfold Heap.get?;simp
 exact#[_,#[#[],q,trivial,λpos v z=>by simp[codeAmong]at z],λo e=>by rw[q]at e;cases e;rfl]
def JH1{P C:Addr}(h:TabAt P cs=ExcAt P C):False:=by
 obtain⟨h1,t,n⟩:=JHS (P:=P) (cs:=cs);rw[h]at t;obtain⟨o,e,z⟩:=t;have:=n o e
 simp_all
def JJh{P:Addr}(h:TabAt P cs=LsAt P xs):False:=by
 obtain⟨h1,t,n⟩:=JHS (P:=P) (cs:=cs);rw[h]at t;obtain⟨_,its,k,_,e⟩:=t;cases n _ e
noncomputable abbrev bare(B:Bs):Bs:={ B with rc:=λ_ _ _=>False,rcm:=λ_ _ _ _ _ h=>h }
mutual
theorem JC8(hK:B'.K=B.K)(hw:B'.w=B.w)(hc:B'.cl=B.cl)(g:Kpt H H')(hx:∀b c,H b=some (.ext (ExcAt b c))->H' b=some (.ext (ExcAt b c)))(hr:∀n a,B.rc n a H->B'.rc n a H'):∀(d:D) (v:V),Den B H d v->Den B' H' d v
 |.none,_,h=>h
 |.bool _,_,h=>h
 |.int _,_,h=>h
 |.str _,_,h=>h
 |.tuple ds,v,h=>by
  simp![Den]at h ⊢;obtain⟨a,xs,e,q,l⟩:=h;exact#[a,xs,e,by rw[hK];exact g.tup q,JCf hK hw hc g hx hr ds xs l]
 |.list ds,v,h=>by
  simp![Den]at h ⊢;obtain⟨a,xs,e,q,l⟩:=h;exact#[a,xs,e,by rw[hK];exact g.seq q,JCf hK hw hc g hx hr ds xs l]
 |.dict kvs,v,h=>by
  simp![Den]at h ⊢;rcases h with ⟨a,c,e,k,q⟩|⟨a,xs,e,⟨o,q⟩,l⟩|⟨a,n,e,k,q⟩
  ·exact .inl #[a,c,e,k,by rw[hc];exact hx _ _ q]
  ·exact .inr (.inl #[a,xs,e,#[o,by rw[hK,hw];exact g.dict q],JDW hK hw hc g hx hr kvs xs l])
  ·exact .inr (.inr #[a,n,e,k,hr n a q])
theorem JCf(hK:B'.K=B.K)(hw:B'.w=B.w)(hc:B'.cl=B.cl)(g:Kpt H H')(hx:∀b c,H b=some (.ext (ExcAt b c))->H' b=some (.ext (ExcAt b c)))(hr:∀n a,B.rc n a H->B'.rc n a H'):∀(ds:List D) (vs:List V),DenL B H ds vs->DenL B' H' ds vs
 | [],_,h=>h
 |d::ds,vs,h=>by
  simp![DenL]at h ⊢;obtain⟨v,r,e,q,l⟩:=h;exact#[v,r,e,JC8 hK hw hc g hx hr d v q,JCf hK hw hc g hx hr ds r l]
theorem JDW(hK:B'.K=B.K)(hw:B'.w=B.w)(hc:B'.cl=B.cl)(g:Kpt H H')(hx:∀b c,H b=some (.ext (ExcAt b c))->H' b=some (.ext (ExcAt b c)))(hr:∀n a,B.rc n a H->B'.rc n a H'):∀(ds:List (D×D)) (vs:List (Key×V)),DenK B H ds vs->DenK B' H' ds vs
 | [],_,h=>h
 |(k,d)::ds,vs,h=>by
  simp![DenK]at h ⊢;obtain⟨x,v,r,e,e',q,l⟩:=h;exact#[x,v,r,e,e',JC8 hK hw hc g hx hr d v q,JDW hK hw hc g hx hr ds r l]
end
structure Rec where
 a:Addr
 dx:Addr
 ow:List (Str×Addr)
abbrev Rec.adr(r:Rec):List Addr:=r.a::r.dx::r.ow.map (·.2)
structure Kl where
 C:Addr
 on:List Str
 tb:List (Addr×Str):=[]
def OwnAt(B:Bs)(H:Hp)(b:Addr)(d:D):Prop:=∃o,H b=some o/\OwnHO B H b d o
def UnO(b:Addr)(o:HO):Prop:=(∃xs,o=.ext (LsAt b xs))\/∃xs,o=.dK xs
def UnO.uns{b:Addr}(h:UnO b o):JHh o/\∀c,o≠.ext (ExcAt b c):=by
 rcases h with ⟨xs,rfl⟩|⟨xs,rfl⟩
 ·refine#[.inl #[b,xs,rfl],λc z=>?_];injection z with z
  exact JIJ z.symm rfl
 ·exact#[trivial,λc z=>by cases z]
def OwnHO.un{b:Addr}{d:D}(h:OwnHO B H b d o):UnO b o:=by
 cases d<;>first|exact fF h|skip
 ·obtain⟨xs,e,_⟩:=h;exact .inl #[xs,e]
 ·obtain⟨xs,e,_⟩:=h;exact .inr #[xs,e]
def OwnHO.off{b:Addr}(hK:B'.K=B.K)(hw:B'.w=B.w)(hc:B'.cl=B.cl)(g:Kpt H H')(hx:∀b c,H b=some (.ext (ExcAt b c))->H' b=some (.ext (ExcAt b c)))(hr:∀n a,B.rc n a H->B'.rc n a H'){d:D}(h:OwnHO B H b d o):OwnHO B' H' b d o:=by
 cases d<;>first|exact fF h|skip
 ·obtain⟨xs,e,l⟩:=h;exact#[xs,e,JCf hK hw hc g hx hr _ _ l]
 ·obtain⟨xs,e,l⟩:=h;exact#[xs,e,JDW hK hw hc g hx hr _ _ l]
def JCo(κ:Kl)(B:Bs)(H:Hp)(r:Rec)(f:Str)(d:D)(v:V):Prop:=match κ.on.contains f with
 |true=>∃b,r.ow.lookup f=some b/\v=.ref b/\OwnAt B H b d
 |false=>Den B H d v
structure RecOk(κ:Kl)(B:Bs)(r:Rec)(c:Fs)(fs:List (Str×V))(H:Hp):Prop where
 ins:H r.a=some (.ins κ.C r.dx fs)
 own:H r.dx=some (.own r.a)
 keys:fs.map (·.1)=c.map (·.1)
 fld:∀f d,c.lookup f=some d->∃v,fs.lookup f=some v/\JCo κ (bare B) H r f d v
 ow:∀b∈r.ow.map (·.2),∃o,H b=some o/\UnO b o
 no:(r.ow.map (·.2)).Nodup
theorem JFi{α β:Type}:∀ {c:List (Str×α)}{e:List (Str×β)},e.map (·.1)=c.map (·.1)->c.lookup f=none->e.lookup f=none
 | [],[],_,_=>rfl
 | [],_::_,h,_=>by cases h
 |_::_,[],_,_=>rfl
 |(k,x)::c,(l,y)::e,h,n=>by
  simp![List.map_cons,List.cons.injEq]at h;have h1:l=k:=h.1;subst h1;unfold List.lookup at n ⊢;cases q:(f==l) with
  |true=>rw[q]at n;cases n
  |false=>rw[q]at n;exact JFi h.2 n
@[reducible]def Tb:=List (Rec×Fs)
abbrev pi(ρ:Tb):List Fs:=ρ.map (·.2)
abbrev adrs(κ:Kl)(ρ:Tb):List Addr:=κ.tb.map (·.1)++ρ.flatMap (·.1.adr)
def TbOk(P:Addr)(q:Str)(H:Hp):Prop:=∃cs,H P=some (.ext (TabAt P cs))/\∀c∈cs,∃(oc:Obj) (u:HO) (vs:Array Value) (t:Tok),H c=some (.frz oc u)/\oc.data=.fields vs/\vs[1]? = some (.str q t)
theorem JB8{α:Type}:∀ {l:List (Addr×α)}{a:Addr}{o:α},l.lookup a=some o->(a,o)∈l
 | [],_,_,h=>by cases h
 |(b,u)::r,a,o,h=>by
  rw[List.lookup_cons]at h
  split at h
  · rename_i e
    have e:a=b:=by simpa using e
    cases h;rw[e];exact List.mem_cons_self
  · exact q_s _ (JB8 h)
theorem JGu{α:Type}{P:Addr}:∀ {l:List (Addr×α)},P∈l.map (·.1)->∃q,l.lookup P=some q
 | [],h=>by simp at h
 |(k,v)::r,h=>by
  unfold List.lookup;cases e:P==k with
  |true=>exact#[v,rfl]
  |false =>
    rw[List.map_cons]at h;rcases q_n.mp h with z|z
    ·have z:P=k:=z;rw[z]at e;simp at e
    ·exact JGu z
section
variable{κ:Kl}{B:Bs}{ρ ρ' ρ'':Tb}{H H' H'':Hp}{r:Rec}{c:Fs}{fs:List (Str×V)}
def RecOk.non(h:RecOk κ B r c fs H)(f:Str)(n:c.lookup f=none):fs.lookup f=none:=JFi h.keys n
def RecOk.len(h:RecOk κ B r c fs H):fs.length=c.length:=by simpa using congrArg List.length h.keys
def RecOk.stay(h:RecOk κ B r c fs H)(k:Kpt H H')(hx:∀b c,H b=some (.ext (ExcAt b c))->H' b=some (.ext (ExcAt b c)))(ha:∀b∈r.adr,∀o,H b=some o->H' b=some o):RecOk κ B r c fs H':=by
 have mow:∀ {b:Addr},b∈r.ow.map (·.2)->b∈r.adr:=λz=>q_s _ (q_s _ z);have dn:=λd v=>JC8 (B:=bare B) (B':=bare B) rfl rfl rfl k hx (λ_ _ z=>z) d v;refine#[ha _ (List.mem_cons_self ..) _ h.ins,ha _ (q_s _ (List.mem_cons_self ..)) _ h.own,h.keys,λf d e=>?_,λb hb=>?_,h.no]
 ·obtain⟨v,e1,q⟩:=h.fld f d e;refine#[v,e1,?_];unfold JCo at q ⊢
  revert q
  cases κ.on.contains f with
  |false=>exact λq=>dn d v q
  |true =>
   rintro⟨b,q1,q2,q3⟩;obtain⟨o,e2,l⟩:=q3;exact#[b,q1,q2,o,ha b (mow (List.mem_map.mpr #[(f,b),PySem.mem_of_lookup q1,rfl])) _ e2,l.off rfl rfl rfl k hx λ_ _ z=>z]
 ·obtain⟨o,e,u⟩:=h.ow b hb;exact#[o,ha b (mow hb) _ e,u]
def RecOk.mono(h:RecOk κ B r c fs H)(s:Same H H'):RecOk κ B r c fs H':=h.stay (Same.kp s) (λb c e=>s _ _ e) λb _ o e=>s _ _ e
def rcT(κ:Kl)(B:Bs)(ρ:Tb)(n:Nat)(a:Addr)(H:Hp):Prop:=∃p fs,ρ[n]? = some p/\a=p.1.a/\RecOk κ B p.1 p.2 fs H
def JLV:RcM (rcT κ B ρ):=λn a H H' s ⟨p,fs,e1,e2,q⟩=>#[p,fs,e1,e2,q.mono s]
noncomputable abbrev JAB(κ:Kl)(B:Bs)(ρ:Tb):Bs:={ B with rc:=rcT κ B ρ,rcm:=JLV }
structure Recs(κ:Kl)(B:Bs)(ρ:Tb)(H:Hp):Prop where
 at_:∀p∈ρ,∃fs,RecOk κ B p.1 p.2 fs H
 nd:∀(i j:Nat) (p q:Rec×Fs) (a:Addr),ρ[i]? = some p->ρ[j]? = some q->a∈p.1.adr->a∈q.1.adr->i=j
 tb:∀P q,κ.tb.lookup P=some q->TbOk P q H
theorem RecOk.uns(q:RecOk κ B r c fs H){b:Addr}(hb:b∈r.adr):∃o,H b=some o/\JHh o/\∀c,o≠.ext (ExcAt b c):=by
 unfold Rec.adr at hb;rcases q_n.mp hb with rfl|hb
 ·exact#[_,q.ins,trivial,λc z=>by cases z]
 rcases q_n.mp hb with rfl|hb
 ·exact#[_,q.own,trivial,λc z=>by cases z]
 obtain⟨o,e,u⟩:=q.ow b hb;exact#[o,e,u.uns]
theorem Recs.uns(h:Recs κ B ρ H){b:Addr}(hb:b∈adrs κ ρ):∃o,H b=some o/\JHh o/\∀c,o≠.ext (ExcAt b c):=by
 rcases List.mem_append.mp hb with hb|hb
 ·obtain⟨q,e⟩:=JGu hb;obtain⟨cs,e,_⟩:=h.tb b q e;exact#[_,e,.inr #[b,cs,rfl],λc z=>JH1 (HO.ext.inj z)]
 obtain⟨p,hp,hb⟩:=List.mem_flatMap.mp hb;obtain⟨fs,q⟩:=h.at_ p hp;exact q.uns hb
def RecOk.notb(r0:RecOk κ B r c fs H){b:Addr}(hb:b∈r.adr):(∀cs,H b≠some (.ext (TabAt b cs)))/\∀o u,H b≠some (.frz o u):=by
 unfold Rec.adr at hb;rcases q_n.mp hb with rfl|hb
 ·exact#[λcs z=>(by rw[r0.ins]at z;cases z),λo u z=>by rw[r0.ins]at z;cases z]
 rcases q_n.mp hb with rfl|hb
 ·exact#[λcs z=>(by rw[r0.own]at z;cases z),λo u z=>by rw[r0.own]at z;cases z]
 obtain⟨o,e,u⟩:=r0.ow b hb;rcases u with ⟨xs,rfl⟩|⟨xs,rfl⟩
 ·exact#[λcs z=>JJh (HO.ext.inj (Option.some.inj (z.symm.trans e))),λo u z=>by rw[e]at z;cases z]
 ·exact#[λcs z=>(by rw[e]at z;cases z),λo u z=>by rw[e]at z;cases z]
def TbOk.off{P:Addr}{q:Str}(t:TbOk P q H)(k:∀b o,H b=some o->((∃cs,o=.ext (TabAt b cs))\/∃a u,o=.frz a u)->H' b=some o):TbOk P q H':=by
 obtain⟨cs,e,h⟩:=t;refine#[cs,k _ _ e (.inl #[cs,rfl]),λc hc=>?_];obtain⟨oc,u,vs,t,e1,e2⟩:=h c hc;exact#[oc,u,vs,t,k _ _ e1 (.inr #[oc,u,rfl]),e2]
theorem Recs.mono(h:Recs κ B ρ H)(s:Same H H'):Recs κ B ρ H':=#[λp hp=>let ⟨fs,q⟩:=h.at_ p hp;#[fs,q.mono s],h.nd,λP q e=>(h.tb P q e).off λb o e _=>s b o e]
def Recs.nil(h:∀P q,κ.tb.lookup P=some q->TbOk P q H):Recs κ B [] H:=#[λ_ h=>by simp at h,λ_ _ _ _ _ h=>by simp at h,h]
theorem Recs.off(h:Recs κ B ρ H)(off:∀b o,H b=some o->b ∉ adrs κ ρ->H' b=some o):Kpt H H'/\∀b c,H b=some (.ext (ExcAt b c))->H' b=some (.ext (ExcAt b c)):=by
 refine#[λb o e n=>off b o e λhb=>?_,λb c e=>off b _ e λhb=>?_]
 ·obtain⟨u,e',z,_⟩:=h.uns hb;rw[e]at e';cases e';exact n z
 ·obtain⟨u,e',_,z⟩:=h.uns hb;rw[e]at e';cases e';exact z c rfl
structure StepR(κ:Kl)(B:Bs)(ρ:Tb)(H:Hp)(ρ':Tb)(H':Hp):Prop where
 off:∀b o,H b=some o->b ∉ adrs κ ρ->H' b=some o
 all:Recs κ B ρ' H'
 pre:∀(n:Nat) (p:Rec×Fs),ρ[n]? = some p->∃q,ρ'[n]? = some q/\q.1.a=p.1.a
 sub:∀b∈adrs κ ρ,b∈adrs κ ρ'
 new:∀b∈adrs κ ρ',b ∉ adrs κ ρ->H b=none
def StepR.same(h:Recs κ B ρ H)(s:Same H H'):StepR κ B ρ H ρ H':=#[λb o e _=>s b o e,h.mono s,λn p e=>#[p,e,rfl],λb hb=>hb,λb h n=>absurd h n]
theorem StepR.trans(a:StepR κ B ρ H ρ' H')(b:StepR κ B ρ' H' ρ'' H''):StepR κ B ρ H ρ'' H'':=by
 have lost:∀ {c:Addr},c ∉ adrs κ ρ->H' c=none->H c=none:=λ{c} n e=>by
  cases q:H c with
  |none=>rfl
  |some o=>rw[a.off c o q n]at e;cases e
 refine#[λc o e n=>b.off c o (a.off c o e n) λz=>?_,b.all,λn p e=>?_,λc h=>b.sub c (a.sub c h),λc h n=>?_]
 ·rw[a.new c z n]at e;cases e
 ·obtain⟨q,e1,e2⟩:=a.pre n p e;obtain⟨q',e3,e4⟩:=b.pre n q e1;exact#[q',e3,e4.trans e2]
 ·by_cases z:c∈adrs κ ρ'
  ·exact a.new c z n
  ·exact lost n (b.new c h z)
def StepR.then(a:StepR κ B ρ H ρ' H')(s:Same H' H''):StepR κ B ρ H ρ' H'':=a.trans (.same a.all s)
def StepR.dm(k:StepR κ B ρ H ρ' H'):Dm H H':=λb o e=>by
 by_cases hb:b∈adrs κ ρ
 ·obtain⟨u,q,_⟩:=k.all.uns (k.sub b hb);exact#[u,q]
 ·exact#[o,k.off b o e hb]
def StepR.rc(k:StepR κ B ρ H ρ' H')(n:Nat)(a:Addr):rcT κ B ρ n a H->rcT κ B ρ' n a H':=by
 rintro⟨p,fs,e1,e2,_⟩;obtain⟨q,e3,e4⟩:=k.pre n p e1;obtain⟨fs',r⟩:=k.all.at_ _ (List.mem_of_getElem? e3);exact#[_,fs',e3,by rw[e2,e4],r]
def StepR.den(k:StepR κ B ρ H ρ' H')(h:Recs κ B ρ H)(d:D)(v:V)(q:Den (JAB κ B ρ) H d v):Den (JAB κ B ρ') H' d v :=
 let ⟨k1,k2⟩:=h.off k.off
 JC8 (B:=JAB κ B ρ) (B':=JAB κ B ρ') rfl rfl rfl k1 k2 k.rc d v q
def StepR.dens(k:StepR κ B ρ H ρ' H')(h:Recs κ B ρ H)(d:List D)(v:List V)(q:DenL (JAB κ B ρ) H d v):DenL (JAB κ B ρ') H' d v :=
 let ⟨k1,k2⟩:=h.off k.off
 JCf (B:=JAB κ B ρ) (B':=JAB κ B ρ') rfl rfl rfl k1 k2 k.rc d v q
def StepR.denk(k:StepR κ B ρ H ρ' H')(h:Recs κ B ρ H)(d:List (D×D))(v:List (Key×V))(q:DenK (JAB κ B ρ) H d v):DenK (JAB κ B ρ') H' d v :=
 let ⟨k1,k2⟩:=h.off k.off
 JDW (B:=JAB κ B ρ) (B':=JAB κ B ρ') rfl rfl rfl k1 k2 k.rc d v q
def StepR.sok(k:StepR κ B ρ H ρ' H')(h:Recs κ B ρ H)(ok:Sok (JAB κ B ρ) Y H U):Sok (JAB κ B ρ') Y H' U:=λi d e =>
 let ⟨v,e1,q⟩:=ok i d e
 #[v,e1,k.den h d v q]
def JLt(d:D)(v:V)(q:Den (bare B) H d v):Den (JAB κ B ρ) H d v:=JC8 (B:=bare B) (B':=JAB κ B ρ) rfl rfl rfl (λb o e _=>e) (λb c e=>e) (λn a z=>z.elim) d v q
def JEE{d:D}{n:Nat}(hn:recN d=some n)(h:Den (JAB κ B ρ) H d v):∃p fs,ρ[n]? = some p/\v=.ref p.1.a/\RecOk κ B p.1 p.2 fs H:=by
 cases d with
 |dict kvs =>
  simp![Den]at h;rcases h with ⟨a,c,e,k,q⟩|⟨a,xs,e,⟨o,q⟩,l⟩|⟨a,m,e,k,q⟩
  ·subst k;cases hn
  ·cases kvs with
   |nil=>cases hn
   |cons p r =>
    obtain⟨k1,k2⟩:=p;simp![DenK]at l;obtain⟨x,v',r',_,ek,_⟩:=l;subst ek;cases hn
  ·subst k;have:m=n:=by simpa[recN] using hn
   subst this;obtain⟨p,fs,e1,e2,q⟩:=q;exact#[p,fs,e1,by rw[e,e2],q]
 |_=>cases hn
def JIT{n:Nat}(e:ρ[n]? = some p)(q:RecOk κ B p.1 p.2 fs H):Den (JAB κ B ρ) H (recD n) (.ref p.1.a):=by
 unfold recD;simp![Den];exact .inr (.inr #[_,n,rfl,rfl,p,fs,e,rfl,q])
def JFz(n:Nat):recN (recD n)=some n:=by unfold recN recD;simp
def JFM{n:Nat}(e:ρ[n]? = some p):(pi ρ)[n]? = some p.2:=by unfold pi;rw[List.getElem?_map,e];rfl
end
end VI
end
section
namespace VI
open PySem
def JN3{x y:Str}(e:x.cps.toList=y.cps.toList):x=y:=by
 cases x;cases y;simp![Str.mk.injEq];exact Array.toList_inj.mp e
def JOg{a b:List Str}(p:a.Perm b)(ha:a.Pairwise λa b=>a.cps.toList<=b.cps.toList)(hb:b.Pairwise λa b=>a.cps.toList<=b.cps.toList):a=b:=p.eq_of_pairwise (λa b _ _ h1 h2=>JN3 (List.le_antisymm h1 h2)) ha hb
def JKh(zs:List Str):(JFO zs).Pairwise λa b=>a.cps.toList<=b.cps.toList:=by
 refine(List.pairwise_mergeSort (λa b c h1 h2=>?_) (λa b=>?_) zs).imp λ{a b} h=>List.not_lt.mp (by simpa using h)
 ·simp![Bool.not_eq_true',decide_eq_false_iff_not]at h1 h2 ⊢;exact List.not_lt.mpr (List.le_trans (List.not_lt.mp h1) (List.not_lt.mp h2))
 ·by_cases h:b.cps.toList<a.cps.toList
  ·simp[List.lt_asymm h]
  ·simp[h]
end VI
end
section
namespace VI
open PySem PySem.Spec PyProof.Rows L2
section
variable{X:Cx}{zp:Pq}{Y:St}{H H':Hp}{s:Shared}{l:Addr}{xs:List V}
def JCn(I:Inv X zp Y H s)(e:H l=some (.ext (LsAt l xs))):Inv X zp Y (upd H l (.lst xs)) s:=by
 obtain⟨φ,hu,_⟩:=I.hok l _ e;exact I.write (t':=s.toks) (by rw[e];trivial) (.inl rfl) (λ_ _ _ e=>e) hu φ
def JD2(I:Inv X zp Y H s)(e:H l=some (.lst xs)):Inv X zp Y (upd H l (.ext (LsAt l xs))) s:=by
 have φ:LsAt l xs s.heap:=I.hok l _ e;have hu:∃o,s.heap.get? l=some o:=let ⟨_,_,_,_,q⟩:=φ;#[_,q]
 exact I.write (t':=s.toks) (by rw[e];trivial) (.inl rfl) (λ_ _ _ e=>e) hu #[φ,hu,λh1 h2 ⟨z,its,n,r,q⟩ k=>#[z,its,n,r,k _ q]]
def JMR{l:Addr}(h:H l=some o):upd H l o=H:=funext λb=>by
 unfold upd
 split
 ·rename_i z;rw[z,h]
 ·rfl
end
theorem JMx:∀(p:Str) (l:List Str),risingS p l=true->(p::l).Pairwise λa b=>a.cps.toList<=b.cps.toList
 |p,[],_=>by simp
 |p,x::r,h=>by
  simp![risingS,q_i,Bool.not_eq_true',ltCps_eq,decide_eq_false_iff_not]at h;have ih:=JMx x r h.2;refine List.pairwise_cons.mpr #[λy hy=>?_,ih];rcases q_n.mp hy with rfl|hy
  ·exact List.not_lt.mp h.1
  ·exact List.le_trans (List.not_lt.mp h.1) ((List.pairwise_cons.mp ih).1 y hy)
def JQt:∀ {l:List Str},sortedS l=true->l.Pairwise λa b=>a.cps.toList<=b.cps.toList
 | [],_=>.nil
 |x::r,h=>JMx x r h
def JN9(p:ss.Perm zs)(h:sortedS ss=true):ss=JFO zs:=JOg (p.trans (List.mergeSort_perm _ _).symm) (JQt h) (JKh zs)
theorem JFv:∀ {vs:List Value}{ss:List Str},StrsAre vs ss->Vals (ss.map V.str) vs
 |_,_,.nil=>.nil
 |_,_,.cons x t h=>.cons #[t,rfl] (JFv h)
def PEs.one(h:PEs X B C XX (a::r) y):∃x z,y=.cons x z/\PE X a (RE B C XX x)/\PEs X B C XX r z:=by
 cases y<;>first|exact⟨_,_,rfl,h⟩|exact fF h
def PEs.no(h:PEs X B C XX [] y):y=.nil:=by
 cases y<;>first|rfl|exact fF h
section
variable{X:Cx}{B:Bs}{C:Cn}{CX:CXT}{XX:Nat->Hp->Prop}{G:Lz}
theorem JDq:∀ {zs:List Str},DenL B H (zs.map .str) (zs.map V.str)
 | []=>by simp![List.map_nil,DenL]
 |z::zs=>by simp![List.map_cons,DenL,Den];exact#[_,_,rfl,rfl,JDq]
theorem JED{H:Hp}{zs:List Str}:∀ {kvs:List (D×D)}{xs:List (Key×V)}{zs:List Str},DenK B H kvs xs->strsOf (kvs.map (·.1))=some zs->xs.map (·.1)=zs.map Sum.inr
 | [],xs,zs,h,e=>by simp![DenK]at h;subst h;cases e;rfl
 |(z,d)::r,xs,zs,h,e=>by
  simp![DenK]at h;obtain⟨y,v,r',rfl,rfl,h1,h2⟩:=h;simp![List.map_cons,strsOf]at e;obtain⟨zs',e1,rfl⟩:=q_d.mp e;simp![List.map_cons,JED (zs:=zs) h2 e1]
def dk_in:OpR X (compareOp .In) (λx y H Q=>∃a ys k,x=.str k/\y=.ref a/\H a=some (.dK ys)/\Q (.bl (ys.find? λp=>p.1=Sum.inr k).isSome) H):=by
 rintro zp s Y H x y v u Q I rx ry ⟨a,ys,k,rfl,rfl,hH,q⟩;obtain⟨t,rfl⟩:=rx;cases ry;obtain⟨zl,hsys,vs,kv,dd⟩:=I.hok a _ hH;exact wpAny_in_of (JAY _ _ k t) hsys dd.mapOf #[.bl _,H,I.tok _,rfl,by rw[JGM kv];exact q]
def JLz:OpR X (compareOp .NotIn) (λx y H Q=>∃a ys k,x=.str k/\y=.ref a/\H a=some (.dK ys)/\Q (.bl !(ys.find? λp=>p.1=Sum.inr k).isSome) H):=by
 rintro zp s Y H x y v u Q I rx ry ⟨a,ys,k,rfl,rfl,hH,q⟩;obtain⟨t,rfl⟩:=rx;cases ry;obtain⟨zl,hsys,vs,kv,dd⟩:=I.hok a _ hH;exact wpAny_notIn_of (JAY _ _ k t) hsys dd.mapOf #[.bl _,H,I.tok _,rfl,by rw[JGM kv];exact q]
def dk_ix:IxR X (λx y H Q=>∃a ys k w,x=.ref a/\y=.str k/\H a=some (.dK ys)/\(ys.find? λp=>p.1=Sum.inr k).map (·.2)=some w/\Q w H):=by
 rintro value slice zp s Y H x y v u Q I rx ry ⟨a,ys,k,w,rfl,rfl,hH,hw,q⟩ hs;cases rx;obtain⟨t,rfl⟩:=ry;obtain⟨zl,hsys,vs,kv,dd⟩:=I.hok a _ hH;obtain⟨wv,g1,g2⟩:=(JBc kv).1 w hw;exact subscriptTail_builtinR (x:=wv) dd.typeIs slot_dict_getitem.lookup (wpAny_getItem_of (Q:=λr s'=>r=wv/\EP X zp Y Q r s') (JAY _ _ k t) dd.mapOf g1 #[rfl,w,H,I.tok _,g2,q]) hs
def JSM:MtR X "dict.get" (λx xs H Q=>∃a ys k w,x=.ref a/\xs=[.str k]/\H a=some (.dK ys)/\((ys.find? λp=>p.1=Sum.inr k).map (·.2)).getD .non=w/\Q w H):=by
 rintro zp s Y H x vs v us Q I rx rv ⟨a,ys,k,w,rfl,rfl,hH,hw,q⟩;cases rx;obtain⟨u,rfl,t,rfl⟩:=rv.one;obtain⟨zl,hsys,vs,kv,dd⟩:=I.hok a _ hH;refine call_meetsIn PySem.F.slot_dict_get dd.typeIs PySem.F.entry_dict_get (PySem.F.args_dict_get_2 _ _) (meets_dict_get (JAQ X.prog X.w) a (JAY _ _ k t) hsys) #[_,dd.mapOf,?_];refine#[w,H,I.tok _,?_,q];cases z:(ys.find? λp=>p.1=Sum.inr k).map (·.2) with
 |none =>
  rw[z]at hw;rw[(JBc kv).2 z,<-hw];rfl
 |some w' =>
  rw[z]at hw;obtain⟨wv,g1,g2⟩:=(JBc kv).1 w' z;rw[g1,<-hw];exact g2
def JNw:JCE X (.builtin "len") (λxs H Q=>∃l ys,xs=[.ref l]/\H l=some (.ext (LsAt l ys))/\Q (.int ys.length) H):=by
 rintro zp s Y H xs us Q I r ⟨l,ys,rfl,hH,q⟩;refine thn (JEy zp s Y _ _ us (λv H'=>v=.int ys.length/\H'=upd H l (.lst ys)) (JCn I hH) r #[.ref l,ys.length,rfl,.inl #[ys,SqL.of JAF,rfl],rfl,rfl]) λv s1 h_=>?_;obtain⟨v,H1,I1,r1,rfl,rfl⟩:=h_;have I2:=JD2 I1 JAF;rw[JGX,JMR hH]at I2;exact#[_,H,I2,r1,q]
def JOG{w:World}(h:(JAQ prog w).is (Sum.inr z) v=true):∃t,v=.str z t:=by
 rcases JAh ((JHt prog w _ v).symm.trans h) with ⟨i,t,e,_⟩|⟨x,t,e,rfl⟩
 ·cases e
 ·cases e;exact#[t,rfl]
theorem JJL:∀ {xs:List (Key×V)}{vs:List (Key×Value)},KV xs vs->vs.map (·.1)=xs.map (·.1)
 |_,_,.nil=>rfl
 |_,_,.cons h t=>by simp![List.map_cons];rw[JJL t,h.1]
theorem JIh{w:World}:∀ {vs:List Value}{kvs:List (Key×Value)}{zs:List Str},kvs.map (·.1)=zs.map Sum.inr->vs.length=kvs.length->(∀(j:Nat) (v:Value),vs[j]? = some v->∃k x,kvs[j]? = some (k,x)/\(JAQ prog w).is k v=true)->StrsAre vs zs
 | [],[],[],_,_,_=>.nil
 |v::vs,(k,x)::kvs,z::zs,h,hl,hp=>by
  simp![List.map_cons,List.cons.injEq]at h;obtain⟨k',x',e1,e2⟩:=hp 0 v rfl;cases e1;rw[h.1]at e2;obtain⟨t,rfl⟩:=JOG e2;exact .cons z t (JIh h.2 (by simpa using hl) λj v e=>hp (j+1) v e)
 | [],[],_::_,h,_,_=>by cases h
 |_,_::_,[],h,_,_=>by cases h
 | [],_::_,_,_,h,_=>by cases h
 |_::_,[],_,_,h,_=>by cases h
def JH3{w:World}{E:Vq}{a:Addr}{Q:List Value->Shared->Prop}(hh:A.handled=none)(hsys:(a==sysModules)=false)(dd:s.heap.DictOf (JAQ prog w) a vs)(hn:vs.length<=sizeLine)
  (h:∀(h':Heap) (tk:Nat) (us:List Value),(∀b o,s.heap.get? b=some o->h'.get? b=some o)->us.length=vs.length->(∀(j:Nat) (v:Value),us[j]? = some v->∃k x,vs[j]? = some (k,x)/\(JAQ prog w).is k v=true)->s.heap.objs.size<h'.objs.size->Q us { s with heap:=h',toks:=tk }):wpAny (model prog w) A (collect (.ref a)) Q E s:=by
 unfold collect;refine q_b (wpAny_runValue (codeAny_builtin entry_proto_collect' ?_));show wpAny _ _ (do again (.builtin "list.__iadd__" #[[<-newList [],.ref a],[]])) _ _ s
 refine q_b (wpAny_newList (q_e #[Code.quiet_builtin _ (by decide +kernel),codeAny_builtin entry_list_iadd' ?_]))
 obtain⟨ep,da⟩:=dd.dictAt;have hlt:=da.lt_size;refine PySem.W.kdl_extend (R:=λr s'=>match r with
  |.ok (.ret v)=>wpAny (model prog w) A (match v with
    |.ref a=>(do
     let o<-load a
     match o.data with
     |.seq xs _=>pure xs.toList
     |_=>unsupported "internal:collect")
    |_=>unsupported "internal:collect") Q E s'
  |.ok _=>False
  |.error e=>E e s') (s:={ s with heap:=s.heap.push (seqObj "list" #[] 0) }) (A:=A) (PySem.W.kdl_dict (knd:=JAQ prog w) (kvs:=vs) (ep:=ep) hsys) hh (da.push _) s.heap.objs.size (Nat.ne_of_gt hlt) (Nat.ne_of_gt hlt) (.ref s.heap.objs.size) 0 (q_k _ rfl) (λh' tk acc c' ho hS ha=>?_) hn
 refine q_b (wpAny_load hS ?_);exact q_e (h h' tk acc.toList (λb o e=>ho b o (q_l (q_h e)) (q_c _ e)) (by rw[q_E];exact ha.1) (λj v e=>ha.2 j v (by rw[<-Array.getElem?_toList];exact e)) (q_h hS))
def Rdk(X:Cx)(H:Hp)(a:Addr)(ys:List (Key×V)):Prop:=H a=some (.dK ys)\/∃o,SqDo X.K X.w H a o ys
theorem Rdk.at{zp:Pq}{Y:St}{H:Hp}{s:Shared}{a:Addr}{ys:List (Key×V)}(I:Inv X zp Y H s)(h:Rdk X H a ys):(a==sysModules)=false/\∃vs,KV ys vs/\s.heap.DictOf (JAQ X.prog X.w) a vs:=by
 rcases h with h|⟨o,h⟩
 ·exact(I.hok a _ h).2
 ·obtain⟨h1,_,h2⟩:=SqDo.at I h;exact#[h1,h2]
def JF4(hc:X.calm=true):JCE X (.builtin "sorted") (λxs H Q=>∃a ys zs,xs=[.ref a]/\Rdk X H a ys/\ys.map (·.1)=zs.map Sum.inr/\zs.length<64/\∀p,H p=none->Q (.ref p) (upd H p (.lst ((JFO zs).map V.str)))):=by
 rintro zp s Y H xs us Q I r ⟨a,ys,zs,rfl,hH,hk,h5,q⟩;cases r with
 |cons ra rb =>
 cases rb;cases ra;obtain⟨hsys,vs,kv,dd⟩:=hH.at I;have hn:=JBs kv;have e1:zs.length=ys.length:=by rw[<-q_g (f:=Sum.inr (α:=Int)) (as:=zs),<-hk,q_g]
 refine Calls.call_function_entry kind_sorted plain_sorted entry_sorted (args_sorted1 _) ?_;unfold Builtin.«sorted»;refine q_b (m:=checkCount "sorted" 1 1 _) (q_e ?_);refine q_b (JH3 (I.ok.hd hc) hsys dd (by rw[sizeLine_eq];omega) λh' tk us old hl hu hsz=>?_)
 have hS':=JIh (prog:=X.prog) (w:=X.w) (vs:=us) (kvs:=vs) (zs:=zs) (by rw[<-hk];exact JJL kv) hl hu
 refine q_b (wpAny_newList ?_);have hoL:(h'.push (seqObj "list" us.toArray 0)).get? h'.objs.size=some (seqObj "list" us.toArray 0):=q_k _ rfl;have h64:us.length<64:=by omega
 refine q_b (wpAny_holding (wpAny_call_entry slot_list_sort #[_,hoL,rfl] entry_list_sort (list_sort_treeK strKind_oneLt hoL hS'.keysOf (λv₁ v₂ rest e=>keyKind_strs (by rw[<-e];exact hS')) h64 λst' a1 a2=>#[_,rfl,?_]) (args_list_sort _)))
 refine q_e #[_,rfl,?_];obtain⟨ss,b1,b2,b3⟩:=sorted_out_str hS' a1 a2;have e:=JN9 b2 b3;subst e;obtain⟨c,he⟩:=sortedHeap_at (out:=(arrOf st').map (·.2)) hoL;have hlt2:s.heap.objs.size<=h'.objs.size:=Nat.le_of_lt hsz;refine#[.ref h'.objs.size,_,I.laid (a:=h'.objs.size) (t':=tk) (λb o e=>?_) hlt2 (o:=.lst ((JFO zs).map V.str)) #[?_,_,c,JFv b1,by rw[Array.toArray_toList];exact he],rfl,q _ (I.hok.fresh hlt2)]
 ·have e':=old b o e;rw[sortedHeap_old (q_l (q_h e')) (by rw[size_push'];exact q_D (q_h e'))]
  exact q_c _ e'
 ·rw[q_g,b2.length_eq,sizeLine_eq];omega
def JNk:PE X (.Dict [] [] p) (λ_ H Q=>∀p,H p=none->Q (.ref p) (upd H p (.dK []))):=λzp s Y H Q I h =>
 wpAny_Dict_empty #[.ref s.heap.objs.size,_,I.laid (a:=s.heap.objs.size) (o:=.dK []) (t':=s.toks) (λ_ _ q=>q_c _ q) (q_t _) #[Nat.zero_le _,beq_eq_false_iff_ne.mpr (Ne.symm (q_l (JJg I))),[],.nil,Heap.DictOf.new s.heap],rfl,h _ (I.hok.fresh (q_t _))]
def KO(B:Bs)(XX:Nat->Hp->Prop)(r:R D)(H:Hp)(Q:VK):Prop:=match r with
 |.ok t=>∀l o H',Same H H'->H' l=some o->OwnHO B H' l t o->Q (.ref l) H'
 |.exc c=>XX c H
 |.bad=>False
def ROw(B:Bs)(C:Cn)(XX:Nat->Hp->Prop)(b:Nat)(x:E):TE:=λY H Q=>∃U,Sok B Y H U/\KO B XX ((ev C x U).bind λd=>C.fn b [d]) H Q
def JEM(g:Gk X B C CX XX G){b:Nat}(hf:G.lookup f=some (.rco b))(hc:JAU o=false)(ho:PE X o (RE B C XX x)):PE X (.Attribute o f p) (ROw B C XX b x) :=
 PE.imp (JEf ho (JAt hc _ _ _)) λY H Q h_=>by
  obtain⟨U,ok,k⟩:=h_;refine RE.of (W:=λr H=>KO B XX r H Q) ok (λ_ _ z=>z) (λ_ z=>z) k λd v H1 s1 d1 h1=>?_;have z:=(g.own f b hf).2 H1 d v d1;cases q:C.fn b [d] with
  |bad=>rw[q]at h1;exact fF h1
  |exc c=>rw[q]at z;exact z.elim
  |ok t =>
   rw[q]at h1 z;obtain⟨a,Cc,dx,fs,l,o,e1,e2,e3,e4,e5,e6,e7⟩:=z;exact#[a,Cc,dx,fs,.ref l,e1,e2,e3,e4,e5,h1 l o H1 s1 e6 e7]
def KO.of(g:Gk X B C CX XX G){b:Nat}{Q P:VK}{F:D->R D}(ok:Sok B Y H U)(k:KE B XX (((ev C x U).bind λd=>C.fn b [d]).bind F) H Q)(go:∀t l o H1,Same H H1->H1 l=some o->OwnHO B H1 l t o->KE B XX (F t) H1 Q->P (.ref l) H1):ROw B C XX b x Y H P:=by
 refine#[U,ok,?_];cases q:(ev C x U).bind λd=>C.fn b [d] with
 |bad=>rw[q]at k;exact fF k
 |exc c=>rw[q]at k;exact k
 |ok t=>rw[q]at k;exact λl o H1 s1 e h=>go t l o H1 s1 e h (KE.mono g s1 k)
def own_one{b j:Nat}{F:D->R D}(g:C.fn (b+1+j)=JBV j (C.fn b))(hF:∀d,JBV j (C.fn b) [d]=(C.fn b [d]).bind F):ev C (.call (b+1+j) (.cons x .nil)) U=((ev C x U).bind λd=>C.fn b [d]).bind F:=by
 simp![ev,evA,g];cases ev C x U with
 |ok d=>exact hF d
 |exc c=>rfl
 |bad=>rfl
end
end VI
end
section
namespace VI
open PySem PySem.Spec PyProof.Rows L2
section
variable{X:Cx}{B:Bs}{C:Cn}{CX:CXT}{XX:Nat->Hp->Prop}{G:Lz}
def JF5(hc:JAU o=false)(hf:methodCallForm (args.length+([]:List Keyword).length) (backTo pos (starEach args env)) (backToKw pos (keywordEach [] env))=true)(hl:(ap.endLine==pos.line)=true) :
  eval (.Call (.Attribute o m ap) args [] pos) env=(do
   let ov<-eval o env
   standAt ap.atName
   let (f,first)<-holding [ov] (getMethod ov m (do return (<-importBound o env).getD true))
   callWith pos f first (backTo pos (starEach args env)) (backToKw pos (keywordEach [] env))):=by
 rw[arm_eval_Call,JAt hc];unfold methodCall;rw[hf,show methodCallPos true o env ap pos=pure pos by unfold methodCallPos;simp[hl]]
 rfl
theorem JB9:∀ {args:List Expr},(∀a∈args,∀es env,starEach (a::es) env=(false,eval a env)::starEach es env)->(backTo pos (starEach args env)).all (λx=>!x.1)=true/\(backTo pos (starEach args env)).any (·.1)=false
 | [],_=>#[rfl,rfl]
 |a::r,h=>by
  obtain⟨i1,i2⟩:=JB9 (pos:=pos) (env:=env) (args:=r) λb hb=>h b (q_s _ hb);rw[h a (List.mem_cons_self ..) r env];exact#[by show(true&&(backTo pos (starEach r env)).all (λx=>!x.1))=true;rw[i1];rfl,by show(false || (backTo pos (starEach r env)).any (·.1))=false;rw[i2];rfl]
def JJN(h:∀a∈args,∀es env,starEach (a::es) env=(false,eval a env)::starEach es env)(hl:¬20<args.length):methodCallForm (args.length+([]:List Keyword).length) (backTo pos (starEach args env)) (backToKw pos (keywordEach [] env))=true:=by
 unfold methodCallForm;rw[(JB9 h).1];show(true&&true&&decide (args.length+0+0<30))=true;rw[decide_eq_true ∅]
 rfl
theorem JJj:∀ {es:List Expr}{y:E},PEs X B C XX es y->(g:Gk X B C CX XX G)->(∀a∈es,∀r env,starEach (a::r) env=(false,eval a env)::starEach r env)->PA X es (RA B C XX y)
 | [],.nil,_,g,_=>PA.imp JBQ λY H Q h_=>by
  obtain⟨U,ok,k⟩:=h_;simp![evA]at k;exact k [] H (Same.refl H) (by simp![DenL])
 |a::r,.cons x y,h,g,hs=>PA.imp (JAz h.1 (JJj h.2 g λb hb=>hs b (q_s _ hb)) (hs a (List.mem_cons_self ..) r X.env)) λY H Q h_=>by
  obtain⟨U,ok,k⟩:=h_;simp![evA]at k;refine RE.of (W:=λr H=>KL B XX r H Q) ok (λ_ _ z=>z) (λ_ z=>z) k λd v H1 s1 d1 h1=>?_;refine RA.of (W:=λr H=>KL B XX r H Q) (ok.mono s1) (λ_ _ z=>z) (λ_ z=>z) (KL.mono g s1 h1) λds vs H2 s2 d2 h2=>?_;exact h2 (v::vs) H2 s2 (by simp![DenL];exact#[v,vs,rfl,Den.mono s2 _ _ d1,d2])
def JMU{i:Nat}:ev C (.call i (.cons x .nil)) U=(ev C x U).bind λd=>C.fn i [d]:=by
 simp![ev,evA];cases ev C x U<;>rfl
def JEh{d o:Expr}{b:Nat}(h:ownF G d=some (o,b)):∃f p,d=.Attribute o f p/\JAU o=false/\G.lookup f=some (.rco b):=by
 unfold ownF at h
 split at h
 ·split at h
  ·cases h
  ·rename_i hc
   split at h
   ·rename_i hl;cases h;exact#[_,_,rfl,by simpa using hc,hl]
   ·cases h
 ·cases h
def JJl{i:Nat}:ev C (.call i (.cons x (.cons y .nil))) U=(ev C x U).bind λd=>(ev C y U).bind λe=>C.fn i [d,e]:=by
 simp![ev,evA];cases ev C x U with
 |ok d=>cases ev C y U<;>rfl
 |exc c=>rfl
 |bad=>rfl
abbrev dcO(t:D):R D:=match t with
 |.dict _=>.ok t
 |_=>.bad
def JJY{b i j:Nat}{Q:VK}{F:D->D->R D}(h6:C.fn (b+7)=JBV 6 (C.fn b))(hj:C.fn i=JBV j (C.fn b))(hF:∀d e t,C.fn b [d]=.ok t->JBV j (C.fn b) [d,e]=F t e)(k:KE B XX (ev C (mkM (i,some (b+7)) (.cons x (.cons y .nil))) U) H Q) :
  KE B XX (((ev C x U).bind λd=>C.fn b [d]).bind λt=>(dcO t).bind λt=>(ev C y U).bind (F t)) H Q:=by
 rw[show mkM (i,some (b+7)) (.cons x (.cons y .nil))=.call i (.cons (.call (b+7) (.cons x .nil)) (.cons y .nil)) from rfl,JJl,JMU,h6,hj]at k;cases q1:ev C x U with
 |exc c=>rw[q1]at k;exact k
 |bad=>rw[q1]at k;exact k
 |ok d =>
  rw[q1]at k;simp![R.bind,JBV,ow1,ow2]at k ⊢;cases q2:C.fn b [d] with
  |exc c=>rw[q2]at k;exact k
  |bad=>rw[q2]at k;exact k
  |ok t =>
   rw[q2]at k;cases t<;>first|exact fF k|skip
   simp![dcO]at k ⊢;cases q3:ev C y U with
   |exc c=>rw[q3]at k;exact k
   |bad=>rw[q3]at k;exact k
   |ok e=>rw[q3]at k;simp only at k ⊢;rw[<-hF d e _ q2];exact k
abbrev ixO(t e:D):R D:=match t,e with
 |.dict kvs,.str k=>getK kvs k
 |_,_=>.bad
abbrev geO(t e:D):R D:=match t,e with
 |.dict kvs,.str k=>getD kvs k .none
 |_,_=>.bad
theorem JKV:∀ {kvs:List (D×D)}{xs:List (Key×V)},DenK B H kvs xs->∃d,getD kvs k .none=.ok d/\Den B H d (((xs.find? λp=>p.1=Sum.inr k).map (·.2)).getD .non)
 | [],xs,h=>by simp![DenK]at h;subst h;exact#[.none,rfl,by simp![Den];rfl]
 |(z,d)::r,xs,h=>by
  simp![DenK]at h;obtain⟨y,v,r',rfl,rfl,h1,h2⟩:=h;simp![getD,List.find?_cons]
  by_cases e:y=k
  · subst e;exact#[d,by simp,by simpa using h1]
  · have:¬((Sum.inr y:Key)=Sum.inr k):=λz=>e (Sum.inr.inj z)
    simpa[e,this] using JKV h2
theorem OwnHO.mono{l:Addr}(s:Same H H')(h:OwnHO B H l t o):OwnHO B H' l t o:=by
 cases t<;>first|exact fF h|skip
 ·obtain⟨xs,e,q⟩:=h;exact#[xs,e,DenL.mono s _ _ q]
 ·obtain⟨xs,e,q⟩:=h;exact#[xs,e,DenK.mono s _ _ q]
def JJi(g:Gk X B C CX XX G){b i:Nat}{n:Bool}{a d:Expr}(ho:OpR X (compareOp op) r)(hr:∀(l:Addr) (ys:List (Key×V)) (k:Str) (H:Hp) (Q:VK),H l=some (.dK ys)->Q (.bl ((ys.find? λp=>p.1=Sum.inr k).isSome != n)) H->r (.str k) (.ref l) H Q)(hm:behindInMarks op d=false)
  (hi:∀e d,C.fn i [e,d]=(C.fn b [d]).bind (inO n e)) (ha:PE X a (RE B C XX y)) (hd:PE X d (ROw B C XX b x)):PE X (.Compare a [op] [d] pos) (RE B C XX (.call i (.cons y (.cons x .nil))))/\PT X (.Compare a [op] [d] pos) (RT B C XX (.call i (.cons y (.cons x .nil)))):=by
 have key:∀Y H Q,RE B C XX (.call i (.cons y (.cons x .nil))) Y H Q->tOp r (RE B C XX y) (ROw B C XX b x) Y H Q:=λY H Q h_=>by
  obtain⟨U,ok,k⟩:=h_;rw[JJl]at k;refine RE.of (W:=λr H=>KE B XX r H Q) ok (λ_ _ z=>z) (λ_ z=>z) k λe v H1 s1 d1 h1=>?_;have h2:KE B XX (((ev C x U).bind λd=>C.fn b [d]).bind (inO n e)) H1 Q:=by
    have h1:=KE.mono g s1 h1;cases q1:ev C x U with
    |ok d=>rw[q1]at h1;simp![R.bind,hi]at h1 ⊢;exact h1
    |exc c=>rw[q1]at h1;exact h1
    |bad=>rw[q1]at h1;exact h1
  refine KO.of g (ok.mono s1) h2 λt l o H2 s2 e1 e2 k2=>?_;cases t with
  |dict kvs =>
    cases e with
    |str k =>
     obtain⟨ys,rfl,dk⟩:=e2;simp![Den]at d1;subst d1;exact hr l ys k H2 Q e1 (by rw[<-JDy dk];exact KE.ok k2 (by simp![Den]))
    |_=>exact fF k2
  |_=>exact fF k2
 refine#[PE.imp (JKF ho ha hd hm) key,JMB op (JGe ho ha hd hm) key (λU=>by simp![evT,ev]) λU d q=>?_]
 rw[JJl]at q;cases q1:ev C y U with
 |ok e =>
  rw[q1]at q;cases q2:ev C x U with
  |ok d' =>
    rw[q2]at q;simp![R.bind,hi]at q;cases q3:C.fn b [d'] with
    |ok t =>
     rw[q3]at q;cases t<;>first|(cases q;done)|skip
     cases e<;>first|(cases q;done)|skip
     cases q;exact#[_,rfl]
    |exc c=>rw[q3]at q;cases q
    |bad=>rw[q3]at q;cases q
  |exc c=>rw[q2]at q;cases q
  |bad=>rw[q2]at q;cases q
 |exc c=>rw[q1]at q;cases q
 |bad=>rw[q1]at q;cases q
def r_rcd:RcOk B C CX G:=by
 intro X XX g e q args y h hp hs;have tr:∀ {e:Expr}{q:Nat×Option Nat}{y:E},(∀whole,isTrue e X.env whole=(do let v<-whole;standAt e.pos;holding [v] (truthy v)))->PE X e (RE B C XX (mkM q y))->PE X e (RE B C XX (mkM q y))/\PT X e (RT B C XX (mkM q y)):=λ{e q y} h2 h1=>#[h1,JI2 g h1 h2 λU=>by obtain⟨z,hz⟩:=JHG q y;rw[hz];simp![evT,ev]]
 unfold mRaw at h
 split at h
 ·rename_i nm p a pos
  replace h:=q_a.mp h
  obtain⟨⟨o,b⟩,h1,h⟩:=h;obtain⟨f,p1,rfl,hc,hf⟩:=JEh h1;have hO:=(g.own f b hf).1;unfold ownN at h
  split at h
  ·rename_i hg;obtain⟨rfl,hg⟩:=hg;cases h;obtain⟨x,z,rfl,hp1,hp2⟩:=PEs.one hp;cases PEs.no hp2;obtain⟨b1,b2,b3⟩:=JA9 hg;refine tr (λ_=>rfl) (PE.imp (JCV JNw (JBl rfl b2) (g.blt _ _ b3) PySem.boot_len (JAz (JEM g hf hc hp1) JBQ rfl)) λY H Q h_=>?_);obtain⟨U,ok,k⟩:=h_;have k:KE B XX (ev C (.call (b+1+0) (.cons x .nil)) U) H Q:=k;rw[own_one (hO 0 ∅) λd=>rfl]at k
   refine KO.of g ok k λt l o H1 s1 e1 e2 k1=>?_;cases t with
   |list ds =>
    obtain⟨xs,rfl,dl⟩:=e2;exact#[l,xs,rfl,e1,KE.ok k1 (by simp![Den];rw[DenL.len ds xs dl])]
   |_=>exact fF k1
  ·split at h
   ·rename_i hg;obtain⟨rfl,hg,hh⟩:=hg;cases h;obtain⟨x,z,rfl,hp1,hp2⟩:=PEs.one hp;cases PEs.no hp2;obtain⟨b1,b2,b3⟩:=JA9 hg;have hcalm:X.calm=true:=g.calm (JEs (by rw[hh];simp))
    refine tr (λ_=>rfl) (PE.imp (JCV (JF4 hcalm) (JBl rfl b2) (g.nam _ b3) (by rfl) (JAz (JEM g hf hc hp1) JBQ rfl)) λY H Q h_=>?_)
    obtain⟨U,ok,k⟩:=h_;have k:KE B XX (ev C (.call (b+1+5) (.cons x .nil)) U) H Q:=k;rw[own_one (hO 5 ∅) λd=>rfl]at k
    refine KO.of g ok k λt l o H1 s1 e1 e2 k1=>?_;cases t with
    |dict kvs =>
     obtain⟨xs,rfl,dl⟩:=e2;simp![srtS]at k1
     split at k1
     case h_2=>exact fF k1
     rename_i zs hz
     split at k1
     case isFalse=>exact fF k1
     rename_i hl;refine#[l,xs,zs,rfl,.inl e1,JED (zs:=zs) dl hz,hl,λp hp=>?_];refine k1 _ _ (JAq hp) ?_;simp![Den];exact#[p,_,rfl,SqL.of JAF,JDq]
    |_=>exact fF k1
   ·cases h
 ·rename_i a op d pos
  replace h:=q_a.mp h
  obtain⟨⟨o,b⟩,h1,h⟩:=h;obtain⟨f,p1,rfl,hc,hf⟩:=JEh h1;have hO:=(g.own f b hf).1;unfold ownC at h
  split at h
  ·cases h;obtain⟨y,z,rfl,hp1,hp2⟩:=PEs.one hp;obtain⟨x,z,rfl,hp3,hp4⟩:=PEs.one hp2;cases PEs.no hp4;refine JJi g (n:=false) dk_in (λl ys k H Q e q=>#[l,ys,k,rfl,rfl,e,by simpa using q]) rfl (λe d=>?_) hp1 (JEM g hf hc hp3)
   show C.fn (b+1+1) _=_;rw[hO 1 ∅]
   rfl
  ·cases h;obtain⟨y,z,rfl,hp1,hp2⟩:=PEs.one hp;obtain⟨x,z,rfl,hp3,hp4⟩:=PEs.one hp2;cases PEs.no hp4;refine JJi g (n:=true) JLz (λl ys k H Q e q=>#[l,ys,k,rfl,rfl,e,by simpa using q]) rfl (λe d=>?_) hp1 (JEM g hf hc hp3)
   show C.fn (b+1+2) _=_;rw[hO 2 ∅]
   rfl
  ·cases h
 ·rename_i d k pos
  split at h
  ·cases h
  rename_i hsl
  replace h:=q_d.mp h
  obtain⟨⟨o,b⟩,h1,h⟩:=h;obtain⟨f,p1,rfl,hc,hf⟩:=JEh h1;have hO:=(g.own f b hf).1;cases h;obtain⟨x,z,rfl,hp1,hp2⟩:=PEs.one hp;obtain⟨y,z,rfl,hp3,hp4⟩:=PEs.one hp2;cases PEs.no hp4;refine tr (λ_=>rfl) (PE.imp (JRT dk_ix (JEM g hf hc hp1) hp3 (JIj (by simpa using hsl))) λY H Q h_=>?_)
  obtain⟨U,ok,k⟩:=h_;have k:=JJY (i:=b+4) (j:=3) (F:=ixO) (hO 6 ∅) (hO 3 ∅) (λd e t q=>by cases e<;>first|rfl|(simp![JBV,ow1,ow2,q,R.bind];cases t<;>rfl)|(cases t<;>rfl)) k
  refine KO.of g ok k λt l o H1 s1 e1 e2 k1=>?_;cases t with
  |dict kvs =>
   refine RE.of (W:=λr H=>KE B XX r H Q) (ok.mono s1) (λ_ _ z=>z) (λ_ z=>z) k1 λe v H2 s2 d2 h2=>?_;have h3:=KE.mono g s2 h2;cases e with
   |str k =>
    obtain⟨xs,rfl,dl⟩:=e2.mono s2;simp![Den]at d2;subst d2;have h3:KE B XX (getK kvs k) H2 Q:=h3;cases qk:getK kvs k with
    |ok d =>
     rw[qk]at h3;obtain⟨w,f1,f2⟩:=JCb dl qk;exact#[l,xs,k,w,rfl,rfl,s2 _ _ e1,f1,KE.ok h3 f2]
    |exc c=>exact(JDV qk).elim
    |bad=>rw[qk]at h3;exact fF h3
   |_=>exact fF h3
  |_=>exact fF k1
 ·rename_i o f p
  split at h
  ·cases h
  rename_i hc
  split at h
  ·rename_i i hj;cases h;obtain⟨x,z,rfl,hp1,hp2⟩:=PEs.one hp;cases PEs.no hp2
   ·refine tr (λ_=>rfl) (PE.imp (JEf hp1 (JAt (by simpa using hc) _ _ _)) λY H Q h_=>?_)
    obtain⟨U,ok,k⟩:=h_;rw[show mkM (i,none) (.cons x .nil)=.call i (.cons x .nil) from rfl,JMU]at k;refine RE.of (W:=λr H=>KE B XX r H Q) ok (λ_ _ z=>z) (λ_ z=>z) k λd v H1 s1 d1 h1=>?_;have z:=g.fld f i hj H1 [d] [v] (by simp![DenL];exact#[v,[],rfl,d1,rfl])
    cases q:C.fn i [d] with
    |bad=>rw[q]at h1;exact fF h1
    |exc c=>rw[q]at z;exact z.elim
    |ok d' =>
     rw[q]at h1 z;obtain⟨a,Cc,dx,fs,u,e1,e2,e3,e4,e5,e6⟩:=z;cases e1;exact#[a,Cc,dx,fs,u,rfl,e2,e3,e4,e5,KE.ok (KE.mono g s1 h1) e6]
  ·cases h
 ·rename_i o m ap as cp
  split at h
  ·cases h
  rename_i hc;have ho:JAU o=false:=by
   cases q:JAU o with
   |false=>rfl
   |true=>exact absurd (.inl q) hc
  have hl:(ap.endLine==cp.line)=true:=by
   cases q:(ap.endLine==cp.line) with
   |true=>rfl
   |false=>exact absurd (.inr (.inl q)) hc
  split at h
  ·rename_i q2 hq;obtain⟨o2,b⟩:=q2;unfold ownG at hq
   split at hq
   case isFalse=>cases hq
   rename_i hm;subst hm;obtain⟨f,p1,rfl,hc3,hf⟩:=JEh hq;have hO:=(g.own f b hf).1;unfold ownA at h
   split at h
   case h_2=>cases h
   rename_i kk;cases h;obtain⟨x,z,rfl,hp1,hp2⟩:=PEs.one hp;obtain⟨y,z,rfl,hp3,hp4⟩:=PEs.one hp2;cases PEs.no hp4;have hs1:starEach [kk] X.env=[(false,eval kk X.env)]:=hs kk (by simp) [] X.env
   refine tr (λ_=>rfl) (PE.imp (JNg PySem.F.plainAttrs_dict PySem.F.slot_dict_get PySem.F.type_dict_get JSM (JEM g hf hc3 hp1) (JAz hp3 JBQ hs1) rfl (by rw[hs1];rfl) hl hs1 rfl) λY H Q h_=>?_)
   obtain⟨U,ok,k⟩:=h_;have k:=JJY (i:=b+5) (j:=4) (F:=geO) (hO 6 ∅) (hO 4 ∅) (λd e t q=>by cases e<;>first|rfl|(simp![JBV,ow1,ow2,q,R.bind];cases t<;>rfl)|(cases t<;>rfl)) k
   refine KO.of g ok k λt l o H1 s1 e1 e2 k1=>?_;cases t with
   |dict kvs =>
    obtain⟨xs,rfl,dl⟩:=e2;refine#[.inr (.inr (.inl #[rfl,.inl #[xs,e1]])),RE.of (W:=λr H=>KE B XX r H Q) (ok.mono s1) (λ_ _ z=>z) (λ_ z=>z) k1 λe v H2 s2 d2 h2=>?_];have h3:=KE.mono g s2 h2;cases e with
    |str k =>
     simp![Den]at d2;subst d2;have h3:KE B XX (getD kvs k .none) H2 Q:=h3;obtain⟨d,f1,f2⟩:=JKV (k:=k) (DenK.mono s2 _ _ dl);rw[f1]at h3;exact#[l,xs,k,_,rfl,rfl,s2 _ _ e1,rfl,KE.ok h3 f2]
    |_=>exact fF h3
   |_=>exact fF k1
  split at h
  ·rename_i i j hj;cases h;obtain⟨x,y,rfl,hp1,hp2⟩:=PEs.one hp
   ·refine tr (λ_=>rfl) ?_;have hn:¬20<as.length:=λz=>hc (.inr (.inr z));have hs':∀a∈as,∀es env,starEach (a::es) env=(false,eval a env)::starEach es env:=λa ha=>hs a (q_s _ ha);have ht:=JF5 (env:=X.env) (m:=m) ho (JJN (pos:=cp) (env:=X.env) hs' hn) hl;have kk:∀ {Y:St}{H:Hp}{Q:VK}{U:Env},KE B XX (ev C (mkM (i,some j) (.cons x y)) U) H Q->KE B XX ((ev C x U).bind λd=>(C.fn j [d]).bind λd=>(evA C y U).bind λds=>C.fn i (d::ds)) H Q:=λ{Y H Q U} k=>by
     rw[show mkM (i,some j) (.cons x y)=.call i (.cons (.call j (.cons x .nil)) y) from rfl]at k;simp![ev,evA]at k;cases q1:ev C x U with
     |ok d =>
      rw[q1]at k;simp![R.bind]at k ⊢;cases q2:C.fn j [d] with
      |ok d2 =>
       rw[q2]at k;simp only at k ⊢;cases q3:evA C y U<;>(rw[q3]at k;exact k)
      |exc c=>rw[q2]at k;exact k
      |bad=>rw[q2]at k;exact k
     |exc c=>rw[q1]at k;exact k
     |bad=>rw[q1]at k;exact k
    rcases g.mth m i j hj with hb|⟨Cc,f,fd,ps,k,c1,c2,c3,c4,c5,c6,c7⟩
    ·rintro zp s Y H Q I ⟨U,ok,k⟩;have k:=kk (Y:=Y) k;refine PySem.W.methodCall_KW (pl:=do return (<-importBound o X.env).getD true) (thn (hp1 zp s Y H (λ_ _=>False) I #[U,ok,?_]) λu s1 ⟨_,_,_,_,z⟩=>z.elim) ht
     cases q1:ev C x U with
     |ok d=>rw[q1]at k;simp![R.bind,hb]at k;exact fF k
     |exc c=>rw[q1]at k;exact k
     |bad=>rw[q1]at k;exact k
    ·have rcv:∀ {Y:St}{H:Hp}{Q:VK}(T:TA) {U:Env},Sok B Y H U->KE B XX ((ev C x U).bind λd=>(C.fn j [d]).bind λd=>(evA C y U).bind λds=>C.fn i (d::ds)) H Q ->
       (∀d v H1,Same H H1->Den B H1 d v->KE B XX ((evA C y U).bind λds=>C.fn i (d::ds)) H1 Q->T Y H1 λvs H2=>JBR B ps.length (C.fn i) (v::(vs++[])) H2 Q (EX B XX))->JKp Cc m (JBR B ps.length (C.fn i)) [] (EX B XX) (RE B C XX x) T Y H Q:=λ{Y H Q} T {U} ok k go=>by
      refine RE.of (W:=λr H=>KE B XX r H Q) ok (λ_ _ z=>z) (λ_ z=>z) k λd v H1 s1 d1 h1=>?_;have z:=c7 H1 d v d1;have h2:=KE.mono g s1 h1;clear h1;cases q:C.fn j [d] with
      |bad=>rw[q]at h2;exact fF h2
      |exc c=>rw[q]at z;exact z.elim
      |ok d' =>
       rw[q]at h2 z;obtain⟨e0,a,dx,fs,e1,e2,e3⟩:=z;rw[e0]at h2;exact#[a,dx,fs,e1,e2,e3,go _ v H1 s1 d1 h2]
     cases as with
     |nil =>
      cases PEs.no hp2
      ·refine PE.imp (JHe hp1 c1 c2 c3 c4 c5 .nil g.pas ht) λY H Q h_=>?_;obtain⟨U,ok,k⟩:=h_;refine rcv tNil ok (kk (Y:=Y) k) λd v H1 s1 d1 h1=>?_;simp![evA,R.bind]at h1;exact JGZ g (c6 [d]) (by simp![DenL];exact#[v,[],rfl,d1,rfl]) h1
     |cons a r =>
      refine PE.imp (JIY hp1 c1 c2 c3 c4 c5 .nil g.pas (JJj hp2 g hs') (hs' a (List.mem_cons_self ..) r X.env) (JB9 λb hb=>hs' b (q_s _ hb)).2 ht) λY H Q h_=>?_;obtain⟨U,ok,k⟩:=h_;refine rcv (RA B C XX y) ok (kk (Y:=Y) k) λd v H1 s1 d1 h1=>?_;refine RA.of (W:=λr H=>KE B XX r H Q) (ok.mono s1) (λ_ _ z=>z) (λ_ z=>z) h1 λds vs H2 s2 d2 h2=>?_;rw[List.append_nil];exact JGZ g (c6 (d::ds)) (by simp![DenL];exact#[v,vs,rfl,Den.mono s2 _ _ d1,d2]) (KE.mono g s2 h2)
  ·cases h
 ·cases h
end
end VI
end
section
namespace VI
open PySem PySem.Spec PyProof.Rows L2
section
variable{κ:Kl}{B:Bs}{XX:Nat->Hp->Prop}{ρ ρ1:Tb}{H H1:Hp}
def K3(κ:Kl)(B:Bs)(XX:Nat->Hp->Prop)(ρ:Tb)(H:Hp){α:Type}(P:α->Tb->Hp->Prop):R3 α->Prop
 |.ok a π'=>∀ρ' H',StepR κ B ρ H ρ' H'->pi ρ'=π'->P a ρ' H'
 |.exc c π'=>∀ρ' H',StepR κ B ρ H ρ' H'->pi ρ'=π'->XX c H'
 |.bad=>False
def K3.step{α:Type}{P:α->Tb->Hp->Prop}{r:R3 α}(s:StepR κ B ρ H ρ1 H1)(h:K3 κ B XX ρ H P r):K3 κ B XX ρ1 H1 P r:=by
 cases r with
 |ok a π=>exact λρ' H' s' e=>h ρ' H' (s.trans s') e
 |exc c π=>exact λρ' H' s' e=>h ρ' H' (s.trans s') e
 |bad=>exact h
def PV(κ:Kl)(B:Bs)(Q:VK):D->Tb->Hp->Prop:=λd ρ H=>∀v,Den (JAB κ B ρ) H d v->Q v H
def PB(Q:Bool->Hp->Prop):Bool->Tb->Hp->Prop:=λb _ H=>Q b H
abbrev stSp(κ:Kl)(B:Bs)(n:Nat)(fn:List D->Ta->R3 D):Sp:=λvs H Q E=>vs.length=n/\∃ρ ds,Recs κ B ρ H/\DenL (JAB κ B ρ) H ds vs/\K3 κ B (λc H=>E (.ref (B.cl c)) none H) ρ H (PV κ B Q) (fn ds (pi ρ))
variable{X:Cx}{C:Ta->Cn}{f3:F3}{CX:CXT}{G:Lz}
def RE3(κ:Kl)(B:Bs)(C:Ta->Cn)(f3:F3)(XX:Nat->Hp->Prop)(x:V3):TE:=λY H Q=>∃ρ U,Recs κ B ρ H/\Sok (JAB κ B ρ) Y H U/\K3 κ B XX ρ H (PV κ B Q) (ev3 C f3 U x (pi ρ))
def RT3(κ:Kl)(B:Bs)(C:Ta->Cn)(f3:F3)(XX:Nat->Hp->Prop)(x:T3):TT:=λY H Q=>∃ρ U,Recs κ B ρ H/\Sok (JAB κ B ρ) Y H U/\K3 κ B XX ρ H (PB Q) (evT3 C f3 U x (pi ρ))
section
variable{α β:Type}{P:β->Tb->Hp->Prop}{Y:St}{U:Env}{e:E}
def r3_E{Q:VK}{F:D->Ta->R3 β}(al:Recs κ B ρ H)(ok:Sok (JAB κ B ρ) Y H U)(k:K3 κ B XX ρ H P (((ev (C (pi ρ)) e U).at (pi ρ)).bind F))(go:∀d v H1,Same H H1->Den (JAB κ B ρ) H1 d v->K3 κ B XX ρ H1 P (F d (pi ρ))->Q v H1):RE (JAB κ B ρ) (C (pi ρ)) XX e Y H Q:=by
 refine#[U,ok,?_];cases q:ev (C (pi ρ)) e U with
 |ok d=>rw[q]at k;exact λv H1 s1 d1=>go d v H1 s1 d1 (K3.step (.same al s1) k)
 |exc c=>rw[q]at k;exact k ρ H (.same al (Same.refl H)) rfl
 |bad=>rw[q]at k;exact k.elim
def r3_T{Q:Bool->Hp->Prop}{F:Bool->Ta->R3 β}(al:Recs κ B ρ H)(ok:Sok (JAB κ B ρ) Y H U)(k:K3 κ B XX ρ H P (((evT (C (pi ρ)) e U).at (pi ρ)).bind F))(go:∀b H1,Same H H1->K3 κ B XX ρ H1 P (F b (pi ρ))->Q b H1):RT (JAB κ B ρ) (C (pi ρ)) XX e Y H Q:=by
 refine#[U,ok,?_];cases q:evT (C (pi ρ)) e U with
 |ok d=>rw[q]at k;exact λH1 s1=>go d H1 s1 (K3.step (.same al s1) k)
 |exc c=>rw[q]at k;exact k ρ H (.same al (Same.refl H)) rfl
 |bad=>rw[q]at k;exact k.elim
def r3_A{Q:List V->Hp->Prop}{F:List D->Ta->R3 β}(al:Recs κ B ρ H)(ok:Sok (JAB κ B ρ) Y H U)(k:K3 κ B XX ρ H P (((evA (C (pi ρ)) e U).at (pi ρ)).bind F))(go:∀ds vs H1,Same H H1->DenL (JAB κ B ρ) H1 ds vs->K3 κ B XX ρ H1 P (F ds (pi ρ))->Q vs H1):RA (JAB κ B ρ) (C (pi ρ)) XX e Y H Q:=by
 refine#[U,ok,?_];cases q:evA (C (pi ρ)) e U with
 |ok d=>rw[q]at k;exact λv H1 s1 d1=>go d v H1 s1 d1 (K3.step (.same al s1) k)
 |exc c=>rw[q]at k;exact k ρ H (.same al (Same.refl H)) rfl
 |bad=>rw[q]at k;exact k.elim
def r3_V{Q:VK}{x:V3}{F:D->Ta->R3 β}(al:Recs κ B ρ H)(ok:Sok (JAB κ B ρ) Y H U)(k:K3 κ B XX ρ H P ((ev3 C f3 U x (pi ρ)).bind F))(go:∀d v ρ' H',StepR κ B ρ H ρ' H'->Den (JAB κ B ρ') H' d v->K3 κ B XX ρ' H' P (F d (pi ρ'))->Q v H'):RE3 κ B C f3 XX x Y H Q:=by
 refine#[ρ,U,al,ok,?_];cases q:ev3 C f3 U x (pi ρ) with
 |ok d π=>rw[q]at k;exact λρ' H' s e v dn=>go d v ρ' H' s dn (by rw[e];exact K3.step s k)
 |exc c π=>rw[q]at k;exact k
 |bad=>rw[q]at k;exact k.elim
def r3_B{Q:Bool->Hp->Prop}{x:T3}{F:Bool->Ta->R3 β}(al:Recs κ B ρ H)(ok:Sok (JAB κ B ρ) Y H U)(k:K3 κ B XX ρ H P ((evT3 C f3 U x (pi ρ)).bind F))(go:∀b ρ' H',StepR κ B ρ H ρ' H'->K3 κ B XX ρ' H' P (F b (pi ρ'))->Q b H'):RT3 κ B C f3 XX x Y H Q:=by
 refine#[ρ,U,al,ok,?_];cases q:evT3 C f3 U x (pi ρ) with
 |ok d π=>rw[q]at k;exact λρ' H' s e=>go d ρ' H' s (by rw[e];exact K3.step s k)
 |exc c π=>rw[q]at k;exact k
 |bad=>rw[q]at k;exact k.elim
end
def JNC{e:Expr}(he:∀ρ,PE X e (RE (JAB κ B ρ) (C (pi ρ)) XX x)):PE X e (RE3 κ B C f3 XX (.pur x)):=λzp s Y H Q I ⟨ρ,U,al,ok,k⟩=>he ρ zp s Y H Q I (by
 refine#[U,ok,?_];simp![ev3]at k;cases q:ev (C (pi ρ)) x U with
 |ok d=>rw[q]at k;exact λv H1 s1 d1=>k ρ H1 (.same al s1) rfl v d1
 |exc c=>rw[q]at k;exact k ρ H (.same al (Same.refl H)) rfl
 |bad=>rw[q]at k;exact k.elim)
def JS7{e:Expr}(he:∀ρ,PT X e (RT (JAB κ B ρ) (C (pi ρ)) XX x)):PT X e (RT3 κ B C f3 XX (.pur x)):=λzp s Y H Q I ⟨ρ,U,al,ok,k⟩=>he ρ zp s Y H Q I (by
 refine#[U,ok,?_];simp![evT3]at k;cases q:evT (C (pi ρ)) x U with
 |ok d=>rw[q]at k;exact λH1 s1=>k ρ H1 (.same al s1) rfl
 |exc c=>rw[q]at k;exact k ρ H (.same al (Same.refl H)) rfl
 |bad=>rw[q]at k;exact k.elim)
def JLE{n:Nat}{Q:VK}(hn:∀π,fn ds π≠.bad->ds.length=n)(al:Recs κ B ρ H)(dn:DenL (JAB κ B ρ) H ds vs)(k:K3 κ B XX ρ H (PV κ B Q) (fn ds (pi ρ))):stSp κ B n fn vs H Q (EX B XX):=by
 have hb:fn ds (pi ρ)≠.bad:=λz=>by rw[z]at k;exact k
 refine#[by rw[<-DenL.len ds vs dn];exact hn _ hb,ρ,ds,al,dn,?_]
 cases q:fn ds (pi ρ) with
 |ok d π=>rw[q]at k;exact k
 |exc c π=>rw[q]at k;exact λρ' H' s' e=>#[c,rfl,k ρ' H' s' e]
 |bad=>exact(hb q).elim
inductive GK3 where
 |fn (i:Nat)|met (i:Nat)|mak (i:Nat)|tld (cg:Nat) (fdc:Fd)
structure Gk3(X:Cx)(κ:Kl)(B:Bs)(C:Ta->Cn)(f3:F3)(CX:CXT)(XX:Nat->Hp->Prop)(G:Lz)(L:List (Str×GK3)):Prop where
 g:∀ρ,Gk X (JAB κ B ρ) (C (pi ρ)) CX XX G
 cls:Cls X.K κ.C
 fn:∀x i,L.lookup x=some (.fn i)->∃f fd ps k,X.mg x=some (.ref f)/\PySem.W.keepIn X.K (.ref f)=true/\FnOk X.prog X.w X.K X.mg X.base CX k f fd ps (stSp κ B ps.length (f3 i))/\Room k X.A/\Binds X.K fd ps []/\∀ds π,f3 i ds π≠.bad->ds.length=ps.length
 met:∀m i,L.lookup m=some (.met i)->∃f fd ps k,Meth X.K κ.C m f/\FnOk X.prog X.w X.K X.mg X.base CX k f fd ps (stSp κ B ps.length (f3 i))/\Room k X.A/\Binds X.K fd ps []/\∀ds π,f3 i ds π≠.bad->ds.length=ps.length
 mak:∀x i,L.lookup x=some (.mak i)->X.mg x=some (.ref κ.C)/\∃f fd ps k,Mk X.K κ.C f/\FnOk X.prog X.w X.K X.mg X.base CX k f fd ps (stSp κ B ps.length (f3 i))/\Room (k+1) X.A/\Binds X.K fd ps []/\∀ds π,f3 i ds π≠.bad->ds.length=ps.length
variable{L:List (Str×GK3)}
def JQu(g:Gk3 X κ B C f3 CX XX G L){i:Nat}{e:Expr}(hg:Gl X nm)(hl:L.lookup nm=some (.fn i))(hb:JAT nm=false)(ha:∀ρ,PA X (e::r) (RA (JAB κ B ρ) (C (pi ρ)) XX x))(hs:starEach (e::r) X.env=(false,eval e X.env)::starEach r X.env)(hpl:(backTo pos (starEach r X.env)).any (·.1)=false) :
  PE X (.Call (.Name nm p) (e::r) [] pos) (RE3 κ B C f3 XX (.cal i x)):=by
 obtain⟨f,fd,ps,k,w1,w2,w3,w4,w5,w6⟩:=g.fn nm i hl;rintro zp s Y H Q I ⟨ρ,U,al,ok,kk⟩;refine JKQ w3 w4 hg w1 w2 w5 .nil (g.g ρ).pas (ha ρ) (JAE hb).1 hs hpl zp s Y H Q I ?_;simp![ev3]at kk;refine r3_A al ok kk λds vs H1 s1 d1 h1=>?_;rw[List.append_nil];exact JLE (λπ=>w6 ds π) (al.mono s1) d1 h1
def JLM{d:D}{F:D->Ta->R3 D}(k:K3 κ B XX ρ H P (((chkD (pi ρ) m [d]).at (pi ρ)).bind F))(dn:Den (JAB κ B ρ) H d v):(∃a dx fs,v=.ref a/\H a=some (.ins κ.C dx fs)/\fs.lookup m=none)/\K3 κ B XX ρ H P (F d (pi ρ)):=by
 simp![chkD]at k;cases q:recF (pi ρ) d with
 |none=>rw[q]at k;exact k.elim
 |some z =>
  rw[q]at k;simp only at k;unfold recF at q;obtain⟨n,hn,q⟩:=q_a.mp q;obtain⟨c,hc,rfl⟩:=q_d.mp q;obtain⟨p,fs,e1,e2,r⟩:=JEE hn dn;rw[JFM e1]at hc;cases hc
  split at k
  ·rename_i hm;exact#[#[p.1.a,p.1.dx,fs,e2,r.ins,r.non m (by simpa using hm)],k]
  ·exact k.elim
def JTI(g:Gk3 X κ B C f3 CX XX G L){i:Nat}(hl:L.lookup m=some (.met i))(ho:JAU o=false)(hli:(ap.endLine==cp.line)=true)(hn:¬20<as.length)(h0:as=[]->y=.nil)(hx:∀ρ,PE X o (RE (JAB κ B ρ) (C (pi ρ)) XX x))(ha:∀ρ,PA X as (RA (JAB κ B ρ) (C (pi ρ)) XX y))
  (hs:∀a∈as,∀es env,starEach (a::es) env=(false,eval a env)::starEach es env):PE X (.Call (.Attribute o m ap) as [] cp) (RE3 κ B C f3 XX (.met i m x y)):=by
 obtain⟨f,fd,ps,k,w2,w3,w4,w5,w6⟩:=g.met m i hl;have ht:=JF5 (env:=X.env) (m:=m) ho (JJN (pos:=cp) (env:=X.env) hs hn) hli;rintro zp s Y H Q I ⟨ρ,U,al,ok,kk⟩;simp![ev3]at kk;have go:∀T:TA,(∀ {H1:Hp}{d:D}{v:V},Same H H1->Den (JAB κ B ρ) H1 d v->K3 κ B XX ρ H1 (PV κ B Q) (((evA (C (pi ρ)) y U).at (pi ρ)).bind λds π=>f3 i (d::ds) π)->T Y H1 λvs H2=>stSp κ B ps.length (f3 i) (v::(vs++[])) H2 Q (EX B XX))->JKp κ.C m (stSp κ B ps.length (f3 i)) [] (EX B XX) (RE (JAB κ B ρ) (C (pi ρ)) XX x) T Y H Q:=λT hT=>by
  refine r3_E al ok kk λd v H1 s1 d1 h1=>?_;obtain⟨⟨a,dx,fs,e1,e2,e3⟩,h2⟩:=JLM h1 d1;exact#[a,dx,fs,e1,e2,e3,hT s1 d1 h2]
 cases as with
 |nil =>
  refine JHe (hx ρ) g.cls w2 w3 w4 w5 .nil (g.g ρ).pas ht zp s Y H Q I (go tNil λ{H1 d v} s1 d1 h1=>?_);rw[h0 rfl]at h1;simp![evA,R.at,R3.bind]at h1;exact JLE (λπ=>w6 [d] π) (al.mono s1) (by simp![DenL];exact#[v,[],rfl,d1,rfl]) h1
 |cons a r =>
  refine JIY (hx ρ) g.cls w2 w3 w4 w5 .nil (g.g ρ).pas (ha ρ) (hs a (List.mem_cons_self ..) r X.env) (JB9 λb hb=>hs b (q_s _ hb)).2 ht zp s Y H Q I (go _ λ{H1 d v} s1 d1 h1=>?_);refine r3_A (al.mono s1) (ok.mono s1) h1 λds vs H2 s2 d2 h2=>?_;rw[List.append_nil];exact JLE (λπ=>w6 (d::ds) π) ((al.mono s1).mono s2) (by simp![DenL];exact#[v,vs,rfl,Den.mono s2 _ _ d1,d2]) h2
def JLO(al:Recs κ B ρ H){x dx:Addr}(hx:H x=none)(hd:H dx=none)(ne:dx≠x):StepR κ B ρ H (ρ++[(#[x,dx,[]],[])]) (upd (upd H dx (.own x)) x (.ins κ.C dx [])):=by
 have sm:Same H (upd (upd H dx (.own x)) x (.ins κ.C dx [])):=λb o e=>by rw[JAI (JAd e hx),JAI (JAd e hd)];exact e
 have old:∀ {b:Addr},b∈adrs κ ρ->b≠x/\b≠dx:=λ{b} hb=>by
  obtain⟨o,e,_⟩:=al.uns hb;exact#[JAd e hx,JAd e hd]
 have memo:∀ {n:Nat}{p:Rec×Fs}{b:Addr},ρ[n]? = some p->b∈p.1.adr->b∈adrs κ ρ:=λe hb=>q_r _ (List.mem_flatMap.mpr #[_,List.mem_of_getElem? e,hb]);have at1:∀ {n:Nat}{p:Rec×Fs},(ρ++[((#[x,dx,[]]:Rec),([]:Fs))])[n]? = some p->ρ[n]? = some p\/n=ρ.length/\p=(#[x,dx,[]],[]):=λ{n p} e=>by
  rw[List.getElem?_append]at e
  split at e
  ·exact .inl e
  ·rename_i h;cases hk:n - ρ.length with
   |zero=>rw[hk]at e;simp at e;exact .inr #[by omega,e.symm]
   |succ k=>rw[hk]at e;simp at e
 have new2:∀ {b:Addr},b∈(#[x,dx,[]]:Rec).adr->b=x\/b=dx:=λ{b} hb=>by simpa[Rec.adr] using hb
 refine#[λb o e _=>sm b o e,#[λp hp=>?_,λi j p q a hi hj ha hb=>?_,λP q e=>(al.tb P q e).off λb o e _=>sm b o e],λn p e=>#[p,?_,rfl],λb hb=>?_,λb hb hn=>?_]
 ·rcases List.mem_append.mp hp with hp|hp
  ·obtain⟨fs,r⟩:=al.at_ p hp;exact#[fs,r.mono sm]
  ·cases List.mem_singleton.mp hp;refine#[[],JAF,by rw[JAI ne];exact JAF,rfl,λf d e=>by simp at e,λb hb=>by simp at hb,List.nodup_nil]
 ·rcases at1 hi with hi2|⟨hi2,e1⟩<;>rcases at1 hj with hj2|⟨hj2,e2⟩
  ·exact al.nd i j p q a hi2 hj2 ha hb
  ·rw[e2]at hb;have:=old (memo hi2 ha);exact absurd (new2 hb) λz=>z.elim this.1 this.2
  ·rw[e1]at ha;have:=old (memo hj2 hb);exact absurd (new2 ha) λz=>z.elim this.1 this.2
  ·rw[hi2,hj2]
 ·rw[q_B (q_p.mp e).1];exact e
 ·unfold adrs at hb ⊢;rw[List.flatMap_append,<-List.append_assoc];exact List.mem_append_left _ hb
 ·unfold adrs at hb hn;rw[List.flatMap_append,<-List.append_assoc]at hb;rcases List.mem_append.mp hb with hb|hb
  ·exact absurd hb hn
  ·simp![List.flatMap_cons,List.flatMap_nil,List.append_nil]at hb;rcases new2 hb with rfl|rfl
   ·exact hx
   ·exact hd
def JQ8(g:Gk3 X κ B C f3 CX XX G L){nm:Str}{i:Nat}{as:List Expr}{x:E}{p pos:Pos}(hg:Gl X nm)(hl:L.lookup nm=some (.mak i))(hb:JAT nm=false)(h0:as=[]->x=.nil)(ha:∀ρ,PA X as (RA (JAB κ B ρ) (C (pi ρ)) XX x))(hs:∀a∈as,∀es env,starEach (a::es) env=(false,eval a env)::starEach es env) :
  PE X (.Call (.Name nm p) as [] pos) (RE3 κ B C f3 XX (.mak i x)):=by
 obtain⟨w1,f,fd,ps,k,w2,w3,w4,w5,w6⟩:=g.mak nm i hl;rintro zp s Y H Q I ⟨ρ,U,al,ok,kk⟩;simp![ev3,mk3]at kk;have go:∀ {H1:Hp}{ds:List D}{vs:List V},Same H H1->DenL (JAB κ B ρ) H1 ds vs->K3 κ B XX ρ H1 (PV κ B Q) ((f3 i (recD (pi ρ).length::ds) (pi ρ++[[]])).bind λd π'=>if isNone d=true then .ok (recD (pi ρ).length) π' else .bad) ->
   ∀z dx,H1 z=none->H1 dx=none->dx≠z->stSp κ B ps.length (f3 i) (.ref z::(vs++[])) (upd (upd H1 dx (.own z)) z (.ins κ.C dx [])) (λv H2=>v=.non/\Q (.ref z) H2) (EX B XX):=λ{H1 ds vs} s1 d1 h1 z dx hz hd ne=>by
  have st:=JLO (al.mono s1) hz hd ne;have hpi:pi (ρ++[((#[z,dx,[]]:Rec),([]:Fs))])=pi ρ++[[]]:=by unfold pi;rw[List.map_append];rfl
  have hlen:(pi ρ).length=ρ.length:=by unfold pi;rw[q_g]
  have hat:(ρ++[((#[z,dx,[]]:Rec),([]:Fs))])[ρ.length]? = some (#[z,dx,[]],[]):=by simp
  obtain⟨fs,r⟩:=st.all.at_ _ (List.mem_of_getElem? hat);rw[List.append_nil];refine JLE (λπ=>w6 (recD (pi ρ).length::ds) π) st.all (by simp![DenL];exact#[_,vs,rfl,by rw[hlen];exact JIT hat r,st.dens (al.mono s1) _ _ d1]) ?_
  rw[hpi];cases q:f3 i (recD (pi ρ).length::ds) (pi ρ++[[]]) with
  |bad=>rw[q]at h1;exact h1
  |exc c π=>rw[q]at h1;exact K3.step st h1
  |ok d π =>
   rw[q]at h1;intro ρ' H' s' e v dn;simp![R3.bind]at h1
   split at h1
   ·rename_i hd;cases d<;>first|cases hd|skip
    simp![Den]at dn;refine#[dn,?_];obtain⟨q',e1,e2⟩:=s'.pre _ _ hat;obtain⟨fs',r'⟩:=s'.all.at_ _ (List.mem_of_getElem? e1);refine h1 ρ' H' (st.trans s') e (.ref z) ?_;rw[hlen];have:=JIT e1 r';rw[e2]at this;exact this
   ·exact h1.elim
 cases as with
 |nil =>
  refine JKd w2 w3 w4 hg w1 w5 .nil (g.g ρ).pas (JAE hb).1 zp s Y H Q I ?_;rw[h0 rfl]at kk;simp![evA,R.at,R3.bind]at kk;exact go (vs:=[]) (Same.refl H) (by simp![DenL]) kk
 |cons a r =>
  refine JNr w2 w3 w4 hg w1 w5 .nil (g.g ρ).pas (ha ρ) (JAE hb).1 (hs a (List.mem_cons_self ..) r X.env) (JB9 λb hb=>hs b (q_s _ hb)).2 zp s Y H Q I ?_;exact r3_A al ok kk λds vs H1 s1 d1 h1=>go s1 d1 h1
def JRq{c a b:Expr}(hc:∀ρ,PT X c (RT (JAB κ B ρ) (C (pi ρ)) XX z))(ha:PE X a (RE3 κ B C f3 XX x))(hb:PE X b (RE3 κ B C f3 XX y)):PE X (.IfExp c a b pos) (RE3 κ B C f3 XX (.ife z x y)):=by
 rintro zp s Y H Q I ⟨ρ,U,al,ok,k⟩;simp![ev3]at k;refine JHY (hc ρ) ha hb zp s Y H Q I (r3_T al ok k λb H1 s1 h1=>?_);cases b with
 |true=>exact#[ρ,U,al.mono s1,ok.mono s1,by simpa using h1]
 |false=>exact#[ρ,U,al.mono s1,ok.mono s1,by simpa using h1]
def JQD(g:Gk3 X κ B C f3 CX XX G L){a b:Expr}(ha:PE X a (RE3 κ B C f3 XX x))(hb:∀ρ,PE X b (RE (JAB κ B ρ) (C (pi ρ)) XX y))(hm:behindInMarks op b=false):PT X (.Compare a [op] [b] pos) (RT3 κ B C f3 XX (.cmp op x y)):=by
 have ho:OpR X (compareOp op) (λu w H Q=>∃ρ dx dy,Den (JAB κ B ρ) H dx u/\Den (JAB κ B ρ) H dy w/\KE (JAB κ B ρ) XX (cmpD op dx dy) H Q):=λzp s Y H x y v u Q I rx ry ⟨ρ,h⟩=>JOI (g.g ρ) op zp s Y H x y v u Q I rx ry h;have hb':PE X b (λY H Q=>∃ρ,RE (JAB κ B ρ) (C (pi ρ)) XX y Y H Q):=λzp s Y H Q I ⟨ρ,h⟩=>hb ρ zp s Y H Q I h;rintro zp s Y H Q I ⟨ρ,U,al,ok,k⟩;simp![evT3]at k;refine JGe ho ha hb' hm zp s Y H Q I (r3_V al ok k λd v ρ' H' st dn h1=>#[ρ',?_]);have h1:K3 κ B XX ρ' H' (PB Q) (((ev (C (pi ρ')) y U).at (pi ρ')).bind λdy π=>((cmpD op d dy).bind truth).at π):=by
  cases q:ev (C (pi ρ')) y U<;>(rw[q]at h1;exact h1)
 refine r3_E st.all (st.sok al ok) h1 λdy u H2 s2 d2 h2=>#[ρ',d,dy,Den.mono s2 _ _ dn,d2,?_];cases q:cmpD op d dy with
 |ok w =>
  obtain⟨t,rfl⟩:=JHK q;rw[q]at h2;intro z H3 s3 d3;simp![Den]at d3;exact#[t,d3,h2 ρ' H3 (.same (st.all.mono s2) s3) rfl]
 |exc c=>rw[q]at h2;exact h2 ρ' H2 (.same (st.all.mono s2) (Same.refl _)) rfl
 |bad=>rw[q]at h2;exact h2.elim
def JNt{a b:Expr}{rest:List Expr}(ha:PT X a (RT3 κ B C f3 XX x))(hb:PW X (.BoolOp .Or (b::rest) pos) (RT3 κ B C f3 XX y)):PW X (.BoolOp .Or (a::b::rest) pos) (RT3 κ B C f3 XX (.or x y)):=by
 rintro wh zp s Y H Q I ⟨ρ,U,al,ok,k⟩;simp![evT3]at k;refine JRc ha hb wh zp s Y H Q I (r3_B al ok k λb ρ' H' st h1=>?_);cases b with
 |true=>exact h1 ρ' H' (.same st.all (Same.refl _)) rfl
 |false=>exact#[ρ',U,st.all,st.sok al ok,by simpa using h1]
end
end VI
end
section
namespace VI
open PySem PySem.Spec PyProof.Rows L2
section
variable{κ:Kl}{B:Bs}{XX:Nat->Hp->Prop}{ρ ρ' ρe:Tb}{H H1 Hb He:Hp}{X:Cx}{C:Ta->Cn}{f3:F3}{CX:CXT}{G:Lz}{L:List (Str×GK3)}{Y:St}{U:Env}{O:Ow}{pos:Pos}
def Dm.dm{H H1 H2:Hp}(a:Dm H H1)(b:Dm H1 H2):Dm H H2:=λx o e=>let ⟨u,q⟩:=a x o e;b x u q
def JIS(x:V3):∀(U U':Env),Agr x.toE U U'->∀π,ev3 C f3 U x π=ev3 C f3 U' x π:=by
 induction x with
 |pur e=>intro U U' h π;simp![ev3,(agree (C π) e U U' h).1]
 |cal f es=>intro U U' h π;simp![ev3,(agree (C π) es U U' λi hi=>h i (by simpa only[V3.toE,E.uses] using hi)).2.2.1]
 |met f m x es =>
  intro U U' h π;have h1:∀π,ev (C π) x U=ev (C π) x U':=λπ=>(agree (C π) x U U' λi hi=>h i (by simp![V3.toE,E.uses];exact ub_l hi)).1
  have h2:∀π,evA (C π) es U=evA (C π) es U':=λπ=>(agree (C π) es U U' λi hi=>h i (by simp![V3.toE,E.uses];exact ub_r hi)).2.2.1
  simp![ev3,h1,h2]
 |mak f es=>intro U U' h π;simp![ev3,mk3,(agree (C π) es U U' λi hi=>h i (by simpa only[V3.toE,E.uses] using hi)).2.2.1]
 |opp x f=>intro U U' h π;simp![ev3,(agree (C π) x U U' h).1]
 |ife c a b iha ihb =>
  intro U U' h π;have h0:∀π,evT (C π) c U=evT (C π) c U':=λπ=>(agree (C π) c U U' λi hi=>h i (by simp![V3.toE,E.uses];exact ub_l (ub_l hi))).2.1
  have h1:=iha U U' λi hi=>h i (by simp![V3.toE,E.uses];exact ub_l (ub_r hi))
  have h2:=ihb U U' λi hi=>h i (by simp![V3.toE,E.uses];exact ub_r hi)
  simp![ev3,h0,h1,h2]
 |tol cg fdc v ih=>intro U U' h π;simp![ev3,ih U U' h]
def JOt(x:T3):∀(U U':Env),Agr x.toE U U'->∀π,evT3 C f3 U x π=evT3 C f3 U' x π:=by
 induction x with
 |pur e=>intro U U' h π;simp![evT3,(agree (C π) e U U' h).2.1]
 |cmp op v b =>
  intro U U' h π;have h1:=JIS (C:=C) (f3:=f3) v U U' λi hi=>h i (by simp![T3.toE,E.uses];exact ub_l hi)
  have h2:∀π,ev (C π) b U=ev (C π) b U':=λπ=>(agree (C π) b U U' λi hi=>h i (by simp![T3.toE,E.uses];exact ub_r hi)).1
  simp![evT3,h1,h2]
 |or a b iha ihb =>
  intro U U' h π;have h2:=iha U U' λi hi=>h i (by simp![T3.toE,E.uses];exact ub_l hi)
  have h3:=ihb U U' λi hi=>h i (by simp![T3.toE,E.uses];exact ub_r hi)
  simp![evT3,h2,h3]
def JFD(so:SO (JAB κ B ρ) Hb Y H U O)(hP:∀b,ownP O b↔P b)(al:Recs κ B ρ (hidP H P))(st:StepR κ B ρ (hidP H P) ρ' H1)(hz:∀a,P a->H1 a=none):SO (JAB κ B ρ') H1 Y (mixP H H1 P) U O/\hid (mixP H H1 P) O=H1:=by
 have eh:hid H O=hidP H P:=funext λb=>by
  by_cases h:P b
  ·rw[JAw h,hid,JAw ((hP b).mpr h)]
  ·rw[JAH h,hid,JAH λz=>h ((hP b).mp z)]
 have e1:hid (mixP H H1 P) O=H1:=funext λb=>by
  by_cases h:P b
  ·rw[hid,JAw ((hP b).mpr h),hz b h]
  ·rw[hid,JAH λz=>h ((hP b).mp z),JAR h]
 refine#[#[so.len,λb o e=>?_,so.inj,λi=>?_],e1]
 ·rw[JAR λh=>by rw[hz b h]at e;cases e];exact e
 ·have q:=so.slot i;cases e2:U[i]? with
  |none=>rw[e2]at q;exact q
  |some t =>
   rw[e2]at q;cases t with
   |no=>exact q
   |val d =>
    simp![JAN]at q ⊢;obtain⟨h0,v,e3,dn⟩:=q;rw[e1];exact#[h0,v,e3,st.den al d v (eh▸dn)]
   |own d =>
    simp![JAN]at q ⊢;obtain⟨a,ds,xs,q1,q2,q3,q4,q5,q6⟩:=q;have pa:P a:=(hP a).mp #[i,q1];rw[e1];refine#[a,ds,xs,q1,q2,q3,by rw[JBe pa];exact q4,hz a pa,?_]
    rw[eh]at q6;cases ds<;>cases xs<;>first|exact fF q6|exact st.dens al _ _ q6|exact st.denk al _ _ q6
def JPM:mixP H (hidP H P) P=H:=funext λb=>by
 by_cases h:P b
 ·rw[JBe h]
 ·rw[JAR h,JAH h]
def JE0(so:SO B Hb Y H U O)(x:E):SO B Hb Y H (JAJ x 0 U) (frzO x O):=by
 have:=JF6 (x:=x) so (Same.refl (hidP H (unP x O))) λa h=>JAw h
 rwa [JPM]at this
def JHX{b:Addr}:ownP (frzO x O) b↔unP x (frzO x O) b:=by
 constructor
 ·rintro⟨i,h⟩;refine#[i,h,?_];unfold frzO at h
  split at h
  ·cases h
  ·rename_i hu;simpa using hu
 ·rintro⟨i,h,_⟩;exact#[i,h]
def K3s(κ:Kl)(B:Bs)(XX:Nat->Hp->Prop)(ρe:Tb)(He:Hp){α:Type}(Y:St)(U1:Env)(P:α->Tb->Hp->Ow->Hp->Prop):R3 α->Prop
 |.ok d π=>∀ρ' H' O' Hb',pi ρ'=π->StepR κ B ρe He ρ' Hb'->SO (JAB κ B ρ') Hb' Y H' U1 O'->hid H' O'=Hb'->P d ρ' H' O' Hb'
 |.exc c π=>∀ρ' Hb',pi ρ'=π->StepR κ B ρe He ρ' Hb'->XX c Hb'
 |.bad=>False
def RV3(X:Cx)(κ:Kl)(B:Bs)(C:Ta->Cn)(f3:F3)(XX:Nat->Hp->Prop)(w:E)(x:V3):TE:=λY H Q=>∃ρe He ρ U O Hb,Dm X.H₀ He/\StepR κ B ρe He ρ Hb/\SO (JAB κ B ρ) Hb Y H U O/\K3s κ B XX ρe He Y (JAJ w 0 U) (λd ρ' H' O' Hb'=>∀v,Den (JAB κ B ρ') Hb' d v->Q v H') (ev3 C f3 (JAJ w 0 U) x (pi ρ))
def RVT3(X:Cx)(κ:Kl)(B:Bs)(C:Ta->Cn)(f3:F3)(XX:Nat->Hp->Prop)(w:E)(x:T3):TT:=λY H Q=>∃ρe He ρ U O Hb,Dm X.H₀ He/\StepR κ B ρe He ρ Hb/\SO (JAB κ B ρ) Hb Y H U O/\K3s κ B XX ρe He Y (JAJ w 0 U) (λb ρ' H' O' Hb'=>Q b H') (evT3 C f3 (JAJ w 0 U) x (pi ρ))
def JMJ{e:Expr}{w:E}(hw:∀i,x.toE.uses i=true->w.uses i=true)(he:PE X e (RE3 κ B C f3 XX x)):PE X e (RV3 X κ B C f3 XX w x):=by
 rintro zp s Y H Q I ⟨ρe,He,ρ,U,O,Hb,hd,st,so,k⟩;have so1:=JE0 so w;generalize hU:JAJ w 0 U=U1 at *;have J0:=JBF (ps:=JBi w (frzO w O) U1.length s.heap) I (JAl (x:=w) (hd.dm st.dm) so1) JAo;have hev:=JIS (C:=C) (f3:=f3) x U1 (JAb w 0 U1) (λi hi=>JBE i (hw i hi)) (pi ρ);have sm:Same Hb (hidP H (unP w (frzO w O))):=(JAX so1).trans same_un;have st1:=st.then sm;refine thn (he _ s Y _ (λv H1=>∃ρ' d π,ev3 C f3 U1 x (pi ρ)=.ok d π/\StepR κ B ρ (hidP H (unP w (frzO w O))) ρ' H1/\pi ρ'=π/\Den (JAB κ B ρ') H1 d v) J0 #[ρ,JAb w 0 U1,st1.all,JAi so1,?_]) λu s1 ⟨v,H1,J,r,ρ',d,π,q,st2,hpi,dn⟩=>?_
 ·rw[<-hev];cases q:ev3 C f3 U1 x (pi ρ) with
  |ok d π=>exact λρ' H' s' e v dn=>#[ρ',d,π,rfl,s',e,dn]
  |exc c π=>rw[q]at k;exact λρ' H' s' e=>k ρ' H' e (st1.trans s')
  |bad=>rw[q]at k;exact k
 ·obtain⟨I',hz⟩:=JAn I J (JAl (hd.dm st.dm) so1) (JAj I so1);obtain⟨so2,eh⟩:=JFD so1 (λb=>JHX) st1.all st2 hz;rw[q]at k;exact#[v,_,I',r,k ρ' _ _ H1 hpi (st1.trans st2) so2 eh v dn]
def JNc{e:Expr}{w:E}(hw:∀i,x.toE.uses i=true->w.uses i=true)(he:PT X e (RT3 κ B C f3 XX x)):PT X e (RVT3 X κ B C f3 XX w x):=by
 rintro zp s Y H Q I ⟨ρe,He,ρ,U,O,Hb,hd,st,so,k⟩;have so1:=JE0 so w;generalize hU:JAJ w 0 U=U1 at *;have J0:=JBF (ps:=JBi w (frzO w O) U1.length s.heap) I (JAl (x:=w) (hd.dm st.dm) so1) JAo;have hev:=JOt (C:=C) (f3:=f3) x U1 (JAb w 0 U1) (λi hi=>JBE i (hw i hi)) (pi ρ);have sm:Same Hb (hidP H (unP w (frzO w O))):=(JAX so1).trans same_un;have st1:=st.then sm;refine thn (he _ s Y _ (λb H1=>∃ρ' π,evT3 C f3 U1 x (pi ρ)=.ok b π/\StepR κ B ρ (hidP H (unP w (frzO w O))) ρ' H1/\pi ρ'=π) J0 #[ρ,JAb w 0 U1,st1.all,JAi so1,?_]) λb s1 ⟨H1,J,ρ',π,q,st2,hpi⟩=>?_
 ·rw[<-hev];cases q:evT3 C f3 U1 x (pi ρ) with
  |ok d π=>exact λρ' H' s' e=>#[ρ',π,rfl,s',e]
  |exc c π=>rw[q]at k;exact λρ' H' s' e=>k ρ' H' e (st1.trans s')
  |bad=>rw[q]at k;exact k
 ·obtain⟨I',hz⟩:=JAn I J (JAl (hd.dm st.dm) so1) (JAj I so1);obtain⟨so2,eh⟩:=JFD so1 (λb=>JHX) st1.all st2 hz;rw[q]at k;exact#[_,I',k ρ' _ _ H1 hpi (st1.trans st2) so2 eh]
def JJ6(κ:Kl)(B:Bs)(XX:Nat->Hp->Prop)(ρe:Tb)(He:Hp)(D:Ends):Fl3->Prop
 |.nx U π=>∀ρ Y H O Hb,pi ρ=π->StepR κ B ρe He ρ Hb->SO (JAB κ B ρ) Hb Y H U O->D.nx Y H
 |.rt d π=>∀ρ v H,pi ρ=π->StepR κ B ρe He ρ H->Den (JAB κ B ρ) H d v->D.rt v H
 |.bk U π=>∀ρ Y H O Hb,pi ρ=π->StepR κ B ρe He ρ Hb->SO (JAB κ B ρ) Hb Y H U O->D.bk Y H
 |.ct U π=>∀ρ Y H O Hb,pi ρ=π->StepR κ B ρe He ρ Hb->SO (JAB κ B ρ) Hb Y H U O->D.ct Y H
 |.ex c π=>∀ρ H,pi ρ=π->StepR κ B ρe He ρ H->XX c H
 |.bad=>False
def RF3(X:Cx)(κ:Kl)(B:Bs)(XX:Nat->Hp->Prop)(f:Env->Ta->Fl3):TS:=λD Y H=>∃ρe He ρ U O Hb,Dm X.H₀ He/\StepR κ B ρe He ρ Hb/\SO (JAB κ B ρ) Hb Y H U O/\JJ6 κ B XX ρe He D (f U (pi ρ))
@[reducible]def RS3(X:Cx)(κ:Kl)(B:Bs)(C:Ta->Cn)(f3:F3)(XX:Nat->Hp->Prop)(t:S3):TS:=RF3 X κ B XX (JAS C f3 t)
def r_st{st:Stmt}{t:S}(h:∀ρ,PS X st (RSt X (JAB κ B ρ) (C (pi ρ)) XX t)):PS X st (RS3 X κ B C f3 XX (.st t)):=by
 rintro zp s Y H D I ⟨ρe,He,ρ,U,O,Hb,hd,st,so,k⟩;refine h ρ zp s Y H D I #[U,O,Hb,hd.dm st.dm,so,?_];simp![JAS]at k;cases q:exec (C (pi ρ)) t U with
 |nx U'=>rw[q]at k;exact λY' H' O' so'=>k ρ Y' H' O' Hb rfl st so'
 |bk U'=>rw[q]at k;exact λY' H' O' so'=>k ρ Y' H' O' Hb rfl st so'
 |ct U'=>rw[q]at k;exact λY' H' O' so'=>k ρ Y' H' O' Hb rfl st so'
 |rt d=>rw[q]at k;exact λv H' sm dn=>k ρ v H' rfl (st.then sm) dn
 |ex c=>rw[q]at k;exact k ρ Hb rfl st
 |bad=>rw[q]at k;exact k
def r_nil:PSs X [] (RS3 X κ B C f3 XX .nil):=λzp s Y H D I ⟨ρe,He,ρ,U,O,Hb,hd,st,so,k⟩=>JIO zp s Y H D I (k ρ Y H O Hb rfl st so)
def JSo{st:Stmt}{r:List Stmt}{a b:S3}(h1:PS X st (RS3 X κ B C f3 XX a))(h2:PSs X r (RS3 X κ B C f3 XX b)):PSs X (st::r) (RS3 X κ B C f3 XX (.cons a b)):=by
 rintro zp s Y H D I ⟨ρe,He,ρ,U,O,Hb,hd,st,so,k⟩;refine JG0 h1 h2 zp s Y H D I #[ρe,He,ρ,U,O,Hb,hd,st,so,?_];simp![JAS]at k;cases q:JAS C f3 a U (pi ρ) with
 |nx U' π'=>rw[q]at k;exact λρ' Y' H' O' Hb' e st' so'=>#[ρe,He,ρ',U',O',Hb',hd,st',so',by rw[e];exact k]
 |_=>rw[q]at k;exact k
def JRK{e:Expr}(he:PE X e (RE3 κ B C f3 XX x))(hs:swapsWith e none pos.line X.env=pure false):PS X (.Expr e pos) (RS3 X κ B C f3 XX (.drop x)) :=
 PS.imp (JDu (JMJ (w:=x.toE) (λ_ h=>h) he) hs) λD Y H h_=>by
  obtain⟨ρe,He,ρ,U,O,Hb,hd,st,so,k⟩:=h_;refine#[ρe,He,ρ,U,O,Hb,hd,st,so,?_];simp![JAS]at k;cases q:ev3 C f3 (JAJ x.toE 0 U) x (pi ρ) with
  |ok d π=>rw[q]at k;exact λρ' H' O' Hb' e st' so' eh v dn=>k ρ' _ H' _ Hb' e st' so'
  |exc c π=>rw[q]at k;exact k
  |bad=>rw[q]at k;exact k
def r_ret{e:Expr}(he:PE X e (RE3 κ B C f3 XX x)):PS X (.Return (some e) pos) (RS3 X κ B C f3 XX (.ret x)) :=
 PS.imp (JMd (JMJ (w:=x.toE) (λ_ h=>h) he)) λD Y H h_=>by
  obtain⟨ρe,He,ρ,U,O,Hb,hd,st,so,k⟩:=h_;refine#[ρe,He,ρ,U,O,Hb,hd,st,so,?_];simp![JAS]at k;cases q:ev3 C f3 (JAJ x.toE 0 U) x (pi ρ) with
  |ok d π =>
   rw[q]at k;exact λρ' H' O' Hb' e st' so' eh v dn=>k ρ' v H' e (st'.then so'.same) (Den.mono so'.same _ _ dn)
  |exc c π=>rw[q]at k;exact k
  |bad=>rw[q]at k;exact k
def r_ife{a b:List Stmt}(hc:PT X c (RT3 κ B C f3 XX t))(ha:PSs X a (RS3 X κ B C f3 XX s1))(hb:PSs X b (RS3 X κ B C f3 XX s2)):PS X (.If c a b pos) (RS3 X κ B C f3 XX (.ife t s1 s2)) :=
 PS.imp (JS8 (JNc (w:=t.toE) (λ_ h=>h) hc) ha hb) λD Y H h_=>by
  obtain⟨ρe,He,ρ,U,O,Hb,hd,st,so,k⟩:=h_;refine#[ρe,He,ρ,U,O,Hb,hd,st,so,?_];simp![JAS]at k;cases q:evT3 C f3 (JAJ t.toE 0 U) t (pi ρ) with
  |ok b π =>
   rw[q]at k;intro ρ' H' O' Hb' e st' so' eh;cases b with
   |true=>exact iteT #[ρe,He,ρ',_,O',Hb',hd,st',so',by rw[e];exact k]
   |false=>exact iteF #[ρe,He,ρ',_,O',Hb',hd,st',so',by rw[e];exact k]
  |exc c π=>rw[q]at k;exact k
  |bad=>rw[q]at k;exact k
def JOc{put:D->Env->Option Env}{gt:TG}{tb:TS}{f:Env->Ta->Fl3}{De:Ends}{J:It}{ds:List D}(hd:Dm X.H₀ He)(st0:StepR κ B ρe He ρ Hb)(so:SO (JAB κ B ρ) Hb Y H1 U O)(io:ItOk (JAB κ B ρ) J (hid H1 O) ds)
  (hput:∀(ρ:Tb) (d:D) (v:V) (Y:St) (H:Hp) (U U':Env) (O:Ow) (Hb':Hp) (Q:St->Hp->Prop),SO (JAB κ B ρ) Hb' Y H U O->Den (JAB κ B ρ) (hid H O) d v->put d U=some U'->(∀Y' O',SO (JAB κ B ρ) Hb' Y' H U' O'->Q Y' H)->gt v Y H Q)
  (htb:∀De Y H,RF3 X κ B XX f De Y H->tb De Y H) (k:JJ6 κ B XX ρe He De (for3 put f ds U (pi ρ))) :
  ∃W:Nat->Nat->St->Hp->Prop,(∃m,W 0 m Y H1)/\∀i m Y H,W i m Y H->(J.stop i H/\De.nx Y H)\/(J.go i H/\∃N:St->Hp->Prop,(∀Y' H',N Y' H'->∃m',m'<m/\W (i+1) m' Y' H')/\∀x H',J.yld i H x H'->gt x Y H' λY2 H2=>tb { De with nx:=N,ct:=N,bk:=De.nx } Y2 H2):=by
 have hb1:Same Hb (hid H1 O):=JAX so;have st1:=st0.then hb1;have al0:=st1.all;refine#[λi m Y H=>m=ds.length - i/\i<=ds.length/\∃ρ' U O' Hb',StepR κ B ρ (hid H1 O) ρ' Hb'/\SO (JAB κ B ρ') Hb' Y H U O'/\JJ6 κ B XX ρe He De (for3 put f (ds.drop i) U (pi ρ')),#[ds.length,by simp,Nat.zero_le _,ρ,U,O,_,.same al0 (Same.refl _),so.base,by simpa using k],?_]
 rintro i m Y H ⟨rfl,hi,ρ2,U2,O2,Hb2,st2,so2,k2⟩;have kp:Kpt (hid H1 O) H:=(al0.off st2.off).1.same so2.same
 by_cases hlt:i<ds.length
 ·right;have hd':ds[i]? = some ds[i]:=by simp[hlt]
  obtain⟨go,yl⟩:=(io H kp i).1 ds[i] hd';refine#[go,λY' H'=>∃ρ' U O' Hb',StepR κ B ρ (hid H1 O) ρ' Hb'/\SO (JAB κ B ρ') Hb' Y' H' U O'/\JJ6 κ B XX ρe He De (for3 put f (ds.drop (i+1)) U (pi ρ')),λY' H' ⟨ρ3,U3,O3,Hb3,st3,so3,k3⟩=>#[ds.length - (i+1),by omega,rfl,hlt,ρ3,U3,O3,Hb3,st3,so3,k3],λv H' y=>?_]
  obtain⟨so3',dn2⟩:SO (JAB κ B ρ2) Hb2 Y H' U2 O2/\Den (JAB κ B ρ2) (hid H' O2) ds[i] v:=by
    rcases yl v H' y with ⟨e,dn⟩|⟨p,xs,es,hp,e,ex,ed,dl⟩
    ·subst e;exact#[so2,Den.mono (JAX so2) _ v (st2.den al0 _ _ dn)]
    ·subst e;subst ex;have s3:=JHW so2 (o:=.tup xs) hp;refine#[s3,?_];rw[ed];simp![Den];refine#[p,xs,rfl,SqT.of ?_,DenL.mono (JAX s3) _ _ (st2.dens al0 _ _ dl)];rw[hid,JAH λ⟨j,hj⟩=>by obtain⟨_,_,_,_,e5,_⟩:=so2.own hj;rw[hp]at e5;cases e5]
     exact JAF
  rw[JDr hlt]at k2;unfold for3 at k2;cases qp:put ds[i] U2 with
  |none=>rw[qp]at k2;exact fF k2
  |some U3 =>
    rw[qp]at k2;refine hput ρ2 ds[i] v Y H' U2 U3 O2 _ _ so3' dn2 qp λY3 O3 so3=>?_;refine htb _ _ _ #[ρ,hid H1 O,ρ2,U3,O3,Hb2,hd.dm st1.dm,st2,so3,?_];simp only at k2;cases q2:f U3 (pi ρ2) with
    |nx U' π=>rw[q2]at k2;exact λρ4 Y4 H4 O4 Hb4 e st4 so4=>#[ρ4,U',O4,Hb4,st4,so4,by rw[e];exact k2]
    |ct U' π=>rw[q2]at k2;exact λρ4 Y4 H4 O4 Hb4 e st4 so4=>#[ρ4,U',O4,Hb4,st4,so4,by rw[e];exact k2]
    |bk U' π=>rw[q2]at k2;exact λρ4 Y4 H4 O4 Hb4 e st4 so4=>k2 ρ4 Y4 H4 O4 Hb4 e (st1.trans st4) so4
    |rt d π=>rw[q2]at k2;exact λρ4 v4 H4 e st4 d4=>k2 ρ4 v4 H4 e (st1.trans st4) d4
    |ex c π=>rw[q2]at k2;exact λρ4 H4 e st4=>k2 ρ4 H4 e (st1.trans st4)
    |bad=>rw[q2]at k2;exact k2
 ·left;have ei:i=ds.length:=by omega
  refine#[(io H kp i).2 ∅,?_]
  rw[ei,List.drop_length]at k2;exact k2 ρ2 Y H O2 Hb2 rfl (st1.trans st2) so2
def JQY[Cool G](g:Gk3 X κ B C f3 CX XX G L)(hp:PassesOwn (model X.prog X.w) X.A X.env X.xe){b:S3}{i:Nat}(hi:∀ρ,PI X (.Name nm pos') iter (RI (JAB κ B ρ) (C (pi ρ)) XX x))(hb:PSs X body (RS3 X κ B C f3 XX b))(hnd:X.N.Nodup)(hN:X.N[i]? = some nm)(hx:Loc X.env.scope nm)
  (hfn:X.fn nm=true\/X.env.scope.names.lookup nm=some .local) (hs:∀v,foldedSetIterable iter X.env v=pure v):PS X (.For (.Name nm pos') iter body [] pos) (RS3 X κ B C f3 XX (.for1 i x b)):=by
 rintro zp s Y H De I ⟨ρe,He,ρ,U,O,Hb,hd,st,so,k⟩;refine JM3 hp ((g.g ρ).calm inferInstance) (JMa (g.g ρ) (hi ρ)) (JEm hnd hN hx hfn) hb hs zp s Y H De I #[U,O,Hb,hd.dm st.dm,so,?_];simp![JAS]at k;cases q:evI (C (pi ρ)) x U with
 |ok ds =>
  rw[q]at k;intro J H' O' so' io;refine JOc hd st so' io (put:=put1 i) (λρ d v Y H U U' O Hb' Q so dn e h=>?_) (λ_ _ _ h=>h) k;have e':U.set i (.val d)=U':=Option.some.inj e;subst e';exact h _ _ (JGv so dn)
 |exc c=>rw[q]at k;exact k ρ Hb rfl st
 |bad=>rw[q]at k;exact k
end
end VI
end
section
namespace VI
open PySem PySem.Spec PyProof.Rows L2
theorem JBo(f g:Str)(d:D):∀c:Fs,(JBL f d c).lookup g=if g=f then some d else c.lookup g
 | []=>by
  show List.lookup g [(f,d)]=_
  by_cases h:g=f
  · have hb:(g==f)=true:=beq_iff_eq.mpr h
    simp![List.lookup,hb,if_pos h]
  · have hb:(g==f)=false:=beq_eq_false_iff_ne.mpr h
    simp![List.lookup,hb,if_neg h]
 |(k,x)::r=>by
  have ih:=JBo f g d r;rw[show JBL f d ((k,x)::r)=(if k=f then (k,d)::r else (k,x)::JBL f d r) from rfl]
  by_cases hk:k=f
  · rw[if_pos hk]
    by_cases h:g=k
    ·have hb:(g==k)=true:=beq_iff_eq.mpr h;simp![List.lookup,hb];rw[if_pos (h.trans hk)]
    ·have hb:(g==k)=false:=beq_eq_false_iff_ne.mpr h;simp![List.lookup,hb];rw[if_neg λz=>h (z.trans hk.symm)]
  · rw[if_neg hk]
    by_cases h:g=k
    ·have hb:(g==k)=true:=beq_iff_eq.mpr h;simp![List.lookup,hb];rw[if_neg λz=>hk (h.symm.trans z)]
    ·have hb:(g==k)=false:=beq_eq_false_iff_ne.mpr h;simp![List.lookup,hb];exact ih
theorem JGt(f:Str)(d:D)(v:V):∀(fs:List (Str×V)) (c:Fs),fs.map (·.1)=c.map (·.1)->(putF f v fs).map (·.1)=(JBL f d c).map (·.1)
 | [],[],_=>rfl
 | [],_::_,h=>by cases h
 |_::_,[],h=>by cases h
 |(k,x)::fs,(l,y)::c,h=>by
  simp![List.map_cons,List.cons.injEq]at h;have h1:k=l:=h.1;subst h1;unfold putF JBL
  by_cases z:k=f
  · rw[if_pos z,if_pos z];simp![List.map_cons,h.2]
  · rw[if_neg z,if_neg z];simp![List.map_cons,JGt f d v fs c h.2]
theorem JDC{d d0:D}:∀ {c:Fs},c.lookup f=some d0->(JBL f d c).map (·.1)=c.map (·.1)
 | [],h=>by cases h
 |(k,x)::c,h=>by
  unfold JBL
  by_cases z:k=f
  · rw[if_pos z];rfl
  · rw[if_neg z]
    unfold List.lookup at h;rw[beq_eq_false_iff_ne.mpr λw=>z w.symm]at h;simp![List.map_cons,JDC h]
mutual
theorem JEi:∀(d:D) (v:V),JAv d=true->Den (JAB κ B ρ) H d v->Den (bare B) H d v
 |.none,_,_,h=>h
 |.bool _,_,_,h=>h
 |.int _,_,_,h=>h
 |.str _,_,_,h=>h
 |.tuple ds,v,n,h=>by
  simp![Den]at h ⊢;obtain⟨a,xs,e,q,l⟩:=h;exact#[a,xs,e,q,JEn ds xs (by simpa only[JAv] using n) l]
 |.list ds,v,n,h=>by
  simp![Den]at h ⊢;obtain⟨a,xs,e,q,l⟩:=h;exact#[a,xs,e,q,JEn ds xs (by simpa only[JAv] using n) l]
 |.dict kvs,v,n,h=>by
  simp![Den]at h ⊢;simp![JAv]at n;rcases h with ⟨a,c,e,k,q⟩|⟨a,xs,e,q,l⟩|⟨a,m,e,k,q⟩
  ·exact .inl #[a,c,e,k,q]
  ·exact .inr (.inl #[a,xs,e,q,JHU kvs xs n l])
  ·subst k;simp[JF2]at n
theorem JEn:∀(ds:List D) (vs:List V),JD7 ds=true->DenL (JAB κ B ρ) H ds vs->DenL (bare B) H ds vs
 | [],_,_,h=>h
 |d::ds,vs,n,h=>by
  simp![DenL]at h ⊢;simp![JD7,q_i]at n;obtain⟨v,r,e,q,l⟩:=h;exact#[v,r,e,JEi d v n.1 q,JEn ds r n.2 l]
theorem JHU:∀(ds:List (D×D)) (vs:List (Key×V)),JF2 ds=true->DenK (JAB κ B ρ) H ds vs->DenK (bare B) H ds vs
 | [],_,_,h=>h
 |(k,d)::ds,vs,n,h=>by
  simp![DenK]at h ⊢;obtain⟨x,v,r,e,e',q,l⟩:=h;subst e';simp![JF2,q_i]at n;exact#[x,v,r,e,rfl,JEi d v n.1 q,JHU ds r n.2 l]
end
section
variable{κ:Kl}{B:Bs}{XX:Nat->Hp->Prop}{ρ ρ':Tb}{H H':Hp}{X:Cx}{C:Ta->Cn}{f3:F3}{CX:CXT}{G:Lz}{L:List (Str×GK3)}
def JHb(al:Recs κ B ρ H){n:Nat}(e:ρ[n]? = some p)(ha:r'.a=p.1.a)(off:∀b o,H b=some o->b ∉ p.1.adr->H' b=some o)(hs:∀b∈p.1.adr,b∈r'.adr)(hn':∀b∈r'.adr,b ∉ p.1.adr->H b=none)(new:RecOk κ B r' c fs' H'):StepR κ B ρ H (ρ.set n (r',c)) H':=by
 have hn:n<ρ.length:=(q_p.mp e).1;have mem:∀ {i:Nat}{q:Rec×Fs}{b:Addr},ρ[i]? = some q->b∈q.1.adr->b∈adrs κ ρ:=λh hb=>q_r _ (List.mem_flatMap.mpr #[_,List.mem_of_getElem? h,hb]);have off':∀b o,H b=some o->b ∉ adrs κ ρ->H' b=some o:=λb o q nb=>off b o q λz=>nb (mem e z);obtain⟨kp,kx⟩:=al.off off';have at1:∀ {i:Nat}{q:Rec×Fs},(ρ.set n (r',c))[i]? = some q->(i=n/\q=(r',c))\/(i≠n/\ρ[i]? = some q):=λ{i q} hi=>by
  by_cases hin:i=n
  ·subst hin;rw[q_y hn]at hi;cases hi;exact .inl #[rfl,rfl]
  ·rw[q_z (λz=>hin z.symm)]at hi;exact .inr #[hin,hi]
 have far:∀ {i:Nat}{q:Rec×Fs}{a:Addr},i≠n->ρ[i]? = some q->a∈q.1.adr->a ∉ r'.adr:=λ{i q a} hin hi h1 h2=>by
  by_cases h3:a∈p.1.adr
  ·exact hin (al.nd i n q p a hi e h1 h3)
  ·have:=hn' a h2 h3;obtain⟨fs,r⟩:=al.at_ q (List.mem_of_getElem? hi);obtain⟨o,eo,_⟩:=r.uns h1;rw[this]at eo;cases eo
 obtain⟨gs0,r0⟩:=al.at_ p (List.mem_of_getElem? e);refine#[off',#[λq hq=>?_,λi j q q' a hi hj h1 h2=>?_,λP q e=>(al.tb P q e).off λb o e k=>off b o e λz=>?_],λi q hi=>?_,λb hb=>?_,λb hb hnb=>?_]
 ·obtain⟨i,hi⟩:=List.mem_iff_getElem?.mp hq;rcases at1 hi with ⟨_,rfl⟩|⟨hin,hi⟩
  ·exact#[fs',new]
  ·obtain⟨gs,r⟩:=al.at_ q (List.mem_of_getElem? hi);exact#[gs,r.stay kp kx λb hb o eo=>off b o eo λz=>hin (al.nd i n q p b hi e hb z)]
 ·rcases at1 hi with ⟨e1,rfl⟩|⟨n1,hi⟩<;>rcases at1 hj with ⟨e2,rfl⟩|⟨n2,hj⟩
  ·rw[e1,e2]
  ·exact absurd h1 (far n2 hj h2)
  ·exact absurd h2 (far n1 hi h1)
  ·exact al.nd i j q q' a hi hj h1 h2
 ·rcases k with ⟨cs,rfl⟩|⟨a,u,rfl⟩
  ·exact(r0.notb z).1 _ e
  ·exact(r0.notb z).2 _ _ e
 ·by_cases hin:i=n
  ·subst hin;rw[e]at hi;cases hi;exact#[_,q_y hn,ha]
  ·exact#[q,by rw[q_z (λz=>hin z.symm)];exact hi,rfl]
 ·rcases List.mem_append.mp hb with hb|hb
  ·exact List.mem_append_left _ hb
  refine q_r _ ?_;obtain⟨q,hq,hb⟩:=List.mem_flatMap.mp hb;obtain⟨i,hi⟩:=List.mem_iff_getElem?.mp hq
  by_cases hin:i=n
  ·subst hin;rw[e]at hi;cases hi;exact List.mem_flatMap.mpr #[(r',c),List.mem_of_getElem? (q_y hn),hs b hb]
  ·exact List.mem_flatMap.mpr #[q,List.mem_of_getElem? (i:=i) (by rw[q_z (λz=>hin z.symm)];exact hi),hb]
 ·rcases List.mem_append.mp hb with hb|hb
  ·exact absurd (List.mem_append_left _ hb) hnb
  obtain⟨q,hq,hb⟩:=List.mem_flatMap.mp hb;obtain⟨i,hi⟩:=List.mem_iff_getElem?.mp hq;rcases at1 hi with ⟨_,rfl⟩|⟨hin,hi⟩
  ·exact hn' b hb λz=>hnb (mem e z)
  ·exact absurd (mem hi hb) hnb
def TP3(κ:Kl)(B:Bs)(XX:Nat->Hp->Prop)(Z:Env->Ta->R3 Unit):TS:=λD Y H=>∃ρ U,Recs κ B ρ H/\Sok (JAB κ B ρ) Y H U/\K3 κ B XX ρ H (λ_ _ H'=>D.nx Y H') (Z U (pi ρ))
def JFV{st:Stmt}{w:E}{Z:Env->Ta->R3 Unit}(hZ:∀U U' π,Agr w U U'->Z U π=Z U' π)(he:PS X st (TP3 κ B XX Z)):PS X st (RF3 X κ B XX λU π=>step3 (Z (JAJ w 0 U) π) λ_ π'=>.nx (JAJ w 0 U) π'):=by
 rintro zp s Y H De I ⟨ρe,He,ρ,U,O,Hb,hd,st,so,k⟩;have so1:=JE0 so w
 replace k:JJ6 κ B XX ρe He De (step3 (Z (JAJ w 0 U) (pi ρ)) λ_ π'=>.nx (JAJ w 0 U) π'):=k
 generalize hU:JAJ w 0 U=U1 at *;have J0:=JBF (ps:=JBi w (frzO w O) U1.length s.heap) I (JAl (x:=w) (hd.dm st.dm) so1) JAo;have hev:=hZ U1 (JAb w 0 U1) (pi ρ) JBE;have sm:Same Hb (hidP H (unP w (frzO w O))):=(JAX so1).trans same_un;have st1:=st.then sm;refine thn (he _ s Y _ #[λY' H1=>Y'=Y/\∃ρ' π,Z U1 (pi ρ)=.ok () π/\StepR κ B ρ (hidP H (unP w (frzO w O))) ρ' H1/\pi ρ'=π,λ_ _=>False,λ_ _=>False,λ_ _=>False] J0 #[ρ,JAb w 0 U1,st1.all,JAi so1,?_]) λf s1 q=>?_
 ·rw[<-hev];cases q:Z U1 (pi ρ) with
  |ok d π=>exact λρ' H' s' e=>#[rfl,ρ',π,rfl,s',e]
  |exc c π=>rw[q]at k;exact λρ' H' s' e=>k ρ' H' e (st1.trans s')
  |bad=>rw[q]at k;exact k
 ·cases f with
  |next =>
   obtain⟨Y',H1,J,rfl,ρ',π,q,st2,hpi⟩:=q;obtain⟨I',hz⟩:=JAn I J (JAl (hd.dm st.dm) so1) (JAj I so1);obtain⟨so2,eh⟩:=JFD so1 (λb=>JHX) st1.all st2 hz;rw[q]at k;exact#[_,_,I',k ρ' _ _ _ H1 hpi (st1.trans st2) so2]
  |brk=>obtain⟨_,_,_,z⟩:=q;exact z.elim
  |cont=>obtain⟨_,_,_,z⟩:=q;exact z.elim
  |ret u=>obtain⟨_,_,_,_,_,z⟩:=q;exact z.elim
end
end VI
end
section
namespace VI
open PySem PySem.Spec PyProof.Rows L2
section
variable{κ:Kl}{B:Bs}{XX:Nat->Hp->Prop}{ρ ρ':Tb}{H H':Hp}{X:Cx}{C:Ta->Cn}{f3:F3}{CX:CXT}{G:Lz}{L:List (Str×GK3)}{r:Rec}{c:Fs}{fs:List (Str×V)}
def JG8{d:D}(k:Kpt H H')(hx:∀b c,H b=some (.ext (ExcAt b c))->H' b=some (.ext (ExcAt b c)))(ha:κ.on.contains f=true->∀b o,r.ow.lookup f=some b->H b=some o->H' b=some o)(q:JCo κ (bare B) H r f d v):JCo κ (bare B) H' r f d v:=by
 unfold JCo at q ⊢
 revert q ha
 cases κ.on.contains f with
 |false=>exact λ_ q=>JC8 (B:=bare B) (B':=bare B) rfl rfl rfl k hx (λ_ _ z=>z) d v q
 |true =>
  rintro ha ⟨b,q1,q2,o,e2,l⟩;exact#[b,q1,q2,o,ha rfl b _ q1 e2,l.off rfl rfl rfl k hx λ_ _ z=>z]
def RecOk.ow_ne(h:RecOk κ B r c fs H){b:Addr}(hb:b∈r.ow.map (·.2)):b≠r.a/\b≠r.dx:=by
 obtain⟨o,e,u⟩:=h.ow b hb;exact#[λz=>(by rw[z,h.ins]at e;cases e;rcases u with ⟨_,z⟩|⟨_,z⟩<;>cases z),λz=>(by rw[z,h.own]at e;cases e;rcases u with ⟨_,z⟩|⟨_,z⟩<;>cases z)]
def RecOk.dx_ne(h:RecOk κ B r c fs H):r.dx≠r.a:=λz=>by have:=h.own;rw[z,h.ins]at this;cases this
def JCS{i n:Nat}(h:JBj (pi ρ) U i=some (n,c)):∃d,look U i=.ok d/\∀ {H:Hp}{v:V},Den (JAB κ B ρ) H d v->∃p fs,ρ[n]? = some p/\p.2=c/\v=.ref p.1.a/\RecOk κ B p.1 p.2 fs H:=by
 unfold JBj at h
 split at h
 ·rename_i d hd;refine#[d,hd,λ{H v} dn=>?_];unfold recF at h;obtain⟨m,hn,q⟩:=q_a.mp h;obtain⟨c',hc,e⟩:=q_d.mp q;cases e;obtain⟨p,fs,e1,e2,r⟩:=JEE hn dn;rw[JFM e1]at hc;cases hc;exact#[p,fs,e1,rfl,e2,r]
 ·cases h
def JFP{n:Nat}:pi (ρ.set n p)=(pi ρ).set n p.2:=by unfold pi;rw[List.map_set]
end
end VI
end
section
namespace VI
open PySem PySem.Spec PyProof.Rows L2
section
variable{X:Cx}{zp:Pq}{Y:St}{H H':Hp}{s:Shared}{l:Addr}{xs:List V}
def tBML(r:V->List V->Hp->VK->Prop)(to:TE)(t:TA):TE:=λY H Q=>to Y H λx H1=>(∃l xs,x=.ref l/\H1 l=some (.ext (LsAt l xs)))/\t Y H1 λxs H2=>r x xs H2 Q
def JRk{o e:Expr}{es:List Expr}{to:TE}{t:TA}{name:Str}{apos cpos:Pos}{id:String}{r:V->List V->Hp->VK->Prop}(slot:Slot "list" name id)(hty:typeOf (.builtin id)=pure (.type "method_descriptor"))(hm:MtR X id r)(ho:PE X o to)(ha:PA X (e::es) t)
  (hbase:attributeBase o name X.env (eval o X.env)=eval o X.env)
  (hfew:((backTo cpos (starEach (e::es) X.env)).all (λx=>!x.1)&&(backToKw cpos (keywordEach [] X.env)).all (λx=>x.1.isSome)
    && decide ((e::es).length+([]:List Keyword).length+(if ([]:List Keyword).isEmpty then 0 else 1)<30))=true)
  (hline:(apos.endLine==cpos.line)=true) (hs:starEach (e::es) X.env=(false,eval e X.env)::starEach es X.env) (hplain:(backTo cpos (starEach es X.env)).any (·.1)=false) :
  PE X (.Call (.Attribute o name apos) (e::es) [] cpos) (tBML r to t):=by
 intro zp s Y H Q I h;refine wpAny_Call_method_late hbase hfew hline rfl (thn (ho zp s Y H _ I h) λv s1 h_=>?_);obtain⟨x,H1,I1,r1,⟨l,xs,ex,el⟩,q1⟩:=h_;obtain⟨h1,h2⟩:=JKS (T:="list") (JCn I1 el) r1 (by rw[ex];exact .inl #[rfl,xs,SqL.of JAF])
 refine#["list",id,PySem.F.plainAttrs_list,slot,hty,h1,h2,?_];have hA:=ha cpos zp s1 Y H1 _ I1 q1;rw[hs]at hA ⊢;refine Calls.callWith_builtin (by show(false || (backTo cpos (starEach es X.env)).any (·.1))=false;rw[hplain]<;>rfl) (Calls.evalArgs_plain ?_)
 exact thn hA λus s2 ⟨vs,H2,I2,r2,q2⟩=>hm zp s2 Y H2 x vs v us Q I2 r1 r2 q2
def JOZ{st:Stmt}{t:TS}(h:PS X st t):PS X st (λD Y H=>t { D with nx:=λY H=>∃l xs,H l=some (.lst xs)/\D.nx Y (upd H l (.ext (LsAt l xs))) } Y H):=by
 intro zp s Y H D I k;refine thn (h zp s Y H _ I k) λf s1 q=>?_;cases f with
 |next=>obtain⟨Y',H1,J,l,xs,e,q⟩:=q;exact#[Y',_,JD2 J e,q]
 |brk=>exact q
 |cont=>exact q
 |ret u=>exact q
end
section
variable{κ:Kl}{B:Bs}{XX:Nat->Hp->Prop}{ρ ρ':Tb}{H H':Hp}{X:Cx}{C:Ta->Cn}{f3:F3}{CX:CXT}{G:Lz}{L:List (Str×GK3)}{r:Rec}{c:Fs}{fs:List (Str×V)}
def JDm{α:Type}{f g:Str}{b:α}{l:List (Str×α)}:((f,b)::l).lookup g=if g=f then some b else l.lookup g:=by
 by_cases h:g=f
 ·have hb:(g==f)=true:=beq_iff_eq.mpr h;simp![List.lookup,hb,if_pos h]
 ·have hb:(g==f)=false:=beq_eq_false_iff_ne.mpr h;simp![List.lookup,hb,if_neg h]
def RecOk.putL(h:RecOk κ B r c fs H){f:Str}{l:Addr}{d0:D}{o0:HO}(hon:κ.on.contains f=true)(hl:H l=none)(e1:H' l=some o0)(ho:OwnHO (bare B) H' l d0 o0)(e2:H' r.a=some (.ins κ.C r.dx (putF f (.ref l) fs)))(st:∀b o,H b=some o->b≠r.a->H' b=some o) :
  RecOk κ B #[r.a,r.dx,(f,l)::r.ow] (JBL f d0 c) (putF f (.ref l) fs) H':=by
 have kp:Kpt H H':=λb o e n=>st b o e λz=>by
  rw[z,h.ins]at e;cases e;exact n trivial
 have kx:∀b c,H b=some (.ext (ExcAt b c))->H' b=some (.ext (ExcAt b c)):=λb c e=>st b _ e λz=>by
  rw[z,h.ins]at e;cases e
 refine#[e2,st _ _ h.own h.dx_ne,JGt f _ _ fs c h.keys,λg d' e=>?_,λb hb=>?_,?_]
 ·rw[JBo]at e;rw[JCR]
  split at e
  ·rename_i z;cases e;refine#[.ref l,if_pos z,?_];subst z;unfold JCo;rw[hon];exact#[l,by show((g,l)::r.ow).lookup g=_;rw[JDm,if_pos rfl],rfl,o0,e1,ho]
  ·rename_i z;obtain⟨w,e3,q⟩:=h.fld g d' e;refine#[w,by rw[if_neg z];exact e3,?_]
   have q':=JG8 (H':=H') kp kx (λ_ b o q1 e2=>st b o e2 (h.ow_ne (List.mem_map.mpr #[(g,b),PySem.mem_of_lookup q1,rfl])).1) q;unfold JCo at q' ⊢
   revert q'
   cases κ.on.contains g with
   |false=>exact λq=>q
   |true=>exact λ⟨b,q1,q2⟩=>#[b,by show((f,l)::r.ow).lookup g=_;rw[JDm,if_neg z];exact q1,q2]
 ·rcases q_n.mp hb with hb|hb
  ·rw[show b=l from hb];exact#[o0,e1,ho.un]
  ·obtain⟨xs,e,u⟩:=h.ow b hb;exact#[xs,st _ _ e (h.ow_ne hb).1,u]
 ·refine List.nodup_cons.mpr #[λhb=>?_,h.no];obtain⟨xs,e,_⟩:=h.ow l hb;rw[hl]at e;cases e
def JHP(g:Gk3 X κ B C f3 CX XX G L){U:Env}{i:Nat}{f:Str}{t d0:D}{u0 o0:HO}{l:Addr}{u:V}{H2:Hp}{N:Hp->Prop}(al:Recs κ B ρ H)(k:K3 κ B XX ρ H (λ_ _ H'=>N H') (fln3 U i f t (pi ρ)))(hl0:look U i=.ok d0)(el:H l=none)(s2:Same (upd H l u0) H2)(du:Den (JAB κ B ρ) H2 d0 u)(hna:NoAttr X.K κ.C f)(hon:κ.on.contains f=true)(hO:∀H,OwnHO (bare B) H l t o0) :
  ∃a C dx fs,u=.ref a/\H2 a=some (.ins C dx fs)/\Cls X.K C/\NoAttr X.K C f/\fs.length<1000/\l≠a/\N (upd (upd H2 a (.ins C dx (putF f (.ref l) fs))) l o0):=by
 unfold fln3 at k;cases q:JBj (pi ρ) U i with
 |none=>rw[q]at k;exact k.elim
 |some z =>
  obtain⟨n,c⟩:=z;rw[q]at k;obtain⟨d1,hl,hd0⟩:=JCS (κ:=κ) (B:=B) q;rw[hl0]at hl;cases hl;have s12:Same H H2:=(JEk el).trans s2;obtain⟨p,fs,e1,e2,rfl,r⟩:=hd0 du;subst e2;obtain⟨fs',r0⟩:=al.at_ p (List.mem_of_getElem? e1);have:fs'=fs:=by
   have:=s12 _ _ r0.ins;rw[r.ins]at this;cases this;rfl
  subst this
  replace k:K3 κ B XX ρ H (λ_ _ H'=>N H') (if (p.2.lookup f).isNone=true/\p.2.length<800 then .ok () ((pi ρ).set n (JBL f t p.2)) else .bad):=k
  split at k
  ·rename_i hb;have hla:l≠p.1.a:=λz=>by rw[z,r0.ins]at el;cases el
   refine#[p.1.a,κ.C,p.1.dx,fs',rfl,r.ins,g.cls,hna,by rw[r.len];omega,hla,?_]
   have st:∀b o,H b=some o->b≠p.1.a->upd (upd H2 p.1.a (.ins κ.C p.1.dx (putF f (.ref l) fs'))) l o0 b=some o:=λb o eo nb=>by
    have:b≠l:=λz=>by rw[z,el]at eo;cases eo
    rw[JAI this,JAI nb];exact s12 _ _ eo
   have new:=r0.putL (H':=upd (upd H2 p.1.a (.ins κ.C p.1.dx (putF f (.ref l) fs'))) l o0) hon el JAF (hO _) (by rw[JAI hla.symm];exact JAF) st
   refine k (ρ.set n (#[p.1.a,p.1.dx,(f,l)::p.1.ow],JBL f t p.2)) _ (JHb al e1 rfl (λb o eo nb=>st b o eo λz=>nb (by rw[z];exact List.mem_cons_self ..)) (λb h=>?_) (λb h nh=>?_) new) JFP
   ·unfold Rec.adr at h ⊢;simp![List.map_cons,q_n]at h ⊢;rcases h with h|h|h
    ·exact .inl h
    ·exact .inr (.inl h)
    ·exact .inr (.inr (.inr h))
   ·unfold Rec.adr at h nh;simp![List.map_cons,q_n]at h nh;rcases h with h|h|h|h
    ·exact absurd (.inl h) nh
    ·exact absurd (.inr (.inl h)) nh
    ·rw[h];exact el
    ·exact absurd (.inr (.inr h)) nh
  ·exact k.elim
def JLm{i:Nat}(k:K3 κ B XX ρ H P (fln3 U i f t (pi ρ))):∃d,look U i=.ok d:=by
 unfold fln3 JBj at k;cases q:look U i with
 |ok d=>exact#[d,rfl]
 |_=>rw[q]at k;exact k.elim
abbrev JK3:Expr->Option D
 |.List [] _=>some (.list [])
 |.Dict [] [] _=>some (.dict [])
 |_=>none
def JSV(g:Gk3 X κ B C f3 CX XX G L){o e:Expr}{i:Nat}{f:Str}{t:D}{pos pos':Pos}(he:JK3 e=some t)(ho:∀ρ,PE X o (RE (JAB κ B ρ) (C (pi ρ)) XX (.var i)))(hna:NoAttr X.K κ.C f)(hon:κ.on.contains f=true)(hs:swapsWith e (some (.Attribute o f pos')) pos.line X.env=pure false):PS X (.Assign [.Attribute o f pos'] e pos) (TP3 κ B XX λU π=>fln3 U i f t π):=by
 rintro zp s Y H D I ⟨ρ,U,al,ok,k⟩
 replace k:K3 κ B XX ρ H (λ_ _ H'=>D.nx Y H') (fln3 U i f t (pi ρ)):=k
 obtain⟨d,hl⟩:=JLm k;unfold JK3 at he
 split at he
 ·cases he;refine JOZ (JMc (ho ρ) (JJk JBQ) hs) zp s Y H D I #[Nat.zero_le _,λl el=>#[U,ok.mono (JEk el),?_]];rw[show ev (C (pi ρ)) (.var i) U=look U i by simp![ev],hl]
  intro u H2 s2 du;obtain⟨a,Cc,dx,fs,e1,e2,e3,e4,e5,e6,e7⟩:=JHP g (o0:=.ext (LsAt l [])) al k hl el s2 du hna hon λH=>#[[],rfl,by simp![DenL]]
  exact#[a,Cc,dx,fs,e1,e2,e3,e4,e5,l,[],by rw[JAI e6];exact s2 _ _ JAF,e7]
 ·cases he;refine JMc (ho ρ) JNk hs zp s Y H D I λl el=>#[U,ok.mono (JEk el),?_];rw[show ev (C (pi ρ)) (.var i) U=look U i by simp![ev],hl]
  intro u H2 s2 du;obtain⟨a,Cc,dx,fs,e1,e2,e3,e4,e5,e6,e7⟩:=JHP g (o0:=.dK []) al k hl el s2 du hna hon λH=>#[[],rfl,by simp![DenK]]
  refine#[a,Cc,dx,fs,e1,e2,e3,e4,e5,?_];rw[JMR (by rw[JAI e6];exact s2 _ _ JAF)]at e7
  exact e7
 ·cases he
end
end VI
end
section
namespace VI
open PySem PySem.Spec PyProof.Rows L2
section
variable{κ:Kl}{B:Bs}{XX:Nat->Hp->Prop}{ρ ρ':Tb}{H H':Hp}{X:Cx}{C:Ta->Cn}{f3:F3}{CX:CXT}{G:Lz}{L:List (Str×GK3)}{r:Rec}{c:Fs}{fs:List (Str×V)}
def JCr{α:Type}{f:Str}{b:α}{l:List (Str×α)}(h:l.lookup f=some b):b∈l.map (·.2):=List.mem_map.mpr #[(f,b),PySem.mem_of_lookup h,rfl]
theorem JG3{f g:Str}{b:Addr}:∀ {l:List (Str×Addr)},(l.map (·.2)).Nodup->l.lookup f=some b->l.lookup g=some b->g=f
 | [],_,h,_=>by cases h
 |(k,x)::l,n,h1,h2=>by
  rw[JDm]at h1 h2;simp![List.map_cons,List.nodup_cons]at n
  split at h1
  · rename_i z1
    split at h2
    ·rename_i z2;rw[z1,z2]
    ·cases h1;exact absurd (JCr h2) n.1
  · split at h2
    ·cases h2;exact absurd (JCr h1) n.1
    ·exact JG3 n.2 h1 h2
end
end VI
end
section
namespace VI
open PySem PySem.Spec PyProof.Rows L2
section
variable{κ:Kl}{B:Bs}{XX:Nat->Hp->Prop}{ρ ρ':Tb}{H H':Hp}{X:Cx}{C:Ta->Cn}{f3:F3}{CX:CXT}{G:Lz}{L:List (Str×GK3)}
def JB3{w:E}{i:Nat}(h:Agr w U U')(hi:w.uses i=true):JBj π U i=JBj π U' i:=by
 unfold JBj look;rw[h i hi]
def JKf{i:Nat}(U U':Env)(π:Ta)(h:Agr (.var i) U U'):fln3 U i f t π=fln3 U' i f t π:=by
 unfold fln3;rw[JB3 h (i:=i) (by simp[E.uses])]
def r_fln(g:Gk3 X κ B C f3 CX XX G L){o e:Expr}{i:Nat}(he:JK3 e=some t)(ho:∀ρ,PE X o (RE (JAB κ B ρ) (C (pi ρ)) XX (.var i)))(hna:NoAttr X.K κ.C f)(hon:κ.on.contains f=true)(hs:swapsWith e (some (.Attribute o f pos')) pos.line X.env=pure false):PS X (.Assign [.Attribute o f pos'] e pos) (RS3 X κ B C f3 XX (.fln i f t)) :=
 PS.imp (JFV (w:=.var i) JKf (JSV g he ho hna hon hs)) λD Y H ⟨ρe,He,ρ,U,O,Hb,hd,st,so,k⟩=>#[ρe,He,ρ,U,O,Hb,hd,st,so,by simpa only[JAS] using k]
end
end VI
end
section
namespace VI
open PySem PySem.Spec PyProof.Rows L2
section
variable{κ:Kl}{B:Bs}{C:Ta->Cn}{f3:F3}{G:Lz}{L:List (Str×GK3)}{P:Program}{w:World}{mg:Mq}{base:Heap}
def JSr{n:Nat}{x q0:Str}{st:Stmt}{f:Addr}{fo:FuncData}{N ps:List Str}{fd:Fd3}(F:Fun B.K x q0 st f fo)(sc:FnScope N ps (JAA st))(hpar:fd.par=ps.length)(hsl:fd.slots=N.length)
  (hb:∀(cdv:Value) (A:Around) (outer:List PySem.Env) (s:Shared) (H:Hp) (E:XK),fo.code=cdv->Room n (A.deeper (envOfC q0 (JAA st) s.heap.objs.size f cdv))->PSs (cxOf (CXV P w B) P w B.K mg base N q0 (JAA st) f cdv A outer s H E) (JAV st) (RS3 (cxOf (CXV P w B) P w B.K mg base N q0 (JAA st) f cdv A outer s H E) κ B C f3 (XXd B E) fd.body)) :
  FnOk P w B.K mg base (CXV P w B) (n+1) f fo ps (stSp κ B ps.length (JCW C f3 fd)):=by
 obtain⟨oc,od,kV,doc,pm,an,cdv,ct,osl,rfl,lk,hcd⟩:=F.ex;refine JOL lk hcd sc (λvs H Q E q=>q.1) λA outer s H vs Q E hr q=>?_;obtain⟨hl,ρ,ds,al,dn,q⟩:=q;refine#[_,hb cdv A outer s H E rfl hr,ρ,H,ρ,_,_,H,Dm.refl H,.same al (Same.refl H),JB7 dn rfl ?_,?_]
 ·have:=congrArg List.length sc.pre;rw[List.length_take]at this;omega
 have hlen:=DenL.len ds vs dn;have hpl:ps.length<=N.length:=by have:=congrArg List.length sc.pre;rw[List.length_take]at this;omega
 unfold JCW at q;rw[if_pos (by rw[hpar];omega)]at q
 rw[show fd.slots - fd.par=N.length - ds.length by rw[hsl,hpar];omega]at q
 cases he:JAS C f3 fd.body (ds.map Sl.val++List.replicate (N.length - ds.length) Sl.no) (pi ρ) with
 |nx U π =>
  rw[he]at q;exact λρ' Y' H' O' Hb' e st' so'=>q ρ' H' (st'.then so'.same) e .non (by simp![Den])
 |rt d π =>
  rw[he]at q;exact λρ' v H' e st' dn'=>q ρ' H' st' e v dn'
 |ex c π =>
  rw[he]at q;exact λρ' H' e st' H2 s2=>q ρ' H2 (st'.then s2) e
 |bk U π=>rw[he]at q;exact q.elim
 |ct U π=>rw[he]at q;exact q.elim
 |bad=>rw[he]at q;exact q.elim
def JQG{n:Nat}{x q0:Str}{st:Stmt}{f:Addr}{fo:FuncData}{N ps:List Str}{fd:Fd}{C:Cn}(F:Fun B.K x q0 st f fo)(sc:FnScope N ps (JAA st))(hpar:fd.par=ps.length)(hsl:fd.slots=N.length)
  (hb:∀(cdv:Value) (A:Around) (outer:List PySem.Env) (s:Shared) (H:Hp) (E:XK),Room n (A.deeper (envOfC q0 (JAA st) s.heap.objs.size f cdv))->PSs (cxOf (CXV P w B) P w B.K mg base N q0 (JAA st) f cdv A outer s H E) (JAV st) (RSt (cxOf (CXV P w B) P w B.K mg base N q0 (JAA st) f cdv A outer s H E) B C (XXd B E) fd.body)) :
  FnOk P w B.K mg base (CXV P w B) (n+1) f fo ps (JBR B ps.length (JCe true C fd)):=by
 obtain⟨oc,od,kV,doc,pm,an,cdv,ct,osl,rfl,lk,hcd⟩:=F.ex;refine JOL lk hcd sc (λvs H Q E q=>q.1) λA outer s H vs Q E hr q=>?_;obtain⟨hl,ds,dn,q⟩:=q;have hlen:=DenL.len ds vs dn;have hpl:ps.length<=N.length:=by have:=congrArg List.length sc.pre;rw[List.length_take]at this;omega
 refine#[_,hb cdv A outer s H E hr,_,_,H,Dm.refl H,JB7 dn rfl ∅,?_]
 simp![JCe]at q;rw[if_pos (by rw[hpar];omega)]at q
 rw[show fd.slots - fd.par=N.length - ds.length by rw[hsl,hpar];omega]at q
 split at q
 ·rename_i r d hd
  split at hd
  · rename_i U he
    cases hd;rw[he];exact λY' H' O' so'=>q .non H' so'.same (by simp![Den])
  · rename_i d' he
    cases hd;rw[he];exact λv H' sm dn'=>q v H' sm dn'
  · simp at hd
  · cases hd
 ·rename_i r c hd
  split at hd
  · cases hd
  · cases hd
  · rename_i c' he
    simp![if_true,R.exc.injEq]at hd;subst hd;rw[he];exact q
  · cases hd
 ·exact q.elim
end
end VI
end
section
namespace VI
open PySem PySem.Spec PyProof.Rows L2
abbrev JOC(L:List (Str×GK3))(names:Nq)(x:Str):Option GK3 :=
 if JAT x=true then none else if names.lookup x=some .globalImplicit then L.lookup x else none
def JEj{L:List (Str×GK3)}(h:JOC L names x=some k):JAT x=false/\names.lookup x=some .globalImplicit/\L.lookup x=some k:=by
 unfold JOC at h
 split at h
 ·cases h
 ·rename_i hb
  split at h
  ·rename_i hg;exact#[by simpa using hb,hg,h]
  ·cases h
abbrev noArgs(a:Arguments):Bool:=a.posonlyargs.isEmpty&&a.args.isEmpty&&a.vararg.isNone&&a.kwonlyargs.isEmpty&&a.kw_defaults.isEmpty&&a.kwarg.isNone&&a.defaults.isEmpty
abbrev JL0(outer:Nq)(params:Arguments)(sc:Scope):Bool :=
 noArgs params&&(sc.kind==.function)&&!sc.isCoroutine&&!sc.isGenerator&&sc.names.all λy=>y.2 != .local&&y.2 != .cell&&(y.2 != .free || (outer.lookup y.1==some .cell || outer.lookup y.1==some .free))
abbrev JPl:List Expr->Option (Arguments×Expr×Scope)
 | [.Lambda params body sc _]=>some (params,body,sc)
 |_=>none
abbrev JBW(L:List (Str×GK3))(names:Nq)(f:Expr->Option E)(lm:Option (Nq->Expr->Option E)):Nat->Expr->Option V3
 |0,_=>none
 |n+1,e=>match e with
  |.Call (.Name nm _) args [] _=>(match JOC L names nm with
   |some (.fn i)=>if args.isEmpty=true then none else (JAM f args).map (V3.cal i)
   |some (.mak i)=>(JAM f args).map (V3.mak i)
   |some (.met _)=>none
   |some (.tld cg fdc)=>lm.bind λf'=>(JPl args).bind λq=>if JL0 names q.1 q.2.2=true then (JBW L q.2.2.names (f' q.2.2.names) none n q.2.1).map (V3.tol cg fdc) else none
   |none=>(f e).map V3.pur)
  |.IfExp c a b _=>(match f e with
   |some y=>some (.pur y)
   |none=>(f c).bind λz=>(JBW L names f lm n a).bind λx=>(JBW L names f lm n b).map (V3.ife z x))
  |.Call (.Attribute o m ap) args [] cp=>(match L.lookup m with
   |some (.met i)=>if JAU o=false/\(ap.endLine==cp.line)=true/\¬20<args.length then (f o).bind λx=>(JAM f args).map (V3.met i m x) else none
   |_=>(f e).map V3.pur)
  |_=>(f e).map V3.pur
abbrev JCs(L:List (Str×GK3))(names:Nq)(f:Expr->Option E)(lm:Option (Nq->Expr->Option E)):Nat->Expr->Option T3
 |0,_=>none
 |n+1,e=>match f e with
  |some x=>some (.pur x)
  |none=>match e with
   |.Compare a [op] [b] _=>if behindInMarks op b=false then (JBW L names f lm 5 a).bind λx=>(f b).map (T3.cmp op x) else none
   |.BoolOp .Or [a,b] _=>(JCs L names f lm n a).bind λx=>(JCs L names f lm n b).map (T3.or x)
   |.BoolOp .Or [a,b,c] _=>(JCs L names f lm n a).bind λx=>(JCs L names f lm n b).bind λy=>(JCs L names f lm n c).map λz=>T3.or x (T3.or y z)
   |_=>none
section
variable{κ:Kl}{B:Bs}{XX:Nat->Hp->Prop}{X:Cx}{C:Ta->Cn}{f3:F3}{CX:CXT}{G:Lz}{L:List (Str×GK3)}{names:Nq}{N:List Str}{n0:Nat}
def pa3(g:Gk3 X κ B C f3 CX XX G L)(hE:∀ρ e x,JAL G n0 false names N e=some x->PE X e (RE (JAB κ B ρ) (C (pi ρ)) XX x))(h:JAM (JAL G n0 false names N) es=some x)(ρ:Tb):PA X es (RA (JAB κ B ρ) (C (pi ρ)) XX x):=JJj (pes (hE ρ) h) (g.g ρ) (JDO h)
def LamP(X:Cx)(κ:Kl)(B:Bs)(C:Ta->Cn)(f3:F3)(XX:Nat->Hp->Prop)(L:List (Str×GK3))(names:Nq)(f':Nq->Expr->Option E):Prop:=∀(tn:Str) (cg:Nat) (fdc:Fd) (params:Arguments) (body:Expr) (sc:Scope) (x:V3) (n:Nat) (p lp pos:Pos),L.lookup tn=some (.tld cg fdc)->names.lookup tn=some .globalImplicit->JAT tn=false->JL0 names params sc=true->JBW L sc.names (f' sc.names) none n body=some x->PE X (.Call (.Name tn p) [.Lambda params body sc lp] [] pos) (RE3 κ B C f3 XX (.tol cg fdc x))
theorem JDw(g:Gk3 X κ B C f3 CX XX G L)(hk:X.env.scope.kind=.function)(hn:X.env.scope.names=names)(hE:∀ρ e x,JAL G n0 false names N e=some x->PE X e (RE (JAB κ B ρ) (C (pi ρ)) XX x))(hT:∀ρ e x,JAL G n0 false names N e=some x->PT X e (RT (JAB κ B ρ) (C (pi ρ)) XX x))(hlm:∀f',lm=some f'->LamP X κ B C f3 XX L names f') :
  ∀(n:Nat) (e:Expr) (x:V3),JBW L names (JAL G n0 false names N) lm n e=some x->PE X e (RE3 κ B C f3 XX x)
 |0,e,x,h=>by simp![JBW]at h;cases h
 |n+1,e,x,h=>by
  have pur:∀ {e:Expr}{x:V3},(JAL G n0 false names N e).map V3.pur=some x->PE X e (RE3 κ B C f3 XX x):=λ{e x} h=>by
   obtain⟨y,h1,rfl⟩:=q_d.mp h;exact JNC λρ=>hE ρ e y h1
  have gl:∀ {x:Str},names.lookup x=some .globalImplicit->Gl X x:=λ{x} h=>by
   unfold Gl;rw[show X.env.kindOf x=X.env.scope.names.lookup x from rfl,hn];exact h
  have h0:∀ {es:List Expr}{x:E},JAM (JAL G n0 false names N) es=some x->es=[]->x=.nil:=λ{es x} h e=>by subst e;unfold JAM at h;cases h;rfl
  unfold JBW at h
  split at h
  ·rename_i nm p args pos
   split at h
   ·rename_i i hg;obtain⟨b1,b2,b3⟩:=JEj hg
    split at h
    ·cases h
    ·rename_i hne;obtain⟨y,h1,rfl⟩:=q_d.mp h;cases args with
     |nil=>exact absurd rfl hne
     |cons a r=>exact JQu g (gl b2) b3 b1 (pa3 g hE h1) (JDO h1 a (List.mem_cons_self ..) r X.env) (JB9 λb hb=>JDO h1 b (q_s _ hb)).2
   ·rename_i i hg;obtain⟨b1,b2,b3⟩:=JEj hg;obtain⟨y,h1,rfl⟩:=q_d.mp h;exact JQ8 g (gl b2) b3 b1 (h0 h1) (pa3 g hE h1) (JDO h1)
   ·cases h
   ·rename_i cg fdc hg;obtain⟨b1,b2,b3⟩:=JEj hg;obtain⟨f',hf,h⟩:=q_a.mp h;obtain⟨q,hq,h⟩:=q_a.mp h
    split at h
    case isFalse=>cases h
    rename_i hl;obtain⟨y,h1,rfl⟩:=q_d.mp h;unfold JPl at hq
    split at hq
    case h_2=>cases hq
    cases hq;exact hlm f' hf _ _ _ _ _ _ _ _ _ _ _ b3 b2 b1 hl h1
   ·exact pur h
  ·split at h
   ·rename_i y h1;cases h;exact JNC λρ=>hE ρ _ y h1
   ·obtain⟨z,h0,h⟩:=q_a.mp h;obtain⟨y,h1,h⟩:=q_a.mp h;obtain⟨u,h2,rfl⟩:=q_d.mp h;exact JRq (λρ=>hT ρ _ z h0) (JDw g hk hn hE hT hlm n _ y h1) (JDw g hk hn hE hT hlm n _ u h2)
  ·rename_i o m ap args cp
   split at h
   ·rename_i i hl
    split at h
    ·rename_i hc;obtain⟨c1,c2,c3⟩:=hc;obtain⟨y,h1,h⟩:=q_a.mp h;obtain⟨y',h2,rfl⟩:=q_d.mp h;exact JTI g hl c1 c2 c3 (h0 h2) (λρ=>hE ρ o y h1) (pa3 g hE h2) (JDO h2)
    ·cases h
   ·exact pur h
  ·exact pur h
theorem JC9(g:Gk3 X κ B C f3 CX XX G L)(hk:X.env.scope.kind=.function)(hn:X.env.scope.names=names)(hE:∀ρ e x,JAL G n0 false names N e=some x->PE X e (RE (JAB κ B ρ) (C (pi ρ)) XX x))(hT:∀ρ e x,JAL G n0 false names N e=some x->PT X e (RT (JAB κ B ρ) (C (pi ρ)) XX x))(hlm:∀f',lm=some f'->LamP X κ B C f3 XX L names f')
  : ∀(n:Nat) (e:Expr) (x:T3),JCs L names (JAL G n0 false names N) lm n e=some x->PT X e (RT3 κ B C f3 XX x)
 |0,e,x,h=>by simp![JCs]at h;cases h
 |n+1,e,x,h=>by
  unfold JCs at h
  split at h
  ·rename_i y h1;cases h;exact JS7 λρ=>hT ρ e y h1
  ·split at h
   ·split at h
    ·rename_i hm;obtain⟨y,h1,h⟩:=q_a.mp h;obtain⟨z,h2,rfl⟩:=q_d.mp h;exact JQD g (JDw g hk hn hE hT hlm _ _ y h1) (λρ=>hE ρ _ z h2) hm
    ·cases h
   ·obtain⟨y,h1,h⟩:=q_a.mp h;obtain⟨z,h2,rfl⟩:=q_d.mp h;exact(JNt (JC9 g hk hn hE hT hlm n _ y h1) (JJm (JC9 g hk hn hE hT hlm n _ z h2))).pt
   ·obtain⟨y,h1,h⟩:=q_a.mp h;obtain⟨z,h2,h⟩:=q_a.mp h;obtain⟨u,h3,rfl⟩:=q_d.mp h;exact(JNt (JC9 g hk hn hE hT hlm n _ y h1) (JNt (JC9 g hk hn hE hT hlm n _ z h2) (JJm (JC9 g hk hn hE hT hlm n _ u h3)))).pt
   ·cases h
end
end VI
end
section
namespace VI
open PySem PySem.Spec PyProof.Rows L2
section
variable{κ:Kl}{B:Bs}{XX:Nat->Hp->Prop}{X:Cx}{C:Ta->Cn}{f3:F3}{CX:CXT}{G:Lz}{L:List (Str×GK3)}
abbrev evL3(C:Ta->Cn)(f3:F3)(v:V3)(es:E)(U:Env)(π:Ta):R3 (List D):=(ev3 C f3 U v π).bind λd π'=>((evA (C π') es U).at π').bind λds π'=>.ok (d::ds) π'
def RA3(κ:Kl)(B:Bs)(XX:Nat->Hp->Prop)(F:Env->Ta->R3 (List D)):TA:=λY H Q=>∃ρ U,Recs κ B ρ H/\Sok (JAB κ B ρ) Y H U/\K3 κ B XX ρ H (λds ρ' H'=>∀vs,DenL (JAB κ B ρ') H' ds vs->Q vs H') (F U (pi ρ))
def JNn{e:Expr}(he:PE X e (RE3 κ B C f3 XX v))(ha:∀ρ,PA X es (RA (JAB κ B ρ) (C (pi ρ)) XX y))(hs:starEach (e::es) X.env=(false,eval e X.env)::starEach es X.env):PA X (e::es) (RA3 κ B XX (evL3 C f3 v y)):=by
 have ha':PA X es (λY H Q=>∃ρ,RA (JAB κ B ρ) (C (pi ρ)) XX y Y H Q):=λpos zp s Y H Q I ⟨ρ,h⟩=>ha ρ pos zp s Y H Q I h;refine PA.imp (JAz he ha' hs) λY H Q h_=>?_;obtain⟨ρ,U,al,ok,k⟩:=h_;refine r3_V al ok (show K3 κ B XX ρ H _ ((ev3 C f3 U v (pi ρ)).bind _) from k) λd u ρ' H' st dn h1=>#[ρ',?_];refine r3_A st.all (st.sok al ok) h1 λds vs H2 s2 d2 h2=>?_;exact h2 ρ' H2 (.same (st.all.mono s2) (Same.refl _)) rfl (u::vs) (by simp![DenL];exact#[u,vs,rfl,Den.mono s2 _ _ dn,d2])
def RVA3(X:Cx)(κ:Kl)(B:Bs)(XX:Nat->Hp->Prop)(w:E)(F:Env->Ta->R3 (List D)):TA:=λY H Q=>∃ρe He ρ U O Hb,Dm X.H₀ He/\StepR κ B ρe He ρ Hb/\SO (JAB κ B ρ) Hb Y H U O/\K3s κ B XX ρe He Y (JAJ w 0 U) (λds ρ' H' O' Hb'=>∀vs,DenL (JAB κ B ρ') Hb' ds vs->Q vs H') (F (JAJ w 0 U) (pi ρ))
def JOW{w:E}{F:Env->Ta->R3 (List D)}(hw:∀U U' π,Agr w U U'->F U π=F U' π)(he:PA X es (RA3 κ B XX F)):PA X es (RVA3 X κ B XX w F):=by
 rintro pos zp s Y H Q I ⟨ρe,He,ρ,U,O,Hb,hd,st,so,k⟩;have so1:=JE0 so w;generalize hU:JAJ w 0 U=U1 at *;have J0:=JBF (ps:=JBi w (frzO w O) U1.length s.heap) I (JAl (x:=w) (hd.dm st.dm) so1) JAo;have hev:=hw U1 (JAb w 0 U1) (pi ρ) JBE;have sm:Same Hb (hidP H (unP w (frzO w O))):=(JAX so1).trans same_un;have st1:=st.then sm;refine thn (he pos _ s Y _ (λvs H1=>∃ρ' ds π,F U1 (pi ρ)=.ok ds π/\StepR κ B ρ (hidP H (unP w (frzO w O))) ρ' H1/\pi ρ'=π/\DenL (JAB κ B ρ') H1 ds vs) J0 #[ρ,JAb w 0 U1,st1.all,JAi so1,?_]) λu s1 ⟨v,H1,J,r,ρ',d,π,q,st2,hpi,dn⟩=>?_
 ·rw[<-hev];cases q:F U1 (pi ρ) with
  |ok d π=>exact λρ' H' s' e v dn=>#[ρ',d,π,rfl,s',e,dn]
  |exc c π=>rw[q]at k;exact λρ' H' s' e=>k ρ' H' e (st1.trans s')
  |bad=>rw[q]at k;exact k
 ·obtain⟨I',hz⟩:=JAn I J (JAl (hd.dm st.dm) so1) (JAj I so1);obtain⟨so2,eh⟩:=JFD so1 (λb=>JHX) st1.all st2 hz;rw[q]at k;exact#[v,_,I',r,k ρ' _ _ H1 hpi (st1.trans st2) so2 eh v dn]
def JKc(U U':Env)(π:Ta)(h:Agr (.cons v.toE y) U U'):evL3 C f3 v y U π=evL3 C f3 v y U' π:=by
 have h1:=JIS (C:=C) (f3:=f3) v U U' λi hi=>h i (by simp![E.uses];exact ub_l hi)
 have h2:∀π,evA (C π) y U=evA (C π) y U':=λπ=>(agree (C π) y U U' λi hi=>h i (by simp![E.uses];exact ub_r hi)).2.2.1
 simp![evL3,h1,h2]
def r_unp{st:Stmt}{e:Expr}{es:List Expr}{v:V3}{y:E}{is:List Nat}(he:PE X e (RE3 κ B C f3 XX v))(ha:∀ρ,PA X es (RA (JAB κ B ρ) (C (pi ρ)) XX y))(hs:starEach (e::es) X.env=(false,eval e X.env)::starEach es X.env)(hl:is.length<=1000)(hp:∀ta,PA X (e::es) ta->PS X st (JNp is ta)):PS X st (RS3 X κ B C f3 XX (.unp is v y)):=by
 refine PS.imp (hp _ (JOW (w:=.cons v.toE y) JKc (JNn he ha hs))) λD Y H ⟨ρe,He,ρ,U,O,Hb,hd,st,so,k⟩=>#[ρe,He,ρ,U,O,Hb,hd,st,so,?_];simp![JAS]at k;simp![evL3];cases q:ev3 C f3 (JAJ (.cons v.toE y) 0 U) v (pi ρ) with
 |bad=>rw[q]at k;exact k
 |exc c π=>rw[q]at k;exact k
 |ok d π =>
  rw[q]at k;simp![R3.bind,step3]at k ⊢;cases q2:evA (C π) y (JAJ (.cons v.toE y) 0 U) with
  |bad=>rw[q2]at k;exact k
  |exc c=>rw[q2]at k;exact k
  |ok ds =>
   rw[q2]at k;simp![R.at]at k ⊢
   split at k
   ·rename_i hn;intro ρ' H' O' Hb' e st' so' eh vs dn;have hv:=DenL.len _ _ dn;simp![List.length_cons]at hv;refine#[by omega,by omega,λH2 hH=>?_]
    rcases hH with rfl|⟨p,hp,rfl⟩
    ·obtain⟨O2,so2⟩:=JB2 is (d::ds) vs so' (by rw[eh];exact dn)
     exact k ρ' _ _ O2 Hb' e st' so2
    ·have so3:=JHW (o:=.tup vs) so' hp;obtain⟨O2,so2⟩:=JB2 is (d::ds) vs so3 (DenL.mono (JAX so3) _ _ dn);exact k ρ' _ _ O2 Hb' e st' so2
   ·exact k.elim
end
end VI
end
section
namespace VI
open PySem PySem.Spec PyProof.Rows L2
section
variable{X:Cx}
def rOwn(r:V->List V->Hp->VK->Prop):V->List V->Hp->VK->Prop:=λx vs H Q=>∃l xs,x=.ref l/\H l=some (.ext (LsAt l xs))/\r x vs (upd H l (.lst xs)) λw H2=>∃ys,H2=upd (upd H l (.lst xs)) l (.lst ys)/\Q w (upd H l (.ext (LsAt l ys)))
def JMz{id:String}{r:V->List V->Hp->VK->Prop}(hm:MtM X id r):MtR X id (rOwn r):=by
 rintro zp s Y H x vs v us Q I rx rv ⟨l,xs,ex,hH,h⟩;subst ex;refine thn (hm zp s Y _ _ _ v us _ (JCn I hH) rx rv h) λw s1 h_=>?_;obtain⟨y,H1,I1,r1,ys,e,q⟩:=h_;subst e;rw[JGX]at I1;have I2:=JD2 I1 JAF;rw[JGX]at I2;exact#[_,_,I2,r1,q]
def tBML0(r:V->List V->Hp->VK->Prop)(to:TE):TE:=λY H Q=>to Y H λx H1=>(∃l xs,x=.ref l/\H1 l=some (.ext (LsAt l xs)))/\r x [] H1 Q
def JOV{o:Expr}{to:TE}{name:Str}{apos cpos:Pos}{id:String}{r:V->List V->Hp->VK->Prop}(slot:Slot "list" name id)(hty:typeOf (.builtin id)=pure (.type "method_descriptor"))(hm:MtR X id r)(ho:PE X o to)
  (hbase:attributeBase o name X.env (eval o X.env)=eval o X.env) (hline:(apos.endLine==cpos.line)=true):PE X (.Call (.Attribute o name apos) [] [] cpos) (tBML0 r to):=by
 intro zp s Y H Q I h;refine wpAny_Call_method0_late hbase hline (thn (ho zp s Y H _ I h) λv s1 h_=>?_);obtain⟨x,H1,I1,r1,⟨l,xs,ex,el⟩,q1⟩:=h_;obtain⟨h1,h2⟩:=JKS (T:="list") (JCn I1 el) r1 (by rw[ex];exact .inl #[rfl,xs,SqL.of JAF])
 exact#["list",id,PySem.F.plainAttrs_list,slot,hty,h1,h2,Calls.callWith_builtin rfl (PySem.evalArgs_none (hm zp s1 Y H1 x [] v [] Q I1 r1 .nil q1))]
end
section
variable{κ:Kl}{B:Bs}{XX:Nat->Hp->Prop}{ρ ρ':Tb}{H H':Hp}{X:Cx}{C:Ta->Cn}{f3:F3}{CX:CXT}{G:Lz}{L:List (Str×GK3)}{r:Rec}{c:Fs}{fs:List (Str×V)}
def RecOk.chg(h:RecOk κ B r c fs H){l:Addr}(hon:κ.on.contains f=true)(hc:c.lookup f=some d0)(hw:r.ow.lookup f=some l)(hf:fs.lookup f=some (.ref l))(hl:H l=some o)(hu:UnO l o)(ho:OwnHO (bare B) H l d1 o') :
  RecOk κ B r (JBL f d1 c) fs (upd H l o'):=by
 have st:∀b o,H b=some o->b≠l->upd H l o' b=some o:=λb o e n=>by rw[JAI n];exact e
 have kp:Kpt H (upd H l o'):=λb u q n=>st b u q λz=>by rw[z,hl]at q;cases q;exact n hu.uns.1
 have kx:∀b c,H b=some (.ext (ExcAt b c))->upd H l o' b=some (.ext (ExcAt b c)):=λb c e=>st b _ e λz=>by rw[z,hl]at e;cases e;exact(z▸hu).uns.2 c rfl
 have hne:=h.ow_ne (JCr hw);refine#[st _ _ h.ins hne.1.symm,st _ _ h.own hne.2.symm,h.keys.trans (JDC hc).symm,λg d' e=>?_,λb hb=>?_,h.no]
 ·rw[JBo]at e
  split at e
  ·rename_i z;cases e;subst z;refine#[.ref l,hf,?_];unfold JCo;rw[hon];exact#[l,hw,rfl,o',JAF,ho.off rfl rfl rfl kp kx λ_ _ z=>z]
  ·rename_i z;obtain⟨w,e3,q⟩:=h.fld g d' e;refine#[w,e3,JG8 kp kx (λ_ b o q1 e2=>st b o e2 λy=>z ?_) q];rw[y]at q1;exact JG3 h.no hw q1
 ·by_cases z:b=l
  ·rw[z];exact#[_,JAF,ho.un]
  ·obtain⟨us,e,u⟩:=h.ow b hb;exact#[us,st _ _ e z,u]
def JDP(al:Recs κ B ρ H){n:Nat}(e1:ρ[n]? = some p){fs:List (Str×V)}(q:RecOk κ B p.1 p.2 fs H){l:Addr}(hon:κ.on.contains f=true)(hc:p.2.lookup f=some d0)(hw:p.1.ow.lookup f=some l)(hf:fs.lookup f=some (.ref l))(hl:H l=some o)(hu:UnO l o)(ho:OwnHO (bare B) H l d1 o') :
  StepR κ B ρ H (ρ.set n (p.1,JBL f d1 p.2)) (upd H l o') :=
 JHb al e1 rfl (λb o eo nb=>by
  have z:b≠l:=λz=>nb (by rw[z];exact q_s _ (q_s _ (JCr hw)))
  rw[JAI z];exact eo) (λb h=>h) (λb h n=>absurd h n) (q.chg hon hc hw hf hl hu ho)
def JQf(g:Gk3 X κ B C f3 CX XX G L){o e:Expr}{i:Nat}(hc0:JAU o=false)(ho:∀ρ,PE X o (RE (JAB κ B ρ) (C (pi ρ)) XX (.var i)))(hv:∀ρ,PE X e (RE (JAB κ B ρ) (C (pi ρ)) XX x))(hna:NoAttr X.K κ.C f)(hon:κ.on.contains f=true)(hs:starEach [e] X.env=[(false,eval e X.env)])(hl:(ap.endLine==cp.line)=true) :
  PS X (.Expr (.Call (.Attribute (.Attribute o f p1) "append" ap) [e] [] cp) pos) (TP3 κ B XX λU π=>app3 C U i f x π):=by
 rintro zp s Y H D I ⟨ρ,U,al,ok,k⟩;refine JDu (JRk PySem.F.slot_list_append PySem.F.type_list_append (JMz JIc) (JEf (ho ρ) (JAt hc0 _ _ _)) (JAz (hv ρ) JBQ hs) (JAt rfl _ _ _) (few1 hs) hl hs rfl) rfl zp s Y H D I ?_
 replace k:K3 κ B XX ρ H (λ_ _ H'=>D.nx Y H') (app3 C U i f x (pi ρ)):=k
 unfold app3 at k;cases q:JBj (pi ρ) U i with
 |none=>rw[q]at k;exact k.elim
 |some z =>
  obtain⟨n,c⟩:=z;rw[q]at k;obtain⟨d0,hl,hd0⟩:=JCS (κ:=κ) (B:=B) q;refine#[U,ok,?_];rw[show ev (C (pi ρ)) (.var i) U=look U i by simp![ev],hl]
  intro u H1 s1 du;obtain⟨p,fs,e1,e2,rfl,r⟩:=hd0 du;subst e2;simp only at k
  split at k
  ·rename_i ds hds;obtain⟨v,hf,fo⟩:=r.fld f _ hds;unfold JCo at fo;rw[hon]at fo;obtain⟨l,hw,rfl,_,hx,xs,rfl,d1⟩:=fo;refine#[p.1.a,κ.C,p.1.dx,fs,.ref l,rfl,r.ins,g.cls,hna,hf,#[l,xs,rfl,hx],?_];refine r3_E (al.mono s1) (ok.mono s1) (K3.step (.same al s1) k) λd w H2 s2 d2 h2=>?_
   split at h2
   ·rename_i hb;have r2:=r.mono s2;have hx2:=s2 _ _ hx;have d1':=DenL.mono s2 _ _ d1;have al2:=(al.mono s1).mono s2;refine#[l,xs,rfl,hx2,l,xs,w,rfl,rfl,JAF,by rw[<-DenL.len ds xs d1,sizeLine_eq];exact hb.2,xs++[w],rfl,?_]
    exact h2 _ _ (JDP (d1:=.list (ds++[d])) al2 e1 r2 hon hds hw hf hx2 (.inl #[_,rfl]) #[_,rfl,DenL.append ds [d] xs [w] d1' (by simp![DenL];exact#[w,[],rfl,JEi d w hb.1 d2,rfl])]) JFP
   ·exact h2.elim
  ·exact k.elim
def JSj(g:Gk3 X κ B C f3 CX XX G L){i:Nat}(hc0:JAU o=false)(ho:∀ρ,PE X o (RE (JAB κ B ρ) (C (pi ρ)) XX (.var i)))(hna:NoAttr X.K κ.C f)(hon:κ.on.contains f=true)(hl:(ap.endLine==cp.line)=true) :
  PS X (.Expr (.Call (.Attribute (.Attribute o f p1) "clear" ap) [] [] cp) pos) (TP3 κ B XX λU π=>clr3 U i f π):=by
 rintro zp s Y H D I ⟨ρ,U,al,ok,k⟩;refine JDu (JOV PySem.F.slot_list_clear PySem.F.type_list_clear (JMz JKv) (JEf (ho ρ) (JAt hc0 _ _ _)) (JAt rfl _ _ _) hl) rfl zp s Y H D I ?_
 replace k:K3 κ B XX ρ H (λ_ _ H'=>D.nx Y H') (clr3 U i f (pi ρ)):=k
 unfold clr3 at k;cases q:JBj (pi ρ) U i with
 |none=>rw[q]at k;exact k.elim
 |some z =>
  obtain⟨n,c⟩:=z;rw[q]at k;obtain⟨d0,hl,hd0⟩:=JCS (κ:=κ) (B:=B) q;refine#[U,ok,?_];rw[show ev (C (pi ρ)) (.var i) U=look U i by simp![ev],hl]
  intro u H1 s1 du;obtain⟨p,fs,e1,e2,rfl,r⟩:=hd0 du;subst e2;simp only at k
  split at k
  ·rename_i ds hds;obtain⟨v,hf,fo⟩:=r.fld f _ hds;unfold JCo at fo;rw[hon]at fo;obtain⟨l,hw,rfl,_,hx,xs,rfl,d1⟩:=fo;refine#[p.1.a,κ.C,p.1.dx,fs,.ref l,rfl,r.ins,g.cls,hna,hf,#[l,xs,rfl,hx],l,xs,rfl,hx,l,xs,rfl,rfl,JAF,[],rfl,?_];exact k _ _ ((StepR.same al s1).trans (JDP (d1:=.list []) (al.mono s1) e1 r hon hds hw hf hx (.inl #[_,rfl]) #[[],rfl,by simp![DenL]])) JFP
  ·exact k.elim
def JLT{i:Nat}(U U':Env)(π:Ta)(h:Agr (.cons (.var i) x) U U'):app3 C U i f x π=app3 C U' i f x π:=by
 unfold app3;rw[JB3 h (i:=i) (by simp[E.uses]),(agree (C π) x U U' λj hj=>h j (by simp![E.uses];exact ub_r hj)).1]
def r_app(g:Gk3 X κ B C f3 CX XX G L){o e:Expr}{i:Nat}(hc0:JAU o=false)(ho:∀ρ,PE X o (RE (JAB κ B ρ) (C (pi ρ)) XX (.var i)))(hv:∀ρ,PE X e (RE (JAB κ B ρ) (C (pi ρ)) XX x))(hna:NoAttr X.K κ.C f)(hon:κ.on.contains f=true)(hs:starEach [e] X.env=[(false,eval e X.env)])(hl:(ap.endLine==cp.line)=true) :
  PS X (.Expr (.Call (.Attribute (.Attribute o f p1) "append" ap) [e] [] cp) pos) (RS3 X κ B C f3 XX (.app i f x)) :=
 PS.imp (JFV (w:=.cons (.var i) x) JLT (JQf g hc0 ho hv hna hon hs hl)) λD Y H ⟨ρe,He,ρ,U,O,Hb,hd,st,so,k⟩=>#[ρe,He,ρ,U,O,Hb,hd,st,so,by simpa only[JAS] using k]
def JLc{i:Nat}(U U':Env)(π:Ta)(h:Agr (.var i) U U'):clr3 U i f π=clr3 U' i f π:=by
 unfold clr3;rw[JB3 h (i:=i) (by simp[E.uses])]
def r_clr(g:Gk3 X κ B C f3 CX XX G L){i:Nat}(hc0:JAU o=false)(ho:∀ρ,PE X o (RE (JAB κ B ρ) (C (pi ρ)) XX (.var i)))(hna:NoAttr X.K κ.C f)(hon:κ.on.contains f=true)(hl:(ap.endLine==cp.line)=true) :
  PS X (.Expr (.Call (.Attribute (.Attribute o f p1) "clear" ap) [] [] cp) pos) (RS3 X κ B C f3 XX (.clr i f)) :=
 PS.imp (JFV (w:=.var i) JLc (JSj g hc0 ho hna hon hl)) λD Y H ⟨ρe,He,ρ,U,O,Hb,hd,st,so,k⟩=>#[ρe,He,ρ,U,O,Hb,hd,st,so,by simpa only[JAS] using k]
end
end VI
end
section
namespace VI
open PySem PySem.Spec PyProof.Rows L2
section
variable{κ:Kl}{B:Bs}{XX:Nat->Hp->Prop}{ρ ρ':Tb}{H H':Hp}{X:Cx}{C:Ta->Cn}{f3:F3}{CX:CXT}{G:Lz}{L:List (Str×GK3)}{r:Rec}{c:Fs}{fs:List (Str×V)}
end
end VI
end
section
namespace VI
open PySem PySem.Spec PyProof.Rows L2
section
variable{X:Cx}{B:Bs}
abbrev delV(kvs:List (Key×V))(k:Key):List (Key×V):=kvs.filter λkv=>decide (kv.1≠k)
def JQv(r:KV kvs vs)(k:Key):KV (delV kvs k) (without vs k):=by
 unfold KV at r ⊢;unfold delV without
 induction r with
 |nil=>exact .nil
 | @cons p q ps qs h t ih =>
  obtain⟨h1,h2⟩:=h;rw[List.filter_cons,List.filter_cons]
  by_cases e:p.1=k
  ·have e':q.1=k:=h1.symm.trans e;simpa[e,e'] using ih
  ·have e':¬q.1=k:=λz=>e (h1.trans z);simpa[e,e'] using Paired.cons #[h1,h2] ih
theorem JG1:∀ {kvs:List (D×D)}{xs:List (Key×V)},DenK B H kvs xs->DenK B H (delK kvs k) (delV xs (Sum.inr k))
 | [],xs,h=>by simp![DenK]at h;subst h;simp[delK,delV,DenK]
 |(z,d)::r,xs,h=>by
  simp![DenK]at h;obtain⟨y,w,r',rfl,rfl,h1,h2⟩:=h;have ih:=JG1 (k:=k) h2;unfold delK delV at ih ⊢;rw[List.filter_cons,List.filter_cons]
  by_cases e:y=k
  · subst e
    simpa using ih
  · have:¬((Sum.inr y:Key)=Sum.inr k):=λz=>e (Sum.inr.inj z)
    simp![e,this,decide_false,Bool.not_false,ne_eq,not_false_eq_true,decide_true,if_true,DenK];exact#[y,w,_,rfl,rfl,h1,ih]
def JQa:MtR X "dict.pop" (λx xs H Q=>∃a ys k w,x=.ref a/\xs=[.str k]/\H a=some (.dK ys)/\(ys.find? λp=>p.1=Sum.inr k).map (·.2)=some w/\Q w (upd H a (.dK (delV ys (Sum.inr k))))):=by
 intro zp s Y H x vs v us Q I rx rv h;obtain⟨a,ys,k,w,rfl,rfl,hH,hw,q⟩:=h;cases rx;obtain⟨u,rfl,ru⟩:=rv.one;obtain⟨tk,rfl⟩:=ru;obtain⟨zl,hsys,vs,kvv,dd⟩:=I.hok a _ hH;obtain⟨wv,g1,g2⟩:=(JBc kvv).1 w hw;refine call_meetsIn PySem.F.slot_dict_pop dd.typeIs PySem.F.entry_dict_pop (PySem.F.args_dict_pop_2 _ _) (meets_dict_pop_there (JAQ X.prog X.w) a (JAY _ _ k tk) [] (.inl rfl) rfl) #[vs,wv,dd,by rw[<-JBs kvv];exact zl,g1,λh' dd' hsb=>?_]
 have he:∃q,h'.get? a=some q:=let ⟨q,_,_,hq,_⟩:=dd';#[q,hq]
 have hl':(delV ys (Sum.inr k)).length<=sizeLine:=Nat.le_trans (List.length_filter_le _ _) zl;exact#[w,_,I.write (x:=a) (e:=a) (o:=.dK (delV ys (Sum.inr k))) (by rw[hH];exact True.intro) (.inl rfl) (λb q hb z=>(hsb.2 b hb).trans z) he #[hl',hsys,_,JQv kvv _,dd'],g2,q]
end
section
variable{κ:Kl}{B:Bs}{XX:Nat->Hp->Prop}{ρ ρ':Tb}{H H':Hp}{X:Cx}{C:Ta->Cn}{f3:F3}{CX:CXT}{G:Lz}{L:List (Str×GK3)}{r:Rec}{c:Fs}{fs:List (Str×V)}
def JRZ(g:Gk3 X κ B C f3 CX XX G L){o e:Expr}{i:Nat}(hc0:JAU o=false)(ho:∀ρ,PE X o (RE (JAB κ B ρ) (C (pi ρ)) XX (.var i)))(hv:∀ρ,PE X e (RE (JAB κ B ρ) (C (pi ρ)) XX x))(hna:NoAttr X.K κ.C f)(hon:κ.on.contains f=true)(hs:starEach [e] X.env=[(false,eval e X.env)])(hl:(ap.endLine==cp.line)=true) :
  PS X (.Expr (.Call (.Attribute (.Attribute o f p1) "pop" ap) [e] [] cp) pos) (TP3 κ B XX λU π=>dpo3 C U i f x π):=by
 rintro zp s Y H D I ⟨ρ,U,al,ok,k⟩;refine JDu (JNg PySem.F.plainAttrs_dict PySem.F.slot_dict_pop PySem.F.type_dict_pop JQa (JEf (ho ρ) (JAt hc0 _ _ _)) (JAz (hv ρ) JBQ hs) (JAt rfl _ _ _) (few1 hs) hl hs rfl) rfl zp s Y H D I ?_
 replace k:K3 κ B XX ρ H (λ_ _ H'=>D.nx Y H') (dpo3 C U i f x (pi ρ)):=k
 unfold dpo3 at k;cases q:JBj (pi ρ) U i with
 |none=>rw[q]at k;exact k.elim
 |some z =>
  obtain⟨n,c⟩:=z;rw[q]at k;obtain⟨d0,hl,hd0⟩:=JCS (κ:=κ) (B:=B) q;refine#[U,ok,?_];rw[show ev (C (pi ρ)) (.var i) U=look U i by simp![ev],hl]
  intro u H1 s1 du;obtain⟨p,fs,e1,e2,rfl,r⟩:=hd0 du;subst e2;simp only at k
  split at k
  ·rename_i kvs hds;obtain⟨v,hf,fo⟩:=r.fld f _ hds;unfold JCo at fo;rw[hon]at fo;obtain⟨l,hw,rfl,_,hx,xs,rfl,d1⟩:=fo;refine#[p.1.a,κ.C,p.1.dx,fs,.ref l,rfl,r.ins,g.cls,hna,hf,.inr (.inr (.inl #[rfl,.inl #[xs,hx]])),?_];refine r3_E (al.mono s1) (ok.mono s1) (K3.step (.same al s1) k) λd w H2 s2 d2 h2=>?_
   split at h2
   ·rename_i kk
    split at h2
    ·rename_i hb;simp![Den]at d2;subst d2;have d1':=DenK.mono s2 _ _ d1;have hx2:=s2 _ _ hx;rw[JDy d1']at hb;obtain⟨pp,hp⟩:=Option.isSome_iff_exists.mp hb;refine#[l,xs,kk,pp.2,rfl,rfl,hx2,by rw[hp];rfl,?_]
     exact h2 _ _ (JDP (d1:=.dict (delK kvs kk)) ((al.mono s1).mono s2) e1 (r.mono s2) hon hds hw hf hx2 (.inr #[_,rfl]) #[_,rfl,JG1 d1']) JFP
    ·exact h2.elim
   ·exact h2.elim
  ·exact k.elim
def JQ1(g:Gk3 X κ B C f3 CX XX G L){o e ke:Expr}{i:Nat}(hc0:JAU o=false)(ho:∀ρ,PE X o (RE (JAB κ B ρ) (C (pi ρ)) XX (.var i)))(hv:∀ρ,PE X e (RE (JAB κ B ρ) (C (pi ρ)) XX x))(hk:∀ρ,PE X ke (RE (JAB κ B ρ) (C (pi ρ)) XX z))(hna:NoAttr X.K κ.C f)(hon:κ.on.contains f=true)(hs:∀t l,swapsWith e t l X.env=pure false) :
  PS X (.Assign [.Subscript (.Attribute o f p1) ke p2] e pos) (TP3 κ B XX λU π=>dpu3 C U i f z x π):=by
 rintro zp s Y H D I ⟨ρ,U,al,ok,k⟩
 replace k:K3 κ B XX ρ H (λ_ _ H'=>D.nx Y H') (dpu3 C U i f z x (pi ρ)):=k
 unfold dpu3 at k;refine wpAny_Assign_Subscript (thn (hv ρ zp s Y H (λv H1=>∃d,Same H H1/\Den (JAB κ B ρ) H1 d v/\ev (C (pi ρ)) x U=.ok d) I ?_) λu t1 h_=>?_) (hs _ _)
 ·refine#[U,ok,?_];cases q:ev (C (pi ρ)) x U with
  |ok d=>exact λv H1 s1 d1=>#[d,s1,d1,rfl]
  |exc c=>rw[q]at k;exact k ρ H (.same al (Same.refl H)) rfl
  |bad=>rw[q]at k;exact k.elim
 obtain⟨v,H1,I1,rv,d,s1,d1,qd⟩:=h_;rw[qd]at k;simp![R.at,R3.bind]at k;cases q:JBj (pi ρ) U i with
 |none=>rw[q]at k;exact k.elim
 |some zz =>
  obtain⟨n,c⟩:=zz;rw[q]at k;obtain⟨d0,hl,hd0⟩:=JCS (κ:=κ) (B:=B) q;simp only at k
  split at k
  case h_2=>exact k.elim
  rename_i kvs hds;refine thn (JEf (ho ρ) (JAt hc0 _ _ _) zp t1 Y H1 (λu H2=>∃p fs l xs,Same H1 H2/\u=.ref l/\ρ[n]? = some p/\c=p.2/\RecOk κ B p.1 p.2 fs H2/\p.1.ow.lookup f=some l/\fs.lookup f=some (.ref l)/\H2 l=some (.dK xs)/\DenK (bare B) H2 kvs xs) I1 #[U,ok.mono s1,?_]) λov t2 h_=>?_
  ·rw[show ev (C (pi ρ)) (.var i) U=look U i by simp![ev],hl]
   intro u H2 s2 du;obtain⟨p,fs,e1,e2,rfl,r⟩:=hd0 du;subst e2;obtain⟨v,hf,fo⟩:=r.fld f _ hds;unfold JCo at fo;rw[hon]at fo;obtain⟨l,hw,rfl,_,hx,xs,rfl,dk⟩:=fo;exact#[p.1.a,κ.C,p.1.dx,fs,.ref l,rfl,r.ins,g.cls,hna,hf,p,fs,l,xs,s2,rfl,e1,rfl,r,hw,hf,hx,dk]
  ·obtain⟨u,H2,I2,ru,p,fs,l,xs,s12,rfl,e1,rfl,r,hw,hf,hx,dk⟩:=h_;cases ru;refine thn (hk ρ zp t2 Y H2 (λkv H3=>∃kd,Same H2 H3/\Den (JAB κ B ρ) H3 kd kv/\ev (C (pi ρ)) z U=.ok kd) I2 ?_) λiv t3 h_=>?_
   ·refine#[U,(ok.mono s1).mono s12,?_];cases q:ev (C (pi ρ)) z U with
    |ok d=>exact λv H1 s1 d1=>#[d,s1,d1,rfl]
    |exc c=>rw[q]at k;exact k ρ H2 (.same al (s1.trans s12)) rfl
    |bad=>rw[q]at k;exact k.elim
   ·obtain⟨kv,H3,I3,rk,kd,s23,dkd,qk⟩:=h_;rw[qk]at k;simp only at k
    split at k
    case h_2=>exact k.elim
    rename_i kx
    split at k
    case isFalse=>exact k.elim
    rename_i hb;simp![Den]at dkd;subst dkd;obtain⟨t,rfl⟩:=rk;have hx3:=s23 _ _ hx;have dk3:=DenK.mono s23 _ _ dk;obtain⟨zl,hsys,vs,kvv,dd⟩:=I3.hok l _ hx3;have hz':vs.length<=sizeLine:=by rw[<-JBs kvv];exact zl
    have lk:xs.length=kvs.length:=JB6 dk;have hl':(putK xs (Sum.inr kx) v).length<=sizeLine:=by have:=JEt xs (Sum.inr kx) v;rw[sizeLine_eq];omega
    refine wpAny_setItem_pairs (hsz:=hz') (JAY _ _ kx t) dd λh' dd' hsb=>?_;have he:∃q,h'.get? l=some q:=let ⟨q,_,_,hq,_⟩:=dd';#[q,hq]
    have dn3:Den (bare B) H3 d v:=JEi d v hb.1 (Den.mono (s12.trans s23) d v d1);refine#[Y,_,I3.write (x:=l) (e:=l) (o:=.dK (putK xs (Sum.inr kx) v)) (by rw[hx3];exact True.intro) (.inl rfl) (λb q hb z=>(hsb.2 b hb).trans z) he #[hl',hsys,_,JIa kvv _ rv,dd'],?_]
    have s13:Same H H3:=(s1.trans s12).trans s23;exact k _ _ ((StepR.same al s13).trans (JDP (d1:=.dict (putD kvs kx d)) (al.mono s13) e1 (r.mono s23) hon hds hw hf hx3 (.inr #[_,rfl]) #[_,rfl,JEu dn3 dk3])) JFP
def JLk{i:Nat}(U U':Env)(π:Ta)(h:Agr (.cons (.var i) x) U U'):dpo3 C U i f x π=dpo3 C U' i f x π:=by
 unfold dpo3;rw[JB3 h (i:=i) (by simp[E.uses]),(agree (C π) x U U' λj hj=>h j (by simp![E.uses];exact ub_r hj)).1]
def r_dpo(g:Gk3 X κ B C f3 CX XX G L){o e:Expr}{i:Nat}(hc0:JAU o=false)(ho:∀ρ,PE X o (RE (JAB κ B ρ) (C (pi ρ)) XX (.var i)))(hv:∀ρ,PE X e (RE (JAB κ B ρ) (C (pi ρ)) XX x))(hna:NoAttr X.K κ.C f)(hon:κ.on.contains f=true)(hs:starEach [e] X.env=[(false,eval e X.env)])(hl:(ap.endLine==cp.line)=true) :
  PS X (.Expr (.Call (.Attribute (.Attribute o f p1) "pop" ap) [e] [] cp) pos) (RS3 X κ B C f3 XX (.dpo i f x)) :=
 PS.imp (JFV (w:=.cons (.var i) x) JLk (JRZ g hc0 ho hv hna hon hs hl)) λD Y H ⟨ρe,He,ρ,U,O,Hb,hd,st,so,k⟩=>#[ρe,He,ρ,U,O,Hb,hd,st,so,by simpa only[JAS] using k]
def JLo{i:Nat}(U U':Env)(π:Ta)(h:Agr (.cons (.var i) (.cons z x)) U U'):dpu3 C U i f z x π=dpu3 C U' i f z x π:=by
 unfold dpu3;rw[JB3 h (i:=i) (by simp[E.uses]),(agree (C π) x U U' λj hj=>h j (by simp![E.uses];exact ub_r (ub_r hj))).1,(agree (C π) z U U' λj hj=>h j (by simp![E.uses];exact ub_r (ub_l hj))).1]
def r_dpu(g:Gk3 X κ B C f3 CX XX G L){o e ke:Expr}{i:Nat}(hc0:JAU o=false)(ho:∀ρ,PE X o (RE (JAB κ B ρ) (C (pi ρ)) XX (.var i)))(hv:∀ρ,PE X e (RE (JAB κ B ρ) (C (pi ρ)) XX x))(hk:∀ρ,PE X ke (RE (JAB κ B ρ) (C (pi ρ)) XX z))(hna:NoAttr X.K κ.C f)(hon:κ.on.contains f=true)(hs:∀t l,swapsWith e t l X.env=pure false) :
  PS X (.Assign [.Subscript (.Attribute o f p1) ke p2] e pos) (RS3 X κ B C f3 XX (.dpu i f z x)) :=
 PS.imp (JFV (w:=.cons (.var i) (.cons z x)) JLo (JQ1 g hc0 ho hv hk hna hon hs)) λD Y H ⟨ρe,He,ρ,U,O,Hb,hd,st,so,k⟩=>#[ρe,He,ρ,U,O,Hb,hd,st,so,by simpa only[JAS] using k]
end
end VI
end
section
namespace VI
open PySem PySem.Spec PyProof.Rows L2
abbrev JGo:Expr->Bool
 |.ListComp _ _ _ _=>false
 |.SetComp _ _ _ _=>false
 |.DictComp _ _ _ _ _=>false
 |_=>true
def JCL{e:Expr}(h:JGo e=true)(t:Option Expr)(l:Nat)(env:PySem.Env):swapsWith e t l env=pure false:=by
 cases e<;>first|rfl|cases h
abbrev tg3:List Expr->Option (Expr×Str)
 | [.Attribute o f _]=>some (o,f)
 |_=>none
def JQr(h:tg3 ts=some (o,f)):∃p,ts=[.Attribute o f p]:=by
 unfold tg3 at h
 split at h
 ·cases h;exact#[_,rfl]
 ·cases h
abbrev JN0(e:Expr):Option (Expr×Str×Option (Bool×Expr)):=match e with
 |.Call (.Attribute (.Attribute o f _) m ap) [a] [] cp=>if JAU o=false/\(ap.endLine==cp.line)=true then (if m="append" then some (o,f,some (true,a)) else if m="pop" then some (o,f,some (false,a)) else none) else none
 |.Call (.Attribute (.Attribute o f _) m ap) [] [] cp=>if m="clear"/\JAU o=false/\(ap.endLine==cp.line)=true then some (o,f,none) else none
 |_=>none
def JK2{e:Expr}(h:JN0 e=some (o,f,a)):∃p1 ap cp,JAU o=false/\(ap.endLine==cp.line)=true/\((∃b,a=some (true,b)/\e=.Call (.Attribute (.Attribute o f p1) "append" ap) [b] [] cp)\/(∃b,a=some (false,b)/\e=.Call (.Attribute (.Attribute o f p1) "pop" ap) [b] [] cp)\/(a=none/\e=.Call (.Attribute (.Attribute o f p1) "clear" ap) [] [] cp)):=by
 unfold JN0 at h
 split at h
 ·split at h
  ·rename_i hc;obtain⟨c2,c3⟩:=hc
   split at h
   ·rename_i hm;subst hm;cases h;exact#[_,_,_,c2,c3,.inl #[_,rfl,rfl]]
   ·split at h
    ·rename_i hm;subst hm;cases h;exact#[_,_,_,c2,c3,.inr (.inl #[_,rfl,rfl])]
    ·cases h
  ·cases h
 ·split at h
  ·rename_i hc;obtain⟨rfl,c2,c3⟩:=hc;cases h;exact#[_,_,_,c2,c3,.inr (.inr #[rfl,rfl])]
  ·cases h
 ·cases h
abbrev JJp:E->Option Nat
 |.var i=>some i
 |_=>none
def JEv{i:Nat}(h:JJp x=some i):x=.var i:=by
 unfold JJp at h
 split at h
 ·cases h;rfl
 ·cases h
abbrev JBn(f:Stmt->Option S3):List Stmt->Option S3
 | []=>some .nil
 |st::r=>(f st).bind λa=>(JBn f r).map (S3.cons a)
abbrev tgT:List Expr->Option (List Expr)
 | [.Tuple ts _ _]=>some ts
 |_=>none
def JQp(h:tgT ts=some ts'):∃k p,ts=[.Tuple ts' k p]:=by
 unfold tgT at h
 split at h
 ·cases h;exact#[_,_,rfl]
 ·cases h
def JHq{e:Expr}(h:isStar e=false)(es:List Expr)(env:PySem.Env):starEach (e::es) env=(false,eval e env)::starEach es env:=by
 cases e<;>first|rfl|cases h
abbrev lmOf(G:Lz)(n0:Nat)(N:List Str)(lam:Bool):Option (Nq->Expr->Option E):=if lam=true then some λnm=>JAL G n0 false nm N else none
abbrev JO0(names:Nq)(ts:List Expr)(e:Expr):Option (Expr×List Expr):=match e with
 |.Tuple (v::es) _ _=>if isStar v=false/\((ts.any (JFb names)=true/\es.length<1000)\/JDH names ts e=true) then some (v,es) else none
 |_=>none
def JKe{e v:Expr}(h:JO0 names ts e=some (v,es)):∃k p,e=.Tuple (v::es) k p/\isStar v=false/\((ts.any (JFb names)=true/\es.length<1000)\/JDH names ts e=true):=by
 unfold JO0 at h
 split at h
 ·split at h
  ·rename_i hc;cases h;exact#[_,_,rfl,hc]
  ·cases h
 ·cases h
theorem JMZ{n:Nat}:∀ {es:List Expr}{x:E},JAM (JAL G n false names N) es=some x->∀e∈es,isStar e=false
 |e::es,x,h,a,ha=>by
  unfold JAM at h;obtain⟨y,h1,h⟩:=q_a.mp h;obtain⟨z,h2,h⟩:=q_a.mp h;rcases q_n.mp ha with z|ha
  ·subst z;exact JOK h1
  ·exact JMZ h2 a ha
abbrev tgS:List Expr->Option (Expr×Str×Expr)
 | [.Subscript (.Attribute o f _) k _]=>some (o,f,k)
 |_=>none
def JRC(h:tgS ts=some (o,f,k)):∃p1 p2,ts=[.Subscript (.Attribute o f p1) k p2]:=by
 unfold tgS at h
 split at h
 ·cases h;exact#[_,_,rfl]
 ·cases h
abbrev JCI(G:Lz)(L:List (Str×GK3))(on fl:List Str)(lam:Bool)(n0:Nat)(names:Nq)(N:List Str):Nat->Bool->Stmt->Option S3
 |0,_,_=>none
 |n+1,zz,st =>
  let vdr:=λe=>if JGo e=true then (JBW L names (JAL G n0 false names N) (lmOf G n0 N lam) 6 e).map S3.drop else none
  match JCD G n0 zz names N st with
  |some t=>some (.st t)
  |none=>match st with
   |.Return (some e) _=>(JBW L names (JAL G n0 false names N) (lmOf G n0 N lam) 6 e).map S3.ret
   |.Assign ts e _=>(match tgT ts with
    |some ts'=>(slots names N ts').bind λis=>if is.Nodup/\is.length<=1000 then (JO0 names ts' e).bind λq=>(JBW L names (JAL G n0 false names N) (lmOf G n0 N lam) 6 q.1).bind λx=>(JAM (JAL G n0 false names N) q.2).map (S3.unp is x) else none
    |none=>if JGo e=true then (match tg3 ts with
     |some (o,f)=>if fl.contains f=true then ((JAL G n0 false names N o).bind JJp).bind λi=>if on.contains f=true then (JK3 e).map (S3.fln i f) else none else none
     |none=>match tgS ts with
     |some (o,f,k)=>if fl.contains f=true/\on.contains f=true/\JAU o=false then ((JAL G n0 false names N o).bind JJp).bind λi=>(JAL G n0 false names N k).bind λz=>(JAL G n0 false names N e).map (S3.dpu i f z) else none
     |none=>none) else none)
   |.Expr e _=>(match JN0 e with
    |some (o,f,a)=>if fl.contains f=true/\on.contains f=true then ((JAL G n0 false names N o).bind JJp).bind λi=>(match a with
     |some (t,a)=>(JAM (JAL G n0 false names N) [a]).bind λ_=>(JAL G n0 false names N a).map (if t=true then S3.app i f else S3.dpo i f)
     |none=>some (.clr i f)) else none
    |none=>vdr e)
   |.If c a b _=>(JCs L names (JAL G n0 false names N) (lmOf G n0 N lam) 6 c).bind λt=>(JBn (JCI G L on fl lam n0 names N n zz) a).bind λx=>(JBn (JCI G L on fl lam n0 names N n zz) b).map (S3.ife t x)
   |.For (.Name x _) iter body [] _=>(slot names N x).bind λi=>(JAL G n0 true names N iter).bind λe=>(JBn (JCI G L on fl lam n0 names N n zz) body).map (S3.for1 i e)
   |_=>none
section
variable{κ:Kl}{B:Bs}{C:Ta->Cn}{f3:F3}{CX:CXT}{G:Lz}{L:List (Str×GK3)}{names:Nq}{N fl:List Str}{n0:Nat}{lam:Bool}
theorem JBI(ih:∀st t,f st=some t->PS X st (RS3 X κ B C f3 XX t)):∀ {sts:List Stmt}{t:S3},JBn f sts=some t->PSs X sts (RS3 X κ B C f3 XX t)
 | [],t,h=>by unfold JBn at h;cases h;exact r_nil
 |st::r,t,h=>by
  unfold JBn at h;obtain⟨a,h1,h⟩:=q_a.mp h;obtain⟨b,h2,rfl⟩:=q_d.mp h;exact JSo (ih st a h1) (JBI ih h2)
def JKw[Cool G]{C:Cn}{X:Cx}{XX:Nat->Hp->Prop}{B:Bs}(g:Gk X B C CX XX G)(hk:X.env.scope.kind=.function)(hn:X.env.scope.names=names)(hN:X.N=N)(hnd:N.Nodup)(hfn:∀nm,X.fn nm=true\/X.env.scope.names.lookup nm≠some .cell)
  {ts es:List Expr}{is:List Nat}{k k2:Nat}{pt pt2 pos:Pos}(hi:slots names N ts=some is) (hd:is.Nodup) (ho:ts.any (JFb names)=true\/JDH names ts (.Tuple es k2 pt2)=true) (hs:∀e∈es,isStar e=false):∀ta,PA X es ta->PS X (.Assign [.Tuple ts k pt] (.Tuple es k2 pt2) pos) (JNp is ta):=λta ha=>by
 rcases ho with hcl|hp
 ·exact JNf g ha hn hN hnd hfn hi rfl (JIQ hn hcl)
 obtain⟨nx,px,ny,py,a,b,_,_,rfl,e8⟩:=JDl hp;cases e8;obtain⟨w1,w2,w3,w4⟩:=JDD (env:=X.env) (kt:=k) (pt:=pt) hk hn (λes e=>by
  subst e;have t1:∀ {e:Expr},isStar e=false->(match e with|.Starred ..=>true|_=>false)=false:=by
   intro e h;cases e<;>first|rfl|cases h
  have h1:=t1 (hs a (by simp))
  have h2:=t1 (hs b (by simp))
  simp![List.any_cons,List.any_nil,Bool.or_false];exact Bool.or_eq_false_iff.mpr #[h1,h2]) hp
 obtain⟨_,_,i,js,e0,i1,hi,e4⟩:=JCC hi;cases e0;obtain⟨_,_,j,ls,e0,i2,hi,e5⟩:=JCC hi;cases e0;unfold slots at hi;cases hi;subst e5;subst e4;simp![List.nodup_cons,q_n,List.not_mem_nil,or_false]at hd;have ha2:PA X [a,b] (λY H Q=>∃Q1,ta Y H Q1/\∀vs H,Q1 vs H->Q vs H):=λpos zp s Y H Q I ⟨Q1,h1,h2⟩=>thn (ha pos zp s Y H Q1 I h1) λus s' ⟨vs,H1,I1,r1,q1⟩=>#[vs,H1,I1,r1,h2 _ _ q1];refine PS.imp (JMQ (g.calm inferInstance) (by rw[hN];exact hnd) (slot_of hn hN i1).1 (slot_of hn hN i2).1 hd.1 w3 w4 ha2 w1) λD Y H h=>#[_,h,λvs H1 q=>?_]
 obtain⟨q1,_,q3⟩:=q
 match vs,q1,q3 with
 | [v,w],_,q3=>exact#[v,w,rfl,q3 H1 (.inl rfl)]
theorem JIr[Cool G]{w:World}(ra:∀ρ,Ra3 (JAB κ B ρ) (C (pi ρ)) G P w)(hexm:∀x c,G.lookup x=some (.cls c)->∀π k,(C π).sub k c=true->PySem.W.exmOne B.K (.ref (B.cl k)) (.ref (B.cl c))=some true)(hnd:N.Nodup) :
  ∀(n:Nat) (X:Cx) (XX:Nat->Hp->Prop) (zz:Bool),X.prog=P->X.w=w->Gk3 X κ B C f3 (CXV P w B) XX G L->X.env.scope.kind=.function->X.env.scope.names=names->X.N=N->PassesOwn (model X.prog X.w) X.A X.env X.xe->(∀nm,X.fn nm=true)->(∀f,κ.on.contains f=true->NoAttr X.K κ.C f)->(∀f,fl.contains f=true->NoAttr X.K κ.C f) ->
   (∀f',lmOf G n0 N lam=some f'->LamP X κ B C f3 XX L names f')->(zz=true->(∀ρ,JJD X (JAB κ B ρ) G XX)/\X.stack=X.env::X.outer/\X.env.frame=some X.env.locals/\X.ex=[]/\X.A.handled=none)->∀(st:Stmt) (t:S3),JCI G L κ.on fl lam n0 names N n zz st=some t->PS X st (RS3 X κ B C f3 XX t)
 |0,X,XX,zz,hP,hW,g,hk,hn,hN,hpo,hfn,hon,hfl,hlm,hz,st,t,h=>by simp![JCI]at h;cases h
 |n+1,X,XX,zz,hP,hW,g,hk,hn,hN,hpo,hfn,hon,hfl,hlm,hz,st,t,h=>by
  subst hP;subst hW;have hsE:=λρ=>sound (ra ρ).ra n0 X XX names N (g.g ρ) hk hn hN hnd;have hE:∀ρ e x,JAL G n0 false names N e=some x->PE X e (RE (JAB κ B ρ) (C (pi ρ)) XX x):=λρ e x h=>((hsE ρ).1 e x h).1;have hT:∀ρ e x,JAL G n0 false names N e=some x->PT X e (RT (JAB κ B ρ) (C (pi ρ)) XX x):=λρ e x h=>((hsE ρ).1 e x h).2;have hI:∀ρ tg e x,JAL G n0 true names N e=some x->PI X tg e (RI (JAB κ B ρ) (C (pi ρ)) XX x):=λρ tg e x h=>(hsE ρ).2 tg e x h;have hS:∀ρ st t,JCD G n0 zz names N st=some t->PS X st (RSt X (JAB κ B ρ) (C (pi ρ)) XX t):=λρ=>JFX (ra ρ).ra (ra ρ).rr n0 X XX names N zz (g.g ρ) hk hn hN hnd hpo hfn λz=>(hz z).1 ρ;have hV:=JDw (N:=N) (n0:=n0) g hk hn hE hT hlm;have hTT:=JC9 (N:=N) (n0:=n0) g hk hn hE hT hlm;have ih:=JIr ra hexm hnd n X XX zz rfl rfl g hk hn hN hpo hfn hon hfl hlm hz;have hnd':X.N.Nodup:=by rw[hN];exact hnd
  unfold JCI at h
  split at h
  ·rename_i t' h1;cases h;exact r_st λρ=>hS ρ st t' h1
  ·split at h
   · obtain⟨x,h1,rfl⟩:=q_d.mp h
     exact r_ret (hV _ _ x h1)
   · split at h
     ·rename_i ts' ht;obtain⟨k,p,rfl⟩:=JQp ht;obtain⟨is,hi,h⟩:=q_a.mp h
      split at h
      case isFalse=>cases h
      rename_i hnd2;obtain⟨⟨v,es⟩,hq,h'⟩:=q_a.mp h;clear h;obtain⟨k2,p2,rfl,c4,c2⟩:=JKe hq;obtain⟨x,h1,h⟩:=q_a.mp h';obtain⟨y,h2,rfl⟩:=q_d.mp h;exact r_unp (hV _ _ x h1) (pa3 g hE h2) (JHq c4 es X.env) hnd2.2 (JKw (g.g []) hk hn hN hnd (λnm=>.inl (hfn nm)) hi hnd2.1 (c2.imp And.left id) λa ha=>(q_n.mp ha).elim (λz=>z▸c4) (JMZ h2 a))
     split at h
     case isFalse=>cases h
     rename_i hpl
     split at h
     ·rename_i o f ht;obtain⟨p,rfl⟩:=JQr ht
      split at h
      case isFalse=>cases h
      rename_i hf;obtain⟨i,hi,h⟩:=q_a.mp h;obtain⟨y,hy,hv⟩:=q_a.mp hi;have:=JEv hv;subst this
      split at h
      ·rename_i ho;obtain⟨t,h1,rfl⟩:=q_d.mp h;exact r_fln g h1 (λρ=>hE ρ o _ hy) (hfl f hf) ho (JCL hpl _ _ _)
      ·cases h
     ·split at h
      ·rename_i o f k ht;obtain⟨p1,p2,rfl⟩:=JRC ht
       split at h
       case isFalse=>cases h
       rename_i hf;obtain⟨i,hi,h⟩:=q_a.mp h;obtain⟨y,hy,hv⟩:=q_a.mp hi;have:=JEv hv;subst this;obtain⟨z,hz,h⟩:=q_a.mp h;obtain⟨x,h1,rfl⟩:=q_d.mp h;exact r_dpu g hf.2.2 (λρ=>hE ρ o _ hy) (λρ=>hE ρ _ x h1) (λρ=>hE ρ _ z hz) (hfl f hf.1) hf.2.1 (λt l=>JCL hpl _ _ _)
      cases h
   · split at h
     ·rename_i o f a ht;obtain⟨p1,ap,cp,c1,c2,ee⟩:=JK2 ht
      split at h
      case isFalse=>cases h
      rename_i hf;obtain⟨i,hi,h⟩:=q_a.mp h;obtain⟨y,hy,hv⟩:=q_a.mp hi;have:=JEv hv;subst this;rcases ee with ⟨a,rfl,rfl⟩|⟨a,rfl,rfl⟩|⟨rfl,rfl⟩
      ·obtain⟨z,hz,h⟩:=q_a.mp h;obtain⟨x,h1,rfl⟩:=q_d.mp h;exact r_app g c1 (λρ=>hE ρ o _ hy) (λρ=>hE ρ a x h1) (hfl f hf.1) hf.2 (JDO hz a (List.mem_singleton.mpr rfl) [] X.env) c2
      ·obtain⟨z,hz,h⟩:=q_a.mp h;obtain⟨x,h1,rfl⟩:=q_d.mp h;exact r_dpo g c1 (λρ=>hE ρ o _ hy) (λρ=>hE ρ a x h1) (hfl f hf.1) hf.2 (JDO hz a (List.mem_singleton.mpr rfl) [] X.env) c2
      ·cases h;exact r_clr g c1 (λρ=>hE ρ o _ hy) (hfl f hf.1) hf.2 c2
     ·have dr:∀ {e t p},(if JGo e=true then (JBW L names (JAL G n0 false names N) (lmOf G n0 N lam) 6 e).map S3.drop else none)=some t->PS X (.Expr e p) (RS3 X κ B C f3 XX t):=λ{e t p} h=>by
       split at h
       case isFalse=>cases h
       rename_i hpl;obtain⟨x,h1,rfl⟩:=q_d.mp h;exact JRK (hV _ _ x h1) (JCL hpl _ _ _)
      exact dr h
   · obtain⟨t',h1,h⟩:=q_a.mp h
     obtain⟨x,h2,h⟩:=q_a.mp h;obtain⟨y,h3,rfl⟩:=q_d.mp h;exact r_ife (hTT _ _ t' h1) (JBI ih h2) (JBI ih h3)
   · rename_i nm p iter body p2
     obtain⟨i,hi,h⟩:=q_a.mp h;obtain⟨x,h1,h⟩:=q_a.mp h;obtain⟨b,h2,rfl⟩:=q_d.mp h;obtain⟨q1,q2⟩:=slot_of hn hN hi;exact JQY g hpo (λρ=>hI ρ _ _ x h1) (JBI ih h2) hnd' q1 q2 (.inl (hfn _)) (JGR h1 X.env)
   · cases h
end
end VI
end
section
namespace VI
open PySem PySem.Spec PyProof.Rows L2
section
variable{κ:Kl}{B:Bs}{ρ:Tb}{K:Kq}
def JJP(hc:Cls K κ.C)(hn:NoAttr K κ.C f)(ho:κ.on.contains f=false):JI6 K (JAB κ B ρ) (fldD (pi ρ) f) f:=by
 intro H ds vs dn;unfold fldD
 split
 ·rename_i d r e
  split at e
  ·rename_i d0;simp![DenL]at dn;obtain⟨v,_,rfl,d1,rfl⟩:=dn;cases q:recF (pi ρ) d0 with
   |none=>rw[q]at e;cases e
   |some z =>
    obtain⟨n,c⟩:=z;rw[q]at e;unfold recF at q;obtain⟨m,hn',q⟩:=q_a.mp q;obtain⟨c',hc',e'⟩:=q_d.mp q;cases e';obtain⟨p,fs,e1,e2,r⟩:=JEE hn' d1;rw[JFM e1]at hc';cases hc';cases q2:p.2.lookup f with
    |none=>simp![Option.bind,q2]at e;cases e
    |some d2 =>
     simp![Option.bind,q2]at e;cases e;obtain⟨v',hf,fo⟩:=r.fld f _ q2;unfold JCo at fo;rw[ho]at fo;exact#[p.1.a,κ.C,p.1.dx,fs,v',by rw[e2],r.ins,hc,hn,hf,JLt _ _ fo]
  ·cases e
 ·rename_i c e
  split at e
  ·rename_i d0;cases q:(recF (pi ρ) d0).bind λq=>q.2.lookup f with
   |none=>rw[q]at e;cases e
   |some z=>rw[q]at e;cases e
  ·cases e
 ·trivial
def JN2{b:Nat}(hc:Cls K κ.C)(hn:NoAttr K κ.C f)(ho:κ.on.contains f=true)(h0:fn b=fldD (pi ρ) f)(hj:∀j,j<7->fn (b+1+j)=JBV j (fn b)):OwnP K (JAB κ B ρ) fn b f:=by
 refine#[hj,λH d v d1=>?_];rw[h0];simp![fldD];cases q:recF (pi ρ) d with
 |none=>trivial
 |some z =>
  obtain⟨n,c⟩:=z;unfold recF at q;obtain⟨m,hn',q⟩:=q_a.mp q;obtain⟨c',hc',e'⟩:=q_d.mp q;cases e';obtain⟨p,fs,e1,e2,r⟩:=JEE hn' d1;rw[JFM e1]at hc';cases hc';cases q2:p.2.lookup f with
  |none=>simp![Option.bind,q2,optR]
  |some t =>
   simp![Option.bind,q2,optR];obtain⟨v',hf,fo⟩:=r.fld f _ q2;unfold JCo at fo;rw[ho]at fo;obtain⟨l,hw,rfl,o,ex,oh⟩:=fo;exact#[p.1.a,κ.C,p.1.dx,fs,l,o,e2,r.ins,hc,hn,hf,ex,oh.off (B:=bare B) (B':=JAB κ B ρ) rfl rfl rfl (λb o e _=>e) (λb c e=>e) λn a z=>z.elim]
def JNm(H:Hp)(d:D)(v:V)(dn:Den (JAB κ B ρ) H d v):(match chkD (pi ρ) m [d] with
 |.ok d'=>d'=d/\∃a dx fs,v=.ref a/\H a=some (.ins κ.C dx fs)/\fs.lookup m=none
 |.exc _=>False
 |.bad=>True):=by
 simp![chkD];cases q:recF (pi ρ) d with
 |none=>trivial
 |some z =>
  obtain⟨n,c⟩:=z;simp only
  split
  ·rename_i d' e
   split at e
   ·rename_i hm;cases e;unfold recF at q;obtain⟨k,hn',q⟩:=q_a.mp q;obtain⟨c',hc',e'⟩:=q_d.mp q;cases e';obtain⟨p,fs,e1,e2,r⟩:=JEE hn' dn;rw[JFM e1]at hc';cases hc';exact#[rfl,p.1.a,p.1.dx,fs,e2,r.ins,r.non m (by simpa using hm)]
   ·cases e
  ·rename_i e
   split at e<;>cases e
  ·trivial
end
end VI
end
section
namespace VI
open PySem PySem.Spec PyProof.Rows L2
section
variable{P:Program}{w:World}{B:Bs}{mg:Mq}{base:Heap}
abbrev JE6(P:Program)(w:World)(B:Bs)(mg:Mq)(base:Heap)(N:List Str)(qual:Str)(sc:Scope)(f:Addr)(cd:Value)(cl:List (Str×Addr))(A:Around)(outer:List PySem.Env)(s:Shared)(H:Hp)(E:XK):Cx where
 prog:=P
 w:=w
 K:=B.K
 mg:=mg
 base:=base
 A:=A.deeper (PySem.W.envX qual sc s.heap.objs.size f cd cl)
 N:=N
 s₀:=s
 H₀:=H
 env:=PySem.W.envX qual sc s.heap.objs.size f cd cl
 outer:=outer
 stack:=PySem.W.envX qual sc s.heap.objs.size f cd cl::outer
 ex:=[]
 calm:=true
 fn:=λ_=>false
 pn:=[]
 xe:=λe s'=>wpAny (model P w) (A.deeper (PySem.W.envX qual sc s.heap.objs.size f cd cl)) (leaving (PySem.W.envX qual sc s.heap.objs.size f cd cl) e) (λ_ s''=>CXV P w B outer H s E e s'') (λe' s''=>CXV P w B outer H s E e' s'') s'
variable{N:List Str}{qual:Str}{sc:Scope}{f:Addr}{cd:Value}{cl:List (Str×Addr)}{A:Around}{outer:List PySem.Env}{s:Shared}{H:Hp}{E:XK}
def JOh:JBX (CXV P w B) (JE6 P w B mg base N qual sc f cd cl A outer s H E) (EX B (XXd B E)):=by
 intro zp Y H1 s1 e s' I ⟨ea,T,c,H',e1,os,bare,un,hok,tr,⟨f1,f2⟩,⟨f3,f4⟩,⟨c',ec,hE⟩⟩;subst e1;have I':=I.call' (ch:=[]) os un hok bare (λb hb=>by simp at hb)
 obtain⟨oe,vs,a0,oT,ts,q1,q2,q3,q4,q6,q7,q8,q9⟩:=id tr;have fr0:∀b,s1.heap.get? b=none->s.heap.get? b=none:=λb q=>by
  cases z:s.heap.get? b with
  |none=>rfl
  |some o =>
   obtain⟨o',e2⟩:=I.base.there b o z (by simp[JE6])
   rw[q]at e2;cases e2
 have has:∀b∈(ea::T::frs (JE6 P w B mg base N qual sc f cd cl A outer s H E).stack),b∈frs (JE6 P w B mg base N qual sc f cd cl A outer s H E).stack\/(s.heap.get? b=none/\H' b=none):=λb hb=>by
  rcases q_n.mp hb with rfl|hb
  ·exact .inr #[fr0 _ f1,f2]
  ·rcases q_n.mp hb with rfl|hb
   ·exact .inr #[fr0 _ f3,f4]
   ·exact .inl hb
 refine PySem.wpAny_leaves_onW (base:=PySem.W.hideAll s'.heap (ea::T::frs (JE6 P w B mg base N qual sc f cd cl A outer s H E).stack)) (outer:=outer) (cls:=.ref (B.cl c)) (a0:=a0) I'.ok.frames rfl
  #[λb o q=>PySem.W.of_hideAll _ q,PySem.W.hideAll_none _ (by simp),PySem.W.funFrames_hide I'.stack (λenv he a hf=>q_s _ (q_s _ (List.mem_filterMap.mpr #[env,he,hf]))),oe,vs,T,oT,ts,q1,q2,q3,q4,PySem.W.hideAll_none _ (by simp),q6,q7,q8,q9] λh2 fl up=>?_
 obtain⟨u2,hok2,T2,tr2,t1,t2⟩:=JGz I' rfl has fl up;refine#[ea,T2,c,H',rfl,?_,bare,u2,hok2,tr2,#[fr0 _ f1,f2],#[t1,t2],?_]
 ·exact os.trans I.os
 ·rw[ec];exact hE H' (Same.refl H')
structure LamSc(sc:Scope):Prop where
 kind:sc.kind=.function
 co:sc.isCoroutine=false
 gen:sc.isGenerator=false
 free:∀y∈sc.names,y.2≠.local/\y.2≠.cell
def JON(S:LamSc sc)(hd:A.handled=none)(e0:Env0 P w B.K mg base A outer s H)(hl:Y.length=N.length)
  (hcl:∀x,sc.names.lookup x=some .free->∃c,cl.lookup x=some c) (hin:∀x y c,cl.lookup x=some c->cl.lookup y=some c->x=y)
  (hce:∀x c,cl.lookup x=some c->(∃v,s.heap.IsCell c v)/\H c=none)
  (hval:∀(i:Nat) (x:Str) (v:V),N[i]? = some x->Y[i]? = some (some v)->sc.names.lookup x=some .free->∃u c,RelV v u/\cl.lookup x=some c/\s.heap.IsCell c (some u))
  {h1:Heap}{m:Mq}{tk:Nat}(hns:h1.Ns s.heap.objs.size m) (hk:∀b o,s.heap.get? b=some o->h1.get? b=some o) :
  Inv (JE6 P w B mg base N qual sc f cd cl A outer s H E) [] Y H { s with heap:=h1,toks:=tk }:=by
 have noA:∀b:Addr,b ∉ (JE6 P w B mg base N qual sc f cd cl A outer s H E).ex:=λb z=>absurd (show b∈([]:List Addr) from z) (by simp)
 have look:∀ {y:Str}{k:NameKind},sc.names.lookup y=some k->k≠.local/\k≠.cell:=λ{y k} h=>S.free _ (PySem.mem_of_lookup h);have cell:∀ {c:Addr}{v:Option Value},s.heap.IsCell c v->h1.IsCell c v:=λ{c v} ⟨o,ho,hd⟩=>#[o,hk _ _ ho,hd];refine#[#[e0.mod,S.kind,rfl,rfl,q_t _,λy z c h1 h2=>hin y z c h1 h2,λy hy=>?_,λy c h _=>(by cases h),λ_=>hd,Around.frames_deeper e0.frames,.inr #[rfl,rfl],λb z=>absurd z (noA b),e0.bs,e0.bsz,λb _ _=>noA b,λb z=>absurd z (noA b),e0.funs,e0.frf],
  rfl,e0.bare,Un.kept hk,#[m,hns,λi y v h1 h2 h3=>?_],λy c h=>?_,e0.hok.fresh (q_t _),λy c h=>(hce y c h).2,λp hp=>absurd (show p∈([]:Pq) from hp) (by simp),e0.hok.kept hk,hl]
 ·have hy:sc.names.lookup y=some .cell\/sc.names.lookup y=some .free:=hy;rcases hy with hy|hy
  · exact absurd rfl (look hy).2
  · exact hcl y hy
 ·have h3:Vis sc y:=h3;rcases h3 with h3|h3|h3
  · exact absurd rfl (look h3).1
  · exact absurd rfl (look h3).2
  · obtain⟨u,c,r,e,z⟩:=hval i y v h1 h2 h3
    exact#[u,r,.inr #[.inr h3,c,e,cell z]]
 ·obtain⟨⟨v,z⟩,_⟩:=hce y c h;exact#[v,cell z]
def JK5{name pm ctv:Value}{params:Arguments}{body:Expr}{c':Addr}{t:TE}{Y:St}{Q:VK}{nm:Str}
  (hroom:A.depth<recursionLimit) (S:LamSc sc) (hd:A.handled=none) (e0:Env0 P w B.K mg base A outer s H) (hl:Y.length=N.length)
  (hcl:∀x,sc.names.lookup x=some .free->∃c,cl.lookup x=some c) (hin:∀x y c,cl.lookup x=some c->cl.lookup y=some c->x=y)
  (hce:∀x c,cl.lookup x=some c->(∃v,s.heap.IsCell c v)/\H c=none)
  (hval:∀(i:Nat) (x:Str) (v:V),N[i]? = some x->Y[i]? = some (some v)->sc.names.lookup x=some .free->∃u c,RelV v u/\cl.lookup x=some c/\s.heap.IsCell c (some u))
  (ho:s.heap.get? f=some (PySem.W.kla_obj nm qual params body sc cl pm c' ctv)) (hcd:s.heap.CodeRec (.ref c') qual)
  (hbind:bindArgs (PySem.W.kla_fn nm qual params body sc cl pm (.ref c') ctv) #[[],[]]=pure [])
  (hb:PE (JE6 P w B mg base N qual sc f (.ref c') cl A outer s H E) body t) (hq:t Y H Q) :
  codeAny (model P w) A (.call (.ref f) #[[],[]]) (CR (CXV P w B) outer P w H s Q E) s:=by
 have lim:s.heap.NoLimit:=e0.mod.nolimit.keeps λb o e=>(e0.bs b o e).1;refine PySem.W.kla_callFunE hroom ho rfl S.co S.gen rfl hcd ?_;rw[hbind];refine q_e (wpAny_newFunctionEnv (λy hy=>(S.free y hy).2) (by intro y hy;simp at hy) (λh1 hns hsb=>?_) S.kind)
 have hk:∀b o,s.heap.get? b=some o->h1.get? b=some o:=λb o e=>hsb.extBut b o (q_l (q_h e)) (q_c _ e);refine#[lim.fresh _ hsb,?_];show codeAny _ _ (.expr body (PySem.W.envX qual sc s.heap.objs.size f (.ref c') cl)) _ _;have I:=JON (P:=P) (w:=w) (B:=B) (mg:=mg) (base:=base) (N:=N) (qual:=qual) (f:=f) (cd:=.ref c') (E:=E) (tk:=s.toks+([]:List (Str×Value)).length) S hd e0 hl hcl hin hce hval hns hk;refine PySem.W.kla_codeExpr (wpAny_mono (hb [] _ Y H Q I hq) (λu s' ⟨v,H',J,r,q⟩=>?_) λ_ _ z=>z);exact#[v,H',J.os,J.bare,J.base,J.hok,r,q]
end
end VI
end
section
namespace VI
open PySem PySem.Spec PyProof.Rows L2
def JIM{a b:Int}(h:TriplesOk l)(e:codeAmong pos (l++[rawInt a,rawInt b,c])=some v):codeAmong pos l=some v\/v=c:=by
 fun_induction TriplesOk l with
 |case1 =>
  simp![List.nil_append,codeAmong,rawInt]at e
  split at e
  ·cases e;exact .inr rfl
  ·simp at e
 |case2 a' t b' u x rest ih =>
  simp![List.cons_append,codeAmong]at e ⊢
  split at e
  ·rename_i hc;rw[if_pos hc];exact .inl e
  ·rename_i hc;rw[if_neg hc];exact ih h e
 |case3 l h1 h2=>exact h.elim
section
variable{X:Cx}{zp pins':Pq}{Y:St}{H:Hp}{s:Shared}{P:Addr}{p0:Array Value}{h2:Heap}
def JLe{c:Addr}{q:Str}{params:Arguments}{body:Expr}{sc:Scope}{pos:Pos}{R:Vq}(I:Inv X zp Y H s)(hT:TbOk P q H)(hcode:X.env.code=.ref c)(hC:PySem.W.CodeHd X.base c P)
  (hB:X.base.BuiltinsAt X.mg P) (hq:X.env.qual++"<lambda>"=q) (hdef:defaultsOf params X.env=([],[])) (hfree:∀n,(n,NameKind.free)∈sc.names->X.env.kindOf n=some .cell\/X.env.kindOf n=some .free)
  (h:∀(f c':Addr) (ctv:Value) (H':Hp) (s':Shared),(∀b o,H b=some o->b≠P->H' b=some o)->TbOk P q H'->Inv X (zp++[(f,PySem.W.kla_obj "<lambda>" q params body sc (JA5 X.env.cells sc.names []) ((X.mg "__name__").getD .none) c' ctv)]) Y H' s' ->
    (∃(oc:Obj) (u:HO) (vs:Array Value) (t:Tok),H' c'=some (.frz oc u)/\oc.data=.fields vs/\vs[1]? = some (.str q t))->R (.ref f) s') :
  wpAny (model X.prog X.w) X.A (eval (.Lambda params body sc pos) X.env) R X.xe s:=by
 obtain⟨cs,hP,hcs⟩:=hT;obtain⟨⟨ps,gP,ht,hco⟩,_⟩:=I.hok P _ hP;have hcl:closureFor sc X.env=pure (JA5 X.env.cells sc.names []):=JCk λn hn=>by
  obtain⟨c,e⟩:=I.ok.has n (hfree n hn);rw[e];rfl
 have hg:s.heap.Ns mainGlobals X.mg:=I.mod.glob.keeps I.bk;have hgP:mainGlobals≠P:=λz=>by
  obtain⟨o,es,ep,e,_⟩:=I.mod.glob;have:=(I.bs _ _ e).2;rw[z,hP]at this;cases this
 have hBs:s.heap.BuiltinsAt X.mg P:=by
  obtain⟨bm,ob,b1,b2,b3,b4,b5,b6⟩:=hB;exact#[bm,ob,b1,b2,b3,b4,I.bk _ _ b5,b6]
 have pin1:∀ {H':Hp}{s':Shared}{f:Addr}{o:Obj},Inv X zp Y H' s'->s.heap.objs.size<=f->s'.heap.get? f=some o->H' f=none->(∀v,o.data≠.cell v)->Inv X (zp++[(f,o)]) Y H' s':=λ{H' s' f o} J hf e n d=>J.pins_of λp hp=>by
  rcases List.mem_append.mp hp with hp|hp
  · exact J.pin p (q_r _ hp)
  · cases List.mem_singleton.mp hp
    exact#[e,n,Nat.ne_of_gt (q_m I.lt hf),I.nofs hf,d]
 refine PySem.W.kla_eval hdef ?_;rw[hq];cases hf:codeAmong pos ps.toList with
 |none =>
  refine PySem.W.kla_makeFunction (mg:=X.mg) hcl I.ok.glob hg hcode (hC.keeps I.bk) gP ht hf hgP hBs λc' ctv h' tk hx hge hlt hrec htb=>?_;obtain⟨c2,oc,vs,t,e2,hoc,hd,hv⟩:=hrec;cases e2;have hle:s.heap.objs.size<=h'.objs.size:=Nat.le_trans hge (Nat.le_of_lt hlt);have hPl:P<s.heap.objs.size:=q_h gP;have cP:c'≠P:=λz=>absurd (q_m hPl hge) (by rw[z];exact Nat.lt_irrefl _)
  have φ:TabAt P (c'::cs) (h'.push (PySem.W.kla_obj "<lambda>" q params body sc (JA5 X.env.cells sc.names []) ((X.mg "__name__").getD .none) c' ctv)):=by
    refine#[_,q_c _ htb,by rw[Array.toList_append];exact TriplesOk_snoc _ _ _ _ ht,λp2 v e=>?_]
    rw[Array.toList_append]at e;rcases JIM ht e with e|e
    · obtain⟨c3,z1,z2⟩:=hco p2 v e
      exact#[c3,q_s _ z1,z2]
    · exact#[c',List.mem_cons_self ..,e]
  have I1:=I.write (x:=P) (e:=P) (o:=.ext (TabAt P (c'::cs))) (t':=tk) (by rw[hP];trivial) (.inl rfl) (λb u hb e=>q_c _ (hx b u hb e)) #[_,q_c _ htb] #[φ,#[_,q_c _ htb],λh1 h2 ⟨ps,q1,q2⟩ k=>#[ps,k _ q1,q2]]
  have nc:upd H P (.ext (TabAt P (c'::cs))) c'=none:=by rw[JAI cP];exact I.hok.fresh hge
  have I2:=JFw (u:=.frz oc (.own c')) I1 (q_c _ hoc) hd (Heap.get?_none_of_le (Nat.le_trans I.sz hge)) nc (λp hp z=>absurd (q_m (q_h (I.pin p hp).1) hge) (by rw[z];exact Nat.lt_irrefl _)) #[q_c _ hoc,#[_,q_c _ hoc]]
  have keep:∀b o,H b=some o->b≠P->upd (upd H P (.ext (TabAt P (c'::cs)))) c' (.frz oc (.own c')) b=some o:=λb o e hb=>by
    rw[JAI λz=>(by rw[z,I.hok.fresh hge]at e;cases e),JAI hb];exact e
  refine h _ c' ctv _ _ keep #[c'::cs,by rw[JAI cP.symm];exact JAF,λc3 h3=>?_] (pin1 I2 hle (q_k _ rfl) (by rw[JAI (Nat.ne_of_gt hlt),JAI (Nat.ne_of_gt (q_m hPl hle))];exact I.hok.fresh hle) (by intro v z;cases z)) #[oc,_,vs,t,JAF,hd,hv]
  rcases q_n.mp h3 with rfl|h3
  · exact#[oc,_,vs,t,JAF,hd,hv]
  · obtain⟨o3,u3,v3,t3,z1,z2⟩:=hcs c3 h3
    exact#[o3,u3,v3,t3,keep _ _ z1 λz=>(by rw[z,hP]at z1;cases z1),z2]
 |some v =>
  obtain⟨c',hm,rfl⟩:=hco pos v hf;refine PySem.W.kla_makeFunctionHit (mg:=X.mg) hcl I.ok.glob hg hcode (hC.keeps I.bk) gP ht hf hBs λctv h' tk hk hle=>?_;have I1:=I.kept (t':=tk) λb o e=>q_c (PySem.W.kla_obj "<lambda>" q params body sc (JA5 X.env.cells sc.names []) ((X.mg "__name__").getD .none) c' ctv) (hk b o e);exact h _ c' ctv H _ (λb o e _=>e) #[cs,hP,hcs] (pin1 I1 hle (q_k _ rfl) (I.hok.fresh hle) (by intro v z;cases z)) (hcs c' hm)
end
end VI
end
section
namespace VI
open PySem PySem.Spec PyProof.Rows L2
section
variable{B:Bs}{C:Cn}{G Gh:Lz}
structure HotG(G Gh:Lz):Prop where
 sub:∀x k,Gh.lookup x=some k->k=.opt\/G.lookup x=some k
 nofn:∀x i,Gh.lookup x≠some (.fn i)
 norc:∀x i j,Gh.lookup x≠some (.rcf i)/\Gh.lookup x≠some (.rcm i j)/\Gh.lookup x≠some (.rco i)
 hot:Gh.lookup (".hot":Str)=some .opt
def HotG.at(h:HotG G Gh){x:Str}{k:GK}(e:Gh.lookup x=some k)(hk:k≠.opt):G.lookup x=some k:=(h.sub x k e).resolve_left hk
def JQT(g:Gk X B C (CXV X.prog X.w B) XX G)(hg:HotG G Gh)(h1:X3.K=X.K)(h2:X3.mg=X.mg)(h3:X3.prog=X.prog)(h4:X3.w=X.w)(hu:X3.A.units+200<cLine):Gk X3 B C (CXV X3.prog X3.w B) (λ_ _=>False) Gh where
 K:=h1.trans g.K
 W:=h4.trans g.W
 anti:=λ_ _ _ _ z=>z
 units:=hu
 calm:=λc=>by have:=c.out;rw[hg.hot]at this;cases this
 fn:=λx i e=>absurd e (hg.nofn x i)
 pas:=λ_ _ _ _ _ _ _ z=>(JJR _ _ _ _ _ z).elim
 con:=λx i d e q=>by rw[h2];exact g.con x i d (hg.at e (by intro z;cases z)) q
 noexg:=g.noexg
 blt:=λx b e=>by rw[h2];exact g.blt x b (hg.at e (by intro z;cases z))
 rng:=λx e=>by rw[h2];exact g.rng x (hg.at e (by intro z;cases z))
 isi:=λx e=>by rw[h2];exact g.isi x (hg.at e (by intro z;cases z))
 ty:=λx t e=>by rw[h2];exact g.ty x t (hg.at e (by intro z;cases z))
 cls:=λx c e=>by rw[h2];exact g.cls x c (hg.at e (by intro z;cases z))
 nam:=λx e=>by rw[h2];exact g.nam x (hg.at e (by intro z;cases z))
 fld:=λx i e=>absurd e (hg.norc x i 0).1
 mth:=λx i j e=>absurd e (hg.norc x i j).2.1
 own:=λx i e=>absurd e (hg.norc x i 0).2.2
def JLZ{X X1:Cx}{XX:Nat->Hp->Prop}{zp:Pq}{Y:St}{H:Hp}{s:Shared}{x:Str}{st:Stmt}{fc:Addr}{fo:FuncData}{N ps:List Str}{fd:Fd}{ds:List D}{vs:List V}{us:List Value}{d:D}{Q:VK}{E:Vq}
  (I:Inv X1 zp Y H s) (g:Gk X B C (CXV X.prog X.w B) XX G) (hg:HotG G Gh) (h1:X1.K=X.K) (h2:X1.mg=X.mg) (h3:X1.prog=X.prog) (h4:X1.w=X.w)
  (hroom:X1.A.depth<recursionLimit) (hu:X1.A.units+203<cLine) (F:Fun X1.K x x st fc fo) (T:Turned Gh st N ps fd) (hb:Binds X1.K fo ps []) (ra:Rare B C (CXV X1.prog X1.w B) Gh) (rr:RareS B C (CXV X1.prog X1.w B) Gh)
  (dn:DenL B H ds vs) (r:Vals vs us) (hl:ds.length=ps.length) (hx:exec C fd.body (ds.map Sl.val++List.replicate (N.length - ds.length) Sl.no)=.rt d) (hQ:∀v H',Same H H'->Den B H' d v->Q v H') :
  wpAny (model X1.prog X1.w) X1.A (call (.ref fc) us) (EP X1 zp Y Q) E s:=by
 obtain⟨oc,od,kV,doc,pm,an,cdv,ct,osl,rfl,lk,hcd⟩:=F.ex;have e0:=I.env0;have KX:X1.K.In s.heap:=I.kIn;have lvs:=DenL.len ds vs dn;have lus:=r.length;have hlu:(us++([]:List Value)).length=ps.length:=by simp;omega
 have hbs:=hb s us KX hlu;simp![List.append_nil]at hbs hlu;have hkind:∀y∈ps.zip us,(JAA st).names.lookup y.1=some .local\/((JAA st).names.lookup y.1=some .cell/\((cellsFrom (s.heap.objs.size+1) (JAA st).names []).lookup y.1).isSome=true):=λ⟨n,v⟩ hy=>by
  rcases T.sc.par n (List.of_mem_zip hy).1 with q|q
  · exact .inl q
  · exact .inr #[q,PySem.W.cellsFrom_some _ _ _ (.inl q)]
 refine wpAny_call (codeAny_mono (R:=λr s'=>match r with|.ok (.ret u)=>CE X1.stack X1.prog X1.w H s Q u s'|.ok _=>False|.error _=>False) ?_ λr s' hq=>?_)
 ·refine codeAny_call_function hroom (KX _ _ lk) rfl T.sc.co T.sc.gen rfl (PySem.W.codeRec_of KX hcd) (hbs _ _ _ _ ?_);refine wpAny_newFunctionEnv_cells T.sc.kind hkind λenv he s1 xx=>?_;subst he;refine#[I.nolimit.keeps xx.toInCall.keep,codeAny_func ?_];have e00:Env0 X1.prog X1.w X1.K X1.mg X1.base { X1.A with handled:=none } X1.stack s H:=#[e0.frames,e0.mod,e0.bs,e0.bsz,e0.funs,e0.frf,e0.hok,e0.bare]
  have I0:=JDg (CX:=CXV X1.prog X1.w B) (E:=λ_ _ _=>False) T.sc rfl e00 (by omega:vs.length=ps.length) r xx
  have I3:Inv (atX (cxOf (CXV X1.prog X1.w B) X1.prog X1.w X1.K X1.mg X1.base N x (JAA st) fc cdv { X1.A with handled:=none } X1.stack s H (λ_ _ _=>False)) (X1.A.deeper (envOfC x (JAA st) s.heap.objs.size fc cdv)) [] (λ_ _=>False) false) [] (start N vs) H s1:=by
    refine JHT I0 ?_ (λz=>by cases z) (λp hp=>by simp at hp)
    show(X1.A.deeper _).frames=(Around.deeper { X1.A with handled:=none } _).frames
    rw[Around.frames_deeper e0.frames,Around.frames_deeper (A:={ X1.A with handled:=none }) e00.frames]
  have g3:=JQT (X3:=atX (cxOf (CXV X1.prog X1.w B) X1.prog X1.w X1.K X1.mg X1.base N x (JAA st) fc cdv { X1.A with handled:=none } X1.stack s H (λ_ _ _=>False)) (X1.A.deeper (envOfC x (JAA st) s.heap.objs.size fc cdv)) [] (λ_ _=>False) false) g hg h1 h2 h3 h4 (by show X1.A.units+3+200<_;omega)
  have hs:=JFX ra rr 60 _ _ _ _ true g3 T.sc.kind rfl rfl T.sc.nd PassesOwn.never (λ_=>rfl) (λ_ nm c m j p1 p2 p3 pos a1 a2 a3 zp s Y H D I z=>z.elim);have hpl:ps.length<=N.length:=by have:=congrArg List.length T.sc.pre;rw[List.length_take]at this;omega
  refine wpAny_mono (JDK hs T.comp [] s1 (start N vs) H { nx:=λ_ _=>False,rt:=Q } I3 #[_,_,H,Dm.refl H,JB7 dn rfl ∅,by rw[hx];exact λv H' sm dn'=>hQ v H' sm dn']) (λfl s' hs=>?_) λe s' z=>z.elim
  cases fl with
  |ret u =>
    obtain⟨v,Y',H',J,rv,q⟩:=hs;exact#[v,H',J.os,J.bare,J.base,J.hok,rv,q]
  |next=>obtain⟨_,_,_,z⟩:=hs;exact z.elim
  |brk=>obtain⟨_,_,_,z⟩:=hs;exact z.elim
  |cont=>obtain⟨_,_,_,z⟩:=hs;exact z.elim
 ·cases r with
  |error e=>exact fF hq
  |ok fl =>
    cases fl with
    |ret u=>exact I.after hq
    |next=>exact fF hq
    |brk=>exact fF hq
    |cont=>exact fF hq
end
end VI
end
section
namespace VI
open PySem PySem.Spec PyProof.Rows L2
structure ToldD(st:Stmt)(d en gn cn:Str):Prop where
 body:∃p1 p2 p3 p4 p5 p6 p7 p8 p9 p10,JAV st=[.Try [.Return (some (.Call (.Name d p1) [] [] p2)) p3] [.ExceptHandler (some (.Name gn p4)) (some en) [.Return (some (.Call (.Name cn p5) [.Name en p6] [] p7)) p8] p9] [] [] p10]
 sc:FnScope [d,en] [d] (JAA st)
 ld:(JAA st).names.lookup d=some .local
 le:(JAA st).names.lookup en=some .local
 lg:(JAA st).names.lookup gn=some .globalImplicit
 lc:(JAA st).names.lookup cn=some .globalImplicit
 bd:JAT d=false
 be:JAT en=false
 bg:JAT gn=false
 bc:JAT cn=false
section
variable{X:Cx}{B:Bs}{C:Cn}{XX:Nat->Hp->Prop}{G Gh:Lz}{zp:Pq}{Y:St}{H:Hp}{s:Shared}
structure ToldT(X:Cx)(B:Bs)(C:Cn)(G Gh:Lz)(ft fc:Addr)(tn:Str)(stt:Stmt)(cg:Nat)(fdc:Fd):Prop where
 ex:∃(d en gn cn:Str) (fot foc:FuncData) (stc:Stmt) (Nc psc:List Str),ToldD stt d en gn cn/\Fun X.K tn tn stt ft fot/\Binds X.K fot [d] []/\X.mg gn=some (.ref (B.cl cg))/\X.mg cn=some (.ref fc)/\PySem.W.keepIn X.K (.ref fc)=true/\Fun X.K cn cn stc fc foc/\Turned Gh stc Nc psc fdc/\Binds X.K foc psc []/\psc.length=1/\Nc.length=fdc.slots
 hot:HotG G Gh
 ra:Rare B C (CXV X.prog X.w B) Gh
 rr:RareS B C (CXV X.prog X.w B) Gh
 exm:∀k,C.sub k cg=true->PySem.W.exmOne B.K (.ref (B.cl k)) (.ref (B.cl cg))=some true
def JLL{ft fc f:Addr}{tn:Str}{stt:Stmt}{cg:Nat}{fdc:Fd}{pr:XK->VK->Prop}{Ex:Nat->Hp->Prop}{Q:VK}
  (I:Inv X zp Y H s) (g:Gk X B C (CXV X.prog X.w B) XX G) (W:ToldT X B C G Gh ft fc tn stt cg fdc) (hst:X.stack=X.env::X.outer) (hh:X.A.handled=none) (hroom:X.A.depth+3<recursionLimit) (hu:X.A.units+220<cLine)
  (hf:∃o fd,s.heap.get? f=some o/\o.data=.func fd/\H f=none/\f ∉ frs X.stack)
  (hdeed:∀(A:Around) (env:PySem.Env) (s1:Shared) (E:XK) (Q:VK),A.handled=none->A.depth=X.A.depth+1->A.units=X.A.units+3->Env0 X.prog X.w B.K X.mg X.base A (env::X.stack) s1 H->(∀b o,s.heap.get? b=some o->H b=none->b ∉ frs X.stack->s1.heap.get? b=some o)->pr E Q ->
    codeAny (model X.prog X.w) A (.call (.ref f) #[[],[]]) (CR (CXV X.prog X.w B) (env::X.stack) X.prog X.w H s1 Q E) s1)
  (hq:pr (λu _ H'=>∃c,u=.ref (B.cl c)/\Ex c H') Q)
  (hex:∀c H',Ex c H'->∃B' C' dd,B'.cl=B.cl/\(∃XX',Gk X B' C' (CXV X.prog X.w B') XX' G)/\Rare B' C' (CXV X.prog X.w B') Gh/\RareS B' C' (CXV X.prog X.w B') Gh/\PySem.W.exmOne B.K (.ref (B.cl c)) (.ref (B.cl cg))=some true/\exec C' fdc.body ([Sl.val (excD c)]++List.replicate (fdc.slots - 1) Sl.no)=.rt dd/\∀v H'',Same H' H''->Den B' H'' dd v->Q v H''):wpAny (model X.prog X.w) X.A (call (.ref ft) [.ref f]) (EP X zp Y Q) X.xe s:=by
 obtain⟨d,en,gn,cn,fot,foc,stc,Nc,psc,TD,Ft,bt,mgg,mgc,kic,Fc,Tc,bc,lpc,lNc⟩:=W.ex;obtain⟨p1,p2,p3,p4,p5,p6,p7,p8,p9,p10,hbody⟩:=TD.body;obtain⟨oc,od,kV,doc,pm,an,cdv,ct,osl,rfl,lk,hcd⟩:=Ft.ex;have e0:=I.env0;have KX:X.K.In s.heap:=I.kIn;have hbs:=bt s [.ref f] KX rfl;simp![List.append_nil]at hbs;have hkind:∀y∈[d].zip [Value.ref f],(JAA stt).names.lookup y.1=some .local\/((JAA stt).names.lookup y.1=some .cell/\((cellsFrom (s.heap.objs.size+1) (JAA stt).names []).lookup y.1).isSome=true):=λ⟨n,v⟩ hy=>by
  simp![List.zip_cons_cons,List.zip_nil_right,List.mem_singleton,Prod.mk.injEq]at hy;exact .inl (hy.1▸TD.ld)
 refine wpAny_call (codeAny_mono (R:=λr s'=>match r with|.ok (.ret u)=>CE X.stack X.prog X.w H s Q u s'|.ok _=>False|.error _=>False) ?_ λr s' hq=>?_)
 case refine_2 =>
  cases r with
  |error e=>exact fF hq
  |ok fl =>
    cases fl with
    |ret u=>exact I.after hq
    |next=>exact fF hq
    |brk=>exact fF hq
    |cont=>exact fF hq
 refine codeAny_call_function ∅ (KX _ _ lk) rfl TD.sc.co TD.sc.gen rfl (PySem.W.codeRec_of KX hcd) (hbs _ _ _ _ ?_)
 refine wpAny_newFunctionEnv_cells TD.sc.kind hkind λenv he s1 xx=>?_;subst he;refine#[I.nolimit.keeps xx.toInCall.keep,codeAny_func ?_];have I1:=JDg (CX:=CXV X.prog X.w B) (E:=λ_ _ _=>False) TD.sc hh e0 (by rfl:[V.ref f].length=[d].length) (.cons rfl .nil) xx
 obtain⟨X1,hX1⟩:∃X1,X1=cxOf (CXV X.prog X.w B) X.prog X.w X.K X.mg X.base [d,en] tn (JAA stt) ft cdv X.A X.stack s H (λ_ _ _=>False):=#[_,rfl];rw[<-hX1]at I1;have eEnv:X1.env=envOfC tn (JAA stt) s.heap.objs.size ft cdv:=by rw[hX1];rfl
 have eA:X1.A=X.A.deeper (envOfC tn (JAA stt) s.heap.objs.size ft cdv):=by rw[hX1];rfl
 have eSt:X1.stack=X1.env::X.stack:=by rw[hX1];rfl
 have eOu:X1.outer=X.stack:=by rw[hX1];rfl
 have eEx:X1.ex=[]:=by rw[hX1];rfl
 have ePn:X1.pn=[]:=by rw[hX1];rfl
 have eS0:X1.s₀=s:=by rw[hX1];rfl
 have eH0:X1.H₀=H:=by rw[hX1];rfl
 have eN:X1.N=[d,en]:=by rw[hX1];rfl
 have eFr:X1.env.frame=some X1.env.locals:=by rw[hX1];rfl
 have eSc:X1.env.scope=JAA stt:=by rw[hX1];rfl
 have eK:X1.K=X.K:=by rw[hX1];rfl
 have eMg:X1.mg=X.mg:=by rw[hX1];rfl
 have eP:X1.prog=X.prog:=by rw[hX1];rfl
 have eW:X1.w=X.w:=by rw[hX1];rfl
 have eB:X1.base=X.base:=by rw[hX1];rfl
 have eHd:X1.A.handled=none:=by rw[hX1];exact hh
 have eDp:X1.A.depth=X.A.depth+1:=by rw[hX1];rfl
 have eUn:X1.A.units=X.A.units+3:=by rw[hX1];rfl
 have eCa:X1.calm=true:=by rw[hX1];rfl
 have eFn:∀nm,X1.fn nm=true:=by rw[hX1];exact λ_=>rfl
 have ceOf:∀ {X':Cx}{pins':Pq}{Y':St}{u:Value}{s':Shared},X'.prog=X.prog->X'.w=X.w->X'.fs=frs X.stack->X'.ex=[]->X'.s₀=s->X'.H₀=H->EP X' pins' Y' Q u s'->CE X.stack X.prog X.w H s Q u s':=λ{X' pins' Y' u s'} a1 a2 a3 a4 a5 a6 ⟨v,H',J,r,q⟩=>by
  refine#[v,H',by rw[J.os,a5],J.bare,?_,by rw[<-a1,<-a2];exact J.hok,r,q]
  have:=J.base;rw[a3,a4,a5,a6]at this;exact this
 refine wpAny_mono (Q:=λfl s'=>∃u,fl=Flow.ret u/\CE X.stack X.prog X.w H s Q u s') (E:=λ_ _=>False) ?_ (λfl s' ⟨u,e,q⟩=>by subst e;exact q) λ_ _ z=>z.elim
 show wpAny (model X.prog X.w) (X.A.deeper (envOfC tn (JAA stt) s.heap.objs.size ft cdv)) (execs (JAV stt) (envOfC tn (JAA stt) s.heap.objs.size ft cdv)) _ _ s1;rw[<-eA,<-eEnv,hbody,<-eP,<-eW];refine wpAny_execs_cons (wpAny_Try_except ?_);obtain⟨hx,hhx⟩:∃hx:Vq,hx=λe s₁=>wpAny (model X1.prog X1.w) X1.A (noteFrame e X1.env) (λ_ s₂=>wpAny (model X1.prog X1.w) X1.A (setFlight e none) (λ_ s₃=>wpAny (model X1.prog X1.w) X1.A (handleBy e X1.env [.ExceptHandler (some (.Name gn p4)) (some en) [.Return (some (.Call (.Name cn p5) [.Name en p6] [] p7)) p8] p9]) (λf s'=>match f with|.next=>wpAny (model X1.prog X1.w) X1.A (execs [] X1.env) (λfl s'=>∃u,fl=Flow.ret u/\CE X.stack X1.prog X1.w H s Q u s') (λ_ _=>False) s'|f=>∃u,f=Flow.ret u/\CE X.stack X1.prog X1.w H s Q u s') (λ_ _=>False) s₃) (λ_ _=>False) s₂) (λ_ _=>False) s₁:=#[_,rfl]
 show wpAny (model X1.prog X1.w) X1.A _ _ _ s1;refine wpAny_mono (Q:=λfl s'=>∃u,fl=Flow.ret u/\CE X.stack X1.prog X1.w H s Q u s') (E:=hx) ?_ (λfl s' ⟨u,e,q⟩=>by subst e;exact#[u,rfl,q]) (λe s' z=>by rw[hhx]at z;exact z)
 refine wpAny_execs_cons ?_;have hnd:X1.N.Nodup:=by rw[eN];exact TD.sc.nd
 have hi:X1.N[1]? = some en:=by rw[eN];rfl
 have h0:X1.N[0]? = some d:=by rw[eN];rfl
 have hle:X1.env.scope.names.lookup en=some .local:=by rw[eSc];exact TD.le
 have hld:X1.env.scope.names.lookup d=some .local:=by rw[eSc];exact TD.ld
 have hgl:Gl X1 gn:=by show X1.env.scope.names.lookup gn=_;rw[eSc];exact TD.lg
 have hgc:Gl X1 cn:=by show X1.env.scope.names.lookup cn=_;rw[eSc];exact TD.lc
 have hcal:X1.calm=true->X1.A.handled=none:=λ_=>eHd;have I2:Inv (atX X1 X1.A [] hx true) [] (start [d,en] [V.ref f]) H s1:=JHT I1 rfl (λ_=>eHd) (λp hp=>by simp at hp)
 refine wpAny_Return_some (wpAny_Call_Name_kw (thn (JFF (X:=atX X1 X1.A [] hx true) (i:=0) h0 (.inl hld) (JAE TD.bd).1 (JAE TD.bd).2.1 [] s1 _ H (λv H1=>v=.ref f/\H1=H) I2 #[.ref f,rfl,rfl,rfl]) λu s2 ⟨v,H1,I3,rv,hv,hH⟩=>?_));subst hv;subst hH;have ru:u=.ref f:=rv;subst ru;have I3':Inv X1 [] (start [d,en] [V.ref f]) H1 s2:=JMu I3 rfl hcal (λp hp=>by rw[ePn]at hp;simpa using hp)
 have kp:∀b o,s.heap.get? b=some o->H1 b=none->b ∉ frs X.stack->s2.heap.get? b=some o:=λb o q1 q2 q3=>by
  have:=I3'.base.keep b o;rw[eS0,eH0,eEx]at this;refine this q1 q2 (λz=>?_) (by simp)
  have e:X1.fs=frs X.stack:=by rw[hX1];rfl
  rw[e]at z;exact q3 z
 obtain⟨fo,ffd,fe,fdd,fH,fst⟩:=hf;rw[<-eP,<-eW]at hdeed;refine callWith_meth0 fdd (kp _ _ fe fH fst) (wpAny_call (codeAny_mono (hdeed X1.A X1.env s2 (λu _ H'=>∃c,u=.ref (B.cl c)/\Ex c H') Q eHd eDp eUn ?_ kp hq) λrr s3 hr=>?_))
 ·have:=I3'.env0;rw[eK,eMg,eB,eSt,g.K]at this;exact this
 cases rr with
 |ok fl =>
  cases fl with
  |ret u =>
    refine#[u,rfl,?_];have hr':CE X1.stack X1.prog X1.w H1 s2 Q u s3:=by rw[eSt];exact hr
    rw[eP,eW];exact ceOf (X':=X1) eP eW (by rw[hX1];rfl) eEx eS0 eH0 (I3'.after hr')
  |next=>exact fF hr
  |brk=>exact fF hr
  |cont=>exact fF hr
 |error e =>
  obtain⟨ea,T,c',H',ee,os,bare,un,hok,tr,⟨f1,f2⟩,⟨f3,f4⟩,⟨c2,ec,hE⟩⟩:=hr;subst ee;rw[hhx];obtain⟨B',C',dd,eB,⟨XX',g'⟩,ra',rr',hxm,hdd,hQ⟩:=hex c2 H' hE;rw[<-eSt]at un;have J0:Inv X1 [] (start [d,en] [V.ref f]) H' s3:=I3'.call' (ch:=[]) os un hok bare (λb hb=>by simp at hb)
  obtain⟨oe,vs,a0,oT,ts,q1,q2,q3,q4,q6,q7,q8,q9⟩:=id tr;have fr0:∀b,s2.heap.get? b=none->X1.s₀.heap.get? b=none:=λb q=>by
    cases z:X1.s₀.heap.get? b with
    |none=>rfl
    |some o =>
     obtain⟨o',e2⟩:=I3'.base.there b o z (by rw[eEx];simp)
     rw[q]at e2;cases e2
  have has:∀b∈(ea::T::frs X1.stack),b∈frs X1.stack\/(X1.s₀.heap.get? b=none/\H' b=none):=λb hb=>by
    rcases q_n.mp hb with rfl|hb
    ·exact .inr #[fr0 _ f1,f2]
    ·rcases q_n.mp hb with rfl|hb
     ·exact .inr #[fr0 _ f3,f4]
     ·exact .inl hb
  have hpin:∀p∈X1.pn++[],p.1 ∉ (ea::T::frs X1.stack):=λp hp hm=>by rw[ePn]at hp;simp at hp
  have stk:=J0.stack;have fl0:Heap.FlyingW (PySem.W.hideAll s3.heap (ea::T::frs X1.stack)) X1.stack ea (.ref (B.cl c')) a0 s3.heap :=
    #[λb o q=>PySem.W.of_hideAll _ q,PySem.W.hideAll_none _ (by simp),PySem.W.funFrames_hide stk (λenv he a hf=>q_s _ (q_s _ (List.mem_filterMap.mpr #[env,he,hf]))),oe,vs,T,oT,ts,q1,q2,q3,q4,PySem.W.hideAll_none _ (by simp),q6,q7,q8,q9]
  have eSt':X1.stack=X1.env::X1.outer:=by rw[eSt,eOu]
  refine PySem.wpAny_looks_onW (base:=PySem.W.hideAll s3.heap (ea::T::frs X1.stack)) (outer:=X1.outer) (cls:=.ref (B.cl c')) (a0:=a0) (J0.ok.frames.trans (congrArg some eSt')) eFr (by rw[<-eSt'];exact fl0) λh4 held4 up4=>?_
  refine PySem.wpAny_landsW held4 λh5 fl5 up5'=>?_;have up5:=up4.trans up5';have J5:Inv X1 [] (start [d,en] [V.ref f]) H' { s3 with heap:=h5 }:=JKN J0 eEx has hpin fl5 up5 s3.toks
  have J5m:Inv (atX X1 (X1.A.mark (some (.ref ea))) X1.pn (λ_ _=>False) false) [] (start [d,en] [V.ref f]) H' { s3 with heap:=h5 }:=JHT J5 rfl (λz=>by cases z) (λp hp=>hp)
  refine wpAny_handleBy_cons (codeAny_handlers_test (JB0 J5m hgl (eMg▸mgg) ?_ (JAE TD.bg).1)) (by intro q;cases q)
  obtain⟨ob,hob,hoc⟩:=fl5.there;have LT:PySem.W.Looks (model X1.prog X1.w) h5 (typeOf (.ref ea)) (.ref (B.cl c')):=by
    rw[<-hoc];exact(PySem.W.Looks.ld hob).andThen .now
  have hex1:PySem.W.exmOne X1.K (.ref (B.cl c')) (.ref (B.cl cg))=some true:=by
    rw[eK,g.K,show Value.ref (B.cl c')=Value.ref (B.cl c2) from ec];exact hxm
  refine(PySem.W.exm_one J5.kIn LT hex1).here (s:={ s3 with heap:=h5 }) (codeAny_handlers_suite_as ?_)
  refine lands_againW (s:={ s3 with heap:=h5 }) fl5 λh6 fl6 up6=>?_
  have J6:Inv X1 [] (start [d,en] [V.ref f]) H' { s3 with heap:=h6 }:=JKN J0 eEx has hpin fl6 (up5.trans up6) s3.toks
  obtain⟨_,_,_,oe6,vs6,T6,oT6,ts6,w1,⟨w2,_⟩,w3,_⟩:=id fl6;have ecl:B.cl c'=B.cl c2:=by
    have:=ec;injection this
  have J7:=JIx J6 w1 (by rw[w2,ecl]) w3 (fr0 _ f1) f2 (λp hp z=>hpin p hp (by rw[z];simp))
  refine JCB J7 hnd hi (.inl hle) (v:=.ref ea) rfl (λs8 J8'=>?_) (.inr hle);have J8:Inv (atX X1 (X1.A.mark (some (.ref ea))) X1.pn (λ_ _=>False) false) [] ((start [d,en] [V.ref f]).set 1 (some (.ref ea))) (upd H' ea (.ext (ExcAt ea (B.cl c2)))) s8:=JHT J8' rfl (λz=>by cases z) (λp hp=>hp)
  have gC:Gl (atX X1 (X1.A.mark (some (.ref ea))) X1.pn (λ_ _=>False) false) cn:=hgc;obtain⟨H6,hH6⟩:∃H6,H6=upd H' ea (.ext (ExcAt ea (B.cl c2))):=#[_,rfl];rw[<-hH6]at J8;have sm6:Same H' H6:=λb o e=>by
    rw[hH6,JAI λz=>by rw[z,f2]at e;cases e]
    exact e
  have den6:Den B' H6 (excD c2) (.ref ea):=by
    unfold excD;simp![Den];exact .inl #[ea,c2,rfl,rfl,by rw[hH6,eB];exact JAF]
  obtain⟨Y8,hY8⟩:∃Y8,Y8=(start [d,en] [V.ref f]).set 1 (some (.ref ea)):=#[_,rfl];have hY1:Y8[1]? = some (some (.ref ea)):=by rw[hY8];rfl
  rw[<-hY8]at J8;obtain⟨X3,hX3⟩:∃X3,X3=atX X1 (X1.A.mark (some (.ref ea))) X1.pn (λ_ _=>False) false:=#[_,rfl];rw[<-hX3]at J8 gC;have a3:X3.A=X1.A.mark (some (.ref ea)):=by rw[hX3];rfl
  have n3:X3.env=X1.env:=by rw[hX3];rfl
  have p3':X3.prog=X1.prog:=by rw[hX3];rfl
  have w3':X3.w=X1.w:=by rw[hX3];rfl
  have m3:X3.mg=X.mg:=by rw[hX3];exact eMg
  have k3:X3.K=X.K:=by rw[hX3];exact eK
  have N3:X3.N=X1.N:=by rw[hX3];rfl
  refine wpAny_mono (Q:=λfl s9=>∃u,fl=Flow.ret u/\EP X3 [] Y8 (λv H9=>Same H6 H9/\Den B' H9 dd v) u s9) (E:=λ_ _=>False) ?_ (λfl s9 h9=>?_) λ_ _ z=>z.elim
  · rw[<-a3,<-n3,<-p3',<-w3']
    have hPA:PA X3 [.Name en p6] (JQQ (tVar 1) tNil):=JAz (JFF (i:=1) (by rw[N3];exact hi) (.inl (by rw[n3];exact hle)) (JAE TD.be).1 (JAE TD.be).2.1) JBQ
    have x3:X3.xe=λ_ _=>False:=by rw[hX3];rfl
    have hPA':=hPA p7 [] s8 Y8 H6 (λvs H9=>vs=[V.ref ea]/\H9=H6) J8 #[.ref ea,hY1,rfl,rfl];rw[x3]at hPA';refine wpAny_execs_cons (wpAny_Return_some (wpAny_Call_Name_kw (JB0 J8 gC (by rw[m3];exact mgc) ?_ (JAE TD.bc).1)))
    refine PySem.W.callWith_K (K:=X3.K) (h₀:=X3.base) J8.ok.mod.kin (by rw[k3];exact kic) (thn hPA' λus s9 ⟨vs,H9,J9,rvs,hvs,hH9⟩=>#[J9.kIn,?_]) rfl rfl
    subst hvs;subst hH9;refine thn (JLZ (X:=X) (X1:=X3) (Q:=λv H10=>Same H9 H10/\Den B' H10 dd v) (ds:=[excD c2]) (vs:=[V.ref ea]) (E:=λ_ _=>False) J9 g' W.hot k3 m3 (p3'.trans eP) (w3'.trans eW) (by rw[a3];show X1.A.depth<_;omega) (by rw[a3];show X1.A.units+203<_;omega) (by rw[k3];exact Fc) Tc (by rw[k3];exact bc) (by rw[p3',w3',eP,eW];exact ra') (by rw[p3',w3',eP,eW];exact rr') (#[_,_,rfl,den6,rfl]) rvs lpc.symm (by rw[lNc];exact hdd) λv H10 a b=>#[a,b]) λu s10 h10=>#[u,rfl,h10]
  obtain⟨u,rfl,v,H9,J9,rv,sm9,dn9⟩:=h9;rw[hX3]at J9;have J9':Inv X1 [] Y8 H9 s9:=JMu J9 rfl hcal (λp hp=>by rw[ePn]at hp;simpa using hp)
  show wpAny (model X1.prog X1.w) X1.A (do bindName X1.env en .none;unbindBehindTheSuite X1.env en p9) (λ_ s₃=>∃w,Flow.ret u=Flow.ret w/\CE X.stack X1.prog X1.w H1 s Q w s₃) (λ_ _=>False) s9
  refine q_b (wpAny_bindName (JCB J9' hnd hi (.inl hle) (v:=.non) rfl (λs10 J10=>?_) (.inr hle)));unfold unbindBehindTheSuite;have hv:(Y8.set 1 (some V.non))[1]? = some (some V.non):=by
    refine q_y ?_;have:=q_p.mp hY1;exact this.1
  refine wpAny_onRaise (JKL J10 hnd hi hle hv λs11 J11=>#[u,rfl,?_]);rw[eP,eW];exact ceOf (X':=X1) eP eW (by rw[hX1];rfl) eEx eS0 eH0 #[v,H9,J11,rv,hQ v H9 (sm6.trans sm9) dn9]
end
end VI
end
section
namespace VI
open PySem PySem.Spec PyProof.Rows L2
section
variable{X:Cx}{B:Bs}{C:Cn}{XX:Nat->Hp->Prop}{G Gh:Lz}{P:Addr}{q:Str}{p0:Array Value}
end
end VI
end
section
namespace VI
open PySem PySem.Spec PyProof.Rows L2
abbrev hotK:GK->Bool
 |.rcf _=>false
 |.rcm _ _=>false
 |.rco _=>false
 |.fn _=>false
 |.blt _=>false
 |_=>true
abbrev JC3(G:Lz):Lz:=((".hot":Str),GK.opt)::G.filter λp=>hotK p.2&&p.1 != (".try":Str)&&(p.2 != GK.opt || p.1==(".met":Str))
theorem JCu{α:Type}:∀ {l:List (Str×α)}{x:Str}{k:α},(l.map (·.1)).Nodup->(x,k)∈l->l.lookup x=some k
 | [],_,_,_,h=>by simp at h
 |(y,j)::r,x,k,hn,h=>by
  rw[List.map_cons,List.nodup_cons]at hn;rw[List.lookup_cons];rcases q_n.mp h with e|e
  · cases e
    rw[beq_self_eq_true]
  · have hx:x≠y:=λz=>hn.1 (z▸List.mem_map.mpr #[_,e,rfl])
    rw[beq_eq_false_iff_ne.mpr hx];exact JCu hn.2 e
def JKD(hn:(G.map (·.1)).Nodup):HotG G (JC3 G):=by
 have get:∀ {x:Str}{k:GK},(JC3 G).lookup x=some k->(x=".hot"/\k=.opt)\/((x,k)∈G/\hotK k=true/\x≠".try"):=λ{x k} h=>by
  rcases q_n.mp (PySem.mem_of_lookup h) with e|e
  ·cases e;exact .inl #[rfl,rfl]
  ·obtain⟨e1,e2⟩:=List.mem_filter.mp e;simp![q_i,bne_iff_ne]at e2;exact .inr #[e1,e2.1.1,e2.1.2]
 refine#[λx k h=>?_,λx i h=>?_,λx i j=>#[λh=>?_,λh=>?_,λh=>?_],?_]
 ·rcases get h with ⟨_,e⟩|⟨e,_⟩
  ·exact .inl e
  ·exact .inr (JCu hn e)
 ·rcases get h with ⟨_,e⟩|⟨_,e,_⟩
  ·cases e
  ·cases e
 ·rcases get h with ⟨_,e⟩|⟨_,e,_⟩
  ·cases e
  ·cases e
 ·rcases get h with ⟨_,e⟩|⟨_,e,_⟩
  ·cases e
  ·cases e
 ·rcases get h with ⟨_,e⟩|⟨_,e,_⟩
  ·cases e
  ·cases e
 ·unfold JC3;rw[List.lookup_cons,beq_self_eq_true]
section
variable{B:Bs}{G:Lz}
def JOq{sub:Nat->Nat->Bool}(hg:HotG G (JC3 G))(I:Isi B G sub):Isi B (JC3 G) sub:=#[λx c e=>I.own x c (hg.at e (by intro z;cases z)),I.exc,λk hk x c e=>I.rel k hk x c (hg.at e (by intro z;cases z))]
end
abbrev JBf(ps:List Addr)(K:Kq):Kq:=K.filter λp=>!ps.contains p.1
def JEU{ps:List Addr}{K:Kq}{a:Addr}(h:a∈ps):(JBf ps K).lookup a=none:=by
 cases q:(JBf ps K).lookup a with
 |none=>rfl
 |some o =>
  have:=(List.mem_filter.mp (JB8 q)).2;simp[h]at this
theorem JC7{ps:List Addr}:∀ {K:Kq}{a:Addr}{o:Obj},(JBf ps K).lookup a=some o->K.lookup a=some o
 | [],a,o,h=>by cases h
 |(b,u)::r,a,o,h=>by
  have ha:a ∉ ps:=λz=>by rw[JEU z]at h;cases h
  unfold JBf at h;rw[List.filter_cons]at h
  split at h
  · rw[List.lookup_cons]at h ⊢
    split at h
    ·exact h
    ·exact JC7 h
  · rename_i hb
    have hb:b∈ps:=by simpa using hb
    rw[List.lookup_cons,show(a==b)=false from beq_eq_false_iff_ne.mpr λz=>ha (z▸hb)];exact JC7 h
def JLx{ps:List Addr}{K:Kq}{h:Heap}(x:K.In h):(JBf ps K).In h:=λa o e=>x a o (JC7 e)
def JFd{K:Kq}{c P:Addr}{od:Option Addr}{vs:Array Value}{sl:Array (Option Value)}{file text:_}{tf tg tt:Tok}{flags:Int}{inF:Bool}(l:K.lookup c=some #[.type "code",od,.fields vs,sl])(e1:vs[11]? = some (.ref P))(e2:vs.getD 11 .none=.ref P)(e3:vs.getD 18 .none=.str file tf)(e4:vs.getD 7 .none=.int flags tg)(e5:vs.getD 9 .none=.bool inF)(e6:vs.getD 10 .none=.int text tt)(e7:c≠P)(base:Heap)(x:K.In base):PySem.W.CodeHd base c P :=
 #[_,vs,file,tf,flags,tg,inF,text,tt,x _ _ l,rfl,rfl,e1,e2,e3,e4,e5,e6,e7]
def JSR{K:Kq}{h:Heap}{mg:Mq}{bm P:Addr}{sl:Array (Option Value)}(X:K.In h)(Gm:h.Ns mainGlobals mg)(e:PySem.W.nsIn K mainGlobals "__builtins__"=some (some (.ref bm)))(n1:bm≠builtinsNs)(n2:bm≠mainGlobals)(n3:bm≠P)(l:K.lookup bm=some #[.type "module",some builtinsNs,.plain,sl])(base:Heap)(x:K.In base):base.BuiltinsAt mg P :=
 #[bm,_,PySem.W.mg_of X Gm e,n1,n2,n3,x _ _ l,rfl,rfl,rfl]
def toldI{st:Stmt}{d en gn cn:Str}(h:∃p1 p2 p3 p4 p5 p6 p7 p8 p9 p10,JAV st=[.Try [.Return (some (.Call (.Name d p1) [] [] p2)) p3] [.ExceptHandler (some (.Name gn p4)) (some en) [.Return (some (.Call (.Name cn p5) [.Name en p6] [] p7)) p8] p9] [] [] p10]:=by exact#[_,_,_,_,_,_,_,_,_,_,rfl])(sc:FnScope [d,en] [d] (JAA st):=by exact#[rfl,rfl,rfl,by decide +kernel,rfl,by decide +kernel,by decide +kernel])
  (ld:(JAA st).names.lookup d=some .local:=by kernel_rfl) (le:(JAA st).names.lookup en=some .local:=by kernel_rfl) (lg:(JAA st).names.lookup gn=some .globalImplicit:=by kernel_rfl) (lc:(JAA st).names.lookup cn=some .globalImplicit:=by kernel_rfl)
  (bd:JAT d=false:=by kernel_rfl) (be:JAT en=false:=by kernel_rfl) (bg:JAT gn=false:=by kernel_rfl) (bc:JAT cn=false:=by kernel_rfl):ToldD st d en gn cn:=by
 exact#[h,sc,ld,le,lg,lc,bd,be,bg,bc]
end VI
end
section
namespace VI
open PySem PySem.Spec PyProof.Rows L2
section
variable{X:Cx}{κ:Kl}{B:Bs}{C:Ta->Cn}{f3:F3}{XX:Nat->Hp->Prop}{G Gh:Lz}{L:List (Str×GK3)}{P:Addr}{q:Str}{ρ:Tb}{H H':Hp}
def JLa(al:Recs κ B ρ H)(hP:κ.tb.lookup P=some q)(off:∀b o,H b=some o->b≠P->H' b=some o)(t:TbOk P q H'):StepR κ B ρ H ρ H':=by
 have hm:P∈adrs κ ρ:=List.mem_append_left _ (List.mem_map.mpr #[_,JB8 hP,rfl]);have off':∀b o,H b=some o->b ∉ adrs κ ρ->H' b=some o:=λb o e n=>off b o e λz=>n (z▸hm);obtain⟨k1,k2⟩:=al.off off';obtain⟨cs,eP,_⟩:=al.tb P q hP;refine#[off',#[λp hp=>?_,al.nd,λP' q' e=>?_],λn p e=>#[p,e,rfl],λb hb=>hb,λb h n=>absurd h n]
 ·obtain⟨fs,r⟩:=al.at_ p hp;exact#[fs,r.stay k1 k2 λb hb o e=>off b o e λz=>(r.notb hb).1 cs (by rw[z];exact eP)]
 ·by_cases z:P'=P
  ·subst z;rw[hP]at e;cases e;exact t
  ·obtain⟨cs',e',h'⟩:=al.tb P' q' e;refine#[cs',off _ _ e' z,λc hc=>?_];obtain⟨oc,u,vs,t,e1,e2⟩:=h' c hc;exact#[oc,u,vs,t,off _ _ e1 λz=>(by rw[z,eP]at e1;cases e1),e2]
def JJc(h:noArgs a=true):a={ posonlyargs:=[],args:=[],vararg:=none,kwonlyargs:=[],kw_defaults:=[],kwarg:=none,defaults:=[] }:=by
 obtain⟨a1,a2,a3,a4,a5,a6,a7⟩:=a;simp![noArgs,q_i,List.isEmpty_iff,Option.isNone_iff_eq_none]at h;obtain⟨⟨⟨⟨⟨⟨rfl,rfl⟩,rfl⟩,rfl⟩,rfl⟩,rfl⟩,rfl⟩:=h;rfl
def JQz{ft fc:Addr}{cg n n0:Nat}{sc:Scope}
  (hP:κ.tb.lookup P=some q) (hcode:∃c,X.env.code=.ref c/\PySem.W.CodeHd X.base c P) (hB:X.base.BuiltinsAt X.mg P) (hq:X.env.qual++"<lambda>"=q) (g:Gk3 X κ B C f3 (CXV X.prog X.w B) XX G L)
  (gl:∀ {f:Addr}{cd:Value}{cl:List (Str×Addr)}{A:Around}{outer:List PySem.Env}{s:Shared}{H:Hp}{E:XK},A.handled=none->A.depth=X.A.depth+1->A.units=X.A.units+3->Gk3 (JE6 X.prog X.w B X.mg X.base X.N q sc f cd cl A outer s H E) κ B C f3 (CXV X.prog X.w B) (XXd B E) G L)
  (W:∀ρ,ToldT X (JAB κ B ρ) (C (pi ρ)) G Gh ft fc tn stt cg fdc) (ra:∀ρ,Rare (JAB κ B ρ) (C (pi ρ)) (CXV X.prog X.w B) G) (hst:X.stack=X.env::X.outer) (hh:X.A.handled=none) (hroom:X.A.depth+3<recursionLimit) (hu:X.A.units+220<cLine)
  (hgt:Gl X tn) (hmt:X.mg tn=some (.ref ft)) (hkt:PySem.W.keepIn X.K (.ref ft)=true) (hbt:JAT tn=false) (hl:JL0 X.env.scope.names params sc=true) (hnd:X.N.Nodup) (hfn:∀nm,X.fn nm=true) (hcomp:JBW L sc.names (JAL G n0 false sc.names X.N) none n body=some x) :
  PE X (.Call (.Name tn p) [.Lambda params body sc lp] [] pos) (RE3 κ B C f3 XX (.tol cg fdc x)):=by
 simp![JL0,q_i,List.all_eq_true,beq_iff_eq,bne_iff_ne,Bool.not_eq_true',Bool.or_eq_true]at hl;obtain⟨⟨⟨⟨ha,hk⟩,hco⟩,hge⟩,hn⟩:=hl;have ha:=JJc ha;have S:LamSc sc:=#[hk,hco,hge,λy hy=>#[(hn y hy).1.1,(hn y hy).1.2]];have hfree:∀n,(n,NameKind.free)∈sc.names->X.env.kindOf n=some .cell\/X.env.kindOf n=some .free:=λy hy=>by
  rcases(hn _ hy).2 with z|z
  · exact absurd rfl z
  · exact z
 rintro zp s Y H Q I ⟨ρ,U,al,ok,k⟩;obtain⟨c,hc1,hc2⟩:=hcode;refine wpAny_Call_Name_kw (JB0 I hgt hmt ?_ (JAE hbt).1);refine PySem.W.callWith_K (K:=X.K) (h₀:=X.base) I.ok.mod.kin hkt ?_ rfl rfl;show wpAny _ _ (spliced ((false,eval (.Lambda params body sc lp) X.env)::backTo pos (starEach [] X.env))) _ _ s;refine Calls.spliced_cons (JLe I (al.tb P q hP) hc1 hc2 hB hq (by rw[ha];rfl) hfree λf c' ctv H' s1 off tb I1 hcd=>?_)
 refine Calls.spliced_nil #[I1.kIn,?_];obtain⟨oc,u,vs,t,eoc,hd,hv⟩:=hcd;have st:=JLa al hP off tb;have ok':=st.sok al ok;have k':=K3.step st k;obtain⟨pf,pH,pl,pfs,_⟩:=I1.pin _ (q_r _ (q_r _ (List.mem_singleton.mpr rfl)));have fstk:f ∉ frs X.stack:=λz=>by
  rcases q_n.mp (I1.stkSub _ z) with z|z
  · exact pl z
  · exact pfs z
 refine thn (JLL (B:=JAB κ B []) (C:=C (pi [])) (pr:=λE Q=>RE3 κ B C f3 (XXd B E) x Y H' Q) (Ex:=λc H1=>∃π ρ',ev3 C f3 U x (pi ρ)=.exc c π/\StepR κ B ρ H' ρ' H1/\pi ρ'=π) I1 (g.g []) (W []) hst hh hroom hu #[_,_,pf,rfl,pH,fstk] (λA env s2 E Q2 b1 b2 b3 e0 kp hq2=>?_) #[ρ,U,st.all,ok',?_] λc H1 h_=>?_) λu s' h=>let ⟨v,H2,J,r,qq⟩:=h;#[v,H2,J.unpinned,r,qq]
 ·have cg':∀ {y:Str}{c:Addr},(JA5 X.env.cells sc.names []).lookup y=some c↔(y,NameKind.free)∈sc.names/\X.env.cells.lookup y=some c:=λ{y c}=>by
    rw[JBT]
    by_cases h:(y,NameKind.free)∈sc.names
    ·rw[if_pos h];obtain⟨d,hd⟩:=I1.ok.has y (hfree y h);rw[hd];simp[h]
    ·rw[if_neg h];simp[h]
  have cellOk:∀ {y:Str}{c:Addr}{v:Option Value},X.env.cells.lookup y=some c->s1.heap.IsCell c v->s2.heap.IsCell c v:=λ{y c v} e ⟨o,ho,hd⟩=>#[o,kp _ _ ho (I1.freeC y c e) λz=>by
    rcases q_n.mp (I1.stkSub _ z) with z|z
    ·exact I1.cne y c e z
    ·obtain⟨_,o',ho',_⟩:=I1.ok.funs.mem z;exact absurd (q_m (q_h ho') (I1.ok.cab y c (hfn y) e)) (Nat.lt_irrefl _),hd]
  have g':=gl (f:=f) (cd:=.ref c') (cl:=JA5 X.env.cells sc.names []) (outer:=env::X.stack) (s:=s2) (H:=H') (E:=E) b1 b2 b3;have so:=λρ=>sound (ra ρ) n0 _ _ _ _ (g'.g ρ) S.kind rfl rfl hnd;refine JK5 (name:=.none) (N:=X.N) (Y:=Y) ∅ S b1 e0 I1.len (λy hy=>?_) (λy z c h1 h2=>I1.ok.inj y z c (cg'.mp h1).2 (cg'.mp h2).2) (λy c h=>?_) (λi y v hi hv hy=>?_) (kp _ _ pf pH fstk) #[c',oc,vs,t,rfl,(e0.hok _ _ eoc).1,hd,hv] (by rw[ha];rfl) (JDw g' S.kind rfl (λρ e y h=>((so ρ).1 _ _ h).1) (λρ e y h=>((so ρ).1 _ _ h).2) (λf' z=>by cases z) n body x hcomp) hq2
  · have hm:=PySem.mem_of_lookup hy
    obtain⟨c,hc⟩:=I1.ok.has y (hfree y hm);exact#[c,cg'.mpr #[hm,hc]]
  · have hc:=(cg'.mp h).2
    obtain⟨v,z⟩:=I1.cell y c hc;exact#[#[v,cellOk hc z],I1.freeC y c hc]
  · have hm:=PySem.mem_of_lookup hy
    obtain⟨m,hn,hl⟩:=I1.loc;obtain⟨u,r,lk⟩:=hl i y v hi hv (.inr (hfree y hm));rcases lk with ⟨lk,_⟩|⟨_,c,hc,z⟩
    ·rcases hfree y hm with z|z
     ·rw[show X.env.kindOf y=_ from lk]at z;cases z
     ·rw[show X.env.kindOf y=_ from lk]at z;cases z
    ·exact#[u,c,r,cg'.mpr #[hm,hc],cellOk hc z]
 ·simp![ev3]at k';cases r:ev3 C f3 U x (pi ρ) with
  |ok dd π=>rw[r]at k';exact k'
  |exc c π=>exact λρ' H1 s1 e H'' sm=>#[c,rfl,π,ρ',rfl,s1.then sm,e]
  |bad=>rw[r]at k';exact k'
 ·obtain⟨π,ρ',e,s1,rfl⟩:=h_;simp![ev3]at k';rw[e]at k';unfold JCT at k';simp only at k'
  split at k'
  case isFalse=>exact fF k'
  rename_i hs1
  split at k'
  case h_2=>exact fF k'
  rename_i dd hdd;exact#[JAB κ B ρ',C (pi ρ'),dd,rfl,#[XX,g.g ρ'],(W ρ').ra,(W ρ').rr,(W ρ').exm c hs1,hdd,λv H'' s2 d2=>k' ρ' H'' (s1.then s2) rfl v d2]
end
end VI
end
section
namespace VI
open PySem PySem.Spec PyProof.Rows L2
structure Turned3(G:Lz)(L:List (Str×GK3))(on fl:List Str)(lam:Bool)(st:Stmt)(N ps:List Str)(fd:Fd3):Prop where
 comp:JBn (JCI G L on fl lam 60 (JAA st).names N 60 true) (JAV st)=some fd.body
 sc:FnScope N ps (JAA st)
 par:fd.par=ps.length
 slots:fd.slots=N.length
def LamC(mg:Mq)(κ:Kl)(K:Kq)(x:Str)(fo:FuncData):Prop:=∃c P,fo.code=.ref c/\κ.tb.lookup P=some (x++".<locals>."++"<lambda>")/\(∀base:Heap,K.In base->PySem.W.CodeHd base c P)/\∀base:Heap,K.In base->base.BuiltinsAt mg P
def TldC(mg:Mq)(K:Kq)(G1:Lz)(tn:Str)(cg:Nat)(fdc:Fd):Prop:=∃(ft fc:Addr) (stt stc:Stmt) (d en gn cn xk:Str) (fot foc:FuncData) (Nc:List Str),mg tn=some (.ref ft)/\ToldD stt d en gn cn/\Fun K tn tn stt ft fot/\Binds K fot [d] []/\G1.lookup gn=some (.cls cg)/\mg cn=some (.ref fc)/\Fun K cn cn stc fc foc/\Turned (JC3 G1) stc Nc [xk] fdc/\Binds K foc [xk] []
section
variable{κ:Kl}{B:Bs}{kR:Nat->RK}{tab tabR:Nat->Option Fd}{tab3:Nat->Option Fd3}{glo:Nat->R D}{sub:Nat->Nat->Bool}{G0 G1:Lz}{L:List (Str×GK3)}{fl:List Str}{P:Program}{w:World}{mg:Mq}{base:Heap}
structure Mo3(mg:Mq)(κ:Kl)(B:Bs)(kR:Nat->RK)(tab tabR:Nat->Option Fd)(tab3:Nat->Option Fd3)(glo:Nat->R D)(sub:Nat->Nat->Bool)(G0 G1:Lz)(L:List (Str×GK3))(fl:List Str):Prop where
 bas:∀ρ,Mo mg (JAB κ B ρ) G0 tab glo sub
 fn:∀x i,G1.lookup x=some (.fn i)->(kR i=.no/\G0.lookup x=some (.fn i))\/(kR i=.def_/\∃fd f fo st N ps,tabR i=some fd/\mg x=some (.ref f)/\Fun B.K x x st f fo/\Binds B.K fo ps []/\Turned G1 st N ps fd)
 con:∀ρ x i d,G1.lookup x=some (.con i)->glo i=.ok d->∃u v,mg x=some u/\RelV v u/\∀H,Den (JAB κ B ρ) H d v
 blt:∀x b,G1.lookup x=some (.blt b)->mg x=none
 rng:∀x,G1.lookup x=some .rng->mg x=none
 isi:∀x,G1.lookup x=some .isi->mg x=none
 ty:∀x t,G1.lookup x=some (.ty t)->mg x=none
 nam:∀x,G1.lookup x=some .nam->mg x=none
 cl:Cl mg B G1
 cls:Cls B.K κ.C
 fld:∀f i,G1.lookup f=some (.rcf i)->kR i=.fld f/\NoAttr B.K κ.C f/\κ.on.contains f=false
 mth:∀m i j,G1.lookup m=some (.rcm i j)->kR j=.chk m/\kR i=.def_/\∃fd f fo x q st N ps,tabR i=some fd/\Meth B.K κ.C m f/\Fun B.K x q st f fo/\Binds B.K fo ps []/\Turned G1 st N ps fd
 own:∀f b,G1.lookup f=some (.rco b)->kR b=.fld f/\(∀j,j<7->kR (b+1+j)=.own j f)/\NoAttr B.K κ.C f/\κ.on.contains f=true
 fn3:∀x i,L.lookup x=some (.fn i)->∃fd f fo st N ps lam,tab3 i=some fd/\mg x=some (.ref f)/\Fun B.K x x st f fo/\Binds B.K fo ps []/\Turned3 G1 L κ.on fl lam st N ps fd/\(lam=true->LamC mg κ B.K x fo)
 tld:∀x cg fdc,L.lookup x=some (.tld cg fdc)->TldC mg B.K G1 x cg fdc
 met:∀m i,L.lookup m=some (.met i)->∃fd f fo x q st N ps,tab3 i=some fd/\Meth B.K κ.C m f/\Fun B.K x q st f fo/\Binds B.K fo ps []/\Turned3 G1 L κ.on fl false st N ps fd
 mak:∀y i,L.lookup y=some (.mak i)->mg y=some (.ref κ.C)/\∃fd f fo x q st N ps,tab3 i=some fd/\Mk B.K κ.C f/\Fun B.K x q st f fo/\Binds B.K fo ps []/\Turned3 G1 L κ.on fl false st N ps fd
 exm:∀x c,G1.lookup x=some (.cls c)->∀k,sub k c=true->PySem.W.exmOne B.K (.ref (B.cl k)) (.ref (B.cl c))=some true
 on:∀f,κ.on.contains f=true->NoAttr B.K κ.C f
 fls:∀f,fl.contains f=true->NoAttr B.K κ.C f
def JOn{n i:Nat}(h:kR i=.no):runR kR tab tabR glo sub π n i=run true tab glo sub n i:=funext λds=>by unfold runR;rw[h]
def JEq{n i:Nat}(h:kR i=.fld f):runR kR tab tabR glo sub π n i=fldD π f:=funext λds=>by unfold runR;rw[h]
def JKa{n i:Nat}(h:kR i=.chk f):runR kR tab tabR glo sub π n i=chkD π f:=funext λds=>by unfold runR;rw[h]
def JLb{n i j:Nat}(h:kR i=.own j f):runR kR tab tabR glo sub π n i=JBV j (fldD π f):=funext λds=>by unfold runR;rw[h]
def JFu{i:Nat}(h:kR i=.def_):runR kR tab tabR glo sub π 0 i ds=.bad:=by unfold runR;rw[h]
def JIq{n i:Nat}(h:kR i=.def_)(ht:tabR i=some fd):runR kR tab tabR glo sub π (n+1) i=JCe true #[runR kR tab tabR glo sub π n,glo,sub] fd:=funext λds=>by
 conv=>lhs;unfold runR
 rw[h];simp![ht]
def JI5(h:JCe true C fd ds≠.bad):ds.length=fd.par:=by
 by_cases q:ds.length=fd.par
 ·exact q
 ·exfalso;apply h;simp![JCe];rw[if_neg q]
structure FnR(P:Program)(w:World)(mg:Mq)(base:Heap)(κ:Kl)(B:Bs)(C:Cn)(ρ:Tb)(G1:Lz)(n:Nat):Prop where
 fn:∀x i,G1.lookup x=some (.fn i)->∃f fd ps,mg x=some (.ref f)/\PySem.W.keepIn B.K (.ref f)=true/\FnOk P w B.K mg base (CXV P w B) n f fd ps (JBR (JAB κ B ρ) ps.length (C.fn i))/\Binds B.K fd ps []/\∀ds,C.fn i ds≠.bad->ds.length=ps.length
 mth:∀m i j,G1.lookup m=some (.rcm i j)->∃f fd ps,Meth B.K κ.C m f/\FnOk P w B.K mg base (CXV P w B) n f fd ps (JBR (JAB κ B ρ) ps.length (C.fn i))/\Binds B.K fd ps []/\∀ds,C.fn i ds≠.bad->ds.length=ps.length
def gkR(hw:w=B.w)(M:Mo3 mg κ B kR tab tabR tab3 glo sub G0 G1 L fl){n:Nat}(ih:FnR P w mg base κ B #[runR kR tab tabR glo sub (pi ρ) n,glo,sub] ρ G1 n)(e1:X.K=B.K)(e2:X.mg=mg)(e3:X.base=base)(e4:X.prog=P)(e5:X.w=w)(calm:X.calm=true)(pas:JBX (CXV P w B) X (EX B XX))(anti:∀c H H',Same H H'->XX c H->XX c H')(hr:Room n X.A) :
  Gk X (JAB κ B ρ) #[runR kR tab tabR glo sub (pi ρ) n,glo,sub] (CXV P w B) XX G1:=by
 have hu:X.A.units+200<cLine:=by have:=hr.un;omega
 cases X;simp only at e1 e2 e3 e4 e5 calm hr;subst e1;subst e2;subst e3;subst e4;subst e5;exact {
  K:=rfl
  W:=hw
  anti:=anti
  units:=hu
  calm:=λ_=>calm
  fn:=λy j hy=>by
   obtain⟨f',fd',ps',w1,w2,w3,w4,w5⟩:=ih.fn y j hy;exact#[f',fd',ps',n,w1,w2,w3,hr,w4,w5]
  pas:=pas
  con:=M.con ρ
  noexg:=(M.bas ρ).noexg
  blt:=M.blt
  rng:=M.rng
  isi:=M.isi
  ty:=M.ty
  cls:=M.cl.mgc
  nam:=M.nam
  fld:=λf i e=>by
   obtain⟨h1,h2,h3⟩:=M.fld f i e;show JI6 B.K (JAB κ B ρ) (runR kR tab tabR glo sub (pi ρ) n i) f;rw[JEq h1];exact JJP M.cls h2 h3
  mth:=λm i j e=>by
   obtain⟨h1,_⟩:=M.mth m i j e;obtain⟨f',fd',ps',w1,w2,w3,w4⟩:=ih.mth m i j e;refine .inr #[κ.C,f',fd',ps',n,M.cls,w1,w2,hr,w3,w4,λH d v dn=>?_];show(match runR kR tab tabR glo sub (pi ρ) n j [d] with|.ok d'=>_|.exc _=>_|.bad=>_)
   rw[JKa h1];exact JNm H d v dn
  own:=λf b e=>by
   obtain⟨h1,h2,h3,h4⟩:=M.own f b e;exact JN2 M.cls h3 h4 (JEq h1) λj hj=>by
    show runR kR tab tabR glo sub (pi ρ) n (b+1+j)=JBV j (runR kR tab tabR glo sub (pi ρ) n b);rw[JLb (h2 j hj),JEq h1] }
def fnRs[Cool G0](hw:w=B.w)(M:Mo3 mg κ B kR tab tabR tab3 glo sub G0 G1 L fl)(ra0:∀ρ n,Ra3 (JAB κ B ρ) #[run true tab glo sub n,glo,sub] G0 P w)(ra:∀ρ n,Ra3 (JAB κ B ρ) #[runR kR tab tabR glo sub (pi ρ) n,glo,sub] G1 P w)(ρ:Tb):∀n,FnR P w mg base κ B #[runR kR tab tabR glo sub (pi ρ) n,glo,sub] ρ G1 n:=by
 intro n;have pl:∀(n:Nat) (x:Str) (i:Nat),kR i=.no->G0.lookup x=some (.fn i)->∃f fd ps,mg x=some (.ref f)/\PySem.W.keepIn B.K (.ref f)=true/\FnOk P w B.K mg base (CXV P w B) n f fd ps (JBR (JAB κ B ρ) ps.length (runR kR tab tabR glo sub (pi ρ) n i))/\Binds B.K fd ps []/\∀ds,runR kR tab tabR glo sub (pi ρ) n i ds≠.bad->ds.length=ps.length:=λn x i hk hx=>by
  rw[JOn hk];exact fns (B:=JAB κ B ρ) hw (M.bas ρ) (ra0 ρ) n x i hx
 induction n with
 |zero =>
  refine#[λx i h=>?_,λm i j h=>?_]
  ·rcases M.fn x i h with ⟨h1,h2⟩|⟨h1,fd,f,fo,st,N,ps,ht,e1,F,bi,T⟩
   ·exact pl 0 x i h1 h2
   ·have hz:∀ds,runR kR tab tabR glo sub (pi ρ) 0 i ds=.bad:=λds=>JFu h1;refine#[f,fo,ps,e1,F.kp,#[λvs H Q E q=>q.1,λA outer s H args us vs Q E hr he hb hv ⟨_,ds,_,q⟩=>?_],bi,λds q=>absurd (hz ds) q];simp![hz ds]at q
  ·obtain⟨_,h1,fd,f,fo,x,q,st,N,ps,ht,e1,F,bi,T⟩:=M.mth m i j h;have hz:∀ds,runR kR tab tabR glo sub (pi ρ) 0 i ds=.bad:=λds=>JFu h1;refine#[f,fo,ps,e1,#[λvs H Q E q=>q.1,λA outer s H args us vs Q E hr he hb hv ⟨_,ds,_,q⟩=>?_],bi,λds q=>absurd (hz ds) q];simp![hz ds]at q
 |succ n ih =>
  have one:∀ {i:Nat}{fd:Fd}{f:Addr}{fo:FuncData}{x q:Str}{st:Stmt}{N ps:List Str},kR i=.def_->tabR i=some fd->Fun B.K x q st f fo->Turned G1 st N ps fd->FnOk P w B.K mg base (CXV P w B) (n+1) f fo ps (JBR (JAB κ B ρ) ps.length (runR kR tab tabR glo sub (pi ρ) (n+1) i))/\∀ds,runR kR tab tabR glo sub (pi ρ) (n+1) i ds≠.bad->ds.length=ps.length:=λ{i fd f fo x q st N ps} h1 ht F T=>by
   rw[JIq h1 ht];refine#[JQG (B:=JAB κ B ρ) F T.sc T.par T.slots λcdv A outer s H E hr=>?_,λds q=>by rw[JI5 q,T.par]]
   have hA:A.handled=none:=hr.hd;have hs:=JFX (ra ρ n).ra (ra ρ n).rr 60 _ _ _ _ true (gkR (X:=cxOf (CXV P w B) P w B.K mg base N q (JAA st) f cdv A outer s H E) hw M ih rfl rfl rfl rfl rfl rfl JGY (λc H1 H2 sm z H' s'=>z H' (sm.trans s')) hr) T.sc.kind rfl rfl T.sc.nd PassesOwn.leaving (λ_=>rfl) (λ_=>JC2 (B:=B) M.cl hA);exact JDK hs T.comp
  refine#[λx i h=>?_,λm i j h=>?_]
  ·rcases M.fn x i h with ⟨h1,h2⟩|⟨h1,fd,f,fo,st,N,ps,ht,e1,F,bi,T⟩
   ·exact pl (n+1) x i h1 h2
   ·obtain⟨o1,o2⟩:=one h1 ht F T;exact#[f,fo,ps,e1,F.kp,o1,bi,o2]
  ·obtain⟨_,h1,fd,f,fo,x,q,st,N,ps,ht,e1,F,bi,T⟩:=M.mth m i j h;obtain⟨o1,o2⟩:=one h1 ht F T;exact#[f,fo,ps,e1,o1,bi,o2]
end
end VI
end
section
namespace VI
open PySem PySem.Spec PyProof.Rows L2
section
variable{κ:Kl}{B:Bs}{kR:Nat->RK}{tab tabR:Nat->Option Fd}{tab3:Nat->Option Fd3}{glo:Nat->R D}{sub:Nat->Nat->Bool}{G0 G1:Lz}{L:List (Str×GK3)}{fl:List Str}{P:Program}{w:World}{mg:Mq}{base:Heap}
structure Fn3(P:Program)(w:World)(mg:Mq)(base:Heap)(κ:Kl)(B:Bs)(f3:F3)(L:List (Str×GK3))(k:Nat):Prop where
 fn:∀x i,L.lookup x=some (.fn i)->∃f fd ps,mg x=some (.ref f)/\PySem.W.keepIn B.K (.ref f)=true/\FnOk P w B.K mg base (CXV P w B) k f fd ps (stSp κ B ps.length (f3 i))/\Binds B.K fd ps []/\∀ds π,f3 i ds π≠.bad->ds.length=ps.length
 met:∀m i,L.lookup m=some (.met i)->∃f fd ps,Meth B.K κ.C m f/\FnOk P w B.K mg base (CXV P w B) k f fd ps (stSp κ B ps.length (f3 i))/\Binds B.K fd ps []/\∀ds π,f3 i ds π≠.bad->ds.length=ps.length
 mak:∀x i,L.lookup x=some (.mak i)->mg x=some (.ref κ.C)/\∃f fd ps,Mk B.K κ.C f/\FnOk P w B.K mg base (CXV P w B) k f fd ps (stSp κ B ps.length (f3 i))/\Binds B.K fd ps []/\∀ds π,f3 i ds π≠.bad->ds.length=ps.length
def JMN(hw:w=B.w)(M:Mo3 mg κ B kR tab tabR tab3 glo sub G0 G1 L fl){n:Nat}(ihR:∀ρ,FnR P w mg base κ B #[runR kR tab tabR glo sub (pi ρ) n,glo,sub] ρ G1 n)(ih:Fn3 P w mg base κ B (run3 kR tab tabR tab3 glo sub n) L (3*n))(e1:X.K=B.K)(e2:X.mg=mg)(e3:X.base=base)(e4:X.prog=P)(e5:X.w=w)(calm:X.calm=true)(pas:JBX (CXV P w B) X (EX B XX))(anti:∀c H H',Same H H'->XX c H->XX c H')(hr:Room (3*n+1) X.A) :
  Gk3 X κ B (λπ=>#[runR kR tab tabR glo sub π n,glo,sub]) (run3 kR tab tabR tab3 glo sub n) (CXV P w B) XX G1 L:=by
 have g:=λρ=>gkR hw M (ihR ρ) e1 e2 e3 e4 e5 calm pas anti (hr.mono ∅)
 cases X;simp only at e1 e2 e3 e4 e5 calm hr;subst e1;subst e2;subst e3;subst e4;subst e5;exact {
  g:=g
  cls:=M.cls
  fn:=λx i h=>by
   obtain⟨f',fd',ps',w1,w2,w3,w4,w5⟩:=ih.fn x i h;exact#[f',fd',ps',3*n,w1,w2,w3,hr.mono ∅,w4,w5]
  met:=λm i h=>by
   obtain⟨f',fd',ps',w1,w3,w4,w5⟩:=ih.met m i h;exact#[f',fd',ps',3*n,w1,w3,hr.mono ∅,w4,w5]
  mak:=λx i h=>by
   obtain⟨w0,f',fd',ps',w1,w3,w4,w5⟩:=ih.mak x i h;exact#[w0,f',fd',ps',3*n,w1,w3,hr,w4,w5] }
def JH8(h:JCW C f3 fd ds π≠.bad):ds.length=fd.par:=by
 by_cases q:ds.length=fd.par
 ·exact q
 ·exfalso;apply h;unfold JCW;rw[if_neg q]
def JKE{n i:Nat}(ht:tab3 i=some fd):run3 kR tab tabR tab3 glo sub (n+1) i=JCW (λπ=>#[runR kR tab tabR glo sub π n,glo,sub]) (run3 kR tab tabR tab3 glo sub n) fd:=funext λds=>funext λπ=>by
 simp![run3,ht]
def JId[Cool G0][Cool G1](hw:w=B.w)(M:Mo3 mg κ B kR tab tabR tab3 glo sub G0 G1 L fl)(ra0:∀ρ n,Ra3 (JAB κ B ρ) #[run true tab glo sub n,glo,sub] G0 P w)(ra:∀ρ n,Ra3 (JAB κ B ρ) #[runR kR tab tabR glo sub (pi ρ) n,glo,sub] G1 P w)(rah:∀ρ n,Ra3 (JAB κ B ρ) #[runR kR tab tabR glo sub (pi ρ) n,glo,sub] (JC3 G1) P w)(hot:HotG G1 (JC3 G1))(kb:B.K.In base){n:Nat}(ih:Fn3 P w mg base κ B (run3 kR tab tabR tab3 glo sub n) L (3*n))
  {i:Nat}{fd:Fd3}{f:Addr}{fo:FuncData}{x q:Str}{st:Stmt}{N ps:List Str}{lam:Bool}(ht:tab3 i=some fd) (F:Fun B.K x q st f fo) (T:Turned3 G1 L κ.on fl lam st N ps fd) (hl:lam=true->LamC mg κ B.K q fo):FnOk P w B.K mg base (CXV P w B) (3*(n+1)) f fo ps (stSp κ B ps.length (run3 kR tab tabR tab3 glo sub (n+1) i))/\∀ds π,run3 kR tab tabR tab3 glo sub (n+1) i ds π≠.bad->ds.length=ps.length:=by
 rw[JKE ht];refine#[JSr (n:=3*n+2) F T.sc T.par T.slots λcdv A outer s H E hcv hr=>?_,λds π q=>by rw[JH8 q,T.par]]
 have hA:A.handled=none:=hr.hd;have ihR:=λρ=>fnRs (base:=base) hw M ra0 ra ρ n;have an:∀ {E:XK} c H1 H2,Same H1 H2->XXd B E c H1->XXd B E c H2:=λc H1 H2 sm z H' s'=>z H' (sm.trans s');have g:=JMN (X:=cxOf (CXV P w B) P w B.K mg base N q (JAA st) f cdv A outer s H E) hw M ihR ih rfl rfl rfl rfl rfl rfl JGY an (hr.mono ∅)
 refine JBI (JIr (C:=λπ=>#[runR kR tab tabR glo sub π n,glo,sub]) (λρ=>ra ρ n) (λx c h π k=>M.exm x c h k) T.sc.nd 60 _ _ true rfl rfl g T.sc.kind rfl rfl PassesOwn.leaving (λ_=>rfl) M.on M.fls (λf' hf=>?_) (λ_=>#[λρ=>JC2 (B:=B) M.cl hA,rfl,rfl,rfl,hA])) T.comp;cases lam with
 |false=>cases hf
 |true =>
  cases hf;obtain⟨c,P0,c1,c2,c3,c4⟩:=hl rfl;intro tn cg fdc params body sc x n1 p lp pos h1 h2 h3 h4 h5;obtain⟨ft,fc,stt,stc,d,en,gn,cn,xk,fot,foc,Nc,w1,w2,w3,w4,w5,w6,w7,w8,w9⟩:=M.tld tn cg fdc h1;have dp:A.depth+1+3*(3*n+2)+5<recursionLimit:=hr.dp;have un:A.units+3+16*(3*n+2)+200<cLine:=hr.un;refine JQz (ft:=ft) (fc:=fc) (stt:=stt) (Gh:=JC3 G1) c2 #[c,hcv.symm.trans c1,c3 _ kb] (c4 _ kb) rfl g (λ{f cd cl A' outer s H E} a1 a2 a3=>?_) (λρ=>#[#[d,en,gn,cn,fot,foc,stc,Nc,[xk],w2,w3,w4,M.cl.mgc gn cg w5,w6,w7.kp,w7,w8,w9,rfl,w8.slots.symm],hot,(rah ρ n).ra,(rah ρ n).rr,M.exm gn cg w5]) (λρ=>(ra ρ n).ra) rfl hA (by show A.depth+1+3<_;omega) (by show A.units+3+220<_;omega) h2 w1 w3.kp h3 h4 T.sc.nd (λ_=>rfl) h5
  have a2:A'.depth=A.depth+1+1:=a2;have a3:A'.units=A.units+3+3:=a3;exact JMN hw M ihR ih rfl rfl rfl rfl rfl rfl JOh an #[a1,by show A'.depth+1+3*(3*n+1)+5<_;omega,by show A'.units+3+16*(3*n+1)+200<_;omega]
def fn3s[Cool G0][Cool G1](hw:w=B.w)(M:Mo3 mg κ B kR tab tabR tab3 glo sub G0 G1 L fl)(ra0:∀ρ n,Ra3 (JAB κ B ρ) #[run true tab glo sub n,glo,sub] G0 P w)(ra:∀ρ n,Ra3 (JAB κ B ρ) #[runR kR tab tabR glo sub (pi ρ) n,glo,sub] G1 P w)(rah:∀ρ n,Ra3 (JAB κ B ρ) #[runR kR tab tabR glo sub (pi ρ) n,glo,sub] (JC3 G1) P w)(hot:HotG G1 (JC3 G1))(kb:B.K.In base):∀n,Fn3 P w mg base κ B (run3 kR tab tabR tab3 glo sub n) L (3*n):=by
 have all:∀n,(∀ {i:Nat}{fd:Fd3}{f:Addr}{fo:FuncData}{x q:Str}{st:Stmt}{N ps:List Str}{lam:Bool},tab3 i=some fd->Fun B.K x q st f fo->Turned3 G1 L κ.on fl lam st N ps fd->(lam=true->LamC mg κ B.K q fo)->FnOk P w B.K mg base (CXV P w B) (3*n) f fo ps (stSp κ B ps.length (run3 kR tab tabR tab3 glo sub n i))/\∀ds π,run3 kR tab tabR tab3 glo sub n i ds π≠.bad->ds.length=ps.length)->Fn3 P w mg base κ B (run3 kR tab tabR tab3 glo sub n) L (3*n):=λn one=>by
  refine#[λx i h=>?_,λm i h=>?_,λx i h=>?_]
  ·obtain⟨fd,f,fo,st,N,ps,lam,ht,e1,F,bi,T,hl⟩:=M.fn3 x i h;obtain⟨o1,o2⟩:=one ht F T hl;exact#[f,fo,ps,e1,F.kp,o1,bi,o2]
  ·obtain⟨fd,f,fo,x,q,st,N,ps,ht,e1,F,bi,T⟩:=M.met m i h;obtain⟨o1,o2⟩:=one ht F T (λz=>by cases z)
   exact#[f,fo,ps,e1,o1,bi,o2]
  ·obtain⟨e0,fd,f,fo,x,q,st,N,ps,ht,e1,F,bi,T⟩:=M.mak x i h;obtain⟨o1,o2⟩:=one ht F T (λz=>by cases z)
   exact#[e0,f,fo,ps,e1,o1,bi,o2]
 intro n
 induction n with
 |zero=>exact all 0 λ{i fd f fo x q st N ps lam} _ _ _ _=>#[#[λvs H Q E q=>q.1,λA outer s H args us vs Q E hr he hb hv ⟨_,ρ,ds,_,_,q⟩=>by simp![run3]at q;exact q.elim],λds π q=>absurd (by simp![run3]) q]
 |succ n ih=>exact all (n+1) λ{i fd f fo x q st N ps lam} ht F T hl=>JId hw M ra0 ra rah hot kb ih ht F T hl
end
end VI
end
section
namespace VI
open PySem PySem.Spec PyProof.Rows L2
section
variable{κ:Kl}{B:Bs}{kR:Nat->RK}{tab tabR:Nat->Option Fd}{tab3:Nat->Option Fd3}{glo:Nat->R D}{sub:Nat->Nat->Bool}{G0 G1:Lz}{L:List (Str×GK3)}{fl:List Str}
def JKM{w:World}{k:Nat}{fa a:Addr}
  (KX:B.K.In s₁.heap) (hK0:∀p q,κ.tb.lookup p=some q->B.K.lookup p=none/\s₁.heap.get? p=some (PySem.W.tabObj #[])/\∃c,∀base:Heap,B.K.In base->PySem.W.CodeHd base c p)
  (hns:s₁.heap.Ns mainGlobals mg) (hb:s₁.heap.Ns builtinsNs mb) (hbb:∀x:Str,x≠"__name__"->mb x=bootBuiltins x) (hlim:s₁.heap.NoLimit) (hg:s₁.gens=#[])
  (ha:s₁.heap.get? a=some { cls:=.type "list",data:=.seq vs.toArray }) (hi:IntsAre vs ns) (hl:ns.length<=63) (hr:Room k callerA)
  (F:∀base:Heap,B.K.In base->base.Ns mainGlobals mg->FnOk P w B.K mg base (CXV P w B) k fa fo [x] (stSp κ B 1 r)) (hbind:∀(s:Shared) (u:Value),BindsTo s fo #[[u],[]] [(x,u)])
  (ok:∃π,r [.list (ns.map λi=>PyData.int i)] []=.ok (.bool true) π) :
  codeAny (model P w) callerA (.call (.ref fa) #[[.ref a],[]]) (λr s'=>r=.ok (.ret (.bool true))/\OldK s₁.heap s'.heap/\s'.os=s₁.os/\AllBare s'.gens) s₁:=by
 have rv:=JFm hi;have lenV:=hi.length;have hz:(ns.map V.int).length<=sizeLine:=by rw[q_g,sizeLine_eq];omega
 obtain⟨S,hS⟩:∃S,S=HO.frz { cls:=.type "list",data:=.seq vs.toArray } (.lst (ns.map V.int)):=#[_,rfl];obtain⟨H,hH⟩:∃H:Hp,H=λb=>if (κ.tb.lookup b).isSome=true then some (.ext (TabAt b [])) else if b=a/\B.K.lookup a=none then some S else none:=#[_,rfl];have tbl:∀ {p q},κ.tb.lookup p=some q->H p=some (.ext (TabAt p [])):=λ{p q} e=>by rw[hH];simp[e]
 have noa:(κ.tb.lookup a).isSome=false:=by
  cases e:κ.tb.lookup a with
  |none=>rfl
  |some q =>
    have:=(hK0 a q e).2.1;rw[ha]at this;have:=congrArg (·.data) (Option.some.inj this);cases this
 have cs:∀b u,H b=some u->(∃q,κ.tb.lookup b=some q/\u=.ext (TabAt b []))\/(b=a/\B.K.lookup a=none/\u=S):=λb u e=>by
  rw[hH]at e;simp only at e
  split at e
  · rename_i h
    obtain⟨q,hq⟩:=Option.isSome_iff_exists.mp h;cases e;exact .inl #[q,hq,rfl]
  · split at e
    ·rename_i h;cases e;exact .inr #[h.1,h.2,rfl]
    ·cases e
 have hok:HOk P w H s₁.heap:=λb u e=>by
  rcases cs b u e with ⟨q,hq,rfl⟩|⟨rfl,_,rfl⟩
  · have g:=(hK0 b q hq).2.1
    exact#[#[#[],g,trivial,λpos v z=>by simp[codeAmong]at z],#[_,g],λh1 h2 ⟨ps,q1,q2⟩ k=>#[ps,k _ q1,q2]]
  · rw[hS]
    exact#[ha,hz,vs,_,rv,ha]
 have noA:∀ {b:Addr}{o:Obj}{es:Array DictEntry}{ep:Nat},s₁.heap.get? b=some o->o.data=.dict es ep->H b=none:=λ{b o es ep} e d=>by
  cases q:H b with
  |none=>rfl
  |some u =>
    rcases cs b u q with ⟨q,hq,_⟩|⟨rfl,_⟩
    ·rw[(hK0 b q hq).2.1]at e;cases e;cases d
    ·rw[ha]at e;cases e;cases d
 have nsK:∀ {b:Addr}{m:Mq},s₁.heap.Ns b m->(hidT s₁.heap H).Ns b m:=λ{b m} ⟨o,es,ep,e,d,r⟩=>#[o,es,ep,JHQ e (noA e d),d,r];have hKb:B.K.In (hidT s₁.heap H):=λb o e=>JHQ (KX b o e) (by
  cases q:H b with
  |none=>rfl
  |some u =>
    rcases cs b u q with ⟨q,hq,_⟩|⟨rfl,hk,_⟩
    ·rw[(hK0 b q hq).1]at e;cases e
    ·rw[hk]at e;cases e)
 have hM:Mod B.K mg (hidT s₁.heap H):=#[hKb,nsK hns,#[mb,nsK hb,hbb],let ⟨mc,h1,h2⟩:=hlim;#[mc,nsK h1,h2]]
 have e0:Env0 P w B.K mg (hidT s₁.heap H) callerA [] s₁ H:=#[rfl,hM,λb o e=>JOB e,Nat.le_of_eq (JKO _ _),trivial,λb hb=>absurd (show b∈([]:List Addr) from hb) (by simp),hok,.of_eq hg]
 have sq:SqL B.K H a (ns.map V.int):=by
  cases hk:B.K.lookup a with
  |some o =>
    have e:=KX a o hk;rw[ha]at e;cases e;exact .inr #[_,vs.toArray,_,hk,rfl,rfl,rfl,by rw[q_f,lenV,sizeLine_eq];omega,by simpa using rv]
  |none=>exact .inl (.inr #[{ cls:=.type "list",data:=.seq vs.toArray },by rw[hH,<-hS];simp[noa,hk]])
 refine codeAny_mono ((F _ hKb (nsK hns)).run callerA [] s₁ H #[[.ref a],[]] [.ref a] [.ref a] (λv H'=>v=.bl true/\∀p q,κ.tb.lookup p=some q->TbOk p q H') (λ_ _ _=>False) hr e0 (hbind s₁ (.ref a)) (.cons rfl .nil) #[rfl,[],[.list (ns.map λi=>PyData.int i)],Recs.nil λp q e=>#[[],tbl e,λc hc=>by simp at hc],?_,?_]) λr s' h=>?_
 ·simp![DenL];exact#[_,_,rfl,by simp![Den];exact#[a,_,rfl,sq,JG7 ns],rfl]
 ·obtain⟨π,e⟩:=ok;rw[show pi []=[] from rfl,e];intro ρ' H' st' _ v dn;simp![Den]at dn;exact#[dn,st'.all.tb]
 cases r with
 |error e =>
  obtain⟨ea,T,c,H',_,_,_,_,_,_,_,_,z⟩:=h;exact z.elim
 |ok fl =>
  cases fl with
  |next=>exact fF h
  |brk=>exact fF h
  |cont=>exact fF h
  |ret u =>
    obtain⟨v,H',os,bare,un,hok',r',rfl,tb⟩:=h;obtain rfl:u=Value.bool true:=r';refine#[rfl,#[λb o e=>?_,λb o e=>un.there b o e (by simp)],os,bare]
    cases q:H b with
    |none=>exact .inl (un.keep b o e q (by intro z;exact absurd (show b∈([]:List Addr) from z) (by simp)) (by simp))
    |some u =>
     rcases cs b u q with ⟨p,hp,rfl⟩|⟨rfl,_,rfl⟩
     ·obtain⟨_,g0,c,hc⟩:=hK0 b p hp;obtain⟨oc0,vs0,_,_,_,_,_,_,_,h1,h2,h3,h4,_⟩:=hc _ KX;obtain⟨cs',e',_⟩:=tb b p hp;obtain⟨⟨ps,g1,_⟩,_⟩:=hok' b _ e';rw[g0]at e;cases e;exact .inr (.inl #[#[c,oc0,vs0,h1,h2,h3,h4],rfl,#[],ps,rfl,by rw[g1];simp])
     ·rw[hS]at q;obtain⟨e1,_⟩:=hok b _ q;obtain⟨e2,_⟩:=hok' b _ (un.frzs b _ _ q);rw[e]at e1;cases e1;exact .inl e2
def AllA(Φ:Addr->Prop):List (Addr×Str)->Prop
 | []=>True
 |a::r=>Φ a.1/\AllA Φ r
theorem AllA.get{Φ:Addr->Prop}:∀ {l:List (Addr×Str)},AllA Φ l->∀p∈l,Φ p.1
 | [],_,p,h=>by simp at h
 |a::r,⟨h1,h2⟩,p,h=>by
  rcases q_n.mp h with rfl|h
  ·exact h1
  ·exact AllA.get h2 p h
def walk5[Cool G0][Cool G1]{l:PySem.W.OpenLaw}{view:Program}{loose:List Str}{XP:(Mq)->Heap->Prop}{YP:World->Heap->Prop}{d:DefRec}{K0:Params->Kq}{cl:Nat->Addr}{rc:Nat->Addr->Hp->Prop}{rcm:RcM rc}{n i:Nat}{x:Str}{st:Stmt}{N:List Str}{fd:Fd3}{lam:Bool}
  (hn:l.most=some 63) (hname:d.name="law") (hdf:d.params.defaults=[]) (hr:Room (3*(n+1)) callerA) (hY:∀(w:World) (h:Heap),YP w h->(K0 w.params).In h)
  (hT0:∀P,AllA (λp=>(K0 P).lookup p=some (PySem.W.tabObj #[])/\∃c,∀base:Heap,(JBf (κ.tb.map (·.1)) (K0 P)).In base->PySem.W.CodeHd base c p) κ.tb)
  (Lw:∀P,FnIn (JBf (κ.tb.map (·.1)) (K0 P)) "law" st) (T:Turned3 G1 L κ.on fl lam st N [x] fd) (ht:tab3 i=some fd) (hbind:JGi "law" st [x]) (hnd:(G1.map (·.1)).Nodup)
  (hlam:lam=true->∀(w:World) (h:Heap) (mg:Mq),(JBf (κ.tb.map (·.1)) (K0 w.params)).In h->h.Ns mainGlobals mg->∀f fo,Fun (JBf (κ.tb.map (·.1)) (K0 w.params)) "law" "law" st f fo->mg "law"=some (.ref f)->LamC mg κ (JBf (κ.tb.map (·.1)) (K0 w.params)) "law" fo)
  (M:∀(w:World) (h:Heap) (mg:Mq),(JBf (κ.tb.map (·.1)) (K0 w.params)).In h->h.Ns mainGlobals mg->Mo3 mg κ #[JBf (κ.tb.map (·.1)) (K0 w.params),cl,w,rc,rcm] kR tab tabR tab3 glo sub G0 G1 L fl)
  (ra:∀(w:World) (h:Heap) (mg:Mq),(JBf (κ.tb.map (·.1)) (K0 w.params)).In h->h.Ns mainGlobals mg->∀ρ n,Ra3 (JAB κ #[JBf (κ.tb.map (·.1)) (K0 w.params),cl,w,rc,rcm] ρ) #[run true tab glo sub n,glo,sub] G0 l.prog w/\Ra3 (JAB κ #[JBf (κ.tb.map (·.1)) (K0 w.params),cl,w,rc,rcm] ρ) #[runR kR tab tabR glo sub (pi ρ) n,glo,sub] G1 l.prog w/\Ra3 (JAB κ #[JBf (κ.tb.map (·.1)) (K0 w.params),cl,w,rc,rcm] ρ) #[runR kR tab tabR glo sub (pi ρ) n,glo,sub] (JC3 G1) l.prog w)
  (ok:∀ns:List Int,ns.length<=63->∃π,run3 kR tab tabR tab3 glo sub (n+1) i [.list (ns.map λi=>PyData.int i)] []=.ok (.bool true) π) :
  PySem.W.WalkO view loose XP YP l.row.toRowW d [] (λf vs=>PySem.call f vs):=by
 refine Att.attach_call hn hdf λw s₀ s₁ mg mb fa o pm cd doc a vs ns Gr Y0 ho hdd hcd hmg hobj hints hlen hg=>?_;have KX0:=hY w _ Y0;have KX:(JBf (κ.tb.map (·.1)) (K0 w.params)).In s₁.heap:=JLx KX0;have Gm:=Gr.T.g;obtain⟨f,oc,od,an,sl,kV,dc,pm2,cd2,ct,b1,b2,b3,b4⟩:=(Lw w.params).ex;rw[hname]at hmg;have e:=hmg.symm.trans (PySem.W.mg_of KX Gm b1);cases e;have Fn:=JFa (st:=st) b2 b3 b4;have Mm:=M w _ mg KX Gm;have R:=ra w _ mg KX Gm;refine JKM (fo:=PySem.W.fnOf "law" "law" (JA6 st) (JAV st) (JAA st) .none kV dc pm2 an cd2 ct) (r:=run3 kR tab tabR tab3 glo sub (n+1) i) (κ:=κ) (B:=#[JBf (κ.tb.map (·.1)) (K0 w.params),cl,w,rc,rcm]) KX (λp q e=>#[JEU (List.mem_map.mpr #[_,JB8 e,rfl]),KX0 _ _ ((hT0 w.params).get _ (JB8 e)).1,((hT0 w.params).get _ (JB8 e)).2]) Gm Gr.T.b Gr.T.builtins Gr.T.nolimit hg hobj hints hlen hr (λbase kb nb=>?_) (λs u=>.of_eq (hbind _ _ _ _ _ _ [u] rfl)) (ok ns hlen);exact(JId rfl Mm (λρ n=>(R ρ n).1) (λρ n=>(R ρ n).2.1) (λρ n=>(R ρ n).2.2) (JKD hnd) kb (fn3s rfl Mm (λρ n=>(R ρ n).1) (λρ n=>(R ρ n).2.1) (λρ n=>(R ρ n).2.2) (JKD hnd) kb n) ht Fn T λz=>hlam z w _ mg KX Gm _ _ Fn hmg).1
end
end VI
end
section
namespace VI
open PySem PySem.Spec PyProof.Rows L2
section
variable{κ:Kl}{B:Bs}{kR:Nat->RK}{tab tabR:Nat->Option Fd}{tab3:Nat->Option Fd3}{glo:Nat->R D}{G0 Gr:Lz}{L:List (Str×GK3)}{fl:List Str}{mg:Mq}{rs:List (Nat×List Nat)}
def AllL(P:Str->GK3->Prop):List (Str×GK3)->Prop
 | []=>True
 |(x,k)::r=>P x k/\AllL P r
theorem AllL.get{P:Str->GK3->Prop}:∀ {G:List (Str×GK3)}{x:Str}{k:GK3},AllL P G->G.lookup x=some k->P x k
 | [],x,k,_,h=>by cases h
 |(y,m)::r,x,k,⟨h1,h2⟩,h=>by
  rw[List.lookup_cons]at h
  by_cases e:(x==y)=true
  · rw[e]at h
    have e':x=y:=by simpa using e
    cases h;subst e';exact h1
  · have e':(x==y)=false:=by simpa using e
    rw[e']at h;exact AllL.get h2 h
def RcP(mg:Mq)(κ:Kl)(K:Kq)(kR:Nat->RK)(tabR:Nat->Option Fd)(G1:Lz)(x:Str):GK->Prop
 |.rcf i=>kR i=.fld x/\NoAttr K κ.C x/\κ.on.contains x=false
 |.fn i=>kR i=.def_/\∃fd f fo st N ps,tabR i=some fd/\mg x=some (.ref f)/\Fun K x x st f fo/\Binds K fo ps []/\Turned G1 st N ps fd
 |.rcm i j=>kR j=.chk x/\kR i=.def_/\∃fd f fo y q st N ps,tabR i=some fd/\Meth K κ.C x f/\Fun K y q st f fo/\Binds K fo ps []/\Turned G1 st N ps fd
 |.rco b=>kR b=.fld x/\(∀j,j<7->kR (b+1+j)=.own j x)/\NoAttr K κ.C x/\κ.on.contains x=true
 |.opt=>True
 |_=>False
def own7{kR:Nat->RK}{b:Nat}(h0:kR (b+1)=.own 0 x)(h1:kR (b+2)=.own 1 x)(h2:kR (b+3)=.own 2 x)(h3:kR (b+4)=.own 3 x)(h4:kR (b+5)=.own 4 x)(h5:kR (b+6)=.own 5 x)(h6:kR (b+7)=.own 6 x):∀j,j<7->kR (b+1+j)=.own j x
 |0,_=>h0
 |1,_=>h1
 |2,_=>h2
 |3,_=>h3
 |4,_=>h4
 |5,_=>h5
 |6,_=>h6
 |n+7,h=>by omega
def R3P(mg:Mq)(κ:Kl)(K:Kq)(tab3:Nat->Option Fd3)(G1:Lz)(L:List (Str×GK3))(fl:List Str)(x:Str):GK3->Prop
 |.fn i=>∃fd f fo st N ps lam,tab3 i=some fd/\mg x=some (.ref f)/\Fun K x x st f fo/\Binds K fo ps []/\Turned3 G1 L κ.on fl lam st N ps fd/\(lam=true->LamC mg κ K x fo)
 |.tld cg fdc=>TldC mg K G1 x cg fdc
 |.met i=>∃fd f fo y q st N ps,tab3 i=some fd/\Meth K κ.C x f/\Fun K y q st f fo/\Binds K fo ps []/\Turned3 G1 L κ.on fl false st N ps fd
 |.mak i=>mg x=some (.ref κ.C)/\∃fd f fo y q st N ps,tab3 i=some fd/\Mk K κ.C f/\Fun K y q st f fo/\Binds K fo ps []/\Turned3 G1 L κ.on fl false st N ps fd
abbrev okG(kR:Nat->RK):GK->Bool
 |.fn i=>(match kR i with
  |.no=>true
  |_=>false)
 |.rcf _=>false
 |.rcm _ _=>false
 |.rco _=>false
 |_=>true
abbrev JLK(kR:Nat->RK):Lz->Bool
 | []=>true
 |(_,k)::r=>okG kR k&&JLK kR r
theorem JBx:∀ {G:Lz}{x:Str}{k:GK},JLK kR G=true->G.lookup x=some k->okG kR k=true
 | [],x,i,_,h=>by cases h
 |(y,m)::r,x,i,h,e=>by
  rw[List.lookup_cons]at e;unfold JLK at h;have h:=Bool.and_eq_true_iff.mp h
  by_cases q:(x==y)=true
  · rw[q]at e
    cases e;exact h.1
  · have q':(x==y)=false:=by simpa using q
    rw[q']at e;exact JBx h.2 e
def JSa{i:Nat}(h:okG kR (.fn i)=true):kR i=.no:=by
 replace h:(match kR i with|.no=>true|_=>false)=true:=h
 cases e:kR i<;>rw[e]at h<;>first|rfl|cases h
def JAm(h:(G0++Gr).lookup x=some k):G0.lookup x=some k\/Gr.lookup x=some k:=by
 rw[List.lookup_append]at h;cases e:G0.lookup x with
 |none=>rw[e]at h;exact .inr h
 |some y=>rw[e]at h;exact .inl h
def JPb(h0:∀ρ,AllP (MoP mg (JAB κ B ρ) G0 tab glo) G0)(hr:∀ρ,AllR (RaP (JAB κ B ρ) G0) rs)(hg:∀i c,glo i≠.exc c)(hn:JLK kR G0=true)(h1:AllP (RcP mg κ B.K kR tabR (G0++Gr)) Gr)(h3:AllL (R3P mg κ B.K tab3 (G0++Gr) L fl) L)(hc:Cls B.K κ.C)(ho:∀f,κ.on.contains f=true->NoAttr B.K κ.C f)(hf:∀f,fl.contains f=true->NoAttr B.K κ.C f):Mo3 mg κ B kR tab tabR tab3 glo (JE5 rs) G0 (G0++Gr) L fl:=by
 have M:=λρ=>mo_of (h0 ρ) (hr ρ) hg;have z:∀ {x:Str}{k:GK},Gr.lookup x=some k->RcP mg κ B.K kR tabR (G0++Gr) x k:=λe=>h1.get e;refine#[M,λx i e=>?_,λρ x i d e q=>?_,λx b e=>?_,λx e=>?_,λx e=>?_,λx t e=>?_,λx e=>?_,#[λx c e=>?_,λx c e=>?_],hc,λx i e=>?_,λx i j e=>?_,λx i e=>?_,λx i e=>h3.get e,λx cg fdc e=>h3.get e,λx i e=>h3.get e,λx i e=>h3.get e,λx c e=>?_,ho,hf]
 ·rcases JAm e with e|e
  ·exact .inl #[JSa (JBx hn e),e]
  ·exact .inr (z e)
 ·rcases JAm e with e|e
  ·exact(M ρ).con x i d e q
  ·exact(z e).elim
 ·rcases JAm e with e|e
  ·exact(M []).blt x b e
  ·exact(z e).elim
 ·rcases JAm e with e|e
  ·exact(M []).rng x e
  ·exact(z e).elim
 ·rcases JAm e with e|e
  ·exact(M []).isi x e
  ·exact(z e).elim
 ·rcases JAm e with e|e
  ·exact(M []).ty x t e
  ·exact(z e).elim
 ·rcases JAm e with e|e
  ·exact(M []).nam x e
  ·exact(z e).elim
 ·rcases JAm e with e|e
  ·exact(M []).cl.mgc x c e
  ·exact(z e).elim
 ·rcases JAm e with e|e
  ·exact(M []).cl.exc x c e
  ·exact(z e).elim
 ·rcases JAm e with e|e
  ·cases JBx hn e
  ·exact z e
 ·rcases JAm e with e|e
  ·cases JBx hn e
  ·exact z e
 ·rcases JAm e with e|e
  ·cases JBx hn e
  ·exact z e
 ·rcases JAm e with e|e
  ·exact(M []).exm x c e
  ·exact(z e).elim
def JIu{sub:Nat->Nat->Bool}(h:Isi B G0 sub)(h1:AllP (RcP mg κ B.K kR tabR G1) Gr):Isi B (G0++Gr) sub where
 own:=λx c e=>by
  rcases JAm e with e|e
  ·exact h.own x c e
  ·exact(h1.get e).elim
 exc:=h.exc
 rel:=λk hk x c e=>by
  rcases JAm e with e|e
  ·exact h.rel k hk x c e
  ·exact(h1.get e).elim
end
section
variable{K:Kq}{h:Heap}{mg:Mq}{G1:Lz}{L:List (Str×GK3)}{on fl:List Str}{C:Addr}
def t3I{lam:Bool}{st:Stmt}{N ps:List Str}{fd:Fd3}(c:JBn (JCI G1 L on fl lam 60 (JAA st).names N 60 true) (JAV st)=some fd.body:=by kernel_rfl)(s:FnScope N ps (JAA st):=by exact#[rfl,rfl,rfl,by decide +kernel,rfl,by decide +kernel,by decide +kernel])(p:fd.par=ps.length:=by rfl)(l:fd.slots=N.length:=by rfl):Turned3 G1 L on fl lam st N ps fd:=#[c,s,p,l]
def fbI{x q:Str}{st:Stmt}(f c:Addr)(pm:Value)(ps:List Str)(b:allN ps.length λus=>∀(kV doc pm:Value) (an:Option Addr) (cdv ct:Value),bindArgs (PySem.W.fnOf x q (JA6 st) (JAV st) (JAA st) .none kV doc pm an cdv ct) #[us,[]]=pure (ps.zip us))(l:K.lookup f=some #[.type "function",none,.func (PySem.W.fnOf x q (JA6 st) (JAV st) (JAA st) .none .none .none pm none (.ref c) .none),#[]]:=by kernel_rfl)(cc:PySem.W.codeIn K (.ref c) q=true:=by kernel_rfl)(k:PySem.W.keepIn K (.ref f)=true:=by kernel_rfl):∃fo,Fun K x q st f fo/\Binds K fo ps [] :=
 have F:=JFa (st:=st) l cc k
 #[_,F,F.binds λkV doc pm an cdv ct us hl=>JE8 b us hl kV doc pm an cdv ct]
def mthI{f:Addr}(a:PySem.W.findIn K (.ref C) m=some (some (.ref f)):=by kernel_rfl)(b:PySem.W.isFn K (.ref f)=true:=by kernel_rfl)(k:PySem.W.keepIn K (.ref f)=true:=by kernel_rfl):Meth K C m f:=#[a,b,k]
def rI{m x q:Str}{f:Addr}{st:Stmt}{ps:List Str}{tabR:Nat->Option Fd}{i:Nat}{fd:Fd}(N:List Str)(F:∃fo,Fun K x q st f fo/\Binds K fo ps [])(M:Meth K C m f)(ht:tabR i=some fd)(T:Turned G1 st N ps fd):∃fd f fo y q st N ps,tabR i=some fd/\Meth K C m f/\Fun K y q st f fo/\Binds K fo ps []/\Turned G1 st N ps fd:=by
 obtain⟨fo,h1,h2⟩:=F;exact#[fd,f,fo,x,q,st,N,ps,ht,M,h1,h2,T]
def m3I{x q:Str}{f:Addr}{st:Stmt}{ps:List Str}{tab3:Nat->Option Fd3}{i:Nat}{fd:Fd3}{P:Addr->Prop}(N:List Str)(F:∃fo,Fun K x q st f fo/\Binds K fo ps [])(M:P f)(ht:tab3 i=some fd)(T:Turned3 G1 L on fl false st N ps fd):∃fd f fo y q st N ps,tab3 i=some fd/\P f/\Fun K y q st f fo/\Binds K fo ps []/\Turned3 G1 L on fl false st N ps fd:=by
 obtain⟨fo,h1,h2⟩:=F;exact#[fd,f,fo,x,q,st,N,ps,ht,M,h1,h2,T]
def f3I{κ:Kl}{x:Str}{f:Addr}{st:Stmt}{ps:List Str}{tab3:Nat->Option Fd3}{i:Nat}{fd:Fd3}{lam:Bool}(X:K.In h)(Gm:h.Ns mainGlobals mg)(N:List Str)(F:∃fo,Fun K x x st f fo/\Binds K fo ps []/\(lam=true->LamC mg κ K x fo))(ht:tab3 i=some fd)(T:Turned3 G1 L on fl lam st N ps fd)(a:PySem.W.nsIn K mainGlobals x=some (some (.ref f)):=by kernel_rfl):∃fd f fo st N ps lam,tab3 i=some fd/\mg x=some (.ref f)/\Fun K x x st f fo/\Binds K fo ps []/\Turned3 G1 L on fl lam st N ps fd/\(lam=true->LamC mg κ K x fo):=by
 obtain⟨fo,h1,h2,h3⟩:=F;exact#[fd,f,fo,st,N,ps,lam,ht,PySem.W.mg_of X Gm a,h1,h2,T,h3]
def naI(h:PySem.W.findIn K (.ref C) f=some none:=by kernel_rfl):NoAttr K C f:=h
def noAt(K:Kq)(C:Addr):List Str->Prop
 | []=>True
 |f::r=>NoAttr K C f/\noAt K C r
theorem JFC:∀ {fl:List Str},noAt K C fl->∀f,fl.contains f=true->NoAttr K C f
 | [],_,f,h=>by cases h
 |g::r,⟨h1,h2⟩,f,h=>by
  rw[List.contains_cons,Bool.or_eq_true]at h;rcases h with h|h
  ·rw[eq_of_beq h];exact h1
  ·exact JFC h2 f h
end
end VI
end
section
namespace VI
open PySem PySem.Spec PyProof.Rows L2 VH
abbrev okFn(N P:List Str)(sc:Scope):Bool:=(match sc.kind with|.function=>true|_=>false)&&!sc.isCoroutine&&!sc.isGenerator&&decide N.Nodup&&(N.take P.length==P)&&P.all (λx=>match sc.names.lookup x with|some k=>isLo k|_=>false)&&sc.names.all (λy=>match y.2 with|.free=>false|_=>true)
def JD8{sc:Scope}(h:okFn N P sc=true):FnScope N P sc:=by
 unfold okFn at h;simp![q_i,Bool.not_eq_true',q_C,beq_iff_eq,List.all_eq_true]at h;obtain⟨⟨⟨⟨⟨⟨h1,h2⟩,h3⟩,h4⟩,h5⟩,h6⟩,h7⟩:=h;refine#[?_,h2,h3,h4,h5,λx hx=>?_,λy hy e=>?_]
 ·split at h1
  ·assumption
  ·cases h1
 ·have:=h6 x hx
  split at this
  ·rename_i k e;rw[e];cases k<;>first|exact .inl rfl|exact .inr rfl|cases this
  ·cases this
 ·have:=h7 y hy;rw[e]at this;cases this
section
variable{K:Kq}{h:Heap}{mg:Mq}{G:Lz}{L:List (Str×GK3)}{on fl:List Str}{C:Addr}
@[reducible]def BiA(x q:Str)(st:Stmt):Prop:=allN (pn st).length λus=>∀(kV doc pm:Value) (an:Option Addr) (cdv ct:Value),bindArgs (PySem.W.fnOf x q (JA6 st) (JAV st) (JAA st) .none kV doc pm an cdv ct) #[us,[]]=pure ((pn st).zip us)
@[reducible]def FnL(K:Kq)(x q:Str)(st:Stmt)(f c:Addr)(pm:Value):Prop:=K.lookup f=some #[.type "function",none,.func (PySem.W.fnOf x q (JA6 st) (JAV st) (JAA st) .none .none .none pm none (.ref c) .none),#[]]
def fbJ{x q:Str}{st:Stmt}(f c:Addr)(pm:Value)(l:FnL K x q st f c pm:=by kernel_rfl)(cc:PySem.W.codeIn K (.ref c) q=true:=by kernel_rfl)(k:PySem.W.keepIn K (.ref f)=true:=by kernel_rfl)(b:BiA x q st:=by (repeat intro _);exact rfl):∃fo,Fun K x q st f fo/\Binds K fo (pn st) []:=fbI f c pm _ b l cc k
def dJ(X:K.In h)(Gm:h.Ns mainGlobals mg)(f:Addr)(pm:Value)(st:Stmt)(l:FnL K x x st f (f - 1) pm:=by kernel_rfl)(cc:PySem.W.codeIn K (.ref (f - 1)) x=true:=by kernel_rfl)(k:PySem.W.keepIn K (.ref f)=true:=by kernel_rfl)(b:BiA x x st:=by (repeat intro _);exact rfl)(a:PySem.W.nsIn K mainGlobals x=some (some (.ref f)):=by kernel_rfl)(t:JAk (JCD G 60 true (JAA st).names (vn st)) (JAV st)=some fd.body:=by kernel_rfl)(s:okFn (vn st) (pn st) (JAA st)=true:=by kernel_rfl)(p:fd.par=(pn st).length:=by kernel_rfl)(z:fd.slots=(vn st).length:=by kernel_rfl):DefAt K mg G x fd:=by
 obtain⟨fo,h1,h2⟩:=fbJ f (f - 1) pm l cc k b;exact#[f,fo,st,vn st,pn st,PySem.W.mg_of X Gm a,h1,h2,t,JD8 s,p,z]
def rJ{tabR:Nat->Option Fd}{i:Nat}(q:Str)(f:Addr)(pm:Value)(st:Stmt)(ht:tabR i=some fd)(M:Meth K C m f:=by exact mthI)(l:FnL K m q st f (f - 1) pm:=by kernel_rfl)(cc:PySem.W.codeIn K (.ref (f - 1)) q=true:=by kernel_rfl)(b:BiA m q st:=by (repeat intro _);exact rfl)(t:JAk (JCD G 60 true (JAA st).names (vn st)) (JAV st)=some fd.body:=by kernel_rfl)(s:okFn (vn st) (pn st) (JAA st)=true:=by kernel_rfl)(p:fd.par=(pn st).length:=by kernel_rfl)(z:fd.slots=(vn st).length:=by kernel_rfl):∃fd f fo y q st N ps,tabR i=some fd/\Meth K C m f/\Fun K y q st f fo/\Binds K fo ps []/\Turned G st N ps fd :=
 rI _ (fbJ f (f - 1) pm l cc M.kp b) M ht #[t,JD8 s,p,z]
def m3J{x:Str}{tab3:Nat->Option Fd3}{i:Nat}{fd:Fd3}{P:Addr->Prop}(q:Str)(f:Addr)(pm:Value)(st:Stmt)(M:P f)(ht:tab3 i=some fd)(l:FnL K x q st f (f - 1) pm:=by kernel_rfl)(cc:PySem.W.codeIn K (.ref (f - 1)) q=true:=by kernel_rfl)(k:PySem.W.keepIn K (.ref f)=true:=by kernel_rfl)(b:BiA x q st:=by (repeat intro _);exact rfl)(c:JBn (JCI G L on fl false 60 (JAA st).names (vn st) 60 true) (JAV st)=some fd.body:=by kernel_rfl)(s:okFn (vn st) (pn st) (JAA st)=true:=by kernel_rfl)(p:fd.par=(pn st).length:=by kernel_rfl)(z:fd.slots=(vn st).length:=by kernel_rfl):∃fd f fo y q st N ps,tab3 i=some fd/\P f/\Fun K y q st f fo/\Binds K fo ps []/\Turned3 G L on fl false st N ps fd :=
 m3I (x:=x) _ (fbJ f (f - 1) pm l cc k b) M ht #[c,JD8 s,p,z]
def f3J{tab3:Nat->Option Fd3}{i:Nat}(lam:Bool)(X:K.In h)(Gm:h.Ns mainGlobals mg)(f:Addr)(pm:Value)(st:Stmt)(ht:tab3 i=some fd)(hl:lam=true->∀fo:FuncData,fo.code=.ref (f - 1)->LamC mg κ K x fo)(l:FnL K x x st f (f - 1) pm:=by kernel_rfl)(cc:PySem.W.codeIn K (.ref (f - 1)) x=true:=by kernel_rfl)(k:PySem.W.keepIn K (.ref f)=true:=by kernel_rfl)(b:BiA x x st:=by (repeat intro _);exact rfl)(c:JBn (JCI G L κ.on fl lam 60 (JAA st).names (vn st) 60 true) (JAV st)=some fd.body:=by kernel_rfl)(s:okFn (vn st) (pn st) (JAA st)=true:=by kernel_rfl)(p:fd.par=(pn st).length:=by kernel_rfl)(z:fd.slots=(vn st).length:=by kernel_rfl)(a:PySem.W.nsIn K mainGlobals x=some (some (.ref f)):=by kernel_rfl):∃fd f fo st N ps lam,tab3 i=some fd/\mg x=some (.ref f)/\Fun K x x st f fo/\Binds K fo ps []/\Turned3 G L κ.on fl lam st N ps fd/\(lam=true->LamC mg κ K x fo):=by
 have F:=JFa (st:=st) l cc k;exact f3I X Gm _ #[_,F,F.binds λkV doc pm an cdv ct us hl=>JE8 b us hl kV doc pm an cdv ct,λe=>hl e _ rfl] ht #[c,JD8 s,p,z] a
def lamC{κ:Kl}{x:Str}{c P bm:Addr}{od:Option Addr}{vs:Array Value}{sl sl2:Array (Option Value)}{file text:_}{tf tg tt:Tok}{flags:Int}{inF:Bool}(X:K.In h)(Gm:h.Ns mainGlobals mg)(e0:κ.tb.lookup P=some (x++".<locals>."++"<lambda>"))(l:K.lookup c=some #[.type "code",od,.fields vs,sl])(e1:vs[11]? = some (.ref P))(e2:vs.getD 11 .none=.ref P)(e3:vs.getD 18 .none=.str file tf)(e4:vs.getD 7 .none=.int flags tg)(e5:vs.getD 9 .none=.bool inF)(e6:vs.getD 10 .none=.int text tt)(e7:c≠P)(e:PySem.W.nsIn K mainGlobals "__builtins__"=some (some (.ref bm)))(n1:bm≠builtinsNs)(n2:bm≠mainGlobals)(n3:bm≠P)(l2:K.lookup bm=some #[.type "module",some builtinsNs,.plain,sl2])(fo:FuncData)(hc:fo.code=.ref c):LamC mg κ K x fo :=
 #[c,P,hc,e0,JFd l e1 e2 e3 e4 e5 e6 e7,JSR X Gm e n1 n2 n3 l2]
def tlJ{tn d en gn cn xk:Str}{cg:Nat}(X:K.In h)(Gm:h.Ns mainGlobals mg)(ft fc:Addr)(pm pm2:Value)(stt stc:Stmt)(TD:ToldD stt d en gn cn)(hg:G.lookup gn=some (.cls cg))(T:Turned (JC3 G) stc Nc [xk] fdc)(b1:JGi tn stt [d])(b2:JGi cn stc [xk])(l:FnL K tn tn stt ft (ft - 1) pm:=by kernel_rfl)(cc:PySem.W.codeIn K (.ref (ft - 1)) tn=true:=by kernel_rfl)(k:PySem.W.keepIn K (.ref ft)=true:=by kernel_rfl)(a:PySem.W.nsIn K mainGlobals tn=some (some (.ref ft)):=by kernel_rfl)(l2:FnL K cn cn stc fc (fc - 1) pm2:=by kernel_rfl)(cc2:PySem.W.codeIn K (.ref (fc - 1)) cn=true:=by kernel_rfl)(k2:PySem.W.keepIn K (.ref fc)=true:=by kernel_rfl)(a2:PySem.W.nsIn K mainGlobals cn=some (some (.ref fc)):=by kernel_rfl):TldC mg K G tn cg fdc:=by
 have F:=JFa (st:=stt) l cc k;have F2:=JFa (st:=stc) l2 cc2 k2;exact#[ft,fc,stt,stc,d,en,gn,cn,xk,_,_,Nc,PySem.W.mg_of X Gm a,TD,F,F.binds b1,hg,PySem.W.mg_of X Gm a2,F2,T,F2.binds b2]
def rF{kR:Nat->RK}{tabR:Nat->Option Fd}{i:Nat}(X:K.In h)(Gm:h.Ns mainGlobals mg)(f:Addr)(pm:Value)(st:Stmt)(hk:kR i=.def_)(ht:tabR i=some fd)(l:FnL K x x st f (f - 1) pm:=by kernel_rfl)(cc:PySem.W.codeIn K (.ref (f - 1)) x=true:=by kernel_rfl)(k:PySem.W.keepIn K (.ref f)=true:=by kernel_rfl)(b:BiA x x st:=by (repeat intro _);exact rfl)(a:PySem.W.nsIn K mainGlobals x=some (some (.ref f)):=by kernel_rfl)(t:JAk (JCD G 60 true (JAA st).names (vn st)) (JAV st)=some fd.body:=by kernel_rfl)(s:okFn (vn st) (pn st) (JAA st)=true:=by kernel_rfl)(p:fd.par=(pn st).length:=by kernel_rfl)(z:fd.slots=(vn st).length:=by kernel_rfl):kR i=.def_/\∃fd f fo st N ps,tabR i=some fd/\mg x=some (.ref f)/\Fun K x x st f fo/\Binds K fo ps []/\Turned G st N ps fd:=by
 obtain⟨fo,h1,h2⟩:=fbJ f (f - 1) pm l cc k b;exact#[hk,fd,f,fo,st,vn st,pn st,ht,PySem.W.mg_of X Gm a,h1,h2,t,JD8 s,p,z]
end
def cJ{K:Kq}{cl:Nat->Addr}{rc:Nat->Addr->Hp->Prop}{rcm:RcM rc}{w:World}{h:Heap}{mg:Mq}{x:Str}{d0:D}(X:K.In h)(Gm:h.Ns mainGlobals mg){glo:Nat->R D}{i:Nat}(hg:glo i=.ok d0)(e:((PySem.W.nsIn K mainGlobals x).bind λo=>o.bind λu=>conK K 64 u)=some d0:=by kernel_rfl):∀d,glo i=.ok d->∃u v,mg x=some u/\RelV v u/\∀H,Den #[K,cl,w,rc,rcm] H d v:=JNd X Gm e hg
abbrev gF(l:List (String×Nat)):Lz:=l.map λp=>(Str.ofString p.1,.fn p.2)
abbrev gC(l:List (String×Nat)):Lz:=l.map λp=>(Str.ofString p.1,.con p.2)
abbrev gX(l:List (String×Nat)):Lz:=l.map λp=>(Str.ofString p.1,.cls p.2)
abbrev gO(l:List String):Lz:=l.map λp=>(Str.ofString p,.opt)
abbrev noX:Lz->Bool
 | []=>true
 |(_,.cls _)::_=>false
 |_::r=>noX r
theorem JGc{B:Bs}{k:Nat}{l:List Nat}:∀ {G:Lz},noX G=true->AllP (λ_ gk=>match gk with
 |.cls c=>JIw B.K (B.cl k) (B.cl c) (l.contains c)
 |_=>True) G
 | [],_=>trivial
 |(x,g)::r,h=>by
  cases g<;>first|exact⟨trivial,JGc h⟩|cases h
end VI
end
section
namespace PySem
def JGB:typeLookup (.type "list") "keys"=pure none:=by rw[typeLookup_type,builtinLookup_eq_fast];kernel_rfl
def JIW:typeLookup (.type "list") "__getattr__"=pure none:=by rw[typeLookup_type,builtinLookup_eq_fast];kernel_rfl
section
variable{prog:Program}{w:World}{A:Around}{E:Vq}{h:Heap}{g:Array GenState}{d:Drawn}{t:Nat}{os:OsState}{a:Addr}{items:Array Value}{nn:Nat}{sl}
def JDc{Q:Fin->Shared->Prop}(hx:h.get? a=some { cls:=.type "list",dict:=none,data:=.seq items nn,slots:=sl })(hA:A.handled=none)
  (hq:∀h' tk' e,Heap.NewAttrErr h h' e (.ref a) "keys"->E (.ref e) #[h',g,d,tk',os]) :
  wpAny (model prog w) A (Builtin.«object.__getattribute__» #[[.ref a,.str "keys" tk],[]]) Q E #[h,g,d,t,os]:=by
 have hT:(#[h,g,d,t,os]:Shared).TypeIs (.ref a) "list":=#[_,hx,rfl];have f4:=JGB;unfold Builtin.«object.__getattribute__»
 repeat (any_goals (first|assumption|wp_step))
 exact wpAny_raiseAttrError hA hq (attrMsg_fits (by decide +kernel) (by size_fits))
def JEJ{R:Result->Shared->Prop}(hx:h.get? a=some { cls:=.type "list",dict:=none,data:=.seq items nn,slots:=sl })(hA:A.handled=none)
  (hq:∀h' tk' e,Heap.NewAttrErr h h' e (.ref a) "keys"->R (.error (.ref e)) #[h',g,d,tk',os]) :
  codeAny (model prog w) A (.call (.builtin "list.__getattribute__") #[[.ref a,.str "keys" tk],[]]) R #[h,g,d,t,os] :=
 codeAny_call_builtin F.slot_list_getattribute.plain F.entry_list_ga (F.slot_list_getattribute.check _ _ _ _ _ _ _ _ (show(#[h,g,d,t,os]:Shared).TypeIs (.ref a) "list" from#[_,hx,rfl]) (F.args_list_getattribute_2 _ _) (JDc hx (by simpa using hA) hq))
def JEH{Q:Option Value->Shared->Prop}(hx:h.get? a=some { cls:=.type "list",dict:=none,data:=.seq items nn,slots:=sl })(hA:A.handled=none)
  (hq:∀h' tk',(∀b ob,h.get? b=some ob->h'.get? b=some ob)->Q none #[h',g,d,tk',os]):wpAny (model prog w) A (getAttr? (.ref a) "keys") Q E #[h,g,d,t,os]:=by
 have hT:(#[h,g,d,t,os]:Shared).TypeIs (.ref a) "list":=#[_,hx,rfl];have f1:=sub_AttributeError;have f2:=F.slot_list_getattribute.lookup;have f3:=F.slot_list_getattribute.bind (.ref a);have f5:=JIW;unfold getAttr? getAttrBy? getAttrBy
 repeat (any_goals (first|assumption|wp_step))
 refine JEJ hx hA λh' tk' e hh=>?_;obtain⟨t',u',he⟩:=hh.there;show wpAny _ _ (getattributeRaised _ _ _ _ _ _ _) _ _ _;unfold getattributeRaised
 repeat (any_goals (first|assumption|wp_step))
 exact hq _ _ hh.keeps
end
end PySem
namespace VI
open PySem PySem.Spec PyProof.Rows L2
def JFS:entryFor table "dict.update.loop"=some Builtin.«dict.update.loop»:=entryFor_of_tree ⋯
def JCl:plainId "dict.update.loop"=true:=by decide +kernel
abbrev JEG(ps:List (Key×Value)):List (Key×Value):=ps.foldl (λacc p=>stored acc p.1 p.2) []
def JIA(ps:List (Key×Value))(p:Key×Value):JEG (ps++[p])=stored (JEG ps) p.1 p.2:=by
 unfold JEG;rw[List.foldl_append];rfl
def JJr:∀(ps:List (Key×Value)),(JEG ps).length<=ps.length:=by
 intro ps;have key:∀(ps acc:List (Key×Value)),(ps.foldl (λacc p=>stored acc p.1 p.2) acc).length<=acc.length+ps.length:=by
  intro ps
  induction ps with
  |nil=>intro acc;simp
  |cons p r ih =>
   intro acc;have h1:(stored acc p.1 p.2).length<=acc.length+1:=by
    unfold stored
    split
    ·rw[q_g];omega
    ·rw[q_u,List.length_cons,List.length_nil];omega
   have h2:=ih (stored acc p.1 p.2);simp![List.foldl_cons,List.length_cons];omega
 have:=key ps [];simpa[JEG] using this
section
variable{prog:Program}{w:World}{A:Around}{E:Vq}{s:Shared}
def JHC{h h':Heap}{S:Addr}{kvs:List (Key×Value)}(x:h.DictOf (JAQ prog w) S kvs)(e:∀o,h.get? S=some o->h'.get? S=some o):h'.DictOf (JAQ prog w) S kvs:=by
 obtain⟨o,es,ep,ho,r⟩:=x;exact#[o,es,ep,e o ho,r]
def JJX{I:Addr}{fp wr:List Addr}{G:Array GenState->Array GenState->Prop}{n:Nat}{P:Nat->Value->Prop}{St:Nat->Shared->Prop}{R:Result->Shared->Prop}
  (W:WalksS prog w A.in1 I fp wr G n P St) (S:Addr) (hSf:S ∉ fp) (h0:Heap) (ps:List (Key×Value)) (hn:ps.length=n)
  (hval:∀(i:Nat) v,P i v->∃a t k x nn o,v=.ref a/\a ∉ S::wr/\(h0.get? a=some o/\o.cls=.type "tuple"/\o.data=.seq (List.toArray [.str k t,x]) nn)/\ps[i]? = some (Sum.inr k,x)) (hb:n<=sizeLine) :
  ∀(k i:Nat) (s:Shared),n - i=k->i<=n->St i s->s.heap.DictOf (JAQ prog w) S (JEG (ps.take i))->(∀b o,b ∉ S::wr->h0.get? b=some o->s.heap.get? b=some o) ->
    (∀s',Moved (S::wr) G s s'->s'.heap.DictOf (JAQ prog w) S (JEG ps)->R (.ok (.ret .none)) s') ->
    codeAny (model prog w) A (.builtin "dict.update.loop" #[[.ref S,.ref I,rawInt (i:Nat),.none],[]]) R s:=by
 have hSw:S ∉ wr:=λh=>hSf (W.sub _ h);have hsub:∀b∈wr,b∈S::wr:=λb hb=>q_s _ hb;intro k
 induction k with
 |zero =>
  intro i s hk hi hst hS hkeep hR;have hin:i=n:=by omega
  subst hin;refine codeAny_builtin JFS ?_;rw[Around.under_plainId JCl _];show wpAny _ A.in1 (pyNext (.ref I) >>= _) _ _ s;refine q_b (W.done s _ _ hst λs' hm=>?_);show wpAny _ A.in1 (Builtin.Dict.addKeywords S [] >>= _) _ _ s';rw[<-hn,List.take_length]at hS;exact q_b (q_e (q_e (hR s' (hm.mono hsub) (JHC hS λo e=>hm.heap S _ hSw e))))
 |succ k ih =>
  intro i s hk hi hst hS hkeep hR;have hlt:i<n:=by omega
  refine codeAny_builtin JFS ?_;rw[Around.under_plainId JCl _];show wpAny _ A.in1 (pyNext (.ref I) >>= _) _ _ s;refine q_b (W.item i s _ _ hlt hst λv s' hP hst' hm=>?_);obtain⟨a,t,kx,x,nn,to,rfl,ha,⟨ht,htc,htd⟩,hp⟩:=hval i v hP;have hg:=hm.heap a _ (λz=>ha (hsub a z)) (hkeep a _ ha ht);have hT:s'.TypeIs (.ref a) "tuple":=#[_,hg,htc];have hS':s'.heap.DictOf (JAQ prog w) S (JEG (ps.take i)):=JHC hS λo e=>hm.heap S _ hSw e;show wpAny _ A.in1 (holding [Value.ref a] _ >>= _) _ _ s';refine q_b (wpAny_holding (q_b (wpAny_tryCatch ?_)));unfold Builtin.Dict.pairItems;refine q_b (wpAny_typeOf hT ?_);rw[if_pos (by decide)]
  refine q_b (wpAny_seqItems hg htd (q_e ?_));show wpAny _ _ (holding [Value.str kx t,x] (dictSet S (.str kx t) x)) _ _ _;refine wpAny_holding (wpAny_dictSet_pairs (k:=(Sum.inr kx:Key)) (JAY _ _ kx t) hS' (λh' hd' hsb=>?_) (Nat.le_trans (JJr _) (by rw[List.length_take];omega)))
  have hSi:h'.DictOf (JAQ prog w) S (JEG (ps.take (i+1))):=by
    rw[List.take_succ,hp,Option.toList_some,JIA];exact hd'
  refine q_e #[plainId_quiet JCl _,ih (i+1) _ ∅ hlt (W.frame _ s' _ _ hst' (Nat.le_succ _) λb hb o e=>?_) hSi (λb o hb e=>?_) λs'' hm'' hS''=>?_]
  · rw[hsb.2 b (λh:b=S=>hSf (by rw[<-h];exact hb))];exact e
  · have hbS:b≠S:=λz=>hb (by rw[z];exact List.mem_cons_self)
    exact(hsb.2 b hbS).trans (hm.heap b _ (λz=>hb (hsub b z)) (hkeep b o hb e))
  · refine hR s'' (Moved.trans W.gtrans ((hm.mono hsub).then_heap (Nat.le_succ _) λb o hb e=>?_) hm'') hS''
    rw[hsb.2 b (λh:b=S=>hb (by rw[h];exact List.mem_cons_self))];exact e
def JD4{l:Addr}{items:Array Value}{nn:Nat}{sl:Array (Option Value)}{ps:List (Key×Value)}{Q:Vq}(hh:A.handled=none)
  (hl:s.heap.get? l=some { cls:=.type "list",dict:=none,data:=.seq items nn,slots:=sl }) (hn:ps.length=items.size)
  (hi:∀(i:Nat) v,items[i]? = some v->∃a t k x nn o,v=.ref a/\(s.heap.get? a=some o/\o.cls=.type "tuple"/\o.data=.seq (List.toArray [.str k t,x]) nn)/\ps[i]? = some (Sum.inr k,x)) (hb:items.size<=sizeLine)
  (h:∀h' tk,h'.DictOf (JAQ prog w) s.heap.objs.size (JEG ps)->(∀b o,s.heap.get? b=some o->h'.get? b=some o)->Q (.ref s.heap.objs.size) { s with heap:=h',toks:=tk }) :
  wpAny (model prog w) A (call (.type "dict") [.ref l]) Q E s:=by
 refine callType_codes (Q₁:=λobj s₁=>obj=.ref s.heap.objs.size/\s₁={ s with heap:=s.heap.push { cls:=.type "dict",data:=.dict #[] } }) PySem.F.kt_called_dict (PySem.F.kt_typeCall_dict_1 _) PySem.F.entry_dict_init (kt_code_dict_new _ #[rfl,rfl]) ?_
 rintro obj s₁ ⟨rfl,rfl⟩;have hnew:(s.heap.push { cls:=.type "dict",data:=.dict #[] }).DictOf (JAQ prog w) s.heap.objs.size []:=Heap.DictOf.new s.heap;have hl':(s.heap.push { cls:=.type "dict",data:=.dict #[] }).get? l=some { cls:=.type "list",dict:=none,data:=.seq items nn,slots:=sl }:=q_c _ hl;have hT:Shared.TypeIs { s with heap:=s.heap.push { cls:=.type "dict",data:=.dict #[] } } (.ref l) "list":=#[_,hl',rfl]
 refine#[hnew.typeIs,PySem.F.args_dict_init_2 _ _,?_];unfold Builtin.«dict.__init__»;refine q_b ?_;unfold Builtin.Dict.selfAndRest;refine q_b (wpAny_notOrdered_dict hnew.typeIs ?_);show wpAny _ _ (pure (s.heap.objs.size,[Value.ref l])) _ _ _;refine q_e ?_;show wpAny _ _ (Builtin.Dict.updateFrom "dict.__init__" s.heap.objs.size (.ref l) [] .none) _ _ _;unfold Builtin.Dict.updateFrom;refine q_b (wpAny_typeOf hT ?_);rw[if_pos (by decide)]
 refine q_b (JEH hl' (by simp[hh]) λh1 tk1 hk1=>?_)
 simp![Option.isNone_none,if_true];refine q_b (wpAny_rule ?_);have hl1:h1.IsList l items:=#[_,hk1 _ _ hl',rfl,nn,rfl];have hlS:l<s.heap.objs.size:=q_h hl;have hS1:h1.DictOf (JAQ prog w) s.heap.objs.size []:=JHC hnew λo e=>hk1 _ _ e;have hS1l:s.heap.objs.size<h1.objs.size:=by obtain⟨o,_,_,ho,_⟩:=hS1;exact q_h ho
 refine q_b (wpAny_pyIter_list hl1 (q_e #[plainId_quiet JCl _,?_]));have hh3:A.in1.in1.handled=none:=by simp[hh]
 have hneI:l≠h1.objs.size:=q_l (Nat.lt_trans hlS hS1l);have hSf:s.heap.objs.size ∉ [h1.objs.size,l]:=by
  simp![q_n,List.mem_singleton,List.not_mem_nil,or_false,not_or];exact#[q_l hS1l,Nat.ne_of_gt hlS]
 have old:∀b o,s.heap.get? b=some o->(h1.push { cls:=.type "list_iterator",data:=.fields (List.toArray [.ref l,.int 0 0]) }).get? b=some o:=λb o e=>q_c _ (hk1 _ _ (q_c _ e));refine JJX (A:=A.in1) ((Walks.list hh3 _ l hneI items).toS) s.heap.objs.size hSf (h1.push { cls:=.type "list_iterator",data:=.fields (List.toArray [.ref l,.int 0 0]) }) ps hn (λi v hP=>?hv) hb (items.size - 0) 0 _ ∅ (Nat.zero_le _)
  #[#[_,q_k _ rfl,rfl,rfl],(hl1.push _)] ?hS0 (λb o _ e=>e) ?hR
 case hv =>
  obtain⟨a,t,k,x,nn',o',e,⟨ha,hc,hd⟩,hp⟩:=hi i v hP;have hal:a<s.heap.objs.size:=q_h ha;refine#[a,t,k,x,nn',o',e,?_,#[old _ _ ha,hc,hd],hp];simp![q_n,List.mem_singleton,List.not_mem_nil,or_false,not_or];exact#[q_l hal,q_l (Nat.lt_trans hal hS1l)]
 case hS0=>exact JHC hS1 λo e=>q_c _ e
 case hR =>
  intro s' hm hS';obtain⟨h',g',d',tk',os'⟩:=s';have eg:g'=s.gens:=hm.gens;have ed:d'=s.drawn:=hm.drawn;have eo:os'=s.os:=hm.os;subst eg;subst ed;subst eo;refine#[rfl,h h' tk' hS' λb o e=>?_];have hbl:b<s.heap.objs.size:=q_h e;exact hm.heap b o (by simp![q_n,List.mem_singleton,List.not_mem_nil,or_false,not_or];exact#[q_l hbl,q_l (Nat.lt_trans hbl hS1l)]) (old _ _ e)
end
def PrV(K:Kq)(H:Hp):List V->List (Str×V)->Prop
 | [],[]=>True
 |y::ys,p::ps=>(∃a,y=.ref a/\SqT K H a [.str p.1,p.2])/\PrV K H ys ps
 |_,_=>False
abbrev JKx(ps:List (Str×V)):List (Key×V):=ps.foldl (λacc p=>putK acc (Sum.inr p.1) p.2) []
theorem PrV.len{K:Kq}{H:Hp}:∀ {ys:List V}{ps:List (Str×V)},PrV K H ys ps->ps.length=ys.length
 | [],[],_=>rfl
 |y::ys,p::ps,h=>by simp![List.length_cons];rw[PrV.len h.2]
 | [],_::_,h=>h.elim
 |_::_,[],h=>h.elim
section
variable{X:Cx}
theorem JHM{zp:Pq}{s:Shared}{Y:St}{H:Hp}(I:Inv X zp Y H s):∀ {ys:List V}{ps:List (Str×V)}{its:List Value},PrV X.K H ys ps->Vals ys its->∃qs:List (Key×Value),KV (ps.map λp=>((Sum.inr p.1:Key),p.2)) qs /\
  ∀(i:Nat) v,its[i]? = some v->∃a t k x nn o,v=.ref a/\(s.heap.get? a=some o/\o.cls=.type "tuple"/\o.data=.seq (List.toArray [.str k t,x]) nn)/\qs[i]? = some (Sum.inr k,x)
 | [],[],its,_,r=>by cases r;exact#[[],.nil,λi v e=>by simp at e]
 |y::ys,p::ps,its,h,r=>by
  cases r with
  |cons ry rr =>
   rename_i u us;obtain⟨⟨a,rfl,sq⟩,h2⟩:=h;obtain⟨qs,kv,hq⟩:=JHM I h2 rr;cases ry;obtain⟨it2,r2,⟨o,ho,hc,nn,hd⟩,_⟩:=I.tuple sq;cases r2 with
   |cons rk r3 =>
    cases r3 with
    |cons rx r4 =>
     cases r4;obtain⟨t,rfl⟩:=rk;rename_i xv;refine#[(Sum.inr p.1,xv)::qs,.cons #[rfl,rx] kv,λi v e=>?_];cases i with
     |zero =>
      simp![List.getElem?_cons_zero,q_j]at e;subst e;exact#[a,t,p.1,xv,nn,o,rfl,#[ho,hc,hd],rfl]
     |succ i=>exact hq i v (by simpa using e)
 | [],_::_,_,h,_=>h.elim
 |_::_,[],_,h,_=>h.elim
theorem JJe:∀ {ps:List (Str×V)}{qs:List (Key×Value)}{a:List (Key×V)}{b:List (Key×Value)},KV a b->KV (ps.map λp=>((Sum.inr p.1:Key),p.2)) qs->KV (ps.foldl (λacc p=>putK acc (Sum.inr p.1) p.2) a) (qs.foldl (λacc p=>stored acc p.1 p.2) b)
 | [],qs,a,b,h,k=>by cases k;exact h
 |p::ps,qs,a,b,h,k=>by
  cases k with
  | @cons _ q _ qs hq t =>
   obtain⟨k',v'⟩:=q;obtain⟨e1,e2⟩:=hq;simp only at e1 e2;subst e1;have h2:=JJe (ps:=ps) (qs:=qs) (JIa h (Sum.inr p.1:Key) e2) t;exact h2
def JJC(ps:List (Str×V)):(JKx ps).length<=ps.length:=by
 have key:∀(ps:List (Str×V)) (acc:List (Key×V)),(ps.foldl (λacc p=>putK acc (Sum.inr p.1) p.2) acc).length<=acc.length+ps.length:=by
  intro ps
  induction ps with
  |nil=>intro acc;simp
  |cons p r ih =>
   intro acc;have h1:=JEt acc (Sum.inr p.1) p.2;have h2:=ih (putK acc (Sum.inr p.1) p.2);simp![List.foldl_cons,List.length_cons];omega
 have:=key ps [];simpa[JKx] using this
def JG6{zp:Pq}{Y:St}{H:Hp}{s:Shared}{h':Heap}{t':Nat}{xs:List (Key×V)}{vs:List (Key×Value)}(I:Inv X zp Y H s)(kp:∀b o,s.heap.get? b=some o->h'.get? b=some o)(hl:xs.length<=sizeLine)(kv:KV xs vs)
  (dd:h'.DictOf (JAQ X.prog X.w) s.heap.objs.size vs):∃o,Inv X zp Y (upd H s.heap.objs.size (.frz o (.dK xs))) { s with heap:=h',toks:=t' }:=by
 obtain⟨o,es,ep,g1,g2⟩:=id dd;exact#[o,I.laid (a:=s.heap.objs.size) (o:=.frz o (.dK xs)) (t':=t') kp (q_t _) #[g1,hl,beq_eq_false_iff_ne.mpr (Ne.symm (q_l (JJg I))),vs,kv,dd]]
def JGQ(hc:X.calm=true):JCE X (.type "dict") (λxs H Q=>∃l ys ps,xs=[.ref l]/\SqL X.K H l ys/\PrV X.K H ys ps/\∀p o',H p=none->Q (.ref p) (upd H p (.frz o' (.dK (JKx ps))))):=by
 intro zp s Y H xs us Q I r h;obtain⟨l,ys,ps,rfl,hq,pv,q⟩:=h;obtain⟨u,rfl,rx⟩:=vals1 r;cases rx;obtain⟨its,rv,⟨o,nn,g1,g2,g3,g4⟩,hz⟩:=I.list hq;obtain⟨qs,kv,hi⟩:=JHM I pv rv;have hl:=rv.length;have lk:qs.length=its.toArray.size:=by rw[<-JBs kv,q_g,PrV.len pv,hl];simp
 obtain⟨oc,od,oda,osl⟩:=o;simp only at g2 g3 g4;subst g2;subst g3;subst g4;refine JD4 (I.ok.hd hc) g1 lk (λi v e=>hi i v (by simpa using e)) (by simp![q_f];omega) λh' tk dd' kp=>?_
 have hfl:(JKx ps).length<=sizeLine:=Nat.le_trans (JJC ps) (by rw[PrV.len pv];exact hz)
 obtain⟨o',J⟩:=JG6 (t':=tk) I kp hfl (JJe .nil kv) dd';exact#[.ref s.heap.objs.size,_,J,rfl,q _ _ (I.hok.fresh (q_t _))]
end
section
variable{X:Cx}{B:Bs}{C:Cn}{CX:CXT}{XX:Nat->Hp->Prop}{G:Lz}{pos p:Pos}{a b:Expr}{x y:E}
def JIi:∀ {ys:List D}{acc kvs:List (D×D)}{us:List V}{xa:List (Key×V)},JCm ys acc=some kvs->DenL B H ys us->DenK B H acc xa->∃ps:List (Str×V),PrV B.K H us ps/\DenK B H kvs (ps.foldl (λacc p=>putK acc (Sum.inr p.1) p.2) xa):=by
 intro ys
 induction ys with
 |nil =>
  intro acc kvs us xa h l a;simp![JCm,q_j]at h;simp![DenL]at l;subst h;subst l;exact#[[],trivial,a]
 |cons y r ih =>
  intro acc kvs us xa h l a;unfold JCm at h
  split at h
  ·cases ‹_::_=[]›
  ·rename_i acc' k v r' e;obtain⟨e1,e2⟩:=List.cons.inj e;subst e1;subst e2;simp![DenL]at l;obtain⟨u,us',rfl,du,l⟩:=l;simp![Den]at du;obtain⟨q,vs,rfl,sq,dl⟩:=du;simp![DenL,Den]at dl;obtain⟨v1,r1,rfl,rfl,v2,r2,rfl,d2,rfl⟩:=dl;obtain⟨ps,p1,p2⟩:=ih h l (JEu d2 a);exact#[(k,v2)::ps,#[#[q,rfl,sq],p1],p2]
  ·cases h
def JMS(g:Gk X B C CX XX G){Q:VK}(ok:Sok B Y H U)(h:KE B XX (ev C (.xop k (.cons x .nil)) U) H Q)(hr:∀d v H1,Same H H1->Den B H1 d v->KE B XX (xD k [d]) H1 Q->r v H1):RE B C XX x Y H r:=by
 simp![ev,evA]at h;refine RE.of (W:=λr H=>KE B XX r H Q) (f:=λd=>xD k [d]) ok (λ_ _ z=>z) (λ_ z=>z) (by
  cases q:ev C x U with
  |ok d=>rw[q]at h;exact h
  |exc c=>rw[q]at h;exact h
  |bad=>rw[q]at h;exact h) λd v H1 s1 d1 h1=>hr d v H1 s1 d1 (KE.mono g s1 h1)
def s_dpr[Cool G](g:Gk X B C CX XX G)(hg:Gl X "dict")(hl:G.lookup ("dict":Str)=some (.ty .dict))(ha:PE X a (RE B C XX x))(he:starEach [a] X.env=[(false,eval a X.env)]):PE X (.Call (.Name "dict" p) [a] [] pos) (RE B C XX (.xop .dpr (.cons x .nil))):=by
 refine PE.imp (JFR (es:=[]) (JGQ (g.calm inferInstance)) hg (g.ty _ _ hl) (by decide +kernel) (JAz ha JBQ he) (by decide) (by decide) he rfl) λY H Q h_=>?_
 obtain⟨U,ok,k⟩:=h_;refine JMS g ok k λd v H1 s1 d1 k1=>?_;cases d<;>first|exact fF k1|skip
 rename_i ys;simp![xD]at k1;cases hp:JCm ys [] with
 |none=>rw[hp]at k1;exact k1.elim
 |some kvs =>
  rw[hp]at k1;simp![Den]at d1;obtain⟨q,vs,rfl,sq,l⟩:=d1;obtain⟨ps,p1,p2⟩:=JIi hp l (xa:=[]) (by simp![DenK])
  refine#[q,vs,ps,rfl,g.K▸sq,g.K▸p1,λp' o' hp'=>k1 _ _ (JAq hp') ?_];simp![Den];exact .inr (.inl #[p',_,rfl,#[o',.inl JAF],DenK.mono (JAq hp') _ _ p2])
def s_dnw:PE X (.Dict [] [] pos) (RE B C XX (.xop .dnw .nil)):=by
 rintro zp s Y H Q I ⟨U,ok,k⟩;simp![ev,evA]at k;have k:KE B XX (.ok (.dict [])) H Q:=k;refine wpAny_Dict_empty ?_;obtain⟨o,J⟩:=JG6 (h':=s.heap.push { cls:=.type "dict",data:=.dict #[] }) (t':=s.toks) (xs:=[]) I (λ_ _ q=>q_c _ q) (Nat.zero_le _) .nil (Heap.DictOf.new s.heap);have hn:H s.heap.objs.size=none:=I.hok.fresh (q_t _);refine#[.ref s.heap.objs.size,_,J,rfl,k _ _ (JAq hn) ?_];simp![Den];exact .inr (.inl #[_,[],rfl,#[o,.inl JAF],by simp![DenK]])
def s_dst[Cool G](g:Gk X B C CX XX G)(hg:Gl X "sorted")(hl:G.lookup ("sorted":Str)=some .nam)(ha:PE X a (RE B C XX x))(he:starEach [a] X.env=[(false,eval a X.env)]):PE X (.Call (.Name "sorted" p) [a] [] pos) (RE B C XX (.xop .dst (.cons x .nil))):=by
 refine PE.imp (JCV (JF4 (g.calm inferInstance)) hg (g.nam _ hl) (by decide +kernel) (JAz ha JBQ he) (by decide) (by decide) he rfl) λY H Q h_=>?_
 obtain⟨U,ok,k⟩:=h_;refine JMS g ok k λd v H1 s1 d1 k1=>?_;cases d<;>first|exact fF k1|skip
 rename_i kvs;simp![xD]at k1
 split at k1
 case isFalse=>exact k1.elim
 rename_i hk;obtain⟨ks,hk⟩:=Option.isSome_iff_exists.mp hk;obtain⟨a',o,xs,rfl,hq,l⟩:=JEg d1 hk;unfold srtS at k1
 split at k1
 case h_2=>exact k1.elim
 rename_i zs hz
 split at k1
 case isFalse=>exact k1.elim
 rename_i h64;refine#[a',xs,zs,rfl,.inr #[o,by rw[g.K,g.W];exact hq],JED (zs:=zs) l hz,h64,λp' hp'=>k1 _ _ (JAq hp') ?_]
 simp![Den];exact#[p',_,rfl,SqL.of JAF,JDq]
def JQb[Cool G]:XOk B C CX G .dst where
 val:=λX XX g e args y h hp ha hs hc=>by
  unfold xRaw at h
  split at h
  ·split at h
   ·cases h
   split at h
   ·rename_i hf
    split at h
    ·cases h;obtain⟨rfl,hg⟩:=hf;obtain⟨g1,g2,g3⟩:=JA9 hg;obtain⟨z,z2,rfl,h1,h2⟩:=PEs.one hp;cases PEs.no h2;exact s_dst g (JBl rfl g2) g3 h1 (hs _ (by simp) [] X.env)
    ·cases h
   ·split at h<;>cases h
  ·split at h<;>cases h
  ·cases h
 itr:=λX XX g tg e args y h ha hs hc=>by
  unfold xRaw at h
  split at h<;>first|(simp at h;done)|cases h
def JRh[Cool G]:XOk B C CX G .dpr where
 val:=λX XX g e args y h hp ha hs hc=>by
  unfold xRaw at h
  split at h
  ·split at h
   ·cases h
   split at h
   ·split at h<;>cases h
   ·split at h
    ·rename_i hf;cases h;obtain⟨rfl,hg,_⟩:=hf;obtain⟨g1,g2,g3⟩:=JA9 hg;obtain⟨z,z2,rfl,h1,h2⟩:=PEs.one hp;cases PEs.no h2;exact s_dpr g (JBl rfl g2) g3 h1 (hs _ (by simp) [] X.env)
    ·cases h
  ·split at h<;>cases h
  ·cases h
 itr:=λX XX g tg e args y h ha hs hc=>by
  unfold xRaw at h
  split at h<;>first|(simp at h;done)|cases h
def JPu:XOk B C CX G .dnw where
 val:=λX XX g e args y h hp ha hs hc=>by
  unfold xRaw at h
  split at h
  ·split at h
   ·cases h
   split at h
   ·split at h<;>cases h
   ·split at h<;>cases h
  ·split at h
   ·cases h
   ·cases h;cases y<;>first|exact s_dnw|exact fF hp
  ·cases h
 itr:=λX XX g tg e args y h ha hs hc=>by
  unfold xRaw at h
  split at h<;>first|(simp at h;done)|cases h
end
end VI
end
section
namespace VI.VP
open PySem Fr
section
variable{x:Bool}{tab:Nat->Option Fd}{glo:Nat->R D}{sub:Nat->Nat->Bool}{n:Nat}
end
end VI.VP
end
section
namespace VI.VP
open PySem Fr
def r3:rngD [.int 3]=.ok [.int 0,.int 1,.int 2]:=rfl
def JRf(p:Rat):(F p).canLay0=true:=by
 simp![F,PyData.canLayAll0,PyData.canLay0,Bool.and_self]
def JJS(p:Rat):(F p).depth=1:=by
 simp![F,PyData.depth,PyData.depthAll];rfl
section
variable{x:Bool}{tab:Nat->Option Fd}{glo:Nat->R D}{sub:Nat->Nat->Bool}{n:Nat}
end
end VI.VP
end
section
namespace VI.VP
abbrev b_23:S:=#v[.ret (.and (.isi (.var 0) .int) (.not (.isi (.var 0) .bool)))]
abbrev d_23:Fd:=#[1,1,b_23]
abbrev b_24:S:=#v[.ife (.or (.not (.isi (.var 0) .tuple)) (.cmp .NotEq (.blt .len #v[.var 0]) (.cint 2))) #v[.ret (.cbl false)] .nil,.asg 1 (.idx (.var 0) (.cint 0)),.asg 2 (.idx (.var 0) (.cint 1)),.ife (.or (.not (.call 23 #v[.var 1])) (.not (.call 23 #v[.var 2]))) #v[.ret (.cbl false)] .nil,.ret (.and (.cmp .Gt (.var 2) (.cint 0)) (.cmp .Eq (.call 0 #v[.var 1,.var 2]) (.cint 1)))]
abbrev d_24:Fd:=#[1,3,b_24]
abbrev b_25:S:=#v[.ret (.call 1 #v[.bin .Mult (.idx (.var 0) (.cint 0)) (.idx (.var 1) (.cint 1)),.bin .Mult (.idx (.var 0) (.cint 1)) (.idx (.var 1) (.cint 0))])]
abbrev d_25:Fd:=#[2,2,b_25]
abbrev b_26:S:=.nil
abbrev d_26:Fd:=#[1,2,b_26]
abbrev b_27:S:=.pass
abbrev d_27:Fd:=#[3,6,b_27]
end VI.VP
end
section
namespace VI.VP
open PySem Fr
structure SubOk(sub:Nat->Nat->Bool)(k:Nat):Prop where
 h0:sub k 0=true
 h1:sub k 1=decide (k=1)
 h2:sub k 2=decide (k=2)
 h3:sub k 3=decide (k=3)
 h4:sub k 4=decide (k=4)
 h5:sub k 5=decide (k=5)
 h6:sub k 6=decide (k=6)
 h7:sub k 7=decide (k=7)
 me:sub k k=true
def JJM{sub:Nat->Nat->Bool}{k c:Nat}(h:sub k k=true):isiD sub (excD k) (.own c)=.ok (.bool (sub k c)):=by
 simp![isiD,excD,Int.toNat_natCast,h,if_true]
def JKB{sub:Nat->Nat->Bool}{k:Nat}(h:sub k k=true):isiD sub (excD k) .valueError=.ok (.bool true):=by
 simp![isiD,excD,Int.toNat_natCast,h,if_true]
section
variable{x:Bool}{tab:Nat->Option Fd}{glo:Nat->R D}{sub:Nat->Nat->Bool}{n:Nat}
structure TabI(tab:Nat->Option Fd):Prop where
 h23:tab 23=some d_23
 h24:tab 24=some d_24
 h25:tab 25=some d_25
abbrev isW:D->Bool
 |.int _=>true
 |_=>false
def JBZ(T:TabI tab)(d:D){b1 b2:Bool}(h1:isiD sub d .int=.ok (.bool b1))(h2:isiD sub d .bool=.ok (.bool b2)):run x tab glo sub (n+1) 23 [d]=.ok (.bool (b1&&!b2)):=by
 rw[JAK T.h23,JAG rfl];cases b1
 ·dsimp![d_23,b_23,h1,h2]
 ·dsimp![d_23,b_23,h1,h2,Bool.true_and]
def JIz(T:TabI tab)(d:D)(h:∀k,d≠.dict k):run x tab glo sub (n+1) 23 [d]=.ok (.bool (isW d)):=by
 cases d with
 |dict k=>exact absurd rfl (h k)
 |none=>exact JBZ (b1:=false) (b2:=false) T _ rfl rfl
 |bool k=>exact JBZ (b1:=true) (b2:=true) T _ rfl rfl
 |int k=>exact JBZ (b1:=true) (b2:=false) T _ rfl rfl
 |str k=>exact JBZ (b1:=false) (b2:=false) T _ rfl rfl
 |list k=>exact JBZ (b1:=false) (b2:=false) T _ rfl rfl
 |tuple k=>exact JBZ (b1:=false) (b2:=false) T _ rfl rfl
def JLi(T:TabF tab)(I:TabI tab)(a b:Int):run x tab glo sub (n+2) 24 [.tuple [.int a,.int b]]=.ok (.bool (decide (0<b)&&decide (a.gcd b=1))):=by
 have w:=λ(d:D) (h:∀k,d≠.dict k)=>JIz (x:=x) (glo:=glo) (sub:=sub) (n:=n) I d h;have e0:idxD (.tuple [.int a,.int b]) (.int 0)=.ok (.int a):=rfl;have e1:idxD (.tuple [.int a,.int b]) (.int 1)=.ok (.int b):=rfl;have e2:isiD sub (.tuple [.int a,.int b]) .tuple=.ok (.bool true):=rfl;have e3:(2:Int)=(((0+1+1:Nat)):Int):=rfl;have e4:((((a.gcd b:Nat):Int))=1)=(a.gcd b=1):=by apply propext;omega
 rw[JAK I.h24,JAG rfl]
 by_cases hb:0<b
 ·dsimp![d_24,b_24,e0,e1,e2,e3,w (.int a) (λk h=>by cases h),w (.int b) (λk h=>by cases h),isW,List.length_cons,List.length_nil,Nat.reduceAdd,Bool.not_true,hb,decide_true,JKg T,Bool.true_and,e4]
 ·dsimp![d_24,b_24,e0,e1,e2,e3,w (.int a) (λk h=>by cases h),w (.int b) (λk h=>by cases h),isW,List.length_cons,List.length_nil,Nat.reduceAdd,Bool.not_true,hb,decide_true,decide_false,JKg T,Bool.true_and,e4]
def isf_F(T:TabF tab)(I:TabI tab)(p:Rat):run x tab glo sub (n+2) 24 [F p]=.ok (.bool true):=by
 rw[F,JLi T I,JOR];have:=den_pos p;rw[decide_eq_true this];rfl
end
end VI.VP
end
section
namespace VI.VP
abbrev b_29:S:=#v[.ret (.cmp .In (.var 0) (.glo 41))]
abbrev d_29:Fd:=#[1,1,b_29]
abbrev b_30:S:=#v[.ife (.not (.call 29 #v[.var 0])) #v[.rais 2] .nil]
abbrev d_30:Fd:=#[1,1,b_30]
abbrev b_31:S:=#v[.ret (.call 8 #v[.lst #v[.glo 39,.call 7 #v[.lst #v[.glo 40,.var 0]]]])]
abbrev d_31:Fd:=#[1,1,b_31]
abbrev b_32:S:=#v[.drop (.call 30 #v[.var 0]),.asg 2 (.call 31 #v[.var 1]),.ife (.cmp .Eq (.var 0) (.cstr "even")) #v[.ret (.var 2)] .nil,.ife (.cmp .Eq (.var 0) (.cstr "in")) #v[.ret (.call 5 #v[.var 2,.var 2])] .nil,.ife (.cmp .Eq (.var 0) (.cstr "out")) #v[.ret (.call 4 #v[.call 5 #v[.call 2 #v[.cint 2],.var 2],.call 5 #v[.var 2,.var 2]])] .nil,.ife (.cmp .Eq (.var 0) (.cstr "both")) #v[.ret (.call 5 #v[.call 5 #v[.var 2,.var 2],.call 4 #v[.call 2 #v[.cint 3],.call 5 #v[.call 2 #v[.cint 2],.var 2]]])] .nil,.ife (.cmp .Eq (.var 0) (.cstr "hold")) #v[.ret (.ife (.cmp .Eq (.var 2) (.glo 40)) (.glo 40) (.glo 39))] .nil,.ret (.ife (.cmp .Eq (.var 2) (.glo 39)) (.glo 39) (.glo 40))]
abbrev d_32:Fd:=#[2,3,b_32]
abbrev b_33:S:=.nil
abbrev d_33:Fd:=#[1,1,b_33]
abbrev b_34:S:=#v[.drop (.call 30 #v[.var 0]),.ife (.cmp .Lt (.var 1) (.cint 1)) #v[.ret (.lst .nil)] .nil,.ret (.cmpr 0 (.call 32 #v[.var 1,.call 1 #v[.var 0,.var 2]]) (.rng #v[.bin .Add (.var 1) (.cint 1)]) (.cbl true))]
abbrev d_34:Fd:=#[2,2,b_34]
abbrev b_35:S:=#v[.ret (.idx (.lst #v[.cstr "even",.cstr "in",.cstr "out",.cstr "both",.cstr "hold",.cstr "jump"]) (.call 12 #v[.var 0,.var 1,.cint 6]))]
abbrev d_35:Fd:=#[2,2,b_35]
abbrev b_36:S:=#v[.ife (.cmp .LtE (.idx (.var 1) (.cint 0)) (.cint 0)) #v[.ret (.tup #v[.cint 0,.cint 1])] .nil,.ife (.cmp .GtE (.idx (.var 1) (.cint 0)) (.idx (.var 1) (.cint 1))) #v[.ret (.tup #v[.cint 1,.cint 1])] .nil,.ife (.cmp .In (.var 0) (.tup #v[.cstr "hold",.cstr "jump"])) #v[.ret (.ife (.cmp .Eq (.var 0) (.cstr "hold")) (.tup #v[.cint 0,.cint 1]) (.tup #v[.cint 1,.cint 1]))] .nil,.unp [2,3] (.var 1),.ife (.cmp .Eq (.var 0) (.cstr "even")) #v[.ret (.var 1)] .nil,.ife (.cmp .Eq (.var 0) (.cstr "in")) #v[.ret (.call 14 #v[.bin .Mult (.var 2) (.var 2),.bin .Mult (.var 3) (.var 3)])] .nil,.ife (.cmp .Eq (.var 0) (.cstr "out")) #v[.ret (.call 14 #v[.bin .Sub (.bin .Mult (.bin .Mult (.cint 2) (.var 2)) (.var 3)) (.bin .Mult (.var 2) (.var 2)),.bin .Mult (.var 3) (.var 3)])] .nil,.ret (.call 14 #v[.bin .Sub (.bin .Mult (.bin .Mult (.bin .Mult (.cint 3) (.var 2)) (.var 2)) (.var 3)) (.bin .Mult (.bin .Mult (.bin .Mult (.cint 2) (.var 2)) (.var 2)) (.var 2)),.bin .Mult (.bin .Mult (.var 3) (.var 3)) (.var 3)])]
abbrev d_36:Fd:=#[2,4,b_36]
abbrev b_37:S:=.pass
abbrev d_37:Fd:=#[2,5,b_37]
end VI.VP
end
section
namespace VI.VP
open PySem Fr
inductive Kd where
 |even|inn|out|both|hold|jump
 deriving DecidableEq
abbrev Kd.str:Kd->Str
 |.even=>"even"
 |.inn=>"in"
 |.out=>"out"
 |.both=>"both"
 |.hold=>"hold"
 |.jump=>"jump"
abbrev ez(k:Kd)(p:Rat):Rat:=match k with
 |.even=>p
 |.inn=>p*p
 |.out=>2*p - p*p
 |.both=>p*p*(3 - 2*p)
 |.hold=>if p=1 then 1 else 0
 |.jump=>if p=0 then 0 else 1
abbrev kinds:D:=.tuple [.str "even",.str "in",.str "out",.str "both",.str "hold",.str "jump"]
abbrev turned:D:=.dict [(.str "in",.str "out"),(.str "out",.str "in"),(.str "hold",.str "jump"),(.str "jump",.str "hold")]
structure GloK(glo:Nat->R D):Prop where
 zero:glo 39=.ok (F 0)
 one:glo 40=.ok (F 1)
 kinds:glo 41=.ok VP.kinds
 turned:glo 42=.ok VP.turned
structure TabK(tab:Nat->Option Fd):Prop where
 h29:tab 29=some d_29
 h30:tab 30=some d_30
 h31:tab 31=some d_31
 h32:tab 32=some d_32
 h33:tab 33=some d_33
section
variable{x:Bool}{tab:Nat->Option Fd}{glo:Nat->R D}{sub:Nat->Nat->Bool}{n:Nat}
def JPw(g:GloK glo)(T:TabK tab)(d:D){b:Bool}(h:cmpD .In d VP.kinds=.ok (.bool b)):run x tab glo sub (n+1) 29 [d]=.ok (.bool b):=by
 rw[JAK T.h29,JAG rfl]
 dsimp![d_29,b_29,g.kinds,h]
def JLv(k:Kd):cmpD .In (.str k.str) VP.kinds=.ok (.bool true):=by
 have h:JCY [.str "even",.str "in",.str "out",.str "both",.str "hold",.str "jump"] (.str k.str)=true:=by cases k<;>decide +kernel
 have h2:([.str "even",.str "in",.str "out",.str "both",.str "hold",.str "jump"]:List D).any (λz=>PyData.eqv z (.str k.str))=true:=by cases k<;>decide +kernel
 simp![cmpD,VP.kinds,h,if_true,h2]
end
section
variable{x:Bool}{tab:Nat->Option Fd}{glo:Nat->R D}{sub:Nat->Nat->Bool}{n:Nat}
def JN8(i:Int)(h0:0<=i)(h1:i<6):∃k:Kd,idxD (.list [.str "even",.str "in",.str "out",.str "both",.str "hold",.str "jump"]) (.int i)=.ok (.str k.str):=by
 have:i=0\/i=1\/i=2\/i=3\/i=4\/i=5:=by omega
 rcases this with rfl|rfl|rfl|rfl|rfl|rfl
 ·exact#[.even,rfl]
 ·exact#[.inn,rfl]
 ·exact#[.out,rfl]
 ·exact#[.both,rfl]
 ·exact#[.hold,rfl]
 ·exact#[.jump,rfl]
def JKb(Lw:TabL tab)(h35:tab 35=some d_35)(ns:List Int)(j:Int)(hj:0<=j)(hj2:j<1000000):∃k:Kd,run x tab glo sub (n+3) 35 [sc ns,.int j]=.ok (.str k.str):=by
 rw[JAK h35,JAG rfl];obtain⟨i,i0,i1,hi⟩:=JCy (x:=x) (glo:=glo) (sub:=sub) (n:=n) Lw ns j 6 hj ∅ (by decide)
 obtain⟨k,hk⟩:=JN8 i i0 i1;refine#[k,?_]
 dsimp![d_35,b_35,hi,hk]
end
section
variable{x:Bool}{tab:Nat->Option Fd}{glo:Nat->R D}{sub:Nat->Nat->Bool}{n:Nat}
end
end VI.VP
end
section
namespace VI.VP
abbrev b_43:S:=#v[.drop (.call 30 #v[.var 0]),.ife (.or (.call 6 #v[.var 1,.glo 39]) (.call 6 #v[.glo 40,.var 1])) #v[.ret (.glo 39)] .nil,.ife (.cmp .Eq (.var 0) (.cstr "even")) #v[.ret (.glo 40)] .nil,.ife (.cmp .Eq (.var 0) (.cstr "in")) #v[.ret (.call 5 #v[.call 2 #v[.cint 2],.var 1])] .nil,.ife (.cmp .Eq (.var 0) (.cstr "out")) #v[.ret (.call 4 #v[.call 2 #v[.cint 2],.call 5 #v[.call 2 #v[.cint 2],.var 1]])] .nil,.ife (.cmp .Eq (.var 0) (.cstr "both")) #v[.ret (.call 5 #v[.call 2 #v[.cint 6],.call 4 #v[.var 1,.call 5 #v[.var 1,.var 1]]])] .nil,.ret (.glo 39)]
abbrev d_43:Fd:=#[2,2,b_43]
abbrev b_44:S:=.pass
abbrev d_44:Fd:=#[1,3,b_44]
end VI.VP
end
section
namespace VI.VP
open PySem Fr
abbrev slm(k:Kd)(r:Rat):Rat:=match k with
 |.even=>1
 |.inn=>2*r
 |.out=>2 - 2*r
 |.both=>6*(r - r*r)
 |.hold=>0
 |.jump=>0
abbrev sl(k:Kd)(r:Rat):Rat:=if r<0\/1<r then 0 else slm k r
section
variable{x:Bool}{tab:Nat->Option Fd}{glo:Nat->R D}{sub:Nat->Nat->Bool}{n:Nat}
end
end VI.VP
end
section
namespace VI.VP
open PySem Fr
class Z (k:outParam Nat) (q:Rat):Prop where
 h:Sz k q
def Z.le{k:Nat}{q:Rat}(z:Z k q){n:Nat}(h:k<=n):Sz n q:=z.h.mono h
section
variable{i j:Nat}{p q:Rat}
end
def nd(q:Rat):q*((q.den:Int):Rat)=(q.num:Rat):=by
 have z:((q.den:Int):Rat)≠0:=by exact_mod_cast JCg q
 conv=>lhs;lhs;rw[<-Rat.num_divInt_den q,Rat.divInt_eq_div,Rat.div_def]
 rw[Rat.mul_assoc,Rat.inv_mul_cancel _ z,Rat.mul_one]
section
variable{a c i i4 i5 i6:Nat}{s g l u v q:Rat}
end
section
variable{j:Nat}{p:Rat}[a:Z j p]
end
end VI.VP
end
section
namespace VI.VP
abbrev b_68:S:=#v[.ret (.and (.call 24 #v[.var 0]) (.cmp .Gt (.idx (.var 0) (.cint 0)) (.cint 0)))]
abbrev d_68:Fd:=#[1,1,b_68]
abbrev JPA:S:=#v[.ret (.call 141 #v[.var 0,.glo 151])]
abbrev JJn:Fd:=#[1,1,JPA]
abbrev JC6:S:=#v[.ife (.or (.cmp .Eq (.var 1) (.cint 0)) (.or (.not (.isi (.var 0) .tuple)) (.cmp .Eq (.blt .len #v[.var 0]) (.cint 0)))) #v[.ret (.cbl false)] .nil,.asg 2 (.idx (.var 0) (.cint 0)),.ife (.or (.cmp .Eq (.var 2) (.cstr "go")) (.cmp .Eq (.var 2) (.cstr "by"))) #v[.ret (.and (.cmp .Eq (.blt .len #v[.var 0]) (.cint 4)) (.and (.call 24 #v[.idx (.var 0) (.cint 1)]) (.and (.call 68 #v[.idx (.var 0) (.cint 2)]) (.call 29 #v[.idx (.var 0) (.cint 3)]))))] .nil,.ife (.cmp .Eq (.var 2) (.cstr "wait")) #v[.ret (.and (.cmp .Eq (.blt .len #v[.var 0]) (.cint 2)) (.call 68 #v[.idx (.var 0) (.cint 1)]))] .nil,.ife (.cmp .Eq (.var 2) (.cstr "then")) #v[.ret (.and (.cmp .Eq (.blt .len #v[.var 0]) (.cint 3)) (.and (.call 141 #v[.idx (.var 0) (.cint 1),.bin .Sub (.var 1) (.cint 1)]) (.call 141 #v[.idx (.var 0) (.cint 2),.bin .Sub (.var 1) (.cint 1)])))] .nil,.ife (.cmp .Eq (.var 2) (.cstr "again")) #v[.ret (.and (.cmp .Eq (.blt .len #v[.var 0]) (.cint 3)) (.and (.call 142 #v[.idx (.var 0) (.cint 1)]) (.call 141 #v[.idx (.var 0) (.cint 2),.bin .Sub (.var 1) (.cint 1)])))] .nil,.ret (.cbl false)]
abbrev JBk:Fd:=#[2,3,JC6]
abbrev JPF:S:=#v[.ret (.and (.call 23 #v[.var 0]) (.and (.cmp .GtE (.var 0) (.cint 0)) (.cmp .LtE (.var 0) (.glo 152))))]
abbrev JKl:Fd:=#[1,1,JPF]
abbrev JE2:S:=#v[.asg 3 (.call 12 #v[.var 0,.var 1,.cint 8]),.ife (.or (.cmp .Eq (.var 2) (.cint 1)) (.cmp .Lt (.var 3) (.cint 3))) #v[.asg 4 (.call 12 #v[.var 0,.bin .Add (.var 1) (.cint 1),.cint 5]),.ife (.cmp .Eq (.var 4) (.cint 0)) #v[.ret (.tup #v[.cstr "wait",.call 16 #v[.var 0,.bin .Add (.var 1) (.cint 2)]])] .nil,.asg 5 (.ife (.cmp .Lt (.var 4) (.cint 3)) (.cstr "go") (.cstr "by")),.ret (.tup #v[.var 5,.call 15 #v[.var 0,.bin .Add (.var 1) (.cint 4)],.call 16 #v[.var 0,.bin .Add (.var 1) (.cint 6)],.call 35 #v[.var 0,.bin .Add (.var 1) (.cint 8)]])] .nil,.ife (.cmp .Lt (.var 3) (.cint 6)) #v[.asg 6 (.call 146 #v[.var 0,.bin .Add (.bin .Mult (.cint 3) (.var 1)) (.cint 11),.bin .Sub (.var 2) (.cint 1)]),.ret (.tup #v[.cstr "then",.var 6,.call 146 #v[.var 0,.bin .Add (.bin .Mult (.cint 3) (.var 1)) (.cint 37),.bin .Sub (.var 2) (.cint 1)]])] .nil,.ret (.tup #v[.cstr "again",.call 12 #v[.var 0,.bin .Add (.var 1) (.cint 9),.cint 4],.call 146 #v[.var 0,.bin .Add (.bin .Mult (.cint 3) (.var 1)) (.cint 23),.bin .Sub (.var 2) (.cint 1)]])]
abbrev d_146:Fd:=#[3,7,JE2]
abbrev b_147:S:=.nil
abbrev d_147:Fd:=#[1,3,b_147]
abbrev JPH:S:=#v[.ife (.not (.call 140 #v[.var 0])) #v[.rais 3] .nil]
abbrev JKJ:Fd:=#[1,1,JPH]
abbrev JS9:S:=#v[.drop (.call 153 #v[.var 0]),.ret (.call 161 #v[.var 0,.var 1])]
abbrev JOa:Fd:=#[2,2,JS9]
abbrev JJ2:S:=#v[.ife (.cmp .Eq (.idx (.var 0) (.cint 0)) (.cstr "then")) #v[.ret (.tup #v[.cstr "then",.call 161 #v[.idx (.var 0) (.cint 1),.var 1],.call 161 #v[.idx (.var 0) (.cint 2),.var 1]])] .nil,.ife (.cmp .Eq (.idx (.var 0) (.cint 0)) (.cstr "again")) #v[.ret (.tup #v[.cstr "again",.idx (.var 0) (.cint 1),.call 161 #v[.idx (.var 0) (.cint 2),.var 1]])] .nil,.ife (.cmp .Eq (.idx (.var 0) (.cint 0)) (.cstr "wait")) #v[.ret (.tup #v[.cstr "wait",.call 5 #v[.idx (.var 0) (.cint 1),.var 1]])] .nil,.ret (.tup #v[.idx (.var 0) (.cint 0),.idx (.var 0) (.cint 1),.call 5 #v[.idx (.var 0) (.cint 2),.var 1],.idx (.var 0) (.cint 3)])]
abbrev JE1:Fd:=#[2,2,JJ2]
abbrev JIK:S:=#v[.asg 1 (.lst #v[.isi (.var 0) (.own 8),.isi (.var 0) (.own 1),.isi (.var 0) (.own 2),.isi (.var 0) (.own 6)]),.asg 1 (.bin .Add (.var 1) (.lst #v[.isi (.var 0) (.own 3),.isi (.var 0) (.own 7),.isi (.var 0) (.own 5)])),.asg 1 (.bin .Add (.var 1) (.lst #v[.isi (.var 0) (.own 4)])),.ife (.or (.cmp .NotEq (.mcount (.var 1) (.cbl true)) (.cint 1)) (.not (.isi (.var 0) .valueError))) #v[.ret (.cstr "wrong")] .nil,.ret (.idx (.lst #v[.cstr "no back",.cstr "no frac",.cstr "no kind",.cstr "no name",.cstr "no plan",.cstr "no text",.cstr "no time",.cstr "no track"]) (.mindex (.var 1) (.cbl true)))]
abbrev d_254:Fd:=#[1,2,JIK]
abbrev b_287:S:=#v[.ife (.or (.not (.isi (.var 0) .str)) (.or (.cmp .Eq (.blt .len #v[.var 0]) (.cint 0)) (.cmp .Gt (.blt .len #v[.var 0]) (.glo 290)))) #v[.ret (.cbl false)] .nil,.ret (.blt .all #v[.cmpr 0 (.cmp .In (.var 0) (.glo 289)) (.var 0) (.cbl true)])]
abbrev d_287:Fd:=#[1,1,b_287]
abbrev JGg:S:=#v[.asg 2 (.lst #v[.cstr "a",.cstr "b",.cstr "song",.cstr "x"]),.unp [3,4] (.tup #v[.idx (.var 2) (.call 12 #v[.var 0,.var 1,.cint 4]),.call 12 #v[.var 0,.bin .Add (.var 1) (.cint 1),.cint 8]]),.ife (.cmp .Lt (.var 4) (.cint 3)) #v[.ret (.tup #v[.cstr "put",.var 3,.call 146 #v[.var 0,.bin .Add (.var 1) (.cint 300),.cint 2]])] .nil,.ife (.cmp .Eq (.var 4) (.cint 3)) #v[.ret (.tup #v[.cstr "take",.var 3])] .nil,.ife (.cmp .Eq (.var 4) (.cint 4)) #v[.ret (.tup #v[.cstr "repeat",.var 3,.call 12 #v[.var 0,.bin .Add (.var 1) (.cint 2),.cint 6]])] .nil,.ife (.cmp .Eq (.var 4) (.cint 5)) #v[.ret (.tup #v[.cstr "slow",.var 3,.idx (.lst #v[.tup #v[.cint 1,.cint 2],.tup #v[.cint 2,.cint 1],.tup #v[.cint 3,.cint 2],.tup #v[.cint 1,.cint 1]]) (.call 12 #v[.var 0,.bin .Add (.var 1) (.cint 3),.cint 4])])] .nil,.ret (.tup #v[.cstr "chain",.var 3,.idx (.var 2) (.call 12 #v[.var 0,.bin .Add (.var 1) (.cint 2),.cint 4])])]
abbrev JPm:Fd:=#[2,5,JGg]
abbrev JCx:S:=#v[.asg 2 (.xop .dcp #v[.var 0]),.ife (.cmp .Eq (.idx (.var 1) (.cint 0)) (.cstr "put")) #v[.put 2 (.idx (.var 1) (.cint 1)) (.idx (.var 1) (.cint 2)),.cons (.frz 2) (.ret (.tup #v[.var 2,.cmp .In (.idx (.var 1) (.cint 1)) (.var 0)]))] .nil,.ife (.or (.cmp .NotIn (.idx (.var 1) (.cint 1)) (.var 0)) (.and (.cmp .Eq (.idx (.var 1) (.cint 0)) (.cstr "chain")) (.cmp .NotIn (.idx (.var 1) (.cint 2)) (.var 0)))) #v[.ret (.tup #v[.var 0,.cstr "no name"])] .nil,.ife (.cmp .Eq (.idx (.var 1) (.cint 0)) (.cstr "take")) #v[.ret (.tup #v[.xop .dpr #v[.cmpr 0 (.tup #v[.var 0,.idx (.var 1) (.var 0)]) (.var 0) (.cmp .NotEq (.var 0) (.idx (.var 2) (.cint 1)))],.idx (.var 0) (.idx (.var 1) (.cint 1))])] .nil,.asg 3 (.idx (.var 0) (.idx (.var 1) (.cint 1))),.ife (.cmp .Eq (.idx (.var 1) (.cint 0)) (.cstr "slow")) #v[.asg 4 (.call 160 #v[.var 3,.idx (.var 1) (.cint 2)])] #v[.asg 4 (.ife (.cmp .Eq (.idx (.var 1) (.cint 0)) (.cstr "repeat")) (.tup #v[.cstr "again",.idx (.var 1) (.cint 2),.var 3]) (.tup #v[.cstr "then",.var 3,.idx (.var 0) (.idx (.var 1) (.cint 2))]))],.ife (.not (.call 140 #v[.var 4])) #v[.ret (.tup #v[.var 0,.cstr "no plan"])] .nil,.put 2 (.idx (.var 1) (.cint 1)) (.var 4),.cons (.frz 2) (.ret (.tup #v[.var 2,.var 4]))]
abbrev JH0:Fd:=#[2,5,JCx]
abbrev tabA(i:Nat):Option Fd:=match i with
 |0=>some d_0
 |1=>some d_1
 |2=>some d_2
 |3=>some d_3
 |4=>some d_4
 |5=>some d_5
 |6=>some d_6
 |7=>some d_7
 |8=>some d_8
 |9=>some d_9
 |10=>some d_10
 |11=>some d_11
 |12=>some d_12
 |13=>some d_13
 |14=>some d_14
 |15=>some d_15
 |16=>some d_16
 |17=>some d_17
 |18=>some d_18
 |19=>some d_19
 |20=>some d_20
 |21=>some d_21
 |23=>some d_23
 |24=>some d_24
 |25=>some d_25
 |26=>some d_26
 |27=>some d_27
 |29=>some d_29
 |30=>some d_30
 |31=>some d_31
 |32=>some d_32
 |33=>some d_33
 |34=>some d_34
 |35=>some d_35
 |36=>some d_36
 |37=>some d_37
 |43=>some d_43
 |44=>some d_44
 |68=>some d_68
 |140=>some JJn
 |141=>some JBk
 |142=>some JKl
 |146=>some d_146
 |147=>some d_147
 |153=>some JKJ
 |160=>some JOa
 |161=>some JE1
 |254=>some d_254
 |287=>some d_287
 |296=>some JPm
 |297=>some JH0
 |_=>none
abbrev gloA(i:Nat):R D:=match i with
 |39=>.ok (F 0)
 |40=>.ok (F 1)
 |41=>.ok (VI.VP.kinds)
 |42=>.ok (VI.VP.turned)
 |55=>.ok (.int 0)
 |56=>.ok (.int 1)
 |57=>.ok (.int 2)
 |58=>.ok (.int 3)
 |59=>.ok (.int 4)
 |60=>.ok (.int 5)
 |61=>.ok (.str "kept")
 |77=>.ok (.tuple [F 0,F 0])
 |93=>.ok (.int 0)
 |94=>.ok (.int 1)
 |128=>.ok (.int 0)
 |129=>.ok (.int 1)
 |151=>.ok (.int 5)
 |152=>.ok (.int 4)
 |192=>.ok (.dict [(.str "even",.tuple [.int 1,.int 2]),(.str "both",.tuple [.int 1,.int 2]),(.str "kept",.tuple [.int 1,.int 2]),(.str "in",.tuple [.int 1,.int 3]),(.str "out",.tuple [.int 2,.int 3]),(.str "hold",.tuple [.int 0,.int 1]),(.str "jump",.tuple [.int 1,.int 1])])
 |226=>.ok (.int 1)
 |289=>.ok (.str "abcdefghijklmnopqrstuvwxyz")
 |290=>.ok (.int 6)
 |291=>.ok (.int 0)
 |292=>.ok (.int 1)
 |293=>.ok (.int 2)
 |294=>.ok (.int 3)
 |_=>.bad
end VI.VP
end
section
namespace VI.VP
abbrev JC0:S:=#v[.ife (.or (.not (.call 287 #v[.var 1])) (.call 403 #v[.var 1,.var 0])) #v[.rais 6] .nil,.ret (.call 404 #v[.call 407 #v[.var 0],.var 1])]
abbrev JCv:Fd:=#[2,2,JC0]
abbrev JG9:S:=#v[.ret (.call 406 #v[.var 0])]
abbrev JG4:Fd:=#[1,1,JG9]
abbrev JFo:S:=#v[.ret (.tup #v[.call 411 #v[.var 0],.call 421 #v[.var 0]])]
abbrev JF0:Fd:=#[1,1,JFo]
abbrev JRW:S:=#v[.ret (.xop .dpr #v[.cmpr 0 (.tup #v[.var 0,.call 430 #v[.call 431 #v[.var 1],.var 0]]) (.call 432 #v[.call 433 #v[.var 0]]) (.cbl true)])]
abbrev JRV:Fd:=#[1,1,JRW]
abbrev JNR:S3:=#v[.st (.drop (.call 153 #v[.var 2])),.st (.ife (.not (.call 287 #v[.var 1])) #v[.rais 6] .nil),.st (.asg 3 (.call 402 #v[.var 1,.var 0])),.drop (.met 446 "do" (.var 0) #v[.cstr "put",.var 1,.var 2]),.st (.ret (.var 3))]
abbrev JNK:Fd3:=#[3,4,JNR]
abbrev JGU:S3:=#v[.st (.asg 2 (.call 430 #v[.call 431 #v[.var 0],.var 1])),.drop (.met 446 "do" (.var 0) #v[.cstr "take",.var 1,.cnon]),.st (.ret (.var 2))]
abbrev JGJ:Fd3:=#[2,3,JGU]
abbrev JCU:S3:=#v[.ret (.met 445 "change" (.var 0) #v[.cstr "chain",.var 1,.tup #v[.cstr "then",.call 430 #v[.call 431 #v[.var 0],.var 1],.call 430 #v[.call 431 #v[.var 0],.var 2]]])]
abbrev JCt:Fd3:=#[3,3,JCU]
abbrev JCd:S3:=#v[.ret (.met 445 "change" (.var 0) #v[.cstr "repeat",.var 1,.tup #v[.cstr "again",.var 2,.call 430 #v[.call 431 #v[.var 0],.var 1]]])]
abbrev JCa:Fd3:=#[3,3,JCd]
abbrev JGH:S3:=#v[.st (.asg 3 (.call 430 #v[.call 431 #v[.var 0],.var 1])),.st (.ife (.not (.call 68 #v[.var 2])) #v[.rais 3] .nil),.ret (.met 445 "change" (.var 0) #v[.cstr "slow",.var 1,.call 160 #v[.var 3,.var 2]])]
abbrev JGG:Fd3:=#[3,4,JGH]
abbrev JDk:S3:=#v[.st (.drop (.call 153 #v[.var 3])),.drop (.met 446 "do" (.var 0) #v[.var 1,.var 2,.var 3]),.st (.ret (.var 3))]
abbrev JDh:Fd3:=#[4,4,JDk]
abbrev JOU:S3:=#v[.app 0 "done" (.tup #v[.var 1,.var 2,.call 405 #v[.call 407 #v[.var 0],.var 2],.var 3]),.clr 0 "undone",.drop (.met 447 "set_plan" (.var 0) #v[.var 2,.var 3])]
abbrev JOX:Fd3:=#[4,4,JOU]
abbrev JCO:S3:=#v[.ife (.pur (.isN (.var 2) false)) #v[.dpo 0 "plans" (.var 1)] #v[.dpu 0 "plans" (.var 1) (.var 2)]]
abbrev JCP:Fd3:=#[3,3,JCO]
abbrev JOm:S3:=#v[.fln 0 "plans" (.dict []),.fln 0 "done" (.list []),.fln 0 "undone" (.list [])]
abbrev JPI:Fd3:=#[1,1,JOm]
abbrev JH9:S3:=#v[.ife (.pur (.cmp .In (.idx (.var 1) (.cint 0)) (.tup #v[.cstr "put",.cstr "take"]))) #v[.ret (.tol 0 d_254 (.ife (.cmp .Eq (.idx (.var 1) (.cint 0)) (.cstr "put")) (.met 440 "put" (.var 0) #v[.idx (.var 1) (.cint 1),.idx (.var 1) (.cint 2)]) (.met 441 "take" (.var 0) #v[.idx (.var 1) (.cint 1)])))] .nil,.ife (.pur (.cmp .Eq (.idx (.var 1) (.cint 0)) (.cstr "slow"))) #v[.ret (.tol 0 d_254 (.met 444 "slow" (.var 0) #v[.idx (.var 1) (.cint 1),.idx (.var 1) (.cint 2)]))] .nil,.ret (.tol 0 d_254 (.ife (.cmp .Eq (.idx (.var 1) (.cint 0)) (.cstr "chain")) (.met 442 "chain" (.var 0) #v[.idx (.var 1) (.cint 1),.idx (.var 1) (.cint 2)]) (.met 443 "repeat" (.var 0) #v[.idx (.var 1) (.cint 1),.idx (.var 1) (.cint 2)])))]
abbrev JH2:Fd3:=#[2,2,JH9]
abbrev b_300:S3:=#v[.unp [1,2] (.mak 460 .nil) #v[.xop .dnw .nil],.for1 3 (.rng #v[.cint 16]) #v[.st (.asg 4 (.call 296 #v[.var 0,.bin .Add (.cint 1000) (.bin .Mult (.cint 20) (.var 3))])),.st (.unp [2,5] (.call 297 #v[.var 2,.var 4])),.ife (.or (.cmp .NotEq (.cal 298 #v[.var 1,.var 4]) (.var 5)) (.or (.pur (.cmp .NotEq (.call 299 #v[.var 1]) (.var 2))) (.pur (.cmp .NotEq (.call 432 #v[.call 433 #v[.var 1]]) (.xop .dst #v[.var 2]))))) #v[.st (.ret (.cbl false))] .nil],.st (.ret (.cmp .Eq (.idx (.call 434 #v[.call 435 #v[.var 1]]) (.cint 1)) (.cint 0)))]
abbrev JS6:Fd3:=#[1,6,b_300]
abbrev kR(i:Nat):RK:=match i with
 |299=>.def_
 |400=>.fld "plans"
 |401=>.own 0 "plans"
 |402=>.own 1 "plans"
 |403=>.own 2 "plans"
 |404=>.own 3 "plans"
 |405=>.own 4 "plans"
 |406=>.own 5 "plans"
 |407=>.own 6 "plans"
 |410=>.fld "done"
 |411=>.own 0 "done"
 |412=>.own 1 "done"
 |413=>.own 2 "done"
 |414=>.own 3 "done"
 |415=>.own 4 "done"
 |416=>.own 5 "done"
 |417=>.own 6 "done"
 |420=>.fld "undone"
 |421=>.own 0 "undone"
 |422=>.own 1 "undone"
 |423=>.own 2 "undone"
 |424=>.own 3 "undone"
 |425=>.own 4 "undone"
 |426=>.own 5 "undone"
 |427=>.own 6 "undone"
 |430=>.def_
 |431=>.chk "plan_of"
 |432=>.def_
 |433=>.chk "names"
 |434=>.def_
 |435=>.chk "counts"
 |_=>.no
abbrev tabR(i:Nat):Option Fd:=match i with
 |299=>some JRV
 |430=>some JCv
 |432=>some JG4
 |434=>some JF0
 |_=>none
abbrev tab3(i:Nat):Option Fd3:=match i with
 |298=>some JH2
 |300=>some JS6
 |440=>some JNK
 |441=>some JGJ
 |442=>some JCt
 |443=>some JCa
 |444=>some JGG
 |445=>some JDh
 |446=>some JOX
 |447=>some JCP
 |460=>some JPI
 |_=>none
end VI.VP
end
section
namespace VI.VP
open PySem Fr
def tF:TabF tabA:=#[rfl,rfl,rfl,rfl,rfl,rfl,rfl]
def tL:TabL tabA:=#[rfl,rfl,rfl,rfl,rfl,rfl,rfl,rfl,rfl,rfl,rfl]
def tK:TabK tabA:=#[rfl,rfl,rfl,rfl,rfl]
def gK:GloK gloA:=#[rfl,rfl,rfl,rfl]
def G39:gloA 39=.ok (F 0):=rfl
def G40:gloA 40=.ok (F 1):=rfl
def G55:gloA 55=.ok (.int 0):=rfl
def G56:gloA 56=.ok (.int 1):=rfl
def G57:gloA 57=.ok (.int 2):=rfl
def G58:gloA 58=.ok (.int 3):=rfl
def G59:gloA 59=.ok (.int 4):=rfl
def G60:gloA 60=.ok (.int 5):=rfl
def G61:gloA 61=.ok (.str "kept"):=rfl
section
variable{x:Bool}{sub:Nat->Nat->Bool}{m i j:Nat}{p q:Rat}
def JAC{k:Nat}(h:k<=m):∃n,m=n+k:=#[m - k,by omega]
def JPG[a:Z i p][b:Z j q](hi:i<=1500)(hj:j<=1500)(hm:3<=m):run x tabA gloA sub m 5 [F p,F q]=.ok (F (p*q)):=by
 obtain⟨n,rfl⟩:=JAC hm;exact JLJ tF (a.le hi) (b.le hj)
def JDE(ns:List Int)(k c:Int)(hm:2<=m)(hk:0<=k)(hk2:k<2000000)(hc:0<c):∃i,0<=i/\i<c/\run x tabA gloA sub m 12 [sc ns,.int k,.int c]=.ok (.int i):=by
 obtain⟨n,rfl⟩:=JAC hm;exact JCy tL ns k c hk hk2 hc
def JQV(ns:List Int)(k:Int)(hm:3<=m)(hk:0<=k)(hk2:k<1000000):∃q,Small q/\run x tabA gloA sub m 15 [sc ns,.int k]=.ok (F q):=by
 obtain⟨n,rfl⟩:=JAC hm;exact JLI tL ns k hk hk2
def JND(ns:List Int)(k:Int)(hm:3<=m)(hk:0<=k)(hk2:k<1000000):∃q,Small q/\0<q/\run x tabA gloA sub m 16 [sc ns,.int k]=.ok (F q):=by
 obtain⟨n,rfl⟩:=JAC hm;exact JKy tL ns k hk hk2
def JQ6(ns:List Int)(k:Int)(hm:3<=m)(hk:0<=k)(hk2:k<1000000):∃d:Kd,run x tabA gloA sub m 35 [sc ns,.int k]=.ok (.str d.str):=by
 obtain⟨n,rfl⟩:=JAC hm;exact JKb tL rfl ns k hk hk2
end
end VI.VP
end
local macro_rules | `(tactic| dsimp?! [$ts,*])=>`(tactic| simp(disch:=first|omega|assumption) only[VI.VP.wV0,VI.VP.wV1,VI.VP.wV2,VI.VP.wV3,VI.VP.JKq,
 VI.VP.JRF,VI.VP.JQg,VI.VP.JRE,VI.VP.JPV,VI.VP.k_tt,VI.VP.k_tl,VI.VP.k_lt,VI.VP.k_ll,VI.VP.JMo,VI.VP.JJo,VI.VP.JHj,
 VI.VP.JHO,
 VI.VP.JIF,VI.VP.JP1,VI.VP.JRw,VI.VP.JRu,VI.VP.JMH,VI.VP.JML,VI.VP.JS5,VI.VP.JRU,VI.VP.JP6,VI.VP.JPY,VI.VP.JMe,VI.VP.JNT,VI.VP.JPo,VI.VP.JPW,VI.VP.JRi,VI.VP.JNA,VI.VP.JSY,VI.VP.JSP,VI.VP.JI1,VI.VP.JJK,VI.VP.JM8,VI.VP.JI0,VI.VP.JIX,VI.VP.JMh,VI.VP.JMt,VI.VP.JRd,VI.VP.JPd,VI.VP.JRS,VI.VP.JMv,VI.VP.JM5,VI.VP.JMw,VI.VP.JME,VI.VP.JM7,VI.VP.JP7,VI.VP.JMI,VI.VP.JTE,VI.VP.JNN,VI.VP.JNW,VI.VP.JMj,VI.VP.JNL,VI.VP.JM6,VI.VP.JRA,VI.VP.JNP,VI.VP.JM1,VI.VP.JNM,VI.VP.JNG,VI.VP.JMp,VI.VP.JMl,VI.VP.JNS,VI.VP.JMA,VI.VP.JNH,VI.VP.JJA,VI.VP.JQE,VI.VP.JI7,VI.VP.JIG,VI.VP.JGw,VI.VP.JSI,VI.VP.JMT,VI.VP.JRp,VI.VP.JIl,
 VI.VP.look_zero,VI.VP.look_succ,VI.VP.get_val,VI.VP.get_own,VI.VP.JFn,VI.VP.JFL,List.map_cons,List.map_nil,List.cons_append,List.nil_append,
 List.replicate_succ,List.replicate_zero,Nat.reduceSub,List.set_cons_zero,List.set_cons_succ,VI.E.fresh,VI.VP.JGx,VI.VP.JD1,VI.VP.JEK,VI.VP.JDs,Bool.false_and,q_v,eq_self,if_true,if_false,VI.VP.i_ne,VI.VP.i_eq,VI.VP.i_lt,VI.VP.i_gt,VI.VP.i_le,VI.VP.i_ge,VI.VP.JNB,VI.VP.JMs,VI.VP.JST,VI.VP.JRR,
 VI.VP.G39,VI.VP.G40,VI.VP.G55,VI.VP.G56,VI.VP.G57,VI.VP.G58,VI.VP.G59,VI.VP.G60,VI.VP.G61,VI.VP.JPG,$ts,*])
section
namespace VI.VP
open PySem Fr
abbrev ks(s g l u v p:Rat):Rat:=(g - s) / l*sl .both p+(u*(3*(p*p) - 4*p+1)+v*(3*(p*p) - 2*p))
abbrev sd(s g b l:Rat)(k:Option Kd)(u v t:Rat):Rat:=match k with
 |some k=>(g - s) / l*sl k ((t - b) / l)
 |none=>if (t - b) / l<0\/1<(t - b) / l then 0 else ks s g l u v ((t - b) / l)
section
variable{s g b l u v:Rat}{k:Option Kd}
end
section
variable{x:Bool}{sub:Nat->Nat->Bool}{m i1 i2 i3 i4 i5 i6 j:Nat}{s g b l u v t p:Rat}
end
end VI.VP
end
section
namespace VI.VP
open PySem Fr
section
variable{s g b l u v t:Rat}{k:Option Kd}{i1 i2 i3 i4 i5 i6 j:Nat}
end
section
variable{x:Bool}{sub:Nat->Nat->Bool}{m i1 i2 i3 i4 i5 i6 j:Nat}{s g b l u v t p:Rat}
end
end VI.VP
end
section
namespace VI.VP
open PySem Fr
def tI:TabI tabA:=#[rfl,rfl,rfl]
def JOl{p:Rat}:(0<p.num)=(0<p):=by
 apply propext;rw[Rat.lt_iff];simp
def JBq{sub:Nat->Nat->Bool}(ds:List D):isiD sub (.tuple ds) .tuple=.ok (.bool true):=rfl
section
variable{x:Bool}{sub:Nat->Nat->Bool}{m i1 i2 i3 i4 i5 i6 j:Nat}{s g b l u v t p:Rat}
def JNa(hm:2<=m):run x tabA gloA sub m 24 [F p]=.ok (.bool true):=by
 obtain⟨n,rfl⟩:=JAC hm;exact isf_F tF tI p
def JLD(hm:3<=m):run x tabA gloA sub m 68 [F p]=.ok (.bool (decide (0<p))):=by
 obtain⟨n,rfl⟩:=JAC hm;rw[JAK (n:=n+2) (show tabA 68=some d_68 from rfl),JAG rfl]
 dsimp?! [d_68,b_68,JNa,JOl]
def JQq{k:Kd}(hm:1<=m):run x tabA gloA sub m 29 [.str k.str]=.ok (.bool true):=by
 obtain⟨n,rfl⟩:=JAC hm;exact JPw gK tK _ (JLv k)
end
end VI.VP
end
section
namespace VI.VP
open PySem Fr
section
variable{x:Bool}{sub:Nat->Nat->Bool}{m n:Nat}{w:Rat}{w':D}
section
variable{g b l:Rat}{k:Kd}{i:Nat}
end
end
end VI.VP
end
section
namespace VI.VP
open PySem Fr
section
variable{x:Bool}{sub:Nat->Nat->Bool}{m n:Nat}{w t:Rat}{ns:List Int}
def JQX{a:E}{j:Nat}:(E.rng a).uses j=a.uses j:=rfl
end
end VI.VP
end
section
namespace VI.VP
open PySem Fr
inductive Pl where
 |wait (q:Rat)
 |step (o:Bool) (g q:Rat) (k:Kd)
 |thn (a b:Pl)
 |agn (c:Nat) (a:Pl)
abbrev gw(o:Bool):Str:=if o=true then "go" else "by"
def gwF:gw false="by":=rfl
def gwT:gw true="go":=rfl
abbrev Pl.d:Pl->D
 |.wait q=>.tuple [.str "wait",F q]
 |.step o g q k=>.tuple [.str (gw o),F g,F q,.str k.str]
 |.thn a b=>.tuple [.str "then",a.d,b.d]
 |.agn c a=>.tuple [.str "again",.int c,a.d]
abbrev Pl.dep:Pl->Nat
 |.wait _=>1
 |.step ..=>1
 |.thn a b=>max a.dep b.dep+1
 |.agn _ a=>a.dep+1
def Pl.Ok:Pl->Prop
 |.wait q=>0<q
 |.step _ _ q _=>0<q
 |.thn a b=>a.Ok/\b.Ok
 |.agn c a=>c<=4/\a.Ok
abbrev Pl.steps:Pl->List Pl
 |.thn a b=>a.steps++b.steps
 |.agn c a=>(List.replicate c a.steps).flatten
 |p=>[p]
def JAg{a b:Str}{k:Bool}(ha:shaped (.str a)=true)(hb:shaped (.str b)=true)(h:(a==b)=k):cmpD .Eq (.str a) (.str b)=.ok (.bool k):=by
 simp![cmpD,ha,hb,Bool.and_self,if_true,PyData.eqv,h]
def h_go:shaped (.str "go")=true:=by decide +kernel
def h_by:shaped (.str "by")=true:=by decide +kernel
def JCF:shaped (.str "wait")=true:=by decide +kernel
def JCG:shaped (.str "then")=true:=by decide +kernel
def JBU:shaped (.str "again")=true:=by decide +kernel
def JNi:cmpD .Eq (.str "go") (.str "go")=.ok (.bool true):=JAg h_go h_go (by decide +kernel)
def JNY:cmpD .Eq (.str "go") (.str "by")=.ok (.bool false):=JAg h_go h_by (by decide +kernel)
def JF3:cmpD .Eq (.str "go") (.str "wait")=.ok (.bool false):=JAg h_go JCF (by decide +kernel)
def JFf:cmpD .Eq (.str "go") (.str "then")=.ok (.bool false):=JAg h_go JCG (by decide +kernel)
def JET:cmpD .Eq (.str "go") (.str "again")=.ok (.bool false):=JAg h_go JBU (by decide +kernel)
def JOi:cmpD .Eq (.str "by") (.str "go")=.ok (.bool false):=JAg h_by h_go (by decide +kernel)
def JPO:cmpD .Eq (.str "by") (.str "by")=.ok (.bool true):=JAg h_by h_by (by decide +kernel)
def JFZ:cmpD .Eq (.str "by") (.str "wait")=.ok (.bool false):=JAg h_by JCF (by decide +kernel)
def JFk:cmpD .Eq (.str "by") (.str "then")=.ok (.bool false):=JAg h_by JCG (by decide +kernel)
def JEY:cmpD .Eq (.str "by") (.str "again")=.ok (.bool false):=JAg h_by JBU (by decide +kernel)
def JJO:cmpD .Eq (.str "wait") (.str "go")=.ok (.bool false):=JAg JCF h_go (by decide +kernel)
def JII:cmpD .Eq (.str "wait") (.str "by")=.ok (.bool false):=JAg JCF h_by (by decide +kernel)
def JEA:cmpD .Eq (.str "wait") (.str "wait")=.ok (.bool true):=JAg JCF JCF (by decide +kernel)
def JEB:cmpD .Eq (.str "wait") (.str "then")=.ok (.bool false):=JAg JCF JCG (by decide +kernel)
def JDJ:cmpD .Eq (.str "wait") (.str "again")=.ok (.bool false):=JAg JCF JBU (by decide +kernel)
def JDx:cmpD .Eq (.str "then") (.str "go")=.ok (.bool false):=JAg JCG h_go (by decide +kernel)
def JDp:cmpD .Eq (.str "then") (.str "by")=.ok (.bool false):=JAg JCG h_by (by decide +kernel)
def JCM:cmpD .Eq (.str "then") (.str "wait")=.ok (.bool false):=JAg JCG JCF (by decide +kernel)
def JBg:cmpD .Eq (.str "then") (.str "then")=.ok (.bool true):=JAg JCG JCG (by decide +kernel)
def JBy:cmpD .Eq (.str "then") (.str "again")=.ok (.bool false):=JAg JCG JBU (by decide +kernel)
def JEW:cmpD .Eq (.str "again") (.str "go")=.ok (.bool false):=JAg JBU h_go (by decide +kernel)
def JEb:cmpD .Eq (.str "again") (.str "by")=.ok (.bool false):=JAg JBU h_by (by decide +kernel)
def JDL:cmpD .Eq (.str "again") (.str "wait")=.ok (.bool false):=JAg JBU JCF (by decide +kernel)
def JBu:cmpD .Eq (.str "again") (.str "then")=.ok (.bool false):=JAg JBU JCG (by decide +kernel)
def JBa:cmpD .Eq (.str "again") (.str "again")=.ok (.bool true):=JAg JBU JBU (by decide +kernel)
def G151:gloA 151=.ok (.int 5):=rfl
def G152:gloA 152=.ok (.int 4):=rfl
def t20{a b:D}:idxD (.tuple [a,b]) (.int 0)=.ok a:=rfl
def t21{a b:D}:idxD (.tuple [a,b]) (.int 1)=.ok b:=rfl
def t30{a b c:D}:idxD (.tuple [a,b,c]) (.int 0)=.ok a:=rfl
def t31{a b c:D}:idxD (.tuple [a,b,c]) (.int 1)=.ok b:=rfl
def t32{a b c:D}:idxD (.tuple [a,b,c]) (.int 2)=.ok c:=rfl
def t40{a b c e:D}:idxD (.tuple [a,b,c,e]) (.int 0)=.ok a:=rfl
def t41{a b c e:D}:idxD (.tuple [a,b,c,e]) (.int 1)=.ok b:=rfl
def t42{a b c e:D}:idxD (.tuple [a,b,c,e]) (.int 2)=.ok c:=rfl
def t43{a b c e:D}:idxD (.tuple [a,b,c,e]) (.int 3)=.ok e:=rfl
def len2'{a b:D}:(([a,b].length:Nat):Int)=2:=rfl
def JI4{a b c:D}:(([a,b,c].length:Nat):Int)=3:=rfl
def JQ3{a b c e:D}:(([a,b,c,e].length:Nat):Int)=4:=rfl
def n2{a b:D}:bltD .len [.tuple [a,b]]=.ok (.int 2):=rfl
def n3{a b c:D}:bltD .len [.tuple [a,b,c]]=.ok (.int 3):=rfl
def n4{a b c e:D}:bltD .len [.tuple [a,b,c,e]]=.ok (.int 4):=rfl
def JOM{sub:Nat->Nat->Bool}{i:Int}:isiD sub (.int i) .int=.ok (.bool true):=rfl
def JKZ{sub:Nat->Nat->Bool}{i:Int}:isiD sub (.int i) .bool=.ok (.bool false):=rfl
def Pl.dep_pos:∀p:Pl,1<=p.dep:=by
 intro p;cases p<;>simp![Pl.dep]<;>omega
section
variable{x:Bool}{sub:Nat->Nat->Bool}{m:Nat}
def JRL{i:Int}(hm:1<=m):run x tabA gloA sub m 23 [.int i]=.ok (.bool true):=by
 obtain⟨n,rfl⟩:=JAC hm;rw[JAK (n:=n) (show tabA 23=some d_23 from rfl),JAG rfl]
 dsimp?! [d_23,b_23,JOM,JKZ,Bool.not_false]
def JMM{i:Int}(hm:2<=m):run x tabA gloA sub m 142 [.int i]=.ok (.bool (decide (0<=i/\i<=4))):=by
 obtain⟨n,rfl⟩:=JAC hm;rw[JAK (n:=n+1) (show tabA 142=some JKl from rfl),JAG rfl]
 by_cases h:0<=i
 ·have e:decide (0<=i/\i<=4)=decide (i<=4):=by simp[h]
  rw[e]
  dsimp?! [JKl,JPF,JRL,G152,h,decide_true]
 ·have e:decide (0<=i/\i<=4)=false:=by simp[h]
  rw[e]
  dsimp?! [JKl,JPF,JRL,G152,h,decide_false]
def JNz:∀(p:Pl) {m:Nat}(deep:Int),p.Ok->0<=deep->p.dep+4<=m->run x tabA gloA sub m 141 [p.d,.int deep]=.ok (.bool (decide ((p.dep:Int)<=deep))):=by
 intro p
 induction p with
 |wait q =>
  intro m deep ok h0 hm;obtain⟨n,rfl⟩:=JAC (k:=5) hm;rw[JAK (n:=n+4) (show tabA 141=some JBk from rfl),JAG rfl];have oq:0<q:=ok
  by_cases hd:deep=0
  ·subst hd
   dsimp?! [JBk,JC6,Pl.d,Pl.dep,decide_true]
   rfl
  ·have r:decide (((Pl.wait q).dep:Int)<=deep)=true:=decide_eq_true (by simp![Pl.dep];omega)
   rw[r]
   dsimp?! [JBk,JC6,Pl.d,hd,decide_false,decide_true,JBq,Bool.not_true,n2,len2',Int.reduceEq,t20,t21,JJO,JII,JEA,JEB,JDJ,JLD,oq]
 |step o g q k =>
  intro m deep ok h0 hm;obtain⟨n,rfl⟩:=JAC (k:=5) hm;rw[JAK (n:=n+4) (show tabA 141=some JBk from rfl),JAG rfl];have oq:0<q:=ok
  by_cases hd:deep=0
  ·subst hd
   dsimp?! [JBk,JC6,Pl.d,Pl.dep,decide_true]
   rfl
  ·have r:decide (((Pl.step o g q k).dep:Int)<=deep)=true:=decide_eq_true (by simp![Pl.dep];omega)
   rw[r];cases o
   ·dsimp?! [JBk,JC6,Pl.d,gwF,gwT,hd,decide_false,decide_true,JBq,Bool.not_true,n4,JQ3,Int.reduceEq,t40,t41,t42,t43,JOi,JPO,JFZ,JFk,JEY,JNa,JLD,JQq,oq]
   ·dsimp?! [JBk,JC6,Pl.d,gwF,gwT,hd,decide_false,decide_true,JBq,Bool.not_true,n4,JQ3,Int.reduceEq,t40,t41,t42,t43,JNi,JNY,JF3,JFf,JET,JNa,JLD,JQq,oq]
 |thn a b iha ihb =>
  intro m deep ok h0 hm;obtain⟨n,rfl⟩:=JAC (k:=5) (m:=m) (by have:=(Pl.thn a b).dep_pos;omega)
  rw[JAK (n:=n+4) (show tabA 141=some JBk from rfl),JAG rfl];simp![Pl.dep]at hm
  by_cases hd:deep=0
  ·subst hd;have r:decide (((Pl.thn a b).dep:Int)<=0)=false:=q_o (by have:=(Pl.thn a b).dep_pos;omega)
   rw[r]
   dsimp?! [JBk,JC6,Pl.d,decide_true]
  ·have ha:=iha (m:=n+4) (deep - 1) ok.1 ∅ ∅
   have hb:=ihb (m:=n+4) (deep - 1) ok.2 ∅ ∅
   generalize hda:a.d=da at *;generalize hdb:b.d=db at *
   by_cases h1:(a.dep:Int)<=deep - 1
   ·by_cases h2:(b.dep:Int)<=deep - 1
    ·have r:decide (((Pl.thn a b).dep:Int)<=deep)=true:=decide_eq_true (by simp![Pl.dep];omega)
     rw[r]
     dsimp?! [JBk,JC6,Pl.d,hda,hdb,hd,decide_false,decide_true,JBq,Bool.not_true,n3,JI4,Int.reduceEq,t30,t31,t32,JDx,JDp,JCM,JBg,JBy,ha,hb,h1,h2]
    ·have r:decide (((Pl.thn a b).dep:Int)<=deep)=false:=q_o (by simp![Pl.dep];omega)
     rw[r]
     dsimp?! [JBk,JC6,Pl.d,hda,hdb,hd,decide_false,decide_true,JBq,Bool.not_true,n3,JI4,Int.reduceEq,t30,t31,t32,JDx,JDp,JCM,JBg,JBy,ha,hb,h1,h2]
   ·have r:decide (((Pl.thn a b).dep:Int)<=deep)=false:=q_o (by simp![Pl.dep];omega)
    rw[r]
    dsimp?! [JBk,JC6,Pl.d,hda,hdb,hd,decide_false,decide_true,JBq,Bool.not_true,n3,JI4,Int.reduceEq,t30,t31,t32,JDx,JDp,JCM,JBg,JBy,ha,h1]
 |agn c a iha =>
  intro m deep ok h0 hm;obtain⟨n,rfl⟩:=JAC (k:=5) (m:=m) (by have:=(Pl.agn c a).dep_pos;omega)
  rw[JAK (n:=n+4) (show tabA 141=some JBk from rfl),JAG rfl];simp![Pl.dep]at hm
  by_cases hd:deep=0
  ·subst hd;have r:decide (((Pl.agn c a).dep:Int)<=0)=false:=q_o (by have:=(Pl.agn c a).dep_pos;omega)
   rw[r]
   dsimp?! [JBk,JC6,Pl.d,decide_true]
  ·have ha:=iha (m:=n+4) (deep - 1) ok.2 ∅ ∅
   have hc:decide ((0:Int)<=c/\(c:Int)<=4)=true:=decide_eq_true (by have:=ok.1;omega)
   generalize hda:a.d=da at *;have r:decide (((Pl.agn c a).dep:Int)<=deep)=decide ((a.dep:Int)<=deep - 1):=by
    simp![Pl.dep];apply decide_eq_decide.mpr;omega
   rw[r]
   dsimp?! [JBk,JC6,Pl.d,hda,hd,decide_false,decide_true,JBq,Bool.not_true,n3,JI4,Int.reduceEq,t30,t31,t32,JEW,JEb,JDL,JBu,JBa,JMM,ha,hc]
def JMq(p:Pl)(ok:p.Ok)(hm:p.dep+5<=m):run x tabA gloA sub m 140 [p.d]=.ok (.bool (decide (p.dep<=5))):=by
 obtain⟨n,rfl⟩:=JAC (k:=1) (m:=m) ∅
 rw[JAK (n:=n) (show tabA 140=some JJn from rfl),JAG rfl];have h:=JNz (x:=x) (sub:=sub) p (m:=n) 5 ok ∅ ∅
 have r:decide ((p.dep:Int)<=5)=decide (p.dep<=5):=decide_eq_decide.mpr ∅
 rw[r]at h;generalize p.d=d at *
 dsimp?! [JJn,JPA,G151,h]
end
end VI.VP
end
section
namespace VI.VP
open PySem Fr
abbrev Pl.one:Pl->Bool
 |.wait _=>true
 |.step ..=>true
 |_=>false
abbrev Pl.q:Pl->Rat
 |.wait q=>q
 |.step _ _ q _=>q
 |_=>0
section
variable{x:Bool}{sub:Nat->Nat->Bool}{m:Nat}
end
end VI.VP
end
section
namespace VI.VP
open PySem Fr
theorem JEZ{α:Type}{f:D->R (Option D)}{c g:α->D}:∀ {xs:List α},(∀a∈xs,f (c a)=.ok (some (g a)))->JBO f (xs.map c)=.ok (xs.map g)
 | [],_=>rfl
 |a::xs,h=>by
  simp![List.map_cons];unfold JBO;rw[h a (by simp)]
  simp only;rw[JEZ λy hy=>h y (by simp[hy])]
def Pl.Sm:Pl->Prop
 |.wait q=>Small q
 |.step _ g q _=>Small g/\Small q
 |.thn a b=>a.Sm/\b.Sm
 |.agn _ a=>a.Sm
def JIn:∀p:Pl,∀s∈p.steps,s.one=true:=by
 intro p
 induction p with
 |wait q=>intro s h;simp![Pl.steps,List.mem_singleton]at h;subst h;rfl
 |step o g q k=>intro s h;simp![Pl.steps,List.mem_singleton]at h;subst h;rfl
 |thn a b ha hb =>
  intro s h;simp![Pl.steps,List.mem_append]at h;rcases h with h|h
  ·exact ha s h
  ·exact hb s h
 |agn c a ha =>
  intro s h;simp![Pl.steps,List.mem_flatten,List.mem_replicate]at h;obtain⟨l,⟨_,rfl⟩,h⟩:=h;exact ha s h
def JGA{P:Pl->Prop}(h:∀a b,P (.thn a b)->P a/\P b)(h2:∀c a,P (.agn c a)->P a):∀p:Pl,P p->∀s∈p.steps,P s:=by
 intro p
 induction p with
 |wait q=>intro hp s h;simp![Pl.steps,List.mem_singleton]at h;subst h;exact hp
 |step o g q k=>intro hp s h;simp![Pl.steps,List.mem_singleton]at h;subst h;exact hp
 |thn a b ha hb =>
  intro hp s hs;simp![Pl.steps,List.mem_append]at hs;rcases hs with hs|hs
  ·exact ha (h a b hp).1 s hs
  ·exact hb (h a b hp).2 s hs
 |agn c a ha =>
  intro hp s hs;simp![Pl.steps,List.mem_flatten,List.mem_replicate]at hs;obtain⟨l,⟨_,rfl⟩,hs⟩:=hs;exact ha (h2 c a hp) s hs
theorem Pl.Sm.q{s:Pl}(h:s.Sm)(o:s.one=true):Small s.q:=by
 cases s with
 |wait q=>exact h
 |step o g q k=>exact h.2
 |thn a b=>cases o
 |agn c a=>cases o
section
variable{x:Bool}{sub:Nat->Nat->Bool}{m:Nat}
end
end VI.VP
end
section
namespace VI.VP
open PySem Fr
abbrev pB:Nat->Int
 |0=>900000
 |1=>900000
 |2=>299000
 |3=>99000
 |_=>32000
def JPJ{d:Nat}{a:Int}(hd:d<=3)(h1:1<=d)(h:a<=pB (d+1)):3*a+37<=pB d:=by
 have:d=1\/d=2\/d=3:=by omega
 rcases this with rfl|rfl|rfl<;>simp![pB]at h ⊢<;>omega
def pB_le(d:Nat):pB d<=900000:=by
 unfold pB
 split<;>omega
section
variable{x:Bool}{sub:Nat->Nat->Bool}{m:Nat}
theorem JHF(ns:List Int):∀(d:Nat) {m:Nat}(at':Int),1<=d->d<=4->0<=at'->at'<=pB d->d+3<=m->∃p:Pl,p.Ok/\p.Sm/\p.dep<=d/\run x tabA gloA sub m 146 [sc ns,.int at',.int d]=.ok p.d
 |0,_,_,h,_,_,_,_=>absurd h ∅
 |d+1,m,at',_,hd,h0,h1,hm=>by
  obtain⟨n,rfl⟩:=JAC (k:=1) (m:=m) ∅
  rw[JAK (n:=n) (show tabA 146=some d_146 from rfl),JAG rfl];have hb:=pB_le (d+1);obtain⟨w,w0,w1,hw⟩:=JDE (x:=x) (sub:=sub) (m:=n) ns at' 8 ∅ ∅ ∅ ∅
  have e1:((d+1:Nat):Int) - 1=d:=by omega
  by_cases hs:d=0\/w<3
  ·obtain⟨s,s0,s1,hs1⟩:=JDE (x:=x) (sub:=sub) (m:=n) ns (at'+1) 5 ∅ ∅ ∅ ∅
   obtain⟨q2,sq2,q20,h2⟩:=JND (x:=x) (sub:=sub) (m:=n) ns (at'+2) ∅ ∅ ∅
   obtain⟨g,sg,hg⟩:=JQV (x:=x) (sub:=sub) (m:=n) ns (at'+4) ∅ ∅ ∅
   obtain⟨q,sq,q0,hq⟩:=JND (x:=x) (sub:=sub) (m:=n) ns (at'+6) ∅ ∅ ∅
   obtain⟨k,hk⟩:=JQ6 (x:=x) (sub:=sub) (m:=n) ns (at'+8) ∅ ∅ ∅
   have go:∀b:Bool,decide (((d+1:Nat):Int)=1)=b->(b=false->decide (w<3)=true)->∃p:Pl,p.Ok/\p.Sm/\p.dep<=d+1/\JDN x (exec #[run x tabA gloA sub n,gloA,sub] d_146.body ([sc ns,.int at',.int ((d+1:Nat):Int)].map Sl.val++List.replicate (d_146.slots - d_146.par) Sl.no))=.ok p.d:=by
    intro b hb1 hb2
    by_cases z:s=0
    ·refine#[.wait q2,q20,sq2,by simp![Pl.dep];omega,?_]
     cases b
     ·dsimp?! [d_146,JE2,hw,hb1,hb2 rfl,hs1,z,decide_true,h2,Pl.d]
     ·dsimp?! [d_146,JE2,hw,hb1,hs1,z,decide_true,h2,Pl.d]
    ·by_cases z3:s<3
     ·refine#[.step true g q k,q0,#[sg,sq],by simp![Pl.dep];omega,?_]
      cases b
      ·dsimp?! [d_146,JE2,hw,hb1,hb2 rfl,hs1,z,z3,decide_true,decide_false,hg,hq,hk,Pl.d,gwT]
      ·dsimp?! [d_146,JE2,hw,hb1,hs1,z,z3,decide_true,decide_false,hg,hq,hk,Pl.d,gwT]
     ·refine#[.step false g q k,q0,#[sg,sq],by simp![Pl.dep];omega,?_]
      cases b
      ·dsimp?! [d_146,JE2,hw,hb1,hb2 rfl,hs1,z,z3,decide_true,decide_false,hg,hq,hk,Pl.d,gwF]
      ·dsimp?! [d_146,JE2,hw,hb1,hs1,z,z3,decide_true,decide_false,hg,hq,hk,Pl.d,gwF]
   by_cases hd0:d=0
   ·exact go true (decide_eq_true ∅) (λh=>by cases h)
   ·exact go false (q_o ∅) (λ_=>decide_eq_true ∅)
  ·have hd1:decide (((d+1:Nat):Int)=1)=false:=q_o ∅
   have hw3:decide (w<3)=false:=q_o ∅
   have bm:binD .Mult (.int 3) (.int at')=.ok (.int (3*at')):=JDi (i:=3) (j:=at') (by decide)
   have hst:=JPJ (d:=d) (a:=at') ∅ ∅ h1
   by_cases h6:w<6
   ·obtain⟨a,oa,sa,da,ha⟩:=JHF ns d (m:=n) (3*at'+11) ∅ ∅ ∅ ∅ ∅
    obtain⟨b,ob,sb,db,hb⟩:=JHF ns d (m:=n) (3*at'+37) ∅ ∅ ∅ ∅ ∅
    refine#[.thn a b,#[oa,ob],#[sa,sb],by simp![Pl.dep];omega,?_]
    simp![Pl.d];generalize a.d=ad at *;generalize b.d=bd at *
    dsimp?! [d_146,JE2,hw,hd1,hw3,h6,decide_true,bm,e1,ha,hb]
   ·obtain⟨c,c0,c1,hc⟩:=JDE (x:=x) (sub:=sub) (m:=n) ns (at'+9) 4 ∅ ∅ ∅ ∅
    obtain⟨a,oa,sa,da,ha⟩:=JHF ns d (m:=n) (3*at'+23) ∅ ∅ ∅ ∅ ∅
    have ec:((c.toNat:Nat):Int)=c:=by omega
    refine#[.agn c.toNat a,#[by omega,oa],sa,by simp![Pl.dep];omega,?_]
    simp![Pl.d,ec];generalize a.d=ad at *
    dsimp?! [d_146,JE2,hw,hd1,hw3,h6,decide_false,bm,e1,ha,hc]
end
end VI.VP
end
section
namespace VI.VP
open PySem Fr
section
variable{x:Bool}{sub:Nat->Nat->Bool}{m n i3 i4 j:Nat}{w t:Rat}
end
end VI.VP
end
section
namespace VI.VP
open PySem Fr
section
variable{x:Bool}{sub:Nat->Nat->Bool}{m n i3 i4 j:Nat}{w t:Rat}
end
end VI.VP
end
section
namespace VI.VP
open PySem Fr
section
variable{x:Bool}{sub:Nat->Nat->Bool}{m:Nat}
end
end VI.VP
end
section
namespace VI.VP
open PySem Fr
def Sts(ss:List Pl):Prop:=∀a∈ss,a.one=true/\a.Sm/\a.Ok
def Sts.of{p:Pl}(ok:p.Ok)(sm:p.Sm):Sts p.steps:=λs hs=>#[JIn p s hs,JGA (P:=Pl.Sm) (λ_ _ h=>h) (λ_ _ h=>h) p sm s hs,JGA (P:=Pl.Ok) (λ_ _ h=>h) (λ_ _ h=>h.2) p ok s hs]
section
variable{x:Bool}{sub:Nat->Nat->Bool}{m:Nat}
def JHD{d:D}{n:Nat}(h:run x tabA gloA sub n 140 [d]=.ok (.bool true)):run x tabA gloA sub (n+1) 153 [d]=.ok .none:=by
 rw[JAK (n:=n) (show tabA 153=some JKJ from rfl),JAG rfl]
 dsimp?! [JKJ,JPH,h,Bool.not_true]
def JI9{d:D}{n:Nat}(h:run true tabA gloA sub n 140 [d]=.ok (.bool false)):run true tabA gloA sub (n+1) 153 [d]=.exc 3:=by
 rw[JAK (n:=n) (show tabA 153=some JKJ from rfl),JAG rfl]
 dsimp?! [JKJ,JPH,h,Bool.not_false,JHO]
end
end VI.VP
end
section
namespace VI.VP
open PySem Fr
abbrev Pl.slow(r:Rat):Pl->Pl
 |.wait q=>.wait (q*r)
 |.step o g q k=>.step o g (q*r) k
 |.thn a b=>.thn (a.slow r) (b.slow r)
 |.agn c a=>.agn c (a.slow r)
def Pl.Zq(i:Nat):Pl->Prop
 |.wait q=>Sz i q
 |.step _ _ q _=>Sz i q
 |.thn a b=>a.Zq i/\b.Zq i
 |.agn _ a=>a.Zq i
def Pl.Sm.zq:∀p:Pl,p.Sm->p.Zq 5:=by
 intro p
 induction p with
 |wait q=>exact λh=>Small.sz h
 |step o g q k=>exact λh=>Small.sz h.2
 |thn a b ha hb=>exact λh=>#[ha h.1,hb h.2]
 |agn c a ha=>exact λh=>ha h
def JNv{r:Rat}{i j:Nat}(hr:Sz j r):∀p:Pl,p.Zq i->(p.slow r).Zq (i+j):=by
 intro p
 induction p with
 |wait q=>exact λh=>Sz.mul h hr (q_t _)
 |step o g q k=>exact λh=>Sz.mul h hr (q_t _)
 |thn a b ha hb=>exact λh=>#[ha h.1,hb h.2]
 |agn c a ha=>exact λh=>ha h
def JLF{r:Rat}:∀p:Pl,(p.slow r).dep=p.dep:=by
 intro p
 induction p with
 |wait q=>rfl
 |step o g q k=>rfl
 |thn a b ha hb=>simp![Pl.slow,Pl.dep,ha,hb]
 |agn c a ha=>simp![Pl.slow,Pl.dep,ha]
def JOx{r:Rat}(h0:0<r):∀p:Pl,p.Ok->(p.slow r).Ok:=by
 intro p
 induction p with
 |wait q=>exact λh=>Rat.mul_pos h h0
 |step o g q k=>exact λh=>Rat.mul_pos h h0
 |thn a b ha hb=>exact λh=>#[ha h.1,hb h.2]
 |agn c a ha=>exact λh=>#[h.1,ha h.2]
section
variable{x:Bool}{sub:Nat->Nat->Bool}{m:Nat}
def JSX{r:Rat}{i j:Nat}[zr:Z j r](hi:i<=400)(hj:j<=400):∀(p:Pl) {m:Nat},p.Zq i->p.dep+3<=m->run x tabA gloA sub m 161 [p.d,F r]=.ok (p.slow r).d:=by
 intro p
 induction p with
 |wait q =>
  intro m hz hm;obtain⟨n,rfl⟩:=JAC (k:=4) hm;have zq:Z i q:=#[hz];rw[JAK (n:=n+3) (show tabA 161=some JE1 from rfl),JAG rfl]
  dsimp?! [JE1,JJ2,Pl.d,Pl.slow,t20,t21,JEB,JDJ,JEA]
 |step o g q k =>
  intro m hz hm;obtain⟨n,rfl⟩:=JAC (k:=4) hm;have zq:Z i q:=#[hz];rw[JAK (n:=n+3) (show tabA 161=some JE1 from rfl),JAG rfl];cases o<;>dsimp?! [JE1,JJ2,Pl.d,Pl.slow,gwF,gwT,t40,t41,t42,t43,JFf,JET,JF3,JFk,JEY,JFZ]
 |thn a b iha ihb =>
  intro m hz hm;simp![Pl.dep]at hm;obtain⟨n,rfl⟩:=JAC (k:=1) (m:=m) ∅
  rw[JAK (n:=n) (show tabA 161=some JE1 from rfl),JAG rfl];have ha:=iha (m:=n) hz.1 ∅
  have hb:=ihb (m:=n) hz.2 ∅
  simp![Pl.slow,Pl.d];generalize (a.slow r).d=sa at *;generalize (b.slow r).d=sb at *;generalize a.d=da at *;generalize b.d=db at *
  dsimp?! [JE1,JJ2,t30,t31,t32,JBg,ha,hb]
 |agn c a iha =>
  intro m hz hm;simp![Pl.dep]at hm;obtain⟨n,rfl⟩:=JAC (k:=1) (m:=m) ∅
  rw[JAK (n:=n) (show tabA 161=some JE1 from rfl),JAG rfl];have ha:=iha (m:=n) hz ∅
  simp![Pl.slow,Pl.d];generalize (a.slow r).d=sa at *;generalize a.d=da at *
  dsimp?! [JE1,JJ2,t30,t31,t32,JBu,JBa,ha]
def JKY{p:Pl}{r:Rat}{i j:Nat}[zr:Z j r](ok:p.Ok)(hz:p.Zq i)(hd:p.dep<=5)(hi:i<=400)(hj:j<=400)(hm:12<=m):run x tabA gloA sub m 160 [p.d,F r]=.ok (p.slow r).d:=by
 obtain⟨n,rfl⟩:=JAC hm;rw[JAK (n:=n+11) (show tabA 160=some JOa from rfl),JAG rfl];have h1:run x tabA gloA sub (n+11) 153 [p.d]=.ok .none:=JHD (n:=n+10) (by rw[JMq p ok ∅,decide_eq_true hd])
 have h2:=JSX (x:=x) (sub:=sub) (r:=r) hi hj p (m:=n+11) hz ∅
 generalize (p.slow r).d=sd at *;generalize p.d=pd at *
 dsimp?! [JOa,JS9,h1,h2]
end
end VI.VP
end
section
namespace VI.VP
open PySem Fr
section
variable{x:Bool}{sub:Nat->Nat->Bool}{m:Nat}
end
end VI.VP
end
section
namespace VI.VP
open PySem Fr
section
variable{C:Ta->Cn}{f3:F3}{U:VI.Env}{π:Ta}{i k:Nat}{f m:Str}{e x es:E}{v:V3}{a b:S3}{s:S}{d:D}{ds:List D}{c:Fs}
abbrev seq3(C:Ta->Cn)(f3:F3)(r:S3):Fl3->Fl3
 |.nx U π=>JAS C f3 r U π
 |.rt d π=>.rt d π
 |.bk U π=>.bk U π
 |.ct U π=>.ct U π
 |.ex c π=>.ex c π
 |.bad=>.bad
def JMX:JAS C f3 (.cons a b) U π=seq3 C f3 b (JAS C f3 a U π):=by simp![JAS];cases JAS C f3 a U π<;>rfl
def JPc:JAS C f3 .nil U π=.nx U π:=by simp![JAS]
def s3_nx:seq3 C f3 b (.nx U π)=JAS C f3 b U π:=rfl
def s3_rt:seq3 C f3 b (.rt d π)=.rt d π:=rfl
def s3_ex:seq3 C f3 b (.ex k π)=.ex k π:=rfl
def y_st:JAS C f3 (.st s) U π=Fl.at π (exec (C π) s U):=by simp![JAS]
def at_nx:Fl.at π (.nx U)=.nx U π:=rfl
def at_rt:Fl.at π (.rt d)=.rt d π:=rfl
def at_ex:Fl.at π (.ex k)=.ex k π:=rfl
abbrev JNq(U:VI.Env):R3 D->Fl3
 |.ok _ π=>.nx U π
 |.exc c π=>.ex c π
 |.bad=>.bad
def JM4:JAS C f3 (.drop v) U π=JNq (JAJ v.toE 0 U) (ev3 C f3 (JAJ v.toE 0 U) v π):=by simp![JAS];cases ev3 C f3 (JAJ v.toE 0 U) v π<;>rfl
def d3_ok:JNq U (.ok d π)=.nx U π:=rfl
abbrev ret3:R3 D->Fl3
 |.ok d π=>.rt d π
 |.exc c π=>.ex c π
 |.bad=>.bad
def y_ret:JAS C f3 (.ret v) U π=ret3 (ev3 C f3 (JAJ v.toE 0 U) v π):=by simp![JAS];cases ev3 C f3 (JAJ v.toE 0 U) v π<;>rfl
def t3_ok:ret3 (.ok d π)=.rt d π:=rfl
abbrev ifs3(C:Ta->Cn)(f3:F3)(a b:S3)(U:VI.Env):R3 Bool->Fl3
 |.ok true π=>JAS C f3 a U π
 |.ok false π=>JAS C f3 b U π
 |.exc c π=>.ex c π
 |.bad=>.bad
def JQl{t:T3}:JAS C f3 (.ife t a b) U π=ifs3 C f3 a b (JAJ t.toE 0 U) (evT3 C f3 (JAJ t.toE 0 U) t π):=by
 simp![JAS];cases evT3 C f3 (JAJ t.toE 0 U) t π with
 |ok b _=>cases b<;>rfl
 |exc c _=>rfl
 |bad=>rfl
def i3_t:ifs3 C f3 a b U (.ok true π)=JAS C f3 a U π:=rfl
def i3_f:ifs3 C f3 a b U (.ok false π)=JAS C f3 b U π:=rfl
abbrev at3{α:Type}(π:Ta):R α->R3 α
 |.ok a=>.ok a π
 |.exc c=>.exc c π
 |.bad=>.bad
def JQh{α:Type}{a:α}:at3 π (.ok a)=.ok a π:=rfl
def JR6{α:Type}:at3 π (.exc k:R α)=.exc k π:=rfl
def JSJ:ev3 C f3 U (.pur e) π=at3 π (ev (C π) e U):=by simp![ev3];cases ev (C π) e U<;>rfl
abbrev cal3(f3:F3)(i:Nat)(π:Ta):R (List D)->R3 D
 |.ok ds=>f3 i ds π
 |.exc c=>.exc c π
 |.bad=>.bad
def JQy:ev3 C f3 U (.cal i es) π=cal3 f3 i π (evA (C π) es U):=by simp![ev3];cases evA (C π) es U<;>rfl
abbrev JKX(d:D):R (List D)->R (List D)
 |.ok ds=>.ok (d::ds)
 |.exc c=>.exc c
 |.bad=>.bad
def c3_ok:cal3 f3 i π (.ok ds)=f3 i ds π:=rfl
abbrev met3(f3:F3)(i:Nat)(m:Str)(π:Ta):R D->R (List D)->R3 D
 |.ok d,r=>(match recF π d with
  |some q=>if (q.2.lookup m).isNone=true then cal3 f3 i π (JKX d r) else .bad
  |none=>.bad)
 |.exc c,_=>.exc c π
 |.bad,_=>.bad
def JQm:ev3 C f3 U (.met i m x es) π=met3 f3 i m π (ev (C π) x U) (evA (C π) es U):=by
 simp![ev3];cases ev (C π) x U with
 |ok d =>
  simp![R3.bind,chkD,met3];cases recF π d with
  |none=>rfl
  |some q =>
   by_cases z:(q.2.lookup m).isNone=true
   ·simp![if_pos z,R.at];cases evA (C π) es U<;>rfl
   ·simp![if_neg z,R.at]
 |exc c=>rfl
 |bad=>rfl
abbrev asg3(i:Nat)(U:VI.Env):R3 D->Fl3
 |.ok d π=>.nx (U.set i (.val d)) π
 |.exc c π=>.ex c π
 |.bad=>.bad
def JRJ:JAS C f3 (.asg i v) U π=asg3 i (JAJ v.toE 0 U) (ev3 C f3 (JAJ v.toE 0 U) v π):=by simp![JAS];cases ev3 C f3 (JAJ v.toE 0 U) v π<;>rfl
def a3_ok:asg3 i U (.ok d π)=.nx (U.set i (.val d)) π:=rfl
def a3_ex:asg3 i U (.exc k π)=.ex k π:=rfl
abbrev mak3(n:Nat):R3 D->R3 D
 |.ok d π=>if isNone d=true then .ok (recD n) π else .bad
 |.exc c π=>.exc c π
 |.bad=>.bad
def JSO:ev3 C f3 U (.mak i es) π=match evA (C π) es U with
  |.ok ds=>mak3 π.length (f3 i (recD π.length::ds) (π++[[]]))
  |.exc c=>.exc c π
  |.bad=>.bad:=by
 simp![ev3,mk3];cases evA (C π) es U with
 |ok ds=>simp![R3.bind];cases f3 i (recD π.length::ds) (π++[[]])<;>rfl
 |exc c=>rfl
 |bad=>rfl
def m3_ok{n:Nat}:mak3 n (.ok .none π)=.ok (recD n) π:=rfl
abbrev opp3(π:Ta)(f:Str):R D->R3 D
 |.ok d=>pop3 π f d
 |.exc c=>.exc c π
 |.bad=>.bad
def JSF:ev3 C f3 U (.opp x f) π=opp3 π f (ev (C π) x U):=by simp![ev3];cases ev (C π) x U<;>rfl
def JTB:opp3 π f (.ok d)=pop3 π f d:=rfl
def d3_ex:JNq U (.exc k π)=.ex k π:=rfl
def t3_ex:ret3 (.exc k π)=.ex k π:=rfl
def c3_ex:cal3 f3 i π (.exc k)=.exc k π:=rfl
def JKk:JKX d (.ok ds)=.ok (d::ds):=rfl
def JLP:JKX d (.exc k)=.exc k:=rfl
abbrev u1(U:VI.Env):R3 Unit->Fl3
 |.ok _ π=>.nx U π
 |.exc c π=>.ex c π
 |.bad=>.bad
def u1_ok:u1 U (.ok () π)=.nx U π:=rfl
def JSi:JAS C f3 (.app i f e) U π=u1 (JAJ (.cons (.var i) e) 0 U) (app3 C (JAJ (.cons (.var i) e) 0 U) i f e π):=by simp![JAS];cases app3 C (JAJ (.cons (.var i) e) 0 U) i f e π<;>rfl
def JQU:JAS C f3 (.clr i f) U π=u1 (JAJ (.var i) 0 U) (clr3 (JAJ (.var i) 0 U) i f π):=by simp![JAS];cases clr3 (JAJ (.var i) 0 U) i f π<;>rfl
def JQs:JAS C f3 (.dpo i f e) U π=u1 (JAJ (.cons (.var i) e) 0 U) (dpo3 C (JAJ (.cons (.var i) e) 0 U) i f e π):=by simp![JAS];cases dpo3 C (JAJ (.cons (.var i) e) 0 U) i f e π<;>rfl
def JQB:JAS C f3 (.dpu i f x e) U π=u1 (JAJ (.cons (.var i) (.cons x e)) 0 U) (dpu3 C (JAJ (.cons (.var i) (.cons x e)) 0 U) i f x e π):=by simp![JAS];cases dpu3 C (JAJ (.cons (.var i) (.cons x e)) 0 U) i f x e π<;>rfl
def JRo:evT3 C f3 U (.pur e) π=at3 π (evT (C π) e U):=by simp![evT3];cases evT (C π) e U<;>rfl
abbrev cmp3(C:Ta->Cn)(U:VI.Env)(op:CmpOp)(b:E):R3 D->R3 Bool
 |.ok x π=>at3 π (tr1 (cmp1 op (.ok x) (ev (C π) b U)))
 |.exc c π=>.exc c π
 |.bad=>.bad
def JSG{b:E}:evT3 C f3 U (.cmp op v b) π=cmp3 C U op b (ev3 C f3 U v π):=by
 simp![evT3];cases ev3 C f3 U v π with
 |ok d π=>simp![cmp3,R3.bind];cases ev (C π) b U with
  |ok y=>simp![R.bind,cmp1];cases h:cmpD op d y with
   |ok z=>simp![tr1];cases truth z<;>rfl
   |exc c=>rfl
   |bad=>rfl
  |exc c=>rfl
  |bad=>rfl
 |exc c π=>rfl
 |bad=>rfl
def p3_ok{b:E}:cmp3 C U op b (.ok d π)=at3 π (tr1 (cmp1 op (.ok d) (ev (C π) b U))):=rfl
abbrev or3(C:Ta->Cn)(f3:F3)(U:VI.Env)(b:T3):R3 Bool->R3 Bool
 |.ok true π=>.ok true π
 |.ok false π=>evT3 C f3 U b π
 |.exc c π=>.exc c π
 |.bad=>.bad
def b_or{a b:T3}:evT3 C f3 U (.or a b) π=or3 C f3 U b (evT3 C f3 U a π):=by
 simp![evT3];cases evT3 C f3 U a π with
 |ok k π=>cases k<;>rfl
 |exc c π=>rfl
 |bad=>rfl
def o3_f{b:T3}:or3 C f3 U b (.ok false π)=evT3 C f3 U b π:=rfl
abbrev un1(C:Ta->Cn)(is:List Nat)(U:VI.Env)(es:E):R3 D->Fl3
 |.ok d π=>un2 is U π d (evA (C π) es U)
 |.exc c π=>.ex c π
 |.bad=>.bad
where un2 (is:List Nat) (U:VI.Env) (π:Ta) (d:D):R (List D)->Fl3
 |.ok ds=>if ds.length+1=is.length then .nx (JBK is (d::ds) U) π else .bad
 |.exc c=>.ex c π
 |.bad=>.bad
def y_unp:JAS C f3 (.unp is v es) U π=un1 C is (JAJ (.cons v.toE es) 0 U) es (ev3 C f3 (JAJ (.cons v.toE es) 0 U) v π):=by
 simp![JAS];cases ev3 C f3 (JAJ (.cons v.toE es) 0 U) v π with
 |ok d π=>simp![step3,un1];cases evA (C π) es (JAJ (.cons v.toE es) 0 U)<;>rfl
 |exc c π=>rfl
 |bad=>rfl
abbrev ife3(C:Ta->Cn)(f3:F3)(U:VI.Env)(a b:V3)(π:Ta):R Bool->R3 D
 |.ok true=>ev3 C f3 U a π
 |.ok false=>ev3 C f3 U b π
 |.exc c=>.exc c π
 |.bad=>.bad
def JQZ{a b:V3}:ev3 C f3 U (.ife e a b) π=ife3 C f3 U a b π (evT (C π) e U):=by
 simp![ev3];cases evT (C π) e U with
 |ok k=>cases k<;>rfl
 |exc c=>rfl
 |bad=>rfl
def f3_t{a b:V3}:ife3 C f3 U a b π (.ok true)=ev3 C f3 U a π:=rfl
def f3_f{a b:V3}:ife3 C f3 U a b π (.ok false)=ev3 C f3 U b π:=rfl
def JPp{cg:Nat}:ev3 C f3 U (.tol cg fdc v) π=JCT C cg fdc (ev3 C f3 U v π):=by simp![ev3]
def JQH{cg:Nat}:JCT C cg fdc (.ok d π)=.ok d π:=rfl
abbrev sl1(π:Ta):R D->Option (Nat×Fs)
 |.ok d=>recF π d
 |_=>none
def JHg:JBj π U i=sl1 π (look U i):=by unfold JBj sl1;cases look U i<;>rfl
def JS0:sl1 π (.ok d)=recF π d:=rfl
def JFz(n:Nat):recN (recD n)=some n:=by
 simp![recD,recN,Int.natCast_nonneg,if_true,Int.toNat_natCast]
def JBC(h:π[k]? = some c):recF π (recD k)=some (k,c):=by
 simp![recF,JFz,Option.bind_some,h,Option.map_some]
abbrev fln1(f:Str)(t:D)(π:Ta)(U:VI.Env):Option (Nat×Fs)->Fl3
 |some (n,c)=>if (c.lookup f).isNone=true/\c.length<800 then .nx U (π.set n (JBL f t c)) else .bad
 |_=>.bad
def n1_ok{n:Nat}:fln1 f t π U (some (n,c))=if (c.lookup f).isNone=true/\c.length<800 then .nx U (π.set n (JBL f t c)) else .bad:=rfl
end
end VI.VP
end
section
namespace VI.VP
open PySem Fr
abbrev scr(P:List (D×D))(Dn Un:List D):Fs:=[("plans",.dict P),("done",.list Dn),("undone",.list Un)]
def JSf{a b:E}{j:Nat}:(E.or a b).uses j=(a.uses j || b.uses j):=rfl
def JEl{a b:E}{j:Nat}:(E.cmp o a b).uses j=(a.uses j || b.uses j):=rfl
def JOo{j:Nat}:E.cnon.uses j=false:=rfl
def JOu{b:Bool}{j:Nat}:(E.isN a b).uses j=a.uses j:=rfl
def JOs{i j:Nat}:(E.glo i).uses j=false:=rfl
section
variable{sub:Nat->Nat->Bool}{π:Ta}{k m n i j l:Nat}{P:List (D×D)}{Dn Un ds:List D}{nm:Str}{d p:D}{b:Bool}
def rn12:runR kR tabA tabR gloA sub π n 12 ds=run true tabA gloA sub n 12 ds:=by unfold runR;rfl
def rn68:runR kR tabA tabR gloA sub π n 68 ds=run true tabA gloA sub n 68 ds:=by unfold runR;rfl
def JR3:runR kR tabA tabR gloA sub π n 153 ds=run true tabA gloA sub n 153 ds:=by unfold runR;rfl
def JR1:runR kR tabA tabR gloA sub π n 160 ds=run true tabA gloA sub n 160 ds:=by unfold runR;rfl
def JQi:runR kR tabA tabR gloA sub π n 287 ds=run true tabA gloA sub n 287 ds:=by unfold runR;rfl
def fdP(h:π[k]? = some (scr P Dn Un)):fldD π "plans" [recD k]=.ok (.dict P):=by simp![fldD,JBC h,Option.bind_some];rfl
def fdD(h:π[k]? = some (scr P Dn Un)):fldD π "done" [recD k]=.ok (.list Dn):=by simp![fldD,JBC h,Option.bind_some];rfl
def fdU(h:π[k]? = some (scr P Dn Un)):fldD π "undone" [recD k]=.ok (.list Un):=by simp![fldD,JBC h,Option.bind_some];rfl
def JQ2(h:π[k]? = some (scr P Dn Un)):runR kR tabA tabR gloA sub π n 402 [.str nm,recD k]=.ok (.bool (hasK P nm)):=by
 unfold runR;simp![show kR 402=.own 1 "plans" from rfl,JBV,ow1,ow2,fdP h,R.bind,inO,Bool.bne_false]
def JPi(h:π[k]? = some (scr P Dn Un)):runR kR tabA tabR gloA sub π n 403 [.str nm,recD k]=.ok (.bool (!hasK P nm)):=by
 unfold runR;simp![show kR 403=.own 2 "plans" from rfl,JBV,ow1,ow2,fdP h,R.bind,inO,Bool.bne_true]
def JQc(h:π[k]? = some (scr P Dn Un)):runR kR tabA tabR gloA sub π n 404 [recD k,.str nm]=getK P nm:=by
 unfold runR;simp![show kR 404=.own 3 "plans" from rfl,JBV,ow1,ow2,fdP h,R.bind]
def JNU(h:π[k]? = some (scr P Dn Un)):runR kR tabA tabR gloA sub π n 405 [recD k,.str nm]=VI.getD P nm .none:=by
 unfold runR;simp![show kR 405=.own 4 "plans" from rfl,JBV,ow1,ow2,fdP h,R.bind]
def JNQ(h:π[k]? = some (scr P Dn Un)):runR kR tabA tabR gloA sub π n 406 [recD k]=srtS (P.map (·.1)):=by
 unfold runR;simp![show kR 406=.own 5 "plans" from rfl,JBV,ow1,ow2,fdP h,R.bind]
def JSZ(h:π[k]? = some (scr P Dn Un)):runR kR tabA tabR gloA sub π n 407 [recD k]=.ok (recD k):=by
 unfold runR;simp![show kR 407=.own 6 "plans" from rfl,JBV,ow1,ow2,fdP h,R.bind]
def JSz(h:π[k]? = some (scr P Dn Un)):runR kR tabA tabR gloA sub π n 411 [recD k]=.ok (.int Dn.length):=by
 unfold runR;simp![show kR 411=.own 0 "done" from rfl,JBV,ow1,ow2,fdD h,R.bind]
def JSH(h:π[k]? = some (scr P Dn Un)):runR kR tabA tabR gloA sub π n 421 [recD k]=.ok (.int Un.length):=by
 unfold runR;simp![show kR 421=.own 0 "undone" from rfl,JBV,ow1,ow2,fdU h,R.bind]
def JO1(h:π[k]? = some (scr P Dn Un)):runR kR tabA tabR gloA sub π n 431 [recD k]=.ok (recD k):=by
 unfold runR;simp![show kR 431=.chk "plan_of" from rfl,chkD,JBC h];rfl
def JLf(h:π[k]? = some (scr P Dn Un)):runR kR tabA tabR gloA sub π n 433 [recD k]=.ok (recD k):=by
 unfold runR;simp![show kR 433=.chk "names" from rfl,chkD,JBC h];rfl
def JNs(h:π[k]? = some (scr P Dn Un)):runR kR tabA tabR gloA sub π n 435 [recD k]=.ok (recD k):=by
 unfold runR;simp![show kR 435=.chk "counts" from rfl,chkD,JBC h];rfl
def rdS{g:Nat}(h1:kR g=.def_)(h2:tabR g=some fd):runR kR tabA tabR gloA sub π (n+1) g ds=JCe true #[runR kR tabA tabR gloA sub π n,gloA,sub] fd ds:=by
 conv=>lhs;unfold runR
 rw[h1];simp![h2]
def r3S{g:Nat}(h:tab3 g=some fd):run3 kR tabA tabR tab3 gloA sub (n+1) g ds π=JCW (λπ=>#[runR kR tabA tabR gloA sub π n,gloA,sub]) (run3 kR tabA tabR tab3 gloA sub n) fd ds π:=by
 simp![run3,h]
abbrev end3:Fl3->R3 D
 |.nx _ π=>.ok .none π
 |.rt d π=>.ok d π
 |.ex c π=>.exc c π
 |_=>.bad
def JAP(h:ds.length=fd.par):JCW C f3 fd ds π=end3 (JAS C f3 fd.body (ds.map Sl.val++List.replicate (fd.slots - fd.par) Sl.no) π):=by
 unfold JCW;rw[if_pos h];cases JAS C f3 fd.body (ds.map Sl.val++List.replicate (fd.slots - fd.par) Sl.no) π<;>rfl
def z3_nx:end3 (.nx U π)=.ok .none π:=rfl
def z3_rt{d:D}:end3 (.rt d π)=.ok d π:=rfl
def z3_ex:end3 (.ex k π)=.exc k π:=rfl
def JGr(h:π[k]? = some c):(π.set k c')[k]? = some c':=by
 have:k<π.length:=(q_p.mp h).1;simp[this]
def pu_P:JBL "plans" (.dict P') (scr P Dn Un)=scr P' Dn Un:=rfl
def pu_D{L:List D}:JBL "done" (.list L) (scr P Dn Un)=scr P L Un:=rfl
def pu_U{L:List D}:JBL "undone" (.list L) (scr P Dn Un)=scr P Dn L:=rfl
def lk_P:(scr P Dn Un).lookup ("plans":Str)=some (.dict P):=rfl
def lk_D:(scr P Dn Un).lookup ("done":Str)=some (.list Dn):=rfl
def lk_U:(scr P Dn Un).lookup ("undone":Str)=some (.list Un):=rfl
def JOA:((scr P Dn Un).lookup ("do":Str)).isNone=true:=rfl
def JSs:((scr P Dn Un).lookup ("set_plan":Str)).isNone=true:=rfl
def JFj:((scr P Dn Un).lookup ("change":Str)).isNone=true:=rfl
def JBA{f3:F3}{i:Nat}{mt:Str}{c:Fs}{r:R (List D)}(h:π[k]? = some c)(hm:(c.lookup mt).isNone=true):met3 f3 i mt π (.ok (recD k)) r=cal3 f3 i π (JKX (recD k) r):=by
 simp![met3,JBC h,hm,if_true]
def JMG:JAv (.str nm)=true:=rfl
def JSg:JAv .none=true:=rfl
def JSD{a b c e:D}:JAv (.tuple [a,b,c,e])=(JAv a&&(JAv b&&(JAv c&&(JAv e&&true)))):=rfl
end
def wR0:((((type_of% @JMX/\type_of% @JPc)/\(type_of% @y_st/\type_of% @JRJ))/\((type_of% @JM4/\type_of% @y_ret)/\(type_of% @JQl/\type_of% @JSi)))/\(((type_of% @JQU/\type_of% @JQs)/\(type_of% @JQB/\type_of% @JRo))/\((type_of% @JSG/\type_of% @b_or)/\(type_of% @JSJ/\type_of% @JQy)))):=#[#[#[#[@JMX,@JPc],#[@y_st,@JRJ]],#[#[@JM4,@y_ret],#[@JQl,@JSi]]],#[#[#[@JQU,@JQs],#[@JQB,@JRo]],#[#[@JSG,@b_or],#[@JSJ,@JQy]]]]
def wR1:((((type_of% @JQm/\type_of% @JSO)/\(type_of% @JQZ/\type_of% @JPp))/\((type_of% @JSF/\type_of% @JA4)/\(type_of% @JA8/\type_of% @JBb)))/\(((type_of% @JAa/\type_of% @JHg)/\(type_of% @rn12/\type_of% @rn68))/\((type_of% @JR3/\type_of% @JR1)/\(type_of% @JQi/\type_of% @JQ2)))):=#[#[#[#[@JQm,@JSO],#[@JQZ,@JPp]],#[#[@JSF,@JA4],#[@JA8,@JBb]]],#[#[#[@JAa,@JHg],#[@rn12,@rn68]],#[#[@JR3,@JR1],#[@JQi,@JQ2]]]]
def wR2:(((type_of% @JPi/\type_of% @JQc)/\(type_of% @JNU/\(type_of% @JNQ/\type_of% @JSZ)))/\((type_of% @JSz/\type_of% @JSH)/\(type_of% @JO1/\(type_of% @JLf/\type_of% @JNs)))):=#[#[#[@JPi,@JQc],#[@JNU,#[@JNQ,@JSZ]]],#[#[@JSz,@JSH],#[@JO1,#[@JLf,@JNs]]]]
end VI.VP
end
local macro_rules | `(tactic| dsimp? [$ts,*])=>`(tactic| dsimp?! [VI.VP.wR0,VI.VP.wR1,VI.VP.wR2,VI.VP.JSf,VI.VP.JEl,VI.VP.JOo,VI.VP.JOu,VI.VP.JOs,VI.VP.u1_ok,VI.VP.at_nx,VI.VP.at_rt,VI.VP.at_ex,VI.VP.s3_nx,VI.VP.s3_rt,VI.VP.s3_ex,VI.VP.a3_ok,VI.VP.a3_ex,VI.VP.d3_ok,VI.VP.d3_ex,VI.VP.t3_ok,VI.VP.t3_ex,VI.VP.i3_t,VI.VP.i3_f,VI.VP.o3_f,VI.VP.f3_t,VI.VP.f3_f,VI.VP.JQH,VI.VP.JTB,VI.VP.m3_ok,VI.VP.c3_ok,VI.VP.c3_ex,VI.VP.JKk,VI.VP.JLP,VI.VP.p3_ok,VI.VP.JQh,VI.VP.JR6,VI.T3.toE,VI.V3.toE,VI.VP.JBH,VI.VP.JBt,VI.VP.JBM,VI.VP.JB4,VI.VP.JBv,VI.VP.JBP,VI.VP.JBr,VI.VP.JDF,VI.VP.JBp,VI.VP.JDI,VI.VP.JBw,VI.VP.JQX,Nat.reduceBEq,Nat.reduceAdd,Bool.or_self,Bool.or_true,Bool.true_or,Bool.or_false,Bool.false_or,Bool.not_true,Bool.not_false,Bool.and_false,Bool.and_true,VI.VP.JS0,VI.VP.n1_ok,and_self,VI.VP.z3_nx,VI.VP.z3_rt,VI.VP.z3_ex,VI.VP.pu_P,VI.VP.pu_D,VI.VP.pu_U,VI.VP.lk_P,VI.VP.lk_D,VI.VP.lk_U,decide_true,decide_false,List.length_cons,List.length_nil,Int.reduceEq,Int.reduceLT,VI.JAe,$ts,*])
section
namespace VI.VP
open PySem Fr
section
variable{sub:Nat->Nat->Bool}{π:Ta}{k m n i j l:Nat}{P:List (D×D)}{Dn Un ds:List D}{nm:Str}{d p g w nd:D}{b:Bool}
def JGP:tup1 (.exc k)=.exc k:=rfl
@[reducible]def isNm(sub:Nat->Nat->Bool)(nd:D)(b:Bool):Prop:=∀m,1<=m->run true tabA gloA sub m 287 [nd]=.ok (.bool b)
def JGE(h:π[k]? = some (scr P Dn Un))(hN:isNm sub (.str nm) true)(hh:hasK P nm=true)(hg:getK P nm=.ok p)(hm:2<=m):runR kR tabA tabR gloA sub π m 430 [recD k,.str nm]=.ok p:=by
 obtain⟨n,rfl⟩:=JAC hm;rw[rdS (n:=n+1) rfl rfl,JAG rfl];have e:=hN (n+1) ∅
 dsimp? [JCv,JC0,e,hh,hg]
def JIt(h:π[k]? = some (scr P Dn Un))(hN:isNm sub (.str nm) true)(hh:hasK P nm=false)(hm:2<=m):runR kR tabA tabR gloA sub π m 430 [recD k,.str nm]=.exc 6:=by
 obtain⟨n,rfl⟩:=JAC hm;rw[rdS (n:=n+1) rfl rfl,JAG rfl];have e:=hN (n+1) ∅
 dsimp? [JCv,JC0,e,hh]
def sp_ok(h:π[k]? = some (scr P Dn Un))(hp:isNone p=false)(hr:JAv p=true)(hl:P.length<1000)(hm:1<=m):run3 kR tabA tabR tab3 gloA sub m 447 [recD k,.str nm,p] π=.ok .none (π.set k (scr (putD P nm p) Dn Un)):=by
 obtain⟨n,rfl⟩:=JAC hm;rw[r3S rfl,JAP rfl];have hc:(P.length<16777216)=True:=eq_true ∅
 dsimp? [JCP,JCO,hp,dpu3,JBC h,R.at,R3.bind,hr,hc]
def sp_no(h:π[k]? = some (scr P Dn Un))(hh:hasK P nm=true)(hm:1<=m):run3 kR tabA tabR tab3 gloA sub m 447 [recD k,.str nm,.none] π=.ok .none (π.set k (scr (delK P nm) Dn Un)):=by
 obtain⟨n,rfl⟩:=JAC hm;rw[r3S rfl,JAP rfl]
 dsimp? [JCP,JCO,isNone,dpo3,JBC h,R.at,R3.bind,hh]
def JPT(h:π[k]? = some (scr P Dn Un))(hp:isNone p=false)(hr:JAv p=true)(hl:P.length<1000)(hd:Dn.length<1000)(hg:VI.getD P nm .none=.ok g)(hgr:JAv g=true)(hm:2<=m):run3 kR tabA tabR tab3 gloA sub m 446 [recD k,.str wd,.str nm,p] π=.ok .none (π.set k (scr (putD P nm p) (Dn++[.tuple [.str wd,.str nm,g,p]]) [])):=by
 obtain⟨n,rfl⟩:=JAC hm;rw[r3S (n:=n+1) rfl,JAP rfl];have hc:(Dn.length<16777216)=True:=eq_true ∅
 have g1:(π.set k (scr P (Dn++[.tuple [.str wd,.str nm,g,p]]) Un))[k]? = some (scr P (Dn++[.tuple [.str wd,.str nm,g,p]]) Un):=JGr h;have g2:(π.set k (scr P (Dn++[.tuple [.str wd,.str nm,g,p]]) []))[k]? = some (scr P (Dn++[.tuple [.str wd,.str nm,g,p]]) []):=JGr h;have e:=sp_ok (sub:=sub) (nm:=nm) (m:=n+1) g2 hp hr hl ∅
 dsimp? [JOX,JOU,app3,clr3,JBC h,JBC g1,R.at,R3.bind,hr,hc,hg,hgr,JSD,JMG,List.set_set,JBA g2 JSs,e]
def do_no(h:π[k]? = some (scr P Dn Un))(hh:hasK P nm=true)(hd:Dn.length<1000)(hg:VI.getD P nm .none=.ok g)(hgr:JAv g=true)(hm:2<=m):run3 kR tabA tabR tab3 gloA sub m 446 [recD k,.str wd,.str nm,.none] π=.ok .none (π.set k (scr (delK P nm) (Dn++[.tuple [.str wd,.str nm,g,.none]]) [])):=by
 obtain⟨n,rfl⟩:=JAC hm;rw[r3S (n:=n+1) rfl,JAP rfl];have hc:(Dn.length<16777216)=True:=eq_true ∅
 have g1:(π.set k (scr P (Dn++[.tuple [.str wd,.str nm,g,.none]]) Un))[k]? = some (scr P (Dn++[.tuple [.str wd,.str nm,g,.none]]) Un):=JGr h;have g2:(π.set k (scr P (Dn++[.tuple [.str wd,.str nm,g,.none]]) []))[k]? = some (scr P (Dn++[.tuple [.str wd,.str nm,g,.none]]) []):=JGr h;have e:=sp_no (sub:=sub) (nm:=nm) (m:=n+1) g2 hh ∅
 dsimp? [JOX,JOU,app3,clr3,JBC h,JBC g1,R.at,R3.bind,hc,hg,hgr,JSD,JMG,JSg,List.set_set,JBA g2 JSs,e]
@[reducible]def isPl(sub:Nat->Nat->Bool)(p:D)(b:Bool):Prop:=∀m,11<=m->run true tabA gloA sub m 140 [p]=.ok (.bool b)
def JS2(h:isPl sub p true)(hm:12<=m):run true tabA gloA sub m 153 [p]=.ok .none:=by
 obtain⟨n,rfl⟩:=JAC hm;exact JHD (n:=n+11) (h _ ∅)
def np_ex(h:isPl sub p false)(hm:12<=m):run true tabA gloA sub m 153 [p]=.exc 3:=by
 obtain⟨n,rfl⟩:=JAC hm;exact JI9 (n:=n+11) (h _ ∅)
def JQN(h:π[k]? = some (scr P Dn Un))(hP:isPl sub p true)(hN:isNm sub (.str nm) true)(hp:isNone p=false)(hr:JAv p=true)(hl:P.length<1000)(hd:Dn.length<1000)(hg:VI.getD P nm .none=.ok g)(hgr:JAv g=true)(hm:13<=m):run3 kR tabA tabR tab3 gloA sub m 440 [recD k,.str nm,p] π=.ok (.bool (hasK P nm)) (π.set k (scr (putD P nm p) (Dn++[.tuple [.str "put",.str nm,g,p]]) [])):=by
 obtain⟨n,rfl⟩:=JAC hm;rw[r3S (n:=n+12) rfl,JAP rfl];have e1:=JS2 (m:=n+12) hP ∅
 have e2:=hN (n+12) ∅
 have e3:=JPT (sub:=sub) (wd:="put") (m:=n+12) h hp hr hl hd hg hgr ∅
 dsimp? [JNK,JNR,e1,e2,JBA h JOA,e3]
def ta_ok(h:π[k]? = some (scr P Dn Un))(hN:isNm sub (.str nm) true)(hh:hasK P nm=true)(hk:getK P nm=.ok p)(hd:Dn.length<1000)(hg:VI.getD P nm .none=.ok p)(hgr:JAv p=true)(hm:3<=m):run3 kR tabA tabR tab3 gloA sub m 441 [recD k,.str nm] π=.ok p (π.set k (scr (delK P nm) (Dn++[.tuple [.str "take",.str nm,p,.none]]) [])):=by
 obtain⟨n,rfl⟩:=JAC hm;rw[r3S (n:=n+2) rfl,JAP rfl];have e1:=JGE (m:=n+2) h hN hh hk ∅
 have e3:=do_no (sub:=sub) (wd:="take") (m:=n+2) h hh hd hg hgr ∅
 dsimp? [JGJ,JGU,e1,JBA h JOA,e3]
def ta_ex(h:π[k]? = some (scr P Dn Un))(e1:∀m,2<=m->runR kR tabA tabR gloA sub π m 430 [recD k,nd]=.exc 6)(hm:3<=m):run3 kR tabA tabR tab3 gloA sub m 441 [recD k,nd] π=.exc 6 π:=by
 obtain⟨n,rfl⟩:=JAC hm;rw[r3S (n:=n+2) rfl,JAP rfl];have e1:=e1 (n+2) ∅
 dsimp? [JGJ,JGU,e1]
def JNo(h:π[k]? = some (scr P Dn Un))(hP:isPl sub p true)(hp:isNone p=false)(hr:JAv p=true)(hl:P.length<1000)(hd:Dn.length<1000)(hg:VI.getD P nm .none=.ok g)(hgr:JAv g=true)(hm:13<=m):run3 kR tabA tabR tab3 gloA sub m 445 [recD k,.str wd,.str nm,p] π=.ok p (π.set k (scr (putD P nm p) (Dn++[.tuple [.str wd,.str nm,g,p]]) [])):=by
 obtain⟨n,rfl⟩:=JAC hm;rw[r3S (n:=n+12) rfl,JAP rfl];have e1:=JS2 (m:=n+12) hP ∅
 have e3:=JPT (sub:=sub) (wd:=wd) (m:=n+12) h hp hr hl hd hg hgr ∅
 dsimp? [JDh,JDk,e1,JBA h JOA,e3]
def JPe(h:π[k]? = some (scr P Dn Un))(hP:isPl sub p false)(hm:13<=m):run3 kR tabA tabR tab3 gloA sub m 445 [recD k,w,nd,p] π=.exc 3 π:=by
 obtain⟨n,rfl⟩:=JAC hm;rw[r3S (n:=n+12) rfl,JAP rfl];have e1:=np_ex (m:=n+12) hP ∅
 dsimp? [JDh,JDk,e1]
@[reducible]def poN(sub:Nat->Nat->Bool)(π:Ta)(k:Nat)(nd:D)(r:R D):Prop:=∀m,2<=m->runR kR tabA tabR gloA sub π m 430 [recD k,nd]=r
def ch_ok{q:D}(h:π[k]? = some (scr P Dn Un))(e1:poN sub π k (.str nm) (.ok g))(e2:poN sub π k nd (.ok q))(hP:isPl sub (.tuple [.str "then",g,q]) true)(hr:JAv (.tuple [.str "then",g,q])=true)(hl:P.length<1000)(hd:Dn.length<1000)(hg:VI.getD P nm .none=.ok g)(hgr:JAv g=true)(hm:14<=m):run3 kR tabA tabR tab3 gloA sub m 442 [recD k,.str nm,nd] π=.ok (.tuple [.str "then",g,q]) (π.set k (scr (putD P nm (.tuple [.str "then",g,q])) (Dn++[.tuple [.str "chain",.str nm,g,.tuple [.str "then",g,q]]]) [])):=by
 obtain⟨n,rfl⟩:=JAC hm;rw[r3S (n:=n+13) rfl,JAP rfl];have e1:=e1 (n+13) ∅
 have e2:=e2 (n+13) ∅
 have e3:=JNo (sub:=sub) (wd:="chain") (m:=n+13) h hP rfl hr hl hd hg hgr ∅
 dsimp? [JCt,JCU,e1,e2,JBA h JFj,e3]
def ch_np{q:D}(h:π[k]? = some (scr P Dn Un))(e1:poN sub π k w (.ok g))(e2:poN sub π k nd (.ok q))(hP:isPl sub (.tuple [.str "then",g,q]) false)(hm:14<=m):run3 kR tabA tabR tab3 gloA sub m 442 [recD k,w,nd] π=.exc 3 π:=by
 obtain⟨n,rfl⟩:=JAC hm;rw[r3S (n:=n+13) rfl,JAP rfl];have e1:=e1 (n+13) ∅
 have e2:=e2 (n+13) ∅
 have e3:=JPe (sub:=sub) (w:=.str "chain") (nd:=w) (m:=n+13) h hP ∅
 dsimp? [JCt,JCU,e1,e2,JBA h JFj,e3]
def ch_n1(h:π[k]? = some (scr P Dn Un))(e1:poN sub π k w (.exc 6))(hm:14<=m):run3 kR tabA tabR tab3 gloA sub m 442 [recD k,w,nd] π=.exc 6 π:=by
 obtain⟨n,rfl⟩:=JAC hm;rw[r3S (n:=n+13) rfl,JAP rfl];have e1:=e1 (n+13) ∅
 dsimp? [JCt,JCU,e1,JBA h JFj,JGP]
def ch_n2(h:π[k]? = some (scr P Dn Un))(e1:poN sub π k w (.ok g))(e2:poN sub π k nd (.exc 6))(hm:14<=m):run3 kR tabA tabR tab3 gloA sub m 442 [recD k,w,nd] π=.exc 6 π:=by
 obtain⟨n,rfl⟩:=JAC hm;rw[r3S (n:=n+13) rfl,JAP rfl];have e1:=e1 (n+13) ∅
 have e2:=e2 (n+13) ∅
 dsimp? [JCt,JCU,e1,e2,JBA h JFj,JGP]
def re_ok{q:D}(h:π[k]? = some (scr P Dn Un))(e1:poN sub π k (.str nm) (.ok g))(hP:isPl sub (.tuple [.str "again",q,g]) true)(hr:JAv (.tuple [.str "again",q,g])=true)(hl:P.length<1000)(hd:Dn.length<1000)(hg:VI.getD P nm .none=.ok g)(hgr:JAv g=true)(hm:14<=m):run3 kR tabA tabR tab3 gloA sub m 443 [recD k,.str nm,q] π=.ok (.tuple [.str "again",q,g]) (π.set k (scr (putD P nm (.tuple [.str "again",q,g])) (Dn++[.tuple [.str "repeat",.str nm,g,.tuple [.str "again",q,g]]]) [])):=by
 obtain⟨n,rfl⟩:=JAC hm;rw[r3S (n:=n+13) rfl,JAP rfl];have e1:=e1 (n+13) ∅
 have e3:=JNo (sub:=sub) (wd:="repeat") (m:=n+13) h hP rfl hr hl hd hg hgr ∅
 dsimp? [JCa,JCd,e1,JBA h JFj,e3]
def re_np{q:D}(h:π[k]? = some (scr P Dn Un))(e1:poN sub π k w (.ok g))(hP:isPl sub (.tuple [.str "again",q,g]) false)(hm:14<=m):run3 kR tabA tabR tab3 gloA sub m 443 [recD k,w,q] π=.exc 3 π:=by
 obtain⟨n,rfl⟩:=JAC hm;rw[r3S (n:=n+13) rfl,JAP rfl];have e1:=e1 (n+13) ∅
 have e3:=JPe (sub:=sub) (w:=.str "repeat") (nd:=w) (m:=n+13) h hP ∅
 dsimp? [JCa,JCd,e1,JBA h JFj,e3]
def re_nn{q:D}(h:π[k]? = some (scr P Dn Un))(e1:poN sub π k w (.exc 6))(hm:14<=m):run3 kR tabA tabR tab3 gloA sub m 443 [recD k,w,q] π=.exc 6 π:=by
 obtain⟨n,rfl⟩:=JAC hm;rw[r3S (n:=n+13) rfl,JAP rfl];have e1:=e1 (n+13) ∅
 dsimp? [JCa,JCd,e1,JBA h JFj,JGP]
@[reducible]def isSz(sub:Nat->Nat->Bool)(p:D)(b:Bool):Prop:=∀m,5<=m->run true tabA gloA sub m 68 [p]=.ok (.bool b)
def sl_ok{q:D}(h:π[k]? = some (scr P Dn Un))(e1:poN sub π k (.str nm) (.ok g))(hz:isSz sub q true)(e2:∀m,13<=m->run true tabA gloA sub m 160 [g,q]=.ok p)(hP:isPl sub p true)(hp:isNone p=false)(hr:JAv p=true)(hl:P.length<1000)(hd:Dn.length<1000)(hg:VI.getD P nm .none=.ok g)(hgr:JAv g=true)(hm:14<=m):run3 kR tabA tabR tab3 gloA sub m 444 [recD k,.str nm,q] π=.ok p (π.set k (scr (putD P nm p) (Dn++[.tuple [.str "slow",.str nm,g,p]]) [])):=by
 obtain⟨n,rfl⟩:=JAC hm;rw[r3S (n:=n+13) rfl,JAP rfl];have e1:=e1 (n+13) ∅
 have hz:=hz (n+13) ∅
 have e2:=e2 (n+13) ∅
 have e3:=JNo (sub:=sub) (wd:="slow") (m:=n+13) h hP hp hr hl hd hg hgr ∅
 dsimp? [JGG,JGH,e1,hz,e2,JBA h JFj,e3]
def sl_nn{q:D}(h:π[k]? = some (scr P Dn Un))(e1:poN sub π k w (.exc 6))(hm:14<=m):run3 kR tabA tabR tab3 gloA sub m 444 [recD k,w,q] π=.exc 6 π:=by
 obtain⟨n,rfl⟩:=JAC hm;rw[r3S (n:=n+13) rfl,JAP rfl];have e1:=e1 (n+13) ∅
 dsimp? [JGG,JGH,e1]
def JQR(h:π[k]? = some (scr P Dn Un))(e:srtS (P.map (·.1))=.ok d)(hm:1<=m):runR kR tabA tabR gloA sub π m 432 [recD k]=.ok d:=by
 obtain⟨n,rfl⟩:=JAC hm;rw[rdS rfl rfl,JAG rfl]
 dsimp? [JG4,JG9,e]
def co_ok(h:π[k]? = some (scr P Dn Un))(hm:1<=m):runR kR tabA tabR gloA sub π m 434 [recD k]=.ok (.tuple [.int Dn.length,.int Un.length]):=by
 obtain⟨n,rfl⟩:=JAC hm;rw[rdS rfl rfl,JAG rfl]
 dsimp? [JF0,JFo]
def in_ok(hm:1<=m):run3 kR tabA tabR tab3 gloA sub m 460 [recD 0] [[]]=.ok .none [scr [] [] []]:=by
 obtain⟨n,rfl⟩:=JAC hm;rw[r3S rfl,JAP rfl];rfl
end
end VI.VP
end
section
namespace VI.VP
open PySem Fr
section
variable{sub:Nat->Nat->Bool}{C:Cn}
def cls3(hC:C.sub=sub)(s:SubOk sub 3)(s8:sub 3 8=false):exec C d_254.body ([Sl.val (excD 3)]++List.replicate (d_254.slots - 1) Sl.no)=.rt (.str "no plan"):=by
 have w:idxD (.list [.str "no back",.str "no frac",.str "no kind",.str "no name",.str "no plan",.str "no text",.str "no time",.str "no track"]) (.int 4)=.ok (.str "no plan"):=rfl;have a1:binD .Add (.list [.bool false,.bool false,.bool false,.bool false]) (.list [.bool true,.bool false,.bool false])=.ok (.list [.bool false,.bool false,.bool false,.bool false,.bool true,.bool false,.bool false]):=by simp![binD];rfl
 have a2:binD .Add (.list [.bool false,.bool false,.bool false,.bool false,.bool true,.bool false,.bool false]) (.list [.bool false])=.ok (.list [.bool false,.bool false,.bool false,.bool false,.bool true,.bool false,.bool false,.bool false]):=by simp![binD];rfl
 have c1:JDv (.list [.bool false,.bool false,.bool false,.bool false,.bool true,.bool false,.bool false,.bool false]) (.bool true)=.ok (.int 1):=rfl;have x1:JDj (.list [.bool false,.bool false,.bool false,.bool false,.bool true,.bool false,.bool false,.bool false]) (.bool true)=.ok (.int 4):=rfl;subst hC;show exec C JIK [.val (excD 3),.no]=_
 dsimp![JIK,a1,a2,JA4,JA8,JBH,Bool.or_true,Bool.true_or,Bool.not_false,Bool.and_self,Bool.true_and,JJM s.me,JKB s.me,s8,s.h1,s.h2,s.h3,s.h4,s.h5,s.h6,s.h7,Nat.reduceEqDiff,decide_true,decide_false,JAa,JBv,JB4,JBM,JDI,JBt,JMW,JBP,JL8,JBp,JDF,JKT,JBr,JS1,JBw,List.length_cons,List.length_nil,Nat.reduceAdd,Nat.reduceLeDiff,Nat.reduceBEq,Bool.or_false,Bool.not_true,c1,x1,JAe,JA2,w]
def cls6(hC:C.sub=sub)(s:SubOk sub 6)(s8:sub 6 8=false):exec C d_254.body ([Sl.val (excD 6)]++List.replicate (d_254.slots - 1) Sl.no)=.rt (.str "no name"):=by
 have w:idxD (.list [.str "no back",.str "no frac",.str "no kind",.str "no name",.str "no plan",.str "no text",.str "no time",.str "no track"]) (.int 3)=.ok (.str "no name"):=rfl;have a1:binD .Add (.list [.bool false,.bool false,.bool false,.bool true]) (.list [.bool false,.bool false,.bool false])=.ok (.list [.bool false,.bool false,.bool false,.bool true,.bool false,.bool false,.bool false]):=by simp![binD];rfl
 have a2:binD .Add (.list [.bool false,.bool false,.bool false,.bool true,.bool false,.bool false,.bool false]) (.list [.bool false])=.ok (.list [.bool false,.bool false,.bool false,.bool true,.bool false,.bool false,.bool false,.bool false]):=by simp![binD];rfl
 have c1:JDv (.list [.bool false,.bool false,.bool false,.bool true,.bool false,.bool false,.bool false,.bool false]) (.bool true)=.ok (.int 1):=rfl;have x1:JDj (.list [.bool false,.bool false,.bool false,.bool true,.bool false,.bool false,.bool false,.bool false]) (.bool true)=.ok (.int 3):=rfl;subst hC;show exec C JIK [.val (excD 6),.no]=_
 dsimp![JIK,a1,a2,JA4,JA8,JBH,Bool.or_true,Bool.true_or,Bool.not_false,Bool.and_self,Bool.true_and,JJM s.me,JKB s.me,s8,s.h1,s.h2,s.h3,s.h4,s.h5,s.h6,s.h7,Nat.reduceEqDiff,decide_true,decide_false,JAa,JBv,JB4,JBM,JDI,JBt,JMW,JBP,JL8,JBp,JDF,JKT,JBr,JS1,JBw,List.length_cons,List.length_nil,Nat.reduceAdd,Nat.reduceLeDiff,Nat.reduceBEq,Bool.or_false,Bool.not_true,c1,x1,JAe,JA2,w]
end
section
variable{sub:Nat->Nat->Bool}{C:Ta->Cn}{π:Ta}
def told3(hC:∀π,(C π).sub=sub)(s:SubOk sub 3)(s8:sub 3 8=false):JCT C 0 d_254 (.exc 3 π)=.ok (.str "no plan") π:=by
 unfold JCT;simp![hC,s.h0,if_true,cls3 (hC π) s s8]
def told6(hC:∀π,(C π).sub=sub)(s:SubOk sub 6)(s8:sub 6 8=false):JCT C 0 d_254 (.exc 6 π)=.ok (.str "no name") π:=by
 unfold JCT;simp![hC,s.h0,if_true,cls6 (hC π) s s8]
end
def at9(j:Int)(h0:0<=j)(h1:j<xs.length):∃d∈xs,idxD (.list xs) (.int j)=.ok d:=by
 obtain⟨n,rfl⟩:∃n:Nat,j=n:=#[j.toNat,by omega]
 have hn:n<xs.length:=by omega
 refine#[xs[n],List.getElem_mem hn,?_];have e1:(0:Int)<=n:=by omega
 simp![idxD,atI,ixN,if_pos e1,if_pos (show(n:Int)<xs.length by omega),Int.toNat_natCast,Option.bind_some,q_q hn,optR]
def JHI{s:Pl}(h:s.one=true):PyData.eqv s.d s.d=true:=by
 cases s with
 |wait q=>simp![Pl.d,PyData.eqv,PyData.eqvAll,JTA,decide_true,Bool.and_true,beq_self_eq_true]
 |step o g q k=>simp![Pl.d,PyData.eqv,PyData.eqvAll,JTA,decide_true,Bool.and_true,beq_self_eq_true]
 |thn a b=>cases h
 |agn c a=>cases h
def JIm{s:Pl}(h:s.one=true):s.d.canLay0=true:=by
 cases s with
 |wait q =>
  have:(PyData.str "wait").canLay0=true:=by decide +kernel
  simp![Pl.d,PyData.canLay0,PyData.canLayAll0,JRf,Bool.and_self,Bool.and_true]at this ⊢;exact this
 |step o g q k =>
  have h1:(PyData.str (gw o)).canLay0=true:=by cases o<;>decide +kernel
  have h2:(PyData.str k.str).canLay0=true:=by cases k<;>decide +kernel
  simp![Pl.d,PyData.canLay0,PyData.canLayAll0,JRf,Bool.and_self,Bool.and_true,Bool.true_and]at h1 h2 ⊢;rw[h1,h2];rfl
 |thn a b=>cases h
 |agn c a=>cases h
def JFr{s:Pl}(h:s.one=true):s.d.depth<=4:=by
 cases s with
 |wait q=>simp![Pl.d,PyData.depth,PyData.depthAll,JJS];decide
 |step o g q k=>simp![Pl.d,PyData.depth,PyData.depthAll,JJS];decide
 |thn a b=>cases h
 |agn c a=>cases h
def Pl.refl:∀p:Pl,PyData.eqv p.d p.d=true:=by
 intro p
 induction p with
 |wait q=>exact JHI rfl
 |step o g q k=>exact JHI rfl
 |thn a b ha hb=>simp![Pl.d,PyData.eqv,PyData.eqvAll,ha,hb,Bool.and_true,beq_self_eq_true]
 |agn c a ha=>simp![Pl.d,PyData.eqv,PyData.eqvAll,ha,Bool.and_true,beq_self_eq_true,decide_true]
def Pl.can:∀p:Pl,p.d.canLay0=true:=by
 intro p
 induction p with
 |wait q=>exact JIm rfl
 |step o g q k=>exact JIm rfl
 |thn a b ha hb =>
  have h:(PyData.str "then").canLay0=true:=by decide +kernel
  simp![Pl.d,PyData.canLay0,PyData.canLayAll0,ha,hb,Bool.and_true,Bool.and_self]at h ⊢;exact h
 |agn c a ha =>
  have h:(PyData.str "again").canLay0=true:=by decide +kernel
  simp![Pl.d,PyData.canLay0,PyData.canLayAll0,ha,Bool.and_true,Bool.and_self]at h ⊢;exact h
theorem Pl.depth:∀p:Pl,p.d.depth<=p.dep+4:=by
 intro p
 induction p with
 |wait q=>exact Nat.le_trans (JFr rfl) ∅
 |step o g q k=>exact Nat.le_trans (JFr rfl) ∅
 |thn a b ha hb=>simp![Pl.d,PyData.depth,PyData.depthAll,Pl.dep];omega
 |agn c a ha=>simp![Pl.d,PyData.depth,PyData.depthAll,Pl.dep];omega
def Pl.sh{p:Pl}(hd:p.dep<=50):shaped p.d=true:=by
 have:=p.depth;unfold shaped;rw[q_i];exact#[p.can,decide_eq_true ∅]
def Pl.nr:∀p:Pl,JAv p.d=true:=by
 intro p
 induction p with
 |wait q=>rfl
 |step o g q k=>rfl
 |thn a b ha hb=>simp![Pl.d,JAv,JD7,ha,hb,Bool.and_self]
 |agn c a ha=>simp![Pl.d,JAv,JD7,ha,Bool.and_self]
def Pl.nn(p:Pl):isNone p.d=false:=by cases p<;>rfl
def Pl.nl:∀p:Pl,JAe p.d=true:=by
 intro p
 induction p with
 |wait q=>rfl
 |step o g q k=>rfl
 |thn a b ha hb=>simp![Pl.d,JAe,JA2,ha,hb,Bool.and_self]
 |agn c a ha=>simp![Pl.d,JAe,JA2,ha,Bool.and_self]
section
variable{sub:Nat->Nat->Bool}{m n:Nat}
def nmI{d:D}{b:Bool}(h:∀C:Cn,C.glo=gloA->JDN true (exec C d_287.body [.val d])=.ok (.bool b)):isNm sub d b:=λm hm=>by
 obtain⟨n,rfl⟩:=JAC hm;rw[JAK (n:=n) (show tabA 287=some d_287 from rfl),JAG rfl];exact h _ rfl
abbrev nms:List Str:=["a","b","song","x"]
def JDA:∀z∈nms,isNm sub (.str z) true:=by
 intro z hz;simp![nms,q_n,List.not_mem_nil,or_false]at hz;rcases hz with rfl|rfl|rfl|rfl<;>exact nmI λ⟨f,g,s⟩ e=>by subst e;with_unfolding_all rfl
def nm_ne:∀a∈nms,∀b∈nms,cmpD .NotEq (.str a) (.str b)=.ok (.bool (!decide (a=b))):=by
 intro a ha b hb;have sh:∀z∈nms,shaped (.str z)=true:=by
  intro z hz;simp![nms,q_n,List.not_mem_nil,or_false]at hz;rcases hz with rfl|rfl|rfl|rfl<;>decide +kernel
 have e:(a==b)=decide (a=b):=by
  by_cases h:a=b
  ·subst h;simp
  ·rw[q_o h];exact beq_eq_false_iff_ne.mpr h
 simp![cmpD,sh a ha,sh b hb,Bool.and_self,if_true,PyData.eqv,e]
end
end VI.VP
end
section
namespace VI.VP
open PySem Fr
structure Gp(i:Nat)(p:Pl):Prop where
 ok:p.Ok
 dep:p.dep<=5
 zq:p.Zq i
def JFA{i j:Nat}(h:i<=j):∀p:Pl,p.Zq i->p.Zq j:=by
 intro p
 induction p with
 |wait q=>exact λz=>Sz.mono z h
 |step o g q k=>exact λz=>Sz.mono z h
 |thn a b ha hb=>exact λz=>#[ha z.1,hb z.2]
 |agn c a ha=>exact λz=>ha z
def Gp.mono{i j:Nat}(g:Gp i p)(h:i<=j):Gp j p:=#[g.ok,g.dep,JFA h p g.zq]
structure Bk(i t:Nat)(P:List (D×D)):Prop where
 ent:∀e∈P,∃z p,e=((.str z:D),Pl.d p)/\z∈nms/\Gp i p
 len:P.length<=t
 nd:(P.map (·.1)).Nodup
section
variable{i j t s:Nat}{P:List (D×D)}{z:Str}{v:D}{p:Pl}
def Bk.nil:Bk i t []:=#[λe h=>by simp at h,Nat.zero_le _,List.nodup_nil]
theorem Bk.mono(h:Bk i t P)(h1:i<=j)(h2:t<=s):Bk j s P:=#[λe he=>let ⟨z,p,a,b,c⟩:=h.ent e he;#[z,p,a,b,c.mono h1],Nat.le_trans h.len h2,h.nd]
def Bk.tail{e:D×D}(h:Bk i t (e::r)):Bk i t r:=#[λa ha=>h.ent a (q_s _ ha),Nat.le_trans (Nat.le_succ _) h.len,(List.nodup_cons.mp h.nd).2]
theorem Bk.keys:∀ {P:List (D×D)},Bk i t P->∃zs:List Str,P.map (·.1)=zs.map PyData.str/\(∀z∈zs,z∈nms)/\zs.Nodup/\JCX P=some (zs.map .str)/\strsOf (P.map (·.1))=some zs
 | [],_=>#[[],rfl,λz h=>by simp at h,List.nodup_nil,rfl,rfl]
 |e::r,h=>by
  obtain⟨z,p,rfl,hz,g⟩:=h.ent e (List.mem_cons_self ..);obtain⟨zs,h1,h2,h3,h4,h5⟩:=Bk.keys h.tail;refine#[z::zs,by simp![List.map_cons,h1],λy hy=>?_,?_,by simp![JCX,h4,Option.map_some,List.map_cons],by simp![List.map_cons,strsOf,h5,Option.map_some]]
  ·rcases q_n.mp hy with rfl|hy
   ·exact hz
   ·exact h2 y hy
  ·refine List.nodup_cons.mpr #[λhy=>(List.nodup_cons.mp h.nd).1 ?_,h3];show PyData.str z∈r.map (·.1);rw[h1];exact List.mem_map.mpr #[z,hy,rfl]
theorem JE3:∀ {P:List (D×D)},hasK P z=true->PyData.str z∈P.map (·.1)
 | [],h=>by cases h
 |(k,v)::r,h=>by
  rw[List.map_cons];cases k<;>first
    |exact q_s _ (JE3 (P:=r) h)
    |skip
  rename_i y;simp![hasK,Bool.or_eq_true,q_C]at h;rcases h with rfl|h
  · exact List.mem_cons_self ..
  · exact q_s _ (JE3 h)
theorem JGd:∀ {P:List (D×D)},PyData.str z∈P.map (·.1)->hasK P z=true
 | [],h=>by simp at h
 |(k,v)::r,h=>by
  rw[List.map_cons]at h;rcases q_n.mp h with e|h
  · have e:PyData.str z=k:=e
    subst e;simp[hasK]
  · have:=JGd h
    cases k<;>simp![hasK,this,Bool.or_true]
theorem JES:∀ {P:List (D×D)},Bk i t P->((.str z:D),v)∈P->getK P z=.ok v/\VI.getD P z .none=.ok v
 | [],_,h=>by simp at h
 |e::r,b,h=>by
  obtain⟨y,p,rfl,hz,g⟩:=b.ent e (List.mem_cons_self ..)
  by_cases hy:y=z
  ·subst hy;have:((.str y:D),v)=(.str y,p.d):=by
    rcases q_n.mp h with e|h
    ·exact e
    ·exact absurd (List.mem_map.mpr #[_,h,rfl]) (List.nodup_cons.mp b.nd).1
   cases this;simp![getK,VI.getD,if_true,and_self]
  ·rcases q_n.mp h with e|h
   ·cases e;exact absurd rfl hy
   ·simp![getK,VI.getD,if_neg hy];exact JES b.tail h
def Bk.get(b:Bk i t P)(h:hasK P z=true):∃p,getK P z=.ok (Pl.d p)/\VI.getD P z .none=.ok p.d/\Gp i p:=by
 obtain⟨e,he,hz⟩:=List.mem_map.mp (JE3 h);obtain⟨y,p,rfl,_,g⟩:=b.ent e he;cases hz;obtain⟨a,c⟩:=JES b he;exact#[p,a,c,g]
theorem Bk.miss:∀ {P:List (D×D)},Bk i t P->hasK P z=false->VI.getD P z .none=.ok .none
 | [],_,_=>rfl
 |e::r,b,h=>by
  obtain⟨y,p,rfl,hz,g⟩:=b.ent e (List.mem_cons_self ..);simp![hasK,Bool.or_eq_false_iff,decide_eq_false_iff_not]at h;simp![VI.getD,if_neg h.1];exact Bk.miss b.tail h.2
theorem JEr:∀ {P:List (D×D)},(repD P z v).map (·.1)=P.map (·.1)
 | []=>rfl
 |(k,w)::r=>by cases k<;>simp![repD,List.map_cons,JEr (P:=r)]
theorem JKK{e:D×D}:∀ {P:List (D×D)},e∈repD P z v->e∈P\/e=(.str z,v)
 | [],h=>by simp[repD]at h
 |(k,w)::r,h=>by
  cases k<;>(simp![repD]at h;rcases q_n.mp h with e1|h)<;>first
    |exact(JKK h).imp (q_s _) id
    |(subst e1;exact .inl (List.mem_cons_self ..))
    |skip
  rename_i y;subst e1
  by_cases hy:y=z
  · rw[if_pos hy,hy];exact .inr rfl
  · rw[if_neg hy];exact .inl (List.mem_cons_self ..)
def Bk.put(b:Bk i t P)(hz:z∈nms)(g:Gp i p):Bk i (t+1) (putD P z p.d):=by
 have ent:∀e,e∈P\/e=((.str z:D),p.d)->∃y q,e=((.str y:D),Pl.d q)/\y∈nms/\Gp i q:=λe h=>by
  rcases h with h|rfl
  ·exact b.ent e h
  ·exact#[z,p,rfl,hz,g]
 unfold putD
 split
 ·refine#[λe he=>ent e (JKK he),?_,by rw[JEr];exact b.nd]
  have:(repD P z p.d).length=P.length:=by rw[<-q_g (f:=(·.1)),JEr,q_g]
  have:=b.len;omega
 ·rename_i hh;refine#[λe he=>ent e ?_,by rw[q_u];exact Nat.succ_le_succ b.len,?_]
  ·rcases List.mem_append.mp he with h|h
   ·exact .inl h
   ·exact .inr (List.mem_singleton.mp h)
  ·rw[List.map_append,List.nodup_append];refine#[b.nd,by simp,λa ha c hc=>?_]
   simp![List.map_cons,List.map_nil,List.mem_singleton]at hc;subst hc;intro e;subst e;exact hh (JGd ha)
def Bk.del(b:Bk i t P):Bk i t (delK P z):=by
 unfold delK;exact#[λe he=>b.ent e (List.mem_filter.mp he).1,Nat.le_trans (List.length_filter_le _ _) b.len,(List.filter_sublist.map _).nodup b.nd]
abbrev tupE(e:D×D):D:=.tuple [e.1,e.2]
theorem JIg{Q:List (D×D)}:∀ {P:List (D×D)},hasK (P++Q) z=(hasK P z || hasK Q z)
 | []=>rfl
 |(k,v)::r=>by
  cases k<;>simp![List.cons_append,hasK,JIg (P:=r),Bool.or_assoc]
theorem JEF:∀ {Q A:List (D×D)},Bk i t Q->(∀e∈Q,∀z,e.1=.str z->hasK A z=false)->JCm (Q.map tupE) A=some (A++Q)
 | [],A,_,_=>by simp[JCm]
 |e::r,A,b,h=>by
  obtain⟨y,p,rfl,hz,g⟩:=b.ent e (List.mem_cons_self ..);have hy:=h _ (List.mem_cons_self ..) y rfl;simp![List.map_cons,tupE,JCm,putD,hy,q_v,if_false];rw[JEF b.tail λe he z ez=>?_,List.append_assoc]
  ·rfl
  ·rw[JIg,h e (q_s _ he) z ez];simp![Bool.false_or,hasK,Bool.or_false,decide_eq_false_iff_not];rintro rfl;exact(List.nodup_cons.mp b.nd).1 (List.mem_map.mpr #[e,he,ez])
theorem JHB(b:Bk i t P):∀ {Q:List (D×D)},(∀e∈Q,e∈P)->JCH P Q=.ok true
 | [],_=>rfl
 |e::r,h=>by
  obtain⟨y,p,rfl,hz,g⟩:=b.ent e (h e (List.mem_cons_self ..));have hs:=p.sh (Nat.le_trans g.dep ∅)
  simp![JCH,(JES b (h _ (List.mem_cons_self ..))).1,hs,Bool.and_self,if_true,JHB b λe he=>h e (q_s _ he),p.refl]
def JOe(b:Bk i t P){Q:List (D×D)}(b2:Bk i t Q)(h:∀e∈Q,e∈P)(hl:Q.length=P.length):cmpD .NotEq (.dict Q) (.dict P)=.ok (.bool false):=by
 obtain⟨zs,_,_,_,h4,_⟩:=b.keys;obtain⟨ys,_,_,_,k4,_⟩:=b2.keys;have hs:∀x:List (D×D),shaped (.dict x)=false:=λx=>rfl;simp![cmpD,hs,Bool.and_self,q_v,if_false,eqD,JLX,eqD2,h4,k4,hl,if_true,JHB b h,R.bind,Bool.not_true]
end
end VI.VP
end
section
namespace VI.VP
open PySem Fr
section
variable{C:Cn}{U:Env}
def JK7{j:Nat}:exec C (.frz j) U=.nx (JAs j U):=by simp![exec]
def JHJ{d:D}:JAs 0 (.own d::r)=.val d::r:=by simp![JAs]
def JEp{i:Nat}:JAs (i+1) (s::r)=s::JAs i r:=by simp![JAs]
abbrev put1(j:Nat)(e:E)(U:Env):Option Sl->R D->R D->Fl
 |some (.own (.dict kvs)),.ok x,.ok y=>JFB j kvs y e x U
 |some (.own (.dict _)),.exc c,_=>.ex c
 |_,_,_=>.bad
def JLN{j:Nat}{k e:E}:exec C (.put j k e) U=put1 j e U U[j]? (ev C e U) (ev C k U):=by
 simp![exec];cases U[j]? with
 |none=>rfl
 |some s =>
  cases s with
  |own d =>
   cases d<;>first|rfl|skip
   cases ev C e U<;>first|rfl|skip
   cases ev C k U<;>rfl
  |_=>rfl
def JL3{j:Nat}{e:E}(hl:kvs.length<1000000)(ho:JAe x=true):put1 j e U (some (.own (.dict kvs))) (.ok x) (.ok (.str y))=.nx (U.set j (.own (.dict (putD kvs y x)))):=by
 simp![put1,JFB,hl,if_true,ho,Bool.not_true,Bool.and_false,q_v,if_false]
end
inductive Dd where
 |put (z:Str) (p:Pl)|take (z:Str)|rep (z:Str) (c:Nat)|slw (z:Str) (r:Rat)|chn (z y:Str)
abbrev Dd.d:Dd->D
 |.put z p=>.tuple [.str "put",.str z,p.d]
 |.take z=>.tuple [.str "take",.str z]
 |.rep z c=>.tuple [.str "repeat",.str z,.int c]
 |.slw z r=>.tuple [.str "slow",.str z,F r]
 |.chn z y=>.tuple [.str "chain",.str z,.str y]
abbrev rs4:List Rat:=[1 / 2,2,3 / 2,1]
def Dd.Ok:Dd->Prop
 |.put z p=>z∈nms/\Gp 5 p
 |.take z=>z∈nms
 |.rep z c=>z∈nms/\c<=5
 |.slw z r=>z∈nms/\r∈rs4
 |.chn z y=>z∈nms/\y∈nms
def rs_ok:∀r∈rs4,0<r/\Sz 2 r:=by
 intro r hr;simp![rs4,q_n,List.not_mem_nil,or_false]at hr;rcases hr with rfl|rfl|rfl|rfl<;>exact⟨by decide +kernel,by decide +kernel,by decide +kernel⟩
section
variable{sub:Nat->Nat->Bool}{m n i t:Nat}{P:List (D×D)}
def JPt(b:Bk i t P)(z:Str):cmpD .In (.str z) (.dict P)=.ok (.bool (hasK P z)):=by
 obtain⟨zs,_,_,_,h4,_⟩:=b.keys;simp![cmpD,JH4,h4,Option.isSome_some,if_true,R.bind]
def JEO(b:Bk i t P)(z:Str):cmpD .NotIn (.str z) (.dict P)=.ok (.bool (!hasK P z)):=by
 obtain⟨zs,_,_,_,h4,_⟩:=b.keys;simp![cmpD,JH4,h4,Option.isSome_some,if_true,R.bind]
def JDn(b:Bk i t P)(ht:t<=100):xD .dcp [.dict P]=.ok (.dict P):=by
 obtain⟨zs,_,_,_,h4,_⟩:=b.keys;have:=b.len;simp![xD,h4,Option.isSome_some,true_and];rw[if_pos ∅]
def JBm{c a b:E}{j:Nat}:(E.ife c a b).uses j=(c.uses j || a.uses j || b.uses j):=rfl
def JM9:mkl (.ok xs)=.ok (.list xs):=rfl
def k_dk:idxD (.dict kvs) (.str z)=getK kvs z:=rfl
theorem JQj(z:Str):∀ {P Q:List (D×D)},(∀e∈Q,∃y p,e=((.str y:D),Pl.d p)/\y∈nms/\getK P y=.ok p.d)->z∈nms->∀ {C:Cn}{s2 s3 s4:Sl},JBO (JEw C 0 (.tup (.cons (.var 0) (.cons (.idx (.var 1) (.var 0)) .nil))) (.cmp .NotEq (.var 0) (.idx (.var 2) (.cint 1))) [.val (.dict P),.val (.tuple [.str "take",.str z]),s2,s3,s4]) (Q.map (·.1))=.ok ((delK Q z).map tupE)
 |P,[],_,_,C,s2,s3,s4=>rfl
 |P,e::r,h,hz,C,s2,s3,s4=>by
  obtain⟨y,p,rfl,hy,hg⟩:=h e (List.mem_cons_self ..);have ih:=JQj z (P:=P) (Q:=r) (λe he=>h e (q_s _ he)) hz (C:=C) (s2:=s2) (s3:=s3) (s4:=s4);have hn:=nm_ne y hy z hz
  by_cases e:y=z
  ·have it:JEw C 0 (.tup (.cons (.var 0) (.cons (.idx (.var 1) (.var 0)) .nil))) (.cmp .NotEq (.var 0) (.idx (.var 2) (.cint 1))) [.val (.dict P),.val (.tuple [.str "take",.str z]),s2,s3,s4] (.str y)=.ok none:=by
    rw[decide_eq_true e]at hn;rw[JGS]
    dsimp?! [t21,hn,Bool.not_true]
   rw[List.map_cons];unfold JBO;rw[it];simp![ih];subst e;simp[delK]
  ·have it:JEw C 0 (.tup (.cons (.var 0) (.cons (.idx (.var 1) (.var 0)) .nil))) (.cmp .NotEq (.var 0) (.idx (.var 2) (.cint 1))) [.val (.dict P),.val (.tuple [.str "take",.str z]),s2,s3,s4] (.str y)=.ok (some (.tuple [.str y,p.d])):=by
    rw[q_o e]at hn;have ix:idxD (.dict P) (.str y)=.ok p.d:=hg;rw[JGS]
    dsimp?! [t21,hn,Bool.not_false,ix]
   rw[List.map_cons];unfold JBO;rw[it];simp![ih];simp[delK,e,tupE]
def W1:shaped (.str "put")=true:=by decide +kernel
def W2':shaped (.str "take")=true:=by decide +kernel
def W3':shaped (.str "repeat")=true:=by decide +kernel
def W4':shaped (.str "slow")=true:=by decide +kernel
def W5':shaped (.str "chain")=true:=by decide +kernel
def JSS:cmpD .Eq (.str "put") (.str "put")=.ok (.bool true):=JAg W1 W1 (by decide +kernel)
def JNy:cmpD .Eq (.str "take") (.str "put")=.ok (.bool false):=JAg W2' W1 (by decide +kernel)
def JRm:cmpD .Eq (.str "repeat") (.str "put")=.ok (.bool false):=JAg W3' W1 (by decide +kernel)
def JTC:cmpD .Eq (.str "slow") (.str "put")=.ok (.bool false):=JAg W4' W1 (by decide +kernel)
def JPN:cmpD .Eq (.str "chain") (.str "put")=.ok (.bool false):=JAg W5' W1 (by decide +kernel)
def qw_tc:cmpD .Eq (.str "take") (.str "chain")=.ok (.bool false):=JAg W2' W5' (by decide +kernel)
def JS3:cmpD .Eq (.str "repeat") (.str "chain")=.ok (.bool false):=JAg W3' W5' (by decide +kernel)
def qw_sc:cmpD .Eq (.str "slow") (.str "chain")=.ok (.bool false):=JAg W4' W5' (by decide +kernel)
def JN7:cmpD .Eq (.str "chain") (.str "chain")=.ok (.bool true):=JAg W5' W5' (by decide +kernel)
def qw_tt:cmpD .Eq (.str "take") (.str "take")=.ok (.bool true):=JAg W2' W2' (by decide +kernel)
def qw_rt:cmpD .Eq (.str "repeat") (.str "take")=.ok (.bool false):=JAg W3' W2' (by decide +kernel)
def qw_st:cmpD .Eq (.str "slow") (.str "take")=.ok (.bool false):=JAg W4' W2' (by decide +kernel)
def qw_ct:cmpD .Eq (.str "chain") (.str "take")=.ok (.bool false):=JAg W5' W2' (by decide +kernel)
def JQd:cmpD .Eq (.str "slow") (.str "slow")=.ok (.bool true):=JAg W4' W4' (by decide +kernel)
def JQP:cmpD .Eq (.str "repeat") (.str "slow")=.ok (.bool false):=JAg W3' W4' (by decide +kernel)
def JQK:cmpD .Eq (.str "chain") (.str "slow")=.ok (.bool false):=JAg W5' W4' (by decide +kernel)
def qw_rr:cmpD .Eq (.str "repeat") (.str "repeat")=.ok (.bool true):=JAg W3' W3' (by decide +kernel)
def qw_cr:cmpD .Eq (.str "chain") (.str "repeat")=.ok (.bool false):=JAg W5' W3' (by decide +kernel)
def JQO(b:Bk i t P)(ht:t<=100)(hm:1<=m):run true tabA gloA sub m 297 [.dict P,(Dd.put z p).d]=.ok (.tuple [.dict (putD P z p.d),.bool (hasK P z)]):=by
 obtain⟨n,rfl⟩:=JAC hm;have hl:P.length<1000000:=by have:=b.len;omega
 rw[JAK (n:=n) (show tabA 297=some JH0 from rfl),JAG rfl];show JDN true (exec _ JCx [.val (.dict P),.val (.tuple [.str "put",.str z,p.d]),.no,.no,.no])=_
 dsimp?! [JCx,JDn b ht,t30,t31,t32,JSS,JLN,JL3 hl p.nl,JK7,JHJ,JEp,JPt b]
def JCp{z w:Str}(b:Bk i t P)(ht:t<=100)(h:hasK P z=false)(hw:cmpD .Eq (.str w) (.str "put")=.ok (.bool false))(hm:1<=m):run true tabA gloA sub m 297 [.dict P,.tuple (.str w::.str z::r)]=.ok (.tuple [.dict P,.str "no name"]):=by
 obtain⟨n,rfl⟩:=JAC hm;have i0:idxD (.tuple (.str w::.str z::r)) (.int 0)=.ok (.str w):=by simp![idxD,atI,ixN,List.length_cons];rw[if_pos ∅,if_pos ∅];rfl
 have i1:idxD (.tuple (.str w::.str z::r)) (.int 1)=.ok (.str z):=by simp![idxD,atI,ixN,List.length_cons];rw[if_pos ∅,if_pos ∅];rfl
 rw[JAK (n:=n) (show tabA 297=some JH0 from rfl),JAG rfl];show JDN true (exec _ JCx [.val (.dict P),.val (.tuple (.str w::.str z::r)),.no,.no,.no])=_
 dsimp?! [JCx,JDn b ht,i0,i1,hw,JEO b,h,Bool.not_false]
def JHz(b:Bk i t P)(ht:t<=100)(h1:hasK P z=true)(h:hasK P y=false)(hm:1<=m):run true tabA gloA sub m 297 [.dict P,(Dd.chn z y).d]=.ok (.tuple [.dict P,.str "no name"]):=by
 obtain⟨n,rfl⟩:=JAC hm;rw[JAK (n:=n) (show tabA 297=some JH0 from rfl),JAG rfl];show JDN true (exec _ JCx [.val (.dict P),.val (.tuple [.str "chain",.str z,.str y]),.no,.no,.no])=_
 dsimp?! [JCx,JDn b ht,t30,t31,t32,JPN,JN7,JEO b,h1,h,Bool.not_false,Bool.not_true]
def JPD{d:D}(b:Bk i t P)(ht:t<=100)(hz:z∈nms)(h1:hasK P z=true)(h2:getK P z=.ok d)(hm:1<=m):run true tabA gloA sub m 297 [.dict P,(Dd.take z).d]=.ok (.tuple [.dict (delK P z),d]):=by
 obtain⟨n,rfl⟩:=JAC hm;have hl:P.length<1000000:=by have:=b.len;omega
 obtain⟨zs,k1,k2,k3,k4,k5⟩:=b.keys;have c:=@JQj z P P (λe he=>by obtain⟨y,p,rfl,hy,g⟩:=b.ent e he;exact#[y,p,rfl,hy,(JES b he).1]) hz
 have pr:xD .dpr [.list ((delK P z).map tupE)]=.ok (.dict (delK P z)):=by
  simp![xD,JEF (A:=[]) b.del (λe he z _=>rfl),List.nil_append,Option.map_some,optR]
 have it:JBJ (.dict P)=.ok (P.map (·.1)):=by simp![JBJ,k4,k1,optR]
 rw[JAK (n:=n) (show tabA 297=some JH0 from rfl),JAG rfl];show JDN true (exec _ JCx [.val (.dict P),.val (.tuple [.str "take",.str z]),.no,.no,.no])=_;have hl2:(P.map (·.1)).length<=16777216:=by rw[q_g];omega
 dsimp?! [JCx,JDn b ht,t20,t21,JNy,qw_tc,qw_tt,JEO b,h1,h2,Bool.not_true,it,JIL hl2,c,pr,JM9,k_dk]
def JJ7{z w:Str}{a p q:D}{ok:Bool}(b:Bk i t P)(ht:t<=100)(h1:hasK P z=true)(h2:getK P z=.ok p)(hq:isPl sub q ok)(nl:JAe q=true)
  (hw:(w="repeat"/\q=.tuple [.str "again",a,p])\/(w="slow"/\∀m,13<=m->run true tabA gloA sub m 160 [p,a]=.ok q)\/(w="chain"/\∃y p2,a=.str y/\hasK P y=true/\getK P y=.ok p2/\q=.tuple [.str "then",p,p2])) (hm:14<=m) :
  run true tabA gloA sub m 297 [.dict P,.tuple [.str w,.str z,a]]=.ok (if ok=true then .tuple [.dict (putD P z q),q] else .tuple [.dict P,.str "no plan"]):=by
 obtain⟨n,rfl⟩:=JAC hm;have hl:P.length<1000000:=by have:=b.len;omega
 have e:=hq (n+13) ∅
 rw[JAK (n:=n+13) (show tabA 297=some JH0 from rfl),JAG rfl];show JDN true (exec _ JCx [.val (.dict P),.val (.tuple [.str w,.str z,a]),.no,.no,.no])=_;rcases hw with ⟨rfl,rfl⟩|⟨rfl,hs⟩|⟨rfl,y,p2,rfl,h3,h4,rfl⟩
 ·cases ok<;>dsimp?! [JCx,JDn b ht,t30,t31,t32,JRm,JS3,qw_rt,JQP,qw_rr,JEO b,h1,h2,k_dk,Bool.not_true,Bool.not_false,e,JLN,JL3 hl nl,JK7,JHJ,JEp,JAa,JBv,JB4,JBM,JBt,JBP,JBp,JBr,JBw,JEl,JBm,Nat.reduceAdd,Nat.reduceBEq,Bool.or_self,Bool.or_false,Bool.false_or,Bool.and_self,Bool.and_false]
 ·have hs:=hs (n+13) ∅
  cases ok<;>dsimp?! [JCx,JDn b ht,t30,t31,t32,JTC,qw_sc,qw_st,JQd,JEO b,h1,h2,k_dk,Bool.not_true,Bool.not_false,e,hs,JLN,JL3 hl nl,JK7,JHJ,JEp,JAa,JBv,JB4,JBM,JBt,JBP,JBp,JBr,JBw,JEl,JBm,Nat.reduceAdd,Nat.reduceBEq,Bool.or_self,Bool.or_false,Bool.false_or,Bool.and_self,Bool.and_false]
 ·cases ok<;>dsimp?! [JCx,JDn b ht,t30,t31,t32,JPN,JN7,qw_ct,JQK,qw_cr,JEO b,h1,h2,h3,h4,k_dk,Bool.not_true,Bool.not_false,e,JLN,JL3 hl nl,JK7,JHJ,JEp,JAa,JBv,JB4,JBM,JBt,JBP,JBp,JBr,JBw,JEl,JBm,Nat.reduceAdd,Nat.reduceBEq,Bool.or_self,Bool.or_false,Bool.false_or,Bool.and_self,Bool.and_false]
end
end VI.VP
end
section
namespace VI.VP
open PySem Fr
section
variable{sub:Nat->Nat->Bool}{π:Ta}{k m n i t:Nat}{P:List (D×D)}{Dn Un:List D}{z y:Str}{p q g d:D}
def JJJ{w:Str}{b:Bool}(h:JCY [.str "put",.str "take"] (.str w)=true)(e:([PyData.str "put",PyData.str "take"].any λz=>PyData.eqv z (.str w))=b):cmpD .In (.str w) (.tuple [.str "put",.str "take"])=.ok (.bool b):=by
 simp![cmpD,h,if_true,e]
def in_p:cmpD .In (.str "put") (.tuple [.str "put",.str "take"])=.ok (.bool true):=JJJ (by decide +kernel) (by decide +kernel)
def in_t:cmpD .In (.str "take") (.tuple [.str "put",.str "take"])=.ok (.bool true):=JJJ (by decide +kernel) (by decide +kernel)
def in_s:cmpD .In (.str "slow") (.tuple [.str "put",.str "take"])=.ok (.bool false):=JJJ (by decide +kernel) (by decide +kernel)
def in_r:cmpD .In (.str "repeat") (.tuple [.str "put",.str "take"])=.ok (.bool false):=JJJ (by decide +kernel) (by decide +kernel)
def in_c:cmpD .In (.str "chain") (.tuple [.str "put",.str "take"])=.ok (.bool false):=JJJ (by decide +kernel) (by decide +kernel)
def lk_m1:((scr P Dn Un).lookup ("put":Str)).isNone=true:=rfl
def lk_m2:((scr P Dn Un).lookup ("take":Str)).isNone=true:=rfl
def lk_m3:((scr P Dn Un).lookup ("slow":Str)).isNone=true:=rfl
def lk_m4:((scr P Dn Un).lookup ("chain":Str)).isNone=true:=rfl
def lk_m5:((scr P Dn Un).lookup ("repeat":Str)).isNone=true:=rfl
def JDt(r:R3 D):end3 (ret3 r)=r:=by cases r<;>rfl
def JDb{b:S3}(r:R3 D):seq3 C f3 b (ret3 r)=ret3 r:=by cases r<;>rfl
noncomputable abbrev tl(sub:Nat->Nat->Bool)(n:Nat)(r:R3 D):R3 D:=JCT (λπ=>#[runR kR tabA tabR gloA sub π n,gloA,sub]) 0 d_254 r
def JPh(h:π[k]? = some (scr P Dn Un)):run3 kR tabA tabR tab3 gloA sub (n+1) 298 [recD k,.tuple [.str "put",.str z,p]] π=tl sub n (run3 kR tabA tabR tab3 gloA sub n 440 [recD k,.str z,p] π):=by
 rw[r3S (n:=n) rfl,JAP rfl]
 dsimp? [JH2,JH9,in_p,JSS,t30,t31,t32,JBA h lk_m1,JBm,JDb,JDt]
def JJ0(h:π[k]? = some (scr P Dn Un)):run3 kR tabA tabR tab3 gloA sub (n+1) 298 [recD k,.tuple [.str "take",.str z]] π=tl sub n (run3 kR tabA tabR tab3 gloA sub n 441 [recD k,.str z] π):=by
 rw[r3S (n:=n) rfl,JAP rfl]
 dsimp? [JH2,JH9,in_t,JNy,t20,t21,JBA h lk_m2,JBm,JDb,JDt]
def JKI(h:π[k]? = some (scr P Dn Un)):run3 kR tabA tabR tab3 gloA sub (n+1) 298 [recD k,.tuple [.str "slow",.str z,p]] π=tl sub n (run3 kR tabA tabR tab3 gloA sub n 444 [recD k,.str z,p] π):=by
 rw[r3S (n:=n) rfl,JAP rfl]
 dsimp? [JH2,JH9,in_s,JQd,t30,t31,t32,JBA h lk_m3,JBm,JDb,JDt]
def JDS(h:π[k]? = some (scr P Dn Un)):run3 kR tabA tabR tab3 gloA sub (n+1) 298 [recD k,.tuple [.str "chain",.str z,p]] π=tl sub n (run3 kR tabA tabR tab3 gloA sub n 442 [recD k,.str z,p] π):=by
 rw[r3S (n:=n) rfl,JAP rfl]
 dsimp? [JH2,JH9,in_c,JQK,JN7,t30,t31,t32,JBA h lk_m4,JBm,JDb,JDt]
def JKH(h:π[k]? = some (scr P Dn Un)):run3 kR tabA tabR tab3 gloA sub (n+1) 298 [recD k,.tuple [.str "repeat",.str z,p]] π=tl sub n (run3 kR tabA tabR tab3 gloA sub n 443 [recD k,.str z,p] π):=by
 rw[r3S (n:=n) rfl,JAP rfl]
 dsimp? [JH2,JH9,in_r,JQP,JS3,t30,t31,t32,JBA h lk_m5,JBm,JDb,JDt]
end
end VI.VP
end
section
namespace VI.VP
open PySem Fr
section
variable{sub:Nat->Nat->Bool}{m n i t:Nat}{P:List (D×D)}
def ispI{d:D}{b:Bool}(h:∀n,run true tabA gloA sub (n+10) 141 [d,.int 5]=.ok (.bool b)):isPl sub d b:=λm hm=>by
 obtain⟨n,rfl⟩:=JAC hm;rw[JAK (n:=n+10) (show tabA 140=some JJn from rfl),JAG rfl]
 dsimp?! [JJn,JPA,G151,h n]
def JKm{p:Pl}(ok:p.Ok)(h:p.dep<=6):isPl sub p.d (decide (p.dep<=5)):=λm hm=>JMq p ok ∅
def agn5{d:D}:isPl sub (.tuple [.str "again",.int 5,d]) false:=ispI λn=>by
 have hm:run true tabA gloA sub (n+9) 142 [.int 5]=.ok (.bool false):=JMM ∅
 rw[JAK (n:=n+9) (show tabA 141=some JBk from rfl),JAG rfl]
 dsimp?! [JBk,JC6,JBq,Bool.not_true,n3,JI4,Int.reduceEq,decide_true,decide_false,t30,t31,t32,JEW,JEb,JDL,JBu,JBa,hm]
def JDT{d:D}(h:shaped d=true)(e:PyData.eqv d d=true):cmpD .NotEq d d=.ok (.bool false):=by simp![cmpD,h,Bool.and_self,if_true,e,Bool.not_true]
def JKP:cmpD .NotEq (.str "no name") (.str "no name")=.ok (.bool false):=JDT (by decide +kernel) (by decide +kernel)
def JQk:cmpD .NotEq (.str "no plan") (.str "no plan")=.ok (.bool false):=JDT (by decide +kernel) (by decide +kernel)
def b_eq(b:Bool):cmpD .NotEq (.bool b) (.bool b)=.ok (.bool false):=by cases b<;>rfl
def JLR{p:Pl}(h:p.dep<=6):cmpD .NotEq p.d p.d=.ok (.bool false):=JDT (p.sh ∅) p.refl
def Res(sub:Nat->Nat->Bool)(P:List (D×D))(dd:Dd)(P':List (D×D))(due:D):Prop :=
 (P'=P/\(due=PyData.str "no name"\/due=.str "no plan")/\∀π k Dn Un m,π[k]? = some (scr P Dn Un)->16<=m->run3 kR tabA tabR tab3 gloA sub m 298 [recD k,Dd.d dd] π=.ok due π) \/
 ∃e:D,∀π k Dn Un m,π[k]? = some (scr P Dn Un)->Dn.length<1000->16<=m->run3 kR tabA tabR tab3 gloA sub m 298 [recD k,dd.d] π=.ok due (π.set k (scr P' (Dn++[e]) []))
def dd_ok(s3:SubOk sub 3)(s38:sub 3 8=false)(s6:SubOk sub 6)(s68:sub 6 8=false)(b:Bk i t P)(h5:5<=i)(hi:i<=100)(ht:t<=100){dd:Dd}(g:dd.Ok) :
  ∃P' due,(∀m,14<=m->run true tabA gloA sub m 297 [.dict P,dd.d]=.ok (.tuple [.dict P',due]))/\Bk (i+2) (t+1) P'/\cmpD .NotEq due due=.ok (.bool false)/\Res sub P dd P' due:=by
 have hl:P.length<1000:=by have:=b.len;omega
 have b2:Bk (i+2) (t+1) P:=b.mono ∅ ∅
 have T3:∀ {n:Nat}{π:Ta},tl sub n (.exc 3 π)=.ok (.str "no plan") π:=told3 (λ_=>rfl) s3 s38;have T6:∀ {n:Nat}{π:Ta},tl sub n (.exc 6 π)=.ok (.str "no name") π:=told6 (λ_=>rfl) s6 s68;have lv:∀ {m:Nat},16<=m->∃n,m=n+1/\15<=n:=λ{m} h=>#[m - 1,by omega,by omega]
 cases dd with
 |put z p =>
  obtain⟨hz,gp⟩:=g;obtain⟨g0,hg,hgr⟩:∃g0,VI.getD P z .none=.ok g0/\JAv g0=true:=by
   cases h:hasK P z with
   |true=>obtain⟨q,_,h2,_⟩:=b.get h;exact#[_,h2,q.nr]
   |false=>exact#[_,b.miss h,rfl]
  have hp:isPl sub p.d true:=by have:=JKm (sub:=sub) gp.ok (by have:=gp.dep;omega);rwa [decide_eq_true gp.dep]at this
  refine#[_,_,λm hm=>JQO b ∅ ∅,(b.mono (j:=i+2) ∅ (q_t t)).put hz (gp.mono ∅),b_eq _,.inr #[.tuple [.str "put",.str z,g0,p.d],λπ k Dn Un m h hd hm=>?_]]
  obtain⟨n,rfl,hn⟩:=lv hm;show run3 kR tabA tabR tab3 gloA sub (n+1) 298 [recD k,.tuple [.str "put",.str z,p.d]] π=_;rw[JPh h,JQN h hp (JDA z hz) p.nn p.nr hl hd hg hgr ∅]
  rfl
 |take z =>
  cases h1:hasK P z with
  |false =>
   refine#[P,_,λm hm=>JCp b ∅ h1 JNy ∅,b2,JKP,.inl #[rfl,.inl rfl,λπ k Dn Un m h hm=>?_]]
   obtain⟨n,rfl,hn⟩:=lv hm;show run3 kR tabA tabR tab3 gloA sub (n+1) 298 [recD k,.tuple [.str "take",.str z]] π=_;rw[JJ0 h,ta_ex h (λm hm=>JIt h (JDA z g) h1 hm) ∅,T6]
  |true =>
   obtain⟨p,h2,h3,gp⟩:=b.get h1;refine#[_,_,λm hm=>JPD b ∅ g h1 h2 ∅,b2.del,JLR (by have:=gp.dep;omega),.inr #[.tuple [.str "take",.str z,p.d,.none],λπ k Dn Un m h hd hm=>?_]]
   obtain⟨n,rfl,hn⟩:=lv hm;show run3 kR tabA tabR tab3 gloA sub (n+1) 298 [recD k,.tuple [.str "take",.str z]] π=_;rw[JJ0 h,ta_ok h (JDA z g) h1 h2 hd h3 p.nr ∅]
   rfl
 |rep z c =>
  obtain⟨hz,hc⟩:=g;cases h1:hasK P z with
  |false =>
   refine#[P,_,λm hm=>JCp b ∅ h1 JRm ∅,b2,JKP,.inl #[rfl,.inl rfl,λπ k Dn Un m h hm=>?_]]
   obtain⟨n,rfl,hn⟩:=lv hm;show run3 kR tabA tabR tab3 gloA sub (n+1) 298 [recD k,.tuple [.str "repeat",.str z,.int c]] π=_;rw[JKH h,re_nn h (λm hm=>JIt h (JDA z hz) h1 hm) ∅,T6]
  |true =>
   obtain⟨p,h2,h3,gp⟩:=b.get h1;obtain⟨ok,hq,hok⟩:∃ok,isPl sub (Pl.agn c p).d ok/\(ok=true->Gp (i+2) (.agn c p)):=by
    by_cases h4:c<=4
    ·refine#[_,JKm (p:=.agn c p) #[h4,gp.ok] (by have:=gp.dep;simp![Pl.dep];omega),λe=>#[#[h4,gp.ok],of_decide_eq_true e,JFA ∅ p gp.zq]]
    ·have:c=5:=by omega
     subst this;exact#[false,agn5,λz=>by cases z]
   have e:=λ(m:Nat) (hm:14<=m)=>JJ7 (sub:=sub) (w:="repeat") (a:=.int c) b ht h1 h2 hq (Pl.agn c p).nl (.inl #[rfl,rfl]) hm;have po:∀ {π:Ta}{k:Nat}{Dn Un:List D},π[k]? = some (scr P Dn Un)->poN sub π k (.str z) (.ok p.d):=λ{π k Dn Un} h m hm=>JGE h (JDA z hz) h1 h2 hm;cases ok with
   |true =>
    refine#[_,_,e,(b.mono (j:=i+2) ∅ (q_t t)).put hz (hok rfl),JLR (by have:=(hok rfl).dep;omega),.inr #[.tuple [.str "repeat",.str z,p.d,(Pl.agn c p).d],λπ k Dn Un m h hd hm=>?_]]
    obtain⟨n,rfl,hn⟩:=lv hm;show run3 kR tabA tabR tab3 gloA sub (n+1) 298 [recD k,.tuple [.str "repeat",.str z,.int c]] π=_;rw[JKH h,re_ok h (po h) hq (Pl.agn c p).nr hl hd h3 p.nr ∅]
    rfl
   |false =>
    refine#[P,_,e,b2,JQk,.inl #[rfl,.inr rfl,λπ k Dn Un m h hm=>?_]];obtain⟨n,rfl,hn⟩:=lv hm;show run3 kR tabA tabR tab3 gloA sub (n+1) 298 [recD k,.tuple [.str "repeat",.str z,.int c]] π=_;rw[JKH h,re_np h (po h) hq ∅,T3]
 |slw z r =>
  obtain⟨hz,hr⟩:=g;obtain⟨r0,r2⟩:=rs_ok r hr;cases h1:hasK P z with
  |false =>
   refine#[P,_,λm hm=>JCp b ∅ h1 JTC ∅,b2,JKP,.inl #[rfl,.inl rfl,λπ k Dn Un m h hm=>?_]]
   obtain⟨n,rfl,hn⟩:=lv hm;show run3 kR tabA tabR tab3 gloA sub (n+1) 298 [recD k,.tuple [.str "slow",.str z,F r]] π=_;rw[JKI h,sl_nn h (λm hm=>JIt h (JDA z hz) h1 hm) ∅,T6]
  |true =>
   obtain⟨p,h2,h3,gp⟩:=b.get h1
   haveI:Z 2 r:=#[r2]
   have sl:∀m,13<=m->run true tabA gloA sub m 160 [p.d,F r]=.ok (p.slow r).d:=λm hm=>JKY gp.ok gp.zq gp.dep ∅ ∅ ∅
   have gq:Gp (i+2) (p.slow r):=#[JOx r0 p gp.ok,by rw[JLF];exact gp.dep,JNv r2 p gp.zq]
   have hq:isPl sub (p.slow r).d true:=by have:=JKm (sub:=sub) gq.ok (by have:=gq.dep;omega);rwa [decide_eq_true gq.dep]at this
   have e:=λ(m:Nat) (hm:14<=m)=>JJ7 (sub:=sub) (w:="slow") (a:=F r) b ht h1 h2 hq (p.slow r).nl (.inr (.inl #[rfl,sl])) hm;refine#[_,_,e,(b.mono (j:=i+2) ∅ (q_t t)).put hz gq,JLR (by have:=gq.dep;omega),.inr #[.tuple [.str "slow",.str z,p.d,(p.slow r).d],λπ k Dn Un m h hd hm=>?_]]
   obtain⟨n,rfl,hn⟩:=lv hm;show run3 kR tabA tabR tab3 gloA sub (n+1) 298 [recD k,.tuple [.str "slow",.str z,F r]] π=_;rw[JKI h,sl_ok h (λm hm=>JGE h (JDA z hz) h1 h2 hm) (λm hm=>by rw[JLD ∅,decide_eq_true r0]) sl hq (p.slow r).nn (p.slow r).nr hl hd h3 p.nr ∅]
   rfl
 |chn z y =>
  obtain⟨hz,hy⟩:=g;cases h1:hasK P z with
  |false =>
   refine#[P,_,λm hm=>JCp b ∅ h1 JPN ∅,b2,JKP,.inl #[rfl,.inl rfl,λπ k Dn Un m h hm=>?_]]
   obtain⟨n,rfl,hn⟩:=lv hm;show run3 kR tabA tabR tab3 gloA sub (n+1) 298 [recD k,.tuple [.str "chain",.str z,.str y]] π=_;rw[JDS h,ch_n1 h (λm hm=>JIt h (JDA z hz) h1 hm) ∅,T6]
  |true =>
   obtain⟨p,h2,h3,gp⟩:=b.get h1;cases h4:hasK P y with
   |false =>
    refine#[P,_,λm hm=>JHz b ∅ h1 h4 ∅,b2,JKP,.inl #[rfl,.inl rfl,λπ k Dn Un m h hm=>?_]]
    obtain⟨n,rfl,hn⟩:=lv hm;show run3 kR tabA tabR tab3 gloA sub (n+1) 298 [recD k,.tuple [.str "chain",.str z,.str y]] π=_;rw[JDS h,ch_n2 h (λm hm=>JGE h (JDA z hz) h1 h2 hm) (λm hm=>JIt h (JDA y hy) h4 hm) ∅,T6]
   |true =>
    obtain⟨p2,h5',h6,gp2⟩:=b.get h4;have hq:=JKm (sub:=sub) (p:=.thn p p2) #[gp.ok,gp2.ok] (by have:=gp.dep;have:=gp2.dep;simp![Pl.dep];omega)
    have e:=λ(m:Nat) (hm:14<=m)=>JJ7 (sub:=sub) (w:="chain") (a:=.str y) b ht h1 h2 hq (Pl.thn p p2).nl (.inr (.inr #[rfl,y,p2.d,rfl,h4,h5',rfl])) hm;have po1:∀ {π:Ta}{k:Nat}{Dn Un:List D},π[k]? = some (scr P Dn Un)->poN sub π k (.str z) (.ok p.d):=λ{π k Dn Un} h m hm=>JGE h (JDA z hz) h1 h2 hm;have po2:∀ {π:Ta}{k:Nat}{Dn Un:List D},π[k]? = some (scr P Dn Un)->poN sub π k (.str y) (.ok p2.d):=λ{π k Dn Un} h m hm=>JGE h (JDA y hy) h4 h5' hm
    by_cases hd5:(Pl.thn p p2).dep<=5
    ·rw[decide_eq_true hd5]at hq e;have gq:Gp (i+2) (.thn p p2):=#[#[gp.ok,gp2.ok],hd5,JFA ∅ p gp.zq,JFA ∅ p2 gp2.zq]
     refine#[_,_,e,(b.mono (j:=i+2) ∅ (q_t t)).put hz gq,JLR ∅,.inr #[.tuple [.str "chain",.str z,p.d,(Pl.thn p p2).d],λπ k Dn Un m h hd hm=>?_]]
     obtain⟨n,rfl,hn⟩:=lv hm;show run3 kR tabA tabR tab3 gloA sub (n+1) 298 [recD k,.tuple [.str "chain",.str z,.str y]] π=_;rw[JDS h,ch_ok h (po1 h) (po2 h) hq (Pl.thn p p2).nr hl hd h3 p.nr ∅]
     rfl
    ·rw[q_o hd5]at hq e;refine#[P,_,e,b2,JQk,.inl #[rfl,.inr rfl,λπ k Dn Un m h hm=>?_]];obtain⟨n,rfl,hn⟩:=lv hm;show run3 kR tabA tabR tab3 gloA sub (n+1) 298 [recD k,.tuple [.str "chain",.str z,.str y]] π=_;rw[JDS h,ch_np h (po1 h) (po2 h) hq ∅,T3]
end
end VI.VP
end
section
namespace VI.VP
open PySem Fr
section
variable{sub:Nat->Nat->Bool}{m:Nat}
def nmAt(j:Int)(h0:0<=j)(h1:j<4):∃z∈nms,idxD (.list [.str "a",.str "b",.str "song",.str "x"]) (.int j)=.ok (.str z):=by
 obtain⟨d,hd,e⟩:=at9 (xs:=[.str "a",.str "b",.str "song",.str "x"]) j h0 h1;simp![q_n,List.not_mem_nil,or_false]at hd;rcases hd with rfl|rfl|rfl|rfl<;>exact⟨_,by simp[nms],e⟩
def rsAt(j:Int)(h0:0<=j)(h1:j<4):∃r∈rs4,idxD (.list [.tuple [.int 1,.int 2],.tuple [.int 2,.int 1],.tuple [.int 3,.int 2],.tuple [.int 1,.int 1]]) (.int j)=.ok (F r):=by
 obtain⟨d,hd,e⟩:=at9 (xs:=[.tuple [.int 1,.int 2],.tuple [.int 2,.int 1],.tuple [.int 3,.int 2],.tuple [.int 1,.int 1]]) j h0 h1;have f1:F (1 / 2)=.tuple [.int 1,.int 2]:=by rw[F,show(1 / 2:Rat).num=1 by decide +kernel,show(1 / 2:Rat).den=2 by decide +kernel];rfl
 have f2:F 2=.tuple [.int 2,.int 1]:=by rw[F,show(2:Rat).num=2 by decide +kernel,show(2:Rat).den=1 by decide +kernel];rfl
 have f3:F (3 / 2)=.tuple [.int 3,.int 2]:=by rw[F,show(3 / 2:Rat).num=3 by decide +kernel,show(3 / 2:Rat).den=2 by decide +kernel];rfl
 have f4:F 1=.tuple [.int 1,.int 1]:=by rw[F,show(1:Rat).num=1 by decide +kernel,show(1:Rat).den=1 by decide +kernel];rfl
 simp![q_n,List.not_mem_nil,or_false]at hd;rcases hd with rfl|rfl|rfl|rfl
 ·exact#[1 / 2,by simp[rs4],by rw[f1,e]]
 ·exact#[2,by simp[rs4],by rw[f2,e]]
 ·exact#[3 / 2,by simp[rs4],by rw[f3,e]]
 ·exact#[1,by simp[rs4],by rw[f4,e]]
def JRe(ns:List Int)(a:Int)(h0:0<=a)(h1:a<=10000)(hm:8<=m):∃dd:Dd,dd.Ok/\run true tabA gloA sub m 296 [sc ns,.int a]=.ok dd.d:=by
 obtain⟨n,rfl⟩:=JAC hm;obtain⟨i,i0,i1,e1⟩:=JDE (x:=true) (sub:=sub) (m:=n+7) ns a 4 ∅ h0 ∅ ∅
 obtain⟨z,hz,e2⟩:=nmAt i i0 i1;obtain⟨c,c0,c1,e3⟩:=JDE (x:=true) (sub:=sub) (m:=n+7) ns (a+1) 8 ∅ ∅ ∅ ∅
 rw[JAK (n:=n+7) (show tabA 296=some JPm from rfl),JAG rfl];show ∃dd:Dd,dd.Ok/\JDN true (exec _ JGg [.val (sc ns),.val (.int a),.no,.no,.no])=_;have u2:JA1 [3,4].length (.tuple [.str z,.int c])=.ok [.str z,.int c]:=rfl
 by_cases h:c<3
 ·obtain⟨p,ok,sm,dp,e4⟩:=JHF (x:=true) (sub:=sub) ns 2 (m:=n+7) (a+300) ∅ ∅ ∅ (by simp![pB];omega) ∅
  have e4:run true tabA gloA sub (n+7) 146 [sc ns,.int (a+300),.int 2]=.ok p.d:=e4;refine#[.put z p,#[hz,ok,by omega,sm.zq],?_]
  have d1:decide (c<3)=true:=decide_eq_true h
  dsimp?! [JGg,e1,e2,e3,e4,d1,JAa,JBv,JB4,JBM,JDI,JBt,JBP,JBp,JDF,JBr,JBw,JA4,JA8,JBb,JBH,Dd.d,JBK,List.set_cons_succ,List.set_cons_zero,JAe,JA2,Bool.and_self,Bool.not_true,Bool.and_false,u2,Nat.reduceAdd,Nat.reduceBEq,Bool.or_false,Bool.or_true,Bool.true_or]
  done
 ·have d1:decide (c<3)=false:=q_o h
  by_cases h3:c=3
  ·refine#[.take z,hz,?_];have d2:decide (c=3)=true:=decide_eq_true h3
   dsimp?! [JGg,e1,e2,e3,d1,d2,JAa,JBv,JB4,JBM,JDI,JBt,JBP,JBp,JDF,JBr,JBw,JA4,JA8,JBb,JBH,Dd.d,JBK,List.set_cons_succ,List.set_cons_zero,JAe,JA2,Bool.and_self,Bool.not_true,Bool.and_false,u2,Nat.reduceAdd,Nat.reduceBEq,Bool.or_false,Bool.or_true,Bool.true_or]
   done
  ·have d2:decide (c=3)=false:=q_o h3
   by_cases h4:c=4
   ·obtain⟨k,k0,k1,e4⟩:=JDE (x:=true) (sub:=sub) (m:=n+7) ns (a+2) 6 ∅ ∅ ∅ ∅
    obtain⟨k,rfl⟩:∃q:Nat,k=q:=#[k.toNat,by omega]
    refine#[.rep z k,#[hz,by omega],?_]
    have d3:decide (c=4)=true:=decide_eq_true h4
    dsimp?! [JGg,e1,e2,e3,e4,d1,d2,d3,JAa,JBv,JB4,JBM,JDI,JBt,JBP,JBp,JDF,JBr,JBw,JA4,JA8,JBb,JBH,Dd.d,JBK,List.set_cons_succ,List.set_cons_zero,JAe,JA2,Bool.and_self,Bool.not_true,Bool.and_false,u2,Nat.reduceAdd,Nat.reduceBEq,Bool.or_false,Bool.or_true,Bool.true_or]
    done
   ·have d3:decide (c=4)=false:=q_o h4
    by_cases h5:c=5
    ·obtain⟨k,k0,k1,e4⟩:=JDE (x:=true) (sub:=sub) (m:=n+7) ns (a+3) 4 ∅ ∅ ∅ ∅
     obtain⟨r,hr,e5⟩:=rsAt k k0 k1;refine#[.slw z r,#[hz,hr],?_];have d4:decide (c=5)=true:=decide_eq_true h5
     dsimp?! [JGg,e1,e2,e3,e4,e5,d1,d2,d3,d4,JAa,JBv,JB4,JBM,JDI,JBt,JBP,JBp,JDF,JBr,JBw,JA4,JA8,JBb,JBH,Dd.d,JBK,List.set_cons_succ,List.set_cons_zero,JAe,JA2,Bool.and_self,Bool.not_true,Bool.and_false,u2,Nat.reduceAdd,Nat.reduceBEq,Bool.or_false,Bool.or_true,Bool.true_or]
     done
    ·obtain⟨k,k0,k1,e4⟩:=JDE (x:=true) (sub:=sub) (m:=n+7) ns (a+2) 4 ∅ ∅ ∅ ∅
     obtain⟨y,hy,e5⟩:=nmAt k k0 k1;refine#[.chn z y,#[hz,hy],?_];have d4:decide (c=5)=false:=q_o h5
     dsimp?! [JGg,e1,e2,e3,e4,e5,d1,d2,d3,d4,JAa,JBv,JB4,JBM,JDI,JBt,JBP,JBp,JDF,JBr,JBw,JA4,JA8,JBb,JBH,Dd.d,JBK,List.set_cons_succ,List.set_cons_zero,JAe,JA2,Bool.and_self,Bool.not_true,Bool.and_false,u2,Nat.reduceAdd,Nat.reduceBEq,Bool.or_false,Bool.or_true,Bool.true_or]
     done
end
end VI.VP
end
section
namespace VI.VP
open PySem Fr
theorem JGk:∀ {zs:List Str},(∀z∈zs,z∈nms)->PyData.canLayAll0 (zs.map PyData.str)=true
 | [],_=>rfl
 |z::r,h=>by
  have:(PyData.str z).canLay0=true:=by
   have hz:=h z (by simp)
   simp![nms,q_n,List.not_mem_nil,or_false]at hz;rcases hz with rfl|rfl|rfl|rfl<;>decide +kernel
  simp![List.map_cons,PyData.canLayAll0,this,JGk λy hy=>h y (q_s _ hy),Bool.and_self]
theorem JHZ:∀ {zs:List Str},PyData.depthAll (zs.map PyData.str)=0
 | []=>rfl
 |z::r=>by simp![List.map_cons,PyData.depthAll,PyData.depth,JHZ (zs:=r)];rfl
theorem JGj:∀ {zs:List Str},PyData.eqvAll (zs.map PyData.str) (zs.map PyData.str)=true
 | []=>rfl
 |z::r=>by simp![List.map_cons,PyData.eqvAll,PyData.eqv,JGj (zs:=r),beq_self_eq_true,Bool.and_self]
def JOO{zs:List Str}(h:∀z∈zs,z∈nms):cmpD .NotEq (.list (zs.map PyData.str)) (.list (zs.map PyData.str))=.ok (.bool false):=by
 refine JDT ?_ ?_
 ·unfold shaped;simp![PyData.canLay0,JGk h,PyData.depth,JHZ];rfl
 ·simp![PyData.eqv,JGj]
abbrev valK(P:List (D×D))(z:Str):D:=match getK P z with
 |.ok d=>d
 |_=>.none
section
variable{sub:Nat->Nat->Bool}{π:Ta}{m n i t k:Nat}{P:List (D×D)}{Dn Un:List D}
def JNO(b:Bk i t P)(ht:t<=40):∃zs:List Str,srtS (P.map (·.1))=.ok (.list (zs.map PyData.str))/\(∀z∈zs,z∈nms/\hasK P z=true)/\zs.Nodup/\zs.length=P.length/\xD .dst [.dict P]=.ok (.list (zs.map PyData.str)):=by
 obtain⟨ys,k1,k2,k3,k4,k5⟩:=b.keys;have l1:ys.length=P.length:=by have:=congrArg List.length k1;simpa using this.symm
 have hl:ys.length<64:=by have:=b.len;omega
 have pm:(JFO ys).Perm ys:=List.mergeSort_perm ..;have e:srtS (P.map (·.1))=.ok (.list ((JFO ys).map PyData.str)):=by simp![srtS,k5,if_pos hl]
 refine#[JFO ys,e,λz hz=>#[k2 z (pm.mem_iff.mp hz),JGd ?_],pm.nodup_iff.mpr k3,by rw[pm.length_eq,l1],by simp![xD,k4,Option.isSome_some,if_true,e]]
 rw[k1];exact List.mem_map.mpr #[z,pm.mem_iff.mp hz,rfl]
def JRP(h:π[k]? = some (scr P Dn Un))(b:Bk i t P)(ht:t<=40)(hm:4<=m):∃Q,runR kR tabA tabR gloA sub π m 299 [recD k]=.ok (.dict Q)/\Bk i t Q/\(∀e∈Q,e∈P)/\Q.length=P.length:=by
 obtain⟨zs,e1,e2,e3,e4,_⟩:=JNO b ht;have mem:∀z∈zs,((.str z:D),valK P z)∈P:=λz hz=>by
  obtain⟨⟨x,v⟩,he,hx⟩:=List.mem_map.mp (JE3 (e2 z hz).2);cases hx;have:=(JES b he).1;simp![valK,this];exact he
 have bq:Bk i t (zs.map λz=>((.str z:D),valK P z)):=by
  refine#[λe he=>?_,by rw[q_g,e4];exact b.len,?_]
  ·obtain⟨z,hz,rfl⟩:=List.mem_map.mp he;exact b.ent _ (mem z hz)
  ·rw[List.map_map];refine List.pairwise_map.mpr (e3.imp λ{a b} h e=>h ?_);injection e
 refine#[_,?_,bq,λe he=>?_,by rw[q_g,e4]]
 ·obtain⟨n,rfl⟩:=JAC hm;have c:∀ {C:Cn},C=#[runR kR tabA tabR gloA sub π (n+3),gloA,sub]->JBO (JEw C 0 (.tup (.cons (.var 0) (.cons (.call 430 (.cons (.call 431 (.cons (.var 1) .nil)) (.cons (.var 0) .nil))) .nil))) (.cbl true) [.val (recD k)]) (zs.map PyData.str)=.ok ((zs.map λz=>((.str z:D),valK P z)).map tupE):=by
   rintro C rfl;rw[List.map_map];refine JEZ λz hz=>?_;have g:=(JES b (mem z hz)).1;have e:=JGE (sub:=sub) (m:=n+3) h (JDA z (e2 z hz).1) (e2 z hz).2 g ∅
   rw[JGS]
   dsimp? [JO1 h,e,Function.comp,tupE]
  have pr:xD .dpr [.list ((zs.map λz=>((.str z:D),valK P z)).map tupE)]=.ok (.dict (zs.map λz=>((.str z:D),valK P z))):=by
   simp![xD];rw[JEF bq λe he z ez=>rfl];rfl
  have nn:=JQR (sub:=sub) (m:=n+3) h e1 ∅
  have it:JBJ (.list (zs.map PyData.str))=.ok (zs.map PyData.str):=rfl;have hl:(zs.map PyData.str).length<=16777216:=by rw[q_g,e4];have:=b.len;omega
  rw[rdS (n:=n+3) rfl rfl,JAG rfl]
  dsimp? [JRV,JRW,JLf h,nn,it,JIL hl,JM9,c rfl,pr]
 ·obtain⟨z,hz,rfl⟩:=List.mem_map.mp he;exact mem z hz
end
end VI.VP
end
section
namespace VI.VP
open PySem Fr
theorem JHm{put:D->VI.Env->Option VI.Env}(I:Nat->VI.Env->Ta->Prop):∀(ds:List D) (k:Nat) (U:VI.Env) (π:Ta),I k U π->(∀j d,ds[j]? = some d->∀U π,I (k+j) U π->∃U1 U2 π2,put d U=some U1/\body U1 π=.nx U2 π2/\I (k+j+1) U2 π2)->∃U2 π2,for3 put body ds U π=.nx U2 π2/\I (k+ds.length) U2 π2
 | [],k,U,π,h,_=>#[U,π,rfl,h]
 |d::ds,k,U,π,h,st=>by
  obtain⟨U1,U2,π2,e1,e2,h2⟩:=st 0 d rfl U π h;obtain⟨U3,π3,e3,h3⟩:=JHm I ds (k+1) U2 π2 h2 λj d hd U π hI=>by
   have:=st (j+1) d hd U π (by rw[show k+(j+1)=k+1+j by omega];exact hI)
   rwa [show k+(j+1)+1=k+1+j+1 by omega]at this
  refine#[U3,π3,?_,by rw[List.length_cons,show k+(ds.length+1)=k+1+ds.length by omega];exact h3]
  unfold for3;simp![e1,e2,e3]
def JPa{i:Nat}{e:E}{b:S3}:JAS C f3 (.for1 i e b) U π=step3 ((evI (C π) e U).at π) λds π=>for3 (VI.put1 i) (JAS C f3 b) ds (JAJ e 0 U) π:=by simp![JAS]
section
variable{sub:Nat->Nat->Bool}
def rn296{n:Nat}:runR kR tabA tabR gloA sub π n 296 ds=run true tabA gloA sub n 296 ds:=by unfold runR;rfl
def rn297{n:Nat}:runR kR tabA tabR gloA sub π n 297 ds=run true tabA gloA sub n 297 ds:=by unfold runR;rfl
def I56(ns:List Int)(k:Nat)(U:VI.Env)(π:Ta):Prop:=∃P Dn s3 s4 s5,U=[.val (sc ns),.val (recD 0),.val (.dict P),s3,s4,s5]/\((s4=.no/\s5=.no)\/∃a b,s4=.val a/\s5=.val b)/\π=[scr P Dn []]/\Bk (5+2*k) k P/\Dn.length<=k
abbrev by56:S3:=#v[.st (.asg 4 (.call 296 #v[.var 0,.bin .Add (.cint 1000) (.bin .Mult (.cint 20) (.var 3))])),.st (.unp [2,5] (.call 297 #v[.var 2,.var 4])),.ife (.or (.cmp .NotEq (.cal 298 #v[.var 1,.var 4]) (.var 5)) (.or (.pur (.cmp .NotEq (.call 299 #v[.var 1]) (.var 2))) (.pur (.cmp .NotEq (.call 432 #v[.call 433 #v[.var 1]]) (.xop .dst #v[.var 2]))))) #v[.st (.ret (.cbl false))] .nil]
def JSL(s3:SubOk sub 3)(s38:sub 3 8=false)(s6:SubOk sub 6)(s68:sub 6 8=false)(ns:List Int){k:Nat}(hk:k<16)(h:I56 ns k U π):∃U1 U2 π2,VI.put1 3 (.int k) U=some U1/\JAS (λπ=>#[runR kR tabA tabR gloA sub π 20,gloA,sub]) (run3 kR tabA tabR tab3 gloA sub 20) by56 U1 π=.nx U2 π2/\I56 ns (k+1) U2 π2:=by
 obtain⟨P,Dn,t3,t4,t5,rfl,ht,rfl,b,hd⟩:=h;obtain⟨dd,ok,e1⟩:=JRe (sub:=sub) (m:=20) ns (1000+20*(k:Int)) ∅ ∅ ∅
 obtain⟨P',due,e2,b2,ne,r⟩:=dd_ok s3 s38 s6 s68 b ∅ ∅ ∅ ok
 have e2:=e2 20 ∅
 refine#[[.val (sc ns),.val (recD 0),.val (.dict P),.val (.int k),t4,t5],[.val (sc ns),.val (recD 0),.val (.dict P'),.val (.int k),.val dd.d,.val due],?_];have g:∃Dn',Dn'.length<=k+1/\run3 kR tabA tabR tab3 gloA sub 20 298 [recD 0,dd.d] [scr P Dn []]=.ok due [scr P' Dn' []]:=by
  rcases r with ⟨rfl,_,r⟩|⟨e,r⟩
  ·exact#[Dn,by omega,r _ 0 Dn [] 20 rfl ∅]
  ·exact#[Dn++[e],by rw[q_u];exact Nat.succ_le_succ hd,r _ 0 Dn [] 20 rfl ∅ ∅]
 obtain⟨Dn',hd',e3⟩:=g;have hh:[scr P' Dn' []][0]? = some (scr P' Dn' []):=rfl;obtain⟨Q,e4,bq,hq,hl⟩:=JRP (sub:=sub) (m:=20) hh b2 ∅ ∅
 have e5:=JOe b2 bq hq hl;obtain⟨zs,f1,f2,f3,f4,f5⟩:=JNO b2 ∅
 have e6:=JQR (sub:=sub) (m:=20) hh f1 ∅
 have e7:=JOO (zs:=zs) λz hz=>(f2 z hz).1;have mu:binD .Mult (.int 20) (.int (k:Int))=.ok (.int (20*(k:Int))):=JDi (by decide)
 have u2:JA1 2 (.tuple [.dict P',due])=.ok [.dict P',due]:=rfl;refine#[[scr P' Dn' []],rfl,?_,P',Dn',_,_,_,rfl,.inr #[_,_,rfl,rfl],rfl,by rw[show 5+2*(k+1)=5+2*k+2 by omega];exact b2,hd']
 rcases ht with ⟨rfl,rfl⟩|⟨a,b,rfl,rfl⟩<;>dsimp? [by56,rn296,rn297,mu,e1,e2,u2,JBK,List.set_cons_succ,List.set_cons_zero,e3,ne,e4,e5,e6,f5,e7,JLf hh,Bool.not_false]
 done
def JLp(s3:SubOk sub 3)(s38:sub 3 8=false)(s6:SubOk sub 6)(s68:sub 6 8=false)(ns:List Int)(hl:ns.length<=63):∃π,run3 kR tabA tabR tab3 gloA sub (20+1) 300 [.list (ns.map λi=>PyData.int i)] []=.ok (.bool true) π:=by
 have rg:rngD [.int 16]=.ok ((List.range 16).map λj:Nat=>PyData.int j):=rfl;obtain⟨U2,π2,e,P,Dn,t3,t4,t5,rfl,_,rfl,b,hd⟩:=JHm (put:=VI.put1 3) (body:=JAS (λπ=>#[runR kR tabA tabR gloA sub π 20,gloA,sub]) (run3 kR tabA tabR tab3 gloA sub 20) by56) (I56 ns) ((List.range 16).map λj:Nat=>PyData.int j) 0 [.val (sc ns),.val (recD 0),.val (.dict []),.no,.no,.no] [scr [] [] []] #[[],[],_,_,_,rfl,.inl #[rfl,rfl],rfl,Bk.nil,q_t _] λj d hj U π h=>by
  rw[Nat.zero_add]at h ⊢;rw[List.getElem?_map]at hj;obtain⟨a,ha,rfl⟩:=q_d.mp hj;obtain⟨hj2,rfl⟩:=q_p.mp ha;rw[List.length_range]at hj2;rw[List.getElem_range];exact JSL s3 s38 s6 s68 ns hj2 h
 have hh:[scr P Dn []][0]? = some (scr P Dn []):=rfl;have c:=co_ok (sub:=sub) (m:=20) hh ∅
 have i0:=in_ok (sub:=sub) (m:=20) ∅
 rw[r3S (n:=20) rfl,JAP rfl];show ∃π,end3 (JAS _ _ (.cons _ (.cons (.for1 3 (.rng (.cons (.cint 16) .nil)) by56) _)) [.val (sc ns),.no,.no,.no,.no,.no] [])=_;refine#[[scr P Dn []],?_]
 dsimp? [y_unp,List.nil_append,JRO,i0,show xD .dnw []=.ok (.dict []) from rfl,un1,un1.un2,JBK,List.set_cons_succ,List.set_cons_zero,JPa,rg,R.at,e,JNs hh,c,t21]
 rfl
end
end VI.VP
end
section
set_option Elab.async false
set_option maxHeartbeats 0
namespace V56
open PySem PySem.W VH L2 VI VI.VP
noncomputable abbrev prog:Program:=PySem.Challenge.pw_glideways_k56_whole_scores
abbrev top(i:Nat):Stmt:=prog.main.body.getD i (.Pass #[0,0,0,0])
abbrev meth(i j:Nat):Stmt:=(JR8 (top i)).getD j (.Pass #[0,0,0,0])
abbrev nt:List (String×Nat×Value):=[("__name__",165,.str "law_glideways_k56_whole_scores" 631),("__doc__",166,.none),("__package__",167,.none),("__loader__",168,.builtin "__main__.__loader__#opaque"),("__spec__",169,.none),("__annotations__",170,.ref 6),("__builtins__",171,.ref 4),("__file__",173,.str "/claim/cut.py" 172),("__cached__",174,.none),("_wall",193,.ref 21),("GlideError",213,.ref 31),("NoFrac",229,.ref 44),("NoKind",245,.ref 56),("NoPlan",261,.ref 68),("NoTrack",277,.ref 80),("NoTime",293,.ref 92),("NoName",309,.ref 104),("NoText",325,.ref 116),("NoBack",341,.ref 128),("is_whole",350,.ref 137),("common_divisor",361,.ref 144),("is_frac",370,.ref 151),("is_size",377,.ref 158),("frac",386,.ref 165),("times",394,.ref 172),("KINDS",403,.ref 173),("is_kind",410,.ref 180),("DEEPEST",414,.int 5 413),("MOST_AGAIN",416,.int 4 415),("is_plan",423,.ref 187),("is_plan_within",432,.ref 194),("is_many",439,.ref 201),("need_plan",446,.ref 208),("slower",454,.ref 215),("with_sizes_times",462,.ref 222),("LETTERS",466,.str "abcdefghijklmnopqrstuvwxyz" 465),("LONGEST",468,.int 6 467),("WORD",470,.int 0 469),("NAME",472,.int 1 471),("AHEAD",474,.int 2 473),("is_name",480,.ref 227),("Score",630,.ref 342),("_law_cell",640,.ref 353),("_law_pick",650,.ref 360),("_law_divisor",658,.ref 367),("_law_made",667,.ref 374),("_law_frac",676,.ref 381),("_law_size",685,.ref 388),("_law_plus",693,.ref 395),("_law_minus",701,.ref 402),("_law_times",709,.ref 409),("_law_over",717,.ref 416),("_law_less",725,.ref 423),("_law_kind",733,.ref 430),("_law_plan",746,.ref 437),("_law_steps",755,.ref 444),("_law_class",763,.ref 451),("_law_told",771,.ref 458),("_law_deed",782,.ref 465),("_law_behind",788,.ref 470),("_law_did",798,.ref 477),("_law_all_of",804,.ref 482),("law",816,.ref 489)]
abbrev mainE(P:Params):List DictEntry:=nt.map λp=>ent P p.1 p.2.1 p.2.2
abbrev mainN:Value:=.str "law_glideways_k56_whole_scores" 631
abbrev JCZ(P:Params)(m k:Nat)(v:Value):Obj:=dO (ent P "__name__" 165 v::((mainE P).take m).drop 1) k
abbrev twelve:List Value:=tw [(1,20),(5,27),(7,40),(9,52),(11,64),(13,76),(15,88),(17,100),(19,112),(21,124),(24,136),(26,143),(34,150),(42,157),(44,164),(51,171),(55,179),(60,186),(62,193),(75,200),(77,207),(80,214),(83,221),(97,226),(101,233),(174,352),(180,359),(183,366),(187,373),(190,380),(193,387),(196,394),(198,401),(200,408),(202,415),(204,422),(206,429),(208,436),(220,443),(229,450),(236,457),(241,464),(253,469),(271,476),(277,481),(279,488)]
abbrev gE(l:List Value):Obj:=#[.type "type",none,.cls { name:="GlideError",bases:=[.type "ValueError"],mro:=[.ref 31,.type "ValueError",.type "Exception",.type "BaseException",.type "object"],ns:=30,qualname:="GlideError",hasDict:=true,slotNames:=[],subclasses:=l,abstract:=false,hasDel:=false },(List.toArray [some (.ref 22),none,some (.str "GlideError" 196),some (.str "GlideError" 204),some (.builtin "ValueError.__new__"),some (.bool true)])]
abbrev clB(P:Params)(x:Str)(b t n:Nat):List Obj:=[tO [.ref 31],#[.type "builtin_function_or_method",none,.fields (List.toArray [.builtin "type.__prepare__",.type "type"]),#[]],dO [ent P "__module__" (t+7) (.str "glideways.errors" 194),ent P "__qualname__" (t+9) (.str x (t+8)),ent P "__firstlineno__" (t+11) (.int n (t+10)),ent P "__static_attributes__" (t+12) (.ref (b+7))] 4,tO [],fO [],#[.type "code",none,.fields (List.toArray [.str x (t+2),.str x (t+3),.str "/claim/cut.py" (t+4),.int n 0,.int 0 0,.int 0 0,.int 0 0,.int 0 0,.ref (b+3),.bool false,.int 181 0,.ref (b+4),.none,.none,.none,.none,.int (t+5) 0,.int n 0,.str "/claim/cut.py" (t+6)]),#[]],#[.type "frame",none,.plain,(List.toArray [some (.ref (b+5)),some (.ref 3),some (.ref (b+2)),none,some (.str "glideways.errors" 194),none,some (.ref 0)])],tO [],dO [ent P "__module__" (t+7) (.str "glideways.errors" 194),ent P "__firstlineno__" (t+11) (.int n (t+10)),ent P "__static_attributes__" (t+12) (.ref (b+7)),ent P "__doc__" (t+13) (.none)] 2,#[.type "type",none,.cls { name:=x,bases:=[.ref 31],mro:=[.ref (b+9),.ref 31,.type "ValueError",.type "Exception",.type "BaseException",.type "object"],ns:=b+8,qualname:=x,hasDict:=true,slotNames:=[],subclasses:=[],abstract:=false,hasDel:=false },(List.toArray [some (.ref b),none,some (.str x t),some (.str x (t+8)),some (.builtin "ValueError.__new__"),some (.bool true)])],#[.type "super",none,.fields (List.toArray [.ref (b+9),.ref (b+9),.ref (b+9)]),#[]],#[.type "builtin_function_or_method",none,.fields (List.toArray [.builtin "object.__init_subclass__",.ref (b+9)]),#[]]]
abbrev pv0:Value:=.str "__main__" 164
abbrev pv1:Value:=.str "glideways.fracs" 342
abbrev pv2:Value:=.str "glideways.kinds" 395
abbrev pv3:Value:=.str "glideways.plans" 411
abbrev pv4:Value:=.str "law_glideways_k56_whole_scores" 631
abbrev pv5:Value:=.str "glideways.scores" 463
abbrev ob(P:Params):List Obj:=[boot_o_0 P,boot_o_1 P,boot_o_2 P,JCZ P 63 63 mainN,boot_o_4 P,boot_o_5 P,boot_o_6 P,boot_o_7 P,boot_o_8 P,boot_o_9 P,boot_o_10 P,tO [],fO twelve,#[.type "code",none,.fields (List.toArray [.str "<module>" 182,.str "<module>" 183,.str "/claim/cut.py" 184,.int 1 0,.int 0 0,.int 0 0,.int 0 0,.int 0 0,.ref 11,.bool false,.int 181 0,.ref 12,.none,.none,.none,.none,.int 185 0,.int 1 0,.str "/claim/cut.py" 186]),#[]],#[.type "frame",none,.plain,(List.toArray [some (.ref 13),some (.ref 3),some (.ref 3),none,some (.str "__main__" 164),none,some (.ref 0)])]]++((dC (top 0) 190 15 pv0)++([tO [.type "ValueError"],#[.type "builtin_function_or_method",none,.fields (List.toArray [.builtin "type.__prepare__",.type "type"]),#[]],dO [ent P "__module__" 203 (.str "glideways.errors" 194),ent P "__qualname__" 205 (.str "GlideError" 204),ent P "__firstlineno__" 207 (.int 5 206),ent P "__static_attributes__" 208 (.ref 29)] 4,tO [],fO [],#[.type "code",none,.fields (List.toArray [.str "GlideError" 198,.str "GlideError" 199,.str "/claim/cut.py" 200,.int 5 0,.int 0 0,.int 0 0,.int 0 0,.int 0 0,.ref 25,.bool false,.int 181 0,.ref 26,.none,.none,.none,.none,.int 201 0,.int 5 0,.str "/claim/cut.py" 202]),#[]],#[.type "frame",none,.plain,(List.toArray [some (.ref 27),some (.ref 3),some (.ref 24),none,some (.str "glideways.errors" 194),none,some (.ref 0)])],tO [],dO [ent P "__module__" 203 (.str "glideways.errors" 194),ent P "__firstlineno__" 207 (.int 5 206),ent P "__static_attributes__" 208 (.ref 29),ent P "__weakref__" 210 (.ref 32),ent P "__doc__" 211 (.none)] 3,gE [.ref 44,.ref 56,.ref 68,.ref 80,.ref 92,.ref 104,.ref 116,.ref 128],#[.type "getset_descriptor",none,.fields (List.toArray [.str "__weakref__" 209,.ref 31,.builtin "ExceptionGroup.__weakref__",.none]),#[]],#[.type "super",none,.fields (List.toArray [.ref 31,.ref 31,.ref 31]),#[]],#[.type "builtin_function_or_method",none,.fields (List.toArray [.builtin "object.__init_subclass__",.ref 31]),#[]]]++((clB P "NoFrac" 35 214 7)++((clB P "NoKind" 47 230 9)++((clB P "NoPlan" 59 246 11)++((clB P "NoTrack" 71 262 13)++((clB P "NoTime" 83 278 15)++((clB P "NoName" 95 294 17)++((clB P "NoText" 107 310 19)++((clB P "NoBack" 119 326 21)++((dC (top 12) 347 131 pv1)++((dC (top 13) 354 138 pv1)++((dC (top 14) 365 145 pv1)++((dC (top 15) 374 152 pv1)++((dC (top 16) 381 159 pv1)++((dC (top 17) 390 166 pv1)++([tO (sqs 397 ["even","in","out","both","hold","jump"])]++((dC (top 20) 407 174 pv2)++((dC (top 24) 420 181 pv3)++((dC (top 25) 427 188 pv3)++((dC (top 26) 436 195 pv3)++((dC (top 27) 443 202 pv3)++((dC (top 28) 450 209 pv3)++((dC (top 29) 458 216 pv3)++((dD (top 36) 475 223 pv5++[tO [],#[.type "builtin_function_or_method",none,.fields (List.toArray [.builtin "type.__prepare__",.type "type"]),#[]],dO [ent P "__module__" 488 (.str "glideways.scores" 463),ent P "__qualname__" 490 (.str "Score" 489),ent P "__firstlineno__" 492 (.int 101 491),ent P "__init__" 499 (.ref 241),ent P "put" 509 (.ref 248),ent P "plan_of" 517 (.ref 255),ent P "take" 526 (.ref 262),ent P "chain" 535 (.ref 269),ent P "repeat" 544 (.ref 276),ent P "slow" 554 (.ref 283),ent P "change" 564 (.ref 290),ent P "do" 574 (.ref 297),ent P "set_plan" 583 (.ref 304),ent P "names" 590 (.ref 311),ent P "back" 598 (.ref 318),ent P "forth" 605 (.ref 325),ent P "counts" 612 (.ref 332),ent P "twin" 619 (.ref 339),ent P "__static_attributes__" 623 (.ref 340)] 19,tO [],fO [.int 103 0,.int 4 0,.ref 240,.int 108 0,.int 4 0,.ref 247,.int 116 0,.int 4 0,.ref 254,.int 121 0,.int 4 0,.ref 261,.int 126 0,.int 4 0,.ref 268,.int 129 0,.int 4 0,.ref 275,.int 132 0,.int 4 0,.ref 282,.int 138 0,.int 4 0,.ref 289,.int 143 0,.int 4 0,.ref 296,.int 148 0,.int 4 0,.ref 303,.int 154 0,.int 4 0,.ref 310,.int 157 0,.int 4 0,.ref 317,.int 165 0,.int 4 0,.ref 324,.int 168 0,.int 4 0,.ref 331,.int 171 0,.int 4 0,.ref 338],#[.type "code",none,.fields (List.toArray [.str "Score" 483,.str "Score" 484,.str "/claim/cut.py" 485,.int 101 0,.int 0 0,.int 0 0,.int 0 0,.int 0 0,.ref 231,.bool false,.int 181 0,.ref 232,.none,.none,.none,.none,.int 486 0,.int 101 0,.str "/claim/cut.py" 487]),#[]],#[.type "frame",none,.plain,(List.toArray [some (.ref 233),some (.ref 3),some (.ref 230),none,some (.str "glideways.scores" 463),none,some (.ref 0)])]]++(dM (meth 37 0) "Score.__init__" 496 235 pv5++(dM (meth 37 1) "Score.put" 503 242 pv5++(dM (meth 37 2) "Score.plan_of" 513 249 pv5++(dM (meth 37 3) "Score.take" 521 256 pv5++(dM (meth 37 4) "Score.chain" 530 263 pv5++(dM (meth 37 5) "Score.repeat" 539 270 pv5++(dM (meth 37 6) "Score.slow" 548 277 pv5++(dM (meth 37 7) "Score.change" 558 284 pv5++(dM (meth 37 8) "Score.do" 568 291 pv5++(dM (meth 37 9) "Score.set_plan" 578 298 pv5++(dM (meth 37 10) "Score.names" 587 305 pv5++(dM (meth 37 11) "Score.back" 594 312 pv5++(dM (meth 37 12) "Score.forth" 602 319 pv5++(dM (meth 37 13) "Score.counts" 609 326 pv5++(dM (meth 37 14) "Score.twin" 616 333 pv5++[tO (sqs 620 ["done","plans","undone"]),dO [ent P "__module__" 488 (.str "glideways.scores" 463),ent P "__firstlineno__" 492 (.int 101 491),ent P "__init__" 499 (.ref 241),ent P "put" 509 (.ref 248),ent P "plan_of" 517 (.ref 255),ent P "take" 526 (.ref 262),ent P "chain" 535 (.ref 269),ent P "repeat" 544 (.ref 276),ent P "slow" 554 (.ref 283),ent P "change" 564 (.ref 290),ent P "do" 574 (.ref 297),ent P "set_plan" 583 (.ref 304),ent P "names" 590 (.ref 311),ent P "back" 598 (.ref 318),ent P "forth" 605 (.ref 325),ent P "counts" 612 (.ref 332),ent P "twin" 619 (.ref 339),ent P "__static_attributes__" 623 (.ref 340),ent P "__dict__" 625 (.ref 343),ent P "__weakref__" 627 (.ref 344),ent P "__doc__" 628 (.none)] 4,#[.type "type",none,.cls { name:="Score",bases:=[.type "object"],mro:=[.ref 342,.type "object"],ns:=341,qualname:="Score",hasDict:=true,slotNames:=[],subclasses:=[],abstract:=false,hasDel:=false },(List.toArray [none,none,some (.str "Score" 481),some (.str "Score" 489),some (.builtin "object.__new__"),some (.bool true)])],#[.type "getset_descriptor",none,.fields (List.toArray [.str "__dict__" 624,.ref 342,.builtin "function.__dict__",.builtin "function.__dict__#set"]),#[]],#[.type "getset_descriptor",none,.fields (List.toArray [.str "__weakref__" 626,.ref 342,.builtin "ExceptionGroup.__weakref__",.none]),#[]],#[.type "super",none,.fields (List.toArray [.ref 342,.ref 342,.ref 342]),#[]],#[.type "builtin_function_or_method",none,.fields (List.toArray [.builtin "object.__init_subclass__",.ref 342]),#[]]]++((dC (top 39) 636 347 pv4)++((dC (top 40) 644 354 pv4)++((dC (top 41) 654 361 pv4)++((dC (top 42) 662 368 pv4)++((dC (top 43) 671 375 pv4)++((dC (top 44) 680 382 pv4)++((dC (top 45) 689 389 pv4)++((dC (top 46) 697 396 pv4)++((dC (top 47) 705 403 pv4)++((dC (top 48) 713 410 pv4)++((dC (top 49) 721 417 pv4)++((dC (top 50) 729 424 pv4)++((dC (top 51) 737 431 pv4)++((dC (top 52) 750 438 pv4)++((dC (top 53) 759 445 pv4)++((dC (top 54) 767 452 pv4)++((dC (top 55) 775 459 pv4)++((dD (top 56) 783 466 pv4++[tO [],fO [],tO (sqs 792 ["_law_score","_law_deed_here"]),tO (sqs 794 ["_law_score","_law_deed_here"]),f1 (top 57),cO "_law_did" 789 271 2 3 471 true 271 796,f2 (top 57) (.str "law_glideways_k56_whole_scores" 631) 476]++(dD (top 58) 799 478 pv4++((dC (top 59) 808 483 pv4)))))))))))))))))))))))))))))))))))))))))))))))))))))))))))))))
abbrev l0(P:Params):List Obj:=put 12 (fO (twelve.take 0)) (put 3 (JCZ P 9 9 (.str "__main__" 164)) ((ob P).take 15))
abbrev l1(P:Params):List Obj:=put 31 (gE []) (put 12 (fO (twelve.take 6)) (put 3 (JCZ P 11 11 (.str "glideways.errors" 194)) ((ob P).take 35)))
@[reducible]def PR(a b:Nat)(l:Params->List Obj)(n k d t:Nat)(c:Pos)(l2:Params->List Obj)(n2 k2:Nat)(c2:Pos):Prop:=∀(w:World) (os:OsState),segRunT treeTable prog w 11 (some (.ref 6)) a b (sT (l w.params) n k os) (piecesOf ((prog.main.body.drop d).take t) (envOf prog) (cdOf prog) c [topFrame rP])=some (.next,sT (l2 w.params) n2 k2 os,cdOf prog,c2)
def p0:PR 1 225 l0 15 187 0 3 #[0,0,0,0] l1 35 214 #[5,0,6,8]:=λw os=>by kernel_rfl
abbrev l2(P:Params):List Obj:=put 31 (gE [.ref 44]) (put 12 (fO (twelve.take 9)) (put 3 (JCZ P 12 12 (.str "glideways.errors" 194)) ((ob P).take 47)))
def p1:PR 1 214 l1 35 214 3 1 #[5,0,6,8] l2 47 230 #[7,0,8,8]:=λw os=>by kernel_rfl
abbrev l3(P:Params):List Obj:=put 31 (gE [.ref 44,.ref 56]) (put 12 (fO (twelve.take 12)) (put 3 (JCZ P 13 13 (.str "glideways.errors" 194)) ((ob P).take 59)))
def p2:PR 1 214 l2 47 230 4 1 #[7,0,8,8] l3 59 246 #[9,0,10,8]:=λw os=>by kernel_rfl
abbrev l4(P:Params):List Obj:=put 31 (gE [.ref 44,.ref 56,.ref 68]) (put 12 (fO (twelve.take 15)) (put 3 (JCZ P 14 14 (.str "glideways.errors" 194)) ((ob P).take 71)))
def p3:PR 1 214 l3 59 246 5 1 #[9,0,10,8] l4 71 262 #[11,0,12,8]:=λw os=>by kernel_rfl
abbrev l5(P:Params):List Obj:=put 31 (gE [.ref 44,.ref 56,.ref 68,.ref 80]) (put 12 (fO (twelve.take 18)) (put 3 (JCZ P 15 15 (.str "glideways.errors" 194)) ((ob P).take 83)))
def p4:PR 1 214 l4 71 262 6 1 #[11,0,12,8] l5 83 278 #[13,0,14,8]:=λw os=>by kernel_rfl
abbrev l6(P:Params):List Obj:=put 31 (gE [.ref 44,.ref 56,.ref 68,.ref 80,.ref 92]) (put 12 (fO (twelve.take 21)) (put 3 (JCZ P 16 16 (.str "glideways.errors" 194)) ((ob P).take 95)))
def p5:PR 1 214 l5 83 278 7 1 #[13,0,14,8] l6 95 294 #[15,0,16,8]:=λw os=>by kernel_rfl
abbrev l7(P:Params):List Obj:=put 31 (gE [.ref 44,.ref 56,.ref 68,.ref 80,.ref 92,.ref 104]) (put 12 (fO (twelve.take 24)) (put 3 (JCZ P 17 17 (.str "glideways.errors" 194)) ((ob P).take 107)))
def p6:PR 1 214 l6 95 294 8 1 #[15,0,16,8] l7 107 310 #[17,0,18,8]:=λw os=>by kernel_rfl
abbrev l8(P:Params):List Obj:=put 31 (gE [.ref 44,.ref 56,.ref 68,.ref 80,.ref 92,.ref 104,.ref 116]) (put 12 (fO (twelve.take 27)) (put 3 (JCZ P 18 18 (.str "glideways.errors" 194)) ((ob P).take 119)))
def p7:PR 1 214 l7 107 310 9 1 #[17,0,18,8] l8 119 326 #[19,0,20,8]:=λw os=>by kernel_rfl
abbrev l9(P:Params):List Obj:=put 12 (fO (twelve.take 48)) (put 3 (JCZ P 25 25 (.str "glideways.kinds" 395)) ((ob P).take 173))
def p8:PR 1 415 l8 119 326 10 9 #[19,0,20,8] l9 173 397 #[53,0,53,8]:=λw os=>by kernel_rfl
abbrev l10(P:Params):List Obj:=put 12 (fO (twelve.take 72)) (put 3 (JCZ P 41 41 (.str "glideways.scores" 463)) ((ob P).take 228))
def p9:PR 1 331 l9 173 397 19 18 #[53,0,53,8] l10 228 481 #[97,0,100,51]:=λw os=>by kernel_rfl
abbrev l11(P:Params):List Obj:=put 12 (fO (twelve.take 75)) (put 3 (JCZ P 42 42 (.str "glideways.scores" 463)) ((ob P).take 347))
def p10:PR 1 680 l10 228 481 37 1 #[97,0,100,51] l11 347 631 #[101,0,172,16]:=λw os=>by kernel_rfl
abbrev l12(P:Params):List Obj:=put 12 (fO (twelve.take 114)) (put 3 (JCZ P 55 55 (.str "law_glideways_k56_whole_scores" 631)) ((ob P).take 438))
def p11:PR 1 410 l11 347 631 38 14 #[101,0,172,16] l12 438 747 #[208,0,219,117]:=λw os=>by kernel_rfl
abbrev l13(P:Params):List Obj:=ob P
def p12:PR 1 243 l12 438 747 52 8 #[208,0,219,117] l13 490 817 #[279,0,286,38]:=λw os=>by kernel_rfl
def pre(w:World)(os:OsState):topGo treeTable prog w 11 (some (.ref 6)) 12 #[boot_heap w.params,Array.mk [],boot_drawn,boot_toks,os] (topStub prog)=some (sH (l0 w.params) 187 os,#[denote treeTable (cdOf prog),cdOf prog,#[0,0,0,0],[topFrame rP]]):=by kernel_rfl
def blk(w:World)(os:OsState):segRun treeTable prog w 11 (some (.ref 6)) 1 1 (sH (l0 w.params) 187 os) (blockOf (behindTheImports prog) (envOf prog) (cdOf prog) #[0,0,0,0] [topFrame rP])=some (.next,(sT (l0 w.params) 15 187 os).abs,cdOf prog,#[0,0,0,0]):=by kernel_rfl
def fin(w:World)(os:OsState):topRun treeTable prog w 11 (some (.ref 6)) 2 (sT (l13 w.params) 490 817 os).abs #[doneF .next,cdOf prog,#[279,0,286,38],[topFrame rP]]=some (sH (l13 w.params) 817 os):=by kernel_rfl
theorem body:behindTheImports prog=(((prog.main.body.drop 0).take 3)++(((prog.main.body.drop 3).take 1)++(((prog.main.body.drop 4).take 1)++(((prog.main.body.drop 5).take 1)++(((prog.main.body.drop 6).take 1)++(((prog.main.body.drop 7).take 1)++(((prog.main.body.drop 8).take 1)++(((prog.main.body.drop 9).take 1)++(((prog.main.body.drop 10).take 9)++(((prog.main.body.drop 19).take 18)++(((prog.main.body.drop 37).take 1)++(((prog.main.body.drop 38).take 14)++(((prog.main.body.drop 52).take 8)++[]))))))))))))):=by kernel_rfl
def rn(w:World)(os:OsState):topRun treeTable prog w 11 (some (.ref 6)) (12+(1+(225+(214+(214+(214+(214+(214+(214+(214+(415+(331+(680+(410+(243+2))))))))))))))) #[boot_heap w.params,Array.mk [],boot_drawn,boot_toks,os] (topStub prog)=some (sH (l13 w.params) 817 os) :=
 go_top (pre w os) (piece_block (blk w os) (body▸(piece_app (segRun_of (p0 w os)) (piece_app (segRun_of (p1 w os)) (piece_app (segRun_of (p2 w os)) (piece_app (segRun_of (p3 w os)) (piece_app (segRun_of (p4 w os)) (piece_app (segRun_of (p5 w os)) (piece_app (segRun_of (p6 w os)) (piece_app (segRun_of (p7 w os)) (piece_app (segRun_of (p8 w os)) (piece_app (segRun_of (p9 w os)) (piece_app (segRun_of (p10 w os)) (piece_app (segRun_of (p11 w os)) (piece_app (segRun_of (p12 w os)) (piece_nil (fin w os)))))))))))))))))
abbrev ktok:Nat:=817
abbrev view:Program:={ prog with main:={ prog.main with body:=[top 59] } }
abbrev loose:List Str:=(nt.drop 9).dropLast.map λp=>Str.ofString p.1
abbrev κ:Kl:=#[342,["plans","done","undone"],[(472,("_law_did.<locals>.<lambda>":Str))]]
abbrev K0(P:Params):Frag:=(List.range 490).zip (ob P)
abbrev K(P:Params):Frag:=JBf (κ.tb.map (·.1)) (K0 P)
abbrev hk:Hook:=kHook K0 (List.range 490) (λ_=>by kernel_rfl)
def left:LeftO prog view loose (λs=>xlAt view [] s&&recOk (RowW.records PySem.Challenge.rw_glideways_k56_whole_scores.row.toRowW) s) hk.obs hk.val 8304 true :=
 LeftO.of_pieces (H₀:=boot_heap) (H₁:=λP=>#[(l13 P).toArray,{}]) (gs₀:=Array.mk []) (gs₁:=#[]) (d₀:=boot_drawn) (d₁:={}) (k₀:=boot_toks) (k₁:=ktok) (m₀:=11) (ann:=some (.ref 6))
  (boot_open ⋯ (by decide) (λs=>by kernel_rfl)) (λw=>by kernel_rfl) (λw os=>rn w os) (by decide +kernel) (λw=>by kernel_rfl)
abbrev G:Lz:=gX [("GlideError",0),("NoFrac",1),("NoKind",2),("NoPlan",3),("NoTrack",4),("NoTime",5),("NoName",6),("NoText",7),("NoBack",8)]++(gF [("is_whole",23),("common_divisor",0),("is_frac",24),("is_size",68),("frac",1),("times",5),("is_kind",29),("is_plan",140),("is_plan_within",141),("is_many",142),("need_plan",153),("slower",160),("with_sizes_times",161),("is_name",287),("_law_cell",11),("_law_pick",12),("_law_divisor",13),("_law_made",14),("_law_frac",15),("_law_size",16),("_law_kind",35),("_law_plan",146),("_law_deed",296),("_law_behind",297)]++(gC [("KINDS",41),("DEEPEST",151),("MOST_AGAIN",152),("LETTERS",289),("LONGEST",290),("WORD",291),("NAME",292),("AHEAD",293)]++([(("len":Str),GK.blt Blt.len),(("abs":Str),GK.blt Blt.abs),(("all":Str),GK.blt Blt.all),(("range":Str),GK.rng),(("isinstance":Str),GK.isi),(("sorted":Str),GK.nam),(("int":Str),GK.ty Ty.int),(("bool":Str),GK.ty Ty.bool),(("str":Str),GK.ty Ty.str),(("tuple":Str),GK.ty Ty.tuple),(("dict":Str),GK.ty Ty.dict),(("ValueError":Str),GK.ty Ty.valueError)]++gO [".met",".dst",".dpr",".dnw",".dct","_law_made_here"])))
abbrev Gr:Lz:=[(("plans":Str),GK.rco 400),(("done":Str),GK.rco 410),(("undone":Str),GK.rco 420),(("plan_of":Str),GK.rcm 430 431),(("names":Str),GK.rcm 432 433),(("counts":Str),GK.rcm 434 435),(("_law_all_of":Str),GK.fn 299),((".rec":Str),GK.opt)]
noncomputable abbrev G1:Lz:=G++Gr
instance:Cool G:=#[⋯]
instance:Cool G1:=#[⋯]
abbrev L:List (Str×GK3):=[(("put":Str),GK3.met 440),(("take":Str),GK3.met 441),(("chain":Str),GK3.met 442),(("repeat":Str),GK3.met 443),(("slow":Str),GK3.met 444),(("change":Str),GK3.met 445),(("do":Str),GK3.met 446),(("set_plan":Str),GK3.met 447),(("Score":Str),GK3.mak 460),(("_law_did":Str),GK3.fn 298),(("_law_told":Str),GK3.tld 0 d_254)]
abbrev fl:List Str:=["plans","done","undone"]
noncomputable abbrev tab:Nat->Option Fd:=tabA
noncomputable abbrev glo:Nat->R D:=gloA
def JKR:∀i c,glo i≠.exc c:=by
 intro i c h;unfold glo gloA at h
 split at h<;>cases h
abbrev rs:List (Nat×List Nat):=[(3,[0,3]),(6,[0,6])]
abbrev cl(k:Nat):Addr:=match k with|0=>31|1=>44|2=>56|3=>68|4=>80|5=>92|6=>104|7=>116|8=>128|_=>0
noncomputable abbrev Bq(w:World):Bs:=#[K w.params,cl,w,λ_ _ _=>False,λ_ _ _ _ _ h=>h]
abbrev pm0:Value:=.str "glideways.fracs" 342
abbrev pm1:Value:=.str "glideways.kinds" 395
abbrev pm2:Value:=.str "glideways.plans" 411
abbrev pm3:Value:=.str "glideways.scores" 463
abbrev pm4:Value:=.str "law_glideways_k56_whole_scores" 631
def mo(w:World)(ρ:Tb){h:Heap}{mg:Mq}(X:(K w.params).In h)(Gm:h.Ns mainGlobals mg):AllP (MoP mg (JAB κ (Bq w) ρ) G tab glo) G :=
 #[#[#[⋯,⋯,⋯],mg_of X Gm ⋯],#[#[⋯,⋯,⋯],mg_of X Gm ⋯],#[#[⋯,⋯,⋯],mg_of X Gm ⋯],#[#[⋯,⋯,⋯],mg_of X Gm ⋯],#[#[⋯,⋯,⋯],mg_of X Gm ⋯],#[#[⋯,⋯,⋯],mg_of X Gm ⋯],#[#[⋯,⋯,⋯],mg_of X Gm ⋯],#[#[⋯,⋯,⋯],mg_of X Gm ⋯],#[#[⋯,⋯,⋯],mg_of X Gm ⋯],#[_,rfl,dJ X Gm 137 pm0 (top 12)],#[_,rfl,dJ X Gm 144 pm0 (top 13)],#[_,rfl,dJ X Gm 151 pm0 (top 14)],#[_,rfl,dJ X Gm 158 pm0 (top 15)],#[_,rfl,dJ X Gm 165 pm0 (top 16)],#[_,rfl,dJ X Gm 172 pm0 (top 17)],#[_,rfl,dJ X Gm 180 pm1 (top 20)],#[_,rfl,dJ X Gm 187 pm2 (top 24)],#[_,rfl,dJ X Gm 194 pm2 (top 25)],#[_,rfl,dJ X Gm 201 pm2 (top 26)],#[_,rfl,dJ X Gm 208 pm2 (top 27)],#[_,rfl,dJ X Gm 215 pm2 (top 28)],#[_,rfl,dJ X Gm 222 pm2 (top 29)],#[_,rfl,dJ X Gm 227 pm3 (top 36)],#[_,rfl,dJ X Gm 353 pm4 (top 39)],#[_,rfl,dJ X Gm 360 pm4 (top 40)],#[_,rfl,dJ X Gm 367 pm4 (top 41)],#[_,rfl,dJ X Gm 374 pm4 (top 42)],#[_,rfl,dJ X Gm 381 pm4 (top 43)],#[_,rfl,dJ X Gm 388 pm4 (top 44)],#[_,rfl,dJ X Gm 430 pm4 (top 50)],#[_,rfl,dJ X Gm 437 pm4 (top 51)],#[_,rfl,dJ X Gm 465 pm4 (top 55)],#[_,rfl,dJ X Gm 470 pm4 (top 56)],cJ X Gm rfl,cJ X Gm rfl,cJ X Gm rfl,cJ X Gm rfl,cJ X Gm rfl,cJ X Gm rfl,cJ X Gm rfl,cJ X Gm rfl,mg_none_of X Gm ⋯,mg_none_of X Gm ⋯,mg_none_of X Gm ⋯,mg_none_of X Gm ⋯,mg_none_of X Gm ⋯,mg_none_of X Gm ⋯,mg_none_of X Gm ⋯,mg_none_of X Gm ⋯,mg_none_of X Gm ⋯,mg_none_of X Gm ⋯,mg_none_of X Gm ⋯,mg_none_of X Gm ⋯,trivial,trivial,trivial,trivial,trivial,trivial,trivial]
def ra(w:World)(ρ:Tb):AllR (RaP (JAB κ (Bq w) ρ) G) rs :=
 #[#[#[#[⋯,⋯,⋯,⋯,⋯,⋯,⋯],⋯],JL7 ⋯ ⋯,JCq ⋯,JCq ⋯,JL7 ⋯ ⋯,JCq ⋯,JCq ⋯,JCq ⋯,JCq ⋯,JCq ⋯,JGc ⋯],#[#[#[⋯,⋯,⋯,⋯,⋯,⋯,⋯],⋯],JL7 ⋯ ⋯,JCq ⋯,JCq ⋯,JCq ⋯,JCq ⋯,JCq ⋯,JL7 ⋯ ⋯,JCq ⋯,JCq ⋯,JGc ⋯],trivial]
def rc(w:World){h:Heap}{mg:Mq}(X:(K w.params).In h)(Gm:h.Ns mainGlobals mg):AllP (RcP mg κ (K w.params) kR tabR G1) Gr :=
 #[#[rfl,own7 rfl rfl rfl rfl rfl rfl rfl,naI,rfl],#[rfl,own7 rfl rfl rfl rfl rfl rfl rfl,naI,rfl],#[rfl,own7 rfl rfl rfl rfl rfl rfl rfl,naI,rfl],#[rfl,rfl,rJ "Score.plan_of" 255 pm3 (meth 37 2) rfl],#[rfl,rfl,rJ "Score.names" 311 pm3 (meth 37 10) rfl],#[rfl,rfl,rJ "Score.counts" 332 pm3 (meth 37 13) rfl],rF X Gm 482 pm4 (top 58) rfl rfl,trivial,trivial]
def r3(w:World){h:Heap}{mg:Mq}(X:(K w.params).In h)(Gm:h.Ns mainGlobals mg):AllL (R3P mg κ (K w.params) tab3 G1 L fl) L :=
 #[m3J (x:="put") "Score.put" 248 pm3 (meth 37 1) mthI rfl,m3J (x:="take") "Score.take" 262 pm3 (meth 37 3) mthI rfl,m3J (x:="chain") "Score.chain" 269 pm3 (meth 37 4) mthI rfl,m3J (x:="repeat") "Score.repeat" 276 pm3 (meth 37 5) mthI rfl,m3J (x:="slow") "Score.slow" 283 pm3 (meth 37 6) mthI rfl,m3J (x:="change") "Score.change" 290 pm3 (meth 37 7) mthI rfl,m3J (x:="do") "Score.do" 297 pm3 (meth 37 8) mthI rfl,m3J (x:="set_plan") "Score.set_plan" 304 pm3 (meth 37 9) mthI rfl,#[mg_of X Gm ⋯,m3J (x:="__init__") "Score.__init__" 241 pm3 (meth 37 0) #[⋯,⋯,⋯,⋯] rfl],f3J true X Gm 477 pm4 (top 57) rfl (λ_=>lamC (od:=none) (sl:=#[]) (sl2:=#[]) (bm:=4) (c:=476) (P:=472) (vs:=(List.toArray [.str "_law_did" 789,.str "_law_did" 790,.str "/claim/cut.py" 791,.int 271 0,.int 2 0,.int 0 0,.int 0 0,.int 3 0,.ref 471,.bool true,.int 181 0,.ref 472,.none,.ref 473,.ref 474,.ref 475,.int 796 0,.int 271 0,.str "/claim/cut.py" 797])) X Gm ⋯ ⋯ rfl rfl rfl rfl rfl rfl (by decide) ⋯ (by decide) (by decide) (by decide) ⋯),tlJ (cn:="_law_class") (gn:="GlideError") (d:="_law_deed_here") (en:="e") (xk:="_law_kept") (Nc:=["_law_kept","_law_kinds"]) X Gm 458 451 pm4 pm4 (top 54) (top 53) toldI ⋯ tuI (bOk λ_ _ _ _ _ _ _=>rfl) (bOk λ_ _ _ _ _ _ _=>rfl),trivial]
def mo3(w:World){h:Heap}{mg:Mq}(X:(K w.params).In h)(Gm:h.Ns mainGlobals mg):Mo3 mg κ (Bq w) kR tab tabR tab3 glo (JE5 rs) G G1 L fl :=
 JPb (λρ=>mo w ρ X Gm) (λρ=>ra w ρ) JKR ⋯ (rc w X Gm) (r3 w X Gm) #[⋯,⋯,⋯,⋯] (JFC #[naI,naI,naI,trivial]) (JFC #[naI,naI,naI,trivial])
def gnd:(G1.map (·.1)).Nodup:=by decide +kernel
def walk{d:DefRec}(hd:d.name="law")(hdf:d.params.defaults=[]):WalkO view loose (XL view []) hk.says PySem.Challenge.rw_glideways_k56_whole_scores.row.toRowW d [] (λf vs=>PySem.call f vs) :=
 walk5 (l:=PySem.Challenge.rw_glideways_k56_whole_scores) (K0:=K0) (n:=20) (i:=300) (cl:=cl) (κ:=κ) (kR:=kR) (tab:=tab) (tabR:=tabR) (tab3:=tab3) (glo:=glo) (sub:=JE5 rs) (G0:=G) (G1:=G1) (L:=L) (fl:=fl) (x:="_law_script") (st:=top 59) (N:=["_law_script","_law_score","_law_known","_law_k","_law_deed_here","_law_due"]) (fd:=JS6) (lam:=false)
  rfl hd hdf #[rfl,by decide,by decide] (λw h Y0=>kIn_of Y0) (λP=>#[#[⋯,476,JFd (od:=none) (sl:=#[]) (vs:=(List.toArray [.str "_law_did" 789,.str "_law_did" 790,.str "/claim/cut.py" 791,.int 271 0,.int 2 0,.int 0 0,.int 0 0,.int 3 0,.ref 471,.bool true,.int 181 0,.ref 472,.none,.ref 473,.ref 474,.ref 475,.int 796 0,.int 271 0,.str "/claim/cut.py" 797])) ⋯ rfl rfl rfl rfl rfl rfl (by decide)],trivial]) (λP=>fnI 489 488 (.str "law_glideways_k56_whole_scores" 631)) t3I rfl (bOk λ_ _ _ _ _ _ _=>rfl) gnd
  (λz=>by cases z) (λw h mg KX Gm=>mo3 w KX Gm)
  (λw h mg KX Gm ρ n=>#[#[JGO (JJx (mo w ρ KX Gm) (ra w ρ)) (λk z=>by cases k with|dst=>exact JQb|dpr=>exact JRh|dnw=>exact JPu|dcp=>exact x_no ⋯ z) #[λ_ X XX g=>JGC g,λ_ X XX g=>JGD g,JMk,nofl ⋯] (nofl ⋯),⟨⟩],
    #[JGO (JIu (JJx (mo w ρ KX Gm) (ra w ρ)) (rc w KX Gm)) (λk z=>by cases k with|dst=>exact JQb|dpr=>exact JRh|dnw=>exact JPu|dcp=>exact x_no ⋯ z) #[λ_ X XX g=>JGC g,λ_ X XX g=>JGD g,JMk,nofl ⋯] (λ_=>r_rcd),⟨⟩],
    #[JGO (JOq (JKD gnd) (JIu (JJx (mo w ρ KX Gm) (ra w ρ)) (rc w KX Gm))) (λk z=>by cases k with|dst=>exact x_no ⋯ z|dpr=>exact x_no ⋯ z|dnw=>exact x_no ⋯ z|dcp=>exact x_no ⋯ z) #[λ_ X XX g=>JGC g,λ_ X XX g=>JGD g,nofl ⋯,nofl ⋯] (nofl ⋯),⟨⟩]])
  (λns hl=>JLp #[rfl,rfl,rfl,rfl,rfl,rfl,rfl,rfl,rfl] rfl #[rfl,rfl,rfl,rfl,rfl,rfl,rfl,rfl,rfl] rfl ns hl)
end V56
open PySem PySem.W PyProof.Rows
set_option maxRecDepth 100000 in
set_option maxHeartbeats 0 in
theorem PySem.Challenge.cw_glideways_k56_whole_scores_holds : PySem.Challenge.rw_glideways_k56_whole_scores.Holds := by
 w_on
 refine holds_law V56.said λsaid=>?_;refine holds_open (q:=V56.view) (loose:=V56.loose) (XP:=XL V56.view []) (Yf:=V56.hk.obs) (Ya:=V56.hk.val) (YP:=V56.hk.says) V56.left V56.hk.of V56.hk.keeps (λs e=>xl_of s (Bool.and_eq_true_iff.mp e).1) XL.keeps (by rfl) (by rfl) (by rfl) (λs e=>recFacts_of (Bool.and_eq_true_iff.mp e).2) (by rfl) (by first|assumption|decide +kernel) (by decide +kernel) #[rfl,rfl,rfl,rfl,rfl,by decide +kernel] ?hw (V56.walk rfl rfl)
 case hw=>w_witness2
end
