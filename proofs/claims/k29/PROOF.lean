import PyProof.Rows.All
import Lean
import PyProof.EqAt
import PyProof.EqKinds
import PyProof.TupleCall
import KE.KIntText
import PyProof.CompFree
import PyProof.P3Eq
import PyProof.NeData
import PyProof.StrLawsTight
import PyProof.StrLawsReplace
import PyProof.StrCalls2
import KE.IntTextLaws
import KE.KMinBuiltin
import PyProof.WalkInts
import PyProof.Rows.CallKwBuiltin
import PyProof.Rows.CallKw2
import PyProof.SetScanFacts
import PyProof.SetKind
import PyProof.DictStraight
import PyProof.Rows.SetFrom
import PyProof.DictIter
import PyProof.Walks
import PyProof.FactsAll.set_1
import PyProof.Rows.TupIn
import PyProof.CollectWalk
import PyProof.FactsAll.set_2
import PyProof.Rows.SortWalk
import PyProof.MeetsStr
import PyProof.StrLaws
import PyProof.StrBlockL
import PyProof.ListRange
import PyProof.ZipIter
import PyProof.EnumMake
import PyProof.Rows.EnumRows
import PyProof.Rows.FactsT2
import PyProof.DictWalks
import PyProof.Conv_int_bool
import KE.KRevSl
import KE.KLam
import KE.KMinKey
import PyProof.StrWalks
import PyProof.DictItems
import KE.KPairComp
import KE.KFromBytes
import KE.KTryOn
import KE.KRevIter
import KE.KNestM
import KE.KDictOf
import KE.RegKIsAll
import KE.RegKTryMore
import PySem.Challenge.RW_roadbook_k29_notices_refused
noncomputable section
local macro_rules|`(tactic| lia) => `(tactic| first|decide +kernel|omega|(intro _ _ _ _ h; cases h; subst_vars; rfl))
set_option maxRecDepth 100000
set_option maxHeartbeats 4000000
set_option bootstrap.genMatcherCode false
set_option Elab.async false
set_option linter.all false
namespace L2
open PySem PySem.Spec PyProof.Rows
def Sa:=@wpAny_bind
def Sb:=@wpAny_pure
def Sc:=@Heap.get?_push_of_some
def Sd:=@Heap.get?_push_size
def Se:=@Heap.lt_size
def Sf:=@Nat.ne_of_lt
def Sg:=@Nat.le_refl
def Sh:=@Nat.le_trans
def Si:=@Nat.lt_of_lt_of_le
def Sj:=@Nat.lt_of_le_of_lt
def Sk:=@Nat.zero_le
def Sl:=@Nat.lt_irrefl
def Sm:=@Nat.lt_succ_self
def Sn:=@Nat.lt_succ_of_lt
def So:=@Option.some.inj
def Sr:=@List.getElem?_eq_some_iff
def Ss:=@List.getElem?_eq_getElem
def Su:=@List.length_append
def Sv:=@List.length_map
def Sw:=@List.length_singleton
def Sx:=@List.length_take
def Sy:=@List.length_cons
def Sz:=@List.length_replicate
def SA:=@List.length_drop
def SB:=@List.mem_cons_of_mem
def SC:=@List.mem_cons_self
def SD:=@List.mem_singleton
def SE:=@List.mem_cons
def SF:=@List.mem_append
def SG:=@List.mem_append_right
def SH:=@List.mem_append_left
def SI:=@List.mem_map
def SJ:=@List.mem_of_getElem?
def SK:=@List.map_append
def SL:=@List.map_cons
def SM:=@List.size_toArray
def SN:=@Bool.false_ne_true
def SO:=@decide_eq_true
def SQ:=@decide_eq_false
def SR:=@of_decide_eq_true
def SS:=@of_decide_eq_false
def SU:=@if_neg
def SV:=@if_pos
def SW:=@Int.natCast_emod
def SX:=@Int.natCast_ediv
def SY:=@List.take_of_length_le
def SZ:=@List.take_add_one
def S0:=@List.getElem?_map
def Oa:=@List.getElem?_append_right
def Ob:=@List.append_nil
def Oc:=@List.append_assoc
def Od:=@List.map_map
def Oe:=@List.map_take
def Of:=@Option.map_eq_some_iff
def Og:=@Nat.not_lt
def Oh:=@Bool.eq_false_iff
def Oi:=@List.getElem_mem
def Oj:=@List.range_succ
def Ol:=@List.nodup_cons
def Om:=@Nat.le_add_left
def On:=@Nat.le_add_right
def Oo:=@Nat.mod_lt
def Op:=@wpAny_mono
def Oq:=@absurd
def Os:=@Bool.true_and
abbrev Ot:=Value->Shared->Prop
abbrev Ou:=List (Addr×Obj)
abbrev Ov:=Str->Option Value
abbrev Ow:=W.Frag
abbrev Ox:=PySem.W.Frag
abbrev Oy:=List (Str×Addr)
abbrev Oz:=Array (Option Value)
abbrev OA:=Unit->Shared->Prop
abbrev OB:=List Value
abbrev OC:=List Str
abbrev OD:=List Expr
abbrev OE:=List Int
abbrev OF:=Option Addr
abbrev OG:=List Nat
abbrev OH:=List Addr
abbrev OI:=SetTable
abbrev OJ:=FuncData
abbrev OK:=Str.ofString
theorem R{α:Sort u}{a:α}:a=a:=rfl
abbrev Zl:=Sum Int Str
def Q7:Zl->Value->Bool
 |.inl k,v=>Value.isInt k v
 |.inr x,v=>Value.isStrOf x v
def Zb3(w:World):Zl->Int
 |.inl k=>hashInt k
 |.inr x=>hashStr w x
theorem Uv:∀{k:Zl} {v:Value},Q7 k v=true->(∃i t,k=Sum.inl i/\v=Value.int i t)\/(∃x t,k=Sum.inr x/\v=Value.str x t)
 |.inl i,v,h=>by
  obtain⟨t,e⟩:=Value.isInt_shape (k:=i) (v:=v) h;exact .inl ⟨i,t,R,e⟩
 |.inr x,v,h=>by
  obtain⟨t,e⟩:=Value.isStrOf_shape (x:=x) (v:=v) h;exact .inr ⟨x,t,R,e⟩
theorem Zb4(i:Int)(t:Tok):Q7 (.inl i) (.int i t)=true:=by simp[Q7,Value.isInt]
theorem Zb5(x:Str)(t:Tok):Q7 (.inr x) (.str x t)=true:=by simp[Q7,Value.isStrOf]
theorem Zb6(a b:Int):decide ((Sum.inl a:Zl)=Sum.inl b)=(a == b):=by
 by_cases e:a=b
 ·subst e;simp
 ·have h:¬ (Sum.inl a:Zl)=Sum.inl b:=fun q=>e (Sum.inl.inj q)
  rw[SQ h];exact(beq_eq_false_iff_ne.mpr e).symm
theorem Zb7(a b:Str):decide ((Sum.inr a:Zl)=Sum.inr b)=decide (a=b):=by
 by_cases e:a=b
 ·subst e;simp
 ·have h:¬ (Sum.inr a:Zl)=Sum.inr b:=fun q=>e (Sum.inr.inj q)
  rw[SQ h,SQ e]
theorem Zb8(a:Int)(b:Str):decide ((Sum.inl a:Zl)=Sum.inr b)=false:=SQ (fun q=>nomatch q)
theorem Zb9(a:Str)(b:Int):decide ((Sum.inr a:Zl)=Sum.inl b)=false:=SQ (fun q=>nomatch q)
def Xu(prog:Program)(w:World):PySem.KeyKind prog w Zl where
 is:=Q7
 hash:=Zb3 w
 inj:=fun v a b ha g=>by
  rcases Uv ha with⟨i,t,rfl,rfl⟩|⟨x,t,rfl,rfl⟩
  ·rcases Uv g with⟨j,u,rfl,e⟩|⟨y,u,rfl,e⟩
   ·injection e with c _;rw[c]
   ·exact nomatch e
  ·rcases Uv g with⟨j,u,rfl,e⟩|⟨y,u,rfl,e⟩
   ·exact nomatch e
   ·injection e with c _;rw[c]
 byValue:=fun k v h=>by
  rcases Uv h with⟨i,t,rfl,rfl⟩|⟨x,t,rfl,rfl⟩<;>rfl
 pyHash:=fun f h=>by
  rcases Uv f with⟨i,t,rfl,rfl⟩|⟨x,t,rfl,rfl⟩
  ·exact wpAny_pyHash_int h
  ·exact wpAny_pyHash_str h
 eqBool:=fun n f h=>by
  rcases Uv n with⟨i,t,rfl,rfl⟩|⟨x,t,rfl,rfl⟩
  ·rcases Uv f with⟨j,u,rfl,rfl⟩|⟨y,u,rfl,rfl⟩
   ·rw[Zb6]at h;exact wpAny_eqBool_int h
   ·rw[Zb8]at h;exact SeqAt.EqAt.int_str i t y u _ _ _ _ h
  ·rcases Uv f with⟨j,u,rfl,rfl⟩|⟨y,u,rfl,rfl⟩
   ·rw[Zb9]at h;exact SeqAt.EqAt.str_int x t j u _ _ _ _ h
   ·rw[Zb7]at h;exact wpAny_eqBool_str h
 «strs»:=fun k x t v h=>by
  rcases Uv h with⟨i,u,rfl,e⟩|⟨y,u,rfl,e⟩
  ·exact nomatch e
  ·injection e with c _
   subst c;cases v<;>rfl
theorem Zca(prog:Program)(w:World)(i:Int)(t:Tok):(Xu prog w).is (.inl i) (.int i t)=true:=Zb4 i t
theorem Zcb(prog:Program)(w:World)(x:Str)(t:Tok):(Xu prog w).is (.inr x) (.str x t)=true:=Zb5 x t
inductive V where
 |non|bl (b:Bool)|int (i:Int)|str (x:Str)|byt (b:Array UInt8)|flt (b:UInt64)|ref (a:Addr)|ty (n:String)
 deriving DecidableEq
def ZG:V->Value->Prop
 |.non,u=>u=Value.none
 |.bl b,u=>u=Value.bool b
 |.int i,u=>∃t,u=Value.int i t
 |.str x,u=>∃t,u=Value.str x t
 |.byt b,u=>∃t,u=Value.bytes b t
 |.flt b,u=>∃t,u=Value.float b t
 |.ref a,u=>u=Value.ref a
 |.ty n,u=>u=Value.type n
abbrev ZD:List V->List Value->Prop:=Paired ZG
theorem ZD.length{xs:List V}{us:OB}(r:ZD xs us):xs.length=us.length:=Paired.length r
theorem ZD.get:∀{xs:List V} {us:OB} {i:Nat} {x:V},ZD xs us->xs[i]? = some x->∃u,us[i]? = some u/\ZG x u
 |_,_,_,_,.nil,e=>by simp at e
 |_,_,0,_,.cons r _,e=>by simp at e;subst e;exact⟨_,R,r⟩
 |_,_,i+1,x,.cons _ t,e=>by
  obtain⟨u,h1,c⟩:=ZD.get (i:=i) (x:=x) t (by simpa using e);exact⟨u,by simpa using h1,c⟩
theorem ZD.set{x:V}{u:Value}(r:ZG x u):∀{xs:List V} {us:OB} (i:Nat),ZD xs us->ZD (xs.set i x) (us.set i u)
 |_,_,_,.nil=>.nil
 |_,_,0,.cons _ t=>.cons r t
 |_,_,i+1,.cons q t=>.cons q (ZD.set r i t)
theorem ZD.append:∀{xs ys:List V} {us ws:OB},ZD xs us->ZD ys ws->ZD (xs++ys) (us++ws)
 |_,_,_,_,.nil,s=>s
 |_,_,_,_,.cons r t,s=>.cons r (ZD.append t s)
theorem ZD.take:∀{xs:List V} {us:OB} (n:Nat),ZD xs us->ZD (xs.take n) (us.take n)
 |_,_,0,_=>.nil
 |_,_,_+1,.nil=>.nil
 |_,_,n+1,.cons r t=>.cons r (ZD.take n t)
theorem ZD.drop:∀{xs:List V} {us:OB} (n:Nat),ZD xs us->ZD (xs.drop n) (us.drop n)
 |_,_,0,r=>r
 |_,_,_+1,.nil=>.nil
 |_,_,n+1,.cons _ t=>ZD.drop n t
def XS:Option V->Option Value->Prop
 |some v,some u=>ZG v u
 |none,none=>True
 |_,_=>False
def KV{c:Type}:List (c×V)->List (c×Value)->Prop:=Paired fun(p:c×V) (q:c×Value)=>p.1=q.1/\ZG p.2 q.2
def kV:Zl->V
 |.inl i=>.int i
 |.inr x=>.str x
inductive HO where
  |lst (xs:List V)
  |tup (xs:List V)
  |dK (kvs:List (Zl×V))|dT (kvs:List (List Zl×V))
  |set (S:Int->Bool) (n:Nat)
  |ins (C dx:Addr) (fs:List (Str×V))
  |own (x:Addr)
  |xd (fs:List (Str×V))
  |met (f x:Addr)
  |rng (lo hi:Int)
  |frz (o:Obj) (u:HO)
  |tbl (ps:Array Value)
  |ext (φ:Heap->Prop)
abbrev Hp:=Addr->Option HO
def Za(H:Hp)(a:Addr)(o:HO):Hp:=fun b=>if b=a then some o else H b
theorem Zm{H:Hp}{a:Addr}{o:HO}:Za H a o a=some o:=by unfold Za;rw[SV R]
theorem Zf{H:Hp}{a b:Addr}{o:HO}(h:b≠a):Za H a o b=H b:=by unfold Za;rw[SU h]
theorem Z3{H:Hp}{a b:Addr}{o u:HO}(h:H a=some o)(h':H b=some u)(d:o≠u):a≠b:=by
 intro e;subst e;rw[h]at h';exact d (So h')
theorem ZT{H:Hp}{a b:Addr}{o:HO}(h:H a=some o)(h':H b=none):a≠b:=by
 intro e;subst e;rw[h]at h';cases h'
section
variable(P:Program)(w:World)
def Yy(H:Hp)(h:Heap)(a:Addr):HO->Prop
 |.lst xs=>xs.length<=sizeLine/\∃(e:OB) (n:Nat),ZD xs e/\h.get? a=some { cls:=.type "list",data:=.seq e.toArray n }
 |.tup xs=>xs.length<=sizeLine/\∃e:List Value,ZD xs e/\IsTup h a e.toArray
 |.dK g=>g.length<=sizeLine/\(a == sysModules)=false/\∃y,KV g y/\h.DictOf (Xu P w) a y
 |.dT g=>g.length<=sizeLine/\(a == sysModules)=false/\∃xs:List (List Zl×Addr×Value),
   Paired (fun(p:List Zl×V) (q:List Zl×Addr×Value)=>p.1=q.1/\H q.2.1=some (.tup (p.1.map kV))/\ZG p.2 q.2.2) g xs /\
   ∃o B G,h.get? a=some o/\o.ExactDict/\o.data=.dict B G/\B.toList=xs.map (entryOfKey (tupleKind (Xu P w)))/\(xs.map (·.1)).Nodup
 |.set S n=>h.SetOf (intKind P w) a S n
 |.ins C i fs=>H i=some (.own a)/\fs.length<=1000/\i≠a/\h.get? a=some (W.instObj C i) /\
   ∃c,h.Ns1 i c/\(∀f,XS (fs.lookup f) (c f))/\PySem.Within c (fs.map (·.1))
 |.own _=>∃o,h.get? a=some o
 |.xd fs=>∃c,h.Ns1 a c/\∀f,XS (fs.lookup f) (c f)
 |.rng lo I=>∃t u v,h.get? a=some { cls:=.type "range",data:=.fields #[.int lo t,.int I u,.int 1 v] }
 |.frz o u=>h.get? a=some o/\Yy H h a u
 |.tbl J=>h.get? a=some { cls:=.none,data:=.fields J }
 |.met f x=>h.get? a=some (W.methodObj (.ref f) (.ref x))
 |.ext j=>j h/\(∃o,h.get? a=some o)/\∀E D:Heap,j E->(∀o,E.get? a=some o->D.get? a=some o)->j D
def Yp(H:Hp)(h:Heap):Prop:=∀a o,H a=some o->Yy P w H h a o
end
section
variable{P:Program}{w:World}{H H':Hp}{h h':Heap}{a:Addr}{o:HO}
theorem Yy.lt(x:Yy P w H h a o):a<h.objs.size:=by
 cases o with
 |lst g=>obtain⟨_,_,_,_,e⟩:=x;exact Se e
 |tup g=>obtain⟨_,_,_,p⟩:=x;exact p.lt
 |dK c=>obtain⟨_,_,_,_,o,_,_,e,_⟩:=x;exact Se e
 |dT c=>obtain⟨_,_,_,_,o,_,_,e,_⟩:=x;exact Se e
 |set S n=>obtain⟨o,_,_,_,e,_⟩:=x;exact Se e
 |ins C j fs=>obtain⟨_,_,_,e,_⟩:=x;exact Se e
 |own y=>obtain⟨_,e⟩:=x;exact Se e
 |xd fs=>obtain⟨_,⟨_,_,_,e,_⟩,_⟩:=x;exact Se e
 |rng lo i=>obtain⟨_,_,_,e⟩:=x;exact Se e
 |frz ob u=>obtain⟨e,_⟩:=x;exact Se e
 |tbl v=>exact Se (show h.get? a=some _ from x)
 |met f y=>exact Se (show h.get? a=some _ from x)
 |ext q=>obtain⟨_,⟨_,e⟩,_⟩:=x;exact Se e
theorem Paired.mapP{g e:Type}{F G:g->e->Prop}:∀{c:List g} {l₂:List e},Paired F c l₂->(∀a b,F a b->G a b)->Paired G c l₂
 |_,_,.nil,_=>.nil
 |_,_,.cons r t,f=>.cons (f _ _ r) (Paired.mapP t f)
theorem Yy.stay(x:Yy P w H h a o)(k:∀b u,(b=a\/H b=some (.own a))->h.get? b=some u->h'.get? b=some u)
  (O:∀b,H b=some (.own a)->H' b=some (.own a)) (L:∀b xs,H b=some (.tup xs)->H' b=some (.tup xs)):Yy P w H' h' a o:=by
 induction o with
 |lst xs=>obtain⟨z,j,n,r,e⟩:=x;exact⟨z,j,n,r,k _ _ (.inl R) e⟩
 |tup xs=>obtain⟨z,j,r,ob,e,c⟩:=x;exact⟨z,j,r,ob,k _ _ (.inl R) e,c⟩
 |dK I=>obtain⟨z,y,G,r,ob,i,g,e,c⟩:=x;exact⟨z,y,G,r,ob,i,g,k _ _ (.inl R) e,c⟩
 |dT I =>
  obtain⟨z,y,xs,r,ob,i,g,e,c⟩:=x;exact⟨z,y,xs,Paired.mapP r fun p q z=>⟨z.1,L _ _ z.2.1,z.2.2⟩,ob,i,g,k _ _ (.inl R) e,c⟩
 |set S n=>obtain⟨ob,i,g,t,e,c⟩:=x;exact⟨ob,i,g,t,k _ _ (.inl R) e,c⟩
 |ins C U fs =>
  obtain⟨d,z,ne,e,D,⟨B,i,g,J,c⟩,r⟩:=x;exact⟨O _ d,z,ne,k _ _ (.inl R) e,D,⟨B,i,g,k _ _ (.inr d) J,c⟩,r⟩
 |own y=>obtain⟨ob,e⟩:=x;exact⟨ob,k _ _ (.inl R) e⟩
 |xd fs=>obtain⟨D,⟨B,i,g,e,c⟩,r⟩:=x;exact⟨D,⟨B,i,g,k _ _ (.inl R) e,c⟩,r⟩
 |rng lo T=>obtain⟨t,u,v,e⟩:=x;exact⟨t,u,v,k _ _ (.inl R) e⟩
 |frz ob u M=>obtain⟨e,q⟩:=x;exact⟨k _ _ (.inl R) e,M q⟩
 |tbl E =>
  have e:h.get? a=some { cls:=.none,data:=.fields E }:=x;show h'.get? a=some { cls:=.none,data:=.fields E };exact k a _ (.inl R) e
 |met f y =>
  have e:h.get? a=some (W.methodObj (.ref f) (.ref y)):=x;show h'.get? a=some (W.methodObj (.ref f) (.ref y));exact k a _ (.inl R) e
 |ext Q=>obtain⟨p,⟨o,e⟩,st⟩:=x;exact⟨st _ _ p fun o q=>k _ _ (.inl R) q,⟨o,k _ _ (.inl R) e⟩,st⟩
theorem Yp.lt(x:Yp P w H h)(e:H a=some o):a<h.objs.size:=(x a o e).lt
theorem Yp.fresh(x:Yp P w H h)(e:h.objs.size<=a):H a=none:=by
 cases q:H a with
 |none=>rfl
 |some u=>exact Oq (Si (x.lt q) e) (Sl _)
theorem Yp.kept(x:Yp P w H h)(k:∀b u,h.get? b=some u->h'.get? b=some u):Yp P w H h':=fun a o e =>
 (x a o e).stay (fun b u _ q=>k b u q) (fun _ q=>q) fun _ _ q=>q
theorem Yp.laid(x:Yp P w H h)(k:∀b u,h.get? b=some u->h'.get? b=some u)(g:h.objs.size<=a)(new:Yy P w (Za H a o) h' a o):Yp P w (Za H a o) h':=fun b u e=>by
 have hn:=x.fresh g;by_cases f:b=a
 ·subst f;rw[Zm]at e;cases e;exact new
 ·rw[Zf f]at e
  exact(x b u e).stay (fun c v _ q=>k c v q) (fun c q=>by rw[Zf (ZT q hn)];exact q) fun c i q=>by rw[Zf (ZT q hn)];exact q
end
def Rd(H:Hp)(a:Addr)(u:HO):Prop:=H a=some u\/∃o,H a=some (.frz o u)
theorem Rd.ok{P:Program}{w:World}{H:Hp}{h:Heap}{a:Addr}{u:HO}(r:Rd H a u)(x:Yp P w H h):Yy P w H h a u:=by
 rcases r with r|⟨o,r⟩
 ·exact x a u r
 ·obtain⟨_,q⟩:=x a _ r
  exact q
def D9:Option HO->Prop
 |some (.lst _)=>True
 |some (.dK _)=>True
 |some (.dT _)=>True
 |some (.set _ _)=>True
 |some (.ins _ _ _)=>True
 |some (.ext _)=>True
 |_=>False
section
variable{P:Program}{w:World}{H:Hp}{h h':Heap}{x e:Addr}{o':HO}
theorem Yp.write(ok:Yp P w H h)(g:D9 (H x))(C:e=x\/H e=some (.own x))(k:∀b u,b≠e->h.get? b=some u->h'.get? b=some u)(G:∃u,h'.get? e=some u)
  (new:Yy P w (Za H x o') h' x o'):Yp P w (Za H x o') h':=fun b u q=>by
 have D:∀c y,H c=some (.own y)->c≠x:=fun c y r z=>by subst z;rw[r]at g;exact g
 have I:∀c i,H c=some (.tup i)->c≠x:=fun c i r z=>by subst z;rw[r]at g;exact g
 by_cases j:b=x
 ·subst j;rw[Zm]at q;cases q;exact new
 ·rw[Zf j]at q
  by_cases n:b=e
  ·have B:H b=some (.own x):=by
    rcases C with z|z
    ·exact Oq (n.trans z) j
    ·rw[n];exact z
   rw[q]at B;cases B;obtain⟨v,E⟩:=G;exact⟨v,by rw[n];exact E⟩
  ·refine(ok b u q).stay (fun c v f r=>k c v ?_ r) (fun c r=>by rw[Zf (D c b r)];exact r) fun c i r=>by rw[Zf (I c i r)];exact r
   rcases f with rfl|f
   ·exact n
   ·rintro rfl
    rcases C with z|z
    ·exact D c b f z
    ·rw[f]at z;cases z;exact j R
end
structure Un(fs ex:OH)(H H':Hp)(h h':Heap):Prop where
 keep:∀b o,h.get? b=some o->H b=none->b∉fs->b∉ex->h'.get? b=some o
 slot:∀b o,h.get? b=some o->H b=none->b∈fs->b∉ex->∃sl,h'.get? b=some { o with slots:=sl }
 free:∀b o,h.get? b=some o->H b=none->b∉ex->H' b=none
 there:∀b o,h.get? b=some o->b∉ex->∃o',h'.get? b=some o'
 tups:∀b xs,H b=some (.tup xs)->H' b=some (.tup xs)
 frzs:∀b o u,H b=some (.frz o u)->H' b=some (.frz o u)
 tbls:∀b ps,H b=some (.tbl ps)->∃more,H' b=some (.tbl (ps++more))
section
variable{fs fs' ex ex':OH}{H H1 H2:Hp}{h h1 h2 h':Heap}{a x e:Addr}{o:HO}
theorem Un.any(u:Un fs ex H H1 h h1){b:Addr}{ob:Obj}(q:h.get? b=some ob)(n:H b=none)(c:b∉ex):∃g,h1.get? b=some { ob with slots:=g }:=by
 by_cases f:b∈fs
 ·exact u.slot b ob q n f c
 ·exact⟨ob.slots,u.keep b ob q n f c⟩
theorem Un.kept(k:∀b u,h.get? b=some u->h'.get? b=some u):Un fs ex H H h h' :=
 ⟨fun b ob q _ _ _=>k b ob q,fun b ob q _ _ _=>⟨ob.slots,k b ob q⟩,fun _ _ _ n _=>n,fun b ob q _=>⟨ob,k b ob q⟩,fun _ _ q=>q,fun _ _ _ q=>q,fun _ c q=>⟨#[],by rw[q];simp⟩⟩
theorem Un.refl:Un fs ex H H h h:=Un.kept fun _ _ q=>q
theorem Un.laid(k:∀b u,h.get? b=some u->h'.get? b=some u)(f:h.objs.size<=a)(hn:H a=none):Un fs ex H (Za H a o) h h' where
 keep:=fun b u q _ _ _=>k b u q
 slot:=fun b u q _ _ _=>⟨u.slots,k b u q⟩
 free:=fun b u q n _=>by rw[Zf (Sf (Si (Se q) f))];exact n
 there:=fun b u q _=>⟨u,k b u q⟩
 tups:=fun b c q=>by rw[Zf (ZT q hn)];exact q
 frzs:=fun b u c q=>by rw[Zf (ZT q hn)];exact q
 tbls:=fun b g q=>⟨#[],by rw[Zf (ZT q hn),q];simp⟩
theorem Un.write(c:D9 (H x))(v:e=x\/H e=some (.own x))(k:∀b u,b≠e->h.get? b=some u->h'.get? b=some u)(j:∃u,h'.get? e=some u):Un fs ex H (Za H x o) h h':=by
 have i:∀b,H b=none->b≠x:=fun b n z=>by subst z;rw[n]at c;exact c
 have f:∀b,H b=none->b≠e:=fun b n z=>by
  subst z;rcases v with r|r
  ·exact i b n r
  ·rw[n]at r;cases r
 have hm:∀b u,H b=some u->¬ D9 (some u)->b≠x:=fun b u q nm z=>by subst z;rw[q]at c;exact nm c
 refine⟨fun b u q n _ _=>k b u (f b n) q,fun b u q n _ _=>⟨u.slots,k b u (f b n) q⟩,fun b u q n _=>by rw[Zf (i b n)];exact n,fun b u q _=>?_,
  fun b y q=>by rw[Zf (hm b _ q fun z=>z)];exact q,fun b u y q=>by rw[Zf (hm b _ q fun z=>z)];exact q,fun b B q=>⟨#[],by rw[Zf (hm b _ q fun z=>z),q];simp⟩⟩
 by_cases g:b=e
 ·subst g;exact j
 ·exact⟨u,k b u g q⟩
end
def KA(h:Heap)(H:Hp):List Addr:=(List.range h.objs.size).filter fun a=>(H a).isSome
def VW(h:Heap)(H:Hp):Heap:=W.hideAll h (KA h H)
theorem Zcc(h:Heap)(H:Hp):(VW h H).objs.size=h.objs.size:=W.hideAll_size _ _
theorem Zcd{h:Heap}{H:Hp}{b:Addr}{o:Obj}(e:h.get? b=some o)(n:H b=none):(VW h H).get? b=some o :=
 W.hideAll_get _ e fun hm=>by
  have q:(H b).isSome=true:=(List.mem_filter.mp hm).2;rw[n]at q;simp at q
theorem Zce{h:Heap}{H:Hp}{b:Addr}{o:Obj}(e:(VW h H).get? b=some o):h.get? b=some o/\H b=none:=by
 have c:h.get? b=some o:=W.of_hideAll (KA h H) e;refine⟨c,?_⟩;cases q:H b with
 |none=>rfl
 |some x =>
  have hm:b∈KA h H:=List.mem_filter.mpr ⟨List.mem_range.mpr (Se c),by simp[q]⟩;have z:(VW h H).get? b=none:=W.hideAll_none (KA h H) hm;rw[z]at e;cases e
structure Mod(K:Ow)(mg:Ov)(base:Heap):Prop where
 kin:K.In base
 glob:base.Ns mainGlobals mg
 blt:∃mb,base.Ns builtinsNs mb/\∀x:Str,x ≠ "__name__" -> mb x=bootBuiltins x
 nolimit:base.NoLimit
structure Cx where
 prog:Program
 w:World
 K:W.Frag
 mg:Str->Option Value
 base:Heap
 A:Around
 N:List Str
 s₀:Shared
 H₀:Hp
 env:Env
 outer:List Env
 stack:List Env
 ex:List Addr
 fn:Str->Bool
 calm:Bool
 pn:List (Addr×Obj)
 xe:Value->Shared->Prop
def Yu(l:List Env):List Addr:=l.filterMap (·.frame)
abbrev Cx.fs(X:Cx):List Addr:=Yu X.outer
def E3(c:Scope)(x:Str):Prop:=c.names.lookup x=some .local\/c.names.lookup x=some .cell\/c.names.lookup x=some .free
def Qj(c:Scope)(x:Str):Prop:=c.names.lookup x=some .local\/c.names.lookup x=some .cell
def T0(env:Env)(h:Heap)(m:Ov)(x:Str)(u:Value):Prop :=
 (env.kindOf x=some .local/\m x=some u)\/((env.kindOf x=some .cell\/env.kindOf x=some .free)/\∃c,env.cells.lookup x=some c/\h.IsCell c (some u))
structure Cx.Ok(X:Cx):Prop where
 mod:Mod X.K X.mg X.base
 kind:X.env.scope.kind=.function
 glob:X.env.globals=mainGlobals
 blt:X.env.builtins=builtinsNs
 above:X.s₀.heap.objs.size<=X.env.locals
 inj:∀x y c,X.env.cells.lookup x=some c->X.env.cells.lookup y=some c->x=y
 has:∀x,(X.env.kindOf x=some .cell\/X.env.kindOf x=some .free)->∃c,X.env.cells.lookup x=some c
 cab:∀x c,X.fn x=true->X.env.cells.lookup x=some c->X.s₀.heap.objs.size<=c
 hd:X.calm=true->X.A.handled=none
 frames:X.A.frames=some X.stack
 stk:X.stack=X.outer\/(X.stack=X.env::X.outer/\X.env.frame=some X.env.locals)
 exf:∀b∈X.ex,b≠X.env.locals/\∀x c,X.env.cells.lookup x=some c->c≠b
 bs:∀b o,X.base.get? b=some o->X.s₀.heap.get? b=some o/\X.H₀ b=none
 bsz:X.base.objs.size<=X.s₀.heap.objs.size
 noex:∀b o,X.base.get? b=some o->b∉X.ex
 exfs:∀b∈X.ex,b∉X.fs
 funs:X.s₀.heap.FunFrames X.base X.outer
 frf:∀b∈X.fs,X.H₀ b=none
structure Zc(X:Cx)(pins:Ou)(σ:List (Option V))(H:Hp)(s:Shared):Prop where
 ok:X.Ok
 os:s.os=X.s₀.os
 bare:AllBare s.gens
 base:Un X.fs X.ex X.H₀ H X.s₀.heap s.heap
 loc:∃m,s.heap.Ns X.env.locals m/\∀(i:Nat) (x:Str) (v:V),X.N[i]? = some x->σ[i]? = some (some v)->E3 X.env.scope x->∃u,ZG v u/\T0 X.env s.heap m x u
 cell:∀x c,X.env.cells.lookup x=some c->∃v,s.heap.IsCell c v
 free:H X.env.locals=none
 freeC:∀x c,X.env.cells.lookup x=some c->H c=none
 pin:∀p∈X.pn++pins,s.heap.get? p.1=some p.2/\H p.1=none/\p.1≠X.env.locals/\p.1∉X.fs/\∀v,p.2.data≠.cell v
 hok:Yp X.prog X.w H s.heap
 len:σ.length=X.N.length
section
variable{X:Cx}{pins:Ou}{σ:List (Option V)}{H H':Hp}{s:Shared}{h':Heap}
theorem Cx.Ok.nofr(ok:X.Ok){b:Addr}{o:Obj}(e:X.base.get? b=some o):b∉X.fs:=fun c=>by
 have:=(ok.funs.mem c).1;rw[e]at this;cases this
theorem Zc.bs(I:Zc X pins σ H s):∀b o,X.base.get? b=some o->s.heap.get? b=some o/\H b=none:=fun b o e =>
 ⟨I.base.keep b o (I.ok.bs b o e).1 (I.ok.bs b o e).2 (I.ok.nofr e) (I.ok.noex b o e),I.base.free b o (I.ok.bs b o e).1 (I.ok.bs b o e).2 (I.ok.noex b o e)⟩
theorem Zc.bk(I:Zc X pins σ H s):∀b o,X.base.get? b=some o->s.heap.get? b=some o:=fun b o e=>(I.bs b o e).1
theorem Zc.mod(I:Zc X pins σ H s):Mod X.K X.mg X.base:=I.ok.mod
theorem Zc.kIn(I:Zc X pins σ H s):X.K.In s.heap:=I.ok.mod.kin.keeps I.bk
theorem Zc.fr(I:Zc X pins σ H s):∃m,Fr X.base X.env.locals s.heap m :=
 let ⟨m,hn,_⟩:=I.loc
 ⟨m,hn,I.bk,Sh I.ok.bsz I.ok.above⟩
theorem Zc.lt(I:Zc X pins σ H s):X.env.locals<s.heap.objs.size:=let ⟨_,hn,_⟩:=I.loc;hn.lt
theorem Zc.sz(I:Zc X pins σ H s):X.s₀.heap.objs.size<=s.heap.objs.size:=Sh I.ok.above (Nat.le_of_lt I.lt)
theorem Zc.nofs(I:Zc X pins σ H s){a:Addr}(h:s.heap.objs.size<=a):a∉X.fs:=fun e=>by
 obtain⟨_,o,c,_⟩:=I.ok.funs.mem e;exact Oq (Si (Se c) (Sh I.sz h)) (Sl _)
theorem Zc.cne(I:Zc X pins σ H s):∀x c,X.env.cells.lookup x=some c->c≠X.env.locals:=fun x c e z=>by
 obtain⟨v,o,f,hd⟩:=I.cell x c e;obtain⟨m,⟨i,n,j,g,h,_⟩,_⟩:=I.loc;rw[z,g]at f;cases f;rw[h]at hd;cases hd
theorem Zc.funs(I:Zc X pins σ H s):s.heap.FunFrames X.base X.outer:=by
 have all:∀(l:List Env),(∀b∈Yu l,b∈X.fs)->X.s₀.heap.FunFrames X.base l->s.heap.FunFrames X.base l:=by
  intro l
  induction l with
  |nil=>intro _ _;trivial
  |cons env r j =>
   intro h u;obtain⟨i,⟨L,o,g,hn,n,hd⟩,q⟩:=u;have c:L∈X.fs:=h L (by unfold Yu;rw[List.filterMap_cons,g];exact SC);obtain⟨v,e⟩:=I.base.slot L o n (I.ok.frf L c) c fun z=>I.ok.exfs L z c;exact⟨i,⟨L,_,g,hn,e,hd⟩,j (fun b f=>h b (by unfold Yu;rw[List.filterMap_cons,g];exact SB _ f)) q⟩
 exact all X.outer (fun _ f=>f) I.ok.funs
theorem Zc.stack(I:Zc X pins σ H s):s.heap.FunFrames X.base X.stack:=by
 rcases I.ok.stk with e|⟨e,c⟩
 ·rw[e];exact I.funs
 ·rw[e]
  obtain⟨m,hn,_⟩:=I.loc;refine .cons (by rw[I.ok.kind];lia) c hn ?_ I.funs;exact Heap.get?_none_of_le (Sh I.ok.bsz I.ok.above)
theorem Zc.stkSub(I:Zc X pins σ H s):∀b∈Yu X.stack,b∈X.env.locals::X.fs:=fun b c=>by
 rcases I.ok.stk with e|⟨e,f⟩
 ·rw[e]at c;exact SB _ c
 ·rw[e]at c
  unfold Yu at c;rw[List.filterMap_cons,f]at c;exact c
theorem Zc.stkFree(I:Zc X pins σ H s):∀b∈Yu X.stack,H b=none:=fun b c=>by
 rcases SE.mp (I.stkSub b c)with e|c
 ·rw[e];exact I.free
 ·obtain⟨_,o,f,_⟩:=I.ok.funs.mem c
  exact I.base.free b o f (I.ok.frf b c) fun z=>I.ok.exfs b z c
theorem Zc.step{g':Array GenState}{t':Nat}{d':Drawn}{ch:OH}(I:Zc X pins σ H s)
  (E:∀b∈ch,(b∈X.ex\/X.s₀.heap.objs.size<=b)/\b≠X.env.locals/\(∀x c,X.env.cells.lookup x=some c->c≠b)/\∀p∈X.pn++pins,p.1≠b)
  (keep:∀b o,b≠X.env.locals->b∉X.fs->b∉ch->s.heap.get? b=some o->H b=none->h'.get? b=some o)
  (slot:∀b o,b≠X.env.locals->b∈X.fs->b∉ch->s.heap.get? b=some o->H b=none->∃L,h'.get? b=some { o with slots:=L }) (free:∀b o,b∉ch->s.heap.get? b=some o->H b=none->H' b=none)
  (there:∀b o,b∉ch->s.heap.get? b=some o->∃C,h'.get? b=some C)
  (tups:∀b h,H b=some (.tup h)->H' b=some (.tup h)) (frzs:∀b o u,H b=some (.frz o u)->H' b=some (.frz o u)) (tbls:∀b J,H b=some (.tbl J)->∃more,H' b=some (.tbl (J++more)))
  (ns:∀m,s.heap.Ns X.env.locals m->h'.Ns X.env.locals m) (hok:Yp X.prog X.w H' h') (S:AllBare g') :
  Zc X pins σ H' { s with heap:=h',gens:=g',drawn:=d',toks:=t' }:=by
 have M:∀b o,X.s₀.heap.get? b=some o->b≠X.env.locals:=fun b o e=>Sf (Si (Se e) I.ok.above);have G:∀b o,X.s₀.heap.get? b=some o->b∉X.ex->b∉ch:=fun b o e f j=>by
  rcases(E b j).1 with z|z
  ·exact f z
  ·exact Oq (Si (Se e) z) (Sl _)
 have cellK:∀x c,X.env.cells.lookup x=some c->∀v,s.heap.IsCell c v->h'.IsCell c v:=fun x c e v ⟨o,y,hd⟩=>by
  have B:c∉ch:=fun z=>(E c z).2.2.1 x c e R;by_cases O:c∈X.fs
  ·obtain⟨L,q⟩:=slot c o (I.cne x c e) O B y (I.freeC x c e)
   exact⟨_,q,hd⟩
  ·exact⟨o,keep c o (I.cne x c e) O B y (I.freeC x c e),hd⟩
 refine⟨I.ok,I.os,S,⟨fun b o e n j f=>?_,fun b o e n j f=>?_,fun b o e n f=>?_,fun b o e f=>?_,fun b h e=>tups b h (I.base.tups b h e),fun b o h e=>frzs b o h (I.base.frzs b o h e),fun b J e=>?_⟩,?_,fun x c e=>?_,?_,fun x c e=>?_,fun p P=>?_,hok,I.len⟩
 ·exact keep b o (M b o e) j (G b o e f) (I.base.keep b o e n j f) (I.base.free b o e n f)
 ·obtain⟨L,g⟩:=I.base.slot b o e n j f
  obtain⟨T,D⟩:=slot b _ (M b o e) j (G b o e f) g (I.base.free b o e n f);exact⟨T,D⟩
 ·obtain⟨C,g⟩:=I.base.there b o e f
  exact free b C (G b o e f) g (I.base.free b o e n f)
 ·obtain⟨C,g⟩:=I.base.there b o e f
  exact there b C (G b o e f) g
 ·obtain⟨Y,g⟩:=I.base.tbls b J e
  obtain⟨U,D⟩:=tbls b _ g;exact⟨Y++U,by rw[D,Array.append_assoc]⟩
 ·obtain⟨m,hn,Q⟩:=I.loc
  refine⟨m,ns m hn,fun i x v g D Z=>?_⟩;obtain⟨u,r,l⟩:=Q i x v g D Z;refine⟨u,r,?_⟩;rcases l with l|⟨k,c,e,z⟩
  ·exact .inl l
  ·exact .inr ⟨k,c,e,cellK x c e _ z⟩
 ·obtain⟨v,z⟩:=I.cell x c e
  exact⟨v,cellK x c e v z⟩
 ·obtain⟨m,⟨o,_,_,y,_⟩,_⟩:=I.loc
  exact free _ o (fun z=>(E _ z).2.1 R) y I.free
 ·obtain⟨v,o,y,hd⟩:=I.cell x c e
  exact free c o (fun z=>(E c z).2.2.1 x c e R) y (I.freeC x c e)
 ·obtain⟨e,n,ne,nf,d⟩:=I.pin p P
  have B:p.1∉ch:=fun z=>(E p.1 z).2.2.2 p P R;exact⟨keep p.1 p.2 ne nf B e n,free p.1 p.2 B e n,ne,nf,d⟩
theorem Zc.un{t':Nat}(I:Zc X pins σ H s)(u:Un X.fs [] H H' s.heap h')(hok:Yp X.prog X.w H' h'):Zc X pins σ H' { s with heap:=h',toks:=t' }:=by
 obtain⟨m,⟨o,y,x,g,r⟩,_⟩:=id I.loc;obtain⟨C,i⟩:=u.any g I.free (by simp);exact I.step (g':=s.gens) (d':=s.drawn) (ch:=[]) (fun _ z=>nomatch z) (fun b o _ c _ e n=>u.keep b o e n c (by simp)) (fun b o _ c _ e n=>u.slot b o e n c (by simp)) (fun b o _ e n=>u.free b o e n (by simp)) (fun b o _ e=>u.there b o e (by simp)) u.tups u.frzs u.tbls (fun B hm=>by
  obtain⟨v,q,j,f,h⟩:=hm;rw[g]at f;cases f;exact⟨_,q,j,i,h⟩) hok I.bare
theorem Zc.call{g':Array GenState}{t':Nat}{d':Drawn}{ch:OH}(I:Zc X pins σ H s)(u:Un (Yu X.stack) ch H H' s.heap h')(hok:Yp X.prog X.w H' h')(C:AllBare g')
  (i:∀b∈ch,(b∈X.ex\/X.s₀.heap.objs.size<=b)/\b≠X.env.locals/\(∀x c,X.env.cells.lookup x=some c->c≠b)/\∀p∈X.pn++pins,p.1≠b) :
  Zc X pins σ H' { s with heap:=h',gens:=g',drawn:=d',toks:=t' }:=by
 obtain⟨m,⟨o,G,E,j,r⟩,_⟩:=id I.loc;obtain⟨L,g⟩:=u.any j I.free fun z=>(i _ z).2.1 R;exact I.step (ch:=ch) i (fun b o g y f e n=>u.keep b o e n (fun z=>(SE.mp (I.stkSub b z)).elim g y) f) (fun b o _ _ f e n=>u.any e n f) (fun b o f e n=>u.free b o e n f) (fun b o f e=>u.there b o e f) u.tups u.frzs u.tbls (fun J hm=>by
  obtain⟨D,B,v,h,q⟩:=hm;rw[j]at h;cases h;exact⟨_,B,v,g,q⟩) hok C
theorem Zc.turned{t':Nat}{f:Addr}(I:Zc X pins σ H s)(k:∀b o,b≠f->s.heap.get? b=some o->h'.get? b=some o)(hn:H f=none)(i:f≠X.env.locals)
  (h1:f∈X.ex\/X.s₀.heap.objs.size<=f) (E:∀x c,X.env.cells.lookup x=some c->c≠f) (j:∀p∈X.pn++pins,p.1≠f):Zc X pins σ H { s with heap:=h',toks:=t' }:=by
 have h:∀b u,H b=some u->b≠f:=fun b u e z=>by rw[z,hn]at e;cases e
 refine I.step (g':=s.gens) (d':=s.drawn) (ch:=[f]) (fun b C=>?_) (fun b o _ _ g e _=>k b o (fun z=>g (by simp[z])) e) (fun b o _ _ g e _=>⟨o.slots,k b o (fun z=>g (by simp[z])) e⟩) (fun _ _ _ _ n=>n)
  (fun b o g e=>⟨o,k b o (fun z=>g (by simp[z])) e⟩) (fun _ _ e=>e) (fun _ _ _ e=>e) (fun b G e=>⟨#[],by rw[e];simp⟩) (fun m hm=>?_) (fun b u e=>?_) I.bare
 ·have e:b=f:=by simpa using C
  subst e;exact⟨h1,i,E,j⟩
 ·obtain⟨o,B,y,D,r⟩:=hm
  exact⟨o,B,y,k _ o (Ne.symm i) D,r⟩
 ·refine(I.hok b u e).stay (fun c v g q=>k c v ?_ q) (fun _ q=>q) fun _ _ q=>q
  rcases g with z|z
  ·rw[z];exact h b u e
  ·exact h c _ z
theorem Zc.tok(I:Zc X pins σ H s)(t:Nat):Zc X pins σ H { s with toks:=t }:=I.un (h':=s.heap) (t':=t) Un.refl I.hok
theorem Zc.kept{t':Nat}(I:Zc X pins σ H s)(k:∀b u,s.heap.get? b=some u->h'.get? b=some u):Zc X pins σ H { s with heap:=h',toks:=t' }:=I.un (Un.kept k) (I.hok.kept k)
theorem Zc.laid{a:Addr}{o:HO}{t':Nat}(I:Zc X pins σ H s)(k:∀b u,s.heap.get? b=some u->h'.get? b=some u)(c:s.heap.objs.size<=a)(new:Yy X.prog X.w (Za H a o) h' a o) :
  Zc X pins σ (Za H a o) { s with heap:=h',toks:=t' }:=I.un (Un.laid k c (I.hok.fresh c)) (I.hok.laid k c new)
theorem Zc.write{x e:Addr}{o:HO}{t':Nat}(I:Zc X pins σ H s)(f:D9 (H x))(g:e=x\/H e=some (.own x))(k:∀b u,b≠e->s.heap.get? b=some u->h'.get? b=some u)(c:∃u,h'.get? e=some u)
  (new:Yy X.prog X.w (Za H x o) h' x o):Zc X pins σ (Za H x o) { s with heap:=h',toks:=t' }:=I.un (Un.write f g k c) (I.hok.write f g k c new)
theorem Zc.weak{c:List (Option V)}(I:Zc X pins σ H s)(h:c.length=σ.length)(w:∀(i:Nat) v,c[i]? = some (some v)->σ[i]? = some (some v)):Zc X pins c H s :=
 ⟨I.ok,I.os,I.bare,I.base,let ⟨m,hn,hl'⟩:=I.loc;⟨m,hn,fun i x v g e f=>hl' i x v g (w i v e) f⟩,I.cell,I.free,I.freeC,I.pin,I.hok,h.trans I.len⟩
theorem Zc.pins_of{pins':Ou}(I:Zc X pins σ H s)(h:∀p∈pins',s.heap.get? p.1=some p.2/\H p.1=none/\p.1≠X.env.locals/\p.1∉X.fs/\∀v,p.2.data≠.cell v):Zc X pins' σ H s :=
 ⟨I.ok,I.os,I.bare,I.base,I.loc,I.cell,I.free,I.freeC,fun p c=>(SF.mp c).elim (fun z=>I.pin p (SH _ z)) (h p),I.hok,I.len⟩
theorem Mg{N:OC}(f:N.Nodup){i j:Nat}{x:Str}(a:N[i]? = some x)(b:N[j]? = some x):i=j:=by
 obtain⟨h,e⟩:=Sr.mp a;obtain⟨g,c⟩:=Sr.mp b;exact(List.getElem_inj f).mp (e.trans c.symm)
theorem T1{M:Model}{A:Around}{E:Ot}{i:Nat}{x:Str}{v:V}{u:Value}{Q:OA}(I:Zc X pins σ H s)(hN:X.N.Nodup)(hi:X.N[i]? = some x)(C:Qj X.env.scope x)(r:ZG v u)
  (h:∀s',Zc X pins (σ.set i (some v)) H s'->(∃a,Heap.SameBut a s.heap s'.heap/\(a=X.env.locals\/X.env.cells.lookup x=some a))->Q () s') (hf:X.fn x=true\/X.env.scope.names.lookup x=some .local:=by first|exact .inl rfl|exact .inr rfl|assumption):wpAny M A (storeName X.env x u) Q E s:=by
 obtain⟨m,hn,hl⟩:=id I.loc;have i0:(X.env.scope.kind == .class || (X.env.scope.kind == .module && X.env.locals != X.env.globals))=false:=by rw[I.ok.kind];rfl
 have d0:i<σ.length:=by rw[I.len];exact(Sr.mp hi).1
 have cne:=I.cne;have tracked:∀{a:Addr} {h':Heap},(∃o,s.heap.get? a=some o/\H a=none)->Heap.SameBut a s.heap h'->Yp X.prog X.w H h':=fun{a h'} ha f b ob e=>by
  obtain⟨_,_,e0⟩:=ha;refine(I.hok b ob e).stay (fun c P B q=>(f.2 c ?_).trans q) (fun _ q=>q) fun _ _ q=>q;rintro rfl;rcases B with rfl|B
  ·rw[e0]at e;cases e
  ·rw[e0]at B;cases B
 rcases C with G|G
 ·refine wpAny_storeName_local G hn (fun h' j0 f=>?_) i0
  obtain⟨oL,_,_,g0,_⟩:=id hn;refine h _ ⟨I.ok,I.os,I.bare,⟨fun b o e n J C=>?_,fun b o e n J C=>?_,I.base.free,fun b o e C=>?_,I.base.tups,I.base.frzs,I.base.tbls⟩,⟨_,j0,fun j y Y g D e3=>?_⟩,fun y c e=>?_,I.free,I.freeC,fun p hp=>?_,tracked ⟨oL,g0,I.free⟩ f,by simpa using I.len⟩ ⟨_,f,.inl R⟩
  ·exact(f.2 b (Sf (Si (Se e) I.ok.above))).trans (I.base.keep b o e n J C)
  ·obtain⟨Z,g⟩:=I.base.slot b o e n J C
   exact⟨Z,(f.2 b (Sf (Si (Se e) I.ok.above))).trans g⟩
  ·obtain⟨S,g⟩:=I.base.there b o e C
   exact⟨S,(f.2 b (Sf (Si (Se e) I.ok.above))).trans g⟩
  ·by_cases L:j=i
   ·subst L
    rw[hi]at g;cases g;rw[List.getElem?_set_self d0]at D;cases D;exact⟨u,r,.inl ⟨G,by simp⟩⟩
   ·rw[List.getElem?_set_ne (Ne.symm L)]at D
    obtain⟨U,T,q⟩:=hl j y Y g D e3;refine⟨U,T,?_⟩;rcases q with⟨k,e⟩|⟨k,c,e,z⟩
    ·refine .inl ⟨k,?_⟩
     have:y≠x:=fun e=>L (Mg hN g (e ▸ hi));simp[this,e]
    ·exact .inr ⟨k,c,e,z.sameBut f (cne y c e)⟩
  ·obtain⟨P,z⟩:=I.cell y c e
   exact⟨P,z.sameBut f (cne y c e)⟩
  ·obtain⟨e,n,ne,nf,d⟩:=I.pin p hp
   exact⟨(f.2 p.1 ne).trans e,n,ne,nf,d⟩
 ·have a0:X.fn x=true:=by
   rcases hf with z|z
   ·exact z
   ·rw[z]at G;cases G
  obtain⟨c,B⟩:=I.ok.has x (.inl G);obtain⟨P,z⟩:=I.cell x c B;refine wpAny_storeName_cell I.ok.kind G B z (fun h' b0 f=>?_);obtain⟨oc,c0,h0⟩:=id z;refine h { s with heap:=h' } ⟨I.ok,I.os,I.bare,⟨fun b o e n J C=>?_,fun b o e n J C=>?_,I.base.free,fun b o e C=>?_,I.base.tups,I.base.frzs,I.base.tbls⟩,⟨m,hn.sameBut f (Ne.symm (cne x c B)),fun j y Y g D e3=>?_⟩,fun y O e=>?_,I.free,I.freeC,fun p hp=>?_,tracked ⟨oc,c0,I.freeC x c B⟩ f,by simpa using I.len⟩ ⟨c,f,.inr B⟩
  ·exact(f.2 b (Sf (Si (Se e) (I.ok.cab x c a0 B)))).trans (I.base.keep b o e n J C)
  ·obtain⟨Z,g⟩:=I.base.slot b o e n J C
   exact⟨Z,(f.2 b (Sf (Si (Se e) (I.ok.cab x c a0 B)))).trans g⟩
  ·obtain⟨S,g⟩:=I.base.there b o e C
   exact⟨S,(f.2 b (Sf (Si (Se e) (I.ok.cab x c a0 B)))).trans g⟩
  ·by_cases L:j=i
   ·subst L
    rw[hi]at g;cases g;rw[List.getElem?_set_self d0]at D;cases D;exact⟨u,r,.inr ⟨.inl G,c,B,b0⟩⟩
   ·rw[List.getElem?_set_ne (Ne.symm L)]at D
    obtain⟨U,T,q⟩:=hl j y Y g D e3;refine⟨U,T,?_⟩;rcases q with q|⟨k,O,e,z'⟩
    ·exact .inl q
    ·refine .inr ⟨k,O,e,z'.sameBut f ?_⟩
     rintro rfl;exact L (Mg hN g (I.ok.inj _ _ _ e B ▸ hi))
  ·by_cases f0:O=c
   ·subst f0;exact⟨_,b0⟩
   ·obtain⟨w2,z2⟩:=I.cell y O e
    exact⟨w2,z2.sameBut f f0⟩
  ·obtain⟨e,n,ne,nf,d⟩:=I.pin p hp
   refine⟨(f.2 p.1 ?_).trans e,n,ne,nf,d⟩;intro q;rw[q,c0]at e;have q':oc=p.2:=So e;exact d P (by rw[<-q'];exact h0)
theorem E4{M:Model}{A:Around}{E:Ot}{i:Nat}{x:Str}{v:V}{u:Value}{Q:OA}(I:Zc X pins σ H s)(f:X.N.Nodup)(hi:X.N[i]? = some x)(g:Qj X.env.scope x)(r:ZG v u)
  (h:∀s',Zc X pins (σ.set i (some v)) H s'->Q () s') (e:X.fn x=true\/X.env.scope.names.lookup x=some .local:=by first|exact .inl rfl|exact .inr rfl|assumption):wpAny M A (storeName X.env x u) Q E s :=
 T1 I f hi g r (fun s' c _=>h s' c) e
theorem Zc.call'{s':Shared}{ch:OH}(I:Zc X pins σ H s)(h:s'.os=s.os)(u:Un (Yu X.stack) ch H H' s.heap s'.heap)(hok:Yp X.prog X.w H' s'.heap)(i:AllBare s'.gens)
  (g:∀b∈ch,(b∈X.ex\/X.s₀.heap.objs.size<=b)/\b≠X.env.locals/\(∀x c,X.env.cells.lookup x=some c->c≠b)/\∀p∈X.pn++pins,p.1≠b):Zc X pins σ H' s':=by
 obtain⟨h',g',d',t',f⟩:=s';have e:f=s.os:=h;subst e;exact I.call (g':=g') (t':=t') (d':=d') u hok i g
end
abbrev XK:=Value->Option Addr->Hp->Prop
abbrev St:=List (Option V)
abbrev VK:=V->Hp->Prop
abbrev TE:=St->Hp->VK->Prop
abbrev TT:=St->Hp->(Bool->Hp->Prop)->Prop
abbrev TA:=St->Hp->(List V->Hp->Prop)->Prop
structure Y6 where
 nx:St->Hp->Prop
 rt:VK
 bk:St->Hp->Prop:=fun _ _=>False
 ct:St->Hp->Prop:=fun _ _=>False
abbrev TS:=Y6->St->Hp->Prop
inductive EP(X:Cx)(pins:Ou)(σ:St)(Q:VK)(u:Value)(s':Shared):Prop|mk v H' (_:Zc X pins σ H' s') (_:ZG v u) (_:Q v H')
inductive TP(X:Cx)(pins:Ou)(σ:St)(Q:Bool->Hp->Prop)(b:Bool)(s':Shared):Prop|mk H' (_:Zc X pins σ H' s') (_:Q b H')
inductive AP(X:Cx)(pins:Ou)(σ:St)(Q:List V->Hp->Prop)(us:OB)(s':Shared):Prop|mk vs H' (_:Zc X pins σ H' s') (_:ZD vs us) (_:Q vs H')
def SP(X:Cx)(pins:Ou)(D:Y6)(f:Flow)(s':Shared):Prop :=
 match f with
 |.next=>∃e c,Zc X pins e c s'/\D.nx e c
 |.brk=>∃e c,Zc X pins e c s'/\D.bk e c
 |.cont=>∃e c,Zc X pins e c s'/\D.ct e c
 |.ret u=>∃v e c,Zc X pins e c s'/\ZG v u/\D.rt v c
def PE(X:Cx)(e:Expr)(t:TE):Prop :=
 ∀(pins:Ou) (s:Shared) (σ:St) (H:Hp) (Q:VK),Zc X pins σ H s->t σ H Q->wpAny (model X.prog X.w) X.A (eval e X.env) (EP X pins σ Q) X.xe s
def PT(X:Cx)(e:Expr)(t:TT):Prop :=
 ∀(pins:Ou) (s:Shared) (σ:St) (H:Hp) (Q:Bool->Hp->Prop),Zc X pins σ H s->t σ H Q->wpAny (model X.prog X.w) X.A (isTrue e X.env (eval e X.env)) (TP X pins σ Q) X.xe s
def PW(X:Cx)(e:Expr)(t:TT):Prop :=
 ∀(whole:Sem Value) (pins:Ou) (s:Shared) (σ:St) (H:Hp) (Q:Bool->Hp->Prop),Zc X pins σ H s->t σ H Q->wpAny (model X.prog X.w) X.A (isTrue e X.env whole) (TP X pins σ Q) X.xe s
theorem PW.pt{X:Cx}{e:Expr}{t:TT}(h:PW X e t):PT X e t:=h _
def PA(X:Cx)(c:OD)(t:TA):Prop :=
 ∀(e:Pos) (pins:Ou) (s:Shared) (σ:St) (H:Hp) (Q:List V->Hp->Prop),Zc X pins σ H s->t σ H Q->wpAny (model X.prog X.w) X.A (spliced (backTo e (starEach c X.env))) (AP X pins σ Q) X.xe s
def PS(X:Cx)(st:Stmt)(t:TS):Prop :=
 ∀(pins:Ou) (s:Shared) (σ:St) (H:Hp) (D:Y6),Zc X pins σ H s->t D σ H->wpAny (model X.prog X.w) X.A (exec st X.env) (SP X pins D) X.xe s
def X6(X:Cx)(st:List Stmt)(t:TS):Prop :=
 ∀(pins:Ou) (s:Shared) (σ:St) (H:Hp) (D:Y6),Zc X pins σ H s->t D σ H->wpAny (model X.prog X.w) X.A (execs st X.env) (SP X pins D) X.xe s
theorem Zv{e:Type}{t:Sem e}{Q c:e->Shared->Prop}{M:Model}{A:Around}{E:Ot}{s:Shared}(h:wpAny M A t Q E s)(f:∀a s,Q a s->c a s):wpAny M A t c E s:=Op h f fun _ _ x=>x
section
variable{X:Cx}
inductive E5(i:Nat)(σ:St)(H:Hp)(Q:VK):Prop|mk v (_:σ[i]? = some (some v)) (_:Q v H)
def tC(v:V):TE:=fun _ H Q=>Q v H
theorem T4{i:Nat}{x:Str}{B:Pos}(C:X.N[i]? = some x)(y:E3 X.env.scope x)(hd:(x == ("__debug__" : Str))=false:=by lia) (E:(x == ("__classdict__" : Str))=false:=by lia):PE X (.Name x B) (E5 i):=by
 intro pins s q H Q I h;obtain⟨v,e,h⟩:=h;obtain⟨m,hn,D⟩:=I.loc;obtain⟨u,r,l⟩:=D i x v C e y;have g:EP X pins q Q u s:=⟨v,H,I,r,h⟩;rcases l with⟨f,hm⟩|⟨f,c,j,n⟩
 ·exact wpAny_Name (wpAny_loadName_local I.ok.kind f hn hm g) hd
 ·rcases f with f|f
  ·exact wpAny_Name (wpAny_loadName_cell I.ok.kind f j n g) hd
  ·exact wpAny_Name (wpAny_loadName_free I.ok.kind f j n g E) hd
theorem Zb{i j pos}:PE X (.Constant (.int i) j pos) (tC (.int i)):=fun _ _ _ H _ I h=>wpAny_Constant_int ⟨.int i,H,I.tok _,⟨_,R⟩,h⟩
theorem XD{b j pos}:PE X (.Constant (.bool b) j pos) (tC (.bl b)):=fun _ _ _ H _ I h=>Constant_bool ⟨.bl b,H,I,R,h⟩
theorem W2{j pos}:PE X (.Constant .none j pos) (tC .non):=fun _ _ _ H _ I h=>Constant_none ⟨.non,H,I,R,h⟩
theorem ZA{x j pos}:PE X (.Constant (.str x) j pos) (tC (.str x)):=fun _ _ _ H _ I h=>Calls.Constant_str ⟨.str x,H,I.tok _,⟨_,R⟩,h⟩
def Gl(X:Cx)(x:Str):Prop:=X.env.kindOf x=some .globalImplicit
theorem Uw{E:Ot}{pins:Ou}{s:Shared}{c:St}{H:Hp}{x:Str}{u:Value}{e:Pos}{Q:Ot}(I:Zc X pins c H s)(f:Gl X x)(hm:X.mg x=some u)(h:Q u s)
  (hd:(x == ("__debug__" : Str))=false:=by lia):wpAny (model X.prog X.w) X.A (eval (.Name x e) X.env) Q E s :=
 Calls.Name_function_global I.ok.kind f (Calls.loadGlobal_global (by rw[I.ok.glob];exact I.mod.glob.keeps I.bk) hm h) hd
theorem UV{E:Ot}{pins:Ou}{s:Shared}{c:St}{H:Hp}{x:Str}{u:Value}{f:Pos}{Q:Ot}(I:Zc X pins c H s)(i:Gl X x)(hm:X.mg x=none)(e:bootBuiltins x=some u)(h:Q u s)
  (hn:x ≠ "__name__" := by lia) (hd:(x == ("__debug__" : Str))=false:=by lia):wpAny (model X.prog X.w) X.A (eval (.Name x f) X.env) Q E s:=by
 obtain⟨n,j,g⟩:=I.mod.blt;exact Calls.Name_function_global I.ok.kind i (Calls.loadGlobal_builtin (by rw[I.ok.glob];exact I.mod.glob.keeps I.bk) hm (by rw[I.ok.blt];exact j.keeps I.bk) ((g x hn).trans e) h) hd
theorem T5{x:Str}{v:V}{u:Value}{c:Pos}(e:Gl X x)(hm:X.mg x=some u)(r:ZG v u)(hd:(x == ("__debug__" : Str))=false:=by lia):PE X (.Name x c) (tC v) :=
 fun _ _ _ H _ I h=>Uw I e hm ⟨v,H,I,r,h⟩ hd
theorem Zcf{x:Str}{v:V}{u:Value}{e:Pos}(f:Gl X x)(hm:X.mg x=none)(c:bootBuiltins x=some u)(r:ZG v u)(hn:x ≠ "__name__" := by lia) (hd:(x == ("__debug__" : Str))=false:=by lia):PE X (.Name x e) (tC v) :=
 fun _ _ _ H _ I h=>UV I f hm c ⟨v,H,I,r,h⟩ hn hd
variable{a b:Expr}{ta tb:TE}{pos:Pos}
def PC(X:Cx)(c:CmpOp)(a b:Expr)(t:TE):Prop :=
 ∀(pins:Ou) (s:Shared) (σ:St) (H:Hp) (Q:VK),Zc X pins σ H s->t σ H Q ->
  wpAny (model X.prog X.w) X.A (eval a X.env) (fun v e=>wpAny (model X.prog X.w) X.A (eval b X.env) (fun u f=>wpAny (model X.prog X.w) X.A (compareOp c v u) (EP X pins σ Q) X.xe f) X.xe e) X.xe s
theorem zA(b:Expr){c:CmpOp}(h:c≠.In)(f:c≠.NotIn):behindInMarks c b=false:=by
 have g:(c == CmpOp.In)=false:=by cases c<;>first|rfl|exact Oq R h
 have e:(c == CmpOp.NotIn)=false:=by cases c<;>first|rfl|exact Oq R f
 cases b<;>simp[behindInMarks,g,e]
def Zcg(ta:TE):TE:=fun c H Q=>ta c H fun x e=>Q (.bl (decide (x=.non))) e
def Zch(ta:TE):TE:=fun c H Q=>ta c H fun x e=>Q (.bl (!decide (x=.non))) e
theorem ZG.none_iff{x:V}{v:Value}(r:ZG x v):(v == Value.none)=decide (x=.non):=by
 cases x with
 |non=>cases r;rfl
 |bl _=>cases r;rfl
 |int _=>obtain⟨t,rfl⟩:=r;rfl
 |str _=>obtain⟨t,rfl⟩:=r;rfl
 |byt _=>obtain⟨t,rfl⟩:=r;rfl
 |flt _=>obtain⟨t,rfl⟩:=r;rfl
 |ref _=>cases r;rfl
 |ty _=>cases r;rfl
theorem zB{j pos'}(ha:PE X a ta):PC X .Is a (.Constant .none j pos') (Zcg ta):=by
 intro pins s c H Q I h;refine Zv (ha pins s c H _ I h) fun v i ⟨x,f,e,r1,g⟩=>?_;exact Constant_none (is_none_gen ⟨.bl _,f,e,by rw[r1.none_iff];rfl,g⟩)
theorem Zci{j pos'}(ha:PE X a ta):PC X .IsNot a (.Constant .none j pos') (Zch ta):=by
 intro pins s c H Q I h;refine Zv (ha pins s c H _ I h) fun v i ⟨x,f,e,r1,g⟩=>?_;exact Constant_none (isnot_none_gen ⟨.bl _,f,e,by rw[r1.none_iff];rfl,g⟩)
inductive Zcj(Q:Bool->Hp->Prop)(x:V)(H1:Hp):Prop|mk c (_:x=.bl c) (_:Q c H1)
def tB(t:TE):TT:=fun c H Q=>t c H fun x e=>Zcj Q x e
theorem zC{c:CmpOp}{t:TE}(h:PC X c a b t)(h1:behindInMarks c b=false:=by first|exact zA _ (by lia) (by lia)|rfl):PE X (.Compare a [c] [b] pos) t:=fun pins s e H Q I f=>wpAny_Compare1 (h pins s e H Q I f) h1
theorem Qk{e:CmpOp}{t:TE}(h:PC X e a b t)(h1:behindInMarks e b=false:=by first|exact zA _ (by lia) (by lia)|rfl):PT X (.Compare a [e] [b] pos) (tB t):=by
 intro pins s f H Q I y;refine wpAny_isTrue_Compare1 (Zv (h pins s f H _ I y) fun v C h1=>Zv h1 fun u s2 g=>Zv g fun c B ⟨x,j,i,r1,n⟩=>?_) h1;obtain⟨d,rfl,q⟩:=n;cases r1;exact wpAny_truthy_bool ⟨j,i,q⟩
theorem YL{e:Expr}{t:TE}(h:PE X e t)(j:∀whole,isTrue e X.env whole=(do let v <-whole;standAt e.pos;holding [v] (truthy v)):=by intro _;rfl):PT X e (tB t):=by
 intro pins s c H Q I n;refine isTrue_plain (Zv (h pins s c H _ I n) fun v u ⟨x,g,f,r1,i⟩=>?_) (j _);obtain⟨d,rfl,q⟩:=i;cases r1;exact wpAny_truthy_bool ⟨g,f,q⟩
variable{tA tB':TT}{rest:OD}
def Zck(t u:TT):TT:=fun e H Q=>t e H fun c f=>if c=true then u e f Q else Q false f
def tOr(t u:TT):TT:=fun e H Q=>t e H fun c f=>if c=true then Q true f else u e f Q
def Zcl(t:TT):TT:=fun e H Q=>t e H fun c f=>Q (!c) f
theorem Q8(ha:PT X a tA):PW X (.BoolOp .And [a] pos) tA:=by
 intro i pins s f H Q I h;refine isTrue_and (Zv (ha pins s f H Q I h) fun c g e=>?_);cases c with
 |true=>exact isTrue_and_nil e
 |false=>exact e
theorem UW(ha:PT X a tA):PW X (.BoolOp .Or [a] pos) tA:=by
 intro i pins s f H Q I h;refine isTrue_or (Zv (ha pins s f H Q I h) fun c g e=>?_);cases c with
 |false=>exact isTrue_or_nil e
 |true=>exact e
theorem Q9(ha:PT X a tA)(j:PW X (.BoolOp .And (b::rest) pos) tB'):PW X (.BoolOp .And (a::b::rest) pos) (Zck tA tB'):=by
 intro q pins s e H Q I h;refine isTrue_and (Zv (ha pins s e H _ I h) fun c n ⟨g,f,i⟩=>?_);cases c with
 |true=>exact j q pins n e g Q f i
 |false=>exact⟨g,f,i⟩
theorem UX(ha:PT X a tA)(j:PW X (.BoolOp .Or (b::rest) pos) tB'):PW X (.BoolOp .Or (a::b::rest) pos) (tOr tA tB'):=by
 intro q pins s e H Q I h;refine isTrue_or (Zv (ha pins s e H _ I h) fun c n ⟨g,f,i⟩=>?_);cases c with
 |true=>exact⟨g,f,i⟩
 |false=>exact j q pins n e g Q f i
theorem YI(ha:PT X a tA):PT X (.UnaryOp .Not a pos) (Zcl tA):=by
 intro pins s e H Q I h;exact isTrue_not (Zv (ha pins s e H (fun c f=>Q (!c) f) I h) fun _ _ ⟨a,b,c⟩=>⟨a,b,c⟩)
inductive Zcm(tb:TE)(σ:St)(Q:VK)(x:V)(H1:Hp):Prop|mk c (_:x=.bl c) (_:if c=true then tb σ H1 Q else Q (.bl false) H1)
def Zcn(ta tb:TE):TE:=fun c H Q=>ta c H fun x e=>Zcm tb c Q x e
inductive Zco(tb:TE)(σ:St)(Q:VK)(x:V)(H1:Hp):Prop|mk c (_:x=.bl c) (_:if c=true then Q (.bl true) H1 else tb σ H1 Q)
def Zcp(ta tb:TE):TE:=fun c H Q=>ta c H fun x e=>Zco tb c Q x e
inductive Zcq(Q:VK)(x:V)(H1:Hp):Prop|mk c (_:x=.bl c) (_:Q (.bl (!c)) H1)
def zD(ta:TE):TE:=fun c H Q=>ta c H fun x e=>Zcq Q x e
theorem WR{op}{t:TE}(h:PE X a t):PE X (.BoolOp op [a] pos) t:=fun pins s c H Q I e=>BoolOp_one (h pins s c H Q I e)
theorem VF(ha:PE X a ta)(j:PE X (.BoolOp .And (b::rest) pos) tb):PE X (.BoolOp .And (a::b::rest) pos) (Zcn ta tb):=by
 intro pins s f H Q I h;refine BoolOp_and (Zv (ha pins s f H _ I h) fun v n ⟨x,i,g,r1,e⟩=>?_);obtain⟨c,rfl,e⟩:=e;cases r1;refine wpAny_truthy_bool ?_;cases c with
 |true=>exact j pins n f i Q g e
 |false=>exact⟨.bl false,i,g,R,e⟩
theorem zE(ha:PE X a ta)(j:PE X (.BoolOp .Or (b::rest) pos) tb):PE X (.BoolOp .Or (a::b::rest) pos) (Zcp ta tb):=by
 intro pins s f H Q I h;refine BoolOp_or (Zv (ha pins s f H _ I h) fun v n ⟨x,i,g,r1,e⟩=>?_);obtain⟨c,rfl,e⟩:=e;cases r1;refine wpAny_truthy_bool ?_;cases c with
 |false=>exact j pins n f i Q g e
 |true=>exact⟨.bl true,i,g,R,e⟩
theorem Mh(ha:PE X a ta):PE X (.UnaryOp .Not a pos) (zD ta):=by
 intro pins s f H Q I h;refine UnaryOp_ (Zv (ha pins s f H _ I h) fun v j ⟨x,i,g,r1,e⟩=>?_);obtain⟨c,rfl,e⟩:=e;cases r1;exact not_of (wpAny_truthy_bool ⟨.bl (!c),i,g,R,e⟩)
def tIf(t:TT)(ta tb:TE):TE:=fun e H Q=>t e H fun c f=>if c=true then ta e f Q else tb e f Q
theorem KB{c:Expr}(n:PT X c tA)(ha:PE X a ta)(q:PE X b tb):PE X (.IfExp c a b pos) (tIf tA ta tb):=by
 intro pins s e H Q I h;refine wpAny_IfExp (Zv (n pins s e H _ I h) fun d j ⟨g,f,i⟩=>?_);cases d with
 |true=>exact ha pins j e g Q f i
 |false=>exact q pins j e g Q f i
end
def Zg(K:Ow)(H:Hp)(a:Addr)(xs:List V):Prop :=
 Rd H a (.lst xs) \/
  ∃(o:Obj) (its:Array Value) (n:Nat),K.lookup a=some o/\o.cls=.type "list" /\ o.dict=none/\o.data=.seq its n/\its.size<=sizeLine/\ZD xs its.toList
def Zk(K:Ow)(H:Hp)(a:Addr)(xs:List V):Prop :=
 Rd H a (.tup xs) \/
  ∃(o:Obj) (its:Array Value) (n:Nat),K.lookup a=some o/\o.cls=.type "tuple" /\ o.data=.seq its n/\its.size<=sizeLine/\ZD xs its.toList
def Zcr:Value->Option V
 |.none=>some .non
 |.bool b=>some (.bl b)
 |.int i _=>some (.int i)
 |.str x _=>some (.str x)
 |.bytes b _=>some (.byt b)
 |.float b _=>some (.flt b)
 |.ref a=>some (.ref a)
 |.type n=>some (.ty n)
 |_=>none
theorem ZG.abs{x:V}{u:Value}(r:ZG x u):Zcr u=some x:=by
 cases x with
 |non=>cases r;rfl
 |bl _=>cases r;rfl
 |int _=>obtain⟨t,rfl⟩:=r;rfl
 |str _=>obtain⟨t,rfl⟩:=r;rfl
 |byt _=>obtain⟨t,rfl⟩:=r;rfl
 |flt _=>obtain⟨t,rfl⟩:=r;rfl
 |ref _=>cases r;rfl
 |ty _=>cases r;rfl
theorem ZG.inj{x y:V}{u:Value}(r:ZG x u)(q:ZG y u):x=y:=So (r.abs.symm.trans q.abs)
theorem ZD.inj:∀{xs ys:List V} {us:OB},ZD xs us->ZD ys us->xs=ys
 |_,_,_,.nil,.nil=>rfl
 |_,_,_,.cons r t,.cons c t'=>by rw[r.inj c,ZD.inj t t']
section
variable{X:Cx}{pins:Ou}{σ:St}{H:Hp}{s:Shared}{a:Addr}{xs ys:List V}
theorem Zg.of{K:Ow}(h:H a=some (.lst xs)):Zg K H a xs:=.inl (.inl h)
theorem Zk.of{K:Ow}(h:H a=some (.tup xs)):Zk K H a xs:=.inl (.inl h)
theorem Zc.list(I:Zc X pins σ H s)(h:Zg X.K H a xs):∃c:List Value,ZD xs c/\PlainL s.heap a c.toArray/\xs.length<=sizeLine:=by
 rcases h with h|⟨o,c,n,g,f,hd,i,j,r⟩
 ·obtain⟨z,c,n,r,e⟩:=h.ok I.hok
  exact⟨c,r,⟨_,n,e,R,R,R⟩,z⟩
 ·refine⟨c.toList,r,⟨o,n,I.kIn a o g,f,hd,by simpa using i⟩,?_⟩
  have e:=r.length;simp only[Array.length_toList]at e;lia
theorem Zc.tuple(I:Zc X pins σ H s)(h:Zk X.K H a xs):∃c:List Value,ZD xs c/\IsTup s.heap a c.toArray/\xs.length<=sizeLine:=by
 rcases h with h|⟨o,c,n,g,f,i,j,r⟩
 ·obtain⟨z,c,r,p⟩:=h.ok I.hok
  exact⟨c,r,p,z⟩
 ·refine⟨c.toList,r,⟨o,I.kIn a o g,f,n,by simpa using i⟩,?_⟩
  have e:=r.length;simp only[Array.length_toList]at e;lia
theorem Zc.list_inj(I:Zc X pins σ H s)(h:Zg X.K H a xs)(h':Zg X.K H a ys):xs=ys:=by
 obtain⟨g,r,⟨o,n,e,_,_,d⟩,_⟩:=I.list h;obtain⟨q,j,⟨v,u,c,_,_,f⟩,_⟩:=I.list h';rw[e]at c;cases c;rw[d]at f;injection f with i _;have:g=q:=by simpa using congrArg Array.toList i
 subst this;exact r.inj j
end
abbrev Cx.wish(X:Cx)(E:Ot):Cx:={ X with xe:=E }
abbrev Cx.nox(X:Cx):Cx:=X.wish fun _ _=>False
theorem Cx.Ok.wish{X:Cx}(ok:X.Ok)(E:Ot):(X.wish E).Ok :=
 ⟨ok.mod,ok.kind,ok.glob,ok.blt,ok.above,ok.inj,ok.has,ok.cab,ok.hd,ok.frames,ok.stk,ok.exf,ok.bs,ok.bsz,ok.noex,ok.exfs,ok.funs,ok.frf⟩
theorem Cx.Ok.unwish{X:Cx}{E:Ot}(ok:(X.wish E).Ok):X.Ok :=
 ⟨ok.mod,ok.kind,ok.glob,ok.blt,ok.above,ok.inj,ok.has,ok.cab,ok.hd,ok.frames,ok.stk,ok.exf,ok.bs,ok.bsz,ok.noex,ok.exfs,ok.funs,ok.frf⟩
section
variable{X:Cx}{pins:Ou}{σ:St}{H:Hp}{s:Shared}{E:Ot}
theorem Zc.wish(I:Zc X pins σ H s)(E:Ot):Zc (X.wish E) pins σ H s:=⟨I.ok.wish E,I.os,I.bare,I.base,I.loc,I.cell,I.free,I.freeC,I.pin,I.hok,I.len⟩
theorem Zc.unwish(I:Zc (X.wish E) pins σ H s):Zc X pins σ H s:=⟨I.ok.unwish,I.os,I.bare,I.base,I.loc,I.cell,I.free,I.freeC,I.pin,I.hok,I.len⟩
theorem SP.unwish{D:Y6}{f:Flow}{s':Shared}(h:SP (X.wish E) pins D f s'):SP X pins D f s':=by
 cases f with
 |next=>obtain⟨e,c,I,q⟩:=h;exact⟨e,c,I.unwish,q⟩
 |brk=>obtain⟨e,c,I,q⟩:=h;exact⟨e,c,I.unwish,q⟩
 |cont=>obtain⟨e,c,I,q⟩:=h;exact⟨e,c,I.unwish,q⟩
 |ret u=>obtain⟨v,e,c,I,r,q⟩:=h;exact⟨v,e,c,I.unwish,r,q⟩
theorem X6.nox{st:List Stmt}{t:TS}(h:X6 X.nox st t):X6 X st t:=fun pins s σ H D I c =>
 Op (h pins s σ H D (I.wish _) c) (fun _ _ q=>q.unwish) fun _ _ z=>False.elim z
end
section
variable{X:Cx}{st:Stmt}{rest:List Stmt}{t u:TS}{e:Expr}{te:TE}{pos:Pos}
def zF:TS:=fun D c H=>D.nx c H
def Yg(t u:TS):TS:=fun D c H=>t { D with nx:=u D } c H
theorem ZK:X6 X [] zF:=fun _ _ c H _ I h=>wpAny_execs_nil ⟨c,H,I,h⟩
theorem Zi(h1:PS X st t)(x:X6 X rest u):X6 X (st::rest) (Yg t u):=by
 intro pins s c H D I h;refine wpAny_execs_cons (Zv (h1 pins s c H { D with nx:=u D } I h) fun f n q=>?_);cases f with
 |next =>
  obtain⟨i,g,j,q⟩:=q;exact x pins n i g D j q
 |ret v=>exact q
 |brk=>exact q
 |cont=>exact q
theorem Zh(h1:PS X st t):X6 X [st] t:=by
 intro pins s c H D I h;refine wpAny_execs_cons (Zv (h1 pins s c H D I h) fun f g q=>?_);cases f with
 |next=>exact wpAny_execs_nil q
 |ret v=>exact q
 |brk=>exact q
 |cont=>exact q
theorem Zc.quiet{pins:Ou}{c:St}{H:Hp}{s:Shared}(I:Zc X pins c H s):interactive X.env=false:=by simp[interactive,I.ok.kind]
def Zcs(te:TE):TS:=fun D c H=>te c H fun _ f=>D.nx c f
theorem Yh(n:PE X e te)(f:swapsWith e none pos.line X.env=pure false:=by rfl):PS X (.Expr e pos) (Zcs te):=by
 intro pins s c H D I h;exact wpAny_Expr_any (Zv (n pins s c H _ I h) fun v q ⟨x,i,g,r1,j⟩=>⟨c,i,g,j⟩) I.quiet f
def E6(te:TE):TS:=fun D c H=>te c H D.rt
theorem Zx(j:PE X e te):PS X (.Return (some e) pos) (E6 te):=by
 intro pins s c H D I h;exact wpAny_Return_some (Zv (j pins s c H _ I h) fun v n ⟨x,g,f,r1,i⟩=>⟨x,c,g,f,r1,i⟩)
def Zct(c:TT)(t u:TS):TS:=fun D f H=>c f H fun b g=>if b=true then t D f g else u D f g
theorem ZJ{c:Expr}{a b:List Stmt}{g:TT}(v:PT X c g)(ha:X6 X a t)(x:X6 X b u):PS X (.If c a b pos) (Zct g t u):=by
 intro pins s f H D I h;refine wpAny_If (Zv (v pins s f H _ I h) fun d q ⟨j,i,n⟩=>?_);cases d with
 |true=>exact ha pins q f j D i n
 |false=>exact x pins q f j D i n
def Zcu:TS:=fun _ _ _=>False
theorem Xv:PS X st Zcu:=fun _ _ _ _ _ _ h=>h.elim
end
abbrev TG:=V->St->Hp->(St->Hp->Prop)->Prop
abbrev UY:=List V->St->Hp->(St->Hp->Prop)->Prop
def PG(X:Cx)(target:Expr)(t:TG):Prop :=
 ∀(pins:Ou) (s:Shared) (σ:St) (H:Hp) (v:V) (u:Value) (Q:St->Hp->Prop),Zc X pins σ H s->ZG v u->t v σ H Q ->
  wpAny (model X.prog X.w) X.A (assign target X.env u) (fun _ f=>∃c e,Zc X pins c e f/\Q c e) X.xe s
def E7(X:Cx)(g:OD)(t:UY):Prop :=
 ∀(pins:Ou) (s:Shared) (σ:St) (H:Hp) (vs:List V) (us:OB) (Q:St->Hp->Prop),Zc X pins σ H s->ZD vs us->t vs σ H Q ->
  wpAny (model X.prog X.w) X.A (assignInOrder ((assignEach g X.env).map (·.2)) us) (fun _ f=>∃c e,Zc X pins c e f/\Q c e) X.xe s
abbrev Mi:=V->V->V->Hp->(Hp->Prop)->Prop
def zG(X:Cx)(t:Mi):Prop :=
 ∀(pins:Ou) (s:Shared) (σ:St) (H:Hp) (o i v:V) (ov iv u:Value) (Q:Hp->Prop),Zc X pins σ H s->ZG o ov->ZG i iv->ZG v u->t o i v H Q ->
  wpAny (model X.prog X.w) X.A (setItem ov iv u) (fun _ e=>∃c,Zc X pins σ c e/\Q c) X.xe s
section
variable{X:Cx}{pos:Pos}
def Wg(i:Nat):TG:=fun v c H Q=>Q (c.set i (some v)) H
theorem Mj{i:Nat}{x:Str}(e:X.N.Nodup)(hi:X.N[i]? = some x)(f:Qj X.env.scope x)(g:X.fn x=true\/X.env.scope.names.lookup x=some .local:=by first|exact .inl rfl|exact .inr rfl|assumption):PG X (.Name x pos) (Wg i):=by
 intro pins s j H v u Q I r h;exact wpAny_assign_Name (E4 I e hi f r (fun n c=>⟨_,H,c,h⟩) g)
def Zcv:UY:=fun c e H Q=>c=[]/\Q e H
inductive Zcw(t:TG)(u:UY)(vs:List V)(σ:St)(H:Hp)(Q:St->Hp->Prop):Prop|mk v r (_:vs=v::r) (_:t v σ H fun σ' H'=>u r σ' H' Q)
theorem WJ:E7 X [] Zcv:=by
 intro pins s c H g f Q I r h;obtain⟨e,h⟩:=h;subst e;cases r;exact assignInOrder_nil ⟨c,H,I,h⟩
theorem Yv{e:Expr}{c:OD}{t:TG}{u:UY}(h1:PG X e t)(C:E7 X c u)
  (j:(assignEach (e::c) X.env).map (·.2)=assign e X.env::(assignEach c X.env).map (·.2):=by rfl):E7 X (e::c) (Zcw t u):=by
 intro pins s x H D G Q I r h;obtain⟨v,E,B,h⟩:=h;subst B;cases r with
 |cons r y =>
  rw[j];refine assignInOrder_cons (Zv (h1 pins s x H _ _ _ I r h) fun _ q ⟨f,n,g,i⟩=>?_);exact C pins q f n _ _ Q g y i
inductive zH(K:Ow)(n:Nat)(t:UY)(v:V)(σ:St)(H:Hp)(Q:St->Hp->Prop):Prop|mk a xs (_:v=.ref a) (_:Zk K H a xs) (_:xs.length=n) (_:t xs σ H Q)
theorem Vm{c:OD}{k:Nat}{t:UY}{n:Nat}(E:X.calm=true)(h:E7 X c t)
  (hn:(assignEach c X.env).length=n:=by rfl) (x:(assignEach c X.env).findIdx? (·.1)=none:=by rfl):PG X (.Tuple c k pos) (zH X.K n t):=by
 intro pins s i H v u Q I r f;obtain⟨a,C,J,y,D,f⟩:=f;subst J;cases r;obtain⟨M,g,G,L⟩:=I.tuple y;refine assign_Tuple_tuple (I.ok.hd E) G (by simp[hn,<-D,g.length]) x fun B q=>?_;have j:Zc X pins i H { s with heap:=B }:=I.kept (t':=s.toks) fun b o e=>q b o (Sf (Se e)) e;exact h pins _ i H C _ Q j (by simpa using g) f
def Zcx(to h:TE)(t:Mi):TG:=fun v c H Q=>to c H fun o g=>h c g fun i e=>t o i v e fun f=>Q c f
theorem E8{o i:Expr}{to g:TE}{t:Mi}(O:PE X o to)(hi:PE X i g)(J:zG X t)
  (ha:∀v,assign (.Subscript o i pos) X.env v=(do
   let c <-holding [v] (eval o X.env)
   let e <-holding [v,c] (eval i X.env)
   standAt pos
   holding [v,c,e] (setItem c e v)
   release [v,c,e] []):=by intro _;rfl):PG X (.Subscript o i pos) (Zcx to g t):=by
 intro pins s f H v u Q I r h;rw[ha];refine Sa (wpAny_holding (Zv (O pins s f H _ I h) fun c P ⟨x,L,q,r1,B⟩=>?_));refine Sa (wpAny_holding (Zv (hi pins P f L _ q B) fun e s2 ⟨y,j,M,G,C⟩=>?_));refine Sa (wpAny_standAt (Sa (wpAny_holding (Zv (J pins s2 f j x y v c e u _ M r1 G r C) fun _ S ⟨n,E,D⟩=>?_))));exact wpAny_release ⟨f,n,E,D⟩
def KD(e:TE)(g:TG):TS:=fun D c H=>e c H fun x f=>g x c f D.nx
theorem VX{c e:Expr}{f:TE}{g:TG}(G:PE X e f)(C:PG X c g)(u:swapsWithSole [c] e pos.line X.env=pure false:=by rfl)(E:swappedStores [c] e X.env=pure none:=by rfl)
  (J:(assignEach [c] X.env).map (·.2)=[assign c X.env]:=by rfl):PS X (.Assign [c] e pos) (KD f g):=by
 intro pins s i H D I h;refine wpAny_Assign_stores (Zv (G pins s i H _ I h) fun v B ⟨x,y,j,r1,n⟩=>?_) u E;rw[J];exact Zv (C pins B i y x v _ j r1 n) fun _ s2 q=>q
theorem Zcy{i:Nat}{x:Str}{e:Expr}{c:TE}{pos':Pos}(E:X.N.Nodup)(hi:X.N[i]? = some x)(B:Qj X.env.scope x)(G:PE X e c)(g:swapsWith e (some (.Name x pos')) pos.line X.env=pure false:=by rfl)(j:X.fn x=true\/X.env.scope.names.lookup x=some .local:=by first|exact .inl rfl|exact .inr rfl|assumption) :
  PS X (.Assign [.Name x pos'] e pos) (KD c (Wg i)):=by
 intro pins s f H D I h;refine wpAny_Assign_Name (Zv (G pins s f H _ I h) fun v J ⟨y,q,n,r1,u⟩=>?_) g;exact E4 n E hi B r1 (fun s2 C=>⟨_,q,C,u⟩) j
inductive Zcz(i j:Nat)(D:Y6)(σ:St)(vs:List V)(H1:Hp):Prop|mk v w (_:vs=[v,w]) (_:D.nx ((σ.set i (some v)).set j (some w)) H1)
def ZcA(i j:Nat)(g:TA):TS:=fun D c H=>g c H fun e f=>Zcz i j D c e f
theorem ZcB{i j:Nat}{x y:Str}{a b:Expr}{C:TA}{h u pt:Pos}{kt k2 pt2}(U:X.calm=true)(G:X.N.Nodup)(hi:X.N[i]? = some x)(hj:X.N[j]? = some y)(b0:i≠j)
  (B:X.env.scope.names.lookup x=some .local) (D:X.env.scope.names.lookup y=some .local) (ha:PA X [a,b] C)
  (hw:swappedStores [.Tuple [.Name x h,.Name y u] kt pt] (.Tuple [a,b] k2 pt2) X.env=pure (some [x,y]))
  (Z:swapsWithSole [.Tuple [.Name x h,.Name y u] kt pt] (.Tuple [a,b] k2 pt2) pos.line X.env=pure false:=by rfl) :
  PS X (.Assign [.Tuple [.Name x h,.Name y u] kt pt] (.Tuple [a,b] k2 pt2) pos) (ZcA i j C):=by
 intro pins s L H d0 I c0;rw[exec_Assign_arm];refine Sa (wpAny_standAt ?_);rw[Z];refine Sa (Sb ?_);rw[SU (by lia)];refine Sa (Tuple_ (Zv (ha _ pins s L H _ I c0) fun us g ⟨vs,E,O,r1,n⟩=>?_));obtain⟨v,w,e1,n⟩:=n;subst e1;obtain⟨f,c,rfl,T,a0⟩:∃f c,us=[f,c]/\ZG v f/\ZG w c:=by
  cases r1 with
  |cons p q =>
   cases q with
   |cons P Y =>
    cases Y;exact⟨_,_,R,p,P⟩
 refine wpAny_newObj_type ?_ (by show 2<=sizeLine;lia);have I2:Zc X pins L E { g with heap:=g.heap.push { cls:=.type "tuple",data:=.seq [f,c].toArray } }:=O.kept (t':=g.toks) fun b o e=>Sc _ e;rw[hw];refine Sa (Sb ?_);show wpAny (model X.prog X.w) X.A (do rule "assign.swapped-stores";let items <-unpackItems (.ref g.heap.objs.size) 2 none;assignInOrder [fun v=>bindName X.env y v,fun v=>bindName X.env x v] items.reverse;pure Flow.next) _ _ _;refine Sa (wpAny_rule (Sa (unpackItems_tuple (items:=#[f,c]) (I.ok.hd U) (IsTup.new g.heap _) fun h' Q=>?_)));have S:=I2.kept (h':=h') (t':=g.toks) fun b o e=>Q b o (Sf (Se e)) e;show wpAny _ _ (assignInOrder [fun v=>bindName X.env y v,fun v=>bindName X.env x v] [c,f] >>= fun _=>pure Flow.next) _ _ _;refine Sa (assignInOrder_cons (wpAny_bindName (E4 S G hj (.inl D) a0 (fun s2 M=>?_) (.inr D))));refine assignInOrder_cons (wpAny_bindName (E4 M G hi (.inl B) T (fun s3 J=>assignInOrder_nil (Sb ?_)) (.inr B)));rw[List.set_comm _ _ (Ne.symm b0)]at J;exact⟨_,E,J,n⟩
end
section
variable{X:Cx}{pos:Pos}
end
structure It where
 go:Nat->Hp->Prop
 yld:Nat->Hp->V->Hp->Prop
 stop:Nat->Hp->Prop
def VY(X:Cx)(pins:Ou)(H:Hp)(b:Addr):Prop :=
 H b=none/\b≠X.env.locals/\b∉X.fs/\(b∈X.ex\/X.s₀.heap.objs.size<=b)/\(∀x c,X.env.cells.lookup x=some c->c≠b)/\∀p∈X.pn++pins,p.1≠b
theorem Zc.fpOk{X:Cx}{pins:Ou}{h:St}{H g:Hp}{s:Shared}{b:Addr}(I:Zc X pins h H s)(f:s.heap.objs.size<=b)(hn:g b=none):VY X pins g b:=by
 refine⟨hn,Nat.ne_of_gt (Si I.lt f),I.nofs f,.inr (Sh I.sz f),fun x c e z=>?_,fun p i z=>?_⟩
 ·obtain⟨v,q⟩:=I.cell x c e
  exact Oq (Si q.lt (by rw[z];exact f)) (Sl _)
 ·exact Oq (Si (Se (I.pin p i).1) (by rw[z];exact f)) (Sl _)
structure Ql(P:Program)(w:World)(K:Ow)(tg:Expr)(J:It)(fp:OH)(it:Addr)(tn:Nat->Heap->Prop):Prop where
 mem:it∈fp
 obj:∀i h,tn i h->∀b∈fp,∃o,h.get? b=some o/\∀v,o.data≠.cell v
 keep:∀i h h',tn i h->(∀b∈fp,∀o,h.get? b=some o->h'.get? b=some o)->tn i h'
 item:∀(X:Cx),X.prog=P->X.w=w->X.K=K->X.calm=true->∀(i:Nat) (pins:Ou) (s:Shared) (σ:St) (H:Hp) (E:Ot),Zc X pins σ H s->(∀b∈fp,VY X pins H b)->tn i s.heap->J.go i H ->
  wpAny (model P w) X.A (pyNext (.ref it)) (fun r s1=>∃u,r=some u /\
   wpAny (model P w) X.A (letOwnedTupleGo tg (.ref it) u) (fun _ s2=>∃x H',Zc X pins σ H' s2/\ZG x u/\J.yld i H x H'/\tn (i+1) s2.heap/\∀b∈fp,H' b=none) E s1) E s
 done:∀(X:Cx),X.prog=P->X.w=w->X.K=K->X.calm=true->∀(i:Nat) (pins:Ou) (s:Shared) (σ:St) (H:Hp) (E:Ot),Zc X pins σ H s->(∀b∈fp,VY X pins H b)->tn i s.heap->J.stop i H ->
  wpAny (model P w) X.A (pyNext (.ref it)) (fun r s1=>r=none/\Zc X pins σ H s1) E s
 self:∀(A:Around) (i:Nat) (s:Shared) (Q:Ot) (E:Ot),tn i s.heap->Q (.ref it) s->wpAny (model P w) A (pyIter (.ref it)) Q E s
abbrev TI:=St->Hp->(It->Hp->Prop)->Prop
inductive zI(X:Cx)(pins:Ou)(σ:St)(tg:Expr)(R:It->Hp->Prop)(itv:Value)(s2:Shared):Prop|mk (it:Addr) (fp:OH) (tn:Nat->Heap->Prop) (J:It) (H':Hp) (_:itv=.ref it) (_:Zc X pins σ H' s2) (_:Ql X.prog X.w X.K tg J fp it tn) (_:tn 0 s2.heap) (_:(∀b∈fp,VY X pins H' b)) (_:R J H')
def PI(X:Cx)(e iter:Expr)(c:TI):Prop :=
 ∀(pins:Ou) (s:Shared) (σ:St) (H:Hp) (R:It->Hp->Prop),Zc X pins σ H s->c σ H R ->
  wpAny (model X.prog X.w) X.A (eval iter X.env) (fun v f=>wpAny (model X.prog X.w) X.A (pyIter v) (zI X pins σ e R) X.xe f) X.xe s
theorem Ml {M:Model} {A:Around} {E:Ot} {s:Shared} {f:Expr} {e:Addr} {u:Value} {o:Obj} {n:String} {vs:Array Value} {Q:OA} (i:s.heap.get? e=some o) (g:o.cls=.type n) (hd:o.data=.fields vs)
    (hn:["enumerate","zip","dict_itemiterator","dict_reverseitemiterator","odict_iterator","itertools.zip_longest","itertools.pairwise"].contains n=false) (c:Q () s):wpAny M A (letOwnedTupleGo f (.ref e) u) Q E s:=by
  unfold letOwnedTupleGo;cases f<;>first
    |exact Sb c
    | (cases u <;> first
        |exact Sb c
        | (refine Sa (wpAny_load i ?_)
           rw[g,hd];show wpAny M A (if (["enumerate","zip","dict_itemiterator","dict_reverseitemiterator","odict_iterator","itertools.zip_longest","itertools.pairwise"].contains n && vs[0]? == some (rawInt _))=true then _ else _) Q E s;rw[SU (by intro h;rw[hn,Bool.false_and]at h;cases h)];exact Sb c))
def UZ(K:Ow)(a:Addr):It :=
 ⟨fun i H=>∃c x,Zg K H a c/\c[i]? = some x,fun i H x e=>e=H/\∀c,Zg K H a c->c[i]? = some x,fun i H=>∃c,Zg K H a c/\c.length<=i⟩
def Ug(lo:Int)(n:Nat):It:=⟨fun i _=>i<n,fun i H x c=>c=H/\x=.int (lo+i),fun i _=>n<=i⟩
theorem ZcC{P:Program}{w:World}{K:Ow}{tg:Expr}(a f:Addr):Ql P w K tg (UZ K a) [f] f (fun i h=>h.IsListIter f a i) where
 mem:=by simp
 obj:=fun i h st b g=>by
  have e:b=f:=by simpa using g
  subst e;obtain⟨o,e,c,d⟩:=st;exact⟨o,e,fun c0 z=>by rw[d]at z;cases z⟩
 keep:=fun i h n st k=>st.at fun o e=>k f (by simp) o e
 item:=by
  intro X O L D S i pins s T H b0 I q st J;subst O L D;obtain⟨xs,x,j,y⟩:=J;obtain⟨a0,C,p,U⟩:=I.list j;obtain⟨u,hu,ru⟩:=C.get y;obtain⟨G,M,Z,E,v,B⟩:=q f (by simp);refine wpAny_pyNext_list_item st p.isList (x:=u) (by simpa using hu) fun n Q sb=>?_;have Y:Zc X pins T H { s with heap:=n }:=I.turned (t':=s.toks) (fun b o g e=>(sb.2 b g).trans e) G M E v B;obtain⟨o,e,c,d⟩:=id Q;exact⟨u,R,Ml (s:={ s with heap:=n }) e c d (by lia) ⟨x,H,Y,ru,⟨R,fun ys hy=>by rw[I.list_inj hy j];exact y⟩,Q,fun b g=>(q b g).1⟩⟩
 done:=by
  intro X O L D S i pins s T H b0 I q st J;subst O L D;obtain⟨xs,j,y⟩:=J;obtain⟨a0,C,p,U⟩:=I.list j;obtain⟨G,M,Z,E,v,B⟩:=q f (by simp);have hl:=C.length;exact wpAny_pyNext_list_end (I.ok.hd S) st p.isList (by simp;lia) fun n eb=>⟨R,I.turned (t':=s.toks) (fun b o g e=>eb b o g e) G M E v B⟩
 self:=fun _ _ _ _ _ st h=>wpAny_pyIter_listiter st h
theorem ZcD{P:Program}{w:World}{K:Ox}{U:Expr}(c:Addr)(lo:Int)(n:Nat):Ql P w K U (Ug lo n) [c] c (fun i h=>IsRangeIter h c (lo+(i:Nat)*1) ((n:Int) - (i:Nat)) 1) where
 mem:=by simp
 obj:=fun i h st b f=>by
  have e:b=c:=by simpa using f
  subst e;exact⟨_,st,fun v z=>by
   have T:Data.fields _=Data.cell v:=z;cases T⟩
 keep:=fun i h g st k=>k c (by simp) _ st
 item:=by
  intro X L G x y i pins s O H E I j st D;subst L G x;obtain⟨C,J,S,B,q,u⟩:=j c (by simp);have W:=Walks.range (prog:=X.prog) (w:=X.w) (I.ok.hd y) c lo 1 n;refine W.item i s _ _ D st fun v g tk Z M kk=>?_;obtain⟨t,rfl⟩:=Z;have Q:Zc X pins O H { s with heap:=g,toks:=tk }:=I.turned (fun b o f e=>kk b o (by simpa using f) e) C J B q u;refine⟨_,R,Ml (s:={ s with heap:=g,toks:=tk }) (n := "range_iterator") M R R (by lia) ⟨.int (lo+i),H,Q,⟨t,?_⟩,⟨R,R⟩,M,fun b f=>(j b f).1⟩⟩;rw[Int.mul_one]
 done:=by
  intro X L G x y i pins s O H E I j st D;subst L G x;obtain⟨C,J,S,B,q,u⟩:=j c (by simp);exact wpAny_pyNext_range_end (I.ok.hd y) st (by have:n<=i:=D;lia) fun g Y=>⟨R,I.turned (t':=s.toks) (fun b o f e=>Y b o f e) C J B q u⟩
 self:=fun _ _ _ _ _ st h=>wpAny_pyIter_rangeiter st h
section
variable{X:Cx}{tg:Expr}
inductive ZcE(K:Ow)(R:It->Hp->Prop)(x:V)(H1:Hp):Prop|mk a (_:x=.ref a) (_:(∃xs,Zg K H1 a xs)) (_:R (UZ K a) H1)
def ZcF(K:Ow)(g:TE):TI:=fun c H f=>g c H fun x e=>ZcE K f x e
theorem VZ{l:Expr}{g:TE}(n:PE X l g):PI X tg l (ZcF X.K g):=by
 intro pins s y H J I h;refine Zv (n pins s y H _ I h) fun v f ⟨x,u,c,r1,i⟩=>?_;obtain⟨a,e,⟨E,j⟩,q⟩:=i;subst e;cases r1;obtain⟨D,G,p,C⟩:=c.list j;refine wpAny_pyIter_list p.isList ?_;refine⟨f.heap.objs.size,[f.heap.objs.size],_,_,u,R,c.kept (t':=f.toks) fun b o e=>Sc _ e,ZcC a _,⟨_,Sd _ R,R,R⟩,fun b B=>?_,q⟩;have e:b=f.heap.objs.size:=by simpa using B
 subst e;exact c.fpOk (Sg _) (c.hok.fresh (Sg _))
theorem zJ{pins:Ou}{c:St}{H:Hp}{s:Shared}{R:It->Hp->Prop}{E:Ot}{lo hi:Int}{t u v:Tok}{tk:Nat}(I:Zc X pins c H s)(h1:-(2 ^ 62)<=lo)(x:lo<2 ^ 62)(g:-(2 ^ 62)<=hi)(i:hi<2 ^ 62)
  (q:R (Ug lo (hi - lo).toNat) H):wpAny (model X.prog X.w) X.A (pyIter (.ref s.heap.objs.size)) (zI X pins c tg R) E { s with heap:=s.heap.push { cls:=.type "range",data:=.fields #[.int lo t,.int hi u,.int 1 v] },toks:=tk }:=by
 refine wpAny_pyIter_range (IsRange.new ..) (small_one h1 x g i) ?_;have f:Zc X pins c H { s with heap:=s.heap.push { cls:=.type "range",data:=.fields #[.int lo t,.int hi u,.int 1 v] },toks:=tk }:=I.kept fun b o e=>Sc _ e;refine⟨(s.heap.push { cls:=.type "range",data:=.fields #[.int lo t,.int hi u,.int 1 v] }).objs.size,[(s.heap.push { cls:=.type "range",data:=.fields #[.int lo t,.int hi u,.int 1 v] }).objs.size],_,_,H,rfl,
  f.kept (t':=tk) fun b o e=>Sc _ e,ZcD _ lo (hi - lo).toNat,?_,fun b j=>?_,q⟩
 ·have n:lo+((0:Nat):Int)*1=lo:=by simp
  have h:(((hi - lo).toNat:Nat):Int) - ((0:Nat):Int)=Builtin.Range.rangeSize lo hi 1:=by rw[rangeSize_one];split<;>omega
  show IsRangeIter _ _ (lo+((0:Nat):Int)*1) ((((hi - lo).toNat:Nat):Int) - ((0:Nat):Int)) 1;rw[n,h];exact Sd _ rfl
 ·have e:b=(s.heap.push { cls:=.type "range",data:=.fields #[.int lo t,.int hi u,.int 1 v] }).objs.size:=by simpa using j
  subst e;exact f.fpOk (Sg _) (f.hok.fresh (Sg _))
inductive ZcG(R:It->Hp->Prop)(vs:List V)(H1:Hp):Prop|mk (j:Int) (_:vs=[.int j]) (_:-(2 ^ 62)<=j) (_:j<2 ^ 62) (_:R (Ug 0 j.toNat) H1)
def ZcH(h:TA):TI:=fun c H g=>h c H fun e f=>ZcG g e f
inductive ZcI(R:It->Hp->Prop)(vs:List V)(H1:Hp):Prop|mk (i j:Int) (_:vs=[.int i,.int j]) (_:(-(2 ^ 62)<=i/\i<2 ^ 62/\-(2 ^ 62)<=j/\j<2 ^ 62)) (_:R (Ug i (j - i).toNat) H1)
def ZcJ(h:TA):TI:=fun c H g=>h c H fun e f=>ZcI g e f
theorem Uh{a:Expr}{g:TA}{p f:Pos}(v:Gl X "range") (hm:X.mg "range" = none) (ha:PA X [a] g) (u:starEach [a] X.env=[(false,eval a X.env)]:=by rfl):PI X tg (.Call (.Name "range" p) [a] [] f) (ZcH g):=by
 intro pins s x H D I h;refine Call_ (UV I v hm boot_range (PyProof.Rows.callWith_type1 (Zv (ha f pins s x H _ I h) fun G E ⟨B,C,i,r1,c⟩=>?_) u R));obtain⟨j,e,c,n,q⟩:=c;subst e;cases r1 with
 |cons r y =>
  cases y;obtain⟨t,rfl⟩:=r;exact call_range_1 (zJ i (by lia) (by lia) c n (by simpa using q))
theorem Mm{a b:Expr}{n:TA}{p g:Pos}(E:Gl X "range") (hm:X.mg "range" = none) (ha:PA X [a,b] n) (D:starEach [a,b] X.env=[(false,eval a X.env),(false,eval b X.env)]:=by rfl) (u:starEach [b] X.env=[(false,eval b X.env)]:=by rfl) :
  PI X tg (.Call (.Name "range" p) [a,b] [] g) (ZcJ n):=by
 intro pins s G H M I h;refine Call_ (UV I E hm boot_range (PyProof.Rows.callWith_type1 (Zv (ha g pins s G H _ I h) fun Q O ⟨J,L,x,r1,c⟩=>?_) (by rw[D,u]) (by rw[u];rfl)));obtain⟨i,j,e,⟨c,y,B,v⟩,q⟩:=c;subst e;cases r1 with
 |cons r f =>
  cases f with
  |cons C f =>
   cases f;obtain⟨t,rfl⟩:=r;obtain⟨P,rfl⟩:=C;exact call_range_2 (zJ x c y B v q)
def zK(n:TI)(g:TG)(tb:TS):TS:=fun D c H=>n c H fun J q=>∃W:Nat->Nat->St->Hp->Prop,(∃m,W 0 m c q)/\∀i m c H,W i m c H ->
 (J.stop i H/\D.nx c H)\/(J.go i H/\∃N:St->Hp->Prop,(∀h e,N h e->∃f,f<m/\W (i+1) f h e)/\∀x e,J.yld i H x e->g x c e fun u j=>tb { D with nx:=N,ct:=N,bk:=D.nx } u j)
def Ui(fp:OH)(h:Heap):List (Addr×Obj):=fp.filterMap fun b=>(h.get? b).map fun o=>(b,o)
theorem A0{fp:OH}{h:Heap}{b:Addr}{o:Obj}(c:b∈fp)(e:h.get? b=some o):(b,o)∈Ui fp h:=List.mem_filterMap.mpr ⟨b,c,by rw[e];rfl⟩
theorem ZcK{fp:OH}{h:Heap}{p:Addr×Obj}(g:p∈Ui fp h):p.1∈fp/\h.get? p.1=some p.2:=by
 obtain⟨b,f,e⟩:=List.mem_filterMap.mp g;cases q:h.get? b with
 |none=>rw[q]at e;cases e
 |some o =>
  rw[q]at e;have c:(b,o)=p:=So e;subst c;exact⟨f,q⟩
theorem Zc.pinned{pins:Ou}{c:St}{H:Hp}{s:Shared}{fp:OH}(I:Zc X pins c H s)(u:∀b∈fp,VY X pins H b)(n:∀b∈fp,∃o,s.heap.get? b=some o/\∀v,o.data≠.cell v):Zc X (pins++Ui fp s.heap) c H s :=
 I.pins_of fun p i=>(SF.mp i).elim (fun z=>I.pin p (SG _ z)) fun z=>by
  obtain⟨g,e⟩:=ZcK z;obtain⟨q,h,j,_⟩:=u p.1 g;obtain⟨o,f,d⟩:=n p.1 g;rw[e]at f;cases f;exact⟨e,q,h,j,d⟩
theorem Zc.unpinned{pins pl:Ou}{c:St}{H:Hp}{s:Shared}(I:Zc X (pins++pl) c H s):Zc X pins c H s:=I.pins_of fun p e=>I.pin p (SG _ (SH _ e))
theorem zL{iter:Expr}{body:List Stmt}{Q:TI}{g:TG}{tb:TS}{f0:Pos}(C:PassesOwn (model X.prog X.w) X.A X.env X.xe)(P:X.calm=true)(hi:PI X tg iter Q)(hg:PG X tg g)(j:X6 X body tb)
  (hs:∀x,foldedSetIterable iter X.env x=pure x:=by intro _;rfl):PS X (.For tg iter body [] f0) (zK Q g tb):=by
 intro pins s U b0 o0 d0 j0;refine wpAny_For (Zv (hi pins s U b0 _ d0 j0) fun g0 s1 h1=>Zv h1 fun n0 s2 h2=>?_) hs;obtain⟨it,fp,tn,l0,H2,e,I2,T,k0,L,W,⟨m0,w0⟩,turn⟩:=h2;subst e
 -- what stays true of the iterator's objects through the loop
 have E:∀{q:Hp},(∀b∈fp,q b=none)->∀b∈fp,VY X pins q b:=fun hn b j=>⟨hn b j,(L b j).2⟩;refine codeAny_forLoop_any (fun n J=>∃i B q,Zc X pins B q J/\tn i J.heap/\(∀b∈fp,q b=none)/\W i n B q) ?_ m0 ⟨0,U,H2,I2,k0,fun b j=>(L b j).1,w0⟩;rintro n Z ⟨i,v,D,M,O,S,w3⟩;rcases turn i n v D w3 with⟨stop,qn⟩|⟨go,N,hN,step⟩
 ·refine wpAny_passesOwn C (Zv (T.done X R R R P i pins Z v D X.xe M (E S) O stop) fun r s4 ⟨H,I4⟩=>?_)
  subst H;exact wpAny_execs_nil ⟨v,D,I4,qn⟩
 ·refine wpAny_passesOwn C (Zv (T.item X R R R P i pins Z v D X.xe M (E S) O go) fun r s4 ⟨c0,H,h4⟩=>?_)
  subst H;refine wpAny_passesOwn C (Zv h4 fun _ s5 ⟨x,Y,I5,r5,y5,G,h0⟩=>?_);have e0:=I5.pinned (E h0) (T.obj _ _ G);refine wpAny_passesOwn C (Zv (hg _ s5 v Y x c0 _ e0 r5 (step x Y y5)) fun _ s6 ⟨i0,H6,I6,q6⟩=>?_);refine wpAny_passesOwn C (Zv (j _ s6 i0 H6 _ I6 q6) fun a0 I u=>?_);have again:∀{h:St} {c:Hp},Zc X (pins++Ui fp s5.heap) h c I->N h c->∃m,m<n/\∃i B q,Zc X pins B q I/\tn i I.heap/\(∀b∈fp,q b=none)/\W i m B q:=fun{h c} f y=>by
   obtain⟨m',hm,w7⟩:=hN h c y;refine⟨m',hm,i+1,h,c,f.unpinned,T.keep _ _ _ G fun b j o e=>(f.pin (b,o) (SG _ (SG _ (A0 j e)))).1,fun b j=>?_,w7⟩;obtain⟨o,e,d⟩:=T.obj _ _ G b j;exact(f.pin (b,o) (SG _ (SG _ (A0 j e)))).2.1
  cases a0 with
  |next=>obtain⟨h,c,f,y⟩:=u;exact again f y
  |cont=>obtain⟨h,c,f,y⟩:=u;exact again f y
  |brk=>obtain⟨h,c,f,u⟩:=u;exact⟨h,c,f.unpinned,u⟩
  |ret g0=>obtain⟨x7,h,c,f,r7,u⟩:=u;exact⟨x7,h,c,f.unpinned,r7,u⟩
end
theorem E9{K:Ox}{a:Addr}{xs:List V}{g:TG}{tb:TS}{D:Y6}{c:St}{H:Hp}(f:Nat->St->Hp->Prop)(E:f 0 c H)(J:∀i c H,i<=xs.length->f i c H->Zg K H a xs)
  (G:∀i x c H,xs[i]? = some x->f i c H->g x c H fun n j=>tb { D with nx:=f (i+1),ct:=f (i+1),bk:=D.nx } n j) (hd:∀c H,f xs.length c H->D.nx c H) :
  ∃W:Nat->Nat->St->Hp->Prop,(∃m,W 0 m c H)/\∀i m c H,W i m c H ->
   ((UZ K a).stop i H/\D.nx c H)\/((UZ K a).go i H/\∃N:St->Hp->Prop,(∀u h,N u h->∃B,B<m/\W (i+1) B u h)/\∀x h,(UZ K a).yld i H x h->g x c h fun n j=>tb { D with nx:=N,ct:=N,bk:=D.nx } n j):=by
 refine⟨fun i m c H=>m=xs.length - i/\i<=xs.length/\f i c H,⟨xs.length,by simp,Sk _,E⟩,?_⟩;rintro i m c H ⟨rfl,C,p⟩;have q:=J i c H C p;by_cases v:i<xs.length
 ·refine .inr ⟨⟨xs,xs[i],q,by simp[v]⟩,f (i+1),fun u h I=>⟨xs.length - (i+1),by lia,R,v,I⟩,fun x h y=>?_⟩
  obtain⟨e,y⟩:=y;subst e;exact G i x c _ (y xs q) p
 ·have e:i=xs.length:=by lia
  subst e;exact .inl ⟨⟨xs,q,Sg _⟩,hd c H p⟩
theorem Uj{lo:Int}{n:Nat}{g:TG}{tb:TS}{D:Y6}{c:St}{H:Hp}(h:Nat->St->Hp->Prop)(C:h 0 c H)
  (E:∀i c H,i<n->h i c H->g (.int (lo+i)) c H fun v j=>tb { D with nx:=h (i+1),ct:=h (i+1),bk:=D.nx } v j) (hd:∀c H,h n c H->D.nx c H) :
  ∃W:Nat->Nat->St->Hp->Prop,(∃m,W 0 m c H)/\∀i m c H,W i m c H ->
   ((Ug lo n).stop i H/\D.nx c H)\/((Ug lo n).go i H/\∃N:St->Hp->Prop,(∀u f,N u f->∃B,B<m/\W (i+1) B u f)/\∀x f,(Ug lo n).yld i H x f->g x c f fun v j=>tb { D with nx:=N,ct:=N,bk:=D.nx } v j):=by
 refine⟨fun i m c H=>m=n - i/\i<=n/\h i c H,⟨n,by simp,Sk _,C⟩,?_⟩;rintro i m c H ⟨rfl,I,p⟩;by_cases q:i<n
 ·refine .inr ⟨q,h (i+1),fun u f G=>⟨n - (i+1),by lia,R,q,G⟩,fun x f y=>?_⟩
  obtain⟨e,y⟩:=y;subst e y;exact E i c _ q p
 ·have e:i=n:=by lia
  subst e;exact .inl ⟨Sg _,hd c H p⟩
abbrev R2:=V->V->Hp->VK->Prop
def YM(X:Cx)(f:Value->Value->Sem Value)(r:R2):Prop :=
 ∀(pins:Ou) (s:Shared) (σ:St) (H:Hp) (x y:V) (v u:Value) (Q:VK),Zc X pins σ H s->ZG x v->ZG y u->r x y H Q ->
  wpAny (model X.prog X.w) X.A (f v u) (EP X pins σ Q) X.xe s
def Mn(X:Cx)(f:Value->Sem Value)(r:V->Hp->VK->Prop):Prop :=
 ∀(pins:Ou) (s:Shared) (σ:St) (H:Hp) (x:V) (v:Value) (Q:VK),Zc X pins σ H s->ZG x v->r x H Q ->
  wpAny (model X.prog X.w) X.A (f v) (EP X pins σ Q) X.xe s
def Xb(X:Cx)(f:Value)(r:List V->Hp->VK->Prop):Prop :=
 ∀(pins:Ou) (s:Shared) (σ:St) (H:Hp) (xs:List V) (us:OB) (Q:VK),Zc X pins σ H s->ZD xs us->r xs H Q ->
  wpAny (model X.prog X.w) X.A (call f us) (EP X pins σ Q) X.xe s
def ZcL(X:Cx)(r:V->Hp->(Bool->Hp->Prop)->Prop):Prop :=
 ∀(pins:Ou) (s:Shared) (σ:St) (H:Hp) (x:V) (v:Value) (Q:Bool->Hp->Prop),Zc X pins σ H s->ZG x v->r x H Q ->
  wpAny (model X.prog X.w) X.A (truthy v) (TP X pins σ Q) X.xe s
def Ux(r:R2)(g tb:TE):TE:=fun c H Q=>g c H fun x f=>tb c f fun y e=>r x y e Q
def tUn(r:V->Hp->VK->Prop)(f:TE):TE:=fun c H Q=>f c H fun x e=>r x e Q
inductive rI(C:Int->Int->Prop)(g:Int->Int->V)(x:V)(y:V)(H:Hp)(Q:VK):Prop|mk i j (_:x=.int i) (_:y=.int j) (_:C i j) (_:Q (g i j) H)
inductive Uy(g:Int->Int->V)(x:V)(y:V)(H:Hp)(Q:VK):Prop|mk i j (_:x=.int i) (_:y=.int j) (_:Q (g i j) H)
inductive rU(g:Int->V)(x:V)(H:Hp)(Q:VK):Prop|mk i (_:x=.int i) (_:Q (g i) H)
section
variable{X:Cx}{a b c:Expr}{ta tb tc:TE}{pos:Pos}
theorem Mo(ha:PE X a ta)(B:PE X b tb){pins:Ou}{s:Shared}{g:St}{H:Hp}{R:V->V->Hp->Prop}(I:Zc X pins g H s)
  (h:ta g H fun x i=>tb g i fun y e=>R x y e) {Q:Ot} {f:Value->Value->Sem Value}
  (j:∀v u s2 x y e,Zc X pins g e s2->ZG x v->ZG y u->R x y e->wpAny (model X.prog X.w) X.A (f v u) Q X.xe s2) :
  wpAny (model X.prog X.w) X.A (eval a X.env) (fun v D=>wpAny (model X.prog X.w) X.A (eval b X.env) (fun u G=>wpAny (model X.prog X.w) X.A (f v u) Q X.xe G) X.xe D) X.xe s:=by
 refine Zv (ha pins s g H _ I h) fun v J ⟨x,i,n,r1,q⟩=>?_;refine Zv (B pins J g i _ n q) fun u s2 ⟨y,e,C,E,L⟩=>?_;exact j v u s2 x y e C r1 E L
theorem Zd{e:Operator}{r:R2}(g:YM X (binaryOp e) r)(ha:PE X a ta)(B:PE X b tb):PE X (.BinOp a e b pos) (Ux r ta tb):=by
 intro pins s i H Q I h;exact wpAny_BinOp (Mo ha B I h fun v u s2 x y f n C j q=>g pins s2 i f x y v u Q n C j q)
theorem ZcM{f:UnaryOp}{r:V->Hp->VK->Prop}(n:Mn X (unaryOp f) r)(ha:PE X a ta):PE X (.UnaryOp f a pos) (tUn r ta):=by
 intro pins s e H Q I h;exact UnaryOp_ (Zv (ha pins s e H _ I h) fun v q ⟨x,i,g,r1,j⟩=>n pins q e i x v Q g r1 j)
theorem A1{f:Value->Value->Sem Value}{C:Int->Int->Prop}{g:Int->Int->Int}
  (rule:∀(i j:Int) (t u:Tok) (s:Shared) (Q:Ot) (E:Ot),C i j->Q (.int (g i j) s.toks) { s with toks:=s.toks+1 }->wpAny (model X.prog X.w) X.A (f (.int i t) (.int j u)) Q E s) :
  YM X f (rI C fun i j=>.int (g i j)):=by
 intro pins s G H x y v u Q I D B h;obtain⟨i,j,rfl,rfl,e,q⟩:=h;obtain⟨t,rfl⟩:=D;obtain⟨n,rfl⟩:=B;exact rule i j t n s _ _ e ⟨.int (g i j),H,I.tok _,⟨_,R⟩,q⟩
theorem Mp{f:Value->Value->Sem Value}{g:Int->Int->Int}
  (rule:∀(i j:Int) (t u:Tok) (s:Shared) (Q:Ot) (E:Ot),Q (.int (g i j) s.toks) { s with toks:=s.toks+1 }->wpAny (model X.prog X.w) X.A (f (.int i t) (.int j u)) Q E s) :
  YM X f (Uy fun i j=>.int (g i j)):=by
 intro pins s C H x y v u Q I B n h;obtain⟨i,j,rfl,rfl,q⟩:=h;obtain⟨t,rfl⟩:=B;obtain⟨e,rfl⟩:=n;exact rule i j t e s _ _ ⟨.int (g i j),H,I.tok _,⟨_,R⟩,q⟩
theorem KH{f:Value->Value->Sem Value}{g:Int->Int->Bool}
  (rule:∀(i j:Int) (t u:Tok) (s:Shared) (Q:Ot) (E:Ot),Q (.bool (g i j)) s->wpAny (model X.prog X.w) X.A (f (.int i t) (.int j u)) Q E s) :
  YM X f (Uy fun i j=>.bl (g i j)):=by
 intro pins s C H x y v u Q I B n h;obtain⟨i,j,rfl,rfl,q⟩:=h;obtain⟨t,rfl⟩:=B;obtain⟨e,rfl⟩:=n;exact rule i j t e s _ _ ⟨.bl (g i j),H,I,R,q⟩
def ZcN(i j:Int):Prop:=0<j/\j<1073741824
def zM(i j:Int):Prop:=0<=j/\j<=1000000/\i.natAbs<2 ^ 64
def KI(i j:Int):Prop:=(-(2 ^ 64)<i/\i<2 ^ 64)\/(-(2 ^ 64)<j/\j<2 ^ 64)
theorem KI.ok{i j:Int}(h:KI i j):IntMulOk i j:=by
 rcases h with⟨f,e⟩|⟨f,e⟩
 ·exact .of_left (intBits_le_64 f e)
 ·exact .of_right (intBits_le_64 f e)
theorem ZcO(k:Nat):(0:Int)<=2 ^ k:=by
 rw[two_pow_cast];exact Int.natCast_nonneg _
theorem Ya:YM X (binaryOp .Add) (Uy fun i j=>.int (i+j)):=Mp fun _ _ _ _ _ _ _ q=>add_int q
theorem Wh:YM X (binaryOp .Sub) (Uy fun i j=>.int (i - j)):=Mp fun _ _ _ _ _ _ _ q=>sub_int q
theorem Uk:YM X (binaryOp .Mult) (rI KI fun i j=>.int (i*j)):=A1 fun _ _ _ _ _ _ _ e q=>mul_int q e.ok
theorem YJ:YM X (binaryOp .FloorDiv) (rI ZcN fun i j=>.int (i/j)):=A1 fun i j _ _ _ _ _ e q=>by
 have g:(0:Int)<j:=e.1;have f:j<1073741824:=e.2;exact floordiv_int (by lia) (by rw[Int.fdiv_eq_ediv_of_nonneg i (by lia)];exact q) (.inl (PyProof.noPylong_small (by lia)))
theorem Z0:YM X (binaryOp .Mod) (rI (fun _ j=>0<j) fun i j=>.int (i%j)):=A1 fun i j _ _ _ _ _ e q=>by
 have f:(0:Int)<j:=e;exact mod_int' (by lia) (by rw[Int.fmod_eq_emod_of_nonneg i (by lia)];exact q)
theorem ZcP:YM X (binaryOp .Pow) (rI zM fun i j=>.int (i ^ j.toNat)):=A1 fun _ _ _ _ _ _ _ e q=>pow_int_small e.1 e.2.1 e.2.2 q
theorem zN:YM X (binaryOp .LShift) (rI zM fun i j=>.int (i*2 ^ j.toNat)):=A1 fun _ _ _ _ _ _ _ e q=>lshift_int_small e.1 e.2.1 e.2.2 q
theorem ZcQ:YM X (binaryOp .RShift) (rI (fun _ j=>0<=j) fun i j=>.int (i/2 ^ j.toNat)):=A1 fun i j _ _ _ _ _ e q =>
 rshift_int e (by rw[Int.fdiv_eq_ediv_of_nonneg i (ZcO _)];exact q)
theorem ZcR:YM X (binaryOp .BitAnd) (Uy fun i j=>.int (Builtin.bitAnd i j)):=Mp fun _ _ _ _ _ _ _ q=>and_int q
theorem unI{f:Value->Sem Value}{g:Int->Int}
  (rule:∀(i:Int) (t:Tok) (s:Shared) (Q:Ot) (E:Ot),Q (.int (g i) s.toks) { s with toks:=s.toks+1 }->wpAny (model X.prog X.w) X.A (f (.int i t)) Q E s) :
  Mn X f (rU fun i=>.int (g i)):=by
 intro pins s j H x v Q I e h;obtain⟨i,rfl,q⟩:=h;obtain⟨t,rfl⟩:=e;exact rule i t s _ _ ⟨.int (g i),H,I.tok _,⟨_,R⟩,q⟩
theorem ZcS:Mn X (unaryOp .USub) (rU fun i=>.int (-i)):=unI fun _ _ _ _ _ q=>neg_int q
end
def Mq:V->V->Bool
 |.non,.non=>true|.non,.int _=>true|.int _,.non=>true|.non,.bl _=>true|.bl _,.non=>true|.non,.str _=>true|.str _,.non=>true
 |.int _,.int _=>true|.bl _,.bl _=>true|.str _,.str _=>true|.byt _,.byt _=>true
 |.int _,.str _=>true|.str _,.int _=>true|.bl _,.str _=>true|.str _,.bl _=>true
 |_,_=>false
def rEq:R2:=fun x y H Q=>Mq x y=true/\Q (.bl (decide (x=y))) H
def rNe:R2:=fun x y H Q=>Mq x y=true/\Q (.bl (!decide (x=y))) H
theorem WK{i j:Int}:decide (V.int i=V.int j)=(i == j):=by
 rw[Bool.eq_iff_iff];simp
theorem KJ{i j:Bool}:decide (V.bl i=V.bl j)=(i == j):=by
 rw[Bool.eq_iff_iff];simp
theorem zO{i j:Str}:decide (V.str i=V.str j)=(i == j):=by
 rw[Bool.eq_iff_iff];simp
theorem zP{i j:Array UInt8}:decide (V.byt i=V.byt j)=(i.toList == j.toList):=by
 rw[Bool.eq_iff_iff];cases i;cases j;simp
section
variable{X:Cx}{a b c:Expr}{ta tb tc:TE}{pos:Pos}
theorem YX{pins:Ou}{f:St}{H:Hp}{s:Shared}{Q:VK}{k g:Bool}(I:Zc X pins f H s)(q:Q (.bl k) H)(e:k=g):EP X pins f Q (.bool g) s:=by
 subst e;exact⟨.bl k,H,I,R,q⟩
theorem YE:YM X (compareOp .Eq) rEq:=by
 intro pins s B H x y v u Q I n e h;obtain⟨g,q⟩:=h;cases x with
 |non =>
  cases n;cases y with
  |non=>cases e;exact PySem.EqNone.eq_none_none (YX I q (by simp))
  |bl j=>cases e;exact PySem.EqNone.eq_none_bool (YX I q (by simp))
  |int j=>obtain⟨f,rfl⟩:=e;exact PySem.EqNone.eq_none_int (YX I q (by simp))
  |str j=>obtain⟨f,rfl⟩:=e;exact PySem.EqNone.eq_none_str (YX I q (by simp))
  |_=>exact Oq (show false=true from g) SN
 |bl i =>
  cases n;cases y with
  |non=>cases e;exact PySem.EqNone.eq_bool_none (YX I q (by simp))
  |bl j=>cases e;exact eq_bool (YX I q KJ)
  |str j=>obtain⟨f,rfl⟩:=e;exact PySem.EqMixed.eq_bool_str (YX I q (by simp))
  |_=>exact Oq (show false=true from g) SN
 |int i =>
  obtain⟨t,rfl⟩:=n;cases y with
  |non=>cases e;exact PySem.EqNone.eq_int_none (YX I q (by simp))
  |int j=>obtain⟨f,rfl⟩:=e;exact eq_int (YX I q WK)
  |str j=>obtain⟨f,rfl⟩:=e;exact PySem.EqMixed.eq_int_str (YX I q (by simp))
  |_=>exact Oq (show false=true from g) SN
 |str i =>
  obtain⟨t,rfl⟩:=n;cases y with
  |non=>cases e;exact PySem.EqNone.eq_str_none (YX I q (by simp))
  |bl j=>cases e;exact PySem.EqMixed.eq_str_bool (YX I q (by simp))
  |int j=>obtain⟨f,rfl⟩:=e;exact PySem.EqMixed.eq_str_int (YX I q (by simp))
  |str j=>obtain⟨f,rfl⟩:=e;exact eq_str (YX I q zO)
  |_=>exact Oq (show false=true from g) SN
 |byt i =>
  obtain⟨t,rfl⟩:=n;cases y with
  |byt j=>obtain⟨f,rfl⟩:=e;exact W.eq_bytes (YX I q zP)
  |_=>exact Oq (show false=true from g) SN
 |_=>cases y<;>exact Oq (show false=true from g) SN
theorem Qm:YM X (compareOp .NotEq) rNe:=by
 intro pins s B H x y v u Q I n e h;obtain⟨g,q⟩:=h;cases x with
 |non =>
  cases n;cases y with
  |non=>cases e;exact PySem.EqNone.ne_none_none (YX I q (by simp))
  |bl j=>cases e;exact PySem.EqNone.ne_none_bool (YX I q (by simp))
  |int j=>obtain⟨f,rfl⟩:=e;exact PySem.EqNone.ne_none_int (YX I q (by simp))
  |str j=>obtain⟨f,rfl⟩:=e;exact PySem.EqNone.ne_none_str (YX I q (by simp))
  |_=>exact Oq (show false=true from g) SN
 |bl i =>
  cases n;cases y with
  |non=>cases e;exact PySem.EqNone.ne_bool_none (YX I q (by simp))
  |bl j=>cases e;exact ne_bool (YX I q (congrArg not KJ))
  |str j=>obtain⟨f,rfl⟩:=e;exact PySem.EqMixed.ne_bool_str (YX I q (by simp))
  |_=>exact Oq (show false=true from g) SN
 |int i =>
  obtain⟨t,rfl⟩:=n;cases y with
  |non=>cases e;exact PySem.EqNone.ne_int_none (YX I q (by simp))
  |int j=>obtain⟨f,rfl⟩:=e;exact ne_int (YX I q (congrArg not WK))
  |str j=>obtain⟨f,rfl⟩:=e;exact PySem.EqMixed.ne_int_str (YX I q (by simp))
  |_=>exact Oq (show false=true from g) SN
 |str i =>
  obtain⟨t,rfl⟩:=n;cases y with
  |non=>cases e;exact PySem.EqNone.ne_str_none (YX I q (by simp))
  |bl j=>cases e;exact PySem.EqMixed.ne_str_bool (YX I q (by simp))
  |int j=>obtain⟨f,rfl⟩:=e;exact PySem.EqMixed.ne_str_int (YX I q (by simp))
  |str j=>obtain⟨f,rfl⟩:=e;exact ne_str (YX I q (congrArg not zO))
  |_=>exact Oq (show false=true from g) SN
 |byt i =>
  obtain⟨t,rfl⟩:=n;cases y with
  |byt j=>obtain⟨f,rfl⟩:=e;exact W.ne_bytes (YX I q (congrArg not zP))
  |_=>exact Oq (show false=true from g) SN
 |_=>cases y<;>exact Oq (show false=true from g) SN
theorem F0:YM X (compareOp .Lt) (Uy fun i j=>.bl (decide (i<j))):=KH fun _ _ _ _ _ _ _ q=>lt_int q
theorem WS:YM X (compareOp .LtE) (Uy fun i j=>.bl (decide (i<=j))):=KH fun _ _ _ _ _ _ _ q=>le_int q
theorem F1:YM X (compareOp .Gt) (Uy fun i j=>.bl (decide (j<i))):=KH fun _ _ _ _ _ _ _ q=>gt_int q
theorem zQ:YM X (compareOp .GtE) (Uy fun i j=>.bl (decide (j<=i))):=KH fun _ _ _ _ _ _ _ q=>ge_int q
theorem Uz(b:Expr){e:CmpOp}(h:e≠.In:=by lia)(g:e≠.NotIn:=by lia):behindInMarks e b=false:=by
 have i:(e == CmpOp.In)=false:=by cases e<;>first|rfl|exact Oq R h
 have f:(e == CmpOp.NotIn)=false:=by cases e<;>first|rfl|exact Oq R g
 cases b<;>simp[behindInMarks,i,f]
theorem VG{e:CmpOp}{r:R2}(g:YM X (compareOp e) r)(ha:PE X a ta)(B:PE X b tb)(hm:behindInMarks e b=false):PE X (.Compare a [e] [b] pos) (Ux r ta tb):=by
 intro pins s i H Q I h;exact wpAny_Compare1 (Mo ha B I h fun v u s2 x y f n C j q=>g pins s2 i f x y v u Q n C j q) hm
inductive ZcT(Q:Bool->Hp->Prop)(x:V)(H':Hp):Prop|mk k (_:x=.bl k) (_:Q k H')
def Mr(t:TE):TT:=fun e H Q=>t e H fun x f=>ZcT Q x f
theorem zR{f:CmpOp}{r:R2}(L:YM X (compareOp f) r)(ha:PE X a ta)(O:PE X b tb)(hm:behindInMarks f b=false):PT X (.Compare a [f] [b] pos) (Mr (Ux r ta tb)):=by
 intro pins s g H Q I h;refine wpAny_isTrue_Compare1 (Zv (ha pins s g H _ I h) fun v M ⟨x,G,n,r1,q⟩=>Zv (O pins M g G _ n q) fun u s2 ⟨y,i,J,E,B⟩ =>
  Zv (L pins s2 g i x y v u _ J r1 E B) fun c P ⟨z,j,D,r3,k,e,C⟩=>?_) hm
 subst e;cases r3;exact wpAny_truthy_bool ⟨j,D,C⟩
inductive ZcU(r':R2)(tc:TE)(σ:St)(Q:VK)(y:V)(z:V)(H3:Hp):Prop|mk k (_:z=.bl k) (_:(if k=true then tc σ H3 fun w' H4=>r' y w' H4 Q else Q (.bl false) H3))
def zS(r h:R2)(ta tb tc:TE):TE:=fun e H Q=>ta e H fun x i=>tb e i fun y f=>r x y f fun z g=>ZcU h tc e Q y z g
theorem KL{g h:CmpOp}{r n:R2}(ho:YM X (compareOp g) r)(U:YM X (compareOp h) n)(ha:PE X a ta)(hb:PE X b tb)(S:PE X c tc)
  (hm:lastMarks [g,h] [b,c]=false:=by with_unfolding_all rfl):PE X (.Compare a [g,h] [b,c] pos) (zS r n ta tb tc):=by
 intro pins s f H Q I a0;refine Compare_chain (Zv (ha pins s f H _ I a0) fun v s1 ⟨x,Y,G,r1,J⟩=>chain_link (Zv (hb pins s1 f Y _ G J) fun u s2 ⟨y,D,Z,B,L⟩ =>
  Zv (ho pins s2 f D x y v u _ Z r1 B L) fun d s3 ⟨z,i,q,r3,k,e,j⟩=>?_)) hm
 subst e;cases r3;refine wpAny_truthy_bool ?_;cases k with
 |false=>exact ite_ff ⟨.bl false,i,q,R,j⟩
 |true=>exact ite_tt (chain_last (Zv (S pins s3 f i _ q j) fun w' T ⟨M,P,E,O,C⟩=>U pins T f P y M u w' Q E B O C))
theorem Ms{g h:CmpOp}{r n:R2}(ho:YM X (compareOp g) r)(Y:YM X (compareOp h) n)(ha:PE X a ta)(hb:PE X b tb)(P:PE X c tc)
  (hm:lastMarks [g,h] [b,c]=false:=by with_unfolding_all rfl):PT X (.Compare a [g,h] [b,c] pos) (Mr (zS r n ta tb tc)):=by
 intro pins s f H c0 I b0;refine isTrue_chain (Zv (ha pins s f H _ I b0) fun a0 s1 ⟨x,Z,E,r1,G⟩=>test_link (Zv (hb pins s1 f Z _ E G) fun u s2 ⟨y,C,I2,v,J⟩ =>
  Zv (ho pins s2 f C x y a0 u _ I2 r1 v J) fun d s3 ⟨z,i,q,r3,k,e,j⟩=>?_)) hm
 subst e;cases r3;refine wpAny_truthy_bool ?_;cases k with
 |false =>
  obtain⟨k',U,Q⟩:=j;cases U;exact ite_ff ⟨i,q,Q⟩
 |true =>
  refine ite_tt (test_last (Zv (P pins s3 f i _ q j) fun w' S ⟨L,O,D,M,B⟩=>Zv (Y pins S f O y L u w' _ D v M B) fun d' s5 ⟨z2,H5,I5,r5,k2,T,q5⟩=>?_));subst T;cases r5;exact wpAny_truthy_bool ⟨H5,I5,q5⟩
def zT(K:Ow)(x:V)(H:Hp)(k:Bool):Prop :=
 match x with
 |.non=>k=false
 |.bl b=>k=b
 |.int i=>k=(i != 0)
 |.str y=>y.length<=sizeLine/\k=((y.length:Int) != 0)
 |.byt y=>y.size<=sizeLine/\k=((y.size:Int) != 0)
 |.ref p=>(∃e,Zg K H p e/\k = !e.isEmpty)\/(∃e,Zk K H p e/\k = !e.isEmpty)\/∃f,H p=some (.dK f)/\k = !f.isEmpty
 |_=>False
theorem ZcV{e:Type}{f:List (e×V)}{vs:List (e×Value)}(r:KV f vs):(!vs.isEmpty) = !f.isEmpty:=by
 cases r<;>rfl
theorem zU{xs:List V}{e:OB}(r:ZD xs e):(!e.toArray.isEmpty) = !xs.isEmpty:=by
 cases r<;>simp
theorem Qn:(sizeLine:Nat)<2 ^ 63:=by rw[sizeLine_eq];lia
theorem ZcW:ZcL X (fun x H Q=>∃k,zT X.K x H k/\Q k H):=by
 intro pins s O H x v Q I n h;obtain⟨k,e,q⟩:=h;have L:=Qn;have M:sizeLine=16777216:=sizeLine_eq;cases x with
 |non =>
  cases n;have f:k=false:=e;subst f;exact truthy_none ⟨H,I,q⟩
 |bl b =>
  cases n;have f:k=b:=e;subst f;exact wpAny_truthy_bool ⟨H,I,q⟩
 |int i =>
  obtain⟨t,rfl⟩:=n;have f:k=(i != 0):=e;subst f;exact PySem.P.truthy_int ⟨H,I,q⟩
 |str y =>
  obtain⟨t,rfl⟩:=n;obtain⟨J,f⟩:y.length<=sizeLine/\k=((y.length:Int) != 0):=e;subst f;exact PySem.P.truthy_str (by lia) ⟨H,I.tok _,q⟩
 |byt y =>
  obtain⟨t,rfl⟩:=n;obtain⟨J,f⟩:y.size<=sizeLine/\k=((y.size:Int) != 0):=e;subst f;exact W.truthy_bytes (by lia) ⟨H,I.tok _,q⟩
 |ref p =>
  cases n;have f:(∃g,Zg X.K H p g/\k = !g.isEmpty)\/(∃g,Zk X.K H p g/\k = !g.isEmpty)\/∃j,H p=some (.dK j)/\k = !j.isEmpty:=e;rcases f with⟨g,u,f⟩|⟨g,u,f⟩|⟨j,u,f⟩
  ·subst f
   obtain⟨G,r,C,D⟩:=I.list u;have hlen:=r.length;exact wpAny_truthy_list C.isList (by simp only[SM];lia) ⟨H,I.tok _,by rw[zU r];exact q⟩
  ·subst f
   obtain⟨G,r,C,D⟩:=I.tuple u;have hlen:=r.length;exact truthy_tuple C (by simp only[SM];lia) ⟨H,I.tok _,by rw[zU r];exact q⟩
  ·subst f
   obtain⟨D,E,B,r,m⟩:j.length<=sizeLine/\(p == sysModules)=false/\∃B,KV j B/\s.heap.DictOf (Xu X.prog X.w) p B:=I.hok p _ u;have hlen:j.length=B.length:=Paired.length r;exact wpAny_truthy_dict E m (by lia) ⟨H,I.tok _,by rw[ZcV r];exact q⟩
 |_=>exact(show False from e).elim
theorem Mt:YM X (binaryOp .Add) (fun x y H Q=>∃i j,x=.str i/\y=.str j/\i.length+j.length<=sizeLine/\Q (.str (i++j)) H):=by
 intro pins s B H x y v u Q I n g h;obtain⟨i,j,rfl,rfl,f,q⟩:=h;obtain⟨t,rfl⟩:=n;obtain⟨e,rfl⟩:=g;exact add_str (fun e tk=>⟨.str (i++j),H,I.tok _,⟨_,R⟩,q⟩) f
theorem WT{x:V}{us:OB}(r:ZD [x] us):∃u,us=[u]/\ZG x u:=by
 cases r with
 |cons r1 e=>cases e;exact⟨_,R,r1⟩
theorem A2{x y:V}{us:OB}(r:ZD [x,y] us):∃u e,us=[u,e]/\ZG x u/\ZG y e:=by
 cases r with
 |cons r1 f =>
  cases f with
  |cons r3 g=>cases g;exact⟨_,_,R,r1,r3⟩
theorem ZcX(f:X.calm=true):Xb X (.builtin "max") (fun xs H Q=>∃i j,xs=[.int i,.int j]/\Q (.int (if j>i then j else i)) H):=by
 intro pins s g H xs v Q I r h;obtain⟨i,j,rfl,q⟩:=h;obtain⟨u,y,rfl,⟨t,rfl⟩,⟨n,rfl⟩⟩:=A2 r;refine max_two_ints (I.ok.hd f) fun x tk k=>⟨_,H,I.kept k,?_,q⟩;by_cases e:j>i
 ·rw[SV e,SV e];exact⟨_,R⟩
 ·rw[SU e,SU e];exact⟨_,R⟩
theorem zV(f:X.calm=true):Xb X (.builtin "min") (fun xs H Q=>∃i j,xs=[.int i,.int j]/\Q (.int (if j<i then j else i)) H):=by
 intro pins s g H xs v Q I r h;obtain⟨i,j,rfl,q⟩:=h;obtain⟨u,y,rfl,⟨t,rfl⟩,⟨n,rfl⟩⟩:=A2 r;refine min_two_ints (I.ok.hd f) fun x tk k=>⟨_,H,I.kept k,?_,q⟩;by_cases e:j<i
 ·rw[SV e,SV e];exact⟨_,R⟩
 ·rw[SU e,SU e];exact⟨_,R⟩
end
structure Qo(h:Heap)(x dx C:Addr)(mA:Ov):Prop where
 obj:h.get? x=some (W.instObj C dx)
 ns:h.Ns1 dx mA
 ne:dx≠x
theorem ZcY{h:Heap}{c:Addr}{i:Ov}(n:h.Ns1 c i):∃g,h.get? c=some g/\∀name,W.lookIn name g=some (i name):=by
 obtain⟨o,f,C,B,hd,v,_,hm⟩:=n;refine⟨o,B,fun name=>?_⟩;have e:=hm name;unfold nsFind findBy at e;rw[<-Array.find?_toList]at e;unfold W.lookIn;rw[hd];dsimp only
 split
 ·rename_i y q
  rw[q]at e;exact congrArg some e
 ·rename_i q
  rw[q]at e;have a:f.toList.any (·.refKey)=false:=by
   rw[List.any_eq_false];intro y u;obtain⟨z,t,x⟩:=v y (Array.mem_toList_iff.mp u);simp[DictEntry.refKey,x]
  have j:¬ f.toList.any (·.refKey)=true:=by rw[a];exact SN
  rw[SU j];exact congrArg some e
theorem Qo.look{h:Heap}{x f C:Addr}{e:Ov}(I:Qo h x f C e):∃c,W.InstAt h x (W.instObj C f) C (some c)/\∀name,W.lookIn name c=some (e name) :=
 let ⟨c,ho,hl⟩:=ZcY I.ns
 ⟨c,⟨I.obj,R,R,ho⟩,hl⟩
section
variable{prog:Program}{w:World}{A:Around}{E:Ot}{s:Shared}{K:Ow}{x dx C f:Addr}{mA:Ov}{name:Str}{v:Value}
theorem ZcZ{expr:Bool}{Q:Ot}(X:K.In s.heap)(I:Qo s.heap x dx C mA)(i:W.plainGet K C name=true)(g:W.hasDictIn K C=true)
  (ha:W.findIn K (.ref C) name=some none) (e:mA name=some v) (c:W.handedIn v=true) (h:Q v { s with toks:=s.toks+1 }) :
  wpAny (model prog w) A (getAttr (.ref x) name expr) Q E s:=by
 obtain⟨n,J,j⟩:=I.look;exact W.get_value X J (W.plainGet_of i).1 (W.findObj_own g ha R (by rw[j,e])) c h
theorem Zc0{pl:Sem Bool}{Q:Value×List Value->Shared->Prop}(X:K.In s.heap)(I:Qo s.heap x dx C mA)(c:W.plainGet K C name=true)
  (j:W.findIn K (.ref C) name=some (some (.ref f))) (i:W.isFn K (.ref f)=true) (e:mA name=none) (h:Q (.ref f,[.ref x]) s) :
  wpAny (model prog w) A (getMethod (.ref x) name pl) Q E s:=by
 obtain⟨g,J,n⟩:=I.look;exact W.method_fn X J (W.plainGet_of c).1 (W.plainGet_of c).2 j (beq_iff_eq.mp i) (by show(W.lookIn name g).map (·.isSome)=some false;rw[n,e];rfl) h
theorem Zc1{ns:OC}{Q:OA}(X:K.In s.heap)(I:Qo s.heap x dx C mA)
  (u:W.findIn K (.ref C) "__setattr__" = some (some (.builtin "object.__setattr__"))) (L:W.plainOver K C=true) (B:W.takerIn K C name=some none) (G:W.hasDictIn K C=true)
  (H:PySem.Within mA ns) (hsz:ns.length<=sizeLine)
  (h:∀h',Qo h' x dx C (fun y=>if y=name then some v else mA y)->Heap.SameBut dx s.heap h'->Q () { s with heap:=h',toks:=s.toks+2 }) :
  wpAny (model prog w) A (setAttr (.ref x) name v) Q E s:=by
 obtain⟨S,J,T⟩:=I.look;refine W.set_plain X J u (W.osa_open (s:={ s with toks:=s.toks+1 }) (r:=none) X J L B fun b=>?_);obtain⟨O,n,D⟩:=W.any_some G;have g:s.heap.get? x=some ⟨.ref C,some dx,.plain,#[]⟩:=I.obj;refine Sa (Sb (Sa (Sa (wpAny_loadPart g (Sa (W.Looks.here (s:={ s with toks:=s.toks+1 }) (W.looks_clsIn X n) ?_))))));rw[D];refine Sb (a:=some dx) (Sa (Sb (Sa ?_)));refine wpAny_nsSet1 (s:={ s with toks:=s.toks+1 }) I.ns fun h' c e=>?_;obtain⟨M,P,U,j,q,i⟩:=c.count (PySem.Within.cons name v H);refine Sa (wpAny_lookBehind j (by rw[q];exact pastItsLine_dict (Sh i (by rw[Sy];lia))) ?_);exact Sb (h _ ⟨(e.2 _ (Ne.symm I.ne)).trans I.obj,c,I.ne⟩ e)
theorem Zc2{R:Result->Shared->Prop}{vs:OB}{c:List (Str×Value)}(X:K.In s.heap)(hm:W.makesIn K C=true)
  (hi:W.findIn K (.ref C) "__init__" = some (some (.ref f))) (e:W.typeIn K (.ref f)=some (.type "function"))
  (h:codeAny (model prog w) (A.under (.builtin "type.__call__" ⟨.ref C::vs,c⟩)) (.call (.ref f) ⟨.ref (s.heap.objs.size+1)::vs,c⟩) (W.InitBack (s.heap.objs.size+1) R)
   { s with heap:=(s.heap.push W.emptyDict).push (W.instObj C s.heap.objs.size) }) :
  codeAny (model prog w) A (.call (.ref C) ⟨vs,c⟩) R s:=by
 obtain⟨i,g,d,t,os⟩:=s;exact W.make_core (W.makes_of X hm) (W.looks_findIn X hi) (fun self=>W.bind_fn X self e) (.inl rfl) h
theorem Zc3{R:Result->Shared->Prop}(X:K.In s.heap)(hm:W.makesIn K C=true)
  (hi:W.findIn K (.ref C) "__init__" = some (some (.builtin "object.__init__")))
  (c:∀self,W.Looks (model prog w) s.heap (bindSpecial (.builtin "object.__init__") self) (.builtin "object.__init__",[self]))
  (h:codeAny (model prog w) (A.under (.builtin "type.__call__" ⟨[.ref C],[]⟩)) (.call (.builtin "object.__init__") ⟨[.ref (s.heap.objs.size+1)],[]⟩) (W.InitBack (s.heap.objs.size+1) R)
   { s with heap:=(s.heap.push W.emptyDict).push (W.instObj C s.heap.objs.size) }) :
  codeAny (model prog w) A (.call (.ref C) ⟨[],[]⟩) R s:=by
 obtain⟨e,g,d,t,os⟩:=s;exact W.make_core (W.makes_of X hm) (W.looks_findIn X hi) c (.inr ⟨rfl,rfl⟩) h
end
def Z4(f:Str)(v:V):List (Str×V)->List (Str×V)
 |[]=>[(f,v)]
 |(g,x)::r=>if g=f then (g,v)::r else (g,x)::Z4 f v r
theorem zW(f g:Str)(v:V):∀fs:List (Str×V),(Z4 f v fs).lookup g=if g=f then some v else fs.lookup g
 |[]=>by
  show List.lookup g [(f,v)]=_;by_cases h:g=f
  ·have c:(g == f)=true:=beq_iff_eq.mpr h
   simp only[List.lookup,c,SV h]
  ·have c:(g == f)=false:=beq_eq_false_iff_ne.mpr h
   simp only[List.lookup,c,SU h]
 |(k,x)::r=>by
  have j:=zW f g v r;rw[show Z4 f v ((k,x)::r)=(if k=f then (k,v)::r else (k,x)::Z4 f v r)from R];by_cases i:k=f
  ·rw[SV i]
   by_cases h:g=k
   ·have c:(g == k)=true:=beq_iff_eq.mpr h
    simp only[List.lookup,c,SV (h.trans i)]
   ·have c:(g == k)=false:=beq_eq_false_iff_ne.mpr h
    simp only[List.lookup,c,SU (fun e:g=f=>h (e.trans i.symm))]
  ·rw[SU i]
   by_cases h:g=k
   ·have c:(g == k)=true:=beq_iff_eq.mpr h
    simp only[List.lookup,c,SU (fun e:g=f=>i (h.symm.trans e))]
   ·have c:(g == k)=false:=beq_eq_false_iff_ne.mpr h
    simp only[List.lookup,c];exact j
theorem Mu(f:Str)(v:V):∀fs:List (Str×V),f∈(Z4 f v fs).map (·.1)/\∀g,g∈fs.map (·.1)->g∈(Z4 f v fs).map (·.1)
 |[]=>⟨by simp[Z4],fun g h=>by simp at h⟩
 |(k,x)::r=>by
  obtain⟨j,i⟩:=Mu f v r;rw[show Z4 f v ((k,x)::r)=(if k=f then (k,v)::r else (k,x)::Z4 f v r)from R];by_cases c:k=f
  ·rw[SV c]
   subst c;exact⟨by simp,fun g h=>by simpa using h⟩
  ·rw[SU c]
   refine⟨?_,fun g h=>?_⟩
   ·rw[SL]
    exact SB _ j
   ·rw[SL]at h ⊢
    rcases SE.mp h with e|e
    ·exact SE.mpr (.inl e)
    ·exact SB _ (i g e)
theorem A3(f:Str)(v:V):∀fs:List (Str×V),(Z4 f v fs).length<=fs.length+1
 |[]=>by simp[Z4]
 |(k,x)::r=>by
  have e:=A3 f v r;rw[show Z4 f v ((k,x)::r)=(if k=f then (k,v)::r else (k,x)::Z4 f v r)from R];by_cases c:k=f
  ·rw[SV c,Sy,Sy];lia
  ·rw[SU c,Sy,Sy];lia
theorem XS.some_of{v:V}{o:Option Value}(r:XS (some v) o):∃u,o=some u/\ZG v u:=by
 cases o with
 |none=>exact(show False from r).elim
 |some u=>exact⟨u,R,r⟩
theorem XS.none_of{o:Option Value}(r:XS none o):o=none:=by
 cases o with
 |none=>rfl
 |some u=>exact(show False from r).elim
theorem Zc4{v:V}{u:Value}(r:ZG v u):W.handedIn u=true:=by
 cases v with
 |non=>cases (show u=Value.none from r);rfl
 |bl b=>cases (show u=Value.bool b from r);rfl
 |int i=>obtain⟨t,e⟩:=(show ∃t,u=Value.int i t from r);cases e;rfl
 |str x=>obtain⟨t,e⟩:=(show ∃t,u=Value.str x t from r);cases e;rfl
 |byt b=>obtain⟨t,e⟩:=(show ∃t,u=Value.bytes b t from r);cases e;rfl
 |flt b=>obtain⟨t,e⟩:=(show ∃t,u=Value.float b t from r);cases e;rfl
 |ref a=>cases (show u=Value.ref a from r);rfl
 |ty n=>cases (show u=Value.type n from r);rfl
section
variable{P:Program}{w:World}{H H':Hp}{h h':Heap}{a C dx:Addr}{fs fs':List (Str×V)}
theorem KM(hok:Yp P w H h)(e:H a=some (.ins C dx fs)):∃c,Qo h a dx C c/\(∀f,XS (fs.lookup f) (c f))/\PySem.Within c (fs.map (·.1))/\fs.length<=1000/\H dx=some (.own a):=by
 obtain⟨d,z,ne,ob,c,n,r,q⟩:=(show Yy P w H h a (.ins C dx fs)from hok a _ e);exact⟨c,⟨ob,n,ne⟩,r,q,z,d⟩
end
structure YN(K:Ow)(C:Addr):Prop where
 pg:W.plainGet K C Str.empty=true
 hd:W.hasDictIn K C=true
 po:W.plainOver K C=true
 sa:W.findIn K (.ref C) "__setattr__" = some (some (.builtin "object.__setattr__"))
theorem YN.get{K:Ow}{C:Addr}(c:YN K C)(f:Str):W.plainGet K C f=true:=c.pg
def Xi(K:Ow)(C:Addr)(f:Str):Prop:=W.findIn K (.ref C) f=some none
theorem Xi.taker{K:Ow}{C:Addr}{f:Str}(n:Xi K C f):W.takerIn K C f=some none:=by
 unfold W.takerIn;rw[show W.findIn K (.ref C) f=some none from n];rfl
structure Con(K:Ow)(C:Addr)(f:Str)(v:V)(u:Value):Prop where
 at_:W.findIn K (.ref C) f=some (some u)
 rel:ZG v u
 get:W.specialIn K u "__get__" = some none
 cp:W.copiedNames.contains f=false
structure Yz(K:Ow)(C:Addr)(m:Str)(f:Addr):Prop where
 at_:W.findIn K (.ref C) m=some (some (.ref f))
 fn:W.isFn K (.ref f)=true
 kp:W.keepIn K (.ref f)=true
section
variable{X:Cx}{pins:Ou}{σ:St}{H:Hp}{s:Shared}{a C dx:Addr}{fs:List (Str×V)}{f:Str}{v:V}{A:Around}{E:Ot}
theorem Zc5{b:Bool}{Q:Ot}(I:Zc X pins σ H s)(e:H a=some (.ins C dx fs))(c:YN X.K C)(n:Xi X.K C f)(l:fs.lookup f=some v)
  (h:∀u s',Zc X pins σ H s'->ZG v u->Q u s'):wpAny (model X.prog X.w) A (getAttr (.ref a) f b) Q E s:=by
 obtain⟨g,O,r,_,_,_⟩:=KM I.hok e;obtain⟨u,i,ru⟩:=XS.some_of (v:=v) (o:=g f) (by rw[<-l];exact r f);exact ZcZ I.kIn O (c.get f) c.hd n i (Zc4 ru) (h u _ (I.tok _) ru)
theorem F2{m:Str}{g:Addr}{pl:Sem Bool}{Q:Value×List Value->Shared->Prop}(I:Zc X pins σ H s)(e:H a=some (.ins C dx fs))(c:YN X.K C)(k:Yz X.K C m g)(l:fs.lookup m=none)
  (h:Q (.ref g,[.ref a]) s):wpAny (model X.prog X.w) A (getMethod (.ref a) m pl) Q E s:=by
 obtain⟨i,O,r,_,_,_⟩:=KM I.hok e;have hn:i m=none:=XS.none_of (by rw[<-l];exact r m);exact Zc0 I.kIn O (c.get m) k.at_ k.fn hn h
theorem Zc6{y:V}{u:Value}{Q:OA}(I:Zc X pins σ H s)(e:H a=some (.ins C dx fs))(c:YN X.K C)(n:Xi X.K C f)(T:fs.length<1000)(M:ZG y u)
  (h:∀s',Zc X pins σ (Za H a (.ins C dx (Z4 f y fs))) s'->Q () s'):wpAny (model X.prog X.w) A (setAttr (.ref a) f u) Q E s:=by
 obtain⟨B,O,r,j,_,D⟩:=KM I.hok e;have G:(fs.map (·.1)).length<=sizeLine:=by rw[Sv,sizeLine_eq];lia
 refine Zc1 I.kIn O c.sa c.po n.taker c.hd j G fun J i L=>h _ ?_;have hd:∃o,J.get? dx=some o:=let ⟨o,_,_,e',_⟩:=i.ns;⟨o,e'⟩;refine I.write (x:=a) (e:=dx) (by rw[e];exact True.intro) (.inr D) (fun b q P z=>(L.2 b P).trans z) hd ?_;refine⟨by rw[Zf O.ne];exact D,?_,O.ne,i.obj,_,i.ns,fun g=>?_,fun g S=>?_⟩
 ·have:=A3 f y fs;lia
 ·show XS ((Z4 f y fs).lookup g) (if g=f then some u else B g)
  rw[zW];by_cases q:g=f
  ·rw[SV q,SV q];exact M
  ·rw[SU q,SU q];exact r g
 ·by_cases q:g=f
  ·rw[q];exact(Mu f y fs).1
  ·refine(Mu f y fs).2 g (j g fun z=>S ?_)
   show(if g=f then some u else B g)=none;rw[SU q];exact z
theorem Zc.made(I:Zc X pins σ H s):Zc X pins σ (Za (Za H s.heap.objs.size (.own (s.heap.objs.size+1))) (s.heap.objs.size+1) (.ins C s.heap.objs.size []))
  { s with heap:=(s.heap.push W.emptyDict).push (W.instObj C s.heap.objs.size) }:=by
 have c:(s.heap.push W.emptyDict).get? s.heap.objs.size=some W.emptyDict:=Sd s.heap R;have h:((s.heap.push W.emptyDict).push (W.instObj C s.heap.objs.size)).get? (s.heap.objs.size+1)=some (W.instObj C s.heap.objs.size):=by
  have:=Sd (s.heap.push W.emptyDict) (o:=W.instObj C s.heap.objs.size) R
  rwa [Heap.size_push]at this
 have n:(s.heap.push W.emptyDict).Ns s.heap.objs.size (fun _=>none):=⟨W.emptyDict,#[],_,c,R,(fun e j=>Oq j (by simp)),fun _=>R⟩;have i:=I.laid (a:=s.heap.objs.size) (o:=.own (s.heap.objs.size+1)) (h':=s.heap.push W.emptyDict) (t':=s.toks) (fun b u q=>Sc _ q) (Sg _) ⟨_,c⟩;refine i.laid (a:=s.heap.objs.size+1) (o:=.ins C s.heap.objs.size []) (t':=s.toks) (fun b u q=>Sc _ q) (Nat.le_of_eq (Heap.size_push _ _)) ?_;have ne:s.heap.objs.size≠s.heap.objs.size+1:=Sf (Sm _);refine⟨by rw[Zf ne,Zm],Sk _,ne,h,fun _=>none,(Heap.Ns1.of_empty n).at fun o q=>Sc _ q,fun _=>True.intro,fun y g=>Oq rfl g⟩
theorem Zc7{prog:Program}{w:World}{env:Env}{e:Expr}{f:Str}{g:Pos}{s:Shared}{Q:Ot}(c:attributeBase e f env (eval e env)=eval e env)
  (h:wpAny (model prog w) A (eval e env) (fun o i=>wpAny (model prog w) A (getAttr o f true) Q E i) E s):wpAny (model prog w) A (eval (.Attribute e f g) env) Q E s :=
 Attribute_any_ h (by rw[arm_eval_Attribute,c])
end
inductive Zc8(K:Ow)(f:Str)(Q:VK)(x:V)(H1:Hp):Prop|mk a C dx fs v (_:x=.ref a) (_:H1 a=some (.ins C dx fs)) (_:YN K C) (_:Xi K C f) (_:fs.lookup f=some v) (_:Q v H1)
def Zc9(K:Ow)(g:TE)(f:Str):TE:=fun c H Q=>g c H fun x e=>Zc8 K f Q x e
inductive Zda(K:Ow)(f:Str)(D:Y6)(σ:St)(y:V)(x:V)(H2:Hp):Prop|mk a C dx fs (_:x=.ref a) (_:H2 a=some (.ins C dx fs)) (_:YN K C) (_:Xi K C f) (_:fs.length<1000) (_:D.nx σ (Za H2 a (.ins C dx (Z4 f y fs))))
def Zdb(K:Ow)(i h:TE)(f:Str):TS:=fun D c H=>h c H fun y g=>i c g fun x e=>Zda K f D c y x e
section
variable{X:Cx}{o e value:Expr}{f:Str}{pos pos' tpos:Pos}{ta tv:TE}
theorem ZU(E:PE X e ta)(G:attributeBase e f X.env (eval e X.env)=eval e X.env):PE X (.Attribute e f pos) (Zc9 X.K ta f):=by
 intro pins s D H Q I h;refine Zc7 G (Zv (E pins s D H _ I h) fun u L ⟨x,y,i,j,a,C,M,fs,v,ex,g,c,n,l,q⟩=>?_);subst ex;obtain rfl:u=Value.ref a:=j;exact Zc5 i g c n l fun J s2 B ru=>⟨v,y,B,ru,q⟩
theorem XT(ha:PE X o ta)(J:PE X value tv)(L:swapsWith value (some (.Attribute o f pos')) pos.line X.env=pure false):PS X (.Assign [.Attribute o f pos'] value pos) (Zdb X.K ta tv f):=by
 intro pins s g H D I h;refine plainObj_wpAny_Assign_Attribute (Zv (J pins s g H _ I h) fun u P ⟨y,M,j,B,q⟩=>Zv (ha pins P g M _ j q) fun Q s2 ⟨x,S,O,G,a,C,T,fs,ex,i,c,n,l,v⟩=>?_) L;subst ex;obtain rfl:Q=Value.ref a:=G;exact Zc6 O i c n l B fun U E=>⟨g,_,E,v⟩
end
section
variable{X:Cx}{pins:Ou}{σ:St}{H:Hp}{s:Shared}{A:Around}{E:Ot}{Q:Ot}{c:Value}{b:Bool}
inductive Wi(K:Ow)(H:Hp):V->Value->Prop where
 |non:Wi K H .non (.type "NoneType")
 |bl (x:Bool):Wi K H (.bl x) (.type "bool")
 |int (i:Int):Wi K H (.int i) (.type "int")
 |str (x:Str):Wi K H (.str x) (.type "str")
 |flt (x:UInt64):Wi K H (.flt x) (.type "float")
 |lst {a:Addr} {xs:List V} (e:H a=some (.lst xs)):Wi K H (.ref a) (.type "list")
 |frz {a:Addr} {o:Obj} {xs:List V} (e:H a=some (.frz o (.lst xs))):Wi K H (.ref a) (.type "list")
 |tup {a:Addr} {xs:List V} (e:H a=some (.tup xs)):Wi K H (.ref a) (.type "tuple")
 |dK {a:Addr} {kvs:List (Zl×V)} (e:H a=some (.dK kvs)):Wi K H (.ref a) (.type "dict")
 |dT {a:Addr} {kvs:List (List Zl×V)} (e:H a=some (.dT kvs)):Wi K H (.ref a) (.type "dict")
 |ins {a C dx:Addr} {fs:List (Str×V)} (e:H a=some (.ins C dx fs)) (cl:YN K C) (ha:W.findIn K (.ref C) "__class__" = some (some (.builtin "object.__class__")))
   (hn:W.specialIn K (.builtin "object.__class__") "__get__" = some (some (.builtin "getset_descriptor.__get__"))) (htk:W.takesIn K (.builtin "object.__class__")=some true)
   (hm:W.mroIn K C (.type "object")=some true):Wi K H (.ref a) (.ref C)
theorem zX{x:V}{u t:Value}(I:Zc X pins σ H s)(g:ZG x u)(ty:Wi X.K H x t)(e:W.kitOne X.K t c=some b)(h:∀tk,Q (.bool b) { s with toks:=tk }) :
  wpAny (model X.prog X.w) A (call (.builtin "isinstance") [u,c]) Q E s:=by
 cases ty with
 |non=>cases (show u=Value.none from g);exact W.kia_one W.kitx_none I.kIn True.intro e (fun z=>nomatch z) h
 |bl y=>cases (show u=Value.bool y from g);exact W.kia_one W.kitx_bool I.kIn True.intro e (fun z=>nomatch z) h
 |int i=>obtain⟨t,q⟩:=(show ∃t,u=Value.int i t from g);cases q;exact W.kia_one W.kitx_int I.kIn True.intro e (fun z=>nomatch z) h
 |str y=>obtain⟨t,q⟩:=(show ∃t,u=Value.str y t from g);cases q;exact W.kia_one W.kitx_str I.kIn True.intro e (fun z=>nomatch z) h
 |flt y=>obtain⟨t,q⟩:=(show ∃t,u=Value.float y t from g);cases q;exact W.kia_one W.kitx_float I.kIn True.intro e (fun z=>nomatch z) h
 |@lst a v f =>
  cases (show u=Value.ref a from g);obtain⟨_,_,n,_,j⟩:=(show Yy X.prog X.w H s.heap a (.lst v)from I.hok a _ f);exact W.kia_one W.kitx_list I.kIn ⟨_,j,R⟩ e (fun z=>nomatch z) h
 |@frz a ob v f =>
  cases (show u=Value.ref a from g);obtain⟨_,_,_,n,_,j⟩:=(show Yy X.prog X.w H s.heap a (.frz ob (.lst v))from I.hok a _ f);exact W.kia_one W.kitx_list I.kIn ⟨_,j,R⟩ e (fun z=>nomatch z) h
 |@tup a v f =>
  cases (show u=Value.ref a from g);obtain⟨_,_,_,p⟩:=(show Yy X.prog X.w H s.heap a (.tup v)from I.hok a _ f);obtain⟨o,j,B,_⟩:=p;exact W.kia_one W.kitx_tuple I.kIn ⟨o,j,B⟩ e (fun z=>nomatch z) h
 |@dK a D f =>
  cases (show u=Value.ref a from g);obtain⟨_,_,P,_,p⟩:=(show Yy X.prog X.w H s.heap a (.dK D)from I.hok a _ f);obtain⟨o,M,G,j,B,_⟩:=p;exact W.kia_one W.kitx_dict I.kIn ⟨o,j,B.1⟩ e (fun z=>nomatch z) h
 |@dT a D f =>
  cases (show u=Value.ref a from g);obtain⟨_,_,v,_,o,M,G,j,B,_⟩:=(show Yy X.prog X.w H s.heap a (.dT D)from I.hok a _ f);exact W.kia_one W.kitx_dict I.kIn ⟨o,j,B.1⟩ e (fun z=>nomatch z) h
 |@ins a C U fs f cl ha hn L hm =>
  cases (show u=Value.ref a from g);obtain⟨T,O,_⟩:=KM I.hok f;obtain⟨S,J,_⟩:=O.look;exact W.kia_one (W.kitx_own (cl.get _) cl.hd ha hn L hm) I.kIn J e (fun z=>nomatch z) h
end
structure YA(k:Nat)(A:Around):Prop where
 hd:A.handled=none
 dp:A.depth+3*k+5<recursionLimit
 un:A.units+16*k+200<cLine
theorem YA.mono{j k:Nat}{A:Around}(r:YA k A)(h:j<=k):YA j A:=⟨r.hd,by have:=r.dp;lia,by have:=r.un;lia⟩
theorem YA.deeper{k:Nat}{A:Around}(r:YA (k+1) A)(env:Env):YA k (A.deeper env) :=
 ⟨r.hd,by have:=r.dp;show A.depth+1+3*k+5<_;lia,by have:=r.un;show A.units+3+16*k+200<_;lia⟩
theorem Zdc{A:Around}{C:Addr}{us:OB}{c:List (Str×Value)}:(A.under (.builtin "type.__call__" ⟨.ref C::us,c⟩)).depth=A.depth+1:=by
 first|rfl|simp[Around.under,Code.weight,Code.isCreation,Code.isGuard,Code.isCaller,Code.frames,Code.isFrame,guardIds]
theorem Zdd{A:Around}{C:Addr}{us:OB}{c:List (Str×Value)}:(A.under (.builtin "type.__call__" ⟨.ref C::us,c⟩)).units=A.units+1:=by
 first|rfl|simp[Around.under,Code.cUnits,Code.frames,Code.isFrame]
theorem YA.make{k:Nat}{A:Around}(r:YA (k+1) A)(C:Addr)(us:OB)(c:List (Str×Value)):YA k (A.under (.builtin "type.__call__" ⟨.ref C::us,c⟩)) :=
 ⟨r.hd,by have:=r.dp;rw[Zdc];lia,by have:=r.un;rw[Zdd];lia⟩
theorem YA.depth{k:Nat}{A:Around}(r:YA k A):A.depth<recursionLimit:=by have:=r.dp;lia
theorem YA.units{k:Nat}{A:Around}(r:YA k A):A.units+64<cLine:=by have:=r.un;lia
theorem YA.units0{k:Nat}{A:Around}(r:YA k A):A.units<cLine:=by have:=r.un;lia
def Xw:TA:=fun _ H Q=>Q [] H
def Yt(i:TE)(h:TA):TA:=fun c H Q=>i c H fun x f=>h c f fun g e=>Q (x::g) e
section
variable{X:Cx}{e:Expr}{es:OD}{te:TE}{t:TA}{pos:Pos}
theorem XE:PA X [] Xw:=fun _ _ _ _ H Q I h=>Calls.spliced_nil ⟨[],H,I,.nil,h⟩
theorem zY(ha:PE X e te)(C:PA X es t)(v:starEach (e::es) X.env=(false,eval e X.env)::starEach es X.env:=by rfl):PA X (e::es) (Yt te t):=by
 intro pos pins s c H Q I h;rw[v];show wpAny _ _ (spliced ((false,eval e X.env)::backTo pos (starEach es X.env))) _ _ s;refine Calls.spliced_cons (Zv (ha pins s c H _ I h) fun u D ⟨x,y,g,r1,i⟩=>?_);exact Zv (C pos pins D c y _ g i) fun E s2 ⟨n,f,B,q,j⟩=>⟨x::n,f,B,.cons r1 q,j⟩
def Zde(t:TA):TE:=fun g H Q=>t g H fun f c=>f.length<=sizeLine/\∀p,c p=none->Q (.ref p) (Za c p (.tup f))
def Mv(t:TA):TE:=fun g H Q=>t g H fun f c=>f.length<=sizeLine/\∀p,c p=none->Q (.ref p) (Za c p (.lst f))
theorem Yj{x1}(h:PA X es t):PE X (.Tuple es x1 pos) (Zde t):=by
 intro pins s i H Q I j;refine wpAny_Tuple_spliced (Zv (h pos pins s i H _ I j) fun n c ⟨v,g,f,r,z,q⟩=>⟨by rw[<-r.length];exact z,?_⟩);have x:g c.heap.objs.size=none:=f.hok.fresh (Sg _);refine⟨.ref c.heap.objs.size,Za g c.heap.objs.size (.tup v),f.laid (t':=c.toks) (fun b u e=>Sc _ e) (Sg _) ?_,R,q _ x⟩;exact⟨z,n,r,⟨_,Sd _ R,R,_,R⟩⟩
theorem Z2(h:PA X es t):PE X (.List es pos) (Mv t):=by
 intro pins s i H Q I j;refine wpAny_List_spliced (Zv (h pos pins s i H _ I j) fun n c ⟨v,g,f,r,z,q⟩=>⟨by rw[<-r.length];exact z,?_⟩);have x:g c.heap.objs.size=none:=f.hok.fresh (Sg _);refine⟨.ref c.heap.objs.size,Za g c.heap.objs.size (.lst v),f.laid (t':=c.toks) (fun b u e=>Sc _ e) (Sg _) ?_,R,q _ x⟩;exact⟨z,n,0,r,Sd _ R⟩
end
abbrev Sp:=List V->Hp->VK->XK->Prop
abbrev X7:=List Env->Hp->Shared->XK->Value->Shared->Prop
structure V0(P:Program)(w:World)(K:Ow)(mg:Ov)(base:Heap)(A:Around)(outer:List Env)(s:Shared)(H:Hp):Prop where
 frames:A.frames=some outer
 mod:Mod K mg base
 bs:∀b o,base.get? b=some o->s.heap.get? b=some o/\H b=none
 bsz:base.objs.size<=s.heap.objs.size
 funs:s.heap.FunFrames base outer
 frf:∀b∈Yu outer,H b=none
 hok:Yp P w H s.heap
 bare:AllBare s.gens
inductive CE(outer:List Env)(P:Program)(w:World)(H:Hp)(s:Shared)(Q:VK)(u:Value)(s':Shared):Prop|mk v H' (_:s'.os=s.os) (_:AllBare s'.gens) (_:Un (Yu outer) [] H H' s.heap s'.heap) (_:Yp P w H' s'.heap) (_:ZG v u) (_:Q v H')
def CR(CX:X7)(outer:List Env)(P:Program)(w:World)(H:Hp)(s:Shared)(Q:VK)(E:XK)(r:Result)(s':Shared):Prop :=
 match r with
 |.ok (.ret u)=>CE outer P w H s Q u s'
 |.ok _=>False
 |.error e=>CX outer H s E e s'
structure Zq(P:Program)(w:World)(K:Ow)(mg:Ov)(base:Heap)(CX:X7)(k:Nat)(f:Addr)(fd:OJ)(ps:OC)(sp:Sp):Prop where
 len:∀vs H Q E,sp vs H Q E->vs.length=ps.length
 run:∀(A:Around) (outer:List Env) (s:Shared) (H:Hp) (args:Args) (us:OB) (vs:List V) (Q:VK) (E:XK),YA k A->V0 P w K mg base A outer s H->BindsTo s fd args (ps.zip us)->ZD vs us->sp vs H Q E ->
  codeAny (model P w) A (.call (.ref f) args) (CR CX outer P w H s Q E) s
theorem Zq.mono{P:Program}{w:World}{K:Ow}{mg:Ov}{base:Heap}{CX:X7}{j k:Nat}{f:Addr}{c:OJ}{e:OC}{sp:Sp}(F:Zq P w K mg base CX j f c e sp)(h:j<=k) :
  Zq P w K mg base CX k f c e sp:=⟨F.len,fun A outer s H args g i Q E n=>F.run A outer s H args g i Q E (n.mono h)⟩
theorem Zq.imp{P:Program}{w:World}{K:Ow}{mg:Ov}{base:Heap}{CX:X7}{k:Nat}{f:Addr}{c:OJ}{g:OC}{sp e:Sp}(F:Zq P w K mg base CX k f c g sp)
  (h:∀vs H Q E,e vs H Q E->sp vs H Q E):Zq P w K mg base CX k f c g e :=
 ⟨fun vs H Q E q=>F.len vs H Q E (h _ _ _ _ q),fun A outer s H args j vs Q E x u v i n=>F.run A outer s H args j vs Q E x u v i (h _ _ _ _ n)⟩
theorem V0.make{P:Program}{w:World}{K:Ow}{mg:Ov}{base:Heap}{A:Around}{outer:List Env}{s:Shared}{H:Hp}(e:V0 P w K mg base A outer s H)(C:Addr)(us:OB)(c:List (Str×Value)) :
  V0 P w K mg base (A.under (.builtin "type.__call__" ⟨.ref C::us,c⟩)) outer s H:=⟨by first|exact e.frames|(simpa [Around.under,Code.envs,Code.isFrame,pushEnvs]using e.frames),e.mod,e.bs,e.bsz,e.funs,e.frf,e.hok,e.bare⟩
section
variable{X:Cx}{pins:Ou}{σ:St}{H:Hp}{s s':Shared}
theorem Zc.env0(I:Zc X pins σ H s):V0 X.prog X.w X.K X.mg X.base X.A X.stack s H :=
 ⟨I.ok.frames,I.ok.mod,I.bs,Sh I.ok.bsz I.sz,I.stack,I.stkFree,I.hok,I.bare⟩
theorem Zc.after{Q:VK}{u:Value}(I:Zc X pins σ H s)(h:CE X.stack X.prog X.w H s Q u s'):EP X pins σ Q u s':=by
 obtain⟨v,c,os,bare,un,hok,r,q⟩:=h;obtain⟨e,g,d,t,f⟩:=s';obtain rfl:f=s.os:=os;exact⟨v,c,I.call (h':=e) (g':=g) (d':=d) (t':=t) (ch:=[]) un hok bare (fun b z=>Oq z (by simp)),r,q⟩
end
def Mw(sp:Sp)(dvs:List V)(E:XK)(t:TA):TE:=fun c H Q=>t c H fun e f=>sp (e++dvs) f Q E
inductive Zdf(C:Addr)(m:Str)(sp:Sp)(dvs:List V)(E:XK)(t:TA)(σ:St)(Q:VK)(x:V)(H1:Hp):Prop|mk a dx fs (_:x=.ref a) (_:H1 a=some (.ins C dx fs)) (_:fs.lookup m=none) (_:t σ H1 fun vs H2=>sp (x::(vs++dvs)) H2 Q E)
def Qp(C:Addr)(m:Str)(sp:Sp)(dvs:List V)(E:XK)(f:TE)(t:TA):TE:=fun c H Q=>f c H fun x e=>Zdf C m sp dvs E t c Q x e
def zZ(C:Addr)(sp:Sp)(dvs:List V)(E:XK)(t:TA):TE:=fun g H Q=>t g H fun h e=>∀x c,e x=none->e c=none->c≠x ->
 sp (.ref x::(h++dvs)) (Za (Za e c (.own x)) x (.ins C c [])) (fun v f=>v=.non/\Q (.ref x) f) E
def X8(K:Ow)(e:OJ)(c:OC)(ds:OB):Prop :=
 ∀(s:Shared) (us:OB),K.In s.heap->(us++ds).length=c.length->BindsTo s e ⟨us,[]⟩ (c.zip (us++ds))
theorem X8.all{K:Ow}{e:OJ}{c:OC}(h:∀us:List Value,us.length=c.length->bindArgs e ⟨us,[]⟩=pure (c.zip us)):X8 K e c []:=fun s us _ f=>by
 rw[Ob]at f ⊢;exact .of_eq (h us f)
def WL(CX:X7)(X:Cx)(E:XK):Prop:=∀(pins:Ou) (σ:St) (H:Hp) (s:Shared) (e:Value) (s':Shared),Zc X pins σ H s->CX X.stack H s E e s'->X.xe e s'
section
variable{X:Cx}{CX:X7}{k:Nat}{f C:Addr}{fd:OJ}{ps:OC}{sp:Sp}{dvs:List V}{ds:OB}{E:XK}{x m:Str}{p pos apos:Pos}{e o:Expr}{es:OD}{ta:TE}{t:TA}
theorem Qq{pins:Ou}{g:St}{H:Hp}{s:Shared}{Q:VK}{us:OB}{vs:List V}(F:Zq X.prog X.w X.K X.mg X.base CX k f fd ps sp)(q:YA k X.A)(n:X8 X.K fd ps ds)(hd:ZD dvs ds)(v:WL CX X E)
  (I:Zc X pins g H s) (r:ZD vs us) (h:sp (vs++dvs) H Q E):wpAny (model X.prog X.w) X.A (call (.ref f) us) (EP X pins g Q) X.xe s:=by
 have i:ZD (vs++dvs) (us++ds):=r.append hd;have y:(us++ds).length=ps.length:=by rw[<-i.length];exact F.len _ _ _ _ h
 refine wpAny_call (codeAny_mono (F.run X.A X.stack s H ⟨us,[]⟩ (us++ds) (vs++dvs) Q E q I.env0 (n s us I.kIn y) i h) fun r j c=>?_);cases r with
 |error e=>exact v pins g H s e j I c
 |ok fl =>
  cases fl with
  |ret u=>exact I.after c
  |next=>exact False.elim c
  |brk=>exact False.elim c
  |cont=>exact False.elim c
theorem Vn(F:Zq X.prog X.w X.K X.mg X.base CX k f fd ps sp)(u:YA k X.A)(v:Gl X x)(hm:X.mg x=some (.ref f))(j:W.keepIn X.K (.ref f)=true)(D:X8 X.K fd ps ds)(hd:ZD dvs ds)(i:WL CX X E)
  (ha:PA X (e::es) t) (n:(x == ("__debug__" : Str))=false:=by lia) (B:starEach (e::es) X.env=(false,eval e X.env)::starEach es X.env:=by rfl) (g:(backTo pos (starEach es X.env)).any (·.1)=false:=by rfl) :
  PE X (.Call (.Name x p) (e::es) [] pos) (Mw sp dvs E t):=by
 intro pins s y H Q I h;refine wpAny_Call_Name_kw (Uw I v hm ?_ n);refine W.callWith_K (h₀:=X.base) I.ok.mod.kin j (Zv (ha pos pins s y H _ I h) fun M L ⟨G,J,c,r,q⟩=>⟨c.kIn,?_⟩) B g;exact Qq F u D hd i c r q
theorem Zdg(F:Zq X.prog X.w X.K X.mg X.base CX k f fd ps sp)(j:YA k X.A)(q:Gl X x)(hm:X.mg x=some (.ref f))(c:W.keepIn X.K (.ref f)=true)(i:X8 X.K fd ps ds)(hd:ZD dvs ds)(n:WL CX X E)
  (g:(x == ("__debug__" : Str))=false:=by lia):PE X (.Call (.Name x p) [] [] pos) (Mw sp dvs E Xw):=by
 intro pins s u H Q I h;refine wpAny_Call_Name_kw (Uw I q hm ?_ g);exact W.callWith_K0 I.kIn c (Qq (us:=[]) F j i hd n I .nil h)
theorem YY{pl:Sem Bool}(S:PE X o ta)(c:YN X.K C)(hm:Yz X.K C m f)(F:Zq X.prog X.w X.K X.mg X.base CX k f fd ps sp)(O:YA k X.A)(T:X8 X.K fd ps ds)(hd:ZD dvs ds)(B:WL CX X E)(ha:PA X (e::es) t)
  (D:starEach (e::es) X.env=(false,eval e X.env)::starEach es X.env:=by rfl) (y:(backTo pos (starEach es X.env)).any (·.1)=false:=by rfl)
  (L:eval (.Call (.Attribute o m apos) (e::es) [] pos) X.env=(do
   let n <-eval o X.env
   standAt apos.atName
   let (f,first) <-holding [n] (getMethod n m pl)
   callWith pos f first (backTo pos (starEach (e::es) X.env)) (backToKw pos (keywordEach [] X.env))):=by rfl) :
  PE X (.Call (.Attribute o m apos) (e::es) [] pos) (Qp C m sp dvs E ta t):=by
 intro pins s j H Q I h;refine W.methodCall_KW (pl:=pl) (Zv (S pins s j H _ I h) fun u P ⟨x,M,g,J,a,Y,fs,ex,v,l,q⟩=>?_) L;subst ex;obtain rfl:u=Value.ref a:=J;refine F2 g v c hm l ?_;refine W.callWith_K (first:=[.ref a]) (h₀:=X.base) I.ok.mod.kin hm.kp (Zv (ha pos pins P j M _ g q) fun us s2 ⟨vs,U,i,r,G⟩=>⟨i.kIn,?_⟩) D y;exact Qq (us:=.ref a::us) (vs:=.ref a::vs) F O T hd B i (.cons R r) G
theorem Zdh{pl:Sem Bool}(G:PE X o ta)(c:YN X.K C)(hm:Yz X.K C m f)(F:Zq X.prog X.w X.K X.mg X.base CX k f fd ps sp)(B:YA k X.A)(J:X8 X.K fd ps ds)(hd:ZD dvs ds)(n:WL CX X E)
  (y:eval (.Call (.Attribute o m apos) [] [] pos) X.env=(do
   let i <-eval o X.env
   standAt apos.atName
   let (f,first) <-holding [i] (getMethod i m pl)
   callWith pos f first (backTo pos (starEach [] X.env)) (backToKw pos (keywordEach [] X.env))):=by rfl) :
  PE X (.Call (.Attribute o m apos) [] [] pos) (Qp C m sp dvs E ta Xw):=by
 intro pins s D H Q I h;refine W.methodCall_KW (pl:=pl) (Zv (G pins s D H _ I h) fun u M ⟨x,L,g,v,a,O,fs,ex,j,l,q⟩=>?_) y;subst ex;obtain rfl:u=Value.ref a:=v;refine F2 g j c hm l ?_;exact W.callWith_K0 (first:=[.ref a]) g.kIn hm.kp (Qq (us:=[.ref a]) (vs:=[.ref a]) F B J hd n g (.cons R .nil) q)
structure Mk(K:Ow)(C f:Addr):Prop where
 makes:W.makesIn K C=true
 init:W.findIn K (.ref C) "__init__" = some (some (.ref f))
 fn:W.isFn K (.ref f)=true
 kp:W.keepIn K (.ref C)=true
theorem yA{pins:Ou}{j:St}{H:Hp}{s:Shared}{Q:VK}{us:OB}{vs:List V}(M:Mk X.K C f)(F:Zq X.prog X.w X.K X.mg X.base CX k f fd ps sp)(T:YA (k+1) X.A)(U:X8 X.K fd ps ds)(hd:ZD dvs ds)
  (D:WL CX X E) (I:Zc X pins j H s) (r:ZD vs us)
  (h:∀x i,H x=none->H i=none->i≠x->sp (.ref x::(vs++dvs)) (Za (Za H i (.own x)) x (.ins C i [])) (fun v y=>v=.non/\Q (.ref x) y) E) :
  wpAny (model X.prog X.w) X.A (call (.ref C) us) (EP X pins j Q) X.xe s:=by
 have n:=h (s.heap.objs.size+1) s.heap.objs.size (I.hok.fresh (Nat.le_succ _)) (I.hok.fresh (Sg _)) (Sf (Sm _));have g:=Zc.made (C:=C) I;have q:ZD (V.ref (s.heap.objs.size+1)::(vs++dvs)) (Value.ref (s.heap.objs.size+1)::(us++ds)):=.cons R (r.append hd);have P:(Value.ref (s.heap.objs.size+1)::us++ds).length=ps.length:=by
  have e:=q.length;rw[F.len _ _ _ _ n]at e;exact e.symm
 refine wpAny_call (Zc2 (f:=f) I.kIn M.makes M.init (beq_iff_eq.mp M.fn) (codeAny_mono (F.run _ X.stack _ _ ⟨Value.ref (s.heap.objs.size+1)::us,[]⟩ (Value.ref (s.heap.objs.size+1)::(us++ds)) _ _ E (T.make C us [])
  (g.env0.make C us []) (U _ (Value.ref (s.heap.objs.size+1)::us) g.kIn P) q n) fun r B c=>?_))
 cases r with
 |error e=>exact D pins j _ _ e B g c
 |ok fl =>
  cases fl with
  |ret u =>
   obtain⟨v,S,J,O,L,G⟩:=g.after c;subst L;exact⟨O,⟨V.ref (s.heap.objs.size+1),S,J,R,G⟩⟩
  |next=>exact False.elim c
  |brk=>exact False.elim c
  |cont=>exact False.elim c
theorem Vo(M:Mk X.K C f)(F:Zq X.prog X.w X.K X.mg X.base CX k f fd ps sp)(v:YA (k+1) X.A)(B:Gl X x)(hm:X.mg x=some (.ref C))(y:X8 X.K fd ps ds)(hd:ZD dvs ds)(n:WL CX X E)
  (ha:PA X (e::es) t) (i:(x == ("__debug__" : Str))=false:=by lia) (u:starEach (e::es) X.env=(false,eval e X.env)::starEach es X.env:=by rfl) (j:(backTo pos (starEach es X.env)).any (·.1)=false:=by rfl) :
  PE X (.Call (.Name x p) (e::es) [] pos) (zZ C sp dvs E t):=by
 intro pins s g H Q I h;refine wpAny_Call_Name_kw (Uw I B hm ?_ i);refine W.callWith_K (h₀:=X.base) I.ok.mod.kin M.kp (Zv (ha pos pins s g H _ I h) fun D L ⟨G,J,c,r,q⟩=>⟨c.kIn,?_⟩) u j;exact yA M F v y hd n c r q
theorem Zdi(M:Mk X.K C f)(F:Zq X.prog X.w X.K X.mg X.base CX k f fd ps sp)(i:YA (k+1) X.A)(n:Gl X x)(hm:X.mg x=some (.ref C))(g:X8 X.K fd ps ds)(hd:ZD dvs ds)(j:WL CX X E)
  (c:(x == ("__debug__" : Str))=false:=by lia):PE X (.Call (.Name x p) [] [] pos) (zZ C sp dvs E Xw):=by
 intro pins s q H Q I h;refine wpAny_Call_Name_kw (Uw I n hm ?_ c);exact W.callWith_K0 I.kIn M.kp (yA (us:=[]) M F i g hd j I .nil h)
end
def PK(X:Cx)(e:List Keyword)(t:TA):Prop :=
 ∀(c:Pos) (pins:Ou) (s:Shared) (σ:St) (H:Hp) (Q:List V->Hp->Prop),Zc X pins σ H s->t σ H Q->wpAny (model X.prog X.w) X.A (evalAll ((backToKw c (keywordEach e X.env)).map (·.2))) (AP X pins σ Q) X.xe s
section
variable{X:Cx}{CX:X7}{k:Nat}{f C:Addr}{fd:OJ}{ps ks:OC}{sp:Sp}{E:XK}{x m:Str}{p pos apos kpos:Pos}{e o:Expr}{es:OD}{kws:List Keyword}{te ta:TE}{t tk:TA}{nm:Option Str}
theorem Zdj:PK X [] Xw:=fun _ _ _ _ H Q I h=>wpAny_evalAll_nil ⟨[],H,I,.nil,h⟩
theorem Zdk(ha:PE X e te)(D:PK X kws t):PK X (⟨nm,e,kpos⟩::kws) (Yt te t):=by
 intro pos pins s c H Q I h;show wpAny _ _ (evalAll ((do let v <-eval e X.env;standAt pos;pure v)::(backToKw pos (keywordEach kws X.env)).map (·.2))) _ _ s;refine wpAny_evalAll_cons (Sa (Zv (ha pins s c H _ I h) fun u G ⟨x,j,i,r1,n⟩=>Sa (wpAny_standAt (Sb ?_))));exact Zv (D pos pins G c j _ i n) fun L s2 ⟨q,g,y,B,J⟩=>⟨x::q,g,y,.cons r1 B,J⟩
structure Zk9(K:Ow)(fd:OJ)(ps ks:OC)(g:List Value->List Value->List Value)(gV:List V->List V->List V):Prop where
 to:∀(s:Shared) (us ws:OB),K.In s.heap->(g us ws).length=ps.length->BindsTo s fd ⟨us,ks.zip ws⟩ (ps.zip (g us ws))
 rel:∀{vs:List V} {us:OB} {zs:List V} {ws:OB},ZD vs us->ZD zs ws->ZD (gV vs zs) (g us ws)
variable{g:List Value->List Value->List Value}{gV:List V->List V->List V}
end
structure ZB(N P:OC)(sc:Scope):Prop where
 kind:sc.kind=.function
 co:sc.isCoroutine=false
 gen:sc.isGenerator=false
 nd:N.Nodup
 pre:N.take P.length=P
 par:∀x∈P,sc.names.lookup x=some .local\/sc.names.lookup x=some .cell
 nofree:∀y∈sc.names,y.2≠.free
theorem yB{kindOf:Str->Option NameKind}{x:Str}:∀{binds:List (Str×Value)} {m:Ov},(∀v,(x,v)∉binds)->bindL kindOf binds m x=m x
 |[],_,_=>rfl
 |(n,v)::r,m,h=>by
  unfold bindL;rw[yB fun w c=>h w (SB _ c)]
  split
  ·have:x≠n:=by rintro rfl;exact h v SC
   simp[this]
  ·rfl
theorem yC{kindOf:Str->Option NameKind}{x:Str}:∀{binds:List (Str×Value)} {m:Ov},(∀v,(x,v)∉binds)->bindC kindOf binds m x=m x
 |[],_,_=>rfl
 |(n,v)::r,m,h=>by
  unfold bindC;rw[yC fun w c=>h w (SB _ c)]
  split
  ·rfl
  ·have:x≠n:=by rintro rfl;exact h v SC
   simp[this]
theorem yD{kindOf:Str->Option NameKind}{x:Str}{v:Value}:∀{P:OC} {vs:OB} {i:Nat} {m:Ov},P.Nodup->P[i]? = some x->vs[i]? = some v->kindOf x=some .local ->
  bindL kindOf (P.zip vs) m x=some v
 |[],_,_,_,_,h,_,_=>by simp at h
 |_::_,[],_,_,_,_,h,_=>by simp at h
 |p::P,w::vs,0,m,nd,h1,c,e=>by
  simp at h1 c;subst h1;subst c;show bindL kindOf ((p,w)::P.zip vs) m p=_;unfold bindL;rw[yB fun v f=>(Ol.mp nd).1 (List.of_mem_zip f).1,SV e];simp
 |p::P,w::vs,i+1,m,nd,h1,c,e=>by
  show bindL kindOf ((p,w)::P.zip vs) m x=_;unfold bindL;exact yD (i:=i) (Ol.mp nd).2 (by simpa using h1) (by simpa using c) e
theorem yE{kindOf:Str->Option NameKind}{x:Str}{v:Value}:∀{P:OC} {vs:OB} {i:Nat} {m:Ov},P.Nodup->P[i]? = some x->vs[i]? = some v->kindOf x≠some .local ->
  bindC kindOf (P.zip vs) m x=some v
 |[],_,_,_,_,h,_,_=>by simp at h
 |_::_,[],_,_,_,_,h,_=>by simp at h
 |p::P,w::vs,0,m,nd,h1,c,e=>by
  simp at h1 c;subst h1;subst c;show bindC kindOf ((p,w)::P.zip vs) m p=_;unfold bindC;rw[yC fun v f=>(Ol.mp nd).1 (List.of_mem_zip f).1,SU e];simp
 |p::P,w::vs,i+1,m,nd,h1,c,e=>by
  show bindC kindOf ((p,w)::P.zip vs) m x=_;unfold bindC;exact yE (i:=i) (Ol.mp nd).2 (by simpa using h1) (by simpa using c) e
def Ul(N:OC)(vs:List V):St:=vs.map some++List.replicate (N.length - vs.length) none
def VH(CX:X7)(P:Program)(w:World)(K:Ow)(mg:Ov)(base:Heap)(N:OC)(qual:Str)(scope:Scope)(f:Addr)(cd:Value)(A:Around)(outer:List Env)(s:Shared)(H:Hp)(E:XK):Cx where
 prog:=P
 w:=w
 K:=K
 mg:=mg
 base:=base
 A:=A.deeper (envOfC qual scope s.heap.objs.size f cd)
 N:=N
 s₀:=s
 H₀:=H
 env:=envOfC qual scope s.heap.objs.size f cd
 outer:=outer
 stack:=envOfC qual scope s.heap.objs.size f cd::outer
 ex:=[]
 calm:=true
 fn:=fun _=>true
 pn:=[]
 xe:=fun e h=>wpAny (model P w) (A.deeper (envOfC qual scope s.heap.objs.size f cd)) (leaving (envOfC qual scope s.heap.objs.size f cd) e) (fun _ c=>CX outer H s E e c) (fun g c=>CX outer H s E g c) h
theorem yF{e:Scope}{n:Nat}{x:Str}(h:e.names.lookup x=some .cell):∃c,(cellsFrom n e.names []).lookup x=some c:=by
 have q:=W.cellsFrom_some e.names n [] (.inl h);exact Option.isSome_iff_exists.mp q
theorem Zdl{CX:X7}{P:Program}{w:World}{K:Ow}{mg:Ov}{base:Heap}{N C:OC}{qual:Str}{scope:Scope}{f:Addr}{cd:Value}{A:Around}{outer:List Env}{s O:Shared}{H:Hp}{E:XK}{us:OB}{vs:List V}
  (S:ZB N C scope) (hd:A.handled=none) (j:V0 P w K mg base A outer s H) (Y:vs.length=C.length) (r:ZD vs us)
  (x:InCallC s s.heap.objs.size (bindL (envOfC qual scope s.heap.objs.size f cd).kindOf (C.zip us) fun _=>none) (cellsFrom (s.heap.objs.size+1) scope.names []) (bindC (envOfC qual scope s.heap.objs.size f cd).kindOf (C.zip us) fun _=>none) O) :
  Zc (VH CX P w K mg base N qual scope f cd A outer s H E) [] (Ul N vs) H O:=by
 have X:C.length<=N.length:=by have:=congrArg List.length S.pre;rw[Sx]at this;lia
 obtain⟨I,tk,rfl,M⟩:=x.done;have J:∀b:Addr,b∉(VH CX P w K mg base N qual scope f cd A outer s H E).ex:=fun b z=>Oq (show b∈([]:OH)from z) (by simp);refine⟨⟨j.mod,S.kind,R,R,Sg _,fun y z c I g=>?_,fun y B=>?_,fun y c _ h=>?_,fun _=>hd,Around.frames_deeper j.frames,.inr ⟨R,R⟩,fun b z=>Oq z (J b),j.bs,j.bsz,fun b _ _=>J b,fun b z=>Oq z (J b),j.funs,j.frf⟩,
  rfl,j.bare,Un.kept M,⟨_,x.toInCall.ns,fun i y v I g U=>?_⟩,fun y c h=>⟨_,x.cell y c h⟩,j.hok.fresh (Sg _),fun y c h=>?_,fun p D=>Oq (show p∈([]:Ou)from D) (by simp),j.hok.kept M,?_⟩
 ·exact name_of_addr x.apart (PySem.mem_of_lookup I) (PySem.mem_of_lookup g)
 ·have B:scope.names.lookup y=some .cell\/scope.names.lookup y=some .free:=B
  rcases B with B|B
  ·exact yF B
  ·exact Oq R (S.nofree _ (PySem.mem_of_lookup B))
 ·exact Nat.le_of_lt (x.above y c (PySem.mem_of_lookup h))
 ·have G:i<vs.length:=by
   unfold Ul at g;by_cases G:i<vs.length
   ·exact G
   ·rw[Oa (by simpa using G)]at g
    rw[List.getElem?_replicate]at g
    split at g<;>cases g
  have ha:vs[i]? = some v:=by
   unfold Ul at g;rw[List.getElem?_append_left (by simpa using G),S0]at g;cases e:vs[i]? with
   |none=>rw[e]at g;cases g
   |some a=>rw[e]at g;cases g;rfl
  obtain⟨u,Q,T⟩:=r.get ha;have D:C[i]? = some y:=by
   rw[<-S.pre,List.getElem?_take_of_lt (by lia)];exact I
  have L:C.Nodup:=by rw[<-S.pre];exact S.nd.sublist (List.take_sublist _ _)
  refine⟨u,T,?_⟩;rcases S.par y (SJ D)with k|k
  ·exact .inl ⟨k,yD L D Q k⟩
  ·obtain⟨c,e⟩:=yF (n:=s.heap.objs.size+1) k
   refine .inr ⟨.inl k,c,e,?_⟩;have q:=x.cell y c e;rw[yE L D Q (by show scope.names.lookup y≠_;rw[k];lia)]at q;exact q
 ·exact j.hok.fresh (Nat.le_of_lt (x.above y c (PySem.mem_of_lookup h)))
 ·unfold Ul
  show _=N.length;rw[Su,Sv,Sz];lia
theorem Mx{CX:X7}{P:Program}{w:World}{K:Ow}{mg:Ov}{base:Heap}{k:Nat}{f:Addr}{name qual:Str}{params:Arguments}{body:List Stmt}{scope:Scope}{I kV M X g ct oc:Value}{T od:OF}
  {a0:Oz} {N B:OC} {sp:Sp} (lk:K.lookup f=some ⟨oc,od,.func (W.fnOf name qual params body scope I kV M X T g ct),a0⟩) (f0:W.codeIn K g qual=true) (S:ZB N B scope)
  (len:∀vs H Q E,sp vs H Q E->vs.length=B.length)
  (b0:∀(A:Around) (outer:List Env) (s:Shared) (H:Hp) (vs:List V) (Q:VK) (E:XK),YA k (A.deeper (envOfC qual scope s.heap.objs.size f g))->sp vs H Q E ->
   ∃t,X6 (VH CX P w K mg base N qual scope f g A outer s H E) body t/\t { nx:=fun _ c=>Q .non c,rt:=Q } (Ul N vs) H) :
  Zq P w K mg base CX (k+1) f (W.fnOf name qual params body scope I kV M X T g ct) B sp:=by
 refine⟨len,fun A outer s H args us vs Q E G i hb r L=>?_⟩;have hl:=len _ _ _ _ L;have KX:K.In s.heap:=i.mod.kin.keeps fun b o e=>(i.bs b o e).1;have Z:s.heap.NoLimit:=i.mod.nolimit.keeps fun b o e=>(i.bs b o e).1;have d0:∀y∈B.zip us,scope.names.lookup y.1=some .local\/(scope.names.lookup y.1=some .cell/\((cellsFrom (s.heap.objs.size+1) scope.names []).lookup y.1).isSome=true):=fun⟨n,v⟩ hy=>by
  rcases S.par n (List.of_mem_zip hy).1 with q|q
  ·exact .inl q
  ·exact .inr ⟨q,W.cellsFrom_some _ _ _ (.inl q)⟩
 refine codeAny_call_function G.depth (KX _ _ lk) R S.co S.gen R (W.codeRec_of KX f0) (hb _ _ _ _ ?_);refine wpAny_newFunctionEnv_cells S.kind d0 fun env he U x=>?_;subst he;refine⟨Z.keeps x.toInCall.keep,codeAny_func ?_⟩;obtain⟨t,ht,Y⟩:=b0 A outer s H vs Q E (G.deeper _) L;have c0:Zc (VH CX P w K mg base N qual scope f g A outer s H E) [] (Ul N vs) H U:=Zdl S G.hd i hl r x;refine Op (ht [] U (Ul N vs) H _ c0 Y) (fun fl C h=>?_) fun e C h=>h;have O:∀{j:St} {c:Hp} {v:V} {u:Value},Zc (VH CX P w K mg base N qual scope f g A outer s H E) [] j c C->ZG v u->Q v c->CE outer P w H s Q u C :=
  fun{j c v u} J D q=>⟨v,c,J.os,J.bare,J.base,J.hok,D,q⟩
 cases fl with
 |ret u =>
  obtain⟨v,j,c,J,D,q⟩:=h;exact O J D q
 |next =>
  obtain⟨j,c,J,q⟩:=h;exact O (v:=V.non) (u:=Value.none) J R q
 |brk =>
  obtain⟨_,_,_,q⟩:=h;exact False.elim q
 |cont =>
  obtain⟨_,_,_,q⟩:=h;exact False.elim q
section
variable{X:Cx}{x:Str}{p pos:Pos}{e:Expr}{es:OD}{t:TA}{id T:String}{r:List V->Hp->VK->Prop}
def Qr(r:List V->Hp->VK->Prop)(t:TA):TE:=fun c H Q=>t c H fun f g=>r f g Q
theorem yG(f:Xb X (.builtin id) r)(D:Gl X x)(hm:X.mg x=none)(g:bootBuiltins x=some (.builtin id))(ha:PA X (e::es) t)(hn:x ≠ "__name__" := by lia) (u:(x == ("__debug__" : Str))=false:=by lia)
  (B:starEach (e::es) X.env=(false,eval e X.env)::starEach es X.env:=by rfl) (y:(backTo pos (starEach es X.env)).any (·.1)=false:=by rfl):PE X (.Call (.Name x p) (e::es) [] pos) (Qr r t):=by
 intro pins s c H Q I h;refine wpAny_Call_Name_kw (UV I D hm g ?_ hn u);exact PyProof.Rows.callWith_builtin1 (Zv (ha pos pins s c H _ I h) fun i C ⟨j,q,n,r1,v⟩=>f pins C c q j i Q n r1 v) B y
theorem YF(f:Xb X (.type T) r)(D:Gl X x)(hm:X.mg x=none)(g:bootBuiltins x=some (.type T))(ha:PA X (e::es) t)(hn:x ≠ "__name__" := by lia) (u:(x == ("__debug__" : Str))=false:=by lia)
  (B:starEach (e::es) X.env=(false,eval e X.env)::starEach es X.env:=by rfl) (y:(backTo pos (starEach es X.env)).any (·.1)=false:=by rfl):PE X (.Call (.Name x p) (e::es) [] pos) (Qr r t):=by
 intro pins s c H Q I h;refine wpAny_Call_Name_kw (UV I D hm g ?_ hn u);exact PyProof.Rows.callWith_type1 (Zv (ha pos pins s c H _ I h) fun i C ⟨j,q,n,r1,v⟩=>f pins C c q j i Q n r1 v) B y
end
end L2
namespace HT
open PySem PyProof.Rows
section
open PySem.SeqAt
open PySem.AutoSeq1 (wpAny_loadPart')
open PySem.MeetsSeq PySem.MeetsSeq2 PySem.MeetsSeq3
end
section
variable{prog:Program}{w:World}{A:Around}{E:Value->Shared->Prop}{s:Shared}
def sIx(n d:Nat):Option Int->Nat
 |none=>d
 |some v=>if v<0 then (v+(n:Int)).toNat else min v.toNat n
end
end HT
namespace L2
open PySem PySem.Spec PyProof.Rows
abbrev TO:=St->Hp->(Option Int->Hp->Prop)->Prop
def PO(X:Cx)(e:Option Expr)(t:TO):Prop :=
 ∀(pins:Ou) (s:Shared) (σ:St) (H:Hp) (Q:Option Int->Hp->Prop),Zc X pins σ H s->t σ H Q ->
  wpAny (model X.prog X.w) X.A (evalPart e X.env) (fun u f=>∃o c,Zc X pins σ c f/\IsPart u o/\Q o c) X.xe s
def Zdm:TO:=fun _ H Q=>Q none H
inductive Zdn(Q:Option Int->Hp->Prop)(x:V)(H1:Hp):Prop|mk i (_:x=.int i) (_:Q (some i) H1)
def Zdo(t:TE):TO:=fun c H Q=>t c H fun x e=>Zdn Q x e
section
variable{X:Cx}{e:Expr}{te:TE}{lo hi:Option Expr}{tl th:TO}{pos p2:Pos}
theorem UA:PO X none Zdm:=by
 intro pins s c H Q I h;rw[evalPart_none];exact Sb ⟨none,H,I,.none,h⟩
theorem VI(h:PE X e te):PO X (some e) (Zdo te):=by
 intro pins s c H Q I n;rw[evalPart_some];refine Zv (h pins s c H _ I n) fun u v ⟨x,g,f,r1,j⟩=>?_;obtain⟨i,rfl,q⟩:=j;obtain⟨t,rfl⟩:=r1;exact⟨some i,g,f,.int i t,q⟩
def My(X:Cx)(r:V->Option Int->Option Int->Hp->VK->Prop):Prop :=
 ∀(pins:Ou) (s:Shared) (σ:St) (H:Hp) (x:V) (v vl vu:Value) (lo hi:Option Int) (sl:Addr) (Q:VK),Zc X pins σ H s->ZG x v->s.heap.IsSliceOf sl vl vu .none->IsPart vl lo->IsPart vu hi->r x lo hi H Q ->
  ∃T id,typeLookup (.type T) "__getitem__" = pure (some (.builtin id))/\s.TypeIs v T/\wpAny (model X.prog X.w) X.A (getItem v (.ref sl)) (EP X pins σ Q) X.xe s
def tSl(r:V->Option Int->Option Int->Hp->VK->Prop)(te:TE)(tl th:TO):TE:=fun c H Q=>te c H fun x h=>tl c h fun l f=>th c f fun u g=>r x l u g Q
theorem Um{r:V->Option Int->Option Int->Hp->VK->Prop}(T:My X r)(he:PE X e te)(J:PO X lo tl)(Z:PO X hi th):PE X (.Subscript e (.Slice lo hi none p2) pos) (tSl r te tl th):=by
 intro pins s f H Q I a0;refine Subscript_ (Zv (he pins s f H _ I a0) fun v U ⟨x,O,y,r1,B⟩=>?_);refine wpAny_Slice (Zv (J pins U f O _ y B) fun h s2 ⟨l,j,P,S,C⟩=>Zv (Z pins s2 f j _ P C) fun g c ⟨u,i,G,L,D⟩=>?_);rw[evalPart_none];refine Sb ?_;have n:Zc X pins f i { c with heap:=c.heap.push { cls:=.type "slice",data:=.fields #[h,g,.none] } }:=G.kept (t':=c.toks) fun b ob q=>Sc _ q;obtain⟨b0,id,E,M,Y⟩:=T pins { c with heap:=c.heap.push { cls:=.type "slice",data:=.fields #[h,g,.none] } } f i x v h g l u c.heap.objs.size Q n r1 (Heap.IsSliceOf.new ..) S L D;show wpAny (model X.prog X.w) X.A (subscriptTail e (.Slice lo hi none p2) v (.ref c.heap.objs.size)) (EP X pins f Q) X.xe { c with heap:=c.heap.push { cls:=.type "slice",data:=.fields #[h,g,.none] } };exact tail_any (ops:=[.ref c.heap.objs.size,v]) M E Y (by with_unfolding_all rfl)
def W3(xs:List V)(lo hi:Option Int):List V:=(xs.drop (HT.sIx xs.length 0 lo)).take (HT.sIx xs.length xs.length hi - HT.sIx xs.length 0 lo)
theorem Zdp(xs:List V)(lo hi:Option Int):(W3 xs lo hi).length<=xs.length:=by
 unfold W3;rw[Sx,SA];lia
end
def Qs(n:Nat)(i:Int):Option Nat:=if 0<=i then (if i<n then some i.toNat else none)else if -(n:Int)<=i then some (i+n).toNat else none
def YG{c:Type}(xs:List c)(i:Int):Option c:=(Qs xs.length i).bind fun j=>xs[j]?
theorem yH{n:Nat}{i:Int}{j:Nat}(h:Qs n i=some j):seqIndex? i n=some j/\j<n/\-(n:Int)<=i/\i<n:=by
 unfold Qs at h;by_cases f:0<=i
 ·rw[SV f]at h
  by_cases c:i<n
  ·rw[SV c]at h
   have e:i.toNat=j:=So h;exact⟨by rw[seqIndex_of f c,e],by lia,by lia,c⟩
  ·rw[SU c]at h;cases h
 ·rw[SU f]at h
  by_cases c:-(n:Int)<=i
  ·rw[SV c]at h
   have e:(i+n).toNat=j:=So h;exact⟨by rw[seqIndex_neg (by lia) c,e],by lia,c,by lia⟩
  ·rw[SU c]at h;cases h
theorem Mz{c:Type}{xs:List c}{i:Int}{v:c}(h:YG xs i=some v):∃j,seqIndex? i xs.length=some j/\xs[j]? = some v/\j<xs.length/\-(xs.length:Int)<=i/\i<xs.length:=by
 unfold YG at h;cases e:Qs xs.length i with
 |none=>rw[e]at h;cases h
 |some j =>
  rw[e]at h;obtain⟨q,n,f,g⟩:=yH e;exact⟨j,q,h,n,f,g⟩
theorem XF{c:Type}{xs:List c}{j:Nat}{v:c}(h:xs[j]? = some v):YG xs (j:Int)=some v:=by
 have f:j<xs.length:=(Sr.mp h).1;have e:Qs xs.length (j:Int)=some j:=by
  unfold Qs;rw[SV (by lia),SV (by lia)];simp
 unfold YG;rw[e];exact h
def yI(b:Expr):Prop:=∀o i,subscripted b false o i=operate [o,i] (getItem o i)
def V1(X:Cx)(r:R2):Prop :=
 ∀(value slice:Expr) (pins:Ou) (s:Shared) (σ:St) (H:Hp) (x y:V) (v u:Value) (Q:VK),Zc X pins σ H s->ZG x v->ZG y u->r x y H Q ->
  subscripted slice false v u=operate [v,u] (getItem v u)->wpAny (model X.prog X.w) X.A (subscriptTail value slice v u) (EP X pins σ Q) X.xe s
def yJ(X:Cx)(id:String)(r:V->List V->Hp->VK->Prop):Prop :=
 ∀(pins:Ou) (s:Shared) (σ:St) (H:Hp) (x:V) (xs:List V) (v:Value) (us:OB) (Q:VK),Zc X pins σ H s->ZG x v->ZD xs us->r x xs H Q ->
  wpAny (model X.prog X.w) X.A (call (.builtin id) (v::us)) (EP X pins σ Q) X.xe s
section
variable{X:Cx}{a b:Expr}{ta tb:TE}{pos:Pos}
theorem Zdq{r:R2}(j:V1 X r)(ha:PE X a ta)(n:PE X b tb)(f:yI b):PE X (.Subscript a b pos) (Ux r ta tb):=by
 intro pins s e H Q I h;exact Subscript_ (Mo ha n I h fun v u s2 x y c i B g q=>j a b pins s2 e c x y v u Q i B g q (f _ _))
inductive yK(K:Ow)(x:V)(y:V)(H:Hp)(Q:VK):Prop|mk p xs i v (_:x=.ref p) (_:y=.int i) (_:Zg K H p xs) (_:YG xs i=some v) (_:Q v H)
inductive A4(K:Ow)(x:V)(y:V)(H:Hp)(Q:VK):Prop|mk p xs i v (_:x=.ref p) (_:y=.int i) (_:Zk K H p xs) (_:YG xs i=some v) (_:Q v H)
inductive Zdr(x:V)(y:V)(H:Hp)(Q:VK):Prop|mk z i c (_:x=.str z) (_:y=.int i) (_:z.length<=sizeLine) (_:YG z.cps.toList i=some c) (_:Q (.str ⟨#[c]⟩) H)
theorem Yq:V1 X (yK X.K):=by
 intro value slice pins s B H x a0 b0 u Q I L G h v;obtain⟨p,Z,i,z,rfl,rfl,E,S,q⟩:=h;cases L;obtain⟨t,rfl⟩:=G;obtain⟨D,r,e,Y⟩:=I.list E;obtain⟨j,c,T,U,M,O⟩:=Mz S;obtain⟨w,n,P⟩:=r.get T;have J:=r.length;have hn:=Qn;have y:EP X pins B Q w s:=⟨z,H,I,P,q⟩;by_cases g:0<=i
 ·have f:i.toNat=j:=by
   rw[seqIndex_of g O]at c;exact So c
  exact item_listR e.isList g (by lia) (by rw[f];simpa using n) y v
 ·have f:(i+(D.toArray.size:Int)).toNat=j:=by
   rw[seqIndex_neg (by lia) M]at c;rw[SM,<-J];exact So c
  exact subscriptTail_builtinR (x:=w) e.isList.typeIs slot_list_getitem.lookup
   (wpAny_getItem_list_neg (Q:=fun r C=>r=w/\EP X pins B Q r C) e.isList (by lia) (by rw[SM]<;>omega) (by lia) (by rw[f];simpa using n) ⟨R,y⟩) v
theorem ZP:V1 X (A4 X.K):=by
 intro value slice pins s e H x y v u Q I D n h E;obtain⟨p,U,i,z,rfl,rfl,g,L,q⟩:=h;cases D;obtain⟨t,rfl⟩:=n;obtain⟨T,r,c,S⟩:=I.tuple g;obtain⟨j,O,M,P,Y,Z⟩:=Mz L;obtain⟨w,B,J⟩:=r.get M;have C:=r.length;have hn:=Qn;have G:EP X pins e Q w s:=⟨z,H,I,J,q⟩;exact subscriptTail_builtinR (x:=w) c.typeIs slot_tuple_getitem.lookup
  (getItem_tuple (j:=j) (Q:=fun r f=>r=w/\EP X pins e Q r f) c (by lia) (by lia) (by rw[SM,<-C];exact O) (by simpa using B) ⟨R,G⟩) E
theorem yL:V1 X Zdr:=by
 intro value slice pins s P H x y v u Q I n f h C;obtain⟨z,i,c,rfl,rfl,O,G,q⟩:=h;obtain⟨t,rfl⟩:=n;obtain⟨S,rfl⟩:=f;obtain⟨j,e,L,M,D,E⟩:=Mz G;have g:z.cps.toList.length=z.length:=by simp[Str.length]
 rw[g]at e D E;have hn:=Qn;exact tail_any (typeIs_str s z t) slot_str_getitem.lookup (getItem_str (c:=c) (by
  have J:decide (i < -(2 ^ 63:Int))=false:=SQ (by lia);have B:decide (i ≥ 2 ^ 63)=false:=SQ (by lia);rw[J,B,Bool.or_false]) (by rw[e];simpa using L) ⟨.str ⟨#[c]⟩,H,I.tok _,⟨_,R⟩,q⟩) C
theorem Zds(c:OB)(n j:Nat)(u:Value):Obj.mapSeq (·.setIfInBounds j u) { cls:=.type "list",data:=.seq c.toArray n } = { cls:=.type "list",data:=.seq (c.set j u).toArray n }:=by
 simp[Obj.mapSeq]
theorem Zc.lst{pins:Ou}{f:St}{H:Hp}{s:Shared}{p:Addr}{xs:List V}(I:Zc X pins f H s)(h:H p=some (.lst xs)) :
  ∃(c:OB) (n:Nat),ZD xs c/\s.heap.get? p=some { cls:=.type "list",data:=.seq c.toArray n }/\xs.length<=sizeLine:=by
 obtain⟨z,c,n,r,e⟩:=I.hok p _ h;exact⟨c,n,r,e,z⟩
theorem Zc.lstUpd{pins:Ou}{i:St}{H:Hp}{s:Shared}{p:Addr}{xs ys:List V}{g its':OB}{n c:Nat}{f:Obj->Obj}(I:Zc X pins i H s)(h:H p=some (.lst xs))
  (B:s.heap.get? p=some { cls:=.type "list",data:=.seq g.toArray n }) (j:f { cls:=.type "list",data:=.seq g.toArray n } = { cls:=.type "list",data:=.seq its'.toArray c }) (r:ZD ys its') (v:ys.length<=sizeLine) (t:Nat) :
  Zc X pins i (Za H p (.lst ys)) { s with heap:=s.heap.update p f,toks:=t }:=by
 have e:(s.heap.update p f).get? p=some { cls:=.type "list",data:=.seq its'.toArray c }:=by
  rw[Heap.get?_update_self f B (by rw[j]<;>rfl),j]
 refine I.write (x:=p) (e:=p) (by rw[h];trivial) (.inl R) (fun b u y q=>(Heap.get?_update_other _ _ (Ne.symm y)).trans q) ⟨_,e⟩ ?_;exact⟨v,its',c,r,e⟩
inductive Zdt(o:V)(i:V)(v:V)(H:Hp)(Q:(Hp->Prop)):Prop|mk p xs k j (_:o=.ref p) (_:i=.int k) (_:H p=some (.lst xs)) (_:Qs xs.length k=some j) (_:Q (Za H p (.lst (xs.set j v))))
theorem F3:zG X Zdt:=by
 intro pins s M H o i v S T u Q I ro ri L h;obtain⟨p,J,k,j,rfl,rfl,D,O,q⟩:=h;cases ro;obtain⟨t,rfl⟩:=ri;obtain⟨y,n,r,g,G⟩:=I.lst D;obtain⟨c,P,x,C⟩:=yH O;have e:=r.length;have hn:=Qn;have E:Zc X pins M (Za H p (.lst (J.set j v))) { s with heap:=s.heap.update p (Obj.mapSeq (·.setIfInBounds j u)) } :=
  I.lstUpd D g (Zds y n j u) (r.set L j) (by rw[List.length_set];exact G) s.toks
 by_cases B:0<=k
 ·have f:k.toNat=j:=by
   rw[seqIndex_of B C]at c;exact So c
  exact W.ki_setAt g B (by lia) (by rw[SM,<-e];exact C) (by rw[f];exact⟨_,E,q⟩)
 ·have f:(k+(y.toArray.size:Int)).toNat=j:=by
   rw[seqIndex_neg (by lia) x]at c;rw[SM,<-e];exact So c
  exact W.ki_setBack g (by lia) (by rw[SM,<-e];exact x) (by lia) (by rw[f];exact⟨_,E,q⟩)
theorem Zdu(lo hi:Option Int)(n:Nat):(sliceBounds lo hi none n).1=((HT.sIx n 0 lo:Nat):Int)/\(sliceBounds lo hi none n).2.1=((HT.sIx n n hi:Nat):Int)/\(sliceBounds lo hi none n).2.2=1:=by
 refine⟨?_,?_,R⟩
 ·cases lo with
  |none=>simp[sliceBounds,HT.sIx]
  |some i =>
   simp only[sliceBounds,HT.sIx,Option.getD_none,show(1:Int)>0 by lia,if_true];by_cases h:i<0
   ·simp only[h,if_true]<;>omega
   ·simp only[h,if_false]<;>omega
 ·cases hi with
  |none=>simp[sliceBounds,HT.sIx]
  |some i =>
   simp only[sliceBounds,HT.sIx,Option.getD_none,show(1:Int)>0 by lia,if_true];by_cases h:i<0
   ·simp only[h,if_true]<;>omega
   ·simp only[h,if_false]<;>omega
theorem Zdv(c:OB)(lo hi:Option Int):slicePick c.toArray lo hi none=((c.drop (HT.sIx c.length 0 lo)).take (HT.sIx c.length c.length hi - HT.sIx c.length 0 lo)).toArray:=by
 obtain⟨g,e,f⟩:=Zdu lo hi c.toArray.size;unfold slicePick;rw[g,e,f];simp only[sliceRange_one,pick_run,SM]<;>rfl
inductive Zdw(K:Ow)(x:V)(lo:Option Int)(hi:Option Int)(H:Hp)(Q:VK):Prop|mk a xs (_:x=.ref a) (_:Zg K H a xs) (_:∀p,H p=none->Q (.ref p) (Za H p (.lst (W3 xs lo hi))))
theorem U0:My X (Zdw X.K):=by
 intro pins s G H x v E D lo e C Q I j n y u h;obtain⟨a,c,rfl,i,q⟩:=h;cases j;obtain⟨B,r,f,g⟩:=I.list i;have hlen:=r.length;refine⟨"list",_,slot_list_getitem.lookup,f.isList.typeIs,?_⟩;refine wpAny_getItem_list_slice f.isList n y u .none (by simp) ?_ (by rw[SM]<;>omega);rw[Zdv,<-hlen];refine⟨.ref s.heap.objs.size,_,I.laid (t':=s.toks) (o:=.lst (W3 c lo e)) (fun b ob q=>Sc _ q) (Sg _) ?_,R,q _ (I.hok.fresh (Sg _))⟩;exact⟨Sh (Zdp c lo e) g,_,0,(r.drop (HT.sIx c.length 0 lo)).take (HT.sIx c.length c.length e - HT.sIx c.length 0 lo),Sd _ R⟩
def UB:V->Bool
 |.non=>true
 |.bl _=>true
 |.int _=>true
 |.str _=>true
 |_=>false
def W8:V->V->Bool
 |.non,.non=>true
 |.bl a,.bl b=>a == b
 |.bl a,.int b=>(if a then 1 else 0) == b
 |.int a,.bl b=>a == (if b then 1 else 0)
 |.int a,.int b=>a == b
 |.str a,.str b=>a == b
 |_,_=>false
theorem Zdx{A:Around}{s:Shared}{y x:V}{u v:Value}(f:ZG y u)(c:ZG x v)(h:UB y=true)(g:UB x=true):SeqAt.EqAt A s u v (W8 y x):=by
 cases y with
 |non =>
  cases f;cases x with
  |non=>cases c;exact SeqAt.EqAt.same _
  |bl b=>cases c;exact SeqAt.EqAt.none_bool b
  |int b=>obtain⟨t,rfl⟩:=c;exact SeqAt.EqAt.none_int b t
  |str b=>obtain⟨t,rfl⟩:=c;exact SeqAt.EqAt.none_str b t
  |_=>exact Oq (show false=true from g) SN
 |bl a =>
  cases f;cases x with
  |non=>cases c;exact SeqAt.EqAt.bool_none a
  |bl b=>cases c;exact SeqAt.EqAt.bool_bool a b
  |int b=>obtain⟨t,rfl⟩:=c;exact SeqAt.EqAt.bool_int a b t
  |str b=>obtain⟨t,rfl⟩:=c;exact SeqAt.EqAt.bool_str a b t
  |_=>exact Oq (show false=true from g) SN
 |int a =>
  obtain⟨e,rfl⟩:=f;cases x with
  |non=>cases c;exact SeqAt.EqAt.int_none a e
  |bl b=>cases c;exact SeqAt.EqAt.int_bool a e b
  |int b=>obtain⟨t,rfl⟩:=c;exact SeqAt.EqAt.int_int a e b t
  |str b=>obtain⟨t,rfl⟩:=c;exact SeqAt.EqAt.int_str a e b t
  |_=>exact Oq (show false=true from g) SN
 |str a =>
  obtain⟨e,rfl⟩:=f;cases x with
  |non=>cases c;exact SeqAt.EqAt.str_none a e
  |bl b=>cases c;exact SeqAt.EqAt.str_bool a e b
  |int b=>obtain⟨t,rfl⟩:=c;exact SeqAt.EqAt.str_int a e b t
  |str b=>obtain⟨t,rfl⟩:=c;exact SeqAt.EqAt.str_str a e b t
  |_=>exact Oq (show false=true from g) SN
 |_=>exact Oq (show false=true from h) SN
def UC(x:V)(u:Value):Bool:=match u with
 |.none=>W8 .non x
 |.bool b=>W8 (.bl b) x
 |.int i _=>W8 (.int i) x
 |.str z _=>W8 (.str z) x
 |_=>false
theorem yM{x y:V}{u:Value}(r:ZG y u)(f:UB y=true):UC x u=W8 y x:=by
 cases y with
 |non=>cases r;rfl
 |bl b=>cases r;rfl
 |int i=>obtain⟨t,rfl⟩:=r;rfl
 |str z=>obtain⟨t,rfl⟩:=r;rfl
 |_=>exact Oq (show false=true from f) SN
theorem MA{x:V}:∀{xs:List V} {us:OB},ZD xs us->xs.all UB=true->us.any (UC x)=xs.any fun y=>W8 y x
 |_,_,.nil,_=>rfl
 |y::xs,u::us,.cons r t,f=>by
  rw[List.all_cons,Bool.and_eq_true]at f;rw[List.any_cons,List.any_cons,yM r f.1,MA t f.2]
theorem MB{A:Around}{s:Shared}{x:V}{v:Value}(g:ZG x v)(e:UB x=true):∀{xs:List V} {us:OB},ZD xs us->xs.all UB=true->∀u∈us,SeqAt.EqAt A s u v (UC x u)
 |_,_,.nil,_=>fun u c=>by cases c
 |y::xs,u::us,.cons r t,f=>fun h c=>by
  rw[List.all_cons,Bool.and_eq_true]at f;rcases SE.mp c with rfl|c
  ·rw[yM r f.1];exact Zdx r g f.1 e
  ·exact MB g e t f.2 h c
def U1(x:V)(xs:List V):Bool:=xs.any fun y=>W8 y x
inductive rIn(K:Ow)(neg:Bool)(x:V)(y:V)(H:Hp)(Q:VK):Prop|mk p xs (_:y=.ref p) (_:(Zg K H p xs\/Zk K H p xs)) (_:UB x=true) (_:xs.all UB=true) (_:Q (.bl (if neg then !U1 x xs else U1 x xs)) H)
theorem KN:YM X (compareOp .In) (rIn X.K false):=by
 intro pins s D H x y v u Q I j B h;obtain⟨p,C,rfl,e,i,fs,q⟩:=h;cases B;rcases e with e|e
 ·obtain⟨c,r,f,n⟩:=I.list e
  refine SeqAt.in_listAt (UC x) f.isList (fun w g=>MB j i r fs w (by simpa using g)) ⟨.bl _,H,I,R,?_⟩;rw[show c.toArray.any (UC x)=c.any (UC x) by simp,MA r fs];exact q
 ·obtain⟨c,r,f,n⟩:=I.tuple e
  refine SeqAt.in_tupleAt (UC x) f (fun w g=>MB j i r fs w (by simpa using g)) ⟨.bl _,H,I,R,?_⟩;rw[show c.toArray.any (UC x)=c.any (UC x) by simp,MA r fs];exact q
theorem Xm:Xb X (.builtin "len") (fun xs H Q=>∃p ys,xs=[.ref p]/\(Zg X.K H p ys\/Zk X.K H p ys)/\Q (.int ys.length) H):=by
 intro pins s n H xs v Q I r h;obtain⟨p,ys,rfl,c,q⟩:=h;obtain⟨u,rfl,j⟩:=WT r;cases j;have hn:=Qn;rcases c with c|c
 ·obtain⟨g,e,f,i⟩:=I.list c
  have hlen:=e.length;exact Calls.call_len_list f.isList (by simp only[SM]<;>omega) ⟨.int ys.length,H,I.tok _,⟨s.toks+1,by rw[SM,hlen]⟩,q⟩
 ·obtain⟨g,e,f,i⟩:=I.tuple c
  have hlen:=e.length;exact len_tuple f (by simp only[SM]<;>omega) ⟨.int ys.length,H,I.tok _,⟨s.toks+1,by rw[SM,hlen]⟩,q⟩
theorem yN:Xb X (.builtin "len") (fun xs H Q=>∃z,xs=[.str z]/\z.length<=sizeLine/\Q (.int z.length) H):=by
 intro pins s c H xs e Q I r h;obtain⟨z,rfl,f,q⟩:=h;obtain⟨u,rfl,t,rfl⟩:=WT r;have hn:=Qn;exact len_str (by lia) ⟨.int z.length,H,I.tok _,⟨_,R⟩,q⟩
theorem U2:Xb X (.type "list") (fun xs H Q=>∃p ys,xs=[.ref p]/\(Zg X.K H p ys\/Zk X.K H p ys)/\∀l,H l=none->Q (.ref l) (Za H l (.lst ys))):=by
 intro pins s G H xs J Q I r h;obtain⟨p,ys,rfl,v,q⟩:=h;obtain⟨u,rfl,E⟩:=WT r;cases E;have D:∀(f:OB),ZD ys f->ys.length<=sizeLine->∀(c:Heap) (g:Nat),(∀b C,s.heap.get? b=some C->c.get? b=some C) ->
   c.get? s.heap.objs.size=some { cls:=.type "list",dict:=none,data:=.seq f.toArray g,slots:=#[] }->EP X pins G Q (.ref s.heap.objs.size) { s with heap:=c }:=fun f i j c g kp e =>
  ⟨.ref s.heap.objs.size,_,I.laid (t':=s.toks) kp (Sg _) (show Yy X.prog X.w _ c _ (.lst ys)from⟨j,f,g,i,e⟩),R,q _ (I.hok.fresh (Sg _))⟩
 rcases v with v|v
 ·obtain⟨f,i,B,j⟩:=I.list v
  have hlen:=i.length;obtain⟨o,y,x,n,hd⟩:=B.isList;exact call_list_seq p (.inl R) y x hd (fun c g kp e=>D f i j c g kp e) (by simp only[SM]<;>omega)
 ·obtain⟨f,i,B,j⟩:=I.tuple v
  have hlen:=i.length;obtain⟨o,y,x,n,hd⟩:=B;exact call_list_seq p (.inr R) y x hd (fun c g kp e=>D f i j c g kp e) (by simp only[SM]<;>omega)
theorem F4:Xb X (.type "tuple") (fun xs H Q=>∃p ys,xs=[.ref p]/\((Zg X.K H p ys/\∀l,H l=none->Q (.ref l) (Za H l (.tup ys)))\/(Zk X.K H p ys/\Q (.ref p) H))):=by
 intro pins s n H xs C Q I r h;obtain⟨p,ys,rfl,h⟩:=h;obtain⟨u,rfl,B⟩:=WT r;cases B;rcases h with⟨g,q⟩|⟨g,q⟩
 ·obtain⟨f,j,i,v⟩:=I.list g
  have hlen:=j.length;refine call_tuple_list i.isList (fun c kp=>?_) (by simp only[SM]<;>omega);have x:Zc X pins n H { s with heap:=c }:=I.kept (t':=s.toks) kp;have y:Zc X pins n (Za H c.objs.size (.tup ys)) { s with heap:=c.push { cls:=.type "tuple",data:=.seq f.toArray } } :=
   x.laid (t':=s.toks) (fun b o e=>Sc _ e) (Sg _) (show Yy X.prog X.w _ _ _ (.tup ys)from⟨v,f,j,IsTup.new _ _⟩)
  exact⟨.ref c.objs.size,_,y,R,q _ (x.hok.fresh (Sg _))⟩
 ·obtain⟨f,j,i,v⟩:=I.tuple g
  exact call_tuple_same i ⟨.ref p,H,I,R,q⟩
def yO(K:Ow)(T:String)(x:V)(H:Hp):Prop:=match x with
 |.str _=>T = "str"
 |.int _=>T = "int"
 |.ref p=>(T = "list" /\ ∃e,Zg K H p e)\/(T = "tuple" /\ ∃o,K.lookup p=some o/\o.cls=.type "tuple" /\ o.dict=none) \/
   (T = "dict" /\ ((∃c,H p=some (.dK c))\/∃c,H p=some (.dT c)))\/(T = "set" /\ ∃S n,H p=some (.set S n))
 |_=>False
theorem Zdy{pins:Ou}{q:St}{H:Hp}{s:Shared}{T:String}{x:V}{v:Value}(I:Zc X pins q H s)(r:ZG x v)(ty:yO X.K T x H) :
  s.TypeIs v T/\∀a,v=.ref a->∃ob,s.heap.get? a=some ob/\ob.dict=none:=by
 cases x with
 |str z =>
  obtain⟨t,rfl⟩:=r;cases (show T = "str" from ty);exact⟨typeIs_str s z t,fun _ e=>nomatch e⟩
 |int i =>
  obtain⟨t,rfl⟩:=r;cases (show T = "int" from ty);exact⟨typeIs_int s i t,fun _ e=>nomatch e⟩
 |ref p =>
  cases r;rcases ty with⟨rfl,C,u⟩|⟨rfl,o,f,j,hd⟩|⟨rfl,f⟩|⟨rfl,S,n,f⟩
  ·obtain⟨B,_,h,_⟩:=I.list u
   refine⟨h.isList.typeIs,fun a e=>?_⟩;cases e;obtain⟨o,n,e,c,hd,_⟩:=h;exact⟨o,e,hd⟩
  ·refine⟨⟨o,I.kIn p o f,j⟩,fun a e=>?_⟩
   cases e;exact⟨o,I.kIn _ o f,hd⟩
  ·have z:∃o,s.heap.get? p=some o/\o.ExactDict:=by
    rcases f with⟨y,f⟩|⟨y,f⟩
    ·obtain⟨_,_,_,_,o,_,_,e,ex,_⟩:=I.hok p _ f
     exact⟨o,e,ex⟩
    ·obtain⟨_,_,_,_,o,_,_,e,ex,_⟩:=I.hok p _ f
     exact⟨o,e,ex⟩
   obtain⟨o,e,ex⟩:=z;refine⟨⟨o,e,ex.1⟩,fun a g=>?_⟩;cases g;exact⟨o,e,ex.2.1⟩
  ·obtain⟨o,_,_,_,e,ex,_⟩:=I.hok p _ f
   refine⟨⟨o,e,ex.1⟩,fun a g=>?_⟩;cases g;exact⟨o,e,ex.2.1⟩
 |_=>exact False.elim ty
def tBM(K:Ow)(T:String)(r:V->List V->Hp->VK->Prop)(to:TE)(t:TA):TE:=fun c H Q=>to c H fun x e=>yO K T x e/\t c e fun g f=>r x g f Q
variable{o e:Expr}{es:OD}{to:TE}{t:TA}{name:Str}{apos cpos:Pos}{T id:String}{r:V->List V->Hp->VK->Prop}
theorem F5(B:PlainAttrs T)(slot:Slot T name id)(S:typeOf (.builtin id)=pure (.type "method_descriptor")) (hm:yJ X id r) (L:PE X o to) (ha:PA X (e::es) t)
  (P:attributeBase o name X.env (eval o X.env)=eval o X.env:=by rfl)
  (y:((backTo cpos (starEach (e::es) X.env)).all (fun x=>!x.1) && (backToKw cpos (keywordEach [] X.env)).all (fun x=>x.1.isSome)
   && decide ((e::es).length+([]:List Keyword).length+(if ([]:List Keyword).isEmpty then 0 else 1)<30))=true:=by rfl)
  (C:(apos.endLine == cpos.line)=true:=by rfl) (E:starEach (e::es) X.env=(false,eval e X.env)::starEach es X.env:=by rfl) (q:(backTo cpos (starEach es X.env)).any (·.1)=false:=by rfl) :
  PE X (.Call (.Attribute o name apos) (e::es) [] cpos) (tBM X.K T r to t):=by
 intro pins s c H Q I h;refine wpAny_Call_method_late P y C R (Zv (L pins s c H _ I h) fun v M ⟨x,G,f,r1,ty,n⟩=>?_);obtain⟨Y,U⟩:=Zdy f r1 ty;refine⟨T,id,B,slot,S,Y,U,?_⟩;have g:=ha cpos pins M c G _ f n;rw[E]at g ⊢;refine Calls.callWith_builtin (by show(false || (backTo cpos (starEach es X.env)).any (·.1))=false;rw[q]<;>rfl) (Calls.evalArgs_plain ?_);exact Zv g fun O s2 ⟨j,i,J,D,u⟩=>hm pins s2 c i x j v O Q J r1 D u
end
def MtM(X:Cx)(id:String)(r:V->List V->Hp->VK->Prop):Prop :=
 ∀(pins:Ou) (s:Shared) (σ:St) (H:Hp) (x:V) (xs:List V) (v:Value) (us:OB) (Q:VK),Zc X pins σ H s->ZG x v->ZD xs us->r x xs H Q ->
  wpAny (model X.prog X.w) X.A (call (.builtin id) (v::us)) (EP X pins σ Q) X.xe s
theorem ZD.one:∀{x:V} {us:OB},ZD [x] us->∃u,us=[u]/\ZG x u
 |_,_,.cons r .nil=>⟨_,R,r⟩
theorem ZD.rep{xs:List V}{us:OB}(h:ZD xs us):∀k:Nat,ZD (List.replicate k xs).flatten (List.replicate k us).flatten
 |0=>.nil
 |k+1=>by
  rw[List.replicate_succ,List.replicate_succ,List.flatten_cons,List.flatten_cons];exact ZD.append h (ZD.rep h k)
theorem yP(c:OB):∀(k:Nat) (f:OB),
  List.foldl (fun g i=>g++i) f.toArray (List.replicate k c.toArray)=(f++(List.replicate k c).flatten).toArray
 |0,f=>by simp
 |k+1,f=>by
  have e:f.toArray++c.toArray=(f++c).toArray:=by simp
  have h:(f++c)++(List.replicate k c).flatten=f++(List.replicate (k+1) c).flatten:=by
   rw[List.replicate_succ,List.flatten_cons,Oc]
  rw[<-h,<-yP c k (f++c),<-e,List.replicate_succ,List.foldl_cons]
section
variable{X:Cx}{pins:Ou}{σ:St}{H:Hp}{s:Shared}{l b:Addr}{xs ys zs:List V}
theorem Zc.lset{c its':OB}{n:Nat}{f:Array Value->Array Value}{t':Nat}(I:Zc X pins σ H s)(g:H l=some (.lst xs))
  (e:s.heap.get? l=some { cls:=.type "list",data:=.seq c.toArray n }) (y:f c.toArray=its'.toArray) (i:ZD ys its') (j:ys.length<=sizeLine) :
  Zc X pins σ (Za H l (.lst ys)) { s with heap:=s.heap.update l (Obj.mapSeq f),toks:=t' }:=by
 have q:=PySem.IsL.update e f;rw[y]at q;refine I.write (x:=l) (e:=l) (by rw[g];exact trivial) (.inl R) (fun B u v h=>(Heap.get?_update_other s.heap (Obj.mapSeq f) (Ne.symm v)).trans h) ⟨_,q⟩ ?_;exact⟨j,its',_,i,q⟩
theorem Zc.lnew{c:OB}{t':Nat}(I:Zc X pins σ H s)(e:ZD ys c)(hz:ys.length<=sizeLine) :
  Zc X pins σ (Za H s.heap.objs.size (.lst ys)) { s with heap:=s.heap.push { cls:=.type "list",data:=.seq c.toArray },toks:=t' } :=
 I.laid (fun _ _ q=>Sc _ q) (Sg _) ⟨hz,c,0,e,Sd _ R⟩
theorem Zc.fresh(I:Zc X pins σ H s):H s.heap.objs.size=none:=I.hok.fresh (Sg _)
theorem Zc.lstM(I:Zc X pins σ H s)(f:H l=some (.lst xs)):xs.length<=sizeLine/\∃(c:OB) (n:Nat),ZD xs c/\xs.length=c.length/\s.heap.get? l=some { cls:=.type "list",data:=.seq c.toArray n }:=by
 obtain⟨z,c,n,r,e⟩:=I.hok l _ f;exact⟨z,c,n,r,r.length,e⟩
theorem Zdz{n:Nat}(h:n<=sizeLine):Builtin.List.listTooLong n=false:=by
 unfold Builtin.List.listTooLong;exact SQ (by lia)
end
section
variable{X:Cx}
inductive ZdA(x:V)(vs:List V)(H:Hp)(Q:VK):Prop|mk l xs y (_:x=.ref l) (_:vs=[y]) (_:H l=some (.lst xs)) (_:xs.length<sizeLine) (_:Q .non (Za H l (.lst (xs++[y]))))
theorem KO:MtM X "list.append" ZdA:=by
 intro pins s E H x B v G Q I i g h;obtain⟨l,C,y,rfl,rfl,f,j,q⟩:=h;cases i;obtain⟨u,rfl,ru⟩:=g.one;obtain⟨z,c,n,r,D,e⟩:=I.lstM f;refine call_meets F.slot_list_append ⟨_,e,R⟩ F.entry_list_append (F.args_list_append_2 _ _) (PySem.list_append l c.toArray n u (by rw[SM];lia)) ⟨e,?_⟩;refine⟨.non,_,I.lset (its':=c++[u]) f e (by simp) (r.append (.cons ru .nil)) ?_,R,q⟩;rw[Su,Sw];lia
inductive yQ(x:V)(y:V)(H:Hp)(Q:VK):Prop|mk l b xs zs (_:x=.ref l) (_:y=.ref b) (_:H l=some (.lst xs)) (_:H b=some (.lst zs)) (_:xs.length+zs.length<=sizeLine) (_:∀p,H p=none->Q (.ref p) (Za H p (.lst (xs++zs))))
theorem Xx:YM X (binaryOp .Add) yQ:=by
 intro pins s S H x y v u Q I B i h;obtain⟨l,b,J,zs,rfl,rfl,C,E,G,q⟩:=h;cases B;cases i;obtain⟨z,c,n,r,L,e⟩:=I.lstM C;obtain⟨O,f,M,j,T,D⟩:=I.lstM E;refine PySem.P.add_list e D ?_ (by rw[SM,SM];lia);have g:c.toArray++f.toArray=(c++f).toArray:=by simp
 rw[g];exact⟨.ref _,_,I.lnew (t':=s.toks) (r.append j) (by rw[Su];lia),R,q _ I.fresh⟩
inductive MC(x:V)(y:V)(H:Hp)(Q:VK):Prop|mk l k xs (_:x=.ref l) (_:y=.int k) (_:H l=some (.lst xs)) (_:-(2 ^ 63)<=k) (_:k<2 ^ 63) (_:xs.length*k.toNat<=sizeLine) (_:∀p,H p=none->Q (.ref p) (Za H p (.lst (List.replicate k.toNat xs).flatten)))
theorem ZdB{c:Type}(xs:List c)(k:Nat):(List.replicate k xs).flatten.length=k*xs.length:=by
 induction k with
 |zero=>simp
 |succ k e=>rw[List.replicate_succ,List.flatten_cons,Su,e,Nat.succ_mul,Nat.add_comm]
theorem Xc:YM X (binaryOp .Mult) MC:=by
 intro pins s σ H x y v u Q I E C h;obtain⟨l,k,Z,rfl,rfl,J,S,P,i,q⟩:=h;cases E;obtain⟨t,rfl⟩:=C;obtain⟨z,c,n,r,D,e⟩:=I.lstM J;have hlen:c.toArray.size*k.toNat<=sizeLine:=by rw[SM,<-D];exact i
 have L:¬ c.toArray.size*k.toNat>(2 ^ 63 - 1)/8:=by
  have:(sizeLine:Nat)<=(2 ^ 63 - 1)/8:=by lia
  lia
 have G:¬ (!Builtin.List.listFitsIndex k)=true:=by
  rw[fitsIndex_both S P];exact SN
 have O:¬ Builtin.List.listTooLong (c.toArray.size*k.toNat)=true:=by
  rw[Zdz hlen];exact SN
 have B:List.foldl (fun g f=>g++f) #[] (List.replicate (if c.toArray.isEmpty=true then 0 else k.toNat) c.toArray)=(List.replicate k.toNat c).flatten.toArray:=by
  have M:∀m:Nat,List.foldl (fun g f=>g++f) #[] (List.replicate m c.toArray)=(List.replicate m c).flatten.toArray:=fun m=>by
   have:=yP c m [];rw[List.nil_append]at this;exact this
  rw[M];cases c with
  |nil=>simp
  |cons a Y=>rw[SU (by simp)]
 refine wpAny_binaryOp_repeat_ref (T := "list") (U := "int") (by lia) ⟨_,e,R⟩ (fun j=>typeIs_int j k t) noFill_list_mul F.fills_int_mul F.slot_int_rmul repeat_list F.slot_int_index.lookup
  (call_meets F.slot_int_rmul (typeIs_int s k t) F.entry_int_rmul (F.args_int_rmul_2 _ _) (int___rmul___int_list k t l c.toArray n)
   ⟨e,R,⟨_,e,R⟩,call_meets F.slot_list_mul ⟨_,e,R⟩ F.entry_list_mul (F.args_list_mul_2 _ _) (AutoListH.list___mul___list_int_3 l c.toArray n k t G L O) ⟨e,?_⟩⟩)
 rw[B];exact⟨.ref _,_,I.lnew (t':=s.toks) (r.rep k.toNat) (by rw[ZdB,Nat.mul_comm];exact i),R,q _ I.fresh⟩
end
section
variable{prog:Program}{w:World}{A:Around}{E:Ot}{s:Shared}
set_option maxRecDepth 100000 in
end
section
variable{X:Cx}
end
end L2
namespace Att
open PySem PySem.W PySem.Calls PyProof.Rows
theorem ZdC{P:Params}{h:Heap}:∀(ns:List Int) (vs:List Value),WellAll P h vs (ns.map WData.int)->IntsAre vs ns:=by
 intro ns
 induction ns with
 |nil =>
  intro vs w;rw[List.map_nil]at w;cases w;exact .nil
 |cons n ns c =>
  intro vs w;rw[List.map_cons]at w;cases w with
  |cons a b =>
   cases a;exact .cons _ _ (c _ b)
theorem ZdD{l:OpenLaw}{n:Nat}(hn:l.most=some n){P:Params}{h:Heap}{args:List WData}{vals:List Value}
  (g:l.row.toRowW.claim.pre args=true) (x:WellAll P h vals args) :
  ∃a vs ns,vals=[Value.ref a]/\args=[WData.list (ns.map WData.int)]/\h.get? a=some { cls:=.type "list",data:=.seq vs.toArray }/\IntsAre vs ns/\ns.length<=n:=by
 have i:WShape.hasAll [] args [.list .int]=true:=(pre_splitW g).1;have f:l.pre.holds [] { args:=args } = true:=(pre_splitW g).2;obtain⟨d,r,rfl,E,D⟩:=hasAllW_cons i;obtain rfl:=hasAllW_nil D;obtain⟨G,rfl,u⟩:=hasW_list E;obtain⟨ns,rfl⟩:=items_int u;have hlen:ns.length<=n:=by
  unfold OpenLaw.pre at f;have c:(WTm.not (.lt (.lit (.int (n:Int))) (.len (.arg 0)))).holds [] { args:=[.list (ns.map .int)] } = true:=by
   have c:=(holds_andW f).1;rw[hn]at c;exact c
  have e:=condW_of c (w_not (w_lt w_lit (w_len_list (w_arg rfl))));rw[List.length_map]at e;refine Nat.le_of_not_lt fun q=>?_;have v:(n:Int)<((ns.length:Nat):Int):=by lia
  first
   |(rw[decide_eq_true v]at e;exact absurd e (by lia))
   |(simp at e;lia)
 cases x with
 |cons j y =>
  cases y;cases j with
  |list C B=>exact⟨_,_,ns,rfl,rfl,C,ZdC ns _ B,hlen⟩
theorem ZdE(l:OpenLaw)(args:List WData):l.row.toRowW.claim.post args (.bool true) args=true :=
 postW_of (r:=l.row.toRowW) (X:=(true == true))
  (show WShape.has [] (.bool true) .bool=true by first|rfl|decide|simp[WShape.has,WShape.arms,WShape.armsAll])
  (show(WTm.eq .res (.lit (.bool true))).value [] { args:=args,res:=some (.bool true),after:=args } = some (.bool (true == true))from w_eq_bool (w_res rfl) w_lit) rfl
theorem attach_call{l:OpenLaw}{n:Nat}{q:Program}{loose:List Str}{v:(Str->Option Value)->Heap->Prop}{u:World->Heap->Prop}{d:DefRec}
  (hn:l.most=some n) (C:d.params.defaults=[])
  (call:∀(w:World) (s₀ c:Shared) (mg h:Str->Option Value) (e:Addr) (o:Obj) (j cd i:Value) (a:Addr) (vs:List Value) (ns:List Int),
   Ground q loose [] v w s₀ mg h c.heap->u w c.heap ->
   c.heap.get? e=some o->o.data=.func (docDef d.name d.params d.body d.scope j cd i)->c.heap.CodeRec cd d.name->mg d.name=some (.ref e) ->
   c.heap.get? a=some { cls:=.type "list",data:=.seq vs.toArray }->IntsAre vs ns->ns.length<=n->c.gens = #[] ->
   codeAny (model l.prog w) callerA (.call (.ref e) ⟨[.ref a],[]⟩) (fun r g=>r=.ok (.ret (.bool true))/\OldK c.heap g.heap/\g.os=c.os/\AllBare g.gens) c) :
  WalkO q loose v u l.row.toRowW d [] (fun f vs=>PySem.call f vs):=by
 intro w s₀ c mg h G Y e o j cd i B kV J hd Q x M L args vals S I U X O T;obtain rfl:B=.none:=Dflts.none x C;obtain rfl:kV=.none:=Dflts.noKw x;obtain⟨a,vs,ns,rfl,rfl,E,hints,hlen⟩:=ZdD hn I O;refine enter_call (codeAny_mono (call w s₀ c mg h e o j cd i a vs ns G Y J (fd_plain hd) Q M E hints hlen L) fun r g D=>?_);obtain⟨rfl,P,y,H⟩:=D;exact⟨.inl ⟨.bool true,.bool true,[],rfl,fun _=>rfl,.bool true,ZdE l _,fun _=>⟨List.Pairwise.nil,fun _ hm=>(nomatch hm)⟩⟩,P,y,H⟩
section
variable{prog:Program}{w:World}{A:Around}{E:Value->Shared->Prop}{s:Shared}{K:Frag}
end
end Att
namespace L2
open PySem PySem.Spec PyProof.Rows
theorem yR:∀{vs:OB} {ns:OE},IntsAre vs ns->ZD (ns.map V.int) vs
 |_,_,.nil=>.nil
 |_,_,.cons n t h=>.cons ⟨t,R⟩ (yR h)
abbrev yS{K:Ow}{h:Heap}(_:K.In h):W.Frag:=K
def Yd(s:Stmt)(j:Nat):Stmt:=match s with
 |.ClassDef _ _ _ body _ _ _ _ _ _ _=>body.getD j (.Pass ⟨0,0,0,0⟩)
 |_=>.Pass ⟨0,0,0,0⟩
def Qt(s:Stmt):Arguments:=match s with
 |.FunctionDef _ a _ _ _ _ _ _ _ _=>a
 |_=>{ posonlyargs:=[],args:=[],vararg:=none,kwonlyargs:=[],kw_defaults:=[],kwarg:=none,defaults:=[] }
def Uo(s:Stmt):List Stmt:=match s with
 |.FunctionDef _ _ b _ _ _ _ _ _ _=>b
 |_=>[]
def Zw(s:Stmt):Scope:=match s with
 |.FunctionDef _ _ _ _ _ _ c _ _ _=>c
 |_=>{ kind:=.function,names:=[],isGenerator:=false,isCoroutine:=false }
abbrev Zt:X7:=fun _ _ _ _ _ _=>False
abbrev E0:XK:=fun _ _ _=>False
theorem Zp{X:Cx}:WL Zt X E0:=fun _ _ _ _ _ _ _ h=>h.elim
structure Vp(K:Ow)(x qual:Str)(st:Stmt)(f:Addr)(fd:OJ):Prop where
 ex:∃(oc:Value) (od:OF) (kV doc pm:Value) (an:OF) (cdv ct:Value) (osl:Oz),
  fd=W.fnOf x qual (Qt st) (Uo st) (Zw st) .none kV doc pm an cdv ct/\K.lookup f=some ⟨oc,od,.func fd,osl⟩/\W.codeIn K cdv qual=true
 kp:W.keepIn K (.ref f)=true
section
variable{P:Program}{w:World}{K:Ow}{mg:Ov}{base:Heap}
theorem Vp.ok{x qual:Str}{st:Stmt}{f:Addr}{g:OJ}{N e:OC}{k:Nat}{sp:Sp}(F:Vp K x qual st f g)(S:ZB N e (Zw st))(len:∀vs H Q E,sp vs H Q E->vs.length=e.length)
  (n:∀(c:Value) (A:Around) (outer:List Env) (s:Shared) (H:Hp) (vs:List V) (Q:VK) (E:XK),YA k (A.deeper (envOfC qual (Zw st) s.heap.objs.size f c))->sp vs H Q E ->
   ∃t,X6 (VH Zt P w K mg base N qual (Zw st) f c A outer s H E).nox (Uo st) t/\t { nx:=fun _ j=>Q .non j,rt:=Q } (Ul N vs) H):Zq P w K mg base Zt (k+1) f g e sp:=by
 obtain⟨B,C,kV,y,I,G,c,ct,D,rfl,lk,v⟩:=F.ex;refine Mx lk v S len fun A outer s H vs Q E u i=>?_;obtain⟨t,h,q⟩:=n c A outer s H vs Q E u i;exact⟨t,h.nox,q⟩
theorem Vp.binds{x qual:Str}{st:Stmt}{f:Addr}{n:OJ}{j:OC}(F:Vp K x qual st f n)
  (h:∀(kV c i:Value) (g:OF) (e ct:Value) (us:OB),us.length=j.length->bindArgs (W.fnOf x qual (Qt st) (Uo st) (Zw st) .none kV c i g e ct) ⟨us,[]⟩=pure (j.zip us)):X8 K n j []:=by
 obtain⟨q,u,kV,c,i,g,e,ct,v,rfl,lk,y⟩:=F.ex;exact .all (h kV c i g e ct)
theorem yT{x qual:Str}{st:Stmt}{f:Addr}{j:Value}{q h:OF}{n:Oz}{kV g i e ct:Value}(l:K.lookup f=some ⟨j,q,.func (W.fnOf x qual (Qt st) (Uo st) (Zw st) .none kV g i h e ct),n⟩)
  (c:W.codeIn K e qual=true) (k:W.keepIn K (.ref f)=true):Vp K x qual st f (W.fnOf x qual (Qt st) (Uo st) (Zw st) .none kV g i h e ct):=⟨⟨j,q,kV,g,i,h,e,ct,n,R,l,c⟩,k⟩
end
theorem YZ{A:Around}{k:Nat}(c:YA k A):A.units+1<cLine:=Sj (Nat.add_le_add_left (by lia:1<=64) _) c.units
section
variable{X:Cx}
theorem pv(i:Nat){x:Str}{e:Pos}(c:X.N[i]? = some x:=by rfl)(f:E3 X.env.scope x:=by first|exact Or.inl rfl|exact Or.inr (Or.inl rfl)|exact Or.inr (Or.inr rfl))(hd:(x == ("__debug__" : Str))=false:=by lia)
  (g:(x == ("__classdict__" : Str))=false:=by lia):PE X (.Name x e) (E5 i):=T4 c f hd g
end
theorem WM{c A B:Prop}[Decidable c](h1:c->A)(e:¬ c->B):if c then A else B:=by
 by_cases h:c
 ·rw[SV h]
  exact h1 h
 ·rw[SU h]
  exact e h
def Ze(H c:Hp):Prop:=∀b o,H b=some o->c b=some o
theorem Ze.refl(H:Hp):Ze H H:=fun _ _ h=>h
theorem Ze.trans{H f e:Hp}(a:Ze H f)(b:Ze f e):Ze H e:=fun c o h=>b c o (a c o h)
theorem Ze.free{H c:Hp}(e:Ze H c){l:Addr}(h:c l=Option.none):H l=Option.none:=by
 cases q:H l with
 |none=>rfl
 |some o =>
  rw[e l o q]at h;cases h
theorem Ze.seq{K:Ow}{H c:Hp}{a:Addr}{xs:List V}(e:Ze H c)(h:Zg K H a xs):Zg K c a xs:=by
 rcases h with(h|⟨o,h⟩)|h
 ·exact .inl (.inl (e _ _ h))
 ·exact .inl (.inr ⟨o,e _ _ h⟩)
 ·exact .inr h
theorem Yy.has{P:Program}{w:World}{H:Hp}{h:Heap}{a:Addr}{o:HO}(x:Yy P w H h a o):∃u,h.get? a=some u:=by
 cases o with
 |lst e=>obtain⟨_,_,_,_,q⟩:=x;exact⟨_,q⟩
 |tup e=>obtain⟨_,_,_,ob,q,_⟩:=x;exact⟨ob,q⟩
 |dK c=>obtain⟨_,_,_,_,ob,_,_,q,_⟩:=x;exact⟨ob,q⟩
 |dT c=>obtain⟨_,_,_,_,ob,_,_,q,_⟩:=x;exact⟨ob,q⟩
 |set S n=>obtain⟨ob,_,_,_,q,_⟩:=x;exact⟨ob,q⟩
 |ins C i fs=>obtain⟨_,_,_,q,_⟩:=x;exact⟨_,q⟩
 |own y=>obtain⟨ob,q⟩:=x;exact⟨ob,q⟩
 |xd fs=>obtain⟨_,⟨ob,_,_,q,_⟩,_⟩:=x;exact⟨ob,q⟩
 |rng lo g=>obtain⟨_,_,_,q⟩:=x;exact⟨_,q⟩
 |frz ob u=>obtain⟨q,_⟩:=x;exact⟨_,q⟩
 |tbl v=>exact⟨_,(show h.get? a=some _ from x)⟩
 |met f y=>exact⟨_,(show h.get? a=some _ from x)⟩
 |ext j=>obtain⟨_,⟨ob,q⟩,_⟩:=x;exact⟨ob,q⟩
def VJ(h:Heap)(e:Addr):Prop:=∃ob c,h.get? e=some ob/\ob.data=.fields c/\c[2]? = some .none
def KC{c:Type}(x:Sem c):Prop:=∀(M:Model) (Γ:PySem.Ctx) (Q:c->Pos->Shared->Prop) (E:Value->Pos->Shared->Prop) (p:Pos) (s:Shared) (e:Addr),VJ s.heap e->Sem.wp M Γ x Q E p s ->
 Sem.wp M Γ x (fun a p s=>Q a p s/\VJ s.heap e) (fun v p s=>E v p s/\VJ s.heap e) p s
section
variable{α β:Type}
theorem KC.bind{x:Sem α}{f:α->Sem β}(g:KC x)(i:∀a,KC (f a)):KC (x >>= f):=fun M c Q E p s e n h=>by
 rw[Sem.wp_bind']at h ⊢;exact Sem.wp_mono M c x (fun a p s q=>i a M c Q E p s e q.2 q.1) (fun _ _ _ q=>q) p s (g M c _ _ p s e n h)
theorem KC.pure(a:α):KC (Pure.pure a:Sem α):=fun M c Q E p s e n h=>by
 rw[Sem.wp_pure']at h ⊢;exact⟨h,n⟩
theorem KC.uns(c:String):KC (.unsupported c:Sem α):=fun M f Q E p s e n h=>by
 rw[Sem.wp_unsupported]at h;exact h.elim
theorem KC.load(a:Addr):KC (PySem.load a):=fun M g Q E p s e n h=>by
 unfold PySem.load at h ⊢;rw[Sem.wp_load]at h ⊢;obtain⟨o,f,c⟩:=h;exact⟨o,f,by rw[Sem.wp_pure]at c ⊢;exact⟨c,n⟩⟩
theorem KC.stack:KC PySem.stack:=fun M c Q E p s e n h=>by
 unfold PySem.stack at h ⊢;rw[Sem.wp_stack]at h ⊢;rw[Sem.wp_pure]at h ⊢;exact⟨h,n⟩
theorem KC.alloc(o:Obj):KC (PySem.alloc o):=fun M f Q E p s e n h=>by
 unfold PySem.alloc at h ⊢;rw[Sem.wp_alloc]at h ⊢;rw[Sem.wp_pure]at h ⊢;obtain⟨ob,c,q,r⟩:=n;exact⟨h,ob,c,Sc _ q,r⟩
theorem KC.update{a:Addr}{f:Obj->Obj}(v:∀o vs,o.data=.fields vs->vs[2]? = some .none->∃g,(f o).data=.fields g/\g[2]? = some .none):KC (PySem.update a f):=fun M x Q E p s e n h=>by
 unfold PySem.update at h ⊢;rw[Sem.wp_update]at h ⊢;refine⟨h.1,?_⟩;have j:=h.2;rw[Sem.wp_pure]at j ⊢;refine⟨j,?_⟩;obtain⟨ob,vs,q,d,c⟩:=n;by_cases z:a=e
 ·subst z
  obtain⟨g,i,u⟩:=v ob vs d c;exact⟨f ob,g,Heap.get?_update_self f q (Obj.isFreed_of_fields i),i,u⟩
 ·exact⟨ob,vs,(Heap.get?_update_other _ f z).trans q,d,c⟩
theorem KC.iff{c:Prop}[Decidable c]{x y:Sem α}(e:KC x)(f:KC y):KC (if c then x else y):=by
 split
 ·exact e
 ·exact f
theorem ZdF(v:Value):KC (fieldsOf v):=by
 unfold fieldsOf
 split
 ·refine KC.bind (KC.load _) fun o=>?_
  split
  ·exact KC.pure _
  ·exact KC.uns _
 ·exact KC.uns _
theorem KP(v:Value)(i:Nat):KC (field v i):=by
 unfold field;refine KC.bind (ZdF v) fun c=>?_
 split
 ·exact KC.pure _
 ·exact KC.uns _
theorem MD(v:Value)(i:Nat)(x:Value)(hi:i≠2):KC (setField v i x):=by
 unfold setField
 split
 ·unfold updateField
  refine KC.bind (KC.load _) fun o=>?_
  split
  ·refine KC.iff (KC.update fun o e d c=>?_) (KC.uns _)
   exact⟨_,Obj.data_mapFields d _,by rw[Array.getElem?_setIfInBounds_ne hi];exact c⟩
  ·exact KC.uns _
 ·exact KC.uns _
theorem ZdG(v:Value)(f:OF):KC (setFlight v f):=by
 unfold setFlight;refine KC.bind (KP v 1) fun tb=>?_;exact KC.iff (MD _ 3 _ (by lia)) (KC.pure _)
theorem ZdH(env:Env)(outer:List Env):KC (behindIsImport env outer):=by
 unfold behindIsImport;refine KC.iff (KC.pure _) (KC.iff (KC.pure _) (KC.bind (KP _ _) fun _=>KC.pure _))
theorem ZdI(env:Env)(c:Bool)(l:List Env):KC (keptBack env c l):=by
 unfold keptBack
 split
 ·refine KC.iff (KC.pure _) (KC.bind ?_ fun _=>KC.pure _)
  unfold underTheClaimsCaller;exact KC.bind KC.stack fun _=>KC.pure _
 ·exact KC.pure _
theorem yU:∀l:List Env,KC (readyFrames l)
 |[]=>by unfold readyFrames;exact KC.pure _
 |env::outer=>by
  unfold readyFrames
  split
  ·refine KC.bind (KC.load _) fun o=>KC.iff (KC.pure _) ?_
   refine KC.bind (ZdH _ _) fun e=>KC.bind (ZdI _ _ _) fun bk=>KC.bind (KC.update fun o vs d c=>⟨vs,d,c⟩) fun _=>yU outer
  ·exact KC.uns _
theorem ZdJ(env:Env):KC (PySem.frameOf env):=by
 unfold PySem.frameOf;refine KC.bind (KC.bind KC.stack fun _=>KC.pure _) fun l=>KC.bind ?_ fun r=>?_
 ·unfold frameObject
  split
  ·exact KC.pure _
  ·exact KC.bind (yU _) fun _=>KC.pure _
 ·split
  ·exact KC.pure _
  ·exact KC.uns _
theorem ZdK(f:Addr)(b:Bool):KC (entryPlaceOf f b):=by
 unfold entryPlaceOf;refine KC.bind KC.stack fun l=>?_
 split
 ·exact KC.pure _
 ·exact KC.pure _
theorem ZdL(a b c d e:Value)(l:OB):KC (EntryCells.newEntry a b c d e l):=by
 unfold EntryCells.newEntry newFields newObj;have k:∀d:Data,KC (newObjAsIs (.type "traceback") d):=fun d=>by
  unfold newObjAsIs;exact KC.bind (KC.alloc _) fun _=>KC.pure _
 exact KC.iff (KC.bind (KC.uns _) fun _=>k _) (k _)
theorem ZdM(e:Value)(env:Env):KC (noteFrame e env):=by
 unfold noteFrame
 split
 ·refine KC.bind (KP _ _) fun head=>?_
  have g:∀f hd,KC (do let b <-PySem.frameOf env;let h <-entryPlaceOf f hd;let c <-EntryCells.newEntry head b .none (rawInt f) .none h;setField e 1 c):=fun f hd =>
   KC.bind (ZdJ _) fun _=>KC.bind (ZdK _ _) fun _=>KC.bind (ZdL _ _ _ _ _ _) fun _=>MD _ 1 _ (by lia)
  refine KC.iff (KC.bind (KP _ _) fun x=>KC.iff (KC.pure _) (KC.bind (MD _ 3 _ (by lia)) fun _=>g _ _)) (g _ _)
 ·exact KC.uns _
theorem ME(env:Env)(e:Value):KC (leaving env e):=by
 unfold leaving;exact KC.bind (ZdM _ _) fun _=>ZdG _ _
theorem KC.any0{M:Model}{A:Around}{x:Sem α}{Q:α->Shared->Prop}{E:Ot}{s:Shared}{e:Addr}(k:KC x)(n:VJ s.heap e)(h:wpAny M A x Q E s) :
  wpAny M A x (fun a s=>Q a s/\VJ s.heap e) (fun v s=>E v s/\VJ s.heap e) s:=fun c p f=>k M c _ _ p s e n (h c p f)
theorem KC.any{M:Model}{A:Around}{x:Sem α}{Q:α->Shared->Prop}{E:Ot}{s:Shared}{e:Addr}{p:Prop}(k:KC x)(n:p->VJ s.heap e)(h:wpAny M A x Q E s) :
  wpAny M A x (fun a s=>Q a s/\(p->VJ s.heap e)) (fun v s=>E v s/\(p->VJ s.heap e)) s:=by
 by_cases z:p
 ·exact Op (k.any0 (n z) h) (fun _ _ q=>⟨q.1,fun _=>q.2⟩) fun _ _ q=>⟨q.1,fun _=>q.2⟩
 ·exact Op h (fun _ _ q=>⟨q,fun y=>Oq y z⟩) fun _ _ q=>⟨q,fun y=>Oq y z⟩
theorem KC.with{M:Model}{A:Around}{x:Sem Unit}{Q:OA}{E:Ot}{s:Shared}{e:Addr}{p:Prop}{W:Heap->Prop}(k:KC x)(n:p->VJ s.heap e)
  (h:wpAny M A x (fun _ s'=>∃h',s' = { s with heap:=h' }/\W h') (fun _ _=>False) s) (c:∀h',W h'->(p->VJ h' e)->Q () { s with heap:=h' }):wpAny M A x Q E s :=
 Op (k.any n h) (fun _ s' ⟨⟨h',z,w⟩,f⟩=>by subst z;exact c h' w f) fun _ _ z=>z.1.elim
end
def MF(l:List Env)(g:Heap)(H:Hp)(a:Addr)(C:Value)(h:Heap):Prop :=
 ∃(B:Heap) (t:Addr),Heap.FlyingW B l a C (.ref t) h/\H a=none /\
  ∀b o,h.get? b=some o->((∃u,g.get? b=some u)\/∃u,H b=some u)->b∉Yu l->B.get? b=some o
def Xj(P:Program)(w:World):X7:=fun outer H s E e c =>
 ∃(a:Addr) (C:Value) (H':Hp),e=.ref a/\c.os=s.os/\AllBare c.gens/\Un (Yu outer) [] H H' s.heap c.heap/\Yp P w H' c.heap/\MF outer s.heap H' a C c.heap/\∃o:Option Addr,(o=none->VJ c.heap a)/\E C o H'
theorem ZdN{env:Env}{outer:List Env}{L b:Addr}(g:env.frame=some L)(f:b∈Yu (env::outer)):b=L\/b∈Yu outer:=by
 obtain⟨e,c,q⟩:=List.mem_filterMap.mp f;rcases SE.mp c with rfl|c
 ·rw[g]at q;exact .inl (So q).symm
 ·exact .inr (List.mem_filterMap.mpr ⟨e,c,q⟩)
theorem KQ{env:Env}{outer:List Env}{b:Addr}(c:b∈Yu outer):b∈Yu (env::outer):=by
 obtain⟨e,f,q⟩:=List.mem_filterMap.mp c;exact List.mem_filterMap.mpr ⟨e,SB _ f,q⟩
theorem MG{P:Program}{w:World}{env:Env}{outer:List Env}{L:Addr}{H h:Hp}{g h1 D B:Heap}{a t:Addr}{C:Value}
  (S:env.frame=some L) (T:g.get? L=none) (U:Un (Yu outer) [] H h g h1) (ok:Yp P w h h1) (frf:∀b∈Yu (env::outer),h b=none)
  (frd:∀b∈Yu outer,∀o,h1.get? b=some o->∀vs,o.data≠.fields vs)
  (O:∀b o,h1.get? b=some o->((∃u,g.get? b=some u)\/∃u,h b=some u)->b∉Yu (env::outer)->B.get? b=some o)
  (fl:Heap.FlyingW B outer a C (.ref t) D) (ha:h a=none) (up:h1.UpToSlots D):Un (Yu outer) [] H h g D/\Yp P w h D/\MF outer g h a C D:=by
 have stay:∀b o,h1.get? b=some o->((∃u,g.get? b=some u)\/∃u,h b=some u)->b∉Yu outer->D.get? b=some o/\B.get? b=some o:=fun b o e f hn=>by
  have nf:b∉Yu (env::outer):=fun z=>by
   rcases ZdN S z with rfl|Q
   ·rcases f with⟨u,q⟩|⟨u,q⟩
    ·rw[T]at q;cases q
    ·rw[frf _ z]at q;cases q
   ·exact hn Q
  have q:=O b o e f nf;exact⟨fl.1 b o q,q⟩
 have nx:([]:OH)=[]:=rfl;have j:∀b:Addr,b∉([]:OH):=fun b z=>nomatch z;have track:∀b u,h b=some u->b∉Yu outer:=fun b u q z=>by
  rw[frf b (KQ z)]at q;cases q
 refine⟨⟨fun b o e n f j=>?_,fun b o e n f j=>?_,U.free,fun b o e j=>?_,U.tups,U.frzs,U.tbls⟩,fun b u q=>?_,B,t,fl,ha,fun b o e f hn=>?_⟩
 ·exact(stay b o (U.keep b o e n f j) (.inl ⟨o,e⟩) f).1
 ·obtain⟨Z,i⟩:=U.slot b o e n f j
  obtain⟨I,y⟩:=up b _ i (frd b f _ i);exact⟨I,y⟩
 ·obtain⟨x,i⟩:=U.there b o e j
  by_cases f:b∈Yu outer
  ·obtain⟨I,y⟩:=up b _ i (frd b f _ i)
   exact⟨_,y⟩
  ·exact⟨x,(stay b x i (.inl ⟨o,e⟩) f).1⟩
 ·refine(ok b u q).stay (fun c v G e=>?_) (fun _ z=>z) fun _ _ z=>z
  have X:∃E,h c=some E:=by
   rcases G with rfl|G
   ·exact⟨u,q⟩
   ·exact⟨_,G⟩
  obtain⟨E,J⟩:=X;exact(stay c v e (.inr ⟨E,J⟩) (track c E J)).1
 ·have M:∃x,h1.get? b=some x:=by
   rcases f with⟨u,q⟩|⟨u,q⟩
   ·exact U.there b u q (j b)
   ·exact(ok b u q).has
  obtain⟨x,i⟩:=M;obtain⟨y,Y⟩:=stay b x i f hn;rw[e]at y;cases y;exact Y
def yV(X:Cx)(E:XK):Prop:=∀(pins:Ou) (σ:St) (H:Hp) (s:Shared) (a:Addr) (C:Value) (vs:OB) (h':Heap),Zc X pins σ H s->Heap.MadeExcOf s.heap h' a C vs->E C none H->X.xe (.ref a) { s with heap:=h' }
section
variable{P:Program}{w:World}{K:Ow}{mg:Ov}{base:Heap}{N:OC}{qual:Str}{scope:Scope}{f:Addr}{cd:Value}{A:Around}{outer:List Env}{s:Shared}{H:Hp}{E:XK}
theorem Zc.frd{X:Cx}{pins:Ou}{g:St}{H:Hp}{s:Shared}(I:Zc X pins g H s):∀b∈Yu X.stack,∀o,s.heap.get? b=some o->∀vs,o.data≠.fields vs:=fun b h o e=>by
 obtain⟨_,i,c,d⟩:=I.stack.mem h;rw[e]at c;cases c;exact d
theorem Zc.hasNo{X:Cx}{pins:Ou}{c:St}{H:Hp}{s:Shared}{a:Addr}(I:Zc X pins c H s)(e:s.heap.get? a=none):H a=none:=by
 cases q:H a with
 |none=>rfl
 |some u =>
  obtain⟨o,z⟩:=(I.hok a u q).has;rw[e]at z;cases z
theorem A5:yV (VH (Xj P w) P w K mg base N qual scope f cd A outer s H E) E:=by
 intro pins T B i a C Q u I g G;have v:∀env∈(envOfC qual scope s.heap.objs.size f cd::outer),∀b,env.frame=some b->b∈Yu (envOfC qual scope s.heap.objs.size f cd::outer):=fun env J b j=>List.mem_filterMap.mpr ⟨env,J,j⟩;have O:(A.deeper (envOfC qual scope s.heap.objs.size f cd)).frames=some (envOfC qual scope s.heap.objs.size f cd::outer):=I.ok.frames;have sn:s.heap.get? s.heap.objs.size=none:=Heap.get?_none_of_le (Sg _);obtain⟨S,M,_,_⟩:=g.there;refine KC.with (p:=True) (e:=a) (W:=fun c=>∃t,Heap.FlyingW (PySem.W.hideAll i.heap (Yu (envOfC qual scope s.heap.objs.size f cd::outer))) outer a C (.ref t) c/\u.UpToSlots c) (ME _ _) (fun _=>⟨_,_,M,R,R⟩)
  (wpAny_leaves_madeW (L:=s.heap.objs.size) (base:=PySem.W.hideAll i.heap (Yu (envOfC qual scope s.heap.objs.size f cd::outer))) (h:=i.heap) O R (fun b o q=>PySem.W.of_hideAll _ q) (PySem.W.funFrames_hide I.stack v) g fun c t fl _ _ up=>⟨c,R,t,fl,up⟩) fun c ⟨t,fl,up⟩ D=>?_
 have frd:=I.frd;obtain⟨x,n,y⟩:=MG (P:=P) (w:=w) (L:=s.heap.objs.size) (h1:=i.heap) R sn I.base I.hok I.stkFree (fun b j o e=>frd b (KQ j) o e) (fun b o e _ hn=>PySem.W.hideAll_get _ e hn) fl (I.hasNo g.new) ((Heap.UpToSlots.of_keeps g.keeps).trans up);exact⟨a,C,B,R,I.os,I.bare,x,n,y,none,fun _=>D trivial,G⟩
theorem UD:WL (Xj P w) (VH (Xj P w) P w K mg base N qual scope f cd A outer s H E) E:=by
 intro pins M S T e h I D;obtain⟨a,C,v,rfl,os,bare,un,hok,⟨B,t,fl,ha,J⟩,o,j,O⟩:=D;have c:Zc (VH (Xj P w) P w K mg base N qual scope f cd A outer s H E) pins M v h:=I.call' os un hok bare fun b z=>nomatch z;have Q:(A.deeper (envOfC qual scope s.heap.objs.size f cd)).frames=some (envOfC qual scope s.heap.objs.size f cd::outer):=I.ok.frames;have sn:s.heap.get? s.heap.objs.size=none:=Heap.get?_none_of_le (Sg _);refine KC.with (e:=a) (W:=fun g=>Heap.FlyingW B outer a C (.ref t) g/\h.heap.UpToSlots g) (ME _ _) j (wpAny_leaves_onW (L:=s.heap.objs.size) Q R fl fun g i up=>⟨g,R,i,up⟩) fun g ⟨i,up⟩ j=>?_;have frd:=c.frd;obtain⟨y,x,G⟩:=MG (P:=P) (w:=w) (L:=s.heap.objs.size) (h1:=h.heap) R sn c.base c.hok c.stkFree (fun b n o e=>frd b (KQ n) o e) (fun b o e n hn=>J b o e (n.imp (fun⟨u,q⟩=>I.base.there b u q fun z=>nomatch z) id) hn) i ha up;exact⟨a,C,v,R,c.os,c.bare,y,x,G,o,j,O⟩
end
theorem Vp.okX{P:Program}{w:World}{K:Ow}{mg:Ov}{base:Heap}{x qual:Str}{st:Stmt}{f:Addr}{g:OJ}{N e:OC}{k:Nat}{sp:Sp}(F:Vp K x qual st f g)(S:ZB N e (Zw st))(len:∀vs H Q E,sp vs H Q E->vs.length=e.length)
  (j:∀(c:Value) (A:Around) (outer:List Env) (s:Shared) (H:Hp) (vs:List V) (Q:VK) (E:XK),YA k (A.deeper (envOfC qual (Zw st) s.heap.objs.size f c))->sp vs H Q E ->
   ∃t,X6 (VH (Xj P w) P w K mg base N qual (Zw st) f c A outer s H E) (Uo st) t/\t { nx:=fun _ i=>Q .non i,rt:=Q } (Ul N vs) H):Zq P w K mg base (Xj P w) (k+1) f g e sp:=by
 obtain⟨v,B,kV,u,D,C,c,ct,y,rfl,lk,q⟩:=F.ex;exact Mx lk q S len fun A outer s H vs Q E n h=>j c A outer s H vs Q E n h
structure V2(K:Ow)(C:Addr):Prop where
 ex:W.excIn K C [.type "ValueError",.type "Exception",.type "BaseException",.type "object"] "ValueError.__new__" = true
theorem ZdO{K:Ow}{h:Heap}{C:Addr}{i:OB}{g:String}(Y:K.In h)(z:W.excIn K C i g=true) :
  ∃bm e nm I bs hd sn sub ab col dd k0 k1 k2 k3 k5 mN,h.get? C=some (excClassObj nm I C e bs bm hd sn sub ab col dd k0 k1 k2 k3 k5 g)/\h.Ns e mN/\mN "__init__" = none/\OwnTail h i bm:=by
 unfold W.excIn at z
 split at z
 ·next d1 c1 s1 hlk =>
  split at z
  ·next C1 b1 j0 j1 j2 j3 n1 j5 em es =>
   simp only[Bool.and_eq_true,beq_iff_eq,Bool.not_eq_true']at z;obtain⟨⟨⟨⟨⟨z1,D⟩,f⟩,u⟩,c⟩,z6⟩:=z;subst z1 D;obtain⟨x,J,L,B,n,j,q,G,H,y,M⟩:=c1;dsimp only at em f c z6;subst em f;obtain⟨E⟩:=s1;have v:E=[j0,j1,j2,j3,some (.builtin n1),j5]:=es;subst v;exact⟨b1,B,x,n,J,j,q,G,H,y,d1,j0,j1,j2,j3,j5,_,Y _ _ hlk,.of_isNs (W.isNs_of_in Y c),W.nsMap_none_of_in Y c z6,W.tail_of_in Y u⟩
  ·exact Oq z (by lia)
 ·exact Oq z (by lia)
section
variable{X:Cx}{E:XK}{x:Str}{C:Addr}{e:Expr}{es:OD}{t:TA}{np cpos pos:Pos}
def ZdP(E:XK)(C:Addr)(t:TA):TS:=fun _ f H=>t f H fun g c=>g.length<=sizeLine/\E (.ref C) none c
theorem A6(R:yV X E)(c:V2 X.K C)(L:X.calm=true)(Q:Gl X x)(hm:X.mg x=some (.ref C))(ha:PA X (e::es) t)(O:(x == ("__debug__" : Str))=false:=by lia)
  (j:starEach (e::es) X.env=(false,eval e X.env)::starEach es X.env:=by rfl) (u:(backTo cpos (starEach es X.env)).any (·.1)=false:=by rfl) :
  PS X (.Raise (some (.Call (.Name x np) (e::es) [] cpos)) none pos) (ZdP E C t):=by
 intro pins s g H D I h;obtain⟨bm,y,nm,U,bs,hd,sn,sub,ab,col,dd,k0,k1,k2,k3,k5,mN,Y,P,v,i⟩:=ZdO I.ok.mod.kin c.ex;refine wpAny_Raise_call_subT (C:=C) (nm:=nm) (q:=U) (N:=y) (bs:=bs) (bm:=bm) (hdct:=hd) (sn:=sn) (sub:=sub) (ab:=ab) (col:=col) (dd:=dd) (k0:=k0) (k1:=k1) (k2:=k2) (k3:=k3) (k5:=k5)
  PySem.F.excBase_ValueError (mN:=mN) (i.hasType PySem.F.excBase_ValueError.hasBase) (I.ok.hd L) ?_ v (Uw I Q hm ⟨rfl,?_⟩ O)
 ·rw[j]
  show(false || (backTo cpos (starEach es X.env)).any (·.1))=false;rw[u];rfl
 ·have q:=ha cpos pins s g H _ I h
  rw[j]at q ⊢;refine Calls.evalArgs_plain (Zv q fun S s2 M=>?_);obtain⟨Z,n,f,r,J,T⟩:=M;exact⟨rfl,by rw[<-r.length];exact J,f.bk _ _ Y,P.keeps f.bk,i.keeps f.bk,fun G a B=>R pins g n s2 a _ S G f B T⟩
end
theorem Zc.moved{X:Cx}{pins:Ou}{S:St}{H:Hp}{s:Shared}{h':Heap}(I:Zc X pins S H s)
  (keep:∀b o,s.heap.get? b=some o->((∃u,X.s₀.heap.get? b=some u/\b∉X.ex)\/(∃u,H b=some u)\/∃p∈X.pn++pins,p.1=b)->b∉Yu X.stack->h'.get? b=some o) (up:s.heap.UpToSlots h'):Zc X pins S H { s with heap:=h' }:=by
 have L:∀b o,X.s₀.heap.get? b=some o->b≠X.env.locals:=fun b o e=>Sf (Si (Se e) I.ok.above);have E:∀b,b≠X.env.locals->b∉X.fs->b∉Yu X.stack:=fun b h1 h2 z=>(SE.mp (I.stkSub b z)).elim h1 h2;have P:∀b∈X.fs,∀o,X.s₀.heap.get? b=some o->∀J,o.data≠.fields J:=fun b f o e=>by
  obtain⟨_,x,O,d⟩:=I.ok.funs.mem f;rw[e]at O;cases O;exact d
 have cellK:∀c v,s.heap.IsCell c v->h'.IsCell c v:=fun c v ⟨o,Y,hd⟩=>by
  obtain⟨Q,q⟩:=up c o Y fun J z=>by rw[hd]at z;cases z
  exact⟨_,q,hd⟩
 refine⟨I.ok,I.os,I.bare,⟨fun b o e n f g=>?_,fun b o e n f g=>?_,I.base.free,fun b o e g=>?_,I.base.tups,I.base.frzs,I.base.tbls⟩,?_,fun y c e=>?_,I.free,I.freeC,fun p T=>?_,fun b u q=>?_,I.len⟩
 ·exact keep b o (I.base.keep b o e n f g) (.inl ⟨o,e,g⟩) (E b (L b o e) f)
 ·obtain⟨Q,j⟩:=I.base.slot b o e n f g
  obtain⟨M,h⟩:=up b _ j (P b f o e);exact⟨M,h⟩
 ·obtain⟨x,j⟩:=I.base.there b o e g
  by_cases f:b∈X.fs
  ·obtain⟨Q,h⟩:=I.base.slot b o e (I.ok.frf b f) f g
   obtain⟨M,G⟩:=up b _ h (P b f o e);exact⟨_,G⟩
  ·exact⟨x,keep b x j (.inl ⟨o,e,g⟩) (E b (L b o e) f)⟩
 ·obtain⟨m,hn,U⟩:=I.loc
  refine⟨m,up.ns hn,fun i y v j h G=>?_⟩;obtain⟨u,r,l⟩:=U i y v j h G;refine⟨u,r,?_⟩;rcases l with l|⟨k,c,e,z⟩
  ·exact .inl l
  ·exact .inr ⟨k,c,e,cellK c _ z⟩
 ·obtain⟨v,z⟩:=I.cell y c e
  exact⟨v,cellK c v z⟩
 ·obtain⟨e,n,ne,nf,d⟩:=I.pin p T
  exact⟨keep p.1 p.2 e (.inr (.inr ⟨p,T,R⟩)) (E p.1 ne nf),n,ne,nf,d⟩
 ·refine(I.hok b u q).stay (fun c v C e=>?_) (fun _ z=>z) fun _ _ z=>z
  have Z:∃B,H c=some B:=by
   rcases C with rfl|C
   ·exact⟨u,q⟩
   ·exact⟨_,C⟩
  obtain⟨B,D⟩:=Z;refine keep c v e (.inr (.inl ⟨B,D⟩)) fun z=>?_;rw[I.stkFree c z]at D;cases D
theorem Zc.track{X:Cx}{pins:Ou}{j:St}{H:Hp}{s:Shared}{a:Addr}{ob:Obj}{vs:Array Value}{o:HO}(I:Zc X pins j H s)(ha:H a=none)(i:s.heap.get? a=some ob)(hd:ob.data=.fields vs)
  (C:X.s₀.heap.get? a=none) (D:∀p∈X.pn++pins,p.1≠a) (new:Yy X.prog X.w (Za H a o) s.heap a o):Zc X pins j (Za H a o) s:=by
 have nt:∀b u,H b=some u->b≠a:=fun b u q=>ZT q ha;refine⟨I.ok,I.os,I.bare,⟨I.base.keep,I.base.slot,fun b u e n B=>?_,I.base.there,fun b h q=>?_,fun b u h q=>?_,fun b E q=>?_⟩,I.loc,I.cell,?_,fun y c e=>?_,fun p q=>?_,fun b u q=>?_,I.len⟩
 ·have ne:b≠a:=fun z=>by rw[z,C]at e;cases e
  rw[Zf ne];exact I.base.free b u e n B
 ·have z:=I.base.tups b h q
  rw[Zf (nt _ _ z)];exact z
 ·have z:=I.base.frzs b u h q
  rw[Zf (nt _ _ z)];exact z
 ·obtain⟨m,z⟩:=I.base.tbls b E q
  exact⟨m,by rw[Zf (nt _ _ z)];exact z⟩
 ·have ne:X.env.locals≠a:=fun z=>by
   obtain⟨m,⟨G,M,J,g,f,_⟩,_⟩:=I.loc;rw[z,i]at g;cases g;rw[hd]at f;cases f
  rw[Zf ne];exact I.free
 ·have ne:c≠a:=fun z=>by
   obtain⟨v,L,g,f⟩:=I.cell y c e;rw[z,i]at g;cases g;rw[hd]at f;cases f
  rw[Zf ne];exact I.freeC y c e
 ·obtain⟨e,n,r⟩:=I.pin p q
  exact⟨e,by rw[Zf (D p q)];exact n,r⟩
 ·by_cases x:b=a
  ·subst x;rw[Zm]at q;cases q;exact new
  ·rw[Zf x]at q
   exact(I.hok b u q).stay (fun c v _ z=>z) (fun c z=>by rw[Zf (nt _ _ z)];exact z) fun c h z=>by rw[Zf (nt _ _ z)];exact z
def XJ(a:Addr)(C:Value):HO:=.ext fun h=>∃ob c,h.get? a=some ob/\ob.cls=C/\ob.data=.fields c
def ZdQ(X:Cx)(pins:Ou)(c:Value->Hp->Prop)(e:Value)(s':Shared):Prop :=
 ∃(a:Addr) (C:Value) (σ:St) (H:Hp) (g:Heap),e=.ref a/\Zc X pins σ H s'/\MF X.stack g H a C s'.heap/\(∀p∈X.pn++pins,∃u,g.get? p.1=some u) /\
  (∀b u,X.s₀.heap.get? b=some u->b∉X.ex->∃f,g.get? b=some f)/\c C H
abbrev KR(X:Cx)(pins:Ou)(Kx:Value->Hp->Prop):Cx:={ X with pn:=X.pn++pins,xe:=ZdQ X pins Kx }
abbrev A7(X:Cx)(a:Addr):Cx:={ X with A:=X.A.mark (some (.ref a)),calm:=false,xe:=fun _ _=>False }
section
variable{X:Cx}{pins pins':Ou}{σ:St}{H:Hp}{s:Shared}{Kx:Value->Hp->Prop}{a:Addr}
theorem Zc.toTry(I:Zc X pins σ H s):Zc (KR X pins Kx) [] σ H s :=
 ⟨⟨I.ok.mod,I.ok.kind,I.ok.glob,I.ok.blt,I.ok.above,I.ok.inj,I.ok.has,I.ok.cab,I.ok.hd,I.ok.frames,I.ok.stk,I.ok.exf,I.ok.bs,I.ok.bsz,I.ok.noex,I.ok.exfs,I.ok.funs,I.ok.frf⟩,
  I.os,I.bare,I.base,I.loc,I.cell,I.free,I.freeC,fun p c=>I.pin p (by simpa using c),I.hok,I.len⟩
theorem Zc.ofTry(I:Zc (KR X pins Kx) pins' σ H s):Zc X pins σ H s :=
 ⟨⟨I.ok.mod,I.ok.kind,I.ok.glob,I.ok.blt,I.ok.above,I.ok.inj,I.ok.has,I.ok.cab,I.ok.hd,I.ok.frames,I.ok.stk,I.ok.exf,I.ok.bs,I.ok.bsz,I.ok.noex,I.ok.exfs,I.ok.funs,I.ok.frf⟩,
  I.os,I.bare,I.base,I.loc,I.cell,I.free,I.freeC,fun p c=>I.pin p (SH _ c),I.hok,I.len⟩
theorem Zc.toSuite(I:Zc X pins σ H s):Zc (A7 X a) pins σ H s :=
 ⟨⟨I.ok.mod,I.ok.kind,I.ok.glob,I.ok.blt,I.ok.above,I.ok.inj,I.ok.has,I.ok.cab,(fun z=>nomatch z),I.ok.frames,I.ok.stk,I.ok.exf,I.ok.bs,I.ok.bsz,I.ok.noex,I.ok.exfs,I.ok.funs,I.ok.frf⟩,
  I.os,I.bare,I.base,I.loc,I.cell,I.free,I.freeC,I.pin,I.hok,I.len⟩
theorem Zc.ofSuite(hd:X.calm=true->X.A.handled=none)(I:Zc (A7 X a) pins σ H s):Zc X pins σ H s :=
 ⟨⟨I.ok.mod,I.ok.kind,I.ok.glob,I.ok.blt,I.ok.above,I.ok.inj,I.ok.has,I.ok.cab,hd,I.ok.frames,I.ok.stk,I.ok.exf,I.ok.bs,I.ok.bsz,I.ok.noex,I.ok.exfs,I.ok.funs,I.ok.frf⟩,
  I.os,I.bare,I.base,I.loc,I.cell,I.free,I.freeC,I.pin,I.hok,I.len⟩
theorem ZdR:WL (Xj X.prog X.w) (KR X pins Kx) (fun C _ H=>Kx C H):=by
 intro E c B h e v I n;obtain⟨a,C,g,rfl,os,bare,un,hok,i,_,_,x⟩:=n;have f:Zc X pins c B h:=I.ofTry;have j:Zc X pins c g v:=f.call' os un hok bare fun b z=>nomatch z;exact⟨a,C,c,g,h.heap,R,j,i,fun p D=>⟨p.2,(f.pin p D).1⟩,fun b u q y=>f.base.there b u q y,x⟩
theorem Zc.frame{C:St}{h':Heap}{B:Ov}{t':Nat}(I:Zc X pins σ H s)(hn:h'.Ns X.env.locals B)(f:Heap.SameBut X.env.locals s.heap h')
  (M:∀(i:Nat) (x:Str) (v:V),X.N[i]? = some x->C[i]? = some (some v)->E3 X.env.scope x->∃u,ZG v u/\T0 X.env h' B x u) (hlen:C.length=σ.length):Zc X pins C H { s with heap:=h',toks:=t' }:=by
 have j:∀b o,X.s₀.heap.get? b=some o->b≠X.env.locals:=fun b o e=>Sf (Si (Se e) I.ok.above);refine⟨I.ok,I.os,I.bare,⟨fun b o e n D g=>(f.2 b (j b o e)).trans (I.base.keep b o e n D g),fun b o e n D g=>?_,I.base.free,fun b o e g=>?_,I.base.tups,I.base.frzs,I.base.tbls⟩,⟨B,hn,M⟩,fun y c e=>?_,I.free,I.freeC,fun p J=>?_,fun b u q=>?_,hlen.trans I.len⟩
 ·obtain⟨L,E⟩:=I.base.slot b o e n D g
  exact⟨L,(f.2 b (j b o e)).trans E⟩
 ·obtain⟨G,E⟩:=I.base.there b o e g
  exact⟨G,(f.2 b (j b o e)).trans E⟩
 ·obtain⟨v,z⟩:=I.cell y c e
  exact⟨v,z.sameBut f (I.cne y c e)⟩
 ·obtain⟨e,n,ne,nf,d⟩:=I.pin p J
  exact⟨(f.2 p.1 ne).trans e,n,ne,nf,d⟩
 ·refine(I.hok b u q).stay (fun c v h e=>(f.2 c ?_).trans e) (fun _ z=>z) fun _ _ z=>z
  intro z;have fr:=I.free;rcases h with rfl|h
  ·rw[z,fr]at q;cases q
  ·rw[z,fr]at h;cases h
theorem KS{M:Model}{A:Around}{E:Ot}{i:Nat}{n:Str}{C:Pos}{Q:OA}(I:Zc X pins σ H s)(hi:X.N[i]? = some n)(O:X.N.Nodup)(J:X.env.scope.names.lookup n=some .local)
  (h:∀s',Zc X pins (σ.set i none) H s'->Q () s'):wpAny M A (do bindName X.env n .none;unbindBehindTheSuite X.env n C) Q E s:=by
 obtain⟨m,hn,D⟩:=id I.loc;refine wpAny_nameGoes_keeps (m:=m) J hn (by rw[I.ok.kind];rfl) fun T v P g=>h _ (I.frame P g (fun j y G B f S=>?_) (by simp));have x:j≠i:=fun z=>by
  rw[z]at f;have L:i<σ.length:=by rw[I.len];exact(Sr.mp hi).1
  rw[List.getElem?_set_self L]at f;cases f
 rw[List.getElem?_set_ne (Ne.symm x)]at f;obtain⟨u,r,q⟩:=D j y G B f S;refine⟨u,r,?_⟩;rcases q with⟨k,e⟩|⟨k,c,e,z⟩
 ·have ne:y≠n:=fun z=>x (Mg O B (z ▸ hi))
  exact .inl ⟨k,by simp[ne,e]⟩
 ·exact .inr ⟨k,c,e,z.sameBut g (I.cne y c e)⟩
end
section
variable{X:Cx}{body suite:List Stmt}{b₀:Stmt}{n x:Str}{i:Nat}{R:Addr}{np hpos pos:Pos}{tb:(Value->Hp->Prop)->TS}{th:TS}
def ZdS(K:Ow)(R:Addr)(i N:Nat)(tb:(Value->Hp->Prop)->TS)(th:TS):TS:=fun D g H =>
 tb (fun C f=>W.exmOne K C (.ref R)=some true/\∀a,f a=none ->
  th { nx:=fun e c=>D.nx (e.set i none) c,rt:=D.rt,bk:=fun e c=>D.bk (e.set i none) c,ct:=fun e c=>D.ct (e.set i none) c } ((List.replicate N none).set i (some (.ref a))) (Za f a (XJ a C))) D g H
theorem ZdT(d1:X.stack=X.env::X.outer/\X.env.frame=some X.env.locals)(y0:X.ex=[])(E:X.N.Nodup)(hi:X.N[i]? = some n)(y:X.env.scope.names.lookup n=some .local)(hg:Gl X x)(hm:X.mg x=some (.ref R))
  (H:∀pins Kx,X6 (KR X pins Kx) body (tb Kx)) (hs:∀a,X6 (A7 X a) (b₀::suite) th) (e1:(x == ("__debug__" : Str))=false:=by lia) :
  PS X (.Try body [.ExceptHandler (some (.Name x np)) (some n) (b₀::suite) hpos] [] [] pos) (ZdS X.K R i X.N.length tb th):=by
 intro pins s σ w0 t0 I b1;refine wpAny_Try_except (Op (H pins _ [] s σ w0 t0 I.toTry b1) (fun f B q=>?_) fun e B q=>?_)
 ·cases f with
  |next=>obtain⟨g,c,h,q⟩:=q;exact wpAny_execs_nil ⟨g,c,h.ofTry,q⟩
  |brk=>obtain⟨g,c,h,q⟩:=q;exact⟨g,c,h.ofTry,q⟩
  |cont=>obtain⟨g,c,h,q⟩:=q;exact⟨g,c,h.ofTry,q⟩
  |ret u=>obtain⟨v,g,c,h,r,q⟩:=q;exact⟨v,g,c,h.ofTry,r,q⟩
 ·obtain⟨a,C,e0,Y,q0,rfl,I1,⟨r0,t,fl,ha,Z⟩,d0,i0,o0,m0⟩:=q
  obtain⟨M,x0⟩:=d1;have mv:∀G,Heap.FlyingW r0 X.stack a C (.ref t) G->B.heap.UpToSlots G->Zc X pins e0 Y { B with heap:=G }:=fun G u0 up=>I1.moved (fun b o e H hn=>u0.1 b o (Z b o e (by
   rcases H with⟨u,q,hx⟩|⟨u,q⟩|⟨p,D,rfl⟩
   ·exact .inl (i0 b u q hx)
   ·exact .inr ⟨u,q⟩
   ·exact .inl (d0 p D)) hn)) up
  have s0:X.A.frames=some (X.env::X.outer):=by rw[<-M];exact I.ok.frames
  rw[M]at fl;refine wpAny_looks_onW s0 x0 fl fun h4 p0 g0=>?_;refine wpAny_landsW p0 fun T P j0=>?_;have I5:=mv T (by rw[M];exact P) (g0.trans j0);obtain⟨f1,v0,l0⟩:=P.there;have LT:W.Looks (model X.prog X.w) T (typeOf (.ref a)) C:=l0 ▸ (W.Looks.ld v0).andThen .now;refine wpAny_handleBy_cons (codeAny_handlers_test (Uw (X:=A7 X a) I5.toSuite hg hm ?_ e1)) (by intro z;cases z);refine(W.exm_one (K:=X.K) (I5.kIn:X.K.In T) LT o0) _ _ _ _ (fun _ _ z=>z) ?_;refine codeAny_handlers_suite_as ?_;refine lands_againW P fun U k0 a1=>?_;have I6:=mv U (by rw[M];exact k0) ((g0.trans j0).trans a1);obtain⟨a0,c1,S,n0,f0,_⟩:=k0.first;have z0:∀o,B.heap.get? a=some o->a∉Yu X.stack:=fun o e z=>by
   obtain⟨ob,vs,L,_,q2,_⟩:=fl.first;exact I1.frd a z ob L vs q2
  have b0:∀u,q0.get? a=some u->False:=fun u q=>by
   obtain⟨ob,vs,L,_,q2,_⟩:=fl.first;have z:=Z a ob L (.inl ⟨u,q⟩) (z0 ob L);rw[fl.2.1]at z;cases z
  have h0:X.s₀.heap.get? a=none:=by
   cases q:X.s₀.heap.get? a with
   |none=>rfl
   |some u =>
    obtain⟨u',z⟩:=i0 a u q (by rw[y0];exact fun z=>nomatch z);exact(b0 u' z).elim
  have D:∀p∈X.pn++pins,p.1≠a:=fun p D z=>by
   obtain⟨u,q⟩:=d0 p D;rw[z]at q;exact b0 u q
  have I7:Zc X pins e0 (Za Y a (XJ a C)) { B with heap:=U }:=I6.track ha S f0 h0 D
   ⟨⟨a0,c1,S,n0,f0⟩,⟨a0,S⟩,fun ha H ⟨o,v,z1,z2⟩ k=>⟨o,v,k o z1,z2⟩⟩
  have I8:Zc X pins (List.replicate X.N.length none) (Za Y a (XJ a C)) { B with heap:=U }:=I7.weak (by rw[Sz,I7.len]) fun h1 v q=>by
   rw[List.getElem?_replicate]at q
   split at q<;>cases q
  refine E4 (X:=A7 X a) I8.toSuite E hi (.inl y) (v:=.ref a) rfl (fun s9 I9=>?_) (.inr y);refine Op (hs a pins s9 _ _ _ I9 (m0 a ha)) (fun f c0 q=>?_) fun _ _ z=>z.elim;have O:∀{g:St} {c:Hp},Zc (A7 X a) pins g c c0->Zc X pins g c c0:=fun J=>J.ofSuite I.ok.hd;cases f with
  |next=>obtain⟨g,c,J,q⟩:=q;exact KS (O J) hi E y fun Q j=>⟨_,c,j,q⟩
  |brk=>obtain⟨g,c,J,q⟩:=q;exact KS (O J) hi E y fun Q j=>⟨_,c,j,q⟩
  |cont=>obtain⟨g,c,J,q⟩:=q;exact KS (O J) hi E y fun Q j=>⟨_,c,j,q⟩
  |ret u=>obtain⟨v,g,c,J,r,q⟩:=q;exact KS (O J) hi E y fun Q j=>⟨v,_,c,j,r,q⟩
end
section
variable{X:Cx}
inductive ZdU(x:V)(lo:Option Int)(hi:Option Int)(H:Hp)(Q:VK):Prop|mk z (_:x=.str z) (_:z.length<=sizeLine) (_:Q (.str (Txt.slice z lo hi)) H)
theorem yW{v:Value}{o:Option Int}(p:IsPart v o):∃l:Option (Int×Tok),v=partValue l/\l.map (·.1)=o:=by
 cases p with
 |none=>exact⟨none,R,R⟩
 |int i t=>exact⟨some (i,t),R,R⟩
theorem yX:My X ZdU:=by
 intro pins s y H x v n D lo j C Q I g e i f h;obtain⟨z,rfl,c,q⟩:=h;obtain⟨t,rfl⟩:=g;obtain⟨l,rfl,rfl⟩:=yW i;obtain⟨u,rfl,rfl⟩:=yW f;refine⟨"str",_,PySem.F.slot_str_getitem.lookup,typeIs_str s z t,wpAny_getItem_str_slice (l:=l) (u:=u) (st:=none) e R ?_⟩;exact post_val_or_str ⟨Sh (Txt.slice_le z _ _) c,fun B k=>⟨.str _,H,I.tok _,⟨_,R⟩,q⟩⟩
def MH:List V->List V->Bool
 |[],[]=>true
 |x::xs,y::ys=>W8 x y && MH xs ys
 |_,_=>false
theorem yY:∀(xs ys:List V),xs.length=ys.length->(List.range xs.length).all (fun j=>W8 (xs.getD j .non) (ys.getD j .non))=MH xs ys
 |[],[],_=>rfl
 |[],_::_,h=>nomatch h
 |_::_,[],h=>nomatch h
 |x::xs,y::ys,h=>by
  have c:=yY xs ys (by simpa using h);rw[Sy,List.range_succ_eq_map,List.all_cons,List.all_map];show(W8 x y && _)=(W8 x y && MH xs ys);rw[<-c];rfl
theorem yZ:∀bs:List Bool,(List.range bs.length).all (fun i=>bs.getD i false)=bs.all id
 |[]=>rfl
 |b::bs=>by
  rw[Sy,List.range_succ_eq_map,List.all_cons,List.all_map,List.all_cons];show(b && _)=(b && _);rw[<-yZ bs];rfl
theorem xA(L:X.calm=true):Xb X (.builtin "all") (fun xs H Q=>∃(p:Addr) (bs:List Bool),xs=[.ref p]/\Zg X.K H p (bs.map V.bl)/\Q (.bl (bs.all id)) H):=by
 intro pins s σ H xs us Q I r h;obtain⟨p,bs,rfl,D,q⟩:=h;obtain⟨b0,rfl,J⟩:=WT r;cases J;obtain⟨c,u,j,hz⟩:=I.list D;have hlen:=u.length;obtain⟨o,a0,U,_⟩:=id j;have C:p≠s.heap.objs.size:=Sf (Se U);have S:TruthOf X.prog X.w X.A.in1 (fun i v=>c.toArray[i]? = some v) (fun i=>bs.getD i false):=by
  intro i v s2 P E2 M Y;have B:c[i]? = some v:=by simpa using M
  have y:i<bs.length:=by
   have:=(Sr.mp B).1;rw[<-hlen,Sv]at this;exact this
  obtain⟨w,f,g⟩:=u.get (i:=i) (x:=.bl bs[i]) (by rw[S0,Ss y];rfl);rw[B]at f;cases f;cases g;refine wpAny_truthy_bool ?_;have e3:bs.getD i false=bs[i]:=by rw[List.getD_eq_getElem?_getD,Ss y];rfl
  have n:P (bs.getD i false) s2:=Y;rw[e3]at n;exact n
 refine call_all_walk (wpAny_pyIter_list j.isList ?_);refine⟨s.heap.objs.size,[s.heap.objs.size,p],[s.heap.objs.size],c.toArray.size,_,_,_,R,Walks.list (A:=X.A.in1) (I.ok.hd L) _ _ C c.toArray,⟨⟨_,Sd _ R,R,R⟩,?_⟩,S,fun E tk O=>?_⟩
 ·obtain⟨T,g,G⟩:=j.isList
  exact⟨T,Sc _ g,G⟩
 ·have Z:∀b o,s.heap.get? b=some o->E.get? b=some o:=fun b o e=>O b o (fun z=>by
   have f:=Se e;rw[SD.mp z]at f;exact Oq f (Sl _)) (Sc _ e)
  have e:(List.range c.toArray.size).all (fun i=>bs.getD i false)=bs.all id:=by
   rw[SM,<-hlen,Sv];exact yZ bs
  rw[e];exact⟨.bl _,H,I.kept (t':=tk) Z,R,q⟩
end
theorem Zc.laidN{X:Cx}{pins:Ou}{e:St}{H:Hp}{s:Shared}{h':Heap}{a:Addr}{o:HO}{t':Nat}(I:Zc X pins e H s)(k:∀b u,s.heap.get? b=some u->h'.get? b=some u)(hn:s.heap.get? a=none)
  (new:Yy X.prog X.w (Za H a o) h' a o):Zc X pins e (Za H a o) { s with heap:=h',toks:=t' }:=by
 have ha:H a=none:=I.hasNo hn;have nt:∀b u,H b=some u->b≠a:=fun b u q=>ZT q ha;refine I.un ⟨fun b u q _ _ _=>k b u q,fun b u q _ _ _=>⟨u.slots,k b u q⟩,fun b u q n _=>?_,fun b u q _=>⟨u,k b u q⟩,fun b f q=>?_,fun b u f q=>?_,fun b h q=>⟨#[],?_⟩⟩ fun b u q=>?_
 ·have ne:b≠a:=fun z=>by rw[z,hn]at q;cases q
  rw[Zf ne];exact n
 ·rw[Zf (nt _ _ q)];exact q
 ·rw[Zf (nt _ _ q)];exact q
 ·rw[Zf (nt _ _ q),q];simp
 ·by_cases g:b=a
  ·subst g;rw[Zm]at q;cases q;exact new
  ·rw[Zf g]at q
   exact(I.hok b u q).stay (fun c v _ z=>k c v z) (fun c z=>by rw[Zf (nt _ _ z)];exact z) fun c f z=>by rw[Zf (nt _ _ z)];exact z
def UE(z:Str)(c:Nat):Bool:=!(Builtin.Str.occurrences z ⟨#[c]⟩ 0 z.length 1).isEmpty
theorem xB{g:Nat->Bool}:∀(cs:OG) (vs rs:OB),vs.length=cs.length->(∀(j:Nat) (v:Value),vs[j]? = some v->∃c u,cs[j]? = some c/\v=.str ⟨#[c]⟩ u) ->
  Paired (fun v r=>∀c u,v=.str ⟨#[c]⟩ u->r=.bool (g c)) vs rs->ZD (cs.map fun c=>V.bl (g c)) rs
 |[],[],_,_,_,.nil=>.nil
 |[],_::_,_,h,_,_=>nomatch h
 |_::_,[],_,h,_,_=>nomatch h
 |c::cs,v::vs,_,h,e,.cons r t=>by
  obtain⟨f,u,q,i⟩:=e 0 v R;have n:c=f:=by simpa using q
  subst n;exact .cons (r c u i) (xB cs vs _ (by simpa using h) (fun j w x=>by simpa using e (j+1) w (by simpa using x)) t)
section
variable{X:Cx}{x z:Str}{p1 p2 p3 px pos:Pos}{iter:Expr}{ti:TE}{scope:Scope}{cl:Oy}{zs:Str}
def xC(X:Cx)(scope:Scope)(cl:Oy)(z:Str)(p2:Pos)(zs:Str)(c:St):Prop :=
 ∀(pins:Ou) (H:Hp) (s1 s3:Shared) (C:Addr) (Q:Ot) (E:Ot),Zc X pins c H s1->(∀b o,s1.heap.get? b=some o->s3.heap.get? b=some o)->(∀t,Q (.str zs t) s3) ->
  wpAny (model X.prog X.w) X.A (eval (.Name z p2) (compEnvC scope cl C X.env)) Q E s3
def ZdV(X:Cx)(scope:Scope)(cl:Oy)(z:Str)(p2:Pos)(ti:TE):TE:=fun e H Q=>∃zs,xC X scope cl z p2 zs e/\ti e H fun v f=>∃y,v=.str y/\y.length<=sizeLine /\
 ∀p,f p=none->Q (.ref p) (Za f p (.lst (y.cps.toList.map fun c=>V.bl (UE zs c))))
theorem ZdW(hc:X.calm=true)(hi:PE X iter ti)(Y:closureFor scope X.env=pure cl)(g0:∀y∈scope.names,y.2≠.cell)(T:scope.kind=.function)
  (f0:∀y∈scope.names,y.2=.local->scope.names.lookup y.1=some .local) (O:scope.names.lookup x=some .local) (hs:∀v,foldedSetIterable iter X.env v=pure v:=by intro _;rfl) (hd:(x == ("__debug__" : Str))=false:=by lia) :
  PE X (.ListComp (.Compare (.Name x p1) [.In] [.Name z p2] p3) [⟨.Name x px,iter,[],0⟩] scope pos) (ZdV X scope cl z p2 ti):=by
 intro pins s σ a0 k0 h0 h;obtain⟨zs,zr,h⟩:=h;refine wpAny_ListComp_free (cl:=cl) (fun _=>true) (fun v r=>∀c u,v=.str ⟨#[c]⟩ u->r=.bool (UE zs c)) Y g0 T f0 O (Zv (hi pins s σ a0 _ h0 h) fun xv f ⟨v,Q,E,r1,y,ev,hy,b0⟩=>?_) hs;subst ev;obtain⟨t,rfl⟩:=r1;refine wpAny_pyIter_str fun o St W c0=>?_;have L:∀(i:Heap),(∀b g,b∉[f.heap.objs.size]->(f.heap.push o).get? b=some g->i.get? b=some g)->∀b g,f.heap.get? b=some g->i.get? b=some g:=fun i j b g e =>
  j b g (fun z=>by
   have B:=Se e;rw[SD.mp z]at B;exact Oq B (Sl _)) (Sc _ e)
 refine⟨f.heap.objs.size,[f.heap.objs.size],[f.heap.objs.size],y.cps.size,SignAt y,St,R,W X.A (E.ok.hd hc),hy,c0,fun b hb=>?_,⟨?_,?_⟩,?_⟩
 ·rw[SD.mp hb]
  show f.heap.objs.size<(f.heap.push o).objs.size;rw[Heap.size_push];exact Sm _
 ·intro C i0 v q M E' _ G hn hm j _
  exact Sb ⟨R,q.heap,q.toks,R,fun _ _ e=>e⟩
 ·intro C i0 v q M E' _ G _ hn hm j _
  obtain⟨c,u,_,rfl⟩:=G;refine wpAny_Compare1 (wpAny_Name (wpAny_loadName_local (env:=compEnvC scope cl C X.env) (m:=M) T (lookup_relabel_local O) hn hm ?_) hd);refine zr pins Q f q C _ _ E (L _ j) fun t3=>?_;refine in_str ⟨fun c' u' e=>?_,q.heap,q.toks,R,fun _ _ e=>e⟩;injection e with B _;injection B with J;have e3:c=c':=by simpa using J
  subst e3;rfl
 ·intro D i tk I H d0 hl U hlen G S j
  have P:f.heap.get? D=none:=by
   cases e:f.heap.get? D with
   |none=>rfl
   |some u =>
    have:=Sc o e;rw[show(f.heap.push o).get? D=none from d0]at this;cases this
  obtain⟨n,hD⟩:=U;have e0:H.filter (fun _=>true)=H:=List.filter_eq_self.mpr fun _ _=>R;rw[e0]at S;have Z:ZD (y.cps.toList.map fun c=>V.bl (UE zs c)) I.toList:=xB y.cps.toList H I.toList (by rw[hlen];simp) (fun j0 v hv=>by
   obtain⟨c,u,B,J⟩:=G j0 v hv;exact⟨c,u,by simpa using B,J⟩) S
  have new:Yy X.prog X.w (Za Q D (.lst (y.cps.toList.map fun c=>V.bl (UE zs c)))) i D (.lst (y.cps.toList.map fun c=>V.bl (UE zs c))):=by
   refine⟨?_,I.toList,n,Z,?_⟩
   ·rw[Sv]
    have:y.cps.toList.length=y.length:=by simp[Str.length]
    lia
   ·rw[Array.toArray_toList];exact hD
  exact⟨.ref D,_,E.laidN (t':=tk) (L i j) P new,R,b0 D (E.hasNo P)⟩
theorem ZdX{c:St}{t:Tok}(g:(relabel scope X.env).names.lookup z=some .globalImplicit)(e:scope.kind=.function)(hm:X.mg z=some (.str zs t))(hd:(z == ("__debug__" : Str))=false:=by lia):xC X scope cl z p2 zs c:=by
 intro pins H h f C Q E I k q;exact Calls.Name_function_global (env:=compEnvC scope cl C X.env) e g (Calls.loadGlobal_global (env:=compEnvC scope cl C X.env) (by
  show f.heap.Ns X.env.globals X.mg;rw[I.ok.glob];exact(I.mod.glob.keeps I.bk).keeps k) hm (q t)) hd
end
section
variable{X:Cx}
theorem V3:Xb X (.builtin "isinstance") (fun xs H Q=>∃x T t b,xs=[x,.ty T]/\Wi X.K H x t/\W.kitOne X.K t (.type T)=some b/\Q (.bl b) H):=by
 intro pins s i H xs j Q I r h;obtain⟨x,T,t,b,rfl,ty,e,q⟩:=h;obtain⟨u,f,rfl,g,c⟩:=A2 r;cases (show f=Value.type T from c);exact zX I g ty e fun tk=>⟨.bl b,H,I.tok _,R,q⟩
theorem ZdY:Xb X (.builtin "isinstance") (fun xs H Q=>∃x C t b,xs=[x,.ref C]/\Wi X.K H x t/\W.kitOne X.K t (.ref C)=some b/\Q (.bl b) H):=by
 intro pins s i H xs j Q I r h;obtain⟨x,C,t,b,rfl,ty,e,q⟩:=h;obtain⟨u,f,rfl,g,c⟩:=A2 r;cases (show f=Value.ref C from c);exact zX I g ty e fun tk=>⟨.bl b,H,I.tok _,R,q⟩
end
section
variable{X:Cx}{x:Str}{pos:Pos}
theorem Wj{a:Addr}(c:Gl X x)(hm:X.mg x=some (.ref a))(hd:(x == ("__debug__" : Str))=false:=by lia):PE X (.Name x pos) (tC (.ref a)):=T5 c hm R hd
theorem VL{T:String}(c:Gl X x)(hm:X.mg x=none)(e:bootBuiltins x=some (.type T))(hn:x ≠ "__name__" := by lia) (hd:(x == ("__debug__" : Str))=false:=by lia):PE X (.Name x pos) (tC (.ty T)):=Zcf c hm e R hn hd
end
open PySem PySem.Spec PyProof.Rows PySem.W PySem.Calls Builtin Builtin.ObjectAttr Builtin.Getset_descriptor
section
variable{prog:Program}{w:World}{A:Around}{E:Ot}{s:Shared}{K:Ow}{a C:Addr}{o:Obj}{R:Result->Shared->Prop}
structure Xy(K:Ow)(C:Addr):Prop where
 cl:(W.clsIn K C).isSome=true
 g1:W.findIn K (.ref C) "__getattribute__" = some (some (.builtin "BaseException.__getattribute__"))
 g2:W.findIn K (.ref C) "__getattr__" = some none
 g3:W.findIn K (.ref C) "__class__" = some (some (.builtin "object.__class__"))
 g4:W.mroIn K C (.type "object")=some true
 g5:W.mroIn K C (.type "BaseException")=some true
 g6:W.specialIn K (.builtin "object.__class__") "__get__" = some (some (.builtin "getset_descriptor.__get__"))
 g7:W.takesIn K (.builtin "object.__class__")=some true
theorem ZdZ{tp:Value}(Y:K.In s.heap)(c:Xy K C)(i:s.heap.get? a=some o)(e:o.cls=.ref C)(h:R (.ok (.ret (.ref C))) s) :
  codeAny (model prog w) A (.call (.builtin "getset_descriptor.__get__") ⟨[.builtin "object.__class__",.ref a,tp],[]⟩) R s:=by
 obtain⟨f,g,dr,t,os⟩:=s;have n:Looks (model prog w) f (typeOf (.ref a)) (.ref C):=e ▸ (Looks.ld i).andThen .now;have j:=looks_mroIn (M:=model prog w) Y c.g4;refine codeAny_call_builtin KF.slot_gs.plain KF.entry_gs (KF.slot_gs.check _ _ _ _ _ _ _ _ KF.type_class (KF.args_gs _ _ _) ?_);unfold Builtin.«getset_descriptor.__get__» descrGet;rw[dga_obj];refine Sa (Sb ?_);unfold descrGetter descrCheckInstance descrNameAndClass isInstance;simp only[KF.owner_class]
 repeat lk
 refine⟨Code.quiet_builtin _ (by lia),codeAny_builtin KF.entry_class ?_⟩;unfold Builtin.«object.__class__» shownTypeOf
 repeat lk
 exact h
theorem Zd0{tk:Tok}{Q:Fin->Shared->Prop}(Y:K.In s.heap)(c:Xy K C)(f:s.heap.get? a=some o)(e:o.cls=.ref C)(h:Q (.done (.ret (.ref C))) s) :
  wpAny (model prog w) A (Builtin.«object.__getattribute__» ⟨[.ref a,.str "__class__" tk],[]⟩) Q E s:=by
 obtain⟨i,g,dr,t,os⟩:=s;have u:Looks (model prog w) i (typeOf (.ref a)) (.ref C):=e ▸ (Looks.ld f).andThen .now;have q:=looks_findIn (M:=model prog w) Y c.g3;have j:=looks_specialIn (M:=model prog w) Y c.g6;have n:=looks_takesIn (M:=model prog w) Y c.g7;unfold Builtin.«object.__getattribute__»
 repeat lk
 refine wpAny_run (c:=.call (.builtin "getset_descriptor.__get__") ⟨[.builtin "object.__class__",.ref a,.ref C],[]⟩) (h:=none) (ZdZ (R:=_) Y c f e ?_);exact Sb (Sb h)
theorem Zd1{M:Model}{e:Value}{Q:OA}(Y:K.In s.heap)(c:Xy K C)(v:s.heap.get? a=some o)(f:o.cls=.ref C)(h:Q () s) :
  wpAny M A (checkBuiltinCall "BaseException.__getattribute__" ⟨[.ref a,e],[]⟩) Q E s:=by
 obtain⟨q,g,dr,t,os⟩:=s;have u:Looks M q (typeOf (.ref a)) (.ref C):=f ▸ (Looks.ld v).andThen .now;have n:=looks_mroIn (M:=M) Y c.g5;have j:builtinKind "BaseException.__getattribute__" = some .slot:=by lia
 have i:splitId "BaseException.__getattribute__" = some ("BaseException","__getattribute__"):=by lia
 have ha:=PySem.F.args_bexc_ga (.ref a) e;simp only[checkBuiltinCall,j,i];refine Sa ?_;unfold isInstance;refine Sa (u.at ?_);refine n.at ?_;rw[SU (by lia)];exact wpAny_of_eq ha h
theorem Zd2{Q:Option Value->Shared->Prop}(Y:K.In s.heap)(c:Xy K C)(f:s.heap.get? a=some o)(e:o.cls=.ref C)(h:Q (some (.ref C)) { s with toks:=s.toks+1 }) :
  wpAny (model prog w) A (getAttr? (.ref a) "__class__") Q E s:=by
 obtain⟨q,g,dr,t,os⟩:=s;have u:Looks (model prog w) q (typeOf (.ref a)) (.ref C):=e ▸ (Looks.ld f).andThen .now;have n:=looks_findIn (M:=model prog w) Y c.g1;have i:=looks_findIn (M:=model prog w) Y c.g2;have j:=PySem.F.excAttr_ValueError.ga.bind (.ref a);unfold getAttr? getAttrBy? getAttrBy;refine Sa (wpAny_mkText (Sa (wpAny_attempt (wpAny_holding (Sa (u.at (Sa (n.at ?_))))))));dsimp only;rw[SU (show ¬ ((onTheHeap (Value.ref C) && Value.builtin "BaseException.__getattribute__" == Value.builtin "object.__getattribute__")=true) by
  rw[show(Value.builtin "BaseException.__getattribute__" == Value.builtin "object.__getattribute__")=false by lia,Bool.and_false];lia)]
 unfold getAttrByItsOwn hookBefore;rw[SV (show onTheHeap (Value.ref C)=true from rfl)];refine Sa (i.at ?_);unfold callGetattribute;rw[SU (by lia)];unfold boundAndCalled;refine Sa (wpAny_attempt (wpAny_holding (Sa (wpAny_of_eq j ?_))));refine wpAny_call (codeAny_call_builtin PySem.F.excAttr_ValueError.ga.plain PySem.F.entry_bexc_ga (Zd1 Y c f e (Zd0 Y c f e ?_)));exact Sb (Sb h)
theorem xD(c:Xy K C):KitX K (.ref a) (.ref C) (fun h=>∃ob vs,h.get? a=some ob/\ob.cls=.ref C/\ob.data=.fields vs) where
 ty:=fun M h Y ⟨ob,vs,i,g,_⟩=>g ▸ (Looks.ld i).andThen .now
 it:=fun M h Y _=>by
  obtain⟨j,f⟩:=Option.isSome_iff_exists.mp c.cl;unfold clsIn at f
  split at f
  ·next ho =>
   intro v D G B k q;unfold isType loadHead;exact Sa (wpAny_loadPart (k _ _ (Y _ _ ho)) (Sb q))
  ·cases f
 ne:=fun h tp y x n H Y u=>by
  obtain⟨j,f⟩:=Option.isSome_iff_exists.mp c.cl;refine Oh.mpr fun q=>?_;have e:C=tp:=Value.ref.inj (beq_iff_eq.mp q);subst e;unfold clsIn at f
  split at f
  ·next ho =>
   have z:=(Y _ _ ho).symm.trans u;cases z
  ·cases f
 ca:=fun Y ⟨ob,vs,i,g,_⟩ k=>Zd2 Y c i g k
end
theorem Zd3{X:Cx}:Xb X (.builtin "isinstance") (fun xs H Q=>∃(a C D:Addr) (b:Bool),xs=[.ref a,.ref D]/\H a=some (XJ a (.ref C))/\Xy X.K C/\W.kitOne X.K (.ref C) (.ref D)=some b/\Q (.bl b) H):=by
 intro pins s j H xs n Q I r h;obtain⟨a,C,D,b,rfl,ha,c,e,q⟩:=h;obtain⟨u,g,rfl,i,f⟩:=A2 r;cases (show u=Value.ref a from i);cases (show g=Value.ref D from f);obtain⟨p,_⟩:=I.hok a _ ha;exact kia_one (xD c) I.kIn p e (fun z=>nomatch z) fun tk=>⟨.bl b,H,I.tok _,R,q⟩
theorem Zd4{X:Cx}:Xb X (.builtin "isinstance") (fun xs H Q=>∃(a C:Addr) (T:String) (b:Bool),xs=[.ref a,.ty T]/\H a=some (XJ a (.ref C))/\Xy X.K C/\W.kitOne X.K (.ref C) (.type T)=some b/\Q (.bl b) H):=by
 intro pins s j H xs n Q I r h;obtain⟨a,C,T,b,rfl,ha,c,e,q⟩:=h;obtain⟨u,g,rfl,i,f⟩:=A2 r;cases (show u=Value.ref a from i);cases (show g=Value.type T from f);obtain⟨p,_⟩:=I.hok a _ ha;exact kia_one (xD c) I.kIn p e (fun z=>nomatch z) fun tk=>⟨.bl b,H,I.tok _,R,q⟩
theorem Wk{e:Type}{t:Sem e}{Q c:e->Shared->Prop}{M:Model}{A:Around}{E:Ot}{s:Shared}(h:wpAny M A t Q (fun _ _=>False) s)(f:∀a s,Q a s->c a s):wpAny M A t c E s:=Op h f fun _ _ z=>z.elim
abbrev xE(ifs:OD)(env:Env):Sem Bool:=forIn ifs true fun c r=>if r=true then do let ok <-isTrue c env (eval c env);pure (ForInStep.yield ok)else pure (ForInStep.yield r)
theorem xF{prog:Program}{w:World}{A:Around}{R:Result->Shared->Prop}{s:Shared}{j f iter:Expr}{y:OD}{scope:Scope}{G:Pos}{e i:Value}{env:Env}(J:Nat->Shared->Prop)
  (turn:∀k c,J k c->wpAny (model prog w) A (pyNext e) (fun r s2=>match r with
   |none=>R (.ok .next) s2
   |some v=>wpAny (model prog w) A (letOwnedTupleGo f e v) (fun _ B=>wpAny (model prog w) A (assign f env v) (fun _ n=>wpAny (model prog w) A (xE y env) (fun ok s5 =>
     if ok=true then wpAny (model prog w) A (eval j env) (fun x g=>wpAny (model prog w) A (call (.builtin "list.append") [i,x]) (fun _ u=>∃m,m<k/\J m u) (fun _ _=>False) g) (fun _ _=>False) s5
     else ∃m,m<k/\J m s5) (fun _ _=>False) n) (fun _ _=>False) B) (fun _ _=>False) s2) (fun _ _=>False) c)
  (k:Nat) (h:J k s):codeAny (model prog w) A (.compLoop (.ListComp j [⟨f,iter,y,0⟩] scope G) 0 e i env) R s:=by
 refine codeAny_loop rfl J (fun k c L=>?_) k h;refine wpAny_noted ?_;rw[compTurn_list];refine Sa (wpAny_standAt (Sa (Wk (turn k c L) fun r s2 C=>?_)));cases r with
 |none=>exact Sb C
 |some v =>
  refine Sa (Wk C fun _ B D=>Sa (Wk D fun _ n H=>Sa (Wk H fun ok s5 q=>?_)));cases ok with
  |false=>exact Sb ⟨rfl,q⟩
  |true=>exact Sa (Sa (Wk q fun x g I=>Sa (Wk I fun _ u E=>Sb (Sb ⟨rfl,E⟩))))
abbrev Xn(X:Cx)(N:OC)(scope:Scope)(cl:Oy)(C:Addr)(s0:Shared)(H0:Hp)(ex:OH)(pins:Ou):Cx :=
 { X with N:=N,s₀:=s0,H₀:=H0,env:=compEnvC scope cl C X.env,outer:=X.stack,stack:=X.stack,ex:=ex,fn:=fun _=>false,pn:=X.pn++pins,xe:=fun _ _=>False }
def Vq(X:Cx)(scope:Scope)(cl:Oy):List Str->List (Option Nat)->Prop
 |[],[]=>True
 |_::N,none::fr=>Vq X scope cl N fr
 |y::N,some i::fr=>(X.N[i]? = some y/\(X.env.kindOf y=some .cell\/X.env.kindOf y=some .free)/\((relabel scope X.env).names.lookup y=some .cell\/(relabel scope X.env).names.lookup y=some .free) /\
   ∃c,X.env.cells.lookup y=some c/\cl.lookup y=some c)/\Vq X scope cl N fr
 |_,_=>False
def Qu(fr:List (Option Nat))(c:St):St:=fr.map fun o=>match o with|none=>none|some i=>(c[i]?).getD none
theorem Vq.len{X:Cx}{scope:Scope}{cl:Oy}:∀{N:OC} {fr:List (Option Nat)},Vq X scope cl N fr->fr.length=N.length
 |[],[],_=>rfl
 |_::N,none::fr,h=>by rw[Sy,Sy,Vq.len (N:=N) h]
 |_::N,some i::fr,h=>by rw[Sy,Sy,Vq.len (N:=N) h.2]
 |[],_::_,h=>h.elim
 |_::_,[],h=>h.elim
theorem Vq.at{X:Cx}{scope:Scope}{cl:Oy}{f:St}{v:V}{y:Str}:∀{N:OC} {fr:List (Option Nat)} {j:Nat},Vq X scope cl N fr->N[j]? = some y->(Qu fr f)[j]? = some (some v) ->
  ∃i:Nat,f[i]? = some (some v)/\X.N[i]? = some y/\(X.env.kindOf y=some .cell\/X.env.kindOf y=some .free)/\((relabel scope X.env).names.lookup y=some .cell\/(relabel scope X.env).names.lookup y=some .free) /\
   ∃c,X.env.cells.lookup y=some c/\cl.lookup y=some c
 |[],[],j,_,e,_=>by simp at e
 |[],_::_,_,h,_,_=>h.elim
 |_::_,[],_,h,_,_=>h.elim
 |_::N,none::fr,0,_,_,q=>by cases q
 |_::N,none::fr,j+1,h,e,q=>Vq.at (N:=N) (fr:=fr) (j:=j) h e q
 |x::N,some i::fr,0,h,e,q=>by
  have n:x=y:=So e;subst n;have g:some ((f[i]?).getD none)=some (some v):=q;refine⟨i,?_,h.1⟩;cases z:f[i]? with
  |none=>rw[z]at g;cases g
  |some o=>rw[z]at g;exact congrArg some (So g)
 |_::N,some i::fr,j+1,h,e,q=>Vq.at (N:=N) (fr:=fr) (j:=j) h.2 e q
def V4(X:Cx):List (Str×Addr)->Prop
 |[]=>True
 |(y,c)::r=>X.env.cells.lookup y=some c/\V4 X r
theorem V4.at{X:Cx}{y:Str}{c:Addr}:∀{cl:Oy},V4 X cl->cl.lookup y=some c->X.env.cells.lookup y=some c
 |[],_,e=>by cases e
 |(z,d)::r,h,e=>by
  rw[List.lookup_cons]at e;cases q:y == z with
  |true =>
   rw[q]at e;have g:y=z:=by simpa using q
   have f:d=c:=So e;subst g f;exact h.1
  |false =>
   rw[q]at e;exact V4.at h.2 e
theorem MI{c:Type}{p:Str×c->Bool}{y:Str}{k:c}:∀{l:List (Str×c)},l.all p=true->l.lookup y=some k->p (y,k)=true
 |[],_,e=>by cases e
 |(z,d)::r,h,e=>by
  rw[List.all_cons,Bool.and_eq_true]at h;rw[List.lookup_cons]at e;cases q:y == z with
  |true =>
   rw[q]at e;have g:y=z:=by simpa using q
   have f:d=k:=So e;subst g f;exact h.1
  |false =>
   rw[q]at e;exact MI h.2 e
section
variable{X:Cx}{pins:Ou}{σ:St}{H:Hp}{s:Shared}{N:OC}{fr:List (Option Nat)}{scope:Scope}{cl:Oy}
theorem Zc.block{ex:OH}{h':Heap}{C:Addr}{m:Ov}{tk:Nat}(I:Zc X pins σ H s)(d0:scope.kind=.function)(M:Vq X scope cl N fr)(h:V4 X cl)
  (b0:((relabel scope X.env).names.all fun p=>!(p.2 == .cell || p.2 == .free) || (cl.lookup p.1).isSome)=true) (i:∀b∈ex,VY X pins H b) (Y:∀b∈ex,b<s.heap.objs.size)
  (g:∀b o,s.heap.get? b=some o->h'.get? b=some o) (B:s.heap.objs.size<=C) (Z:h'.Ns C m):Zc (Xn X N scope cl C s H ex pins) [] (Qu fr σ) H { s with heap:=h',toks:=tk }:=by
 have Q:∀b,b≠X.env.locals->b∉X.fs->b∉Yu X.stack:=fun b h1 h2 z=>(SE.mp (I.stkSub b z)).elim h1 h2;have a0:∀b o,s.heap.get? b=some o->b≠C:=fun b o e=>Sf (Si (Se e) B);refine⟨⟨I.ok.mod,d0,I.ok.glob,I.ok.blt,B,fun x y c L G=>I.ok.inj x y c (h.at L) (h.at G),fun x U=>?_,(fun _ _ z=>nomatch z),I.ok.hd,I.ok.frames,.inl R,fun b f=>⟨Sf (Si (Y b f) B),fun x c e=>(i b f).2.2.2.2.1 x c (h.at e)⟩,
   I.bs,Sh I.ok.bsz I.sz,fun b o e f=>?_,fun b f=>Q b (i b f).2.1 (i b f).2.2.1,I.stack,I.stkFree⟩,R,I.bare,Un.kept g,⟨m,Z,fun f0 x v L G e3=>?_⟩,fun x c e=>?_,?_,fun x c e=>I.freeC x c (h.at e),fun p hp=>?_,I.hok.kept g,?_⟩
 ·have q:∃k,(relabel scope X.env).names.lookup x=some k/\(k=.cell\/k=.free):=U.elim (fun z=>⟨_,z,.inl R⟩) fun z=>⟨_,z,.inr R⟩
  obtain⟨k,D,E⟩:=q;have z:=MI b0 D;have z2:(cl.lookup x).isSome=true:=by
   rcases E with rfl|rfl
   ·simpa using z
   ·simpa using z
  exact Option.isSome_iff_exists.mp z2
 ·rcases(i b f).2.2.2.1 with z|z
  ·exact I.ok.noex b o e z
  ·exact Oq (Si (Si (Se e) I.ok.bsz) z) (Sl _)
 ·obtain⟨j,D,E,O,S,c,q5,q6⟩:=M.at L G
  obtain⟨m0,e0,c0⟩:=I.loc;obtain⟨u,r,l⟩:=c0 j x v E D (O.elim (fun z=>.inr (.inl z)) fun z=>.inr (.inr z));refine⟨u,r,.inr ⟨S,c,q6,?_⟩⟩;rcases l with⟨k,_⟩|⟨_,c',P,o,J,hd⟩
  ·rcases O with z|z
   ·rw[z]at k;cases k
   ·rw[z]at k;cases k
  ·rw[q5]at P;cases P
   exact⟨o,g _ _ J,hd⟩
 ·obtain⟨v,o,J,hd⟩:=I.cell x c (h.at e)
  exact⟨v,o,g _ _ J,hd⟩
 ·exact I.hok.fresh B
 ·have T:p∈X.pn++pins:=by simpa using hp
  obtain⟨e,n,ne,nf,d⟩:=I.pin p T;exact⟨g _ _ e,n,a0 _ _ e,Q _ ne nf,d⟩
 ·show(Qu fr σ).length=N.length
  unfold Qu;rw[Sv,M.len]
theorem Zc.trackS{a:Addr}{ob:Obj}{vs:Array Value}{n:Nat}{o:HO}(I:Zc X pins σ H s)(ha:H a=none)(i:s.heap.get? a=some ob)(hd:ob.data=.seq vs n)
  (B:X.s₀.heap.get? a=none) (C:∀p∈X.pn++pins,p.1≠a) (new:Yy X.prog X.w (Za H a o) s.heap a o):Zc X pins σ (Za H a o) s:=by
 have nt:∀b u,H b=some u->b≠a:=fun b u q=>ZT q ha;refine⟨I.ok,I.os,I.bare,⟨I.base.keep,I.base.slot,fun b u e n x=>?_,I.base.there,fun b h q=>?_,fun b u h q=>?_,fun b D q=>?_⟩,I.loc,I.cell,?_,fun y c e=>?_,fun p q=>?_,fun b u q=>?_,I.len⟩
 ·have ne:b≠a:=fun z=>by rw[z,B]at e;cases e
  rw[Zf ne];exact I.base.free b u e n x
 ·have z:=I.base.tups b h q
  rw[Zf (nt _ _ z)];exact z
 ·have z:=I.base.frzs b u h q
  rw[Zf (nt _ _ z)];exact z
 ·obtain⟨m,z⟩:=I.base.tbls b D q
  exact⟨m,by rw[Zf (nt _ _ z)];exact z⟩
 ·have ne:X.env.locals≠a:=fun z=>by
   obtain⟨m,⟨E,L,G,g,f,_⟩,_⟩:=I.loc;rw[z,i]at g;cases g;rw[hd]at f;cases f
  rw[Zf ne];exact I.free
 ·have ne:c≠a:=fun z=>by
   obtain⟨v,J,g,f⟩:=I.cell y c e;rw[z,i]at g;cases g;rw[hd]at f;cases f
  rw[Zf ne];exact I.freeC y c e
 ·obtain⟨e,n,r⟩:=I.pin p q
  exact⟨e,by rw[Zf (C p q)];exact n,r⟩
 ·by_cases j:b=a
  ·subst j;rw[Zm]at q;cases q;exact new
  ·rw[Zf j]at q
   exact(I.hok b u q).stay (fun c v _ z=>z) (fun c z=>by rw[Zf (nt _ _ z)];exact z) fun c h z=>by rw[Zf (nt _ _ z)];exact z
end
def KU(X:Cx)(c:OD)(t:TT):Prop :=
 ∀(pins:Ou) (s:Shared) (σ:St) (H:Hp) (Q:Bool->Hp->Prop),Zc X pins σ H s->t σ H Q->wpAny (model X.prog X.w) X.A (xE c X.env) (TP X pins σ Q) X.xe s
def UF:TT:=fun _ H Q=>Q true H
theorem U3{X:Cx}:KU X [] UF:=fun _ _ _ H _ I h=>wpAny_tests_nil ⟨H,I,h⟩
theorem xG{X:Cx}{c:Expr}{t:TT}(h:PT X c t):KU X [c] t:=fun pins s e H Q I q=>wpAny_tests_one (h pins s e H Q I q)
def Qv(Q:VK)(c:List V)(H:Hp):Prop:=∀p,H p=none->Q (.ref p) (Za H p (.lst c))
def xH(fr:List (Option Nat))(E:TI)(g:TG)(tt:TT)(C:TE):TE:=fun v H Q=>E v H fun J G=>∃W:Nat->Nat->List V->St->Hp->Prop,(∃m,W 0 m [] (Qu fr v) G)/\∀i m c j H,W i m c j H ->
 (J.stop i H/\Qv Q c H) \/
 (J.go i H/\c.length<sizeLine/\∃N:List V->St->Hp->Prop,(∀q u e,N q u e->∃n,n<m/\W (i+1) n q u e)/\∀x e,J.yld i H x e->g x j e fun f B=>tt f B fun b h=>if b=true then C f h fun y D=>N (c++[y]) f D else N c f h)
theorem U4{X:Cx}{h0 tg iter:Expr}{n0:OD}{scope:Scope}{cl:Oy}{b1:Pos}{N:OC}{fr:List (Option Nat)}{wi:TI}{g:TG}{tt:TT}{te:TE}
  (U:X.calm=true) (hi:PI X tg iter wi) (t1:closureFor scope X.env=pure cl) (e2:∀y∈scope.names,y.2≠.cell) (o0:scope.kind=.function)
  (n1:∀y∈scope.names,y.2=.local->scope.names.lookup y.1=some .local) (b2:Vq X scope cl N fr) (k0:V4 X cl)
  (l1:((relabel scope X.env).names.all fun p=>!(p.2 == .cell || p.2 == .free) || (cl.lookup p.1).isSome)=true)
  (hg:∀C s0 H0 ex pins,PG (Xn X N scope cl C s0 H0 ex pins) tg g) (ht:∀C s0 H0 ex pins,KU (Xn X N scope cl C s0 H0 ex pins) n0 tt) (he:∀C s0 H0 ex pins,PE (Xn X N scope cl C s0 H0 ex pins) h0 te)
  (hs:∀v,foldedSetIterable iter X.env v=pure v:=by intro _;rfl):PE X (.ListComp h0 [⟨tg,iter,n0,0⟩] scope b1) (xH fr wi g tt te):=by
 intro pins s σ u1 i1 x1 a2;rw[eval_ListComp];refine wpAny_comprehension_free (use:=none) R hs t1 o0 n1 (Zv (hi pins s σ u1 _ x1 a2) fun xv s1 h1=>Zv h1 fun l2 s2 h2=>?_);obtain⟨it,fp,tn,m2,G,e,L,T,j0,f2,W,⟨m0,w0⟩,turn⟩:=h2;subst e;refine wpAny_newObj_type (wpAny_newFunctionEnv e2 (fun y hy=>nomatch hy) (fun h4 e0 Y=>?_) o0);dsimp only at e0 Y ⊢;generalize E:s2.heap.objs.size=D at *;generalize hG:s2.heap.push { cls:=.type "list",dict:=none,data:=.seq ([]:OB).toArray } = t0 at e0 Y ⊢;have hC:t0.objs.size=D+1:=by rw[<-hG,Heap.size_push,E]
 generalize j2:t0.objs.size=C at e0 Y hC ⊢;subst hC;have p0:∀b o,s2.heap.get? b=some o->h4.get? b=some o:=fun b o e=>by
  have lt:=Se e;rw[E]at lt;exact Y.extBut b o (Sf (Sn lt)) (Sc _ (hG ▸ Sc _ e))
 have w1:h4.get? D=some { cls:=.type "list",dict:=none,data:=.seq ([]:OB).toArray 0 } :=
  Y.extBut _ _ (Sf (Sm _)) (Sc _ (hG ▸ E ▸ Sd _ R))
 have flt:∀b∈fp,b<D:=fun b f=>by
  obtain⟨o,e,_⟩:=T.obj 0 _ j0 b f;have lt:=Se e;rw[E]at lt;exact lt
 have i2:∀b,b≠X.env.locals->b∉X.fs->b∉Yu X.stack:=fun b h1 h2 z=>(SE.mp (L.stkSub b z)).elim h1 h2;have pl:∀p∈X.pn++pins,p.1<D:=fun p h=>by
  have lt:=Se (L.pin p h).1;rw[E]at lt;exact lt
 have I4:∀tk,Zc (Xn X N scope cl (D+1) s2 G fp pins) [] (Qu fr σ) G { s2 with heap:=h4,toks:=tk }:=fun tk =>
  L.block o0 b2 k0 l1 f2 (fun b f=>by rw[E];exact flt b f) p0 (by rw[E];exact Nat.le_succ _) e0
 have f0:∀{n:Hp} {o:Obj},(∀b∈fp,n b=none)->∀b∈fp,VY (Xn X N scope cl (D+1) s2 G fp pins) [(D,o)] n b:=fun{n o} hn b f=>by
  obtain⟨_,P,k2,_,M,k5⟩:=f2 b f;refine⟨hn b f,Sf (Sn (flt b f)),i2 b P k2,.inl f,fun x c e=>M x c (k0.at e),fun p h=>?_⟩;rcases SF.mp h with h|h
  ·exact k5 p h
  ·rw[SD.mp h]
   exact(Sf (flt b f)).symm
 have f1:D∉Yu X.stack:=fun z=>by
  obtain⟨_,o,e,_⟩:=L.stack.mem z;have lt:=Se e;rw[E]at lt;exact Oq lt (Sl _)
 have loop:∀tk,codeAny (model X.prog X.w) X.A (.compLoop (.ListComp h0 [⟨tg,iter,n0,0⟩] scope b1) 0 (.ref it) (.ref D) (compEnvC scope cl (D+1) X.env)) (compPost (model X.prog X.w) X.A X.xe none (EP X pins σ i1) (.ref D) (D+1)) { s2 with heap:=h4,toks:=tk }:=fun tk=>by
  refine xF (fun k s'=>∃i c0 n j H J,Zc (Xn X N scope cl (D+1) s2 G fp pins) [] c0 n s' /\
    s'.heap.get? D=some { cls:=.type "list",dict:=none,data:=.seq (List.toArray j) H }/\n D=none/\ZD J j/\J.length<=sizeLine/\tn i s'.heap/\(∀b∈fp,n b=none)/\W i k J c0 n) ?_ m0
   ⟨0,_,G,[],0,[],I4 tk,w1,L.hok.fresh (by rw[E];exact Sg _),.nil,Sk _,T.keep 0 _ _ j0 fun b _ o e=>p0 b o e,fun b f=>(f2 b f).1,w0⟩
  rintro k s5 ⟨i,l0,I,j,H,J,I5,hL,g0,va,z0,c1,y0,w5⟩;have y1:∀x c,cl.lookup x=some c->c≠D:=fun x c e z=>by
   obtain⟨v,q⟩:=L.cell x c (k0.at e);have lt:=q.lt;rw[E,z]at lt;exact Oq lt (Sl _)
  have r0:Zc (Xn X N scope cl (D+1) s2 G fp pins) [(D,{ cls:=.type "list",dict:=none,data:=.seq (List.toArray j) H })] l0 I s5:=I5.pins_of fun p h=>by
   rw[SD.mp h];exact⟨hL,g0,Sf (Sm _),f1,fun v z=>by cases z⟩
  rcases turn i k J l0 I w5 with⟨stop,qn⟩|⟨go,n2,N1,u0,step⟩
  ·refine Wk (T.done (Xn X N scope cl (D+1) s2 G fp pins) R R R U i _ s5 _ I _ r0 (f0 y0) c1 stop) fun r s6 ⟨hr,B⟩=>?_
   subst hr;obtain⟨m6,d1,_⟩:=B.loc;refine⟨m6,d1,fun Q d0=>?_⟩;have v0:Q.get? D=some { cls:=.type "list",dict:=none,data:=.seq (List.toArray j) H }:=d0.extBut _ _ (Sf (Sm _)) (B.pin (D,_) (SG _ (SD.mpr R))).1;have q0:∀b o,s2.heap.get? b=some o->b≠D+1:=fun b o e=>by
    have lt:=Se e;rw[E]at lt;exact Sf (Sn lt)
   have nt:∀b u,I b=some u->b≠D+1:=fun b u q z=>by
    have o1:=B.free;rw[z]at q;rw[show I (D+1)=none from o1]at q;cases q
   have un:Un (Yu X.stack) fp G I s2.heap Q:=⟨fun b o e b0 f hx=>d0.extBut b o (q0 b o e) (B.base.keep b o e b0 f hx),
    fun b o e b0 f hx=>let ⟨sl,q⟩:=B.base.slot b o e b0 f hx;⟨sl,d0.extBut b _ (q0 b o e) q⟩,B.base.free,fun b o e hx=>let ⟨o',q⟩:=B.base.there b o e hx;⟨o',d0.extBut b _ (q0 b o e) q⟩,B.base.tups,B.base.frzs,B.base.tbls⟩
   have hok:Yp X.prog X.w I Q:=fun b u q=>(B.hok b u q).stay (fun c v U e=>d0.extBut c v (by
    rcases U with rfl|U
    ·exact nt _ _ q
    ·exact nt _ _ U) e) (fun _ z=>z) fun _ _ z=>z
   have I8:Zc X pins σ I { s6 with heap:=Q }:=L.call' (s':={ s6 with heap:=Q }) B.os un hok B.bare fun b f=>let ⟨_,P,_,O,M,k5⟩:=f2 b f;⟨O,P,M,k5⟩;have Z:Zc X pins σ (Za I D (.lst J)) { s6 with heap:=Q }:=I8.trackS g0 v0 R (by
     cases z:X.s₀.heap.get? D with
     |none=>rfl
     |some o =>
      have lt:=Si (Se z) L.sz;rw[E]at lt;exact Oq lt (Sl _)) (fun p h=>Sf (pl p h)) ⟨z0,j,H,va,v0⟩
   exact⟨.ref D,_,Z,R,qn D g0⟩
  ·refine Wk (T.item (Xn X N scope cl (D+1) s2 G fp pins) R R R U i _ s5 _ I _ r0 (f0 y0) c1 go) fun r s6 ⟨u,hr,h6⟩=>?_
   subst hr;refine Wk h6 fun _ s7 ⟨x,H7,I7,r7,y7,i0,c2⟩=>?_;have v1:Zc (Xn X N scope cl (D+1) s2 G fp pins) ([(D,{ cls:=.type "list",dict:=none,data:=.seq (List.toArray j) H })]++Ui fp s7.heap) l0 H7 s7:=I7.pinned (f0 c2) (T.obj _ _ i0);refine Wk (hg _ _ _ _ _ _ s7 _ H7 x u _ v1 r7 (step x H7 y7)) fun _ s8 ⟨a0,H8,I8,q8⟩=>?_;refine Wk (ht _ _ _ _ _ _ s8 a0 H8 _ I8 q8) fun ok s9 ⟨H9,Z,q9⟩=>?_;have wk:∀{c0:St} {n:Hp} {s':Shared},Zc (Xn X N scope cl (D+1) s2 G fp pins) ([(D,{ cls:=.type "list",dict:=none,data:=.seq (List.toArray j) H })]++Ui fp s7.heap) c0 n s' ->
     tn (i+1) s'.heap/\(∀b∈fp,n b=none)/\s'.heap.get? D=some { cls:=.type "list",dict:=none,data:=.seq (List.toArray j) H }/\n D=none:=fun{c0 n s'} J'=>by
    have pin:∀p∈([(D,{ cls:=.type "list",dict:=none,data:=.seq (List.toArray j) H })]:Ou)++Ui fp s7.heap,s'.heap.get? p.1=some p.2/\n p.1=none:=fun p h=>let ⟨e,b0,_⟩:=J'.pin p (SG _ h);⟨e,b0⟩;refine⟨T.keep _ _ _ i0 fun b f o e=>(pin (b,o) (SG _ (A0 f e))).1,fun b f=>?_,(pin (D,_) (SH _ (SD.mpr R))).1,(pin (D,_) (SH _ (SD.mpr R))).2⟩;obtain⟨o,e,_⟩:=T.obj _ _ i0 b f;exact(pin (b,o) (SG _ (A0 f e))).2
   cases ok with
   |false =>
    obtain⟨m',hm,w9⟩:=u0 _ _ _ q9;obtain⟨P,k2,O,M⟩:=wk Z;exact⟨m',hm,i+1,a0,H9,j,H,J,Z.pins_of (fun _ z=>nomatch z),O,M,va,z0,P,k2,w9⟩
   |true =>
    refine Wk (he _ _ _ _ _ _ s9 a0 H9 _ Z q9) fun y S ⟨v,x0,a1,e1,d2⟩=>?_;obtain⟨m',hm,j1⟩:=u0 _ _ _ d2;obtain⟨P,k2,O,M⟩:=wk a1;refine call_meets F.slot_list_append ⟨_,O,R⟩ F.entry_list_append (F.args_list_append_2 _ _) (PySem.list_append D j.toArray H y (by rw[SM,<-va.length];lia)) ⟨O,?_⟩;have up:∀b o,b≠D->S.heap.get? b=some o->(S.heap.update D (Obj.mapSeq fun z=>z.push y)).get? b=some o:=fun b o f e=>(Heap.get?_update_other S.heap _ (Ne.symm f)).trans e;have m1:Zc (Xn X N scope cl (D+1) s2 G fp pins) [] a0 x0 { S with heap:=S.heap.update D (Obj.mapSeq fun z=>z.push y),toks:=S.toks } :=
     (a1.pins_of (pins':=[]) fun _ z=>nomatch z).turned up M (Sf (Sm _)) (.inr (by rw[E];exact Sg _)) y1 fun p h=>by
      have q1:p∈X.pn++pins:=by simpa using h
      exact Sf (pl p q1)
    have q:=PySem.IsL.update O (fun z=>z.push y);rw[show(List.toArray j).push y=(j++[y]).toArray by simp]at q;refine⟨m',hm,i+1,a0,x0,j++[y],_,J++[v],m1,q,M,va.append (.cons e1 .nil),?_,T.keep _ _ _ P fun b f o e=>up b o (Sf (flt b f)) e,k2,j1⟩;rw[Su,Sw];lia
 exact codeAny_compStart_list (loop _) (T.self _ 0 _ _ _ (T.keep 0 _ _ j0 fun b _ o e=>p0 b o e) (loop _))
theorem A8{K:Ox}{a:Addr}{xs:List V}{g:TG}{tt:TT}{G:TE}{J:St}{H:Hp}{Q:VK}(j:Nat->List V->St->Hp->Prop)(M:j 0 [] J H)(hz:xs.length<=sizeLine)(O:∀i c n H,i<=xs.length->j i c n H->Zg K H a xs)
  (S:∀i x c n H,c.length<=i->xs[i]? = some x->j i c n H->g x n H fun h D=>tt h D fun b B=>if b=true then G h B fun y E=>(c++[y]).length<=i+1/\j (i+1) (c++[y]) h E else c.length<=i+1/\j (i+1) c h B)
  (hd:∀c n H,c.length<=xs.length->j xs.length c n H->Qv Q c H) :
  ∃W:Nat->Nat->List V->St->Hp->Prop,(∃m,W 0 m [] J H)/\∀i m c u H,W i m c u H ->
   ((UZ K a).stop i H/\Qv Q c H) \/
   ((UZ K a).go i H/\c.length<sizeLine/\∃N:List V->St->Hp->Prop,(∀v C f,N v C f->∃I,I<m/\W (i+1) I v C f)/\∀x f,(UZ K a).yld i H x f->g x u f fun h D=>tt h D fun b B=>if b=true then G h B fun y E=>N (c++[y]) h E else N c h B):=by
 refine⟨fun i m c n H=>m=xs.length - i/\i<=xs.length/\c.length<=i/\j i c n H,⟨xs.length,by simp,Sk _,Sk _,M⟩,?_⟩;rintro i m c u H ⟨rfl,P,ha,p⟩;have q:=O i c u H P p;by_cases L:i<xs.length
 ·refine .inr ⟨⟨xs,xs[i],q,by simp[L]⟩,by lia,fun v C f=>v.length<=i+1/\j (i+1) v C f,fun v C f z=>⟨xs.length - (i+1),by lia,R,L,z.1,z.2⟩,fun x f y=>?_⟩
  obtain⟨e,y⟩:=y;subst e;exact S i x c u _ ha (y xs q) p
 ·have e:i=xs.length:=by lia
  subst e;exact .inl ⟨⟨xs,q,Sg _⟩,hd c u H ha p⟩
theorem MJ{lo:Int}{n:Nat}{g:TG}{tt:TT}{I:TE}{L:St}{H:Hp}{Q:VK}(j:Nat->List V->St->Hp->Prop)(M:j 0 [] L H)(hz:n<=sizeLine)
  (O:∀i c u H,i<n->c.length<=i->j i c u H->g (.int (lo+i)) u H fun h D=>tt h D fun b v=>if b=true then I h v fun y E=>(c++[y]).length<=i+1/\j (i+1) (c++[y]) h E else c.length<=i+1/\j (i+1) c h v)
  (hd:∀c u H,c.length<=n->j n c u H->Qv Q c H) :
  ∃W:Nat->Nat->List V->St->Hp->Prop,(∃m,W 0 m [] L H)/\∀i m c B H,W i m c B H ->
   ((Ug lo n).stop i H/\Qv Q c H) \/
   ((Ug lo n).go i H/\c.length<sizeLine/\∃N:List V->St->Hp->Prop,(∀q C f,N q C f->∃J,J<m/\W (i+1) J q C f)/\∀x f,(Ug lo n).yld i H x f->g x B f fun h D=>tt h D fun b v=>if b=true then I h v fun y E=>N (c++[y]) h E else N c h v):=by
 refine⟨fun i m c u H=>m=n - i/\i<=n/\c.length<=i/\j i c u H,⟨n,by simp,Sk _,Sk _,M⟩,?_⟩;rintro i m c B H ⟨rfl,P,ha,p⟩;by_cases G:i<n
 ·refine .inr ⟨G,by lia,fun q C f=>q.length<=i+1/\j (i+1) q C f,fun q C f z=>⟨n - (i+1),by lia,R,G,z.1,z.2⟩,fun x f y=>?_⟩
  obtain⟨e,y⟩:=y;subst e y;exact O i c B _ G ha p
 ·have e:i=n:=by lia
  subst e;exact .inl ⟨Sg _,hd c B H ha p⟩
mutual
inductive DV(K:Ow)(H:Hp):V->PyData->Prop
 |non:DV K H .non .none
 |bl (b:Bool):DV K H (.bl b) (.bool b)
 |int (i:Int):DV K H (.int i) (.int i)
 |str (x:Str) (h:(PyData.str x).canLay0=true):DV K H (.str x) (.str x)
 |lst {a:Addr} {xs:List V} {ds:List PyData} (h:Zg K H a xs) (r:Wu K H xs ds):DV K H (.ref a) (.list ds)
 |tup {a:Addr} {xs:List V} {ds:List PyData} (h:Zk K H a xs) (r:Wu K H xs ds):DV K H (.ref a) (.tuple ds)
inductive Wu(K:Ow)(H:Hp):List V->List PyData->Prop
 |nil:Wu K H [] []
 |cons {x:V} {xs:List V} {d:PyData} {ds:List PyData} (h:DV K H x d) (r:Wu K H xs ds):Wu K H (x::xs) (d::ds)
end
mutual
theorem DV.can{K:Ow}{H:Hp}:∀{x:V} {d:PyData},DV K H x d->d.canLay0=true
 |_,_,.non=>by simp only[PyData.canLay0]
 |_,_,.bl _=>by simp only[PyData.canLay0]
 |_,_,.int _=>by simp only[PyData.canLay0]
 |_,_,.str _ h=>h
 |_,_,.lst _ r=>by simp only[PyData.canLay0];exact Wu.can r
 |_,_,.tup _ r=>by simp only[PyData.canLay0];exact Wu.can r
theorem Wu.can{K:Ow}{H:Hp}:∀{xs:List V} {ds:List PyData},Wu K H xs ds->PyData.canLayAll0 ds=true
 |_,_,.nil=>by simp only[PyData.canLayAll0]
 |_,_,.cons h r=>by simp only[PyData.canLayAll0,Bool.and_eq_true];exact⟨DV.can h,Wu.can r⟩
end
theorem Zk.sameT{K:Ow}{H c:Hp}{a:Addr}{xs:List V}(e:Ze H c)(h:Zk K H a xs):Zk K c a xs:=by
 rcases h with(h|⟨o,h⟩)|h
 ·exact .inl (.inl (e _ _ h))
 ·exact .inl (.inr ⟨o,e _ _ h⟩)
 ·exact .inr h
section
variable{X:Cx}{pins:Ou}{σ:St}{H:Hp}{s:Shared}
mutual
theorem DV.reads(I:Zc X pins σ H s):∀{x:V} {d:PyData} {u:Value},DV X.K H x d->ZG x u->∃j,Reads s.heap u d j
 |_,_,_,.non,r=>by cases r;exact⟨_,.none⟩
 |_,_,_,.bl b,r=>by cases r;exact⟨_,.bool b⟩
 |_,_,_,.int i,r=>by obtain⟨t,rfl⟩:=r;exact⟨_,.int i t⟩
 |_,_,_,.str x _,r=>by obtain⟨t,rfl⟩:=r;exact⟨_,.str x t⟩
 |_,_,_,.lst h e,r=>by
  cases r;obtain⟨y,v,f,_⟩:=I.list h;obtain⟨o,n,g,c,_,hd⟩:=f;obtain⟨j,q⟩:=Wu.reads I e v;exact⟨_,.list g c hd (by simpa using q)⟩
 |_,_,_,.tup h e,r=>by
  cases r;obtain⟨y,v,f,_⟩:=I.tuple h;obtain⟨o,g,c,n,hd⟩:=f;obtain⟨j,q⟩:=Wu.reads I e v;exact⟨_,.tuple g c hd (by simpa using q)⟩
theorem Wu.reads(I:Zc X pins σ H s):∀{xs:List V} {ds:List PyData} {us:OB},Wu X.K H xs ds->ZD xs us->∃c,ReadsAll s.heap us ds c
 |_,_,_,.nil,.nil=>⟨_,.nil⟩
 |_,_,_,.cons h r,.cons v vs=>by
  obtain⟨c,e⟩:=DV.reads I h v;obtain⟨bs,f⟩:=Wu.reads I r vs;exact⟨_,.cons e f⟩
end
end
inductive xI(K:Ow)(neg:Bool)(x:V)(y:V)(H:Hp)(Q:VK):Prop|mk dx dy (_:DV K H x dx) (_:DV K H y dy) (_:dx.depth<=60) (_:Q (.bl (if neg then !PyData.eqv dx dy else PyData.eqv dx dy)) H)
theorem Zd5{X:Cx}(D:X.A.units+64<cLine):YM X (compareOp .Eq) (xI X.K false):=by
 intro pins s B H x y v u Q I i f h;obtain⟨C,n,c,e,hd,q⟩:=h;obtain⟨j,r1⟩:=c.reads I i;obtain⟨bs,g⟩:=e.reads I f;exact SeqAt.compareEq_reads r1 g c.can e.can (by lia) ⟨.bl _,H,I,R,q⟩
theorem KW{X:Cx}(D:X.A.units+64<cLine):YM X (compareOp .NotEq) (xI X.K true):=by
 intro pins s B H x y v u Q I i f h;obtain⟨C,n,c,e,hd,q⟩:=h;obtain⟨j,r1⟩:=c.reads I i;obtain⟨bs,g⟩:=e.reads I f;exact SeqAt.compareNe_reads r1 g c.can e.can (by lia) ⟨.bl _,H,I,R,q⟩
section
variable{X:Cx}
end
section
variable{X:Cx}{x:Str}{pos:Pos}
theorem Y0{k:Int}(c:Gl X x)(hm:∃t,X.mg x=some (.int k t))(hd:(x == ("__debug__" : Str))=false:=by lia):PE X (.Name x pos) (tC (.int k)):=by
 obtain⟨t,hm⟩:=hm;exact T5 c hm ⟨t,R⟩ hd
def Zd6:TE:=fun _ H Q=>∀p,H p=none->Q (.ref p) (Za H p (.dK []))
theorem V5{X:Cx}{pos:Pos}:PE X (.Dict [] [] pos) Zd6:=by
 intro pins s c H Q I h;have lt:sysModules<s.heap.objs.size:=Nat.lt_trans (show sysModules<mainGlobals by lia) (I.mod.glob.keeps I.bk).lt;have new:Yy X.prog X.w (Za H s.heap.objs.size (.dK [])) (s.heap.push { cls:=.type "dict",data:=.dict #[] }) s.heap.objs.size (.dK []) :=
  ⟨Sk _,beq_eq_false_iff_ne.mpr (Ne.symm (Sf lt)),[],.nil,Heap.DictOf.new s.heap⟩
 exact wpAny_Dict_empty ⟨.ref s.heap.objs.size,_,I.laid (t':=s.toks) (fun _ _ q=>Sc _ q) (Sg _) new,R,h _ (I.hok.fresh (Sg _))⟩
theorem F6(x:Str):[x].Nodup:=by simp
def YT:Expr->Bool
 |.Starred _ _=>false
 |_=>true
theorem MK{e:Expr}{c:OD}{env:Env}(h:YT e=true):starEach (e::c) env=(false,eval e env)::starEach c env:=by
 cases e<;>first|rfl|cases h
theorem Ym{e:Expr}{f:OD}{c:TE}{t:TA}(ha:PE X e c)(g:PA X f t)(h:YT e=true:=by rfl):PA X (e::f) (Yt c t):=zY ha g (MK h)
end
end L2
namespace K1
open PySem L2
def Xz:V->Int->Int->Bool
 |.int i,lo,hi=>decide (lo<=i/\i<=hi)
 |_,_,_=>false
inductive Kd(H:Hp):V->String->Prop where
 |non:Kd H .non "NoneType"
 |bl (b:Bool):Kd H (.bl b) "bool"
 |int (i:Int):Kd H (.int i) "int"
 |str (x:Str):Kd H (.str x) "str"
 |lst {a:Addr} {xs:List V} (e:H a=some (.lst xs)):Kd H (.ref a) "list"
 |tup {a:Addr} {xs:List V} (e:H a=some (.tup xs)):Kd H (.ref a) "tuple"
 |dK {a:Addr} {kvs:List (Zl×V)} (e:H a=some (.dK kvs)):Kd H (.ref a) "dict"
theorem Kd.ty{K:Ow}{H:Hp}{v:V}{T:String}(k:Kd H v T):Wi K H v (.type T):=by
 cases k with
 |non=>exact .non
 |bl b=>exact .bl b
 |int i=>exact .int i
 |str x=>exact .str x
 |lst e=>exact .lst e
 |tup e=>exact .tup e
 |dK e=>exact .dK e
theorem Kd.same{H c:Hp}{v:V}{T:String}(s:Ze H c)(k:Kd H v T):Kd c v T:=by
 cases k with
 |non=>exact .non
 |bl b=>exact .bl b
 |int i=>exact .int i
 |str x=>exact .str x
 |lst e=>exact .lst (s _ _ e)
 |tup e=>exact .tup (s _ _ e)
 |dK e=>exact .dK (s _ _ e)
theorem xJ{K:Ow}{H:Hp}{v:V}{T:String}(k:Kd H v T):W.kitOne K (.type T) (.type "int")=some (decide (T = "int" \/ T = "bool")):=by
 cases k<;>rfl
theorem KY{K:Ow}{H:Hp}{v:V}{T:String}(k:Kd H v T):W.kitOne K (.type T) (.type "bool")=some (decide (T = "bool")):=by
 cases k<;>rfl
theorem KZ{K:Ow}{H:Hp}{v:V}{T:String}(k:Kd H v T):W.kitOne K (.type T) (.type "str")=some (decide (T = "str")):=by
 cases k<;>rfl
theorem ZH{c A B:Prop}[Decidable c](h:c)(a:A):if c then A else B:=by rw[SV h];exact a
theorem Zn{c A B:Prop}[Decidable c](h:¬ c)(b:B):if c then A else B:=by rw[SU h];exact b
theorem Zy{H:Hp}{p:Addr}(h:H p=none)(o:HO):Ze H (Za H p o):=fun b u q=>by rw[Zf (ZT q h)];exact q
theorem Zd7{e:Type}(g:e->Bool)(l:List e):(l.map fun c=>V.bl (g c))=(l.map g).map V.bl:=by rw[Od];rfl
def Zd8:V->Bool
 |.int _=>true
 |_=>false
structure Zla(tp:Addr)(k:Int)(H H':Hp):Prop where
 keep:∀b o,b≠tp->H b=some o->H' b=some o
 tape:H' tp=some (.lst [.int k])
theorem xK{x y:Int}(c:0<=y)(h1:y<18446744073709551616):KI x y:=.inr ⟨by lia,by lia⟩
theorem A9{p:V->Prop}{xs:List V}{d:Int}(h:∀v∈xs,p v)(e:0<=d)(h1:d<xs.length):∃v,YG xs d=some v/\p v:=by
 have c:d.toNat<xs.length:=by lia
 refine⟨xs[d.toNat],?_,h _ (Oi c)⟩;have q:YG xs ((d.toNat:Nat):Int)=some xs[d.toNat]:=XF (Ss c);rw[show((d.toNat:Nat):Int)=d by lia]at q;exact q
end K1
namespace K1
open PySem L2
theorem xL(z:Str):z.cps.toList.length=z.length:=by simp[Str.length]
theorem Zd9(z:Str)(j:Nat)(h:j<=z.length):Txt.slice z none (some (j:Int))=⟨(z.cps.toList.take j).toArray⟩:=by
 have e:=StrLaws.sliceText_to (x:=z) (j:=(j:Int)) ⟨by lia,by rw[xL];lia⟩;rw[List.drop_zero,show((j:Int) - 0).toNat=j by lia]at e;exact e
theorem Zea(z:Str)(j:Nat)(h:j<=z.length):Txt.slice z (some (j:Int)) none=⟨(z.cps.toList.drop j).toArray⟩:=by
 have e:=StrLaws.sliceText_from (x:=z) (i:=(j:Int)) ⟨by lia,by rw[xL];lia⟩;rw[show((j:Int)).toNat=j by lia,SY (by rw[SA];lia)]at e;exact e
end K1
namespace L2
open PySem PySem.Spec PyProof.Rows
section
variable{X:Cx}{m:Str}{o e:Expr}{es:OD}{ta:TE}{t:TA}{pos apos:Pos}
inductive xM(X:Cx)(m:Str)(t:TA)(σ:St)(Q:VK)(x:V)(H1:Hp):Prop|mk (a C dx:Addr) (fs:List (Str×V)) (f:Addr) (fd:OJ) (k:Nat) (ps:OC) (sp:Sp) (CX:X7) (E:XK) (_:x=.ref a) (_:H1 a=some (.ins C dx fs)) (_:fs.lookup m=none) (_:YN X.K C) (_:Yz X.K C m f) (_:Zq X.prog X.w X.K X.mg X.base CX k f fd ps sp) (_:YA k X.A) (_:X8 X.K fd ps []) (_:WL CX X E) (_:t σ H1 fun vs H2=>sp (.ref a::vs) H2 Q E)
def xN(X:Cx)(m:Str)(ta:TE)(t:TA):TE:=fun c H Q=>ta c H fun x f=>xM X m t c Q x f
theorem U5{pl:Sem Bool}(S:PE X o ta)(ha:PA X (e::es) t)
  (D:starEach (e::es) X.env=(false,eval e X.env)::starEach es X.env:=by rfl) (y:(backTo pos (starEach es X.env)).any (·.1)=false:=by rfl)
  (L:eval (.Call (.Attribute o m apos) (e::es) [] pos) X.env=(do
   let n <-eval o X.env
   standAt apos.atName
   let (f,first) <-holding [n] (getMethod n m pl)
   callWith pos f first (backTo pos (starEach (e::es) X.env)) (backToKw pos (keywordEach [] X.env))):=by rfl) :
  PE X (.Call (.Attribute o m apos) (e::es) [] pos) (xN X m ta t):=by
 intro pins s j H Q I h;refine W.methodCall_KW (pl:=pl) (Zv (S pins s j H _ I h) fun u P z=>?_) L;obtain⟨x,M,g,J,a,C,dx,fs,f,Y,k,ps,sp,Z,E,ex,v,l,c,hm,F,O,T,B,q⟩:=z;subst ex;obtain rfl:u=Value.ref a:=J;refine F2 g v c hm l ?_;refine W.callWith_K (first:=[.ref a]) (h₀:=X.base) I.ok.mod.kin hm.kp (Zv (ha pos pins P j M _ g q) fun us s2 ⟨vs,U,i,r,G⟩=>⟨i.kIn,?_⟩) D y;exact Qq (us:=.ref a::us) (vs:=.ref a::vs) (dvs:=[]) F O T .nil B i (.cons R r) (by rw[Ob];exact G)
theorem F7{pl:Sem Bool}(G:PE X o ta)
  (y:eval (.Call (.Attribute o m apos) [] [] pos) X.env=(do
   let i <-eval o X.env
   standAt apos.atName
   let (f,first) <-holding [i] (getMethod i m pl)
   callWith pos f first (backTo pos (starEach [] X.env)) (backToKw pos (keywordEach [] X.env))):=by rfl) :
  PE X (.Call (.Attribute o m apos) [] [] pos) (xN X m ta Xw):=by
 intro pins s D H Q I h;refine W.methodCall_KW (pl:=pl) (Zv (G pins s D H _ I h) fun u P z=>?_) y;obtain⟨x,O,g,v,a,C,S,fs,f,L,k,T,sp,M,E,ex,j,l,c,hm,F,B,J,n,q⟩:=z;subst ex;obtain rfl:u=Value.ref a:=v;refine F2 g j c hm l ?_;exact W.callWith_K0 (first:=[.ref a]) g.kIn hm.kp (Qq (us:=[.ref a]) (vs:=[.ref a]) (dvs:=[]) F B J .nil n g (.cons R .nil) q)
structure ML(K:Ow)(C:Addr):Prop where
 makes:W.makesIn K C=true
 init:W.findIn K (.ref C) "__init__" = some (some (.builtin "object.__init__"))
 kp:W.keepIn K (.ref C)=true
def Zeb(C:Addr):TE:=fun _ H Q=>∀x c,H x=none->H c=none->c≠x->Q (.ref x) (Za (Za H c (.own x)) x (.ins C c []))
theorem xO{C:Addr}{x:Str}{p:Pos}(M:ML X.K C)(i:Gl X x)(hm:X.mg x=some (.ref C))(f:(x == ("__debug__" : Str))=false:=by lia):PE X (.Call (.Name x p) [] [] pos) (Zeb C):=by
 intro pins s j H Q I h;refine wpAny_Call_Name_kw (Uw I i hm ?_ f);refine W.callWith_K0 I.kIn M.kp ?_;have q:=h (s.heap.objs.size+1) s.heap.objs.size (I.hok.fresh (Nat.le_succ _)) (I.hok.fresh (Sg _)) (Sf (Sm _));have g:=Zc.made (C:=C) I;have Y:=W.makes_of (M:=model X.prog X.w) I.kIn M.makes;refine wpAny_call (Zc3 (C:=C) I.kIn M.makes M.init (fun self=>W.Looks.of_pure (W.oi_bind self)) ?_);have g1:((s.heap.push W.emptyDict).push (W.instObj C s.heap.objs.size)).get? (s.heap.objs.size+1)=some (W.instObj C s.heap.objs.size):=by
  have:=Sd (s.heap.push W.emptyDict) (o:=W.instObj C s.heap.objs.size) R;rw[Heap.size_push]at this;exact this
 have c:W.Looks (model X.prog X.w) ((s.heap.push W.emptyDict).push (W.instObj C s.heap.objs.size)) (typeOf (.ref (s.heap.objs.size+1))) (.ref C):=(W.Looks.ld g1).andThen .now;have t2:W.Looks (model X.prog X.w) ((s.heap.push W.emptyDict).push (W.instObj C s.heap.objs.size)) (isInstance (.ref (s.heap.objs.size+1)) (.type "object")) true :=
  c.andThen (Y.top.keeps fun b o e=>Sc _ (Sc _ e))
 refine codeAny_call_builtin W.oi_plain W.entry_oi ?_;refine @W.check_slot (model X.prog X.w) _ _ _ "object.__init__" "object" "__init__" (.ref (s.heap.objs.size+1)) [] [] _ W.oi_kind W.oi_split t2 (W.oi_args _) ?_;rw[W.oi_run];exact Sb (And.intro rfl ⟨.ref _,_,g,rfl,q⟩)
end
theorem MN(ns:OE):∀k,k<=ns.length->preSum (fun i=>ns.getD i 0) k=(ns.take k).sum
 |0,_=>by simp[preSum]
 |k+1,h=>by
  have c:=MN ns k (by lia);show preSum (fun i=>ns.getD i 0) k+ns.getD k 0=_;rw[c,SZ,List.sum_append];have e:k<ns.length:=by lia
  rw[List.getD_eq_getElem?_getD,Ss e];simp
theorem Zec{X:Cx}(Y:X.calm=true):Xb X (.builtin "sum") (fun xs H Q=>∃(p:Addr) (ns:OE),xs=[.ref p]/\Zg X.K H p (ns.map V.int)/\(∀n∈ns,0<=n/\n<=1000000)/\ns.length<=1000/\Q (.int ns.sum) H):=by
 intro pins s σ H xs us Q I r b0;obtain⟨p,ns,rfl,P,L,hl,q⟩:=b0;obtain⟨c0,rfl,U⟩:=WT r;cases U;obtain⟨f,y,u,hz⟩:=I.list P;have hlen:=y.length;obtain⟨o,n,E,_⟩:=id u;have O:p≠s.heap.objs.size:=Sf (Se E);have bound:∀k,k<=ns.length->0<=(ns.take k).sum/\(ns.take k).sum<=1000000*k:=by
  intro k
  induction k with
  |zero=>intro _;simp
  |succ k ih =>
   intro D;have B:k<ns.length:=by lia
   have:=ih (by lia);have b:=L ns[k] (Oi B);rw[SZ,List.sum_append,Ss B];simp only[Option.toList_some,List.sum_cons,List.sum_nil];lia
 refine call_sum_walk (wpAny_pyIter_list u.isList ?_);refine⟨s.heap.objs.size,[s.heap.objs.size,p],[s.heap.objs.size],f.toArray.size,_,_,fun i=>ns.getD i 0,R,Walks.list (A:=X.A.in1) (I.ok.hd Y) _ _ O f.toArray,⟨⟨_,Sd _ R,R,R⟩,?_⟩,?_,?_,?_,fun S tk t' D=>?_⟩
 ·obtain⟨o2,h,T⟩:=u.isList
  exact⟨o2,Sc _ h,T⟩
 ·intro b g
  show b<(s.heap.push _).objs.size;rw[Heap.size_push];rcases SE.mp g with rfl|g
  ·exact Sm _
  ·rw[SD.mp g]
   exact Sn (Se E)
 ·intro i v Z
  have J:f[i]? = some v:=by simpa using Z
  have C:i<ns.length:=by
   have:=(Sr.mp J).1;rw[<-hlen,Sv]at this;exact this
  obtain⟨w,c,h⟩:=y.get (i:=i) (x:=.int ns[i]) (by rw[S0,Ss C];rfl);rw[J]at c;cases c;obtain⟨t,rfl⟩:=h;exact⟨t,by dsimp only;rw[List.getD_eq_getElem?_getD,Ss C];rfl⟩
 ·intro j M
  have G:j<ns.length:=by
   rw[SM,<-hlen,Sv]at M;exact M
  have b1:=L ns[j] (Oi G);have b2:=bound (j+1) (by lia);have c:ns.getD j 0=ns[j]:=by rw[List.getD_eq_getElem?_getD,Ss G];rfl
  rw[MN ns (j+1) (by lia)];dsimp only;rw[c];have b3:(1000000:Int)*((j+1:Nat):Int)<=1000000000:=by lia
  unfold InLong;lia
 ·have a0:∀b o,s.heap.get? b=some o->S.get? b=some o:=fun b o e=>D b o (fun z=>by
   have c:=Se e;rw[SD.mp z]at c;exact Oq c (Sl _)) (Sc _ e)
  have e:preSum (fun i=>ns.getD i 0) f.toArray.size=ns.sum:=by
   rw[SM,<-hlen,Sv,MN ns _ (Sg _),List.take_length]
  rw[e];exact⟨.int _,H,I.kept (t':=tk) a0,⟨_,R⟩,q⟩
structure Zlb(K:Ow)(x qual:Str)(st:Stmt)(f:Addr)(fd:OJ)(D:Addr)(ds:OB):Prop where
 ex:∃(oc:Value) (od:OF) (kV doc pm:Value) (an:OF) (cdv ct:Value) (osl:Oz),
  fd=W.fnOf x qual (Qt st) (Uo st) (Zw st) (.ref D) kV doc pm an cdv ct/\K.lookup f=some ⟨oc,od,.func fd,osl⟩/\W.codeIn K cdv qual=true
 dt:∃(o:Obj) (n:Nat),K.lookup D=some o/\o.data=.seq ds.toArray n
 kp:W.keepIn K (.ref f)=true
section
variable{P:Program}{w:World}{K:Ow}{mg:Ov}{base:Heap}{x qual:Str}{st:Stmt}{f D:Addr}{fd:OJ}{ds:OB}
end
end L2
namespace K1
open PySem L2
inductive RT where
 |always
 |week (b:Nat)
 |span (a b:Nat) (r:RT)
 |each (n:Nat) (ss:OG)
 |either (r s:RT)
 |both (r s:RT)
 |but (ds:OG) (r:RT)
def RT.weight:RT->Nat
 |.always|.week _|.each _ _=>1
 |.span _ _ r|.but _ r=>1+r.weight
 |.either r s|.both r s=>1+(r.weight+s.weight)
def RT.depth:RT->Nat
 |.always|.week _|.each _ _=>1
 |.span _ _ r|.but _ r=>1+r.depth
 |.either r s|.both r s=>1+max r.depth s.depth
def RT.runs:RT->Nat->Bool
 |.always,_=>true
 |.week b,d=>b/2 ^ (d%7)%2 == 1
 |.span a b r,d=>decide (a<=d) && decide (d<=b) && r.runs d
 |.each n c,d=>c.contains (d%n)
 |.either r s,d=>r.runs d || s.runs d
 |.both r s,d=>r.runs d && s.runs d
 |.but ds r,d=>r.runs d != ds.contains d
theorem RT.depth_pos:∀r:RT,1<=r.depth
 |.always|.week _|.each _ _=>Sg 1
 |.span _ _ r|.but _ r=>On 1 _
 |.either r s|.both r s=>On 1 _
structure RC where
 rule:Addr
 week:Addr
 span:Addr
 each:Addr
 either:Addr
 both:Addr
 but:Addr
abbrev Yb(l:OG):List V:=l.map fun n=>V.int (n:Nat)
inductive ZZ(c:RC)(K:Ow)(H:Hp):Addr->RT->Prop
 |always {a dx:Addr} (h:H a=some (.ins c.rule dx [])):ZZ c K H a .always
 |week {a dx:Addr} {b:Nat} (h:H a=some (.ins c.week dx [("bits",.int b)])) (hb:b<=127):ZZ c K H a (.week b)
 |span {a dx i:Addr} {x y:Nat} {r:RT} (h:H a=some (.ins c.span dx [("first",.int x),("last",.int y),("inner",.ref i)])) (hx:x<=y) (hy:y<=9999) (hi:ZZ c K H i r):ZZ c K H a (.span x y r)
 |each {a dx p:Addr} {n:Nat} {ss:OG} (h:H a=some (.ins c.each dx [("length",.int n),("starts",.ref p)])) (hn:1<=n) (hn2:n<=28) (hp:Zk K H p (Yb ss)):ZZ c K H a (.each n ss)
 |either {a dx i j:Addr} {r s:RT} (h:H a=some (.ins c.either dx [("one",.ref i),("other",.ref j)])) (hi:ZZ c K H i r) (hj:ZZ c K H j s):ZZ c K H a (.either r s)
 |both {a dx i j:Addr} {r s:RT} (h:H a=some (.ins c.both dx [("one",.ref i),("other",.ref j)])) (hi:ZZ c K H i r) (hj:ZZ c K H j s):ZZ c K H a (.both r s)
 |but {a dx p i:Addr} {ds:OG} {r:RT} (h:H a=some (.ins c.but dx [("days",.ref p),("inner",.ref i)])) (hp:Zk K H p (Yb ds)) (hi:ZZ c K H i r):ZZ c K H a (.but ds r)
theorem ZZ.same{c:RC}{K:Ow}{H j:Hp}(s:Ze H j){a:Addr}{r:RT}(h:ZZ c K H a r):ZZ c K j a r:=by
 induction h with
 |always h=>exact .always (s _ _ h)
 |week h u=>exact .week (s _ _ h) u
 |span h v q _ g=>exact .span (s _ _ h) v q g
 |each h hn n i=>exact .each (s _ _ h) hn n (Zk.sameT s i)
 |either h _ _ f e=>exact .either (s _ _ h) f e
 |both h _ _ f e=>exact .both (s _ _ h) f e
 |but h i _ g=>exact .but (s _ _ h) (Zk.sameT s i) g
theorem F8(d:Nat):∀l:List Nat,U1 (.int d) (Yb l)=l.contains d
 |[]=>rfl
 |x::r=>by
  have c:=F8 d r;show(W8 (.int (x:Int)) (.int (d:Int)) || U1 (.int (d:Int)) (Yb r))=_;rw[c,List.contains_cons]
  congr 1
  show((x:Int) == (d:Int))=(d == x);rw[Bool.eq_iff_iff,beq_iff_eq,beq_iff_eq];lia
theorem K2(l:OG):(Yb l).all UB=true:=by
 rw[List.all_map];exact List.all_eq_true.mpr fun _ _=>R
theorem Zed(b k:Nat):(Builtin.bitAnd ((b:Int)/2 ^ k) 1 == 1)=(b/2 ^ k%2 == 1):=by
 have e:(b:Int)/2 ^ k=((b/2 ^ k:Nat):Int):=by
  rw[SX,Int.natCast_pow];rfl
 rw[e,PyProof.Rows.bitAnd_pp (Int.natCast_nonneg _) (by lia)];have c:(((b/2 ^ k:Nat):Int).toNat &&& (1:Int).toNat:Nat)=b/2 ^ k%2:=by
  rw[Int.toNat_natCast];exact Nat.and_one_is_mod _
 rw[c,Bool.eq_iff_iff,beq_iff_eq,beq_iff_eq];lia
end K1
namespace L2
open PySem PySem.Spec PyProof.Rows
def B0:Option Int->Int->Int
 |none,y=>y
 |some x,y=>if y>x then y else x
def VM:Option Int->List Int->Option Int
 |b,[]=>b
 |b,y::r=>VM (some (B0 b y)) r
def xP(S:Addr)(h:Heap)(b:Option Int):Prop:=∃(e:Array Value) (c:Nat),h.get? S=some { cls:=.type "list",dict:=none,data:=.seq e c,slots:=#[] }/\match b with
 |none=>e = #[]
 |some x=>∃t,e = #[.int x t,.int x t]
def Zee(d:Value)(b:Option Int)(v:Value):Prop:=match b with
 |none=>v=d
 |some x=>∃t,v=.int x t
theorem Zef{prog:Program}{w:World}{A:Around}{R:Result->Shared->Prop}{I:Addr}{fp wr:OH}{n:Nat}{P:Nat->Value->Prop}{St:Nat->Heap->Prop}{nm:Str}{d:Value}{g:Nat->Int}
  (W:Walks prog w A.in1 I fp wr n P St) (hg:∀i v,P i v->∃t,v=.int (g i) t) {S:Addr} (out:S∉fp) :
  ∀(l:OE) (j:Nat) (s:Shared) (b:Option Int),j+l.length=n->(∀i y,l[i]? = some y->y=g (j+i))->St j s.heap->xP S s.heap b ->
  (∀v h' tk,Zee d (VM b l) v->(∀a o,a∉wr->a≠S->s.heap.get? a=some o->h'.get? a=some o)->R (.ok (.ret v)) { s with heap:=h',toks:=tk }) ->
  codeAny (model prog w) A (.builtin "max.loop" ⟨[.ref I,.none,.ref S],[(nm,d)]⟩) R s:=by
 have O:S∉wr:=fun z=>out (W.sub _ z);have H:(toString "max" ++ toString ".loop" : String) = "max.loop" := by lia
 intro l
 induction l with
 |nil =>
  intro j s b D E st m q;obtain rfl:j=n:=D;obtain⟨Q,a0,e,z⟩:=id m;apply codeAny_builtin PySem.F.entry_max_loop;rw[Around.under_plainId PySem.F.plain_max_loop];apply Sa;apply wpAny_seqItems e rfl;apply Sa;apply wpAny_tryCatch;apply W.done s _ _ st;intro h' tk k;cases b with
  |none =>
   subst z;apply Sa;apply wpAny_rule;apply Sb;exact q d h' tk rfl fun a o f _ u=>k a o f u
  |some x =>
   obtain⟨t,rfl⟩:=z;apply Sa;refine wpAny_updateSeq (k S _ O e) rfl ?_;apply Sa;apply wpAny_letGo;apply Sb;exact q _ _ tk ⟨t,rfl⟩ fun a o f c u=>(Heap.get?_update_other _ _ (Ne.symm c)).trans (k a o f u)
 |cons y l ih =>
  intro j s b D E st m q;obtain⟨Q,a0,e,z⟩:=id m;have U:j<n:=by rw[<-D,Sy];lia
  have J:y=g j:=E 0 y rfl;apply codeAny_builtin PySem.F.entry_max_loop;rw[Around.under_plainId PySem.F.plain_max_loop];apply Sa;apply wpAny_seqItems e rfl;apply Sa;apply wpAny_tryCatch;apply W.item j s _ _ U st;intro v h' tk pv Z k;obtain⟨h,rfl⟩:=hg j v pv;have B:=k S _ O e;have next:∀(c:Heap),xP S c (some (B0 b y))->(∀a o,a≠S->h'.get? a=some o->c.get? a=some o)->codeAny (model prog w) A (.builtin "max.loop" ⟨[.ref I,.none,.ref S],[(nm,d)]⟩) R { s with heap:=c,toks:=tk }:=fun c m2 M =>
   ih (j+1) { s with heap:=c,toks:=tk } _ (by rw[<-D,Sy];lia) (fun i y' hy=>(E (i+1) y' hy).trans (by congr 1;lia))
    (W.frame _ _ _ Z fun a ha o ho=>M a o (fun z=>out (z ▸ ha)) ho) m2 fun T u Y r k3=>q T u Y r fun a o f L X=>k3 a o f L (M a o L (k a o f X))
  cases b with
  |none =>
   subst z;show wpAny _ _ (updateSeq S (fun _=>#[.int (g j) h,.int (g j) h]) >>= _) _ _ _;apply Sa;refine wpAny_updateSeq B rfl ?_;rw[H];apply Sb;refine⟨plainId_quiet PySem.F.plain_max_loop _,next _ ⟨_,_,Heap.get?_update_self _ B rfl,h,?_⟩ fun a o f c=>(Heap.get?_update_other _ _ (Ne.symm f)).trans c⟩;rw[J];rfl
  |some x =>
   obtain⟨t,rfl⟩:=z;show wpAny _ _ (tryCatch (holding [.int (g j) h,.int (g j) h] (richCompare .Gt (.int (g j) h) (.int x t) >>= _)) _ >>= _) _ _ _;apply Sa;apply wpAny_tryCatch;apply wpAny_holding;apply Sa;refine CmpOf.ints_gt (P:=fun i v=>∃t,v=.int (if i=0 then g j else x) t) (fun i=>if i=0 then g j else x) (fun _ _ z=>z) 0 1 _ _ _ _ _ ⟨_,rfl⟩ ⟨_,rfl⟩ ?_;apply Sa;apply wpAny_holding;apply wpAny_truthy_bool;apply Sa;apply wpAny_letGo;apply Sb;by_cases C:g j>x
   ·rw[SV (show(fun i G:Nat=>decide ((if i=0 then g j else x)>if G=0 then g j else x)) 0 1=true from SO C)]
    apply Sa;refine wpAny_updateSeq B rfl ?_;apply Sa;apply wpAny_letGo;rw[H];apply Sb;refine⟨plainId_quiet PySem.F.plain_max_loop _,next _ ⟨_,_,Heap.get?_update_self _ B rfl,h,?_⟩ fun a o f c=>(Heap.get?_update_other _ _ (Ne.symm f)).trans c⟩;rw[show B0 (some x) y=g j by rw[J];exact SV C]
   ·rw[SU (show ¬(fun i G:Nat=>decide ((if i=0 then g j else x)>if G=0 then g j else x)) 0 1=true from fun z=>C (SR z))]
    apply Sa;apply wpAny_letGo;rw[H];apply Sb;refine⟨plainId_quiet PySem.F.plain_max_loop _,next _ ⟨_,_,B,t,?_⟩ fun a o _ c=>c⟩;rw[show B0 (some x) y=x by rw[J];exact SU C]
theorem Zeg(a v:Value):argsOk "max" ⟨[a],[(OK "default",v)]⟩:=by unfold argsOk;kernel_rfl
theorem Zeh{X:Cx}{pins:Ou}{s:Shared}{E:St}{H:Hp}{Q:VK}{p:Addr}{ns:OE}{d:Int}{f:Tok}(S:X.calm=true)(I:Zc X pins E H s)(L:Zg X.K H p (ns.map V.int))(q:Q (.int ((VM none ns).getD d)) H) :
  wpAny (model X.prog X.w) X.A (call (.builtin "max") [.ref p] [(OK "default",.int d f)]) (EP X pins E Q) X.xe s:=by
 obtain⟨u,y,n,Z⟩:=I.list L;have hlen:=y.length;obtain⟨o,a0,C,_⟩:=id n;have J:p≠s.heap.objs.size:=Sf (Se C);have Y:(toString "max" ++ toString ".loop" : String) = "max.loop" := by lia
 refine kmb_tree PySem.F.kind_max PySem.F.plain_max PySem.F.entry_max (Zeg _ _) ?_;show wpAny _ _ (Builtin.Builtins.bindParams "max" ["key","default"] 0 ⟨[],[(OK "default",.int d f)]⟩ >>= _) _ _ s;apply Sa;refine wpAny_of_eq (show Builtin.Builtins.bindParams "max" ["key","default"] 0 ⟨[],[(OK "default",.int d f)]⟩=pure [none,some (.int d f)] from R) ?_;apply Sa;apply Sb;apply Sa;refine wpAny_pyIter_list n.isList ?_;apply Sa;refine wpAny_newObj_type ?_;rw[Y];refine Sb ⟨plainId_quiet PySem.F.plain_max_loop _,?_⟩;refine Zef (fp:=[s.heap.objs.size,p]) (wr:=[s.heap.objs.size]) (g:=fun i=>ns.getD i 0) (Walks.list (A:=X.A.in1) (I.ok.hd S) _ _ J u.toArray) ?_ ?_ ns 0 _ none ?_ ?_ ?_ ?_ ?_
 ·intro i v h
  have G:u[i]? = some v:=by simpa using h
  have B:i<ns.length:=by
   have:=(Sr.mp G).1;rw[<-hlen,Sv]at this;exact this
  obtain⟨w,c,j⟩:=y.get (i:=i) (x:=.int ns[i]) (by rw[S0,Ss B];rfl);rw[G]at c;cases c;obtain⟨t,rfl⟩:=j;exact⟨t,by rw[List.getD_eq_getElem?_getD,Ss B];rfl⟩
 ·intro hm
  have c:(s.heap.push { cls:=.type "list_iterator",data:=.fields #[.ref p,.int 0 0] }).objs.size=s.heap.objs.size+1:=Heap.size_push ..;have lt:=Se C;rcases SE.mp hm with z|z
  ·have:s.heap.objs.size+1=s.heap.objs.size:=c.symm.trans z
   lia
  ·have:s.heap.objs.size+1=p:=c.symm.trans (SD.mp z)
   rw[<-this]at lt;exact Oq lt (Og.mpr (Nat.le_succ _))
 ·rw[SM,<-hlen,Sv,Nat.zero_add]
 ·intro i b0 T
  rw[Nat.zero_add,List.getD_eq_getElem?_getD,T];rfl
 ·refine⟨⟨_,Sc _ (Sd _ R),R,R⟩,?_⟩
  obtain⟨U,j,O⟩:=n.isList;exact⟨U,Sc _ (Sc _ j),O⟩
 ·exact⟨_,_,Sd _ R,R⟩
 ·intro v M tk r k
  have P:∀b o,s.heap.get? b=some o->M.get? b=some o:=fun b o e=>k b o (fun z=>by
    have c:=Se e;rw[SD.mp z]at c;exact Oq c (Sl _)) (fun z=>by
    have c:=Se (Sc { cls:=.type "list_iterator",data:=.fields #[.ref p,.int 0 0] } e);rw[z]at c;exact Oq c (Sl _)) (Sc _ (Sc _ e))
  have h:∃D,v=.int ((VM none ns).getD d) D:=by
   cases e:VM none ns with
   |none=>rw[e]at r;exact⟨f,r⟩
   |some x=>rw[e]at r;exact r
  obtain⟨D,rfl⟩:=h;exact⟨.int _,H,I.kept (t':=tk) P,⟨_,R⟩,q⟩
inductive Zei(K:Ow)(Q:VK)(vs:List V)(zs:List V)(H2:Hp):Prop|mk (p:Addr) (ns:OE) (d:Int) (_:vs=[.ref p]) (_:zs=[.int d]) (_:Zg K H2 p (ns.map V.int)) (_:Q (.int ((VM none ns).getD d)) H2)
def Zej(K:Ow)(t tk:TA):TE:=fun c H Q=>t c H fun f g=>tk c g fun zs e=>Zei K Q f zs e
theorem Zek{X:Cx}{e:Expr}{g:OD}{f:List Keyword}{t tk:TA}{p c:Pos}(G:X.calm=true)(S:Gl X "max") (hm:X.mg "max" = none) (J:bootBuiltins "max" = some (.builtin "max"))
  (ha:PA X (e::g) t) (U:PK X f tk) (O:(backToKw c (keywordEach f X.env)).all (·.1.isSome)=true:=by rfl) (C:(backToKw c (keywordEach f X.env)).filterMap (·.1)=[OK "default"]:=by rfl)
  (T:starEach (e::g) X.env=(false,eval e X.env)::starEach g X.env:=by rfl)
  (v:(backTo c (starEach (e::g) X.env)).any (·.1)=false:=by rfl) (j:(backToKw c (keywordEach f X.env)).any (·.1.isNone)=false:=by rfl) :
  PE X (.Call (.Name "max" p) (e::g) f c) (Zej X.K t tk):=by
 intro pins s i H Q I h;refine wpAny_Call_Name_kw (UV I S hm J ?_ (by lia) (by lia));refine callWith_builtin_kwB v j (evalArgs_kw2 O (Zv (ha c pins s i H _ I h) fun us P ⟨Z,L,n,r,q⟩=>?_) T);refine Zv (U c pins P i L _ n q) fun ws s2 ⟨zs,Y,M,D,x⟩=>?_;rw[C];obtain⟨l,ns,d,rfl,rfl,B,y⟩:=x;obtain⟨u,rfl,E⟩:=WT r;cases E;obtain⟨u,rfl,td,rfl⟩:=WT D;exact Zeh G M B y
open PySem
abbrev UG(xs:Array Nat):Prop:=xs.toList.Pairwise (· < ·)
theorem K3{xs:Array Nat}(h:UG xs){i k d:Nat}(e:i<k)(c:k<xs.size):xs.getD i d<xs.getD k d:=by
 have q:=List.pairwise_iff_getElem.mp h i k (by simpa using Nat.lt_trans e c) (by simpa using c) e;simpa [Array.getD,Nat.lt_trans e c,c]using q
theorem MO{xs:Array Nat}{j:Nat}(h:UG xs):∀(n lo hi:Nat),hi - lo<=n->lo<=hi->hi<=xs.size->(∀i,i<lo->xs.getD i j<j)->(∀i,hi<=i->i<xs.size->j<=xs.getD i j) ->
  SetTable.below.go xs j n lo hi<=xs.size/\(∀i,i<SetTable.below.go xs j n lo hi->xs.getD i j<j)/\∀i,SetTable.below.go xs j n lo hi<=i->i<xs.size->j<=xs.getD i j
 |0,lo,hi,hn,v,f,h1,g=>by
  have e:lo=hi:=by lia
  subst e;exact⟨f,h1,g⟩
 |n+1,lo,hi,hn,v,f,h1,g=>by
  unfold SetTable.below.go;by_cases c:lo<hi
  ·rw[SV c]
   dsimp only;by_cases d:xs.getD ((lo+hi)/2) j<j
   ·rw[SV d]
    refine MO h n _ hi (by lia) (by lia) f (fun i q=>?_) g;by_cases e:i=(lo+hi)/2
    ·rw[e];exact d
    ·exact Nat.lt_trans (K3 h (show i<(lo+hi)/2 by lia) (by lia)) d
   ·rw[SU d]
    refine MO h n lo _ (by lia) (by lia) (by lia) h1 (fun i q u=>?_);by_cases e:i=(lo+hi)/2
    ·rw[e];lia
    ·have:=K3 (d:=j) h (show(lo+hi)/2<i by lia) u
     lia
  ·rw[SU c]
   have e:lo=hi:=by lia
   subst e;exact⟨f,h1,g⟩
theorem MP{xs:Array Nat}{j:Nat}(h:UG xs):SetTable.below xs j<=xs.size/\(∀i,i<SetTable.below xs j->xs.getD i j<j)/\∀i,SetTable.below xs j<=i->i<xs.size->j<=xs.getD i j :=
 MO h _ 0 _ (by lia) (Sk _) (Sg _) (fun i z=>Oq z (Nat.not_lt_zero _)) (fun i a b=>by lia)
theorem Zel{xs:Array Nat}{j:Nat}(h:UG xs)(hn:xs[SetTable.below xs j]?≠some j):UG (SetTable.insertAt xs (SetTable.below xs j) j):=by
  obtain⟨B,x,u⟩:=MP (j:=j) h;show List.Pairwise _ _;rw[SetTable.toList_insertAt];have get:∀i (c:i<xs.size),xs.getD i j=xs.toList[i]'(by simpa using c):=fun i c=>by simp[Array.getD,c]
  have q:∀b∈xs.toList.drop (SetTable.below xs j),j<b:=fun b f=>by
    obtain⟨i,c,rfl⟩:=List.getElem_of_mem f;rw[SA]at c;have hz:SetTable.below xs j+i<xs.size:=by simpa using(show SetTable.below xs j+i<xs.toList.length by lia)
    rw[List.getElem_drop,<-get _ hz];have g:=u _ (On (SetTable.below xs j) i) hz;refine Nat.lt_of_le_of_ne g fun e=>?_;by_cases v:i=0
    · subst v
      refine hn ?_;rw[Nat.add_zero]at e hz;rw[Array.getElem?_eq_getElem hz];have:=get _ hz;rw[<-e]at this;simpa using this.symm
    · have l:=K3 (d:=j) h (show SetTable.below xs j<SetTable.below xs j+i by lia) hz
      have y:=u _ (Sg _) (show SetTable.below xs j<xs.size by lia);lia
  refine List.pairwise_append.mpr ⟨h.sublist (List.take_sublist _ _),List.pairwise_cons.mpr ⟨q,h.sublist (List.drop_sublist _ _)⟩,fun a ha b f=>?_⟩;have n:a<j:=by
    obtain⟨i,c,rfl⟩:=List.getElem_of_mem ha;rw[Sx]at c
    have hz : i < xs.size := by have : xs.toList.length=xs.size := by simp
                                lia
    rw[List.getElem_take,<-get _ hz];exact x i (by lia)
  rcases SE.mp f with rfl|f
  · exact n
  · exact Nat.lt_trans n (q b f)
structure U6(t:OI):Prop where
 du:t.dummies = #[]
 ri:t.plain=true->UG t.place
theorem xQ(j:Nat):SetTable.has #[] j=false:=rfl
theorem Zem{t:OI}{j:Nat}(h:t.slot j=.empty):t.place[SetTable.below t.place j]?≠some j:=by
 intro e;unfold SetTable.slot at h;dsimp only at h;rw[e]at h;simp at h
theorem Zen{t:OI}(c:U6 t){j:Nat}:t.slot j≠.dummy:=by
 unfold SetTable.slot;rw[c.du];dsimp only
 split
 ·intro z;cases z
 ·rw[xQ]
  intro z;cases z
theorem xR{t:OI}(q:U6 t){g:Nat->Int}{h:Int}:∀(n:Nat) (p:SetTable.Probe) (j:Nat) (d:Option Nat),p.dummy=none->SetTable.probe.go t g h n p=some (.empty j d)->t.slot j=.empty/\d=none
 |0,p,j,d,_,e=>by cases e
 |n+1,p,j,d,f,e=>by
  unfold SetTable.probe.go at e;cases c:t.slot p.j with
  |empty =>
   rw[c]at e;injection e with e;injection e with v u;subst v;exact⟨c,u.symm.trans f⟩
  |dummy=>exact Oq c (Zen q)
  |live i =>
   rw[c]at e;dsimp only at e
   split at e
   ·injection e with e;cases e
   ·refine xR q n _ j d ?_ e
    unfold SetTable.advance
    split
    ·exact f
    ·exact f
theorem Zeo{t:OI}(e:U6 t)(f:Array (Int×Value))(h:Int)(x:Value):U6 (layNew t f h x).2.1/\(layNew t f h x).2.1.led=t.led:=by
 unfold layNew;cases c:t.freeSlot h with
 |none=>exact⟨⟨R,fun z=>by cases z⟩,rfl⟩
 |some q =>
  obtain⟨j,v⟩:=q;have u:t.slot j=.empty:=by
   unfold SetTable.freeSlot at c
   split at c
   ·rename_i y C g
    obtain⟨n,rfl⟩:=xR e _ _ _ _ R g;injection c with c;injection c with i B;rw[<-i];exact n
   ·cases c
  dsimp only;unfold SetTable.orStandIn
  split
  ·refine⟨⟨?_,fun z=>?_⟩,R⟩
   ·show(if SetTable.has t.dummies j=true then _ else t.dummies) = #[]
    rw[e.du,xQ];rfl
   ·exact Zel (e.ri z) (Zem u)
  ·exact⟨⟨R,fun z=>by cases z⟩,rfl⟩
theorem Zep{t:OI}(x:U6 t)(e:Array (Int×Value))(n:Nat):U6 (relayAll t e n).2.1/\(relayAll t e n).2.1.led=t.led:=by
 unfold relayAll;cases c:t.relaid (e.map (·.1)) n with
 |none=>exact⟨⟨R,fun z=>by cases z⟩,rfl⟩
 |some q =>
  obtain⟨v,C⟩:=q;dsimp only
  split
  ·unfold SetTable.relaid SetTable.laid at c
   cases h:SetTable.layClean (SetTable.sizeAbove n - 1) (e.map (·.1))with
   |none=>rw[h]at c;cases c
   |some f =>
    rw[h]at c;injection c with c;injection c with u B;subst u;refine⟨⟨R,fun _=>?_⟩,R⟩;show List.Pairwise _ _;rw[List.toList_toArray];rw[List.map_filterMap];refine List.Pairwise.sublist (l₂:=List.range (SetTable.sizeAbove n - 1+1)) ?_ List.pairwise_lt_range;have i:∀l:List Nat,List.Sublist (l.filterMap fun j=>Option.map (fun p:Nat×Nat=>p.1) ((f.getD j none).map fun y=>(j,y))) l:=by
     intro l
     induction l with
     |nil=>exact .slnil
     |cons a r g =>
      rw[List.filterMap_cons];cases f.getD a none with
      |none=>exact g.cons _
      |some y=>exact g.cons_cons _
    exact i _
  ·exact⟨⟨R,fun z=>by cases z⟩,rfl⟩
open PySem
def Xq(e:Int×Value):Int:=match e.2 with
 |.int k _=>k
 |_=>0
section
variable{prog:Program}{w:World}
theorem xS{l:List (Int×Value)}(h:ElemsOf (intKind prog w) l){e:Int×Value}(c:e∈l):∃t,e.2=.int (Xq e) t:=by
 obtain⟨⟨k,f,_⟩,_⟩:=h e c;obtain⟨t,q⟩:=Value.isInt_shape (k:=k) (v:=e.2) f;refine⟨t,?_⟩;unfold Xq;rw[q]
theorem Zeq{l:List (Int×Value)}(h:ElemsOf (intKind prog w) l){e:Int×Value}(c:e∈l){k:Int}(q:(intKind prog w).is k e.2=true):Xq e=k:=by
 obtain⟨t,q⟩:=Value.isInt_shape (k:=k) (v:=e.2) q;unfold Xq;rw[q]
def Xr(prog:Program)(w:World)(h:Heap)(a:Addr)(ks:OE):Prop:=∃(o:Obj) (es:Array (Int×Value)) (ep:Nat) (t:OI),
 h.get? a=some o/\o.ExactSet/\o.data=.set es ep t/\ElemsOf (intKind prog w) es.toList/\t.fits es.size=true/\U6 t/\(w.params.followText "set-order" = false->t.led=true) /\
 (es.toList.map Xq).Nodup/\(∀k,k∈es.toList.map Xq↔k∈ks)/\es.size<=ks.length
theorem Xr.keep{h h':Heap}{a:Addr}{ks:OE}(x:Xr prog w h a ks)(k:∀o,h.get? a=some o->h'.get? a=some o):Xr prog w h' a ks :=
 let ⟨o,es,ep,t,ho,r⟩:=x
 ⟨o,es,ep,t,k _ ho,r⟩
theorem xT{h:Heap}{a:Addr}{o:Obj}{i c:Array (Int×Value)}{e:Nat}{t t':OI}{ks:OE}(u:h.get? a=some o)(n:o.ExactSet)(hd:o.data=.set i e t)
  (f:ElemsOf (intKind prog w) c.toList) (v:t'.fits c.size=true) (j:U6 t') (x:w.params.followText "set-order" = false->t'.led=true) (nd:(c.toList.map Xq).Nodup)
  (mem:∀k,k∈c.toList.map Xq↔k∈ks) (sz:c.size<=ks.length) :
  (h.update a (Obj.putSet c t')).get? a=some { o with data:=.set c (e+1) t' }/\Xr prog w (h.update a (Obj.putSet c t')) a ks:=by
 have g:(h.update a (Obj.putSet c t')).get? a=some { o with data:=.set c (e+1) t' }:=by
  have q:=Heap.get?_update_self (Obj.putSet c t') u (by rw[putSet_of c t' hd];rfl);rw[putSet_of c t' hd]at q;exact q
 exact⟨g,_,c,e+1,t',g,n,R,f,v,j,x,nd,mem,sz⟩
theorem Zer{c e:Array (Int×Value)}(p:List.Perm e.toList c.toList):e.size=c.size:=by
 have:=p.length_eq;simpa using this
theorem Zes{A:Around}{E:Ot}{s:Shared}{a:Addr}{ks:OE}{k:Int}{tk:Tok}{Q:Bool->Shared->Prop}(hS:Xr prog w s.heap a ks)(hr:ks.length+1<scanBound)
  (h:∀b h',Heap.SameBut a s.heap h'->Xr prog w h' a (ks++[k])->Q b { s with heap:=h' }):wpAny (model prog w) A (setAddHashed a (.int k tk) ((intKind prog w).hash k)) Q E s:=by
 obtain⟨o,f,ep,t,y,O,hd,n,S,Z,X,nd,mem,sz⟩:=hS;have hz:f.size<scanBound:=by lia
 have T:(intKind prog w).is k (.int k tk)=true:=intKind_is _ _ _ _;unfold setAddHashed setAddHashedIn;refine wpAny_holding (Sa (wpAny_setState_of y hd S ?_));dsimp only;rw[byScan_of (knd:=intKind prog w) (x:=.int k tk) R hz n];simp only[↓reduceIte];unfold setAddByScan;refine Sa (Sa (wpAny_rule (Sa (wpAny_setScan_of T y hd S n ?_))));cases Y:List.findIdx? (fun e=>(intKind prog w).is k e.2) f.toList with
 |some b0 =>
  dsimp only;obtain⟨hj,hp,_⟩:=List.findIdx?_eq_some_iff_getElem.mp Y;have J:k∈f.toList.map Xq:=SI.mpr ⟨f.toList[b0],Oi hj,Zeq n (Oi hj) hp⟩;have q:=h false s.heap (Heap.SameBut.refl a s.heap) ⟨o,f,ep,t,y,O,hd,n,S,Z,X,nd,fun i=>by
   rw[SF,SD,mem i];exact⟨.inl,fun z=>z.elim id fun e=>by rw[e];exact(mem k).mp J⟩,by rw[Su];lia⟩
  exact Sb (Sb q)
 |none =>
  dsimp only;have J:k∉f.toList.map Xq:=fun z=>by
   obtain⟨e,he,ek⟩:=SI.mp z;have q:=List.findIdx?_eq_none_iff.mp Y e he;obtain⟨te,ee⟩:=xS n he;rw[ee,ek,intKind_is]at q;cases q
  have gw:∀(b:Bool) {P:Shared} {C:OA},C () P->wpAny (model prog w) A (match b with|true=>rule "set.scan.the-table-gave-way" | false=>pure ()) C E P :=
   fun b P C q=>by
    cases b
    ·exact Sb q
    ·exact wpAny_rule q
  have v:=layNew_perm t f ((intKind prog w).hash k) (.int k tk);have L:=layNew_fits t f ((intKind prog w).hash k) (.int k tk);obtain⟨B,H⟩:=Zeo Z f ((intKind prog w).hash k) (.int k tk);generalize layNew t f ((intKind prog w).hash k) (.int k tk)=c0 at v L B H ⊢;obtain⟨c,g,wd,gv⟩:=c0;dsimp only at v L B H ⊢;rw[Array.toList_push]at v;have U:ElemsOf (intKind prog w) c.toList:=(n.push T R).perm v;have km:List.Perm (c.toList.map Xq) (f.toList.map Xq++[k]):=by
   have:=v.map Xq;rw[SK]at this;exact this
  have F6:(c.toList.map Xq).Nodup:=km.nodup_iff.mpr (List.nodup_append.mpr ⟨nd,by simp,fun a ha b u=>by
   rw[SD]at u;subst u;intro e;subst e;exact J ha⟩)
  have a0:∀i,i∈c.toList.map Xq↔i∈ks++[k]:=fun i=>by
   rw[km.mem_iff,SF,SF,mem i]
  have e0:c.size=f.size+1:=by
   have:=v.length_eq;simpa using this
  have z1:c.size<=(ks++[k]).length:=by rw[Su,Sw];lia
  have l1:w.params.followText "set-order" = false->g.led=true:=fun z=>H.trans (X z);refine Sa (gw _ ?_);have tail:∀{M:Option Bool->Shared->Prop},(∀h',Heap.SameBut a s.heap h'->Xr prog w h' a (ks++[k])->M (some true) { s with heap:=h' }) ->
    wpAny (model prog w) A (do
     storeSet a c g
     if (!wd && g.tooFull)=true then do
      (match (relayAll g c (SetTable.grown c.size)).2.2 with|true=>rule "set.scan.the-table-gave-way" | false=>pure ())
      storeSet a (relayAll g c (SetTable.grown c.size)).1 (relayAll g c (SetTable.grown c.size)).2.1
      pure (some true)
     else pure (some true)) M E s:=by
   intro M hR;refine Sa (wpAny_storeSet_of y hd ?_ (fits_of_scanBound (by lia)));obtain⟨g1,i1⟩:=xT (prog:=prog) (w:=w) y O hd U L B l1 F6 a0 z1;have b1:=Heap.SameBut.update s.heap a (Obj.putSet c g)
   split
   ·have j:=relayAll_perm g c (SetTable.grown c.size);have G:=relayAll_fits g c (SetTable.grown c.size)
    obtain⟨t2,D⟩:=Zep B c (SetTable.grown c.size);generalize relayAll g c (SetTable.grown c.size)=d0 at j G t2 D ⊢;obtain⟨f0,t3,g0⟩:=d0;dsimp only at j G t2 D ⊢;have s2:=Zer j;refine Sa (gw _ (Sa (wpAny_storeSet_of g1 R ?_ (fits_of_scanBound (by lia)))));obtain⟨_,i2⟩:=xT (prog:=prog) (w:=w) (ks:=ks++[k]) g1 O R (U.perm j) G t2 (fun z=>D.trans (l1 z)) ((j.map Xq).nodup_iff.mpr F6) (fun i=>by rw[(j.map Xq).mem_iff];exact a0 i) (by lia);exact Sb (hR _ (b1.trans (Heap.SameBut.update _ a _)) i2)
   ·exact Sb (hR _ b1 i1)
  split
  ·refine Sa ?_
   rw[hashByValue_scannable 8 (show Value.scannable (.int k tk)=true from R)];refine Sb ?_;show wpAny _ _ _ _ _ _;exact tail fun h' u I=>Sb (h true h' u I)
  ·refine Sa (Sb ?_)
   exact tail fun h' u I=>Sb (h true h' u I)
end
section
variable{prog:Program}{w:World}{A:Around}{R:Result->Shared->Prop}{I:Addr}{fp wr:OH}{G:Array GenState->Array GenState->Prop}{n:Nat}{P:Nat->Value->Prop}{St:Nat->Shared->Prop}
theorem Zet(W:WalksS prog w A.in1 I fp wr G n P St)(S:Addr)(u:S∉fp)(val:Nat->Int)(C:∀i v,P i v->∃t,v=.int (val i) t)(f:n+1<scanBound) :
  ∀(k i:Nat) (s:Shared),n - i=k->i<=n->St i s->Xr prog w s.heap S ((List.range i).map val)->(∀s',Moved (S::wr) G s s'->Xr prog w s'.heap S ((List.range n).map val)->R (.ok (.ret .none)) s') ->
   codeAny (model prog w) A (.builtin "set.update.loop" ⟨[.ref S,.ref I],[]⟩) R s:=by
 have q:S∉wr:=fun z=>u (W.sub _ z);have x:∀b∈wr,b∈S::wr:=fun b z=>SB _ z;intro k
 induction k with
 |zero =>
  intro i s D c st g h;obtain rfl:i=n:=by lia
  refine codeAny_builtin PyProof.Rows.F.entry_set_update_loop ?_;rw[Around.under_plainId PyProof.Rows.F.plain_set_update_loop _];refine Sa (m:=pyNext (.ref I)) (W.done s _ _ st fun s' hm=>?_);exact Sb (h s' (hm.mono x) (g.keep fun o e=>hm.heap S o q e))
 |succ k E =>
  intro i s D c st g h;have lt:i<n:=by lia
  refine codeAny_builtin PyProof.Rows.F.entry_set_update_loop ?_;rw[Around.under_plainId PyProof.Rows.F.plain_set_update_loop _];refine Sa (m:=pyNext (.ref I)) (W.item i s _ _ lt st fun v s' J y hm=>?_);obtain⟨tk,rfl⟩:=C i v J;have M:=g.keep fun o e=>hm.heap S o q e;refine Sa (m:=holding [Value.int (val i) tk] (setAdd S (.int (val i) tk))) (wpAny_holding ?_);unfold setAdd;refine wpAny_holding (Sa ((intKind prog w).pyHash (k:=val i) (intKind_is _ _ _ _) ?_));refine Zes (s:={ s' with toks:=s'.toks+1 }) M (by rw[Sv,List.length_range];lia) fun b O j c=>?_;have e:((List.range i).map val)++[val i]=(List.range (i+1)).map val:=by rw[Oj,SK];rfl
  rw[e]at c;refine Sb ⟨plainId_quiet PyProof.Rows.F.plain_set_update_loop _,E (i+1) _ (by lia) lt (W.frame _ s' _ _ y (Nat.le_succ _) fun b f o e=>?_) c fun B H L=>?_⟩
  ·rw[j.2 b (fun z:b=S=>u (by rw[<-z];exact f))];exact e
  ·refine h B (Moved.trans W.gtrans ((hm.mono x).then_heap (Nat.le_succ _) fun b o f e=>?_) H) L
   rw[j.2 b (fun z:b=S=>f (by rw[z];exact SC))];exact e
end
open PySem
theorem MQ{c:Type}:∀(l:List c) (i:Nat) (x:c),l[i]? = some x->List.Perm (x::l.eraseIdx i) l
 |[],i,x,h=>by cases h
 |a::r,0,x,h=>by cases h;exact .refl _
 |a::r,i+1,x,h=>(List.Perm.swap a x _).trans ((MQ r i x h).cons a)
theorem xU{c:Type}(f:Nat->Nat):∀(n k:Nat) (l:List c) (out:Array c),l.length=n->List.Perm (pickOrder.go f n k l out).toList (out.toList++l)
 |0,k,l,out,h=>by
  cases l with
  |nil=>unfold pickOrder.go;rw[Ob]
  |cons a r=>cases h
 |n+1,k,l,out,h=>by
  unfold pickOrder.go;have e:f k%l.length<l.length:=Oo _ (by lia);rw[Ss e];dsimp only;have p:=MQ l _ _ (Ss e);refine(xU f n (k+1) _ _ ?_).trans ?_
  ·have:=p.length_eq
   rw[Sy]at this;lia
  ·rw[Array.toList_push,Oc]
   exact List.Perm.append_left _ p
theorem MR{c:Type}(f:Nat->Nat)(xs:Array c):List.Perm (pickOrder f xs).toList xs.toList:=by
 have:=xU f xs.size 0 xs.toList #[] (by simp);rw[show(#[]:Array c).toList++xs.toList=xs.toList from R]at this;exact this
section
variable{prog:Program}{w:World}{A:Around}{E:Ot}{s:Shared}
theorem Zeu{M:Model}{c:Source}{n:Nat}{Q:Nat->Shared->Prop}(hn:n≠0)(h:∀i d,i<n->Q i { s with drawn:=d }):wpAny M A (choose c n) Q E s:=fun e p f=>by
 show Sem.wp M e (Sem.choose c n Sem.pure) _ _ p s;unfold Sem.wp;refine⟨hn,?_⟩;unfold Sem.wp;exact h _ _ (Oo _ (Nat.pos_of_ne_zero hn))
theorem xV{M:Model}{f:Type}:∀(n:Nat) (xs:List f) (s:Shared) {Q:List f->Shared->Prop},xs.length=n->(∀ys d,List.Perm ys xs->Q ys { s with drawn:=d })->wpAny M A (drawOrder n xs) Q E s
 |0,xs,s,Q,c,h=>by
  cases xs with
  |nil=>exact Sb (h [] s.drawn .nil)
  |cons a r=>cases c
 |n+1,xs,s,Q,c,h=>by
  cases xs with
  |nil=>cases c
  |cons a r =>
   unfold drawOrder;refine Sa (Zeu (by simp) fun i d e=>?_);rw[Ss e];dsimp only;have p:=MQ (a::r) _ _ (Ss e);refine Sa (xV n _ _ (by have:=p.length_eq;rw[Sy]at this;lia) fun ys j g=>?_);exact Sb (h _ j ((g.cons _).trans p))
def Wv(h:Heap)(I:Addr)(f:Value)(i:Nat)(p n c:Nat):Prop:=∃o,h.get? I=some o/\o.cls=.type "set_iterator" /\ o.data=.fields #[f,.int i 0,.ref p,.int n 0,.int c 0]
theorem Wv.ty{I p n c i:Nat}{f:Value}(x:Wv s.heap I f i p n c):s.TypeIs (.ref I) "set_iterator" := let ⟨o,ho,hc,_⟩:=x;⟨o,ho,hc⟩
def Va(h:Heap)(p e:Nat)(c:Array (Int×Value))(t:OI):Prop:=∃o,h.get? p=some o/\o.ExactSet/\o.data=.set c e t/\t.fits c.size=true
theorem UH:Slot "set_iterator" "__next__" "set_iterator.__next__" := .of (owner := "set_iterator") (n := "__next__") (by rw[typeLookup_type,builtinLookup_eq_fast];kernel_rfl) (by lia) (by lia) (by lia) (by first|exact .inl (by lia)|exact .inr (by lia)) (by rw[isSubtype_type];kernel_rfl)
theorem K4:entryFor table "set_iterator.__next__" = some Builtin.«set_iterator.__next__»:=entryFor_of_tree (by kernel_rfl)
theorem K5(a:Value):argsOk "set_iterator.__next__" ⟨[a],[]⟩:=by unfold argsOk;kernel_rfl
theorem Zev:entryFor table "set.__iter__" = some Builtin.«frozenset.__iter__»:=entryFor_alias (id' := "frozenset.__iter__") (by kernel_rfl) R (by lia) (by kernel_rfl)
theorem xW:typeLookup (.type "set_iterator") "__next__" = pure (some (.builtin "set_iterator.__next__")):=UH.lookup
theorem Zew{p x:Nat}{h:Array (Int×Value)}{t:OI}{Q:Ot}(O:Va s.heap p x h t)
  (P:(w.params.followText "set-order" = true\/(t.plain=true\/h.size<=1))->Q (.ref s.heap.objs.size) { s with heap:=s.heap.push { cls:=.type "set_iterator",data:=.fields #[.int 0 0,.int 0 0,.ref p,.int h.size 0,.int x 0] } })
  (hd:∀(n:OG) (d:Drawn),List.Perm n (List.range h.size)->Q (.ref (s.heap.objs.size+1)) { s with heap:=(s.heap.push { cls:=.type "tuple",data:=.seq (n.map fun i=>rawInt (i:Nat)).toArray }).push { cls:=.type "set_iterator",data:=.fields #[.ref s.heap.objs.size,.int 0 0,.ref p,.int h.size 0,.int x 0] },drawn:=d })
  (L:h.size<=sizeLine):wpAny (model prog w) A (pyIter (.ref p)) Q E s:=by
 obtain⟨o,u,X,y,C⟩:=O;have G:s.TypeIs (.ref p) "set" := ⟨o,u,X.1⟩;refine wpAny_pyIter_slot G F.slot_set_iter (wpAny_call_entry F.slot_set_iter G Zev ?_ (F.args_set_iter_1 _));unfold Builtin.«frozenset.__iter__»;refine Sa (m:=Builtin.Frozenset.slot0 "__iter__" _) (Sb ?_);refine Sa (m:=Builtin.Frozenset.sizeOf p) ?_;unfold Builtin.Frozenset.sizeOf setEntries;refine Sa (Sa (wpAny_setState_of u y C (Sb (Sb ?_))));unfold setDrawn setsByText;refine Sa (Sa (wpAny_setState_of u y C (Sa (Sa (wpAny_askSetting (Sb (Sb ?_)))))));have J:∀{f:Value} {j:Heap} {d:Drawn},j.get? p=some o->Q (.ref j.objs.size) { s with heap:=j.push { cls:=.type "set_iterator",data:=.fields #[f,.int 0 0,.ref p,.int h.size 0,.int x 0] },drawn:=d } ->
   wpAny (model prog w) A.in1 (do
    let M <-setEpoch p
    let S <-newFields "set_iterator" [f,rawInt 0,Value.ref p,rawInt (h.size:Nat),rawInt (M:Nat)]
    ret S) (fun U D=>∃v,U=Fin.done (Flow.ret v)/\∃H r,D.TypeIs v H/\typeLookup (Value.type H) (OK "__next__")=pure (some r)/\Q v D) E { s with heap:=j,drawn:=d }:=fun{f j d} g q=>by
  refine Sa (wpAny_setEpoch_of (s:={ s with heap:=j,drawn:=d }) g y C ?_);exact Sa (wpAny_newObj_type (Sb ⟨_,R,"set_iterator",_,⟨_,Sd _ R,R⟩,xW,q⟩))
 refine wpAny_ite_split (fun c=>?_) (fun c=>?_)
 ·refine Sa (xV h.size _ _ (by simp) fun n d I=>?_)
  have T:n.length=h.size:=by have:=I.length_eq;simpa using this
  refine Sa (m:=newTuple _) (wpAny_newObj_type ?_ (by show(n.map fun i=>rawInt (i:Nat)).toArray.size<=sizeLine;rw[SM,Sv,T];exact L));have q:=hd n d I;have e:s.heap.objs.size+1=(s.heap.push { cls:=.type "tuple",data:=.seq (n.map fun i=>rawInt (i:Nat)).toArray }).objs.size:=(Heap.size_push _ _).symm;rw[e]at q;exact J (Sc _ u) q
 ·refine Sa (Sb (J (d:=s.drawn) u (P ?_)))
  have B:¬ (!w.params.followText "set-order" && (!t.plain && decide (h.size>1)))=true:=c;cases Y:w.params.followText "set-order" with
  |true=>exact .inl rfl
  |false =>
   right
   cases j:t.plain with
   |true=>exact .inl rfl
   |false =>
    right
    rw[Y,j]at B;simp at B;exact B
end
open PySem
section
variable{prog:Program}{w:World}{A:Around}{E:Ot}{s:Shared}
theorem Zex{h:Heap}{I p n e i:Nat}{f g:Value}(x:Wv h I f i p n e) :
  Wv ((h.update I (Obj.mapFields (·.setIfInBounds 0 g))).update I (Obj.mapFields (·.setIfInBounds 1 (rawInt ((i:Int)+1))))) I g (i+1) p n e:=by
 obtain⟨o,u,q,hd⟩:=x;have c:=Obj.data_mapFields hd (·.setIfInBounds 0 g);have g1:=Heap.get?_update_self (Obj.mapFields (·.setIfInBounds 0 g)) u (Obj.isFreed_of_fields c);have j:=Obj.data_mapFields c (·.setIfInBounds 1 (rawInt ((i:Int)+1)));refine⟨_,Heap.get?_update_self _ g1 (Obj.isFreed_of_fields j),(Obj.cls_mapFields ..).trans ((Obj.cls_mapFields ..).trans q),?_⟩;rw[j];simp[rawInt]
theorem xX{I p c i slot nx:Nat}{f:Array (Int×Value)}{t:OI}{x:Value}{Q:Option Value->Shared->Prop}(e:Wv s.heap I (.int slot 0) i p f.size c)(B:Va s.heap p c f t)
  (v:∀(j:Around) (E':Ot) (Q':Option (Value×Nat)->Shared->Prop),Q' (some (x,nx)) s->wpAny (model prog w) j (setNext p slot i c) Q' E' s)
  (q:∀h',Wv h' I (.int nx 0) (i+1) p f.size c->Heap.SameBut I s.heap h'->Q (some x) { s with heap:=h' }):wpAny (model prog w) A (pyNext (.ref I)) Q E s:=by
 obtain⟨o,g,C,hd⟩:=id e;obtain⟨D,n,G,u,y⟩:=B;unfold pyNext;refine Sa (wpAny_attempt (wpAny_callSpecial?_slot (name:=OK "__next__") e.ty UH (wpAny_call_entry UH e.ty K4 ?_ (K5 _))));unfold Builtin.«set_iterator.__next__»;refine Sa (m:=slotArgs "__next__" 0 _) (Sb ?_);refine Sa (wpAny_fieldsOf g hd ?_);dsimp only;unfold setEntries;refine Sa (Sa (wpAny_setState_of n u y (Sb ?_)));rw[SU (by simp)];simp only[Int.toNat_natCast];refine Sa (v _ _ _ ?_);dsimp only;refine Sa (wpAny_setField g hd (by simp) ?_);have h:=Obj.data_mapFields hd (·.setIfInBounds 0 (rawInt (nx:Int)));have g1:=Heap.get?_update_self (Obj.mapFields (·.setIfInBounds 0 (rawInt (nx:Int)))) g (Obj.isFreed_of_fields h);refine Sa (wpAny_setField (s:={ s with heap:=s.heap.update I (Obj.mapFields (·.setIfInBounds 0 (rawInt (nx:Int)))) }) g1 h (by simp) ?_);exact Sb ⟨_,R,Sb (q _ (Zex e) ((Heap.SameBut.update ..).trans (Heap.SameBut.update ..)))⟩
theorem xY{I p c i slot:Nat}{f:Array (Int×Value)}{t:OI}{Q:Option Value->Shared->Prop}(v:A.handled=none)(e:Wv s.heap I (.int slot 0) i p f.size c)(B:Va s.heap p c f t)
  (x:∀(h:Around) (E':Ot) (Q':Option (Value×Nat)->Shared->Prop),Q' none s->wpAny (model prog w) h (setNext p slot i c) Q' E' s)
  (n:∀h',Heap.ExtBut I s.heap h'->Q none { s with heap:=h' }):wpAny (model prog w) A (pyNext (.ref I)) Q E s:=by
 obtain⟨o,g,C,hd⟩:=id e;obtain⟨D,j,G,u,q⟩:=id B;unfold pyNext;refine Sa (wpAny_attempt (wpAny_callSpecial?_slot (name:=OK "__next__") e.ty UH (wpAny_call_entry UH e.ty K4 ?_ (K5 _))));unfold Builtin.«set_iterator.__next__»;refine Sa (m:=slotArgs "__next__" 0 _) (Sb ?_);refine Sa (wpAny_fieldsOf g hd ?_);dsimp only;unfold setEntries;refine Sa (Sa (wpAny_setState_of j u q (Sb ?_)));rw[SU (by simp)];simp only[Int.toNat_natCast];refine Sa (x _ _ _ ?_);dsimp only;refine Sa (wpAny_setField g hd (by simp) ?_);have y:=Heap.SameBut.update s.heap I (Obj.mapFields (·.setIfInBounds 2 Value.none));simp only[newExc,newTuple];refine Sa (Sa (wpAny_newObj_type (Sa (m:=firstArgMember _ _) (wpAny_of_eq (a:=Value.none) (by simp only[firstArgMember];rfl) (wpAny_newObj_type ?_ (by size_fits)))) (by size_fits)));simp only[raiseNew];refine Sa (wpAny_handled ?_);rw[show A.in1.handled=none from v];refine Sa (Sb (wpAny_throw ?_));refine Sa (wpAny_isInstance (T := "StopIteration") (b:=true) ⟨_,Sd _ R,R⟩ isSubtype_stop ?_);exact Sb (n _ ((y.extBut.push _).push _))
def B1(h:Heap)(T:Nat)(ys:OG):Prop:=∃o,h.get? T=some o/\o.cls=.type "tuple" /\ ∃n,o.data=.seq (ys.map fun i=>rawInt (i:Nat)).toArray n
theorem Zey{I p c i T j:Nat}{f:Array (Int×Value)}{t:OI}{ys:OG}{e:Int×Value}{Q:Option Value->Shared->Prop}(h:Wv s.heap I (.ref T) i p f.size c)(x:Va s.heap p c f t)(y:B1 s.heap T ys)
  (J:ys[i]? = some j) (H:f[j]? = some e) (C:∀h',Wv h' I (.ref T) (i+1) p f.size c->Heap.SameBut I s.heap h'->Q (some e.2) { s with heap:=h' }):wpAny (model prog w) A (pyNext (.ref I)) Q E s:=by
 obtain⟨o,g,B,hd⟩:=id h;obtain⟨O,n,S,q,u⟩:=id x;unfold pyNext;refine Sa (wpAny_attempt (wpAny_callSpecial?_slot (name:=OK "__next__") h.ty UH (wpAny_call_entry UH h.ty K4 ?_ (K5 _))));unfold Builtin.«set_iterator.__next__»;refine Sa (m:=slotArgs "__next__" 0 _) (Sb ?_);refine Sa (wpAny_fieldsOf g hd ?_);dsimp only;unfold setEntries;refine Sa (Sa (wpAny_setState_of n q u (Sb ?_)));rw[SU (by simp)];obtain⟨M,D,L,P,G⟩:=y;refine Sa (wpAny_seqItems D G ?_);dsimp only;rw[Int.toNat_natCast,List.getElem?_toArray,S0,J];show wpAny _ _ (setNextDrawn p j c >>= _) _ _ s;unfold setNextDrawn;refine Sa (Sa (wpAny_setState_of n q u ?_));dsimp only;rw[SU (by simp)];rw[H];refine Sb (Sa (wpAny_setField g hd (by simp) ?_));have v:=Obj.data_mapFields hd (·.setIfInBounds 1 (rawInt ((i:Int)+1)));refine Sb ⟨_,R,Sb (C _ ⟨_,Heap.get?_update_self _ g (Obj.isFreed_of_fields v),(Obj.cls_mapFields ..).trans B,?_⟩ (Heap.SameBut.update ..))⟩;rw[v];simp[rawInt]
theorem Zez{I p f i T:Nat}{h:Array (Int×Value)}{t:OI}{ys:OG}{Q:Option Value->Shared->Prop}(x:A.handled=none)(e:Wv s.heap I (.ref T) i p h.size f)(j:Va s.heap p f h t)(n:B1 s.heap T ys)
  (G:ys[i]? = none) (u:∀h',Heap.ExtBut I s.heap h'->Q none { s with heap:=h' }):wpAny (model prog w) A (pyNext (.ref I)) Q E s:=by
 obtain⟨o,c,M,hd⟩:=id e;obtain⟨L,q,P,v,y⟩:=id j;unfold pyNext;refine Sa (wpAny_attempt (wpAny_callSpecial?_slot (name:=OK "__next__") e.ty UH (wpAny_call_entry UH e.ty K4 ?_ (K5 _))));unfold Builtin.«set_iterator.__next__»;refine Sa (m:=slotArgs "__next__" 0 _) (Sb ?_);refine Sa (wpAny_fieldsOf c hd ?_);dsimp only;unfold setEntries;refine Sa (Sa (wpAny_setState_of q v y (Sb ?_)));rw[SU (by simp)];obtain⟨J,C,H,O,D⟩:=n;refine Sa (wpAny_seqItems C D ?_);dsimp only;rw[Int.toNat_natCast,List.getElem?_toArray,S0,G];dsimp only[Option.map_none];refine Sa (wpAny_setField c hd (by simp) ?_);have g:=Obj.data_mapFields hd (·.setIfInBounds 0 (rawInt 0));have g1:=Heap.get?_update_self (Obj.mapFields (·.setIfInBounds 0 (rawInt 0))) c (Obj.isFreed_of_fields g);refine Sa (wpAny_setField (s:={ s with heap:=s.heap.update I (Obj.mapFields (·.setIfInBounds 0 (rawInt 0))) }) g1 g (by simp) ?_);have B:=(Heap.SameBut.update s.heap I (Obj.mapFields (·.setIfInBounds 0 (rawInt 0)))).trans (Heap.SameBut.update (s.heap.update I (Obj.mapFields (·.setIfInBounds 0 (rawInt 0)))) I (Obj.mapFields (·.setIfInBounds 2 Value.none)));simp only[newExc,newTuple];refine Sa (Sa (wpAny_newObj_type (Sa (m:=firstArgMember _ _) (wpAny_of_eq (a:=Value.none) (by simp only[firstArgMember];rfl) (wpAny_newObj_type ?_ (by size_fits)))) (by size_fits)));simp only[raiseNew];refine Sa (wpAny_handled ?_);rw[show A.in1.handled=none from x];refine Sa (Sb (wpAny_throw ?_));refine Sa (wpAny_isInstance (T := "StopIteration") (b:=true) ⟨_,Sd _ R,R⟩ isSubtype_stop ?_);exact Sb (u _ ((B.extBut.push _).push _))
theorem xZ{p c slot i:Nat}{g:Array (Int×Value)}{t:OI}{Q:Option (Value×Nat)->Shared->Prop}(q:w.params.followText "set-order" = true) (u:Va s.heap p c g t)
  (h:Q (((pickOrder (w.params.setOrder p c) g)[i]?).map fun e=>(e.2,slot)) s):wpAny (model prog w) A (setNext p slot i c) Q E s:=by
 obtain⟨v,n,x,j,f⟩:=u;unfold setNext setsByText;refine Sa (wpAny_setState_of n j f (Sa (Sa (wpAny_askSetting (Sb ?_)))));dsimp only;rw[SV (show(model prog w).w.params.followText "set-order" = true from q),SU (by simp)];unfold setWalk setsByText;refine Sa (Sa (wpAny_setState_of n j f (Sa (Sa (wpAny_askSetting (Sb ?_))))));dsimp only;rw[SV (show(model prog w).w.params.followText "set-order" = true from q)];exact Sa (wpAny_askSetting (Sb (Sb h)))
theorem wA{p n slot i:Nat}{e:Array (Int×Value)}{t:OI}{Q:Option (Value×Nat)->Shared->Prop}(y:w.params.followText "set-order" = false) (f:t.plain=true\/e.size<=1) (B:t.led=true) (C:Va s.heap p n e t)
  (h:Q (match e[SetTable.below t.place slot]?,t.place[SetTable.below t.place slot]? with|some (_,x),some j=>some (x,j+1)|_,_=>none) s):wpAny (model prog w) A (setNext p slot i n) Q E s:=by
 obtain⟨D,v,G,u,q⟩:=C;unfold setNext setsByText;refine Sa (wpAny_setState_of v u q (Sa (Sa (wpAny_askSetting (Sb ?_)))));dsimp only;rw[SU (show ¬ (model prog w).w.params.followText "set-order" = true by intro z;rw[show(model prog w).w.params.followText "set-order" = w.params.followText "set-order" from R,y]at z;cases z)];refine wpAny_ite_split (fun c=>?_) (fun c=>?_)
 ·exfalso
  have g:(!t.plain && decide (e.size>1))=true:=c;rw[Bool.and_eq_true,decide_eq_true_eq]at g;rcases f with f|f
  ·rw[f]at g;cases g.1
  ·omega
 ·refine Sa ?_
  show wpAny _ _ (if (!t.led && !e.isEmpty)=true then unsupported _ else pure ()) _ _ _;rw[SU (by rw[B];simp)];exact Sb (Sb h)
end
open PySem PyProof.Rows
section
variable{prog:Program}{w:World}{A:Around}{E:Ot}{s:Shared}
theorem wB:Slot "set_iterator" "__iter__" "set_iterator.__iter__" := .of (owner := "set_iterator") (n := "__iter__") (by rw[typeLookup_type,builtinLookup_eq_fast];kernel_rfl) (by lia) (by lia) (by lia) (by first|exact .inl (by lia)|exact .inr (by lia)) (by rw[isSubtype_type];kernel_rfl)
theorem ZeA:entryFor table "set_iterator.__iter__" = some Builtin.«dict_keyiterator.__iter__»:=entryFor_alias (id' := "dict_keyiterator.__iter__") (by kernel_rfl) R (by lia) (by kernel_rfl)
theorem ZeB(a:Value):argsOk "set_iterator.__iter__" ⟨[a],[]⟩:=by unfold argsOk;kernel_rfl
theorem MS{I p n c i:Nat}{f:Value}{Q:Ot}(x:Wv s.heap I f i p n c)(h:Q (.ref I) s):wpAny (model prog w) A (pyIter (.ref I)) Q E s:=by
 refine wpAny_pyIter_slot x.ty wB (wpAny_call_entry wB x.ty ZeA (show wpAny _ _ (ret (.ref I)) _ _ s from ?_) (ZeB _));exact Sb ⟨_,R,"set_iterator",_,x.ty,xW,h⟩
theorem Wv.keep{h h':Heap}{I p n c i:Nat}{f:Value}(x:Wv h I f i p n c)(k:∀o,h.get? I=some o->h'.get? I=some o):Wv h' I f i p n c:=let ⟨o,ho,r⟩:=x;⟨o,k _ ho,r⟩
theorem Va.keep{h h':Heap}{p c:Nat}{e:Array (Int×Value)}{t:OI}(x:Va h p c e t)(k:∀o,h.get? p=some o->h'.get? p=some o):Va h' p c e t:=let ⟨o,ho,r⟩:=x;⟨o,k _ ho,r⟩
theorem B1.keep{h h':Heap}{T:Nat}{ys:OG}(x:B1 h T ys)(k:∀o,h.get? T=some o->h'.get? T=some o):B1 h' T ys:=let ⟨o,ho,r⟩:=x;⟨o,k _ ho,r⟩
theorem ZeC(H:A.handled=none)(I p f:Nat)(D:p≠I)(c:Array (Int×Value))(t:OI)(y:w.params.followText "set-order" = true) :
  Walks prog w A I [I,p] [I] c.size (fun i v=>((pickOrder (w.params.setOrder p f) c).toList.map (·.2))[i]? = some v) (fun i h=>Wv h I (.int 0 0) i p c.size f/\Va h p f c t) where
 sub:=fun b j=>by rw[SD]at j;rw[j];exact SC
 frame:=fun _ _ _ st k=>⟨st.1.keep (k I SC),st.2.keep (k p (SB _ SC))⟩
 item:=fun i s Q E M st n=>by
  have G:i<(pickOrder (w.params.setOrder p f) c).size:=by
   have:=(MR (w.params.setOrder p f) c).length_eq;rw[Array.length_toList,Array.length_toList]at this;lia
  have g:=Array.getElem?_eq_getElem G;refine xX (nx:=0) (x:=((pickOrder (w.params.setOrder p f) c)[i]).2) (slot:=0) st.1 st.2 (fun B L C q=>xZ y st.2 (by rw[g];exact q)) fun u J j=>?_;refine n _ u s.toks ?_ ⟨J,st.2.keep fun o e=>j.extBut p o D e⟩ fun b o hn e=>j.extBut b o (fun z=>hn (by rw[z];exact SD.mpr R)) e;rw[S0,Array.getElem?_toList,g];rfl
 done:=fun s Q E st n=>by
  have g:(pickOrder (w.params.setOrder p f) c)[c.size]? = none:=by
   have:=(MR (w.params.setOrder p f) c).length_eq;rw[Array.length_toList,Array.length_toList]at this;exact Array.getElem?_eq_none (by lia)
  exact xY (slot:=0) H st.1 st.2 (fun B L C q=>xZ y st.2 (by rw[g];exact q)) fun u j=>n u s.toks fun b o hn e=>j b o (fun z=>hn (by rw[z];exact SD.mpr R)) e
 self:=fun _ _ _ _ st n=>MS st.1 n
def V6(t:OI):Nat->Nat
 |0=>0
 |i+1=>t.place.getD i 0+1
theorem wC{t:OI}(h:UG t.place):∀i,i<=t.place.size->SetTable.below t.place (V6 t i)=i
 |0,_=>by
  obtain⟨u,g,q⟩:=MP (j:=V6 t 0) h;by_cases c:SetTable.below t.place (V6 t 0)=0
  ·exact c
  ·exact Oq (g 0 (by lia)) (Nat.not_lt_zero _)
 |i+1,n=>by
  obtain⟨u,g,q⟩:=MP (j:=V6 t (i+1)) h;have e:∀k d,k<t.place.size->t.place.getD k d=t.place.getD k 0:=fun k d f=>by simp[Array.getD,f]
  have y:i<SetTable.below t.place (V6 t (i+1)):=by
   by_cases c:SetTable.below t.place (V6 t (i+1))<=i
   ·have:=q i c n
    rw[e i _ n]at this;exact Oq this (Nat.not_succ_le_self _)
   ·omega
  by_cases v:SetTable.below t.place (V6 t (i+1))=i+1
  ·exact v
  ·have l:=g (i+1) (by lia)
   have f:i+1<t.place.size:=by lia
   rw[e _ _ f]at l;have r:t.place.getD i 0<t.place.getD (i+1) 0:=K3 (d:=0) h (Sm i) f;have x:t.place.getD (i+1) 0<t.place.getD i 0+1:=l;lia
theorem ZeD(P:A.handled=none)(I p y:Nat)(L:p≠I)(c:Array (Int×Value))(t:OI)(u:w.params.followText "set-order" = false) (G:t.plain=true\/c.size<=1) (B:t.led=true) (hz:t.place.size=c.size) (C:UG t.place) :
  Walks prog w A I [I,p] [I] c.size (fun i v=>(c.toList.map (·.2))[i]? = some v) (fun i h=>Wv h I (.int (V6 t i) 0) i p c.size y/\Va h p y c t) where
 sub:=fun b f=>by rw[SD]at f;rw[f];exact SC
 frame:=fun _ _ _ st k=>⟨st.1.keep (k I SC),st.2.keep (k p (SB _ SC))⟩
 item:=fun i s Q E M st j=>by
  have g:=Array.getElem?_eq_getElem M;have D:i<t.place.size:=by lia
  have g2:=Array.getElem?_eq_getElem D;have O:V6 t (i+1)=t.place[i]+1:=by
   show t.place.getD i 0+1=_;simp[Array.getD,D]
  refine xX (nx:=t.place[i]+1) (x:=(c[i]).2) (slot:=V6 t i) st.1 st.2 (fun H T J q=>wA u G B st.2 (by rw[wC C i (by lia),g,g2];exact q)) fun n S f=>?_;refine j _ n s.toks ?_ ⟨by rw[O];exact S,st.2.keep fun o e=>f.extBut p o L e⟩ fun b o hn e=>f.extBut b o (fun z=>hn (by rw[z];exact SD.mpr R)) e;rw[S0,Array.getElem?_toList,g];rfl
 done:=fun s Q E st j=>by
  have g:c[c.size]? = none:=Array.getElem?_eq_none (Sg _);exact xY (slot:=V6 t c.size) P st.1 st.2 (fun H T J q=>wA u G B st.2 (by rw[wC C _ (by lia),g];exact q)) fun n f=>j n s.toks fun b o hn e=>f b o (fun z=>hn (by rw[z];exact SD.mpr R)) e
 self:=fun _ _ _ _ st j=>MS st.1 j
theorem ZeE(G:A.handled=none)(I p T x:Nat)(H:p≠I)(D:T≠I)(f:Array (Int×Value))(t:OI)(ys:OG)(q:List.Perm ys (List.range f.size)) :
  Walks prog w A I [I,p,T] [I] f.size (fun i v=>(ys.map fun j=>(f.getD j (0,.none)).2)[i]? = some v) (fun i h=>Wv h I (.ref T) i p f.size x/\Va h p x f t/\B1 h T ys) where
 sub:=fun b c=>by rw[SD]at c;rw[c];exact SC
 frame:=fun _ _ _ st k=>⟨st.1.keep (k I (by simp)),st.2.1.keep (k p (by simp)),st.2.2.keep (k T (by simp))⟩
 item:=fun i s Q E J st n=>by
  have y:i<ys.length:=by have:=q.length_eq;rw[List.length_range]at this;lia
  have g:=Ss y;have B:ys[i]<f.size:=List.mem_range.mp (q.mem_iff.mp (Oi y));refine Zey st.1 st.2.1 st.2.2 g (Array.getElem?_eq_getElem B) fun u C c=>?_;refine n _ u s.toks ?_ ⟨C,st.2.1.keep fun o e=>c.extBut p o H e,st.2.2.keep fun o e=>c.extBut T o D e⟩ fun b o hn e=>c.extBut b o (fun z=>hn (by rw[z];exact SD.mpr R)) e;rw[S0,g];simp[Array.getD,B]
 done:=fun s Q E st n=>by
  have g:ys[f.size]? = none:=List.getElem?_eq_none (by have:=q.length_eq;rw[List.length_range]at this;lia);exact Zez G st.1 st.2.1 st.2.2 g fun u c=>n u s.toks fun b o hn e=>c b o (fun z=>hn (by rw[z];exact SD.mpr R)) e
 self:=fun _ _ _ _ st n=>MS st.1 n
theorem ZeF{l:List (Int×Value)}(h:∀e∈l,∃t,e.2=.int (Xq e) t):IntsAre (l.map (·.2)) (l.map Xq):=by
 induction l with
 |nil=>exact .nil
 |cons e r f =>
  obtain⟨t,q⟩:=h e SC;rw[SL,SL,q];exact .cons _ t (f fun x c=>h x (SB _ c))
theorem ZeG{e:Type}(c:Array e)(d:e):(List.range c.size).map (fun j=>c.getD j d)=c.toList:=by
 refine List.ext_getElem (by simp) fun i h g=>?_;have f:i<c.size:=by simpa using g
 simp[Array.getD,f]
theorem ZeH{p:Addr}{ks:OE}{Q:Ot}(M:A.handled=none)(q:Xr prog w s.heap p ks)(Z:ks.length<=1000)
  (h:∀(I:Addr) (fp:OH) (St:Nat->Heap->Prop) (h':Heap) (d:Drawn) (its:OB) (ns:OE),Walks prog w A I fp [I] its.length (fun i v=>its[i]? = some v) St->St 0 h' ->
   (∀b o,s.heap.get? b=some o->h'.get? b=some o)->(∀b∈fp,b=p\/s.heap.objs.size<=b)->s.heap.objs.size<=I->IntsAre its ns->ns.Nodup->(∀k,k∈ns↔k∈ks)->its.length<=ks.length->Q (.ref I) { s with heap:=h',drawn:=d }) :
  wpAny (model prog w) A (pyIter (.ref p)) Q E s:=by
 obtain⟨o,f,n,t,U,a0,hd,b0,J,ht,Y,nd,mem,sz⟩:=q;have q:Va s.heap p n f t:=⟨o,U,a0,hd,J⟩;have O:p<s.heap.objs.size:=Se U;have X:t.place.size=f.size:=by
  unfold SetTable.fits at J;rw[Bool.and_eq_true]at J;exact beq_iff_eq.mp J.1
 have L:∀(l:List (Int×Value)),List.Perm l f.toList->IntsAre (l.map (·.2)) (l.map Xq)/\(l.map Xq).Nodup/\(∀k,k∈l.map Xq↔k∈ks)/\(l.map (·.2)).length=f.size:=fun l u =>
  ⟨ZeF fun e he=>xS b0 (u.mem_iff.mp he),(u.map Xq).nodup_iff.mpr nd,fun k=>((u.map Xq).mem_iff).trans (mem k),by rw[Sv,u.length_eq,Array.length_toList]⟩
 have S:∀b∈[s.heap.objs.size,p],b=p\/s.heap.objs.size<=b:=fun b G=>by
  simp only[SE,List.not_mem_nil,or_false]at G;rcases G with rfl|rfl
  ·exact .inr (Sg _)
  ·exact .inl rfl
 refine Zew q (fun c=>?_) (fun C d T=>?_) (Sh (Sh sz Z) (by lia))
 ·cases H:w.params.followText "set-order" with
  |true =>
   obtain⟨x,y,D,g⟩:=L _ (MR (w.params.setOrder p n) f);have W:=ZeC (prog:=prog) M s.heap.objs.size p n (Sf O) f t H;rw[<-g]at W;exact h _ _ _ _ s.drawn _ _ W ⟨⟨_,Sd _ R,R,by rw[g];rfl⟩,q.keep fun o e=>Sc _ e⟩ (fun b o e=>Sc _ e) S (Sg _) x y D (by lia)
  |false =>
   have B:t.plain=true\/f.size<=1:=by
    rcases c with c|c
    ·rw[H]at c;cases c
    ·exact c
   have hr:UG t.place:=by
    rcases B with B|B
    ·exact ht.ri B
    ·have c0:t.place.toList.length<=1:=by rw[Array.length_toList];lia
     show List.Pairwise _ _
     match t.place.toList,c0 with
     |[],_=>exact .nil
     |[a],_=>exact List.pairwise_singleton _ _
   obtain⟨x,y,D,g⟩:=L _ (.refl _);have W:=ZeD (prog:=prog) M s.heap.objs.size p n (Sf O) f t H B (Y H) X hr;rw[<-g]at W;exact h _ _ _ _ s.drawn _ _ W ⟨⟨_,Sd _ R,R,by rw[g];rfl⟩,q.keep fun o e=>Sc _ e⟩ (fun b o e=>Sc _ e) S (Sg _) x y D (by lia)
 ·have u:List.Perm (C.map fun j=>f.getD j (0,.none)) f.toList:=by
   have:=T.map fun j=>f.getD j (0,Value.none);rw[ZeG]at this;exact this
  obtain⟨x,y,D,g⟩:=L _ u;have W:=ZeE (prog:=prog) (w:=w) (A:=A) M (s.heap.objs.size+1) p s.heap.objs.size n (Sf (Sn O)) (Sf (Sm _)) f t C T;rw[Od]at x g;have P:(C.map fun j=>(f.getD j (0,.none)).2).length=f.size:=g;rw[<-P]at W;have gI:((s.heap.push { cls:=.type "tuple",data:=.seq (C.map fun i=>rawInt (i:Nat)).toArray }).push { cls:=.type "set_iterator",data:=.fields #[.ref s.heap.objs.size,.int 0 0,.ref p,.int f.size 0,.int n 0] }).get? (s.heap.objs.size+1)=some { cls:=.type "set_iterator",data:=.fields #[.ref s.heap.objs.size,.int 0 0,.ref p,.int f.size 0,.int n 0] }:=by
   have:=Sd (s.heap.push { cls:=.type "tuple",data:=.seq (C.map fun i=>rawInt (i:Nat)).toArray }) (o:={ cls:=.type "set_iterator",data:=.fields #[.ref s.heap.objs.size,.int 0 0,.ref p,.int f.size 0,.int n 0] }) R;rw[Heap.size_push]at this;exact this
  refine h _ _ _ _ d _ _ W ⟨⟨_,gI,R,by rw[P];rfl⟩,q.keep fun o e=>Sc _ (Sc _ e),⟨_,Sc _ (Sd _ R),R,_,R⟩⟩ (fun b o e=>Sc _ (Sc _ e)) (fun b G=>?_) (Nat.le_succ _) x y D (by lia)
  ·simp only[SE,List.not_mem_nil,or_false]at G
   rcases G with rfl|rfl|rfl
   ·exact .inr (Nat.le_succ _)
   ·exact .inl rfl
   ·exact .inr (Sg _)
end
open PySem PyProof.Rows
section
variable{prog:Program}{w:World}{A:Around}{E:Ot}{s:Shared}
theorem ZeI{r:Addr}{Q:Bool->Shared->Prop}(c:s.TypeIs (.ref r) "set") (h:Q false s):wpAny (model prog w) A (Builtin.List.listLengthHint (.ref r)) Q E s:=by
 unfold Builtin.List.listLengthHint;refine Sa (wpAny_specialOf c F.slot_set_len.lookup ?_);generalize e:("set.__len__" : String)=f
 wp_delta;rw[show splitId f=some ("set","__len__")from by subst e;lia]
 subst e;refine Sa (wpAny_isInstance (T := "set") (b:=true) c (by rw[isSubtype_type];kernel_rfl) ?_);refine wpAny_ite_split (fun z=>Oq z (by lia)) (fun _=>wpAny_ite_split (fun _=>?_) (fun z=>Oq (by lia) z));exact Sa (wpAny_typeOf c (Sb h))
def MT(ks:OE)(c:OB):Prop:=∃ns,IntsAre c ns/\ns.Nodup/\(∀k,k∈ns↔k∈ks)/\c.length<=ks.length
theorem Xr.ty{p:Addr}{ks:OE}(x:Xr prog w s.heap p ks):s.TypeIs (.ref p) "set" := let ⟨o,_,_,_,ho,hex,_⟩:=x;⟨o,ho,hex.1⟩
theorem Xr.lt{h:Heap}{p:Addr}{ks:OE}(x:Xr prog w h p ks):p<h.objs.size:=let ⟨_,_,_,_,ho,_⟩:=x;Se ho
theorem ZeJ{f:OB}{c:Array Value}(h:ItemsOf (fun i v=>f[i]? = some v) c f.length):c.toList=f:=by
 refine List.ext_getElem? fun i=>?_;by_cases g:i<f.length
 ·have ha:i<c.size:=by rw[h.1];exact g
  have:=h.2 i c[i] (Array.getElem?_eq_getElem ha);rw[Array.getElem?_toList,Array.getElem?_eq_getElem ha,this]
 ·have e:c.toList.length=f.length:=by rw[Array.length_toList,h.1]
  rw[List.getElem?_eq_none (l:=f) (by lia),List.getElem?_eq_none (l:=c.toList) (by lia)]
theorem ZeK{R:Result->Shared->Prop}{p S:Addr}{ks:OE}{res:Value}{G:Nat}(hh:A.handled=none)(y:Xr prog w s.heap p ks)(O:ks.length<=1000)(D:S≠p)
  (M:s.heap.get? S=some { cls:=.type "list",data:=.seq #[] G })
  (hR:∀B d tk u c,(∀b o,b≠S->s.heap.get? b=some o->B.get? b=some o)->B.get? S=some { cls:=.type "list",dict:=none,data:=.seq u c,slots:=#[] }->MT ks u.toList->R (.ok (.ret res)) { s with heap:=B,drawn:=d,toks:=tk }) :
  wpAny (model prog w) A.in1 (Builtin.List.listExtendWith (.ref S) (.ref p) res) (fun x i=>match x with|.done f=>R (.ok f) i|.again v=>v.quiet=true/\codeAny (model prog w) A v R i) (fun e i=>R (.error e) i) s:=by
 unfold Builtin.List.listExtendWith;refine Sa (wpAny_typeOf (T := "set") y.ty ?_);have e1:Builtin.List.listSameRef (.ref S) (.ref p)=false:=by simp[Builtin.List.listSameRef,D]
 have e2:(Value.type "set" == Value.type "list")=false:=by lia
 have e3:(Value.type "set" == Value.type "tuple")=false:=by lia
 simp only[e1,e2,e3,Bool.or_false,Bool.false_eq_true,if_false];refine Sa (ZeH (A:=A.in1) hh y O fun I fp St C d a0 ns W st keep U P i1 X i3 Q=>?_);have J:=Se M;have H:S∉fp:=fun z=>by
  rcases U S z with e|e
  ·exact D e
  ·exact Oq J (Og.mpr e)
 have d0:I≠S:=fun z=>Oq J (Og.mpr (by rw[<-z];exact P));have g1:=keep _ _ M;have x:∀(h:Heap) (c:Nat) (tk:Nat),St 0 h->(∀b o,b≠S->s.heap.get? b=some o->h.get? b=some o)->h.get? S=some { cls:=.type "list",data:=.seq #[] c } ->
   codeAny (model prog w) A (.builtin "list.extend.loop" ⟨[.ref S,.ref I,res],[]⟩) R { s with heap:=h,drawn:=d,toks:=tk }:=fun h c tk b0 k g=>by
  refine codeAny_extend_loopS W.toS (Sh (Sh Q O) (by lia)) S H res a0.length 0 _ #[] c rfl (Sk _) b0 g (ItemsOf.nil _) fun i u v hm Y c0=>?_;have e:=ZeJ c0;have es:i = { s with heap:=i.heap,drawn:=d,toks:=i.toks }:=by
   obtain⟨a1,a2,Z,a4,a5⟩:=i;have b1:a2=s.gens:=hm.gens;have b2:Z=d:=hm.drawn;have b3:a5=s.os:=hm.os;subst b1 b2 b3;rfl
  rw[es];refine hR i.heap d i.toks u v (fun b o n q=>hm.heap b o (fun z=>?_) (k b o n q)) Y (by rw[e];exact⟨ns,i1,X,i3,Q⟩);rcases SE.mp z with z|z
  ·exact n z
  ·exact Oq (Se q) (Og.mpr (by rw[SD.mp z];exact P))
 refine Sa (wpAny_holding (ZeI (s:={ s with heap:=C,drawn:=d }) (y.keep (keep p)).ty ?_));refine wpAny_ite_split (fun _=>?_) (fun _=>Sb ⟨plainId_quiet F.plain_extend_loop _,x _ G _ st (fun b o _ e=>keep b o e) g1⟩);refine Sa (wpAny_rule (Sa ?_));show wpAny _ _ (updateSeq S (fun j=>j.push .none) >>= fun _=>updateSeq S (fun j=>j.pop)) _ _ _;refine Sa (wpAny_updateSeq (s:={ s with heap:=C,drawn:=d }) g1 rfl ?_);have g2:=Heap.get?_update_self (Obj.mapSeq (fun j=>j.push Value.none)) g1 rfl;refine wpAny_updateSeq (s:={ s with heap:=C.update S (Obj.mapSeq (fun j=>j.push Value.none)),drawn:=d }) (hz:=by seq_fits) g2 rfl ?_;have g3:=Heap.get?_update_self (Obj.mapSeq (fun j=>j.pop)) g2 rfl;refine Sb ⟨plainId_quiet F.plain_extend_loop _,x _ _ _ (W.frame 0 _ _ st fun b n o e=>?_) (fun b o n e=>?_) g3⟩
 ·have L:b≠S:=fun z=>H (z ▸ n)
  exact(Heap.get?_update_other _ _ (Ne.symm L)).trans ((Heap.get?_update_other _ _ (Ne.symm L)).trans e)
 ·exact(Heap.get?_update_other _ _ (Ne.symm n)).trans ((Heap.get?_update_other _ _ (Ne.symm n)).trans (keep b o e))
theorem ZeL{R:List Value->Shared->Prop}{p:Addr}{ks:OE}(H:A.handled=none)(n:Xr prog w s.heap p ks)(C:ks.length<=1000)
  (h:∀h' d tk u,(∀b o,s.heap.get? b=some o->h'.get? b=some o)->MT ks u->R u { s with heap:=h',drawn:=d,toks:=tk }):wpAny (model prog w) A (collect (.ref p)) R E s:=by
 have lt:=n.lt;unfold collect;refine Sa (wpAny_runValue (codeAny_builtin F.entry_proto_collect ?_));rw[Around.under_plainId F.plain_proto_collect _];show wpAny _ A.in1 (newList [] >>= fun v=>again (.builtin "list.__iadd__" ⟨[v,.ref p],[]⟩)) _ _ s;refine Sa (wpAny_newObj_type (Sb ⟨plainId_quiet F.plain_list_iadd _,codeAny_builtin F.entry_list_iadd ?_⟩));rw[Around.under_plainId F.plain_list_iadd _];have I:(s.heap.push { cls:=.type "list",data:=.seq ([]:OB).toArray }).get? s.heap.objs.size=some { cls:=.type "list",data:=.seq #[] }:=Sd _ rfl;have B:=ZeK (A:=A) (s:={ s with heap:=s.heap.push { cls:=.type "list",data:=.seq ([]:OB).toArray } }) (res:=.ref s.heap.objs.size)
  (R:=fun(q:Result) (j:Shared)=>∃(h':Heap) (d:Drawn) (tk:Nat) (i:Array Value) (c:Nat),q=.ok (.ret (.ref s.heap.objs.size))/\j = { s with heap:=h',drawn:=d,toks:=tk }/\(∀b o,s.heap.get? b=some o->h'.get? b=some o) /\
   h'.get? s.heap.objs.size=some { cls:=.type "list",dict:=none,data:=.seq i c,slots:=#[] }/\MT ks i.toList) H (n.keep fun o e=>Sc _ e) C (Nat.ne_of_gt lt) I
  (fun h' d tk i c k g m=>⟨h',d,tk,i,c,rfl,rfl,fun b o e=>k b o (Sf (Se e)) (Sc _ e),g,m⟩)
 show wpAny _ A.in1 (Builtin.List.listExtendWith (.ref s.heap.objs.size) (.ref p) (.ref s.heap.objs.size)) _ _ _;refine Op B (fun G j x=>?_) fun e j x=>?_
 ·cases G with
  |done f =>
   obtain⟨h',d,tk,i,c,e,rfl,k,g,m⟩:=x;cases e;exact Sa (m:=load s.heap.objs.size) (wpAny_load g (Sb (h h' d tk _ k m)))
  |again J =>
   refine⟨x.1,codeAny_mono x.2 fun q s2 y=>?_⟩;obtain⟨h',d,tk,i,c,rfl,rfl,k,g,m⟩:=y;exact Sa (m:=load s.heap.objs.size) (wpAny_load g (Sb (h h' d tk _ k m)))
 ·obtain⟨_,_,_,_,_,D,_⟩:=x
  cases D
end
section
variable{prog:Program}{w:World}{A:Around}{E:Ot}{s:Shared}
theorem IntsAre.len{vs:OB}{ns:OE}(h:IntsAre vs ns):vs.length=ns.length:=by
 induction h with
 |nil=>rfl
 |cons n t _ c=>rw[Sy,Sy,c]
theorem ZeM{zs:OE}(h:zs.Pairwise (·<=·))(n:zs.Nodup):zs.Pairwise (· < ·) :=
 (List.Pairwise.and h n).imp fun⟨a,b⟩=>by lia
theorem ZeN{p:Addr}{ks:OE}{Q:Ot}(J:A.handled=none)(C:Xr prog w s.heap p ks)(I:ks.length<64)
  (h:∀(D:Addr) (h':Heap) (d:Drawn) (tk:Nat) (out:Array Value) (e:Nat) (zs:OE),(∀b o,s.heap.get? b=some o->h'.get? b=some o)->s.heap.get? D=none->h'.get? D=some (seqObj "list" out e)->IntsAre out.toList zs->zs.Pairwise (· < ·) ->
   (∀k,k∈zs↔k∈ks)->zs.length<=ks.length->Q (.ref D) { s with heap:=h',drawn:=d,toks:=tk }):wpAny (model prog w) A (call (.builtin "sorted") [.ref p]) Q E s:=by
 refine Calls.call_function_entry kind_sorted plain_sorted entry_sorted (args_sorted1 _) ?_;unfold Builtin.«sorted»;refine Sa (m:=checkCount "sorted" 1 1 _) (Sb (Sa (ZeL (A:=A.in1) J C (by lia) fun f d tk i keep mt=>?_)));obtain⟨ns,n,x,L,O⟩:=mt;have y:i.length<=sizeLine:=Sh (Sh O (Nat.le_of_lt I)) (by lia);refine Sa (wpAny_newList ?_ y);have g:(f.push (seqObj "list" i.toArray 0)).get? f.objs.size=some (seqObj "list" i.toArray 0):=Sd _ R;have no:s.heap.get? f.objs.size=none:=by
  cases c:s.heap.get? f.objs.size with
  |none=>rfl
  |some o=>exact Oq (Se (keep _ _ c)) (Sl _)
 refine Sa (wpAny_holding (wpAny_call_entry (s:={ s with heap:=f.push (seqObj "list" i.toArray 0),drawn:=d,toks:=tk }) slot_list_sort ⟨_,g,R⟩ entry_list_sort (list_sort_tree g n (by lia) fun out u H j B=>⟨_,R,?_⟩) (args_list_sort _)));obtain⟨e,M⟩:=sortedHeap_at (out:=out) g;have G:u.Nodup:=j.nodup_iff.mpr x;refine Sb ⟨_,R,h f.objs.size _ d tk out e u (fun b o q=>?_) no M H (ZeM B G) (fun k=>(j.mem_iff).trans (L k)) (by have:=j.length_eq;have:=IntsAre.len n;lia)⟩;have v:=Se (keep b o q);exact(sortedHeap_old (Sf v) (by rw[Heap.size_push];exact Sn v)).trans (Sc _ (keep b o q))
def V7(w:World):Obj:={ cls:=.type "set",dict:=none,data:=.set #[] 0 (.fresh 0 0 (!w.params.followText "set-order")) }
theorem ZeO{h:Heap}{a:Addr}(g:h.get? a=some (V7 w)):Xr prog w h a [] :=
 ⟨_,#[],0,_,g,⟨R,R,R⟩,R,(fun e c=>by cases c),rfl,⟨rfl,fun _=>List.Pairwise.nil⟩,(fun z=>by show(!w.params.followText "set-order")=true;rw[z];rfl),List.Pairwise.nil,(fun k=>by simp),Sk _⟩
theorem ZeP(x:Value){Q:Ot}(h:Q (.ref s.heap.objs.size) { s with heap:=s.heap.push (V7 w) }) :
  codeAny (model prog w) A (.call (.builtin "set.__new__") ⟨[.type "set",x],[]⟩) (wants Q E) s:=by
 refine codeAny_of_tree (show wpAny _ A.in1 (do checkBuiltinCall "set.__new__" ⟨[.type "set",x],[]⟩;again (.builtin "set.__new__" ⟨[.type "set",x],[]⟩)) _ _ s from ?_);refine Sa (wpAny_of_eq (PySem.F.newCall_set_1 x) (Sb ⟨plainId_quiet PySem.F.plain_set_new _,codeAny_builtin PySem.F.entry_set_new ?_⟩));rw[Around.under_plainId PySem.F.plain_set_new _];unfold Builtin.«set.__new__» Builtin.Frozenset.newClass;have c:=sub_set_self;obtain⟨e,g,d,tk,os⟩:=s;dsimp only;wp_walk;refine wpAny_askSetting (Sb ?_);dsimp only;simp only[newObj];exact Sa (wpAny_alloc (Sb (Sb h)))
theorem ZeQ{l:Addr}{items:Array Value}{ns:OE}{Q:Ot}(hh:A.handled=none)(Y:s.heap.IsList l items)(hi:IntsAre items.toList ns)(hb:items.size+1<scanBound)
  (h:∀(h':Heap) (tk:Nat),Xr prog w h' s.heap.objs.size ((List.range items.size).map fun i=>ns.getD i 0)->(∀b o,s.heap.get? b=some o->h'.get? b=some o)->Q (.ref s.heap.objs.size) { s with heap:=h',toks:=tk }) :
  wpAny (model prog w) A (call (.type "set") [.ref l]) Q E s:=by
 obtain⟨d0,tl,mr⟩:=PySem.F.called_set.mro;have md:=PySem.F.called_set.made;have sb:=PySem.F.called_set.sub;refine wpAny_call (codeAny_of_tree (show wpAny _ _ (callAny (.type "set") _) _ _ _ from Sb ⟨Code.quiet_builtin _ (by lia),codeAny_builtin PySem.F.entry_type_call ?_⟩));rw[Around.under_plain (weight_type_call_type "set" [.ref l] []) rfl];have k1:=PySem.F.called_set.notType;have k2:=PySem.F.called_set.canCreate;have k3:=PySem.F.typeCall_set_1 (.ref l)
 repeat (any_goals (first|assumption|wp_step))
 refine codeAny_mono (ZeP (.ref l) (E:=E) (Q:=fun ob x=>ob=.ref s.heap.objs.size/\x = { s with heap:=s.heap.push (V7 w) }) ⟨rfl,rfl⟩) fun r x c=>?_;cases r with
 |error e=>exact c
 |ok fl =>
  cases fl with
  |ret ob =>
   obtain⟨rfl,rfl⟩:=c;have C:(s.heap.push (V7 w)).get? s.heap.objs.size=some (V7 w):=Sd _ rfl;have M:Shared.TypeIs { s with heap:=s.heap.push (V7 w) } (.ref s.heap.objs.size) "set" := ⟨_,C,rfl⟩;have u1:=PySem.F.called_set.init.lookup;have u2:=PySem.F.called_set.init.bind (.ref s.heap.objs.size)
   repeat (any_goals (first|assumption|wp_step))
   refine codeAny_mono (codeAny_call_builtin (R:=wants (fun r s2=>r=.none/\∃h' tk,s2 = { s with heap:=h',toks:=tk }/\Xr prog w h' s.heap.objs.size ((List.range items.size).map fun i=>ns.getD i 0)/\(∀b o,s.heap.get? b=some o->h'.get? b=some o)) E)
    PySem.F.called_set.init.plain PySem.F.entry_set_init (check_set_init_1 M ?_)) fun X s2 f=>?_
   ·obtain⟨T,q,v,u,n⟩:=id Y
    obtain⟨oc,P,c0,os⟩:=T;simp only at v n;subst v;subst n;have v1:(s.heap.push (V7 w)).get? l=some { cls:=.type "list",dict:=P,data:=.seq items u,slots:=os }:=Sc _ q;have v2:=PySem.F.sub_list_set;have v3:=PySem.F.sub_list_frozenset;have v4:(Value.type "list" == Value.type "dict")=false:=by lia
    have y:(s.heap.push (V7 w)).IsList l items:=⟨_,v1,rfl,u,rfl⟩;have fd:(V7 w).data=.set #[] 0 (.fresh 0 0 (!w.params.followText "set-order")):=rfl;unfold Builtin.«set.__init__» noKeywords Builtin.Frozenset.updateFrom;generalize D:pyIter=PI
    wp_walk
    subst D;refine wpAny_pyIter_list y (Sa (wpAny_runValue ?_));have j:l<s.heap.objs.size:=Se q;have H:A.in1.in1.in1.handled=none:=by simp[hh]
    have nI:l≠(s.heap.push (V7 w)).objs.size:=by rw[Heap.size_push];exact Sf (Sn j)
    have nS:s.heap.objs.size∉[(s.heap.push (V7 w)).objs.size,l]:=by
     rw[Heap.size_push];intro z;simp only[SE,List.not_mem_nil,or_false]at z;rcases z with z|z
     ·exact Oq z (Sf (Sm _))
     ·exact Oq z (Nat.ne_of_gt j)
    refine Zet ((Walks.list H _ l nI items).toS) s.heap.objs.size nS (fun i=>ns.getD i 0) (fun i a0 hv=>IntsAre.int_at hi i a0 (by rw[Array.getElem?_toList];exact hv)) hb (items.size - 0) 0 _ (by lia) (Sk _)
     ⟨⟨_,Sd _ rfl,rfl,rfl⟩,(y.push _)⟩ (ZeO (Sc _ C)) fun I hm g=>?_
    obtain⟨h',G,L,O,b0⟩:=I;have Z:G=s.gens:=hm.gens;have U:L=s.drawn:=hm.drawn;have eo:b0=s.os:=hm.os;subst Z U eo;refine Sb (Sb ⟨rfl,h',O,rfl,g,fun b o e=>?_⟩);have B:=Se e;refine hm.heap b o (fun z=>?_) (Sc _ (Sc _ e));simp only[SE,List.not_mem_nil,or_false]at z;rcases z with z|z
    ·exact Oq z (Sf B)
    ·rw[Heap.size_push]at z
     exact Oq z (Sf (Sn B))
   ·cases X with
    |error e=>exact f
    |ok J =>
     cases J with
     |ret r =>
      obtain⟨rfl,h',tk,rfl,g,S⟩:=f
      repeat (any_goals (first|assumption|wp_step))
      exact h _ _ g S
     |_=>exact f.elim
  |_=>exact c.elim
end
theorem Zc.drawnTo{X:Cx}{pins:Ou}{c:St}{H:Hp}{s:Shared}(I:Zc X pins c H s)(d:Drawn):Zc X pins c H { s with drawn:=d }:=⟨I.ok,I.os,I.bare,I.base,I.loc,I.cell,I.free,I.freeC,I.pin,I.hok,I.len⟩
def F9(P:Program)(w:World)(a:Addr)(ks:OE):HO:=.ext fun h=>Xr P w h a ks
theorem ZeR{P:Program}{w:World}{H:Hp}{h:Heap}{a:Addr}{ks:OE}(x:Xr P w h a ks):Yy P w H h a (F9 P w a ks) :=
 ⟨x,let ⟨o,_,_,_,ho,_⟩:=id x;⟨o,ho⟩,fun c e y k=>Xr.keep (h:=c) y k⟩
theorem wD:∀{ns:OE} {us:OB},ZD (ns.map V.int) us->IntsAre us ns
 |[],_,.nil=>.nil
 |n::r,_,.cons (b:=u) h t=>by
  obtain⟨tk,rfl⟩:=h;exact .cons n tk (wD t)
theorem wE:∀{ns:OE} {us:OB},IntsAre us ns->ZD (ns.map V.int) us
 |_,_,.nil=>.nil
 |_,_,.cons n t h=>.cons ⟨t,R⟩ (wE h)
theorem wF{X:Cx}(y:X.calm=true):Xb X (.type "set") (fun xs H Q=>∃(p:Addr) (ns:OE),xs=[.ref p]/\Zg X.K H p (ns.map V.int)/\ns.length<=1000/\∀l,H l=none->Q (.ref l) (Za H l (F9 X.prog X.w l ns))):=by
 intro pins s J H xs L Q I r h;obtain⟨p,ns,rfl,n,G,q⟩:=h;obtain⟨u,rfl,x⟩:=WT r;cases x;obtain⟨c,v,B,D⟩:=I.list n;have j:IntsAre c ns:=wD v;have f:c.length=ns.length:=IntsAre.len j;refine ZeQ (I.ok.hd y) B.isList (by simpa using j) (by rw[SM,f];show _<4096;lia) fun E tk g keep=>?_;have e:(List.range c.toArray.size).map (fun i=>ns.getD i 0)=ns:=by
  rw[SM,f];refine List.ext_getElem (by simp) fun i M C=>?_;simp[List.getD_eq_getElem?_getD,C]
 rw[e]at g;exact⟨.ref _,_,I.laid (t':=tk) keep (Sg _) (ZeR g),R,q _ (I.hok.fresh (Sg _))⟩
theorem wG{X:Cx}(B:X.calm=true):Xb X (.builtin "sorted") (fun xs H Q=>∃(p:Addr) (ks:OE),xs=[.ref p]/\H p=some (F9 X.prog X.w p ks)/\ks.length<64 /\
  ∀(l:Addr) (zs:OE),H l=none->zs.Pairwise (· < ·)->(∀k,k∈zs↔k∈ks)->zs.length<=ks.length->Q (.ref l) (Za H l (.lst (zs.map V.int)))):=by
 intro pins s G H xs J Q I r h;obtain⟨p,ks,rfl,E,c,q⟩:=h;obtain⟨u,rfl,x⟩:=WT r;cases x;have n:Xr X.prog X.w s.heap p ks:=(I.hok p _ E).1;refine ZeN (I.ok.hd B) n c fun D v d tk j e zs keep no g C y mem f=>?_;have i:(zs.map V.int).length<=sizeLine:=by
  rw[Sv];exact Sh (Sh f (Nat.le_of_lt c)) (by lia)
 have new:Yy X.prog X.w (Za H D (.lst (zs.map V.int))) v D (.lst (zs.map V.int)):=⟨i,j.toList,e,wE C,by rw[Array.toArray_toList];exact g⟩;exact⟨.ref D,_,(I.laidN (t':=tk) keep no new).drawnTo d,R,q D zs (I.hasNo no) y mem f⟩
theorem wH{X:Cx}{i0:Nat}{I:Str}{pos' a1:Pos}{b0 Y iter:Expr}{e0:OD}{scope:Scope}{cl:Oy}{h0:Pos}{N:OC}{fr:List (Option Nat)}{wi:TI}{g:TG}{tt:TT}{te:TE}
  (m1:X.N.Nodup) (j1:X.N[i0]? = some I) (l2:Qj X.env.scope I) (hc:X.calm=true) (hi:PI X Y iter wi) (a2:closureFor scope X.env=pure cl) (q2:∀y∈scope.names,y.2≠.cell) (q0:scope.kind=.function)
  (x1:∀y∈scope.names,y.2=.local->scope.names.lookup y.1=some .local) (n2:Vq X scope cl N fr) (o0:V4 X cl)
  (u1:((relabel scope X.env).names.all fun p=>!(p.2 == .cell || p.2 == .free) || (cl.lookup p.1).isSome)=true)
  (hg:∀C s0 H0 ex pins,PG (Xn X N scope cl C s0 H0 ex pins) Y g) (ht:∀C s0 H0 ex pins,KU (Xn X N scope cl C s0 H0 ex pins) e0 tt) (he:∀C s0 H0 ex pins,PE (Xn X N scope cl C s0 H0 ex pins) b0 te)
  (t1:swapsWith (.ListComp b0 [⟨Y,iter,e0,0⟩] scope h0) (some (.Name I pos')) a1.line X.env=pure true:=by rfl) (v1:X.fn I=true\/X.env.scope.names.lookup I=some .local:=by first|exact .inl rfl|exact .inr rfl)
  (hs:∀v,foldedSetIterable iter X.env v=pure v:=by intro _;rfl):PS X (.Assign [.Name I pos'] (.ListComp b0 [⟨Y,iter,e0,0⟩] scope h0) a1) (KD (xH fr wi g tt te) (Wg i0)):=by
 intro pins s σ b2 D0 i2 m2;rw[exec_Assign_Name_used _ _ _ _ t1];refine Sa (wpAny_standAt (Sa ?_));show wpAny _ _ (do let _ <-comprehension (.ListComp b0 [⟨Y,iter,e0,0⟩] scope h0) scope X.env _ (newList []) false (eval iter X.env) (some (assign (.Name I pos') X.env))) _ _ s;refine Sa (Zv (wpAny_comprehension_free (use:=some (assign (.Name I pos') X.env)) (Q:=fun _ s'=>SP X pins D0 .next s') R hs a2 q0 x1 (Zv (hi pins s σ b2 _ i2 m2) fun xv s1 h1=>Zv h1 fun v2 s2 h2=>?_)) fun _ s' hq=>Sb (Sb hq));obtain⟨it,fp,tn,w2,G,e,H,T,n0,f2,W,⟨m0,w0⟩,turn⟩:=h2;subst e;refine wpAny_newObj_type (wpAny_newFunctionEnv q2 (fun y hy=>nomatch hy) (fun h4 f0 a0=>?_) q0);dsimp only at f0 a0 ⊢;generalize u:s2.heap.objs.size=D at *;generalize hG:s2.heap.push { cls:=.type "list",dict:=none,data:=.seq ([]:OB).toArray } = u0 at f0 a0 ⊢;have hC:u0.objs.size=D+1:=by rw[<-hG,Heap.size_push,u]
 generalize u2:u0.objs.size=C at f0 a0 hC ⊢;subst hC;have r0:∀b o,s2.heap.get? b=some o->h4.get? b=some o:=fun b o e=>by
  have lt:=Se e;rw[u]at lt;exact a0.extBut b o (Sf (Sn lt)) (Sc _ (hG ▸ Sc _ e))
 have d2:h4.get? D=some { cls:=.type "list",dict:=none,data:=.seq ([]:OB).toArray 0 } :=
  a0.extBut _ _ (Sf (Sm _)) (Sc _ (hG ▸ u ▸ Sd _ R))
 have flt:∀b∈fp,b<D:=fun b f=>by
  obtain⟨o,e,_⟩:=T.obj 0 _ n0 b f;have lt:=Se e;rw[u]at lt;exact lt
 have r2:∀b,b≠X.env.locals->b∉X.fs->b∉Yu X.stack:=fun b h1 h2 z=>(SE.mp (H.stkSub b z)).elim h1 h2;have pl:∀p∈X.pn++pins,p.1<D:=fun p h=>by
  have lt:=Se (H.pin p h).1;rw[u]at lt;exact lt
 have I4:∀tk,Zc (Xn X N scope cl (D+1) s2 G fp pins) [] (Qu fr σ) G { s2 with heap:=h4,toks:=tk }:=fun tk =>
  H.block q0 n2 o0 u1 f2 (fun b f=>by rw[u];exact flt b f) r0 (by rw[u];exact Nat.le_succ _) f0
 have j0:∀{B:Hp} {o:Obj},(∀b∈fp,B b=none)->∀b∈fp,VY (Xn X N scope cl (D+1) s2 G fp pins) [(D,o)] B b:=fun{B o} hn b f=>by
  obtain⟨_,S,k2,_,L,k5⟩:=f2 b f;refine⟨hn b f,Sf (Sn (flt b f)),r2 b S k2,.inl f,fun x c e=>L x c (o0.at e),fun p h=>?_⟩;rcases SF.mp h with h|h
  ·exact k5 p h
  ·rw[SD.mp h]
   exact(Sf (flt b f)).symm
 have o1:D∉Yu X.stack:=fun z=>by
  obtain⟨_,o,e,_⟩:=H.stack.mem z;have lt:=Se e;rw[u]at lt;exact Oq lt (Sl _)
 have loop:∀tk,codeAny (model X.prog X.w) X.A (.compLoop (.ListComp b0 [⟨Y,iter,e0,0⟩] scope h0) 0 (.ref it) (.ref D) (compEnvC scope cl (D+1) X.env)) (compPost (model X.prog X.w) X.A X.xe (some (assign (.Name I pos') X.env)) (fun _ s'=>SP X pins D0 .next s') (.ref D) (D+1)) { s2 with heap:=h4,toks:=tk }:=fun tk=>by
  refine xF (fun k s'=>∃i d0 B j E J,Zc (Xn X N scope cl (D+1) s2 G fp pins) [] d0 B s' /\
    s'.heap.get? D=some { cls:=.type "list",dict:=none,data:=.seq (List.toArray j) E }/\B D=none/\ZD J j/\J.length<=sizeLine/\tn i s'.heap/\(∀b∈fp,B b=none)/\W i k J d0 B) ?_ m0
   ⟨0,_,G,[],0,[],I4 tk,d2,H.hok.fresh (by rw[u];exact Sg _),.nil,Sk _,T.keep 0 _ _ n0 fun b _ o e=>r0 b o e,fun b f=>(f2 b f).1,w0⟩
  rintro k s5 ⟨i,p0,Z,j,E,J,I5,hL,k0,va,c1,f1,b1,w5⟩;have j2:∀x c,cl.lookup x=some c->c≠D:=fun x c e z=>by
   obtain⟨v,q⟩:=H.cell x c (o0.at e);have lt:=q.lt;rw[u,z]at lt;exact Oq lt (Sl _)
  have t0:Zc (Xn X N scope cl (D+1) s2 G fp pins) [(D,{ cls:=.type "list",dict:=none,data:=.seq (List.toArray j) E })] p0 Z s5:=I5.pins_of fun p h=>by
   rw[SD.mp h];exact⟨hL,k0,Sf (Sm _),o1,fun v z=>by cases z⟩
  rcases turn i k J p0 Z w5 with⟨stop,qn⟩|⟨go,x2,N1,v0,step⟩
  ·refine Wk (T.done (Xn X N scope cl (D+1) s2 G fp pins) R R R hc i _ s5 _ Z _ t0 (j0 b1) f1 stop) fun r s6 ⟨hr,P⟩=>?_
   subst hr;obtain⟨m6,l1,_⟩:=P.loc;have y0:=(P.pin (D,{ cls:=.type "list",dict:=none,data:=.seq (List.toArray j) E }) (SG _ (SD.mpr R))).1;have I8:Zc X pins σ Z s6:=H.call' (s':=s6) P.os P.base P.hok P.bare fun b f=>let ⟨_,S,_,M,L,k5⟩:=f2 b f;⟨M,S,L,k5⟩;have I9:Zc X pins σ (Za Z D (.lst J)) s6:=I8.trackS k0 y0 R (by
     cases z:X.s₀.heap.get? D with
     |none=>rfl
     |some o =>
      have lt:=Si (Se z) H.sz;rw[u]at lt;exact Oq lt (Sl _)) (fun p h=>Sf (pl p h)) ⟨c1,j,E,va,y0⟩
   have d1:X.env.locals<D+1:=by
    have:=H.lt;rw[u]at this;exact Sn this
   have e1:∀x c,X.env.cells.lookup x=some c->c<D+1:=fun x c e=>by
    obtain⟨v,q⟩:=H.cell x c e;have lt:=q.lt;rw[u]at lt;exact Sn lt
   refine wpAny_assign_Name (T1 (v:=.ref D) I9 m1 j1 l2 R (fun O g0 hz=>?_) v1);obtain⟨aa,sb,ha⟩:=hz;have nC:D+1≠aa:=by
    rcases ha with rfl|ha
    ·exact Nat.ne_of_gt d1
    ·exact Nat.ne_of_gt (e1 _ _ ha)
   refine⟨m6,l1.sameBut sb nC,fun h8 e2=>⟨_,_,g0.turned (h':=h8) (t':=O.toks) (fun b o f e=>e2.extBut b o f e) ?_ (Nat.ne_of_gt d1) (.inr ?_) (fun x c e=>Sf (e1 x c e)) (fun p h=>Sf (Sn (pl p h))),qn D k0⟩⟩
   ·rw[Zf (Nat.ne_of_gt (Sm D))]
    exact P.free
   ·have:=H.sz
    rw[u]at this;exact Nat.le_succ_of_le this
  ·refine Wk (T.item (Xn X N scope cl (D+1) s2 G fp pins) R R R hc i _ s5 _ Z _ t0 (j0 b1) f1 go) fun r s6 ⟨i1,hr,h6⟩=>?_
   subst hr;refine Wk h6 fun _ O ⟨x,H7,I7,r7,y7,l0,o2⟩=>?_;have c2:Zc (Xn X N scope cl (D+1) s2 G fp pins) ([(D,{ cls:=.type "list",dict:=none,data:=.seq (List.toArray j) E })]++Ui fp O.heap) p0 H7 O:=I7.pinned (j0 o2) (T.obj _ _ l0);refine Wk (hg _ _ _ _ _ _ O _ H7 x i1 _ c2 r7 (step x H7 y7)) fun _ s8 ⟨c0,H8,I8,q8⟩=>?_;refine Wk (ht _ _ _ _ _ _ s8 c0 H8 _ I8 q8) fun ok s9 ⟨H9,I9,q9⟩=>?_;have wk:∀{d0:St} {B:Hp} {s':Shared},Zc (Xn X N scope cl (D+1) s2 G fp pins) ([(D,{ cls:=.type "list",dict:=none,data:=.seq (List.toArray j) E })]++Ui fp O.heap) d0 B s' ->
     tn (i+1) s'.heap/\(∀b∈fp,B b=none)/\s'.heap.get? D=some { cls:=.type "list",dict:=none,data:=.seq (List.toArray j) E }/\B D=none:=fun{d0 B s'} J'=>by
    have pin:∀p∈([(D,{ cls:=.type "list",dict:=none,data:=.seq (List.toArray j) E })]:Ou)++Ui fp O.heap,s'.heap.get? p.1=some p.2/\B p.1=none:=fun p h=>let ⟨e,n,_⟩:=J'.pin p (SG _ h);⟨e,n⟩;refine⟨T.keep _ _ _ l0 fun b f o e=>(pin (b,o) (SG _ (A0 f e))).1,fun b f=>?_,(pin (D,_) (SH _ (SD.mpr R))).1,(pin (D,_) (SH _ (SD.mpr R))).2⟩;obtain⟨o,e,_⟩:=T.obj _ _ l0 b f;exact(pin (b,o) (SG _ (A0 f e))).2
   cases ok with
   |false =>
    obtain⟨m',hm,w9⟩:=v0 _ _ _ q9;obtain⟨S,k2,M,L⟩:=wk I9;exact⟨m',hm,i+1,c0,H9,j,E,J,I9.pins_of (fun _ z=>nomatch z),M,L,va,c1,S,k2,w9⟩
   |true =>
    refine Wk (he _ _ _ _ _ _ s9 c0 H9 _ I9 q9) fun y U ⟨v,z0,g0,n1,p2⟩=>?_;obtain⟨m',hm,q1⟩:=v0 _ _ _ p2;obtain⟨S,k2,M,L⟩:=wk g0;refine call_meets F.slot_list_append ⟨_,M,R⟩ F.entry_list_append (F.args_list_append_2 _ _) (PySem.list_append D j.toArray E y (by rw[SM,<-va.length];lia)) ⟨M,?_⟩;have up:∀b o,b≠D->U.heap.get? b=some o->(U.heap.update D (Obj.mapSeq fun z=>z.push y)).get? b=some o:=fun b o f e=>(Heap.get?_update_other U.heap _ (Ne.symm f)).trans e;have w1:Zc (Xn X N scope cl (D+1) s2 G fp pins) [] c0 z0 { U with heap:=U.heap.update D (Obj.mapSeq fun z=>z.push y),toks:=U.toks } :=
     (g0.pins_of (pins':=[]) fun _ z=>nomatch z).turned up L (Sf (Sm _)) (.inr (by rw[u];exact Sg _)) j2 fun p h=>by
      have y1:p∈X.pn++pins:=by simpa using h
      exact Sf (pl p y1)
    have q:=PySem.IsL.update M (fun z=>z.push y);rw[show(List.toArray j).push y=(j++[y]).toArray by simp]at q;refine⟨m',hm,i+1,c0,z0,j++[y],_,J++[v],w1,q,L,va.append (.cons n1 .nil),?_,T.keep _ _ _ S fun b f o e=>up b o (Sf (flt b f)) e,k2,q1⟩;rw[Su,Sw];lia
 exact codeAny_compStart_list (loop _) (T.self _ 0 _ _ _ (T.keep 0 _ _ n0 fun b _ o e=>r0 b o e) (loop _))
end L2
namespace K1
open PySem L2
structure MU(l:OG)(lo hi:Nat):Prop where
 one:1<=l.length
 few:l.length<=12
 up:l.Pairwise (· < ·)
 all:∀x∈l,lo<=x/\x<=hi
def RT.good:RT->Prop
 |.always=>True
 |.week b=>b<=127
 |.span a b r=>a<=b/\b<=9999/\r.good
 |.each n c=>1<=n/\n<=28/\MU c 0 (n - 1)
 |.either r s|.both r s=>r.good/\s.good
 |.but ds r=>MU ds 0 9999/\r.good
structure WN(K:Ow)(C:Addr):Prop where
 ha:W.findIn K (.ref C) "__class__" = some (some (.builtin "object.__class__"))
 hn:W.specialIn K (.builtin "object.__class__") "__get__" = some (some (.builtin "getset_descriptor.__get__"))
 tk:W.takesIn K (.builtin "object.__class__")=some true
 hm:W.mroIn K C (.type "object")=some true
theorem WN.ty{K:Ow}{C:Addr}(o:WN K C)(c:YN K C){H:Hp}{a f:Addr}{fs:List (Str×V)}(e:H a=some (.ins C f fs)):Wi K H (.ref a) (.ref C):=.ins e c o.ha o.hn o.tk o.hm
def Xd(c H:Hp):Hp:=fun a=>match H a with
 |none=>c a
 |some _=>none
theorem V8{c H:Hp}{a:Addr}{o:HO}(n:H a=none)(e:c a=some o):Xd c H a=some o:=by
 unfold Xd;rw[n];exact e
theorem B2{c H:Hp}{a:Addr}{o:HO}(e:Xd c H a=some o):H a=none/\c a=some o:=by
 unfold Xd at e;cases h:H a with
 |none=>rw[h]at e;exact⟨R,e⟩
 |some u=>rw[h]at e;cases e
theorem V9(c H:Hp):Ze (Xd c H) c:=fun _ _ e=>(B2 e).2
theorem G0{f H g c:Hp}(h:Ze f H)(i:∀a o,H a=none->g a=some o->c a=some o):Ze (Xd g H) (Xd c f):=fun a o e =>
 V8 (h.free (B2 e).1) (i a o (B2 e).1 (B2 e).2)
theorem XU{c H:Hp}{x:Addr}(n:c x=none)(s:Ze c H)(o:HO):Ze c (Za H x o):=fun b u e=>by
 rw[Zf (ZT e n)];exact s _ _ e
theorem VN{b:Nat}{lo hi:Int}(h1:lo<=b)(c:(b:Int)<=hi):Xz (.int b) lo hi=true:=SO ⟨h1,c⟩
inductive YQ(tp:Addr)(H:Hp):V->RT->Prop
 |always {a:Addr} (h:H a=some (.tup [.str (OK "always")])):YQ tp H (.ref a) .always
 |week {a:Addr} {b:Nat} (h:H a=some (.tup [.str (OK "week"),.int b])):YQ tp H (.ref a) (.week b)
 |span {a:Addr} {x y:Nat} {v:V} {r:RT} (h:H a=some (.tup [.str (OK "span"),.int x,.int y,v])) (hv:YQ tp H v r):YQ tp H (.ref a) (.span x y r)
 |each {a l:Addr} {n:Nat} {ss:OG} (h:H a=some (.tup [.str (OK "each"),.int n,.ref l])) (hl:H l=some (.lst (Yb ss))) (ne:l≠tp):YQ tp H (.ref a) (.each n ss)
 |either {a:Addr} {v u:V} {r s:RT} (h:H a=some (.tup [.str (OK "either"),v,u])) (hv:YQ tp H v r) (hu:YQ tp H u s):YQ tp H (.ref a) (.either r s)
 |both {a:Addr} {v u:V} {r s:RT} (h:H a=some (.tup [.str (OK "both"),v,u])) (hv:YQ tp H v r) (hu:YQ tp H u s):YQ tp H (.ref a) (.both r s)
 |but {a l:Addr} {ds:OG} {v:V} {r:RT} (h:H a=some (.tup [.str (OK "but"),.ref l,v])) (hl:H l=some (.lst (Yb ds))) (ne:l≠tp) (hv:YQ tp H v r):YQ tp H (.ref a) (.but ds r)
theorem YQ.same{tp:Addr}{H i:Hp}(s:Ze H i){v:V}{r:RT}(h:YQ tp H v r):YQ tp i v r:=by
 induction h with
 |always h=>exact .always (s _ _ h)
 |week h=>exact .week (s _ _ h)
 |span h _ f=>exact .span (s _ _ h) f
 |each h g ne=>exact .each (s _ _ h) (s _ _ g) ne
 |either h _ _ e c=>exact .either (s _ _ h) e c
 |both h _ _ e c=>exact .both (s _ _ h) e c
 |but h g ne _ f=>exact .but (s _ _ h) (s _ _ g) ne f
end K1
namespace L2
open PySem PySem.Spec PyProof.Rows
theorem wI{X:Cx}:WL (Xj X.prog X.w) X E0:=fun _ _ _ _ _ _ _ h=>by
 obtain⟨_,_,_,_,_,_,_,_,_,_,_,z⟩:=h;exact z.elim
end L2
namespace K1
open PySem L2
end K1
namespace L2
open PySem PySem.Spec PyProof.Rows
theorem wJ:∀{c:OC} {us:OB},ZD (c.map V.str) us->∃l:List (Str×Tok),us=strValues l/\l.map (·.1)=c
 |[],_,.nil=>⟨[],R,R⟩
 |t::r,_,.cons (b:=u) h q=>by
  obtain⟨tk,rfl⟩:=h;obtain⟨l,rfl,e⟩:=wJ q;exact⟨(t,tk)::l,R,by rw[SL,e]⟩
theorem wK(n:Nat):∀(c:OC) (k:Nat),c.foldl (fun a x=>a+x.length+n) k=k+(c.map fun x=>x.length+n).sum
 |[],k=>by simp
 |t::r,k=>by
  rw[List.foldl_cons,wK n r,SL,List.sum_cons];lia
theorem wL(n:Nat):∀c:List Str,(c.map fun x=>x.length+n).sum=(c.map (·.length)).sum+c.length*n
 |[]=>by simp
 |y::r=>by
  have e:=wL n r;simp only[SL,List.sum_cons,Sy,Nat.succ_mul];lia
inductive ZeS(K:Ow)(x:V)(xs:List V)(H:Hp)(Q:VK):Prop|mk (z:Str) (p:Addr) (ts:OC) (_:x=.str z) (_:xs=[.ref p]) (_:Zg K H p (ts.map V.str)) (_:(ts.map fun x=>x.length+z.length).sum<=sizeLine) (_:Q (.str (Str.join z ts)) H)
theorem ZeT{X:Cx}:yJ X "str.join" (ZeS X.K):=by
 intro pins s M H x S v Y Q I E r h;obtain⟨z,p,f,rfl,rfl,B,O,q⟩:=h;obtain⟨t,rfl⟩:=E;obtain⟨u,rfl,e⟩:=WT r;cases e;obtain⟨P,C,L,_⟩:=I.list B;obtain⟨l,rfl,c⟩:=wJ C;have D:Builtin.Str.tooLong ((l.map (·.1)).toArray.foldl (· + ·.length+z.length) 0)=false:=by
  rw[c,List.foldl_toArray,wK];unfold Builtin.Str.tooLong;exact SQ (by lia)
 refine call_meets F.slot_str_join (typeIs_str _ _ _) F.entry_str_join (F.args_str_join_2 _ _) (meets_str_join_list z t p l D) ⟨L.isList,?_⟩;have i:Builtin.Str.glued z (l.map (·.1))=Str.join z f:=by rw[c];exact StrLaws.glued_eq_join z f
 have J:(Str.join z f).length<=sizeLine:=by
  have h1:=StrLaws.join_length_le z f;have Z:=wL z.length f;lia
 have many:∀(m:Made),m=.str (Builtin.Str.glued z (l.map (·.1)))->m.post (fun v n=>wants (EP X pins M Q) X.xe (.ok (.ret v)) n) s:=fun m e=>by
  subst e;refine⟨by rw[i];exact J,?_⟩;rw[i];exact⟨.str _,H,I.tok _,⟨_,R⟩,q⟩
 match l,c,many with
 |[],c,many=>exact many _ R
 |[y],c,many =>
  obtain⟨g,j⟩:=y;have G:Str.join z f=g:=by rw[<-c];rfl
  rw[G]at q;exact⟨.str g,H,I,⟨j,R⟩,q⟩
 |y::T::U,c,many=>exact many _ R
end L2
namespace K1
open PySem L2
theorem ZeU{z:Str}{c:OC}{m:Nat}(hz:z.length<=1)(hm:c.length<=20)(h:∀x∈c,x.length<=10):(c.map fun x=>x.length+z.length).sum<=sizeLine:=by
 have e:∀l:List Str,(∀x∈l,x.length<=10)->(l.map fun x=>x.length+z.length).sum<=11*l.length:=by
  intro l
  induction l with
  |nil=>intro _;simp
  |cons y r f =>
   intro h;have j:=h y SC;have i:=f fun x g=>h x (SB _ g);simp only[SL,List.sum_cons,Sy];lia
 have:=e c h;exact Sh (show _<=1000 by lia) (by lia)
end K1
namespace L2
open PySem PySem.Spec PyProof.Rows
inductive ZeV(t u:TS)(D:Y6)(σ:St)(H:Hp):Prop|mk (J:St->Hp->Prop) (_:t { D with nx:=J } σ H) (_:∀σ' H',J σ' H'->u D σ' H')
theorem Ww{X:Cx}{st:Stmt}{rest:List Stmt}{t u:TS}(h1:PS X st t)(x:X6 X rest u):X6 X (st::rest) (ZeV t u):=by
 intro pins s e H D I h;obtain⟨J,h,i⟩:=h;refine wpAny_execs_cons (Zv (h1 pins s e H { D with nx:=J } I h) fun f n q=>?_);cases f with
 |next =>
  obtain⟨j,g,c,q⟩:=q;exact x pins n j g D c (i _ _ q)
 |ret v=>exact q
 |brk=>exact q
 |cont=>exact q
section
variable{X:Cx}{pins:Ou}{σ:St}{H:Hp}{s:Shared}{h':Heap}
theorem Zc.turnedL{t':Nat}{fp:OH}(I:Zc X pins σ H s)(k:∀b o,b∉fp->s.heap.get? b=some o->h'.get? b=some o)(g:∀b∈fp,VY X pins H b):Zc X pins σ H { s with heap:=h',toks:=t' }:=by
 have i:∀b u,H b=some u->b∉fp:=fun b u e z=>by rw[(g b z).1]at e;cases e
 refine I.step (g':=s.gens) (d':=s.drawn) (ch:=fp) (fun b h=>⟨(g b h).2.2.2.1,(g b h).2.1,(g b h).2.2.2.2.1,(g b h).2.2.2.2.2⟩) (fun b o _ _ f e _=>k b o f e) (fun b o _ _ f e _=>⟨o.slots,k b o f e⟩) (fun _ _ _ _ n=>n)
  (fun b o f e=>⟨o,k b o f e⟩) (fun _ _ e=>e) (fun _ _ _ e=>e) (fun b B e=>⟨#[],by rw[e];simp⟩) (fun m hm=>?_) (fun b u e=>?_) I.bare
 ·obtain⟨o,x,j,y,r⟩:=hm
  exact⟨o,x,j,k _ o (fun z=>(g _ z).2.1 R) y,r⟩
 ·refine(I.hok b u e).stay (fun c v f q=>k c v ?_ q) (fun _ q=>q) fun _ _ q=>q
  rcases f with z|z
  ·rw[z];exact i b u e
  ·exact i c _ z
theorem Zc.paired{t':Nat}{fp:OH}{x y:V}{u v:Value}(I:Zc X pins σ H s)(i:∀b∈fp,VY X pins H b)(B:∀b∈fp,∃o,s.heap.get? b=some o)
  (k:∀b o,b∉fp->s.heap.get? b=some o->h'.get? b=some o) (j:h'.get? s.heap.objs.size=some { cls:=.type "tuple",data:=.seq #[u,v] }) (D:ZG x u) (n:ZG y v) :
  Zc X pins σ (Za H s.heap.objs.size (.tup [x,y])) { s with heap:=h',toks:=t' }/\∀b∈fp,Za H s.heap.objs.size (.tup [x,y]) b=none:=by
 have C:Zc X pins σ (Za H s.heap.objs.size (.tup [x,y])) { s with heap:=s.heap.push { cls:=.type "tuple",data:=.seq #[u,v] },toks:=t' } :=
  I.laid (fun b ob q=>Sc _ q) (Sg _) ⟨show 2<=sizeLine by lia,[u,v],.cons D (.cons n .nil),IsTup.new _ _⟩
 have ne:∀b∈fp,b≠s.heap.objs.size:=fun b c e=>by
  obtain⟨o,q⟩:=B b c;exact Oq (Se q) (by rw[e];exact Sl _)
 have g:∀b∈fp,Za H s.heap.objs.size (.tup [x,y]) b=none:=fun b c=>by rw[Zf (ne b c)];exact(i b c).1
 refine⟨Zc.turnedL (s:={ s with heap:=s.heap.push { cls:=.type "tuple",data:=.seq #[u,v] },toks:=t' }) (t':=t') (fp:=fp) C (fun b o c e=>?_) (fun b c=>⟨g b c,(i b c).2⟩),g⟩;have f:(s.heap.push { cls:=.type "tuple",data:=.seq #[u,v] }).get? b=some o:=e;by_cases h:b=s.heap.objs.size
 ·subst h
  rw[Sd _ R]at f;cases f;exact j
 ·rw[Heap.get?_push_ne _ _ _ h]at f
  exact k b o c f
end
def G1(K:Ow)(l:Addr):It :=
 ⟨fun i H=>∃c x,Zg K H l c/\c[i]? = some x,fun i H v e=>∃p x,H p=none/\(∀c,Zg K H l c->c[i]? = some x)/\v=.ref p/\e=Za H p (.tup [.int i,x]),fun i H=>∃c,Zg K H l c/\c.length<=i⟩
def G2(K:Ow)(l m:Addr):It :=
 ⟨fun i H=>∃c e x y,Zg K H l c/\Zg K H m e/\c[i]? = some x/\e[i]? = some y,fun i H v f=>∃p x y,H p=none/\(∀c,Zg K H l c->c[i]? = some x)/\(∀e,Zg K H m e->e[i]? = some y)/\v=.ref p/\f=Za H p (.tup [x,y]),
  fun i H=>∃c e,Zg K H l c/\Zg K H m e/\(c.length<=i\/e.length<=i)⟩
theorem ZeW{P:Program}{w:World}{K:Ow}{es:OD}{k:Nat}{f0:Pos}(l e c:Addr)(U:e≠c):Ql P w K (.Tuple es k f0) (G1 K l) [e,c] e (fun i h=>(∃j,IsEnum h e c i j)/\h.IsListIter c l i) where
 mem:=by simp
 obj:=fun i h st b g=>by
  obtain⟨⟨j,f⟩,o,H,E,hd⟩:=st;have G:b=e\/b=c:=by simpa using g
  rcases G with rfl|rfl
  ·exact⟨_,f,fun j0 z=>by cases z⟩
  ·exact⟨o,H,fun j0 z=>by rw[hd]at z;cases z⟩
 keep:=fun i h h' st T=>⟨let ⟨j,f⟩:=st.1;⟨j,T e (by simp) _ f⟩,st.2.at fun o q=>T c (by simp) o q⟩
 item:=by
  intro X O M D E i pins s σ b0 g0 I J st L;subst O M D;obtain⟨xs,x,v,B⟩:=L;obtain⟨c0,C,p,Z⟩:=I.list v;obtain⟨u,hu,ru⟩:=C.get B;obtain⟨⟨j,f⟩,n⟩:=st;have i0:=n;refine wpAny_pyNext_enum_item f n p.isList (x:=u) (by simpa using hu) U fun h1 H k0 hT l0 hk=>⟨_,R,?_⟩;refine wpAny_letOwnedTupleGo_enum (s:={ s with heap:=h1,toks:=s.toks+1 }) H fun Y a0 Q=>?_;have h0:e<s.heap.objs.size:=Se f;have m0:c<s.heap.objs.size:=by obtain⟨_,q,_⟩:=n;exact Se q
  have d0:Y.get? s.heap.objs.size=some { cls:=.type "tuple",data:=.seq #[.int i s.toks,u] }:=(Q.2 _ (Nat.ne_of_gt h0)).trans hT;obtain⟨I2,n2⟩:=I.paired (t':=s.toks+1) (fp:=[e,c]) (x:=.int i) (y:=x) (h':=Y) J (fun b g=>by
   have G:b=e\/b=c:=by simpa using g
   rcases G with rfl|rfl
   ·exact⟨_,f⟩
   ·obtain⟨o,q,_⟩:=i0;exact⟨o,q⟩) (fun b o g q=>by
   have S:b≠e:=fun z=>g (by simp[z]);have e0:b≠c:=fun z=>g (by simp[z]);exact(Q.2 b S).trans (hk b o S e0 q)) d0 ⟨s.toks,R⟩ ru
  refine⟨.ref s.heap.objs.size,_,I2,R,⟨_,x,I.hok.fresh (Sg _),fun ys hy=>by rw[I.list_inj hy v];exact B,R,R⟩,⟨⟨_,by simpa using a0⟩,k0.at fun o q=>(Q.2 c U.symm).trans q⟩,n2⟩
 done:=by
  intro X O M D E i pins s σ b0 g0 I J st L;subst O M D;obtain⟨xs,v,B⟩:=L;obtain⟨c0,C,p,Z⟩:=I.list v;obtain⟨⟨j,f⟩,n⟩:=st;have hl:=C.length;exact wpAny_pyNext_enum_end (I.ok.hd E) f n p.isList (by simp;lia) fun h' eb=>⟨R,I.turnedL (t':=s.toks) (fp:=[e,c]) (fun b o g q=>eb b o (fun z=>g (by simp[z])) q) J⟩
 self:=fun _ _ _ _ _ st h=>by
  obtain⟨⟨j,f⟩,_⟩:=st;exact wpAny_pyIter_enum f h
theorem ZeX{P:Program}{w:World}{K:Ow}{es:OD}{k:Nat}{i0:Pos}(l m z TI TO f e:Addr)(D:ZipApart z TI TO f e l m):Ql P w K (.Tuple es k i0) (G2 K l m) [z,TI,TO,f,e] z (fun i h=>IsZip h z TI TO .none/\IsPair h TI (.ref f) (.ref e)/\(∃a b,IsPair h TO a b)/\h.IsListIter f l i/\h.IsListIter e m i) where
 mem:=by simp
 obj:=fun i h st b c=>by
  obtain⟨g,j,⟨a,o0,n⟩,⟨o1,g1,_,d1⟩,⟨o2,g2,_,d2⟩⟩:=st;have Q:b=z\/b=TI\/b=TO\/b=f\/b=e:=by simpa using c
  rcases Q with rfl|rfl|rfl|rfl|rfl
  ·exact⟨_,g,fun v z=>by cases z⟩
  ·exact⟨_,j,fun v z=>by cases z⟩
  ·exact⟨_,n,fun v z=>by cases z⟩
  ·exact⟨o1,g1,fun v z=>by rw[d1]at z;cases z⟩
  ·exact⟨o2,g2,fun v z=>by rw[d2]at z;cases z⟩
 keep:=fun i h h' st B=>⟨B z (by simp) _ st.1,B TI (by simp) _ st.2.1,let ⟨a,b,q⟩:=st.2.2.1;⟨a,b,B TO (by simp) _ q⟩,st.2.2.2.1.at fun o q=>B f (by simp) o q,st.2.2.2.2.at fun o q=>B e (by simp) o q⟩
 item:=by
  intro c0 Y X M hc i pins s σ e0 k0 I T st U;subst Y X M;obtain⟨xs,ys,x,y,E,G,u,C⟩:=U;obtain⟨d0,S,p1,j0⟩:=I.list E;obtain⟨m0,O,L,n0⟩:=I.list G;obtain⟨a0,hu,ru⟩:=S.get u;obtain⟨v,hv,rv⟩:=O.get C;obtain⟨g,j,⟨a,b,n⟩,J,H⟩:=st;have g0:=J;have h0:=H;refine wpAny_pyNext_zip_item D g j n J H p1.isList L.isList (x:=a0) (y:=v) (by simpa using hu) (by simpa using hv) fun g1 a1 a2 a3 a4 a5 a6 hk=>⟨_,R,?_⟩;refine wpAny_letOwnedTupleGo_zip (s:={ s with heap:=g1 }) a1 fun g2 b1 bs=>?_;have l0:z<s.heap.objs.size:=Se g;have f0:g2.get? s.heap.objs.size=some { cls:=.type "tuple",data:=.seq #[a0,v] }:=(bs.2 _ (Nat.ne_of_gt l0)).trans a5;obtain⟨I2,n2⟩:=I.paired (t':=s.toks) (fp:=[z,TI,TO,f,e]) (x:=x) (y:=y) (h':=g2) T (fun b c=>by
   have Q:b=z\/b=TI\/b=TO\/b=f\/b=e:=by simpa using c
   rcases Q with rfl|rfl|rfl|rfl|rfl
   ·exact⟨_,g⟩
   ·exact⟨_,j⟩
   ·exact⟨_,n⟩
   ·obtain⟨o,q,_⟩:=g0;exact⟨o,q⟩
   ·obtain⟨o,q,_⟩:=h0;exact⟨o,q⟩) (fun b o c q=>by
   have Z:b≠z:=fun w=>c (by simp[w]);have c2:b≠TO:=fun w=>c (by simp[w]);have c3:b≠f:=fun w=>c (by simp[w]);have c4:b≠e:=fun w=>c (by simp[w]);exact(bs.2 b Z).trans (hk b o Z c2 c3 c4 q)) f0 ru rv
  exact⟨.ref s.heap.objs.size,_,I2,R,⟨_,x,y,I.hok.fresh (Sg _),fun zs C=>by rw[I.list_inj C E];exact u,fun zs b0=>by rw[I.list_inj b0 G];exact C,R,R⟩,
   ⟨b1,(bs.2 _ D.TIz).trans (hk _ _ D.TIz D.TITO D.TIi1 D.TIi2 j),⟨_,_,(bs.2 _ D.TOz).trans a2⟩,a3.at fun o q=>(bs.2 _ D.i1z).trans q,a4.at fun o q=>(bs.2 _ D.i2z).trans q⟩,n2⟩
 done:=by
  intro c0 Y X M hc i pins s σ e0 k0 I T st U;subst Y X M;obtain⟨xs,ys,E,G,u⟩:=U;obtain⟨d0,S,p1,j0⟩:=I.list E;obtain⟨m0,O,L,n0⟩:=I.list G;have l1:=S.length;have l2:=O.length;obtain⟨g,j,⟨a,b,n⟩,J,H⟩:=st;exact wpAny_pyNext_zip_end (I.ok.hd hc) D g j n J H p1.isList L.isList (by rcases u with u|u;exact .inl (by simp;lia);exact .inr (by simp;lia)) fun h' eb =>
   ⟨R,I.turnedL (t':=s.toks) (fp:=[z,TI,TO,f,e]) (fun b o c q=>eb b o (fun w=>c (by simp[w])) (fun w=>c (by simp[w])) (fun w=>c (by simp[w])) (fun w=>c (by simp[w])) q) T⟩
 self:=fun _ _ _ _ _ st h=>wpAny_pyIter_zip st.1 h
section
variable{X:Cx}
inductive ZeY(K:Ow)(R:It->Hp->Prop)(vs:List V)(H1:Hp):Prop|mk a (_:vs=[.ref a]) (_:(∃xs,Zg K H1 a xs)) (_:R (G1 K a) H1)
def ZeZ(K:Ow)(h:TA):TI:=fun c H g=>h c H fun e f=>ZeY K g e f
inductive Ze0(K:Ow)(R:It->Hp->Prop)(vs:List V)(H1:Hp):Prop|mk a b (_:vs=[.ref a,.ref b]) (_:(∃xs,Zg K H1 a xs)) (_:(∃ys,Zg K H1 b ys)) (_:R (G2 K a b) H1)
def Ze1(K:Ow)(h:TA):TI:=fun c H g=>h c H fun e f=>Ze0 K g e f
theorem wM{O:OD}{k:Nat}{tp:Pos}{a:Expr}{j:TA}{p i:Pos}(J:Gl X "enumerate") (hm:X.mg "enumerate" = none) (ha:PA X [a] j) (D:starEach [a] X.env=[(false,eval a X.env)]:=by rfl):PI X (.Tuple O k tp) (.Call (.Name "enumerate" p) [a] [] i) (ZeZ X.K j):=by
 intro pins s L H R I h;refine Call_ (UV I J hm boot_enumerate (PyProof.Rows.callWith_type1 (Zv (ha i pins s L H _ I h) fun us c ⟨S,E,f,r1,u⟩=>?_) D rfl));obtain⟨l,e,⟨Y,v⟩,q⟩:=u;subst e;cases r1 with
 |cons r M =>
  cases M;cases r;obtain⟨T,Z,G,Q⟩:=f.list v;refine call_enumerate_list G.isList fun y n x U B=>?_;refine wpAny_pyIter_enum (s:={ c with heap:=y }) n ?_;refine⟨c.heap.objs.size+1,[c.heap.objs.size+1,c.heap.objs.size],_,_,E,rfl,f.kept (t':=c.toks) B,ZeW l _ _ (Nat.succ_ne_self _),⟨⟨_,n⟩,x⟩,fun b P=>?_,q⟩;have C:b=c.heap.objs.size+1\/b=c.heap.objs.size:=by simpa using P
  have g:c.heap.objs.size<=b:=by rcases C with rfl|rfl;exact Nat.le_succ _;exact Sg _
  exact f.fpOk g (f.hok.fresh g)
theorem Ze2{Z:OD}{k:Nat}{tp:Pos}{a b:Expr}{v:TA}{p u:Pos}(T:Gl X "zip") (hm:X.mg "zip" = none) (ha:PA X [a,b] v) (O:starEach [a,b] X.env=[(false,eval a X.env),(false,eval b X.env)]:=by rfl) (x:starEach [b] X.env=[(false,eval b X.env)]:=by rfl) :
  PI X (.Tuple Z k tp) (.Call (.Name "zip" p) [a,b] [] u) (Ze1 X.K v):=by
 intro pins s U H R I h;refine Call_ (UV I T hm boot_zip (PyProof.Rows.callWith_type1 (Zv (ha u pins s U H _ I h) fun us c ⟨vs,Q,f,r1,E⟩=>?_) (by rw[O,x]) (by rw[x];rfl)));obtain⟨l,m,e,⟨xs,P⟩,⟨ys,S⟩,q⟩:=E;subst e;cases r1 with
 |cons r g =>
  cases g with
  |cons L g =>
   cases g;cases r;cases L;obtain⟨b0,f0,p1,d0⟩:=f.list P;obtain⟨g0,e0,j,h0⟩:=f.list S;have G:l<c.heap.objs.size:=by obtain⟨o,e,_⟩:=p1.isList;exact Se e
   have B:m<c.heap.objs.size:=by obtain⟨o,e,_⟩:=j.isList;exact Se e
   refine call_zip_2 p1.isList j.isList fun J i a0 D C Y c0 M=>?_;refine wpAny_pyIter_zip (s:={ c with heap:=J }) i ?_;refine⟨c.heap.objs.size+4,[c.heap.objs.size+4,c.heap.objs.size+2,c.heap.objs.size+3,c.heap.objs.size,c.heap.objs.size+1],_,_,Q,rfl,f.kept (t':=c.toks) M,ZeX l m _ _ _ _ _ (zipApart_new G B),⟨i,a0,⟨_,_,D⟩,C,Y⟩,fun b y=>?_,q⟩;have n:c.heap.objs.size<=b:=by
    simp only[SE,List.not_mem_nil,or_false]at y;rcases y with rfl|rfl|rfl|rfl|rfl
    ·exact On _ _
    ·exact On _ _
    ·exact On _ _
    ·exact Sg _
    ·exact On _ _
   exact f.fpOk n (f.hok.fresh n)
end
theorem wN{K:Ox}{a:Addr}{xs:List V}{g:TG}{tb:TS}{D:Y6}{c:St}{H:Hp}(f:Nat->St->Hp->Prop)(G:f 0 c H)(I:∀i c H,i<=xs.length->f i c H->Zg K H a xs)
  (L:∀i x p c H,xs[i]? = some x->H p=none->f i c H->g (.ref p) c (Za H p (.tup [.int i,x])) fun u j=>tb { D with nx:=f (i+1),ct:=f (i+1),bk:=D.nx } u j) (hd:∀c H,f xs.length c H->D.nx c H) :
  ∃W:Nat->Nat->St->Hp->Prop,(∃m,W 0 m c H)/\∀i m c H,W i m c H ->
   ((G1 K a).stop i H/\D.nx c H)\/((G1 K a).go i H/\∃N:St->Hp->Prop,(∀n h,N n h->∃B,B<m/\W (i+1) B n h)/\∀x h,(G1 K a).yld i H x h->g x c h fun u j=>tb { D with nx:=N,ct:=N,bk:=D.nx } u j):=by
 refine⟨fun i m c H=>m=xs.length - i/\i<=xs.length/\f i c H,⟨xs.length,by simp,Sk _,G⟩,?_⟩;rintro i m c H ⟨rfl,J,p⟩;have q:=I i c H J p;by_cases C:i<xs.length
 ·refine .inr ⟨⟨xs,xs[i],q,by simp[C]⟩,f (i+1),fun n h E=>⟨xs.length - (i+1),by lia,R,C,E⟩,fun v h y=>?_⟩
  obtain⟨r,x,M,y,rfl,rfl⟩:=y;exact L i x r c _ (y xs q) M p
 ·have e:i=xs.length:=by lia
  subst e;exact .inl ⟨⟨xs,q,Sg _⟩,hd c H p⟩
section
variable{κ:Type} [DecidableEq κ]
def Zz(e:List (κ×V))(k:κ):Option V:=(e.find? fun c=>decide (c.1=k)).map (·.2)
def YO(e:List (κ×V))(k:κ)(v:V):List (κ×V) :=
 if (e.any fun c=>decide (c.1=k))=true then e.map (fun c=>if c.1=k then (c.1,v)else c)else e++[(k,v)]
def Vr(e:List (κ×V))(k:κ):List (κ×V):=e.filter fun c=>decide (c.1≠k)
theorem Vb{p:κ×V}{r:List (κ×V)}{k:κ}(e:p.1=k):Zz (p::r) k=some p.2:=by simp[Zz,List.find?_cons,e]
theorem WU{p:κ×V}{r:List (κ×V)}{k:κ}(e:¬ p.1=k):Zz (p::r) k=Zz r k:=by simp[Zz,List.find?_cons,e]
theorem G3(k:κ):∀c:List (κ×V),(c.any fun f=>decide (f.1=k))=(Zz c k).isSome
 |[]=>rfl
 |p::r=>by
  rw[List.any_cons];by_cases e:p.1=k
  ·simp only[Vb e,SO e,Bool.true_or,Option.isSome_some]
  ·rw[WU e,SQ e,Bool.false_or];exact G3 k r
theorem wO(k j:κ)(y:V):∀f:List (κ×V),Zz (f.map fun c=>if c.1=k then (c.1,y)else c) j=(Zz f j).map fun x=>if j=k then y else x
 |[]=>rfl
 |p::r=>by
  have g:=wO k j y r;rw[SL];by_cases h:p.1=k
  ·rw[SV h]
   by_cases e:p.1=j
   ·rw[Vb (p:=(p.1,y)) e,Vb e,Option.map_some,SV (e.symm.trans h)]
   ·rw[WU (p:=(p.1,y)) e,WU e,g]
  ·rw[SU h]
   by_cases e:p.1=j
   ·rw[Vb (p:=p) e,Vb e,Option.map_some,SU (fun z=>h (e.trans z))]
   ·rw[WU (p:=p) e,WU e,g]
theorem wP(k j:κ)(y:V):∀c:List (κ×V),Zz c k=none->Zz (c++[(k,y)]) j=if j=k then some y else Zz c j
 |[],_=>by
  by_cases e:k=j
  ·rw[SV e.symm];exact Vb (p:=(k,y)) e
  ·rw[SU (fun z=>e z.symm)];exact WU (p:=(k,y)) e
 |p::r,hn=>by
  rw[List.cons_append];have f:¬ p.1=k:=fun z=>by rw[Vb z]at hn;cases hn
  rw[WU f]at hn;have g:=wP k j y r hn;by_cases e:p.1=j
  ·rw[Vb e,Vb e,SU (fun z=>f (e.trans z))]
  ·rw[WU e,WU e,g]
theorem MV(c:List (κ×V))(k j:κ)(y:V):Zz (YO c k y) j=if j=k then some y else Zz c j:=by
 unfold YO;by_cases a:(c.any fun f=>decide (f.1=k))=true
 ·rw[SV a,wO]
  rw[G3]at a;by_cases e:j=k
  ·obtain⟨x,g⟩:=Option.isSome_iff_exists.mp a
   rw[SV e,e,g,Option.map_some,SV R]
  ·rw[SU e]
   cases Zz c j with
   |none=>rfl
   |some x=>rw[Option.map_some,SU e]
 ·rw[SU a]
  refine wP k j y c ?_;rw[G3]at a;cases q:Zz c k with
  |none=>rfl
  |some x=>rw[q]at a;exact(a R).elim
theorem B3(c:List (κ×V))(k:κ)(v:V):(YO c k v).length<=c.length+1:=by
 unfold YO
 split
 ·rw[Sv];lia
 ·rw[Su,Sy,List.length_nil];lia
theorem UI{c:List (κ×V)}{k:κ}(v:V)(h:Zz c k=none):YO c k v=c++[(k,v)]:=by
 unfold YO;rw[G3,h];exact SU (by lia)
theorem XS.isSome_eq{o:Option V}{u:Option Value}(r:XS o u):o.isSome=u.isSome:=by
 cases o with
 |none=>cases u with
  |none=>rfl
  |some _=>exact(show False from r).elim
 |some _=>cases u with
  |none=>exact(show False from r).elim
  |some _=>rfl
theorem XS.getD{o:Option V}{u:Option Value}{d:V}{d':Value}(r:XS o u)(c:ZG d d'):ZG (o.getD d) (u.getD d'):=by
 cases o with
 |none=>cases u with
  |none=>exact c
  |some _=>exact(show False from r).elim
 |some _=>cases u with
  |none=>exact(show False from r).elim
  |some _=>exact r
theorem KV.val{g:List (κ×V)}{vs:List (κ×Value)}(r:KV g vs)(k:κ):XS (Zz g k) (valueAt vs k):=by
 unfold KV at r
 induction r with
 |nil=>exact True.intro
 |@cons p q u c h t j =>
  obtain⟨i,n⟩:=h;by_cases e:p.1=k
  ·have f:q.1=k:=i.symm.trans e
   have b:valueAt (q::c) k=some q.2:=by simp[valueAt,List.find?_cons,f]
   rw[Vb e,b];exact n
  ·have f:¬ q.1=k:=fun z=>e (i.trans z)
   have b:valueAt (q::c) k=valueAt c k:=by simp[valueAt,List.find?_cons,f]
   rw[WU e,b];exact j
theorem KV.any{e:List (κ×V)}{vs:List (κ×Value)}(r:KV e vs)(k:κ):(e.any fun c=>decide (c.1=k))=vs.any fun c=>decide (c.1=k):=by
 unfold KV at r
 induction r with
 |nil=>rfl
 |cons h t f=>rw[List.any_cons,List.any_cons,f,h.1]
theorem KV.repl{g:List (κ×V)}{vs:List (κ×Value)}(r:KV g vs)(k:κ){y:V}{u:Value}(i:ZG y u) :
  KV (g.map fun c=>if c.1=k then (c.1,y)else c) (vs.map fun c=>if c.1=k then (c.1,u)else c):=by
 unfold KV at r ⊢
 induction r with
 |nil=>exact .nil
 |@cons p q x v h t j =>
  rw[SL,SL];refine .cons ?_ j;obtain⟨f,n⟩:=h;by_cases e:p.1=k
  ·rw[SV e,SV (f.symm.trans e)];exact⟨f,i⟩
  ·rw[SU e,SU (fun z=>e (f.trans z))];exact⟨f,n⟩
theorem KV.put{f:List (κ×V)}{vs:List (κ×Value)}(r:KV f vs)(k:κ){y:V}{u:Value}(c:ZG y u):KV (YO f k y) (stored vs k u):=by
 unfold YO stored;rw[r.any k];by_cases e:(vs.any fun g=>decide (g.1=k))=true
 ·rw[SV e,SV e];exact r.repl k c
 ·rw[SU e,SU e];exact Paired.snoc r ⟨R,c⟩
theorem KV.length{c:List (κ×V)}{vs:List (κ×Value)}(r:KV c vs):c.length=vs.length:=Paired.length r
theorem B4(c:List (κ×V))(k:κ):(Vr c k).length<=c.length:=List.length_filter_le _ _
end
theorem Qw{P:Program}{w:World}{k:Zl}{u:Value}(r:ZG (kV k) u):(Xu P w).is k u=true:=by
 cases k with
 |inl i=>obtain⟨t,e⟩:=(show ∃t,u=Value.int i t from r);subst e;exact Zca P w i t
 |inr x=>obtain⟨t,e⟩:=(show ∃t,u=Value.str x t from r);subst e;exact Zcb P w x t
theorem wQ{P:Program}{w:World}:∀{ks:List Zl} {us:OB},ZD (ks.map kV) us->ItemsAre (Xu P w) ks us
 |[],_,r=>by rw[List.map_nil]at r;cases r;exact .nil
 |k::ks,_,r=>by
  rw[SL]at r;cases r with
  |cons h t=>exact .cons (Qw h) (wQ t)
abbrev KT(H:Hp):List (List Zl×V)->List (List Zl×Addr×Value)->Prop:=Paired fun p q=>p.1=q.1/\H q.2.1=some (.tup (p.1.map kV))/\ZG p.2 q.2.2
theorem KT.val{H:Hp}{g:List (List Zl×V)}{xs:List (List Zl×Addr×Value)}(r:KT H g xs)(k:List Zl):XS (Zz g k) ((atKey xs k).map (·.2)):=by
 induction r with
 |nil=>exact True.intro
 |@cons p q u c h t j =>
  obtain⟨i,_,n⟩:=h;by_cases e:p.1=k
  ·have f:q.1=k:=i.symm.trans e
   have b:atKey (q::c) k=some q.2:=by simp[atKey,List.find?_cons,f]
   rw[Vb e,b];exact n
  ·have f:¬ q.1=k:=fun z=>e (i.trans z)
   have b:atKey (q::c) k=atKey c k:=by simp[atKey,List.find?_cons,f]
   rw[WU e,b];exact j
theorem KT.repl{H:Hp}{g:List (List Zl×V)}{xs:List (List Zl×Addr×Value)}(r:KT H g xs)(k:List Zl){y:V}{u:Value}(n:ZG y u) :
  KT H (g.map fun f=>if f.1=k then (f.1,y)else f) (xs.map (putAt k u)):=by
 induction r with
 |nil=>exact .nil
 |@cons p q B x h t v =>
  rw[SL,SL];refine .cons ?_ v;obtain⟨c,i,j⟩:=h;unfold putAt;by_cases e:p.1=k
  ·rw[SV e,SV (c.symm.trans e)];exact⟨c,i,n⟩
  ·rw[SU e,SU (fun z=>e (c.trans z))];exact⟨c,i,j⟩
theorem KT.put{H:Hp}{c:List (List Zl×V)}{xs:List (List Zl×Addr×Value)}(r:KT H c xs)(k:List Zl){b:Addr}{y:V}{u:Value}(g:H b=some (.tup (k.map kV)))(f:ZG y u) :
  KT H (YO c k y) (storedH xs k b u):=by
 have e:(c.any fun h=>decide (h.1=k))=(atKey xs k).isSome:=by
  rw[G3,(r.val k).isSome_eq,Option.isSome_map]
 unfold YO storedH;rw[e];by_cases q:(atKey xs k).isSome=true
 ·rw[SV q,SV q];exact r.repl k f
 ·rw[SU q,SU q];exact Paired.snoc r ⟨R,g,f⟩
theorem KT.keeps{H c:Hp}{e:List (List Zl×V)}{xs:List (List Zl×Addr×Value)}(r:KT H e xs)(f:∀b ys,H b=some (.tup ys)->c b=some (.tup ys)):KT c e xs :=
 Paired.mapP r fun _ _ z=>⟨z.1,f _ _ z.2.1,z.2.2⟩
section
variable{P:Program}{w:World}{H:Hp}{h:Heap}{a:Addr}
theorem wR{u:HO}(ok:Yp P w H h)(e:Rd H a u):Yy P w H h a u:=e.ok ok
theorem U7{c:List (Zl×V)}(ok:Yp P w H h)(e:Rd H a (.dK c)):c.length<=sizeLine/\(a == sysModules)=false/\∃vs,KV c vs/\h.DictOf (Xu P w) a vs :=
 show Yy P w H h a (.dK c)from wR ok e
theorem wS{c:List (Zl×V)}(ok:Yp P w H h)(e:H a=some (.dK c)):c.length<=sizeLine/\(a == sysModules)=false/\∃vs,KV c vs/\h.DictOf (Xu P w) a vs:=U7 ok (.inl e)
theorem Qx{ks:List Zl}(ok:Yp P w H h)(e:H a=some (.tup (ks.map kV))):(tupleKind (Xu P w)).is h ks a:=by
 obtain⟨_,c,r,o,i,g,n,f⟩:=(show Yy P w H h a (.tup (ks.map kV))from ok a _ e);exact⟨o,c.toArray,n,i,g,f,by simpa using wQ r⟩
theorem Qy{f:List (List Zl×V)}(ok:Yp P w H h)(e:Rd H a (.dT f)):f.length<=sizeLine/\(a == sysModules)=false /\
  ∃xs,KT H f xs/\h.DictOfH (tupleKind (Xu P w)) a xs:=by
 obtain⟨z,y,xs,r,o,u,j,D,C,i,n,v⟩:=(show Yy P w H h a (.dT f)from wR ok e);refine⟨z,y,xs,r,o,u,j,D,C,i,n,fun x c=>?_,v⟩;have all:∀{l:List (List Zl×V)} {m:List (List Zl×Addr×Value)},KT H l m->∀x∈m,(tupleKind (Xu P w)).is h x.1 x.2.1:=by
  intro l m q
  induction q with
  |nil=>intro x c;exact nomatch c
  |@cons p q G E g t B =>
   intro x c;rcases SE.mp c with e|c
   ·subst e
    exact Qx ok (by rw[<-g.1];exact g.2.1)
   ·exact B x c
 exact all r x c
theorem wT{c:List (List Zl×V)}(ok:Yp P w H h)(e:H a=some (.dT c)):c.length<=sizeLine/\(a == sysModules)=false /\
  ∃xs,KT H c xs/\h.DictOfH (tupleKind (Xu P w)) a xs:=Qy ok (.inl e)
end
def Z9(H:Hp)(a:Addr)(y:V)(r:Option V):Prop :=
 (∃c k,Rd H a (.dK c)/\y=kV k/\r=Zz c k)\/∃c k b,Rd H a (.dT c)/\y=.ref b/\H b=some (.tup (k.map kV))/\r=Zz c k
def XM(H:Hp)(a:Addr)(y v:V)(e:Hp):Prop :=
 (∃c k,H a=some (.dK c)/\y=kV k/\c.length<sizeLine/\e=Za H a (.dK (YO c k v))) \/
 ∃c k b,H a=some (.dT c)/\y=.ref b/\H b=some (.tup (k.map kV))/\c.length<sizeLine/\e=Za H a (.dT (YO c k v))
theorem Z9.k{H:Hp}{a:Addr}{c:List (Zl×V)}{k:Zl}(e:H a=some (.dK c)):Z9 H a (kV k) (Zz c k):=.inl ⟨c,k,.inl e,R,R⟩
theorem Z9.t{H:Hp}{a b:Addr}{c:List (List Zl×V)}{k:List Zl}(e:H a=some (.dT c))(f:H b=some (.tup (k.map kV))):Z9 H a (.ref b) (Zz c k):=.inr ⟨c,k,b,.inl e,R,f,R⟩
theorem XM.k{H:Hp}{a:Addr}{c:List (Zl×V)}{k:Zl}{v:V}(e:H a=some (.dK c))(f:c.length<sizeLine):XM H a (kV k) v (Za H a (.dK (YO c k v))):=.inl ⟨c,k,e,R,f,R⟩
theorem XM.t{H:Hp}{a b:Addr}{c:List (List Zl×V)}{k:List Zl}{v:V}(e:H a=some (.dT c))(g:H b=some (.tup (k.map kV)))(f:c.length<sizeLine) :
  XM H a (.ref b) v (Za H a (.dT (YO c k v))):=.inr ⟨c,k,b,e,R,g,f,R⟩
section
variable{X:Cx}{pins:Ou}{σ:St}{H:Hp}{s:Shared}{a:Addr}{y v:V}{u r:Value}{o:Option V}{A:Around}{E:Ot}
theorem Zc.big(I:Zc X pins σ H s):sysModules<s.heap.objs.size:=by
 have h:mainGlobals<s.heap.objs.size:=(I.mod.glob.keeps I.bk).lt;exact Nat.lt_trans (by lia) h
theorem Ze3{Q:Ot}(D:A.units+1<cLine)(I:Zc X pins σ H s)(g:Z9 H a y (some v))(q:ZG y u)(h:∀c s',Zc X pins σ H s'->ZG v c->Q c s') :
  wpAny (model X.prog X.w) A (getItem (.ref a) u) Q E s:=by
 rcases g with⟨C,k,e,i,l⟩|⟨C,k,b,e,i,B,l⟩
 ·subst i
  obtain⟨z,hd,G,rel,f⟩:=U7 I.hok e;obtain⟨c,n,j⟩:=XS.some_of (v:=v) (o:=valueAt G k) (by rw[l];exact rel.val k);exact wpAny_getItem_of (Qw q) f.mapOf n (h c _ (I.tok _) j)
 ·subst i
  cases (show u=Value.ref b from q);obtain⟨z,hd,J,rel,f⟩:=Qy I.hok e;obtain⟨c,n,j⟩:=XS.some_of (v:=v) (o:=(atKey J k).map (·.2)) (by rw[l];exact rel.val k);obtain⟨p,L,x⟩:=Of.mp n;refine wpAny_getItem_heap (tupleKind_room_in1 D) (Qx I.hok B) f L ?_;rw[x];exact h c _ (I.tok _) j
theorem Ze4{Q:Ot}(x:A.units+1<cLine)(I:Zc X pins σ H s)(g:Z9 H a y o)(i:ZG y u)(h:∀s',Zc X pins σ H s'->Q (.bool o.isSome) s') :
  wpAny (model X.prog X.w) A (compareOp .In u (.ref a)) Q E s:=by
 rcases g with⟨n,k,e,f,l⟩|⟨n,k,b,e,f,j,l⟩
 ·subst f
  obtain⟨z,hd,B,rel,c⟩:=U7 I.hok e;refine wpAny_in_of (Qw i) hd c.mapOf ?_;rw[<-(rel.val k).isSome_eq,<-l];exact h _ (I.tok _)
 ·subst f
  cases (show u=Value.ref b from i);obtain⟨z,hd,C,rel,c⟩:=Qy I.hok e;refine wpAny_in_heap (tupleKind_room_in1 x) (Qx I.hok j) hd c ?_;have q:=(rel.val k).isSome_eq;rw[Option.isSome_map]at q;rw[<-q,<-l];exact h _ (I.tok _)
theorem Ze5{Q:Ot}(x:A.units+1<cLine)(I:Zc X pins σ H s)(g:Z9 H a y o)(i:ZG y u)(h:∀s',Zc X pins σ H s'->Q (.bool (!o.isSome)) s') :
  wpAny (model X.prog X.w) A (compareOp .NotIn u (.ref a)) Q E s:=by
 rcases g with⟨n,k,e,f,l⟩|⟨n,k,b,e,f,j,l⟩
 ·subst f
  obtain⟨z,hd,B,rel,c⟩:=U7 I.hok e;refine wpAny_notIn_of (Qw i) hd c.mapOf ?_;rw[<-(rel.val k).isSome_eq,<-l];exact h _ (I.tok _)
 ·subst f
  cases (show u=Value.ref b from i);obtain⟨z,hd,C,rel,c⟩:=Qy I.hok e;refine wpAny_notIn_heap (tupleKind_room_in1 x) (Qx I.hok j) hd c ?_;have q:=(rel.val k).isSome_eq;rw[Option.isSome_map]at q;rw[<-q,<-l];exact h _ (I.tok _)
theorem La{h':Heap}{t':Nat}{ob:HO}(I:Zc X pins σ H s)(c:D9 (H a))(f:Heap.SameBut a s.heap h')(g:∃q,h'.get? a=some q)(new:Yy X.prog X.w (Za H a ob) h' a ob) :
  Zc X pins σ (Za H a ob) { s with heap:=h',toks:=t' } :=
 I.write (x:=a) (e:=a) c (.inl R) (fun b q h z=>(f.2 b h).trans z) g new
theorem wU{P:Program}{w:World}{e:Hp}{h':Heap}{c:List (Zl×V)}{vs:List (Zl×Value)}(z:c.length<=sizeLine)(hd:(a == sysModules)=false)(rel:KV c vs)(dd:h'.DictOf (Xu P w) a vs) :
  Yy P w e h' a (.dK c):=⟨z,hd,vs,rel,dd⟩
theorem Ze6{O:Hp}{Q:OA}(hu:A.units+1<cLine)(I:Zc X pins σ H s)(g:XM H a y v O)(J:ZG y u)(L:ZG v r)(h:∀s',Zc X pins σ O s'->Q () s') :
  wpAny (model X.prog X.w) A (setItem (.ref a) u r) Q E s:=by
 rcases g with⟨c,k,e,D,l,C⟩|⟨c,k,b,e,D,M,l,C⟩
 ·subst D C
  obtain⟨z,hd,T,rel,x⟩:=wS I.hok e;have j:T.length<=sizeLine:=by rw[<-rel.length];exact z
  have n:(YO c k v).length<=sizeLine:=by have:=B3 c k v;lia
  refine wpAny_setItem_pairs (hsz:=j) (Qw J) x fun G i B=>h _ ?_;have he:∃q,G.get? a=some q:=let ⟨q,_,_,f,_⟩:=i;⟨q,f⟩;exact La I (by rw[e];exact True.intro) B he (wU n hd (rel.put k L) i)
 ·subst D C
  cases (show u=Value.ref b from J);obtain⟨z,hd,Y,rel,x⟩:=wT I.hok e;have j:Y.length<=sizeLine:=by rw[<-Paired.length rel];exact z
  have n:(YO c k v).length<=sizeLine:=by have:=B3 c k v;lia
  refine wpAny_setItem_heap (hsz:=j) (tupleKind_room_in1 hu) (Qx I.hok M) x fun G i B=>h _ ?_;obtain⟨q,es,U,f,h2,S,Z,_,h5⟩:=i;refine La I (by rw[e];exact True.intro) B ⟨q,f⟩ ⟨n,hd,_,(rel.put k M L).keeps fun a0 ys P=>?_,q,es,U,f,h2,S,Z,h5⟩;rw[Zf (Z3 P e (fun z=>nomatch z))];exact P
end
section
variable{X:Cx}{pins:Ou}{σ:St}{H:Hp}{s:Shared}{a:Addr}{kvs:List (Zl×V)}{k:Zl}{u:Value}{A:Around}{E:Ot}
theorem Ze7{Q:Ot}(I:Zc X pins σ H s)(e:Rd H a (.dK kvs))(h:∀t s',Zc X pins σ H s'->Q (.int kvs.length t) s'):wpAny (model X.prog X.w) A (call (.builtin "len") [.ref a]) Q E s:=by
 obtain⟨z,hd,f,rel,c⟩:=U7 I.hok e;refine call_len_dict hd c (by rw[<-rel.length];rw[sizeLine_eq]at z;lia) ?_;rw[<-rel.length];exact h _ _ (I.tok _)
end
def MW(i:Expr):Prop:=∀e c,subscripted i false e c=operate [e,c] (getItem e c)
theorem Ze8{prog:Program}{w:World}{A:Around}{E:Ot}{s:Shared}{env:Env}{value slice:Expr}{y:Pos}{T id:String}{Q:Ot}
  (B:typeLookup (.type T) "__getitem__" = pure (some (.builtin id))) (v:MW slice)
  (h:wpAny (model prog w) A (eval value env) (fun o n=>wpAny (model prog w) A (eval slice env) (fun i c=>c.TypeIs o T/\wpAny (model prog w) A (getItem o i) Q E c) E n) E s) :
  wpAny (model prog w) A (eval (.Subscript value slice y) env) Q E s:=by
 refine Subscript_ (Op h (fun o n u=>Op u (fun i c f=>?_) fun _ _ x=>x) fun _ _ x=>x);obtain⟨j,f⟩:=f;unfold subscriptTail;refine Sa ?_;rw[getitemInPython_of_ne j.not_modules];refine Sa (wpAny_specialOf j B ?_);have e:wpAny (model prog w) A (subscripted slice false o i) (fun r g=>wpAny (model prog w) A (letTemporaryGo value o r >>= fun _=>pure r) Q E g) E c:=by
  rw[v o i];exact wpAny_operating (Op f (fun r g q=>Sa (wpAny_letTemporaryGo (Sb q))) fun _ _ x=>x)
 first
  |exact Sb (Sa e)
  |exact Sa (Sb (Sa e))
  |exact Sa e
theorem Ze9{X:Cx}{pins:Ou}{f:St}{H:Hp}{s:Shared}{a:Addr}{y:V}{o:Option V}(I:Zc X pins f H s)(g:Z9 H a y o):s.TypeIs (.ref a) "dict" := by
 rcases g with⟨h,k,e,_,_⟩|⟨h,k,b,e,_,_,_⟩
 ·obtain⟨_,_,i,_,c⟩:=U7 I.hok e
  exact c.typeIs
 ·obtain⟨_,_,j,_,c⟩:=Qy I.hok e
  exact c.typeIs
inductive Zfa(Q:VK)(x:V)(y:V)(H2:Hp):Prop|mk a v (_:x=.ref a) (_:Z9 H2 a y (some v)) (_:Q v H2)
def wV(f ty:TE):TE:=fun c H Q=>f c H fun x g=>ty c g fun y e=>Zfa Q x y e
inductive Zfb(Q:VK)(y:V)(x:V)(H2:Hp):Prop|mk a o (_:x=.ref a) (_:Z9 H2 a y o) (_:Q (.bl o.isSome) H2)
def Zfc(ty f:TE):TE:=fun c H Q=>ty c H fun y g=>f c g fun x e=>Zfb Q y x e
inductive Zfd(Q:VK)(y:V)(x:V)(H2:Hp):Prop|mk a o (_:x=.ref a) (_:Z9 H2 a y o) (_:Q (.bl (!o.isSome)) H2)
def Zfe(ty f:TE):TE:=fun c H Q=>ty c H fun y g=>f c g fun x e=>Zfd Q y x e
inductive Zff(D:Y6)(σ:St)(v:V)(x:V)(y:V)(H3:Hp):Prop|mk a H4 (_:x=.ref a) (_:XM H3 a y v H4) (_:D.nx σ H4)
def Zfg(g ty i:TE):TS:=fun D c H=>i c H fun v h=>g c h fun x e=>ty c e fun y f=>Zff D c v x y f
section
variable{X:Cx}{o i e value:Expr}{pos pos' tpos:Pos}{td ty tv:TE}
theorem Zfh(P:X.A.units+1<cLine)(M:PE X o td)(hi:PE X i ty)(G:MW i):PE X (.Subscript o i pos) (wV td ty):=by
 intro pins s f H Q I h;refine Ze8 PySem.F.slot_dict_getitem.lookup G (Zv (M pins s f H _ I h) fun u O ⟨x,J,n,E,q⟩=>Zv (hi pins O f J _ n q) fun T s2 ⟨y,j,c,C,a,v,ex,g,B⟩=>?_);subst ex;obtain rfl:u=Value.ref a:=E;exact⟨Ze9 c g,Ze3 P c g C fun S U D L=>⟨v,j,D,L,B⟩⟩
theorem G4(M:X.A.units+1<cLine)(hi:PE X i ty)(G:PE X o td):PC X .In i o (Zfc ty td):=by
 intro pins s c H Q I h;refine Zv (hi pins s c H _ I h) fun O J ⟨y,D,j,v,n⟩=>Zv (G pins J c D _ j n) fun u s2 ⟨x,f,E,C,a,L,ex,g,q⟩=>?_;subst ex;obtain rfl:u=Value.ref a:=C;exact Ze4 M E g v fun P B=>⟨.bl L.isSome,f,B,R,q⟩
theorem Zfi(M:X.A.units+1<cLine)(hi:PE X i ty)(G:PE X o td):PC X .NotIn i o (Zfe ty td):=by
 intro pins s c H Q I h;refine Zv (hi pins s c H _ I h) fun O J ⟨y,D,j,v,n⟩=>Zv (G pins J c D _ j n) fun u s2 ⟨x,f,E,C,a,L,ex,g,q⟩=>?_;subst ex;obtain rfl:u=Value.ref a:=C;exact Ze5 M E g v fun P B=>⟨.bl (!L.isSome),f,B,R,q⟩
theorem Vc(U:X.A.units+1<cLine)(S:PE X o td)(hi:PE X i ty)(M:PE X value tv)(O:swapsWith value (some (.Subscript o i pos')) pos.line X.env=pure false) :
  PS X (.Assign [.Subscript o i pos'] value pos) (Zfg td ty tv):=by
 intro pins s c H a0 I h;refine wpAny_Assign_Subscript (Zv (M pins s c H _ I h) fun r T ⟨v,P,n,G,q⟩=>Zv (S pins T c P _ n q) fun u s2 ⟨x,f,Q,L,B⟩=>Zv (hi pins s2 c f _ Q B) fun iv s3 ⟨y,Y,E,D,a,J,ex,g,C⟩=>?_) O;subst ex;obtain rfl:u=Value.ref a:=L;exact Ze6 U E g D G fun Z j=>⟨c,J,j,C⟩
end
theorem Zfj{P:Program}{w:World}{H:Hp}(h:Heap)(c:sysModules<h.objs.size):Yy P w H (h.push { cls:=.type "dict",data:=.dict #[] }) h.objs.size (.dK []) :=
 ⟨Sk _,beq_eq_false_iff_ne.mpr (Ne.symm (Sf c)),[],.nil,Heap.DictOf.new h⟩
theorem Zfk{P:Program}{w:World}{H:Hp}(h:Heap)(c:sysModules<h.objs.size):Yy P w H (h.push { cls:=.type "dict",data:=.dict #[] }) h.objs.size (.dT []) :=
 ⟨Sk _,beq_eq_false_iff_ne.mpr (Ne.symm (Sf c)),[],.nil,_,#[],0,Sd _ R,⟨R,R,R⟩,R,R,List.nodup_nil⟩
def Zfl:TE:=fun _ H Q=>∀p,H p=none->Q (.ref p) (Za H p (.dT []))
section
variable{X:Cx}{pos:Pos}
theorem MX:PE X (.Dict [] [] pos) Zfl:=fun pins s c H Q I h =>
 wpAny_Dict_empty ⟨.ref s.heap.objs.size,_,I.laid (a:=s.heap.objs.size) (o:=.dT []) (t':=s.toks) (fun _ _ q=>Sc _ q) (Sg _) (Zfk s.heap I.big),R,h _ (I.hok.fresh (Sg _))⟩
end
def MY:List (TE×TE)->St->Hp->(List (V×V)->Hp->Prop)->Prop
 |[],_,H,Q=>Q [] H
 |(tk,h)::r,c,H,Q=>tk c H fun x g=>h c g fun y e=>MY r c e fun i f=>Q ((x,y)::i) f
abbrev VV:List (V×V)->List (Value×Value)->Prop:=Paired fun p q=>ZG p.1 q.1/\ZG p.2 q.2
def Lb(X:Cx)(i:Pos)(keys:List (Option Expr))(values:OD)(h:List (TE×TE)):Prop :=
 ∀(pins:Ou) (s:Shared) (σ:St) (H:Hp) (Q:List (V×V)->Hp->Prop),Zc X pins σ H s->MY h σ H Q ->
  wpAny (model X.prog X.w) X.A (evalPairs (pairTrees keys values X.env i)) (fun f g=>∃e c,Zc X pins σ c g/\VV e f/\Q e c) X.xe s
theorem Zfm{X:Cx}{c:Pos}:Lb X c [] [] []:=fun pins s e H Q I h=>pairTrees_nil_walk ⟨[],H,I,.nil,h⟩
theorem G5{X:Cx}{f:Pos}{k v:Expr}{ks:List (Option Expr)}{vs:OD}{tk g:TE}{e:List (TE×TE)}(L:PE X k tk)(J:PE X v g)(P:Lb X f ks vs e) :
  Lb X f (some k::ks) (v::vs) ((tk,g)::e):=fun pins s c H Q I h =>
 pairTrees_cons_walk (Zv (L pins s c H _ I h) fun u S ⟨x,M,n,G,q⟩=>Zv (J pins S c M _ n q) fun U s2 ⟨y,i,O,D,B⟩ =>
  Zv (P pins s2 c i _ O B) fun Y Z ⟨T,j,E,rel,C⟩=>⟨(x,y)::T,j,E,.cons ⟨G,D⟩ rel,C⟩)
def G6(f more:List (Zl×V)):List (Zl×V):=more.foldl (fun e c=>YO e c.1 c.2) f
theorem KV.merge:∀{more:List (Zl×V)} {f:List (Zl×Value)} {c:List (Zl×V)} {vs:List (Zl×Value)},KV more f->KV c vs->KV (G6 c more) (merged vs f):=by
 intro more f c vs r;unfold KV at r
 induction r generalizing c vs with
 |nil=>intro q;exact q
 |@cons p q n j h t g =>
  intro i;have e:KV (YO c p.1 p.2) (stored vs q.1 q.2):=by
   have:=i.put p.1 h.2;rw[<-h.1];exact this
  exact g e
theorem wW:∀(more c:List (Zl×V)),(G6 c more).length<=c.length+more.length
 |[],c=>by show c.length<=c.length+0;lia
 |p::r,c=>by
  have h1:=wW r (YO c p.1 p.2);have e:=B3 c p.1 p.2;show(G6 (YO c p.1 p.2) r).length<=_;rw[Sy];lia
theorem wX{P:Program}{w:World}:∀{f:List (Zl×V)} {ws:List (Value×Value)},VV (f.map fun g=>(kV g.1,g.2)) ws->∃e,Carries (Xu P w) ws e/\KV f e
 |[],_,r=>by rw[List.map_nil]at r;cases r;exact⟨[],True.intro,.nil⟩
 |p::f,_,r=>by
  rw[SL]at r;cases r with
  |@cons a b n bs h t =>
   obtain⟨e,c,q⟩:=wX (P:=P) (w:=w) t;obtain⟨j,i⟩:=b;exact⟨(p.1,i)::e,⟨Qw h.1,R,c⟩,.cons ⟨R,h.2⟩ q⟩
def Zfn(h:List (TE×TE)):TE:=fun g H Q=>∀p,H p=none->MY h g (Za H p (.dK [])) fun i e=>e p=some (.dK [])/\∃c:List (Zl×V),i=c.map (fun f=>(kV f.1,f.2))/\c.length<=15/\Q (.ref p) (Za e p (.dK (G6 [] c)))
theorem Zfo{X:Cx}{i:Pos}{keys:List (Option Expr)}{values:OD}{f:List (TE×TE)}(h:Lb X i keys values f)(M:keys.all (·.isSome)=true)(G:keys.length=values.length)(C:keys≠[])
  (S:keys.length<=15):PE X (.Dict keys values i) (Zfn f):=by
 intro pins s O H Q I q;have hn:=I.hok.fresh (Sg s.heap.objs.size);have v:=I.laid (a:=s.heap.objs.size) (o:=.dK []) (h':=s.heap.push { cls:=.type "dict",data:=.dict #[] }) (t':=s.toks) (fun _ _ q=>Sc _ q) (Sg _) (Zfj s.heap I.big);refine wpAny_Dict_walk (knd:=Xu X.prog X.w) M G C S (Zv (h pins _ O _ _ v (q _ hn)) fun Z s2 ⟨ps,Y,n,rel,e,g,D,lk,y⟩=>?_);subst D;obtain⟨B,c,x⟩:=wX (P:=X.prog) (w:=X.w) rel;obtain⟨z,hd,a0,E,J⟩:=wS n.hok e;cases E;refine⟨B,c,J,fun h' j L=>⟨.ref s.heap.objs.size,_,?_,R,y⟩⟩;have u:(G6 [] g).length<=sizeLine:=by
  have U:=wW g [];rw[List.length_nil]at U;rw[sizeLine_eq];lia
 have T:∃q,h'.get? s.heap.objs.size=some q:=let ⟨q,_,_,hq,_⟩:=j;⟨q,hq⟩;exact La n (by rw[e];exact True.intro) L T (wU u hd (x.merge .nil) j)
structure M1(X:Cx)(o:Expr)(m:Str)(apos:Pos)(e:Expr)(cpos:Pos):Prop where
 base:attributeBase o m X.env (eval o X.env)=eval o X.env
 few:((backTo cpos (starEach [e] X.env)).all (fun x=>!x.1) && (backToKw cpos (keywordEach [] X.env)).all (fun x=>x.1.isSome)
  && decide (([e]:OD).length+([]:List Keyword).length+(if ([]:List Keyword).isEmpty then 0 else 1)<30))=true
 line:(apos.endLine == cpos.line)=true
 trees:backTo cpos (starEach [e] X.env)=[(false,eval e X.env)]
structure M2(X:Cx)(o:Expr)(m:Str)(apos:Pos)(e f:Expr)(cpos:Pos):Prop where
 base:attributeBase o m X.env (eval o X.env)=eval o X.env
 few:((backTo cpos (starEach [e,f] X.env)).all (fun x=>!x.1) && (backToKw cpos (keywordEach [] X.env)).all (fun x=>x.1.isSome)
  && decide (([e,f]:OD).length+([]:List Keyword).length+(if ([]:List Keyword).isEmpty then 0 else 1)<30))=true
 line:(apos.endLine == cpos.line)=true
 trees:backTo cpos (starEach [e,f] X.env)=[(false,eval e X.env),(false,eval f X.env)]
def MZ(H:Hp)(a:Addr):Prop:=(∃c,Rd H a (.dK c))\/∃c,Rd H a (.dT c)
theorem wY{X:Cx}{pins:Ou}{h:St}{H:Hp}{s:Shared}{a:Addr}(I:Zc X pins h H s)(d:MZ H a) :
  s.TypeIs (.ref a) "dict" /\ (∀b,Value.ref a=.ref b->∃ob,s.heap.get? b=some ob/\ob.dict=none)/\(a == sysModules)=false:=by
 rcases d with⟨i,e⟩|⟨i,e⟩
 ·obtain⟨_,hd,j,_,c⟩:=U7 I.hok e
  refine⟨c.typeIs,fun b q=>?_,hd⟩;cases q;obtain⟨ob,_,_,g,f,_⟩:=c;exact⟨ob,g,f.2.1⟩
 ·obtain⟨_,hd,n,_,c⟩:=Qy I.hok e
  refine⟨c.typeIs,fun b q=>?_,hd⟩;cases q;obtain⟨ob,_,_,g,f,_⟩:=c;exact⟨ob,g,f.2.1⟩
section
variable{X:Cx}{pins:Ou}{σ:St}{H:Hp}{s:Shared}{a:Addr}{y d:V}{u r:Value}{o:Option V}{A:Around}{E:Ot}
theorem Zfp{Q:Ot}(x:A.units+1<cLine)(I:Zc X pins σ H s)(g:Z9 H a y o)(i:ZG y u)(j:ZG d r)(h:∀n s',Zc X pins σ H s'->ZG (o.getD d) n->Q n s') :
  wpAny (model X.prog X.w) A (call (.builtin "dict.get") [.ref a,u,r]) Q E s:=by
 rcases g with⟨v,k,e,f,l⟩|⟨v,k,b,e,f,q,l⟩
 ·subst f
  obtain⟨z,hd,C,rel,c⟩:=U7 I.hok e;refine call_meetsIn PySem.F.slot_dict_get c.typeIs PySem.F.entry_dict_get (PySem.F.args_dict_get_3 _ _ _) (meets_dict_get_default (Xu X.prog X.w) a (Qw i) hd r) ⟨_,c.mapOf,h _ _ (I.tok _) ?_⟩;rw[l];exact(rel.val k).getD j
 ·subst f
  cases (show u=Value.ref b from i);obtain⟨z,hd,B,rel,c⟩:=Qy I.hok e;refine call_meetsIn PySem.F.slot_dict_get c.typeIs PySem.F.entry_dict_get (PySem.F.args_dict_get_3 _ _ _) (meetsH_dict_get_default (tupleKind (Xu X.prog X.w)) a b hd r) ⟨tupleKind_room_in1 x,k,B,Qx I.hok q,c,h _ _ (I.tok _) ?_⟩;rw[l];exact(rel.val k).getD j
end
inductive Zfq(ty tx:TE)(σ:St)(Q:VK)(x:V)(H1:Hp):Prop|mk a (_:x=.ref a) (_:MZ H1 a) (_:ty σ H1 fun y H2=>tx σ H2 fun z H3=>∃o,Z9 H3 a y o/\Q (o.getD z) H3)
def Zfr(e ty tx:TE):TE:=fun c H Q=>e c H fun x f=>Zfq ty tx c Q x f
section
variable{X:Cx}{o e f:Expr}{apos cpos:Pos}{td ty tx:TE}
theorem B5(Y:X.A.units+1<cLine)(S:PE X o td)(Z:PE X e ty)(U:PE X f tx)(m:M2 X o "get" apos e f cpos):PE X (.Call (.Attribute o "get" apos) [e,f] [] cpos) (Zfr td ty tx):=by
 intro pins s c H Q I h;refine wpAny_Call_method m.base m.few m.line PySem.F.plainAttrs_dict PySem.F.slot_dict_get PySem.F.type_dict_get (Zv (S pins s c H _ I h) fun u T ⟨x,M,i,L,a,ex,d,B⟩=>?_);subst ex;obtain rfl:u=Value.ref a:=L;obtain⟨q,t2,_⟩:=wY i d;refine⟨q,t2,?_⟩;rw[m.trees];refine Calls.callWith_builtin R (Calls.evalArgs_plain (Calls.spliced_cons (Zv (Z pins T c M _ i B) fun iv s2 ⟨y,j,O,E,C⟩ =>
  Calls.spliced_cons (Zv (U pins s2 c j _ O C) fun fv s3 ⟨z,n,G,J,ov,g,D⟩=>Calls.spliced_nil ?_))))
 exact Zfp Y G g E J fun w' s4 v P=>⟨_,n,v,P,D⟩
end
section
variable{X:Cx}{pins:Ou}{σ:St}{H:Hp}{s:Shared}{a:Addr}{kvs:List (Zl×V)}{A:Around}{E:Ot}
end
section
variable{X:Cx}{pins:Ou}{σ:St}{H:Hp}{s:Shared}{a:Addr}{y:V}{u:Value}{A:Around}{E:Ot}
end
section
variable{X:Cx}
theorem Zfs:Xb X (.builtin "len") (fun xs H Q=>∃a c,xs=[V.ref a]/\H a=some (.dK c)/\Q (.int c.length) H):=by
 intro pins s f H xs g Q I r h;obtain⟨a,c,rfl,ha,q⟩:=h;obtain⟨u,rfl,ru⟩:=WT r;cases ru;exact Ze7 I (.inl ha) fun t i e=>⟨.int c.length,H,e,⟨t,R⟩,q⟩
end
section
variable{κ:Type} [DecidableEq κ]
end
section
variable{prog:Program}{w:World}{A:Around}{E:Ot}{s:Shared}{κ:Type} [DecidableEq κ] {knd:KeyKind prog w κ}
theorem Zft{R:Result->Shared->Prop}{d:Addr}{c:List (κ×Value)}{g:Nat}(hh:A.handled=none)(hd:(d == sysModules)=false)(hm:s.heap.DictAt knd d c g)(hlen:c.length<=sizeLine)
  (S:Addr) (C:S≠d) (res:Value) (P:Nat) (G:s.heap.get? S=some { cls:=.type "list",data:=.seq #[] P })
  (hR:∀u tk q j,(∀b o,b≠S->s.heap.get? b=some o->u.get? b=some o)->u.get? S=some { cls:=.type "list",dict:=none,data:=.seq q j,slots:=#[] } ->
   ItemsOf (fun i d0=>∃k x,c[i]? = some (k,x)/\knd.is k d0=true) q c.length->R (.ok (.ret res)) { s with heap:=u,toks:=tk }) :
  wpAny (model prog w) A.in1 (Builtin.List.listExtendWith (.ref S) (.ref d) res)
   (fun a0 h=>match a0 with|.done f=>R (.ok f) h|.again j=>j.quiet=true/\codeAny (model prog w) A j R h) (fun e h=>R (.error e) h) s:=by
 have X:S<s.heap.objs.size:=Se G;have e0:d<s.heap.objs.size:=hm.lt_size;have J:S≠s.heap.objs.size:=Sf X;have U:S∉[s.heap.objs.size,d]:=fun f0=>by
  rcases SE.mp f0 with e|e
  ·exact J e
  ·exact C (SD.mp e)
 have W:=(Walks.dictKeys (prog:=prog) (w:=w) (A:=A.in1) (knd:=knd) hh s.heap.objs.size d (Sf e0) c g).toS;have Q:s.TypeIs (.ref d) "dict" := hm.dictOf.typeIs;unfold Builtin.List.listExtendWith;refine Sa (wpAny_typeOf (T := "dict") Q ?_);have h1:Builtin.List.listSameRef (.ref S) (.ref d)=false:=by simp[Builtin.List.listSameRef,C]
 have h2:(Value.type "dict" == Value.type "list")=false:=by lia
 have O:(Value.type "dict" == Value.type "tuple")=false:=by lia
 simp only[h1,h2,O,Bool.or_false,Bool.false_eq_true,if_false];refine Sa (wpAny_pyIter_dict hd hm ?_);refine Sa (wpAny_holding ?_);have L:=hm.push { cls:=.type "dict_keyiterator",data:=.fields #[.ref d,.int 0 0,.int c.length 0,.int g 0] };have v:Shared.TypeIs { s with heap:=s.heap.push { cls:=.type "dict_keyiterator",data:=.fields #[.ref d,.int 0 0,.int c.length 0,.int g 0] } } (.ref d) "dict" := Heap.DictOf.typeIs (s:={ s with heap:=s.heap.push { cls:=.type "dict_keyiterator",data:=.fields #[.ref d,.int 0 0,.int c.length 0,.int g 0] } }) L.dictOf;unfold Builtin.List.listLengthHint;refine Sa (wpAny_specialOf (T := "dict") v F.slot_dict_len.lookup ?_);generalize D:("dict.__len__" : String)=c0
 wp_delta
 rw[show splitId c0=some ("dict","__len__")from by subst D;lia];subst D;refine Sa (wpAny_isInstance (T := "dict") (b:=true) v (by rw[isSubtype_type];kernel_rfl) ?_);refine wpAny_ite_split (fun B=>Oq B (by lia)) (fun _=>?_);refine wpAny_ite_split (fun _=>?_) (fun B=>Oq (by lia) B);refine Sa (wpAny_typeOf (T := "dict") v ?_);refine Sb ?_;rw[SV (by lia)];have M:=Sc { cls:=.type "dict_keyiterator",data:=.fields #[.ref d,.int 0 0,.int c.length 0,.int g 0] } G;have b0:(s.heap.push { cls:=.type "dict_keyiterator",data:=.fields #[.ref d,.int 0 0,.int c.length 0,.int g 0] }).get? s.heap.objs.size=some _:=Sd _ rfl;refine Sa (wpAny_rule ?_);refine Sa ?_;show wpAny _ _ (updateSeq S (·.push .none) >>= fun _=>updateSeq S (·.pop)) _ _ _;refine Sa (wpAny_updateSeq M rfl ?_);have H:=Heap.get?_update_self (Obj.mapSeq (·.push Value.none)) M rfl;refine wpAny_updateSeq (hz:=by seq_fits) H rfl ?_;have Y:=Heap.get?_update_self (Obj.mapSeq (·.pop)) H rfl;have up:∀b o,b≠S->(s.heap.push { cls:=.type "dict_keyiterator",data:=.fields #[.ref d,.int 0 0,.int c.length 0,.int g 0] }).get? b=some o->(((s.heap.push { cls:=.type "dict_keyiterator",data:=.fields #[.ref d,.int 0 0,.int c.length 0,.int g 0] }).update S (Obj.mapSeq (·.push Value.none))).update S (Obj.mapSeq (·.pop))).get? b=some o :=
  fun b o n e=>(Heap.get?_update_other _ _ (Ne.symm n)).trans ((Heap.get?_update_other _ _ (Ne.symm n)).trans e)
 refine Sb ⟨plainId_quiet F.plain_extend_loop _,codeAny_extend_loopS W hlen _ U _ c.length 0 _ _ _ rfl (Sk _) ⟨⟨_,up _ _ (Ne.symm J) b0,rfl,rfl⟩,L.at' fun o e=>up d o (Ne.symm C) e⟩ Y (ItemsOf.nil _) fun h q j I h0 g0=>?_⟩;rw[Moved.eq_with I];refine hR h.heap h.toks q j (fun b ob n e=>I.heap b ob (fun y=>?_) (up b ob n (Sc _ e))) h0 g0;rcases SE.mp y with Z|y
 ·exact n Z
 ·exact Oq (Se e) (by rw[SD.mp y];exact Sl _)
theorem Zfu{R:Result->Shared->Prop}{d:Addr}{n:List (κ×Value)}{D:Nat}(J:A.handled=none)(hd:(d == sysModules)=false)(hm:s.heap.DictAt knd d n D)(hlen:n.length<=sizeLine)
  (S:Addr) (B:S≠d) (u:s.heap.get? S=some { cls:=.type "list",data:=.seq #[] })
  (L:∀g tk j c,(∀b o,b≠S->s.heap.get? b=some o->g.get? b=some o)->g.get? S=some { cls:=.type "list",dict:=none,data:=.seq j c,slots:=#[] } ->
   ItemsOf (fun i v=>∃k x,n[i]? = some (k,x)/\knd.is k v=true) j n.length->R (.ok (.ret .none)) { s with heap:=g,toks:=tk }) :
  wpAny (model prog w) A.in1 (Builtin.«list.__init__» ⟨[.ref S,.ref d],[]⟩)
   (fun I h=>match I with|.done f=>R (.ok f) h|.again c=>c.quiet=true/\codeAny (model prog w) A c R h) (fun e h=>R (.error e) h) s:=by
 show wpAny _ _ (do let C <-Builtin.List.listItems (.ref S);Builtin.List.listUpdate (.ref S) (fun _=>#[]);letGo C.toList.reverse;Builtin.List.listExtendWith (.ref S) (.ref d) .none) _ _ s;refine Sa ?_;unfold Builtin.List.listItems;refine Sa (wpAny_seqItems u rfl (Sb ?_));show wpAny _ _ (updateSeq S (fun _=>#[]) >>= fun _=>letGo (#[]:Array Value).toList.reverse >>= fun _=>Builtin.List.listExtendWith (.ref S) (.ref d) .none) _ _ s;refine Sa (wpAny_updateSeq u rfl ?_);have G:=Heap.get?_update_self (Obj.mapSeq (fun _=>(#[]:Array Value))) u rfl;have y:∀b o,b≠S->s.heap.get? b=some o->(s.heap.update S (Obj.mapSeq (fun _=>(#[]:Array Value)))).get? b=some o :=
  fun b o q e=>(Heap.get?_update_other _ _ (Ne.symm q)).trans e
 refine Sa (wpAny_letGo ?_);refine Zft (s:={ s with heap:=s.heap.update S (Obj.mapSeq (fun _=>(#[]:Array Value))) }) J hd (hm.at' fun o e=>y d o (Ne.symm B) e) hlen S B .none _ G fun g tk j c H O M=>?_;exact L g tk j c (fun b o q e=>H b o q (y b o q e)) O M
theorem Zfv{d:Addr}{c:List (κ×Value)}{B:Nat}{Q:Ot}(C:A.handled=none)(hd:(d == sysModules)=false)(hm:s.heap.DictAt knd d c B)(hlen:c.length<=sizeLine)
  (u:∀h' tk f g,(∀b o,s.heap.get? b=some o->h'.get? b=some o) ->
   h'.get? s.heap.objs.size=some { cls:=.type "list",dict:=none,data:=.seq f g,slots:=#[] }->ItemsOf (fun i v=>∃k x,c[i]? = some (k,x)/\knd.is k v=true) f c.length->Q (.ref s.heap.objs.size) { s with heap:=h',toks:=tk }) :
  wpAny (model prog w) A (call (.type "list") [.ref d]) Q E s:=by
 refine callType_codes (Q₁:=fun obj h=>obj=.ref s.heap.objs.size/\h = { s with heap:=s.heap.push { cls:=.type "list",data:=.seq #[] } }) F.called_list (F.typeCall_list_1 _) F.entry_list_init
  (code_list_new _ ⟨R,R⟩) fun obj h y=>?_
 obtain⟨rfl,rfl⟩:=y;have j:(s.heap.push { cls:=.type "list",data:=.seq #[] }).get? s.heap.objs.size=some { cls:=.type "list",data:=.seq #[] }:=Sd _ R;refine⟨⟨_,j,R⟩,F.args_list_init_2 _ _,Zfu (s:={ s with heap:=s.heap.push { cls:=.type "list",data:=.seq #[] } }) (A:=A.in1) C hd (hm.push _) hlen _ (Nat.ne_of_gt hm.lt_size) j fun h' tk f g q D n=>?_⟩;exact⟨R,u h' tk f g (fun b o e=>q b o (Sf (Se e)) (Sc _ e)) D n⟩
end
section
variable{X:Cx}
theorem wZ:∀{c:List (Zl×V)} {vs:List (Zl×Value)} {acc:OB},KV c vs->acc.length=vs.length->(∀(j:Nat) (v:Value),acc[j]? = some v->∃(k:Zl) (x:Value),vs[j]? = some (k,x)/\(Xu X.prog X.w).is k v=true)->ZD (c.map fun y=>kV y.1) acc
 |_,_,[],.nil,_,_=>.nil
 |_,_,[],.cons _ _,e,_=>by cases e
 |_,_,_::_,.nil,e,_=>by cases e
 |(k0,_)::_,(k1,_)::_,u::us,.cons r t,e,h=>by
  obtain⟨n,_⟩:=r;obtain⟨k,x,B,f⟩:=h 0 u R;cases B;refine .cons ?_ (wZ t (Nat.succ.inj e) fun j v q=>h (j+1) v q);have g:k0=k1:=n;subst g;cases k0 with
  |inl i=>exact Value.isInt_shape f
  |inr z=>exact Value.isStrOf_shape f
theorem Lc(E:X.calm=true):Xb X (.type "list") (fun xs H Q=>∃d f,xs=[.ref d]/\H d=some (.dK f)/\∀l,H l=none->Q (.ref l) (Za H l (.lst (f.map fun c=>kV c.1)))):=by
 intro pins s O H xs P Q I r h;obtain⟨d,f,rfl,hd,q⟩:=h;obtain⟨u,rfl,D⟩:=WT r;cases D;obtain⟨C,G,i,c,J⟩:=I.hok d _ hd;obtain⟨M,L⟩:=J.dictAt;have hlen:i.length=f.length:=(Paired.length c).symm;refine Zfv (I.ok.hd E) G L (by lia) fun B tk x y kp e g=>?_;obtain⟨n⟩:=x;refine⟨.ref s.heap.objs.size,_,I.laid (t':=tk) kp (Sg _) (show Yy X.prog X.w _ B _ (.lst (f.map fun c=>kV c.1))from⟨by rw[Sv];exact C,n,y,wZ (X:=X) c (by simpa using g.1) (fun j v q=>g.2 j v (by simpa using q)),e⟩),R,q _ (I.hok.fresh (Sg _))⟩
theorem Wm:Xb X (.type "int") (fun xs H Q=>∃b,xs=[.bl b]/\Q (.int (if b=true then 1 else 0)) H):=by
 intro pins s e H xs f Q I r h;obtain⟨b,rfl,q⟩:=h;obtain⟨u,rfl,c⟩:=WT r;cases c;refine PySem.call_int_bool ⟨.int (if b=true then 1 else 0),H,I.tok _,⟨_,R⟩,q⟩
theorem vA:∀{xs ys:List V} {us vs:OB},ZD xs us->ZD ys vs->ZD (xs++ys) (us++vs)
 |_,_,_,_,.nil,r=>r
 |_,_,_,_,.cons r t,q=>.cons r (vA t q)
theorem vB:∀{xs:List V} {us:OB},ZD xs us->ZD xs.reverse us.reverse
 |_,_,.nil=>.nil
 |_,_,.cons r t=>by rw[List.reverse_cons,List.reverse_cons];exact vA (vB t) (.cons r .nil)
end
end L2
namespace K1
open PySem L2
def wo(H:Hp)(l:Addr):Hp:=fun a=>if a=l then none else H a
theorem Qz{H:Hp}{l a:Addr}(h:a≠l):wo H l a=H a:=SU h
theorem B6{H:Hp}{l:Addr}:Ze (wo H l) H:=fun a o e=>by
 by_cases h:a=l
 ·rw[wo,SV h]at e;cases e
 ·rw[Qz h]at e;exact e
theorem YR{H:Hp}{l a:Addr}{o:HO}(e:wo H l a=some o):a≠l/\H a=some o:=by
 by_cases h:a=l
 ·rw[wo,SV h]at e;cases e
 ·rw[Qz h]at e;exact⟨h,e⟩
theorem vC{H c:Hp}{l:Addr}(s:Ze H c):Ze (wo H l) (wo c l):=fun a o e=>by
 obtain⟨h,e⟩:=YR e;rw[Qz h];exact s _ _ e
theorem vD{H:Hp}{l:Addr}{o:HO}:wo (Za H l o) l=wo H l:=by
 funext a
 by_cases h:a=l
 ·rw[wo,wo,SV h,SV h]
 ·rw[Qz h,Qz h,Zf h]
theorem ZX{H:Hp}{l a:Addr}{o:HO}(e:H a=some o)(h:a≠l):wo H l a=some o:=by rw[Qz h];exact e
theorem Y7{c H:Hp}{l:Addr}(s:Ze c H)(n:c l=none)(o:HO):Ze c (Za H l o):=fun a u e=>by
 rw[Zf (ZT e n)];exact s _ _ e
inductive Al{β α:Type}(R:β->α->Prop):List β->List α->Prop where
 |nil:Al R [] []
 |cons {v:β} {x:α} {vs:List β} {xs:List α}:R v x->Al R vs xs->Al R (v::vs) (x::xs)
section
variable{β α:Type}{R R':β->α->Prop}
theorem Al.length{vs:List β}{xs:List α}(h:Al R vs xs):vs.length=xs.length:=by
 induction h with
 |nil=>rfl
 |cons _ _ c=>rw[Sy,Sy,c]
theorem Al.imp{vs:List β}{xs:List α}(h:Al R vs xs)(f:∀v x,R v x->R' v x):Al R' vs xs:=by
 induction h with
 |nil=>exact .nil
 |cons a _ c=>exact .cons (f _ _ a) c
theorem Al.app{vs us:List β}{xs ys:List α}(h:Al R vs xs)(g:Al R us ys):Al R (vs++us) (xs++ys):=by
 induction h with
 |nil=>exact g
 |cons a _ c=>exact .cons a c
theorem Al.snoc{vs:List β}{xs:List α}{v:β}{x:α}(h:Al R vs xs)(g:R v x):Al R (vs++[v]) (xs++[x]):=h.app (.cons g .nil)
theorem Al.get{vs:List β}{xs:List α}(h:Al R vs xs):∀{i:Nat} {v:β},vs[i]? = some v->∃x,xs[i]? = some x/\R v x:=by
 induction h with
 |nil=>intro i v e;cases e
 |cons a _ c =>
  intro i v e;cases i with
  |zero=>cases e;exact⟨_,rfl,a⟩
  |succ i=>exact c e
end
end K1
namespace L2
open PySem PySem.Spec PyProof.Rows
section
variable{X:Cx}{a b:Expr}{rest:OD}{ta tb:TE}{pos:Pos}
inductive Zfw(K:Ow)(tb:TE)(σ:St)(Q:VK)(x:V)(H1:Hp):Prop|mk c (_:zT K x H1 c) (_:if c=true then Q x H1 else tb σ H1 Q)
def Zfx(K:Ow)(ta tb:TE):TE:=fun c H Q=>ta c H fun x e=>Zfw K tb c Q x e
theorem vE(ha:PE X a ta)(D:PE X (.BoolOp .Or (b::rest) pos) tb):PE X (.BoolOp .Or (a::b::rest) pos) (Zfx X.K ta tb):=by
 intro pins s g H Q I h;refine BoolOp_or (Zv (ha pins s g H _ I h) fun v B ⟨x,i,n,r1,e⟩=>?_);obtain⟨c,y,e⟩:=e;refine Zv (ZcW pins B g i x v (fun f u=>f=c/\u=i) n r1 ⟨c,y,R,R⟩) fun f s2 ⟨E,j,C,q⟩=>?_;subst C q;cases f with
 |false=>exact D pins s2 g _ Q j e
 |true=>exact⟨x,_,j,r1,e⟩
end
section
variable{X:Cx}{pins:Ou}{σ:St}{H:Hp}{s:Shared}
open Classical in
noncomputable def Up (h:Heap) (dx:PyData) (u:Value):Bool:=if ∃d as,Reads h u d as/\PyData.eqv d dx=true then true else false
theorem vF{h:Heap}{f d:PyData}{u:Value}{g:OH}(r:Reads h u d g)(c:d.canLay0=true):Up h f u=PyData.eqv d f:=by
 unfold Up;cases e:PyData.eqv d f with
 |true=>exact SV ⟨d,g,r,e⟩
 |false =>
  refine SU ?_;rintro⟨q,n,j,i⟩;rw[<-SeqAt.Reads.unique d q u g n c r j,e]at i;exact Bool.noConfusion i
theorem M0{h:Heap}{e:PyData}:∀{us:OB} {ds:List PyData} {as:OH},ReadsAll h us ds as->PyData.canLayAll0 ds=true->us.any (Up h e)=ds.any fun d=>PyData.eqv d e
 |_,_,_,.nil,_=>rfl
 |_,_,_,.cons r f,c=>by
  simp only[PyData.canLayAll0,Bool.and_eq_true]at c;rw[List.any_cons,List.any_cons,vF r c.1,M0 f c.2]
theorem M3{A:Around}{e:PyData}{v:Value}{bs:OH}(g:Reads s.heap v e bs)(h:e.canLay0=true)(f:A.units+e.depth<cLine):∀{us:OB} {ds:List PyData} {as:OH},ReadsAll s.heap us ds as->PyData.canLayAll0 ds=true->∀u∈us,SeqAt.EqAt A s u v (Up s.heap e u)
 |_,_,_,.nil,_=>fun u f=>by cases f
 |_,_,_,.cons r i,c=>fun j hm=>by
  simp only[PyData.canLayAll0,Bool.and_eq_true]at c;rcases SE.mp hm with rfl|hm
  ·rw[vF r c.1]
   exact SeqAt.eqAt_reads _ _ A s _ _ _ _ r g c.1 h (by lia)
  ·exact M3 g h f i c.2 j hm
inductive vG(K:Ow)(neg:Bool)(x:V)(y:V)(H:Hp)(Q:VK):Prop|mk p xs dx ds (_:y=.ref p) (_:(Zg K H p xs\/Zk K H p xs)) (_:DV K H x dx) (_:Wu K H xs ds) (_:dx.depth<=60) (_:Q (.bl (if neg then !(ds.any fun d=>PyData.eqv d dx)else ds.any fun d=>PyData.eqv d dx)) H)
theorem Zfy(M:X.A.units+64<cLine):YM X (compareOp .In) (vG X.K false):=by
 intro pins s σ H x y v u Q I G E h;obtain⟨p,L,c,ds,rfl,g,j,e,hd,q⟩:=h;cases E;obtain⟨J,r1⟩:=j.reads I G;have C:X.A.in1.units+c.depth<cLine:=by show X.A.units+1+_<_;lia
 rcases g with g|g
 ·obtain⟨f,r,n,D⟩:=I.list g
  obtain⟨bs,i⟩:=e.reads I r;refine SeqAt.in_listAt (Up s.heap c) n.isList (fun w B=>M3 r1 j.can C i e.can w (by simpa using B)) ⟨.bl _,H,I,R,?_⟩;rw[show f.toArray.any (Up s.heap c)=f.any (Up s.heap c) by simp,M0 i e.can];exact q
 ·obtain⟨f,r,n,D⟩:=I.tuple g
  obtain⟨bs,i⟩:=e.reads I r;refine SeqAt.in_tupleAt (Up s.heap c) n (fun w B=>M3 r1 j.can C i e.can w (by simpa using B)) ⟨.bl _,H,I,R,?_⟩;rw[show f.toArray.any (Up s.heap c)=f.any (Up s.heap c) by simp,M0 i e.can];exact q
end
section
variable{X:Cx}
theorem vH:∀bs:List Bool,(List.range bs.length).any (fun i=>bs.getD i false)=bs.any id
 |[]=>rfl
 |b::bs=>by
  rw[Sy,List.range_succ_eq_map,List.any_cons,List.any_map,List.any_cons];show(b || _)=(b || _);rw[<-vH bs];rfl
theorem Zfz(L:X.calm=true):Xb X (.builtin "any") (fun xs H Q=>∃(p:Addr) (bs:List Bool),xs=[.ref p]/\Zg X.K H p (bs.map V.bl)/\Q (.bl (bs.any id)) H):=by
 intro pins s σ H xs us Q I r h;obtain⟨p,bs,rfl,D,q⟩:=h;obtain⟨b0,rfl,J⟩:=WT r;cases J;obtain⟨c,u,j,hz⟩:=I.list D;have hlen:=u.length;obtain⟨o,a0,U,_⟩:=id j;have C:p≠s.heap.objs.size:=Sf (Se U);have S:TruthOf X.prog X.w X.A.in1 (fun i v=>c.toArray[i]? = some v) (fun i=>bs.getD i false):=by
  intro i v s2 P E2 M Y;have B:c[i]? = some v:=by simpa using M
  have y:i<bs.length:=by
   have:=(Sr.mp B).1;rw[<-hlen,Sv]at this;exact this
  obtain⟨w,f,g⟩:=u.get (i:=i) (x:=.bl bs[i]) (by rw[S0,Ss y];rfl);rw[B]at f;cases f;cases g;refine wpAny_truthy_bool ?_;have e3:bs.getD i false=bs[i]:=by rw[List.getD_eq_getElem?_getD,Ss y];rfl
  have n:P (bs.getD i false) s2:=Y;rw[e3]at n;exact n
 refine call_any_walk (wpAny_pyIter_list j.isList ?_);refine⟨s.heap.objs.size,[s.heap.objs.size,p],[s.heap.objs.size],c.toArray.size,_,_,_,R,Walks.list (A:=X.A.in1) (I.ok.hd L) _ _ C c.toArray,⟨⟨_,Sd _ R,R,R⟩,?_⟩,S,fun E tk O=>?_⟩
 ·obtain⟨T,g,G⟩:=j.isList
  exact⟨T,Sc _ g,G⟩
 ·have Z:∀b o,s.heap.get? b=some o->E.get? b=some o:=fun b o e=>O b o (fun z=>by
   have f:=Se e;rw[SD.mp z]at f;exact Oq f (Sl _)) (Sc _ e)
  have e:(List.range c.toArray.size).any (fun i=>bs.getD i false)=bs.any id:=by
   rw[SM,<-hlen,Sv];exact vH bs
  rw[e];exact⟨.bl _,H,I.kept (t':=tk) Z,R,q⟩
end
def Vd(c:Addr)(qual:Str):HO:=.ext fun h=>h.CodeRec (.ref c) qual
def BM(mg:Ov)(base:Heap):Prop:=∃c ob,mg "__builtins__" = some (.ref c)/\c≠builtinsNs/\c≠mainGlobals/\base.get? c=some ob/\ob.cls=.type "module" /\ ob.dict=some builtinsNs/\ob.data=.plain
theorem ZfA{P:Program}{w:World}{H:Hp}{h:Heap}{c:Addr}{qual:Str}(j:h.CodeRec (.ref c) qual):Yy P w H h c (Vd c qual):=by
 refine⟨j,?_,fun x v q k=>?_⟩
 ·obtain⟨u,f,i,t,e,g,_⟩:=j
  cases e;exact⟨f,g⟩
 ·obtain⟨u,f,i,t,e,g,hd,n⟩:=q
  cases e;exact⟨_,f,i,t,R,k _ g,hd,n⟩
theorem Vp.okC{P:Program}{w:World}{K:Ow}{mg:Ov}{base:Heap}{x qual:Str}{st:Stmt}{f:Addr}{e:OJ}{N g:OC}{k:Nat}{sp:Sp}(F:Vp K x qual st f e)(S:ZB N g (Zw st))(len:∀vs H Q E,sp vs H Q E->vs.length=g.length)
  (n:∀(c:Value) (A:Around) (outer:List Env) (s:Shared) (H:Hp) (vs:List V) (Q:VK) (E:XK),e.code=c->YA k (A.deeper (envOfC qual (Zw st) s.heap.objs.size f c))->sp vs H Q E ->
   ∃t,X6 (VH Zt P w K mg base N qual (Zw st) f c A outer s H E).nox (Uo st) t/\t { nx:=fun _ j=>Q .non j,rt:=Q } (Ul N vs) H):Zq P w K mg base Zt (k+1) f e g sp:=by
 obtain⟨B,C,kV,y,I,G,c,ct,D,rfl,lk,v⟩:=F.ex;refine Mx lk v S len fun A outer s H vs Q E u i=>?_;obtain⟨t,h,q⟩:=n c A outer s H vs Q E R u i;exact⟨t,h.nox,q⟩
end L2
namespace K1
open PySem L2
theorem UJ{H:Hp}{lt a:Addr}{o:HO}{c:Array Value}(h:H lt=some (.tbl c))(e:H a=some o)(n:∀c,o≠.tbl c):wo H lt a=some o :=
 ZX e fun z=>by rw[z,h]at e;exact n c (So e).symm
end K1
namespace L2
open PySem PySem.Spec PyProof.Rows
section
variable{X:Cx}
inductive ZfB(K:Ow)(neg:Bool)(x:V)(y:V)(H:Hp)(Q:VK):Prop|mk l b xs (_:x=.ref l) (_:y=.ref b) (_:Zg K H l xs) (_:Zg K H b []) (_:Q (.bl (if neg then !xs.isEmpty else xs.isEmpty)) H)
theorem ZfC(n:X.A.units<cLine):YM X (compareOp .NotEq) (ZfB X.K true):=by
 intro pins s S H x y v u Q I G C h;obtain⟨l,b,D,rfl,rfl,B,J,q⟩:=h;cases G;cases C;obtain⟨M,r,i,_⟩:=I.list B;obtain⟨P,E,g,_⟩:=I.list J;have c:=r.length;have f:=E.length;cases D with
 |nil =>
  refine SeqAt.RcNeAt.lists (e:=fun j=>W8 (([]:List V).getD j .non) (([]:List V).getD j .non)) i.isList g.isList (by simp;simp at c f;lia) n (fun j L _=>by simp at L c;lia) _ _ _ _ ?_;rw[SM,<-c,yY [] [] R];exact⟨.bl _,H,I,R,q⟩
 |cons x O =>
  refine SeqAt.RcNeAt.lists_lengths i.isList g.isList (by simp;simp at c f;lia) n _ _ _ _ ?_;exact⟨.bl _,H,I,R,q⟩
end
section
variable{prog:Program}{w:World}{A:Around}{E:Ot}{s:Shared}
theorem vI{c t:Addr}{items:Array Value}(q:t≠c):∀(n i:Nat) (s:Shared) (Q:List Value->Shared->Prop),s.heap.IsListIter c t i->s.heap.IsList t items->i+n<=items.size ->
  (∀h',h'.IsListIter c t (i+n)->Heap.SameBut c s.heap h'->Q ((items.toList.drop i).take n) { s with heap:=h' })->wpAny (model prog w) A (draw (.ref c) n) Q E s
 |0,i,s,Q,e,_,_,f=>by
  show wpAny _ _ (pure []) Q E s;exact Sb (by simpa using f s.heap e (Heap.SameBut.refl ..))
 |n+1,i,s,Q,e,h,G,f=>by
  have g:i<items.size:=by lia
  show wpAny _ _ (pyNext (.ref c) >>= _) Q E s;refine Sa (wpAny_pyNext_list_item e h (x:=items[i]) (by simp[g]) fun u v j=>?_);have D:u.IsList t items:=let ⟨o,ho,r⟩:=h;⟨o,j.extBut t o q ho,r⟩;refine Sa (wpAny_holding (vI q n (i+1) _ _ v D (by lia) fun B C y=>Sb ?_));have hd:items.toList.drop i=items[i]::items.toList.drop (i+1):=by simp[List.drop_eq_getElem_cons,g]
  have:=f B (by rw[show i+(n+1)=i+1+n by lia];exact C) (j.trans y);rw[hd,List.take_succ_cons]at this;exact this
theorem ZfD{t:Addr}{items:Array Value}{Q:List Value->Shared->Prop}(C:A.handled=none)(f:s.heap.IsList t items)
  (u:∀h',Heap.ExtBut s.heap.objs.size s.heap h'->Q items.toList { s with heap:=h' }):wpAny (model prog w) A (unpackItems (.ref t) items.size none) Q E s:=by
 have g:t≠s.heap.objs.size:=by obtain⟨o,c,_⟩:=f;exact Sf (Se c)
 unfold unpackItems;refine Sa ?_
 ·unfold notIterableAtAll
  refine Sa (wpAny_specialOf f.typeIs slot_list_iter.lookup ?_);refine Sb ?_;simp only[Bool.false_eq_true,if_false];refine Sa (wpAny_holding (wpAny_pyIter_list f ?_));have j:(s.heap.push { cls:=.type "list_iterator",data:=.fields #[.ref t,.int 0 0] }).IsList t items:=let ⟨o,c,r⟩:=f;⟨o,Sc _ c,r⟩;refine Sa (wpAny_holding (vI g items.size 0 _ _ ⟨_,Sd _ R,R,R⟩ j (by lia) fun q x h=>?_));have B:List.take items.size (List.drop 0 items.toList)=items.toList:=by
   rw[List.drop_zero];exact SY (by simp)
  rw[B];rw[SU (by simp)];have n:q.IsList t items:=let ⟨o,c,r⟩:=j;⟨o,h.extBut t o g c,r⟩;refine Sa (wpAny_holding (wpAny_pyNext_list_end C x n (by simp) fun y v=>?_));simp only[Option.isSome_none,Bool.false_eq_true,if_false];refine Sb (u y fun b o i e=>v b o i (h.extBut b o i (Sc _ e)))
theorem ZfE{env:Env}{elts:OD}{x1}{e:Pos}{t:Addr}{items:Array Value}{Q:OA}(f:A.handled=none)(g:s.heap.IsList t items)
  (hn:(assignEach elts env).length=items.size) (c:(assignEach elts env).findIdx? (·.1)=none)
  (h:∀h',Heap.ExtBut s.heap.objs.size s.heap h'->wpAny (model prog w) A (assignInOrder ((assignEach elts env).map (·.2)) items.toList) Q E { s with heap:=h' }) :
  wpAny (model prog w) A (assign (.Tuple elts x1 e) env (.ref t)) Q E s:=by
 rw[assign_Tuple];refine Sa (wpAny_standAt ?_);unfold unpack;rw[hn,c];exact Sa (wpAny_holding (ZfD f g h))
end
inductive ZfF(K:Ow)(n:Nat)(t:UY)(v:V)(σ:St)(H:Hp)(Q:St->Hp->Prop):Prop|mk a xs (_:v=.ref a) (_:Zg K H a xs) (_:xs.length=n) (_:t xs σ H Q)
theorem M4{X:Cx}{D:Pos}{c:OD}{k:Nat}{t:UY}{n:Nat}(G:X.calm=true)(h:E7 X c t)
  (hn:(assignEach c X.env).length=n:=by rfl) (x:(assignEach c X.env).findIdx? (·.1)=none:=by rfl):PG X (.Tuple c k D) (ZfF X.K n t):=by
 intro pins s i H v u Q I r f;obtain⟨a,C,L,y,E,f⟩:=f;subst L;cases r;obtain⟨O,g,J,M⟩:=I.list y;refine ZfE (I.ok.hd G) J.isList (by simp[hn,<-E,g.length]) x fun B q=>?_;have j:Zc X pins i H { s with heap:=B }:=I.kept (t':=s.toks) fun b o e=>q b o (Sf (Se e)) e;exact h pins _ i H C _ Q j (by simpa using g) f
abbrev B7(o:Obj):HO:=.frz o (.own 0)
def lent(cs:Addr->Option Obj)(H:Hp):Hp:=fun b=>match cs b with|some o=>some (B7 o)|none=>H b
def unl(cs:Addr->Option Obj)(H:Hp):Hp:=fun b=>match cs b with|some _=>none|none=>H b
section
variable{P:Program}{w:World}{cs:Addr->Option Obj}{H H':Hp}{h h':Heap}{b:Addr}{o:Obj}{fs:OH}
theorem Ve(q:cs b=some o):lent cs H b=some (B7 o):=by unfold lent;rw[q]
theorem Y4(q:cs b=none):lent cs H b=H b:=by unfold lent;rw[q]
theorem QA(q:cs b=some o):unl cs H b=none:=by unfold unl;rw[q]
theorem Wo(q:cs b=none):unl cs H b=H b:=by unfold unl;rw[q]
theorem G7(n:H b=none):unl cs H b=none:=by
 cases q:cs b with
 |some o=>exact QA q
 |none=>rw[Wo q];exact n
theorem Yp.lent(x:Yp P w H h)(c:∀b o,cs b=some o->h.get? b=some o/\H b=none):Yp P w (L2.lent cs H) h:=fun a u e=>by
 have no:∀b u,H b=some u->cs b=none:=fun b u e=>by
  cases q:cs b with
  |none=>rfl
  |some o=>rw[(c b o q).2]at e;cases e
 cases q:cs a with
 |some ob =>
  rw[Ve q]at e;obtain rfl:=So e;exact⟨(c a ob q).1,⟨ob,(c a ob q).1⟩⟩
 |none =>
  rw[Y4 q]at e;exact(x a u e).stay (fun _ _ _ z=>z) (fun b z=>by rw[Y4 (no b _ z)];exact z) fun b f z=>by rw[Y4 (no b _ z)];exact z
theorem Yp.unl(x:Yp P w H h)(f:∀b o,cs b=some o->H b=some (B7 o)):Yp P w (L2.unl cs H) h:=fun a u e=>by
 cases q:cs a with
 |some ob=>rw[QA q]at e;cases e
 |none =>
  rw[Wo q]at e;refine(x a u e).stay (fun _ _ _ z=>z) (fun b z=>?_) fun b g z=>?_
  ·cases c:cs b with
   |some ob=>rw[f b ob c]at z;cases z
   |none=>rw[Wo c];exact z
  ·cases c:cs b with
   |some ob=>rw[f b ob c]at z;cases z
   |none=>rw[Wo c];exact z
theorem Un.unlend(u:Un fs [] (lent cs H) H' h h')(f:∀b o,cs b=some o->h.get? b=some o/\H b=none)(ok:Yp P w H' h'):Un fs [] H (unl cs H') h h':=by
 have i:∀b o,cs b=some o->H' b=some (B7 o):=fun b o q=>u.frzs b o _ (Ve q);have no:∀b u,H b=some u->cs b=none:=fun b u e=>by
  cases q:cs b with
  |none=>rfl
  |some o=>rw[(f b o q).2]at e;cases e
 refine⟨fun b o e n g c=>?_,fun b o e n g c=>?_,fun b o e n c=>?_,u.there,fun b j e=>?_,fun b o x e=>?_,fun b v e=>?_⟩
 ·cases q:cs b with
  |some ob =>
   have:=(f b ob q).1;rw[e]at this;obtain rfl:=So this;obtain⟨z,_⟩:=ok b _ (i b _ q);exact z
  |none=>exact u.keep b o e (by rw[Y4 q];exact n) g c
 ·cases q:cs b with
  |some ob =>
   have:=(f b ob q).1;rw[e]at this;obtain rfl:=So this;obtain⟨z,_⟩:=ok b _ (i b _ q);exact⟨_,z⟩
  |none=>exact u.slot b o e (by rw[Y4 q];exact n) g c
 ·cases q:cs b with
  |some ob=>exact QA q
  |none=>rw[Wo q];exact u.free b o e (by rw[Y4 q];exact n) c
 ·have q:=no b _ e
  rw[Wo q];exact u.tups b j (by rw[Y4 q];exact e)
 ·have q:=no b _ e
  rw[Wo q];exact u.frzs b o x (by rw[Y4 q];exact e)
 ·have q:=no b _ e
  obtain⟨m,z⟩:=u.tbls b v (by rw[Y4 q];exact e);exact⟨m,by rw[Wo q];exact z⟩
theorem Un.relend(u:Un fs [] (unl cs H) H' h h')(f:∀b o,cs b=some o->H b=some (B7 o)):Un fs [] H (lent cs H') h h':=by
 have no:∀b,H b=none->cs b=none:=fun b e=>by
  cases q:cs b with
  |none=>rfl
  |some o=>rw[f b o q]at e;cases e
 refine⟨fun b o e n g c=>?_,fun b o e n g c=>?_,fun b o e n c=>?_,u.there,fun b i e=>?_,fun b o x e=>?_,fun b j e=>?_⟩
 ·exact u.keep b o e (G7 n) g c
 ·exact u.slot b o e (G7 n) g c
 ·rw[Y4 (no b n)];exact u.free b o e (G7 n) c
 ·cases q:cs b with
  |some ob=>rw[f b ob q]at e;cases e
  |none=>rw[Y4 q];exact u.tups b i (by rw[Wo q];exact e)
 ·cases q:cs b with
  |some ob=>rw[Ve q,<-f b ob q];exact e
  |none=>rw[Y4 q];exact u.frzs b o x (by rw[Wo q];exact e)
 ·cases q:cs b with
  |some ob=>rw[f b ob q]at e;cases e
  |none =>
   obtain⟨m,z⟩:=u.tbls b j (by rw[Wo q];exact e);exact⟨m,by rw[Y4 q];exact z⟩
end
def Uq(f:Addr)(qual:Str)(params:Arguments)(body:Expr)(scope:Scope)(cl:Oy)(e:Value)(g:Addr)(c:Value):HO:=.ext fun h=>h.get? f=some (W.kla_obj "<lambda>" qual params body scope cl e g c)
theorem vJ{P:Program}{w:World}{H:Hp}{h:Heap}{f i:Addr}{qual:Str}{params:Arguments}{body:Expr}{scope:Scope}{cl:Oy}{g c:Value}(e:h.get? f=some (W.kla_obj "<lambda>" qual params body scope cl g i c)):Yy P w H h f (Uq f qual params body scope cl g i c) :=
 ⟨e,⟨_,e⟩,fun _ _ q k=>k _ q⟩
def G8(CX:X7)(P:Program)(w:World)(K:Ow)(mg:Ov)(base:Heap)(N:OC)(qual:Str)(scope:Scope)(cl:Oy)(f:Addr)(cd:Value)(A:Around)(outer:List Env)(s:Shared)(H:Hp)(E:XK):Cx where
 prog:=P
 w:=w
 K:=K
 mg:=mg
 base:=base
 A:=A.deeper (W.envX qual scope s.heap.objs.size f cd cl)
 N:=N
 s₀:=s
 H₀:=H
 env:=W.envX qual scope s.heap.objs.size f cd cl
 outer:=outer
 stack:=W.envX qual scope s.heap.objs.size f cd cl::outer
 ex:=[]
 calm:=true
 fn:=fun _=>false
 pn:=[]
 xe:=fun e h=>wpAny (model P w) (A.deeper (W.envX qual scope s.heap.objs.size f cd cl)) (leaving (W.envX qual scope s.heap.objs.size f cd cl) e) (fun _ c=>CX outer H s E e c) (fun g c=>CX outer H s E g c) h
section
variable{P:Program}{w:World}{K:Ow}{mg:Ov}{base:Heap}{N:OC}{qual:Str}{scope:Scope}{cl:Oy}{f:Addr}{cd:Value}{A:Around}{outer:List Env}{s:Shared}{H:Hp}{E:XK}
theorem G9:WL (Xj P w) (G8 (Xj P w) P w K mg base N qual scope cl f cd A outer s H E) E:=by
 intro pins M S T e h I D;obtain⟨a,C,v,rfl,os,bare,un,hok,⟨B,t,fl,ha,J⟩,o,j,O⟩:=D;have c:Zc (G8 (Xj P w) P w K mg base N qual scope cl f cd A outer s H E) pins M v h:=I.call' os un hok bare fun b z=>nomatch z;have Q:(A.deeper (PySem.W.envX qual scope s.heap.objs.size f cd cl)).frames=some (PySem.W.envX qual scope s.heap.objs.size f cd cl::outer):=I.ok.frames;have sn:s.heap.get? s.heap.objs.size=none:=Heap.get?_none_of_le (Sg _);refine KC.with (e:=a) (W:=fun g=>Heap.FlyingW B outer a C (.ref t) g/\h.heap.UpToSlots g) (ME _ _) j (wpAny_leaves_onW (L:=s.heap.objs.size) Q R fl fun g i up=>⟨g,R,i,up⟩) fun g ⟨i,up⟩ j=>?_;have frd:=c.frd;obtain⟨y,x,G⟩:=MG (P:=P) (w:=w) (L:=s.heap.objs.size) (h1:=h.heap) R sn c.base c.hok c.stkFree (fun b n o e=>frd b (KQ n) o e) (fun b o e n hn=>J b o e (n.imp (fun⟨u,q⟩=>I.base.there b u q fun z=>nomatch z) id) hn) i ha up;exact⟨a,C,v,R,c.os,c.bare,y,x,G,o,j,O⟩
end
structure M5(N:OC)(scope:Scope)(cl:Oy)(vs:List V)(cs:Addr->Option Obj):Prop where
 len:vs.length=N.length
 val:∀(i:Nat) (x:Str) (v:V),N[i]? = some x->vs[i]? = some v->∃c o u,cl.lookup x=some c/\cs c=some o/\o.data=.cell (some u)/\ZG v u
 cell:∀x c,cl.lookup x=some c->∃o v,cs c=some o/\o.data=.cell v
 inj:∀x y c,cl.lookup x=some c->cl.lookup y=some c->x=y
 has:∀x,(scope.names.lookup x=some .cell\/scope.names.lookup x=some .free)->∃c,cl.lookup x=some c
 fre:∀x∈N,scope.names.lookup x=some .free
 dat:∀b o,cs b=some o->∃v,o.data=.cell v
theorem ZfG{CX:X7}{P:Program}{w:World}{K:Ow}{mg:Ov}{base:Heap}{N:OC}{qual:Str}{scope:Scope}{cl:Oy}{f:Addr}{cd:Value}{A:Around}{outer:List Env}{s:Shared}{H:Hp}{E:XK}{vs:List V}{cs:Addr->Option Obj}{h':Heap}{m:Ov}{tk:Nat}
  (L:scope.kind=.function) (hd:A.handled=none) (g:V0 P w K mg base A outer s H) (j:M5 N scope cl vs cs) (C:∀b o,cs b=some o->s.heap.get? b=some o/\H b=none)
  (O:h'.Ns s.heap.objs.size m) (y:∀b o,s.heap.get? b=some o->h'.get? b=some o):Zc (G8 CX P w K mg base N qual scope cl f cd A outer s H E) [] (vs.map some) H { s with heap:=h',toks:=tk }:=by
 have D:∀b:Addr,b∉(G8 CX P w K mg base N qual scope cl f cd A outer s H E).ex:=fun b z=>Oq (show b∈([]:OH)from z) (by simp);refine⟨⟨g.mod,L,R,R,Sg _,j.inj,j.has,(fun _ _ z=>nomatch z),fun _=>hd,Around.frames_deeper g.frames,.inr ⟨R,R⟩,fun b z=>Oq z (D b),g.bs,g.bsz,fun b _ _=>D b,fun b z=>Oq z (D b),g.funs,g.frf⟩,
  rfl,g.bare,Un.kept y,⟨m,O,fun i x v G q S=>?_⟩,fun x c h=>?_,g.hok.fresh (Sg _),fun x c h=>?_,fun p Q=>Oq (show p∈([]:Ou)from Q) (by simp),g.hok.kept y,?_⟩
 ·have M:vs[i]? = some v:=by
   rw[S0]at q;cases e:vs[i]? with
   |none=>rw[e]at q;cases q
   |some a=>rw[e]at q;exact So q ▸ R
  obtain⟨c,o,u,n,B,J,I⟩:=j.val i x v G M;exact⟨u,I,.inr ⟨.inr (j.fre x (SJ G)),c,n,o,y _ _ (C c o B).1,J⟩⟩
 ·obtain⟨o,v,n,B⟩:=j.cell x c h
  exact⟨v,o,y _ _ (C c o n).1,B⟩
 ·obtain⟨o,v,n,B⟩:=j.cell x c h
  exact(C c o n).2
 ·show(vs.map some).length=N.length
  rw[Sv,j.len]
def M6(P:Program)(w:World)(K:Ox)(mg:Ov)(base:Heap)(k:Nat)(f:Addr)(H:Hp)(W:VK->XK->Prop):Prop :=
 (∀h:Heap,Yp P w H h->PySem.W.FnAt f h)/\∀(A:Around) (outer:List Env) (s:Shared) (Q:VK) (E:XK),YA k A->V0 P w K mg base A outer s H->W Q E->codeAny (model P w) A (.call (.ref f) ⟨[],[]⟩) (CR (Xj P w) outer P w H s Q E) s
theorem I0{P:Program}{w:World}{K:Ow}{mg:Ov}{base:Heap}{k:Nat}{f i:Addr}{qual:Str}{params:Arguments}{body:Expr}{scope:Scope}{cl:Oy}{pm T:Value}{N:OC}{vs:List V}{cs:Addr->Option Obj}{H:Hp}{U:XK->TE}
  (hf:H f=some (Uq f qual params body scope cl pm i T)) (n0:H i=some (Vd i qual)) (g0:scope.isCoroutine=false) (b0:scope.isGenerator=false) (hk:scope.kind=.function) (l0:∀x∈scope.names,x.2≠.cell)
  (h:bindArgs (W.kla_fn "<lambda>" qual params body scope cl pm (.ref i) T) ⟨[],[]⟩=pure []) (hC:M5 N scope cl vs cs) (y:∀b o,cs b=some o->H b=some (B7 o))
  (d0:∀(A:Around) (outer:List Env) (s:Shared) (E:XK),YA k (A.deeper (W.envX qual scope s.heap.objs.size f (.ref i) cl))->PE (G8 (Xj P w) P w K mg base N qual scope cl f (.ref i) A outer s (unl cs H) E) body (U E)) :
  M6 P w K mg base (k+1) f H fun Q E=>U (fun C o c=>(∀b ob,cs b=some ob->c b=none)->E C o (lent cs c)) (vs.map some) (unl cs H) fun v c=>(∀b ob,cs b=some ob->c b=none)->Q v (lent cs c):=by
 refine⟨fun p0 ok=>?_,fun A outer s Q E O g hW=>?_⟩
 ·have z:=(ok f _ hf).1
  exact⟨_,_,_,_,z⟩
 have B:∀b o,cs b=some o->s.heap.get? b=some o:=fun b o q=>by
  obtain⟨z,_⟩:=g.hok b _ (y b o q);exact z
 have k0:∀b o,cs b=some o->b∉Yu outer:=fun b o q z=>by
  have:=g.frf b z;rw[y b o q]at this;cases this
 have e1:V0 P w K mg base A outer s (unl cs H):=⟨g.frames,g.mod,fun b o e=>⟨(g.bs b o e).1,G7 (g.bs b o e).2⟩,g.bsz,g.funs,fun b h=>G7 (g.frf b h),g.hok.unl y,g.bare⟩;have c0:s.heap.NoLimit:=g.mod.nolimit.keeps fun b o e=>(g.bs b o e).1;have ho:=(g.hok f _ hf).1;have m0:=(g.hok i _ n0).1;have back:∀{c:Hp} {n:Heap},Un (Yu outer) [] (unl cs H) c s.heap n->Yp P w c n->Un (Yu outer) [] H (lent cs c) s.heap n/\Yp P w (lent cs c) n/\(∀b o,cs b=some o->n.get? b=some o)/\∀b o,cs b=some o->c b=none:=fun{c n} u ok=>by
  have L:∀b o,cs b=some o->n.get? b=some o/\c b=none:=fun b o q=>⟨u.keep b o (B b o q) (QA q) (k0 b o q) (fun z=>nomatch z),u.free b o (B b o q) (QA q) fun z=>nomatch z⟩;exact⟨u.relend y,ok.lent L,fun b o q=>(L b o q).1,fun b o q=>(L b o q).2⟩
 refine W.kla_callFunE O.depth ho R g0 b0 R m0 ?_;rw[h];refine Sb ?_;refine wpAny_newFunctionEnv l0 (fun x hx=>nomatch hx) (fun h' i0 S=>?_) hk;refine⟨c0.fresh _ S,?_⟩;have a0:∀b o,s.heap.get? b=some o->h'.get? b=some o:=fun b o e=>S.extBut b o (Sf (Se e)) (Sc _ e);show codeAny (model P w) A (.expr body (W.envX qual scope s.heap.objs.size f (.ref i) cl)) _ _;refine W.kla_codeExpr ?_;have f0:=ZfG (CX:=Xj P w) (E:=fun C o c=>(∀b ob,cs b=some ob->c b=none)->E C o (lent cs c)) (f:=f) (cd:=.ref i) (qual:=qual) (tk:=s.toks+([]:List (Str×Value)).length) hk O.hd e1 hC (fun b o q=>⟨B b o q,QA q⟩) i0 a0;have conv:∀(e:Value) (j:Shared),Xj P w outer (unl cs H) s (fun C o c=>(∀b ob,cs b=some ob->c b=none)->E C o (lent cs c)) e j->Xj P w outer H s E e j:=by
  rintro e j ⟨a,C,c,rfl,os,bare,un,hok,⟨h0,t,fl,ha,j0⟩,o,nc,hE⟩;obtain⟨I,D,u3,G⟩:=back un hok;refine⟨a,C,lent cs c,R,os,bare,I,D,⟨h0,t,fl,?_,fun b o e h hn=>j0 b o e ?_ hn⟩,o,nc,hE G⟩
  ·cases q:cs a with
   |none=>rw[Y4 q];exact ha
   |some o =>
    obtain⟨ob,o0,X,_,Y,_⟩:=fl.first;obtain⟨v,q3⟩:=hC.dat a o q;rw[u3 a o q]at X;obtain rfl:=So X;rw[q3]at Y;cases Y
  ·rcases h with h|⟨u,h⟩
   ·exact .inl h
   ·cases q:cs b with
    |none=>rw[Y4 q]at h;exact .inr ⟨u,h⟩
    |some Z=>exact .inl ⟨Z,B b Z q⟩
 refine Op (d0 A outer s _ (O.deeper _) [] _ (vs.map some) (unl cs H) _ f0 hW) (fun u s' M=>?_) fun e s' M=>?_
 ·obtain⟨v,c,J,rv,q⟩:=M
  obtain⟨I,D,_,G⟩:=back J.base J.hok;exact⟨v,lent cs c,J.os,J.bare,I,D,rv,q G⟩
 ·exact Op M (fun _ j z=>conv e j z) fun e' j z=>conv e' j z
inductive vK(P:Program)(w:World)(K:Ox)(mg:Ov)(base:Heap)(k i:Nat)(E:XK)(σ:St)(H:Hp)(Q:VK):Prop|mk f W (_:σ[i]? = some (some (.ref f))) (_:M6 P w K mg base k f H W) (_:W Q E)
theorem ZfH{X:Cx}{k i:Nat}{x:Str}{p D:Pos}{E:XK}(M:X.N[i]? = some x)(J:E3 X.env.scope x)(O:YA k X.A)(B:WL (Xj X.prog X.w) X E)(hd:(x == ("__debug__" : Str))=false:=by lia) (T:(x == ("__classdict__" : Str))=false:=by lia) :
  PE X (.Call (.Name x p) [] [] D) (vK X.prog X.w X.K X.mg X.base k i E):=by
 intro pins s n H Q I h;obtain⟨f,W,e,⟨P,C⟩,y⟩:=h;refine wpAny_Call_Name_kw ?_;refine Zv (T4 M J hd T pins s n H (fun v L=>v=.ref f/\L=H) I ⟨_,e,R,R⟩) fun u j ⟨v,U,g,r,G,S⟩=>?_;subst G S;obtain rfl:u=Value.ref f:=r;refine PySem.W.callWith_F0 (P _ g.hok) ?_;refine wpAny_call (codeAny_mono (C X.A X.stack j Q E O g.env0 y) fun r q c=>?_);cases r with
 |error e=>exact B pins n _ j e q g c
 |ok fl =>
  cases fl with
  |ret u=>exact g.after c
  |next=>exact False.elim c
  |brk=>exact False.elim c
  |cont=>exact False.elim c
inductive vL(P:Addr)(mg:Ov)(qual:Str)(params:Arguments)(body:Expr)(scope:Scope)(cl:Oy)(pos:Pos)(_e0:St)(H:Hp)(Q:VK):Prop|mk (ps:Array Value) (_:H P=some (.tbl ps)) (_:TriplesOk ps.toList) (_:((codeAmong pos ps.toList=none/\∀f c' ctv,H f=none->H c'=none->f≠c'->Q (.ref f) (Za (Za (Za H P (.tbl (ps ++ #[rawInt pos.line,rawInt pos.col,.ref c']))) c' (Vd c' qual)) f (Uq f qual params body scope cl ((mg "__name__").getD .none) c' ctv)))\/∃c',codeAmong pos ps.toList=some (.ref c')/\∀f ctv,H f=none->Q (.ref f) (Za H f (Uq f qual params body scope cl ((mg "__name__").getD .none) c' ctv))))
theorem I3{X:Cx}{params:Arguments}{body:Expr}{scope:Scope}{cl:Oy}{i:Pos}{c P:Addr}(b0:X.env.code=.ref c)(C:W.CodeHd X.base c P)(f0:BM X.mg X.base)(U:closureFor scope X.env=pure cl)(c0:defaultsOf params X.env=([],[])) :
  PE X (.Lambda params body scope i) (vL P X.mg (X.env.qual ++ "<lambda>") params body scope cl i):=by
 intro pins s σ H h0 I h;obtain⟨E,g,ht,h⟩:=h;have Q:s.heap.get? P=some (W.tabObj E):=I.hok P _ g;have S:∀{b o},X.base.get? b=some o->b≠P:=fun e z=>by
  have:=(I.bs _ _ e).2;rw[z,g]at this;cases this
 have d0:mainGlobals≠P:=by
  obtain⟨o,es,ep,e,_⟩:=I.mod.glob;exact S e
 obtain⟨bm,ob,b1,b2,b3,b4,b5,b6,b7⟩:=f0;have hb:s.heap.BuiltinsAt X.mg P:=⟨bm,ob,b1,b2,b3,S b4,I.bk _ _ b4,b5,b6,b7⟩;refine W.kla_eval c0 ?_;rcases h with⟨hn,q⟩|⟨f,hf,q⟩
 ·refine W.kla_makeFunction (mg:=X.mg) U I.ok.glob (I.mod.glob.keeps I.bk) b0 (C.keeps I.bk) Q ht hn d0 hb fun f j h' tk v y a0 e0 Z=>?_
  have O:H f=none:=I.hok.fresh y;have g0:P<s.heap.objs.size:=Se Q;have cP:f≠P:=Nat.ne_of_gt (Si g0 y);have D:∀{b o},H b=some o->(∀G,o≠.tbl G)->Za (Za H P (.tbl (E ++ #[rawInt i.line,rawInt i.col,.ref f]))) f (Vd f (X.env.qual ++ "<lambda>")) b=some o:=fun e n=>by
   rw[Zf (ZT e O),Zf (Z3 e g (n _))];exact e
  have I1:Zc X pins σ (Za (Za H P (.tbl (E ++ #[rawInt i.line,rawInt i.col,.ref f]))) f (Vd f (X.env.qual ++ "<lambda>"))) { s with heap:=h',gens:=s.gens,drawn:=s.drawn,toks:=tk }:=by
   refine I.step (ch:=[]) (fun _ z=>nomatch z) (fun b o _ _ _ e n=>v b o (fun z=>by rw[z,g]at n;cases n) e) (fun b o _ _ _ e n=>⟨o.slots,v b o (fun z=>by rw[z,g]at n;cases n) e⟩) (fun b o _ e n=>?_) (fun b o _ e=>?_) (fun b xs e=>D e fun _ z=>by cases z) (fun b o u e=>D e fun _ z=>by cases z) (fun b G e=>?_) (fun m hn=>hn.extBut v fun z=>?_) (fun b u e=>?_) I.bare
   ·rw[Zf (Sf (Si (Se e) y)),Zf fun z=>by rw[z,g]at n;cases n]
    exact n
   ·by_cases z:b=P
    ·exact⟨_,by rw[z];exact Z⟩
    ·exact⟨o,v b o z e⟩
   ·by_cases z:b=P
    ·subst z
     rw[g]at e;obtain rfl:E=G:=by injection e with e;injection e
     exact⟨#[rawInt i.line,rawInt i.col,.ref f],by rw[Zf cP.symm,Zm]⟩
    ·exact⟨#[],by rw[Zf (ZT e O),Zf z,e];simp⟩
   ·have:=I.free
    rw[z,g]at this;cases this
   ·by_cases z:b=f
    ·subst z
     rw[Zm]at e;obtain rfl:=So e;exact ZfA e0
    ·rw[Zf z]at e
     by_cases M:b=P
     ·subst M
      rw[Zm]at e;obtain rfl:=So e;exact Z
     ·rw[Zf M]at e
      refine(I.hok b u e).stay (fun J u' B x=>v J u' (fun T=>?_) x) (fun J x=>D x fun _ z=>by cases z) (fun J xs x=>D x fun _ z=>by cases z);rcases B with rfl|B
      ·exact M T
      ·rw[T,g]at B;cases B
  have L:=I1.laid (a:=h'.objs.size) (o:=Uq h'.objs.size (X.env.qual ++ "<lambda>") params body scope cl ((X.mg "__name__").getD .none) f j) (t':=tk) (h':=h'.push (W.kla_obj "<lambda>" (X.env.qual ++ "<lambda>") params body scope cl ((X.mg "__name__").getD .none) f j)) (fun b u e=>Sc _ e) (Sg _) (vJ (Sd _ R));have nf:H h'.objs.size=none:=I.hok.fresh (Sh y (Nat.le_of_lt a0));exact⟨.ref _,_,L,R,q _ f j nf O (Nat.ne_of_gt a0)⟩
 ·refine W.kla_makeFunctionHit (mg:=X.mg) U I.ok.glob (I.mod.glob.keeps I.bk) b0 (C.keeps I.bk) Q ht hf hb fun j h' tk hk Y=>?_
  have L:=I.laid (a:=h'.objs.size) (o:=Uq h'.objs.size (X.env.qual ++ "<lambda>") params body scope cl ((X.mg "__name__").getD .none) f j) (t':=tk) (h':=h'.push (W.kla_obj "<lambda>" (X.env.qual ++ "<lambda>") params body scope cl ((X.mg "__name__").getD .none) f j)) (fun b u e=>Sc _ (hk b u e)) Y (vJ (Sd _ R));exact⟨.ref _,_,L,R,q _ j (I.hok.fresh Y)⟩
structure Ld(FN:List (Str×Nat))(cl:Oy)(cs:Addr->Option Obj)(σ:St)(H:Hp):Prop where
 free:∀b o,cs b=some o->H b=none/\∃v,o.data=.cell v
 cell:∀x c,cl.lookup x=some c->∃o v,cs c=some o/\o.data=.cell v
 val:∀p∈FN,∀v,σ[p.2]? = some (some v)->∃c o u,cl.lookup p.1=some c/\cs c=some o/\o.data=.cell (some u)/\ZG v u
theorem V4.mem{X:Cx}{y:Str}{c:Addr}:∀{cl:Oy},V4 X cl->(y,c)∈cl->X.env.cells.lookup y=some c
 |(z,d)::r,h,e=>by
  rcases SE.mp e with e|e
  ·cases e;exact h.1
  ·exact V4.mem h.2 e
def JH(sp:Sp)(FN:List (Str×Nat))(cl:Oy)(g:TE):TE:=fun c H Q=>g c H fun v e=>∀cs:Addr->Option Obj,Ld FN cl cs c e->sp [v] (lent cs e) (fun r f=>Q r (unl cs f)) fun _ _ _=>False
theorem JI{X:Cx}{k:Nat}{f:Addr}{T:OJ}{Q:OC}{sp:Sp}{FN:List (Str×Nat)}{cl:Oy}{U:TE}{x:Str}{e:Expr}{p b0:Pos}(F:Zq X.prog X.w X.K X.mg X.base Zt k f T Q sp)(hr:YA k X.A)(hg:Gl X x)(hm:X.mg x=some (.ref f))(hk:W.keepIn X.K (.ref f)=true)(u:X8 X.K T Q [])
  (i0:∀y,X.fn y=true) (Z:V4 X cl) (d0:∀p∈FN,X.N[p.2]? = some p.1/\X.env.scope.names.lookup p.1=some .cell/\∃c,X.env.cells.lookup p.1=some c/\cl.lookup p.1=some c) (he:PE X e U) (Y:YT e=true:=by rfl) (g0:(x == ("__debug__" : Str))=false:=by lia) :
  PE X (.Call (.Name x p) [e] [] b0) (JH sp FN cl U):=by
 intro pins s P c0 f0 I j0;refine wpAny_Call_Name_kw (Uw I hg hm ?_ g0);refine W.callWith_K (h₀:=X.base) I.ok.mod.kin hk (Zv ((zY he XE (MK Y)) b0 pins s P c0 (fun H B=>match H with|[v]=>∀cs:Addr->Option Obj,Ld FN cl cs P B->sp [v] (lent cs B) (fun r H2=>f0 r (unl cs H2)) (fun _ _ _=>False)|_=>False) I j0) fun E h ⟨H,B,g,r,q⟩=>⟨g.kIn,?_⟩) (MK Y) R
 match H,q,r with
 |[],q,_=>exact q.elim
 |_::_::_,q,_=>exact q.elim
 |[v],q,r =>
  have G:∀b o,(if b∈cl.map (·.2)then h.heap.get? b else none)=some o->(∃y,X.env.cells.lookup y=some b)/\h.heap.get? b=some o:=fun b o e=>by
   by_cases u:b∈cl.map (·.2)
   ·rw[SV u]at e
    obtain⟨⟨y,c⟩,j,ec⟩:=SI.mp u;obtain rfl:c=b:=ec;exact⟨⟨y,Z.mem j⟩,e⟩
   ·rw[SU u]at e;cases e
  have L:∀b o,(if b∈cl.map (·.2)then h.heap.get? b else none)=some o->h.heap.get? b=some o/\B b=none:=fun b o e=>by
   obtain⟨⟨y,j⟩,e⟩:=G b o e;exact⟨e,g.freeC y b j⟩
  have big:∀b o,(if b∈cl.map (·.2)then h.heap.get? b else none)=some o->X.s₀.heap.objs.size<=b:=fun b o e=>by
   obtain⟨⟨y,j⟩,_⟩:=G b o e;exact g.ok.cab y b (i0 y) j
  have lk:∀y c,cl.lookup y=some c->∃v,h.heap.IsCell c v/\c∈cl.map (·.2):=fun y c e=>by
   obtain⟨v,z⟩:=g.cell y c (Z.at e);exact⟨v,z,SI.mpr ⟨(y,c),PySem.mem_of_lookup e,R⟩⟩
  have LC:Ld FN cl (fun b=>if b∈cl.map (·.2)then h.heap.get? b else none) P B:=by
   refine⟨fun b o e=>⟨(L b o e).2,?_⟩,fun y c e=>?_,fun p hp v ev=>?_⟩
   ·obtain⟨⟨y,j⟩,e⟩:=G b o e
    obtain⟨v,C,z1,O⟩:=g.cell y b j;rw[e]at z1;obtain rfl:=So z1;exact⟨v,O⟩
   ·obtain⟨v,⟨o,z1,O⟩,M⟩:=lk y c e
    exact⟨o,v,by rw[SV M];exact z1,O⟩
   ·obtain⟨q1,i,c,q3,S⟩:=d0 p hp
    obtain⟨m,hn,J⟩:=g.loc;obtain⟨a0,ru,l⟩:=J p.2 p.1 v q1 ev (.inr (.inl i));obtain⟨_,_,M⟩:=lk p.1 c S;rcases l with⟨z,_⟩|⟨_,c',e',o,ho,hd⟩
    ·rw[show X.env.kindOf p.1=X.env.scope.names.lookup p.1 from R,i]at z;cases z
    ·rw[q3]at e'
     obtain rfl:=So e';exact⟨c,o,a0,S,by rw[SV M];exact ho,hd,ru⟩
  have n:=g.env0;have e1:V0 X.prog X.w X.K X.mg X.base X.A X.stack h (lent (fun b=>if b∈cl.map (·.2)then h.heap.get? b else none) B):=by
   refine⟨n.frames,n.mod,fun b o e=>⟨(n.bs b o e).1,?_⟩,n.bsz,n.funs,fun b u=>?_,n.hok.lent L,n.bare⟩
   ·cases i:(fun b=>if b∈cl.map (·.2)then h.heap.get? b else none) b with
    |none=>rw[Y4 i];exact(n.bs b o e).2
    |some C =>
     have:=big b C i;exact Oq (Si (Se e) g.ok.bsz) (Og.mpr this)
   ·cases i:(fun b=>if b∈cl.map (·.2)then h.heap.get? b else none) b with
    |none=>rw[Y4 i];exact n.frf b u
    |some C =>
     have h1:=big b C i;obtain⟨⟨y,j⟩,_⟩:=G b C i;rcases SE.mp (g.stkSub b u)with z|z
     ·exact Oq z (g.cne y b j)
     ·obtain⟨_,o2,k0,_⟩:=g.ok.funs.mem z
      exact Oq (Se k0) (Og.mpr h1)
  have qq:=q _ LC;have r2:ZD ([v]++[]) (E++[]):=r.append .nil;have J:(E++[]).length=Q.length:=by rw[<-r2.length];exact F.len _ _ _ _ qq
  refine wpAny_call (codeAny_mono (F.run X.A X.stack h _ ⟨E,[]⟩ (E++[]) ([v]++[]) _ _ hr e1 (u h E g.kIn J) r2 qq) fun rr s' D=>?_);cases rr with
  |error e=>exact False.elim D
  |ok fl =>
   cases fl with
   |next=>exact False.elim D
   |brk=>exact False.elim D
   |cont=>exact False.elim D
   |ret a0 =>
    obtain⟨w',H',os,bare,un,hok,h0,q'⟩:=D;exact g.after ⟨w',_,os,bare,un.unlend L hok,hok.unl (fun b o z=>un.frzs b o _ (Ve z)),h0,q'⟩
def JJ{c:Type}(P:c->Prop):List c->Prop
 |[]=>True
 |a::r=>P a/\JJ P r
theorem JK{c:Type}{P:c->Prop}:∀{l:List c},JJ P l->∀a∈l,P a
 |_::_,h,a,m=>by
  rcases SE.mp m with rfl|m
  ·exact h.1
  ·exact JK h.2 a m
theorem JL{X:Cx}{FN:List (Str×Nat)}{cl:Oy}(h:JJ (fun p=>X.N[p.2]? = some p.1/\X.env.scope.names.lookup p.1=some .cell/\∃c,X.env.cells.lookup p.1=some c/\cl.lookup p.1=some c) FN) :
  ∀p∈FN,X.N[p.2]? = some p.1/\X.env.scope.names.lookup p.1=some .cell/\∃c,X.env.cells.lookup p.1=some c/\cl.lookup p.1=some c:=JK h
theorem ZfI{P:Program}{w:World}{K:Ow}{mg L:Ov}{CX:X7}{k:Nat}{U a:Addr}{i:List (Addr×Addr)}{fd:OJ}{x:Str}{sp:Sp}{c:Shared}{vs:OB}{ns:OE}
  (KX:K.In c.heap) (a0:c.heap.Ns mainGlobals mg) (f:c.heap.Ns builtinsNs L) (p0:∀x:Str,x ≠ "__name__" -> L x=bootBuiltins x) (r0:c.heap.NoLimit) (hg:c.gens = #[])
  (ha:c.heap.get? a=some { cls:=.type "list",data:=.seq vs.toArray }) (hi:IntsAre vs ns) (hl:ns.length<=sizeLine) (hr:YA k callerA)
  (Y:∀p∈i,W.CodeHd c.heap p.1 p.2/\c.heap.get? p.2=some (W.tabObj #[])/\K.lookup p.2=none) (h0:BM mg c.heap)
  (F:∀base:Heap,K.In base->base.Ns mainGlobals mg->(∀p∈i,W.CodeHd base p.1 p.2)->BM mg base->Zq P w K mg base CX k U fd [x] sp) (i0:∀(s:Shared) (u:Value),BindsTo s fd ⟨[u],[]⟩ [(x,u)])
  (n0:∀H:Hp,(∀p∈i,H p.2=some (.tbl #[]))->Zg K H a (ns.map V.int)->sp [.ref a] H (fun v _=>v=.bl true) fun _ _ _=>False)
  (l0:∀H e n,CX [] H c (fun _ _ _=>False) e n->False) :
  codeAny (model P w) callerA (.call (.ref U) ⟨[.ref a],[]⟩) (fun r n=>r=.ok (.ret (.bool true))/\OldK c.heap n.heap/\n.os=c.os/\AllBare n.gens) c:=by
 have rv:=yR hi;have j0:=hi.length;have D:∀{b:Addr},b∈i.map (·.2)->c.heap.get? b=some (W.tabObj #[])/\K.lookup b=none:=fun{b} f=>by
  obtain⟨p,C,rfl⟩:=SI.mp f;exact(Y p C).2
 have aT:a∉i.map (·.2):=fun z=>by rw[(D z).1]at ha;cases ha
 have core:∀H:Hp,(∀b,H b=none\/(b∈i.map (·.2)/\H b=some (.tbl #[]))\/∃o xs,H b=some (.frz o (.lst xs)))->(∀b∈i.map (·.2),H b=some (.tbl #[]))->Zg K H a (ns.map V.int)->Yp P w H c.heap->(∀b,H b≠none->b=a\/b∈i.map (·.2))->(H a≠none->K.lookup a=none) ->
   codeAny (model P w) callerA (.call (.ref U) ⟨[.ref a],[]⟩) (fun r n=>r=.ok (.ret (.bool true))/\OldK c.heap n.heap/\n.os=c.os/\AllBare n.gens) c:=by
  intro H hO d0 hS hok T hK;have I:∀{b:Addr} {o:Obj},c.heap.get? b=some o->H b=none->(VW c.heap H).get? b=some o:=fun e k0=>Zcd e k0;have c0:∀{b:Addr} {o:Obj},c.heap.get? b=some o->o.cls≠.type "list" -> o.cls≠.none->H b=none:=fun{b o} e n1 n2=>by
   cases q:H b with
   |none=>rfl
   |some u =>
    rcases T b (by rw[q];simp)with rfl|f
    ·rw[ha]at e;cases e;exact Oq R n1
    ·rw[(D f).1]at e;cases e;exact Oq R n2
  have q0:∀{b:Addr} {o:Obj} {G:Array DictEntry} {E:Nat},c.heap.get? b=some o->o.data=.dict G E->H b=none:=fun{b o G E} e d=>by
   cases q:H b with
   |none=>rfl
   |some u =>
    rcases T b (by rw[q];simp)with rfl|f
    ·rw[ha]at e;cases e
     have d':Data.seq vs.toArray _=Data.dict G E:=d;cases d'
    ·rw[(D f).1]at e;cases e;cases d
  have J:∀{b:Addr} {m:Ov},c.heap.Ns b m->(VW c.heap H).Ns b m:=fun{b m} ⟨o,G,E,e,d,r⟩=>⟨o,G,E,I e (q0 e d),d,r⟩;have Z:K.In (VW c.heap H):=fun b o e=>I (KX b o e) (by
   cases q:H b with
   |none=>rfl
   |some u =>
    rcases T b (by rw[q];simp)with rfl|f
    ·rw[hK (by rw[q];simp)]at e;cases e
    ·rw[(D f).2]at e;cases e)
  have g0:∀p∈i,W.CodeHd (VW c.heap H) p.1 p.2:=fun p C=>by
   obtain⟨o,ws,file,tf,flags,tg,f0,text,tt,e,X,r⟩:=(Y p C).1;exact⟨o,ws,file,tf,flags,tg,f0,text,tt,I e (c0 e (by rw[X];exact fun z=>Oq (Value.type.inj z) (by lia)) (by rw[X];intro z;cases z)),X,r⟩
  have m0:BM mg (VW c.heap H):=by
   obtain⟨bm,ob,b1,b2,b3,b4,Q,b6⟩:=h0;exact⟨bm,ob,b1,b2,b3,I b4 (c0 b4 (by rw[Q];exact fun z=>Oq (Value.type.inj z) (by lia)) (by rw[Q];intro z;cases z)),Q,b6⟩
  have hM:Mod K mg (VW c.heap H):=⟨Z,J a0,⟨L,J f,p0⟩,let ⟨mc,j,y⟩:=r0;⟨mc,J j,y⟩⟩;have e0:V0 P w K mg (VW c.heap H) callerA [] c H:=⟨R,hM,fun b o e=>Zce e,Nat.le_of_eq (Zcc _ _),trivial,fun b f=>Oq (show b∈([]:OH)from f) (by simp),hok,.of_eq hg⟩;refine codeAny_mono ((F _ Z (J a0) g0 m0).run callerA [] c H ⟨[.ref a],[]⟩ [.ref a] [.ref a] _ _ hr e0 (i0 c (.ref a)) (.cons R .nil) (n0 H (fun p C=>d0 p.2 (SI.mpr ⟨p,C,R⟩)) hS)) fun r n h=>?_;cases r with
  |error e=>exact(l0 H e n h).elim
  |ok fl =>
   cases fl with
   |next=>exact False.elim h
   |brk=>exact False.elim h
   |cont=>exact False.elim h
   |ret u =>
    obtain⟨v,H',os,bare,un,b0,r',q⟩:=h;have q':v=.bl true:=q;subst q';obtain rfl:u=Value.bool true:=r';have keep:∀b o,b∉i.map (·.2)->c.heap.get? b=some o->n.heap.get? b=some o:=fun b o nT e=>by
     cases q:H b with
     |none=>exact un.keep b o e q (by intro z;exact Oq (show b∈([]:OH)from z) (by simp)) (by simp)
     |some u =>
      rcases hO b with z|⟨z,_⟩|⟨ob,xs,z⟩
      ·rw[q]at z;cases z
      ·exact Oq z nT
      ·have z2:=un.frzs b ob _ z
       obtain⟨e1,_⟩:=hok b _ z;obtain⟨e2,_⟩:=b0 b _ z2;rw[e]at e1;cases e1;exact e2
    have gT:∀b∈i.map (·.2),∃more:Array Value,n.heap.get? b=some { cls:=.none,data:=.fields (#[]++more) }:=fun b f=>by
     obtain⟨more,hm⟩:=un.tbls b _ (d0 b f);exact⟨more,b0 b _ hm⟩
    refine⟨R,⟨fun b o e=>?_,fun b o e=>?_⟩,os,bare⟩
    ·by_cases z:b∈i.map (·.2)
     ·obtain⟨more,g⟩:=gT b z
      obtain⟨p,C,rfl⟩:=SI.mp z;obtain⟨o0,hT,_⟩:=Y p C;rw[hT]at e;obtain rfl:=So e;exact .inr (.inl ⟨(o0.tab hT).isCodeTable,R,#[],more,R,g⟩)
     ·exact .inl (keep b o z e)
    ·by_cases z:b∈i.map (·.2)
     ·obtain⟨more,g⟩:=gT b z
      exact⟨_,g⟩
     ·exact⟨o,keep b o z e⟩
 cases M:K.lookup a with
 |some o =>
  have e:=KX a o M;rw[ha]at e;cases e;refine core (fun b=>if b∈i.map (·.2)then some (.tbl #[])else none) (fun b=>?_) (fun b f=>SV f) (.inr ⟨_,vs.toArray,_,M,R,R,R,by rw[SM,j0];exact hl,by simpa using rv⟩) (fun b u z=>?_) (fun b z=>?_) fun z=>Oq (SU aT) z
  ·by_cases f:b∈i.map (·.2)
   ·exact .inr (.inl ⟨f,SV f⟩)
   ·exact .inl (SU f)
  ·by_cases f:b∈i.map (·.2)
   ·have B:=(SV f).symm.trans z
    cases B;exact(D f).1
   ·have B:=(SU f).symm.trans z
    cases B
  ·by_cases f:b∈i.map (·.2)
   ·exact .inr f
   ·exact Oq (SU f) z
 |none =>
  have S:∀b,b∉i.map (·.2)->b≠a->(fun b=>if b∈i.map (·.2)then some (HO.tbl #[])else if b=a then some (.frz { cls:=.type "list",data:=.seq vs.toArray } (.lst (ns.map V.int)))else none) b=none:=fun b j y=>by
   show(if b∈i.map (·.2)then _ else if b=a then _ else _)=none;rw[SU j,SU y]
  have O:(fun b=>if b∈i.map (·.2)then some (HO.tbl #[])else if b=a then some (.frz { cls:=.type "list",data:=.seq vs.toArray } (.lst (ns.map V.int)))else none) a=some (.frz { cls:=.type "list",data:=.seq vs.toArray } (.lst (ns.map V.int))):=by
   show(if a∈i.map (·.2)then _ else if a=a then _ else _)=_;rw[SU aT,SV R]
  refine core (fun b=>if b∈i.map (·.2)then some (.tbl #[])else if b=a then some (.frz { cls:=.type "list",data:=.seq vs.toArray } (.lst (ns.map V.int)))else none) (fun b=>?_) (fun b f=>SV f) (.inl (.inr ⟨{ cls:=.type "list",data:=.seq vs.toArray },O⟩)) (fun b u z=>?_) (fun b z=>?_) fun _=>M
  ·by_cases j:b∈i.map (·.2)
   ·exact .inr (.inl ⟨j,SV j⟩)
   ·by_cases y:b=a
    ·subst y;exact .inr (.inr ⟨_,_,O⟩)
    ·exact .inl (S b j y)
  ·by_cases j:b∈i.map (·.2)
   ·have B:=(SV j).symm.trans z
    cases B;exact(D j).1
   ·by_cases y:b=a
    ·subst y
     have B:=O.symm.trans z;cases B;exact⟨ha,by rw[Sv];exact hl,vs,_,rv,ha⟩
    ·have B:=(S b j y).symm.trans z
     cases B
  ·by_cases j:b∈i.map (·.2)
   ·exact .inr j
   ·by_cases y:b=a
    ·exact .inl y
    ·exact Oq (S b j y) z
theorem ZfJ{l:W.OpenLaw}{n k:Nat}{q:Program}{loose:OC}{XP:(Str->Option Value)->Heap->Prop}{I:World->Heap->Prop}{d:DefRec}{K:Params->W.Frag}{CX:X7}{sp:W.Frag->List Addr->Sp}{x:Str}{C:OH}
  (hn:l.most=some n) (b0:n<=sizeLine) (M:d.params.defaults=[]) (hr:YA k callerA)
  (hY:∀(w:World) (h:Heap),I w h->(K w.params).In h/\∀P∈C,h.get? P=some (W.tabObj #[]))
  (F:∀(u:OH),u=C->∀(w:World) (mg:Ov) (i:Addr) (h:Heap),(K w.params).In h->h.Ns mainGlobals mg->mg d.name=some (.ref i) ->
   ∃c:List (Addr×Addr),(∀p∈c,(W.codeHdIn (K w.params) p.1 p.2=true/\p.2∈u)/\(K w.params).lookup p.2=none)/\∃j:FuncData,(∀(s:Shared) (u:Value),BindsTo s j ⟨[u],[]⟩ [(x,u)]) /\
    ∀base:Heap,(K w.params).In base->base.Ns mainGlobals mg->(∀p∈c,W.CodeHd base p.1 p.2)->BM mg base->Zq l.prog w (K w.params) mg base CX k i j [x] (sp (K w.params) (c.map (·.2))))
  (X:∀(K:Ow) (c:OH) (H:Hp) (a:Addr) (ns:OE),ns.length<=n->(∀T∈c,H T=some (.tbl #[]))->Zg K H a (ns.map V.int)->sp K c [.ref a] H (fun v _=>v=.bl true) fun _ _ _=>False)
  (O:∀(H:Hp) (s:Shared) (e:Value) (s':Shared),CX [] H s (fun _ _ _=>False) e s'->False) :
  W.WalkO q loose XP I l.row.toRowW d [] (fun f vs=>PySem.call f vs):=by
 refine Att.attach_call hn M fun w s₀ D mg mb i o pm cd j0 a vs ns G h0 ho hd i0 f0 Z hints hlen hg=>?_;obtain⟨KX,a0⟩:=hY w _ h0;obtain⟨c,ht,j,hb,hF⟩:=F C R w mg i _ KX G.T.g f0;have c0:∀p∈c,W.CodeHd D.heap p.1 p.2/\D.heap.get? p.2=some (W.tabObj #[])/\(K w.params).lookup p.2=none:=fun⟨g0,T⟩ E=>by
  obtain⟨⟨h1,Q⟩,L⟩:=ht (g0,T) E;exact⟨W.codeHd_of_K KX h1,a0 _ Q,L⟩
 obtain⟨J,ob,b1,b2,B,b4,U,y⟩:=G.T.bmain;have e0:J≠mainGlobals:=fun z=>by
  obtain⟨o',es,ep,e,d0,_⟩:=G.T.g;rw[z,e]at B;cases B;rw[d0]at y;cases y
 exact ZfI KX G.T.g G.T.b G.T.builtins G.T.nolimit hg Z hints (Sh hlen b0) hr c0 ⟨J,ob,b1,b2,e0,B,b4,U,y⟩ hF hb (fun H hH S=>X _ _ H a ns hlen (fun T Y=>by obtain⟨p,E,rfl⟩:=SI.mp Y;exact hH p E) S) fun H e s'=>O H D e s'
theorem on0{c:Type}{P:List c->Prop}(h:P []):∀us:List c,us.length=0->P us
 |[],_=>h
theorem Xe{e:Type}{P:List e->Prop}(h:∀c,P [c]):∀us:List e,us.length=1->P us
 |[c],_=>h c
theorem Xs{f:Type}{P:List f->Prop}(h:∀e c,P [e,c]):∀us:List f,us.length=2->P us
 |[e,c],_=>h e c
theorem XV{g:Type}{P:List g->Prop}(h:∀f c e,P [f,c,e]):∀us:List g,us.length=3->P us
 |[f,c,e],_=>h f c e
theorem Ur{i:Type}{P:List i->Prop}(h:∀f c g e,P [f,c,g,e]):∀us:List i,us.length=4->P us
 |[f,c,g,e],_=>h f c g e
theorem M7{j:Type}{P:List j->Prop}(h:∀g c i e f,P [g,c,i,e,f]):∀us:List j,us.length=5->P us
 |[g,c,i,e,f],_=>h g c i e f
theorem on6{n:Type}{P:List n->Prop}(h:∀i c j f g e,P [i,c,j,f,g,e]):∀us:List n,us.length=6->P us
 |[i,c,j,f,g,e],_=>h i c j f g e
theorem vM{K f:Type}[DecidableEq K]:∀{xs:List (K×f)} {j:Nat} {k:K} {p:f},(xs.map (·.1)).Nodup->xs[j]? = some (k,p)->xs.eraseIdx j=xs.filter fun x=>decide (x.1≠k)
 |[],_,_,_,_,h=>by simp at h
 |x::xs,0,k,p,hn,h=>by
  have e:x=(k,p):=So h;subst e;rw[SL,Ol]at hn;rw[List.eraseIdx_cons_zero,List.filter_cons,SU (by simp)];refine(List.filter_eq_self.mpr fun y g=>?_).symm;have ne:y.1≠k:=fun z=>hn.1 (by rw[<-z];exact SI.mpr ⟨y,g,R⟩);simpa using ne
 |x::xs,j+1,k,p,hn,h=>by
  rw[SL,Ol]at hn;have c:xs[j]? = some (k,p):=by simpa using h
  have ne:x.1≠k:=fun z=>hn.1 (by rw[z];exact SI.mpr ⟨(k,p),SJ c,R⟩);rw[List.eraseIdx_cons_succ,List.filter_cons,SV (by simpa using ne),vM hn.2 c]
theorem vN{c e:Type}(f:c->e):∀(xs:List c) (j:Nat),(xs.map f).eraseIdx j=(xs.eraseIdx j).map f
 |[],_=>rfl
 |x::xs,0=>rfl
 |x::xs,j+1=>by
  rw[SL,List.eraseIdx_cons_succ,List.eraseIdx_cons_succ,SL,vN f xs j]
section
variable{prog:Program}{w:World}{K:Type} [DecidableEq K] {knd:HeapKind prog w K}{A:Around}{E:Ot}{s:Shared}{d a:Addr}{k:K}{xs:List (K×Addr×Value)}
def JM(xs:List (K×Addr×Value))(k:K):List (K×Addr×Value):=xs.filter fun x=>decide (x.1≠k)
theorem ZfK{Q:Option DictEntry->Shared->Prop}(n:knd.room A)(q:knd.is s.heap k a)(hm:s.heap.DictOfH knd d xs)(hsz:xs.length<=sizeLine)
  (G:(atKey xs k).map (·.2)=none->Q none { s with toks:=s.toks+knd.draws k })
  (y:∀e,(atKey xs k).map (·.2)=some e.val->∀g,g.DictOfH knd d (JM xs k)->Heap.SameBut d s.heap g->Q (some e) { s with heap:=g,toks:=s.toks+knd.draws k }) :
  wpAny (model prog w) A (Builtin.Dict.takeOut d (.ref a)) Q E s:=by
 obtain⟨o,h,B,c,v,hd,f,u,hn⟩:=hm;unfold Builtin.Dict.takeOut
 try with_reducible refine wpAny_holding ?_
 refine Sa (knd.pyHash n q (Sa (wpAny_dictFind_heap (s:={ s with toks:=s.toks+knd.draws k }) n q c hd f u hn ?_ ?_)))
 ·intro C
  exact Sb (G (by rw[atKey_none_of_get C];rfl))
 ·intro j p i
  refine Sa (wpAny_dictEntries (s:={ s with toks:=s.toks+knd.draws k }) c hd ?_);rw[entry_at f j,i];refine Sa (wpAny_updateDictKeys (hz:=by have e:=size_of_entries f;lia) (s:={ s with toks:=s.toks+knd.draws k }) c hd (Sb (y _ (by rw[atKey_of_get hn i];rfl) _ ⟨_,_,B+1,Heap.get?_update_self _ c (Obj.isFreed_of_dict (Obj.data_mapDictKeys hd _)),
   v.mapDictKeys _,Obj.data_mapDictKeys hd _,?_,?_,?_⟩ (Heap.SameBut.update ..))))
  ·have D:(h.eraseIdxIfInBounds j).toList=h.toList.eraseIdx j:=by
    obtain⟨l⟩:=h;simp
   rw[D,f,vN,vM hn i];rfl
  ·intro x H
   exact knd.keeps (u x ((List.mem_filter.mp H).1)) c hd (Heap.SameBut.update ..)
  ·unfold JM
   exact List.Nodup.sublist (List.Sublist.map _ List.filter_sublist) hn
theorem ZfL(knd:HeapKind prog w K)(d a:Addr)(hd:(d == sysModules)=false)(dflt:Value) :
  MeetsIn prog w (Builtin.«dict.pop» ⟨[.ref d,.ref a,dflt],[]⟩) (fun A R s=>knd.room A.in1/\∃k xs,knd.is s.heap k a/\s.heap.DictOfH knd d xs/\xs.length<=sizeLine /\
   ((atKey xs k).map (·.2)=none->∀t,R (.ok (.ret dflt)) { s with toks:=t }) /\
   ∀v,(atKey xs k).map (·.2)=some v->∀c t,c.DictOfH knd d (JM xs k)->Heap.SameBut d s.heap c->R (.ok (.ret v)) { s with heap:=c,toks:=t }) :=
 .of_wp fun A R s ⟨C,k,xs,h,hm,j,g,G⟩=>by
  unfold Builtin.«dict.pop»;refine Sa ?_;unfold Builtin.Dict.keyAndDefault;refine Sa (wpAny_notOrdered_dict hm.typeIs ?_);show wpAny _ _ (pure (d,Value.ref a,some dflt)) _ _ s;refine Sb ?_;obtain⟨o,f,H,y,I,i,D,J,hn⟩:=id hm;dsimp only;rw[SU (show ¬ (keyPart (Value.ref a)).isSome=true by simp[keyPart])];refine Sa (wpAny_dictEntries y i (Sa (Sb ?_)));cases n:f.isEmpty with
  |true =>
   have B:xs=[]:=by
    have:=size_of_entries D;have z:f.size=0:=by simpa using n
    exact List.length_eq_zero_iff.mp (by lia)
   subst B;simp only[if_true];refine Sa (wpAny_rule (Sa (Sb ?_)));simp only[Option.isNone_none,if_true];refine Sa (wpAny_missedRemoval_other hd ?_);exact Sa (wpAny_rule (Sb ⟨dflt,rfl,g rfl _⟩))
  |false =>
   simp only[Bool.false_eq_true,if_false];refine Sa (ZfK C h hm j (fun hn=>?_) fun e q c u x=>?_)
   ·simp only[Option.isNone_none,if_true]
    refine Sa (wpAny_missedRemoval_other hd ?_);exact Sa (wpAny_rule (Sb ⟨dflt,rfl,g hn _⟩))
   ·simp only[Option.isNone_some,Bool.false_eq_true,if_false]
    exact Sa (wpAny_letGo (Sb ⟨e.val,rfl,G _ q c _ u x⟩))
end
theorem KT.drop{H:Hp}{c:List (List Zl×V)}{xs:List (List Zl×Addr×Value)}(r:KT H c xs)(k:List Zl):KT H (Vr c k) (JM xs k):=by
 unfold Vr JM
 induction r with
 |nil=>exact .nil
 |@cons p q i g h t f =>
  rw[List.filter_cons,List.filter_cons,<-h.1];by_cases e:p.1=k
  ·rw[SU (by simpa using e),SU (by simpa using e)];exact f
  ·rw[SV (by simpa using e),SV (by simpa using e)];exact .cons h f
theorem ZfM{X:Cx}{pins:Ou}{g:St}{H:Hp}{s:Shared}{a b:Addr}{f:List (List Zl×V)}{k:List Zl}{r:Value}{A:Around}{E:Ot}{Q:Ot}(M:A.units+1<cLine)(I:Zc X pins g H s)(e:H a=some (.dT f))(J:H b=some (.tup (k.map kV)))
  (h1:Zz f k=none->∀s',Zc X pins g H s'->Q r s') (P:∀v,Zz f k=some v->∀u s',Zc X pins g (Za H a (.dT (Vr f k))) s'->ZG v u->Q u s'):wpAny (model X.prog X.w) A (call (.builtin "dict.pop") [.ref a,.ref b,r]) Q E s:=by
 obtain⟨x,hd,B,rel,j⟩:=wT I.hok e;refine call_meetsIn PySem.F.slot_dict_pop j.typeIs PySem.F.entry_dict_pop (PySem.F.args_dict_pop_3 _ _ _) (ZfL (tupleKind (Xu X.prog X.w)) a b hd r) ⟨tupleKind_room_in1 M,k,B,Qx I.hok J,j,by rw[<-Paired.length rel];exact x,fun hn t=>?_,fun v G S t D L=>?_⟩
 ·have q:XS (Zz f k) none:=by rw[<-hn];exact rel.val k
  refine h1 ?_ _ (I.tok t);cases c:Zz f k with
  |none=>rfl
  |some v=>rw[c]at q;exact q.elim
 ·have q:XS (Zz f k) (some v):=by rw[<-G];exact rel.val k
  obtain⟨h,O,y,i,g2,g3,g4,_,g5⟩:=D;cases c:Zz f k with
  |none=>rw[c]at q;exact q.elim
  |some C =>
   rw[c]at q;refine P C c v _ (La I (by rw[e];exact True.intro) L ⟨h,i⟩ ⟨Sh (B4 f k) x,hd,_,(rel.drop k).keeps fun c T n=>?_,h,O,y,i,g2,g3,g4,g5⟩) q;rw[Zf (Z3 n e (fun z=>nomatch z))];exact n
inductive ZfN(ty tx:TE)(σ:St)(Q:VK)(x:V)(H1:Hp):Prop|mk a (_:x=.ref a) (_:MZ H1 a) (_:ty σ H1 fun y H2=>tx σ H2 fun z H3=>∃kvs k b,H3 a=some (.dT kvs)/\y=.ref b/\H3 b=some (.tup (k.map kV))/\(∀v,Zz kvs k=some v->Q v (Za H3 a (.dT (Vr kvs k))))/\(Zz kvs k=none->Q z H3))
def ZfO(e ty tx:TE):TE:=fun c H Q=>e c H fun x f=>ZfN ty tx c Q x f
theorem M8{X:Cx}{o e f:Expr}{apos i:Pos}{j ty tx:TE}(hu:X.A.units+1<cLine)(U:PE X o j)(he:PE X e ty)(Z:PE X f tx)(m:M2 X o "pop" apos e f i):PE X (.Call (.Attribute o "pop" apos) [e,f] [] i) (ZfO j ty tx):=by
 intro pins s g H e0 I a0;refine wpAny_Call_method m.base m.few m.line PySem.F.plainAttrs_dict PySem.F.slot_dict_pop PySem.F.type_dict_pop (Zv (U pins s g H _ I a0) fun u Y ⟨c0,Q,h,M,a,ex,d,C⟩=>?_);subst ex;obtain rfl:u=Value.ref a:=M;obtain⟨B,t2,_⟩:=wY h d;refine⟨B,t2,?_⟩;rw[m.trees];refine Calls.callWith_builtin R (Calls.evalArgs_plain (Calls.spliced_cons (Zv (he pins Y g Q _ h C) fun iv s2 ⟨d0,q,S,G,D⟩ =>
  Calls.spliced_cons (Zv (Z pins s2 g q _ S D) fun fv s3 ⟨z,x,J,L,b0,k,b,y,ey,O,E,n⟩=>Calls.spliced_nil ?_))))
 subst ey;cases (show iv=Value.ref b from G);exact ZfM hu J y O (fun l P c=>⟨z,x,c,L,n l⟩) fun v l w' P c T=>⟨v,_,c,T,E v l⟩
theorem ZfP{K:Ox}{a b:Addr}{xs ys:List V}{g:TG}{tt:TT}{G:TE}{J:St}{H:Hp}{Q:VK}(h:Nat->List V->St->Hp->Prop)(O:h 0 [] J H)(hz:xs.length<=sizeLine)(S:∀i c j H,i<=xs.length->i<=ys.length->h i c j H->Zg K H a xs/\Zg K H b ys)
  (Y:∀i x y p c j H,c.length<=i->xs[i]? = some x->ys[i]? = some y->H p=none->h i c j H->g (.ref p) j (Za H p (.tup [x,y])) fun f B=>tt f B fun b u=>if b=true then G f u fun z E=>(c++[z]).length<=i+1/\h (i+1) (c++[z]) f E else c.length<=i+1/\h (i+1) c f u)
  (hd:∀i c j H,i=min xs.length ys.length->c.length<=i->h i c j H->Qv Q c H) :
  ∃W:Nat->Nat->List V->St->Hp->Prop,(∃m,W 0 m [] J H)/\∀i m c n H,W i m c n H ->
   ((G2 K a b).stop i H/\Qv Q c H) \/
   ((G2 K a b).go i H/\c.length<sizeLine/\∃N:List V->St->Hp->Prop,(∀q v e,N q v e->∃I,I<m/\W (i+1) I q v e)/\∀x e,(G2 K a b).yld i H x e->g x n e fun f B=>tt f B fun b u=>if b=true then G f u fun y E=>N (c++[y]) f E else N c f u):=by
 refine⟨fun i m c j H=>m=xs.length - i/\(i<=xs.length/\i<=ys.length)/\c.length<=i/\h i c j H,⟨xs.length,by simp,⟨Sk _,Sk _⟩,Sk _,O⟩,?_⟩;rintro i m c n H ⟨rfl,⟨T,hj⟩,ha,p⟩;obtain⟨C,D⟩:=S i c n H T hj p;by_cases U:i<xs.length/\i<ys.length
 ·obtain⟨L,M⟩:=U
  refine .inr ⟨⟨xs,ys,xs[i],ys[i],C,D,by simp[L],by simp[M]⟩,by lia,fun q v e=>q.length<=i+1/\h (i+1) q v e,fun q v e z=>⟨xs.length - (i+1),by lia,R,⟨L,M⟩,z.1,z.2⟩,fun a0 e y=>?_⟩;obtain⟨r,x,y,Z,X,P,rfl,rfl⟩:=y;exact Y i x y r c n _ ha (X xs C) (P ys D) Z p
 ·exact .inl ⟨⟨xs,ys,C,D,by lia⟩,hd i c n H (by lia) ha p⟩
section
variable{X:Cx}{pins:Ou}{σ:St}{H:Hp}{s:Shared}
theorem Zc.refit{d:Addr}{v u:HO}(I:Zc X pins σ H s)(e:H d=some v)(nt:∀xs,v≠.tup xs)(j:∀f,v≠.tbl f)(no:∀x,v≠.own x)(nf:∀o u,X.H₀ d≠some (.frz o u))(ok:Yy X.prog X.w H s.heap d u):Zc X pins σ (Za H d u) s:=by
 have ne:∀b,H b=none->b≠d:=fun b n z=>by rw[z,e]at n;cases n
 have tup:∀b xs,H b=some (.tup xs)->Za H d u b=some (.tup xs):=fun b xs q=>by
  rw[Zf fun z=>by rw[z,e]at q;exact nt xs (So q)];exact q
 have own:∀b x,H b=some (.own x)->Za H d u b=some (.own x):=fun b x q=>by
  rw[Zf fun z=>by rw[z,e]at q;exact no x (So q)];exact q
 refine⟨I.ok,I.os,I.bare,⟨I.base.keep,I.base.slot,fun b o q n D=>?_,I.base.there,fun b xs q=>tup b xs (I.base.tups b xs q),fun b o w q=>?_,fun b f q=>?_⟩,I.loc,I.cell,?_,fun x c q=>?_,fun p C=>?_,fun b w q=>?_,I.len⟩
 ·have:=I.base.free b o q n D
  rw[Zf (ne b this)];exact this
 ·have z:b≠d:=fun z=>nf o w (by rw[<-z];exact q)
  rw[Zf z];exact I.base.frzs b o w q
 ·obtain⟨more,g⟩:=I.base.tbls b f q
  exact⟨more,by rw[Zf fun z=>by rw[z,e]at g;exact j _ (So g)];exact g⟩
 ·rw[Zf (ne _ I.free)];exact I.free
 ·rw[Zf (ne _ (I.freeC x c q))];exact I.freeC x c q
 ·obtain⟨y,h,B⟩:=I.pin p C
  exact⟨y,by rw[Zf (ne _ h)];exact h,B⟩
 ·by_cases i:b=d
  ·subst i
   rw[Zm]at q;obtain rfl:=So q;exact ok.stay (fun _ _ _ q=>q) (fun c q=>own c _ q) tup
  ·rw[Zf i]at q
   exact(I.hok b w q).stay (fun _ _ _ q=>q) (fun c q=>own c _ q) tup
def Le(u:HO):Prop:=(∃c,u=.dK c)\/∃c,u=.dT c
theorem Le.nt{u:HO}(h:Le u):(∀xs,u≠.tup xs)/\(∀c,u≠.tbl c)/\(∀x,u≠.own x)/\∀o v,u≠.frz o v:=by
 rcases h with⟨_,rfl⟩|⟨_,rfl⟩<;>exact⟨fun _ z=>(nomatch z),fun _ z=>(nomatch z),fun _ z=>(nomatch z),fun _ _ z=>(nomatch z)⟩
theorem Zc.freeze{d:Addr}{u:HO}(I:Zc X pins σ H s)(e:H d=some u)(c:Le u):∃o,Zc X pins σ (Za H d (.frz o u)) s/\∀o u,X.H₀ d≠some (.frz o u):=by
 obtain⟨i,f,h,g⟩:=c.nt;have nf:∀o u,X.H₀ d≠some (.frz o u):=fun o v q=>by
  have:=I.base.frzs d o v q;rw[e]at this;exact g _ _ (So this)
 have ok:=I.hok d u e;obtain⟨o,j⟩:∃o,s.heap.get? d=some o:=by
  rcases c with⟨_,rfl⟩|⟨_,rfl⟩
  ·obtain⟨_,_,_,_,o,_,_,q,_⟩:=ok;exact⟨o,q⟩
  ·obtain⟨_,_,_,_,o,_,_,q,_⟩:=ok;exact⟨o,q⟩
 exact⟨o,I.refit e i f h nf ⟨j,ok⟩,nf⟩
theorem Zc.thaw{d:Addr}{o:Obj}{u:HO}(I:Zc X pins σ H s)(e:H d=some (.frz o u))(nf:∀o u,X.H₀ d≠some (.frz o u)):Zc X pins σ (Za H d u) s :=
 I.refit e (fun _ z=>(nomatch z)) (fun _ z=>(nomatch z)) (fun _ z=>(nomatch z)) nf (I.hok d _ e).2
inductive ZfQ(t:TS)(D:Y6)(σ:St)(H:Hp):Prop|mk d u (_:H d=some u) (_:Le u) (_:∀o,t { nx:=fun σ' H'=>H' d=some (.frz o u)/\D.nx σ' (Za H' d u),rt:=fun v H'=>H' d=some (.frz o u)/\D.rt v (Za H' d u),bk:=fun σ' H'=>H' d=some (.frz o u)/\D.bk σ' (Za H' d u),ct:=fun σ' H'=>H' d=some (.frz o u)/\D.ct σ' (Za H' d u) } σ (Za H d (.frz o u)))
theorem B8{st:Stmt}{t:TS}(h:PS X st t):PS X st (ZfQ t):=by
 intro pins s σ H D I q;obtain⟨d,u,e,y,q⟩:=q;obtain⟨o,B,nf⟩:=I.freeze e y;refine Zv (h pins s σ _ _ B (q o)) fun f C r=>?_;cases f with
 |next=>obtain⟨c,n,i,j,g⟩:=r;exact⟨c,_,i.thaw j nf,g⟩
 |cont=>obtain⟨c,n,i,j,g⟩:=r;exact⟨c,_,i.thaw j nf,g⟩
 |brk=>obtain⟨c,n,i,j,g⟩:=r;exact⟨c,_,i.thaw j nf,g⟩
 |ret v=>obtain⟨x,c,n,i,r1,j,g⟩:=r;exact⟨x,c,_,i.thaw j nf,r1,g⟩
end
theorem vO{P:Program}{w:World}{k:Zl}{u:Value}(h:(Xu P w).is k u=true):ZG (kV k) u:=by
 cases k with
 |inl i=>exact Value.isInt_shape h
 |inr z=>exact Value.isStrOf_shape h
theorem KV.at{f:List (Zl×V)}{vs:List (Zl×Value)}(r:KV f vs):∀{i:Nat} {c:Zl×V},f[i]? = some c->∃u,vs[i]? = some (c.1,u)/\ZG c.2 u:=by
 induction r with
 |nil=>intro i c e;cases e
 |@cons a b n j h _ g =>
  intro i c e;cases i with
  |zero =>
   obtain rfl:=So e;exact⟨b.2,by rw[List.getElem?_cons_zero,h.1],h.2⟩
  |succ i =>
   rw[List.getElem?_cons_succ]at e;obtain⟨u,x,y⟩:=g e;exact⟨u,by rw[List.getElem?_cons_succ];exact x,y⟩
def JN(d:Addr)(ob:Obj)(c:List (Zl×V)):It :=
 ⟨fun i H=>H d=some (.frz ob (.dK c))/\i<c.length,fun i H v f=>∃p e,H p=none/\c[i]? = some e/\v=.ref p/\f=Za H p (.tup [kV e.1,e.2]),fun i H=>H d=some (.frz ob (.dK c))/\c.length<=i⟩
theorem B9{X:Cx}{pins:Ou}{n:St}{H:Hp}{s:Shared}{d:Addr}{ob:Obj}{g:List (Zl×V)}(I:Zc X pins n H s)(e:H d=some (.frz ob (.dK g))) :
  (d == sysModules)=false/\∃vs c f,KV g vs/\s.heap.DictAt (Xu X.prog X.w) d vs c/\ob.data=.dict f c:=by
 obtain⟨i,v,q,vs,u,o,f,c,h,r1,j,r3⟩:=I.hok d _ e;rw[i]at h;obtain rfl:=So h;exact⟨q,vs,c,f,u,⟨_,f,i,r1,j,r3⟩,j⟩
theorem ZfR{P:Program}{w:World}{K:Ow}{e:OD}{k:Nat}{g0:Pos}(d g:Addr)(ob:Obj)(u:List (Zl×V))(j0:d≠g) :
  Ql P w K (.Tuple e k g0) (JN d ob u) [g] g (fun i h=>∃f e ok j,IsItemIter h g d i u.length f ok j/\ob.data=.dict e f) where
 mem:=by simp
 obj:=fun i h st b n=>by
  obtain⟨f,e,ok,j,c,_⟩:=st;rw[SD.mp n];exact⟨_,c,fun m0 z=>by cases z⟩
 keep:=fun i h h' st kk=>by
  obtain⟨f,e,ok,j,c,hd⟩:=st;exact⟨f,e,ok,j,kk g (by simp) _ c,hd⟩
 item:=by
  intro b0 Q O H X i pins s σ d0 E I L st M;subst Q O H;obtain⟨f,e,ok,j,c,hd⟩:=st;obtain⟨J,U⟩:=M;obtain⟨hs,C,D,G,B,hm,v⟩:=B9 I J;rw[hd]at v;obtain⟨rfl,rfl⟩:e=G/\f=D:=by injection v with a b;exact⟨a,b⟩
  have hlen:C.length=u.length:=(Paired.length B).symm;obtain⟨x,T⟩:∃x,u[i]? = some x:=⟨_,Ss U⟩;obtain⟨f0,hu,ru⟩:=KV.at B T;rw[<-hlen]at c;refine wpAny_pyNext_items_item c hm hu fun h0 h1 a0 ho hT k0 hk=>⟨_,R,?_⟩;refine wpAny_letOwnedTupleGo_items (s:={ s with heap:=h1 }) ho fun Z c0 Y=>?_;have i0:g<s.heap.objs.size:=Se c;have e0:Z.get? s.heap.objs.size=some { cls:=.type "tuple",data:=.seq #[h0,f0] }:=(Y.2 _ (Nat.ne_of_gt i0)).trans hT;obtain⟨I2,n2⟩:=I.paired (t':=s.toks) (fp:=[g]) (x:=kV x.1) (y:=x.2) (h':=Z) L (fun b n=>by
   rw[SD.mp n];exact⟨_,c⟩) (fun b o n q=>by
   have S:b≠g:=fun z=>n (by simp[z]);exact(Y.2 b S).trans (hk b o S q)) e0 (vO a0) ru
  refine⟨.ref s.heap.objs.size,_,I2,R,⟨_,x,I.hok.fresh (Sg _),T,R,R⟩,⟨f,e,_,_,by rw[<-hlen];exact c0,hd⟩,n2⟩
 done:=by
  intro b0 Q O H X i pins s σ d0 E I L st M;subst Q O H;obtain⟨f,e,ok,j,c,hd⟩:=st;obtain⟨J,U⟩:=M;obtain⟨hs,C,D,G,B,hm,v⟩:=B9 I J;rw[hd]at v;obtain⟨rfl,rfl⟩:e=G/\f=D:=by injection v with a b;exact⟨a,b⟩
  have hlen:C.length=u.length:=(Paired.length B).symm;rw[<-hlen]at c;exact wpAny_pyNext_items_end (I.ok.hd X) c hm (List.getElem?_eq_none (by lia)) fun h' eb=>⟨R,I.turnedL (t':=s.toks) (fp:=[g]) (fun b o n q=>eb b o (fun z=>n (by simp[z])) q) L⟩
 self:=fun A i s l0 E st h=>by
  obtain⟨f,e,ok,j,c,_⟩:=st;exact W.kcp_self c h
section
variable{X:Cx}
inductive ZfS(R:It->Hp->Prop)(x:V)(H1:Hp):Prop|mk d ob kvs (_:x=.ref d) (_:H1 d=some (.frz ob (.dK kvs))) (_:R (JN d ob kvs) H1)
def ZfT(e:TE):TI:=fun c H g=>e c H fun x f=>ZfS g x f
theorem JO{Y:OD}{k:Nat}{tp:Pos}{o:Expr}{v:TE}{apos i:Pos}(O:PE X o v)(T:attributeBase o "items" X.env (eval o X.env)=eval o X.env:=by rfl) (B:(apos.endLine == i.line)=true:=by rfl) :
  PI X (.Tuple Y k tp) (.Call (.Attribute o "items" apos) [] [] i) (ZfT v):=by
 intro pins s Q H R I h;refine wpAny_Call_method0_late T B (Zv (O pins s Q H _ I h) fun d0 c ⟨c0,J,f,r1,x⟩=>?_);obtain⟨d,ob,n,rfl,hd,q⟩:=x;cases r1;obtain⟨G,g,y,D,M,hm,S⟩:=B9 f hd;obtain⟨C,a0,P,L,b0,_⟩:=id hm;refine⟨"dict","dict.items",PySem.F.plainAttrs_dict,PySem.F.slot_dict_items,PySem.F.type_dict_items,hm.dictOf.typeIs,fun a e=>by cases e;exact⟨C,P,L.2.1⟩,Calls.callWith_builtin rfl (PySem.evalArgs_none ?_)⟩;refine call_meetsIn PySem.F.slot_dict_items hm.dictOf.typeIs PySem.F.entry_dict_items (PySem.F.args_dict_items_1 _) (meets_dict_items (Xu X.prog X.w) d G) ⟨⟨g,hm.dictOf⟩,?_⟩;have U:=hm.push { cls:=.type "dict_items",data:=.fields #[.ref d] };refine wpAny_pyIter_items (s:={ c with heap:=c.heap.push { cls:=.type "dict_items",data:=.fields #[.ref d] } }) ⟨_,Sd _ rfl,rfl,rfl⟩ U ?_;have hlen:g.length=n.length:=(Paired.length M).symm;have E:d<c.heap.objs.size:=hm.lt_size;have j:(c.heap.push { cls:=.type "dict_items",data:=.fields #[.ref d] }).objs.size=c.heap.objs.size+1:=by simp[Heap.push]
 refine⟨(c.heap.push { cls:=.type "dict_items",data:=.fields #[.ref d] }).objs.size,[(c.heap.push { cls:=.type "dict_items",data:=.fields #[.ref d] }).objs.size],_,_,J,rfl,f.kept (t':=c.toks) (fun b o e=>Sc _ (Sc _ e)),ZfR d _ ob n (by rw[j];exact Sf (Sn E)),⟨y,D,_,_,by rw[<-hlen];exact Sd _ rfl,S⟩,fun b Z=>?_,q⟩;have u:c.heap.objs.size<=b:=by rw[SD.mp Z,j];exact Nat.le_succ _
 exact f.fpOk u (f.hok.fresh u)
theorem JP{d:Addr}{ob:Obj}{f:List (Zl×V)}{g:TG}{tb:TS}{D:Y6}{c:St}{H:Hp}(h:Nat->St->Hp->Prop)(I:h 0 c H)(J:∀i c H,i<=f.length->h i c H->H d=some (.frz ob (.dK f)))
  (M:∀i u p c H,f[i]? = some u->H p=none->h i c H->g (.ref p) c (Za H p (.tup [kV u.1,u.2])) fun C v=>tb { D with nx:=h (i+1),ct:=h (i+1),bk:=D.nx } C v) (hd:∀c H,h f.length c H->D.nx c H) :
  ∃W:Nat->Nat->St->Hp->Prop,(∃m,W 0 m c H)/\∀i m c H,W i m c H ->
   ((JN d ob f).stop i H/\D.nx c H)\/((JN d ob f).go i H/\∃N:St->Hp->Prop,(∀B j,N B j->∃E,E<m/\W (i+1) E B j)/\∀x j,(JN d ob f).yld i H x j->g x c j fun C v=>tb { D with nx:=N,ct:=N,bk:=D.nx } C v):=by
 refine⟨fun i m c H=>m=f.length - i/\i<=f.length/\h i c H,⟨f.length,by simp,Sk _,I⟩,?_⟩;rintro i m c H ⟨rfl,L,p⟩;have q:=J i c H L p;by_cases G:i<f.length
 ·refine .inr ⟨⟨q,G⟩,h (i+1),fun B j n=>⟨f.length - (i+1),by lia,R,G,n⟩,fun x j y=>?_⟩
  obtain⟨a,u,ha,O,rfl,rfl⟩:=y;exact M i u a c H O ha p
 ·have e:i=f.length:=by lia
  subst e;exact .inl ⟨⟨q,Sg _⟩,hd c H p⟩
end
def JQ(d:Addr)(ob:Obj)(c:List (Zl×V)):It :=
 ⟨fun i H=>H d=some (.frz ob (.dK c))/\i<c.length,fun i H v f=>f=H/\∃e,c[i]? = some e/\v=kV e.1,fun i H=>H d=some (.frz ob (.dK c))/\c.length<=i⟩
theorem ZfU{P:Program}{w:World}{K:Ow}{tg:Expr}(d j:Addr)(ob:Obj)(q:List (Zl×V))(g0:d≠j) :
  Ql P w K tg (JQ d ob q) [j] j (fun i h=>∃c g,h.IsKeyIter j d i q.length c/\ob.data=.dict g c) where
 mem:=by simp
 obj:=fun i h st b n=>by
  obtain⟨c,g,⟨o,f,u,hd⟩,_⟩:=st;rw[SD.mp n];exact⟨o,f,fun j0 z=>by rw[hd]at z;cases z⟩
 keep:=fun i h h' st kk=>by
  obtain⟨c,g,⟨o,f,u⟩,hd⟩:=st;exact⟨c,g,⟨o,kk j (by simp) _ f,u⟩,hd⟩
 item:=by
  intro X Z U M u i pins s σ H a0 I B st T;subst Z U M;obtain⟨c,g,f,hd⟩:=st;obtain⟨O,hi⟩:=T;obtain⟨hs,C,E,L,y,hm,v⟩:=B9 I O;rw[hd]at v;obtain⟨rfl,rfl⟩:g=L/\c=E:=by injection v with a b;exact⟨a,b⟩
  have hlen:C.length=q.length:=(Paired.length y).symm;obtain⟨x,hx⟩:∃x,q[i]? = some x:=⟨_,Ss hi⟩;obtain⟨h0,hu,ru⟩:=KV.at y hx;rw[<-hlen]at f;obtain⟨S,Y,f2,Q,D,G⟩:=B j (by simp);refine wpAny_pyNext_dict_item f hm hu fun d0 h1 c0 b0 sb=>?_;have I1:Zc X pins σ H { s with heap:=h1 }:=I.turned (t':=s.toks) (fun b o n e=>(sb.2 b n).trans e) S Y Q D G;obtain⟨o,e,e0,d'⟩:=id b0;exact⟨d0,R,Ml (s:={ s with heap:=h1 }) e e0 d' (by lia) ⟨kV x.1,H,I1,vO c0,⟨R,x,hx,R⟩,⟨c,g,by rw[<-hlen];exact b0,hd⟩,fun b n=>(B b n).1⟩⟩
 done:=by
  intro X Z U M u i pins s σ H a0 I B st T;subst Z U M;obtain⟨c,g,f,hd⟩:=st;obtain⟨O,hi⟩:=T;obtain⟨hs,C,E,L,y,hm,v⟩:=B9 I O;rw[hd]at v;obtain⟨rfl,rfl⟩:g=L/\c=E:=by injection v with a b;exact⟨a,b⟩
  have hlen:C.length=q.length:=(Paired.length y).symm;rw[<-hlen]at f;obtain⟨S,Y,f2,Q,D,G⟩:=B j (by simp);exact wpAny_pyNext_dict_end (I.ok.hd u) f hm (List.getElem?_eq_none (by lia)) fun h' eb=>⟨R,I.turned (t':=s.toks) (fun b o n e=>eb b o n e) S Y Q D G⟩
 self:=fun A i s i0 a0 st h=>by
  obtain⟨c,g,f,_⟩:=st;have J:=f.typeIs;refine wpAny_pyIter_slot J PySem.F.slot_dict_keyiterator_iter (wpAny_call_entry PySem.F.slot_dict_keyiterator_iter J PySem.F.entry_dict_keyiterator_iter ?_ (PySem.F.args_dict_keyiterator_iter_1 _));show wpAny _ _ (ret (.ref j)) _ _ s;exact Sb ⟨_,R,"dict_keyiterator",_,J,PySem.F.slot_dict_keyiterator_next.lookup,h⟩
section
variable{X:Cx}
inductive ZfV(R:It->Hp->Prop)(x:V)(H1:Hp):Prop|mk d ob kvs (_:x=.ref d) (_:H1 d=some (.frz ob (.dK kvs))) (_:R (JQ d ob kvs) H1)
def ZfW(e:TE):TI:=fun c H g=>e c H fun x f=>ZfV g x f
theorem ZfX{B o:Expr}{j:TE}(L:PE X o j):PI X B o (ZfW j):=by
 intro pins s M H Q I h;refine Zv (L pins s M H _ I h) fun v c ⟨x,G,f,r1,u⟩=>?_;obtain⟨d,ob,g,rfl,hd,q⟩:=u;cases r1;obtain⟨E,n,y,C,J,hm,O⟩:=B9 f hd;have hlen:n.length=g.length:=(Paired.length J).symm;have D:d<c.heap.objs.size:=hm.lt_size;refine wpAny_pyIter_dict E hm ?_;refine⟨c.heap.objs.size,[c.heap.objs.size],_,_,G,R,f.kept (t':=c.toks) (fun b o e=>Sc _ e),ZfU d _ ob g (Sf D),⟨y,C,⟨_,Sd _ R,R,by rw[hlen];rfl⟩,O⟩,fun b P=>?_,q⟩;have i:c.heap.objs.size<=b:=by rw[SD.mp P];exact Sg _
 exact f.fpOk i (f.hok.fresh i)
theorem ZfY{d:Addr}{ob:Obj}{f:List (Zl×V)}{g:TG}{tb:TS}{D:Y6}{c:St}{H:Hp}(h:Nat->St->Hp->Prop)(I:h 0 c H)(J:∀i c H,i<=f.length->h i c H->H d=some (.frz ob (.dK f)))
  (M:∀i u c H,f[i]? = some u->h i c H->g (kV u.1) c H fun C v=>tb { D with nx:=h (i+1),ct:=h (i+1),bk:=D.nx } C v) (hd:∀c H,h f.length c H->D.nx c H) :
  ∃W:Nat->Nat->St->Hp->Prop,(∃m,W 0 m c H)/\∀i m c H,W i m c H ->
   ((JQ d ob f).stop i H/\D.nx c H)\/((JQ d ob f).go i H/\∃N:St->Hp->Prop,(∀B j,N B j->∃E,E<m/\W (i+1) E B j)/\∀x j,(JQ d ob f).yld i H x j->g x c j fun C v=>tb { D with nx:=N,ct:=N,bk:=D.nx } C v):=by
 refine⟨fun i m c H=>m=f.length - i/\i<=f.length/\h i c H,⟨f.length,by simp,Sk _,I⟩,?_⟩;rintro i m c H ⟨rfl,L,p⟩;have q:=J i c H L p;by_cases G:i<f.length
 ·refine .inr ⟨⟨q,G⟩,h (i+1),fun B j n=>⟨f.length - (i+1),by lia,R,G,n⟩,fun x j y=>?_⟩
  obtain⟨rfl,u,O,rfl⟩:=y;exact M i u c j O p
 ·have e:i=f.length:=by lia
  subst e;exact .inl ⟨⟨q,Sg _⟩,hd c H p⟩
end
variable{X:Cx}
inductive ZfZ(K:Ow)(Q:VK)(x:V)(st:Option Int)(H2:Hp):Prop|mk a xs ys (_:(st=some 1/\ys=xs\/st=some (-1)/\ys=xs.reverse)) (_:x=.ref a) (_:Zg K H2 a xs) (_:∀p,H2 p=none->Q (.ref p) (Za H2 p (.lst ys)))
def Zf0(K:Ow)(g:TE)(f:TO):TE:=fun c H Q=>g c H fun x h=>f c h fun st e=>ZfZ K Q x st e
theorem Zf1{e st:Expr}{n:TE}{u:TO}{C L:Pos}(Y:PE X e n)(P:PO X (some st) u):PE X (.Subscript e (.Slice none none (some st) C) L) (Zf0 X.K n u):=by
 intro pins s i H a0 I h;refine Subscript_ (Zv (Y pins s i H _ I h) fun b0 U ⟨x,Q,y,r1,B⟩=>?_);refine wpAny_Slice ?_;rw[evalPart_none];refine Sb (Sb ?_);refine Zv (P pins U i Q _ y B) fun M s2 ⟨Z,v,S,ZR,E⟩=>?_;obtain⟨a,J,O,D,rfl,G,q⟩:=E;cases r1;have c:Zc X pins i v { s2 with heap:=s2.heap.push { cls:=.type "slice",data:=.fields #[.none,.none,M] } }:=S.kept (t':=s2.toks) fun b ob q=>Sc _ q;obtain⟨f,r,g,j⟩:=c.list G;have hlen:=r.length;refine tail_any (ops:=[.ref a,.ref s2.heap.objs.size]) (T := "list") g.isList.typeIs slot_list_getitem.lookup ?_ (by with_unfolding_all rfl);rcases D with⟨rfl,rfl⟩|⟨rfl,rfl⟩
 ·refine wpAny_getItem_list_slice g.isList (Heap.IsSliceOf.new ..) .none .none ZR (by simp) ?_ (by rw[SM]<;>omega)
  rw[show slicePick f.toArray none none (some 1)=slicePick f.toArray none none none from R,slicePick_all];refine⟨.ref _,_,c.laid (t':=s2.toks) (o:=.lst O) (fun b ob q=>Sc _ q) (Sg _) ?_,R,q _ (c.hok.fresh (Sg _))⟩;exact⟨j,f,0,r,Sd _ R⟩
 refine wpAny_getItem_list_slice g.isList (Heap.IsSliceOf.new ..) .none .none ZR (by simp) ?_ (by rw[SM]<;>omega);rw[W.krv_pick];refine⟨.ref _,_,c.laid (t':=s2.toks) (o:=.lst J.reverse) (fun b ob q=>Sc _ q) (Sg _) ?_,R,q _ (c.hok.fresh (Sg _))⟩;exact⟨by rw[List.length_reverse];exact j,f.reverse,0,vB r,Sd _ R⟩
end L2
namespace K1
open PySem L2
structure Y5(lt:Addr)(q:Str)(H:Hp):Prop where
 ex:∃ps,H lt=some (.tbl ps)/\TriplesOk ps.toList/\∀pos v,codeAmong pos ps.toList=some v->∃a,v=.ref a/\H a=some (Vd a q)
theorem Y5.at{lt:Addr}{q:Str}{H:Hp}(h:Y5 lt q H):∃c,H lt=some (.tbl c):=let ⟨c,e,_⟩:=h.ex;⟨c,e⟩
theorem Y5.keep{lt:Addr}{q:Str}{H g:Hp}(k1:∀f,H lt=some (.tbl f)->g lt=some (.tbl f))(k2:∀a,H a=some (Vd a q)->g a=some (Vd a q))(h:Y5 lt q H):Y5 lt q g:=let ⟨f,e,t,c⟩:=h.ex;⟨f,k1 _ e,t,fun i v e=>let ⟨a,ea,ha⟩:=c i v e;⟨a,ea,k2 _ ha⟩⟩
theorem Y5.same{lt:Addr}{q:Str}{H c:Hp}(s:Ze H c)(h:Y5 lt q H):Y5 lt q c:=h.keep (fun _=>s _ _) fun _=>s _ _
theorem Y5.nil{lt:Addr}{q:Str}{H:Hp}(h:H lt=some (.tbl #[])):Y5 lt q H:=⟨#[],h,trivial,fun _ _ e=>by cases e⟩
theorem Zf2{a b:Int}{c:Value}:∀{l:OB},TriplesOk l->TriplesOk (l++[rawInt a,rawInt b,c]):=by
 intro l
 induction l using TriplesOk.induct with
 |case1=>exact fun _=>trivial
 |case2 i tok f e hd rest g =>
  intro h;rw[TriplesOk.eq_2]at h;show TriplesOk (Value.int i tok::Value.int f e::hd::(rest++_));rw[TriplesOk.eq_2];exact g h
 |case3 t n j =>
  intro h;rw[TriplesOk.eq_3 t n j]at h;exact h.elim
theorem Zf3{a b:Int}{c:Value}{g:Pos}:∀{l:OB},TriplesOk l->∀v,codeAmong g (l++[rawInt a,rawInt b,c])=some v->codeAmong g l=some v\/v=c:=by
 intro l
 induction l using TriplesOk.induct with
 |case1 =>
  intro _ v e;rw[show[]++[rawInt a,rawInt b,c]=[Value.int a 0,Value.int b 0,c] from R,codeAmong.eq_1]at e
  split at e
  ·exact .inr (So e).symm
  ·cases e
 |case2 i tok j f hd rest n =>
  intro h v e;rw[TriplesOk.eq_2]at h;rw[show(Value.int i tok::Value.int j f::hd::rest)++[rawInt a,rawInt b,c]=Value.int i tok::Value.int j f::hd::(rest++[rawInt a,rawInt b,c])from R,codeAmong.eq_1]at e;rw[codeAmong.eq_1]
  split at e
  ·next hc=>rw[SV hc];exact .inl e
  ·next hc=>rw[SU hc];exact n h v e
 |case3 t u q =>
  intro h;rw[TriplesOk.eq_3 t u q]at h;exact h.elim
theorem JR{lt:Addr}{mg:Ov}{q:Str}{params:Arguments}{body:Expr}{scope:Scope}{cl:Oy}{i:Pos}{E:St}{H:Hp}{Q:VK}(h:Y5 lt q H)
  (k:∀(f c:Addr) (g:Value) (H':Hp),Ze (wo H lt) H'->Y5 lt q H'->H' f=some (Uq f q params body scope cl ((mg "__name__").getD .none) c g)->H' c=some (Vd c q)->Q (.ref f) H'):vL lt mg q params body scope cl i E H Q:=by
 obtain⟨j,u,y,B⟩:=h.ex;refine⟨j,u,y,?_⟩;cases I:codeAmong i j.toList with
 |none =>
  refine .inl ⟨R,fun f c g x C ne=>?_⟩;have nf:lt≠f:=ZT u x;have J:lt≠c:=ZT u C;have D:(Za (Za (Za H lt (.tbl (j ++ #[rawInt i.line,rawInt i.col,.ref c]))) c (Vd c q)) f (Uq f q params body scope cl ((mg "__name__").getD .none) c g)) c=some (Vd c q):=by
   rw[Zf (Ne.symm ne),Zm]
  have S:Ze (wo H lt) (Za (Za (Za H lt (.tbl (j ++ #[rawInt i.line,rawInt i.col,.ref c]))) c (Vd c q)) f (Uq f q params body scope cl ((mg "__name__").getD .none) c g)):=fun a o e=>by
   obtain⟨n,e⟩:=YR e;rw[Zf (ZT e x),Zf (ZT e C),Zf n];exact e
  refine k f c g _ S ⟨_,by rw[Zf nf,Zf J,Zm],?_,fun pos' v e=>?_⟩ Zm D
  ·rw[Array.toList_append];exact Zf2 y
  ·rw[Array.toList_append]at e
   rcases Zf3 y v e with e|rfl
   ·obtain⟨a,rfl,ha⟩:=B pos' v e
    exact⟨a,R,S _ _ (ZX ha fun z=>by rw[z,u]at ha;cases ha)⟩
   ·exact⟨c,R,D⟩
 |some v =>
  obtain⟨c,rfl,G⟩:=B i v I;refine .inr ⟨c,R,fun f g x=>?_⟩;have s:=Zy x (Uq f q params body scope cl ((mg "__name__").getD .none) c g);exact k f c g _ (B6.trans s) (h.same s) Zm (s _ _ G)
theorem JS{cs:Addr->Option Obj}{H:Hp}(h:∀b o,cs b=some o->H b=none):unl cs (lent cs H)=H:=by
 funext b
 cases q:cs b with
 |some o=>rw[QA q,h b o q]
 |none=>rw[Wo q,Y4 q]
theorem Us{cs:Addr->Option Obj}{H c:Hp}(h:∀b o,cs b=some o->H b=none)(s:Ze (lent cs H) c):Ze H (unl cs c):=fun a o e=>by
 cases q:cs a with
 |some ob=>rw[h a ob q]at e;cases e
 |none=>rw[Wo q];exact s _ _ (by rw[Y4 q];exact e)
theorem vP:∀{cl:Oy} {x y:Str} {c:Addr},(cl.map (·.2)).Nodup->cl.lookup x=some c->cl.lookup y=some c->x=y
 |[],_,_,_,_,h,_=>by cases h
 |(z,d)::r,x,y,c,nd,h1,f=>by
  rw[SL,Ol]at nd;rw[List.lookup_cons]at h1 f;have mem:∀{w:Str},r.lookup w=some c->c∈r.map (·.2):=fun{w} e=>SI.mpr ⟨(w,c),PySem.mem_of_lookup e,R⟩;cases i:x == z with
  |true =>
   rw[i]at h1;have n:d=c:=So h1;cases g:y == z with
   |true=>rw[eq_of_beq i,eq_of_beq g]
   |false=>rw[g]at f;exact Oq (mem f) (by rw[<-n];exact nd.1)
  |false =>
   rw[i]at h1;cases g:y == z with
   |true =>
    rw[g]at f;have j:d=c:=So f;exact Oq (mem h1) (by rw[<-j];exact nd.1)
   |false=>rw[g]at f;exact vP nd.2 h1 f
end K1
namespace L2
open PySem PySem.Spec PyProof.Rows
structure YD(K:Ow)(mg:Ov)(x:Str)(st:Stmt)(ps:OC)(f:Addr)(d:OJ):Prop where
 F:Vp K x x st f d
 m:mg x=some (.ref f)
 b:X8 K d ps []
structure DM(K:Ow)(x:Str)(st:Stmt)(f:Addr)(d:OJ):Prop where
 a:W.nsIn K mainGlobals x=some (some (.ref f))
 F:Vp K x x st f d
theorem YK{K:Ow}{h:Heap}{mg:Ov}{x:Str}{st:Stmt}{i:OC}{f:Addr}{d:OJ}(X:K.In h)(G:h.Ns mainGlobals mg)(p:DM K x st f d)
  (n:∀(us:OB),us.length=i.length->∀(kV j q:Value) (an:OF) (cdv ct:Value),bindArgs (W.fnOf x x (Qt st) (Uo st) (Zw st) .none kV j q an cdv ct) ⟨us,[]⟩=pure (i.zip us)):YD K mg x st i f d :=
 ⟨p.F,W.mg_of X G p.a,p.F.binds fun a b c d e g us l=>n us l a b c d e g⟩
structure Yc(K:Ow)(C:Addr)(x q:Str)(st:Stmt)(ps:OC)(f:Addr)(d:OJ):Prop where
 F:Vp K x q st f d
 me:Yz K C x f
 b:X8 K d ps []
structure MM(K:Ow)(C:Addr)(x q:Str)(st:Stmt)(f:Addr)(d:OJ):Prop where
 me:Yz K C x f
 F:Vp K x q st f d
theorem Ye{K:Ow}{C:Addr}{x q:Str}{st:Stmt}{h:OC}{f:Addr}{d:OJ}(p:MM K C x q st f d)
  (j:∀(us:OB),us.length=h.length->∀(kV i n:Value) (an:OF) (cdv ct:Value),bindArgs (W.fnOf x q (Qt st) (Uo st) (Zw st) .none kV i n an cdv ct) ⟨us,[]⟩=pure (h.zip us)):Yc K C x q st h f d :=
 ⟨p.F,p.me,p.F.binds fun a b c d e g us l=>j us l a b c d e g⟩
theorem JT{K:Ow}{C:Addr}{cd:ClassData}(c:W.clsIn K C=some cd)(g1:W.findIn K (.ref C) "__getattribute__" = some (some (.builtin "BaseException.__getattribute__"))) (g2:W.findIn K (.ref C) "__getattr__" = some none) (g3:W.findIn K (.ref C) "__class__" = some (some (.builtin "object.__class__"))) (g4:W.mroIn K C (.type "object")=some true) (g5:W.mroIn K C (.type "BaseException")=some true) (g6:W.specialIn K (.builtin "object.__class__") "__get__" = some (some (.builtin "getset_descriptor.__get__"))) (g7:W.takesIn K (.builtin "object.__class__")=some true):Xy K C:=⟨by rw[c];rfl,g1,g2,g3,g4,g5,g6,g7⟩
def KX(K:Ow)(C:Addr):List (Addr×Bool)->Prop
 |[]=>True
 |p::L=>W.kitOne K (.ref C) (.ref p.1)=some p.2/\KX K C L
theorem JU{K:Ow}{C:Addr}:KX K C []:=trivial
theorem ZF{K:Ow}{C D:Addr}{b:Bool}{L:List (Addr×Bool)}(h:W.kitOne K (.ref C) (.ref D)=some b)(r:KX K C L):KX K C ((D,b)::L):=⟨h,r⟩
theorem ZE{N P:OC}{i:Scope}(h:(decide (i.kind=.function) && !i.isCoroutine && !i.isGenerator && decide N.Nodup && decide (N.take P.length=P) && P.all (fun x=>decide (i.names.lookup x=some .local\/i.names.lookup x=some .cell)) && i.names.all (fun y=>decide (y.2≠.free)))=true):ZB N P i:=by
 simp only[Bool.and_eq_true,decide_eq_true_eq,Bool.not_eq_true',List.all_eq_true]at h;obtain⟨⟨⟨⟨⟨⟨a,b⟩,c⟩,d⟩,e⟩,f⟩,g⟩:=h;exact⟨a,b,c,d,e,f,g⟩
section
variable{X:Cx}{CX:X7}{k j:Nat}{f C:Addr}{fd:OJ}{ps:OC}{sp:Sp}{E:XK}{x m q:Str}{st:Stmt}{e o:Expr}{es:OD}{t:TA}{ta:TE}{p pos apos:Pos}
theorem ZC(D:YD X.K X.mg x st ps f fd)(F:Zq X.prog X.w X.K X.mg X.base CX k f fd ps sp)(n:YA j X.A)(u:WL CX X E)(ha:PA X (e::es) t)(c:k<=j:=by lia)(v:Gl X x:=by rfl)(g:(x == ("__debug__" : Str))=false:=by lia) (h:starEach (e::es) X.env=(false,eval e X.env)::starEach es X.env:=by rfl) (i:(backTo pos (starEach es X.env)).any (·.1)=false:=by rfl) :
  PE X (.Call (.Name x p) (e::es) [] pos) (Mw sp [] E t):=Vn F (n.mono c) v D.m D.F.kp D.b .nil u ha g h i
end
inductive vQ(K:Ow)(xs:List V)(H:Hp)(Q:VK):Prop|mk (a C D:Addr) (b:Bool) (_:xs=[.ref a,.ref D]) (_:H a=some (XJ a (.ref C))) (_:Xy K C) (_:W.kitOne K (.ref C) (.ref D)=some b) (_:Q (.bl b) H)
theorem Wx{X:Cx}{K:Ow}(h:X.K=K:=by rfl):Xb X (.builtin "isinstance") (vQ K):=by
 subst h;intro pins s c H i e Q I r ⟨a,C,D,b,j,f,n,g,q⟩;exact Zd3 pins s c H i e Q I r ⟨a,C,D,b,j,f,n,g,q⟩
inductive vR(K:Ow)(xs:List V)(H:Hp)(Q:VK):Prop|mk (a C:Addr) (T:String) (b:Bool) (_:xs=[.ref a,.ty T]) (_:H a=some (XJ a (.ref C))) (_:Xy K C) (_:W.kitOne K (.ref C) (.type T)=some b) (_:Q (.bl b) H)
theorem Zf4{X:Cx}{K:Ow}(h:X.K=K:=by rfl):Xb X (.builtin "isinstance") (vR K):=by
 subst h;intro pins s c H i e Q I r ⟨a,C,T,b,j,f,n,g,q⟩;exact Zd4 pins s c H i e Q I r ⟨a,C,T,b,j,f,n,g,q⟩
theorem kx{X:Cx}:X.nox.K=X.K:=rfl
theorem ky{CX:X7}{P:Program}{w:World}{K:Ow}{mg:Ov}{base:Heap}{N:OC}{q:Str}{c:Scope}{f:Addr}{cd:Value}{A:Around}{o:List Env}{s:Shared}{H:Hp}{E:XK}:(VH CX P w K mg base N q c f cd A o s H E).K=K:=rfl
theorem Sq1{c:TS}{D:Y6}{e:St}{H:Hp}(h:let d:=D;let f:=c d;let s:=e;f s H):(c) D e H:=h
theorem Gq1{e:TS}{D:Y6}{c:St}{H:Hp}{i:Nat}{x:V}(h:let d:=D;let f:=e d;let s:=c.set i (some x);f s H):Wg i x c H (fun c H=>(e) D c H):=h
theorem Sq2{e t2:TS}{D:Y6}{c:St}{H:Hp}(h:let d:=D;let f:=t2 d;let g:=e { d with nx:=f };let s:=c;g s H):(Yg e t2) D c H:=h
theorem Gq2{e t2:TS}{D:Y6}{c:St}{H:Hp}{i:Nat}{x:V}(h:let d:=D;let f:=t2 d;let g:=e { d with nx:=f };let s:=c.set i (some x);g s H):Wg i x c H (fun c H=>(Yg e t2) D c H):=h
theorem Sq3{f t2 e:TS}{D:Y6}{c:St}{H:Hp}(h:let d:=D;let g:=e d;let i:=t2 { d with nx:=g };let j:=f { d with nx:=i };let s:=c;j s H):(Yg f (Yg t2 e)) D c H:=h
theorem Sq4{f t2 e g:TS}{D:Y6}{c:St}{H:Hp}(h:let d:=D;let q:=g d;let i:=e { d with nx:=q };let j:=t2 { d with nx:=i };let n:=f { d with nx:=j };let s:=c;n s H):(Yg f (Yg t2 (Yg e g))) D c H:=h
theorem Gq4{f t2 e g:TS}{D:Y6}{c:St}{H:Hp}{i:Nat}{x:V}(h:let d:=D;let u:=g d;let j:=e { d with nx:=u };let n:=t2 { d with nx:=j };let q:=f { d with nx:=n };let s:=c.set i (some x);q s H):Wg i x c H (fun c H=>(Yg f (Yg t2 (Yg e g))) D c H):=h
theorem Sq5{f t2 e g i:TS}{D:Y6}{c:St}{H:Hp}(h:let d:=D;let u:=i d;let v:=g { d with nx:=u };let j:=e { d with nx:=v };let n:=t2 { d with nx:=j };let q:=f { d with nx:=n };let s:=c;q s H):(Yg f (Yg t2 (Yg e (Yg g i)))) D c H:=h
theorem Sq6{f t2 e i j g:TS}{D:Y6}{c:St}{H:Hp}(h:let d:=D;let u:=g d;let x:=j { d with nx:=u };let y:=i { d with nx:=x };let n:=e { d with nx:=y };let q:=t2 { d with nx:=n };let v:=f { d with nx:=q };let s:=c;v s H):(Yg f (Yg t2 (Yg e (Yg i (Yg j g))))) D c H:=h
theorem Sq7{f t2 e j n g i:TS}{D:Y6}{c:St}{H:Hp}(h:let d:=D;let u:=i d;let x:=g { d with nx:=u };let y:=n { d with nx:=x };let C:=j { d with nx:=y };let q:=e { d with nx:=C };let v:=t2 { d with nx:=q };let B:=f { d with nx:=v };let s:=c;B s H):(Yg f (Yg t2 (Yg e (Yg j (Yg n (Yg g i)))))) D c H:=h
theorem Gq7{f t2 e n q g j:TS}{D:Y6}{c:St}{H:Hp}{i:Nat}{x:V}(h:let d:=D;let v:=j d;let B:=g { d with nx:=v };let C:=q { d with nx:=B };let G:=n { d with nx:=C };let u:=e { d with nx:=G };let y:=t2 { d with nx:=u };let E:=f { d with nx:=y };let s:=c.set i (some x);E s H):Wg i x c H (fun c H=>(Yg f (Yg t2 (Yg e (Yg n (Yg q (Yg g j)))))) D c H):=h
theorem Sq9{c t2 q g i j e f u:TS}{D:Y6}{n:St}{H:Hp}(h:let d:=D;let G:=u d;let B:=f { d with nx:=G };let J:=e { d with nx:=B };let x:=j { d with nx:=J };let I:=i { d with nx:=x };let y:=g { d with nx:=I };let E:=q { d with nx:=y };let v:=t2 { d with nx:=E };let C:=c { d with nx:=v };let s:=n;C s H):(Yg c (Yg t2 (Yg q (Yg g (Yg i (Yg j (Yg e (Yg f u)))))))) D n H:=h
theorem Sq10{c t2 u g i j e f v n:TS}{D:Y6}{q:St}{H:Hp}(h:let d:=D;let B:=n d;let J:=v { d with nx:=B };let E:=f { d with nx:=J };let M:=e { d with nx:=E };let y:=j { d with nx:=M };let L:=i { d with nx:=y };let C:=g { d with nx:=L };let I:=u { d with nx:=C };let x:=t2 { d with nx:=I };let G:=c { d with nx:=x };let s:=q;G s H):(Yg c (Yg t2 (Yg u (Yg g (Yg i (Yg j (Yg e (Yg f (Yg v n))))))))) D q H:=h
section
variable{X:Cx}{a b c e o i:Expr}{es:OD}{ta tb td ty te:TE}{t:TA}{r:R2}{op:CmpOp}{pos pos' p:Pos}{x:Str}
theorem Zj{f:Expr}{g:TE}(h1:PE X f g)(h:YT f=true:=by rfl):PA X [f] (Yt g Xw):=(Ym h1 XE h)
theorem Zr{f g:Expr}{h t2:TE}(h1:PE X f h)(q:PE X g t2)(n:YT f=true:=by rfl)(j:YT g=true:=by rfl):PA X [f,g] (Yt h (Yt t2 Xw)):=(Ym h1 (Ym q XE j) n)
theorem Yr{f h g:Expr}{n t2 j:TE}(h1:PE X f n)(B:PE X h t2)(q:PE X g j)(y:YT f=true:=by rfl)(u:YT h=true:=by rfl)(v:YT g=true:=by rfl):PA X [f,h,g] (Yt n (Yt t2 (Yt j Xw))):=(Ym h1 (Ym B (Ym q XE v) u) y)
theorem Wq{f j g h:Expr}{q t2 n u:TE}(h1:PE X f q)(G:PE X j t2)(v:PE X g n)(y:PE X h u)(D:YT f=true:=by rfl)(B:YT j=true:=by rfl)(E:YT g=true:=by rfl)(C:YT h=true:=by rfl):PA X [f,j,g,h] (Yt q (Yt t2 (Yt n (Yt u Xw)))):=(Ym h1 (Ym G (Ym v (Ym y XE C) E) B) D)
theorem vS{f n h j g:Expr}{q t2 u v y:TE}(h1:PE X f q)(L:PE X n t2)(B:PE X h u)(C:PE X j v)(H:PE X g y)(I:YT f=true:=by rfl)(E:YT n=true:=by rfl)(J:YT h=true:=by rfl)(G:YT j=true:=by rfl)(D:YT g=true:=by rfl):PA X [f,n,h,j,g] (Yt q (Yt t2 (Yt u (Yt v (Yt y Xw))))):=(Ym h1 (Ym L (Ym B (Ym C (Ym H XE D) G) J) E) I)
theorem M9{n j f q h g:Expr}{u t2 C v y B:TE}(h1:PE X n u)(Q:PE X j t2)(D:PE X f C)(H:PE X q v)(J:PE X h y)(M:PE X g B)(L:YT n=true:=by rfl)(I:YT j=true:=by rfl)(P:YT f=true:=by rfl)(G:YT q=true:=by rfl)(E:YT h=true:=by rfl)(O:YT g=true:=by rfl):PA X [n,j,f,q,h,g] (Yt u (Yt t2 (Yt C (Yt v (Yt y (Yt B Xw)))))):=(Ym h1 (Ym Q (Ym D (Ym H (Ym J (Ym M XE O) E) G) P) I) L)
theorem vT{q n f u h g j:Expr}{v t2 E B C D y:TE}(h1:PE X q v)(Y:PE X n t2)(G:PE X f E)(M:PE X u B)(P:PE X h C)(S:PE X g D)(I:PE X j y)(Q:YT q=true:=by rfl)(O:YT n=true:=by rfl)(U:YT f=true:=by rfl)(J:YT u=true:=by rfl)(H:YT h=true:=by rfl)(T:YT g=true:=by rfl)(L:YT j=true:=by rfl):PA X [q,n,f,u,h,g,j] (Yt v (Yt t2 (Yt E (Yt B (Yt C (Yt D (Yt y Xw))))))):=(Ym h1 (Ym Y (Ym G (Ym M (Ym P (Ym S (Ym I XE L) T) H) J) U) O) Q)
theorem Zu(f:V1 X r)(ha:PE X a ta)(h:PE X b tb)(g:yI b:=by exact fun _ _=>R):PE X (.Subscript a b pos) (Ux r ta tb):=Zdq f ha h g
theorem YB{k:Nat}(g:YA k X.A)(f:PE X o td)(hi:PE X i ty)(h:MW i:=by exact fun _ _=>R):PE X (.Subscript o i pos) (wV td ty):=Zfh (YZ g) f hi h
theorem ZR(k:Nat)(h:X.N.Nodup)(g:PE X e te)(hi:X.N[k]? = some x:=by rfl)(j:Qj X.env.scope x:=by first|exact .inl rfl|exact .inr rfl)(f:swapsWith e (some (.Name x pos')) pos.line X.env=pure false:=by rfl)(n:X.fn x=true\/X.env.scope.names.lookup x=some .local:=by first|exact .inl rfl|exact .inr rfl|assumption):PS X (.Assign [.Name x pos'] e pos) (KD te (Wg k)):=Zcy h hi j g f n
theorem ZY(k:Nat)(f:X.N.Nodup)(hi:X.N[k]? = some x:=by rfl)(g:Qj X.env.scope x:=by first|exact .inl rfl|exact .inr rfl)(h:X.fn x=true\/X.env.scope.names.lookup x=some .local:=by first|exact .inl rfl|exact .inr rfl|assumption):PG X (.Name x pos) (Wg k):=Mj f hi g h
theorem XG{f iter:Expr}{body:List Stmt}{h:TI}{g:TG}{tb:TS}(hi:PI X f iter h)(v:PG X f g)(q:X6 X body tb)(u:PassesOwn (model X.prog X.w) X.A X.env X.xe:=by exact PassesOwn.never)(j:X.calm=true:=by rfl)(n:∀x,foldedSetIterable iter X.env x=pure x:=by intro _;rfl):PS X (.For f iter body [] pos) (zK h g tb):=zL u j hi v q n
theorem Z5(f:YM X (compareOp op) r)(ha:PE X a ta)(g:PE X b tb)(h:op≠.In:=by lia)(j:op≠.NotIn:=by lia):PT X (.Compare a [op] [b] pos) (Mr (Ux r ta tb)):=zR f ha g (Uz _ h j)
theorem ZV{id:String}{r:List V->Hp->VK->Prop}(f:Xb X (.builtin id) r)(hm:X.mg x=none)(g:bootBuiltins x=some (.builtin id))(ha:PA X (e::es) t)(q:Gl X x:=by rfl)(hn:x ≠ "__name__" := by lia) (h:(x == ("__debug__" : Str))=false:=by lia) (j:starEach (e::es) X.env=(false,eval e X.env)::starEach es X.env:=by rfl) (n:(backTo pos (starEach es X.env)).any (·.1)=false:=by rfl):PE X (.Call (.Name x p) (e::es) [] pos) (Qr r t):=yG f q hm g ha hn h j n
end
end L2
local macro_rules|`(tactic| sleep $n) => `(tactic| ((try dsimp only[L2.kx, L2.ky]); refine $(Lean.mkIdent (.str (.str .anonymous "L2") (if n.getNat<99 then s!"Sq{n.getNat}" else s!"Gq{n.getNat-100}"))) ?_; intros))
namespace K29
open PySem L2 K1
seal PySem.wpAny
def top(i:Nat):Stmt:=PySem.Challenge.pw_roadbook_k29_notices_refused.main.body.getD i (.Pass ⟨0,0,0,0⟩)
abbrev Na:Stmt:=top 23
theorem Zf5:ZB ["value"] ["value"] (Zw Na):=ZE (by lia)
abbrev Nb:Stmt:=top 24
theorem Zf6:ZB ["value","least","most"] ["value","least","most"] (Zw Nb):=ZE (by lia)
abbrev Nc:Stmt:=top 25
theorem vU:ZB ["value","least","most"] ["value","least","most"] (Zw Nc):=ZE (by lia)
abbrev Nd:Stmt:=top 26
theorem Lf:ZB ["values","longest","least","most","floor","value"] ["values","longest","least","most"] (Zw Nd):=ZE (by lia)
abbrev Nf:Stmt:=top 27
theorem Zf7:ZB ["value"] ["value"] (Zw Nf):=ZE (by lia)
abbrev Ng:Stmt:=top 28
theorem vV:ZB ["value","named"] ["value","named"] (Zw Ng):=ZE (by lia)
abbrev Nh:Stmt:=top 39
theorem Zf8:ZB ["rule"] ["rule"] (Zw Nh):=ZE (by lia)
abbrev Ni:Stmt:=top 40
theorem Zf9:ZB ["rule"] ["rule"] (Zw Ni):=ZE (by lia)
abbrev Nj:Stmt:=top 61
theorem Zga:ZB ["name","named"] ["name","named"] (Zw Nj):=ZE (by lia)
abbrev Nk:Stmt:=top 62
theorem vW:ZB ["kept","most"] ["kept","most"] (Zw Nk):=ZE (by lia)
abbrev Nl:Stmt:=top 63
theorem Zgb:ZB ["calls"] ["calls"] (Zw Nl):=ZE (by lia)
abbrev Nm:Stmt:=top 64
theorem Zgc:ZB ["call","ahead"] ["call","ahead"] (Zw Nm):=ZE (by lia)
abbrev Nn:Stmt:=top 68
theorem Zgd:ZB ["calls","begin","late"] ["calls","begin","late"] (Zw Nn):=ZE (by lia)
abbrev No:Stmt:=top 69
theorem vX:ZB ["calls","number"] ["calls"] (Zw No):=ZE (by lia)
abbrev Np:Stmt:=top 72
theorem Zge:ZB ["_law_script","_law_k"] ["_law_script","_law_k"] (Zw Np):=ZE (by lia)
abbrev Nq:Stmt:=top 73
theorem vY:ZB ["_law_cell","_law_k","_law_number"] ["_law_cell","_law_k"] (Zw Nq):=ZE (by lia)
abbrev Nr:Stmt:=top 74
theorem Zgf:ZB ["_law_thing","_law_least","_law_most"] ["_law_thing","_law_least","_law_most"] (Zw Nr):=ZE (by lia)
abbrev Nt:Stmt:=top 75
theorem Lg:ZB ["_law_seed","_law_k","_law_letters","_law_tail","_law_at"] ["_law_seed","_law_k"] (Zw Nt):=ZE (by lia)
abbrev Nu:Stmt:=top 76
theorem C0:ZB ["_law_number","_law_deep","_law_more","_law_way","_law_starts","_law_inner"] ["_law_number","_law_deep"] (Zw Nu):=ZE (by lia)
abbrev Nv:Stmt:=top 77
theorem vZ:ZB ["_law_told"] ["_law_told"] (Zw Nv):=ZE (by lia)
abbrev Nw:Stmt:=top 78
theorem Nx:ZB ["_law_told","_law_day","_law_one","_law_other"] ["_law_told","_law_day"] (Zw Nw):=ZE (by lia)
abbrev Ny:Stmt:=top 79
theorem Ua:ZB ["_law_number","_law_stops","_law_many","_law_found","_law_time","_law_last","_law_k","_law_mixed_here","_law_left","_law_arrive","_law_leave"] ["_law_number","_law_stops","_law_many"] (Zw Ny):=ZE (by lia)
abbrev Nz:Stmt:=top 80
theorem Zgg:ZB [] [] (Zw Nz):=ZE (by lia)
abbrev NC:Stmt:=top 81
theorem Vf:ZB ["_law_seed","_law_world_here","_law_names","_law_k","_law_stops","_law_pair","_law_mixed_here","_law_zones","_law_rules"] ["_law_seed"] (Zw NC):=ZE (by lia)
abbrev ND:Stmt:=top 82
theorem Vs:ZB ["_law_world_here","_law_net","_law_name_here","_law_told","_law_pair","_law_one","_law_other","_law_minutes"] ["_law_world_here"] (Zw ND):=ZE (by lia)
abbrev NE:Stmt:=top 83
theorem Ub:ZB ["_law_call","e","_law_found"] ["_law_call"] (Zw NE):=ZE (by lia)
abbrev NF:Stmt:=top 84
theorem UK:ZB ["_law_world_here","_law_gaps","_law_trip","_law_day","_law_rule_here","_law_calls_here","_law_own","_law_found","_law_k","_law_stop","_law_arrive","_law_leave"] ["_law_world_here","_law_gaps","_law_trip","_law_day"] (Zw NF):=ZE (by lia)
abbrev NG:Stmt:=top 85
theorem C3:ZB ["_law_world_here","_law_gaps","_law_trip","_law_day","_law_call","_law_minutes","_law_calls_here","_law_old","_law_fresh","_law_k","_law_leave"] ["_law_world_here","_law_gaps","_law_trip","_law_day","_law_call","_law_minutes"] (Zw NG):=ZE (by lia)
abbrev NH:Stmt:=top 86
theorem QB:ZB ["_law_world_here","_law_gaps","_law_way","_law_given_here","_law_trip","_law_day","_law_call","_law_minutes","_law_rule_here","_law_calls_here"] ["_law_world_here","_law_gaps","_law_way","_law_given_here"] (Zw NH):=ZE (by lia)
abbrev NI:Stmt:=top 87
theorem NJ:ZB ["_law_world_here","_law_gaps","_law_trip","_law_day","_law_call","_law_calls_here","_law_old"] ["_law_world_here","_law_gaps","_law_trip","_law_day","_law_call"] (Zw NI):=ZE (by lia)
abbrev NK:Stmt:=top 88
theorem U8:ZB ["_law_world_here","_law_gaps","_law_days_here","_law_mixed_here","_law_trips","_law_trip","_law_more","_law_calls_here","_law_given_here","_law_just_here","_law_odd"] ["_law_world_here","_law_gaps","_law_days_here","_law_mixed_here"] (Zw NK):=ZE (by lia)
abbrev NL:Stmt:=top 89
theorem UL:ZB ["_law_notices","_law_way","_law_given_here","_law_trip","_law_day","_law_call","_law_minutes"] ["_law_notices","_law_way","_law_given_here"] (Zw NL):=ZE (by lia)
abbrev NM:Stmt:=top 90
theorem C4:ZB ["_law_world_here","_law_gaps","_law_way","_law_given_here","_law_trip","_law_day","_law_call","_law_minutes","_law_many"] ["_law_world_here","_law_gaps","_law_way","_law_given_here"] (Zw NM):=ZE (by lia)
abbrev NN:Stmt:=top 91
theorem NO:ZB ["_law_notices","_law_world_here","_law_gaps","_law_days_here","_law_trip","_law_day"] ["_law_notices","_law_world_here","_law_gaps","_law_days_here"] (Zw NN):=ZE (by lia)
abbrev NP:Stmt:=top 92
theorem C5:ZB ["_law_notices","_law_world_here","_law_days_here","_law_trip","_law_told","_law_day","_law_k","_law_just_here"] ["_law_notices","_law_world_here","_law_days_here"] (Zw NP):=ZE (by lia)
abbrev NQ:Stmt:=top 93
theorem Vt:ZB ["_law_script","_law_world_here","_law_notices","_law_gaps","_law_start","_law_days_here","_law_k","_law_cell","_law_mixed_here","_law_way","_law_given_here","_law_due_here","_law_found"] ["_law_script"] (Zw NQ):=ZE (by lia)
abbrev NR:Stmt:=Yd (top 41) 0
theorem Zgh:ZB ["self"] ["self"] (Zw NR):=ZE (by lia)
abbrev NT:Stmt:=Yd (top 41) 1
theorem Zgi:ZB ["self"] ["self"] (Zw NT):=ZE (by lia)
abbrev NU:Stmt:=Yd (top 41) 2
theorem Zgj:ZB ["self","day"] ["self","day"] (Zw NU):=ZE (by lia)
abbrev NV:Stmt:=Yd (top 41) 4
theorem uA:ZB ["self"] ["self"] (Zw NV):=ZE (by lia)
abbrev NW:Stmt:=Yd (top 41) 5
theorem uB:ZB ["self"] ["self"] (Zw NW):=ZE (by lia)
abbrev NX:Stmt:=Yd (top 42) 0
theorem Zgk:ZB ["self","bits"] ["self","bits"] (Zw NX):=ZE (by lia)
abbrev NY:Stmt:=Yd (top 42) 1
theorem Zgl:ZB ["self"] ["self"] (Zw NY):=ZE (by lia)
abbrev NZ:Stmt:=Yd (top 42) 2
theorem Zgm:ZB ["self","day"] ["self","day"] (Zw NZ):=ZE (by lia)
abbrev N0:Stmt:=Yd (top 43) 0
theorem Zgn:ZB ["self","first","last","rule"] ["self","first","last","rule"] (Zw N0):=ZE (by lia)
abbrev N2:Stmt:=Yd (top 43) 1
theorem uC:ZB ["self"] ["self"] (Zw N2):=ZE (by lia)
abbrev N3:Stmt:=Yd (top 43) 2
theorem Zgo:ZB ["self"] ["self"] (Zw N3):=ZE (by lia)
abbrev N4:Stmt:=Yd (top 43) 3
theorem uD:ZB ["self","day"] ["self","day"] (Zw N4):=ZE (by lia)
abbrev N5:Stmt:=Yd (top 44) 0
theorem Zgp:ZB ["self","length","starts"] ["self","length","starts"] (Zw N5):=ZE (by lia)
abbrev Pa:Stmt:=Yd (top 44) 1
theorem Zgq:ZB ["self"] ["self"] (Zw Pa):=ZE (by lia)
abbrev Pb:Stmt:=Yd (top 44) 2
theorem Zgr:ZB ["self","day"] ["self","day"] (Zw Pb):=ZE (by lia)
abbrev Pc:Stmt:=Yd (top 45) 0
theorem Zgs:ZB ["self","one","other"] ["self","one","other"] (Zw Pc):=ZE (by lia)
abbrev Pd:Stmt:=Yd (top 45) 1
theorem uE:ZB ["self"] ["self"] (Zw Pd):=ZE (by lia)
abbrev Pe:Stmt:=Yd (top 45) 2
theorem Zgt:ZB ["self"] ["self"] (Zw Pe):=ZE (by lia)
abbrev Pf:Stmt:=Yd (top 45) 3
theorem uF:ZB ["self","day"] ["self","day"] (Zw Pf):=ZE (by lia)
abbrev Pg:Stmt:=Yd (top 46) 0
theorem Zgu:ZB ["self","one","other"] ["self","one","other"] (Zw Pg):=ZE (by lia)
abbrev Ph:Stmt:=Yd (top 46) 1
theorem uG:ZB ["self"] ["self"] (Zw Ph):=ZE (by lia)
abbrev Pi:Stmt:=Yd (top 46) 2
theorem Zgv:ZB ["self"] ["self"] (Zw Pi):=ZE (by lia)
abbrev Pj:Stmt:=Yd (top 46) 3
theorem uH:ZB ["self","day"] ["self","day"] (Zw Pj):=ZE (by lia)
abbrev Pk:Stmt:=Yd (top 47) 0
theorem Zgw:ZB ["self","days","rule"] ["self","days","rule"] (Zw Pk):=ZE (by lia)
abbrev Pl:Stmt:=Yd (top 47) 1
theorem uI:ZB ["self"] ["self"] (Zw Pl):=ZE (by lia)
abbrev Pm:Stmt:=Yd (top 47) 2
theorem Zgx:ZB ["self"] ["self"] (Zw Pm):=ZE (by lia)
abbrev Pn:Stmt:=Yd (top 47) 3
theorem uJ:ZB ["self","day"] ["self","day"] (Zw Pn):=ZE (by lia)
abbrev Po:Stmt:=Yd (top 65) 0
theorem Zgy:ZB ["self"] ["self"] (Zw Po):=ZE (by lia)
abbrev Pp:Stmt:=Yd (top 65) 2
theorem Zgz:ZB ["self","name","zone","change"] ["self","name","zone","change"] (Zw Pp):=ZE (by lia)
abbrev Pq:Stmt:=Yd (top 65) 3
theorem ZgA:ZB ["self","one","other","minutes"] ["self","one","other","minutes"] (Zw Pq):=ZE (by lia)
abbrev Pr:Stmt:=Yd (top 65) 4
theorem uK:ZB ["self","name","rule","kept"] ["self","name","rule"] (Zw Pr):=ZE (by lia)
abbrev Ps:Stmt:=Yd (top 65) 5
theorem ZgB:ZB ["self","name","price","lasts","zones"] ["self","name","price","lasts","zones"] (Zw Ps):=ZE (by lia)
abbrev Pu:Stmt:=Yd (top 65) 6
theorem Pv:ZB ["self","name","rule","calls","number","call"] ["self","name","rule","calls"] (Zw Pu):=ZE (by lia)
abbrev Pw:Stmt:=Yd (top 65) 7
theorem ZgC:ZB ["self","name"] ["self","name"] (Zw Pw):=ZE (by lia)
abbrev Px:Stmt:=Yd (top 65) 8
theorem ZgD:ZB ["self","name"] ["self","name"] (Zw Px):=ZE (by lia)
abbrev Py:Stmt:=Yd (top 65) 9
theorem ZgE:ZB ["self","call"] ["self","call"] (Zw Py):=ZE (by lia)
abbrev Pz:Stmt:=Yd (top 65) 10
theorem ZgF:ZB ["self","one","other"] ["self","one","other"] (Zw Pz):=ZE (by lia)
abbrev PB:Stmt:=Yd (top 65) 15
theorem ZgG:ZB ["self"] ["self"] (Zw PB):=ZE (by lia)
abbrev PD:Stmt:=Yd (top 65) 18
theorem ZgH:ZB ["self","name"] ["self","name"] (Zw PD):=ZE (by lia)
abbrev PF:Stmt:=Yd (top 65) 20
theorem ZgI:ZB ["self","trip"] ["self","trip"] (Zw PF):=ZE (by lia)
abbrev PH:Stmt:=Yd (top 65) 21
theorem ZgJ:ZB ["self","trip"] ["self","trip"] (Zw PH):=ZE (by lia)
abbrev PJ:Stmt:=Yd (top 70) 0
theorem uL:ZB ["self","net","trip"] ["self","net"] (Zw PJ):=ZE (by lia)
abbrev PL:Stmt:=Yd (top 70) 2
theorem PM:ZB ["self","trip","day","call","minutes","calls","late"] ["self","trip","day","call","minutes"] (Zw PL):=ZE (by lia)
abbrev PN:Stmt:=Yd (top 70) 3
theorem ZgK:ZB ["self","trip","day"] ["self","trip","day"] (Zw PN):=ZE (by lia)
abbrev PP:Stmt:=Yd (top 70) 4
theorem ZgL:ZB ["self","trip","day"] ["self","trip","day"] (Zw PP):=ZE (by lia)
abbrev PQ:Stmt:=Yd (top 70) 5
theorem ZgM:ZB ["self","trip","day"] ["self","trip","day"] (Zw PQ):=ZE (by lia)
abbrev PR:Stmt:=Yd (top 70) 7
theorem uM:ZB ["self","trip","day","on_time"] ["self","trip","day"] (Zw PR):=ZE (by lia)
abbrev PU:Stmt:=Yd (top 70) 8
theorem ZgN:ZB ["self","trip","day"] ["self","trip","day"] (Zw PU):=ZE (by lia)
abbrev PV:Stmt:=Yd (top 70) 9
theorem ZgO:ZB ["self","trip","day"] ["self","trip","day"] (Zw PV):=ZE (by lia)
abbrev PX:Stmt:=Yd (top 70) 10
theorem ZgP:ZB ["self","trip","day"] ["self","trip","day"] (Zw PX):=ZE (by lia)
theorem ZgQ:bootBuiltins "ValueError" = some (.type "ValueError"):=by lia
theorem uN:bootBuiltins "all" = some (.builtin "all"):=by lia
theorem ZgR:bootBuiltins "any" = some (.builtin "any"):=by lia
theorem uO:bootBuiltins "bool" = some (.type "bool"):=by lia
theorem XW:bootBuiltins "int" = some (.type "int"):=by lia
theorem Y1:bootBuiltins "isinstance" = some (.builtin "isinstance"):=by lia
theorem Y8:bootBuiltins "len" = some (.builtin "len"):=by lia
theorem Vg:bootBuiltins "list" = some (.type "list"):=by lia
theorem uP:bootBuiltins "max" = some (.builtin "max"):=by lia
theorem uQ:bootBuiltins "min" = some (.builtin "min"):=by lia
theorem uR:bootBuiltins "set" = some (.type "set"):=by lia
theorem uS:bootBuiltins "sorted" = some (.builtin "sorted"):=by lia
theorem Lh:bootBuiltins "str" = some (.type "str"):=by lia
theorem ZgS:bootBuiltins "sum" = some (.builtin "sum"):=by lia
theorem C6:bootBuiltins "tuple" = some (.type "tuple"):=by lia
set_option genInjectivity false in
structure Yn where
 uT:Addr
 uU:FuncData
 uV:Addr
 uW:FuncData
 PY:Addr
 PZ:FuncData
 uX:Addr
 uY:FuncData
 uZ:Addr
 qA:FuncData
 P0:Addr
 P1:FuncData
 P2:Addr
 P3:FuncData
 qB:Addr
 qC:FuncData
 qD:Addr
 qE:FuncData
 P4:Addr
 P5:FuncData
 qF:Addr
 qG:FuncData
 qH:Addr
 qI:FuncData
 qJ:Addr
 qK:FuncData
 qL:Addr
 qM:FuncData
 qN:Addr
 qO:FuncData
 qP:Addr
 qQ:FuncData
 qR:Addr
 qS:FuncData
 qT:Addr
 qU:FuncData
 qV:Addr
 qW:FuncData
 qX:Addr
 qY:FuncData
 qZ:Addr
 jA:FuncData
 jB:Addr
 jC:FuncData
 jD:Addr
 jE:FuncData
 jF:Addr
 jG:FuncData
 jH:Addr
 jI:FuncData
 jJ:Addr
 jK:FuncData
 jL:Addr
 jM:FuncData
 jN:Addr
 jO:FuncData
 jP:Addr
 jQ:FuncData
 jR:Addr
 jS:FuncData
 jT:Addr
 jU:FuncData
 jV:Addr
 P6:FuncData
 jW:Addr
 jX:FuncData
 jY:Addr
 jZ:FuncData
 kA:Addr
 P7:FuncData
 kB:Addr
 P8:FuncData
 P9:Addr
 Ra:FuncData
 Li:Addr
 kC:FuncData
 Rb:Addr
 Rc:FuncData
 UM:Addr
 kD:FuncData
 UN:Addr
 kE:FuncData
 Lj:Addr
 Re:FuncData
 Rf:Addr
 Rg:FuncData
 Rh:Addr
 Ri:FuncData
 Lk:Addr
 Rj:FuncData
 Rk:Addr
 Rl:FuncData
 kF:Addr
 kG:FuncData
 Rm:Addr
 Rn:FuncData
 Ll:Addr
 Ro:FuncData
 Rp:Addr
 Rq:FuncData
 Rr:Addr
 Rs:FuncData
 Lm:Addr
 Rt:FuncData
 Ru:Addr
 Rv:FuncData
 kH:Addr
 kI:FuncData
 Rw:Addr
 Rx:FuncData
 Ln:Addr
 Ry:FuncData
 Rz:Addr
 RA:FuncData
 kJ:Addr
 kK:FuncData
 RB:Addr
 RD:FuncData
 Lo:Addr
 RE:FuncData
 RF:Addr
 RG:FuncData
 kL:Addr
 kM:FuncData
 RH:Addr
 RI:FuncData
 RJ:Addr
 kN:FuncData
 kO:Addr
 kP:FuncData
 kQ:Addr
 kR:FuncData
 kS:Addr
 kT:FuncData
 kU:Addr
 kW:FuncData
 kX:Addr
 kY:FuncData
 kZ:Addr
 gA:FuncData
 gB:Addr
 gC:FuncData
 gD:Addr
 gE:FuncData
 gF:Addr
 gG:FuncData
 gH:Addr
 gJ:FuncData
 gK:Addr
 gL:FuncData
 gM:Addr
 gN:FuncData
 gO:Addr
 gP:FuncData
 RK:Addr
 gQ:FuncData
 gR:Addr
 gS:FuncData
 gU:Addr
 gW:FuncData
 gX:Addr
 gY:FuncData
 gZ:Addr
 Zaa:FuncData
 Zab:Addr
 Zac:FuncData
 Zad:Addr
 Zae:FuncData
 Zaf:Addr
 Zag:FuncData
 Zah:Addr
 Zai:FuncData
 QC:Addr
 Vu:Addr
 QD:Addr
 QE:Addr
 QF:Addr
 QG:Addr
 QH:Addr
 QI:Addr
 QJ:Addr
 Vv:Addr
 Vh:Addr
 Vi:Addr
 QK:Addr
 Vw:Addr
 QL:Addr
 QM:Addr
 QN:Addr
 QO:Addr
 XX:Addr
 Vx:Addr
 X9:Addr
 WV:Addr
 XY:Addr
 XZ:Addr
 Wy:Addr
 Z1:Addr
 YS:Addr
 C7:Addr
 Wr:Addr
 JV:Addr
 Ut:Addr
 kf:W.Frag
structure Zs(K:Ow)(mg:Ov)(t:Yn):Prop where
 ZgT:mg "ValueError" = none
 Zaj:mg "all" = none
 ZgU:mg "any" = none
 Zak:mg "bool" = none
 Zal:mg "enumerate" = none
 X0:mg "int" = none
 Y2:mg "isinstance" = none
 Y9:mg "len" = none
 Vj:mg "list" = none
 Zam:mg "max" = none
 Zan:mg "min" = none
 Vy:mg "range" = none
 Zao:mg "set" = none
 Zap:mg "sorted" = none
 Lp:mg "str" = none
 ZgV:mg "sum" = none
 C8:mg "tuple" = none
 ZgW:mg "zip" = none
 ZgX:∃tk,mg "LETTERS" = some (.str (OK "abcdefghijklmnopqrstuvwxyz") tk)
 ZgY:∃tk,mg "MOST_LETTERS" = some (.int 8 tk)
 Lq:∃tk,mg "LAST_DAY" = some (.int 9999 tk)
 ZgZ:∃tk,mg "DAY_MINUTES" = some (.int 1440 tk)
 Zaq:∃tk,mg "LAST_MINUTE" = some (.int 2879 tk)
 Zg0:∃tk,mg "WEEK_DAYS" = some (.int 7 tk)
 Zg1:∃tk,mg "ALL_WEEK" = some (.int 127 tk)
 Zg2:∃tk,mg "MOST_LENGTH" = some (.int 28 tk)
 Zar:∃tk,mg "MOST_LISTED" = some (.int 12 tk)
 Zg3:∃tk,mg "MOST_WEIGHT" = some (.int 15 tk)
 Zg4:∃tk,mg "MOST_DEPTH" = some (.int 8 tk)
 Zg5:∃tk,mg "MOST_STOPS" = some (.int 8 tk)
 Zg6:∃tk,mg "MOST_WALKS" = some (.int 12 tk)
 Zg7:∃tk,mg "MOST_RULES" = some (.int 6 tk)
 Zg8:∃tk,mg "MOST_TICKETS" = some (.int 3 tk)
 Zg9:∃tk,mg "MOST_TRIPS" = some (.int 10 tk)
 RL:∃tk,mg "LAST_ZONE" = some (.int 6 tk)
 Zha:∃tk,mg "MOST_CHANGE" = some (.int 30 tk)
 Zhb:∃tk,mg "MOST_WALKED" = some (.int 60 tk)
 Zhc:∃tk,mg "MOST_PRICE" = some (.int 10000 tk)
 Zhd:∃tk,mg "MOST_LASTING" = some (.int 1440 tk)
 Zhe:∃tk,mg "LEAST_CALLS" = some (.int 2 tk)
 Zhf:∃tk,mg "MOST_CALLS" = some (.int 6 tk)
 Zhg:∃tk,mg "MOST_LATE" = some (.int 300 tk)
 Zas:YD K mg "is_any_number" Na ["value"] t.uT t.uU
 UO:YD K mg "is_number" Nb ["value","least","most"] t.uV t.uW
 Uc:YD K mg "check_number" Nc ["value","least","most"] t.PY t.PZ
 Lr:YD K mg "are_rising" Nd ["values","longest","least","most"] t.uX t.uY
 Zat:YD K mg "is_name" Nf ["value"] t.uZ t.qA
 QP:YD K mg "is_known" Ng ["value","named"] t.P0 t.P1
 UP:YD K mg "copy_of" Nh ["rule"] t.P2 t.P3
 JW:YD K mg "check_size" Ni ["rule"] t.qB t.qC
 JX:YD K mg "check_new" Nj ["name","named"] t.qD t.qE
 QQ:YD K mg "check_room" Nk ["kept","most"] t.P4 t.P5
 Zau:YD K mg "have_calls_form" Nl ["calls"] t.qF t.qG
 RM:YD K mg "can_follow" Nm ["call","ahead"] t.qH t.qI
 RN:YD K mg "moved" Nn ["calls","begin","late"] t.qJ t.qK
 Zav:YD K mg "check_rising" No ["calls"] t.qL t.qM
 RO:YD K mg "_law_cell_at" Np ["_law_script","_law_k"] t.qN t.qO
 Ud:YD K mg "_law_mixed" Nq ["_law_cell","_law_k"] t.qP t.qQ
 Ls:YD K mg "_law_among" Nr ["_law_thing","_law_least","_law_most"] t.qR t.qS
 Zaw:YD K mg "_law_name" Nt ["_law_seed","_law_k"] t.qT t.qU
 UQ:YD K mg "_law_days" Nu ["_law_number","_law_deep"] t.qV t.qW
 XN:YD K mg "_law_rule" Nv ["_law_told"] t.qX t.qY
 WO:YD K mg "_law_runs" Nw ["_law_told","_law_day"] t.qZ t.jA
 Zax:YD K mg "_law_calls" Ny ["_law_number","_law_stops","_law_many"] t.jB t.jC
 Lu:YD K mg "_law_world" Nz [] t.jD t.jE
 Zay:YD K mg "_law_drawn" NC ["_law_seed"] t.jF t.jG
 Zaz:YD K mg "_law_made" ND ["_law_world_here"] t.jH t.jI
 WP:YD K mg "_law_said" NE ["_law_call"] t.jJ t.jK
 RP:YD K mg "_law_moments" NF ["_law_world_here","_law_gaps","_law_trip","_law_day"] t.jL t.jM
 ZaA:YD K mg "_law_rises" NG ["_law_world_here","_law_gaps","_law_trip","_law_day","_law_call","_law_minutes"] t.jN t.jO
 ZaB:YD K mg "_law_due" NH ["_law_world_here","_law_gaps","_law_way","_law_given_here"] t.jP t.jQ
 ZaC:YD K mg "_law_just" NI ["_law_world_here","_law_gaps","_law_trip","_law_day","_law_call"] t.jR t.jS
 ZaD:YD K mg "_law_given" NK ["_law_world_here","_law_gaps","_law_days_here","_law_mixed_here"] t.jT t.jU
 JY:YD K mg "_law_tell" NL ["_law_notices","_law_way","_law_given_here"] t.jV t.P6
 ZaE:YD K mg "_law_kept" NM ["_law_world_here","_law_gaps","_law_way","_law_given_here"] t.jW t.jX
 ZaF:YD K mg "_law_stands" NN ["_law_notices","_law_world_here","_law_gaps","_law_days_here"] t.jY t.jZ
 ZaG:YD K mg "_law_borders" NP ["_law_notices","_law_world_here","_law_days_here"] t.kA t.P7
 RQ:YD K mg "law" NQ ["_law_script"] t.kB t.P8
 RR:Yc K t.XX "copied" "Rule.copied" NR ["self"] t.P9 t.Ra
 JZ:Yc K t.XX "parts" "Rule.parts" NT ["self"] t.Li t.kC
 RS:Yc K t.XX "runs" "Rule.runs" NU ["self","day"] t.Rb t.Rc
 J0:Yc K t.XX "weight" "Rule.weight" NV ["self"] t.UM t.kD
 J1:Yc K t.XX "depth" "Rule.depth" NW ["self"] t.UN t.kE
 RU:Yc K t.Vx "__init__" "Week.__init__" NX ["self","bits"] t.Lj t.Re
 RV:Yc K t.Vx "copied" "Week.copied" NY ["self"] t.Rf t.Rg
 RW:Yc K t.Vx "runs" "Week.runs" NZ ["self","day"] t.Rh t.Ri
 RX:Yc K t.X9 "__init__" "Span.__init__" N0 ["self","first","last","rule"] t.Lk t.Rj
 Lv:Yc K t.X9 "copied" "Span.copied" N2 ["self"] t.Rk t.Rl
 RY:Yc K t.X9 "parts" "Span.parts" N3 ["self"] t.kF t.kG
 Lw:Yc K t.X9 "runs" "Span.runs" N4 ["self","day"] t.Rm t.Rn
 RZ:Yc K t.WV "__init__" "Each.__init__" N5 ["self","length","starts"] t.Ll t.Ro
 R0:Yc K t.WV "copied" "Each.copied" Pa ["self"] t.Rp t.Rq
 R1:Yc K t.WV "runs" "Each.runs" Pb ["self","day"] t.Rr t.Rs
 R4:Yc K t.XY "__init__" "Either.__init__" Pc ["self","one","other"] t.Lm t.Rt
 Lx:Yc K t.XY "copied" "Either.copied" Pd ["self"] t.Ru t.Rv
 R6:Yc K t.XY "parts" "Either.parts" Pe ["self"] t.kH t.kI
 Ly:Yc K t.XY "runs" "Either.runs" Pf ["self","day"] t.Rw t.Rx
 R7:Yc K t.XZ "__init__" "Both.__init__" Pg ["self","one","other"] t.Ln t.Ry
 Lz:Yc K t.XZ "copied" "Both.copied" Ph ["self"] t.Rz t.RA
 R8:Yc K t.XZ "parts" "Both.parts" Pi ["self"] t.kJ t.kK
 LA:Yc K t.XZ "runs" "Both.runs" Pj ["self","day"] t.RB t.RD
 R9:Yc K t.Wy "__init__" "But.__init__" Pk ["self","days","rule"] t.Lo t.RE
 LB:Yc K t.Wy "copied" "But.copied" Pl ["self"] t.RF t.RG
 Ta:Yc K t.Wy "parts" "But.parts" Pm ["self"] t.kL t.kM
 LD:Yc K t.Wy "runs" "But.runs" Pn ["self","day"] t.RH t.RI
 ZaH:Yc K t.Z1 "__init__" "Net.__init__" Po ["self"] t.RJ t.kN
 Tb:Yc K t.Z1 "add_stop" "Net.add_stop" Pp ["self","name","zone","change"] t.kO t.kP
 Te:Yc K t.Z1 "add_walk" "Net.add_walk" Pq ["self","one","other","minutes"] t.kQ t.kR
 Tf:Yc K t.Z1 "add_rule" "Net.add_rule" Pr ["self","name","rule"] t.kS t.kT
 Tg:Yc K t.Z1 "add_ticket" "Net.add_ticket" Ps ["self","name","price","lasts","zones"] t.kU t.kW
 Th:Yc K t.Z1 "add_trip" "Net.add_trip" Pu ["self","name","rule","calls"] t.kX t.kY
 QR:Yc K t.Z1 "check_stop" "Net.check_stop" Pw ["self","name"] t.kZ t.gA
 J2:Yc K t.Z1 "check_trip" "Net.check_trip" Px ["self","name"] t.gB t.gC
 Ti:Yc K t.Z1 "check_call" "Net.check_call" Py ["self","call"] t.gD t.gE
 Tj:Yc K t.Z1 "has_walk" "Net.has_walk" Pz ["self","one","other"] t.gF t.gG
 Tk:Yc K t.Z1 "trips" "Net.trips" PB ["self"] t.gH t.gJ
 Tl:Yc K t.Z1 "rule" "Net.rule" PD ["self","name"] t.gK t.gL
 Tn:Yc K t.Z1 "rule_name" "Net.rule_name" PF ["self","trip"] t.gM t.gN
 To:Yc K t.Z1 "calls" "Net.calls" PH ["self","trip"] t.gO t.gP
 ZaI:Yc K t.YS "__init__" "Notices.__init__" PJ ["self","net"] t.RK t.gQ
 J3:Yc K t.YS "late" "Notices.late" PL ["self","trip","day","call","minutes"] t.gR t.gS
 Tq:Yc K t.YS "out" "Notices.out" PN ["self","trip","day"] t.gU t.gW
 J4:Yc K t.YS "back" "Notices.back" PP ["self","trip","day"] t.gX t.gY
 J5:Yc K t.YS "moments" "Notices.moments" PQ ["self","trip","day"] t.gZ t.Zaa
 J6:Yc K t.YS "late_minutes" "Notices.late_minutes" PR ["self","trip","day"] t.Zab t.Zac
 J7:Yc K t.YS "check_day" "Notices.check_day" PU ["self","trip","day"] t.Zad t.Zae
 J8:Yc K t.YS "check_runs" "Notices.check_runs" PV ["self","trip","day"] t.Zaf t.Zag
 J9:Yc K t.YS "check_goes" "Notices.check_goes" PX ["self","trip","day"] t.Zah t.Zai
 Ka:YN K t.XX
 ZaJ:ML K t.XX
 U9:YN K t.Vx
 ZaK:Mk K t.Vx t.Lj
 Zhh:Yz K t.Vx "depth" t.UN
 Zhi:Yz K t.Vx "parts" t.Li
 Zhj:Yz K t.Vx "weight" t.UM
 Tr:Xi K t.Vx "bits"
 WW:YN K t.X9
 ZaL:Mk K t.X9 t.Lk
 Zhk:Yz K t.X9 "depth" t.UN
 Zhl:Yz K t.X9 "weight" t.UM
 Tu:Xi K t.X9 "first"
 Tv:Xi K t.X9 "last"
 LF:Xi K t.X9 "inner"
 Ue:YN K t.WV
 ZaM:Mk K t.WV t.Ll
 Zhm:Yz K t.WV "depth" t.UN
 Zhn:Yz K t.WV "parts" t.Li
 Zho:Yz K t.WV "weight" t.UM
 Tw:Xi K t.WV "length"
 Tz:Xi K t.WV "starts"
 Vz:YN K t.XY
 ZaN:Mk K t.XY t.Lm
 Zhp:Yz K t.XY "depth" t.UN
 Zhq:Yz K t.XY "weight" t.UM
 LG:Xi K t.XY "one"
 LH:Xi K t.XY "other"
 VA:YN K t.XZ
 ZaO:Mk K t.XZ t.Ln
 Zhr:Yz K t.XZ "depth" t.UN
 Zhs:Yz K t.XZ "weight" t.UM
 LI:Xi K t.XZ "one"
 LJ:Xi K t.XZ "other"
 VO:YN K t.Wy
 ZaP:Mk K t.Wy t.Lo
 Zht:Yz K t.Wy "depth" t.UN
 Zhu:Yz K t.Wy "weight" t.UM
 TB:Xi K t.Wy "days"
 LK:Xi K t.Wy "inner"
 Ys:YN K t.Z1
 Zhv:Mk K t.Z1 t.RJ
 Kb:Xi K t.Z1 "stop_rows"
 LL:Xi K t.Z1 "walk_rows"
 QS:Xi K t.Z1 "rule_rows"
 LM:Xi K t.Z1 "ticket_rows"
 Qa:Xi K t.Z1 "trip_rows"
 YP:YN K t.YS
 Zhw:Mk K t.YS t.RK
 Qb:Xi K t.YS "timetable"
 QT:Xi K t.YS "taken"
 Kc:Xi K t.YS "lateness"
 Zhx:WN K t.XX
 Zhy:W.kitOne K (.ref t.XX) (.ref t.XX)=some true
 Zhz:WN K t.Vx
 ZhA:W.kitOne K (.ref t.Vx) (.ref t.XX)=some true
 ZhB:WN K t.X9
 ZhC:W.kitOne K (.ref t.X9) (.ref t.XX)=some true
 ZhD:WN K t.WV
 ZhE:W.kitOne K (.ref t.WV) (.ref t.XX)=some true
 ZhF:WN K t.XY
 ZhG:W.kitOne K (.ref t.XY) (.ref t.XX)=some true
 ZhH:WN K t.XZ
 ZhI:W.kitOne K (.ref t.XZ) (.ref t.XX)=some true
 ZhJ:WN K t.Wy
 ZhK:W.kitOne K (.ref t.Wy) (.ref t.XX)=some true
 ZhL:mg "RoadError" = some (.ref t.QC)
 ZaQ:mg "BadClock" = some (.ref t.Vu)
 ZhM:mg "BadRule" = some (.ref t.QD)
 ZhN:mg "TooMany" = some (.ref t.QE)
 ZhO:mg "BadName" = some (.ref t.QF)
 ZhP:mg "Twice" = some (.ref t.QG)
 ZhQ:mg "NoStop" = some (.ref t.QH)
 ZhR:mg "NoRule" = some (.ref t.QI)
 ZhS:mg "NoTicket" = some (.ref t.QJ)
 ZaR:mg "NoTrip" = some (.ref t.Vv)
 ZaS:mg "BadNumber" = some (.ref t.Vh)
 ZaT:mg "BadCalls" = some (.ref t.Vi)
 ZhT:mg "BadRow" = some (.ref t.QK)
 TC:mg "NoRun" = some (.ref t.Vw)
 ZhU:mg "NoPlan" = some (.ref t.QL)
 ZhV:mg "TooLate" = some (.ref t.QM)
 ZhW:mg "NoTraveller" = some (.ref t.QN)
 ZhX:mg "BadLine" = some (.ref t.QO)
 TD:mg "Rule" = some (.ref t.XX)
 ZaU:mg "Week" = some (.ref t.Vx)
 ZaV:mg "Span" = some (.ref t.X9)
 ZaW:mg "Each" = some (.ref t.WV)
 ZaX:mg "Either" = some (.ref t.XY)
 ZaY:mg "Both" = some (.ref t.XZ)
 ZaZ:mg "But" = some (.ref t.Wy)
 ZhY:mg "Net" = some (.ref t.Z1)
 ZhZ:mg "Notices" = some (.ref t.YS)
 Zh0:V2 K t.Vv
 Zh1:Xy K t.Vv
 Wz:KX K t.Vv [(t.Vu,false),(t.QD,false),(t.QE,false),(t.QF,false),(t.QG,false),(t.QH,false),(t.QI,false),(t.QJ,false),(t.Vv,true),(t.Vh,false),(t.Vi,false),(t.QK,false),(t.Vw,false),(t.QL,false),(t.QM,false),(t.QO,false),(t.QN,false)]
 Zh2:W.kitOne K (.ref t.Vv) (.type "ValueError")=some true
 Zh3:W.exmOne K (.ref t.Vv) (.ref t.QC)=some true
 Zh4:V2 K t.Vu
 Zh5:Xy K t.Vu
 WA:KX K t.Vu [(t.Vu,true),(t.QD,false),(t.QE,false),(t.QF,false),(t.QG,false),(t.QH,false),(t.QI,false),(t.QJ,false),(t.Vv,false),(t.Vh,false),(t.Vi,false),(t.QK,false),(t.Vw,false),(t.QL,false),(t.QM,false),(t.QO,false),(t.QN,false)]
 Zh6:W.kitOne K (.ref t.Vu) (.type "ValueError")=some true
 Zh7:W.exmOne K (.ref t.Vu) (.ref t.QC)=some true
 Za0:V2 K t.Vw
 Zh8:Xy K t.Vw
 WB:KX K t.Vw [(t.Vu,false),(t.QD,false),(t.QE,false),(t.QF,false),(t.QG,false),(t.QH,false),(t.QI,false),(t.QJ,false),(t.Vv,false),(t.Vh,false),(t.Vi,false),(t.QK,false),(t.Vw,true),(t.QL,false),(t.QM,false),(t.QO,false),(t.QN,false)]
 Zh9:W.kitOne K (.ref t.Vw) (.type "ValueError")=some true
 Zia:W.exmOne K (.ref t.Vw) (.ref t.QC)=some true
 Zib:V2 K t.Vh
 Zic:Xy K t.Vh
 WC:KX K t.Vh [(t.Vu,false),(t.QD,false),(t.QE,false),(t.QF,false),(t.QG,false),(t.QH,false),(t.QI,false),(t.QJ,false),(t.Vv,false),(t.Vh,true),(t.Vi,false),(t.QK,false),(t.Vw,false),(t.QL,false),(t.QM,false),(t.QO,false),(t.QN,false)]
 Zid:W.kitOne K (.ref t.Vh) (.type "ValueError")=some true
 Zie:W.exmOne K (.ref t.Vh) (.ref t.QC)=some true
 Zif:V2 K t.Vi
 Zig:Xy K t.Vi
 WD:KX K t.Vi [(t.Vu,false),(t.QD,false),(t.QE,false),(t.QF,false),(t.QG,false),(t.QH,false),(t.QI,false),(t.QJ,false),(t.Vv,false),(t.Vh,false),(t.Vi,true),(t.QK,false),(t.Vw,false),(t.QL,false),(t.QM,false),(t.QO,false),(t.QN,false)]
 Zih:W.kitOne K (.ref t.Vi) (.type "ValueError")=some true
 Zii:W.exmOne K (.ref t.Vi) (.ref t.QC)=some true
 LN:t.P6.code=.ref t.C7
 Zij:W.codeHdIn K t.C7 t.Wr=true
 Zik:K.lookup t.Wr=none
 Zil:t.P7.code=.ref t.JV
 Zim:W.codeHdIn K t.JV t.Ut=true
 Zin:K.lookup t.Ut=none
 QU:t.Wr≠t.Ut
 kf:t.kf=K
section
variable{P:Program}{w:World}{K:Ow}{mg:Ov}{base:Heap}{t:Yn}
def YU(z:Str):Prop:=1<=z.length/\z.length<=8/\(∀c∈z.cps.toList,97<=c/\c<=122)/\True
inductive Zio(vs:List V)(H:Hp)(Q:VK)(_e3:XK):Prop|mk (v:V) (T:String) (_:vs=[v]) (_:Kd H v T) (_:Q (.bl (Zd8 v)) H)
theorem Zip(c:Zs K mg t):Zq P w K mg base Zt 1 t.uT t.uU ["value"] Zio:=by
 refine c.Zas.F.ok Zf5 (by lia) fun j A outer s H g Q E n h=>?_;obtain⟨v,T,rfl,f,q⟩:=h;refine⟨_,(Zh (Zx (VF (ZV V3 c.Y2 Y1 (Zr (pv 0) (VL R c.X0 XW))) (WR (Mh (ZV V3 c.Y2 Y1 (Zr (pv 0) (VL R c.Zak uO)))))))),?_⟩;sleep 1;refine⟨_,R,v,"int",_,_,R,f.ty,xJ f,_,R,?_⟩;cases f with
 |non=>exact Zn (by lia) q
 |str x=>exact Zn (by lia) q
 |lst e=>exact Zn (by lia) q
 |tup e=>exact Zn (by lia) q
 |dK e=>exact Zn (by lia) q
 |bl b=>exact ZH (by lia) ⟨_,R,_,"bool",_,_,R,(Kd.bl b).ty (H:=H),KY (H:=H) (.bl b),_,R,q⟩
 |int i=>exact ZH (by lia) ⟨_,R,_,"bool",_,_,R,(Kd.int i).ty (H:=H),KY (H:=H) (.int i),_,R,q⟩
inductive Ziq(vs:List V)(H:Hp)(Q:VK)(_e3:XK):Prop|mk (v:V) (lo hi:Int) (T:String) (_:vs=[v,.int lo,.int hi]) (_:Kd H v T) (_:Q (.bl (Xz v lo hi)) H)
theorem Qc(g:Zs K mg t):Zq P w K mg base Zt 2 t.uV t.uW ["value","least","most"] Ziq:=by
 refine g.UO.F.ok Zf6 (by lia) fun B A outer s H y Q E u h=>?_;obtain⟨v,lo,f,T,rfl,n,q⟩:=h;refine⟨_,(Zh (Zx (VF (ZC g.Zas (Zip g) u Zp (Zj (pv 0))) (WR (KL WS WS (pv 1) (pv 0) (pv 2)))))),?_⟩;sleep 1;refine⟨_,R,v,T,R,n,_,R,?_⟩;cases n with
 |non=>exact Zn SN q
 |str x=>exact Zn SN q
 |lst e=>exact Zn SN q
 |tup e=>exact Zn SN q
 |dK e=>exact Zn SN q
 |bl b=>exact Zn SN q
 |int i =>
  refine ZH R ?_;refine⟨_,R,_,R,_,_,R,R,_,R,?_⟩;refine WM (fun c=>?_) (fun c=>?_)
  ·refine⟨_,R,_,_,R,R,?_⟩
   have j:lo<=i:=SR c;have e:decide (i<=f)=Xz (.int i) lo f:=by
    show decide (i<=f)=decide (lo<=i/\i<=f);exact decide_eq_decide.mpr ⟨fun z=>⟨j,z⟩,fun z=>z.2⟩
   rw[<-e]at q;exact q
  ·have j:¬ lo<=i:=SS (Oh.mpr c)
   have e:false=Xz (.int i) lo f:=by
    show false=decide (lo<=i/\i<=f);exact(SQ fun z=>j z.1).symm
   rw[<-e]at q;exact q
inductive Zir(vs:List V)(H:Hp)(Q:VK)(_e3:XK):Prop|mk (a:Addr) (ss:OG) (n lo:Nat) (hi:Int) (_:vs=[.ref a,.int n,.int lo,.int hi]) (_:H a=some (.lst (Yb ss))) (_:1<=ss.length) (_:ss.length<=n) (_:ss.Pairwise (· < ·)) (_:(∀x∈ss,lo<=x/\((x:Nat):Int)<=hi)) (_:Q (.bl true) H)
theorem TF(g:Zs K mg t):Zq P w K mg base Zt 3 t.uX t.uY ["values","longest","least","most"] Zir:=by
 refine g.Lr.F.ok Lf (by lia) fun O A outer s H M Q E J h=>?_;obtain⟨a,c,n,lo,I,rfl,ha,U,S,up,G,q⟩:=h;refine⟨_,(Zi (ZJ (PW.pt (UX (YI (YL (ZV V3 g.Y2 Y1 (Zr (pv 0) (VL R g.Vj Vg))))) (UW (YI (Ms WS WS Zb (ZV Xm g.Y9 Y8 (Zj (pv 0))) (pv 1)))))) (Zh (Zx XD)) ZK) (Zi (ZR 4 Lf.nd (pv 2)) (Zi (XG (VZ (pv 0)) (ZY 5 Lf.nd) (Zi (ZJ (YI (YL (ZC g.UO (Qc g) J Zp (Yr (pv 5) (pv 4) (pv 3))))) (Zh (Zx XD)) ZK) (Zh (ZR 4 Lf.nd (Zd Ya (pv 5) Zb))))) (Zh (Zx XD))))),?_⟩;sleep 4;have hlen:(Yb c).length=c.length:=Sv ..;refine⟨_,R,.ref a,"list",_,_,R,.lst ha,R,_,R,Zn (by lia) ?_⟩;refine⟨_,R,a,_,R,.inl (Zg.of ha),_,_,R,R,_,R,ZH (SO (by rw[hlen];lia)) ?_⟩;refine⟨_,R,_,_,R,R,_,R,Zn (by rw[SO (show(((Yb c).length:Nat):Int)<=(n:Int) by rw[hlen];lia)];lia) ?_⟩;sleep 1;refine⟨_,R,_,R,a,R,⟨_,Zg.of ha⟩,E9 (xs:=Yb c) (fun i D C=>C=H/\∃(f:Nat) (v:Option V),D=[some (.ref a),some (.int n),some (.int lo),some (.int I),some (.int (f:Nat)),v]/\∀j x,i<=j->c[j]? = some x->f<=x)
  ⟨R,lo,_,R,fun j x _ e=>(G x (SJ e)).1⟩ (fun i D C _ ⟨e,_⟩=>by rw[e];exact Zg.of ha) ?_ ?_⟩
 ·rintro i x D C B ⟨rfl,f,v,rfl,L⟩
  rw[S0]at B;sleep 102;cases u:c[i]? with
  |none=>rw[u]at B;cases B
  |some m =>
   rw[u]at B;obtain rfl:V.int (m:Int)=x:=So B;have hm:=G m (SJ u);have T:=L i m (Sg _) u;refine⟨_,R,_,R,_,R,.int m,_,_,"int",R,.int _,_,R,Zn (by rw[VN (by lia) hm.2];lia) ?_⟩;refine⟨_,R,_,_,R,R,R,m+1,_,R,fun j y X e=>?_⟩;have:=List.pairwise_iff_getElem.mp up i j (Sr.mp u).1 (Sr.mp e).1 (by lia);rw[(Sr.mp u).2,(Sr.mp e).2]at this;exact this
 ·rintro D C ⟨rfl,f,v,rfl,_⟩
  exact q
abbrev rc(t:Yn):RC:=⟨t.XX,t.Vx,t.X9,t.WV,t.XY,t.XZ,t.Wy⟩
inductive WX(c:RC)(K:Ow)(q:RT->Prop)(n:Nat)(vs:List V)(H:Hp)(Q:VK)(_e3:XK):Prop|mk (a:Addr) (r:RT) (d:Nat) (_:vs=[.ref a,.int d]) (_:ZZ c K H a r) (_:q r) (_:r.depth<=n) (_:Q (.bl (r.runs d)) H)
def LO:RT->Prop|.always=>True|_=>False
def LP:RT->Prop|.week _=>True|_=>False
def Ke:RT->Prop|.span _ _ _=>True|_=>False
def LQ:RT->Prop|.each _ _=>True|_=>False
def Kf:RT->Prop|.either _ _=>True|_=>False
def Kg:RT->Prop|.both _ _=>True|_=>False
def Kh:RT->Prop|.but _ _=>True|_=>False
structure QV(P:Program)(w:World)(K:Ow)(mg:Ov)(base:Heap)(t:Yn)(n:Nat):Prop where
 rule:Zq P w K mg base Zt (n+1) t.Rb t.Rc ["self","day"] (WX (rc t) K LO n)
 week:Zq P w K mg base Zt (n+1) t.Rh t.Ri ["self","day"] (WX (rc t) K LP n)
 span:Zq P w K mg base Zt (n+1) t.Rm t.Rn ["self","day"] (WX (rc t) K Ke n)
 each:Zq P w K mg base Zt (n+1) t.Rr t.Rs ["self","day"] (WX (rc t) K LQ n)
 either:Zq P w K mg base Zt (n+1) t.Rw t.Rx ["self","day"] (WX (rc t) K Kf n)
 both:Zq P w K mg base Zt (n+1) t.RB t.RD ["self","day"] (WX (rc t) K Kg n)
 but:Zq P w K mg base Zt (n+1) t.RH t.RI ["self","day"] (WX (rc t) K Kh n)
theorem QV.at{n:Nat}(R:QV P w K mg base t n)(c:Zs K mg t){H:Hp}{a:Addr}{r:RT}(h:ZZ (rc t) K H a r)(hn:r.depth<=n) :
  ∃(C u:Addr) (fs:List (Str×V)) (f:Addr) (fd:OJ) (sp:Sp),H a=some (.ins C u fs)/\fs.lookup ("runs" : Str)=none/\YN K C/\Yz K C "runs" f/\Zq P w K mg base Zt (n+1) f fd ["self","day"] sp/\X8 K fd ["self","day"] [] /\
   ∀(d:Nat) (Q:VK),Q (.bl (r.runs d)) H->sp [.ref a,.int (d:Nat)] H Q E0:=by
 cases h with
 |always h=>exact⟨_,_,_,_,_,_,h,rfl,c.Ka,c.RS.me,R.rule,c.RS.b,fun d Q q=>⟨a,_,d,rfl,.always h,trivial,hn,q⟩⟩
 |week h x=>exact⟨_,_,_,_,_,_,h,rfl,c.U9,c.RW.me,R.week,c.RW.b,fun d Q q=>⟨a,_,d,rfl,.week h x,trivial,hn,q⟩⟩
 |span h y j e=>exact⟨_,_,_,_,_,_,h,rfl,c.WW,c.Lw.me,R.span,c.Lw.b,fun d Q q=>⟨a,_,d,rfl,.span h y j e,trivial,hn,q⟩⟩
 |each h v B g=>exact⟨_,_,_,_,_,_,h,rfl,c.Ue,c.R1.me,R.each,c.R1.b,fun d Q q=>⟨a,_,d,rfl,.each h v B g,trivial,hn,q⟩⟩
 |either h e i=>exact⟨_,_,_,_,_,_,h,rfl,c.Vz,c.Ly.me,R.either,c.Ly.b,fun d Q q=>⟨a,_,d,rfl,.either h e i,trivial,hn,q⟩⟩
 |both h e i=>exact⟨_,_,_,_,_,_,h,rfl,c.VA,c.LA.me,R.both,c.LA.b,fun d Q q=>⟨a,_,d,rfl,.both h e i,trivial,hn,q⟩⟩
 |but h g e=>exact⟨_,_,_,_,_,_,h,rfl,c.VO,c.LD.me,R.but,c.LD.b,fun d Q q=>⟨a,_,d,rfl,.but h g e,trivial,hn,q⟩⟩
theorem Za1(c:Zs K mg t)(n:Nat):Zq P w K mg base Zt (n+1) t.Rb t.Rc ["self","day"] (WX (rc t) K LO n):=by
 refine c.RS.F.ok Zgj (by lia) fun g A outer s H f Q E i h=>?_;obtain⟨a,r,d,rfl,h,e,hn,q⟩:=h;refine⟨_,(Zh (Zx XD)),?_⟩;sleep 1;cases r<;>first|exact q|exact e.elim
theorem Za2(c:Zs K mg t)(n:Nat):Zq P w K mg base Zt (n+1) t.Rh t.Ri ["self","day"] (WX (rc t) K LP n):=by
 refine c.RW.F.ok Zgm (by lia) fun u A outer s H j Q E v h=>?_;obtain⟨a,r,d,rfl,h,f,hn,q⟩:=h;refine⟨_,(Zh (Zx (VG YE (Zd ZcR (Zd ZcQ (ZU (pv 0) R) (Zd Z0 (pv 1) (Y0 R c.Zg0))) Zb) Zb (Uz _)))),?_⟩;sleep 1;cases h with
 |week h x =>
  rename_i i b;refine⟨_,R,a,_,_,_,_,R,h,c.U9,c.Tr,R,_,R,_,_,R,R,(by show(0:Int)<7;lia),_,_,R,R,Int.emod_nonneg _ (by lia),_,_,R,R,R,?_⟩;have e:((d:Int)%7).toNat=d%7:=by lia
  have g:decide (V.int (Builtin.bitAnd ((b:Int)/2 ^ ((d:Int)%7).toNat) 1)=V.int 1)=(RT.week b).runs d:=by
   rw[e];have:=Zed b (d%7);rw[WK];exact this
  rw[<-g]at q;exact q
 |_=>exact f.elim
theorem Za3(c:Zs K mg t)(n:Nat):Zq P w K mg base Zt (n+1) t.Rr t.Rs ["self","day"] (WX (rc t) K LQ n):=by
 refine c.R1.F.ok Zgr (by lia) fun x A outer s H v Q E y h=>?_;obtain⟨a,r,d,rfl,h,g,hn,q⟩:=h;refine⟨_,(Zh (Zx (VG KN (Zd Z0 (pv 1) (ZU (pv 0) R)) (ZU (pv 0) R) R))),?_⟩;sleep 1;cases h with
 |each h C B j =>
  rename_i u p m f;refine⟨_,R,_,R,a,_,_,_,_,R,h,c.Ue,c.Tw,R,_,_,R,R,(by show(0:Int)<_;lia),_,R,a,_,_,_,_,R,h,c.Ue,c.Tz,R,p,_,R,.inr j,R,K2 f,?_⟩;have e:(d:Int)%(m:Int)=((d%m:Nat):Int):=by lia
  have i:U1 (.int ((d:Int)%(m:Int))) (Yb f)=(RT.each m f).runs d:=by
   rw[e];exact F8 (d%m) f
  rw[<-i]at q;exact q
 |_=>exact g.elim
theorem Zis(c:Zs K mg t)(n:Nat)(R:QV P w K mg base t n):Zq P w K mg base Zt (n+2) t.Rm t.Rn ["self","day"] (WX (rc t) K Ke (n+1)):=by
 refine c.Lw.F.ok uD (by lia) fun L A outer s H J Q E I h=>?_;obtain⟨a,r,d,rfl,h,D,hn,q⟩:=h;refine⟨_,(Zh (Zx (VF (KL WS WS (ZU (pv 0) rfl) (pv 1) (ZU (pv 0) rfl)) (WR (U5 (ZU (pv 0) rfl) (Zj (pv 1))))))),?_⟩;sleep 1;cases h with
 |span h M O G =>
  rename_i S i x y r;have hd:r.depth<=n:=by
   have:(RT.span x y r).depth=1+r.depth:=rfl;lia
  obtain⟨C,v,fs,f,B,sp,g1,g2,g3,g4,g5,g6,g7⟩:=R.at c G hd;refine⟨_,rfl,a,_,_,_,_,rfl,h,c.WW,c.Tu,rfl,?_⟩;have g:∀b:Bool,b=(decide (x<=d) && decide (d<=y) && r.runs d)->Q (.bl b) H:=fun b e=>by rw[e];exact q
  refine⟨_,rfl,_,_,rfl,rfl,_,rfl,?_⟩;by_cases u:x<=d
  ·refine ZH (SO (by lia)) ?_
   refine⟨_,rfl,a,_,_,_,_,rfl,h,c.WW,c.Tv,rfl,_,_,rfl,rfl,_,rfl,?_⟩;by_cases j:d<=y
   ·refine ZH (SO (by lia)) ?_
    refine⟨_,rfl,a,_,_,_,_,rfl,h,c.WW,c.LF,rfl,i,C,v,fs,f,B,_,_,sp,Zt,E0,rfl,g1,g2,g3,g4,g5,I.mono (by lia),g6,Zp,_,rfl,?_⟩;exact g7 d Q (g _ (by rw[SO u,SO j];rfl))
   ·refine Zn (by rw[SQ (by lia)];lia) ?_
    exact g _ (by rw[SQ j,Bool.and_false,Bool.false_and])
  ·refine Zn (by rw[SQ (by lia)];lia) ?_
   exact⟨_,rfl,Zn (by lia) (g _ (by rw[SQ u,Bool.false_and,Bool.false_and]))⟩
 |_=>exact D.elim
theorem Zit(c:Zs K mg t)(n:Nat)(R:QV P w K mg base t n):Zq P w K mg base Zt (n+2) t.Rw t.Rx ["self","day"] (WX (rc t) K Kf (n+1)):=by
 refine c.Ly.F.ok uF (by lia) fun J A outer s H I Q E y h=>?_;obtain⟨a,r,d,rfl,h,B,hn,q⟩:=h;refine⟨_,(Zh (Zx (zE (U5 (ZU (pv 0) rfl) (Zj (pv 1))) (WR (U5 (ZU (pv 0) rfl) (Zj (pv 1))))))),?_⟩;sleep 1;cases h with
 |either h D G =>
  rename_i L i j r g;have hd:r.depth<=n/\g.depth<=n:=by
   have:(RT.either r g).depth=1+max r.depth g.depth:=rfl;lia
  obtain⟨C,v,fs,f,x,sp,g1,g2,g3,g4,g5,g6,g7⟩:=R.at c D hd.1;refine⟨_,rfl,a,_,_,_,_,rfl,h,c.Vz,c.LG,rfl,i,C,v,fs,f,x,_,_,sp,Zt,E0,rfl,g1,g2,g3,g4,g5,y.mono (by lia),g6,Zp,_,rfl,g7 d _ ⟨_,rfl,?_⟩⟩;have u:Q (.bl (r.runs d || g.runs d)) H:=q;cases e:r.runs d with
  |true=>exact ZH rfl (by rw[e]at u;exact u)
  |false =>
   refine Zn (by lia) ?_;obtain⟨C,v,fs,f,x,sp,g1,g2,g3,g4,g5,g6,g7⟩:=R.at c G hd.2;refine⟨_,rfl,a,_,_,_,_,rfl,h,c.Vz,c.LH,rfl,j,C,v,fs,f,x,_,_,sp,Zt,E0,rfl,g1,g2,g3,g4,g5,y.mono (by lia),g6,Zp,_,rfl,g7 d _ ?_⟩;rw[e,Bool.false_or]at u;exact u
 |_=>exact B.elim
theorem Ziu(c:Zs K mg t)(n:Nat)(R:QV P w K mg base t n):Zq P w K mg base Zt (n+2) t.RB t.RD ["self","day"] (WX (rc t) K Kg (n+1)):=by
 refine c.LA.F.ok uH (by lia) fun J A outer s H I Q E y h=>?_;obtain⟨a,r,d,rfl,h,B,hn,q⟩:=h;refine⟨_,(Zh (Zx (VF (U5 (ZU (pv 0) rfl) (Zj (pv 1))) (WR (U5 (ZU (pv 0) rfl) (Zj (pv 1))))))),?_⟩;sleep 1;cases h with
 |both h D G =>
  rename_i L i j r g;have hd:r.depth<=n/\g.depth<=n:=by
   have:(RT.both r g).depth=1+max r.depth g.depth:=rfl;lia
  obtain⟨C,v,fs,f,x,sp,g1,g2,g3,g4,g5,g6,g7⟩:=R.at c D hd.1;refine⟨_,rfl,a,_,_,_,_,rfl,h,c.VA,c.LI,rfl,i,C,v,fs,f,x,_,_,sp,Zt,E0,rfl,g1,g2,g3,g4,g5,y.mono (by lia),g6,Zp,_,rfl,g7 d _ ⟨_,rfl,?_⟩⟩;have u:Q (.bl (r.runs d && g.runs d)) H:=q;cases e:r.runs d with
  |false=>exact Zn (by lia) (by rw[e]at u;exact u)
  |true =>
   refine ZH rfl ?_;obtain⟨C,v,fs,f,x,sp,g1,g2,g3,g4,g5,g6,g7⟩:=R.at c G hd.2;refine⟨_,rfl,a,_,_,_,_,rfl,h,c.VA,c.LJ,rfl,j,C,v,fs,f,x,_,_,sp,Zt,E0,rfl,g1,g2,g3,g4,g5,y.mono (by lia),g6,Zp,_,rfl,g7 d _ ?_⟩;rw[e,Os]at u;exact u
 |_=>exact B.elim
theorem Ziv(c:Zs K mg t)(n:Nat)(R:QV P w K mg base t n):Zq P w K mg base Zt (n+2) t.RH t.RI ["self","day"] (WX (rc t) K Kh (n+1)):=by
 refine c.LD.F.ok uJ (by lia) fun G A outer s H D Q E y h=>?_;obtain⟨a,r,d,rfl,h,v,hn,q⟩:=h;refine⟨_,(Zh (Zx (VG Qm (U5 (ZU (pv 0) rfl) (Zj (pv 1))) (VG KN (pv 1) (ZU (pv 0) rfl) rfl) (Uz _)))),?_⟩;sleep 1;cases h with
 |but h B x =>
  rename_i I p i ds r;have hd:r.depth<=n:=by
   have:(RT.but ds r).depth=1+r.depth:=rfl;lia
  obtain⟨C,j,fs,f,u,sp,g1,g2,g3,g4,g5,g6,g7⟩:=R.at c x hd;refine⟨_,rfl,a,_,_,_,_,rfl,h,c.VO,c.LK,rfl,i,C,j,fs,f,u,_,_,sp,Zt,E0,rfl,g1,g2,g3,g4,g5,y.mono (by lia),g6,Zp,_,rfl,g7 d _ ?_⟩;refine⟨_,rfl,_,rfl,a,_,_,_,_,rfl,h,c.VO,c.TB,rfl,p,_,rfl,.inr B,rfl,K2 ds,rfl,?_⟩;have g:Q (.bl (r.runs d != ds.contains d)) H:=q;have e:(!decide (V.bl (r.runs d)=V.bl (U1 (.int (d:Int)) (Yb ds))))=(r.runs d != ds.contains d):=by
   rw[F8,KJ];rfl
  rw[<-e]at g;exact g
 |_=>exact v.elim
theorem Za4(c:Zs K mg t):∀n,QV P w K mg base t n
 |0=>by
  have no:∀{q:RT->Prop},∀vs H Q E,WX (rc t) K q 0 vs H Q E->False:=fun vs H Q E h=>by
   obtain⟨a,r,d,rfl,h,i,hn,_⟩:=h;have:=r.depth_pos;lia
  exact⟨Za1 c 0,Za2 c 0,
   c.Lw.F.ok uD (fun vs H Q E h=>(no vs H Q E h).elim) (fun f A outer s H vs Q E g h=>(no vs H Q E h).elim),Za3 c 0,
   c.Ly.F.ok uF (fun vs H Q E h=>(no vs H Q E h).elim) (fun f A outer s H vs Q E g h=>(no vs H Q E h).elim),
   c.LA.F.ok uH (fun vs H Q E h=>(no vs H Q E h).elim) (fun f A outer s H vs Q E g h=>(no vs H Q E h).elim),
   c.LD.F.ok uJ (fun vs H Q E h=>(no vs H Q E h).elim) (fun f A outer s H vs Q E g h=>(no vs H Q E h).elim)⟩
 |n+1=>have e:=Za4 c n
  ⟨Za1 c (n+1),Za2 c (n+1),Zis c n e,Za3 c (n+1),Zit c n e,Ziu c n e,Ziv c n e⟩
def TH(c:RC)(K:Ow)(H:Hp)(r:RT)(xs:List V):Prop:=match r with
 |.always|.week _|.each _ _=>xs=[]
 |.span _ _ r1|.but _ r1=>∃i,xs=[.ref i]/\ZZ c K H i r1
 |.either r1 e|.both r1 e=>∃i j,xs=[.ref i,.ref j]/\ZZ c K H i r1/\ZZ c K H j e
inductive Ki(c:RC)(K:Ow)(q:RT->Prop)(vs:List V)(H:Hp)(Q:VK)(_e3:XK):Prop|mk (a:Addr) (r:RT) (_:vs=[.ref a]) (_:ZZ c K H a r) (_:q r) (_:∀p xs,H p=none->TH c K H r xs->Q (.ref p) (Za H p (.lst xs)))
def Ziw:RT->Prop|.always|.week _|.each _ _=>True|_=>False
theorem TJ(c:Zs K mg t):Zq P w K mg base Zt 1 t.Li t.kC ["self"] (Ki (rc t) K Ziw):=by
 refine c.JZ.F.ok Zgi (by lia) fun i A outer s H g Q E j h=>?_;obtain⟨a,r,rfl,h,e,q⟩:=h;refine⟨_,(Zh (Zx (Z2 XE))),?_⟩;sleep 1;refine⟨by show 0<=sizeLine;lia,fun p f=>q p _ f ?_⟩;cases r<;>first|rfl|exact e.elim
theorem Zix(c:Zs K mg t):Zq P w K mg base Zt 1 t.kF t.kG ["self"] (Ki (rc t) K Ke):=by
 refine c.RY.F.ok Zgo (by lia) fun n A outer s H j Q E u h=>?_;obtain⟨a,r,rfl,h,f,q⟩:=h;refine⟨_,(Zh (Zx (Z2 (Zj (ZU (pv 0) R))))),?_⟩;sleep 1;cases h with
 |span h v i e=>exact⟨_,R,a,_,_,_,_,R,h,c.WW,c.LF,R,by show 1<=sizeLine;lia,fun p g=>q p _ g ⟨_,R,e⟩⟩
 |_=>exact f.elim
theorem Ziy(c:Zs K mg t):Zq P w K mg base Zt 1 t.kL t.kM ["self"] (Ki (rc t) K Kh):=by
 refine c.Ta.F.ok Zgx (by lia) fun j A outer s H i Q E n h=>?_;obtain⟨a,r,rfl,h,g,q⟩:=h;refine⟨_,(Zh (Zx (Z2 (Zj (ZU (pv 0) R))))),?_⟩;sleep 1;cases h with
 |but h e f=>exact⟨_,R,a,_,_,_,_,R,h,c.VO,c.LK,R,by show 1<=sizeLine;lia,fun p e=>q p _ e ⟨_,R,f⟩⟩
 |_=>exact g.elim
theorem Ziz(c:Zs K mg t):Zq P w K mg base Zt 1 t.kH t.kI ["self"] (Ki (rc t) K Kf):=by
 refine c.R6.F.ok Zgt (by lia) fun n A outer s H j Q E u h=>?_;obtain⟨a,r,rfl,h,f,q⟩:=h;refine⟨_,(Zh (Zx (Z2 (Zr (ZU (pv 0) R) (ZU (pv 0) R))))),?_⟩;sleep 1;cases h with
 |either h e i=>exact⟨_,R,a,_,_,_,_,R,h,c.Vz,c.LG,R,_,R,a,_,_,_,_,R,h,c.Vz,c.LH,R,by show 2<=sizeLine;lia,fun p g=>q p _ g ⟨_,_,R,e,i⟩⟩
 |_=>exact f.elim
theorem ZiA(c:Zs K mg t):Zq P w K mg base Zt 1 t.kJ t.kK ["self"] (Ki (rc t) K Kg):=by
 refine c.R8.F.ok Zgv (by lia) fun n A outer s H j Q E u h=>?_;obtain⟨a,r,rfl,h,f,q⟩:=h;refine⟨_,(Zh (Zx (Z2 (Zr (ZU (pv 0) R) (ZU (pv 0) R))))),?_⟩;sleep 1;cases h with
 |both h e i=>exact⟨_,R,a,_,_,_,_,R,h,c.VA,c.LI,R,_,R,a,_,_,_,_,R,h,c.VA,c.LJ,R,by show 2<=sizeLine;lia,fun p g=>q p _ g ⟨_,_,R,e,i⟩⟩
 |_=>exact f.elim
theorem Za5(c:Zs K mg t){H:Hp}{a:Addr}{r:RT}(h:ZZ (rc t) K H a r) :
  ∃(C n:Addr) (fs:List (Str×V)) (f:Addr) (fd:OJ) (sp:Sp),H a=some (.ins C n fs)/\fs.lookup ("parts" : Str)=none/\YN K C/\Yz K C "parts" f/\Zq P w K mg base Zt 1 f fd ["self"] sp/\X8 K fd ["self"] [] /\
   ∀(Q:VK),(∀p xs,H p=none->TH (rc t) K H r xs->Q (.ref p) (Za H p (.lst xs)))->sp [.ref a] H Q E0:=by
 cases h with
 |always h=>exact⟨_,_,_,_,_,_,h,R,c.Ka,c.JZ.me,TJ c,c.JZ.b,fun Q q=>⟨a,_,R,.always h,trivial,q⟩⟩
 |week h v=>exact⟨_,_,_,_,_,_,h,R,c.U9,c.Zhi,TJ c,c.JZ.b,fun Q q=>⟨a,_,R,.week h v,trivial,q⟩⟩
 |span h x j e=>exact⟨_,_,_,_,_,_,h,R,c.WW,c.RY.me,Zix c,c.RY.b,fun Q q=>⟨a,_,R,.span h x j e,trivial,q⟩⟩
 |each h u y g=>exact⟨_,_,_,_,_,_,h,R,c.Ue,c.Zhn,TJ c,c.JZ.b,fun Q q=>⟨a,_,R,.each h u y g,trivial,q⟩⟩
 |either h e i=>exact⟨_,_,_,_,_,_,h,R,c.Vz,c.R6.me,Ziz c,c.R6.b,fun Q q=>⟨a,_,R,.either h e i,trivial,q⟩⟩
 |both h e i=>exact⟨_,_,_,_,_,_,h,R,c.VA,c.R8.me,ZiA c,c.R8.b,fun Q q=>⟨a,_,R,.both h e i,trivial,q⟩⟩
 |but h g e=>exact⟨_,_,_,_,_,_,h,R,c.VO,c.Ta.me,Ziy c,c.Ta.b,fun Q q=>⟨a,_,R,.but h g e,trivial,q⟩⟩
theorem LR(c:Zs K mg t){H:Hp}{a:Addr}{r:RT}(h:ZZ (rc t) K H a r):∃(C f:Addr) (fs:List (Str×V)),H a=some (.ins C f fs)/\YN K C/\(fs.lookup ("weight" : Str)=none/\Yz K C "weight" t.UM)/\(fs.lookup ("depth" : Str)=none/\Yz K C "depth" t.UN):=by
 cases h with
 |always h=>exact⟨_,_,_,h,c.Ka,⟨R,c.J0.me⟩,⟨R,c.J1.me⟩⟩
 |week h q=>exact⟨_,_,_,h,c.U9,⟨R,c.Zhj⟩,⟨R,c.Zhh⟩⟩
 |span h u j e=>exact⟨_,_,_,h,c.WW,⟨R,c.Zhl⟩,⟨R,c.Zhk⟩⟩
 |each h n v g=>exact⟨_,_,_,h,c.Ue,⟨R,c.Zho⟩,⟨R,c.Zhm⟩⟩
 |either h e i=>exact⟨_,_,_,h,c.Vz,⟨R,c.Zhq⟩,⟨R,c.Zhp⟩⟩
 |both h e i=>exact⟨_,_,_,h,c.VA,⟨R,c.Zhs⟩,⟨R,c.Zhr⟩⟩
 |but h g e=>exact⟨_,_,_,h,c.VO,⟨R,c.Zhu⟩,⟨R,c.Zht⟩⟩
inductive ZiB(P:Program)(w:World)(K:Ow)(mg:Ov)(base:Heap)(k:Nat)(m:Str)(Q:VK)(x:V)(H1:Hp):Prop|mk (a C dx:Addr) (fs:List (Str×V)) (f:Addr) (fd:OJ) (ps:OC) (sp:Sp) (_:x=.ref a) (_:H1 a=some (.ins C dx fs)) (_:fs.lookup m=none) (_:YN K C) (_:Yz K C m f) (_:Zq P w K mg base Zt k f fd ps sp) (_:X8 K fd ps []) (_:sp [.ref a] H1 Q E0)
def ZiC(P:Program)(w:World)(K:Ow)(mg:Ov)(base:Heap)(k:Nat)(m:Str)(f:TE):TE:=fun c H Q=>f c H fun x e=>ZiB P w K mg base k m Q x e
theorem Za6{X:Cx}{m:Str}{o:Expr}{j:TE}{e apos:Pos}{pl:Sem Bool}(P:Program)(w:World)(K:Ow)(mg:Ov)(base:Heap)(k:Nat)(E:YA k X.A)(L:PE X o j)
  (M:X.prog=P:=by rfl) (G:X.w=w:=by rfl) (y:X.K=K:=by rfl) (hm:X.mg=mg:=by rfl) (i:X.base=base:=by rfl)
  (D:eval (.Call (.Attribute o m apos) [] [] e) X.env=(do
   let n <-eval o X.env
   standAt apos.atName
   let (f,first) <-holding [n] (getMethod n m pl)
   callWith e f first (backTo e (starEach [] X.env)) (backToKw e (keywordEach [] X.env))):=by rfl) :
  PE X (.Call (.Attribute o m apos) [] [] e) (ZiC P w K mg base k m j):=by
 subst M G y hm i;intro pins s J H Q I h;refine W.methodCall_KW (pl:=pl) (Zv (L pins s J H _ I h) fun u T ⟨x,S,g,B,a,C,U,fs,f,O,Y,sp,ex,v,l,c,hm,F,i,q⟩=>?_) D;subst ex;obtain rfl:u=Value.ref a:=B;refine F2 g v c hm l ?_;exact W.callWith_K0 (first:=[.ref a]) g.kIn hm.kp (Qq (us:=[.ref a]) (vs:=[.ref a]) (dvs:=[]) F E i .nil Zp g (.cons R .nil) q)
def WY:RT->List RT
 |.always|.week _|.each _ _=>[]
 |.span _ _ r|.but _ r=>[r]
 |.either r s|.both r s=>[r,s]
theorem TK(r:RT):r.weight=1+((WY r).map RT.weight).sum:=by
 cases r<;>simp[WY,RT.weight]
theorem Za7{r k:RT}(h:k∈WY r):k.depth<r.depth:=by
 cases r<;>simp[WY]at h
 all_goals simp only[RT.depth]
 ·subst h;lia
 ·rcases h with rfl|rfl<;>omega
 ·rcases h with rfl|rfl<;>omega
 ·subst h;lia
theorem Za8(r:RT):(WY r).length<=2:=by
 cases r<;>simp[WY]
theorem Za9{c:RC}{K:Ow}{H:Hp}{r:RT}{xs:List V}(h:TH c K H r xs):xs.length=(WY r).length/\∀(i:Nat) (x:V),xs[i]? = some x->∃(j:Addr) (k:RT),x=.ref j/\(WY r)[i]? = some k/\ZZ c K H j k:=by
 have none:∀(i:Nat) (x:V),([]:List V)[i]? = some x->False:=fun i x e=>by cases e
 have one:∀{a:Addr} {r1:RT},ZZ c K H a r1->∀(i:Nat) (x:V),[V.ref a][i]? = some x->∃(j:Addr) (k:RT),x=.ref j/\[r1][i]? = some k/\ZZ c K H j k:=fun{a r1} q i x e=>by
  match i,e with
  |0,e=>exact⟨a,r1,(So e).symm,R,q⟩
  |_+1,e=>cases e
 have v:∀{a b:Addr} {r1 f:RT},ZZ c K H a r1->ZZ c K H b f->∀(i:Nat) (x:V),[V.ref a,V.ref b][i]? = some x->∃(j:Addr) (k:RT),x=.ref j/\[r1,f][i]? = some k/\ZZ c K H j k:=fun{a b r1 f} g u i x e=>by
  match i,e with
  |0,e=>exact⟨a,r1,(So e).symm,R,g⟩
  |1,e=>exact⟨b,f,(So e).symm,R,u⟩
  |_+2,e=>cases e
 cases r with
 |always=>cases h;exact⟨R,fun i x e=>(none i x e).elim⟩
 |week b=>cases h;exact⟨R,fun i x e=>(none i x e).elim⟩
 |each n y=>cases h;exact⟨R,fun i x e=>(none i x e).elim⟩
 |span a b r1=>obtain⟨i,rfl,q⟩:=h;exact⟨R,one q⟩
 |but ds r1=>obtain⟨i,rfl,q⟩:=h;exact⟨R,one q⟩
 |either r1 f=>obtain⟨i,j,rfl,g,u⟩:=h;exact⟨R,v g u⟩
 |both r1 f=>obtain⟨i,j,rfl,g,u⟩:=h;exact⟨R,v g u⟩
theorem Zba:∀l:List Nat,(l.map fun n=>((n:Nat):Int)).sum=((l.sum:Nat):Int)
 |[]=>rfl
 |x::r=>by
  rw[SL,List.sum_cons,List.sum_cons,Zba r];lia
theorem TL{x:Nat}:∀{l:OG},x∈l->x<=l.sum
 |y::r,h=>by
  rw[List.sum_cons];rcases SE.mp h with rfl|h
  ·omega
  ·have:=TL h
   lia
inductive ZiD(c:RC)(K:Ow)(n:Nat)(vs:List V)(H:Hp)(Q:VK)(_e3:XK):Prop|mk (a:Addr) (r:RT) (_:vs=[.ref a]) (_:ZZ c K H a r) (_:r.depth<=n) (_:r.weight<=1000000) (_:∀H',Ze H H'->Q (.int (r.weight:Nat)) H')
theorem ZiE(u:Zs K mg t):∀n:Nat,Zq P w K mg base Zt (n+1) t.UM t.kD ["self"] (ZiD (rc t) K n):=by
 intro n
 induction n with
 |zero =>
  refine u.J0.F.ok uA (fun G H Q E h=>?_) (fun X A outer s H G Q E D h=>?_)
  ·obtain⟨a,r,rfl,_⟩:=h
   rfl
  ·obtain⟨a,r,rfl,h,hd,_⟩:=h
   have:=r.depth_pos;lia
 |succ n ih =>
 refine u.J0.F.ok uA (by lia) fun X A outer s H G Q E D h=>?_;obtain⟨a,r,rfl,h,hd,hw,q⟩:=h;refine⟨_,(Zh (Zx (Zd Ya Zb (ZV (Zec R) u.ZgV ZgS (Zj (U4 (cl:=[]) (N:=["part"]) (fr:=[none]) R (VZ (F7 (pv 0))) R (by lia) R (by lia) trivial trivial R (fun _ _ _ _ _=>Mj (i:=0) (F6 _) R (Or.inl R)) (fun _ _ _ _ _=>U3) (fun _ _ _ _ _=>Za6 P w K mg base (n+1) (D.mono (by lia)) (pv 0)))))))),?_⟩;sleep 1;obtain⟨C,dx,fs,f,T,sp,l,lk,cl,me,F,hb,pp⟩:=Za5 (P:=P) (w:=w) (mg:=mg) (base:=base) u h;refine⟨_,R,a,C,dx,fs,f,T,_,_,sp,Zt,E0,R,l,lk,cl,me,F,D.mono (by lia),hb,Zp,pp _ fun p xs hp B=>?_⟩;obtain⟨hl,hk⟩:=Za9 B;have kl:=Za8 r;have M:Ze H (Za H p (.lst xs)):=Zy hp _;refine⟨p,R,⟨xs,Zg.of Zm⟩,A8 (K:=K) (a:=p) (xs:=xs) (fun i g y x=>Ze (Za H p (.lst xs)) x/\g=(((WY r).take i).map fun k=>V.int (k.weight:Nat))/\∃v,y=[v])
  ⟨Ze.refl _,R,_,R⟩ (by show xs.length<=sizeLine;exact Sh (by lia) (show 2<=sizeLine by lia)) (fun i g y x _ ⟨c,_⟩=>Zg.of (c _ _ Zm)) ?_ ?_⟩
 ·rintro i a0 g y x ha B ⟨c,e,v,rfl⟩
  obtain⟨j,k,rfl,J,c0⟩:=hk i a0 B;have L:k∈WY r:=SJ J;have kd:=Za7 L;have kw:k.weight<=r.weight:=by
   rw[TK r];have:=TL (List.mem_map_of_mem (f:=RT.weight) L);lia
  dsimp only[Wg,UF];rw[SV R];have O:=c0.same (M.trans c);obtain⟨C2,S,U,Y,Z,⟨b0,d0⟩,_⟩:=LR u O;refine⟨_,R,j,C2,S,U,_,_,_,_,R,Y,b0,Z,d0,ih,u.J0.b,j,k,R,O,by lia,by lia,fun H3 s3=>⟨?_,c.trans s3,?_,_,R⟩⟩
  ·rw[Su,Sw];lia
  ·rw[e,SZ,J]
   simp
 ·rintro g y x ha ⟨c,e,v,rfl⟩ p3 g3
  have e2:g=((((WY r).map RT.weight).map fun n=>((n:Nat):Int)).map V.int):=by
   rw[e,hl,List.take_length,Od,Od];rfl
  refine⟨p3,_,R,Zg.of (by rw[Zm,e2]),?_,?_,?_⟩
  ·intro n hn
   obtain⟨m,hm,rfl⟩:=SI.mp hn;have:=TL hm;have:=TK r;lia
  ·rw[Sv,Sv];lia
  ·have s4:=(M.trans c).trans (Zy g3 (.lst g))
   have I:=q _ s4;rw[TK r]at I;refine⟨_,_,R,R,?_⟩;rw[Zba];exact I
theorem Zbb:∀(l:OG) (x:Nat),VM (some (x:Int)) (l.map fun n=>((n:Nat):Int))=some (((l.foldl max x:Nat)):Int)
 |[],x=>rfl
 |y::r,x=>by
  show VM (some (B0 (some (x:Int)) (y:Int))) _=_;have e:B0 (some (x:Int)) (y:Int)=((max x y:Nat):Int):=by
   show(if (y:Int)>(x:Int)then (y:Int)else (x:Int))=_
   split<;>omega
  rw[e];exact Zbb r (max x y)
theorem ZiF(r:RT):(1:Int)+(VM none (((WY r).map RT.depth).map fun n=>((n:Nat):Int))).getD 0=((r.depth:Nat):Int):=by
 have one:∀k:Nat,(1:Int)+(VM none ([k].map fun n=>((n:Nat):Int))).getD 0=((1+k:Nat):Int):=fun k=>by
  show(1:Int)+(k:Int)=_;lia
 have c:∀k m:Nat,(1:Int)+(VM none ([k,m].map fun n=>((n:Nat):Int))).getD 0=((1+max k m:Nat):Int):=fun k m=>by
  show(1:Int)+(VM (some (k:Int)) ([m].map fun n=>((n:Nat):Int))).getD 0=_;rw[Zbb];show(1:Int)+((max k m:Nat):Int)=_;lia
 cases r with
 |always=>rfl
 |week b=>rfl
 |each n f=>rfl
 |span a b r1=>exact one _
 |but ds r1=>exact one _
 |either r1 e=>exact c _ _
 |both r1 e=>exact c _ _
inductive ZiG(c:RC)(K:Ow)(n:Nat)(vs:List V)(H:Hp)(Q:VK)(_e3:XK):Prop|mk (a:Addr) (r:RT) (_:vs=[.ref a]) (_:ZZ c K H a r) (_:r.depth<=n) (_:∀H',Ze H H'->Q (.int (r.depth:Nat)) H')
theorem ZiH(u:Zs K mg t):∀n:Nat,Zq P w K mg base Zt (n+1) t.UN t.kE ["self"] (ZiG (rc t) K n):=by
 intro n
 induction n with
 |zero =>
  refine u.J1.F.ok uB (fun I H Q E h=>?_) (fun X A outer s H I Q E G h=>?_)
  ·obtain⟨a,r,rfl,_⟩:=h
   rfl
  ·obtain⟨a,r,rfl,h,hd,_⟩:=h
   have:=r.depth_pos;lia
 |succ n ih =>
 refine u.J1.F.ok uB (by lia) fun X A outer s H I Q E G h=>?_;obtain⟨a,r,rfl,h,hd,q⟩:=h;refine⟨_,(Zh (Zx (Zd Ya Zb (Zek R R u.Zam uP (Ym (U4 (cl:=[]) (N:=["part"]) (fr:=[none]) R (VZ (F7 (pv 0))) R (by lia) R (by lia) trivial trivial R (fun _ _ _ _ _=>Mj (i:=0) (F6 _) R (Or.inl R)) (fun _ _ _ _ _=>U3) (fun _ _ _ _ _=>Za6 P w K mg base (n+1) (G.mono (by lia)) (pv 0))) XE) (Zdk Zb Zdj))))),?_⟩;sleep 1;obtain⟨C,dx,fs,f,T,sp,l,lk,cl,me,F,hb,pp⟩:=Za5 (P:=P) (w:=w) (mg:=mg) (base:=base) u h;refine⟨_,R,a,C,dx,fs,f,T,_,_,sp,Zt,E0,R,l,lk,cl,me,F,G.mono (by lia),hb,Zp,pp _ fun p xs hp D=>?_⟩;obtain⟨hl,hk⟩:=Za9 D;have kl:=Za8 r;have M:Ze H (Za H p (.lst xs)):=Zy hp _;refine⟨p,R,⟨xs,Zg.of Zm⟩,A8 (K:=K) (a:=p) (xs:=xs) (fun i g B y=>Ze (Za H p (.lst xs)) y/\g=(((WY r).take i).map fun k=>V.int (k.depth:Nat))/\∃v,B=[v])
  ⟨Ze.refl _,R,_,R⟩ (by show xs.length<=sizeLine;exact Sh (by lia) (show 2<=sizeLine by lia)) (fun i g B y _ ⟨c,_⟩=>Zg.of (c _ _ Zm)) ?_ ?_⟩
 ·rintro i x g B y ha D ⟨c,e,v,rfl⟩
  obtain⟨j,k,rfl,L,b0⟩:=hk i x D;have km:k∈WY r:=SJ L;have kd:=Za7 km;dsimp only[Wg,UF];rw[SV R];have O:=b0.same (M.trans c);obtain⟨C2,S,U,Y,Z,_,⟨a0,c0⟩⟩:=LR u O;refine⟨_,R,j,C2,S,U,_,_,_,_,R,Y,a0,Z,c0,ih,u.J1.b,j,k,R,O,by lia,fun H3 s3=>⟨?_,c.trans s3,?_,_,R⟩⟩
  ·rw[Su,Sw];lia
  ·rw[e,SZ,L]
   simp
 ·rintro g B y ha ⟨c,e,v,rfl⟩ p3 g3
  have e2:g=((((WY r).map RT.depth).map fun n=>((n:Nat):Int)).map V.int):=by
   rw[e,hl,List.take_length,Od,Od];rfl
  have s4:=(M.trans c).trans (Zy g3 (.lst g));have J:=q _ s4;rw[<-ZiF r]at J;exact⟨p3,_,0,R,R,Zg.of (by rw[Zm,e2]),_,_,R,R,J⟩
inductive ZiI(c:RC)(K:Ow)(vs:List V)(H:Hp)(Q:VK)(_e3:XK):Prop|mk (a:Addr) (r:RT) (_:vs=[.ref a]) (_:ZZ c K H a r) (_:r.weight<=15) (_:r.depth<=8) (_:∀H',Ze H H'->Q .non H')
theorem LS(c:Zs K mg t):Zq P w K mg base Zt 10 t.qB t.qC ["rule"] (ZiI (rc t) K):=by
 refine c.JW.F.ok Zf9 (by lia) fun u A outer s H n Q E f h=>?_;obtain⟨a,r,rfl,h,x,hd,q⟩:=h;refine⟨_,(Zi (ZJ (Z5 F1 (F7 (pv 0)) (Y0 R c.Zg3)) (Zh Xv) ZK) (Zh (ZJ (Z5 F1 (F7 (pv 0)) (Y0 R c.Zg4)) (Zh Xv) ZK))),?_⟩;sleep 2;obtain⟨C,e,fs,l,cl,⟨lk,me⟩,_⟩:=LR c h;refine⟨_,R,a,C,e,fs,_,_,_,_,_,Zt,E0,R,l,lk,cl,me,ZiE c 8,f.mono (by lia),c.J0.b,Zp,a,r,R,h,hd,by lia,fun v g=>?_⟩;refine⟨_,_,R,R,_,R,Zn (by rw[SQ (by lia)];lia) ?_⟩;sleep 1;have i:=h.same g;obtain⟨C,e,fs,l,cl,_,⟨lk,me⟩⟩:=LR c i;refine⟨_,R,a,C,e,fs,_,_,_,_,_,Zt,E0,R,l,lk,cl,me,ZiH c 8,f.mono (by lia),c.J1.b,Zp,a,r,R,i,hd,fun j s2=>?_⟩;exact⟨_,_,R,R,_,R,Zn (by rw[SQ (by lia)];lia) (q j (g.trans s2))⟩
inductive WZ(c:RC)(K:Ow)(q:RT->Prop)(n:Nat)(vs:List V)(H:Hp)(Q:VK)(_e3:XK):Prop|mk (a:Addr) (r:RT) (_:vs=[.ref a]) (_:ZZ c K H a r) (_:q r) (_:r.good) (_:r.weight<=15) (_:r.depth<=8) (_:r.depth<=n) (_:∀b H',Ze H H'->ZZ c K (Xd H' H) b r->Q (.ref b) H')
structure VP(P:Program)(w:World)(K:Ow)(mg:Ov)(base:Heap)(t:Yn)(n:Nat):Prop where
 rule:Zq P w K mg base Zt (4*n+10) t.P9 t.Ra ["self"] (WZ (rc t) K LO n)
 week:Zq P w K mg base Zt (4*n+10) t.Rf t.Rg ["self"] (WZ (rc t) K LP n)
 span:Zq P w K mg base Zt (4*n+10) t.Rk t.Rl ["self"] (WZ (rc t) K Ke n)
 each:Zq P w K mg base Zt (4*n+10) t.Rp t.Rq ["self"] (WZ (rc t) K LQ n)
 either:Zq P w K mg base Zt (4*n+10) t.Ru t.Rv ["self"] (WZ (rc t) K Kf n)
 both:Zq P w K mg base Zt (4*n+10) t.Rz t.RA ["self"] (WZ (rc t) K Kg n)
 but:Zq P w K mg base Zt (4*n+10) t.RF t.RG ["self"] (WZ (rc t) K Kh n)
theorem VP.at{n:Nat}(R:VP P w K mg base t n)(c:Zs K mg t){H:Hp}{a:Addr}{r:RT}(h:ZZ (rc t) K H a r)(g:r.good)(i:r.weight<=15)(hd:r.depth<=8)(hn:r.depth<=n) :
  ∃(C y:Addr) (fs:List (Str×V)) (f:Addr) (fd:OJ) (sp:Sp),H a=some (.ins C y fs)/\fs.lookup ("copied" : Str)=none/\YN K C/\Yz K C "copied" f/\Zq P w K mg base Zt (4*n+10) f fd ["self"] sp/\X8 K fd ["self"] [] /\
   ∀(Q:VK),(∀b j,Ze H j->ZZ (rc t) K (Xd j H) b r->Q (.ref b) j)->sp [.ref a] H Q E0:=by
 cases h with
 |always h=>exact⟨_,_,_,_,_,_,h,rfl,c.Ka,c.RR.me,R.rule,c.RR.b,fun Q q=>⟨a,_,rfl,.always h,trivial,g,i,hd,hn,q⟩⟩
 |week h E=>exact⟨_,_,_,_,_,_,h,rfl,c.U9,c.RV.me,R.week,c.RV.b,fun Q q=>⟨a,_,rfl,.week h E,trivial,g,i,hd,hn,q⟩⟩
 |span h G x e=>exact⟨_,_,_,_,_,_,h,rfl,c.WW,c.Lv.me,R.span,c.Lv.b,fun Q q=>⟨a,_,rfl,.span h G x e,trivial,g,i,hd,hn,q⟩⟩
 |each h D B u=>exact⟨_,_,_,_,_,_,h,rfl,c.Ue,c.R0.me,R.each,c.R0.b,fun Q q=>⟨a,_,rfl,.each h D B u,trivial,g,i,hd,hn,q⟩⟩
 |either h e v=>exact⟨_,_,_,_,_,_,h,rfl,c.Vz,c.Lx.me,R.either,c.Lx.b,fun Q q=>⟨a,_,rfl,.either h e v,trivial,g,i,hd,hn,q⟩⟩
 |both h e v=>exact⟨_,_,_,_,_,_,h,rfl,c.VA,c.Lz.me,R.both,c.Lz.b,fun Q q=>⟨a,_,rfl,.both h e v,trivial,g,i,hd,hn,q⟩⟩
 |but h u e=>exact⟨_,_,_,_,_,_,h,rfl,c.VO,c.LB.me,R.but,c.LB.b,fun Q q=>⟨a,_,rfl,.but h u e,trivial,g,i,hd,hn,q⟩⟩
theorem ZiJ(c:Zs K mg t){H:Hp}{a:Addr}{r:RT}(h:ZZ (rc t) K H a r):∃C,Wi K H (.ref a) (.ref C)/\W.kitOne K (.ref C) (.ref t.XX)=some true:=by
 cases h with
 |always h=>exact⟨_,c.Zhx.ty c.Ka h,c.Zhy⟩
 |week h n=>exact⟨_,c.Zhz.ty c.U9 h,c.ZhA⟩
 |span h q i e=>exact⟨_,c.ZhB.ty c.WW h,c.ZhC⟩
 |each h j u f=>exact⟨_,c.ZhD.ty c.Ue h,c.ZhE⟩
 |either h e g=>exact⟨_,c.ZhF.ty c.Vz h,c.ZhG⟩
 |both h e g=>exact⟨_,c.ZhH.ty c.VA h,c.ZhI⟩
 |but h f e=>exact⟨_,c.ZhJ.ty c.VO h,c.ZhK⟩
inductive ZiK(c:RC)(K:Ow)(n:Nat)(vs:List V)(H:Hp)(Q:VK)(_e3:XK):Prop|mk (a:Addr) (r:RT) (_:vs=[.ref a]) (_:ZZ c K H a r) (_:r.good) (_:r.weight<=15) (_:r.depth<=8) (_:r.depth<=n) (_:∀b H',Ze H H'->ZZ c K (Xd H' H) b r->Q (.ref b) H')
theorem QW(c:Zs K mg t)(n:Nat)(R:VP P w K mg base t n):Zq P w K mg base Zt (4*n+11) t.P2 t.P3 ["rule"] (ZiK (rc t) K n):=by
 refine c.UP.F.ok Zf8 (by lia) fun y A outer s H x Q E u h=>?_;obtain⟨a,r,rfl,h,g,v,hd,hn,q⟩:=h;refine⟨_,(Zi (ZJ (YI (YL (ZV ZdY c.Y2 Y1 (Zr (pv 0) (Wj rfl c.TD))))) (Zh Xv) ZK) (Zh (Zx (F7 (pv 0))))),?_⟩;sleep 2;obtain⟨B,ty,e⟩:=ZiJ c h;refine⟨_,rfl,.ref a,t.XX,_,_,rfl,ty,e,_,rfl,Zn (by lia) ?_⟩;sleep 1;obtain⟨C,j,fs,f,i,sp,g1,g2,g3,g4,g5,g6,g7⟩:=R.at c h g v hd hn;exact⟨_,rfl,a,C,j,fs,f,i,_,_,sp,Zt,E0,rfl,g1,g2,g3,g4,g5,u.mono (by lia),g6,Zp,g7 _ q⟩
theorem Kj(f:Str)(v:V):(Z4 f v []).length<1000:=Sj (A3 _ _ _) (by lia)
theorem ZiL(f g:Str)(v u:V):(Z4 f v (Z4 g u [])).length<1000:=Sj (A3 _ _ _) (Sj (Nat.succ_le_succ (A3 _ _ _)) (by lia))
structure C9(H0 H:Hp)(x C:Addr):Prop where
 no:H0 x=none
 sm:Ze H0 H
 at_:∃dx,H x=some (.ins C dx [])
inductive Zbc(c:RC)(K:Ow)(vs:List V)(H:Hp)(Q:VK)(_e3:XK):Prop|mk (x:Addr) (H0:Hp) (b:Nat) (_:vs=[.ref x,.int b]) (_:C9 H0 H x c.week) (_:b<=127) (_:∀H',Ze H0 H'->ZZ c K (Xd H' H0) x (.week b)->Q .non H')
inductive Zbd(c:RC)(K:Ow)(vs:List V)(H:Hp)(Q:VK)(_e3:XK):Prop|mk (x l:Addr) (H0:Hp) (n:Nat) (ss:OG) (_:vs=[.ref x,.int n,.ref l]) (_:C9 H0 H x c.each) (_:H0 l=some (.lst (Yb ss))) (_:(RT.each n ss).good) (_:∀H',Ze H0 H'->ZZ c K (Xd H' H0) x (.each n ss)->Q .non H')
inductive Zbe(c:RC)(K:Ow)(n:Nat)(vs:List V)(H:Hp)(Q:VK)(_e3:XK):Prop|mk (x i:Addr) (H0:Hp) (a b:Nat) (r:RT) (_:vs=[.ref x,.int a,.int b,.ref i]) (_:C9 H0 H x c.span) (_:ZZ c K H0 i r) (_:(RT.span a b r).good) (_:(RT.span a b r).weight<=15) (_:(RT.span a b r).depth<=8) (_:r.depth<=n) (_:∀H',Ze H0 H'->ZZ c K (Xd H' H0) x (.span a b r)->Q .non H')
inductive Zbf(c:RC)(K:Ow)(n:Nat)(vs:List V)(H:Hp)(Q:VK)(_e3:XK):Prop|mk (x l i:Addr) (H0:Hp) (ds:OG) (r:RT) (_:vs=[.ref x,.ref l,.ref i]) (_:C9 H0 H x c.but) (_:H0 l=some (.lst (Yb ds))) (_:ZZ c K H0 i r) (_:(RT.but ds r).good) (_:(RT.but ds r).weight<=15) (_:(RT.but ds r).depth<=8) (_:r.depth<=n) (_:∀H',Ze H0 H'->ZZ c K (Xd H' H0) x (.but ds r)->Q .non H')
inductive LU(c:RC)(K:Ow)(n:Nat)(C:Addr)(mk:RT->RT->RT)(vs:List V)(H:Hp)(Q:VK)(_e3:XK):Prop|mk (x i j:Addr) (H0:Hp) (r s:RT) (_:vs=[.ref x,.ref i,.ref j]) (_:C9 H0 H x C) (_:ZZ c K H0 i r) (_:ZZ c K H0 j s) (_:(mk r s).good) (_:(mk r s).weight<=15) (_:(mk r s).depth<=8) (_:r.depth<=n) (_:s.depth<=n) (_:∀H',Ze H0 H'->ZZ c K (Xd H' H0) x (mk r s)->Q .non H')
theorem Zbg(c:Zs K mg t):Zq P w K mg base Zt 3 t.Lj t.Re ["self","bits"] (Zbc (rc t) K):=by
 refine c.RU.F.ok Zgk (by lia) fun y A outer s H v Q E j h=>?_;obtain⟨x,u,b,rfl,⟨e,g,f,n⟩,i,q⟩:=h;refine⟨_,(Zi (ZJ (YI (YL (ZC c.UO (Qc c) j Zp (Yr (pv 1) Zb (Y0 R c.Zg1))))) (Zh Xv) ZK) (Zh (XT (pv 0) (pv 1) R))),?_⟩;sleep 2;refine⟨_,R,.int b,0,127,"int",R,.int _,_,R,Zn (by rw[VN (by lia) (by lia)];lia) ?_⟩;sleep 1;exact⟨_,R,_,R,x,_,f,[],R,n,c.U9,c.Tr,by lia,q _ (XU e g _) (.week (V8 e Zm) i)⟩
theorem Zbh(c:Zs K mg t):Zq P w K mg base Zt 4 t.Ll t.Ro ["self","length","starts"] (Zbd (rc t) K):=by
 refine c.RZ.F.ok Zgp (by lia) fun S A outer s H O Q E v h=>?_;obtain⟨x,l,G,n,J,rfl,⟨e,C,i,I⟩,u,⟨D,M,g⟩,q⟩:=h;refine⟨_,(Zi (ZJ (YI (YL (ZC c.UO (Qc c) v Zp (Yr (pv 1) Zb (Y0 R c.Zg2))))) (Zh Xv) ZK) (Zi (ZJ (YI (YL (ZC c.Lr (TF c) v Zp (Wq (pv 2) (Y0 R c.Zar) Zb (Zd Wh (pv 1) Zb))))) (Zh Xv) ZK) (Zi (XT (pv 0) (pv 1) R) (Zh (XT (pv 0) (YF F4 R c.C8 C6 (Zj (pv 2))) R))))),?_⟩;sleep 4;refine⟨_,R,.int n,1,28,"int",R,.int _,_,R,Zn (by rw[VN (by lia) (by lia)];lia) ?_⟩;sleep 1;refine⟨_,R,_,R,_,_,R,R,l,J,12,0,_,R,C _ _ u,g.one,g.few,g.up,fun y L=>⟨Sk _,by have:=(g.all y L).2;lia⟩,_,R,Zn (by lia) ?_⟩;refine⟨_,R,_,R,x,_,i,[],R,I,c.Ue,c.Tw,by lia,?_⟩;have f:=XU e C (.ins t.WV i (Z4 "length" (.int n) []));refine⟨_,R,l,_,R,.inl ⟨Zg.of (f _ _ u),fun p j=>?_⟩⟩;have np:p≠x:=fun z=>by rw[z,Zm]at j;cases j
 have B:G p=none:=f.free j;refine⟨_,R,x,_,i,_,R,(by rw[Zf np.symm];exact Zm),c.Ue,c.Tz,Kj _ _,?_⟩;refine q _ (XU e (XU B f _) _) (.each (V8 e Zm) D M (Zk.of (V8 B (by rw[Zf np];exact Zm))))
theorem LV{g c f:Hp}{x:Addr}{i:HO}(j:Ze g c)(h:c x=some i)(o:HO):Ze (Xd f c) (Xd (Za f x o) g) :=
 G0 j fun a u n e=>by rw[Zf (fun z=>by rw[z,h]at n;cases n)];exact e
theorem LW{g f c:Hp}(s:Ze f c):Ze (Xd f g) (Xd c g):=fun a o e=>V8 (B2 e).1 (s _ _ (B2 e).2)
theorem Zbi(e:Zs K mg t)(n:Nat)(R:VP P w K mg base t n):Zq P w K mg base Zt (4*n+12) t.Lk t.Rj ["self","first","last","rule"] (Zbe (rc t) K n):=by
 refine e.RX.F.ok Zgn (by lia) fun X A outer s H U a0 E u h=>?_;obtain⟨x,i,D,a,b,r,rfl,⟨j,S,f,G⟩,I,⟨T,L,g⟩,O,hd,hn,q⟩:=h;have Y:(RT.span a b r).weight=1+r.weight:=rfl;have Z:(RT.span a b r).depth=1+r.depth:=rfl;refine⟨_,(Zi (ZJ (YI (YL (ZC e.UO (Qc e) u Zp (Yr (pv 1) Zb (Y0 rfl e.Lq))))) (Zh Xv) ZK) (Zi (ZJ (YI (YL (ZC e.UO (Qc e) u Zp (Yr (pv 2) (pv 1) (Y0 rfl e.Lq))))) (Zh Xv) ZK) (Zi (XT (pv 0) (pv 1) rfl) (Zi (XT (pv 0) (pv 2) rfl) (Zi (XT (pv 0) (ZC e.UP (QW e n R) u Zp (Zj (pv 3))) rfl) (Zh (Yh (ZC e.JW (LS e) u Zp (Zj (pv 0)))))))))),?_⟩;sleep 6;refine⟨_,rfl,.int a,0,9999,"int",rfl,.int _,_,rfl,Zn (by rw[VN (by lia) (by lia)];lia) ?_⟩;sleep 1;refine⟨_,rfl,_,rfl,.int b,(a:Nat),9999,"int",rfl,.int _,_,rfl,Zn (by rw[VN (by lia) (by lia)];lia) ?_⟩;refine⟨_,rfl,_,rfl,x,_,f,[],rfl,G,e.WW,e.Tu,by lia,?_⟩;have M:=XU j S (.ins t.X9 f (Z4 "first" (.int a) []));refine⟨_,rfl,_,rfl,x,_,f,_,rfl,Zm,e.WW,e.Tv,Kj _ _,?_⟩;have s2:=XU j M (.ins t.X9 f (Z4 "last" (.int b) (Z4 "first" (.int a) [])));refine⟨_,rfl,i,r,rfl,I.same s2,g,by lia,by lia,hn,fun c B y C=>?_⟩;refine⟨_,rfl,x,_,f,_,rfl,y _ _ Zm,e.WW,e.LF,ZiL _ _ _ _,?_⟩;have J:=XU j (s2.trans y) (.ins t.X9 f (Z4 "inner" (.ref c) (Z4 "last" (.int b) (Z4 "first" (.int a) []))));have v:ZZ (rc t) K (Xd (Za B x (.ins t.X9 f (Z4 "inner" (.ref c) (Z4 "last" (.int b) (Z4 "first" (.int a) []))))) D) x (.span a b r) :=
  .span (V8 j Zm) T L (C.same (LV s2 Zm _))
 exact⟨_,rfl,x,_,rfl,v.same (V9 _ _),O,hd,fun Q s5=>q Q (J.trans s5) (v.same (LW s5))⟩
theorem Zbj(e:Zs K mg t)(n:Nat)(R:VP P w K mg base t n):Zq P w K mg base Zt (4*n+12) t.Lo t.RE ["self","days","rule"] (Zbf (rc t) K n):=by
 refine e.R9.F.ok Zgw (by lia) fun a0 A outer s b0 Z d0 c0 B h=>?_;obtain⟨x,l,i,G,ds,r,rfl,⟨v,j,f,H⟩,I,Q,⟨u,g⟩,X,hd,hn,q⟩:=h;have ew:(RT.but ds r).weight=1+r.weight:=rfl;have ed:(RT.but ds r).depth=1+r.depth:=rfl;refine⟨_,(Zi (ZJ (YI (YL (ZC e.Lr (TF e) B Zp (Wq (pv 1) (Y0 rfl e.Zar) Zb (Y0 rfl e.Lq))))) (Zh Xv) ZK) (Zi (XT (pv 0) (YF F4 rfl e.C8 C6 (Zj (pv 1))) rfl) (Zi (XT (pv 0) (ZC e.UP (QW e n R) B Zp (Zj (pv 2))) rfl) (Zh (Yh (ZC e.JW (LS e) B Zp (Zj (pv 0)))))))),?_⟩;sleep 4;refine⟨_,rfl,l,ds,12,0,_,rfl,j _ _ I,u.one,u.few,u.up,fun y S=>⟨Sk _,by have:=(u.all y S).2;lia⟩,_,rfl,Zn (by lia) ?_⟩;sleep 1;refine⟨_,rfl,l,_,rfl,.inl ⟨Zg.of (j _ _ I),fun p D=>?_⟩⟩;have np:p≠x:=fun z=>by rw[z,H]at D;cases D
 have L:G p=none:=j.free D;have U:=XU L j (.tup (Yb ds));refine⟨_,rfl,x,_,f,[],rfl,(by rw[Zf np.symm];exact H),e.VO,e.TB,by lia,?_⟩;have s2:=XU v U (.ins t.Wy f (Z4 "days" (.ref p) []));refine⟨_,rfl,i,r,rfl,Q.same s2,g,by lia,by lia,hn,fun c E C M=>?_⟩;refine⟨_,rfl,x,_,f,_,rfl,C _ _ Zm,e.VO,e.LK,Kj _ _,?_⟩;have T:=XU v (s2.trans C) (.ins t.Wy f (Z4 "inner" (.ref c) (Z4 "days" (.ref p) [])));have O:E p=some (.tup (Yb ds)):=C _ _ (by rw[Zf np];exact Zm);have J:ZZ (rc t) K (Xd (Za E x (.ins t.Wy f (Z4 "inner" (.ref c) (Z4 "days" (.ref p) [])))) G) x (.but ds r) :=
  .but (V8 v Zm) (Zk.of (V8 L (by rw[Zf np];exact O))) (M.same (LV s2 Zm _))
 exact⟨_,rfl,x,_,rfl,J.same (V9 _ _),X,hd,fun Y s5=>q Y (T.trans s5) (J.same (LW s5))⟩
theorem Zbk(f:Zs K mg t)(n:Nat)(R:VP P w K mg base t n):Zq P w K mg base Zt (4*n+12) t.Lm t.Rt ["self","one","other"] (LU (rc t) K n t.XY .either):=by
 refine f.R4.F.ok Zgs (by lia) fun b0 A outer s H vs e0 d0 v a0=>?_;obtain⟨x,i,j,D,r,g,rfl,⟨u,B,h,E⟩,Q,hj,⟨g1,g2⟩,Y,hd,O,S,q⟩:=a0;have ew:(RT.either r g).weight=1+(r.weight+g.weight):=rfl;have ed:(RT.either r g).depth=1+max r.depth g.depth:=rfl;refine⟨_,(Zi (XT (pv 0) (ZC f.UP (QW f n R) v Zp (Zj (pv 1))) rfl) (Zi (XT (pv 0) (ZC f.UP (QW f n R) v Zp (Zj (pv 2))) rfl) (Zh (Yh (ZC f.JW (LS f) v Zp (Zj (pv 0))))))),?_⟩;sleep 3;refine⟨_,rfl,i,r,rfl,Q.same B,g1,by lia,by lia,O,fun c X I U=>?_⟩;refine⟨_,rfl,x,_,h,_,rfl,I _ _ E,f.Vz,f.LG,by lia,?_⟩;have s2:=XU u (B.trans I) (.ins t.XY h (Z4 "one" (.ref c) []));refine⟨_,rfl,j,g,rfl,hj.same s2,g2,by lia,by lia,S,fun d C y L=>?_⟩;refine⟨_,rfl,x,_,h,_,rfl,y _ _ Zm,f.Vz,f.LH,Kj _ _,?_⟩;have T:=XU u (s2.trans y) (.ins t.XY h (Z4 "other" (.ref d) (Z4 "one" (.ref c) [])));have M:Ze (Xd X H) (Xd (Za C x (.ins t.XY h (Z4 "other" (.ref d) (Z4 "one" (.ref c) [])))) D):=G0 B fun a c0 J e=>by
  have ne:a≠x:=fun z=>by rw[z,E]at J;cases J
  rw[Zf ne];exact y _ _ (by rw[Zf ne];exact e)
 have G:ZZ (rc t) K (Xd (Za C x (.ins t.XY h (Z4 "other" (.ref d) (Z4 "one" (.ref c) [])))) D) x (.either r g) :=
  .either (V8 u Zm) (U.same M) (L.same (LV s2 Zm _))
 exact⟨_,rfl,x,_,rfl,G.same (V9 _ _),Y,hd,fun Z s5=>q Z (T.trans s5) (G.same (LW s5))⟩
theorem Zbl(f:Zs K mg t)(n:Nat)(R:VP P w K mg base t n):Zq P w K mg base Zt (4*n+12) t.Ln t.Ry ["self","one","other"] (LU (rc t) K n t.XZ .both):=by
 refine f.R7.F.ok Zgu (by lia) fun b0 A outer s H vs e0 d0 v a0=>?_;obtain⟨x,i,j,D,r,g,rfl,⟨u,B,h,E⟩,Q,hj,⟨g1,g2⟩,Y,hd,O,S,q⟩:=a0;have ew:(RT.both r g).weight=1+(r.weight+g.weight):=rfl;have ed:(RT.both r g).depth=1+max r.depth g.depth:=rfl;refine⟨_,(Zi (XT (pv 0) (ZC f.UP (QW f n R) v Zp (Zj (pv 1))) rfl) (Zi (XT (pv 0) (ZC f.UP (QW f n R) v Zp (Zj (pv 2))) rfl) (Zh (Yh (ZC f.JW (LS f) v Zp (Zj (pv 0))))))),?_⟩;sleep 3;refine⟨_,rfl,i,r,rfl,Q.same B,g1,by lia,by lia,O,fun c X I U=>?_⟩;refine⟨_,rfl,x,_,h,_,rfl,I _ _ E,f.VA,f.LI,by lia,?_⟩;have s2:=XU u (B.trans I) (.ins t.XZ h (Z4 "one" (.ref c) []));refine⟨_,rfl,j,g,rfl,hj.same s2,g2,by lia,by lia,S,fun d C y L=>?_⟩;refine⟨_,rfl,x,_,h,_,rfl,y _ _ Zm,f.VA,f.LJ,Kj _ _,?_⟩;have T:=XU u (s2.trans y) (.ins t.XZ h (Z4 "other" (.ref d) (Z4 "one" (.ref c) [])));have M:Ze (Xd X H) (Xd (Za C x (.ins t.XZ h (Z4 "other" (.ref d) (Z4 "one" (.ref c) [])))) D):=G0 B fun a c0 J e=>by
  have ne:a≠x:=fun z=>by rw[z,E]at J;cases J
  rw[Zf ne];exact y _ _ (by rw[Zf ne];exact e)
 have G:ZZ (rc t) K (Xd (Za C x (.ins t.XZ h (Z4 "other" (.ref d) (Z4 "one" (.ref c) [])))) D) x (.both r g) :=
  .both (V8 u Zm) (U.same M) (L.same (LV s2 Zm _))
 exact⟨_,rfl,x,_,rfl,G.same (V9 _ _),Y,hd,fun Z s5=>q Z (T.trans s5) (G.same (LW s5))⟩
theorem VQ{H:Hp}{x c C:Addr}(nx:H x=none)(nd:H c=none):C9 H (Za (Za H c (.own x)) x (.ins C c [])) x C :=
 ⟨nx,XU nx (XU nd (Ze.refl _) _) _,c,Zm⟩
theorem Zbm(c:Zs K mg t)(n:Nat):Zq P w K mg base Zt (4*n+10) t.P9 t.Ra ["self"] (WZ (rc t) K LO n):=by
 refine c.RR.F.ok Zgh (by lia) fun u A outer s H j Q E v h=>?_;obtain⟨a,r,rfl,h,e,g,y,hd,hn,q⟩:=h;refine⟨_,(Zh (Zx (xO c.ZaJ R c.TD))),?_⟩;sleep 1;cases h with
 |always h=>exact fun x i nx nd f=>q x _ (XU nx (XU nd (Ze.refl _) _) _) (.always (V8 nx Zm))
 |_=>exact e.elim
theorem Zbn(c:Zs K mg t)(n:Nat):Zq P w K mg base Zt (4*n+10) t.Rf t.Rg ["self"] (WZ (rc t) K LP n):=by
 refine c.RV.F.ok Zgl (by lia) fun B A outer s H y Q E u h=>?_;obtain⟨a,r,rfl,h,f,g,D,hd,hn,q⟩:=h;refine⟨_,(Zh (Zx (Vo c.ZaK (Zbg c) (u.mono (by lia)) R c.ZaU c.RU.b .nil Zp (Zj (ZU (pv 0) R))))),?_⟩;sleep 1;cases h with
 |week h v=>exact⟨_,R,a,_,_,_,_,R,h,c.U9,c.Tr,R,fun x G nx nd C=>⟨x,H,_,R,VQ nx nd,v,fun j e i=>⟨R,q x j e i⟩⟩⟩
 |_=>exact f.elim
theorem Zbo(c:Zs K mg t)(n:Nat):Zq P w K mg base Zt (4*n+10) t.Rp t.Rq ["self"] (WZ (rc t) K LQ n):=by
 refine c.R0.F.ok Zgq (by lia) fun I A outer s H G Q E C h=>?_;obtain⟨a,r,rfl,h,u,g,O,hd,hn,q⟩:=h;refine⟨_,(Zh (Zx (Vo c.ZaM (Zbh c) (C.mono (by lia)) R c.ZaW c.RZ.b .nil Zp (Zr (ZU (pv 0) R) (YF U2 R c.Vj Vg (Zj (ZU (pv 0) R))))))),?_⟩;sleep 1;cases h with
 |each h X U D =>
  rename_i J S M j;refine⟨_,R,a,_,_,_,_,R,h,c.Ue,c.Tw,R,_,R,a,_,_,_,_,R,h,c.Ue,c.Tz,R,_,_,R,.inr D,fun l y x T nx nd L=>?_⟩;have f:=Zy y (.lst (Yb j));exact⟨x,l,_,_,_,R,VQ nx nd,Zm,g,fun B i v=>⟨R,q x B (f.trans i) (v.same (G0 f fun _ _ _ e=>e))⟩⟩
 |_=>exact u.elim
theorem ZiM(c:Zs K mg t)(n:Nat)(R:VP P w K mg base t n):Zq P w K mg base Zt (4*(n+1)+10) t.Rk t.Rl ["self"] (WZ (rc t) K Ke (n+1)):=by
 refine c.Lv.F.ok uC (by lia) fun J A outer s H I Q E D h=>?_;obtain⟨a,r,rfl,h,u,g,G,hd,hn,q⟩:=h;refine⟨_,(Zh (Zx (Vo c.ZaL (Zbi c n R) (D.mono (by lia)) rfl c.ZaV c.RX.b .nil Zp (Yr (ZU (pv 0) rfl) (ZU (pv 0) rfl) (ZU (pv 0) rfl))))),?_⟩;sleep 1;cases h with
 |span h M T B =>
  rename_i L i f y e;have S:(RT.span f y e).depth=1+e.depth:=rfl;exact⟨_,rfl,a,_,_,_,_,rfl,h,c.WW,c.Tu,rfl,_,rfl,a,_,_,_,_,rfl,h,c.WW,c.Tv,rfl,_,rfl,a,_,_,_,_,rfl,h,c.WW,c.LF,rfl,
   fun x U nx nd O=>⟨x,_,H,_,_,_,rfl,VQ nx nd,B,g,G,hd,by lia,fun C j v=>⟨rfl,q x C j v⟩⟩⟩
 |_=>exact u.elim
theorem ZiN(c:Zs K mg t)(n:Nat)(R:VP P w K mg base t n):Zq P w K mg base Zt (4*(n+1)+10) t.RF t.RG ["self"] (WZ (rc t) K Kh (n+1)):=by
 refine c.LB.F.ok uI (by lia) fun O A outer s H M Q E I h=>?_;obtain⟨a,r,rfl,h,y,g,J,hd,hn,q⟩:=h;refine⟨_,(Zh (Zx (Vo c.ZaP (Zbj c n R) (I.mono (by lia)) rfl c.ZaZ c.R9.b .nil Zp (Zr (YF U2 rfl c.Vj Vg (Zj (ZU (pv 0) rfl))) (ZU (pv 0) rfl))))),?_⟩;sleep 1;cases h with
 |but h L D =>
  rename_i S X i u j;have U:(RT.but u j).depth=1+j.depth:=rfl;refine⟨_,rfl,a,_,_,_,_,rfl,h,c.VO,c.TB,rfl,_,_,rfl,.inr L,fun l C=>?_⟩;have f:=Zy C (.lst (Yb u));exact⟨_,rfl,a,_,_,_,_,rfl,f _ _ h,c.VO,c.LK,rfl,fun x Y nx nd T=>⟨x,l,_,_,_,_,rfl,VQ nx nd,Zm,D.same f,g,J,hd,by lia,fun G v B=>⟨rfl,q x G (f.trans v) (B.same (G0 f fun _ _ _ e=>e))⟩⟩⟩
 |_=>exact y.elim
theorem ZiO(c:Zs K mg t)(n:Nat)(R:VP P w K mg base t n):Zq P w K mg base Zt (4*(n+1)+10) t.Ru t.Rv ["self"] (WZ (rc t) K Kf (n+1)):=by
 refine c.Lx.F.ok uE (by lia) fun J A outer s H I Q E C h=>?_;obtain⟨a,r,rfl,h,u,g,D,hd,hn,q⟩:=h;refine⟨_,(Zh (Zx (Vo c.ZaN (Zbk c n R) (C.mono (by lia)) rfl c.ZaX c.R4.b .nil Zp (Zr (ZU (pv 0) rfl) (ZU (pv 0) rfl))))),?_⟩;sleep 1;cases h with
 |either h y G =>
  rename_i L i j e r1;have O:(RT.either e r1).depth=1+max e.depth r1.depth:=rfl;exact⟨_,rfl,a,_,_,_,_,rfl,h,c.Vz,c.LG,rfl,_,rfl,a,_,_,_,_,rfl,h,c.Vz,c.LH,rfl,
   fun x S nx nd M=>⟨x,_,_,H,_,_,rfl,VQ nx nd,y,G,g,D,hd,by lia,by lia,fun B f v=>⟨rfl,q x B f v⟩⟩⟩
 |_=>exact u.elim
theorem ZiP(c:Zs K mg t)(n:Nat)(R:VP P w K mg base t n):Zq P w K mg base Zt (4*(n+1)+10) t.Rz t.RA ["self"] (WZ (rc t) K Kg (n+1)):=by
 refine c.Lz.F.ok uG (by lia) fun J A outer s H I Q E C h=>?_;obtain⟨a,r,rfl,h,u,g,D,hd,hn,q⟩:=h;refine⟨_,(Zh (Zx (Vo c.ZaO (Zbl c n R) (C.mono (by lia)) rfl c.ZaY c.R7.b .nil Zp (Zr (ZU (pv 0) rfl) (ZU (pv 0) rfl))))),?_⟩;sleep 1;cases h with
 |both h y G =>
  rename_i L i j e r1;have O:(RT.both e r1).depth=1+max e.depth r1.depth:=rfl;exact⟨_,rfl,a,_,_,_,_,rfl,h,c.VA,c.LI,rfl,_,rfl,a,_,_,_,_,rfl,h,c.VA,c.LJ,rfl,
   fun x S nx nd M=>⟨x,_,_,H,_,_,rfl,VQ nx nd,y,G,g,D,hd,by lia,by lia,fun B f v=>⟨rfl,q x B f v⟩⟩⟩
 |_=>exact u.elim
theorem D1(c:Zs K mg t):∀n,VP P w K mg base t n
 |0=>by
  have no:∀{q:RT->Prop},∀vs H Q E,WZ (rc t) K q 0 vs H Q E->False:=fun vs H Q E h=>by
   obtain⟨a,r,rfl,h,j,g,u,hd,hn,_⟩:=h;have:=r.depth_pos;lia
  exact⟨Zbm c 0,Zbn c 0,
   c.Lv.F.ok uC (fun vs H Q E h=>(no vs H Q E h).elim) (fun f A outer s H vs Q E i h=>(no vs H Q E h).elim),Zbo c 0,
   c.Lx.F.ok uE (fun vs H Q E h=>(no vs H Q E h).elim) (fun f A outer s H vs Q E i h=>(no vs H Q E h).elim),
   c.Lz.F.ok uG (fun vs H Q E h=>(no vs H Q E h).elim) (fun f A outer s H vs Q E i h=>(no vs H Q E h).elim),
   c.LB.F.ok uI (fun vs H Q E h=>(no vs H Q E h).elim) (fun f A outer s H vs Q E i h=>(no vs H Q E h).elim)⟩
 |n+1=>have e:=D1 c n
  ⟨Zbm c (n+1),Zbn c (n+1),ZiM c n e,Zbo c (n+1),ZiO c n e,ZiP c n e,ZiN c n e⟩
theorem ZiQ(c:Zs K mg t):Zq P w K mg base Zt 40 t.Lk t.Rj ["self","first","last","rule"] (Zbe (rc t) K 7):=Zbi c 7 (D1 c 7)
theorem ZiR(c:Zs K mg t):Zq P w K mg base Zt 40 t.Lo t.RE ["self","days","rule"] (Zbf (rc t) K 7):=Zbj c 7 (D1 c 7)
theorem ZiS(c:Zs K mg t):Zq P w K mg base Zt 40 t.Lm t.Rt ["self","one","other"] (LU (rc t) K 7 t.XY .either):=Zbk c 7 (D1 c 7)
theorem ZiT(c:Zs K mg t):Zq P w K mg base Zt 40 t.Ln t.Ry ["self","one","other"] (LU (rc t) K 7 t.XZ .both):=Zbl c 7 (D1 c 7)
theorem ZiU(c:Zs K mg t):Zq P w K mg base Zt 40 t.Lj t.Re ["self","bits"] (Zbc (rc t) K):=(Zbg c).mono (by lia)
theorem ZiV(c:Zs K mg t):Zq P w K mg base Zt 40 t.Ll t.Ro ["self","length","starts"] (Zbd (rc t) K):=(Zbh c).mono (by lia)
def tx(l:OG):Str:=⟨l.toArray⟩
theorem Uf(l:OG):(tx l).length=l.length:=by show l.toArray.size=_;rw[SM]
theorem LX(a b:OG):tx a++tx b=tx (a++b):=by
 show Str.mk (a.toArray++b.toArray)=_;rw[List.append_toArray];rfl
theorem Kk(l:OG):(tx l).cps.toList=l:=by show l.toArray.toList=l;rfl
theorem ZiW{a b:OG}(h:tx a=tx b):a=b:=by
 have:=congrArg (fun z:Str=>z.cps.toList) h
 rwa [Kk,Kk]at this
theorem Zbp:∀l:List Nat,Str.join (OK "") (l.map fun c=>tx [c])=tx l
 |[]=>rfl
 |c::l=>by
  rw[SL,show OK "" = (⟨#[]⟩:Str)from R,PyProof.Rows.join_nil_cons];have e:=Zbp l;rw[show OK "" = (⟨#[]⟩:Str)from R]at e;rw[e,LX];rfl
theorem Zbq:∀i:Nat,i<26->YG (OK "abcdefghijklmnopqrstuvwxyz").cps.toList (i:Int)=some (97+i):=by lia
theorem ZiX(l:OG)(h:l.length<=20):((l.map fun c=>tx [c]).map fun x=>x.length+(OK "").length).sum<=sizeLine :=
 ZeU (m:=0) (by lia) (by rw[Sv];exact h) fun x e=>by
  obtain⟨c,_,rfl⟩:=SI.mp e;rw[Uf,Sw];lia
structure Yk where
 nm:Str
 z:Nat
 ch:Nat
structure Cl where
 st:Str
 ar:Nat
 lv:Nat
def Yw(H:Hp)(v:V)(c:Cl):Prop:=∃p,v=.ref p/\H p=some (.tup [.str c.st,.int (c.ar:Nat),.int (c.lv:Nat)])
theorem Yw.same{H f:Hp}{v:V}{c:Cl}(s:Ze H f)(h:Yw H v c):Yw f v c:=let ⟨p,e,h⟩:=h;⟨p,e,s _ _ h⟩
def Zbr(c k:Int):Int:=(c%1000000007+7919*k+13)*(c%1000000007+7919*k+13)%1000000007*(c%1000000007+7919*k+13)%998244353/11
def WE(c k:Int):Nat:=(Zbr c k).toNat
theorem ZiY(c k:Int):Zbr c k=((WE c k:Nat):Int):=by
 have e:∀z:Int,z%998244353/11=(((z%998244353/11).toNat:Nat):Int):=fun z=>by lia
 exact e _
theorem TM(c k:Int):WE c k<998244353:=by
 have e:∀z:Int,(z%998244353/11).toNat<998244353:=fun z=>by lia
 exact e _
inductive ZiZ(vs:List V)(H:Hp)(Q:VK)(_e3:XK):Prop|mk (c k:Int) (_:vs=[.int c,.int k]) (_:0<=k) (_:k<=100000) (_:Q (.int (WE c k:Nat)) H)
theorem Uu(e:Zs K mg t):Zq P w K mg base Zt 1 t.qP t.qQ ["_law_cell","_law_k"] ZiZ:=by
 refine e.Ud.F.ok vY (by lia) fun i A outer s H g Q E j h=>?_;obtain⟨c,k,rfl,n,f,q⟩:=h;refine⟨_,(Zi (ZR 2 vY.nd (Zd Ya (Zd Ya (Zd Z0 (pv 0) Zb) (Zd Uk Zb (pv 1))) Zb)) (Zh (Zx (Zd YJ (Zd Z0 (Zd Uk (Zd Z0 (Zd Uk (pv 2) (pv 2)) Zb) (pv 2)) Zb) Zb)))),?_⟩;sleep 2;have g1:0<=c%1000000007:=Int.emod_nonneg _ (by lia);have g2:c%1000000007<1000000007:=Int.emod_lt_of_pos _ (by lia);refine⟨_,R,_,_,R,R,(by show(0:Int)<1000000007;lia),_,R,_,_,R,R,.inl ⟨by lia,by lia⟩,_,_,R,R,_,_,R,R,?_⟩;refine⟨_,R,_,R,_,_,R,R,xK (by show 0<=c%1000000007+7919*k+13;lia) (by show c%1000000007+7919*k+13<_;lia),_,_,R,R,(by show(0:Int)<1000000007;lia),_,R,_,_,R,R,
  xK (by show 0<=c%1000000007+7919*k+13;lia) (by show c%1000000007+7919*k+13<_;lia),_,_,R,R,(by show(0:Int)<998244353;lia),_,_,R,R,⟨by lia,by lia⟩,?_⟩
 rw[<-ZiY c k]at q;exact q
inductive Zi0(K:Ow)(vs:List V)(H:Hp)(Q:VK)(_e3:XK):Prop|mk (a:Addr) (ns:OE) (k:Int) (_:vs=[.ref a,.int k]) (_:Zg K H a (ns.map V.int)) (_:0<=k) (_:∀d:Int,Q (.int d) H)
theorem Zbs(e:Zs K mg t):Zq P w K mg base Zt 2 t.qN t.qO ["_law_script","_law_k"] (Zi0 K):=by
 refine e.RO.F.ok Zge (by lia) fun u A outer s H n Q E v h=>?_;obtain⟨a,ns,k,rfl,g,x,q⟩:=h;refine⟨_,(Zi (ZJ (Z5 F0 (pv 1) (ZV Xm e.Y9 Y8 (Zj (pv 0)))) (Zh (Zx (Zu Yq (pv 0) (pv 1)))) ZK) (Zh (Zx Zb))),?_⟩;sleep 2;refine⟨_,R,_,R,a,_,R,.inl g,_,_,R,R,_,R,?_⟩;refine WM (fun c=>?_) (fun c=>?_)
 ·sleep 1;have i:k<((ns.map V.int).length:Nat):=SR c
  rw[Sv]at i;have j:k.toNat<ns.length:=by lia
  have f:YG (ns.map V.int) ((k.toNat:Nat):Int)=some (.int ns[k.toNat]):=XF (by rw[S0,Ss j];rfl);rw[show((k.toNat:Nat):Int)=k by lia]at f;exact⟨_,R,_,R,a,_,_,_,R,R,g,f,q _⟩
 ·sleep 1;exact q 0
inductive Zi1(vs:List V)(H:Hp)(Q:VK)(_e3:XK):Prop|mk (v:V) (T:String) (lo hi:Int) (_:vs=[v,.int lo,.int hi]) (_:Kd H v T) (_:Q (.bl (Xz v lo hi)) H)
theorem TN(g:Zs K mg t):Zq P w K mg base Zt 1 t.qR t.qS ["_law_thing","_law_least","_law_most"] Zi1:=by
 refine g.Ls.F.ok Zgf (by lia) fun y A outer s H u Q E B h=>?_;obtain⟨v,T,lo,f,rfl,n,q⟩:=h;refine⟨_,(Zh (Zx (VF (ZV V3 g.Y2 Y1 (Zr (pv 0) (VL R g.X0 XW))) (VF (Mh (ZV V3 g.Y2 Y1 (Zr (pv 0) (VL R g.Zak uO)))) (WR (KL WS WS (pv 1) (pv 0) (pv 2))))))),?_⟩;sleep 1;refine⟨_,R,v,"int",_,_,R,n.ty,xJ n,_,R,?_⟩;cases n with
 |non=>exact Zn (by lia) q
 |str x=>exact Zn (by lia) q
 |lst e=>exact Zn (by lia) q
 |tup e=>exact Zn (by lia) q
 |dK e=>exact Zn (by lia) q
 |bl b=>exact ZH (by lia) ⟨_,R,_,"bool",_,_,R,(Kd.bl b).ty (H:=H),KY (H:=H) (.bl b),_,R,_,R,Zn (by lia) q⟩
 |int i =>
  refine ZH (by lia) ⟨_,R,_,"bool",_,_,R,(Kd.int i).ty (H:=H),KY (H:=H) (.int i),_,R,_,R,ZH (by lia) ?_⟩;refine⟨_,R,_,R,_,_,R,R,_,R,?_⟩;refine WM (fun c=>?_) (fun c=>?_)
  ·refine⟨_,R,_,_,R,R,?_⟩
   have j:lo<=i:=SR c;have e:decide (i<=f)=Xz (.int i) lo f:=by
    show decide (i<=f)=decide (lo<=i/\i<=f);exact decide_eq_decide.mpr ⟨fun z=>⟨j,z⟩,fun z=>z.2⟩
   rw[<-e]at q;exact q
  ·have j:¬ lo<=i:=SS (Oh.mpr c)
   have e:false=Xz (.int i) lo f:=by
    show false=decide (lo<=i/\i<=f);exact(SQ fun z=>j z.1).symm
   rw[<-e]at q;exact q
def WF(d n:Nat):List Nat:=(List.range n).map fun j=>97+WE (d:Nat) ((20+j:Nat):Int)%26
theorem Qd(d n:Nat):(WF d n).length=n:=by unfold WF;rw[Sv,List.length_range]
theorem Zbt(d n:Nat):∀c∈WF d n,97<=c/\c<=122:=fun c h=>by
 obtain⟨j,_,rfl⟩:=SI.mp h;lia
def ZW(d k:Nat):Str:=tx ((WF d (d%7)).take (d/7%(d%7+1))++[97+(d/56+3*k)%26]++(WF d (d%7)).drop (d/7%(d%7+1)))
theorem LY(d k:Nat):YU (ZW d k):=by
 unfold ZW;refine⟨?_,?_,fun c e=>?_,trivial⟩
 ·rw[Uf,Su,Su,Sw];lia
 ·rw[Uf,Su,Su,Sw,Sx,SA,Qd];lia
 ·rw[Kk]at e
  rcases SF.mp e with e|e
  ·rcases SF.mp e with e|e
   ·exact Zbt d _ c (List.mem_of_mem_take e)
   ·rw[SD]at e;lia
  ·exact Zbt d _ c (List.mem_of_mem_drop e)
theorem TQ{d i j:Nat}(c:i<j)(f:j<8):ZW d i≠ZW d j:=fun e=>by
 unfold ZW at e;have e:=ZiW e;rw[Oc,Oc]at e;have e:=List.append_cancel_left e;injection e with e _;lia
inductive Zi2(vs:List V)(H:Hp)(Q:VK)(_e3:XK):Prop|mk (d k:Nat) (_:vs=[.int d,.int k]) (_:k<=10) (_:∀H',Ze H H'->Q (.str (ZW d k)) H')
theorem Zi3(f:Zs K mg t):Zq P w K mg base Zt 2 t.qT t.qU ["_law_seed","_law_k"] Zi2:=by
 refine f.Zaw.F.ok Lg (by lia) fun O A outer s H M Q E D h=>?_;obtain⟨d,k,rfl,U,q⟩:=h;refine⟨_,(Zi (ZR 2 Lg.nd ZA) (Zi (ZR 3 Lg.nd (F5 PySem.F.plainAttrs_str PySem.F.slot_str_join PySem.F.type_str_join ZeT ZA (Zj (U4 (cl:=[(OK "_law_seed",s.heap.objs.size+1),(OK "_law_letters",s.heap.objs.size+2)]) (N:=["_law_j","_law_letters","_law_seed"]) (fr:=[none,some 2,some 0]) R (Uh R f.Vy (Zj (Zd Z0 (pv 0) Zb))) R (by lia) R (by lia) ⟨⟨R,Or.inl R,Or.inl R,_,R,R⟩,⟨⟨R,Or.inl R,Or.inl R,_,R,R⟩,trivial⟩⟩ ⟨R,⟨R,trivial⟩⟩ R (fun _ _ _ _ _=>(ZY 0 (show List.Nodup (["_law_j","_law_letters","_law_seed"]:OC) by lia))) (fun _ _ _ _ _=>U3) (fun _ _ _ _ _=>(Zu yL (pv 1) (Zd Z0 (ZC f.Ud (Uu f) D Zp (Zr (pv 2) (Zd Ya Zb (pv 0)))) Zb))))))) (Zi (ZR 4 Lg.nd (Zd Z0 (Zd YJ (pv 0) Zb) (Zd Ya (ZV yN f.Y9 Y8 (Zj (pv 3))) Zb))) (Zh (Zx (Zd Mt (Zd Mt (Um yX (pv 3) UA (VI (pv 4))) (Zu yL (pv 2) (Zd Z0 (Zd Ya (Zd YJ (pv 0) Zb) (Zd Uk Zb (pv 1))) Zb))) (Um yX (pv 3) (VI (pv 4)) UA))))))),?_⟩;sleep 4;have B:(d:Int)%7=((d%7:Nat):Int):=by lia
 refine⟨R,_,R,_,_,R,R,(by show(0:Int)<7;lia),?_⟩;dsimp only;rw[B];refine⟨_,R,by lia,by lia,MJ (fun i g u n=>n=H/\g=((WF d i).map fun c=>tx [c]).map V.str/\∃v,u=[v,some (.str (OK "abcdefghijklmnopqrstuvwxyz")),some (.int d)]) ⟨R,R,none,R⟩ (Sh (show _<=7 by lia) (by lia)) ?_ ?_⟩
 ·rintro i g u n T ha ⟨rfl,rfl,v,rfl⟩
  dsimp only[Wg,UF];rw[SV R];have I:(20:Int)+(0+(i:Int))=((20+i:Nat):Int):=by lia
  refine⟨_,R,_,R,_,R,_,_,R,R,?_⟩;dsimp only[Xw,Yt,Ob];rw[I];refine⟨_,_,R,by lia,by lia,_,_,R,R,(by show(0:Int)<26;lia),_,_,97+WE (d:Nat) ((20+i:Nat):Int)%26,R,R,by lia,?_,?_⟩
  ·have:=Zbq (WE (d:Nat) ((20+i:Nat):Int)%26) (by lia)
   rw[show((WE (d:Nat) ((20+i:Nat):Int)%26:Nat):Int)=((WE (d:Nat) ((20+i:Nat):Int):Nat):Int)%26 by lia]at this;exact this
  ·refine⟨by rw[Su,Sw];lia,R,?_,_,R⟩
   unfold WF;rw[Oj,SK,SK,SK];rfl
 ·rintro g u n ha ⟨rfl,rfl,v,rfl⟩ p J
  have C:((d%7:Nat):Int).toNat=d%7:=by lia
  rw[C];have s2:=Zy J (.lst (((WF d (d%7)).map fun c=>tx [c]).map V.str));refine⟨_,p,(WF d (d%7)).map fun c=>tx [c],R,R,Zg.of Zm,ZiX _ (by rw[Qd];lia),?_⟩;rw[Zbp];have j:(tx (WF d (d%7))).length<=sizeLine:=by rw[Uf,Qd];exact Sh (show _<=7 by lia) (by lia)
  refine⟨_,R,_,_,R,R,⟨by lia,by lia⟩,_,R,_,R,j,_,_,R,R,_,_,R,R,(by show(0:Int)<((tx (WF d (d%7))).length:Int)+1;lia),?_⟩;dsimp only;have G:(d:Int)/7%((((tx (WF d (d%7))).length:Nat):Int)+1)=((d/7%(d%7+1):Nat):Int):=by
   have L:=SW (d/7) (d%7+1);rw[Uf,Qd,L,SX d 7];rfl
  rw[G];have x:d/7%(d%7+1)<=d%7:=by have:=Oo (d/7) (show d%7+1>0 by lia);lia
  unfold ZW at q;generalize d/7%(d%7+1)=e at x q ⊢;refine⟨_,R,_,R,_,R,_,R,j,?_⟩;rw[Zd9 _ _ (by rw[Uf,Qd];exact x),Kk];refine⟨_,R,_,R,_,_,R,R,⟨by lia,by lia⟩,_,R,_,_,R,R,.inl ⟨by lia,by lia⟩,_,_,R,R,_,_,R,R,(by show(0:Int)<26;lia),_,_,97+(d/56+3*k)%26,R,R,by lia,?_,?_⟩
  ·have:=Zbq ((d/56+3*k)%26) (by lia)
   rw[show(((d/56+3*k)%26:Nat):Int)=((d:Int)/56+3*(k:Int))%26 by lia]at this;exact this
  have X:((WF d (d%7)).take e).length<=8:=by rw[Sx,Qd];lia
  have S:((WF d (d%7)).drop e).length<=8:=by rw[SA,Qd];lia
  refine⟨_,_,R,R,?_,?_⟩
  ·show(tx ((WF d (d%7)).take e)).length+(tx [97+(d/56+3*k)%26]).length<=sizeLine
   rw[Uf,Uf,Sw];exact Sh (show _<=9 by lia) (by lia)
  refine⟨_,R,_,R,_,R,_,R,j,?_⟩;rw[Zea _ _ (by rw[Uf,Qd];exact x),Kk];refine⟨_,_,R,R,?_,?_⟩
  ·show(tx ((WF d (d%7)).take e)++tx [97+(d/56+3*k)%26]).length+(tx ((WF d (d%7)).drop e)).length<=sizeLine
   rw[LX,Uf,Uf,Su,Sw];exact Sh (show _<=17 by lia) (by lia)
  have y:=q _ s2;rw[<-LX,<-LX]at y;exact y
structure WG(NS:OC)(cs:List Cl):Prop where
 st:∀c∈cs,c.st∈NS
 rng:∀c∈cs,c.ar<=c.lv/\c.lv<=2879
 fol:∀i a b,cs[i]? = some a->cs[i+1]? = some b->b.st≠a.st/\a.lv<b.ar
 gap:∀i a b,cs[i]? = some a->cs[i+1]? = some b->b.ar<=a.lv+40
theorem WG.nil(c:OC):WG c []:=⟨fun _ h=>(nomatch h),fun _ h=>(nomatch h),fun _ _ _ h=>(nomatch h),fun _ _ _ h=>(nomatch h)⟩
def Zbu(cs:List Cl)(v:V)(T:Nat):Prop:=(cs=[]/\v=.non)\/∃e c,cs=e++[c]/\v=.str c.st/\T=c.lv
theorem WG.snoc{u:OC}{cs:List Cl}{c:Cl}{v:V}{T:Nat}(h:WG u cs)(l:Zbu cs v T)(B:c.st∈u)(G:c.ar<=c.lv/\c.lv<=2879)(D:V.str c.st≠v)(E:T<c.ar)(H:c.ar<=T+40):WG u (cs++[c]):=by
 refine⟨fun x j=>?_,fun x j=>?_,fun i a b g f=>?_,fun i a b g f=>?_⟩
 ·rcases SF.mp j with j|j
  ·exact h.st x j
  ·rw[SD.mp j];exact B
 ·rcases SF.mp j with j|j
  ·exact h.rng x j
  ·rw[SD.mp j];exact G
 ·have q:=(Sr.mp f).1
  rw[Su,Sw]at q;by_cases C:i+1<cs.length
  ·rw[List.getElem?_append_left (by lia)]at g f
   exact h.fol i a b g f
  ·have n:i+1=cs.length:=by lia
   rw[n,Oa (Sg _),Nat.sub_self]at f;obtain rfl:c=b:=So f;rw[List.getElem?_append_left (by lia)]at g;rcases l with⟨rfl,_⟩|⟨y,k,rfl,rfl,rfl⟩
   ·simp at n
   ·rw[Su,Sw]at n
    rw[show i=y.length by lia,Oa (Sg _),Nat.sub_self]at g;obtain rfl:k=a:=So g;exact⟨fun e=>D (by rw[e]),E⟩
 ·have q:=(Sr.mp f).1
  rw[Su,Sw]at q;by_cases C:i+1<cs.length
  ·rw[List.getElem?_append_left (by lia)]at g f
   exact h.gap i a b g f
  ·have n:i+1=cs.length:=by lia
   rw[n,Oa (Sg _),Nat.sub_self]at f;obtain rfl:c=b:=So f;rw[List.getElem?_append_left (by lia)]at g;rcases l with⟨rfl,_⟩|⟨y,k,rfl,rfl,rfl⟩
   ·simp at n
   ·rw[Su,Sw]at n
    rw[show i=y.length by lia,Oa (Sg _),Nat.sub_self]at g;obtain rfl:k=a:=So g;exact H
inductive Zi4(vs:List V)(H:Hp)(Q:VK)(_e3:XK):Prop|mk (d many:Nat) (ls:Addr) (NS:OC) (_:vs=[.int d,.ref ls,.int many]) (_:H ls=some (.lst (NS.map V.str))) (_:NS.Nodup) (_:2<=NS.length) (_:NS.length<=8) (_:many<=6) (_:∀(cs:List Cl) l vs H',Ze H H'->H l=none->H' l=some (.lst vs)->Al (Yw H') vs cs->WG NS cs->cs.length=many->Q (.ref l) H')
theorem Zi5{f:OC}(nd:f.Nodup)(g:2<=f.length)(v:V):(f.filter fun z=>!decide (V.str z=v))≠[]:=by
 match f,nd,g with
 |a::b::r,nd,_ =>
  have i:a≠b:=fun e=>(Ol.mp nd).1 (by rw[e];exact SC);intro e;have c:¬ ((!decide (V.str a=v))=true):=fun h=>by have:a∈([]:OC):=e ▸ List.mem_filter.mpr ⟨SC,h⟩;cases this
  have g:¬ ((!decide (V.str b=v))=true):=fun h=>by have:b∈([]:OC):=e ▸ List.mem_filter.mpr ⟨SB _ SC,h⟩;cases this
  simp at c g;rw[<-g]at c;injection c with c;exact i c
theorem Zi6(v:Zs K mg t):Zq P w K mg base Zt 2 t.jB t.jC ["_law_number","_law_stops","_law_many"] Zi4:=by
 refine v.Zax.F.ok Ua (by lia) fun t0 A outer s b0 q r0 u0 hr o0=>?_;obtain⟨d,many,ls,c,rfl,e0,nd,n2,n8,hm,h0⟩:=o0;refine⟨_,(Zi (ZR 3 Ua.nd (Z2 XE)) (Zi (ZR 4 Ua.nd (Zd Ya (Zu Yq (Z2 (Wq Zb Zb Zb Zb)) (Zd Z0 (pv 0) Zb)) (Zd Z0 (Zd YJ (pv 0) Zb) Zb))) (Zi (ZR 5 Ua.nd W2) (Zi (XG (Uh R v.Vy (Zj (pv 2))) (ZY 6 Ua.nd) (Zi (ZR 7 Ua.nd (ZC v.Ud (Uu v) hr Zp (Zr (pv 0) (Zd Ya Zb (pv 6))))) (Zi (wH (i0:=8) (cl:=[(OK "_law_last",s.heap.objs.size+1)]) (N:=["_law_stop","_law_last"]) (fr:=[none,some 5]) Ua.nd R (Or.inl R) R (VZ (pv 1)) R (by lia) R (by lia) ⟨⟨R,Or.inl R,Or.inl R,_,R,R⟩,trivial⟩ ⟨R,trivial⟩ R (fun _ _ _ _ _=>(ZY 0 (show List.Nodup (["_law_stop","_law_last"]:OC) by lia))) (fun _ _ _ _ _=>(xG (Z5 Qm (pv 0) (pv 1)))) (fun _ _ _ _ _=>(pv 0))) (Zi (ZR 5 Ua.nd (Zu Yq (pv 8) (Zd Z0 (pv 7) (ZV Xm v.Y9 Y8 (Zj (pv 8)))))) (Zi (ZR 9 Ua.nd (Zd Ya (Zd Ya (pv 4) Zb) (Zd Z0 (Zd YJ (pv 7) Zb) Zb))) (Zi (ZR 10 Ua.nd (Zd Ya (pv 9) (Zd Z0 (Zd YJ (pv 7) Zb) Zb))) (Zi (Yh (F5 PySem.F.plainAttrs_list PySem.F.slot_list_append PySem.F.type_list_append KO (pv 3) (Zj (Yj (Yr (pv 5) (pv 9) (pv 10)))))) (Zh (ZR 4 Ua.nd (pv 10)))))))))) (Zh (Zx (pv 3))))))),?_⟩;sleep 5;refine⟨by show 0<=sizeLine;lia,fun g J=>?_⟩;have s1:=Zy J (.lst []);have k1:=@Zm b0 g (.lst []);generalize Za b0 g (.lst [])=H1 at s1 k1 ⊢;refine⟨by show 4<=sizeLine;lia,fun p2 m0=>?_⟩;have s2:=Zy m0 (.lst [.int 300,.int 600,.int 1380,.int 2000]);have k2:=@Zm H1 p2 (.lst [.int 300,.int 600,.int 1380,.int 2000]);generalize Za H1 p2 (.lst [.int 300,.int 600,.int 1380,.int 2000])=H2 at s2 k2 ⊢;obtain⟨B,hB,eB⟩:∃B:Nat,B<=2000/\YG [V.int 300,.int 600,.int 1380,.int 2000] ((d:Int)%4)=some (.int (B:Nat)):=by
  have h4:d%4<4:=Oo _ (by lia);rw[show(d:Int)%4=((d%4:Nat):Int) by lia];generalize d%4=m at h4 ⊢
  match m,h4 with
  |0,_=>exact⟨300,by lia,R⟩
  |1,_=>exact⟨600,by lia,R⟩
  |2,_=>exact⟨1380,by lia,R⟩
  |3,_=>exact⟨2000,by lia,R⟩
 refine⟨_,R,_,_,R,R,(by show(0:Int)<4;lia),p2,_,_,_,R,R,Zg.of k2,eB,_,R,_,_,R,R,⟨by lia,by lia⟩,_,_,R,R,(by show(0:Int)<60;lia),_,_,R,R,?_⟩;have S2:=s1.trans s2;have eT:(B:Int)+(d:Int)/4%60=((B+d/4%60:Nat):Int):=by lia
 refine⟨_,R,_,R,by lia,by lia,?_⟩;have en:(many:Int).toNat=many:=by lia
 refine Uj (n:=(many:Int).toNat) (fun i h f=>Ze b0 f/\∃(cs:List Cl) (q:List V) (T:Nat) (lv:V),f g=some (.lst q)/\Al (Yw (wo f g)) q cs/\WG c cs/\cs.length=i/\Zbu cs lv T/\T<=2059+44*i /\
  ∃O M v8 v9 c0:Option V,h=[some (.int d),some (.ref ls),some (.int many),some (.ref g),some (.int T),some lv,O,M,v8,v9,c0])
  ⟨S2,[],[],B+d/4%60,.non,s2 _ _ k1,.nil,(WG.nil c),R,.inl ⟨R,R⟩,by lia,none,none,none,none,none,?_⟩ ?_ ?_
 ·rw[<-eT];rfl
 ·rintro i h U hi ⟨y,cs,q,T,lv,E,I,ok,Y,last,hT,O,M,v8,v9,c0,rfl⟩
  rw[en]at hi;rw[show(0:Int)+(i:Int)=(i:Int) by lia];sleep 107;have l0:(50:Int)+(i:Int)=((50+i:Nat):Int):=by lia
  refine⟨_,R,_,R,_,_,R,R,?_⟩;dsimp only[Xw,Yt,Ob];rw[l0];refine⟨_,_,R,by lia,by lia,?_⟩;generalize WE (d:Int) ((50+i:Nat):Int)=m;refine⟨_,R,ls,R,⟨_,Zg.of (y _ _ e0)⟩,A8 (K:=K) (a:=ls) (xs:=c.map V.str) (fun j D h f=>f=U/\D=(((c.take j).filter fun z=>!decide (V.str z=lv))).map V.str/\∃a0,h=[a0,some lv]) ⟨R,R,none,R⟩ (by rw[Sv];exact Sh n8 (by lia)) (fun j D h f _ ⟨e,_⟩=>by rw[e];exact Zg.of (y _ _ e0)) ?_ ?_⟩
  ·rintro j k0 D h f hj x ⟨rfl,rfl,a0,rfl⟩
   rw[S0]at x;cases u:c[j]? with
   |none=>rw[u]at x;cases x
   |some z =>
    rw[u]at x;obtain rfl:V.str z=k0:=So x;have et:c.take (j+1)=c.take j++[z]:=by rw[SZ,u];rfl
    have sc:Mq (.str z) lv=true:=by
     rcases last with⟨_,rfl⟩|⟨_,_,_,rfl,_⟩<;>rfl
    dsimp only[Wg];refine⟨_,R,_,R,sc,_,R,?_⟩;cases hb:(!decide (V.str z=lv))with
    |true =>
     refine ZH R ⟨_,R,by rw[Su,Sw];lia,R,?_,_,R⟩;rw[et,List.filter_append,List.filter_cons,hb,SK];rfl
    |false =>
     refine Zn SN ⟨by lia,R,?_,_,R⟩;rw[et,List.filter_append,List.filter_cons,hb];simp
  ·rintro D h f ha ⟨rfl,rfl,a0,rfl⟩ C X
   rw[Sv,List.take_length];have G:=Zy X (.lst ((c.filter fun z=>!decide (V.str z=lv)).map V.str));have H:=@Zm f C (.lst ((c.filter fun z=>!decide (V.str z=lv)).map V.str));have f0:=Zi5 nd n2 lv;have s0:C≠g:=fun e=>by rw[e,E]at X;cases X
   generalize Za f C (.lst ((c.filter fun z=>!decide (V.str z=lv)).map V.str))=H4 at G H ⊢;have d0:∀z∈c.filter (fun z=>!decide (V.str z=lv)),z∈c/\V.str z≠lv:=fun z u=>by
    have:=List.mem_filter.mp u;exact⟨this.1,by simpa using this.2⟩
   generalize c.filter (fun z=>!decide (V.str z=lv))=L at H f0 d0 ⊢;have hL:0<L.length:=List.length_pos_iff.mpr f0;have lp:(0:Int)<(((L.map V.str).length:Nat):Int):=by rw[Sv];lia
   obtain⟨z,u,ez⟩:∃z∈L,YG (L.map V.str) ((m:Int)%(((L.map V.str).length:Nat):Int))=some (.str z):=by
    have g0:m%L.length<L.length:=Oo _ hL;refine⟨L[m%L.length],Oi g0,?_⟩;rw[Sv,<-SW];exact XF (by rw[S0,Ss g0];rfl)
   obtain⟨j0,p0⟩:=d0 z u;refine⟨_,R,_,R,_,R,C,_,R,.inl (Zg.of H),_,_,R,R,lp,C,_,_,_,R,R,Zg.of H,ez,?_⟩;refine⟨_,R,_,_,R,R,_,R,_,_,R,R,⟨by lia,by lia⟩,_,_,R,R,(by show(0:Int)<40;lia),_,_,R,R,?_⟩;dsimp only;rw[show(T:Int)+1+(m:Int)/8%40=((T+1+m/8%40:Nat):Int) by lia];refine⟨_,R,_,R,_,_,R,R,⟨by lia,by lia⟩,_,_,R,R,(by show(0:Int)<5;lia),_,_,R,R,?_⟩;dsimp only;rw[show((T+1+m/8%40:Nat):Int)+(m:Int)/320%5=((T+1+m/8%40+m/320%5:Nat):Int) by lia];have S:=G _ _ E;refine⟨_,R,.inl ⟨R,_,Zg.of S⟩,_,R,_,R,_,R,by show 3<=sizeLine;lia,fun pt Z=>?_⟩;have n0:pt≠g:=fun e=>by rw[e,S]at Z;cases Z
   have Q:=Zy Z (.tup [.str z,.int ((T+1+m/8%40:Nat):Int),.int ((T+1+m/8%40+m/320%5:Nat):Int)]);have q0:q.length<=6:=by rw[I.length];lia
   refine⟨g,_,_,R,R,Q _ _ S,Sj q0 (by lia),?_⟩;refine⟨_,R,Y7 ((y.trans G).trans Q) J _,cs++[⟨z,T+1+m/8%40,T+1+m/8%40+m/320%5⟩],q++[.ref pt],T+1+m/8%40+m/320%5,.str z,Zm,?_,ok.snoc last j0 ⟨by show T+1+m/8%40<=T+1+m/8%40+m/320%5;lia,by show T+1+m/8%40+m/320%5<=2879;lia⟩ p0 (by show T<T+1+m/8%40;lia) (by show T+1+m/8%40<=T+40;lia),by rw[Su,Sw,Y],.inr ⟨cs,_,R,R,R⟩,(by lia),_,_,_,_,_,R⟩;rw[vD];refine(I.imp fun _ _=>Yw.same (vC (G.trans Q))).app (.cons ⟨pt,R,?_⟩ .nil);rw[Qz n0];exact Zm
 ·rintro h U ⟨y,cs,q,T,lv,E,I,ok,Y,last,hT,O,M,v8,v9,c0,rfl⟩
  exact⟨_,R,h0 cs g q U y J E (I.imp fun _ _=>Yw.same B6) ok (by rw[Y,en])⟩
def VB(b:Int)(c:Cl)(l:Nat):Str×Int×Int:=(c.st,b+l+c.ar,b+l+c.lv)
def YC(b:Int)(cs:List Cl)(c:OG):List (Str×Int×Int):=List.zipWith (VB b) cs c
def X1(H:Hp)(v:V)(c:Str×Int×Int):Prop:=∃p,v=.ref p/\H p=some (.tup [.str c.1,.int c.2.1,.int c.2.2])
theorem X1.same{H f:Hp}{v:V}{c:Str×Int×Int}(s:Ze H f)(h:X1 H v c):X1 f v c:=let ⟨p,e,h⟩:=h;⟨p,e,s _ _ h⟩
inductive Zi7(K:Ow)(vs:List V)(H:Hp)(Q:VK)(_e3:XK):Prop|mk (a la:Addr) (b:Int) (cvs:List V) (cs:List Cl) (ls:OG) (_:vs=[.ref a,.int b,.ref la]) (_:Zg K H a cvs) (_:Al (Yw H) cvs cs) (_:Zg K H la (ls.map fun n=>V.int (n:Nat))) (_:cs.length<=6) (_:ls.length=cs.length) (_:∀l vs H',Ze H H'->H l=none->H' l=some (.lst vs)->Al (X1 H') vs (YC b cs ls)->Q (.ref l) H')
theorem Zbv(G:Zs K mg t):Zq P w K mg base Zt 1 t.qJ t.qK ["calls","begin","late"] (Zi7 K):=by
 refine G.RN.F.ok Zgd (by lia) fun d0 A outer s H vs g0 f0 hr b0=>?_;obtain⟨a,la,b,c0,cs,h,rfl,E,Q,O,l6,U,q⟩:=b0;refine⟨_,(Zh (Zx (U4 (cl:=[(OK "begin",s.heap.objs.size+1)]) (N:=["call","minutes","begin"]) (fr:=[none,none,some 1]) R (Ze2 R G.ZgW (Zr (pv 0) (pv 2))) R (by lia) R (by lia) ⟨⟨R,Or.inl R,Or.inl R,_,R,R⟩,trivial⟩ ⟨R,trivial⟩ R (fun _ _ _ _ _=>(show PG _ _ (zH K 2 _)from Vm R (Yv (ZY 0 (show List.Nodup (["call","minutes","begin"]:OC) by lia)) (Yv (ZY 1 (show List.Nodup (["call","minutes","begin"]:OC) by lia)) WJ)))) (fun _ _ _ _ _=>U3) (fun _ _ _ _ _=>(Yj (Yr (Zu (show V1 _ (A4 K)from ZP) (pv 0) Zb) (Zd Ya (Zd Ya (pv 2) (pv 1)) (Zu (show V1 _ (A4 K)from ZP) (pv 0) Zb)) (Zd Ya (Zd Ya (pv 2) (pv 1)) (Zu (show V1 _ (A4 K)from ZP) (pv 0) Zb)))))))),?_⟩;sleep 1;have lc:=Q.length;have X:(YC b cs h).length=cs.length:=by unfold YC;rw[List.length_zipWith,U,Nat.min_self]
 refine⟨_,R,_,R,a,la,R,⟨_,E⟩,⟨_,O⟩,ZfP (K:=K) (a:=a) (b:=la) (xs:=c0) (ys:=h.map fun n=>V.int (n:Nat)) (fun i g x C=>Ze H C/\Al (X1 C) g ((YC b cs h).take i)/\∃B D,x=[B,D,some (.int b)]) ⟨Ze.refl H,.nil,none,none,R⟩ (Sh (show _<=6 by lia) (by lia)) (fun i g x C _ _ ⟨s,_⟩=>⟨s.seq E,s.seq O⟩) ?_ ?_⟩
 ·rintro i e0 h0 p g x L ha T J hp ⟨u,v,B,D,rfl⟩
  obtain⟨c,Z,j,rfl,S⟩:=Q.get T;rw[S0]at J;obtain⟨l,a0,rfl⟩:=Of.mp J;have f:=Zy hp (.tup [.ref j,.int l]);refine⟨p,_,R,Zk.of Zm,R,_,_,R,_,_,R,R,?_⟩;dsimp only[UF];rw[SV R];have y:=f _ _ (u _ _ S);generalize Za L p (.tup [.ref j,.int l])=H2 at f y ⊢;refine⟨_,R,j,_,0,_,R,R,Zk.of y,R,_,R,_,R,_,_,R,R,_,R,j,_,1,_,R,R,Zk.of y,R,_,_,R,R,_,R,_,R,_,_,R,R,_,R,j,_,2,_,R,R,Zk.of y,R,_,_,R,R,by show 3<=sizeLine;lia,fun p3 g3=>?_⟩;have M:=f.trans (Zy g3 (.tup [.str c.st,.int (b+(l:Int)+((c.ar:Nat):Int)),.int (b+(l:Int)+((c.lv:Nat):Int))]));refine⟨by rw[Su,Sw];lia,u.trans M,?_,_,_,R⟩;have em:(YC b cs h)[i]? = some (VB b c l):=by
   unfold YC;rw[List.getElem?_zipWith,Z,a0]
  rw[SZ,em];exact(v.imp fun _ _=>X1.same M).snoc ⟨p3,R,Zm⟩
 ·rintro i g x L Y _ ⟨u,v,B,D,rfl⟩ l I
  have e:(YC b cs h).take i=YC b cs h:=SY (by rw[X,Y,Sv];lia);rw[e]at v;have f:=Zy I (.lst g);exact q l g _ (u.trans f) (u.free I) Zm (v.imp fun _ _=>X1.same f)
def Vk(c a:Str×Int×Int):Bool:=!decide (V.str c.1=V.str a.1) && decide (c.2.1>a.2.2)
inductive Zi8(vs:List V)(H:Hp)(Q:VK)(_e3:XK):Prop|mk (v u:V) (c a:Str×Int×Int) (_:vs=[v,u]) (_:X1 H v c) (_:X1 H u a) (_:Q (.bl (Vk c a)) H)
theorem Zbw(g:Zs K mg t):Zq P w K mg base Zt 1 t.qH t.qI ["call","ahead"] Zi8:=by
 refine g.RM.F.ok Zgc (by lia) fun j A outer s H i Q E n h=>?_;obtain⟨v,u,c,a,rfl,⟨p,rfl,e⟩,⟨r,rfl,f⟩,q⟩:=h;refine⟨_,(Zh (Zx (VF (VG Qm (Zu ZP (pv 0) Zb) (Zu ZP (pv 1) Zb) (Uz _)) (WR (VG F1 (Zu ZP (pv 0) Zb) (Zu ZP (pv 1) Zb) (Uz _)))))),?_⟩;sleep 1;refine⟨_,R,p,_,0,_,R,R,Zk.of e,R,_,R,r,_,0,_,R,R,Zk.of f,R,R,_,R,?_⟩;unfold Vk at q;refine WM (fun z=>?_) (fun z=>?_)
 ·refine⟨_,R,p,_,1,_,R,R,Zk.of e,R,_,R,r,_,2,_,R,R,Zk.of f,R,_,_,R,R,?_⟩
  rw[show(!decide (V.str c.1=V.str a.1))=true from z,Os]at q;exact q
 ·rw[show(!decide (V.str c.1=V.str a.1))=false by simpa using z,Bool.false_and]at q
  exact q
abbrev R3:=RT
def R3.Ok(r:R3):Prop:=RT.good r/\RT.weight r<=15/\RT.depth r<=8
def Wb(t:Yn)(H:Hp)(v:V)(r:R3):Prop:=∃b,v=.ref b/\ZZ (rc t) t.kf H b r
theorem Wb.same{H c:Hp}{v:V}{r:R3}(s:Ze H c)(h:Wb t H v r):Wb t c v r:=let ⟨b,e,h⟩:=h;⟨b,e,h.same s⟩
inductive Zi9(t:Yn)(vs:List V)(H:Hp)(Q:VK)(_e3:XK):Prop|mk (v:V) (r:R3) (_:vs=[v]) (_:Wb t H v r) (_:r.Ok) (_:True) (_:∀v' H',Ze H H'->Wb t H' v' r->Q v' H')
theorem Zbx(c:Zs K mg t):Zq P w K mg base Zt 43 t.P2 t.P3 ["rule"] (Zi9 t) :=
 (QW c 8 (D1 c 8)).imp fun n H Q E ⟨v,r,e,⟨b,j,f⟩,ok,_,q⟩=>by
  subst j;rw[c.kf]at f;exact⟨b,r,e,f,ok.1,ok.2.1,ok.2.2,ok.2.2,fun g u i h=>q _ _ i ⟨g,R,by rw[c.kf];exact h.same (V9 _ _)⟩⟩
theorem ZZ.keepF{c:RC}{K:Ow}{H g:Hp}(e:∀x C dx (fs:List (Str×V)),fs.lookup ("timetable" : Str)=none->H x=some (.ins C dx fs)->g x=some (.ins C dx fs)) (q:∀p xs,Zk K H p xs->Zk K g p xs) {a:Addr} {r:RT} (h:ZZ c K H a r):ZZ c K g a r:=by
 induction h with
 |always h=>exact .always (e _ _ _ _ R h)
 |week h y=>exact .week (e _ _ _ _ R h) y
 |span h B v _ j=>exact .span (e _ _ _ _ R h) B v j
 |each h hn u n=>exact .each (e _ _ _ _ R h) hn u (q _ _ n)
 |either h _ _ i f=>exact .either (e _ _ _ _ R h) i f
 |both h _ _ i f=>exact .both (e _ _ _ _ R h) i f
 |but h n _ j=>exact .but (e _ _ _ _ R h) (q _ _ n) j
theorem TR{K:Ow}{H c:Hp}{p:Addr}{xs:List V}(k1:H p=some (.tup xs)->c p=some (.tup xs))(k2:∀o,H p=some (.frz o (.tup xs))->c p=some (.frz o (.tup xs)))(h:Zk K H p xs):Zk K c p xs :=
 h.imp (fun r=>r.imp k1 fun⟨o,e⟩=>⟨o,k2 o e⟩) id
theorem VN{b:Nat}{lo hi:Int}(h1:lo<=b)(c:(b:Int)<=hi):Xz (.int b) lo hi=true:=SO ⟨h1,c⟩
def D2:Str:=⟨#[97,98,99,100,101,102,103,104,105,106,107,108,109,110,111,112,113,114,115,116,117,118,119,120,121,122]⟩
theorem Zja:OK "abcdefghijklmnopqrstuvwxyz" = D2:=by lia
theorem Zjb:∀i:Nat,i<26->UE D2 (97+i)=true:=by lia
theorem Zjc{z:Str}(h:YU z):((z.cps.toList.map fun c=>UE D2 c).all id)=true:=by
 rw[List.all_eq_true];intro b g;obtain⟨c,f,rfl⟩:=SI.mp g;have:=h.2.2.1 c f;have e:=Zjb (c - 97) (by lia);rw[show 97+(c - 97)=c by lia]at e;exact e
inductive Zjd(vs:List V)(H:Hp)(Q:VK)(_e3:XK):Prop|mk (b:Nat) (lo hi:Int) (_:vs=[.int b,.int lo,.int hi]) (_:lo<=b) (_:(b:Int)<=hi) (_:Q .non H)
theorem QX(c:Zs K mg t):Zq P w K mg base Zt 3 t.PY t.PZ ["value","least","most"] Zjd:=by
 refine c.Uc.F.ok vU (by lia) fun n A outer s H j Q E f h=>?_;obtain⟨b,lo,e,rfl,i,g,q⟩:=h;refine⟨_,(Zh (ZJ (YI (YL (ZC c.UO (Qc c) f Zp (Yr (pv 0) (pv 1) (pv 2))))) (Zh Xv) ZK)),?_⟩;sleep 1;exact⟨_,R,_,R,_,R,.int b,lo,e,"int",R,.int _,_,R,Zn (by rw[VN i g];lia) q⟩
inductive Zje(vs:List V)(H:Hp)(Q:VK)(_e3:XK):Prop|mk (z:Str) (_:vs=[.str z]) (_:YU z) (_:∀H',Ze H H'->Q (.bl true) H')
theorem Zjf(e:Zs K mg t):Zq P w K mg base Zt 1 t.uZ t.qA ["value"] Zje:=by
 refine e.Zat.F.ok Zf7 (by lia) fun u A outer s H n Q E v h=>?_;obtain⟨z,rfl,hn,q⟩:=h;obtain⟨tk,f⟩:=e.ZgX;rw[Zja]at f;have g:z.length<=sizeLine:=Sh hn.2.1 (by lia);refine⟨_,(Zi (ZJ (PW.pt (UX (YI (YL (ZV V3 e.Y2 Y1 (Zr (pv 0) (VL R e.Lp Lh))))) (UW (YI (Ms WS WS Zb (ZV yN e.Y9 Y8 (Zj (pv 0))) (Y0 R e.ZgY)))))) (Zh (Zx XD)) ZK) (Zh (Zx (ZV (xA R) e.Zaj uN (Zj (ZdW (cl:=[]) R (pv 0) R (by lia) R (by lia) R)))))),?_⟩;sleep 2;refine⟨_,R,.str z,"str",_,_,R,(Kd.str z).ty (H:=H),KZ (H:=H) (.str z),_,R,Zn (by lia) ?_⟩;refine⟨_,R,z,R,g,_,_,R,R,_,R,ZH (SO (by have:=hn.1;lia)) ?_⟩;refine⟨_,_,R,R,_,R,Zn (by rw[SO (show((z.length:Nat):Int)<=8 by have:=hn.2.1;lia)];lia) ?_⟩;sleep 1;refine⟨D2,ZdX (t:=tk) R R f,_,R,z,R,g,fun p j=>?_⟩;refine⟨p,z.cps.toList.map (fun c=>UE D2 c),R,Zg.of (by rw[Zm,Zd7]),?_⟩;have i:=q _ (Zy j (HO.lst (z.cps.toList.map fun c=>V.bl (UE D2 c))));rw[<-Zjc hn]at i;exact i
inductive Zjg(vs:List V)(H:Hp)(Q:VK)(_e3:XK):Prop|mk (z:Str) (d:Addr) (kvs:List (Zl×V)) (_:vs=[.str z,.ref d]) (_:H d=some (.dK kvs)) (_:Q (.bl (Zz kvs (Sum.inr z)).isSome) H)
theorem LZ(c:Zs K mg t):Zq P w K mg base Zt 1 t.P0 t.P1 ["value","named"] Zjg:=by
 refine c.QP.F.ok vV (by lia) fun i A outer s H g Q E e h=>?_;obtain⟨z,d,f,rfl,hd,q⟩:=h;refine⟨_,(Zh (Zx (VF (ZV V3 c.Y2 Y1 (Zr (pv 0) (VL R c.Lp Lh))) (WR (zC (G4 (YZ e) (pv 0) (pv 1))))))),?_⟩;sleep 1;exact⟨_,R,.str z,"str",_,_,R,(Kd.str z).ty (H:=H),KZ (H:=H) (.str z),_,R,ZH (by lia) ⟨_,R,_,R,d,_,R,Z9.k (k:=Sum.inr z) hd,q⟩⟩
inductive Zjh(vs:List V)(H:Hp)(Q:VK)(_e3:XK):Prop|mk (z:Str) (d:Addr) (kvs:List (Zl×V)) (_:vs=[.str z,.ref d]) (_:H d=some (.dK kvs)) (_:YU z) (_:Zz kvs (Sum.inr z)=none) (_:∀H',Ze H H'->Q .non H')
theorem L0(c:Zs K mg t):Zq P w K mg base Zt 2 t.qD t.qE ["name","named"] Zjh:=by
 refine c.JX.F.ok Zga (by lia) fun u A outer s H n Q E e h=>?_;obtain⟨z,d,j,rfl,hd,hn,i,q⟩:=h;refine⟨_,(Zi (ZJ (YI (YL (ZC c.Zat (Zjf c) e Zp (Zj (pv 0))))) (Zh Xv) ZK) (Zh (ZJ (Qk (G4 (YZ e) (pv 0) (pv 1))) (Zh Xv) ZK))),?_⟩;sleep 2;refine⟨_,R,z,R,hn,fun g f=>⟨_,R,Zn (by lia) ?_⟩⟩;sleep 1;exact⟨_,R,_,R,d,_,R,Z9.k (k:=Sum.inr z) (f _ _ hd),_,R,Zn (by rw[i];lia) (q g f)⟩
inductive Zji(vs:List V)(H:Hp)(Q:VK)(_e3:XK):Prop|mk (d:Addr) (kvs:List (Zl×V)) (n:Int) (_:vs=[.ref d,.int n]) (_:H d=some (.dK kvs)) (_:(kvs.length:Int)<n) (_:Q .non H)
theorem L1(c:Zs K mg t):Zq P w K mg base Zt 1 t.P4 t.P5 ["kept","most"] Zji:=by
 refine c.QQ.F.ok vW (by lia) fun g A outer s H f Q E i h=>?_;obtain⟨d,e,n,rfl,hd,j,q⟩:=h;refine⟨_,(Zh (ZJ (Z5 zQ (ZV Zfs c.Y9 Y8 (Zj (pv 0))) (pv 1)) (Zh Xv) ZK)),?_⟩;sleep 1;exact⟨_,R,d,e,R,hd,_,R,_,_,R,R,_,R,Zn (by rw[SQ (by lia)];lia) q⟩
def ZO{c:Type}(nm:c->Str)(xs:List c)(z:Str):Option c:=xs.find? fun x=>decide (nm x=z)
theorem X2{c:Type}{nm:c->Str}{xs:List c}{z:Str}{x:c}(h:ZO nm xs z=some x):x∈xs/\nm x=z:=⟨List.mem_of_find?_eq_some h,SR (List.find?_some (p:=fun x=>decide (nm x=z)) h)⟩
theorem XA{g:Type}{nm:g->Str}{R:Zl×V->g->Prop}(u:∀c x,R c x->c.1=Sum.inr (nm x)){rows:List (Zl×V)}{xs:List g}(h:Al R rows xs)(z:Str) :
  (ZO nm xs z=none->Zz rows (Sum.inr z)=none)/\∀x,ZO nm xs z=some x->∃c,Zz rows (Sum.inr z)=some c.2/\R c x:=by
 induction h with
 |nil=>exact⟨fun _=>rfl,fun k e=>by cases e⟩
 |@cons c k rows xs i _ y =>
  by_cases e:nm k=z
  ·have j:c.1=Sum.inr z:=by rw[u _ _ i,e]
   have f:ZO nm (k::xs) z=some k:=by unfold ZO;rw[List.find?_cons,SO e]
   refine⟨fun n=>(by rw[f]at n;cases n),fun B q=>?_⟩;rw[f]at q;cases q;exact⟨c,Vb j,i⟩
  ·have j:c.1≠Sum.inr z:=fun x=>e (by rw[u _ _ i]at x;exact Sum.inr.inj x)
   have f:ZO nm (k::xs) z=ZO nm xs z:=by unfold ZO;rw[List.find?_cons,SQ e]
   have v:Zz (c::rows) (Sum.inr z)=Zz rows (Sum.inr z):=by unfold Zz;rw[List.find?_cons,SQ j]
   rw[f,v];exact y
theorem Kl{c:Type}{nm:c->Str}{xs:List c}(nd:(xs.map nm).Nodup){i:Nat}{x:c}(e:xs[i]? = some x):ZO nm (xs.take i) (nm x)=none:=by
 unfold ZO;rw[List.find?_eq_none];intro y h;rw[decide_eq_true_eq];intro ex;obtain⟨j,q,f⟩:=List.mem_iff_getElem.mp h;rw[Sx]at q;obtain⟨g,n⟩:=Sr.mp e;rw[List.getElem_take]at f;have:=List.pairwise_iff_getElem.mp nd j i (by rw[Sv];lia) (by rw[Sv];exact g) (by lia);rw[List.getElem_map,List.getElem_map,f,n]at this;exact this ex
theorem L3{c:Type}{nm:c->Str}{xs:List c}{x:c}(h:x∈xs):∃y,ZO nm xs (nm x)=some y:=by
 cases e:ZO nm xs (nm x)with
 |some y=>exact⟨y,R⟩
 |none =>
  unfold ZO at e;rw[List.find?_eq_none]at e;exact Oq (SO R) (e x h)
theorem VC{n:Type}{nm:n->Str}{xs:List n}(nd:(xs.map nm).Nodup){x:n}(h:x∈xs):ZO nm xs (nm x)=some x:=by
 obtain⟨y,c⟩:=L3 (nm:=nm) h;have:=X2 c;obtain⟨i,u,f⟩:=List.mem_iff_getElem.mp h;obtain⟨j,v,q⟩:=List.mem_iff_getElem.mp this.1;by_cases e:i=j
 ·subst e;rw[c,<-f,q]
 ·exfalso
  rcases Nat.lt_or_gt_of_ne e with g|g
  ·have:=List.pairwise_iff_getElem.mp nd i j (by rw[Sv];exact u) (by rw[Sv];exact v) g
   rw[List.getElem_map,List.getElem_map,q,f]at this;exact this (by rw[(X2 c).2])
  ·have:=List.pairwise_iff_getElem.mp nd j i (by rw[Sv];exact v) (by rw[Sv];exact u) g
   rw[List.getElem_map,List.getElem_map,q,f]at this;exact this (by rw[(X2 c).2])
structure Wl where
 o:Str
 t:Str
 m:Nat
structure Yl where
 nm:Str
 r:R3
structure Wd where
 nm:Str
 pr:Nat
 la:Nat
 zs:List Nat
structure Tp where
 nm:Str
 ru:Str
 cs:List Cl
structure Wd.Ok(k:Wd):Prop where
 nm:YU k.nm
 pr:k.pr<=10000
 la1:1<=k.la
 la:k.la<=1440
 z1:1<=k.zs.length
 z6:k.zs.length<=6
 up:k.zs.Pairwise (· < ·)
 rng:∀z∈k.zs,1<=z/\z<=6
def Ws(H:Hp)(c:Zl×V)(k:Wd):Prop:=c.1=Sum.inr k.nm/\∃r z,c.2=.ref r/\H r=some (.tup [.int (k.pr:Nat),.int (k.la:Nat),.ref z])/\H z=some (.tup (Yb k.zs))
theorem Ws.same{H f:Hp}{c:Zl×V}{k:Wd}(s:Ze H f)(h:Ws H c k):Ws f c k:=let ⟨e,r,z,e1,e2,e3⟩:=h;⟨e,r,z,e1,s _ _ e2,s _ _ e3⟩
def Y3(H:Hp)(c:Zl×V)(k:Yk):Prop:=c.1=Sum.inr k.nm/\∃r,c.2=.ref r/\H r=some (.tup [.int (k.z:Nat),.int (k.ch:Nat)])
theorem Y3.same{H f:Hp}{c:Zl×V}{k:Yk}(s:Ze H f)(h:Y3 H c k):Y3 f c k:=let ⟨e,r,e1,e2⟩:=h;⟨e,r,e1,s _ _ e2⟩
def XH(H:Hp)(c:Zl×V)(k:Tp):Prop:=c.1=Sum.inr k.nm/\∃r q e,c.2=.ref r/\H r=some (.tup [.str k.ru,.ref q])/\H q=some (.tup e)/\Al (Yw H) e k.cs
theorem XH.same{H f:Hp}{c:Zl×V}{k:Tp}(s:Ze H f)(h:XH H c k):XH f c k:=let ⟨e,r,q,vs,e1,e2,e3,e4⟩:=h;⟨e,r,q,vs,e1,s _ _ e2,s _ _ e3,e4.imp fun _ _=>Yw.same s⟩
def X3(t:Yn)(H:Hp)(c:Zl×V)(k:Yl):Prop:=c.1=Sum.inr k.nm/\Wb t H c.2 k.r
theorem X3.same{H e:Hp}{c:Zl×V}{k:Yl}(s:Ze H e)(h:X3 t H c k):X3 t e c k:=⟨h.1,h.2.same s⟩
def Xf(H:Hp)(v:V)(x:Wl):Prop:=∃p,v=.ref p/\H p=some (.tup [.str x.o,.str x.t,.int (x.m:Nat)])
theorem Xf.same{H c:Hp}{v:V}{x:Wl}(s:Ze H c)(h:Xf H v x):Xf c v x:=let ⟨p,e,h⟩:=h;⟨p,e,s _ _ h⟩
structure Z7 where
 st:List Yk
 wk:List Wl
 ru:List Yl
 tk:List Wd
 tp:List Tp
structure NA where
 ds:Addr
 lw:Addr
 dr:Addr
 dt:Addr
 dp:Addr
structure Zjj(fs:List (Str×V))(a:NA):Prop where
 fs1:fs.lookup ("stop_rows" : Str)=some (V.ref a.ds)
 fw:fs.lookup ("walk_rows" : Str)=some (V.ref a.lw)
 fr:fs.lookup ("rule_rows" : Str)=some (V.ref a.dr)
 ft:fs.lookup ("ticket_rows" : Str)=some (V.ref a.dt)
 fp:fs.lookup ("trip_rows" : Str)=some (V.ref a.dp)
 n_calls:fs.lookup ("calls" : Str)=none
 n_rule_name:fs.lookup ("rule_name" : Str)=none
 n_rule:fs.lookup ("rule" : Str)=none
 n_trips:fs.lookup ("trips" : Str)=none
 n_check_stop:fs.lookup ("check_stop" : Str)=none
 n_check_trip:fs.lookup ("check_trip" : Str)=none
 n_check_call:fs.lookup ("check_call" : Str)=none
 n_has_walk:fs.lookup ("has_walk" : Str)=none
 n_add_stop:fs.lookup ("add_stop" : Str)=none
 n_add_walk:fs.lookup ("add_walk" : Str)=none
 n_add_rule:fs.lookup ("add_rule" : Str)=none
 n_add_ticket:fs.lookup ("add_ticket" : Str)=none
 n_add_trip:fs.lookup ("add_trip" : Str)=none
 n_zone:fs.lookup ("zone" : Str)=none
 n_change:fs.lookup ("change" : Str)=none
 n_stops:fs.lookup ("stops" : Str)=none
 n_walks:fs.lookup ("walks" : Str)=none
 n_tickets:fs.lookup ("tickets" : Str)=none
 n_ticket:fs.lookup ("ticket" : Str)=none
structure Zby(a:NA):Prop where
 sr:a.ds≠a.dr
 st:a.ds≠a.dt
 sp:a.ds≠a.dp
 rt:a.dr≠a.dt
 rp:a.dr≠a.dp
 tp:a.dt≠a.dp
structure Yo(t:Yn)(H:Hp)(n:Addr)(a:NA)(N:Z7):Prop where
 ob:∃dx fs,H n=some (.ins t.Z1 dx fs)/\Zjj fs a
 ap:Zby a
 st:∃rows,H a.ds=some (.dK rows)/\Al (Y3 H) rows N.st
 wk:∃vs,H a.lw=some (.lst vs)/\Al (Xf H) vs N.wk
 ru:∃rows,H a.dr=some (.dK rows)/\Al (X3 t H) rows N.ru
 tk:∃rows,H a.dt=some (.dK rows)/\Al (Ws H) rows N.tk
 tp:∃rows,H a.dp=some (.dK rows)/\Al (XH H) rows N.tp
theorem Yo.same{H c:Hp}{n:Addr}{a:NA}{N:Z7}(s:Ze H c)(h:Yo t H n a N):Yo t c n a N:=by
 obtain⟨⟨i,fs,C,q⟩,ap,⟨r1,f,u⟩,⟨e,j,I⟩,⟨B,g,E⟩,⟨r3,x,v⟩,⟨y,D,G⟩⟩:=h;exact⟨⟨i,fs,s _ _ C,q⟩,ap,⟨r1,s _ _ f,u.imp fun _ _=>Y3.same s⟩,⟨e,s _ _ j,I.imp fun _ _=>Xf.same s⟩,⟨B,s _ _ g,E.imp fun _ _=>X3.same s⟩,⟨r3,s _ _ x,v.imp fun _ _=>Ws.same s⟩,⟨y,s _ _ D,G.imp fun _ _=>XH.same s⟩⟩
structure VR(H0:Hp)(a:NA):Prop where
 s:H0 a.ds=none
 w:H0 a.lw=none
 r:H0 a.dr=none
 t:H0 a.dt=none
 p:H0 a.dp=none
def VS(t:Yn)(H:Hp)(n:Addr)(N:Z7):Prop:=∃a,Yo t H n a N
theorem VS.same{H c:Hp}{n:Addr}{N:Z7}(s:Ze H c)(h:VS t H n N):VS t c n N:=let ⟨a,h⟩:=h;⟨a,h.same s⟩
theorem QY{f:Str}{v:V}{fs:List (Str×V)}{n:Nat}(h:fs.length<=n):(Z4 f v fs).length<=n+1:=Sh (A3 _ _ _) (Nat.succ_le_succ h)
inductive Zjk(t:Yn)(vs:List V)(H:Hp)(Q:VK)(_e3:XK):Prop|mk (x:Addr) (H0:Hp) (_:vs=[.ref x]) (_:H0 x=none) (_:Ze H0 H) (_:(∃dx,H x=some (.ins t.Z1 dx []))) (_:∀H' a,Ze H0 H'->Yo t H' x a ⟨[],[],[],[],[]⟩->VR H0 a->Q .non H')
theorem Zjl(j:Zs K mg t):Zq P w K mg base Zt 1 t.RJ t.kN ["self"] (Zjk t):=by
 refine j.ZaH.F.ok Zgy (by lia) fun x0 A outer s H vs a1 z0 hr v0=>?_;obtain⟨x,H0,rfl,L,s0,⟨c,hx⟩,t0⟩:=v0;refine⟨_,(Zi (XT (pv 0) V5 R) (Zi (XT (pv 0) (Z2 XE) R) (Zi (XT (pv 0) V5 R) (Zi (XT (pv 0) V5 R) (Zh (XT (pv 0) V5 R)))))),?_⟩;sleep 5;intro p1 g1;have E:p1≠x:=fun z=>by rw[z,hx]at g1;cases g1
 have d1:=s0.free g1;refine⟨_,R,x,_,c,_,R,(by rw[Zf E.symm];exact hx),j.Ys,j.Kb,by lia,?_⟩;generalize o0:Z4 "stop_rows" (.ref p1) []=C;have g0:C.length<=1:=by rw[<-o0];exact QY (Sk 0)
 have U:=Y7 (s0.trans (Zy g1 (.dK []))) L (.ins t.Z1 c C);have Z:(Za (Za H p1 (.dK [])) x (.ins t.Z1 c C)) x=some (.ins t.Z1 c C):=Zm;have e:(Za (Za H p1 (.dK [])) x (.ins t.Z1 c C)) p1=some (.dK []):=by rw[Zf E];exact Zm
 generalize Za (Za H p1 (.dK [])) x (.ins t.Z1 c C)=O at U Z e ⊢;refine⟨by show 0<=sizeLine;lia,fun f g2=>?_⟩;have J:f≠x:=fun z=>by rw[z,Z]at g2;cases g2
 have w0:p1≠f:=ZT e g2;have d2:=U.free g2;refine⟨_,R,x,_,c,_,R,(by rw[Zf J.symm];exact Z),j.Ys,j.LL,Sj g0 (by lia),?_⟩;generalize c0:Z4 "walk_rows" (.ref f) C=y;have i0:y.length<=2:=by rw[<-c0];exact QY g0
 have S:=Y7 (U.trans (Zy g2 (.lst []))) L (.ins t.Z1 c y);have X:(Za (Za O f (.lst [])) x (.ins t.Z1 c y)) x=some (.ins t.Z1 c y):=Zm;have e:(Za (Za O f (.lst [])) x (.ins t.Z1 c y)) p1=some (.dK []):=by rw[Zf E,Zf w0];exact e
 have i:(Za (Za O f (.lst [])) x (.ins t.Z1 c y)) f=some (.lst []):=by rw[Zf J];exact Zm
 generalize Za (Za O f (.lst [])) x (.ins t.Z1 c y)=I at S X e i ⊢;intro p3 g3;have M:p3≠x:=fun z=>by rw[z,X]at g3;cases g3
 have p0:p1≠p3:=ZT e g3;have r0:f≠p3:=ZT i g3;have d3:=S.free g3;refine⟨_,R,x,_,c,_,R,(by rw[Zf M.symm];exact X),j.Ys,j.QS,Sj i0 (by lia),?_⟩;generalize j0:Z4 "rule_rows" (.ref p3) y=v;have h0:v.length<=3:=by rw[<-j0];exact QY i0
 have Y:=Y7 (S.trans (Zy g3 (.dK []))) L (.ins t.Z1 c v);have Q:(Za (Za I p3 (.dK [])) x (.ins t.Z1 c v)) x=some (.ins t.Z1 c v):=Zm;have e:(Za (Za I p3 (.dK [])) x (.ins t.Z1 c v)) p1=some (.dK []):=by rw[Zf E,Zf p0];exact e
 have i:(Za (Za I p3 (.dK [])) x (.ins t.Z1 c v)) f=some (.lst []):=by rw[Zf J,Zf r0];exact i
 have u:(Za (Za I p3 (.dK [])) x (.ins t.Z1 c v)) p3=some (.dK []):=by rw[Zf M];exact Zm
 generalize Za (Za I p3 (.dK [])) x (.ins t.Z1 c v)=D at Y Q e i u ⊢;intro g g4;have x4:g≠x:=fun z=>by rw[z,Q]at g4;cases g4
 have k0:p1≠g:=ZT e g4;have u0:f≠g:=ZT i g4;have d0:p3≠g:=ZT u g4;have d4:=Y.free g4;refine⟨_,R,x,_,c,_,R,(by rw[Zf x4.symm];exact Q),j.Ys,j.LM,Sj h0 (by lia),?_⟩;generalize m0:Z4 "ticket_rows" (.ref g) v=n;have l0:n.length<=4:=by rw[<-m0];exact QY h0
 have T:=Y7 (Y.trans (Zy g4 (.dK []))) L (.ins t.Z1 c n);have y4:(Za (Za D g (.dK [])) x (.ins t.Z1 c n)) x=some (.ins t.Z1 c n):=Zm;have e:(Za (Za D g (.dK [])) x (.ins t.Z1 c n)) p1=some (.dK []):=by rw[Zf E,Zf k0];exact e
 have i:(Za (Za D g (.dK [])) x (.ins t.Z1 c n)) f=some (.lst []):=by rw[Zf J,Zf u0];exact i
 have u:(Za (Za D g (.dK [])) x (.ins t.Z1 c n)) p3=some (.dK []):=by rw[Zf M,Zf d0];exact u
 have G:(Za (Za D g (.dK [])) x (.ins t.Z1 c n)) g=some (.dK []):=by rw[Zf x4];exact Zm
 generalize Za (Za D g (.dK [])) x (.ins t.Z1 c n)=B at T y4 e i u G ⊢;intro h g5;have x5:h≠x:=fun z=>by rw[z,y4]at g5;cases g5
 have b0:p1≠h:=ZT e g5;have q0:f≠h:=ZT i g5;have e0:p3≠h:=ZT u g5;have a0:g≠h:=ZT G g5;have d5:=T.free g5;refine⟨_,R,x,_,c,_,R,(by rw[Zf x5.symm];exact y4),j.Ys,j.Qa,Sj l0 (by lia),?_⟩;generalize f0:Z4 "trip_rows" (.ref h) n=q;have y0:q.length<=5:=by rw[<-f0];exact QY l0
 have u5:=Y7 (T.trans (Zy g5 (.dK []))) L (.ins t.Z1 c q);have y5:(Za (Za B h (.dK [])) x (.ins t.Z1 c q)) x=some (.ins t.Z1 c q):=Zm;have e:(Za (Za B h (.dK [])) x (.ins t.Z1 c q)) p1=some (.dK []):=by rw[Zf E,Zf b0];exact e
 have i:(Za (Za B h (.dK [])) x (.ins t.Z1 c q)) f=some (.lst []):=by rw[Zf J,Zf q0];exact i
 have u:(Za (Za B h (.dK [])) x (.ins t.Z1 c q)) p3=some (.dK []):=by rw[Zf M,Zf e0];exact u
 have G:(Za (Za B h (.dK [])) x (.ins t.Z1 c q)) g=some (.dK []):=by rw[Zf x4,Zf a0];exact G
 have k5:(Za (Za B h (.dK [])) x (.ins t.Z1 c q)) h=some (.dK []):=by rw[Zf x5];exact Zm
 generalize Za (Za B h (.dK [])) x (.ins t.Z1 c q)=H5 at u5 y5 e i u G k5 ⊢;subst o0 c0 j0 m0 f0;exact t0 _ ⟨p1,f,p3,g,h⟩ u5 ⟨⟨c,_,y5,⟨R,R,R,R,R,R,R,R,R,R,R,R,R,R,R,R,R,R,R,R,R,R,R,R⟩⟩,⟨p0,k0,b0,d0,e0,a0⟩,⟨[],e,.nil⟩,⟨[],i,.nil⟩,⟨[],u,.nil⟩,⟨[],G,.nil⟩,⟨[],k5,.nil⟩⟩ ⟨d1,d2,d3,d4,d5⟩
structure ZI(u:HO):Prop where
 nt:∀ys,u≠.tup ys
 ni:∀c x fs,u≠.ins c x fs
 nf:∀o v,u≠.frz o v
theorem ZI.k{c:List (Zl×V)}:ZI (.dK c):=⟨fun _ z=>(nomatch z),fun _ _ _ z=>(nomatch z),fun _ _ z=>(nomatch z)⟩
theorem ZI.l{xs:List V}:ZI (.lst xs):=⟨fun _ z=>(nomatch z),fun _ _ _ z=>(nomatch z),fun _ _ z=>(nomatch z)⟩
theorem ZI.dt{c:List (List Zl×V)}:ZI (.dT c):=⟨fun _ z=>(nomatch z),fun _ _ _ z=>(nomatch z),fun _ _ z=>(nomatch z)⟩
theorem XO{H:Hp}{d p:Addr}{u o:HO}{xs:List V}(hd:H d=some u)(lo:ZI u)(h:H p=some (.tup xs)):Za H d o p=some (.tup xs):=by
 rw[Zf (Z3 h hd (fun z=>lo.nt _ z.symm))];exact h
theorem UR{H:Hp}{d p c x:Addr}{u o:HO}{fs:List (Str×V)}(hd:H d=some u)(lo:ZI u)(h:H p=some (.ins c x fs)):Za H d o p=some (.ins c x fs):=by
 rw[Zf (Z3 h hd (fun z=>lo.ni _ _ _ z.symm))];exact h
section Pt
variable{H:Hp}{d:Addr}{u o:HO}(hd:H d=some u)(lo:ZI u)
include hd lo
theorem Ws.put{c:Zl×V}{k:Wd}(h:Ws H c k):Ws (Za H d o) c k:=let ⟨e,r,z,e1,e2,e3⟩:=h;⟨e,r,z,e1,XO hd lo e2,XO hd lo e3⟩
theorem Y3.put{c:Zl×V}{k:Yk}(h:Y3 H c k):Y3 (Za H d o) c k:=let ⟨e,r,e1,e2⟩:=h;⟨e,r,e1,XO hd lo e2⟩
theorem Yw.put{v:V}{c:Cl}(h:Yw H v c):Yw (Za H d o) v c:=let ⟨p,e,h⟩:=h;⟨p,e,XO hd lo h⟩
theorem XH.put{c:Zl×V}{k:Tp}(h:XH H c k):XH (Za H d o) c k:=let ⟨e,r,q,vs,e1,e2,e3,e4⟩:=h;⟨e,r,q,vs,e1,XO hd lo e2,XO hd lo e3,e4.imp fun _ _=>Yw.put hd lo⟩
theorem Xf.put{v:V}{x:Wl}(h:Xf H v x):Xf (Za H d o) v x:=let ⟨p,e,h⟩:=h;⟨p,e,XO hd lo h⟩
theorem Wb.put{v:V}{r:R3}(h:Wb t H v r):Wb t (Za H d o) v r:=let ⟨b,e,h⟩:=h;⟨b,e,ZZ.keepF (fun _ _ _ _ _ e=>UR hd lo e) (fun _ _=>TR (XO hd lo) fun _ e=>by rw[Zf (Z3 e hd (fun z=>lo.nf _ _ z.symm))];exact e) h⟩
theorem X3.put{c:Zl×V}{k:Yl}(h:X3 t H c k):X3 t (Za H d o) c k:=⟨h.1,h.2.put hd lo⟩
end Pt
theorem Yo.addSt{H:Hp}{n:Addr}{a:NA}{N:Z7}{rows:List (Zl×V)}{x:Yk}{v:V}(h:Yo t H n a N)(c:H a.ds=some (.dK rows))(I:Al (Y3 H) rows N.st)(i:Zz rows (Sum.inr x.nm)=none)(G:Y3 H (Sum.inr x.nm,v) x) :
  Yo t (Za H a.ds (.dK (YO rows (Sum.inr x.nm) v))) n a { N with st:=N.st++[x] }:=by
 obtain⟨⟨j,fs,C,q⟩,ap,_,⟨f,e,M⟩,⟨D,g,J⟩,⟨r3,y,u⟩,⟨B,E,L⟩⟩:=h;refine⟨⟨j,fs,UR c ZI.k C,q⟩,ap,⟨_,Zm,?_⟩,⟨f,by rw[Zf (Z3 e c (by intro z;cases z))];exact e,M.imp fun _ _=>Xf.put c ZI.k⟩,⟨D,by rw[Zf (ap.sr.symm)];exact g,J.imp fun _ _=>X3.put c ZI.k⟩,⟨r3,by rw[Zf (ap.st.symm)];exact y,u.imp fun _ _=>Ws.put c ZI.k⟩,⟨B,by rw[Zf (ap.sp.symm)];exact E,L.imp fun _ _=>XH.put c ZI.k⟩⟩;rw[UI v i];exact(I.imp fun _ _=>Y3.put c ZI.k).snoc (G.put c ZI.k)
theorem Yo.addWk{H:Hp}{n:Addr}{a:NA}{N:Z7}{vs:List V}{x:Wl}{v:V}(h:Yo t H n a N)(c:H a.lw=some (.lst vs))(J:Al (Xf H) vs N.wk)(E:Xf H v x) :
  Yo t (Za H a.lw (.lst (vs++[v]))) n a { N with wk:=N.wk++[x] }:=by
 obtain⟨⟨q,fs,C,u⟩,ap,⟨r1,e,G⟩,_,⟨D,f,j⟩,⟨r3,g,y⟩,⟨B,i,I⟩⟩:=h;refine⟨⟨q,fs,UR c ZI.l C,u⟩,ap,⟨r1,by rw[Zf (Z3 e c (by intro z;cases z))];exact e,G.imp fun _ _=>Y3.put c ZI.l⟩,⟨_,Zm,?_⟩,⟨D,by rw[Zf (Z3 f c (by intro z;cases z))];exact f,j.imp fun _ _=>X3.put c ZI.l⟩,⟨r3,by rw[Zf (Z3 g c (by intro z;cases z))];exact g,y.imp fun _ _=>Ws.put c ZI.l⟩,⟨B,by rw[Zf (Z3 i c (by intro z;cases z))];exact i,I.imp fun _ _=>XH.put c ZI.l⟩⟩;exact(J.imp fun _ _=>Xf.put c ZI.l).snoc (E.put c ZI.l)
theorem Yo.addRu{H:Hp}{n:Addr}{a:NA}{N:Z7}{rows:List (Zl×V)}{x:Yl}{v:V}(h:Yo t H n a N)(c:H a.dr=some (.dK rows))(G:Al (X3 t H) rows N.ru)(i:Zz rows (Sum.inr x.nm)=none)(I:X3 t H (Sum.inr x.nm,v) x) :
  Yo t (Za H a.dr (.dK (YO rows (Sum.inr x.nm) v))) n a { N with ru:=N.ru++[x] }:=by
 obtain⟨⟨j,fs,D,q⟩,ap,⟨r1,g,u⟩,⟨f,e,L⟩,_,⟨r3,B,y⟩,⟨C,E,J⟩⟩:=h;refine⟨⟨j,fs,UR c ZI.k D,q⟩,ap,⟨r1,by rw[Zf (ap.sr)];exact g,u.imp fun _ _=>Y3.put c ZI.k⟩,⟨f,by rw[Zf (Z3 e c (by intro z;cases z))];exact e,L.imp fun _ _=>Xf.put c ZI.k⟩,⟨_,Zm,?_⟩,⟨r3,by rw[Zf (ap.rt.symm)];exact B,y.imp fun _ _=>Ws.put c ZI.k⟩,⟨C,by rw[Zf (ap.rp.symm)];exact E,J.imp fun _ _=>XH.put c ZI.k⟩⟩;rw[UI v i];exact(G.imp fun _ _=>X3.put c ZI.k).snoc (I.put c ZI.k)
theorem Yo.addTk{H:Hp}{n:Addr}{a:NA}{N:Z7}{rows:List (Zl×V)}{x:Wd}{v:V}(h:Yo t H n a N)(c:H a.dt=some (.dK rows))(I:Al (Ws H) rows N.tk)(q:Zz rows (Sum.inr x.nm)=none)(G:Ws H (Sum.inr x.nm,v) x) :
  Yo t (Za H a.dt (.dK (YO rows (Sum.inr x.nm) v))) n a { N with tk:=N.tk++[x] }:=by
 obtain⟨⟨u,fs,C,y⟩,ap,⟨r1,g,J⟩,⟨f,e,M⟩,⟨D,j,i⟩,_,⟨B,E,L⟩⟩:=h;refine⟨⟨u,fs,UR c ZI.k C,y⟩,ap,⟨r1,by rw[Zf (ap.st)];exact g,J.imp fun _ _=>Y3.put c ZI.k⟩,⟨f,by rw[Zf (Z3 e c (by intro z;cases z))];exact e,M.imp fun _ _=>Xf.put c ZI.k⟩,⟨D,by rw[Zf (ap.rt)];exact j,i.imp fun _ _=>X3.put c ZI.k⟩,⟨_,Zm,?_⟩,⟨B,by rw[Zf (ap.tp.symm)];exact E,L.imp fun _ _=>XH.put c ZI.k⟩⟩;rw[UI v q];exact(I.imp fun _ _=>Ws.put c ZI.k).snoc (G.put c ZI.k)
theorem Yo.addTp{H:Hp}{n:Addr}{a:NA}{N:Z7}{rows:List (Zl×V)}{x:Tp}{v:V}(h:Yo t H n a N)(c:H a.dp=some (.dK rows))(I:Al (XH H) rows N.tp)(q:Zz rows (Sum.inr x.nm)=none)(G:XH H (Sum.inr x.nm,v) x) :
  Yo t (Za H a.dp (.dK (YO rows (Sum.inr x.nm) v))) n a { N with tp:=N.tp++[x] }:=by
 obtain⟨⟨u,fs,D,y⟩,ap,⟨r1,g,J⟩,⟨f,e,L⟩,⟨E,j,i⟩,⟨r3,C,B⟩,_⟩:=h;refine⟨⟨u,fs,UR c ZI.k D,y⟩,ap,⟨r1,by rw[Zf (ap.sp)];exact g,J.imp fun _ _=>Y3.put c ZI.k⟩,⟨f,by rw[Zf (Z3 e c (by intro z;cases z))];exact e,L.imp fun _ _=>Xf.put c ZI.k⟩,⟨E,by rw[Zf (ap.rp)];exact j,i.imp fun _ _=>X3.put c ZI.k⟩,⟨r3,by rw[Zf (ap.tp)];exact C,B.imp fun _ _=>Ws.put c ZI.k⟩,⟨_,Zm,?_⟩⟩;rw[UI v q];exact(I.imp fun _ _=>XH.put c ZI.k).snoc (G.put c ZI.k)
inductive Zjm(t:Yn)(vs:List V)(H:Hp)(Q:VK)(_e3:XK):Prop|mk (n:Addr) (a:NA) (N:Z7) (x:Yk) (H0:Hp) (_:vs=[.ref n,.str x.nm,.int (x.z:Nat),.int (x.ch:Nat)]) (_:Yo t H n a N) (_:VR H0 a) (_:Ze H0 H) (_:YU x.nm) (_:1<=x.z) (_:x.z<=6) (_:x.ch<=30) (_:ZO Yk.nm N.st x.nm=none) (_:N.st.length<8) (_:∀H',Ze H0 H'->Yo t H' n a { N with st:=N.st++[x] }->Q .non H')
theorem Zjn(c:Zs K mg t):Zq P w K mg base Zt 4 t.kO t.kP ["self","name","zone","change"] (Zjm t):=by
 refine c.Tb.F.ok Zgz (by lia) fun X A outer s H T Q E f h=>?_;obtain⟨n,a,N,x,U,rfl,j,D,O,J,z1,z6,Z,M,hlen,q⟩:=h;obtain⟨v,fs,y,i⟩:=j.ob;obtain⟨rows,g,B⟩:=j.st;have C:=(XA (fun L x (h:Y3 H L x)=>h.1) B x.nm).1 M;have I:rows.length<8:=by rw[B.length];exact hlen
 refine⟨_,(Zi (Yh (ZC c.JX (L0 c) f Zp (Zr (pv 1) (ZU (pv 0) R)))) (Zi (Yh (ZC c.Uc (QX c) f Zp (Yr (pv 2) Zb (Y0 R c.RL)))) (Zi (Yh (ZC c.Uc (QX c) f Zp (Yr (pv 3) Zb (Y0 R c.Zha)))) (Zi (Yh (ZC c.QQ (L1 c) f Zp (Zr (ZU (pv 0) R) (Y0 R c.Zg5)))) (Zh (Vc (YZ f) (ZU (pv 0) R) (pv 1) (Yj (Zr (pv 2) (pv 3))) R)))))),?_⟩;sleep 5;refine⟨_,R,_,R,n,_,v,_,_,R,y,c.Ys,c.Kb,i.fs1,x.nm,a.ds,rows,R,g,J,C,fun Y u=>?_⟩;refine⟨_,R,x.z,1,6,R,by lia,by lia,?_⟩;refine⟨_,R,x.ch,0,30,R,by lia,by lia,?_⟩;refine⟨_,R,n,_,v,_,_,R,u _ _ y,c.Ys,c.Kb,i.fs1,a.ds,rows,8,R,u _ _ g,by lia,?_⟩;refine⟨_,R,_,R,by show 2<=sizeLine;lia,fun r G=>?_⟩;have S:=Zy G (.tup [.int (x.z:Nat),.int (x.ch:Nat)]);have e:=u.trans S;refine⟨_,R,n,_,v,_,_,R,e _ _ y,c.Ys,c.Kb,i.fs1,_,R,a.ds,_,R,XM.k (k:=Sum.inr x.nm) (e _ _ g) (Nat.lt_trans I (by lia)),?_⟩;exact q _ (Y7 (O.trans e) D.s _) ((j.same e).addSt (e _ _ g) (B.imp fun _ _=>Y3.same e) C ⟨R,r,R,Zm⟩)
inductive Zjo(t:Yn)(vs:List V)(H:Hp)(Q:VK)(_e3:XK):Prop|mk (n:Addr) (a:NA) (N:Z7) (x:Yl) (v:V) (H0:Hp) (_:vs=[.ref n,.str x.nm,v]) (_:Yo t H n a N) (_:VR H0 a) (_:Ze H0 H) (_:YU x.nm) (_:Wb t H v x.r) (_:x.r.Ok) (_:ZO Yl.nm N.ru x.nm=none) (_:N.ru.length<6) (_:∀H',Ze H0 H'->Yo t H' n a { N with ru:=N.ru++[x] }->Q .non H')
theorem Zjp(c:Zs K mg t):Zq P w K mg base Zt 44 t.kS t.kT ["self","name","rule"] (Zjo t):=by
 refine c.Tf.F.ok uK (by lia) fun Z A outer s H Y b0 a0 f h=>?_;obtain⟨n,a,N,x,v,X,rfl,j,E,T,L,M,G,Q,J,q⟩:=h;obtain⟨u,fs,y,i⟩:=j.ob;obtain⟨rows,g,B⟩:=j.ru;have C:=(XA (fun O x (h:X3 t H O x)=>h.1) B x.nm).1 Q;have I:rows.length<6:=by rw[B.length];exact J
 refine⟨_,(Zi (Yh (ZC c.JX (L0 c) f Zp (Zr (pv 1) (ZU (pv 0) R)))) (Zi (ZR 3 uK.nd (ZC c.UP (Zbx c) f Zp (Zj (pv 2)))) (Zi (Yh (ZC c.QQ (L1 c) f Zp (Zr (ZU (pv 0) R) (Y0 R c.Zg7)))) (Zh (Vc (YZ f) (ZU (pv 0) R) (pv 1) (pv 3) R))))),?_⟩;sleep 4;refine⟨_,R,_,R,n,_,u,_,_,R,y,c.Ys,c.QS,i.fr,x.nm,a.dr,rows,R,g,L,C,fun H1 D=>?_⟩;refine⟨_,R,v,x.r,R,M.same D,G,trivial,fun v' U s2 S=>?_⟩;have e:=D.trans s2;refine⟨_,R,n,_,u,_,_,R,e _ _ y,c.Ys,c.QS,i.fr,a.dr,rows,6,R,e _ _ g,by lia,?_⟩;refine⟨_,R,_,R,n,_,u,_,_,R,e _ _ y,c.Ys,c.QS,i.fr,_,R,a.dr,_,R,XM.k (k:=Sum.inr x.nm) (e _ _ g) (Nat.lt_trans I (by lia)),?_⟩;exact q _ (Y7 (T.trans e) E.r _) ((j.same e).addRu (e _ _ g) (B.imp fun _ _=>X3.same e) C ⟨R,S⟩)
inductive Zjq(t:Yn)(vs:List V)(H:Hp)(Q:VK)(_e3:XK):Prop|mk (n:Addr) (a:NA) (N:Z7) (k:Wd) (zl:Addr) (H0:Hp) (_:vs=[.ref n,.str k.nm,.int (k.pr:Nat),.int (k.la:Nat),.ref zl]) (_:Yo t H n a N) (_:VR H0 a) (_:Ze H0 H) (_:H zl=some (.lst (Yb k.zs))) (_:k.Ok) (_:ZO Wd.nm N.tk k.nm=none) (_:N.tk.length<3) (_:∀H',Ze H0 H'->Yo t H' n a { N with tk:=N.tk++[k] }->Q .non H')
theorem Zjr(c:Zs K mg t):Zq P w K mg base Zt 4 t.kU t.kW ["self","name","price","lasts","zones"] (Zjq t):=by
 refine c.Tg.F.ok ZgB (by lia) fun Z A outer s H X a0 E f h=>?_;obtain⟨n,a,N,k,I,Y,rfl,u,L,T,C,ok,S,hlen,q⟩:=h;obtain⟨v,fs,y,j⟩:=u.ob;obtain⟨rows,i,B⟩:=u.tk;have G:=(XA (fun Q x (h:Ws H Q x)=>h.1) B k.nm).1 S;have O:rows.length<3:=by rw[B.length];exact hlen
 refine⟨_,(Zi (Yh (ZC c.JX (L0 c) f Zp (Zr (pv 1) (ZU (pv 0) R)))) (Zi (Yh (ZC c.Uc (QX c) f Zp (Yr (pv 2) Zb (Y0 R c.Zhc)))) (Zi (Yh (ZC c.Uc (QX c) f Zp (Yr (pv 3) Zb (Y0 R c.Zhd)))) (Zi (ZJ (YI (YL (ZC c.Lr (TF c) f Zp (Wq (pv 4) (Y0 R c.RL) Zb (Y0 R c.RL))))) (Zh Xv) ZK) (Zi (Yh (ZC c.QQ (L1 c) f Zp (Zr (ZU (pv 0) R) (Y0 R c.Zg8)))) (Zh (Vc (YZ f) (ZU (pv 0) R) (pv 1) (Yj (Yr (pv 2) (pv 3) (YF F4 R c.C8 C6 (Zj (pv 4))))) R))))))),?_⟩;sleep 6;refine⟨_,R,_,R,n,_,v,_,_,R,y,c.Ys,c.LM,j.ft,k.nm,a.dt,rows,R,i,ok.nm,G,fun H1 g=>?_⟩;refine⟨_,R,k.pr,0,10000,R,by lia,by have:=ok.pr;lia,?_⟩;refine⟨_,R,k.la,1,1440,R,by have:=ok.la1;lia,by have:=ok.la;lia,?_⟩;refine⟨_,R,I,k.zs,6,1,6,R,g _ _ C,ok.z1,ok.z6,ok.up,fun x D=>⟨(ok.rng x D).1,by have:=(ok.rng x D).2;lia⟩,_,R,Zn (by lia) ?_⟩;sleep 1;refine⟨_,R,n,_,v,_,_,R,g _ _ y,c.Ys,c.LM,j.ft,a.dt,rows,3,R,g _ _ i,by lia,?_⟩;refine⟨_,R,_,R,_,R,I,_,R,.inl ⟨Zg.of (g _ _ C),fun p U=>?_⟩⟩;have s2:=Zy U (.tup (Yb k.zs));refine⟨by show 3<=sizeLine;lia,fun r M=>?_⟩;have J:=Zy M (.tup [.int (k.pr:Nat),.int (k.la:Nat),.ref p]);have e:=(g.trans s2).trans J;refine⟨_,R,n,_,v,_,_,R,e _ _ y,c.Ys,c.LM,j.ft,_,R,a.dt,_,R,XM.k (k:=Sum.inr k.nm) (e _ _ i) (Nat.lt_trans O (by lia)),?_⟩;exact q _ (Y7 (T.trans e) L.t _) ((u.same e).addTk (e _ _ i) (B.imp fun _ _=>Ws.same e) G ⟨R,r,p,R,Zm,J _ _ Zm⟩)
inductive Zjs(t:Yn)(vs:List V)(H:Hp)(Q:VK)(_e3:XK):Prop|mk (n:Addr) (N:Z7) (z:Str) (_:vs=[.ref n,.str z]) (_:VS t H n N) (_:(ZO Yk.nm N.st z).isSome=true) (_:Q .non H)
theorem TU(c:Zs K mg t):Zq P w K mg base Zt 2 t.kZ t.gA ["self","name"] (Zjs t):=by
 refine c.QR.F.ok ZgC (by lia) fun G A outer s H D Q E j h=>?_;obtain⟨n,N,z,rfl,⟨a,e⟩,u,q⟩:=h;obtain⟨v,fs,y,i⟩:=e.ob;obtain⟨rows,C,B⟩:=e.st;obtain⟨x,ex⟩:=Option.isSome_iff_exists.mp u;obtain⟨f,g,_⟩:=(XA (fun f x (h:Y3 H f x)=>h.1) B z).2 x ex;refine⟨_,(Zh (ZJ (YI (YL (ZC c.QP (LZ c) j Zp (Zr (pv 1) (ZU (pv 0) R))))) (Zh Xv) ZK)),?_⟩;sleep 1;exact⟨_,R,_,R,n,_,v,_,_,R,y,c.Ys,c.Kb,i.fs1,z,a.ds,rows,R,C,_,R,Zn (by rw[g];exact SN) q⟩
inductive Zjt(t:Yn)(vs:List V)(H:Hp)(Q:VK)(_e3:XK):Prop|mk (n:Addr) (N:Z7) (z:Str) (_:vs=[.ref n,.str z]) (_:VS t H n N) (_:(ZO Tp.nm N.tp z).isSome=true) (_:Q .non H)
theorem Zbz(c:Zs K mg t):Zq P w K mg base Zt 2 t.gB t.gC ["self","name"] (Zjt t):=by
 refine c.J2.F.ok ZgD (by lia) fun G A outer s H D Q E j h=>?_;obtain⟨n,N,z,rfl,⟨a,e⟩,u,q⟩:=h;obtain⟨v,fs,y,i⟩:=e.ob;obtain⟨rows,C,B⟩:=e.tp;obtain⟨x,ex⟩:=Option.isSome_iff_exists.mp u;obtain⟨f,g,_⟩:=(XA (fun f x (h:XH H f x)=>h.1) B z).2 x ex;refine⟨_,(Zh (ZJ (YI (YL (ZC c.QP (LZ c) j Zp (Zr (pv 1) (ZU (pv 0) R))))) (Zh Xv) ZK)),?_⟩;sleep 1;exact⟨_,R,_,R,n,_,v,_,_,R,y,c.Ys,c.Qa,i.fp,z,a.dp,rows,R,C,_,R,Zn (by rw[g];exact SN) q⟩
inductive Zju(t:Yn)(vs:List V)(H:Hp)(Q:VK)(_e3:XK):Prop|mk (n:Addr) (N:Z7) (_:vs=[.ref n]) (_:VS t H n N) (_:∀l,H l=none->Q (.ref l) (Za H l (.lst ((N.tp.map Tp.nm).map V.str))))
theorem Zjv{H:Hp}{rows:List (Zl×V)}{tp:List Tp}(h:Al (XH H) rows tp):(rows.map fun c=>kV c.1)=(tp.map Tp.nm).map V.str:=by
 induction h with
 |nil=>rfl
 |cons a _ e=>rw[SL,SL,SL,e,a.1];rfl
theorem Zjw(c:Zs K mg t):Zq P w K mg base Zt 1 t.gH t.gJ ["self"] (Zju t):=by
 refine c.Tk.F.ok ZgG (by lia) fun y A outer s H x Q E B h=>?_;obtain⟨n,N,rfl,⟨a,e⟩,q⟩:=h;obtain⟨f,fs,i,g⟩:=e.ob;obtain⟨rows,v,j⟩:=e.tp;refine⟨_,(Zh (Zx (YF (Lc R) R c.Vj Vg (Zj (ZU (pv 0) R))))),?_⟩;sleep 1;refine⟨_,R,n,_,f,_,_,R,i,c.Ys,c.Qa,g.fp,a.dp,rows,R,v,fun l u=>?_⟩;rw[Zjv j];exact q l u
inductive Zjx(t:Yn)(vs:List V)(H:Hp)(Q:VK)(_e3:XK):Prop|mk (n:Addr) (N:Z7) (z:Str) (x:Tp) (_:vs=[.ref n,.str z]) (_:VS t H n N) (_:ZO Tp.nm N.tp z=some x) (_:∀l vs H',Ze H H'->H l=none->H' l=some (.lst vs)->Al (Yw H') vs x.cs->Q (.ref l) H')
theorem Zjy(c:Zs K mg t):Zq P w K mg base Zt 3 t.gO t.gP ["self","trip"] (Zjx t):=by
 refine c.To.F.ok ZgJ (by lia) fun T A outer s H f Q E u h=>?_;obtain⟨n,N,z,x,rfl,B,ex,q⟩:=h;have C:=B;obtain⟨a,j⟩:=C;obtain⟨v,fs,y,g⟩:=j.ob;obtain⟨rows,S,O⟩:=j.tp;obtain⟨i,I,_,r,M,f,G,J,L,D⟩:=(XA (fun i x (h:XH H i x)=>h.1) O z).2 x ex;refine⟨_,(Zi (Yh (YY (pv 0) c.Ys c.J2.me (Zbz c) (u.mono (by lia)) c.J2.b .nil Zp (Zj (pv 1)))) (Zh (Zx (YF U2 R c.Vj Vg (Zj (Zu ZP (YB u (ZU (pv 0) R) (pv 1)) Zb)))))),?_⟩;sleep 2;refine⟨_,R,n,v,_,R,y,g.n_check_trip,_,R,n,N,z,R,B,by rw[ex];rfl,?_⟩;refine⟨_,R,n,_,v,_,_,R,y,c.Ys,c.Qa,g.fp,_,R,a.dp,.ref r,R,?_,r,_,1,_,R,R,Zk.of J,R,M,_,R,.inr (Zk.of L),fun l e=>?_⟩
 ·rw[<-G,<-I];exact Z9.k (k:=Sum.inr z) S
 ·exact q l f _ (Zy e _) e Zm (D.imp fun _ _=>Yw.same (Zy e _))
inductive Zjz(t:Yn)(vs:List V)(H:Hp)(Q:VK)(_e3:XK):Prop|mk (n:Addr) (N:Z7) (z:Str) (x:Tp) (_:vs=[.ref n,.str z]) (_:VS t H n N) (_:ZO Tp.nm N.tp z=some x) (_:Q (.str x.ru) H)
theorem ZjA(c:Zs K mg t):Zq P w K mg base Zt 3 t.gM t.gN ["self","trip"] (Zjz t):=by
 refine c.Tn.F.ok ZgI (by lia) fun L A outer s H y Q E i h=>?_;obtain⟨n,N,z,x,rfl,v,ex,q⟩:=h;have B:=v;obtain⟨a,f⟩:=B;obtain⟨j,fs,u,e⟩:=f.ob;obtain⟨rows,J,I⟩:=f.tp;obtain⟨g,D,_,r,S,y,C,G,O,M⟩:=(XA (fun g x (h:XH H g x)=>h.1) I z).2 x ex;refine⟨_,(Zi (Yh (YY (pv 0) c.Ys c.J2.me (Zbz c) (i.mono (by lia)) c.J2.b .nil Zp (Zj (pv 1)))) (Zh (Zx (Zu ZP (YB i (ZU (pv 0) R) (pv 1)) Zb)))),?_⟩;sleep 2;refine⟨_,R,n,j,_,R,u,e.n_check_trip,_,R,n,N,z,R,v,by rw[ex];rfl,?_⟩;refine⟨_,R,n,_,j,_,_,R,u,c.Ys,c.Qa,e.fp,_,R,a.dp,.ref r,R,?_,r,_,0,_,R,R,Zk.of G,R,q⟩;rw[<-C,<-D];exact Z9.k (k:=Sum.inr z) J
inductive ZjB(t:Yn)(vs:List V)(H:Hp)(Q:VK)(_e3:XK):Prop|mk (n:Addr) (N:Z7) (z:Str) (x:Yl) (_:vs=[.ref n,.str z]) (_:VS t H n N) (_:ZO Yl.nm N.ru z=some x) (_:x.r.Ok) (_:∀v' H',Ze H H'->Wb t H' v' x.r->Q v' H')
theorem ZjC(c:Zs K mg t):Zq P w K mg base Zt 44 t.gK t.gL ["self","name"] (ZjB t):=by
 refine c.Tl.F.ok ZgH (by lia) fun G A outer s H D Q E f h=>?_;obtain⟨n,N,z,x,rfl,⟨a,j⟩,ex,ok,q⟩:=h;obtain⟨u,fs,v,i⟩:=j.ob;obtain⟨rows,y,C⟩:=j.ru;obtain⟨e,g,_,B⟩:=(XA (fun e x (h:X3 t H e x)=>h.1) C z).2 x ex;refine⟨_,(Zi (ZJ (YI (YL (ZC c.QP (LZ c) f Zp (Zr (pv 1) (ZU (pv 0) R))))) (Zh Xv) ZK) (Zh (Zx (ZC c.UP (Zbx c) f Zp (Zj (YB f (ZU (pv 0) R) (pv 1))))))),?_⟩;sleep 2;refine⟨_,R,_,R,n,_,u,_,_,R,v,c.Ys,c.QS,i.fr,z,a.dr,rows,R,y,_,R,Zn (by rw[g];exact SN) ?_⟩;sleep 1;refine⟨_,R,n,_,u,_,_,R,v,c.Ys,c.QS,i.fr,_,R,a.dr,e.2,R,?_,e.2,x.r,R,B,ok,trivial,q⟩;rw[<-g];exact Z9.k (k:=Sum.inr z) y
theorem QZ{z:Str}(h:YU z):(PyData.str z).canLay0=true:=by
 simp only[PyData.canLay0];show z.cps.all (fun c=>decide (c<0x110000))=true;rw[<-Array.all_toList,List.all_eq_true];intro c e;have:=h.2.2.1 c e;exact SO (by lia)
def Km(c:List Wl)(a b:Str):Bool:=c.any fun x=>(a == x.o && b == x.t) || (b == x.o && a == x.t)
inductive ZjD(K:Ow)(vs:List V)(H:Hp)(Q:VK)(_e3:XK):Prop|mk (l:Addr) (xs:List V) (n:Int) (_:vs=[.ref l,.int n]) (_:Zg K H l xs) (_:(xs.length:Int)<n) (_:Q .non H)
theorem ZjE(c:Zs K mg t):Zq P w K mg base Zt 1 t.P4 t.P5 ["kept","most"] (ZjD K):=by
 refine c.QQ.F.ok vW (by lia) fun g A outer s H f Q E i h=>?_;obtain⟨d,e,n,rfl,hd,j,q⟩:=h;refine⟨_,(Zh (ZJ (zR zQ (yG Xm R c.Y9 Y8 (Ym (pv 0) XE)) (pv 1) (Uz _))
  (Zh Xv)
  ZK)),?_⟩
 sleep 1;exact⟨_,R,d,e,R,.inl hd,_,R,_,_,R,R,_,R,Zn (by rw[SQ (by lia)];lia) q⟩
inductive ZjF(t:Yn)(vs:List V)(H:Hp)(Q:VK)(_e3:XK):Prop|mk (n:Addr) (N:Z7) (a b:Str) (_:vs=[.ref n,.str a,.str b]) (_:VS t H n N) (_:YU a) (_:YU b) (_:(∀x∈N.wk,YU x.o/\YU x.t)) (_:N.wk.length<=12) (_:∀H',Ze H H'->Q (.bl (Km N.wk a b)) H')
theorem ZjG(f:Zs K mg t):Zq P w K mg base Zt 1 t.gF t.gG ["self","one","other"] (ZjF t):=by
 refine f.Tj.F.ok ZgF (by lia) fun d0 A outer s H vs f0 e0 hr c0=>?_;obtain⟨n,N,a,b,rfl,⟨y,O⟩,L,I,b0,a0,q⟩:=c0;obtain⟨dx,fs,e1,e2⟩:=O.ob;obtain⟨vw,Q,u⟩:=O.wk;refine⟨_,(Zh (Zx (ZV (Zfz R) f.ZgU ZgR (Zj (U4 (cl:=[(OK "other",s.heap.objs.size+2),(OK "one",s.heap.objs.size+1)]) (N:=["walk","one","other"]) (fr:=[none,some 1,some 2]) R (VZ (ZU (pv 0) R)) R (by lia) R (by lia) ⟨⟨R,Or.inl R,Or.inl R,_,R,R⟩,⟨⟨R,Or.inl R,Or.inl R,_,R,R⟩,trivial⟩⟩ ⟨R,⟨R,trivial⟩⟩ R (fun _ _ _ _ _=>(ZY 0 (show List.Nodup (["walk","one","other"]:OC) by lia))) (fun _ _ _ _ _=>U3) (fun _ _ _ _ _=>(VG (show YM _ (compareOp .In) (vG K false)from Zfy hr.units) (Yj (Zr (Zu (show V1 _ (A4 K)from ZP) (pv 0) Zb) (Zu (show V1 _ (A4 K)from ZP) (pv 0) Zb))) (Yj (Zr (Yj (Zr (pv 1) (pv 2))) (Yj (Zr (pv 2) (pv 1))))) R))))))),?_⟩;sleep 1;refine⟨_,R,n,_,dx,_,_,R,e1,f.Ys,f.LL,e2.fw,y.lw,R,⟨_,Zg.of Q⟩,A8 (K:=K) (a:=y.lw) (xs:=vw) (fun i c h M=>Ze H M/\(∃v,h=[v,some (.str a),some (.str b)])/\c=((N.wk.take i).map fun x=>(a == x.o && b == x.t) || (b == x.o && a == x.t)).map V.bl) ⟨Ze.refl H,⟨_,R⟩,R⟩
  (Sh (show _<=12 by rw[u.length];exact a0) (by lia)) (fun i c h M _ ⟨S,_⟩=>Zg.of (S _ _ Q)) ?_ ?_⟩
 ·rintro i v c h H1 J hv ⟨g,⟨T,rfl⟩,rfl⟩
  obtain⟨x,ex,B,rfl,Y⟩:=u.get hv;have D:=b0 x (SJ ex);have E:=g _ _ Y;dsimp only[Wg,UF];rw[SV R];refine⟨_,R,B,_,0,_,R,R,Zk.of E,R,_,R,B,_,1,_,R,R,Zk.of E,R,by show 2<=sizeLine;lia,fun p1 g1=>?_⟩;have Z:=Zy g1 (.tup [.str x.o,.str x.t]);refine⟨_,R,_,R,by show 2<=sizeLine;lia,fun G g2=>?_⟩;have C:=Zy g2 (.tup [.str a,.str b]);refine⟨_,R,_,R,by show 2<=sizeLine;lia,fun p3 g3=>?_⟩;have j:=Zy g3 (.tup [.str b,.str a]);refine⟨by show 2<=sizeLine;lia,fun X g4=>?_⟩;have e:=Zy g4 (.tup [.ref G,.ref p3]);have k1:=((C.trans j).trans e) p1 _ Zm;have k2:=(j.trans e) G _ Zm;have U:=e p3 _ Zm;have S4:=(((g.trans Z).trans C).trans j).trans e;refine⟨X,_,.tuple [.str x.o,.str x.t],[.tuple [.str a,.str b],.tuple [.str b,.str a]],R,.inr (Zk.of Zm),.tup (Zk.of k1) (.cons (.str _ (QZ D.1)) (.cons (.str _ (QZ D.2)) .nil)),.cons (.tup (Zk.of k2) (.cons (.str _ (QZ L)) (.cons (.str _ (QZ I)) .nil))) (.cons (.tup (Zk.of U) (.cons (.str _ (QZ I)) (.cons (.str _ (QZ L)) .nil))) .nil),?_,?_⟩
  ·simp[PyData.depth,PyData.depthAll]
  refine⟨by rw[Su,Sw];lia,S4,⟨_,R⟩,?_⟩;rw[SZ,ex,SK,SK]
  congr 1
  simp[PyData.eqv,PyData.eqvAll]
 ·rintro c h H1 ha ⟨g,⟨T,rfl⟩,rfl⟩ l J
  rw[u.length,List.take_length];refine⟨l,_,R,Zg.of Zm,?_⟩;rw[List.any_map];exact q _ (g.trans (Zy J _))
inductive ZjH(t:Yn)(vs:List V)(H:Hp)(Q:VK)(_e3:XK):Prop|mk (n:Addr) (a:NA) (N:Z7) (x:Wl) (H0:Hp) (_:vs=[.ref n,.str x.o,.str x.t,.int (x.m:Nat)]) (_:Yo t H n a N) (_:VR H0 a) (_:Ze H0 H) (_:(∀y∈N.wk,YU y.o/\YU y.t)) (_:YU x.o) (_:YU x.t) (_:(ZO Yk.nm N.st x.o).isSome=true) (_:(ZO Yk.nm N.st x.t).isSome=true) (_:x.o≠x.t) (_:Km N.wk x.o x.t=false) (_:1<=x.m) (_:x.m<=60) (_:N.wk.length<12) (_:∀H',Ze H0 H'->Yo t H' n a { N with wk:=N.wk++[x] }->Q .non H')
theorem ZjI(c:Zs K mg t):Zq P w K mg base Zt 4 t.kQ t.kR ["self","one","other","minutes"] (ZjH t):=by
 refine c.Te.F.ok ZgA (by lia) fun Z A outer s H X Q E g h=>?_;obtain⟨n,a,N,x,Y,rfl,e,D,U,L,M,I,O,J,ne,T,m1,a0,b0,q⟩:=h;obtain⟨i,fs,j,f⟩:=e.ob;refine⟨_,(Zi (Yh (YY (pv 0) c.Ys c.QR.me (TU c) (g.mono (by lia)) c.QR.b .nil Zp (Zj (pv 1)))) (Zi (Yh (YY (pv 0) c.Ys c.QR.me (TU c) (g.mono (by lia)) c.QR.b .nil Zp (Zj (pv 2)))) (Zi (ZJ (PW.pt (UX (Z5 YE (pv 1) (pv 2)) (UW (YL (YY (pv 0) c.Ys c.Tj.me (ZjG c) (g.mono (by lia)) c.Tj.b .nil Zp (Zr (pv 1) (pv 2))))))) (Zh Xv) ZK) (Zi (Yh (ZC c.Uc (QX c) g Zp (Yr (pv 3) Zb (Y0 R c.Zhb)))) (Zi (Yh (ZC c.QQ (ZjE c) g Zp (Zr (ZU (pv 0) R) (Y0 R c.Zg6)))) (Zh (Yh (F5 PySem.F.plainAttrs_list PySem.F.slot_list_append PySem.F.type_list_append KO (ZU (pv 0) R) (Zj (Yj (Yr (pv 1) (pv 2) (pv 3)))))))))))),?_⟩;sleep 6;refine⟨_,R,n,i,_,R,j,f.n_check_stop,_,R,n,N,x.o,R,⟨a,e⟩,O,?_⟩;refine⟨_,R,n,i,_,R,j,f.n_check_stop,_,R,n,N,x.t,R,⟨a,e⟩,J,?_⟩;refine⟨_,R,_,R,R,_,R,Zn (by show ¬ decide (V.str x.o=V.str x.t)=true;simp[ne]) ?_⟩;refine⟨_,R,n,i,_,R,j,f.n_has_walk,_,R,_,R,n,N,x.o,x.t,R,⟨a,e⟩,M,I,L,by lia,fun H1 u=>?_⟩;rw[T];refine⟨_,R,Zn SN ?_⟩;sleep 1;obtain⟨S,v,y⟩:=(e.same u).wk;refine⟨_,R,x.m,1,60,R,by lia,by lia,?_⟩;refine⟨_,R,n,_,i,_,_,R,u _ _ j,c.Ys,c.LL,f.fw,a.lw,S,12,R,Zg.of v,by rw[y.length];lia,?_⟩;refine⟨_,R,n,_,i,_,_,R,u _ _ j,c.Ys,c.LL,f.fw,.inl ⟨R,_,Zg.of v⟩,_,R,_,R,_,R,by show 3<=sizeLine;lia,fun r G=>?_⟩;have s2:=Zy G (.tup [.str x.o,.str x.t,.int (x.m:Nat)]);have B:=u.trans s2;have C:=s2 _ _ v;refine⟨a.lw,_,_,R,R,C,Sj (show _<=12 by rw[y.length];lia) (by lia),?_⟩;exact q _ (Y7 (U.trans B) D.w _) ((e.same B).addWk C (y.imp fun _ _=>Xf.same s2) ⟨r,R,Zm⟩)
inductive ZjJ(K:Ow)(vs:List V)(H:Hp)(Q:VK)(_e3:XK):Prop|mk (l:Addr) (vs':List V) (cs:List Cl) (_:vs=[.ref l]) (_:H l=some (.lst vs')) (_:Al (Yw H) vs' cs) (_:2<=cs.length) (_:cs.length<=6) (_:∀H',Ze H H'->Q (.bl true) H')
theorem ZjK(f:Zs K mg t):Zq P w K mg base Zt 1 t.qF t.qG ["calls"] (ZjJ K):=by
 refine f.Zau.F.ok Zgb (by lia) fun O A outer s H M Q E Y h=>?_;obtain⟨l,g,cs,rfl,n,G,S,Z,q⟩:=h;have lv:=G.length;refine⟨_,(Zi (ZJ (PW.pt (UX (YI (YL (ZV V3 f.Y2 Y1 (Zr (pv 0) (VL R f.Vj Vg))))) (UW (YI (Ms WS WS (Y0 R f.Zhe) (ZV Xm f.Y9 Y8 (Zj (pv 0))) (Y0 R f.Zhf)))))) (Zh (Zx XD)) ZK) (Zh (Zx (ZV (xA R) f.Zaj uN (Zj (U4 (cl:=[]) (N:=["call"]) (fr:=[none]) R (VZ (pv 0)) R (by lia) R (by lia) trivial trivial R (fun _ _ _ _ _=>(ZY 0 (show List.Nodup (["call"]:OC) by lia))) (fun _ _ _ _ _=>U3) (fun _ _ _ _ _=>(VF (ZV (show Xb _ (.builtin "isinstance") (fun xs H Q=>∃x T t b,xs=[x,V.ty T]/\Wi K H x t/\W.kitOne K t (Value.type T)=some b/\Q (V.bl b) H)from V3) f.Y2 Y1 (Zr (pv 0) (VL R f.C8 C6))) (WR (VG YE (ZV (show Xb _ (.builtin "len") (fun xs H Q=>∃p D,xs=[V.ref p]/\(Zg K H p D\/Zk K H p D)/\Q (V.int ↑D.length) H)from Xm) f.Y9 Y8 (Zj (pv 0))) Zb (Uz _))))))))))),?_⟩;sleep 2;refine⟨_,R,.ref l,"list",_,_,R,.lst n,R,_,R,Zn (by lia) ?_⟩;refine⟨_,R,l,_,R,.inl (Zg.of n),_,_,R,R,_,R,ZH (SO (by lia)) ?_⟩;refine⟨_,_,R,R,_,R,Zn (by rw[SO (show((g.length:Nat):Int)<=6 by lia)];lia) ?_⟩;sleep 1;refine⟨_,R,l,R,⟨_,Zg.of n⟩,A8 (K:=K) (a:=l) (xs:=g) (fun i j B u=>u=H/\j=(List.replicate i true).map V.bl/\∃v,B=[v]) ⟨R,R,_,R⟩ (Sh (show _<=6 by lia) (by lia)) (fun i j B u _ ⟨e,_⟩=>by rw[e];exact Zg.of n) ?_ ?_⟩
 ·rintro i y j B u U L ⟨rfl,rfl,v,rfl⟩
  obtain⟨c,X,p,rfl,C⟩:=G.get L;dsimp only[Wg,UF];rw[SV R];refine⟨_,R,.ref p,"tuple",_,_,R,.tup C,R,_,R,ZH (by lia) ⟨_,R,p,_,R,.inr (Zk.of C),R,?_⟩⟩;refine⟨by rw[Su,Sw];lia,R,?_,_,R⟩;rw[List.replicate_succ',SK];rfl
 ·rintro j B u ha ⟨rfl,rfl,v,rfl⟩ p C
  refine⟨p,List.replicate g.length true,R,Zg.of Zm,?_⟩;have J:=q _ (Zy C (.lst ((List.replicate g.length true).map V.bl)));rw[show(List.replicate g.length true).all id=true by rw[List.all_eq_true];intro x I;rw[(List.mem_replicate.mp I).2];rfl];exact J
theorem ZbA{H:Hp}{v:V}{c:Cl}(h:Yw H v c):X1 H v (c.st,((c.ar:Nat):Int),((c.lv:Nat):Int)):=h
theorem ZjL{c k:Cl}(h:c.st≠k.st/\k.lv<c.ar):Vk (c.st,((c.ar:Nat):Int),((c.lv:Nat):Int)) (k.st,((k.ar:Nat):Int),((k.lv:Nat):Int))=true:=by
 unfold Vk;rw[Bool.and_eq_true];refine⟨?_,SO (show((k.lv:Nat):Int)<((c.ar:Nat):Int) by lia)⟩;show(!decide (V.str c.st=V.str k.st))=true;simpa using h.1
theorem ZjM{c:Type}{nm:c->Str}{xs:List c}{z:Str}(h:z∈xs.map nm):(ZO nm xs z).isSome=true:=by
 obtain⟨x,f,rfl⟩:=SI.mp h;obtain⟨y,e⟩:=L3 (nm:=nm) f;rw[e];rfl
inductive ZjN(t:Yn)(vs:List V)(H:Hp)(Q:VK)(_e3:XK):Prop|mk (n:Addr) (N:Z7) (v:V) (c:Cl) (_:vs=[.ref n,v]) (_:VS t H n N) (_:Yw H v c) (_:(ZO Yk.nm N.st c.st).isSome=true) (_:c.ar<=c.lv) (_:c.lv<=2879) (_:Q .non H)
theorem ZjO(e:Zs K mg t):Zq P w K mg base Zt 4 t.gD t.gE ["self","call"] (ZjN t):=by
 refine e.Ti.F.ok ZgE (by lia) fun G A outer s H D Q E g h=>?_;obtain⟨n,N,v,c,rfl,i,⟨p,rfl,f⟩,x,J,I,q⟩:=h;have j:=i;obtain⟨a,y⟩:=j;obtain⟨B,fs,C,u⟩:=y.ob;refine⟨_,(Zi (Yh (YY (pv 0) e.Ys e.QR.me (TU e) (g.mono (by lia)) e.QR.b .nil Zp (Zj (Zu ZP (pv 1) Zb)))) (Zi (Yh (ZC e.Uc (QX e) g Zp (Yr (Zu ZP (pv 1) Zb) Zb (Y0 R e.Zaq)))) (Zi (Yh (ZC e.Uc (QX e) g Zp (Yr (Zu ZP (pv 1) Zb) Zb (Y0 R e.Zaq)))) (Zh (ZJ (Z5 F0 (Zu ZP (pv 1) Zb) (Zu ZP (pv 1) Zb)) (Zh Xv) ZK))))),?_⟩;sleep 4;refine⟨_,R,n,B,_,R,C,u.n_check_stop,_,R,p,_,0,_,R,R,Zk.of f,R,n,N,c.st,R,i,x,?_⟩;refine⟨_,R,p,_,1,_,R,R,Zk.of f,R,c.ar,0,2879,R,by lia,by lia,?_⟩;refine⟨_,R,p,_,2,_,R,R,Zk.of f,R,c.lv,0,2879,R,by lia,by lia,?_⟩;exact⟨_,R,p,_,2,_,R,R,Zk.of f,R,_,R,p,_,1,_,R,R,Zk.of f,R,_,_,R,R,_,R,Zn (by rw[SQ (by lia)];lia) q⟩
inductive ZjP(t:Yn)(K:Ow)(vs:List V)(H:Hp)(Q:VK)(_e3:XK):Prop|mk (n:Addr) (a:NA) (N:Z7) (x:Tp) (l:Addr) (vs':List V) (H0:Hp) (_:vs=[.ref n,.str x.nm,.str x.ru,.ref l]) (_:Yo t H n a N) (_:VR H0 a) (_:Ze H0 H) (_:H l=some (.lst vs')) (_:Al (Yw H) vs' x.cs) (_:WG (N.st.map Yk.nm) x.cs) (_:2<=x.cs.length) (_:x.cs.length<=6) (_:YU x.nm) (_:(ZO Yl.nm N.ru x.ru).isSome=true) (_:ZO Tp.nm N.tp x.nm=none) (_:N.tp.length<10) (_:∀H',Ze H0 H'->Ze (wo H a.dp) H'->Yo t H' n a { N with tp:=N.tp++[x] }->Q .non H')
theorem ZjQ(f:Zs K mg t):Zq P w K mg base Zt 6 t.kX t.kY ["self","name","rule","calls"] (ZjP t K):=by
 refine f.Th.F.ok Pv (by lia) fun r0 A outer s H vs a0 t0 D h=>?_;obtain⟨n,a,N,x,l,g,H0,rfl,M,hW,s0,E,G,ok,c2,c6,c0,l0,hf,hlen,b0⟩:=h;obtain⟨I,fs,J,L⟩:=M.ob;obtain⟨rows,S,h2⟩:=M.tp;obtain⟨m0,j0,f0⟩:=M.ru;obtain⟨ry,d0⟩:=Option.isSome_iff_exists.mp l0;obtain⟨p0,o0,_⟩:=(XA (fun kv x (h:X3 t H kv x)=>h.1) f0 x.ru).2 ry d0;have hv:=(XA (fun kv x (h:XH H kv x)=>h.1) h2 x.nm).1 hf;have i0:rows.length<10:=by rw[h2.length];exact hlen
 have lv:=G.length;have g0:g.length<=sizeLine:=Sh (show g.length<=6 by lia) (by lia);refine⟨_,(Zi (Yh (ZC f.JX (L0 f) D Zp (Zr (pv 1) (ZU (pv 0) R)))) (Zi (ZJ (YI (YL (ZC f.QP (LZ f) D Zp (Zr (pv 2) (ZU (pv 0) R))))) (Zh Xv) ZK) (Zi (ZJ (YI (YL (ZC f.Zau (ZjK f) D Zp (Zj (pv 3))))) (Zh Xv) ZK) (Zi (XG (wM R f.Zal (Zj (pv 3))) (Vm (n:=2) R (Yv (ZY 4 Pv.nd) (Yv (ZY 5 Pv.nd) WJ))) (Zi (Yh (YY (pv 0) f.Ys f.Ti.me (ZjO f) (D.mono (by lia)) f.Ti.b .nil Zp (Zj (pv 5)))) (Zh (ZJ (PW.pt (Q9 (Z5 F1 (pv 4) Zb) (Q8 (YI (YL (ZC f.RM (Zbw f) D Zp (Zr (pv 5) (Zu Yq (pv 3) (Zd Wh (pv 4) Zb))))))))) (Zh Xv) ZK)))) (Zi (Yh (ZC f.QQ (L1 f) D Zp (Zr (ZU (pv 0) R) (Y0 R f.Zg9)))) (Zh (Vc (YZ D) (ZU (pv 0) R) (pv 1) (Yj (Zr (pv 2) (YF F4 R f.C8 C6 (Zj (U4 (cl:=[]) (N:=["call"]) (fr:=[none]) R (VZ (pv 3)) R (by lia) R (by lia) trivial trivial R (fun _ _ _ _ _=>(ZY 0 (show List.Nodup (["call"]:OC) by lia))) (fun _ _ _ _ _=>U3) (fun _ _ _ _ _=>(YF (show Xb _ (.type "tuple") (fun xs H a0=>∃p ys,xs=[.ref p]/\((Zg K H p ys/\∀l,H l=none->a0 (.ref l) (Za H l (.tup ys)))\/(Zk K H p ys/\a0 (.ref p) H)))from F4) R f.C8 C6 (Zj (pv 0))))))))) R))))))),?_⟩;sleep 6;refine⟨_,R,_,R,n,_,I,_,_,R,J,f.Ys,f.Qa,L.fp,x.nm,a.dp,rows,R,S,c0,hv,fun H1 O=>?_⟩;refine⟨_,R,_,R,n,_,I,_,_,R,O _ _ J,f.Ys,f.QS,L.fr,x.ru,a.dr,m0,R,O _ _ j0,_,R,Zn (by rw[o0];exact SN) ?_⟩;sleep 1;refine⟨_,R,l,g,x.cs,R,O _ _ E,G.imp fun _ _=>Yw.same O,c2,c6,fun H2 s2=>⟨_,R,Zn (by lia) ?_⟩⟩;have S2:=O.trans s2;refine⟨_,R,l,R,⟨_,Zg.of (S2 _ _ E)⟩,wN (xs:=g) (fun i q C=>Ze H C/\∃T U:Option V,q=[some (.ref n),some (.str x.nm),some (.str x.ru),some (.ref l),T,U]) ⟨S2,_,_,R⟩ (fun i q C _ ⟨s',_⟩=>Zg.of (s' _ _ E)) ?_ ?_⟩
 ·rintro i v pp q H3 hx e0 ⟨u,T,U,rfl⟩
  have y:=u.trans (Zy e0 (.tup [.int i,v]));obtain⟨c,Y,hc⟩:=G.get hx;have X:=SJ Y;refine⟨pp,_,R,Zk.of Zm,R,_,_,R,_,_,R,R,?_⟩;sleep 2;refine⟨_,R,n,I,_,R,y _ _ J,L.n_check_call,_,R,n,N,v,c,R,⟨a,M.same y⟩,hc.same y,ZjM (ok.st c X),(ok.rng c X).1,(ok.rng c X).2,?_⟩;refine⟨_,R,_,_,R,R,_,R,?_⟩;by_cases ci:0<i
  ·refine ZH (SO (by lia)) ?_
   obtain⟨j,rfl⟩:∃j,i=j+1:=⟨i - 1,by lia⟩;have hj:j<g.length:=by have:=(Sr.mp hx).1;lia
   obtain⟨k,ea,ha⟩:=G.get (Ss hj);have fo:=ok.fol j k c ea Y;have h0:YG g (((j+1:Nat):Int) - 1)=some g[j]:=by
    have:YG g (j:Int)=some g[j]:=XF (Ss hj);rw[show(((j+1:Nat):Int) - 1)=(j:Int) by lia];exact this
   exact⟨_,R,_,R,_,R,_,_,R,R,l,_,_,_,R,R,Zg.of (y _ _ E),h0,v,_,_,_,R,ZbA (hc.same y),ZbA (ha.same y),_,R,Zn (by rw[ZjL fo];lia) ⟨y,_,_,R⟩⟩
  ·exact Zn (by rw[SQ (by lia)];lia) (Zn (by lia) ⟨y,_,_,R⟩)
 ·rintro q H3 ⟨u,T,U,rfl⟩
  refine⟨_,R,n,_,I,_,_,R,u _ _ J,f.Ys,f.Qa,L.fp,a.dp,rows,10,R,u _ _ S,by lia,?_⟩;refine⟨_,R,_,R,l,R,⟨_,Zg.of (u _ _ E)⟩,A8 (K:=K) (a:=l) (xs:=g) (fun i Q q C=>C=H3/\Q=g.take i/\∃v,q=[v]) ⟨R,R,_,R⟩ g0 (fun i Q q C _ ⟨e,_⟩=>by rw[e];exact Zg.of (u _ _ E)) ?_ ?_⟩
  ·rintro i q0 Q q C hi hy ⟨rfl,rfl,v,rfl⟩
   obtain⟨c,Y,p,rfl,Z⟩:=G.get hy;dsimp only[Wg,UF];rw[SV R];refine⟨_,R,p,_,R,.inr ⟨Zk.of (u _ _ Z),?_⟩⟩;refine⟨by rw[Su,Sw];lia,R,?_,_,R⟩;rw[SZ,hy];rfl
  ·rintro Q q C ha ⟨rfl,rfl,v,rfl⟩ p Z
   rw[List.take_length];have s5:=Zy Z (.lst g);refine⟨p,_,R,.inl ⟨Zg.of Zm,fun p2 k0=>?_⟩⟩;have s6:=Zy k0 (.tup g);refine⟨by show 2<=sizeLine;lia,fun r n0=>?_⟩;have s7:=Zy n0 (.tup [.str x.ru,.ref p2]);have B:=((u.trans s5).trans s6).trans s7;refine⟨_,R,n,_,I,_,_,R,B _ _ J,f.Ys,f.Qa,L.fp,_,R,a.dp,_,R,XM.k (k:=Sum.inr x.nm) (B _ _ S) (Nat.lt_trans i0 (by lia)),?_⟩;exact b0 _ (Y7 (s0.trans B) hW.p _) (fun b ob e=>by obtain⟨nb,e⟩:=YR e;rw[Zf nb];exact B _ _ e) ((M.same B).addTp (B _ _ S) (h2.imp fun _ _=>XH.same B) hv ⟨R,r,p2,g,R,Zm,s7 _ _ Zm,G.imp fun _ _=>Yw.same B⟩)
structure Zo where
 nm:Str
 r:R3
 cs:List Cl
structure Zo.Ok(x:Zo):Prop where
 r:x.r.Ok
 len:x.cs.length<=6
abbrev ZQ:=Str->Nat->Option (Option (List Nat))
def YV(f:ZQ)(z:Str)(day:Nat)(o:Option (List Nat)):ZQ:=fun e c=>if e=z/\c=day then some o else f e c
def Xo(x:Zo):Option (Option (List Nat))->List Nat
 |some (some c)=>c
 |_=>List.replicate x.cs.length 0
def X4(x:Zo)(o:Option (Option (List Nat)))(day:Nat):Option (List (Str×Int×Int)):=if x.r.runs day=true then (if o=some none then none else some (YC (1440*(day:Nat)) x.cs (Xo x o)))else none
def YH(t:Yn)(H:Hp)(c:Zl×V)(x:Zo):Prop:=c.1=Sum.inr x.nm/\∃r f l e,c.2=.ref r/\H r=some (.tup [f,.ref l])/\Wb t H f x.r/\H l=some (.lst e)/\Al (Yw H) e x.cs
theorem YH.same{H f:Hp}{c:Zl×V}{x:Zo}(s:Ze H f)(h:YH t H c x):YH t f c x:=let ⟨e,r,rv,l,vs,e1,e2,e3,e4,e5⟩:=h;⟨e,r,rv,l,vs,e1,s _ _ e2,e3.same s,s _ _ e4,e5.imp fun _ _=>Yw.same s⟩
theorem YH.put{H:Hp}{d:Addr}{u o:HO}{c:Zl×V}{x:Zo}(hd:H d=some u)(lo:ZI u)(f:∀xs,u≠.lst xs)(h:YH t H c x):YH t (Za H d o) c x :=
 let ⟨e,r,rv,l,vs,e1,e2,e3,e4,e5⟩:=h;⟨e,r,rv,l,vs,e1,XO hd lo e2,e3.put hd lo,by rw[Zf (Z3 e4 hd (fun z=>f _ z.symm))];exact e4,e5.imp fun _ _=>Yw.put hd lo⟩
theorem Wb.wx{H:Hp}{x c y:Addr}{f:List (Str×V)}{v:V}{r:R3}(j:H x=some (.ins c y f))(q:f.lookup ("timetable" : Str)≠none) (h:Wb t H v r):Wb t (wo H x) v r:=by
 have ne:∀{p B u:Addr} {g:List (Str×V)},H p=some (.ins B u g)->g.lookup ("timetable" : Str)=none->p≠x:=fun i n z=>by
  rw[z,j]at i;injection i with i;injection i with _ _ i;rw[i]at q;exact q n
 obtain⟨b,e,h⟩:=h;exact⟨b,e,ZZ.keepF (fun _ _ _ _ n e=>ZX e (ne e n)) (fun _ _=>TR (fun e=>ZX e fun z=>by rw[z,j]at e;cases e) fun _ e=>ZX e fun z=>by rw[z,j]at e;cases e) h⟩
theorem YH.wx{H:Hp}{x c u:Addr}{f:List (Str×V)}{q:Zl×V}{k:Zo}(g:H x=some (.ins c u f))(y:f.lookup ("timetable" : Str)≠none) (h:YH t H q k):YH t (wo H x) q k:=by
 obtain⟨e,r,D,l,v,C,i,G,j,E⟩:=h;exact⟨e,r,D,l,v,C,ZX i fun z=>(by rw[z,g]at i;cases i),G.wx g y,ZX j fun z=>(by rw[z,g]at j;cases j),E.imp fun _ _ ⟨p,B,n⟩=>⟨p,B,ZX n fun z=>by rw[z,g]at n;cases n⟩⟩
def Kn(H e:Hp):Prop:=∀a o,H a=some o->(∀c,o≠.dT c)->(∀f,o≠.tbl f)->(∀b c,o≠.frz b (.dK c))->e a=some o
section Kp
variable{H H':Hp}(s:Kn H H')
include s
theorem Kn.tup{a:Addr}{xs:List V}(h:H a=some (.tup xs)):H' a=some (.tup xs):=s _ _ h (fun _ z=>(nomatch z)) (fun _ z=>(nomatch z)) (fun _ _ z=>(nomatch z))
theorem Kn.lst{a:Addr}{xs:List V}(h:H a=some (.lst xs)):H' a=some (.lst xs):=s _ _ h (fun _ z=>(nomatch z)) (fun _ z=>(nomatch z)) (fun _ _ z=>(nomatch z))
theorem Kn.ins{a c x:Addr}{fs:List (Str×V)}(h:H a=some (.ins c x fs)):H' a=some (.ins c x fs):=s _ _ h (fun _ z=>(nomatch z)) (fun _ z=>(nomatch z)) (fun _ _ z=>(nomatch z))
theorem Kn.dk{a:Addr}{c:List (Zl×V)}(h:H a=some (.dK c)):H' a=some (.dK c):=s _ _ h (fun _ z=>(nomatch z)) (fun _ z=>(nomatch z)) (fun _ _ z=>(nomatch z))
theorem Yw.keep{v:V}{c:Cl}(h:Yw H v c):Yw H' v c:=let ⟨p,e,h⟩:=h;⟨p,e,s.tup h⟩
theorem Wb.keep{v:V}{r:R3}(h:Wb t H v r):Wb t H' v r:=let ⟨b,e,h⟩:=h;⟨b,e,ZZ.keepF (fun _ _ _ _ _ e=>s.ins e) (fun _ _=>TR s.tup fun _ e=>s _ _ e (fun _ z=>(nomatch z)) (fun _ z=>(nomatch z)) (fun _ _ z=>(by injection z with _ z;cases z))) h⟩
theorem YH.keep{c:Zl×V}{x:Zo}(h:YH t H c x):YH t H' c x:=let ⟨e,r,rv,l,vs,e1,e2,e3,e4,e5⟩:=h;⟨e,r,rv,l,vs,e1,s.tup e2,e3.keep s,s.lst e4,e5.imp fun _ _=>Yw.keep s⟩
theorem Yo.keep{n:Addr}{a:NA}{N:Z7}(h:Yo t H n a N):Yo t H' n a N:=by
 obtain⟨⟨M,fs,f,c⟩,ap,⟨r1,E,i⟩,⟨L,x,v⟩,⟨C,O,J⟩,⟨r3,u,G⟩,⟨B,I,D⟩⟩:=h;exact⟨⟨M,fs,s.ins f,c⟩,ap,⟨r1,s.dk E,i.imp fun _ _ ⟨e,r,f,c⟩=>⟨e,r,f,s.tup c⟩⟩,⟨L,s.lst x,v.imp fun _ _ ⟨p,e,h⟩=>⟨p,e,s.tup h⟩⟩,⟨C,s.dk O,J.imp fun _ _ h=>⟨h.1,h.2.keep s⟩⟩,⟨r3,s.dk u,G.imp fun _ _ ⟨e,r,z,f,c,g⟩=>⟨e,r,z,f,s.tup c,s.tup g⟩⟩,⟨B,s.dk I,D.imp fun _ _ ⟨e,r,q,j,f,c,g,y⟩=>⟨e,r,q,j,f,s.tup c,s.tup g,y.imp fun _ _=>Yw.keep s⟩⟩⟩
end Kp
structure NB where
 dt:Addr
 dk:Addr
 dl:Addr
structure ZjR(fs:List (Str×V))(b:NB):Prop where
 ft:fs.lookup ("timetable" : Str)=some (V.ref b.dt)
 fk:fs.lookup ("taken" : Str)=some (V.ref b.dk)
 fl:fs.lookup ("lateness" : Str)=some (V.ref b.dl)
 n_late:fs.lookup ("late" : Str)=none
 n_out:fs.lookup ("out" : Str)=none
 n_back:fs.lookup ("back" : Str)=none
 n_moments:fs.lookup ("moments" : Str)=none
 n_told:fs.lookup ("told" : Str)=none
 n_late_minutes:fs.lookup ("late_minutes" : Str)=none
 n_check_day:fs.lookup ("check_day" : Str)=none
 n_check_runs:fs.lookup ("check_runs" : Str)=none
 n_check_goes:fs.lookup ("check_goes" : Str)=none
def Z6(day:Nat)(z:Str):List Zl:=[Sum.inl (day:Int),Sum.inr z]
theorem D3{d d':Nat}{z g:Str}(e:Z6 d' g=Z6 d z):g=z/\d'=d:=by
 unfold Z6 at e;injection e with f c;injection c with c _;have f:=Sum.inl.inj f;exact⟨Sum.inr.inj c,by lia⟩
def L4(H:Hp)(c:List (List Zl×V))(f:ZQ):Prop:=∀(z:Str) (day:Nat),match f z day with
 |some (some e)=>∃l,Zz c (Z6 day z)=some (.ref l)/\H l=some (.lst (e.map fun n=>V.int (n:Nat)))
 |_=>Zz c (Z6 day z)=none
theorem L4.same{H g:Hp}{f:List (List Zl×V)}{c:ZQ}(s:Ze H g)(h:L4 H f c):L4 g f c:=fun z i=>by
 have:=h z i;revert this;cases c z i with
 |none=>exact id
 |some o=>cases o with
  |none=>exact id
  |some j=>exact fun⟨l,e,h⟩=>⟨l,e,s _ _ h⟩
structure Yf(t:Yn)(H:Hp)(n:Addr)(b:NB)(TS:List Zo)(KF:ZQ)(m:Nat):Prop where
 ob:∃dx fs,H n=some (.ins t.YS dx fs)/\ZjR fs b
 ap:b.dk≠b.dl
 tt:∃rows,H b.dt=some (.dK rows)/\Al (YH t H) rows TS
 tk:∃kvs,H b.dk=some (.dT kvs)/\kvs.length<=m/\∀z day,(Zz kvs (Z6 day z)).isSome=decide (KF z day=some none)
 lt:∃kvs,H b.dl=some (.dT kvs)/\kvs.length<=m/\L4 H kvs KF
theorem Yf.same{H c:Hp}{n:Addr}{b:NB}{TS:List Zo}{e:ZQ}{m:Nat}(s:Ze H c)(h:Yf t H n b TS e m):Yf t c n b TS e m:=by
 obtain⟨⟨q,fs,B,u⟩,ap,⟨rows,y,D⟩,⟨j,g,E,x⟩,⟨f,C,i,v⟩⟩:=h;exact⟨⟨q,fs,s _ _ B,u⟩,ap,⟨rows,s _ _ y,D.imp fun _ _=>YH.same s⟩,⟨j,s _ _ g,E,x⟩,⟨f,s _ _ C,i,v.same s⟩⟩
def K0:ZQ:=fun _ _=>none
def D4(N:Z7)(y:Tp)(x:Zo):Prop:=y.nm=x.nm/\y.cs=x.cs/\∃u,ZO Yl.nm N.ru y.ru=some u/\u.r=x.r
inductive ZjS(t:Yn)(vs:List V)(H:Hp)(Q:VK)(_e3:XK):Prop|mk (x n:Addr) (H0:Hp) (N:Z7) (TS:List Zo) (_:vs=[.ref x,.ref n]) (_:H0 x=none) (_:Ze H0 H) (_:(∃dx,H x=some (.ins t.YS dx []))) (_:VS t H0 n N) (_:Al (D4 N) N.tp TS) (_:(TS.map Zo.nm).Nodup) (_:(∀x∈TS,x.r.Ok)) (_:TS.length<=10) (_:∀H' b,Ze H0 H'->Yf t H' x b TS K0 0->H0 b.dt=none->H0 b.dk=none->H0 b.dl=none->Q .non H')
theorem ZbB{N:Z7}{tp:List Tp}{TS:List Zo}(h:Al (D4 N) tp TS):tp.map Tp.nm=TS.map Zo.nm:=by
 induction h with
 |nil=>rfl
 |cons a _ c=>rw[SL,SL,c,a.1]
theorem ZjT(c:Zs K mg t):Zq P w K mg base Zt 46 t.RK t.gQ ["self","net"] (ZjS t):=by
 refine c.ZaI.F.ok uL (by lia) fun o1 A outer s b0 vs l1 s1 L h=>?_;obtain⟨x,n,H0,N,TS,rfl,n0,s0,⟨f,hx⟩,d0,al,nd,m0,q1,o0⟩:=h;have hA:=d0.same s0;obtain⟨a,O⟩:=d0;obtain⟨Z,n1,T,U⟩:=O.ob;refine⟨_,(Zi (XT (pv 0) V5 R) (Zi (XG (VZ (Zdh (pv 1) c.Ys c.Tk.me (Zjw c) (L.mono (by lia)) c.Tk.b .nil Zp)) (ZY 2 uL.nd) (Zh (Vc (YZ L) (ZU (pv 0) R) (pv 2) (Yj (Zr (YY (pv 1) c.Ys c.Tl.me (ZjC c) (L.mono (by lia)) c.Tl.b .nil Zp (Zj (YY (pv 1) c.Ys c.Tn.me (ZjA c) (L.mono (by lia)) c.Tn.b .nil Zp (Zj (pv 2))))) (YY (pv 1) c.Ys c.To.me (Zjy c) (L.mono (by lia)) c.To.b .nil Zp (Zj (pv 2))))) R))) (Zi (XT (pv 0) MX R) (Zh (XT (pv 0) MX R))))),?_⟩;sleep 4;intro p1 g1;have I:p1≠x:=fun z=>by rw[z,hx]at g1;cases g1
 have d1:=s0.free g1;refine⟨_,R,x,_,f,_,R,(by rw[Zf I.symm];exact hx),c.YP,c.Qb,by lia,?_⟩;generalize a0:Z4 "timetable" (.ref p1) []=y;have h0:y.length<=1:=by rw[<-a0];exact QY (Sk 0)
 have c0:y.lookup ("timetable" : Str)=some (.ref p1):=by rw[<-a0];rfl
 have Y:=Y7 (s0.trans (Zy g1 (.dK []))) n0 (.ins t.YS f y);have y1:(Za (Za b0 p1 (.dK [])) x (.ins t.YS f y)) x=some (.ins t.YS f y):=Zm;have k1:(Za (Za b0 p1 (.dK [])) x (.ins t.YS f y)) p1=some (.dK []):=by rw[Zf I];exact Zm
 generalize Za (Za b0 p1 (.dK [])) x (.ins t.YS f y)=H1 at Y y1 k1 ⊢;refine⟨_,R,n,Z,_,R,Y _ _ T,U.n_trips,n,N,R,⟨a,O.same Y⟩,fun l gl=>?_⟩;rw[ZbB al];have u0:l≠p1:=(ZT k1 gl).symm;have t1:l≠x:=(ZT y1 gl).symm;have t2:=Zy gl (.lst ((TS.map Zo.nm).map V.str));have u2:=Y.trans t2;have cl:=@Zm H1 l (.lst ((TS.map Zo.nm).map V.str));have y2:=t2 _ _ y1;have k2:=t2 _ _ k1;generalize Za H1 l (.lst ((TS.map Zo.nm).map V.str))=H2 at u2 cl y2 k2 ⊢;refine⟨l,R,⟨_,Zg.of cl⟩,E9 (K:=K) (a:=l) (xs:=(TS.map Zo.nm).map V.str) (fun i σ D=>Ze H0 D/\D l=some (.lst ((TS.map Zo.nm).map V.str))/\D x=some (.ins t.YS f y)/\∃(rows:List (Zl×V)) (v2:Option V),D p1=some (.dK rows)/\Al (YH t D) rows (TS.take i)/\σ=[some (.ref x),some (.ref n),v2]) ⟨u2,cl,y2,[],none,k2,.nil,R⟩ (fun i σ D _ ⟨_,h,_⟩=>Zg.of h) ?_ ?_⟩
 ·rintro i m1 σ j hv ⟨v,j0,E,rows,v2,X,H,rfl⟩
  rw[Od,S0]at hv;sleep 101;obtain⟨tx,M,rfl⟩:=Of.mp hv;have hi:=(Sr.mp M).1;have j1:=al.length;obtain⟨ty,i0⟩:∃ty,N.tp[i]? = some ty:=⟨_,Ss (show i<N.tp.length by lia)⟩;obtain⟨q,p0,en,ec,ru,h1,er⟩:=al.get i0;have e0:q=tx:=So (p0.symm.trans M);subst e0;have mem:=SJ M;have a1:(N.tp.map Tp.nm).Nodup:=by rw[ZbB al];exact nd
  have g0:ZO Tp.nm N.tp q.nm=some ty:=by rw[<-en];exact VC a1 (SJ i0)
  have q0:ru.r.Ok:=by rw[er];exact m0 _ mem
  refine⟨_,R,n,Z,_,R,v _ _ T,U.n_rule,_,R,n,Z,_,R,v _ _ T,U.n_rule_name,_,R,n,N,q.nm,ty,R,⟨a,O.same v⟩,g0,?_⟩;refine⟨n,N,ty.ru,ru,R,⟨a,O.same v⟩,h1,q0,fun Q H4 s4 c1=>?_⟩;have C:=v.trans s4;refine⟨_,R,n,Z,_,R,C _ _ T,U.n_calls,_,R,n,N,q.nm,ty,R,⟨a,O.same C⟩,g0,fun S y0 H5 s5 gc hc v0=>?_⟩;refine⟨by show 2<=sizeLine;lia,fun J g6=>?_⟩;have t6:=Zy g6 (.tup [Q,.ref S]);have B:=(s4.trans s5).trans t6;have e1:=@Zm H5 J (.tup [Q,.ref S]);have k0:YH t (Za H5 J (.tup [Q,.ref S])) (Sum.inr q.nm,.ref J) q:=⟨R,J,Q,S,y0,R,e1,by rw[<-er];exact(c1.same s5).same t6,t6 _ _ hc,by rw[<-ec];exact v0.imp fun _ _=>Yw.same t6⟩;dsimp only[Xw,Yt,Ob];generalize Za H5 J (.tup [Q,.ref S])=H6 at B k0 ⊢;have k6:=B _ _ X;have i1:rows.length<=10:=by rw[H.length,Sx];lia
  refine⟨_,R,x,_,f,_,_,R,B _ _ E,c.YP,c.Qb,c0,_,R,p1,_,R,XM.k (k:=Sum.inr q.nm) k6 (Sj i1 (by lia)),?_⟩;have t0:Zz rows (Sum.inr q.nm)=none:=(XA (fun kv x (h:YH t j kv x)=>h.1) H q.nm).1 (Kl nd M);refine⟨Y7 (v.trans B) d1 _,by rw[Zf u0];exact B _ _ j0,by rw[Zf I.symm];exact B _ _ E,_,_,Zm,?_,R⟩;rw[UI _ t0,SZ,M];exact((H.imp fun _ _=>YH.same B).snoc k0).imp fun _ _=>YH.put k6 ZI.k (fun _ z=>(nomatch z))
 ·rintro σ j ⟨v,j0,E,rows,v2,X,H,rfl⟩
  rw[SY (by rw[Sv,Sv];exact Sg _)]at H;intro g g4;have x4:g≠x:=fun z=>by rw[z,E]at g4;cases g4
  have d4:=v.free g4;refine⟨_,R,x,_,f,_,R,(by rw[Zf x4.symm];exact E),c.YP,c.QT,Sj h0 (by lia),?_⟩;generalize f0:Z4 "taken" (.ref g) y=u;have b1:u.length<=2:=by rw[<-f0];exact QY h0
  have r0:p1≠g:=ZT X g4;have t4:=Zy g4 (.dT []);have C:=Y7 (v.trans t4) n0 (.ins t.YS f u);have y4:(Za (Za j g (.dT [])) x (.ins t.YS f u)) x=some (.ins t.YS f u):=Zm;have k4:(Za (Za j g (.dT [])) x (.ins t.YS f u)) p1=some (.dK rows):=by rw[Zf I,Zf r0];exact X
  have k5:(Za (Za j g (.dT [])) x (.ins t.YS f u)) g=some (.dT []):=by rw[Zf x4];exact Zm
  have w4:Ze (wo j x) (Za (Za j g (.dT [])) x (.ins t.YS f u)):=fun x0 o e=>by
   obtain⟨nc,e⟩:=YR e;rw[Zf nc];exact t4 _ _ e
  generalize Za (Za j g (.dT [])) x (.ins t.YS f u)=H4 at C y4 k4 k5 w4 ⊢;intro G g5;have x5:G≠x:=fun z=>by rw[z,y4]at g5;cases g5
  have d5:=C.free g5;refine⟨_,R,x,_,f,_,R,(by rw[Zf x5.symm];exact y4),c.YP,c.Kc,Sj b1 (by lia),?_⟩;have z0:p1≠G:=ZT k4 g5;have l0:g≠G:=ZT k5 g5;have t5:=Zy g5 (.dT []);refine o0 _ ⟨p1,g,G⟩ (Y7 (C.trans t5) n0 _) ⟨⟨f,_,Zm,?_⟩,l0,⟨rows,by rw[Zf I,Zf z0];exact k4,?_⟩,⟨[],by rw[Zf x4,Zf l0];exact k5,Sg _,fun z w0=>R⟩,⟨[],by rw[Zf x5];exact Zm,Sg _,fun z w0=>R⟩⟩ d1 d4 d5
  ·subst a0 f0
   exact⟨R,R,R,R,R,R,R,R,R,R,R,R⟩
  ·-- rows keep: nothing of them lies at x
   have sw:Ze (wo j x) (Za (Za H4 G (.dT [])) x (.ins t.YS f (Z4 "lateness" (.ref G) u))):=fun x0 o e=>by
    obtain⟨nc,e'⟩:=YR e;rw[Zf nc];exact t5 _ _ (w4 _ _ e)
   exact(H.imp fun _ _ h=>YH.wx E (by rw[c0];exact fun z=>(nomatch z)) h).imp fun _ _=>YH.same sw
def knV(rows:List (Zl×V)):V->Bool
 |.str z=>(Zz rows (Sum.inr z)).isSome
 |_=>false
inductive ZjU(vs:List V)(H:Hp)(Q:VK)(_e3:XK):Prop|mk (v:V) (T:String) (d:Addr) (kvs:List (Zl×V)) (_:vs=[v,.ref d]) (_:Kd H v T) (_:H d=some (.dK kvs)) (_:Q (.bl (knV kvs v)) H)
theorem ZjV(c:Zs K mg t):Zq P w K mg base Zt 1 t.P0 t.P1 ["value","named"] ZjU:=by
 refine c.QP.F.ok vV (by lia) fun u A outer s H n Q E g h=>?_;obtain⟨v,T,d,j,rfl,f,hd,q⟩:=h;refine⟨_,(Zh (Zx (VF (ZV V3 c.Y2 Y1 (Zr (pv 0) (VL R c.Lp Lh))) (WR (zC (G4 (YZ g) (pv 0) (pv 1))))))),?_⟩;sleep 1;refine⟨_,R,v,"str",_,_,R,f.ty,KZ f,_,R,?_⟩;cases f with
 |non=>exact Zn (by lia) q
 |bl b=>exact Zn (by lia) q
 |int i=>exact Zn (by lia) q
 |lst e=>exact Zn (by lia) q
 |tup e=>exact Zn (by lia) q
 |dK e=>exact Zn (by lia) q
 |str z=>exact ZH (by lia) ⟨_,R,_,R,d,_,R,Z9.k (k:=Sum.inr z) hd,q⟩
theorem ZjW{c:Type}{nm:c->Str}{R:Zl×V->c->Prop}(i:∀f x,R f x->f.1=Sum.inr (nm x)){rows:List (Zl×V)}{xs:List c}(h:Al R rows xs)(z:Str):(Zz rows (Sum.inr z)).isSome=(ZO nm xs z).isSome:=by
 have:=XA i h z;cases e:ZO nm xs z with
 |none=>rw[this.1 e];rfl
 |some x=>obtain⟨f,g,_⟩:=this.2 x e;rw[g];rfl
inductive ZjX(t:Yn)(vs:List V)(H:Hp)(Q:VK)(E:XK):Prop|mk (v:V) (T:String) (lo hi:Int) (_:vs=[v,.int lo,.int hi]) (_:Kd H v T) (_:(Xz v lo hi=true->Q .non H)) (_:(Xz v lo hi=false->E (.ref t.Vh) none H))
theorem ZbC(f:Zs K mg t):Zq P w K mg base (Xj P w) 3 t.PY t.PZ ["value","least","most"] (ZjX t):=by
 refine f.Uc.F.okX vU (by lia) fun u A outer s H n Q E j h=>?_;obtain⟨v,T,lo,g,rfl,i,q,e⟩:=h;refine⟨_,(Zh (ZJ (YI (YL (ZC f.UO (Qc f) j Zp (Yr (pv 0) (pv 1) (pv 2))))) (Zh (A6 A5 f.Zib R R f.ZaS (Zj ZA))) ZK)),?_⟩;sleep 1;refine⟨_,R,_,R,_,R,v,lo,g,T,R,i,_,R,?_⟩;by_cases c:Xz v lo g=true
 ·exact Zn (by rw[c];lia) (q c)
 ·have c:=Oh.mpr c
  exact ZH (by rw[c];lia) ⟨by show 1<=sizeLine;lia,e c⟩
inductive Wn where
 |trip|clock|run|number|calls
def Wn.cls(t:Yn):Wn->Addr
 |.trip=>t.Vv
 |.clock=>t.Vu
 |.run=>t.Vw
 |.number=>t.Vh
 |.calls=>t.Vi
def Wt(TS:List Zo):V->Option Zo
 |.str z=>ZO Zo.nm TS z
 |_=>none
def VD:V->Nat
 |.int i=>i.toNat
 |_=>0
def nmS:V->Str
 |.str z=>z
 |_=>⟨#[]⟩
def Xt(TS:List Zo)(c e:V):Option Wn:=if (Wt TS c).isNone then some .trip else if Xz e 0 9999=false then some .clock else none
theorem D5{v:V}{hi:Int}(h:Xz v 0 hi=true):∃n:Nat,v=.int (n:Nat)/\(n:Int)<=hi:=by
 cases v with
 |int i=>obtain⟨c,e⟩:=SR h;exact⟨i.toNat,by rw[show((i.toNat:Nat):Int)=i by lia],by lia⟩
 |_=>cases h
theorem ZjY{TS:List Zo}{v:V}{x:Zo}(h:Wt TS v=some x):∃z,v=.str z/\ZO Zo.nm TS z=some x:=by
 cases v with
 |str z=>exact⟨z,R,h⟩
 |_=>cases h
theorem TV{TS:List Zo}{f g:V}(h:Xt TS f g=none):∃(x:Zo) (z:Str) (day:Nat),f=.str z/\ZO Zo.nm TS z=some x/\g=.int day/\day<=9999:=by
 unfold Xt at h
 split at h
 ·cases h
 ·next c =>
  split at h
  ·cases h
  ·next c2 =>
   cases e:Wt TS f with
   |none=>rw[e]at c;exact Oq R c
   |some x =>
    obtain⟨z,rfl,i⟩:=ZjY e;obtain⟨d,rfl,hd⟩:=D5 ((Bool.not_eq_false _).mp c2);exact⟨x,z,d,R,i,R,by lia⟩
theorem ZjZ{H:Hp}{rows:List (Zl×V)}{TS:List Zo}(h:Al (YH t H) rows TS)(v:V):knV rows v=(Wt TS v).isSome:=by
 cases v with
 |str z=>exact ZjW (fun c x (h:YH t H c x)=>h.1) h z
 |_=>rfl
def Q0(t:Yn)(H:Hp)(n:Addr)(TS:List Zo)(c:ZQ)(m:Nat):Prop:=∃b,Yf t H n b TS c m
theorem Q0.same{H c:Hp}{n:Addr}{TS:List Zo}{e:ZQ}{m:Nat}(s:Ze H c)(h:Q0 t H n TS e m):Q0 t c n TS e m:=let ⟨b,h⟩:=h;⟨b,h.same s⟩
inductive Zj0(t:Yn)(vs:List V)(H:Hp)(Q:VK)(E:XK):Prop|mk (n:Addr) (TS:List Zo) (KF:ZQ) (m:Nat) (vt vd:V) (Tt Td:String) (_:vs=[.ref n,vt,vd]) (_:Q0 t H n TS KF m) (_:Kd H vt Tt) (_:Kd H vd Td) (_:(∀w:Wn,Xt TS vt vd=some w->E (.ref (w.cls t)) none H)) (_:(Xt TS vt vd=none->Q .non H))
theorem ZbD(c:Zs K mg t):Zq P w K mg base (Xj P w) 3 t.Zad t.Zae ["self","trip","day"] (Zj0 t):=by
 refine c.J7.F.okX ZgN (by lia) fun O A outer s H M Q E u h=>?_;obtain⟨n,TS,S,m,f,i,C,v,rfl,⟨b,j⟩,I,B,e,q⟩:=h;obtain⟨D,fs,G,y⟩:=j.ob;obtain⟨rows,L,J⟩:=j.tt;refine⟨_,(Zi (ZJ (YI (YL (ZC c.QP (ZjV c) u Zp (Zr (pv 1) (ZU (pv 0) R))))) (Zh (A6 A5 c.Zh0 R R c.ZaR (Zj ZA))) ZK) (Zh (ZJ (YI (YL (ZC c.UO (Qc c) u Zp (Yr (pv 2) Zb (Y0 R c.Lq))))) (Zh (A6 A5 c.Zh4 R R c.ZaQ (Zj ZA))) ZK))),?_⟩;sleep 2;refine⟨_,R,_,R,n,_,D,_,_,R,G,c.YP,c.Qb,y.ft,f,C,b.dt,rows,R,I,L,_,R,?_⟩;rw[ZjZ J];unfold Xt at e q;cases g:(Wt TS f).isSome with
 |false =>
  rw[SV (by cases h:Wt TS f with|none=>rfl|some x=>rw[h]at g;cases g)]at e;exact ZH (by lia) ⟨by show 1<=sizeLine;lia,e .trip R⟩
 |true =>
  have hn:¬ (Wt TS f).isNone=true:=by cases h:Wt TS f with|none=>rw[h]at g;cases g|some x=>exact SN
  rw[SU hn]at e q;refine Zn (by lia) ⟨_,R,i,0,9999,v,R,B,_,R,?_⟩;cases hd:Xz i 0 9999 with
  |false=>rw[SV hd]at e;exact ZH (by lia) ⟨by show 1<=sizeLine;lia,e .clock R⟩
  |true=>rw[SU (by rw[hd];lia)]at q;exact Zn (by lia) (q R)
theorem ZbE{X:Cx}{e:St}{H:Hp}{v:V}{r:R3}{day:Nat}{Q:VK}{h:TA}(c:Zs X.K X.mg t)(x:YA 9 X.A)(j:Wb t H v r)(ok:r.Ok)(u:∀Z:List V->Hp->Prop,Z [.int day] H->h e H Z)(q:Q (.bl (r.runs day)) H) :
  xM X "runs" h e Q v H:=by
 obtain⟨b,rfl,g⟩:=j;rw[c.kf]at g;obtain⟨C,n,fs,f,i,sp,g1,g2,g3,g4,g5,g6,g7⟩:=(Za4 (P:=X.prog) (w:=X.w) (mg:=X.mg) (base:=X.base) c 8).at c g ok.2.2;exact⟨b,C,n,fs,f,i,_,_,sp,Zt,E0,R,g1,g2,g3,g4,g5,x,g6,Zp,u _ (g7 day _ q)⟩
def VT(TS:List Zo)(c e:V):Bool:=match Wt TS c with
 |some x=>x.r.runs (VD e)
 |none=>false
def Xk(TS:List Zo)(c e:V):Option Wn:=match Xt TS c e with
 |some w=>some w
 |none=>if VT TS c e=true then none else some .run
inductive ZbF(t:Yn)(d:List Zo->ZQ->V->V->Option Wn)(vs:List V)(H:Hp)(Q:VK)(E:XK):Prop|mk (n:Addr) (TS:List Zo) (KF:ZQ) (m:Nat) (vt vd:V) (Tt Td:String) (_:vs=[.ref n,vt,vd]) (_:Q0 t H n TS KF m) (_:(∀x∈TS,x.Ok)) (_:Kd H vt Tt) (_:Kd H vd Td) (_:(∀w:Wn,d TS KF vt vd=some w->∀H',Ze H H'->E (.ref (w.cls t)) none H')) (_:(d TS KF vt vd=none->∀H',Ze H H'->Q .non H'))
theorem ZbG(c:Zs K mg t):Zq P w K mg base (Xj P w) 11 t.Zaf t.Zag ["self","trip","day"] (ZbF t fun TS _=>Xk TS):=by
 refine c.J8.F.okX ZgO (by lia) fun b0 A outer s H vs e0 d0 f h=>?_;obtain⟨n,TS,I,m,i,g,T,M,rfl,D,U,X,Q,e,q⟩:=h;have G:=D;obtain⟨b,y⟩:=G;obtain⟨B,fs,C,j⟩:=y.ob;obtain⟨rows,Z,Y⟩:=y.tt;refine⟨_,(Zi (Yh (YY (pv 0) c.YP c.J7.me (ZbD c) (f.mono (by lia)) c.J7.b .nil UD (Zr (pv 1) (pv 2)))) (Zh (ZJ (YI (YL (U5 (Zu ZP (YB f (ZU (pv 0) R) (pv 1)) Zb) (Zj (pv 2))))) (Zh (A6 A5 c.Za0 R R c.TC (Zj ZA))) ZK))),?_⟩;sleep 2;refine⟨_,R,n,B,_,R,C,j.n_check_day,_,R,_,R,n,TS,I,m,i,g,T,M,R,D,X,Q,fun w S=>e w (by show Xk TS i g=_;unfold Xk;rw[S]) H (Ze.refl H),fun hn=>?_⟩;obtain⟨x,z,day,rfl,ex,rfl,d9⟩:=TV hn;obtain⟨v,L,_,r,rv,l,f0,J,O,E,hl,c0⟩:=(XA (fun v x (h:YH t H v x)=>h.1) Y z).2 x ex;have hd:Xk TS (.str z) (.int day)=if x.r.runs day=true then none else some .run:=by
  unfold Xk;rw[hn];show(if VT TS (.str z) (.int day)=true then none else some Wn.run)=_;rw[show VT TS (.str z) (.int day)=x.r.runs day by unfold VT;rw[show Wt TS (.str z)=some x from ex];rfl]
 try dsimp only at e q
 rw[hd]at e q;refine⟨_,R,n,_,B,_,_,R,C,c.YP,c.Qb,j.ft,_,R,b.dt,.ref r,R,by rw[<-J,<-L];exact Z9.k (k:=Sum.inr z) Z,r,_,0,_,R,R,Zk.of O,R,?_⟩;refine ZbE (r:=x.r) (day:=day) c (f.mono (by lia)) E (U _ (X2 ex).1).r (fun a0 h=>⟨_,R,h⟩) ⟨_,R,?_⟩;cases u:x.r.runs day with
 |false=>exact ZH (by lia) ⟨by show 1<=sizeLine;lia,e .run (by rw[u];rfl) H (Ze.refl H)⟩
 |true=>exact Zn (by lia) (q (by rw[u];rfl) H (Ze.refl H))
def Xa(TS:List Zo)(f:ZQ)(c e:V):Option Wn:=match Xk TS c e with
 |some w=>some w
 |none=>if f (nmS c) (VD e)=some none then some .run else none
theorem D6{TS:List Zo}{c f:V}(h:Xk TS c f=none):∃(x:Zo) (z:Str) (day:Nat),c=.str z/\ZO Zo.nm TS z=some x/\f=.int day/\day<=9999/\x.r.runs day=true:=by
 unfold Xk at h;cases hn:Xt TS c f with
 |some w=>rw[hn]at h;cases h
 |none =>
  rw[hn]at h;obtain⟨x,z,day,rfl,ex,rfl,g⟩:=TV hn;refine⟨x,z,day,R,ex,R,g,?_⟩;have e:VT TS (.str z) (.int day)=x.r.runs day:=by unfold VT;rw[show Wt TS (.str z)=some x from ex];rfl
  dsimp only at h;rw[e]at h;cases i:x.r.runs day with
  |true=>rfl
  |false=>rw[i]at h;cases h
theorem ZbH(c:Zs K mg t):Zq P w K mg base (Xj P w) 12 t.Zah t.Zai ["self","trip","day"] (ZbF t Xa):=by
 refine c.J9.F.okX ZgP (by lia) fun Z A outer s a0 X e0 d0 C h=>?_;obtain⟨n,TS,j,m,x,v,Q,J,rfl,G,S,T,M,e,q⟩:=h;have H:=G;obtain⟨b,B⟩:=H;obtain⟨D,fs,E,y⟩:=B.ob;obtain⟨b0,L,k2,I⟩:=B.tk;refine⟨_,(Zi (Yh (YY (pv 0) c.YP c.J8.me (ZbG c) (C.mono (by lia)) c.J8.b .nil UD (Zr (pv 1) (pv 2)))) (Zh (ZJ (Qk (G4 (YZ C) (Yj (Zr (pv 2) (pv 1))) (ZU (pv 0) R))) (Zh (A6 A5 c.Za0 R R c.TC (Zj ZA))) ZK))),?_⟩;sleep 2;refine⟨_,R,n,D,_,R,E,y.n_check_runs,_,R,_,R,n,TS,j,m,x,v,Q,J,R,G,S,T,M,fun w O=>e w (by unfold Xa;rw[show Xk TS x v=some w from O]),fun hn Y U=>?_⟩
 replace hn:Xk TS x v=none:=hn
 obtain⟨c0,z,f,rfl,ex,rfl,d9,f0⟩:=D6 hn;have hd:Xa TS j (.str z) (.int f)=if j z f=some none then some .run else none:=by unfold Xa;rw[hn];rfl
 rw[hd]at e q;refine⟨_,R,_,R,by show 2<=sizeLine;lia,fun p g=>?_⟩;have i:=U.trans (Zy g (.tup [.int f,.str z]));refine⟨_,R,n,_,D,_,_,R,i _ _ E,c.YP,c.QT,y.fk,b.dk,_,R,Z9.t (k:=Z6 f z) (i _ _ L) Zm,_,R,?_⟩;rw[I];by_cases u:j z f=some none
 ·exact ZH (SO u) ⟨by show 1<=sizeLine;lia,e .run (by rw[SV u]) _ i⟩
 ·exact Zn (by rw[SQ u];lia) (q (by rw[SU u]) _ i)
inductive Zj1(t:Yn)(vs:List V)(H:Hp)(Q:VK)(_e3:XK):Prop|mk (n:Addr) (TS:List Zo) (KF:ZQ) (m:Nat) (z:Str) (day:Nat) (x:Zo) (_:vs=[.ref n,.str z,.int day]) (_:Q0 t H n TS KF m) (_:ZO Zo.nm TS z=some x) (_:x.cs.length<=6) (_:∀l H',Ze H H'->H l=none->H' l=some (.lst ((Xo x (KF z day)).map fun n=>V.int (n:Nat)))->Q (.ref l) H')
theorem Qe(m:Nat)(k:Nat):(List.replicate m [V.int k]).flatten=(List.replicate m k).map fun n:Nat=>V.int (n:Nat):=by
 rw[List.map_replicate]
 induction m with
 |zero=>rfl
 |succ m c=>rw[List.replicate_succ,List.replicate_succ,List.flatten_cons,c];rfl
theorem ZbI(e:Zs K mg t):Zq P w K mg base Zt 1 t.Zab t.Zac ["self","trip","day"] (Zj1 t):=by
 refine e.J6.F.ok uM (by lia) fun l0 A outer s H vs o0 n0 Q h=>?_;obtain⟨n,TS,I,m,z,c,x,rfl,⟨b,v⟩,ex,l6,d0⟩:=h;obtain⟨S,fs,X,L⟩:=v.ob;obtain⟨rows,h1,h2⟩:=v.tt;obtain⟨G,J,k2,k3⟩:=v.lt;obtain⟨O,ev,_,r,rv,lc,B,er,j0,m0,hl,h0⟩:=(XA (fun O x (h:YH t H O x)=>h.1) h2 z).2 x ex;have q0:=h0.length;refine⟨_,(Zi (ZR 3 uM.nd (Zd Xc (Z2 (Zj Zb)) (ZV Xm e.Y9 Y8 (Zj (Zu ZP (YB Q (ZU (pv 0) R) (pv 1)) Zb))))) (Zh (Zx (YF U2 R e.Vj Vg (Zj (B5 (YZ Q) (ZU (pv 0) R) (Yj (Zr (pv 2) (pv 1))) (pv 3) ⟨R,R,R,R⟩)))))),?_⟩;sleep 2;refine⟨by show 1<=sizeLine;lia,fun y g0=>?_⟩;have f:=Zy g0 (.lst [.int 0]);have Y:=@Zm H y (.lst [.int 0]);generalize Za H y (.lst [.int 0])=M at f Y ⊢;refine⟨_,R,n,_,S,_,_,R,f _ _ X,e.YP,e.Qb,L.ft,_,R,b.dt,.ref r,R,by rw[<-er,<-ev];exact Z9.k (k:=Sum.inr z) (f _ _ h1),r,_,1,_,R,R,Zk.of (f _ _ j0),R,lc,_,R,.inl (Zg.of (f _ _ hl)),y,((B.length:Nat):Int),_,R,R,Y,by lia,by lia,by show 1*_<=sizeLine;exact Sh (show _<=6 by lia) (by lia),fun pr gr=>?_⟩;have a0:(List.replicate ((B.length:Nat):Int).toNat [V.int 0]).flatten=(List.replicate x.cs.length 0).map fun n:Nat=>V.int (n:Nat):=by
  rw[show((B.length:Nat):Int).toNat=x.cs.length by lia];exact Qe _ 0
 rw[a0];have t2:=Zy gr (.lst ((List.replicate x.cs.length 0).map fun n:Nat=>V.int (n:Nat)));have D:=@Zm M pr (.lst ((List.replicate x.cs.length 0).map fun n:Nat=>V.int (n:Nat)));have q:=f.trans t2;generalize Za M pr (.lst ((List.replicate x.cs.length 0).map fun n:Nat=>V.int (n:Nat)))=C at q D ⊢;refine⟨_,R,n,_,S,_,_,R,q _ _ X,e.YP,e.Kc,L.fl,b.dl,R,.inr ⟨G,.inl (q _ _ J)⟩,_,R,_,R,by show 2<=sizeLine;lia,fun p f0=>?_⟩;have T:=Zy f0 (.tup [.int c,.str z]);have i:=q.trans T;have U:=@Zm C p (.tup [.int c,.str z]);have u:=T _ _ D;generalize Za C p (.tup [.int c,.str z])=Z at i U u ⊢;refine⟨_,R,_,Z9.t (k:=Z6 c z) (i _ _ J) U,?_⟩;have j:=k3.same i z c;have b0:∃g,(Zz G (Z6 c z)).getD (.ref pr)=.ref g/\Z g=some (.lst ((Xo x (I z c)).map fun n=>V.int (n:Nat))):=by
  revert j;cases I z c with
  |none=>exact fun j=>⟨pr,by rw[j];rfl,u⟩
  |some o=>cases o with
   |none=>exact fun j=>⟨pr,by rw[j];rfl,u⟩
   |some ls=>exact fun⟨g,k0,h⟩=>⟨g,by rw[k0];rfl,h⟩
 obtain⟨g,e0,i0⟩:=b0;rw[e0];refine⟨g,_,R,.inl (Zg.of i0),fun l E=>?_⟩;exact d0 l _ (i.trans (Zy E _)) (i.free E) Zm
inductive Zj2(t:Yn)(vs:List V)(H:Hp)(Q:VK)(E:XK):Prop|mk (n:Addr) (TS:List Zo) (KF:ZQ) (m:Nat) (vt vd:V) (Tt Td:String) (_:vs=[.ref n,vt,vd]) (_:Q0 t H n TS KF m) (_:(∀x∈TS,x.Ok)) (_:Kd H vt Tt) (_:Kd H vd Td) (_:(∀x∈TS,∀day ls,KF x.nm day=some (some ls)->ls.length=x.cs.length)) (_:(∀w:Wn,Xt TS vt vd=some w->E (.ref (w.cls t)) none H)) (_:∀x z day,vt=.str z->ZO Zo.nm TS z=some x->vd=.int (day:Nat)->day<=9999->(X4 x (KF z day) day=none->∀H',Ze H H'->Q .non H')/\∀ms,X4 x (KF z day) day=some ms->∀l vs H',Ze H H'->H l=none->H' l=some (.lst vs)->Al (X1 H') vs ms->Q (.ref l) H')
theorem Q2{x:Zo}{o:Option (Option (List Nat))}(h:∀c,o=some (some c)->c.length=x.cs.length):(Xo x o).length=x.cs.length:=by
 cases o with
 |none=>exact Sz
 |some o=>cases o with
  |none=>exact Sz
  |some c=>exact h c R
theorem ZbJ(c:Zs K mg t):Zq P w K mg base (Xj P w) 11 t.gZ t.Zaa ["self","trip","day"] (Zj2 t):=by
 refine c.J5.F.okX ZgM (by lia) fun k0 A outer s H vs n0 m0 f h=>?_;obtain⟨n,TS,g,m,vt,vd,Tt,Td,rfl,E,h0,U,kd,Y,g0,b0⟩:=h;have d0:=E;obtain⟨b,D⟩:=d0;obtain⟨j,fs,q,i⟩:=D.ob;obtain⟨rows,S,h2⟩:=D.tt;obtain⟨l0,k1,k2,k3⟩:=D.tk;refine⟨_,(Zi (Yh (YY (pv 0) c.YP c.J7.me (ZbD c) (f.mono (by lia)) c.J7.b .nil UD (Zr (pv 1) (pv 2)))) (Zi (ZJ (PW.pt (UX (YI (YL (U5 (Zu ZP (YB f (ZU (pv 0) R) (pv 1)) Zb) (Zj (pv 2))))) (UW (Qk (G4 (YZ f) (Yj (Zr (pv 2) (pv 1))) (ZU (pv 0) R)))))) (Zh (Zx W2)) ZK) (Zh (Zx (ZC c.RN (Zbv c) f Zp (Yr (Zu ZP (YB f (ZU (pv 0) R) (pv 1)) Zb) (Zd Uk (pv 2) (Y0 R c.ZgZ)) (YY (pv 0) c.YP c.J6.me (ZbI c) (f.mono (by lia)) c.J6.b .nil Zp (Zr (pv 1) (pv 2))))))))),?_⟩;sleep 3;refine⟨_,R,n,j,_,R,q,i.n_check_day,_,R,_,R,n,TS,g,m,vt,vd,Tt,Td,R,E,U,kd,g0,fun hn=>?_⟩;obtain⟨x,z,day,rfl,ex,rfl,X⟩:=TV hn;obtain⟨I,q2⟩:=b0 x z day R ex R X;have B:=h0 _ (X2 ex).1;have f0:∀u,g z day=some (some u)->u.length=x.cs.length:=fun u h=>Y x (X2 ex).1 day u (by rw[(X2 ex).2];exact h);obtain⟨O,L,_,r,rv,lc,i0,J,M,a0,hl,e0⟩:=(XA (fun O x (h:YH t H O x)=>h.1) h2 z).2 x ex;refine⟨_,R,n,_,j,_,_,R,q,c.YP,c.Qb,i.ft,_,R,b.dt,.ref r,R,by rw[<-J,<-L];exact Z9.k (k:=Sum.inr z) S,r,_,0,_,R,R,Zk.of M,R,?_⟩;refine ZbE (r:=x.r) (day:=day) c (f.mono (by lia)) a0 B.r (fun o0 h=>⟨_,R,h⟩) ⟨_,R,?_⟩;cases C:x.r.runs day with
 |false=>exact ZH (by lia) (I (by unfold X4;rw[C,SU SN]) _ (Ze.refl H))
 |true =>
  refine Zn (by lia) ⟨_,R,_,R,by show 2<=sizeLine;lia,fun p c0=>?_⟩;have e:=Zy c0 (.tup [.int day,.str z]);have G:=@Zm H p (.tup [.int day,.str z]);generalize Za H p (.tup [.int day,.str z])=H1 at e G ⊢;refine⟨_,R,n,_,j,_,_,R,e _ _ q,c.YP,c.QT,i.fk,b.dk,_,R,Z9.t (k:=Z6 day z) (e _ _ k1) G,_,R,?_⟩;rw[k3];by_cases y:g z day=some none
  ·exact ZH (SO y) (I (by unfold X4;rw[C,SV R,SV y]) _ e)
  ·refine Zn (by rw[SQ y];lia) ?_
   sleep 1;refine⟨_,R,n,_,j,_,_,R,e _ _ q,c.YP,c.Qb,i.ft,_,R,b.dt,.ref r,R,by rw[<-J,<-L];exact Z9.k (k:=Sum.inr z) (e _ _ S),r,_,1,_,R,R,Zk.of (e _ _ M),R,?_⟩;refine⟨_,R,_,_,R,R,.inr ⟨by lia,by lia⟩,?_⟩;refine⟨_,R,n,j,_,R,e _ _ q,i.n_late_minutes,_,R,_,R,n,TS,g,m,z,day,x,R,E.same e,ex,B.len,fun Z H2 t2 g2 c2=>?_⟩;have v:=e.trans t2;refine⟨lc,Z,_,i0,x.cs,Xo x (g z day),R,Zg.of (v _ _ hl),e0.imp fun _ _=>Yw.same v,Zg.of c2,B.len,Q2 f0,fun l3 j0 T t3 g3 c3 Q=>?_⟩;rw[Int.mul_comm]at Q;exact q2 _ (by unfold X4;rw[C,SV R,SU y]) l3 j0 T (v.trans t3) (v.free g3) c3 Q
def We:List (Str×Int×Int)->Bool
 |x::y::r=>Vk y x && We (y::r)
 |_=>true
theorem Ko:∀e:List (Str×Int×Int),We e=true↔∀i x y,e[i]? = some x->e[i+1]? = some y->Vk y x=true
 |[]=>⟨fun _ _ _ _ h=>(nomatch h),fun _=>R⟩
 |[a]=>⟨fun _ i x y _ h=>(by cases i<;>cases h),fun _=>rfl⟩
 |a::b::r=>by
  have f:=Ko (b::r);show(Vk b a && We (b::r))=true↔_;rw[Bool.and_eq_true];constructor
  ·rintro⟨j,g⟩ i x y ex c
   cases i with
   |zero=>cases ex;cases c;exact j
   |succ i=>exact f.mp g i x y ex c
  ·intro h
   exact⟨h 0 a b R R,f.mpr fun i x y ex c=>h (i+1) x y ex c⟩
inductive Zj3(t:Yn)(K:Ow)(vs:List V)(H:Hp)(Q:VK)(E:XK):Prop|mk (a:Addr) (mvv:List V) (ms:List (Str×Int×Int)) (_:vs=[.ref a]) (_:Zg K H a mvv) (_:Al (X1 H) mvv ms) (_:ms.length<=6) (_:(We ms=true->Q .non H)) (_:(We ms=false->E (.ref t.Vi) none H))
theorem Zj4(f:Zs K mg t):Zq P w K mg base (Xj P w) 2 t.qL t.qM ["calls"] (Zj3 t K):=by
 refine f.Zav.F.okX vX (by lia) fun a0 A outer s H vs c0 b0 X h=>?_;obtain⟨a,g,u,rfl,C,J,l6,q,e⟩:=h;refine⟨_,(Zh (zL PassesOwn.leaving R (Mm R f.Vy (Zr Zb (ZV Xm f.Y9 Y8 (Zj (pv 0))))) (ZY 1 vX.nd) (Zh (ZJ (YI (YL (ZC f.RM (Zbw f) X Zp (Zr (Zu Yq (pv 0) (pv 1)) (Zu Yq (pv 0) (Zd Wh (pv 1) Zb)))))) (Zh (A6 A5 f.Zif R R f.ZaT (Zj ZA))) ZK)))),?_⟩;sleep 1;have lm:=J.length;refine⟨_,R,a,_,R,.inl C,1,_,R,⟨by lia,by lia,by lia,by lia⟩,Uj (lo:=1) (n:=(((g.length:Nat):Int) - 1).toNat) (fun i G T=>T=H/\(∀j x y,j<i->u[j]? = some x->u[j+1]? = some y->Vk y x=true)/\∃v,G=[some (.ref a),v]) ⟨R,fun _ _ _ h=>(nomatch h),none,R⟩ ?_ ?_⟩
 ·rintro i G U hi ⟨rfl,ok,v,rfl⟩
  sleep 101;have L:i+1<g.length:=by lia
  obtain⟨y,B,Q⟩:=J.get (Ss L);obtain⟨x,ex,O⟩:=J.get (Ss (show i<g.length by lia));have Z:YG g ((1:Int)+(i:Int))=some g[i+1]:=by
   rw[show(1:Int)+(i:Int)=((i+1:Nat):Int) by lia];exact XF (Ss L)
  have S:YG g ((1:Int)+(i:Int) - 1)=some g[i]:=by
   rw[show(1:Int)+(i:Int) - 1=(i:Int) by lia];exact XF (Ss (by lia))
  refine⟨_,R,_,R,a,_,_,_,R,R,C,Z,_,R,_,R,_,_,R,R,a,_,_,_,R,R,C,S,_,_,y,x,R,Q,O,_,R,?_⟩;cases E:Vk y x with
  |true =>
   refine Zn (by lia) ⟨R,fun j M Y hj I D=>?_,_,R⟩;by_cases c:j<i
   ·exact ok j M Y c I D
   ·obtain rfl:j=i:=by lia
    rw[ex]at I;rw[B]at D;cases I;cases D;exact E
  |false =>
   refine ZH (by lia) ⟨by show 1<=sizeLine;lia,e ?_⟩;cases c:We u with
   |false=>rfl
   |true=>rw[(Ko u).mp c i x y ex B]at E;cases E
 ·rintro G U ⟨rfl,ok,v,rfl⟩
  exact q ((Ko u).mpr fun i x y ex B=>ok i x y (by have:=(Sr.mp B).1;lia) ex B)
theorem Kq{h:Type}[DecidableEq h](i:List (h×V))(k j:h):Zz (Vr i k) j=if j=k then none else Zz i j:=by
 induction i with
 |nil =>
  by_cases e:j=k
  ·rw[SV e];rfl
  ·rw[SU e];rfl
 |cons a r c =>
  unfold Vr at c ⊢;by_cases f:a.1=k
  ·rw[List.filter_cons,SU (by rw[decide_eq_true_eq];exact fun z=>z f),c]
   by_cases e:j=k
   ·rw[SV e,SV e]
   ·rw[SU e,SU e,WU (fun z=>e (z.symm.trans f))]
  ·rw[List.filter_cons,SV (SO f)]
   by_cases e:j=k
   ·rw[SV e]at c ⊢
    rw[WU (fun z=>f (z.trans e)),c]
   ·rw[SU e]at c ⊢
    by_cases g:a.1=j
    ·rw[Vb g,Vb g]
    ·rw[WU g,WU g,c]
def YW(x:Zo)(o:Option (Option (List Nat)))(c k:Nat):List Nat:=(Xo x o).take c++List.replicate (x.cs.length - c) k
theorem Kr{x:Zo}{o:Option (Option (List Nat))}(h:∀e,o=some (some e)->e.length=x.cs.length){c:Nat}(k:Nat)(f:c<=x.cs.length):(YW x o c k).length=x.cs.length:=by
 unfold YW;rw[Su,Sx,Q2 h,Sz];lia
def X5(TS:List Zo)(f:ZQ)(c g e h:V):Option Wn:=match Xa TS f c g with
 |some w=>some w
 |none=>match Wt TS c with
  |none=>none
  |some x=>if Xz e 0 (((x.cs.length:Nat):Int) - 1)=false then some .number else if Xz h 0 300=false then some .number else if We (YC 0 x.cs (YW x (f (nmS c) (VD g)) (VD e) (VD h)))=true then none else some .calls
theorem Ks{TS:List Zo}{c:ZQ}{e f:V}(h:Xa TS c e f=none):∃(x:Zo) (z:Str) (day:Nat),e=.str z/\ZO Zo.nm TS z=some x/\f=.int day/\day<=9999/\x.r.runs day=true/\c z day≠some none:=by
 unfold Xa at h;cases hn:Xk TS e f with
 |some w=>rw[hn]at h;cases h
 |none =>
  rw[hn]at h;obtain⟨x,z,day,rfl,ex,rfl,j,n⟩:=D6 hn;refine⟨x,z,day,R,ex,R,j,n,fun i=>?_⟩;have g:(if c z day=some none then some Wn.run else none)=none:=h;rw[SV i]at g;cases g
def Xg(TS:List Zo)(f:ZQ):Prop:=∀x∈TS,∀e c,f x.nm e=some (some c)->c.length=x.cs.length
inductive Zj5(t:Yn)(vs:List V)(H:Hp)(Q:VK)(E:XK):Prop|mk (n:Addr) (b:NB) (TS:List Zo) (KF:ZQ) (m:Nat) (vt vd vc vm:V) (_:vs=[.ref n,vt,vd,vc,vm]) (_:Yf t H n b TS KF m) (_:m<1000) (_:(∀x∈TS,x.Ok)) (_:Xg TS KF) (_:(∃T,Kd H vt T)) (_:(∃T,Kd H vd T)) (_:(∃T,Kd H vc T)) (_:(∃T,Kd H vm T)) (_:(∀w:Wn,X5 TS KF vt vd vc vm=some w->∀H',Ze H H'->E (.ref (w.cls t)) none H')) (_:∀x z day c k,vt=.str z->ZO Zo.nm TS z=some x->vd=.int (day:Nat)->vc=.int (c:Nat)->vm=.int (k:Nat)->X5 TS KF vt vd vc vm=none->c<x.cs.length->k<=300->∀H',Ze (wo (wo H b.dk) b.dl) H'->Yf t H' n b TS (YV KF z day (some (YW x (KF z day) c k))) (m+1)->Q .non H')
theorem Q3(xs:List V)(c:Nat):W3 xs none (some (c:Int))=xs.take c:=by
 unfold W3 HT.sIx;dsimp only;rw[SU (by lia),List.drop_zero];by_cases h:c<=xs.length
 ·congr 1;lia
 ·rw[SY (by lia),SY (by lia)]
theorem Yf.late{H:Hp}{n:Addr}{b:NB}{TS:List Zo}{j:ZQ}{m:Nat}{z:Str}{day:Nat}{l:Addr}{q:OG}{u:List (List Zl×V)}(h:Yf t H n b TS j m)(I:j z day≠some none)(g:H b.dl=some (.dT u))(C:H l=some (.lst (q.map fun n=>V.int (n:Nat)))) :
  Yf t (Za H b.dl (.dT (YO u (Z6 day z) (.ref l)))) n b TS (YV j z day (some q)) (m+1):=by
 obtain⟨⟨M,fs,Q,J⟩,ap,⟨rows,y,S⟩,⟨G,E,T,B⟩,⟨D,i,U,L⟩⟩:=h;obtain rfl:u=D:=by rw[g]at i;injection i with i;injection i
 have keep:∀{p v},H p=some (.lst v)->∀o,Za H b.dl o p=some (.lst v):=fun x o=>by rw[Zf (Z3 x g (by intro z;cases z))];exact x
 refine⟨⟨M,fs,UR g ZI.dt Q,J⟩,ap,⟨rows,by rw[Zf (Z3 y g (by intro z;cases z))];exact y,S.imp fun _ _=>YH.put g ZI.dt (fun _ z=>(nomatch z))⟩,⟨G,by rw[Zf ap];exact E,by lia,fun f c=>?_⟩,⟨_,Zm,Sh (B3 _ _ _) (by lia),fun f c=>?_⟩⟩
 ·rw[B]
  unfold YV;by_cases e:f=z/\c=day
  ·rw[SV e,e.1,e.2,SQ I];rfl
  ·rw[SU e]
 ·rw[MV]
  have O:=L f c;unfold YV;by_cases e:f=z/\c=day
  ·rw[SV e]
   show ∃_,_;rw[e.1,e.2,SV R];exact⟨l,R,keep C _⟩
  ·rw[SU e,SU fun z=>e (D3 z)]
   revert O;cases j f c with
   |none=>exact id
   |some o=>cases o with
    |none=>exact id
    |some q=>exact fun⟨l,e,h⟩=>⟨l,e,keep h _⟩
theorem ZbK(f:Zs K mg t):Zq P w K mg base (Xj P w) 13 t.gR t.gS ["self","trip","day","call","minutes"] (Zj5 t):=by
 refine f.J3.F.okX PM (by lia) fun r0 A outer s k0 vs q0 u0 v h=>?_;obtain⟨n,b,TS,i,m,vt,vd,I,C,rfl,y,m1,e0,g0,⟨Tt,kt⟩,⟨Td,kd⟩,⟨Tc,kc⟩,⟨Tm,km⟩,e,q⟩:=h;obtain⟨D,fs,E,G⟩:=y.ob;obtain⟨rows,h1,h2⟩:=y.tt;obtain⟨i0,k1,k2,k3⟩:=y.lt;refine⟨_,(Zi (Yh (YY (pv 0) f.YP f.J9.me (ZbH f) (v.mono (by lia)) f.J9.b .nil UD (Zr (pv 1) (pv 2)))) (Zi (ZR 5 PM.nd (Zu ZP (YB v (ZU (pv 0) R) (pv 1)) Zb)) (Zi (Yh (ZC f.Uc (ZbC f) v UD (Yr (pv 3) Zb (Zd Wh (ZV Xm f.Y9 Y8 (Zj (pv 5))) Zb)))) (Zi (Yh (ZC f.Uc (ZbC f) v UD (Yr (pv 4) Zb (Y0 R f.Zhg)))) (Zi (ZR 6 PM.nd (Zd Xx (Um U0 (YY (pv 0) f.YP f.J6.me (ZbI f) (v.mono (by lia)) f.J6.b .nil Zp (Zr (pv 1) (pv 2))) UA (VI (pv 3))) (Zd Xc (Z2 (Zj (pv 4))) (Zd Wh (ZV Xm f.Y9 Y8 (Zj (pv 5))) (pv 3))))) (Zi (Yh (ZC f.Zav (Zj4 f) v UD (Zj (ZC f.RN (Zbv f) v Zp (Yr (pv 5) Zb (pv 6)))))) (Zh (Vc (YZ v) (ZU (pv 0) R) (Yj (Zr (pv 2) (pv 1))) (pv 6) R)))))))),?_⟩;sleep 7;refine⟨_,R,n,D,_,R,E,G.n_check_goes,_,R,_,R,n,TS,i,m,vt,vd,Tt,Td,R,⟨b,y⟩,e0,kt,kd,fun w hw=>e w (by unfold X5;rw[hw]),fun hn H1 j=>?_⟩;obtain⟨x,z,g,rfl,ex,rfl,d9,t0,nk⟩:=Ks hn;have ok:=e0 _ (X2 ex).1;have l6:=ok.len;have d0:∀u,i z g=some (some u)->u.length=x.cs.length:=fun u h=>g0 x (X2 ex).1 g u (by rw[(X2 ex).2];exact h);have hd:X5 TS i (.str z) (.int g) I C=if Xz I 0 (((x.cs.length:Nat):Int) - 1)=false then some .number else if Xz C 0 300=false then some .number else if We (YC 0 x.cs (YW x (i z g) (VD I) (VD C)))=true then none else some .calls:=by
  unfold X5;rw[hn];dsimp only;rw[show Wt TS (.str z)=some x from ex];rfl
 rw[hd]at e q;obtain⟨kv,ev,_,r,rv,lc,U,er,l0,s0,M,c0⟩:=(XA (fun kv x (h:YH t k0 kv x)=>h.1) h2 z).2 x ex;have h0:=c0.length;have lm:=Q2 d0;refine⟨_,R,n,_,D,_,_,R,j _ _ E,f.YP,f.Qb,G.ft,_,R,b.dt,.ref r,R,by rw[<-er,<-ev];exact Z9.k (k:=Sum.inr z) (j _ _ h1),r,_,1,_,R,R,Zk.of (j _ _ l0),R,?_⟩;rw[<-h0]at e q;refine⟨_,R,_,R,lc,_,R,.inl (Zg.of (j _ _ M)),_,_,R,R,I,Tc,0,_,R,kc.same j,fun B=>?_,fun B=>e .number (by rw[SV B]) _ j⟩;rw[SU (by rw[B];lia)]at e q;refine⟨_,R,C,Tm,0,300,R,km.same j,fun nm=>?_,fun nm=>e .number (by rw[SV nm]) _ j⟩;rw[SU (by rw[nm];lia)]at e q;obtain⟨c,rfl,p0⟩:=D5 B;obtain⟨k,rfl,v0⟩:=D5 nm;have hc:c<x.cs.length:=by lia
 have hk:k<=300:=by lia
 replace q:=q x z g c k R ex R R R
 rw[show VD (.int (c:Int))=c from R,show VD (.int (k:Int))=k from R]at e q;refine⟨_,R,n,D,_,R,j _ _ E,G.n_late_minutes,_,R,_,R,n,TS,i,m,z,g,x,R,⟨b,y.same j⟩,ex,l6,fun l2 H2 s2 g2 c2=>?_⟩;have S2:=j.trans s2;refine⟨_,R,_,R,l2,_,R,Zg.of c2,fun T g3=>?_⟩;rw[show W3 ((Xo x (i z g)).map fun n:Nat=>V.int (n:Nat)) none (some (c:Int))=((Xo x (i z g)).take c).map fun n:Nat=>V.int (n:Nat) by rw[Q3,Oe]];have t3:=Zy g3 (.lst (((Xo x (i z g)).take c).map fun n:Nat=>V.int (n:Nat)));have S3:=S2.trans t3;have c3:=@Zm H2 T (.lst (((Xo x (i z g)).take c).map fun n:Nat=>V.int (n:Nat)));generalize Za H2 T (.lst (((Xo x (i z g)).take c).map fun n:Nat=>V.int (n:Nat)))=H3 at S3 c3 ⊢;refine⟨_,R,by show 1<=sizeLine;lia,fun Z g4=>?_⟩;have t4:=Zy g4 (.lst [.int k]);have O:=S3.trans t4;have c4:=@Zm H3 Z (.lst [.int k]);have b0:=t4 _ _ c3;generalize Za H3 Z (.lst [.int k])=H4 at O c4 b0 ⊢;refine⟨_,R,lc,_,R,.inl (Zg.of (O _ _ M)),_,R,_,_,R,R,Z,((U.length:Nat):Int) - (c:Int),_,R,R,c4,by lia,by lia,by show 1*_<=sizeLine;exact Sh (show _<=6 by lia) (by lia),fun Y g5=>?_⟩;rw[show(((U.length:Nat):Int) - (c:Int)).toNat=x.cs.length - c by lia,Qe];have t5:=Zy g5 (.lst ((List.replicate (x.cs.length - c) k).map fun n:Nat=>V.int (n:Nat)));have S5:=O.trans t5;have c5:=@Zm H4 Y (.lst ((List.replicate (x.cs.length - c) k).map fun n:Nat=>V.int (n:Nat)));have a0:=t5 _ _ b0;generalize Za H4 Y (.lst ((List.replicate (x.cs.length - c) k).map fun n:Nat=>V.int (n:Nat)))=H5 at S5 c5 a0 ⊢;refine⟨T,Y,_,_,R,R,a0,c5,by rw[Sv,Sv,Sx,Sz,lm];exact Sh (show _<=6 by lia) (by lia),fun S g6=>?_⟩;rw[<-SK,show(Xo x (i z g)).take c++List.replicate (x.cs.length - c) k=YW x (i z g) c k from R];have X:=Kr d0 k (show c<=x.cs.length by lia);generalize YW x (i z g) c k=u at X e q ⊢;have t6:=Zy g6 (.lst (u.map fun n:Nat=>V.int (n:Nat)));have J:=S5.trans t6;have Q:=@Zm H5 S (.lst (u.map fun n:Nat=>V.int (n:Nat)));generalize Za H5 S (.lst (u.map fun n:Nat=>V.int (n:Nat)))=H6 at J Q ⊢;refine⟨_,R,_,R,lc,S,0,U,x.cs,u,R,Zg.of (J _ _ M),c0.imp fun _ _=>Yw.same J,Zg.of Q,l6,X,fun l7 j0 H7 s7 g7 c7 m0=>?_⟩;have S7:=J.trans s7;have o0:=s7 _ _ Q;have f0:(YC 0 x.cs u).length<=6:=by unfold YC;rw[List.length_zipWith,X,Nat.min_self];exact l6
 refine⟨l7,j0,_,R,Zg.of c7,m0,f0,fun L=>?_,fun L=>e .calls (by rw[SU (by rw[L];lia)]) _ S7⟩;have S8:=S7;have n0:=o0
 replace q:=q (by rw[SV L]) hc hk
 refine⟨_,R,_,R,n,_,D,_,_,R,S8 _ _ E,f.YP,f.Kc,G.fl,_,R,_,R,by show 2<=sizeLine;lia,fun p9 g9=>?_⟩;have t9:=Zy g9 (.tup [.int g,.str z]);have H:=S8.trans t9;refine⟨b.dl,_,R,XM.t (k:=Z6 g z) (H _ _ k1) Zm (Sj (show i0.length<=1000 by lia) (by lia)),?_⟩;refine q _ (fun a o e=>?_) ((y.same H).late nk (H _ _ k1) (t9 _ _ n0));obtain⟨na,e⟩:=YR e;obtain⟨_,e⟩:=YR e;rw[Zf na];exact H _ _ e
inductive Zj6(t:Yn)(vs:List V)(H:Hp)(Q:VK)(E:XK):Prop|mk (n:Addr) (b:NB) (TS:List Zo) (KF:ZQ) (m:Nat) (vt vd:V) (Tt Td:String) (_:vs=[.ref n,vt,vd]) (_:Yf t H n b TS KF m) (_:m<1000) (_:(∀x∈TS,x.Ok)) (_:Kd H vt Tt) (_:Kd H vd Td) (_:(∀w:Wn,Xa TS KF vt vd=some w->∀H',Ze H H'->E (.ref (w.cls t)) none H')) (_:∀x z day,vt=.str z->ZO Zo.nm TS z=some x->vd=.int (day:Nat)->Xa TS KF vt vd=none->∀H',Ze (wo (wo H b.dk) b.dl) H'->Yf t H' n b TS (YV KF z day none) (m+1)->Q .non H')
theorem Yf.outs{H:Hp}{n:Addr}{b:NB}{TS:List Zo}{B:ZQ}{m:Nat}{z:Str}{day:Nat}{y g:List (List Zl×V)}(h:Yf t H n b TS B m)(E:H b.dl=some (.dT y))(G:H b.dk=some (.dT g)){q:List (List Zl×V)}(ll:q.length<=y.length)(vl:∀j,Zz q j=if j=Z6 day z then none else Zz y j){i:Hp}(s:Ze (wo H b.dl) i)(a0:i b.dl=some (.dT q))(b0:i b.dk=some (.dT g))(v:V) :
  Yf t (Za i b.dk (.dT (YO g (Z6 day z) v))) n b TS (YV B z day none) (m+1):=by
 obtain⟨⟨dx,fs,D,C⟩,ap,⟨rows,h1,h2⟩,⟨Y,x,a2,L⟩,⟨X,u,b2,Z⟩⟩:=h;obtain rfl:y=X:=by rw[E]at u;injection u with u;injection u
 obtain rfl:g=Y:=by rw[G]at x;injection x with x;injection x
 have S:Ze (wo (wo H b.dl) b.dk) (Za i b.dk (.dT (YO g (Z6 day z) v))):=fun a o e=>by
  obtain⟨J,e⟩:=YR e;rw[Zf J];exact s _ _ e
 have up:∀{a o},H a=some o->(∀O,o≠.dT O)->wo (wo H b.dl) b.dk a=some o:=fun e n=>ZX (ZX e (Z3 e E (n _))) (Z3 e G (n _));have U:Al (YH t (wo (wo H b.dl) b.dk)) rows TS:=h2.imp fun _ _ M=>by
  obtain⟨e,r,T,l,I,D,C,e3,Q,e5⟩:=M;exact YH.keep (fun a o e nd _ _=>up e nd) ⟨e,r,T,l,I,D,C,e3,Q,e5⟩
 refine⟨⟨dx,fs,S _ _ (up D (fun _ z=>(nomatch z))),C⟩,ap,⟨rows,S _ _ (up h1 (fun _ z=>(nomatch z))),U.imp fun _ _=>YH.same S⟩,⟨_,Zm,Sh (B3 _ _ _) (by lia),fun f c=>?_⟩,⟨q,by rw[Zf ap.symm];exact a0,by lia,fun f c=>?_⟩⟩
 ·rw[MV]
  unfold YV;by_cases e:f=z/\c=day
  ·rw[e.1,e.2,SV R,SV ⟨R,R⟩];rfl
  ·rw[SU e,SU fun z=>e (D3 z),L]
 ·rw[vl]
  have hb:=Z f c;unfold YV;by_cases e:f=z/\c=day
  ·rw[SV e]
   show _=none;rw[e.1,e.2,SV R]
  ·rw[SU e,SU fun z=>e (D3 z)]
   revert hb;cases B f c with
   |none=>exact id
   |some o=>cases o with
    |none=>exact id
    |some ls=>exact fun⟨l,e,h⟩=>⟨l,e,S _ _ (up h (fun _ z=>(nomatch z)))⟩
theorem Zj7(h:Zs K mg t):Zq P w K mg base (Xj P w) 13 t.gU t.gW ["self","trip","day"] (Zj6 t):=by
 refine h.Tq.F.okX ZgK (by lia) fun g0 A outer s h0 vs c0 j0 Q f0=>?_;obtain⟨n,b,TS,KF,m,vt,vd,Tt,Td,rfl,y,m1,e0,kt,kd,e,q⟩:=f0;obtain⟨D,fs,B,I⟩:=y.ob;obtain⟨v,C,l2,l3⟩:=y.lt;obtain⟨H,G,k2,k3⟩:=y.tk;refine⟨_,(Zi (Yh (YY (pv 0) h.YP h.J9.me (ZbH h) (Q.mono (by lia)) h.J9.b .nil UD (Zr (pv 1) (pv 2)))) (Zi (Yh (M8 (YZ Q) (ZU (pv 0) R) (Yj (Zr (pv 2) (pv 1))) W2 ⟨R,R,R,R⟩)) (Zh (Vc (YZ Q) (ZU (pv 0) R) (Yj (Zr (pv 2) (pv 1))) XD R)))),?_⟩;sleep 3;refine⟨_,R,n,D,_,R,B,I.n_check_goes,_,R,_,R,n,TS,KF,m,vt,vd,Tt,Td,R,⟨b,y⟩,e0,kt,kd,e,fun hn H1 S=>?_⟩;obtain⟨b0,z,f,rfl,ex,rfl,d9,k0,nk⟩:=Ks hn
 replace q:=q b0 z f R ex R hn
 refine⟨_,R,n,_,D,_,_,R,S _ _ B,h.YP,h.Kc,I.fl,b.dl,R,.inr ⟨v,.inl (S _ _ C)⟩,_,R,_,R,by show 2<=sizeLine;lia,fun L g2=>?_⟩;have t2:=Zy g2 (.tup [.int f,.str z]);have c:=S.trans t2;have U:=@Zm H1 L (.tup [.int f,.str z]);generalize Za H1 L (.tup [.int f,.str z])=x at c U ⊢;have Z:∀(i:Hp) (E:List (List Zl×V)),E.length<=v.length->(∀j,Zz E j=if j=Z6 f z then none else Zz v j)->Ze (wo x b.dl) i->i b.dl=some (.dT E)->i b.dk=some (.dT H)->i n=some (.ins t.YS D fs)->∀p g,i p=none->c0 .non (Za (Za i p g) b.dk (.dT (YO H (Z6 f z) (.bl true)))):=fun i E ll vl s3 a0 d0 i0 p g gp=>by
  have u:=Zy gp g;refine q _ (fun a o e=>?_) ((y.same c).outs (c _ _ C) (c _ _ G) ll vl (s3.trans u) (u _ _ a0) (u _ _ d0) _);obtain⟨n1,e⟩:=YR e;obtain⟨n2,e⟩:=YR e;rw[Zf n2];exact u _ _ (s3 _ _ (ZX (c _ _ e) n1))
 refine⟨v,Z6 f z,L,c _ _ C,R,U,fun l0 Y=>?_,fun Y=>?_⟩
 ·have J:Ze (wo x b.dl) (Za x b.dl (.dT (Vr v (Z6 f z)))):=fun a o e=>by
   obtain⟨na,e⟩:=YR e;rw[Zf na];exact e
  have T:=J _ _ (ZX (c _ _ B) (Z3 (c _ _ B) (c _ _ C) (by intro z;cases z)));have M:=J _ _ (ZX (c _ _ G) y.ap);have X:=@Zm x b.dl (.dT (Vr v (Z6 f z)));generalize Za x b.dl (.dT (Vr v (Z6 f z)))=i at J T M X ⊢;refine⟨_,R,n,_,D,_,_,R,T,h.YP,h.QT,I.fk,_,R,_,R,by show 2<=sizeLine;lia,fun O g4=>?_⟩;have u:=Zy g4 (.tup [.int f,.str z]);exact⟨b.dk,_,R,XM.t (k:=Z6 f z) (u _ _ M) Zm (Sj (show H.length<=1000 by lia) (by lia)),Z i _ (B4 _ _) (fun j=>Kq _ _ _) J X M T O _ g4⟩
 ·refine⟨_,R,n,_,D,_,_,R,c _ _ B,h.YP,h.QT,I.fk,_,R,_,R,by show 2<=sizeLine;lia,fun O g4=>?_⟩
  have u:=Zy g4 (.tup [.int f,.str z]);refine⟨b.dk,_,R,XM.t (k:=Z6 f z) (u _ _ (c _ _ G)) Zm (Sj (show H.length<=1000 by lia) (by lia)),Z x v (Sg _) (fun j=>?_) B6 (c _ _ C) (c _ _ G) (c _ _ B) O _ g4⟩;by_cases e:j=Z6 f z
  ·rw[SV e,e,Y]
  ·rw[SU e]
def VE(f:ZQ)(z:Str)(day:Nat):ZQ:=fun e c=>if e=z/\c=day then none else f e c
theorem Yf.backs{H x:Hp}{n:Addr}{b:NB}{TS:List Zo}{B:ZQ}{m:Nat}{z:Str}{day:Nat}{y v g q:List (List Zl×V)}(h:Yf t H n b TS B m)(C:H b.dl=some (.dT y))(D:H b.dk=some (.dT v))(ll:g.length<=y.length)(lk:q.length<=v.length)(X:∀j,Zz g j=if j=Z6 day z then none else Zz y j)(E:∀j,Zz q j=if j=Z6 day z then none else Zz v j)(s:Ze (wo (wo H b.dk) b.dl) x)(U:x b.dl=some (.dT g))(L:x b.dk=some (.dT q)) :
  Yf t x n b TS (VE B z day) m:=by
 obtain⟨⟨Y,fs,e1,S⟩,ap,⟨rows,h1,h2⟩,⟨Q,u,a2,G⟩,⟨O,i,b2,T⟩⟩:=h;obtain rfl:y=O:=by rw[C]at i;injection i with i;injection i
 obtain rfl:v=Q:=by rw[D]at u;injection u with u;injection u
 have up:∀{a o},H a=some o->(∀J,o≠.dT J)->wo (wo H b.dk) b.dl a=some o:=fun e n=>ZX (ZX e (Z3 e D (n _))) (Z3 e C (n _));have M:Al (YH t (wo (wo H b.dk) b.dl)) rows TS:=h2.imp fun _ _ I=>YH.keep (fun a o e nd _ _=>up e nd) I;refine⟨⟨Y,fs,s _ _ (up e1 (fun _ z=>(nomatch z))),S⟩,ap,⟨rows,s _ _ (up h1 (fun _ z=>(nomatch z))),M.imp fun _ _=>YH.same s⟩,⟨q,L,by lia,fun f c=>?_⟩,⟨g,U,by lia,fun f c=>?_⟩⟩
 ·rw[E]
  unfold VE;by_cases e:f=z/\c=day
  ·rw[e.1,e.2,SV R,SV ⟨R,R⟩];rfl
  ·rw[SU e,SU fun z=>e (D3 z),G]
 ·rw[X]
  have Z:=T f c;unfold VE;by_cases e:f=z/\c=day
  ·rw[SV e]
   show _=none;rw[e.1,e.2,SV R]
  ·rw[SU e,SU fun z=>e (D3 z)]
   revert Z;cases B f c with
   |none=>exact id
   |some o=>cases o with
    |none=>exact id
    |some ls=>exact fun⟨l,e,h⟩=>⟨l,e,s _ _ (up h (fun _ z=>(nomatch z)))⟩
theorem L5{c:List (List Zl×V)}{k:List Zl}(h:Zz c k=none)(j:List Zl):Zz c j=if j=k then none else Zz c j:=by
 by_cases e:j=k
 ·rw[SV e,e,h]
 ·rw[SU e]
inductive Zj8(t:Yn)(vs:List V)(H:Hp)(Q:VK)(E:XK):Prop|mk (n:Addr) (b:NB) (TS:List Zo) (KF:ZQ) (m:Nat) (vt vd:V) (Tt Td:String) (_:vs=[.ref n,vt,vd]) (_:Yf t H n b TS KF m) (_:(∀x∈TS,x.Ok)) (_:Kd H vt Tt) (_:Kd H vd Td) (_:(∀w:Wn,Xk TS vt vd=some w->∀H',Ze H H'->E (.ref (w.cls t)) none H')) (_:∀x z day,vt=.str z->ZO Zo.nm TS z=some x->vd=.int (day:Nat)->Xk TS vt vd=none->∀H',Ze (wo (wo H b.dk) b.dl) H'->Yf t H' n b TS (VE KF z day) m->Q .non H')
theorem ZbL(h:Zs K mg t):Zq P w K mg base (Xj P w) 12 t.gX t.gY ["self","trip","day"] (Zj8 t):=by
 refine h.J4.F.okX ZgL (by lia) fun g0 A outer s a0 vs d0 h0 hr f0=>?_;obtain⟨n,b,TS,KF,m,vt,vd,Tt,Td,rfl,y,e0,kt,kd,e,b0⟩:=f0;obtain⟨Q,fs,H,O⟩:=y.ob;obtain⟨u,B,l2,l3⟩:=y.lt;obtain⟨v,E,k2,k3⟩:=y.tk;refine⟨_,(Zi (Yh (YY (pv 0) h.YP h.J8.me (ZbG h) (hr.mono (by lia)) h.J8.b .nil UD (Zr (pv 1) (pv 2)))) (Zi (Yh (M8 (YZ hr) (ZU (pv 0) R) (Yj (Zr (pv 2) (pv 1))) W2 ⟨R,R,R,R⟩)) (Zh (Yh (M8 (YZ hr) (ZU (pv 0) R) (Yj (Zr (pv 2) (pv 1))) W2 ⟨R,R,R,R⟩))))),?_⟩;sleep 3;refine⟨_,R,n,Q,_,R,H,O.n_check_runs,_,R,_,R,n,TS,KF,m,vt,vd,Tt,Td,R,⟨b,y⟩,e0,kt,kd,e,fun hn H1 s1=>?_⟩
 replace hn:Xk TS vt vd=none:=hn
 obtain⟨c0,z,f,rfl,ex,rfl,d9,i0⟩:=D6 hn;refine⟨_,R,n,_,Q,_,_,R,s1 _ _ H,h.YP,h.Kc,O.fl,b.dl,R,.inr ⟨u,.inl (s1 _ _ B)⟩,_,R,_,R,by show 2<=sizeLine;lia,fun T g2=>?_⟩;generalize hE:Za H1 T _=i;have c:Ze a0 i:=s1.trans (hE ▸ Zy g2 _);have c2:i T=some (.tup [.int f,.str z]):=hE ▸ Zm;clear hE;have go:∀(x:Hp) (J:List (List Zl×V)),J.length<=u.length->(∀j,Zz J j=if j=Z6 f z then none else Zz u j)->Ze (wo i b.dl) x->x b.dl=some (.dT J)->∀(D:Hp) (L:List (List Zl×V)),L.length<=v.length->(∀j,Zz L j=if j=Z6 f z then none else Zz v j)->Ze (wo x b.dk) D->D b.dk=some (.dT L)->d0 .non D:=fun x J ll vl s3 h3 D L lk vk Z h4=>by
  refine b0 c0 z f R ex R hn D ?_ ((y.same c).backs (c _ _ B) (c _ _ E) ll lk vl vk ?_ ?_ h4)
  ·intro a o g
   obtain⟨n1,g⟩:=YR g;obtain⟨n2,g⟩:=YR g;exact Z _ _ (ZX (s3 _ _ (ZX (c _ _ g) n1)) n2)
  ·intro a o g
   obtain⟨n1,g⟩:=YR g;obtain⟨n2,g⟩:=YR g;exact Z _ _ (ZX (s3 _ _ (ZX g n1)) n2)
  ·exact Z _ _ (ZX h3 y.ap.symm)
 have wk:∀(G:Hp) (k':List (List Zl×V)),Ze (wo G b.dk) (Za G b.dk (.dT k')):=fun G k' a o e=>by
  obtain⟨S,e⟩:=YR e;rw[Zf S];exact e
 refine⟨u,Z6 f z,T,c _ _ B,R,c2,fun j0 Y=>?_,fun Y=>?_⟩
 ·have I:Ze (wo i b.dl) (Za i b.dl (.dT (Vr u (Z6 f z)))):=fun a o e=>by
   obtain⟨S,e⟩:=YR e;rw[Zf S];exact e
  have n3:=I _ _ (ZX (c _ _ H) (Z3 (c _ _ H) (c _ _ B) (by intro z;cases z)));have M:=I _ _ (ZX (c _ _ E) y.ap);have U:=@Zm i b.dl (.dT (Vr u (Z6 f z)));generalize Za i b.dl (.dT (Vr u (Z6 f z)))=x at I n3 M U ⊢;refine⟨_,R,n,_,Q,_,_,R,n3,h.YP,h.QT,O.fk,b.dk,R,.inr ⟨v,.inl M⟩,_,R,_,R,by show 2<=sizeLine;lia,fun X g4=>?_⟩;have q:=Zy g4 (.tup [.int f,.str z]);refine⟨v,Z6 f z,X,q _ _ M,R,Zm,fun v2 C=>?_,fun C=>?_⟩
  ·exact go x _ (B4 _ _) (fun j=>Kq _ _ _) I U _ _ (B4 _ _) (fun j=>Kq _ _ _) (fun a o e=>wk _ _ _ _ (ZX (q _ _ (YR e).2) (YR e).1)) Zm
  ·exact go x _ (B4 _ _) (fun j=>Kq _ _ _) I U _ v (Sg _) (L5 C) (fun a o e=>q _ _ (YR e).2) (q _ _ M)
 ·refine⟨_,R,n,_,Q,_,_,R,c _ _ H,h.YP,h.QT,O.fk,b.dk,R,.inr ⟨v,.inl (c _ _ E)⟩,_,R,_,R,by show 2<=sizeLine;lia,fun X g4=>?_⟩
  have q:=Zy g4 (.tup [.int f,.str z]);refine⟨v,Z6 f z,X,q _ _ (c _ _ E),R,Zm,fun v2 C=>?_,fun C=>?_⟩
  ·exact go i u (Sg _) (L5 Y) B6 (c _ _ B) _ _ (B4 _ _) (fun j=>Kq _ _ _) (fun a o e=>wk _ _ _ _ (ZX (q _ _ (YR e).2) (YR e).1)) Zm
  ·exact go i u (Sg _) (L5 Y) B6 (c _ _ B) _ v (Sg _) (L5 C) (fun a o e=>q _ _ (YR e).2) (q _ _ (c _ _ E))
theorem Zj9{c:OE}(h:∀z∈c,0<=z):c.map V.int=Yb (c.map Int.toNat):=by
 unfold Yb;rw[Od];exact List.map_congr_left fun z e=>by
  show V.int z=V.int ((z.toNat:Nat):Int);rw[show((z.toNat:Nat):Int)=z by have:=h z e;lia]
theorem ZbM{zs:OE}{a b:Nat}{hi:Nat}(ha:a<=hi)(j:b<=hi)(i:zs.Pairwise (· < ·))(mem:∀z,z∈zs↔z∈[(a:Int),(b:Int)])(q:zs.length<=2):∃g:List Nat,zs.map V.int=Yb g/\MU g 0 hi:=by
 have f:∀z∈zs,0<=z/\z<=(hi:Int):=fun z c=>by
  have h:=(mem z).mp c;simp only[SE,List.not_mem_nil,or_false]at h;lia
 refine⟨zs.map Int.toNat,Zj9 fun z c=>(f z c).1,?_,?_,?_,fun x n=>?_⟩
 ·rw[Sv]
  exact List.length_pos_iff.mpr fun e=>by have:=(mem (a:Nat)).mpr SC;rw[e]at this;cases this
 ·rw[Sv];lia
 ·rw[List.pairwise_map]
  exact i.imp_of_mem fun ha j u=>by have:=(f _ ha).1;lia
 ·obtain⟨z,c,rfl⟩:=SI.mp n
  have:=f z c;exact⟨Sk _,by lia⟩
inductive Zka(n:Nat)(vs:List V)(H:Hp)(Q:VK)(_e3:XK):Prop|mk (d deep:Nat) (_:vs=[.int d,.int deep]) (_:d<2147483647) (_:deep<n) (_:n<=3) (_:∀(r:RT) (v:V) (H':Hp),Ze H H'->r.good->r.weight+1<=2 ^ (deep+1)->r.depth<=deep+1->(∀tp,H tp≠none->YQ tp H' v r)->Q v H')
theorem Zkb(x:Zs K mg t):∀n:Nat,Zq P w K mg base Zt (n+1) t.qV t.qW ["_law_number","_law_deep"] (Zka n):=by
 intro n
 induction n with
 |zero =>
  refine x.UQ.F.ok C0 (fun vs H c0 b0 h=>?_) (fun d0 A outer s H vs c0 b0 Z h=>?_)
  ·obtain⟨d,deep,rfl,_⟩:=h
   rfl
  ·obtain⟨d,deep,rfl,_,M,_⟩:=h
   lia
 |succ n ih =>
 refine x.UQ.F.ok C0 (by lia) fun d0 A outer s H vs c0 b0 Z h=>?_;obtain⟨d,deep,rfl,hd,i0,h3,q⟩:=h;refine⟨_,(Zi (ZR 2 C0.nd (Zd YJ (pv 0) Zb)) (Ww (ZR 3 C0.nd (KB (Z5 F1 (pv 1) Zb) (Zd Z0 (pv 0) Zb) (Zu Yq (Z2 (Yr Zb Zb Zb)) (Zd Z0 (pv 0) Zb)))) (Zi (ZJ (Z5 YE (pv 3) Zb) (Zh (Zx (Yj (Zj ZA)))) ZK) (Zi (ZJ (Z5 YE (pv 3) Zb) (Zh (Zx (Yj (Zr ZA (Zd Z0 (pv 2) Zb))))) ZK) (Zi (ZJ (Z5 YE (pv 3) Zb) (Zi (ZR 4 C0.nd (ZV (wG R) x.Zap uS (Zj (YF (wF R) R x.Zao uR (Zj (Z2 (Zr (Zd Z0 (pv 2) Zb) (Zd Z0 (Zd YJ (pv 2) Zb) Zb)))))))) (Zh (Zx (Yj (Yr ZA (Zd Ya Zb (Zd Z0 (Zd YJ (pv 2) Zb) Zb)) (pv 4)))))) ZK) (Zi (ZR 5 C0.nd (Vn ih (Z.mono (by lia)) R x.UQ.m x.UQ.F.kp x.UQ.b .nil Zp (Zr (Zd Z0 (Zd Uk (pv 2) Zb) Zb) (Zd Wh (pv 1) Zb)))) (Zi (ZJ (Z5 YE (pv 3) Zb) (Zh (Zx (Yj (Wq ZA (Zd Z0 (pv 2) Zb) (Zd Ya (Zd Z0 (pv 2) Zb) (Zd Z0 (Zd YJ (pv 2) Zb) Zb)) (pv 5))))) ZK) (Zi (ZJ (Z5 YE (pv 3) Zb) (Zh (Zx (Yj (Yr ZA (ZV (wG R) x.Zap uS (Zj (YF (wF R) R x.Zao uR (Zj (Z2 (Zr (Zd Z0 (pv 2) Zb) (Zd Z0 (Zd YJ (pv 2) Zb) Zb))))))) (pv 5))))) ZK) (Zh (Zx (Yj (Yr (Zu Yq (Z2 (Zr ZA ZA)) (Zd Wh (pv 3) Zb)) (pv 5) (Vn ih (Z.mono (by lia)) R x.UQ.m x.UQ.F.kp x.UQ.b .nil Zp (Zr (Zd Z0 (Zd Uk (pv 2) Zb) Zb) (Zd Wh (pv 1) Zb))))))))))))))),?_⟩;sleep 2;refine⟨_,R,_,_,R,R,⟨by lia,by lia⟩,?_⟩;have e7:(d:Int)/7=((d/7:Nat):Int):=by lia
 refine⟨fun f0 H'=>∃f:Nat,Ze H H'/\f<7/\(deep=0->f=0\/f=1\/f=3)/\f0=[some (.int d),some (.int deep),some (.int ((d/7:Nat):Int)),some (.int (f:Nat)),none,none],?_,?_⟩
 ·rw[<-e7]
  sleep 1;refine⟨_,R,_,_,R,R,_,R,?_⟩;by_cases c:0<deep
  ·refine ZH (SO (by lia)) ⟨_,R,_,_,R,R,(by show(0:Int)<7;lia),d%7,Ze.refl H,by lia,by lia,?_⟩
   rw[show((d%7:Nat):Int)=(d:Int)%7 by lia];rfl
  ·refine Zn (by rw[SQ (by lia)];lia) ⟨by show 3<=sizeLine;lia,fun p g=>?_⟩
   refine⟨_,R,_,_,R,R,(by show(0:Int)<3;lia),?_⟩;obtain⟨v,ev,f,rfl,hw⟩:=A9 (p:=fun v=>∃f:Nat,v=V.int (f:Nat)/\(f=0\/f=1\/f=3)) (xs:=[.int 0,.int 1,.int 3]) (d:=(d:Int)%3) (fun v hv=>by
    simp only[SE,List.not_mem_nil,or_false]at hv;rcases hv with rfl|rfl|rfl
    ·exact⟨0,R,by lia⟩
    ·exact⟨1,R,by lia⟩
    ·exact⟨3,R,by lia⟩) (by lia) (by show(d:Int)%3<3;lia)
   exact⟨p,_,_,_,R,R,Zg.of Zm,ev,f,Zy g _,by lia,fun _=>hw,R⟩
 rintro σ H1 ⟨f,C,hw,M,rfl⟩;have hm:d/7<306783379:=by lia
 generalize d/7=m at hm;sleep 7;have S:∀r:RT,r.weight=1->r.weight+1<=2 ^ (deep+1):=fun r h=>by rw[h,Nat.pow_succ];have:=Nat.one_le_two_pow (n:=deep);lia
 refine⟨_,R,R,_,R,WM (fun _=>?_) (fun Q=>?_)⟩
 ·sleep 1;exact⟨by show 1<=sizeLine;lia,fun p g=>q .always _ _ (C.trans (Zy g _)) trivial (S _ R) (Om _ _) fun tp _=>.always Zm⟩
 sleep 1;refine⟨_,R,R,_,R,WM (fun _=>?_) (fun Y=>?_)⟩
 ·sleep 1;refine⟨_,R,_,_,R,R,(by show(0:Int)<128;lia),by show 2<=sizeLine;lia,fun p g=>?_⟩
  refine q (.week (m%128)) _ _ (C.trans (Zy g _)) (show m%128<=127 by lia) (S _ R) (Om _ _) fun tp _=>.week ?_;rw[Zm,show((m%128:Nat):Int)=(m:Int)%128 by lia]
 have e4:∀k:Nat,(m:Int)%((k:Nat):Int)=((m%k:Nat):Int):=fun k=>(SW m k).symm;have e5:∀j k:Nat,(m:Int)/((j:Nat):Int)%((k:Nat):Int)=((m/j%k:Nat):Int):=fun j k=>by rw[SW,SX]
 refine⟨_,R,R,_,R,WM (fun _=>?_) (fun n3=>?_)⟩
 ·sleep 2;refine⟨_,R,_,_,R,R,(by show(0:Int)<4;lia),_,R,_,_,R,R,⟨by lia,by lia⟩,_,_,R,R,(by show(0:Int)<4;lia),by show 2<=sizeLine;lia,fun p1 g1=>?_⟩
  have y:=Zy g1 (.lst [.int ((m:Int)%4),.int ((m:Int)/4%4)]);refine⟨p1,[(m:Int)%4,(m:Int)/4%4],R,Zg.of Zm,by show 2<=1000;lia,fun D g2=>?_⟩;have t2:=y.trans (Zy g2 (F9 P w D [(m:Int)%4,(m:Int)/4%4]));refine⟨D,_,R,Zm,by show 2<64;lia,fun I zs g3 T mem X=>?_⟩;have B:=Zy g3 (.lst (zs.map V.int));have U:=(C.trans t2).free g3;refine⟨_,R,_,_,R,R,⟨by lia,by lia⟩,_,_,R,R,(by show(0:Int)<25;lia),_,_,R,R,_,R,by show 3<=sizeLine;lia,fun p4 g4=>?_⟩;have i:=Zy g4 (.tup [.str (OK "each"),.int (4+(m:Int)/16%25),.ref I]);obtain⟨L,es,O⟩:=ZbM (a:=m%4) (b:=m/4%4) (hi:=3+m/16%25) (by lia) (by lia) T (fun z=>by rw[mem,<-e4 4,<-e5 4 4];exact Iff.rfl) X;refine q (.each (4+m/16%25) L) _ _ (((C.trans t2).trans B).trans i) ⟨by lia,by lia,by rw[show 4+m/16%25 - 1=3+m/16%25 by lia];exact O⟩ (S _ R) (Om _ _) fun tp u=>.each (l:=I) ?_ ?_ fun e=>u (e ▸ U)
  ·rw[Zm,show((4+m/16%25:Nat):Int)=4+(m:Int)/16%25 by lia]
  ·exact i _ _ (by rw[Zm,es])
 have d1:1<=deep:=by
  rcases Nat.eq_zero_or_pos deep with h|h
  ·have:=M h
   have Q:¬ (f:Int)=0:=fun e=>Q (by rw[WK];simpa using e);have Y:¬ (f:Int)=1:=fun e=>Y (by rw[WK];simpa using e);have n3:¬ (f:Int)=3:=fun e=>n3 (by rw[WK];simpa using e);lia
  ·exact h
 obtain⟨dp,rfl⟩:∃dp,deep=dp+1:=⟨deep - 1,by lia⟩;have er:∀c:Nat,(m:Int)*((c:Nat):Int)%2147483647=((m*c%2147483647:Nat):Int):=fun c=>by rw[SW,Int.natCast_mul];rfl
 have ea:∀c:Nat,[V.int ((m:Int)*((c:Nat):Int)%2147483647),V.int (((dp+1:Nat):Int) - 1)]=[.int ((m*c%2147483647:Nat):Int),.int (dp:Int)]:=fun c=>by rw[er c,show((dp+1:Nat):Int) - 1=(dp:Int) by lia]
 have lt:∀c:Nat,m*c%2147483647<2147483647:=fun c=>Oo _ (by lia);refine⟨_,R,_,_,R,R,.inr ⟨by lia,by lia⟩,_,_,R,R,(by show(0:Int)<2147483647;lia),_,R,_,_,R,R,m*48271%2147483647,dp,ea 48271,lt _,by lia,by lia,fun r v H2 s2 g2 w2 p2 T2=>?_⟩;have E:=C.trans s2;have J:∀tp,H tp≠none->YQ tp H2 v r:=fun tp h=>T2 tp fun e=>h (C.free e);have g0:2 ^ (dp+1+1)=2*2 ^ (dp+1):=by rw[Nat.pow_succ,Nat.mul_comm]
 refine⟨_,R,R,_,R,WM (fun _=>?_) (fun n2=>?_)⟩
 ·sleep 1;refine⟨_,R,_,_,R,R,(by show(0:Int)<20;lia),_,R,_,_,R,R,(by show(0:Int)<20;lia),_,R,_,_,R,R,⟨by lia,by lia⟩,_,_,R,R,(by show(0:Int)<30;lia),_,_,R,R,_,R,by show 4<=sizeLine;lia,fun p g=>?_⟩
  have B:=Zy g (.tup [.str (OK "span"),.int ((m:Int)%20),.int ((m:Int)%20+(m:Int)/20%30),v]);refine q (.span (m%20) (m%20+m/20%30) r) _ _ (E.trans B) ⟨by lia,by lia,g2⟩ (by show 1+r.weight+1<=_;lia) (by show 1+r.depth<=_;lia) fun tp u=>.span (v:=v) ?_ ((J tp u).same B);rw[Zm,show((m%20+m/20%30:Nat):Int)=(m:Int)%20+(m:Int)/20%30 by lia,show((m%20:Nat):Int)=(m:Int)%20 by lia]
 refine⟨_,R,R,_,R,WM (fun _=>?_) (fun n4=>?_)⟩
 ·sleep 1;refine⟨_,R,_,_,R,R,(by show(0:Int)<9;lia),_,R,_,_,R,R,⟨by lia,by lia⟩,_,_,R,R,(by show(0:Int)<9;lia),by show 2<=sizeLine;lia,fun p1 g1=>?_⟩
  have y:=Zy g1 (.lst [.int ((m:Int)%9),.int ((m:Int)/9%9)]);refine⟨p1,[(m:Int)%9,(m:Int)/9%9],R,Zg.of Zm,by show 2<=1000;lia,fun D g3=>?_⟩;have t2:=y.trans (Zy g3 (F9 P w D [(m:Int)%9,(m:Int)/9%9]));refine⟨D,_,R,Zm,by show 2<64;lia,fun I zs g4 T mem X=>?_⟩;have B:=Zy g4 (.lst (zs.map V.int));have U:=(E.trans t2).free g4;refine⟨_,R,by show 3<=sizeLine;lia,fun p4 g5=>?_⟩;have i:=Zy g5 (.tup [.str (OK "but"),.ref I,v]);obtain⟨L,es,O⟩:=ZbM (a:=m%9) (b:=m/9%9) (hi:=9999) (by lia) (by lia) T (fun z=>by rw[mem,<-e4 9,<-e5 9 9];exact Iff.rfl) X;refine q (.but L r) _ _ (((E.trans t2).trans B).trans i) ⟨O,g2⟩ (by show 1+r.weight+1<=_;lia) (by show 1+r.depth<=_;lia) fun tp u=>.but (l:=I) Zm ?_ (fun e=>u (e ▸ U)) ((J tp u).same ((t2.trans B).trans i));exact i _ _ (by rw[Zm,es])
 have e0:f=5\/f=6:=by
  have M:¬ (f:Int)=0:=fun e=>Q (by rw[WK];simpa using e);have h1:¬ (f:Int)=1:=fun e=>Y (by rw[WK];simpa using e);have h2:¬ (f:Int)=2:=fun e=>n2 (by rw[WK];simpa using e);have h3:¬ (f:Int)=3:=fun e=>n3 (by rw[WK];simpa using e);have h4:¬ (f:Int)=4:=fun e=>n4 (by rw[WK];simpa using e);lia
 refine⟨by show 2<=sizeLine;lia,fun p1 g1=>?_⟩;have y:=Zy g1 (.lst [.str (OK "either"),.str (OK "both")]);obtain⟨G,ek,hk⟩:∃G,YG [V.str (OK "either"),V.str (OK "both")] ((f:Int) - 5)=some G/\(G=.str (OK "either")\/G=.str (OK "both")):=by
  rcases e0 with rfl|rfl
  ·exact⟨_,R,.inl R⟩
  ·exact⟨_,R,.inr R⟩
 refine⟨_,R,_,_,R,R,p1,_,_,_,R,R,Zg.of Zm,ek,_,R,?_⟩;refine⟨_,R,_,_,R,R,.inr ⟨by lia,by lia⟩,_,_,R,R,(by show(0:Int)<2147483647;lia),_,R,_,_,R,R,m*16807%2147483647,dp,ea 16807,lt _,by lia,by lia,fun r3 v3 H3 s3 g3 w3 p3 T3=>?_⟩;refine⟨by show 3<=sizeLine;lia,fun p4 g4=>?_⟩;have i:=Zy g4 (.tup [G,v,v3]);have a0:∀tp,H tp≠none->YQ tp H3 v3 r3:=fun tp h=>T3 tp fun e=>h ((E.trans y).free e);have S4:=((E.trans y).trans s3).trans i;rcases hk with rfl|rfl
 ·exact q (.either r r3) _ _ S4 ⟨g2,g3⟩ (by show 1+(r.weight+r3.weight)+1<=_;lia) (by show 1+max r.depth r3.depth<=_;lia) fun tp u=>.either Zm ((J tp u).same ((y.trans s3).trans i)) ((a0 tp u).same i)
 ·exact q (.both r r3) _ _ S4 ⟨g2,g3⟩ (by show 1+(r.weight+r3.weight)+1<=_;lia) (by show 1+max r.depth r3.depth<=_;lia) fun tp u=>.both Zm ((J tp u).same ((y.trans s3).trans i)) ((a0 tp u).same i)
inductive Zkc(c:RC)(K:Ow)(n:Nat)(vs:List V)(H:Hp)(Q:VK)(_e3:XK):Prop|mk (tp:Addr) (v:V) (r:RT) (_:vs=[v]) (_:YQ tp H v r) (_:r.good) (_:r.weight<=15) (_:r.depth<=8) (_:r.depth<=n) (_:∀b H',Ze H H'->ZZ c K H' b r->Q (.ref b) H')
theorem Zkd(c:Zs K mg t):∀n:Nat,Zq P w K mg base Zt (n+42) t.qX t.qY ["_law_told"] (Zkc (rc t) K n):=by
 intro n
 induction n with
 |zero =>
  refine c.XN.F.ok vZ (fun vs H c0 b0 h=>?_) (fun d0 A outer s H vs c0 b0 i h=>?_)
  ·obtain⟨tp,v,r,rfl,_⟩:=h
   rfl
  ·obtain⟨tp,v,r,rfl,h,g,L,M,hd,_⟩:=h
   have:=r.depth_pos;lia
 |succ n G =>
 refine c.XN.F.ok vZ (by lia) fun d0 A outer s H vs c0 b0 i h=>?_;obtain⟨tp,v,r,rfl,h,g,L,M,hd,q⟩:=h;refine⟨_,(Zi (ZJ (Z5 YE (Zu ZP (pv 0) Zb) ZA) (Zh (Zx (xO c.ZaJ R c.TD))) ZK) (Zi (ZJ (Z5 YE (Zu ZP (pv 0) Zb) ZA) (Zh (Zx (Vo c.ZaK (ZiU c) (i.mono (by lia)) R c.ZaU c.RU.b .nil Zp (Zj (Zu ZP (pv 0) Zb))))) ZK) (Zi (ZJ (Z5 YE (Zu ZP (pv 0) Zb) ZA) (Zh (Zx (Vo c.ZaM (ZiV c) (i.mono (by lia)) R c.ZaW c.RZ.b .nil Zp (Zr (Zu ZP (pv 0) Zb) (YF U2 R c.Vj Vg (Zj (Zu ZP (pv 0) Zb))))))) ZK) (Zi (ZJ (Z5 YE (Zu ZP (pv 0) Zb) ZA) (Zh (Zx (Vo c.ZaL (ZiQ c) (i.mono (by lia)) R c.ZaV c.RX.b .nil Zp (Yr (Zu ZP (pv 0) Zb) (Zu ZP (pv 0) Zb) (Vn G (i.mono (by lia)) R c.XN.m c.XN.F.kp c.XN.b .nil Zp (Zj (Zu ZP (pv 0) Zb))))))) ZK) (Zi (ZJ (Z5 YE (Zu ZP (pv 0) Zb) ZA) (Zh (Zx (Vo c.ZaP (ZiR c) (i.mono (by lia)) R c.ZaZ c.R9.b .nil Zp (Zr (YF U2 R c.Vj Vg (Zj (Zu ZP (pv 0) Zb))) (Vn G (i.mono (by lia)) R c.XN.m c.XN.F.kp c.XN.b .nil Zp (Zj (Zu ZP (pv 0) Zb))))))) ZK) (Zi (ZJ (Z5 YE (Zu ZP (pv 0) Zb) ZA) (Zh (Zx (Vo c.ZaN (ZiS c) (i.mono (by lia)) R c.ZaX c.R4.b .nil Zp (Zr (Vn G (i.mono (by lia)) R c.XN.m c.XN.F.kp c.XN.b .nil Zp (Zj (Zu ZP (pv 0) Zb))) (Vn G (i.mono (by lia)) R c.XN.m c.XN.F.kp c.XN.b .nil Zp (Zj (Zu ZP (pv 0) Zb))))))) ZK) (Zh (Zx (Vo c.ZaO (ZiT c) (i.mono (by lia)) R c.ZaY c.R7.b .nil Zp (Zr (Vn G (i.mono (by lia)) R c.XN.m c.XN.F.kp c.XN.b .nil Zp (Zj (Zu ZP (pv 0) Zb))) (Vn G (i.mono (by lia)) R c.XN.m c.XN.F.kp c.XN.b .nil Zp (Zj (Zu ZP (pv 0) Zb))))))))))))),?_⟩;cases h with
 |always h =>
  refine⟨_,R,_,_,0,_,R,R,Zk.of h,R,R,_,R,ZH (by lia) ?_⟩;exact fun x I nx nd E=>q x _ (XU nx (XU nd (Ze.refl _) _) _) (.always Zm)
 |week h =>
  refine⟨_,R,_,_,0,_,R,R,Zk.of h,R,R,_,R,Zn (by lia) ?_⟩;refine⟨_,R,_,_,0,_,R,R,Zk.of h,R,R,_,R,ZH (by lia) ?_⟩;exact⟨_,R,_,_,1,_,R,R,Zk.of h,R,fun x I nx nd E=>⟨x,H,_,R,VQ nx nd,g,fun B j y=>⟨R,q x B j (y.same (V9 _ _))⟩⟩⟩
 |each h Y ne =>
  rename_i a l m ss;refine⟨_,R,_,_,0,_,R,R,Zk.of h,R,R,_,R,Zn (by lia) ?_⟩;refine⟨_,R,_,_,0,_,R,R,Zk.of h,R,R,_,R,Zn (by lia) ?_⟩;refine⟨_,R,_,_,0,_,R,R,Zk.of h,R,R,_,R,ZH (by lia) ?_⟩;refine⟨_,R,_,_,1,_,R,R,Zk.of h,R,_,R,_,_,2,_,R,R,Zk.of h,R,l,_,R,.inl (Zg.of Y),fun p hp x I nx nd E=>?_⟩;have e:=Zy hp (.lst (Yb ss));exact⟨x,p,_,_,_,R,VQ nx nd,Zm,g,fun B j y=>⟨R,q x B (e.trans j) (y.same (V9 _ _))⟩⟩
 |span h C =>
  rename_i a Q T v r;have X:(RT.span Q T r).depth=1+r.depth:=rfl;have U:(RT.span Q T r).weight=1+r.weight:=rfl;refine⟨_,R,_,_,0,_,R,R,Zk.of h,R,R,_,R,Zn (by lia) ?_⟩;refine⟨_,R,_,_,0,_,R,R,Zk.of h,R,R,_,R,Zn (by lia) ?_⟩;refine⟨_,R,_,_,0,_,R,R,Zk.of h,R,R,_,R,Zn (by lia) ?_⟩;refine⟨_,R,_,_,0,_,R,R,Zk.of h,R,R,_,R,ZH (by lia) ?_⟩;refine⟨_,R,_,_,1,_,R,R,Zk.of h,R,_,R,_,_,2,_,R,R,Zk.of h,R,_,R,_,_,3,_,R,R,Zk.of h,R,tp,v,r,R,C,g.2.2,by lia,by lia,by lia,fun b Z e D=>?_⟩;exact fun x I nx nd E=>⟨x,b,Z,Q,T,r,R,VQ nx nd,D,g,L,M,by lia,fun B j y=>⟨R,q x B (e.trans j) (y.same (V9 _ _))⟩⟩
 |but h Y ne C =>
  rename_i a l ds v r;have X:(RT.but ds r).depth=1+r.depth:=rfl;have U:(RT.but ds r).weight=1+r.weight:=rfl;refine⟨_,R,_,_,0,_,R,R,Zk.of h,R,R,_,R,Zn (by lia) ?_⟩;refine⟨_,R,_,_,0,_,R,R,Zk.of h,R,R,_,R,Zn (by lia) ?_⟩;refine⟨_,R,_,_,0,_,R,R,Zk.of h,R,R,_,R,Zn (by lia) ?_⟩;refine⟨_,R,_,_,0,_,R,R,Zk.of h,R,R,_,R,Zn (by lia) ?_⟩;refine⟨_,R,_,_,0,_,R,R,Zk.of h,R,R,_,R,ZH (by lia) ?_⟩;refine⟨_,R,_,_,1,_,R,R,Zk.of h,R,l,_,R,.inl (Zg.of Y),fun p hp=>?_⟩;have e:=Zy hp (.lst (Yb ds));have D:=e _ _ h;refine⟨_,R,_,_,2,_,R,R,Zk.of D,R,tp,v,r,R,C.same e,g.2,by lia,by lia,by lia,fun b J s2 O=>?_⟩;exact fun x I nx nd E=>⟨x,p,b,J,ds,r,R,VQ nx nd,s2 _ _ Zm,O,g,L,M,by lia,fun B j y=>⟨R,q x B ((e.trans s2).trans j) (y.same (V9 _ _))⟩⟩
 |either h C hu =>
  rename_i a v u r f;have X:(RT.either r f).depth=1+max r.depth f.depth:=rfl;have U:(RT.either r f).weight=1+(r.weight+f.weight):=rfl;refine⟨_,R,_,_,0,_,R,R,Zk.of h,R,R,_,R,Zn (by lia) ?_⟩;refine⟨_,R,_,_,0,_,R,R,Zk.of h,R,R,_,R,Zn (by lia) ?_⟩;refine⟨_,R,_,_,0,_,R,R,Zk.of h,R,R,_,R,Zn (by lia) ?_⟩;refine⟨_,R,_,_,0,_,R,R,Zk.of h,R,R,_,R,Zn (by lia) ?_⟩;refine⟨_,R,_,_,0,_,R,R,Zk.of h,R,R,_,R,Zn (by lia) ?_⟩;refine⟨_,R,_,_,0,_,R,R,Zk.of h,R,R,_,R,ZH (by lia) ?_⟩;refine⟨_,R,_,_,1,_,R,R,Zk.of h,R,tp,v,r,R,C,g.1,by lia,by lia,by lia,fun b Z e D=>?_⟩;have O:=e _ _ h;refine⟨_,R,_,_,2,_,R,R,Zk.of O,R,tp,u,f,R,hu.same e,g.2,by lia,by lia,by lia,fun a0 J s2 S=>?_⟩;exact fun x I nx nd E=>⟨x,b,a0,J,r,f,R,VQ nx nd,D.same s2,S,g,L,M,by lia,by lia,fun B j y=>⟨R,q x B ((e.trans s2).trans j) (y.same (V9 _ _))⟩⟩
 |both h C hu =>
  rename_i a v u r f;have X:(RT.both r f).depth=1+max r.depth f.depth:=rfl;have U:(RT.both r f).weight=1+(r.weight+f.weight):=rfl;refine⟨_,R,_,_,0,_,R,R,Zk.of h,R,R,_,R,Zn (by lia) ?_⟩;refine⟨_,R,_,_,0,_,R,R,Zk.of h,R,R,_,R,Zn (by lia) ?_⟩;refine⟨_,R,_,_,0,_,R,R,Zk.of h,R,R,_,R,Zn (by lia) ?_⟩;refine⟨_,R,_,_,0,_,R,R,Zk.of h,R,R,_,R,Zn (by lia) ?_⟩;refine⟨_,R,_,_,0,_,R,R,Zk.of h,R,R,_,R,Zn (by lia) ?_⟩;refine⟨_,R,_,_,0,_,R,R,Zk.of h,R,R,_,R,Zn (by lia) ?_⟩;refine⟨_,R,_,_,1,_,R,R,Zk.of h,R,tp,v,r,R,C,g.1,by lia,by lia,by lia,fun b Z e D=>?_⟩;have O:=e _ _ h;refine⟨_,R,_,_,2,_,R,R,Zk.of O,R,tp,u,f,R,hu.same e,g.2,by lia,by lia,by lia,fun a0 J s2 S=>?_⟩;exact fun x I nx nd E=>⟨x,b,a0,J,r,f,R,VQ nx nd,D.same s2,S,g,L,M,by lia,by lia,fun B j y=>⟨R,q x B ((e.trans s2).trans j) (y.same (V9 _ _))⟩⟩
inductive Zke(n:Nat)(vs:List V)(H:Hp)(Q:VK)(_e3:XK):Prop|mk (tp:Addr) (v:V) (r:RT) (d:Nat) (_:vs=[v,.int d]) (_:YQ tp H v r) (_:r.good) (_:r.depth<=n) (_:∀H',Ze H H'->Q (.bl (r.runs d)) H')
theorem ZbN(f:Zs K mg t):∀n:Nat,Zq P w K mg base Zt (n+1) t.qZ t.jA ["_law_told","_law_day"] (Zke n):=by
 intro n
 induction n with
 |zero =>
  refine f.WO.F.ok Nx (fun vs H Q a0 h=>?_) (fun b0 A outer s H vs Q a0 L h=>?_)
  ·obtain⟨tp,v,r,d,rfl,_⟩:=h
   rfl
  ·obtain⟨tp,v,r,d,rfl,h,g,hd,_⟩:=h
   have:=r.depth_pos;lia
 |succ n O =>
 refine f.WO.F.ok Nx (by lia) fun b0 A outer s H vs Q a0 L h=>?_;obtain⟨tp,v,r,d,rfl,h,g,hd,q⟩:=h;refine⟨_,(Zi (ZJ (Z5 YE (Zu ZP (pv 0) Zb) ZA) (Zh (Zx XD)) ZK) (Zi (ZJ (Z5 YE (Zu ZP (pv 0) Zb) ZA) (Zh (Zx (VG YE (Zd Z0 (Zd YJ (Zu ZP (pv 0) Zb) (Zd zN Zb (Zd Z0 (pv 1) Zb))) Zb) Zb (Uz _)))) ZK) (Zi (ZJ (Z5 YE (Zu ZP (pv 0) Zb) ZA) (Zh (Zx (VG KN (Zd Z0 (pv 1) (Zu ZP (pv 0) Zb)) (Zu ZP (pv 0) Zb) R))) ZK) (Zi (ZJ (Z5 YE (Zu ZP (pv 0) Zb) ZA) (Zh (Zx (VF (KL WS WS (Zu ZP (pv 0) Zb) (pv 1) (Zu ZP (pv 0) Zb)) (WR (Vn O (L.mono (by lia)) R f.WO.m f.WO.F.kp f.WO.b .nil Zp (Zr (Zu ZP (pv 0) Zb) (pv 1))))))) ZK) (Zi (ZJ (Z5 YE (Zu ZP (pv 0) Zb) ZA) (Zh (Zx (VG Qm (Vn O (L.mono (by lia)) R f.WO.m f.WO.F.kp f.WO.b .nil Zp (Zr (Zu ZP (pv 0) Zb) (pv 1))) (VG KN (pv 1) (Zu ZP (pv 0) Zb) R) (Uz _)))) ZK) (Zi (ZcB (i:=2) (j:=3) R Nx.nd R R (by lia) R R (Zr (Vn O (L.mono (by lia)) R f.WO.m f.WO.F.kp f.WO.b .nil Zp (Zr (Zu ZP (pv 0) Zb) (pv 1))) (Vn O (L.mono (by lia)) R f.WO.m f.WO.F.kp f.WO.b .nil Zp (Zr (Zu ZP (pv 0) Zb) (pv 1)))) R) (Zh (Zx (KB (Z5 YE (Zu ZP (pv 0) Zb) ZA) (zE (pv 2) (WR (pv 3))) (VF (pv 2) (WR (pv 3)))))))))))),?_⟩;cases h with
 |always h =>
  refine⟨_,R,_,_,0,_,R,R,Zk.of h,R,R,_,R,ZH (by lia) ?_⟩;exact q _ (Ze.refl _)
 |week h =>
  rename_i a b;refine⟨_,R,_,_,0,_,R,R,Zk.of h,R,R,_,R,Zn (by lia) ?_⟩;refine⟨_,R,_,_,0,_,R,R,Zk.of h,R,R,_,R,ZH (by lia) ?_⟩;have eN:((d:Int)%7).toNat=d%7:=by lia
  have pL:(1:Int)*2 ^ ((d:Int)%7).toNat=((2 ^ (d%7):Nat):Int):=by rw[eN,Int.one_mul,Int.natCast_pow];rfl
  have pP:0<2 ^ (d%7):=Nat.two_pow_pos _;have pU:2 ^ (d%7)<=2 ^ 6:=Nat.pow_le_pow_right (by lia) (by lia);refine⟨_,R,_,_,1,_,R,R,Zk.of h,R,_,R,_,_,R,R,(by show(0:Int)<7;lia),_,_,R,R,⟨by lia,by lia,by lia⟩,_,_,R,R,?_,_,_,R,R,(by show(0:Int)<2;lia),R,?_⟩
  ·rw[pL]
   exact⟨by lia,by lia⟩
  have c:=q H (Ze.refl _);have e:(RT.week b).runs d=decide (V.int ((b:Int)/((1:Int)*2 ^ ((d:Int)%7).toNat)%2)=V.int 1):=by
   rw[pL,WK,<-SX];show(b/2 ^ (d%7)%2 == 1)=_;rw[Bool.eq_iff_iff,beq_iff_eq,beq_iff_eq];lia
  rw[e]at c;exact c
 |each h X ne =>
  rename_i a l m M;obtain⟨g1,g2,g3⟩:=g;refine⟨_,R,_,_,0,_,R,R,Zk.of h,R,R,_,R,Zn (by lia) ?_⟩;refine⟨_,R,_,_,0,_,R,R,Zk.of h,R,R,_,R,Zn (by lia) ?_⟩;refine⟨_,R,_,_,0,_,R,R,Zk.of h,R,R,_,R,ZH (by lia) ?_⟩;have e1:(d:Int)%(m:Int)=((d%m:Nat):Int):=(SW d m).symm;refine⟨_,R,_,R,_,_,1,_,R,R,Zk.of h,R,_,_,R,R,(by show(0:Int)<(m:Int);lia),_,R,_,_,2,_,R,R,Zk.of h,R,l,_,R,.inl (Zg.of X),R,K2 M,?_⟩;have c:=q H (Ze.refl _);have e2:U1 (.int ((d:Int)%(m:Int))) (Yb M)=(RT.each m M).runs d:=by
   rw[e1];exact F8 (d%m) M
  rw[<-e2]at c;exact c
 |span h E =>
  rename_i a x y v r;have U:(RT.span x y r).depth=1+r.depth:=rfl;have Y:∀b:Bool,b=(decide (x<=d) && decide (d<=y) && r.runs d)->∀G,Ze H G->Q (.bl b) G:=fun b e G T=>by rw[e];exact q G T
  refine⟨_,R,_,_,0,_,R,R,Zk.of h,R,R,_,R,Zn (by lia) ?_⟩;refine⟨_,R,_,_,0,_,R,R,Zk.of h,R,R,_,R,Zn (by lia) ?_⟩;refine⟨_,R,_,_,0,_,R,R,Zk.of h,R,R,_,R,Zn (by lia) ?_⟩;refine⟨_,R,_,_,0,_,R,R,Zk.of h,R,R,_,R,ZH (by lia) ?_⟩;refine⟨_,R,_,_,1,_,R,R,Zk.of h,R,_,R,_,_,R,R,_,R,?_⟩;by_cases D:x<=d
  ·rw[SV (SO (by lia))]
   refine⟨_,R,_,_,2,_,R,R,Zk.of h,R,_,_,R,R,_,R,?_⟩;by_cases h2:d<=y
   ·refine ZH (SO (by lia)) ?_
    exact⟨_,R,_,_,3,_,R,R,Zk.of h,R,_,R,tp,v,r,d,R,E,g.2.2,by lia,fun G T=>Y _ (by rw[SO D,SO h2];rfl) G T⟩
   ·refine Zn (by rw[SQ (by lia)];lia) ?_
    exact Y _ (by rw[SQ h2,Bool.and_false,Bool.false_and]) H (Ze.refl _)
  ·rw[SU (by rw[SQ (by lia)];lia)]
   exact⟨_,R,Zn (by lia) (Y _ (by rw[SQ D,Bool.false_and,Bool.false_and]) H (Ze.refl _))⟩
 |but h X ne E =>
  rename_i a l ds v r;have U:(RT.but ds r).depth=1+r.depth:=rfl;refine⟨_,R,_,_,0,_,R,R,Zk.of h,R,R,_,R,Zn (by lia) ?_⟩;refine⟨_,R,_,_,0,_,R,R,Zk.of h,R,R,_,R,Zn (by lia) ?_⟩;refine⟨_,R,_,_,0,_,R,R,Zk.of h,R,R,_,R,Zn (by lia) ?_⟩;refine⟨_,R,_,_,0,_,R,R,Zk.of h,R,R,_,R,Zn (by lia) ?_⟩;refine⟨_,R,_,_,0,_,R,R,Zk.of h,R,R,_,R,ZH (by lia) ?_⟩;refine⟨_,R,_,_,2,_,R,R,Zk.of h,R,_,R,tp,v,r,d,R,E,g.2,by lia,fun Z C=>?_⟩;have D:=C _ _ h;refine⟨_,R,_,R,_,_,1,_,R,R,Zk.of D,R,l,_,R,.inl (Zg.of (C _ _ X)),R,K2 ds,R,?_⟩;have c:=q Z C;have e:(RT.but ds r).runs d=(!decide (V.bl (r.runs d)=V.bl (U1 (.int (d:Int)) (Yb ds)))):=by
   rw[F8,KJ];rfl
  rw[e]at c;exact c
 |either h E hu =>
  rename_i a v u r B;have U:(RT.either r B).depth=1+max r.depth B.depth:=rfl;refine⟨_,R,_,_,0,_,R,R,Zk.of h,R,R,_,R,Zn (by lia) ?_⟩;refine⟨_,R,_,_,0,_,R,R,Zk.of h,R,R,_,R,Zn (by lia) ?_⟩;refine⟨_,R,_,_,0,_,R,R,Zk.of h,R,R,_,R,Zn (by lia) ?_⟩;refine⟨_,R,_,_,0,_,R,R,Zk.of h,R,R,_,R,Zn (by lia) ?_⟩;refine⟨_,R,_,_,0,_,R,R,Zk.of h,R,R,_,R,Zn (by lia) ?_⟩;refine⟨_,R,_,_,1,_,R,R,Zk.of h,R,_,R,tp,v,r,d,R,E,g.1,by lia,fun Z C=>?_⟩;have D:=C _ _ h;refine⟨_,R,_,_,2,_,R,R,Zk.of D,R,_,R,tp,u,B,d,R,hu.same C,g.2,by lia,fun H2 s2=>?_⟩;have I:=C.trans s2;have S:=I _ _ h;refine⟨_,_,R,?_⟩;refine⟨_,R,_,_,0,_,R,R,Zk.of S,R,R,_,R,ZH (by lia) ?_⟩;have c:=q _ I;refine⟨_,R,_,R,?_⟩;have e:(RT.either r B).runs d=(r.runs d || B.runs d):=rfl;rw[e]at c;cases J:r.runs d with
  |true=>rw[J]at c;exact ZH R c
  |false=>rw[J]at c;exact Zn (by lia) ⟨_,R,c⟩
 |both h E hu =>
  rename_i a v u r B;have U:(RT.both r B).depth=1+max r.depth B.depth:=rfl;refine⟨_,R,_,_,0,_,R,R,Zk.of h,R,R,_,R,Zn (by lia) ?_⟩;refine⟨_,R,_,_,0,_,R,R,Zk.of h,R,R,_,R,Zn (by lia) ?_⟩;refine⟨_,R,_,_,0,_,R,R,Zk.of h,R,R,_,R,Zn (by lia) ?_⟩;refine⟨_,R,_,_,0,_,R,R,Zk.of h,R,R,_,R,Zn (by lia) ?_⟩;refine⟨_,R,_,_,0,_,R,R,Zk.of h,R,R,_,R,Zn (by lia) ?_⟩;refine⟨_,R,_,_,1,_,R,R,Zk.of h,R,_,R,tp,v,r,d,R,E,g.1,by lia,fun Z C=>?_⟩;have D:=C _ _ h;refine⟨_,R,_,_,2,_,R,R,Zk.of D,R,_,R,tp,u,B,d,R,hu.same C,g.2,by lia,fun H2 s2=>?_⟩;have I:=C.trans s2;have S:=I _ _ h;refine⟨_,_,R,?_⟩;refine⟨_,R,_,_,0,_,R,R,Zk.of S,R,R,_,R,Zn (by lia) ?_⟩;have c:=q _ I;refine⟨_,R,_,R,?_⟩;have e:(RT.both r B).runs d=(r.runs d && B.runs d):=rfl;rw[e]at c;cases J:r.runs d with
  |true=>rw[J]at c;exact ZH R ⟨_,R,c⟩
  |false=>rw[J]at c;exact Zn (by lia) c
theorem ZM{H c:Hp}{p:Addr}{o:HO}(g:H p=none)(e:Za H p o=c):Ze H c:=e ▸ Zy g o
theorem ZN{H c:Hp}{p:Addr}{o:HO}(e:Za H p o=c):c p=some o:=e ▸ Zm
structure Zkf(kvs:List (Zl×V))(a:NA):Prop where
 s:Zz kvs (Sum.inr (OK "stops"))=some (.ref a.ds)
 w:Zz kvs (Sum.inr (OK "walks"))=some (.ref a.lw)
 r:Zz kvs (Sum.inr (OK "rules"))=some (.ref a.dr)
 t:Zz kvs (Sum.inr (OK "tickets"))=some (.ref a.dt)
 p:Zz kvs (Sum.inr (OK "trips"))=some (.ref a.dp)
def XQ(H:Hp)(c:Zl×V)(k:Yl):Prop:=c.1=Sum.inr k.nm/\∃tp,YQ tp H c.2 k.r
theorem XQ.same{H f:Hp}{c:Zl×V}{k:Yl}(s:Ze H f)(h:XQ H c k):XQ f c k:=let ⟨e,tp,h⟩:=h;⟨e,tp,h.same s⟩
def W0(H:Hp)(c:Zl×V)(k:Wd):Prop:=c.1=Sum.inr k.nm/\∃r z,c.2=.ref r/\H r=some (.tup [.int (k.pr:Nat),.int (k.la:Nat),.ref z])/\H z=some (.lst (Yb k.zs))
theorem W0.same{H f:Hp}{c:Zl×V}{k:Wd}(s:Ze H f)(h:W0 H c k):W0 f c k:=let ⟨e,r,z,e1,e2,e3⟩:=h;⟨e,r,z,e1,s _ _ e2,s _ _ e3⟩
def Xl(H:Hp)(c:Zl×V)(k:Tp):Prop:=c.1=Sum.inr k.nm/\∃r l e,c.2=.ref r/\H r=some (.tup [.str k.ru,.ref l])/\H l=some (.lst e)/\Al (Yw H) e k.cs
theorem Xl.same{H f:Hp}{c:Zl×V}{k:Tp}(s:Ze H f)(h:Xl H c k):Xl f c k:=let ⟨e,r,l,vs,e1,e2,e3,e4⟩:=h;⟨e,r,l,vs,e1,s _ _ e2,s _ _ e3,e4.imp fun _ _=>Yw.same s⟩
structure Xh(H:Hp)(wd:Addr)(a:NA)(W:Z7):Prop where
 ob:∃kvs,H wd=some (.dK kvs)/\Zkf kvs a
 ap:Zby a
 st:∃rows,H a.ds=some (.dK rows)/\Al (Y3 H) rows W.st
 wk:∃vs,H a.lw=some (.lst vs)/\Al (Xf H) vs W.wk
 ru:∃rows,H a.dr=some (.dK rows)/\Al (XQ H) rows W.ru
 tk:∃rows,H a.dt=some (.dK rows)/\Al (W0 H) rows W.tk
 tp:∃rows,H a.dp=some (.dK rows)/\Al (Xl H) rows W.tp
theorem Xh.same{H c:Hp}{n:Addr}{a:NA}{W:Z7}(s:Ze H c)(h:Xh H n a W):Xh c n a W:=by
 obtain⟨⟨i,C,q⟩,ap,⟨r1,f,u⟩,⟨e,j,I⟩,⟨B,g,E⟩,⟨r3,x,v⟩,⟨y,D,G⟩⟩:=h;exact⟨⟨i,s _ _ C,q⟩,ap,⟨r1,s _ _ f,u.imp fun _ _=>Y3.same s⟩,⟨e,s _ _ j,I.imp fun _ _=>Xf.same s⟩,⟨B,s _ _ g,E.imp fun _ _=>XQ.same s⟩,⟨r3,s _ _ x,v.imp fun _ _=>W0.same s⟩,⟨y,s _ _ D,G.imp fun _ _=>Xl.same s⟩⟩
def Zkg:Sp:=fun f H Q _=>f=[]/\∀c a e,Ze H e->H c=none->VR H a->(c≠a.ds/\c≠a.dr/\c≠a.dt/\c≠a.dp)->Xh e c a ⟨[],[],[],[],[]⟩->Q (.ref c) e
theorem Zkh(X:Zs K mg t):Zq P w K mg base Zt 1 t.jD t.jE [] Zkg:=by
 refine X.Lu.F.ok Zgg (by lia) fun e0 A outer s H vs g0 f0 hr h=>?_;obtain⟨rfl,q⟩:=h;refine⟨_,(Zh (Zx (Zfo (G5 ZA V5 (G5 ZA (Z2 XE) (G5 ZA V5 (G5 ZA V5 (G5 ZA V5 Zfm))))) R R (fun h=>nomatch h) (by lia)))),?_⟩;sleep 1;intro p y;generalize c:Za H p _=O;have u:=ZM y c;have n:=ZN c;clear c;refine fun p1 g1=>?_;generalize c:Za O p1 _=H1;have e:=ZM g1 c;have v:=ZN c;clear c;refine⟨by show 0<=sizeLine;lia,fun x g2=>?_⟩;generalize c:Za H1 x _=J;have s2:=ZM g2 c;have S:=ZN c;clear c;refine fun p3 g3=>?_;generalize c:Za J p3 _=L;have f:=ZM g3 c;have B:=ZN c;clear c;refine fun i g4=>?_;generalize c:Za L i _=H4;have g:=ZM g4 c;have D:=ZN c;clear c;refine fun j g5=>?_;generalize c:Za H4 j _=H5;have s5:=ZM g5 c;have c5:=ZN c;clear c;have k0:=s5 _ _ (g _ _ (f _ _ (s2 _ _ (e _ _ n))));have k1:=s5 _ _ (g _ _ (f _ _ (s2 _ _ v)));have k2:=s5 _ _ (g _ _ (f _ _ S));have k3:=s5 _ _ (g _ _ B);have k4:=s5 _ _ D;have n1:=u.free g1;have n2:=(u.trans e).free g2;have n3:=((u.trans e).trans s2).free g3;have n4:=(((u.trans e).trans s2).trans f).free g4;have Q:=((((u.trans e).trans s2).trans f).trans g).free g5;have G:p≠p1:=ZT n g1;have b0:p≠x:=ZT (e _ _ n) g2;have E:p≠p3:=ZT (s2 _ _ (e _ _ n)) g3;have I:p≠i:=ZT (f _ _ (s2 _ _ (e _ _ n))) g4;have C:p≠j:=ZT (g _ _ (f _ _ (s2 _ _ (e _ _ n)))) g5;have U:p1≠p3:=ZT (s2 _ _ v) g3;have Z:p1≠i:=ZT (f _ _ (s2 _ _ v)) g4;have d0:p1≠j:=ZT (g _ _ (f _ _ (s2 _ _ v))) g5;have Y:p3≠i:=ZT B g4;have M:p3≠j:=ZT (g _ _ B) g5;have T:i≠j:=ZT D g5;refine⟨k0,[(Sum.inr (OK "stops"),.ref p1),(Sum.inr (OK "walks"),.ref x),(Sum.inr (OK "rules"),.ref p3),(Sum.inr (OK "tickets"),.ref i),(Sum.inr (OK "trips"),.ref j)],R,by show 5<=15;lia,?_⟩;have a0:=((((u.trans e).trans s2).trans f).trans g).trans s5;refine q p ⟨p1,x,p3,i,j⟩ _ (Y7 a0 y _) y ⟨n1,n2,n3,n4,Q⟩ ⟨G,E,I,C⟩ ⟨⟨_,Zm,⟨R,R,R,R,R⟩⟩,⟨U,Z,d0,Y,M,T⟩,⟨[],by rw[Zf G.symm];exact k1,.nil⟩,⟨[],by rw[Zf b0.symm];exact k2,.nil⟩,⟨[],by rw[Zf E.symm];exact k3,.nil⟩,⟨[],by rw[Zf I.symm];exact k4,.nil⟩,⟨[],by rw[Zf C.symm];exact c5,.nil⟩⟩
structure L6(H:Hp)(wd:Addr)(a:NA):Prop extends VR H a where
 d:H wd=none
 ns:wd≠a.ds
 nr:wd≠a.dr
 nt:wd≠a.dt
 np:wd≠a.dp
section Wp
variable{H:Hp}{d:Addr}{kvs:List (Zl×V)}{o:HO}(hd:H d=some (.dK kvs))
include hd
theorem XB{p:Addr}{xs:List V}(h:H p=some (.lst xs)):Za H d o p=some (.lst xs):=by rw[Zf (Z3 h hd (by intro z;cases z))];exact h
theorem YQ.put{tp:Addr}{v:V}{r:RT}(h:YQ tp H v r):YQ tp (Za H d o) v r:=by
 induction h with
 |always h=>exact .always (XO hd ZI.k h)
 |week h=>exact .week (XO hd ZI.k h)
 |span h _ g=>exact .span (XO hd ZI.k h) g
 |each h f ne=>exact .each (XO hd ZI.k h) (XB hd f) ne
 |either h _ _ e c=>exact .either (XO hd ZI.k h) e c
 |both h _ _ e c=>exact .both (XO hd ZI.k h) e c
 |but h f ne _ g=>exact .but (XO hd ZI.k h) (XB hd f) ne g
theorem XQ.put{c:Zl×V}{k:Yl}(h:XQ H c k):XQ (Za H d o) c k:=let ⟨e,tp,h⟩:=h;⟨e,tp,YQ.put hd h⟩
theorem W0.put{c:Zl×V}{k:Wd}(h:W0 H c k):W0 (Za H d o) c k:=let ⟨e,r,z,e1,e2,e3⟩:=h;⟨e,r,z,e1,XO hd ZI.k e2,XB hd e3⟩
theorem Xl.put{c:Zl×V}{k:Tp}(h:Xl H c k):Xl (Za H d o) c k:=let ⟨e,r,l,vs,e1,e2,e3,e4⟩:=h;⟨e,r,l,vs,e1,XO hd ZI.k e2,XB hd e3,e4.imp fun _ _=>Yw.put hd ZI.k⟩
end Wp
section Wa
variable{H H0:Hp}{wd:Addr}{a:NA}{W:Z7}{rows:List (Zl×V)}{v:V}(h:Xh H wd a W)(n:L6 H0 wd a)
include h n
theorem Xh.addSt{x:Yk}(c:H a.ds=some (.dK rows))(I:Al (Y3 H) rows W.st)(g:Zz rows (Sum.inr x.nm)=none)(G:Y3 H (Sum.inr x.nm,v) x):Xh (Za H a.ds (.dK (YO rows (Sum.inr x.nm) v))) wd a { W with st:=W.st++[x] }:=by
 obtain⟨⟨i,C,q⟩,ap,_,⟨e,j,M⟩,⟨D,f,J⟩,⟨r3,y,u⟩,⟨B,E,L⟩⟩:=h;refine⟨⟨i,by rw[Zf n.ns];exact C,q⟩,ap,⟨_,Zm,?_⟩,⟨e,XB c j,M.imp fun _ _=>Xf.put c ZI.k⟩,⟨D,by rw[Zf (ap.sr.symm)];exact f,J.imp fun _ _=>XQ.put c⟩,⟨r3,by rw[Zf (ap.st.symm)];exact y,u.imp fun _ _=>W0.put c⟩,⟨B,by rw[Zf (ap.sp.symm)];exact E,L.imp fun _ _=>Xl.put c⟩⟩;rw[UI v g];exact(I.imp fun _ _=>Y3.put c ZI.k).snoc (G.put c ZI.k)
theorem Xh.addWk{x:Wl}{vs:List V}(c:H a.lw=some (.lst vs))(L:Al (Xf H) vs W.wk)(I:Xf H v x)(nr:W.ru=[])(nt:W.tk=[])(np:W.tp=[]):Xh (Za H a.lw (.lst (vs++[v]))) wd a { W with wk:=W.wk++[x] }:=by
 obtain⟨⟨q,D,y⟩,ap,⟨r1,j,J⟩,_,⟨E,u,f⟩,⟨r3,B,g⟩,⟨C,G,i⟩⟩:=h;have kp:∀{p:Addr} {k:List (Zl×V)},H p=some (.dK k)->Za H a.lw (.lst (vs++[v])) p=some (.dK k):=fun e=>by rw[Zf (Z3 e c (by intro z;cases z))];exact e
 refine⟨⟨q,kp D,y⟩,ap,⟨r1,kp j,J.imp fun _ _=>Y3.put c ZI.l⟩,⟨_,Zm,?_⟩,⟨E,kp u,?_⟩,⟨r3,kp B,?_⟩,⟨C,kp G,?_⟩⟩
 ·exact(L.imp fun _ _=>Xf.put c ZI.l).snoc (I.put c ZI.l)
 ·rw[nr]at f ⊢;cases f;exact .nil
 ·rw[nt]at g ⊢;cases g;exact .nil
 ·rw[np]at i ⊢;cases i;exact .nil
theorem Xh.addRu{x:Yl}(c:H a.dr=some (.dK rows))(G:Al (XQ H) rows W.ru)(g:Zz rows (Sum.inr x.nm)=none)(I:XQ H (Sum.inr x.nm,v) x):Xh (Za H a.dr (.dK (YO rows (Sum.inr x.nm) v))) wd a { W with ru:=W.ru++[x] }:=by
 obtain⟨⟨i,D,q⟩,ap,⟨r1,f,u⟩,⟨e,j,L⟩,_,⟨r3,B,y⟩,⟨C,E,J⟩⟩:=h;refine⟨⟨i,by rw[Zf n.nr];exact D,q⟩,ap,⟨r1,by rw[Zf (ap.sr)];exact f,u.imp fun _ _=>Y3.put c ZI.k⟩,⟨e,XB c j,L.imp fun _ _=>Xf.put c ZI.k⟩,⟨_,Zm,?_⟩,⟨r3,by rw[Zf (ap.rt.symm)];exact B,y.imp fun _ _=>W0.put c⟩,⟨C,by rw[Zf (ap.rp.symm)];exact E,J.imp fun _ _=>Xl.put c⟩⟩;rw[UI v g];exact(G.imp fun _ _=>XQ.put c).snoc (I.put c)
theorem Xh.addTk{x:Wd}(c:H a.dt=some (.dK rows))(I:Al (W0 H) rows W.tk)(j:Zz rows (Sum.inr x.nm)=none)(G:W0 H (Sum.inr x.nm,v) x):Xh (Za H a.dt (.dK (YO rows (Sum.inr x.nm) v))) wd a { W with tk:=W.tk++[x] }:=by
 obtain⟨⟨q,C,y⟩,ap,⟨r1,f,J⟩,⟨e,u,M⟩,⟨D,i,g⟩,_,⟨B,E,L⟩⟩:=h;refine⟨⟨q,by rw[Zf n.nt];exact C,y⟩,ap,⟨r1,by rw[Zf (ap.st)];exact f,J.imp fun _ _=>Y3.put c ZI.k⟩,⟨e,XB c u,M.imp fun _ _=>Xf.put c ZI.k⟩,⟨D,by rw[Zf (ap.rt)];exact i,g.imp fun _ _=>XQ.put c⟩,⟨_,Zm,?_⟩,⟨B,by rw[Zf (ap.tp.symm)];exact E,L.imp fun _ _=>Xl.put c⟩⟩;rw[UI v j];exact(I.imp fun _ _=>W0.put c).snoc (G.put c)
theorem Xh.addTp{x:Tp}(c:H a.dp=some (.dK rows))(I:Al (Xl H) rows W.tp)(j:Zz rows (Sum.inr x.nm)=none)(G:Xl H (Sum.inr x.nm,v) x):Xh (Za H a.dp (.dK (YO rows (Sum.inr x.nm) v))) wd a { W with tp:=W.tp++[x] }:=by
 obtain⟨⟨q,D,y⟩,ap,⟨r1,f,J⟩,⟨e,u,L⟩,⟨E,i,g⟩,⟨r3,C,B⟩,_⟩:=h;refine⟨⟨q,by rw[Zf n.np];exact D,y⟩,ap,⟨r1,by rw[Zf (ap.sp)];exact f,J.imp fun _ _=>Y3.put c ZI.k⟩,⟨e,XB c u,L.imp fun _ _=>Xf.put c ZI.k⟩,⟨E,by rw[Zf (ap.rp)];exact i,g.imp fun _ _=>XQ.put c⟩,⟨r3,by rw[Zf (ap.tp)];exact C,B.imp fun _ _=>W0.put c⟩,⟨_,Zm,?_⟩⟩;rw[UI v j];exact(I.imp fun _ _=>Xl.put c).snoc (G.put c)
end Wa
structure US(W:Z7):Prop where
 s2:2<=W.st.length
 s5:W.st.length<=5
 sn:(W.st.map Yk.nm).Nodup
 so:∀x∈W.st,YU x.nm/\1<=x.z/\x.z<=6/\x.ch<=30
 w4:W.wk.length<=4
 wo:∀x∈W.wk,x.o∈W.st.map Yk.nm/\x.t∈W.st.map Yk.nm/\x.o≠x.t/\1<=x.m/\x.m<=60
 wn:∀i x,W.wk[i]? = some x->Km (W.wk.take i) x.o x.t=false
 r1:1<=W.ru.length
 r3:W.ru.length<=3
 rn:(W.ru.map Yl.nm).Nodup
 ro:∀x∈W.ru,YU x.nm/\x.r.Ok
 t2:W.tk.length<=2
 tn:(W.tk.map Wd.nm).Nodup
 to:∀x∈W.tk,x.Ok
 p1:1<=W.tp.length
 p3:W.tp.length<=3
 pn:(W.tp.map Tp.nm).Nodup
 po:∀x∈W.tp,YU x.nm/\x.ru∈W.ru.map Yl.nm/\WG (W.st.map Yk.nm) x.cs/\2<=x.cs.length/\x.cs.length<=6
inductive Zki(vs:List V)(H:Hp)(Q:VK)(_e3:XK):Prop|mk (d:Nat) (_:vs=[.int d]) (_:d<998244353) (_:∀wd a W H',Ze H H'->L6 H wd a->Xh H' wd a W->US W->Q (.ref wd) H')
def Vl(d:Nat):List Str:=(List.range 8).map (ZW d)
theorem Zkj{d i:Nat}(h:i<8):(Vl d)[i]? = some (ZW d i):=by
 unfold Vl;rw[S0,List.getElem?_range h];rfl
theorem L7{d i:Nat}(h:i<8):YG ((Vl d).map V.str) (i:Int)=some (.str (ZW d i)):=XF (by rw[S0,Zkj h];rfl)
theorem Ma{d i j:Nat}(hi:i<8)(c:j<8)(e:ZW d i=ZW d j):i=j:=by
 rcases Nat.lt_trichotomy i j with h|h|h
 ·exact Oq e (TQ h c)
 ·exact h
 ·exact Oq e.symm (TQ h hi)
theorem TW{c:Type}{nm:c->Str}{xs:List c}{d k i:Nat}(e:xs.map nm=(List.range i).map fun j=>ZW d (j+k))(h:i+k<8):ZO nm xs (ZW d (i+k))=none:=by
 unfold ZO;rw[List.find?_eq_none];intro y g n;have hm:nm y∈xs.map nm:=SI.mpr ⟨y,g,R⟩;rw[e,SR n]at hm;obtain⟨j,f,q⟩:=SI.mp hm;have f:=List.mem_range.mp f;have:=Ma (by lia) h q;lia
theorem Kt{d k i:Nat}(h:i+k<=8):((List.range i).map fun j=>ZW d (j+k)).Nodup:=by
 refine List.pairwise_map.mpr (List.nodup_range.imp_of_mem fun{a b} ha c f e=>f ?_);have:=Ma (by have:=List.mem_range.mp ha;lia) (by have:=List.mem_range.mp c;lia) e;lia
theorem Q4{c:Type}{nm:c->Str}{xs:List c}{f:Nat->Str}{i:Nat}(e:xs.map nm=(List.range i).map f):xs.length=i:=by
 have:=congrArg List.length e
 rwa [Sv,Sv,List.length_range]at this
theorem TX{e:Type}{nm:e->Str}{R:Zl×V->e->Prop}(f:∀c x,R c x->c.1=Sum.inr (nm x)){rows:List (Zl×V)}{xs:List e}(h:Al R rows xs):(rows.map fun c=>kV c.1)=(xs.map nm).map V.str:=by
 induction h with
 |nil=>rfl
 |cons a _ g=>rw[SL,SL,SL,g,f _ _ a];rfl
def Q5(d:Nat)(c:List Wl):Prop:=∀j x,c[j]? = some x->(x.o=ZW d j/\x.t=ZW d (j+1)\/x.o=ZW d (j+1)/\x.t=ZW d j)/\1<=x.m/\x.m<=60
theorem Q5.snoc{d:Nat}{f:List Wl}{x:Wl}(h:Q5 d f)(g:(x.o=ZW d f.length/\x.t=ZW d (f.length+1)\/x.o=ZW d (f.length+1)/\x.t=ZW d f.length)/\1<=x.m/\x.m<=60):Q5 d (f++[x]):=fun j y e=>by
 by_cases c:j<f.length
 ·rw[List.getElem?_append_left c]at e;exact h j y e
 ·have i:=(Sr.mp e).1
  rw[Su,Sw]at i;obtain rfl:j=f.length:=by lia
  rw[Oa (Sg _),Nat.sub_self]at e;cases e;exact g
theorem Q5.new{d:Nat}{f:List Wl}(h:Q5 d f)(l:f.length<=6):∀i x,f[i]? = some x->Km (f.take i) x.o x.t=false:=fun i x e=>by
 unfold Km;rw[List.any_eq_false];intro y D c;obtain⟨j,E,v⟩:=List.mem_iff_getElem.mp D;rw[Sx]at E;rw[List.getElem_take]at v;have G:=h j y (by rw[<-v];exact Ss (by lia));have ex:=h i x e;have H:=(Sr.mp e).1;have inj:∀{a b},a<=7->b<=7->ZW d a=ZW d b->a=b:=fun ha J e=>Ma (by lia) (by lia) e;simp only[Bool.or_eq_true,Bool.and_eq_true,beq_iff_eq]at c;rcases ex.1 with⟨C,B⟩|⟨C,B⟩<;>rcases G.1 with⟨q,u⟩|⟨q,u⟩<;>rcases c with⟨g,n⟩|⟨g,n⟩<;>(simp only[C,B,q,u]at g n;have L:=inj (by lia) (by lia) g;have I:=inj (by lia) (by lia) n;lia)
theorem Zkk(C:Zs K mg t):Zq P w K mg base Zt 8 t.jF t.jG ["_law_seed"] Zki:=by
 refine C.Zay.F.ok Vf (by lia) fun z2 A outer s b0 vs w2 d3 M h=>?_;obtain⟨d,rfl,hd,w1⟩:=h;refine⟨_,(Zi (ZR 1 Vf.nd (Zdg (Zkh C) (M.mono (by lia)) R C.Lu.m C.Lu.F.kp C.Lu.b .nil Zp)) (Zi (wH (i0:=2) (cl:=[(OK "_law_seed",s.heap.objs.size+1)]) (N:=["_law_k","_law_seed"]) (fr:=[none,some 0]) Vf.nd R (Or.inl R) R (Uh R C.Vy (Zj Zb)) R (by lia) R (by lia) ⟨⟨R,Or.inl R,Or.inl R,_,R,R⟩,trivial⟩ ⟨R,trivial⟩ R (fun _ _ _ _ _=>(ZY 0 (show List.Nodup (["_law_k","_law_seed"]:OC) by lia))) (fun _ _ _ _ _=>U3) (fun _ _ _ _ _=>(ZC C.Zaw (Zi3 C) M Zp (Zr (pv 1) (pv 0))))) (Ww (XG (Uh R C.Vy (Zj (Zd Ya Zb (Zd Z0 (pv 0) Zb)))) (ZY 3 Vf.nd) (Zh (Vc (YZ M) (YB M (pv 1) ZA) (Zu Yq (pv 2) (pv 3)) (Yj (Zr (Zd Ya Zb (Zd Z0 (ZC C.Ud (Uu C) M Zp (Zr (pv 0) (Zd Ya Zb (pv 3)))) Zb)) (Zd Z0 (ZC C.Ud (Uu C) M Zp (Zr (pv 0) (Zd Ya Zb (pv 3)))) Zb))) R))) (Zi (ZR 4 Vf.nd (YF (Lc R) R C.Vj Vg (Zj (YB M (pv 1) ZA)))) (Ww (XG (Uh R C.Vy (Zj (Zd Z0 (Zd YJ (pv 0) Zb) (ZV Xm C.Y9 Y8 (Zj (pv 4)))))) (ZY 3 Vf.nd) (Zi (ZR 5 Vf.nd (KB (Z5 F0 (Zd Ya (pv 3) Zb) (ZV Xm C.Y9 Y8 (Zj (pv 4)))) (Zf1 (Z2 (Zr (Zu Yq (pv 4) (pv 3)) (Zu Yq (pv 4) (Zd Ya (pv 3) Zb)))) (VI (Zd Wh Zb (Zd Uk Zb (Zd Z0 (Zd YJ (pv 0) Zb) Zb))))) (Z2 XE))) (Zh (ZJ (Z5 (ZfC M.units0) (pv 5) (Z2 XE)) (Zh (Yh (F5 PySem.F.plainAttrs_list PySem.F.slot_list_append PySem.F.type_list_append KO (YB M (pv 1) ZA) (Zj (Yj (Yr (Zu Yq (pv 5) Zb) (Zu Yq (pv 5) Zb) (Zd Ya Zb (Zd Z0 (ZC C.Ud (Uu C) M Zp (Zr (pv 0) (Zd Ya Zb (pv 3)))) Zb)))))))) ZK)))) (Ww (XG (Uh R C.Vy (Zj (Zd Ya Zb (Zd Z0 (Zd YJ (pv 0) Zb) Zb)))) (ZY 3 Vf.nd) (Zh (Vc (YZ M) (YB M (pv 1) ZA) (Zu Yq (pv 2) (Zd Ya (pv 3) Zb)) (ZC C.UQ (Zkb C 3) M Zp (Zr (ZC C.Ud (Uu C) M Zp (Zr (pv 0) (Zd Ya Zb (pv 3)))) Zb)) R))) (Ww (XG (Uh R C.Vy (Zj (Zd Z0 (Zd YJ (pv 0) Zb) Zb))) (ZY 3 Vf.nd) (Zi (ZR 6 Vf.nd (ZC C.Ud (Uu C) M Zp (Zr (pv 0) (Zd Ya Zb (pv 3))))) (Ww (ZR 7 Vf.nd (vE (U4 (cl:=[(OK "_law_mixed_here",s.heap.objs.size+2)]) (N:=["_law_zone","_law_mixed_here"]) (fr:=[none,some 6]) R (Mm R C.Vy (Zr Zb Zb)) R (by lia) R (by lia) ⟨⟨R,Or.inl R,Or.inl R,_,R,R⟩,trivial⟩ ⟨R,trivial⟩ R (fun _ _ _ _ _=>(ZY 0 (show List.Nodup (["_law_zone","_law_mixed_here"]:OC) by lia))) (fun _ _ _ _ _=>(xG (Z5 YE (Zd Z0 (Zd YJ (pv 1) (Zd zN Zb (pv 0))) Zb) Zb))) (fun _ _ _ _ _=>(pv 0))) (WR (Z2 (Zj Zb))))) (Zh (Vc (YZ M) (YB M (pv 1) ZA) (Zu Yq (pv 2) (pv 3)) (Yj (Yr (Zd Z0 (Zd YJ (pv 6) Zb) Zb) (Zd Ya Zb (Zd Z0 (Zd YJ (pv 6) Zb) Zb)) (pv 7))) R))))) (Zi (ZR 8 Vf.nd (YF (Lc R) R C.Vj Vg (Zj (YB M (pv 1) ZA)))) (Ww (XG (Uh R C.Vy (Zj (Zd Ya Zb (Zd Z0 (Zd YJ (pv 0) Zb) Zb)))) (ZY 3 Vf.nd) (Zi (ZR 6 Vf.nd (ZC C.Ud (Uu C) M Zp (Zr (pv 0) (Zd Ya Zb (pv 3))))) (Zh (Vc (YZ M) (YB M (pv 1) ZA) (Zu Yq (pv 2) (Zd Ya (pv 3) Zb)) (Yj (Zr (Zu Yq (pv 8) (Zd Z0 (pv 6) (ZV Xm C.Y9 Y8 (Zj (pv 8))))) (ZC C.Zax (Zi6 C) M Zp (Yr (Zd YJ (pv 6) Zb) (pv 4) (Zd Ya Zb (Zd Z0 (Zd YJ (pv 6) Zb) Zb)))))) R)))) (Zh (Zx (pv 1)))))))))))),?_⟩;sleep 3;refine⟨R,fun D a H1 s1 o2 f2 dd W1=>?_⟩;have nW:L6 b0 D a:=⟨f2,o2,dd.1,dd.2.1,dd.2.2.1,dd.2.2.2⟩;refine⟨8,R,by lia,by lia,MJ (fun i g0 g c=>Ze H1 c/\g0=((List.range i).map (ZW d)).map V.str/\∃v,g=[v,some (.int d)]) ⟨Ze.refl _,R,_,R⟩ (by show 8<=sizeLine;lia) ?_ ?_⟩
 ·rintro i g0 g c hi ha ⟨s',h0,v,rfl⟩
  dsimp only[Wg,UF];rw[SV R];refine⟨_,R,_,R,d,i,by show[V.int d,V.int (0+(i:Int))]=_;rw[Int.zero_add],by lia,fun H2 s2=>⟨by rw[Su,Sw];lia,s'.trans s2,?_,_,R⟩⟩;rw[h0,Oj,SK,SK];rfl
 rintro g0 g H2 ha ⟨s2,h0,v,rfl⟩ G gn;subst h0;rw[show(List.range (Int.toNat 8)).map (ZW d)=Vl d from R];generalize u:Za H2 G _=H3;have s3:=ZM gn u;have hn:=ZN u;clear u;have x2:=(s1.trans s2).free gn;have nl:G≠a.lw:=by
  obtain⟨vs,h,_⟩:=(W1.same s2).wk;exact(ZT h gn).symm
 replace s3:Ze H1 H3:=s2.trans s3
 have S3:=s1.trans s3
 replace W1:=W1.same s3
 clear s2 s3 gn;refine⟨fun g c=>∃(e:List Yk) (y:Option V),Ze b0 c/\c G=some (.lst ((Vl d).map V.str))/\Xh c D a ⟨e,[],[],[],[]⟩/\e.map Yk.nm=(List.range (2+d%4)).map (ZW d)/\(∀x∈e,YU x.nm/\1<=x.z/\x.z<=6/\x.ch<=30)/\g=[some (.int d),some (.ref D),some (.ref G),y,none,none,none,none,none],?_,?_⟩
 ·sleep 1;have en:((2:Int)+(d:Int)%4).toNat=2+d%4:=by lia
  refine⟨_,R,_,_,R,R,(by show(0:Int)<4;lia),_,_,R,R,_,R,by lia,by lia,Uj (fun i g c=>∃(e:List Yk) (y:Option V),Ze b0 c/\c G=some (.lst ((Vl d).map V.str))/\Xh c D a ⟨e,[],[],[],[]⟩/\e.map Yk.nm=(List.range i).map (ZW d)/\(∀x∈e,YU x.nm/\1<=x.z/\x.z<=6/\x.ch<=30)/\g=[some (.int d),some (.ref D),some (.ref G),y,none,none,none,none,none])
   ⟨[],_,S3,hn,W1,R,fun _ h=>(nomatch h),R⟩ ?_ ?_⟩
  ·rintro i g H4 hi ⟨e,y,S4,j0,W4,X,oS,rfl⟩
   sleep 101;have c0:i<8:=by lia
   refine⟨_,R,_,R,_,_,R,R,_,_,R,by lia,by lia,_,_,R,R,(by show(0:Int)<6;lia),_,_,R,R,_,R,_,R,_,_,R,R,_,_,R,by lia,by lia,_,_,R,R,(by show(0:Int)<31;lia),by show 2<=sizeLine;lia,fun p k0=>?_⟩;generalize WE _ (1+(0+(i:Int)))=q at *;generalize WE _ (6+(0+(i:Int)))=m2 at *;generalize u:Za H4 p _=H5;have s5:=ZM k0 u;have c5:=ZN u;clear u;have W5:=W4.same s5;obtain⟨v0,e1,e2⟩:=W5.ob;obtain⟨rows,E,L⟩:=W5.st;have lS:e.length=i:=by have:=congrArg List.length X;rw[Sv,Sv,List.length_range]at this;exact this
   have hf:ZO Yk.nm e (ZW d i)=none:=by
    unfold ZO;rw[List.find?_eq_none];intro x0 hy ey;have hm:x0.nm∈e.map Yk.nm:=SI.mpr ⟨x0,hy,R⟩;rw[X,SR ey]at hm;obtain⟨j,hj,ej⟩:=SI.mp hm;have hj:=List.mem_range.mp hj;have:=Ma (by lia) c0 ej;lia
   have hv:=(XA (fun Z x (h:Y3 H5 Z x)=>h.1) L (ZW d i)).1 hf;refine⟨_,R,D,_,R,by rw[<-e2.s];exact Z9.k (k:=Sum.inr (OK "stops")) e1,_,R,_,R,G,_,_,_,R,R,Zg.of (s5 _ _ j0),by rw[Int.zero_add];exact L7 c0,a.ds,_,R,XM.k (k:=Sum.inr (ZW d i)) E (Sj (show rows.length<=8 by rw[L.length,lS];lia) (by lia)),?_⟩;refine⟨e++[⟨ZW d i,1+q%6,m2%31⟩],_,Y7 (S4.trans s5) nW.s _,XB E (s5 _ _ j0),W5.addSt (x:=⟨ZW d i,1+q%6,m2%31⟩) nW E L hv ⟨R,p,R,?_⟩,?_,fun x H=>?_,R⟩
   ·rw[c5,show((1+q%6:Nat):Int)=1+(q:Int)%6 by lia,show((m2%31:Nat):Int)=(m2:Int)%31 by lia]
   ·rw[SK,X,Oj,SK];rfl
   ·rcases SF.mp H with H|H
    ·exact oS x H
    ·rw[SD.mp H];exact⟨LY d i,by show 1<=1+q%6;lia,by show 1+q%6<=6;lia,by show m2%31<=30;lia⟩
  ·rintro g H4 ⟨e,y,S4,j0,W4,X,oS,rfl⟩
   exact⟨e,y,S4,j0,W4,by rw[X,en],oS,R⟩
 rintro g H4 ⟨e,y,S4,j0,W4,X,oS,rfl⟩;generalize hm:2+d%4=m at X;sleep 2;have lS:=Q4 X;obtain⟨c3,n1,q1⟩:=W4.ob;obtain⟨v2,t1,u1⟩:=W4.st;refine⟨_,R,D,_,R,by rw[<-q1.s];exact Z9.k (k:=Sum.inr (OK "stops")) n1,a.ds,_,R,t1,fun I gs=>?_⟩;rw[TX (fun Z x (h:Y3 H4 Z x)=>h.1) u1];generalize u:Za H4 I _=H5;have s5:=ZM gs u;have z0:=ZN u;clear u;have a2:I≠a.lw:=by
  obtain⟨vs,h,_⟩:=W4.wk;exact(ZT h gs).symm
 have f1:=s5 _ _ j0;have W5:=W4.same s5;have S5:=S4.trans s5;have lL:((e.map Yk.nm).map V.str).length=m:=by rw[Sv,Sv,lS]
 have atS:∀j:Nat,j<m->YG ((e.map Yk.nm).map V.str) ((j:Nat):Int)=some (.str (ZW d j)):=fun j hj=>XF (by rw[X,S0,S0,List.getElem?_range hj];rfl);clear W4 j0 S4 s5 t1 u1 n1 q1 gs;refine⟨fun g c=>∃(J:List Wl) (y T:Option V),Ze b0 c/\c G=some (.lst ((Vl d).map V.str))/\c I=some (.lst ((e.map Yk.nm).map V.str))/\Xh c D a ⟨e,J,[],[],[]⟩/\Q5 d J/\J.length+1<=m/\g=[some (.int d),some (.ref D),some (.ref G),y,some (.ref I),T,none,none,none],?_,?_⟩
 ·sleep 1;have em:(d:Int)/4%((((e.map Yk.nm).map V.str).length:Nat):Int)=((d/4%m:Nat):Int):=by rw[lL,SW,SX];rfl
  have e3:d/4%m<m:=Oo _ (by lia);have en:((d:Int)/4%((((e.map Yk.nm).map V.str).length:Nat):Int)).toNat=d/4%m:=by rw[em];lia
  refine⟨_,R,_,_,R,R,⟨by lia,by lia⟩,_,R,I,_,R,.inl (Zg.of z0),_,_,R,R,(by show(0:Int)<((((e.map Yk.nm).map V.str).length:Nat):Int);lia),_,R,by rw[em];lia,by rw[em];lia,?_⟩;refine Uj (fun i g c=>∃(J:List Wl) (y T:Option V),Ze b0 c/\c G=some (.lst ((Vl d).map V.str))/\c I=some (.lst ((e.map Yk.nm).map V.str))/\Xh c D a ⟨e,J,[],[],[]⟩/\Q5 d J/\J.length=i/\g=[some (.int d),some (.ref D),some (.ref G),y,some (.ref I),T,none,none,none])
   ⟨[],y,none,S5,f1,z0,W5,fun j x h0=>(nomatch h0),R,R⟩ ?_ ?_
  ·rintro i g H6 hi ⟨J,y,T,S6,o0,e0,W6,iW,lW,rfl⟩
   rw[en]at hi;sleep 102;have v1:i+1<m:=by lia
   have a0:YG ((e.map Yk.nm).map V.str) (0+(i:Int))=some (.str (ZW d i)):=by rw[Int.zero_add];exact atS i (by lia)
   have a1:YG ((e.map Yk.nm).map V.str) (0+(i:Int)+1)=some (.str (ZW d (i+1))):=by rw[Int.zero_add];exact atS (i+1) v1
   refine⟨_,R,_,_,R,R,_,R,I,_,R,.inl (Zg.of e0),_,_,R,R,_,R,ZH (SO (by lia)) ?_⟩;refine⟨_,R,_,R,I,_,_,_,R,R,Zg.of e0,a0,_,R,_,R,_,_,R,R,I,_,_,_,R,R,Zg.of e0,a1,by show 2<=sizeLine;lia,fun p1 g1=>?_⟩;generalize u:Za H6 p1 _=H7;have s7:=ZM g1 u;have c7:=ZN u;clear u;obtain⟨f0,v,i2,n2⟩:∃f0 v:Str,((f0=ZW d i/\v=ZW d (i+1))\/(f0=ZW d (i+1)/\v=ZW d i))/\((some ((1:Int) - 2*((d:Int)/16%2))=some 1/\[V.str f0,V.str v]=[V.str (ZW d i),V.str (ZW d (i+1))])\/(some ((1:Int) - 2*((d:Int)/16%2))=some (-1)/\[V.str f0,V.str v]=[V.str (ZW d i),V.str (ZW d (i+1))].reverse)):=by
    rcases(show(d:Int)/16%2=0\/(d:Int)/16%2=1 by lia)with h|h
    ·exact⟨_,_,.inl ⟨R,R⟩,.inl ⟨by rw[h];rfl,R⟩⟩
    ·exact⟨_,_,.inr ⟨R,R⟩,.inr ⟨by rw[h];rfl,R⟩⟩
   refine⟨_,R,_,_,R,R,⟨by lia,by lia⟩,_,_,R,R,(by show(0:Int)<2;lia),_,_,R,R,.inl ⟨by lia,by lia⟩,_,_,R,R,_,R,p1,_,[V.str f0,V.str v],n2,R,Zg.of c7,fun p2 g2=>?_⟩;generalize u:Za H7 p2 _=H8;have U:=ZM g2 u;have c8:=ZN u;clear u;refine⟨_,R,by show 0<=sizeLine;lia,fun p3 g3=>?_⟩;generalize u:Za H8 p3 _=H9;have s9:=ZM g3 u;have c9:=ZN u;clear u;have w0:=s9 _ _ c8;have y0:=(s7.trans U).trans s9;have W9:=W6.same y0;obtain⟨v0,e1,e2⟩:=W9.ob;obtain⟨vs,E,L⟩:=W9.wk;refine⟨p2,p3,_,R,R,Zg.of w0,Zg.of c9,_,R,ZH R ?_⟩;sleep 1;refine⟨_,R,D,.ref a.lw,R,by rw[<-e2.w];exact Z9.k (k:=Sum.inr (OK "walks")) e1,.inl ⟨R,_,Zg.of E⟩,_,R,p2,_,0,_,R,R,Zg.of w0,R,_,R,p2,_,1,_,R,R,Zg.of w0,R,_,R,_,R,_,_,R,R,_,_,R,by lia,by lia,_,_,R,R,(by show(0:Int)<60;lia),_,_,R,R,by show 3<=sizeLine;lia,fun p4 g4=>?_⟩;generalize WE _ _=q at *;generalize u:Za H9 p4 _=q0;have Q:=ZM g4 u;have b1:=ZN u;clear u;refine⟨a.lw,_,_,R,R,Q _ _ E,Sj (show vs.length<=6 by rw[L.length];show J.length<=6;lia) (by lia),?_⟩;have l0:=S6.trans (y0.trans Q);have l1:=y0.trans Q;refine⟨J++[⟨f0,v,1+q%60⟩],_,_,Y7 l0 nW.w _,by rw[Zf nl];exact l1 _ _ o0,by rw[Zf a2];exact l1 _ _ e0,(W9.same Q).addWk (x:=⟨f0,v,1+q%60⟩) nW (Q _ _ E) (L.imp fun _ _=>Xf.same Q) ⟨p4,R,?_⟩ R R R,iW.snoc ⟨by rw[lW];exact i2,by show 1<=1+q%60;lia,by show 1+q%60<=60;lia⟩,by rw[Su,lW];rfl,R⟩;rw[b1,show((1+q%60:Nat):Int)=1+(q:Int)%60 by lia]
  ·rintro g H6 ⟨J,y,T,S6,o0,e0,W6,iW,lW,rfl⟩
   rw[en]at lW;exact⟨J,y,T,S6,o0,e0,W6,iW,by lia,R⟩
 rintro g H6 ⟨J,y,T,S6,o0,e0,W6,iW,lW,rfl⟩;sleep 1;clear S5 f1 z0 W5;refine⟨fun g c=>∃(B:List Yl) (y:Option V),Ze b0 c/\c G=some (.lst ((Vl d).map V.str))/\c I=some (.lst ((e.map Yk.nm).map V.str))/\Xh c D a ⟨e,J,B,[],[]⟩/\B.map Yl.nm=(List.range (1+d/32%3)).map (fun j=>ZW d (j+2))/\(∀x∈B,YU x.nm/\x.r.Ok)/\g=[some (.int d),some (.ref D),some (.ref G),y,some (.ref I),T,none,none,none],?_,?_⟩
 ·sleep 1;have en:((1:Int)+(d:Int)/32%3).toNat=1+d/32%3:=by lia
  refine⟨_,R,_,_,R,R,⟨by lia,by lia⟩,_,_,R,R,(by show(0:Int)<3;lia),_,_,R,R,_,R,by lia,by lia,Uj (fun i g c=>∃(B:List Yl) (y:Option V),Ze b0 c/\c G=some (.lst ((Vl d).map V.str))/\c I=some (.lst ((e.map Yk.nm).map V.str))/\Xh c D a ⟨e,J,B,[],[]⟩/\B.map Yl.nm=(List.range i).map (fun j=>ZW d (j+2))/\(∀x∈B,YU x.nm/\x.r.Ok)/\g=[some (.int d),some (.ref D),some (.ref G),y,some (.ref I),T,none,none,none])
   ⟨[],_,S6,o0,e0,W6,R,fun _ h=>(nomatch h),R⟩ ?_ ?_⟩
  ·rintro i g H7 hi ⟨B,y,S7,n0,s0,W7,eR,oR,rfl⟩
   sleep 101;have c0:i+2<8:=by lia
   have lR:=Q4 eR;refine⟨_,R,_,R,_,_,R,R,_,_,R,by lia,by lia,?_⟩;have ml:=TM (d:Int) (30+(0+(i:Int)));generalize WE (d:Int) (30+(0+(i:Int)))=q at ml;refine⟨q,2,R,by lia,by lia,by lia,fun r v H8 U gr wr pr T8=>?_⟩;have Y:=W7.same U;obtain⟨v0,e1,e2⟩:=Y.ob;obtain⟨rows,E,L⟩:=Y.ru;have hv:=(XA (fun Z x (h:XQ H8 Z x)=>h.1) L (ZW d (i+2))).1 (TW eR c0);refine⟨_,R,D,.ref a.dr,R,by rw[<-e2.r];exact Z9.k (k:=Sum.inr (OK "rules")) e1,_,R,_,R,_,_,R,R,G,_,_,_,R,R,Zg.of (U _ _ n0),by rw[Int.zero_add];exact L7 c0,a.dr,_,R,XM.k (k:=Sum.inr (ZW d (i+2))) E (Sj (show rows.length<=8 by rw[L.length,show List.length ({ st:=e,wk:=J,ru:=B,tk:=[],tp:=[] }:Z7).ru=i from lR];lia) (by lia)),?_⟩;refine⟨B++[⟨ZW d (i+2),r⟩],_,Y7 (S7.trans U) nW.r _,XB E (U _ _ n0),XB E (U _ _ s0),Y.addRu (x:=⟨ZW d (i+2),r⟩) nW E L hv ⟨R,D,T8 D ?_⟩,?_,fun x H=>?_,R⟩
   ·obtain⟨k7,e7,_⟩:=W7.ob
    rw[e7];exact fun z=>(nomatch z)
   ·rw[SK,eR,Oj,SK];rfl
   ·rcases SF.mp H with H|H
    ·exact oR x H
    ·rw[SD.mp H];exact⟨LY d (i+2),gr,Sh (Nat.le_of_lt wr) (by lia),Sh pr (by lia)⟩
  ·rintro g H7 ⟨B,y,S7,n0,s0,W7,eR,oR,rfl⟩
   rw[en]at eR;exact⟨B,y,S7,n0,s0,W7,eR,oR,R⟩
 rintro g H7 ⟨B,u2,S7,n0,s0,W7,eR,oR,rfl⟩;sleep 1;clear S6 o0 e0 W6;refine⟨fun g c=>∃(O:List Wd) (y S v7:Option V),Ze b0 c/\c G=some (.lst ((Vl d).map V.str))/\c I=some (.lst ((e.map Yk.nm).map V.str))/\Xh c D a ⟨e,J,B,O,[]⟩/\O.map Wd.nm=(List.range (d/96%3)).map (fun j=>ZW d (j+0))/\(∀x∈O,x.Ok)/\g=[some (.int d),some (.ref D),some (.ref G),y,some (.ref I),T,S,v7,none],?_,?_⟩
 ·sleep 1;have en:((d:Int)/96%3).toNat=d/96%3:=by lia
  refine⟨_,R,_,_,R,R,⟨by lia,by lia⟩,_,_,R,R,(by show(0:Int)<3;lia),_,R,by lia,by lia,Uj (fun i g c=>∃(O:List Wd) (y S v7:Option V),Ze b0 c/\c G=some (.lst ((Vl d).map V.str))/\c I=some (.lst ((e.map Yk.nm).map V.str))/\Xh c D a ⟨e,J,B,O,[]⟩/\O.map Wd.nm=(List.range i).map (fun j=>ZW d (j+0))/\(∀x∈O,x.Ok)/\g=[some (.int d),some (.ref D),some (.ref G),y,some (.ref I),T,S,v7,none])
   ⟨[],_,_,_,S7,n0,s0,W7,R,fun _ h=>(nomatch h),R⟩ ?_ ?_⟩
  ·rintro i g H8 hi ⟨O,y,S,v7,S8,m0,r0,Y,eT,oT,rfl⟩
   sleep 102;have c0:i<8:=by lia
   have lT:=Q4 eT;refine⟨_,R,_,R,_,_,R,R,_,_,R,by lia,by lia,?_⟩;generalize WE (d:Int) (34+(0+(i:Int)))=q;refine⟨fun l2 c=>∃(zl:Addr) (ZS:OG),Ze H8 c/\c zl=some (.lst (Yb ZS))/\1<=ZS.length/\ZS.length<=6/\ZS.Pairwise (· < ·)/\(∀z∈ZS,1<=z/\z<=6)/\l2=[some (.int d),some (.ref D),some (.ref G),some (.int (0+(i:Int))),some (.ref I),T,some (.int q),some (.ref zl),none],?_,?_⟩
   ·sleep 1;refine⟨1,7,R,⟨by lia,by lia,by lia,by lia⟩,MJ (lo:=1) (n:=6) (fun i g0 g c=>c=H8/\(∃zs:List Nat,g0=Yb zs/\zs.Pairwise (· < ·)/\∀z∈zs,1<=z/\z<=i)/\∃v,g=[v,some (.int q)]) ⟨R,⟨[],R,.nil,fun _ h=>(nomatch h)⟩,_,R⟩ (by lia) ?_ ?_⟩
    ·rintro j g0 g c hj ha ⟨rfl,⟨zs,rfl,pw,zr⟩,v,rfl⟩
     have pS:(1:Int)*2 ^ ((1:Int)+(j:Int)).toNat=((2 ^ (1+j):Nat):Int):=by rw[Int.one_mul,Int.natCast_pow,show((1:Int)+(j:Int)).toNat=1+j by lia];rfl
     have pP:0<2 ^ (1+j):=Nat.two_pow_pos _;have pU:2 ^ (1+j)<=2 ^ 6:=Nat.pow_le_pow_right (by lia) (by lia);refine⟨_,R,_,R,_,_,R,R,⟨by lia,by lia,by lia⟩,_,_,R,R,(by rw[pS];exact⟨by lia,by lia⟩),_,_,R,R,(by show(0:Int)<2;lia),R,_,R,?_⟩;refine WM (fun _=>?_) (fun _=>?_)
     ·refine⟨_,R,by rw[Su,Sw];lia,R,⟨zs++[j+1],?_,?_,fun z hz=>?_⟩,_,R⟩
      ·rw[show Yb (zs++[j+1])=Yb zs++[V.int ((j+1:Nat):Int)] from SK,show((j+1:Nat):Int)=1+(j:Int) by lia]
      ·rw[List.pairwise_append]
       exact⟨pw,List.pairwise_singleton _ _,fun x H x0 hy=>by rw[SD.mp hy];have:=(zr x H).2;lia⟩
      ·rcases SF.mp hz with hz|hz
       ·have:=zr z hz;lia
       ·rw[SD.mp hz];lia
     ·exact⟨by lia,R,⟨zs,R,pw,fun z hz=>by have:=zr z hz;lia⟩,_,R⟩
    rintro g0 g c ha ⟨rfl,⟨zs,rfl,pw,zr⟩,v,rfl⟩ lz gz;have sz:=Zy gz (.lst (Yb zs));have cz:=@Zm c lz (.lst (Yb zs));have l6:zs.length<=6:=by have:=ha;rwa [Sv]at this
    generalize Za c lz (.lst (Yb zs))=Hz at sz cz ⊢;refine⟨_,.inl ⟨_,Zg.of cz,R⟩,?_⟩;cases zs with
    |cons z r2=>exact ZH R ⟨lz,z::r2,sz,cz,Nat.succ_pos _,l6,pw,zr,R⟩
    |nil =>
     refine Zn (by lia) ⟨by show 1<=sizeLine;lia,fun p k0=>⟨p,[6],sz.trans (Zy k0 _),Zm,Sg 1,by lia,List.pairwise_singleton _ _,fun z hz=>by rw[SD.mp hz];exact⟨by lia,by lia⟩,R⟩⟩
   rintro g H9 ⟨zl,ZS,s9,hz,z1,z6,zp,zr,rfl⟩;sleep 1;refine⟨_,R,_,_,R,R,⟨by lia,by lia⟩,_,_,R,R,(by show(0:Int)<10001;lia),_,R,_,_,R,R,⟨by lia,by lia⟩,_,_,R,R,(by show(0:Int)<1440;lia),_,_,R,R,_,R,by show 3<=sizeLine;lia,fun p k0=>?_⟩;generalize u:Za H9 p _=q0;have Q:=ZM k0 u;have b1:=ZN u;clear u;have U:=s9.trans Q;have d0:=Y.same U;obtain⟨v0,e1,e2⟩:=d0.ob;obtain⟨rows,E,L⟩:=d0.tk;have hv:=(XA (fun Z x (h:W0 q0 Z x)=>h.1) L (ZW d (i+0))).1 (TW eT (by lia));refine⟨_,R,D,.ref a.dt,R,by rw[<-e2.t];exact Z9.k (k:=Sum.inr (OK "tickets")) e1,_,R,_,R,G,_,_,_,R,R,Zg.of (U _ _ m0),by rw[Int.zero_add];exact L7 c0,a.dt,_,R,XM.k (k:=Sum.inr (ZW d (i+0))) E (Sj (show rows.length<=8 by rw[L.length,show List.length ({ st:=e,wk:=J,ru:=B,tk:=O,tp:=[] }:Z7).tk=i from lT];lia) (by lia)),?_⟩;refine⟨O++[⟨ZW d (i+0),q/128%10001,1+q/7%1440,ZS⟩],_,_,_,Y7 (S8.trans U) nW.t _,XB E (U _ _ m0),XB E (U _ _ r0),d0.addTk (x:=⟨ZW d (i+0),q/128%10001,1+q/7%1440,ZS⟩) nW E L hv ⟨R,p,zl,R,?_,Q _ _ hz⟩,?_,fun x H=>?_,R⟩
   ·rw[b1,show((1+q/7%1440:Nat):Int)=1+(q:Int)/7%1440 by lia,show((q/128%10001:Nat):Int)=(q:Int)/128%10001 by lia]
   ·rw[SK,eT,Oj,SK];rfl
   ·rcases SF.mp H with H|H
    ·exact oT x H
    ·rw[SD.mp H]
     exact⟨LY d (i+0),by show q/128%10001<=10000;lia,by show 1<=1+q/7%1440;lia,by show 1+q/7%1440<=1440;lia,z1,z6,zp,zr⟩
  ·rintro g H8 ⟨O,y,S,v7,S8,m0,r0,Y,eT,oT,rfl⟩
   rw[en]at eT;exact⟨O,y,S,v7,S8,m0,r0,Y,eT,oT,R⟩
 rintro g H8 ⟨O,y,S,v7,S8,m0,r0,Y,eT,oT,rfl⟩;sleep 2;clear S7 n0 s0 W7;have lR:=Q4 eR;obtain⟨a3,i1,k1⟩:=Y.ob;obtain⟨b3,o1,j1⟩:=Y.ru;refine⟨_,R,D,.ref a.dr,R,by rw[<-k1.r];exact Z9.k (k:=Sum.inr (OK "rules")) i1,a.dr,_,R,o1,fun lr gr=>?_⟩;rw[TX (fun Z x (h:XQ H8 Z x)=>h.1) j1];generalize u:Za H8 lr _=H9;have s9:=ZM gr u;have d2:H9 lr=some (.lst ((B.map Yl.nm).map V.str)):=ZN u;clear u;have W9:=Y.same s9;have S9:=S8.trans s9;have j2:=s9 _ _ m0;have x1:=s9 _ _ r0;clear Y S8 m0 r0 s9 o1 j1 i1 k1 gr;have y2:((B.map Yl.nm).map V.str).length=1+d/32%3:=by rw[Sv,Sv,lR]
 refine⟨fun g c=>∃(TP:List Tp) (y S:Option V),Ze b0 c/\c G=some (.lst ((Vl d).map V.str))/\c I=some (.lst ((e.map Yk.nm).map V.str))/\c lr=some (.lst ((B.map Yl.nm).map V.str))/\Xh c D a ⟨e,J,B,O,TP⟩/\TP.map Tp.nm=(List.range (1+d/288%3)).map (fun j=>ZW d (j+1))/\(∀x∈TP,YU x.nm/\x.ru∈B.map Yl.nm/\WG (e.map Yk.nm) x.cs/\2<=x.cs.length/\x.cs.length<=6)/\g=[some (.int d),some (.ref D),some (.ref G),y,some (.ref I),T,S,v7,some (.ref lr)],?_,?_⟩
 ·sleep 1;have en:((1:Int)+(d:Int)/288%3).toNat=1+d/288%3:=by lia
  refine⟨_,R,_,_,R,R,⟨by lia,by lia⟩,_,_,R,R,(by show(0:Int)<3;lia),_,_,R,R,_,R,by lia,by lia,Uj (fun i g c=>∃(TP:List Tp) (y S:Option V),Ze b0 c/\c G=some (.lst ((Vl d).map V.str))/\c I=some (.lst ((e.map Yk.nm).map V.str))/\c lr=some (.lst ((B.map Yl.nm).map V.str))/\Xh c D a ⟨e,J,B,O,TP⟩/\TP.map Tp.nm=(List.range i).map (fun j=>ZW d (j+1))/\(∀x∈TP,YU x.nm/\x.ru∈B.map Yl.nm/\WG (e.map Yk.nm) x.cs/\2<=x.cs.length/\x.cs.length<=6)/\g=[some (.int d),some (.ref D),some (.ref G),y,some (.ref I),T,S,v7,some (.ref lr)])
   ⟨[],_,_,S9,j2,x1,d2,W9,R,fun _ h=>(nomatch h),R⟩ ?_ ?_⟩
  ·rintro i g q0 hi ⟨TP,y,S,l0,u0,t0,p0,d0,eP,oP,rfl⟩
   sleep 102;have c0:i+1<8:=by lia
   have lP:=Q4 eP;refine⟨_,R,_,R,_,_,R,R,_,_,R,by lia,by lia,?_⟩;have ml:=TM (d:Int) (37+(0+(i:Int)));generalize WE (d:Int) (37+(0+(i:Int)))=q at ml;have k2:∃z,YG ((B.map Yl.nm).map V.str) ((q:Int)%((((B.map Yl.nm).map V.str).length:Nat):Int))=some (.str z)/\z∈B.map Yl.nm:=by
    have h0:(q:Int)%((((B.map Yl.nm).map V.str).length:Nat):Int)=((q%((B.map Yl.nm).map V.str).length:Nat):Int):=(SW _ _).symm;have hl:q%((B.map Yl.nm).map V.str).length<(B.map Yl.nm).length:=by have:=Oo q (show 0<((B.map Yl.nm).map V.str).length by lia);rwa [Sv (f:=V.str)]at this ⊢
    refine⟨_,by rw[h0];exact XF (by rw[S0,Ss hl];rfl),Oi hl⟩
   obtain⟨z,ez,mz⟩:=k2;refine⟨_,R,_,R,_,R,lr,_,R,.inl (Zg.of p0),_,_,R,R,(by show(0:Int)<((((B.map Yl.nm).map V.str).length:Nat):Int);lia),lr,_,_,_,R,R,Zg.of p0,ez,?_⟩;refine⟨_,R,_,_,R,R,⟨by lia,by lia⟩,_,R,_,R,_,_,R,R,⟨by lia,by lia⟩,_,_,R,R,(by show(0:Int)<4;lia),_,_,R,R,?_⟩;refine⟨q/4,2+q/3%4,I,e.map Yk.nm,?_,t0,by rw[X];exact Kt (k:=0) (by lia),by rw[Sv,lS];lia,by rw[Sv,lS];lia,by lia,fun cs l vs c2 y1 gl hl al ok lc=>?_⟩
   ·show[V.int ((q:Int)/4),V.ref I,V.int (2+(q:Int)/3%4)]=_
    rw[show((q/4:Nat):Int)=(q:Int)/4 by lia,show((2+q/3%4:Nat):Int)=2+(q:Int)/3%4 by lia]
   refine⟨by show 2<=sizeLine;lia,fun p k0=>?_⟩;generalize u:Za c2 p _=b2;have c1:=ZM k0 u;have q2:=ZN u;clear u;have Q:=y1.trans c1;have d1:=d0.same Q;obtain⟨v0,e1,e2⟩:=d1.ob;obtain⟨rows,E,L⟩:=d1.tp;have hv:=(XA (fun Z x (h:Xl b2 Z x)=>h.1) L (ZW d (i+1))).1 (TW eP c0);refine⟨_,R,D,.ref a.dp,R,by rw[<-e2.p];exact Z9.k (k:=Sum.inr (OK "trips")) e1,_,R,_,R,_,_,R,R,G,_,_,_,R,R,Zg.of (Q _ _ u0),by rw[Int.zero_add];exact L7 c0,a.dp,_,R,XM.k (k:=Sum.inr (ZW d (i+1))) E (Sj (show rows.length<=8 by rw[L.length,show List.length ({ st:=e,wk:=J,ru:=B,tk:=O,tp:=TP }:Z7).tp=i from lP];lia) (by lia)),?_⟩;refine⟨TP++[⟨ZW d (i+1),z,cs⟩],_,_,Y7 (l0.trans Q) nW.p _,XB E (Q _ _ u0),XB E (Q _ _ t0),XB E (Q _ _ p0),d1.addTp (x:=⟨ZW d (i+1),z,cs⟩) nW E L hv ⟨R,p,l,vs,R,q2,c1 _ _ hl,al.imp fun _ _=>Yw.same c1⟩,?_,fun x H=>?_,R⟩
   ·rw[SK,eP,Oj,SK];rfl
   ·rcases SF.mp H with H|H
    ·exact oP x H
    ·rw[SD.mp H]
     exact⟨LY d (i+1),mz,ok,by show 2<=cs.length;lia,by show cs.length<=6;lia⟩
  ·rintro g q0 ⟨TP,y,S,l0,u0,t0,p0,d0,eP,oP,rfl⟩
   rw[en]at eP;exact⟨TP,y,S,l0,u0,t0,p0,d0,eP,oP,R⟩
 rintro g q0 ⟨TP,y,S,l0,u0,t0,p0,d0,eP,oP,rfl⟩;sleep 1;refine⟨_,R,w1 D a _ q0 l0 nW d0 ?_⟩;have lP:=Q4 eP;have lT:=Q4 eT;refine⟨by show 2<=e.length;lia,by show e.length<=5;lia,by show(e.map Yk.nm).Nodup;rw[X];exact Kt (k:=0) (by lia),oS,by show J.length<=4;lia,fun x H=>?_,iW.new (by lia),by show 1<=B.length;lia,by show B.length<=3;lia,by show(B.map Yl.nm).Nodup;rw[eR];exact Kt (by lia),oR,by show O.length<=2;lia,by show(O.map Wd.nm).Nodup;rw[eT];exact Kt (by lia),oT,by show 1<=TP.length;lia,by show TP.length<=3;lia,by show(TP.map Tp.nm).Nodup;rw[eP];exact Kt (by lia),oP⟩;obtain⟨j,hj,ej⟩:=List.mem_iff_getElem.mp H;have hW:=iW j x (by rw[<-ej];exact Ss hj);have hj:j<J.length:=hj;have mem:∀k,k<m->ZW d k∈e.map Yk.nm:=fun k hk=>by rw[X];exact SI.mpr ⟨k,List.mem_range.mpr hk,R⟩
 have ne:ZW d j≠ZW d (j+1):=TQ (by lia) (by lia);rcases hW.1 with⟨E,L⟩|⟨E,L⟩
 ·exact⟨by rw[E];exact mem _ (by lia),by rw[L];exact mem _ (by lia),by rw[E,L];exact ne,hW.2⟩
 ·exact⟨by rw[E];exact mem _ (by lia),by rw[L];exact mem _ (by lia),by rw[E,L];exact ne.symm,hW.2⟩
theorem Yo.put{H:Hp}{n d:Addr}{a:NA}{N:Z7}{f:List (Zl×V)}{o:HO}(h:Yo t H n a N)(hd:H d=some (.dK f))(D:a.ds≠d)(C:a.dr≠d)(L:a.dt≠d)(j:a.dp≠d):Yo t (Za H d o) n a N:=by
 obtain⟨⟨J,fs,M,y⟩,ap,⟨r1,x,O⟩,⟨I,g,e⟩,⟨q,u,G⟩,⟨r3,c,B⟩,⟨i,E,v⟩⟩:=h;exact⟨⟨J,fs,UR hd ZI.k M,y⟩,ap,⟨r1,by rw[Zf D];exact x,O.imp fun _ _=>Y3.put hd ZI.k⟩,⟨I,XB hd g,e.imp fun _ _=>Xf.put hd ZI.k⟩,⟨q,by rw[Zf C];exact u,G.imp fun _ _=>X3.put hd ZI.k⟩,⟨r3,by rw[Zf L];exact c,B.imp fun _ _=>Ws.put hd ZI.k⟩,⟨i,by rw[Zf j];exact E,v.imp fun _ _=>XH.put hd ZI.k⟩⟩
theorem Yo.thaw{H:Hp}{n d:Addr}{a:NA}{N:Z7}{ob:Obj}{c:List (Zl×V)}{o:HO}(h:Yo t H n a N)(hd:H d=some (.frz ob (.dK c))):Yo t (Za H d o) n a N :=
 Yo.keep (fun b u e _ _ nf=>by rw[Zf (fun z=>by rw[z,hd]at e;exact nf ob c (So e).symm)];exact e) h
structure XR(H:Hp)(d:Addr)(ob:Obj)(kvs:List (Zl×V))(H':Hp):Prop where
 at_:H d=some (.dK kvs)
 s:Ze (Za H d (.frz ob (.dK kvs))) H'
theorem XR.new{H g:Hp}{d:Addr}{f:List (Zl×V)}(ob:Obj)(h:H d=some (.dK f))(s:Ze H g):XR H d ob f (Za g d (.frz ob (.dK f))):=⟨h,fun a o e=>by
 by_cases c:a=d
 ·rw[c,Zm]at e ⊢;exact e
 ·rw[Zf c]at e ⊢;exact s _ _ e⟩
theorem XR.same{H e c:Hp}{d:Addr}{ob:Obj}{f:List (Zl×V)}(h:XR H d ob f e)(s:Ze e c):XR H d ob f c:=⟨h.at_,h.s.trans s⟩
theorem XR.frz{H c:Hp}{d:Addr}{ob:Obj}{e:List (Zl×V)}(h:XR H d ob e c):c d=some (.frz ob (.dK e)):=h.s _ _ Zm
theorem XR.thaw{H g:Hp}{d:Addr}{ob:Obj}{f:List (Zl×V)}(h:XR H d ob f g):Ze H (Za g d (.dK f)):=fun a o e=>by
 by_cases c:a=d
 ·rw[c,h.at_]at e;rw[c,Zm];exact e
 ·rw[Zf c];exact h.s _ _ (by rw[Zf c];exact e)
theorem VR.held{H:Hp}{d:Addr}{a:NA}{o u:HO}(h:VR H a)(hd:H d=some u):VR (Za H d o) a:=by
 have k:∀{x},H x=none->Za H d o x=none:=fun e=>by rw[Zf (ZT hd e).symm];exact e
 exact⟨k h.s,k h.w,k h.r,k h.t,k h.p⟩
inductive Zkl(t:Yn)(vs:List V)(H:Hp)(Q:VK)(_e3:XK):Prop|mk (wd:Addr) (a:NA) (W:Z7) (H00:Hp) (_:vs=[.ref wd]) (_:Xh H wd a W) (_:L6 H00 wd a) (_:US W) (_:∀n b H',Ze H H'->Yo t H' n b W->VR H b->Q (.ref n) H')
theorem Zkm(c:Zs K mg t):Zq P w K mg base Zt 52 t.jH t.jI ["_law_world_here"] (Zkl t):=by
 refine c.Zaz.F.ok Vs (by lia) fun f1 A outer s f0 vs c1 i1 O h=>?_;obtain⟨C,a,W,h1,rfl,hW,nW,ok,u0⟩:=h;obtain⟨i0,e1,e2⟩:=hW.ob;obtain⟨T,b0,o0⟩:=hW.st;obtain⟨wv,p0,s0⟩:=hW.wk;obtain⟨rr,a0,q0⟩:=hW.ru;obtain⟨rt,Y,t0⟩:=hW.tk;obtain⟨rp,Q,r0⟩:=hW.tp;refine⟨_,(Zi (ZR 1 Vs.nd (Zdi c.Zhv (Zjl c) (O.mono (by lia)) R c.ZhY c.ZaH.b .nil Zp)) (Zi (B8 (XG (JO (YB O (pv 0) ZA)) (Vm (n:=2) R (Yv (ZY 2 Vs.nd) (Yv (ZY 3 Vs.nd) WJ))) (Zh (Yh (YY (pv 1) c.Ys c.Tf.me (Zjp c) (O.mono (by lia)) c.Tf.b .nil Zp (Zr (pv 2) (ZC c.XN (Zkd c 8) O Zp (Zj (pv 3))))))))) (Zi (B8 (XG (JO (YB O (pv 0) ZA)) (Vm (n:=2) R (Yv (ZY 2 Vs.nd) (Yv (ZY 4 Vs.nd) WJ))) (Zh (Yh (YY (pv 1) c.Ys c.Tb.me (Zjn c) (O.mono (by lia)) c.Tb.b .nil Zp (Yr (pv 2) (Zu ZP (pv 4) Zb) (Zu ZP (pv 4) Zb))))))) (Zi (B8 (XG (JO (YB O (pv 0) ZA)) (Vm (n:=2) R (Yv (ZY 2 Vs.nd) (Yv (ZY 3 Vs.nd) WJ))) (Zh (Yh (YY (pv 1) c.Ys c.Th.me (ZjQ c) (O.mono (by lia)) c.Th.b .nil Zp (Yr (pv 2) (Zu ZP (pv 3) Zb) (YF U2 R c.Vj Vg (Zj (Zu ZP (pv 3) Zb))))))))) (Zi (B8 (XG (JO (YB O (pv 0) ZA)) (Vm (n:=2) R (Yv (ZY 2 Vs.nd) (Yv (ZY 3 Vs.nd) WJ))) (Zh (Yh (YY (pv 1) c.Ys c.Tg.me (Zjr c) (O.mono (by lia)) c.Tg.b .nil Zp (Wq (pv 2) (Zu ZP (pv 3) Zb) (Zu ZP (pv 3) Zb) (YF U2 R c.Vj Vg (Zj (Zu ZP (pv 3) Zb))))))))) (Zi (XG (VZ (YB O (pv 0) ZA)) (Vm (n:=3) R (Yv (ZY 5 Vs.nd) (Yv (ZY 6 Vs.nd) (Yv (ZY 7 Vs.nd) WJ)))) (Zh (Yh (YY (pv 1) c.Ys c.Te.me (ZjI c) (O.mono (by lia)) c.Te.b .nil Zp (Yr (pv 5) (pv 6) (pv 7)))))) (Zh (Zx (pv 1))))))))),?_⟩;sleep 7;intro n dx nn L b1;refine⟨n,f0,R,nn,Y7 (Zy L _) nn _,⟨dx,Zm⟩,fun H1 b S1 y0 j=>⟨R,?_⟩⟩;have get:∀{g:Hp} {z:Str} {l:Addr},g C=some (.dK i0)->Zz i0 (Sum.inr z)=some (.ref l)->Z9 g C (.str z) (some (.ref l)):=fun s' v0=>by rw[<-v0];exact Z9.k (k:=Sum.inr _) s'
 clear nn L b1;refine⟨a.dr,.dK rr,S1 _ _ a0,.inl ⟨rr,R⟩,fun ob=>?_⟩;sleep 1;have q:=XR.new ob a0 S1;have G:=y0.put (o:=.frz ob (.dK rr)) (S1 _ _ a0) (ZT a0 j.s).symm (ZT a0 j.r).symm (ZT a0 j.t).symm (ZT a0 j.p).symm;have E:Za H1 a.dr (.frz ob (.dK rr)) C=some (.dK i0):=by rw[Zf nW.nr];exact S1 _ _ e1
 have X:=j.held (o:=.frz ob (.dK rr)) a0;generalize Za H1 a.dr (.frz ob (.dK rr))=Hf at q G E ⊢;refine⟨_,R,C,.ref a.dr,R,get E e2.r,a.dr,ob,rr,R,q.frz,JP (fun i f g=>XR f0 a.dr ob rr g/\Yo t g n b ⟨[],[],W.ru.take i,[],[]⟩/\∃B D y:Option V,f=[some (.ref C),some (.ref n),B,D,y,none,none,none]) ⟨q,G,_,_,_,R⟩ (fun i f g _ h=>h.1.frz) ?_ ?_⟩
 ·rintro i kv p f M g0 gp ⟨S,I,B,D,y,rfl⟩
  generalize H:Za M p _=H4;have U:=ZM gp H;have Z:=ZN H;clear H;have v:=I.same U;have u:=S.same U;obtain⟨L,n0,d0,e0⟩:=v.ob;obtain⟨x,ex,ek,tp,hT⟩:=q0.get g0;have e:=ok.ro x (SJ ex);rw[ek]at Z;refine⟨p,_,R,Zk.of Z,R,_,_,R,_,_,R,R,?_⟩;sleep 1;refine⟨_,R,n,L,_,R,d0,e0.n_add_rule,_,R,_,R,tp,kv.2,x.r,R,(YQ.put a0 hT).same u.s,e.2.1,e.2.2.1,e.2.2.2,e.2.2.2,fun rb H5 s5 R5=>?_⟩;refine⟨n,b,_,x,.ref rb,_,R,v.same s5,X,(u.same s5).s,e.1,⟨rb,R,by rw[c.kf];exact R5⟩,e.2,Kl ok.rn ex,?_,fun H6 s6 J=>⟨⟨a0,s6⟩,?_,_,_,_,R⟩⟩
  ·show(W.ru.take i).length<6
   rw[Sx];have:=ok.r3;lia
  ·rw[SZ,ex];exact J
 rintro f H2 ⟨h2,l0,B,D,y,rfl⟩;rw[SY (by rw[q0.length];exact Sg _)]at l0;refine⟨h2.frz,?_⟩;have S2:=h2.thaw
 replace l0:=l0.thaw (o:=.dK rr) h2.frz
 generalize Za H2 a.dr (.dK rr)=H2 at S2 l0 ⊢;clear h2 q G E X;refine⟨a.ds,.dK T,S2 _ _ b0,.inl ⟨T,R⟩,fun ob=>?_⟩;sleep 1;have q:=XR.new ob b0 S2;have G:=l0.put (o:=.frz ob (.dK T)) (S2 _ _ b0) (ZT b0 j.s).symm (ZT b0 j.r).symm (ZT b0 j.t).symm (ZT b0 j.p).symm;have E:Za H2 a.ds (.frz ob (.dK T)) C=some (.dK i0):=by rw[Zf nW.ns];exact S2 _ _ e1
 have X:=j.held (o:=.frz ob (.dK T)) b0;generalize Za H2 a.ds (.frz ob (.dK T))=Hf at q G E ⊢;refine⟨_,R,C,.ref a.ds,R,get E e2.s,a.ds,ob,T,R,q.frz,JP (fun i f g=>XR f0 a.ds ob T g/\Yo t g n b ⟨W.st.take i,[],W.ru,[],[]⟩/\∃B D y:Option V,f=[some (.ref C),some (.ref n),B,D,y,none,none,none]) ⟨q,G,_,_,_,R⟩ (fun i f g _ h=>h.1.frz) ?_ ?_⟩
 ·rintro i kv p f M g0 gp ⟨S,I,B,D,y,rfl⟩
  generalize H:Za M p _=H4;have U:=ZM gp H;have Z:=ZN H;clear H;have v:=I.same U;have u:=S.same U;obtain⟨L,n0,d0,e0⟩:=v.ob;obtain⟨x,ex,ek,r,er,k0⟩:=o0.get g0;have e:=ok.so x (SJ ex);have c0:=(u.s) _ _ (XO (o:=.frz ob (.dK T)) b0 ZI.k k0);rw[ek]at Z;refine⟨p,_,R,Zk.of Z,R,_,_,R,_,_,R,R,?_⟩;sleep 1;refine⟨_,R,n,L,_,R,d0,e0.n_add_stop,_,R,_,R,r,_,0,_,er,R,Zk.of c0,R,_,R,r,_,1,_,er,R,Zk.of c0,R,n,b,_,x,_,R,v,X,u.s,e.1,e.2.1,e.2.2.1,e.2.2.2,Kl ok.sn ex,?_,fun H6 s6 J=>⟨⟨b0,s6⟩,?_,_,_,_,R⟩⟩
  ·show(W.st.take i).length<8
   rw[Sx];have:=ok.s5;lia
  ·rw[SZ,ex];exact J
 rintro f M ⟨S,I,B,D,y,rfl⟩;rw[SY (by rw[o0.length];exact Sg _)]at I;refine⟨S.frz,?_⟩;have S3:=S.thaw
 replace I:=I.thaw (o:=.dK T) S.frz
 generalize Za M a.ds (.dK T)=M at S3 I ⊢;clear S q G E X;refine⟨a.dp,.dK rp,S3 _ _ Q,.inl ⟨rp,R⟩,fun ob=>?_⟩;sleep 1;have q:=XR.new ob Q S3;have G:=I.put (o:=.frz ob (.dK rp)) (S3 _ _ Q) (ZT Q j.s).symm (ZT Q j.r).symm (ZT Q j.t).symm (ZT Q j.p).symm;have E:Za M a.dp (.frz ob (.dK rp)) C=some (.dK i0):=by rw[Zf nW.np];exact S3 _ _ e1
 have X:=j.held (o:=.frz ob (.dK rp)) Q;generalize Za M a.dp (.frz ob (.dK rp))=Hf at q G E ⊢;refine⟨_,R,C,.ref a.dp,R,get E e2.p,a.dp,ob,rp,R,q.frz,JP (fun i f g=>XR f0 a.dp ob rp g/\Yo t g n b ⟨W.st,[],W.ru,[],W.tp.take i⟩/\∃B D y:Option V,f=[some (.ref C),some (.ref n),B,D,y,none,none,none]) ⟨q,G,_,_,_,R⟩ (fun i f g _ h=>h.1.frz) ?_ ?_⟩
 ·rintro i kv p f M g0 gp ⟨S,I,B,D,y,rfl⟩
  generalize H:Za M p _=H4;have U:=ZM gp H;have Z:=ZN H;clear H;have v:=I.same U;have u:=S.same U;obtain⟨L,n0,d0,e0⟩:=v.ob;obtain⟨x,ex,ek,r,l,vs,er,k0,hl,al⟩:=r0.get g0;have e:=ok.po x (SJ ex);have c0:=(u.s) _ _ (XO (o:=.frz ob (.dK rp)) Q ZI.k k0);have w0:=(u.s) _ _ (XB (o:=.frz ob (.dK rp)) Q hl);have x0:Al (Yw H4) vs x.cs:=al.imp fun _ _ h=>(Yw.put (o:=.frz ob (.dK rp)) Q ZI.k h).same u.s;rw[ek]at Z;refine⟨p,_,R,Zk.of Z,R,_,_,R,_,_,R,R,?_⟩;sleep 1;refine⟨_,R,n,L,_,R,d0,e0.n_add_trip,_,R,_,R,r,_,0,_,er,R,Zk.of c0,R,_,R,r,_,1,_,er,R,Zk.of c0,R,l,_,R,.inl (Zg.of w0),fun l2 g2=>?_⟩;have s5:=Zy g2 (.lst vs);refine⟨n,b,_,x,l2,vs,_,R,v.same s5,X,(u.same s5).s,Zm,x0.imp fun _ _=>Yw.same s5,e.2.2.1,e.2.2.2.1,e.2.2.2.2,e.1,?_,Kl ok.pn ex,?_,fun H6 s6 _ J=>⟨⟨Q,s6⟩,?_,_,_,_,R⟩⟩
  ·obtain⟨m0,hy,ey⟩:=SI.mp e.2.1
   obtain⟨y',e'⟩:=L3 (nm:=Yl.nm) hy;show(ZO Yl.nm W.ru x.ru).isSome=true;rw[<-ey,e'];rfl
  ·show(W.tp.take i).length<10
   rw[Sx];have:=ok.p3;lia
  ·rw[SZ,ex];exact J
 rintro f H4 ⟨u,v,B,D,y,rfl⟩;rw[SY (by rw[r0.length];exact Sg _)]at v;refine⟨u.frz,?_⟩;have S4:=u.thaw
 replace v:=v.thaw (o:=.dK rp) u.frz
 generalize Za H4 a.dp (.dK rp)=H4 at S4 v ⊢;clear u q G E X;refine⟨a.dt,.dK rt,S4 _ _ Y,.inl ⟨rt,R⟩,fun ob=>?_⟩;sleep 1;have q:=XR.new ob Y S4;have G:=v.put (o:=.frz ob (.dK rt)) (S4 _ _ Y) (ZT Y j.s).symm (ZT Y j.r).symm (ZT Y j.t).symm (ZT Y j.p).symm;have E:Za H4 a.dt (.frz ob (.dK rt)) C=some (.dK i0):=by rw[Zf nW.nt];exact S4 _ _ e1
 have X:=j.held (o:=.frz ob (.dK rt)) Y;generalize Za H4 a.dt (.frz ob (.dK rt))=Hf at q G E ⊢;refine⟨_,R,C,.ref a.dt,R,get E e2.t,a.dt,ob,rt,R,q.frz,JP (fun i f g=>XR f0 a.dt ob rt g/\Yo t g n b ⟨W.st,[],W.ru,W.tk.take i,W.tp⟩/\∃B D y:Option V,f=[some (.ref C),some (.ref n),B,D,y,none,none,none]) ⟨q,G,_,_,_,R⟩ (fun i f g _ h=>h.1.frz) ?_ ?_⟩
 ·rintro i kv p f M g0 gp ⟨S,I,B,D,y,rfl⟩
  generalize H:Za M p _=H4;have U:=ZM gp H;have Z:=ZN H;clear H;have v:=I.same U;have u:=S.same U;obtain⟨L,n0,d0,e0⟩:=v.ob;obtain⟨x,ex,ek,r,z,er,k0,hz⟩:=t0.get g0;have e:=ok.to x (SJ ex);have c0:=(u.s) _ _ (XO (o:=.frz ob (.dK rt)) Y ZI.k k0);have z0:=(u.s) _ _ (XB (o:=.frz ob (.dK rt)) Y hz);rw[ek]at Z;refine⟨p,_,R,Zk.of Z,R,_,_,R,_,_,R,R,?_⟩;sleep 1;refine⟨_,R,n,L,_,R,d0,e0.n_add_ticket,_,R,_,R,r,_,0,_,er,R,Zk.of c0,R,_,R,r,_,1,_,er,R,Zk.of c0,R,_,R,r,_,2,_,er,R,Zk.of c0,R,z,_,R,.inl (Zg.of z0),fun l2 g2=>?_⟩;have s5:=Zy g2 (.lst (Yb x.zs));refine⟨n,b,_,x,l2,_,R,v.same s5,X,(u.same s5).s,Zm,e,Kl ok.tn ex,?_,fun H6 s6 J=>⟨⟨Y,s6⟩,?_,_,_,_,R⟩⟩
  ·show(W.tk.take i).length<3
   rw[Sx];have:=ok.t2;lia
  ·rw[SZ,ex];exact J
 rintro f H5 ⟨h5,j0,B,D,y,rfl⟩;rw[SY (by rw[t0.length];exact Sg _)]at j0;refine⟨h5.frz,?_⟩;have S5:=h5.thaw
 replace j0:=j0.thaw (o:=.dK rt) h5.frz
 generalize Za H5 a.dt (.dK rt)=H5 at S5 j0 ⊢;clear h5 q G E X;refine⟨_,R,C,.ref a.lw,R,get (S5 _ _ e1) e2.w,a.lw,R,⟨_,Zg.of (S5 _ _ p0)⟩,E9 (K:=K) (a:=a.lw) (xs:=wv) (fun i f g=>Ze f0 g/\Yo t g n b ⟨W.st,W.wk.take i,W.ru,W.tk,W.tp⟩/\∃v5 v6 v7:Option V,f=[some (.ref C),some (.ref n),B,D,y,v5,v6,v7]) ⟨S5,j0,_,_,_,R⟩ (fun i f g _ ⟨s',_⟩=>Zg.of (s' _ _ p0)) ?_ ?_⟩
 ·rintro i d1 f H6 hv ⟨S6,J,v5,v6,v7,rfl⟩
  obtain⟨x,ex,p,rfl,hp⟩:=s0.get hv;have e:=ok.wo x (SJ ex);obtain⟨L,n0,d0,e0⟩:=J.ob;have h0:∀z,z∈W.st.map Yk.nm->YU z/\(ZO Yk.nm W.st z).isSome=true:=fun z hz=>by
   obtain⟨m0,hy,rfl⟩:=SI.mp hz;obtain⟨y',e'⟩:=L3 (nm:=Yk.nm) hy;exact⟨(ok.so m0 hy).1,by rw[e'];rfl⟩
  refine⟨p,_,R,Zk.of (S6 _ _ hp),R,_,_,R,_,_,R,_,_,R,R,?_⟩;sleep 1;refine⟨_,R,n,L,_,R,d0,e0.n_add_walk,_,R,_,R,_,R,n,b,_,x,f0,R,J,j,S6,fun m0 hy=>?_,(h0 _ e.1).1,(h0 _ e.2.1).1,(h0 _ e.1).2,(h0 _ e.2.1).2,e.2.2.1,ok.wn i x ex,e.2.2.2.1,e.2.2.2.2,?_,fun H7 s7 a1=>⟨s7,?_,_,_,_,R⟩⟩
  ·have hy:=ok.wo m0 (List.mem_of_mem_take hy)
   exact⟨(h0 _ hy.1).1,(h0 _ hy.2.1).1⟩
  ·show(W.wk.take i).length<12
   rw[Sx];have:=ok.w4;lia
  ·rw[SZ,ex];exact a1
 rintro f H6 ⟨S6,J,v5,v6,v7,rfl⟩;rw[SY (by rw[s0.length];exact Sg _)]at J;exact⟨_,R,u0 n b H6 S6 J j⟩
def WQ(W:Z7)(y:Tp):Zo:=⟨y.nm,((ZO Yl.nm W.ru y.ru).map Yl.r).getD .always,y.cs⟩
def ZL(W:Z7):List Zo:=W.tp.map (WQ W)
structure Qf(H:Hp)(wd:Addr)(W:Z7):Prop where
 ex:∃kvs dr dp rr rp,H wd=some (.dK kvs)/\Zz kvs (Sum.inr (OK "rules"))=some (.ref dr)/\Zz kvs (Sum.inr (OK "trips"))=some (.ref dp)/\Rd H dr (.dK rr)/\Rd H dp (.dK rp)/\Al (XQ H) rr W.ru/\Al (Xl H) rp W.tp
theorem Qf.same{H e:Hp}{c:Addr}{W:Z7}(s:Ze H e)(h:Qf H c W):Qf e c W:=by
 obtain⟨g,dr,dp,i,rp,v,j,y,n,x,f,u⟩:=h.ex;exact⟨g,dr,dp,i,rp,s _ _ v,j,y,n.imp (s _ _) fun⟨o,q⟩=>⟨o,s _ _ q⟩,x.imp (s _ _) fun⟨o,q⟩=>⟨o,s _ _ q⟩,f.imp fun _ _=>XQ.same s,u.imp fun _ _=>Xl.same s⟩
structure UT(H:Hp)(wd:Addr)(x:Zo)(ru:Str):Prop where
 ex:∃kvs dr dp rr rp r l vs v tp,H wd=some (.dK kvs)/\Zz kvs (Sum.inr (OK "rules"))=some (.ref dr)/\Zz kvs (Sum.inr (OK "trips"))=some (.ref dp)/\Rd H dr (.dK rr)/\Rd H dp (.dK rp) /\
  Zz rp (Sum.inr x.nm)=some (.ref r)/\H r=some (.tup [.str ru,.ref l])/\H l=some (.lst vs)/\Al (Yw H) vs x.cs/\Zz rr (Sum.inr ru)=some v/\YQ tp H v x.r
theorem UT.same{H e:Hp}{c:Addr}{x:Zo}{ru:Str}(s:Ze H e)(h:UT H c x ru):UT e c x ru:=by
 obtain⟨j,dr,dp,n,rp,r,l,u,v,tp,E,y,D,B,I,i,C,G,f,g,J⟩:=h.ex;exact⟨j,dr,dp,n,rp,r,l,u,v,tp,s _ _ E,y,D,B.imp (s _ _) fun⟨o,q⟩=>⟨o,s _ _ q⟩,I.imp (s _ _) fun⟨o,q⟩=>⟨o,s _ _ q⟩,i,s _ _ C,s _ _ G,f.imp fun _ _=>Yw.same s,g,J.same s⟩
theorem Ku{c e:Type}{nm:c->Str}{f:c->e}{nm':e->Str}(h:∀x,nm' (f x)=nm x)(z:Str):∀xs:List c,ZO nm' (xs.map f) z=(ZO nm xs z).map f
 |[]=>rfl
 |x::r=>by
  unfold ZO;rw[SL,List.find?_cons,List.find?_cons,h];cases decide (nm x=z)with
  |true=>rfl
  |false=>exact Ku h z r
theorem Qf.trip{H:Hp}{q:Addr}{W:Z7}(h:Qf H q W)(ok:US W){z:Str}{x:Zo}(e:ZO Zo.nm (ZL W) z=some x):∃ru,UT H q x ru/\x.Ok/\x.nm=z/\2<=x.cs.length/\WG (W.st.map Yk.nm) x.cs:=by
 obtain⟨G,dr,dp,X,rp,Y,S,e3,I,U,Q,D⟩:=h.ex;unfold ZL at e;rw[Ku (nm:=Tp.nm) (f:=WQ W) (nm':=Zo.nm) (fun _=>R)]at e;obtain⟨y,j,rfl⟩:=Of.mp e;have c:=ok.po y (X2 j).1;obtain⟨u,v,Z⟩:=SI.mp c.2.1;have i:ZO Yl.nm W.ru y.ru=some u:=by rw[<-Z];exact VC ok.rn v
 obtain⟨g,M,_,r,l,C,L,T,O,al⟩:=(XA (fun g x (h:Xl H g x)=>h.1) D z).2 y j;obtain⟨B,J,_,tp,E⟩:=(XA (fun g x (h:XQ H g x)=>h.1) Q y.ru).2 u i;have n:=(X2 j).2;refine⟨y.ru,⟨G,dr,dp,X,rp,r,l,C,B.2,tp,Y,S,e3,I,U,?_,T,O,al,J,?_⟩,⟨?_,c.2.2.2.2⟩,n,c.2.2.2.1,c.2.2.1⟩
 ·show Zz rp (Sum.inr y.nm)=_
  rw[n,M,L]
 ·show YQ tp H B.2 (((ZO Yl.nm W.ru y.ru).map Yl.r).getD .always)
  rw[i];exact E
 ·show R3.Ok (((ZO Yl.nm W.ru y.ru).map Yl.r).getD .always)
  rw[i];exact(ok.ro u v).2
def XI(H:Hp)(c:List (List Zl×V))(f:ZQ):Prop:=∀(z:Str) (day:Nat),match f z day with
 |none=>Zz c (Z6 day z)=none
 |some none=>Zz c (Z6 day z)=some .non
 |some (some e)=>∃l,Zz c (Z6 day z)=some (.ref l)/\H l=some (.lst (e.map fun n=>V.int (n:Nat)))
theorem XI.keep{H g:Hp}{f:List (List Zl×V)}{c:ZQ}(k:∀l xs,H l=some (.lst xs)->g l=some (.lst xs))(h:XI H f c):XI g f c:=fun z i=>by
 have:=h z i;revert this;cases c z i with
 |none=>exact id
 |some o=>cases o with
  |none=>exact id
  |some j=>exact fun⟨l,e,h⟩=>⟨l,e,k _ _ h⟩
theorem XI.same{H e:Hp}{f:List (List Zl×V)}{c:ZQ}(s:Ze H e)(h:XI H f c):XI e f c:=h.keep fun _ _=>s _ _
inductive ZbO(vs:List V)(H:Hp)(Q:VK)(_e3:XK):Prop|mk (wd g:Addr) (day:Nat) (x:Zo) (ru:Str) (kvs:List (List Zl×V)) (GF:ZQ) (_:vs=[.ref wd,.ref g,.str x.nm,.int day]) (_:UT H wd x ru) (_:x.Ok) (_:H g=some (.dT kvs)) (_:XI H kvs GF) (_:(∀ls,GF x.nm day=some (some ls)->ls.length=x.cs.length)) (_:(X4 x (GF x.nm day) day=none->∀H',Ze H H'->Q .non H')) (_:∀ms,X4 x (GF x.nm day) day=some ms->∀l vs H',Ze H H'->H l=none->H' l=some (.lst vs)->Al (X1 H') vs ms->Q (.ref l) H')
theorem ZbP(v:Zs K mg t):Zq P w K mg base Zt 12 t.jL t.jM ["_law_world_here","_law_gaps","_law_trip","_law_day"] ZbO:=by
 refine v.RP.F.ok UK (by lia) fun b1 A outer s j0 u a1 f1 y a0=>?_;obtain⟨wd,h0,e,x,ru,Y,E,rfl,hT,c0,hg,gp,s0,X,q2⟩:=a0;obtain⟨wk,dr,dp,rr,rp,r,H,D,i0,tp,e1,e2,e3,e4,e5,e6,e7,Q,e9,v0,x0⟩:=hT.ex;have z0:=e9.length;have l6:=c0.len;refine⟨_,(Zi (VX (YB y (YB y (pv 0) ZA) (pv 2)) (Vm (n:=2) R (Yv (ZY 4 UK.nd) (Yv (ZY 5 UK.nd) WJ)))) (Zi (ZR 6 UK.nd (B5 (YZ y) (pv 1) (Yj (Zr (pv 3) (pv 2))) (Zd Xc (Z2 (Zj Zb)) (ZV Xm v.Y9 Y8 (Zj (pv 5)))) ⟨R,R,R,R⟩)) (Zi (ZJ (PW.pt (UX (Qk (zB (pv 6))) (UW (YI (YL (ZC v.WO (ZbN v 8) y Zp (Zr (YB y (YB y (pv 0) ZA) (pv 4)) (pv 3)))))))) (Zh (Zx W2)) ZK) (Zi (ZR 7 UK.nd (Z2 XE)) (Zi (XG (Uh R v.Vy (Zj (ZV Xm v.Y9 Y8 (Zj (pv 5))))) (ZY 8 UK.nd) (Zi (VX (Zu Yq (pv 5) (pv 8)) (Vm (n:=3) R (Yv (ZY 9 UK.nd) (Yv (ZY 10 UK.nd) (Yv (ZY 11 UK.nd) WJ))))) (Zh (Yh (F5 PySem.F.plainAttrs_list PySem.F.slot_list_append PySem.F.type_list_append KO (pv 7) (Zj (Yj (Yr (pv 9) (Zd Ya (Zd Ya (Zd Uk Zb (pv 3)) (pv 10)) (Zu Yq (pv 6) (pv 8))) (Zd Ya (Zd Ya (Zd Uk Zb (pv 3)) (pv 11)) (Zu Yq (pv 6) (pv 8))))))))))) (Zh (Zx (pv 7)))))))),?_⟩;sleep 6;refine⟨_,R,wd,.ref dp,R,by rw[<-e3];exact Z9.k (k:=Sum.inr (OK "trips")) e1,_,R,dp,.ref r,R,.inl ⟨rp,Sum.inr x.nm,e5,R,e6.symm⟩,r,_,R,Zk.of e7,R,_,_,R,_,_,R,R,?_⟩;refine⟨_,R,h0,R,.inr ⟨Y,.inl hg⟩,_,R,_,R,by show 2<=sizeLine;lia,fun pk gk=>?_⟩;generalize f:Za j0 pk _=H1;have s1:=ZM gk f;have c1:=ZN f;clear f;refine⟨by show 1<=sizeLine;lia,fun p0 g0=>?_⟩;generalize f:Za H1 p0 _=H2;have s2:=ZM g0 f;have c2:=ZN f;clear f;have S2:=s1.trans s2;refine⟨_,R,H,_,R,.inl (Zg.of (S2 _ _ Q)),p0,((D.length:Nat):Int),_,R,R,c2,by lia,by lia,by show 1*_<=sizeLine;exact Sh (show _<=6 by lia) (by lia),fun pr gr=>?_⟩;rw[show(List.replicate ((D.length:Nat):Int).toNat [V.int 0]).flatten=(List.replicate x.cs.length 0).map fun n:Nat=>V.int (n:Nat) by rw[show((D.length:Nat):Int).toNat=x.cs.length by lia];exact Qe _ 0];generalize f:Za H2 pr _=H3;have s3:=ZM gr f;have c3:=ZN f;clear f;have q:=S2.trans s3;refine⟨_,Z9.t (k:=Z6 e x.nm) (q _ _ hg) ((s2.trans s3) _ _ c1),?_⟩;have B:=gp.same q x.nm e;have t0:E x.nm e=some none/\Zz Y (Z6 e x.nm)=some .non\/E x.nm e≠some none/\∃g,(Zz Y (Z6 e x.nm)).getD (.ref pr)=.ref g/\H3 g=some (.lst ((Xo x (E x.nm e)).map fun n=>V.int (n:Nat))):=by
  revert B;cases E x.nm e with
  |none=>exact fun B=>.inr ⟨fun z=>(nomatch z),pr,by rw[B];rfl,c3⟩
  |some o=>cases o with
   |none=>exact fun B=>.inl ⟨R,B⟩
   |some ls=>exact fun⟨g,o0,a0⟩=>.inr ⟨fun z=>(nomatch z),g,by rw[o0];rfl,a0⟩
 rcases t0 with⟨hn,e0⟩|⟨hn,g,e0,Z⟩
 ·rw[e0]
  exact⟨_,R,_,R,ZH (SO R) (X (by unfold X4;rw[hn];simp) H3 q)⟩
 rw[e0];refine⟨_,R,_,R,Zn (by rw[SQ (show ¬ V.ref g=V.non from fun z=>nomatch z)];lia) ?_⟩;refine⟨_,R,wd,.ref dr,R,by rw[<-e2];exact Z9.k (k:=Sum.inr (OK "rules")) (q _ _ e1),_,R,dr,i0,R,.inl ⟨rr,Sum.inr ru,e4.imp (q _ _) fun⟨o,m0⟩=>⟨o,q _ _ m0⟩,R,v0.symm⟩,_,R,tp,i0,x.r,e,R,x0.same q,c0.r.1,c0.r.2.2,fun H4 s4=>⟨_,R,?_⟩⟩;have J:=q.trans s4;cases k0:x.r.runs e with
 |false=>exact ZH (by lia) (X (by unfold X4;rw[k0,SU SN]) _ J)
 |true =>
  refine Zn (by lia) ⟨by show 0<=sizeLine;lia,fun j S=>?_⟩;generalize f:Za H4 j _=H5;have s5:=ZM S f;have c5:=ZN f;clear f;have S5:=J.trans s5;have nf:=J.free S;have lm:=Q2 s0;generalize hL:Xo x (E x.nm e)=h at Z lm;have w0:=s5 _ _ (s4 _ _ Z);have n0:g≠j:=ZT (s4 _ _ Z) S;have d1:H≠j:=ZT (J _ _ Q) S;have q3:=q2 _ (by unfold X4;rw[k0,SV R,SU hn,hL]);clear q2 X;refine⟨_,R,H,_,R,.inl (Zg.of (S5 _ _ Q)),_,R,by lia,by lia,Uj (fun i σ L=>∃(u:List V) (v8 v9 b0 U:Option V),Ze j0 L/\L j=some (.lst u)/\L g=some (.lst (h.map fun n=>V.int (n:Nat)))/\Al (X1 (wo L j)) u ((YC (1440*(e:Nat)) x.cs h).take i)/\σ=[some (.ref wd),some (.ref h0),some (.str x.nm),some (.int e),some (.str ru),some (.ref H),some (.ref g),some (.ref j),v8,v9,b0,U])
   ⟨[],_,_,_,_,S5,c5,w0,.nil,R⟩ ?_ ?_⟩
  ·rintro i σ T hi ⟨u,v8,v9,b0,U,I,G,O,C,rfl⟩
   sleep 102;have f0:i<D.length:=by lia
   obtain⟨c,ec,pc,ep,u0⟩:=e9.get (Ss f0);have l0:i<h.length:=by lia
   have r0:YG D (0+(i:Int))=some (.ref pc):=by rw[Int.zero_add,<-ep];exact XF (Ss f0)
   have d0:YG (h.map fun n=>V.int (n:Nat)) (0+(i:Int))=some (.int (h[i]:Nat)):=by rw[Int.zero_add];exact XF (by rw[S0,Ss l0];rfl)
   refine⟨_,R,_,R,H,_,_,_,R,R,Zg.of (I _ _ Q),r0,pc,_,R,Zk.of (I _ _ u0),R,_,_,R,_,_,R,_,_,R,R,?_⟩;refine⟨_,R,.inl ⟨R,_,Zg.of G⟩,_,R,_,R,_,_,R,R,.inl ⟨by lia,by lia⟩,_,R,_,_,R,R,_,R,_,R,g,_,_,_,R,R,Zg.of O,d0,_,_,R,R,_,R,_,_,R,R,.inl ⟨by lia,by lia⟩,_,R,_,_,R,R,_,R,_,R,g,_,_,_,R,R,Zg.of O,d0,_,_,R,R,by show 3<=sizeLine;lia,fun p g6=>?_⟩;generalize f:Za T p _=H7;have M:=ZM g6 f;have c7:=ZN f;clear f;have y0:=C.length;have q0:p≠j:=(ZT G g6).symm;refine⟨j,_,_,R,R,M _ _ G,Sj (show u.length<=6 by rw[y0,Sx];lia) (by lia),?_⟩;refine⟨u++[.ref p],_,_,_,_,Y7 (I.trans M) nf _,Zm,by rw[Zf n0];exact M _ _ O,?_,R⟩;have em:(YC (1440*(e:Int)) x.cs h)[i]? = some (VB (1440*(e:Nat)) c h[i]):=by
    unfold YC;rw[List.getElem?_zipWith,ec,Ss l0]
   rw[SZ,em,vD];refine(C.imp fun _ _=>X1.same (vC (l:=j) M)).snoc ⟨p,R,ZX ?_ q0⟩;rw[c7];show some (HO.tup [.str c.st,.int (1440*(e:Int)+((c.ar:Nat):Int)+((h[i]:Nat):Int)),.int (1440*(e:Int)+((c.lv:Nat):Int)+((h[i]:Nat):Int))])=some (.tup [.str c.st,.int (1440*(e:Int)+((h[i]:Nat):Int)+((c.ar:Nat):Int)),.int (1440*(e:Int)+((h[i]:Nat):Int)+((c.lv:Nat):Int))]);rw[Int.add_right_comm (1440*(e:Int)) ((c.ar:Nat):Int),Int.add_right_comm (1440*(e:Int)) ((c.lv:Nat):Int)]
  ·rintro σ T ⟨u,v8,v9,b0,U,I,G,O,C,rfl⟩
   rw[SY (by unfold YC;rw[List.length_zipWith];lia)]at C;exact⟨_,R,q3 j u T I nf G (C.imp fun _ _=>X1.same B6)⟩
theorem ZbQ{H:Hp}{j:List (List Zl×V)}{g:ZQ}{x:Zo}{day:Nat}{pr:Addr}(gp:XI H j g)(hn:g x.nm day≠some none)(c:H pr=some (.lst ((List.replicate x.cs.length 0).map fun n:Nat=>V.int (n:Nat)))) :
  ∃f,(Zz j (Z6 day x.nm)).getD (.ref pr)=.ref f/\H f=some (.lst ((Xo x (g x.nm day)).map fun n=>V.int (n:Nat))):=by
 have i:=gp x.nm day;revert i hn;cases g x.nm day with
 |none=>exact fun _ i=>⟨pr,by rw[i];rfl,c⟩
 |some o=>cases o with
  |none=>exact fun hn=>Oq R hn
  |some q=>exact fun _ ⟨f,e,h⟩=>⟨f,by rw[e];rfl,h⟩
inductive Zkn(vs:List V)(H:Hp)(Q:VK)(_e3:XK):Prop|mk (wd g:Addr) (day c k:Nat) (x:Zo) (ru:Str) (kvs:List (List Zl×V)) (GF:ZQ) (NS:OC) (_:vs=[.ref wd,.ref g,.str x.nm,.int day,.int c,.int k]) (_:UT H wd x ru) (_:x.Ok) (_:H g=some (.dT kvs)) (_:XI H kvs GF) (_:(∀ls,GF x.nm day=some (some ls)->ls.length=x.cs.length)) (_:GF x.nm day≠some none) (_:c<x.cs.length) (_:WG NS x.cs) (_:∀H',Ze H H'->Q (.bl (We (YC 0 x.cs (YW x (GF x.nm day) c k)))) H')
theorem Zko(C:Zs K mg t):Zq P w K mg base Zt 1 t.jN t.jO ["_law_world_here","_law_gaps","_law_trip","_law_day","_law_call","_law_minutes"] Zkn:=by
 refine C.ZaA.F.ok C3 (by lia) fun a1 A outer s n0 vs y0 d1 O h=>?_;obtain⟨wd,a0,G,c,k,x,ru,j0,S,NS,rfl,hT,t0,hg,gp,b0,hn,hc,cs,q⟩:=h;obtain⟨wk,dr,dp,rr,rp,r,v,g,z0,tp,e1,e2,e3,e4,e5,e6,e7,E,X,b1,f1⟩:=hT.ex;have x0:=X.length;have l6:=t0.len;have lm:=Q2 b0;refine⟨_,(Zi (ZR 6 C3.nd (Zu ZP (YB O (YB O (pv 0) ZA) (pv 2)) Zb)) (Zi (ZR 7 C3.nd (B5 (YZ O) (pv 1) (Yj (Zr (pv 3) (pv 2))) (Zd Xc (Z2 (Zj Zb)) (ZV Xm C.Y9 Y8 (Zj (pv 6)))) ⟨R,R,R,R⟩)) (Zi (ZR 8 C3.nd (Zd Xx (Um U0 (pv 7) UA (VI (pv 4))) (Zd Xc (Z2 (Zj (pv 5))) (Zd Wh (ZV Xm C.Y9 Y8 (Zj (pv 6))) (pv 4))))) (Zi (XG (Uh R C.Vy (Zj (Zd Wh (ZV Xm C.Y9 Y8 (Zj (pv 6))) Zb))) (ZY 9 C3.nd) (Zi (ZR 10 C3.nd (Zd Ya (Zu ZP (Zu Yq (pv 6) (pv 9)) Zb) (Zu Yq (pv 8) (pv 9)))) (Zh (ZJ (Z5 WS (Zd Ya (Zu ZP (Zu Yq (pv 6) (Zd Ya (pv 9) Zb)) Zb) (Zu Yq (pv 8) (Zd Ya (pv 9) Zb))) (pv 10)) (Zh (Zx XD)) ZK)))) (Zh (Zx XD)))))),?_⟩;sleep 5;refine⟨_,R,wd,.ref dp,R,by rw[<-e3];exact Z9.k (k:=Sum.inr (OK "trips")) e1,_,R,dp,.ref r,R,.inl ⟨rp,Sum.inr x.nm,e5,R,e6.symm⟩,r,_,1,_,R,R,Zk.of e7,R,?_⟩;refine⟨_,R,a0,R,.inr ⟨j0,.inl hg⟩,_,R,_,R,by show 2<=sizeLine;lia,fun pk gk=>?_⟩;generalize e:Za n0 pk _=H1;have s1:=ZM gk e;have c1:=ZN e;clear e;refine⟨by show 1<=sizeLine;lia,fun p0 g0=>?_⟩;generalize e:Za H1 p0 _=H2;have s2:=ZM g0 e;have c2:=ZN e;clear e;have Z:=s1.trans s2;refine⟨_,R,v,_,R,.inl (Zg.of (Z _ _ E)),p0,((g.length:Nat):Int),_,R,R,c2,by lia,by lia,by show 1*_<=sizeLine;exact Sh (show _<=6 by lia) (by lia),fun pr gr=>?_⟩;rw[show(List.replicate ((g.length:Nat):Int).toNat [V.int 0]).flatten=(List.replicate x.cs.length 0).map fun n:Nat=>V.int (n:Nat) by rw[show((g.length:Nat):Int).toNat=x.cs.length by lia];exact Qe _ 0];generalize e:Za H2 pr _=H3;have Y:=ZM gr e;have c3:=ZN e;clear e;have L:=Z.trans Y;refine⟨_,Z9.t (k:=Z6 G x.nm) (L _ _ hg) ((s2.trans Y) _ _ c1),?_⟩;obtain⟨ll,e0,k0⟩:=ZbQ (gp.same L) hn c3;rw[e0];refine⟨_,R,_,R,_,R,ll,_,R,Zg.of k0,fun l4 g4=>?_⟩;rw[Q3,<-Oe];generalize e:Za H3 l4 _=H4;have s4:=ZM g4 e;have c4:=ZN e;clear e;refine⟨_,R,by show 1<=sizeLine;lia,fun p5 g5=>?_⟩;generalize e:Za H4 p5 _=H5;have s5:=ZM g5 e;have c5:=ZN e;clear e;have S5:=(L.trans s4).trans s5;refine⟨_,R,v,_,R,.inl (Zg.of (S5 _ _ E)),_,R,_,_,R,R,p5,((g.length:Nat):Int) - (c:Int),_,R,R,c5,by lia,by lia,by show 1*_<=sizeLine;exact Sh (show _<=6 by lia) (by lia),fun p6 g6=>?_⟩;rw[show(((g.length:Nat):Int) - (c:Int)).toNat=x.cs.length - c by lia,Qe];generalize e:Za H5 p6 _=H6;have s6:=ZM g6 e;have c6:=ZN e;clear e;refine⟨l4,p6,_,_,R,R,(s5.trans s6) _ _ c4,c6,by rw[Sv,Sv,Sx,Sz,lm];exact Sh (show _<=6 by lia) (by lia),fun J g7=>?_⟩;rw[<-SK,show(Xo x (S x.nm G)).take c++List.replicate (x.cs.length - c) k=YW x (S x.nm G) c k from R];have ln:=Kr b0 k (show c<=x.cs.length by lia);generalize YW x (S x.nm G) c k=f at ln q ⊢;generalize e:Za H6 J _=H7;have s7:=ZM g7 e;have c7:=ZN e;clear e;have u:=(S5.trans s6).trans s7;have iff:=Ko (YC 0 x.cs f);have w0:(YC 0 x.cs f).length=x.cs.length:=by unfold YC;rw[List.length_zipWith,ln,Nat.min_self]
 have I:∀i (H:i<x.cs.length),(YC 0 x.cs f)[i]? = some (VB 0 x.cs[i] (f[i]'(by lia))):=fun i H=>by
  unfold YC;rw[List.getElem?_zipWith,Ss H,Ss (by lia)]
 have fl:∀i (H:i+1<x.cs.length),Vk (VB 0 x.cs[i+1] (f[i+1]'(by lia))) (VB 0 x.cs[i] (f[i]'(by lia)))=decide ((x.cs[i].lv:Int)+(f[i]'(by lia):Nat)<x.cs[i+1].ar+(f[i+1]'(by lia):Nat)):=fun i H=>by
  have hf:=cs.fol i x.cs[i] x.cs[i+1] (Ss _) (Ss _);unfold Vk;rw[SQ (show ¬ V.str (VB 0 x.cs[i+1] (f[i+1]'(by lia))).1=V.str (VB 0 x.cs[i] (f[i]'(by lia))).1 from fun d0=>hf.1 (by injection d0))];show(true && decide _)=_;rw[Os];refine decide_eq_decide.mpr ?_;show(0:Int)+((f[i+1]'(by lia):Nat):Int)+(x.cs[i+1].ar:Nat)>0+((f[i]'(by lia):Nat):Int)+(x.cs[i].lv:Nat)↔_;constructor<;>intro h<;>omega
 refine⟨_,R,v,_,R,.inl (Zg.of (u _ _ E)),_,_,R,R,_,R,by lia,by lia,Uj (fun i Q H'=>H'=H7/\(∀j a b,j<i->(YC 0 x.cs f)[j]? = some a->(YC 0 x.cs f)[j+1]? = some b->Vk b a=true)/\∃U T:Option V,Q=[some (.ref wd),some (.ref a0),some (.str x.nm),some (.int G),some (.int c),some (.int k),some (.ref v),some (.ref ll),some (.ref J),U,T])
  ⟨R,fun _ _ _ h=>(nomatch h),_,_,R⟩ ?_ ?_⟩
 ·rintro i Q H8 H ⟨rfl,ok,U,T,rfl⟩
  sleep 102;have M:i+1<x.cs.length:=by lia
  obtain⟨ca,h0,pa,u0,m0⟩:=X.get (Ss (show i<g.length by lia));obtain⟨cb,f0,pb,v0,r0⟩:=X.get (Ss (show i+1<g.length by lia));have i0:YG g (0+(i:Int))=some (.ref pa):=by rw[Int.zero_add,<-u0];exact XF (Ss _)
  have q0:YG g (0+(i:Int)+1)=some (.ref pb):=by rw[Int.zero_add,<-v0];exact XF (j:=i+1) (Ss _)
  have s0:YG (f.map fun n=>V.int (n:Nat)) (0+(i:Int))=some (.int (f[i]:Nat)):=by rw[Int.zero_add];exact XF (by rw[S0,Ss (show i<f.length by lia)];rfl)
  have l0:YG (f.map fun n=>V.int (n:Nat)) (0+(i:Int)+1)=some (.int (f[i+1]:Nat)):=by rw[Int.zero_add];exact XF (j:=i+1) (by rw[S0,Ss (show i+1<f.length by lia)];rfl)
  refine⟨_,R,_,R,v,_,_,_,R,R,Zg.of (u _ _ E),i0,pa,_,2,_,R,R,Zk.of (u _ _ m0),R,_,R,_,R,J,_,_,_,R,R,Zg.of c7,s0,_,_,R,R,?_⟩;refine⟨_,R,_,R,_,_,R,R,v,_,_,_,R,R,Zg.of (u _ _ E),q0,pb,_,1,_,R,R,Zk.of (u _ _ r0),R,_,R,_,R,_,_,R,R,J,_,_,_,R,R,Zg.of c7,l0,_,_,R,R,_,R,_,_,R,R,_,R,?_⟩;obtain⟨_,rfl⟩:=Sr.mp h0;obtain⟨_,rfl⟩:=Sr.mp f0;have c0:=fl i M;refine WM (fun D=>?_) (fun D=>?_)
  ·sleep 1;have D:=SR D
   have:We (YC 0 x.cs f)=false:=by
    cases hb:We (YC 0 x.cs f)with
    |false=>rfl
    |true =>
     have:=iff.mp hb i _ _ (I i (by lia)) (I (i+1) M);rw[c0]at this;have:=SR this;lia
   rw[this]at q;exact q _ u
  ·sleep 1;have D:=SS (Oh.mpr D)
   refine⟨R,fun j a b hj B y=>?_,_,_,R⟩;by_cases o0:j<i
   ·exact ok j a b o0 B y
   ·obtain rfl:j=i:=by lia
    rw[I j (by lia)]at B;rw[I (j+1) M]at y;cases B;cases y;rw[c0];exact SO (by lia)
 ·rintro Q H8 ⟨rfl,ok,U,T,rfl⟩
  have:We (YC 0 x.cs f)=true:=iff.mpr fun i a b B y=>ok i a b (by have:=(Sr.mp y).1;lia) B y;rw[this]at q;exact q _ u
def Wn.txt:Wn->Str
 |.trip=>OK "trip"
 |.clock=>OK "clock"
 |.run=>OK "run"
 |.number=>OK "number"
 |.calls=>OK "calls"
def Kv:Option Wn->V
 |none=>.non
 |some w=>.str w.txt
def Wf(TS:List Zo)(g:ZQ)(f:Nat)(c e h i:V):Option Wn:=if f=0 then X5 TS g c e h i else if f=1 then Xa TS g c e else if f=2 then Xk TS c e else Xt TS c e
theorem ZbR{TS:List Zo}{f:ZQ}{e:Nat}{g i j n:V}{w:Wn}(h:Xa TS f g i=some w)(q:e<2):Wf TS f e g i j n=some w:=by
 have l:X5 TS f g i j n=some w:=by unfold X5;rw[h]
 unfold Wf;by_cases c:e=0
 ·rw[SV c];exact l
 ·rw[SU c,SV (show e=1 by lia)];exact h
theorem ZbS{TS:List Zo}{j:ZQ}{e:Nat}{f g i n:V}{w:Wn}(h:Xk TS f g=some w)(q:e<3):Wf TS j e f g i n=some w:=by
 by_cases c:e<2
 ·exact ZbR (by unfold Xa;rw[h]) c
 ·unfold Wf
  rw[SU (by lia),SU (by lia),SV (show e=2 by lia)];exact h
theorem ZbT{TS:List Zo}{j:ZQ}{e:Nat}{f g i n:V}{w:Wn}(h:Xt TS f g=some w)(q:e<=3):Wf TS j e f g i n=some w:=by
 by_cases c:e<3
 ·exact ZbS (by unfold Xk;rw[h]) c
 ·unfold Wf
  rw[SU (by lia),SU (by lia),SU (by lia)];exact h
theorem Zkp{H:Hp}{W:Z7}{rp:List (Zl×V)}(h:Al (Xl H) rp W.tp)(z:Str):(Zz rp (Sum.inr z)).isSome=(ZO Zo.nm (ZL W) z).isSome:=by
 unfold ZL;rw[Ku (nm:=Tp.nm) (f:=WQ W) (nm':=Zo.nm) (fun _=>R),Option.isSome_map];have:=XA (fun c x (h:Xl H c x)=>h.1) h z;cases e:ZO Tp.nm W.tp z with
 |none=>rw[this.1 e];rfl
 |some x=>obtain⟨c,g,_⟩:=this.2 x e;rw[g];rfl
inductive Zkq(K:Ow)(vs:List V)(H:Hp)(Q:VK)(_e3:XK):Prop|mk (wd g lg:Addr) (way:Nat) (vt vd vc vm:V) (W:Z7) (kvs:List (List Zl×V)) (GF:ZQ) (_:vs=[.ref wd,.ref g,.int way,.ref lg]) (_:Qf H wd W) (_:US W) (_:H g=some (.dT kvs)) (_:XI H kvs GF) (_:Xg (ZL W) GF) (_:way<=3) (_:H lg=some (.lst [vt,vd,vc,vm])) (_:(∃T,Kd H vt T)) (_:(∃T,Kd H vd T)) (_:(∃T,Kd H vc T)) (_:(∃T,Kd H vm T)) (_:∀H',Ze H H'->Q (Kv (Wf (ZL W) GF way vt vd vc vm)) H')
theorem Zkr(i:Zs K mg t):Zq P w K mg base Zt 10 t.jP t.jQ ["_law_world_here","_law_gaps","_law_way","_law_given_here"] (Zkq K):=by
 refine i.ZaB.F.ok QB (by lia) fun z0 A outer s H vs p0 b1 y h=>?_;obtain⟨G,g,lg,v,S,T,D,C,W,U,B,rfl,hW,j0,hg,gp,k0,hw,w0,⟨Tt,kt⟩,⟨Td,kd⟩,⟨Tc,kc⟩,⟨Tm,km⟩,q⟩:=h;obtain⟨wk,dr,dp,rr,rp,e1,e2,e3,e4,e5,e6,e7⟩:=hW.ex;refine⟨_,(Zi (VX (pv 3) (M4 (n:=4) R (Yv (ZY 4 QB.nd) (Yv (ZY 5 QB.nd) (Yv (ZY 6 QB.nd) (Yv (ZY 7 QB.nd) WJ)))))) (Zi (ZJ (PW.pt (UX (YI (YL (ZV V3 i.Y2 Y1 (Zr (pv 4) (VL R i.Lp Lh))))) (UW (Qk (Zfi (YZ y) (pv 4) (YB y (pv 0) ZA)))))) (Zh (Zx ZA)) ZK) (Zi (ZJ (YI (YL (ZC i.Ls (TN i) y Zp (Yr (pv 5) Zb Zb)))) (Zh (Zx ZA)) ZK) (Zi (VX (YB y (YB y (pv 0) ZA) (pv 4)) (Vm (n:=2) R (Yv (ZY 8 QB.nd) (Yv (ZY 9 QB.nd) WJ)))) (Ww (ZJ (PW.pt (Q9 (Z5 F0 (pv 2) Zb) (Q8 (YI (YL (ZC i.WO (ZbN i 8) y Zp (Zr (YB y (YB y (pv 0) ZA) (pv 8)) (pv 5)))))))) (Zh (Zx ZA)) ZK) (Ww (ZJ (PW.pt (Q9 (Z5 F0 (pv 2) Zb) (Q8 (Qk (zB (B5 (YZ y) (pv 1) (Yj (Zr (pv 5) (pv 4))) Zb ⟨R,R,R,R⟩)))))) (Zh (Zx ZA)) ZK) (Zi (ZJ (PW.pt (Q9 (Z5 YE (pv 2) Zb) (Q8 (YI (PW.pt (Q9 (YL (ZC i.Ls (TN i) y Zp (Yr (pv 6) Zb (Zd Wh (ZV Xm i.Y9 Y8 (Zj (pv 9))) Zb)))) (Q8 (YL (ZC i.Ls (TN i) y Zp (Yr (pv 7) Zb Zb)))))))))) (Zh (Zx ZA)) ZK) (Zi (ZJ (PW.pt (Q9 (Z5 YE (pv 2) Zb) (Q8 (YI (YL (ZC i.ZaA (Zko i) y Zp (M9 (pv 0) (pv 1) (pv 4) (pv 5) (pv 6) (pv 7)))))))) (Zh (Zx ZA)) ZK) (Zh (Zx W2)))))))))),?_⟩;sleep 5;refine⟨_,R,lg,_,R,Zg.of w0,R,_,_,R,_,_,R,_,_,R,_,_,R,R,?_⟩;refine⟨_,R,S,"str",_,_,R,kt.ty,KZ kt,_,R,?_⟩;have E:Xt (ZL W) S T=some .trip->p0 (.str (OK "trip")) H:=fun h=>by
  have:=q H (Ze.refl H);rw[ZbT h hw]at this;exact this
 have J:(∀z,S≠.str z)->Xt (ZL W) S T=some .trip:=fun h=>by
  unfold Xt;rw[SV (by cases S with|str z=>exact Oq rfl (h z)|_=>rfl)]
 cases kt with
 |non=>exact ZH (by lia) (ZH R (E (J fun _ z=>(nomatch z))))
 |bl b=>exact ZH (by lia) (ZH R (E (J fun _ z=>(nomatch z))))
 |int b=>exact ZH (by lia) (ZH R (E (J fun _ z=>(nomatch z))))
 |lst e=>exact ZH (by lia) (ZH R (E (J fun _ z=>(nomatch z))))
 |tup e=>exact ZH (by lia) (ZH R (E (J fun _ z=>(nomatch z))))
 |dK e=>exact ZH (by lia) (ZH R (E (J fun _ z=>(nomatch z))))
 |str z =>
 refine Zn (by lia) ⟨_,R,_,R,G,.ref dp,R,by rw[<-e3];exact Z9.k (k:=Sum.inr (OK "trips")) e1,dp,Zz rp (Sum.inr z),R,.inl ⟨rp,Sum.inr z,e5,R,R⟩,_,R,?_⟩;rw[Zkp e7];cases I:ZO Zo.nm (ZL W) z with
 |none=>exact ZH R (E (by unfold Xt;rw[SV (by show(ZO Zo.nm (ZL W) z).isNone=true;rw[I];rfl)]))
 |some x =>
 refine Zn (by show ¬ (!true)=true;lia) ⟨_,R,T,Td,0,9999,R,kd,_,R,?_⟩;have dN:¬ (Wt (ZL W) (.str z)).isNone=true:=by show ¬ (ZO Zo.nm (ZL W) z).isNone=true;rw[I];exact SN
 cases hd:Xz T 0 9999 with
 |false =>
  have u:=q H (Ze.refl H);rw[ZbT (by unfold Xt;rw[SU dN,SV hd]) hw]at u;exact ZH (by lia) u
 |true =>
 refine Zn (by lia) ?_;sleep 1;obtain⟨f,rfl,d9⟩:=D5 hd;have a1:f<=9999:=by lia
 have hD:Xt (ZL W) (.str z) (.int f)=none:=by unfold Xt;rw[SU dN,SU (by rw[hd];lia)]
 obtain⟨ru,hT,d0,hz,l2,cs⟩:=hW.trip j0 I;obtain⟨y0,e0,f0,o0,t0,r,lc,q0,h0,tp,f1,f2,f3,f4,f5,f6,f7,f8,f9,m0,v0⟩:=hT.ex;subst hz;have l0:=f9.length;have r0:∀Q,B x.nm f=some (some Q)->Q.length=x.cs.length:=fun Q h=>k0 x (X2 I).1 f Q h;have hR:Xk (ZL W) (.str x.nm) (.int f)=if x.r.runs f=true then none else some .run:=by
  unfold Xk;rw[hD];show(if VT (ZL W) (.str x.nm) (.int f)=true then none else some Wn.run)=_;rw[show VT (ZL W) (.str x.nm) (.int f)=x.r.runs f by unfold VT;rw[show Wt (ZL W) (.str x.nm)=some x from I];rfl]
 refine⟨_,R,G,.ref f0,R,by rw[<-f3];exact Z9.k (k:=Sum.inr (OK "trips")) f1,_,R,f0,.ref r,R,.inl ⟨t0,Sum.inr x.nm,f5,R,f6.symm⟩,r,_,R,Zk.of f7,R,_,_,R,_,_,R,R,?_⟩;refine⟨fun b0 Y=>Ze H Y/\(v<3->x.r.runs f=true)/\b0=[some (.ref G),some (.ref g),some (.int v),some (.ref lg),some (.str x.nm),some (.int f),some D,some C,some (.str ru),some (.ref lc)],?_,?_⟩
 ·sleep 1;refine⟨_,R,_,_,R,R,_,R,?_⟩
  by_cases c3:v<3
  ·refine ZH (SO (by lia)) ⟨_,R,G,.ref e0,R,by rw[<-f2];exact Z9.k (k:=Sum.inr (OK "rules")) f1,_,R,e0,h0,R,.inl ⟨o0,Sum.inr ru,f4,R,m0.symm⟩,_,R,tp,h0,x.r,f,R,v0,d0.r.1,d0.r.2.2,fun H1 s1=>⟨_,R,?_⟩⟩
   cases i0:x.r.runs f with
   |false =>
    have u:=q H1 s1;rw[ZbS (by rw[hR,i0];rfl) c3]at u;exact ZH (by lia) u
   |true=>exact Zn (by lia) ⟨s1,fun _=>i0,R⟩
  ·exact Zn (by rw[SQ (by lia)];lia) (Zn (by lia) ⟨Ze.refl H,fun h=>Oq h c3,R⟩)
 rintro σ H1 ⟨X,g0,rfl⟩;sleep 1;have hG:v<3->Xa (ZL W) B (.str x.nm) (.int f)=if B x.nm f=some none then some .run else none:=fun h=>by
  unfold Xa;rw[hR,SV (g0 h)];rfl
 refine⟨fun b0 Y=>Ze H Y/\(v<2->B x.nm f≠some none)/\b0=[some (.ref G),some (.ref g),some (.int v),some (.ref lg),some (.str x.nm),some (.int f),some D,some C,some (.str ru),some (.ref lc)],?_,?_⟩
 ·sleep 1;refine⟨_,R,_,_,R,R,_,R,?_⟩
  by_cases O:v<2
  ·refine ZH (SO (by lia)) ⟨_,R,g,R,.inr ⟨U,.inl (X _ _ hg)⟩,_,R,_,R,by show 2<=sizeLine;lia,fun pk gk=>?_⟩
   generalize hE:Za H1 pk _=M;have s2:=ZM gk hE;have s0:=ZN hE;clear hE;have j:=X.trans s2;refine⟨_,Z9.t (k:=Z6 f x.nm) (j _ _ hg) s0,_,R,?_⟩;have L:=gp x.nm f;by_cases hn:B x.nm f=some none
   ·rw[hn]at L
    have u:=q M j;rw[ZbR (by rw[hG (by lia),SV hn]) O]at u;exact ZH (by rw[show Zz U (Z6 f x.nm)=some .non from L];rfl) u
   ·refine Zn ?_ ⟨j,fun _=>hn,R⟩
    have:(Zz U (Z6 f x.nm)).getD (.int 0)≠.non:=by
     revert L hn;cases B x.nm f with
     |none=>exact fun L _=>by rw[L];exact fun z=>(nomatch z)
     |some o=>cases o with
      |none=>exact fun _ hn=>Oq R hn
      |some Q=>exact fun⟨l,e,_⟩ _=>by rw[e];exact fun z=>(nomatch z)
    rw[SQ this];lia
  ·exact Zn (by rw[SQ (by lia)];lia) (Zn (by lia) ⟨X,fun h=>Oq h O,R⟩)
 rintro σ M ⟨j,a0,rfl⟩;sleep 3;clear X;by_cases Z:v=0
 ·subst Z
  have u0:Xa (ZL W) B (.str x.nm) (.int f)=none:=by rw[hG (by lia),SU (a0 (by lia))]
  have hL:Wf (ZL W) B 0 (.str x.nm) (.int f) D C=if Xz D 0 (((x.cs.length:Nat):Int) - 1)=false then some .number else if Xz C 0 300=false then some .number else if We (YC 0 x.cs (YW x (B x.nm f) (VD D) (VD C)))=true then none else some .calls:=by
   unfold Wf;rw[SV R];unfold X5;rw[u0];dsimp only;rw[show Wt (ZL W) (.str x.nm)=some x from I];rfl
  rw[hL,<-l0]at q;refine⟨_,R,R,_,R,ZH R ⟨_,R,_,R,lc,_,R,.inl (Zg.of (j _ _ f8)),_,_,R,R,D,Tc,0,_,R,kc.same j,_,R,?_⟩⟩;cases hc:Xz D 0 (((q0.length:Nat):Int) - 1)with
  |false =>
   rw[SV hc]at q;exact Zn (by lia) (ZH (by lia) (q M j))
  |true =>
  rw[SU (by rw[hc];lia)]at q;refine ZH R ⟨_,R,C,Tm,0,300,R,km.same j,_,R,?_⟩;cases hm:Xz C 0 300 with
  |false =>
   rw[SV hm]at q;exact ZH (by lia) (q M j)
  |true =>
  rw[SU (by rw[hm];lia)]at q;obtain⟨c,rfl,x0⟩:=D5 hc;obtain⟨k,rfl,d1⟩:=D5 hm;refine Zn (by lia) ⟨_,R,R,_,R,ZH R ?_⟩;refine⟨_,R,_,R,_,R,_,R,_,R,_,R,G,g,f,c,k,x,ru,U,B,_,R,hT.same j,d0,j _ _ hg,gp.same j,r0,a0 (by lia),by lia,cs,fun H3 s3=>⟨_,R,?_⟩⟩;rw[show VD (.int (c:Int))=c from R,show VD (.int (k:Int))=k from R]at q;have u:=q H3 (j.trans s3);cases hb:We (YC 0 x.cs (YW x (B x.nm f) c k))with
  |false=>rw[hb]at u;exact ZH (by lia) u
  |true=>rw[hb]at u;exact Zn (by lia) u
 ·have n0:¬ decide (V.int (v:Int)=V.int 0)=true:=by rw[WK];simpa using Z
  refine⟨_,R,R,_,R,Zn n0 (Zn (by lia) ⟨_,R,R,_,R,Zn n0 (Zn (by lia) ?_)⟩)⟩;have:Wf (ZL W) B v (.str x.nm) (.int f) D C=none:=by
   unfold Wf;rw[SU Z];by_cases c1:v=1
   ·rw[SV c1,hG (by lia),SU (a0 (by lia))]
   ·rw[SU c1]
    by_cases O:v=2
    ·rw[SV O,hR,SV (g0 (by lia))]
    ·rw[SU O];exact hD
  rw[this]at q;exact q M j
inductive Zks(vs:List V)(H:Hp)(Q:VK)(_e3:XK):Prop|mk (wd g:Addr) (day c:Nat) (x:Zo) (ru:Str) (kvs:List (List Zl×V)) (GF:ZQ) (_:vs=[.ref wd,.ref g,.str x.nm,.int day,.int c]) (_:UT H wd x ru) (_:x.Ok) (_:H g=some (.dT kvs)) (_:XI H kvs GF) (_:(∀ls,GF x.nm day=some (some ls)->ls.length=x.cs.length)) (_:c<x.cs.length) (_:∀(n:Nat) H',n<=300->Ze H H'->Q (.int (n:Nat)) H')
theorem Zkt(C:Zs K mg t):Zq P w K mg base Zt 1 t.jR t.jS ["_law_world_here","_law_gaps","_law_trip","_law_day","_law_call"] Zks:=by
 refine C.ZaC.F.ok NJ (by lia) fun w0 A outer s a0 vs u0 y0 L h=>?_;obtain⟨Z,g,u,c,x,ru,I,GF,rfl,hT,n0,hg,gp,M,hc,q⟩:=h;obtain⟨wk,dr,dp,rr,rp,r,G,i,v0,tp,e1,e2,e3,e4,e5,e6,e7,J,O,x0,z0⟩:=hT.ex;have t0:=O.length;have l6:=n0.len;refine⟨_,(Zi (ZR 5 NJ.nd (Zu ZP (YB L (YB L (pv 0) ZA) (pv 2)) Zb)) (Ww (ZR 6 NJ.nd (vE (B5 (YZ L) (pv 1) (Yj (Zr (pv 3) (pv 2))) W2 ⟨R,R,R,R⟩) (WR (Zd Xc (Z2 (Zj Zb)) (ZV Xm C.Y9 Y8 (Zj (pv 5))))))) (Zi (ZJ (Z5 YE (pv 4) Zb) (Zh (Zx Zb)) ZK) (Zh (Zx (ZV (zV R) C.Zan uQ (Zr Zb (ZV (ZcX R) C.Zam uP (Zr Zb (Zd Wh (Zd Ya (Zu ZP (Zu Yq (pv 5) (Zd Wh (pv 4) Zb)) Zb) (Zu Yq (pv 6) (Zd Wh (pv 4) Zb))) (Zu ZP (Zu Yq (pv 5) (pv 4)) Zb))))))))))),?_⟩;sleep 2;refine⟨_,R,Z,.ref dp,R,by rw[<-e3];exact Z9.k (k:=Sum.inr (OK "trips")) e1,_,R,dp,.ref r,R,.inl ⟨rp,Sum.inr x.nm,e5,R,e6.symm⟩,r,_,1,_,R,R,Zk.of e7,R,?_⟩;refine⟨fun j0 T=>∃(f:Addr) (e:OG),Ze a0 T/\T f=some (.lst (e.map fun n=>V.int (n:Nat)))/\e.length=x.cs.length/\j0=[some (.ref Z),some (.ref g),some (.str x.nm),some (.int u),some (.int c),some (.ref G),some (.ref f)],?_,?_⟩
 ·sleep 1;refine⟨_,R,g,R,.inr ⟨I,.inl hg⟩,_,R,_,R,by show 2<=sizeLine;lia,fun pk gk=>?_⟩
  generalize j:Za a0 pk _=B;have E:=ZM gk j;have U:=ZN j;clear j;refine⟨_,Z9.t (k:=Z6 u x.nm) (E _ _ hg) U,?_⟩;have y:=gp.same E x.nm u;have i0:(Zz I (Z6 u x.nm)).getD .non=.non\/∃(f:Addr) (e:OG),(Zz I (Z6 u x.nm)).getD .non=.ref f/\B f=some (.lst (e.map fun n:Nat=>V.int (n:Nat)))/\e.length=x.cs.length:=by
   revert y M;cases GF x.nm u with
   |none=>exact fun _ y=>.inl (by rw[y];rfl)
   |some o=>cases o with
    |none=>exact fun _ y=>.inl (by rw[y];rfl)
    |some ls=>exact fun M ⟨f,d0,h⟩=>.inr ⟨f,ls,by rw[d0];rfl,h,M ls R⟩
  rcases i0 with Q|⟨f,e,Q,D,H⟩
  ·rw[Q]
   refine⟨false,R,Zn (by lia) ⟨by show 1<=sizeLine;lia,fun p0 g0=>?_⟩⟩;generalize j:Za B p0 _=H2;have s2:=ZM g0 j;have c2:=ZN j;clear j;have X:=E.trans s2;refine⟨_,R,G,_,R,.inl (Zg.of (X _ _ J)),p0,((i.length:Nat):Int),_,R,R,c2,by lia,by lia,by show 1*_<=sizeLine;exact Sh (show _<=6 by lia) (by lia),fun pr gr=>?_⟩;rw[show(List.replicate ((i.length:Nat):Int).toNat [V.int 0]).flatten=(List.replicate x.cs.length 0).map fun n:Nat=>V.int (n:Nat) by rw[show((i.length:Nat):Int).toNat=x.cs.length by lia];exact Qe _ 0];exact⟨pr,List.replicate x.cs.length 0,X.trans (Zy gr _),Zm,Sz,R⟩
  ·rw[Q]
   refine⟨_,.inl ⟨_,Zg.of D,R⟩,?_⟩;cases e with
   |nil=>exact Oq H (by show ¬ 0=_;lia)
   |cons b0 ys=>exact ZH R ⟨f,b0::ys,E,D,H,R⟩
 rintro σ B ⟨f,e,v,D,H,rfl⟩;sleep 2;refine⟨_,R,R,_,R,WM (fun _=>q 0 B (by lia) v) (fun c0=>?_)⟩;sleep 1;have U:1<=c:=by
  rcases Nat.eq_zero_or_pos c with h|h
  ·exact Oq (by rw[h];rfl) c0
  ·exact h
 obtain⟨ca,s0,Y,o0,h0⟩:=O.get (Ss (show c - 1<i.length by lia));obtain⟨cb,r0,pb,q0,l0⟩:=O.get (Ss (show c<i.length by lia));have S:(c:Int) - 1=((c - 1:Nat):Int):=by lia
 have f0:YG i ((c:Int) - 1)=some (.ref Y):=by rw[S,<-o0];exact XF (Ss _)
 have k0:YG i (c:Int)=some (.ref pb):=by rw[<-q0];exact XF (Ss _)
 have m0:YG (e.map fun n=>V.int (n:Nat)) ((c:Int) - 1)=some (.int (e[c - 1]:Nat)):=by rw[S];exact XF (by rw[S0,Ss (show c - 1<e.length by lia)];rfl)
 refine⟨_,R,_,R,_,_,R,R,G,_,_,_,R,R,Zg.of (v _ _ J),f0,Y,_,2,_,R,R,Zk.of (v _ _ h0),R,_,R,_,R,_,_,R,R,f,_,_,_,R,R,Zg.of D,m0,_,_,R,R,_,R,_,R,G,_,_,_,R,R,Zg.of (v _ _ J),k0,pb,_,1,_,R,R,Zk.of (v _ _ l0),R,_,_,R,R,_,_,R,_,_,R,?_⟩;generalize hz:((ca.lv:Nat):Int)+((e[c - 1]:Nat):Int) - ((cb.ar:Nat):Int)=z;obtain⟨n,en,hn⟩:∃n:Nat,(if (if z>0 then z else 0)<300 then (if z>0 then z else 0)else 300)=((n:Nat):Int)/\n<=300:=⟨(if (if z>0 then z else 0)<300 then (if z>0 then z else 0)else 300).toNat,by split<;>split<;>omega,by split<;>split<;>omega⟩;have:=q n B hn v;rw[<-en]at this;exact this
def newG(x:Zo)(o:Option (Option (List Nat)))(e c k:Nat):Option (List Nat):=if e=0 then some (YW x o c k)else if e=1 then none else some (List.replicate x.cs.length 0)
theorem XI.put{H:Hp}{g:Addr}{c:List (List Zl×V)}{i:ZQ}{z:Str}{day:Nat}{o:Option (List Nat)}{v:V}(h:XI H c i)(C:H g=some (.dT c))(x:match o with|none=>v=.non|some j=>∃l,v=.ref l/\H l=some (.lst (j.map fun n=>V.int (n:Nat)))) :
  XI (Za H g (.dT (YO c (Z6 day z) v))) (YO c (Z6 day z) v) (YV i z day o):=fun f q=>by
 have keep:∀{p y},H p=some (.lst y)->∀u,Za H g u p=some (.lst y):=fun B u=>by rw[Zf (Z3 B C (by intro z;cases z))];exact B
 rw[MV];have D:=h f q;unfold YV;by_cases e:f=z/\q=day
 ·rw[SV e]
  rw[e.1,e.2,SV R];cases o with
  |none=>exact congrArg some x
  |some j=>obtain⟨l,rfl,E⟩:=x;exact⟨l,R,keep E _⟩
 ·rw[SU e,SU fun z=>e (D3 z)]
  revert D;cases i f q with
  |none=>exact id
  |some o=>cases o with
   |none=>exact id
   |some j=>exact fun⟨l,e,h⟩=>⟨l,e,keep h _⟩
inductive Zku(vs:List V)(H:Hp)(Q:VK)(_e3:XK):Prop|mk (wd g lg:Addr) (way day c k:Nat) (vc vm:V) (x:Zo) (ru:Str) (kvs:List (List Zl×V)) (GF:ZQ) (_:vs=[.ref wd,.ref g,.int way,.ref lg]) (_:UT H wd x ru) (_:x.Ok) (_:H g=some (.dT kvs)) (_:kvs.length<1000) (_:XI H kvs GF) (_:(∀ls,GF x.nm day=some (some ls)->ls.length=x.cs.length)) (_:way<=2) (_:H lg=some (.lst [.str x.nm,.int day,vc,vm])) (_:(way=0->vc=.int c/\vm=.int k/\c<x.cs.length/\GF x.nm day≠some none)) (_:∀kvs' H',Ze (wo H g) H'->H' g=some (.dT kvs')->kvs'.length<=kvs.length+1->XI H' kvs' (YV GF x.nm day (newG x (GF x.nm day) way c k))->Q .non H')
theorem Zkv(Tx:Zs K mg t):Zq P w K mg base Zt 1 t.jW t.jX ["_law_world_here","_law_gaps","_law_way","_law_given_here"] Zku:=by
 refine Tx.ZaE.F.ok C4 (by lia) fun m0 A outer s H vs d0 o0 u h=>?_;obtain⟨wd,g,lg,J,i,c,k,vc,vm,x,ru,T,U,rfl,hT,j0,y,f0,gp,i0,hw,k0,h0,a0⟩:=h;obtain⟨wk,dr,dp,rr,rp,r,lc,B,v,tp,e1,e2,e3,e4,e5,e6,e7,e8,e9,n0,q0⟩:=hT.ex;have l0:=e9.length;have l6:=j0.len;have lm:=Q2 i0;refine⟨_,(Zi (VX (pv 3) (M4 (n:=4) R (Yv (ZY 4 C4.nd) (Yv (ZY 5 C4.nd) (Yv (ZY 6 C4.nd) (Yv (ZY 7 C4.nd) WJ)))))) (Zi (ZR 8 C4.nd (ZV Xm Tx.Y9 Y8 (Zj (Zu ZP (YB u (YB u (pv 0) ZA) (pv 4)) Zb)))) (Zi (ZJ (Z5 YE (pv 2) Zb) (Zh (Vc (YZ u) (pv 1) (Yj (Zr (pv 5) (pv 4))) (Zd Xx (Um U0 (B5 (YZ u) (pv 1) (Yj (Zr (pv 5) (pv 4))) (Zd Xc (Z2 (Zj Zb)) (pv 8)) ⟨R,R,R,R⟩) UA (VI (pv 6))) (Zd Xc (Z2 (Zj (pv 7))) (Zd Wh (pv 8) (pv 6)))) R)) ZK) (Zi (ZJ (Z5 YE (pv 2) Zb) (Zh (Vc (YZ u) (pv 1) (Yj (Zr (pv 5) (pv 4))) W2 R)) ZK) (Zh (ZJ (Z5 YE (pv 2) Zb) (Zh (Vc (YZ u) (pv 1) (Yj (Zr (pv 5) (pv 4))) (Zd Xc (Z2 (Zj Zb)) (pv 8)) R)) ZK)))))),?_⟩;sleep 5;refine⟨_,R,lg,_,R,Zg.of k0,R,_,_,R,_,_,R,_,_,R,_,_,R,R,?_⟩;refine⟨_,R,wd,.ref dp,R,by rw[<-e3];exact Z9.k (k:=Sum.inr (OK "trips")) e1,_,R,dp,.ref r,R,.inl ⟨rp,Sum.inr x.nm,e5,R,e6.symm⟩,r,_,1,_,R,R,Zk.of e7,R,lc,_,R,.inl (Zg.of e8),?_⟩;have O:∀(C:Hp) (v:V),Ze H C->(match newG x (U x.nm i) J c k with|none=>v=.non|some ls=>∃l,v=.ref l/\C l=some (.lst (ls.map fun n=>V.int (n:Nat))))->d0 .non (Za C g (.dT (YO T (Z6 i x.nm) v))):=fun C v E hv=>by
  refine a0 _ _ (fun a o e=>?_) Zm (B3 _ _ _) ((gp.same E).put (E _ _ y) hv);obtain⟨na,e⟩:=YR e;rw[Zf na];exact E _ _ e
 have X:T.length<sizeLine:=Nat.lt_trans f0 (by lia);have rep0:(List.replicate ((B.length:Nat):Int).toNat [V.int 0]).flatten=(List.replicate x.cs.length 0).map fun n:Nat=>V.int (n:Nat):=by rw[show((B.length:Nat):Int).toNat=x.cs.length by lia];exact Qe _ 0
 have I:∀{a b:Nat},a≠b->¬ decide (V.int ((a:Nat):Int)=V.int ((b:Nat):Int))=true:=fun h=>by rw[WK];simpa using fun e=>h (by lia)
 by_cases c0:J=0
 ·subst c0
  obtain⟨rfl,rfl,hc,hn⟩:=h0 R;refine⟨_,R,R,_,R,ZH R ?_⟩;sleep 1;refine⟨_,R,g,R,.inr ⟨T,.inl y⟩,_,R,_,R,by show 2<=sizeLine;lia,fun pk gk=>?_⟩;generalize f:Za H pk _=C;have E:=ZM gk f;have M:=ZN f;clear f;refine⟨by show 1<=sizeLine;lia,fun G Y=>?_⟩;generalize f:Za C G _=Q;have s2:=ZM Y f;have S:=ZN f;clear f;refine⟨_,R,G,((B.length:Nat):Int),_,R,R,S,by lia,by lia,by show 1*_<=sizeLine;exact Sh (show _<=6 by lia) (by lia),fun pr Z=>?_⟩;rw[rep0];generalize f:Za Q pr _=H3;have L:=ZM Z f;have c3:=ZN f;clear f;have q:=(E.trans s2).trans L;refine⟨_,Z9.t (k:=Z6 i x.nm) (q _ _ y) ((s2.trans L) _ _ M),?_⟩;obtain⟨ll,e0,b0⟩:=ZbQ (gp.same q) hn c3;rw[e0];refine⟨_,R,_,R,ll,_,R,Zg.of b0,fun l4 g4=>?_⟩;rw[Q3,<-Oe];generalize f:Za H3 l4 _=H4;have s4:=ZM g4 f;have c4:=ZN f;clear f;refine⟨_,R,by show 1<=sizeLine;lia,fun p5 g5=>?_⟩;generalize f:Za H4 p5 _=H5;have s5:=ZM g5 f;have c5:=ZN f;clear f;refine⟨_,R,_,R,_,_,R,R,p5,((B.length:Nat):Int) - (c:Int),_,R,R,c5,by lia,by lia,by show 1*_<=sizeLine;exact Sh (show _<=6 by lia) (by lia),fun p6 g6=>?_⟩;rw[show(((B.length:Nat):Int) - (c:Int)).toNat=x.cs.length - c by lia,Qe];generalize f:Za H5 p6 _=H6;have s6:=ZM g6 f;have c6:=ZN f;clear f;refine⟨l4,p6,_,_,R,R,(s5.trans s6) _ _ c4,c6,by rw[Sv,Sv,Sx,Sz,lm];exact Sh (show _<=6 by lia) (by lia),fun p7 g7=>?_⟩;rw[<-SK,show(Xo x (U x.nm i)).take c++List.replicate (x.cs.length - c) k=YW x (U x.nm i) c k from R];generalize f:Za H6 p7 _=H7;have s7:=ZM g7 f;have c7:=ZN f;clear f;have S7:=(((q.trans s4).trans s5).trans s6).trans s7;refine⟨_,R,_,R,_,R,by show 2<=sizeLine;lia,fun p8 D=>?_⟩;have j:=Zy D (.tup [.int i,.str x.nm]);refine⟨g,_,R,XM.t (k:=Z6 i x.nm) (j _ _ (S7 _ _ y)) Zm X,?_⟩;exact⟨_,R,R,_,R,Zn (I (a:=0) (b:=1) (by lia)) ⟨_,R,R,_,R,Zn (I (a:=0) (b:=2) (by lia)) (O _ _ (S7.trans j) ⟨p7,R,j _ _ c7⟩)⟩⟩
 refine⟨_,R,R,_,R,Zn (I (b:=0) c0) ?_⟩;sleep 1;by_cases M:J=1
 ·subst M
  refine⟨_,R,R,_,R,ZH R ?_⟩;sleep 1;refine⟨_,R,_,R,_,R,by show 2<=sizeLine;lia,fun p8 D=>?_⟩;have j:=Zy D (.tup [.int i,.str x.nm]);refine⟨g,_,R,XM.t (k:=Z6 i x.nm) (j _ _ y) Zm X,?_⟩;exact⟨_,R,R,_,R,Zn (I (a:=1) (b:=2) (by lia)) (O _ _ j R)⟩
 obtain rfl:J=2:=by lia
 refine⟨_,R,R,_,R,Zn (I (b:=1) M) ⟨_,R,R,_,R,ZH R ⟨by show 1<=sizeLine;lia,fun G Y=>?_⟩⟩⟩;generalize f:Za H G _=Q;have s2:=ZM Y f;have S:=ZN f;clear f;refine⟨_,R,G,((B.length:Nat):Int),_,R,R,S,by lia,by lia,by show 1*_<=sizeLine;exact Sh (show _<=6 by lia) (by lia),fun pr Z=>?_⟩;rw[rep0];generalize f:Za Q pr _=H3;have L:=ZM Z f;have c3:=ZN f;clear f;have q:=s2.trans L;refine⟨_,R,_,R,_,R,by show 2<=sizeLine;lia,fun p8 D=>?_⟩;have j:=Zy D (.tup [.int i,.str x.nm]);exact⟨g,_,R,XM.t (k:=Z6 i x.nm) (j _ _ (q _ _ y)) Zm X,O _ _ (q.trans j) ⟨pr,R,j _ _ c3⟩⟩
structure VU(H:Hp)(wd:Addr)(W:Z7):Prop where
 ex:∃kvs dr dp rr rp,H wd=some (.dK kvs)/\Zz kvs (Sum.inr (OK "rules"))=some (.ref dr)/\Zz kvs (Sum.inr (OK "trips"))=some (.ref dp)/\H dr=some (.dK rr)/\H dp=some (.dK rp)/\Al (XQ H) rr W.ru/\Al (Xl H) rp W.tp/\wd≠dp/\dr≠dp
theorem VU.toT{H:Hp}{c:Addr}{W:Z7}(h:VU H c W):Qf H c W:=by
 obtain⟨f,dr,dp,g,rp,q,i,v,j,u,e,n,_⟩:=h.ex;exact⟨f,dr,dp,g,rp,q,i,v,.inl j,.inl u,e,n⟩
def Xp(H:Hp)(v:V):Prop:=∃T,Kd H v T
theorem Xp.same{H c:Hp}{v:V}(s:Ze H c)(h:Xp H v):Xp c v:=let ⟨T,h⟩:=h;⟨T,h.same s⟩
theorem Xp.put{H:Hp}{l:Addr}{xs ys:List V}{v:V}(f:H l=some (.lst xs))(h:Xp H v):Xp (Za H l (.lst ys)) v:=by
 obtain⟨T,h⟩:=h;cases h with
 |non=>exact⟨_,.non⟩
 |bl b=>exact⟨_,.bl b⟩
 |int i=>exact⟨_,.int i⟩
 |str x=>exact⟨_,.str x⟩
 |@lst a zs e =>
  by_cases c:a=l
  ·subst c;exact⟨_,.lst Zm⟩
  ·exact⟨_,.lst (by rw[Zf c];exact e)⟩
 |tup e=>exact⟨_,.tup (by rw[Zf (Z3 e f (by intro z;cases z))];exact e)⟩
 |dK e=>exact⟨_,.dK (by rw[Zf (Z3 e f (by intro z;cases z))];exact e)⟩
def Z8(H:Hp)(xs:List V):Prop:=∀v∈xs,Xp H v
theorem Z8.same{H c:Hp}{xs:List V}(s:Ze H c)(h:Z8 H xs):Z8 c xs:=fun v e=>(h v e).same s
theorem Z8.put{H:Hp}{l:Addr}{xs ys zs:List V}(c:H l=some (.lst xs))(h:Z8 H zs):Z8 (Za H l (.lst ys)) zs:=fun v e=>(h v e).put c
theorem Z8.cons{H:Hp}{v:V}{xs:List V}(c:Xp H v)(h:Z8 H xs):Z8 H (v::xs):=fun u f=>(SE.mp f).elim (fun e=>e ▸ c) (h u)
theorem Z8.nil{H:Hp}:Z8 H []:=fun _ h=>(nomatch h)
theorem Z8.app{H:Hp}{xs ys:List V}(h:Z8 H xs)(g:Z8 H ys):Z8 H (xs++ys):=fun v c=>(SF.mp c).elim (h v) (g v)
theorem Z8.at{H:Hp}{xs:List V}(h:Z8 H xs){d:Int}(c:0<=d)(h1:d<xs.length):∃v,YG xs d=some v/\Xp H v:=A9 (p:=Xp H) h c h1
inductive Zkw(K:Ow)(vs:List V)(H:Hp)(Q:VK)(_e3:XK):Prop|mk (wd g ld:Addr) (m:Nat) (ds:OG) (W:Z7) (kvs:List (List Zl×V)) (GF:ZQ) (_:vs=[.ref wd,.ref g,.ref ld,.int m]) (_:VU H wd W) (_:US W) (_:H g=some (.dT kvs)) (_:XI H kvs GF) (_:Xg (ZL W) GF) (_:H ld=some (.lst (Yb ds))) (_:ds.length=4) (_:∀lg vt vd vc vm H',Ze H H'->H lg=none->H' lg=some (.lst [vt,vd,vc,vm])->Z8 H' [vt,vd,vc,vm]->Q (.ref lg) H')
theorem Zkx(Z:Zs K mg t):Zq P w K mg base Zt 3 t.jT t.jU ["_law_world_here","_law_gaps","_law_days_here","_law_mixed_here"] (Zkw K):=by
 refine Z.ZaD.F.ok U8 (by lia) fun j2 A outer s k0 vs h2 o2 hr n0=>?_;obtain⟨wd,m0,ld,m,ds,W,m1,GF,rfl,hW,o0,hg,gp,j1,h1,l4,r0⟩:=n0;obtain⟨wk,dr,dp,rr,rp,e1,e2,e3,e4,e5,e6,e7,_⟩:=hW.ex;refine⟨_,(Zi (ZR 4 U8.nd (YF (Lc R) R Z.Vj Vg (Zj (YB hr (pv 0) ZA)))) (Zi (ZR 5 U8.nd (Zu Yq (pv 4) (Zd Z0 (pv 3) (ZV Xm Z.Y9 Y8 (Zj (pv 4)))))) (Zi (ZR 6 U8.nd (Zd YJ (pv 3) Zb)) (Zi (ZR 7 U8.nd (ZV Xm Z.Y9 Y8 (Zj (Zu ZP (YB hr (YB hr (pv 0) ZA) (pv 5)) Zb)))) (Zi (ZR 8 U8.nd (Z2 (Wq (pv 5) (Zu Yq (pv 2) (Zu Yq (Z2 (M9 Zb Zb Zb Zb Zb Zb)) (Zd Z0 (pv 6) Zb))) (Zd Z0 (Zd YJ (pv 6) Zb) (pv 7)) (Zd Z0 (Zd YJ (pv 6) Zb) Zb)))) (Zi (ZR 9 U8.nd (ZC Z.ZaC (Zkt Z) hr Zp (vS (pv 0) (pv 1) (pv 5) (Zu Yq (pv 8) Zb) (Zu Yq (pv 8) Zb)))) (Zi (VX (Zu Yq (Z2 (vS Zb (Zd Z0 (Zd YJ (pv 6) Zb) Zb) (pv 9) (pv 9) (ZV (zV R) Z.Zan uQ (Zr Zb (Zd Ya (pv 9) Zb))))) (Zd Z0 (Zd YJ (pv 6) Zb) Zb)) (E8 (pv 8) Zb F3)) (Zi (ZR 10 U8.nd (Z2 (Ym W2 (Ym XD (vT ZA (Z2 (Zj Zb)) V5 (ZcM ZcS Zb) (Yj (Zj Zb)) XD (Zd ZcP Zb Zb)))))) (Ww (ZJ (Z5 YE (Zd Z0 (Zd YJ (pv 6) Zb) Zb) Zb) (Zh (VX (Zu Yq (Z2 (Ym W2 (Ym Zb (vT ZA ZA (Z2 (Zj ZA)) XD V5 (Yj (Zj (pv 5))) (Zd Mt (pv 5) ZA))))) (Zd Z0 (Zd YJ (pv 6) Zb) Zb)) (E8 (pv 8) Zb F3))) ZK) (Ww (ZJ (Z5 YE (Zd Z0 (Zd YJ (pv 6) Zb) Zb) Zb) (Zh (VX (Zu Yq (Zd Xx (Um U0 (pv 10) UA (VI Zb)) (Z2 (Zj Zb))) (Zd Z0 (Zd YJ (pv 6) Zb) Zb)) (E8 (pv 8) Zb F3))) ZK) (Ww (ZJ (Z5 YE (Zd Z0 (Zd YJ (pv 6) Zb) Zb) Zb) (Zh (VX (Zu Yq (Zd Xx (Um U0 (pv 10) UA (VI Zb)) (Z2 (Zj (pv 7)))) (Zd Z0 (Zd YJ (pv 6) Zb) Zb)) (E8 (pv 8) Zb F3))) ZK) (Ww (ZJ (Z5 YE (Zd Z0 (Zd YJ (pv 6) Zb) Zb) Zb) (Zh (VX (Zu Yq (Zd Xx (Um U0 (pv 10) UA (VI Zb)) (Z2 (Zj Zb))) (Zd Z0 (Zd YJ (pv 6) Zb) Zb)) (E8 (pv 8) Zb F3))) ZK) (Zh (Zx (pv 8))))))))))))))),?_⟩;sleep 9;refine⟨_,R,wd,.ref dp,R,by rw[<-e3];exact Z9.k (k:=Sum.inr (OK "trips")) e1,dp,rp,R,e5,fun lt gt=>?_⟩;rw[TX (fun kv x (n0:Xl k0 kv x)=>n0.1) e7];generalize c:Za k0 lt _=H1;have s1:=ZM gt c;have c1:=ZN c;clear c;have lT:((W.tp.map Tp.nm).map V.str).length=W.tp.length:=by rw[Sv,Sv]
 have p1:=o0.p1;have t1:∃(h0:Nat) (hj:h0<W.tp.length),YG ((W.tp.map Tp.nm).map V.str) ((m:Int)%((((W.tp.map Tp.nm).map V.str).length:Nat):Int))=some (.str W.tp[h0].nm):=by
  have hl:m%((W.tp.map Tp.nm).map V.str).length<W.tp.length:=by rw[lT];exact Oo _ (by lia)
  exact⟨_,hl,by rw[<-SW];exact XF (by rw[S0,S0,Ss hl];rfl)⟩
 obtain⟨h0,hj,ej⟩:=t1;have hx:ZO Zo.nm (ZL W) W.tp[h0].nm=some (WQ W W.tp[h0]):=by
  unfold ZL;rw[Ku (nm:=Tp.nm) (f:=WQ W) (nm':=Zo.nm) (fun _=>R),VC o0.pn (Oi hj)];rfl
 generalize x0:WQ W W.tp[h0]=x at hx;have u0:W.tp[h0].nm=x.nm:=by rw[<-x0];rfl
 rw[u0]at ej hx;clear x0 u0;obtain⟨ru,hT,v1,_,l2,cs⟩:=hW.toT.trip o0 hx;obtain⟨i2,x1,w0,d2,u1,r,lc,M,v,tp,f1,f2,f3,f4,f5,f6,f7,f8,f9,a2,m2⟩:=hT.ex;have y1:=f9.length;have o1:∀U ls,GF x.nm U=some (some ls)->ls.length=x.cs.length:=fun U ls n0=>j1 x (X2 hx).1 U ls n0;refine⟨_,R,_,R,_,R,lt,_,R,.inl (Zg.of c1),_,_,R,R,(by show(0:Int)<((((W.tp.map Tp.nm).map V.str).length:Nat):Int);lia),lt,_,_,_,R,R,Zg.of c1,ej,?_⟩;refine⟨_,R,_,_,R,R,⟨by lia,by lia⟩,?_⟩;refine⟨_,R,wd,.ref w0,R,by rw[<-f3];exact Z9.k (k:=Sum.inr (OK "trips")) (s1 _ _ f1),_,R,w0,.ref r,R,.inl ⟨u1,Sum.inr x.nm,f5.imp (s1 _ _) fun⟨o,r0⟩=>⟨o,s1 _ _ r0⟩,R,f6.symm⟩,r,_,1,_,R,R,Zk.of (s1 _ _ f7),R,lc,_,R,.inl (Zg.of (s1 _ _ f8)),?_⟩;dsimp only;rw[show(m:Int)/3=((m/3:Nat):Int) by lia];generalize m/3=e;refine⟨_,R,_,R,by show 6<=sizeLine;lia,fun p2 g2=>?_⟩;generalize c:Za H1 p2 _=H2;have s2:=ZM g2 c;have c2:=ZN c;clear c;obtain⟨_,ei,ix,rfl,b2⟩:=A9 (p:=fun v=>∃b:Nat,v=V.int (b:Nat)/\b<4) (xs:=[.int 0,.int 0,.int 0,.int 1,.int 2,.int 3]) (d:=(e:Int)%6) (fun v H=>by
  simp only[SE,List.not_mem_nil,or_false]at H;rcases H with rfl|rfl|rfl|rfl|rfl|rfl
  ·exact⟨0,R,by lia⟩
  ·exact⟨0,R,by lia⟩
  ·exact⟨0,R,by lia⟩
  ·exact⟨1,R,by lia⟩
  ·exact⟨2,R,by lia⟩
  ·exact⟨3,R,by lia⟩) (by lia) (by show(e:Int)%6<6;lia)
 have eD:YG (Yb ds) (ix:Int)=some (.int (ds[ix]:Nat)):=XF (by rw[S0,Ss (show ix<ds.length by lia)];rfl);have S2:=s1.trans s2;have eC:(e:Int)/5%((M.length:Nat):Int)=((e/5%M.length:Nat):Int):=by rw[SW,SX];rfl
 have hC:e/5%M.length<M.length:=Oo _ (by lia);have eM:(e:Int)/15%301=((e/15%301:Nat):Int):=by lia
 refine⟨_,R,_,_,R,R,(by show(0:Int)<6;lia),p2,_,_,_,R,R,Zg.of c2,ei,ld,_,_,_,R,R,Zg.of (S2 _ _ h1),eD,_,R,_,_,R,R,⟨by lia,by lia⟩,_,R,_,_,R,R,(by show(0:Int)<((M.length:Nat):Int);lia),_,R,_,_,R,R,⟨by lia,by lia⟩,_,_,R,R,(by show(0:Int)<301;lia),by show 4<=sizeLine;lia,fun lg b1=>?_⟩;dsimp only;rw[eC,eM];generalize ds[ix]=U;generalize e/5%M.length=cc at hC;generalize e/15%301=mi;generalize c:Za H2 lg _=H3;have s3:=ZM b1 c;have c3:=ZN c;clear c;have S3:=S2.trans s3;have j0:=S2.free b1;refine⟨_,R,_,R,_,R,_,R,lg,_,1,_,R,R,Zg.of c3,R,_,R,lg,_,2,_,R,R,Zg.of c3,R,wd,m0,U,cc,x,ru,m1,GF,R,hT.same S3,v1,S3 _ _ hg,gp.same S3,o1 U,by lia,fun I H4 w1 s4=>?_⟩;have c4:=s4 _ _ c3;have S4:=S3.trans s4;refine⟨_,R,_,_,R,R,⟨by lia,by lia⟩,_,_,R,R,(by show(0:Int)<301;lia),_,R,_,R,_,R,_,_,R,R,_,_,R,by show 5<=sizeLine;lia,fun p5 g5=>?_⟩;obtain⟨v5,a1,n5,rfl⟩:=A9 (p:=fun v=>∃q0:Int,v=V.int q0) (xs:=[.int 300,.int ((e:Int)/15%301),.int I,.int I,.int (if (I:Int)+1<300 then (I:Int)+1 else 300)]) (d:=(e:Int)/7%5) (fun v H=>by
  simp only[SE,List.not_mem_nil,or_false]at H;rcases H with rfl|rfl|rfl|rfl|rfl<;>exact⟨_,R⟩) (by lia) (by show(e:Int)/7%5<5;lia)
 have s5:=Zy g5 (.lst [.int 300,.int ((e:Int)/15%301),.int I,.int I,.int (if (I:Int)+1<300 then (I:Int)+1 else 300)]);refine⟨_,R,_,_,R,R,⟨by lia,by lia⟩,_,_,R,R,(by show(0:Int)<5;lia),p5,_,_,_,R,R,Zg.of Zm,a1,_,R,lg,_,3,3,R,R,s5 _ _ c4,R,?_⟩;have S5:=Y7 (S4.trans s5) j0 (.lst ([V.str x.nm,V.int U,V.int cc,V.int mi].set 3 (.int n5)));generalize c:Za (Za H4 p5 _) lg _=H5 at S5;have c5:H5 lg=some (.lst [.str x.nm,.int U,.int cc,.int n5]):=by rw[<-c];exact Zm
 clear c s5 g5 a1 c4 S4 s4 c3 s3;have i1:=fun q0:Int=>(⟨_,.int q0⟩:Xp H5 (.int q0));refine⟨by show 1<=sizeLine;lia,fun q1 k1=>?_⟩;generalize c:Za H5 q1 _=H6;have s6:=ZM k1 c;have d6:=ZN c;clear c;refine fun q2 k2=>?_;generalize c:Za H6 q2 _=H7;have s7:=ZM k2 c;have d7:=ZN c;clear c;refine⟨_,R,by show 1<=sizeLine;lia,fun q3 k3=>?_⟩;generalize c:Za H7 q3 _=H8;have s8:=ZM k3 c;have d8:=ZN c;clear c;refine⟨_,_,R,R,⟨by lia,by lia,by lia⟩,by show 9<=sizeLine;lia,fun lo t0=>?_⟩;have s0:Z8 H8 [.non,.bl true,.str (OK "0"),.ref q1,.ref q2,.int (-1),.ref q3,.bl false,.int (10 ^ (12:Int).toNat)] :=
  .cons ⟨_,.non⟩ (.cons ⟨_,.bl _⟩ (.cons ⟨_,.str _⟩ (.cons ⟨_,.lst (s8 _ _ (s7 _ _ d6))⟩ (.cons ⟨_,.dK (s8 _ _ d7)⟩ (.cons ⟨_,.int _⟩ (.cons ⟨_,.tup d8⟩ (.cons ⟨_,.bl _⟩ (.cons ⟨_,.int _⟩ .nil))))))))
 have l1:x.nm.length<=8:=by
  have hm:=(X2 hx).1;obtain⟨d1,hy,ey⟩:=SI.mp hm;rw[<-ey];exact(o0.po d1 hy).1.2.1
 have S8:=((S5.trans s6).trans s7).trans s8;have c8:=s8 _ _ (s7 _ _ (s6 _ _ c5));have p0:lo≠lg:=(ZT c8 t0).symm;generalize v0:[V.non,.bl true,.str (OK "0"),.ref q1,.ref q2,.int (-1),.ref q3,.bl false,.int (10 ^ (12:Int).toNat)]=q at s0;have i0:q.length=9:=by rw[<-v0];rfl
 refine⟨fun f0 n=>Ze k0 n/\n lo=some (.lst q)/\Z8 n q/\∃g i j h:V,n lg=some (.lst [g,i,j,h])/\Z8 n [g,i,j,h]/\f0=[some (.ref wd),some (.ref m0),some (.ref ld),some (.int m),some (.ref lt),some (.str x.nm),some (.int e),some (.int ((M.length:Nat):Int)),some (.ref lg),some (.int I),some (.ref lo)],?_,?_⟩
 ·generalize c:Za H8 lo _=L
  sleep 1;have s9:=ZM t0 c;have B:L lo=some (.lst q):=ZN c;clear c;have D:=s9 _ _ c8;have E:=S8.trans s9;have C:=s0.same s9;have G:Z8 L [.str x.nm,.int U,.int cc,.int n5]:=.cons ⟨_,.str _⟩ (.cons ⟨_,.int _⟩ (.cons ⟨_,.int _⟩ (.cons ⟨_,.int _⟩ .nil)));refine⟨_,R,_,_,R,R,⟨by lia,by lia⟩,_,_,R,R,(by show(0:Int)<4;lia),R,_,R,WM (fun _=>?_) (fun _=>⟨E,B,C,_,_,_,_,D,G,R⟩)⟩;sleep 1;refine⟨by show 1<=sizeLine;lia,fun r1 k4=>?_⟩;generalize c:Za L r1 _=c0;have b0:=ZM k4 c;have T:=ZN c;clear c;refine fun Q k5=>?_;generalize c:Za c0 Q _=a0;have J:=ZM k5 c;have d0:=ZN c;clear c;refine⟨_,R,by show 1<=sizeLine;lia,fun r3 k6=>?_⟩;generalize c:Za a0 r3 _=Y;have X:=ZM k6 c;have g0:=ZN c;clear c;refine⟨_,R,_,_,R,R,Sh (Nat.add_le_add l1 (show(OK "zzzzzzzz").length<=8 by lia)) (by lia),by show 9<=sizeLine;lia,fun pl gl=>?_⟩;have e0:Z8 Y [.non,.int 5,.str (OK ""),.str (OK "nosuchlx"),.ref r1,.bl true,.ref Q,.ref r3,.str (x.nm++OK "zzzzzzzz")] :=
   .cons ⟨_,.non⟩ (.cons ⟨_,.int _⟩ (.cons ⟨_,.str _⟩ (.cons ⟨_,.str _⟩ (.cons ⟨_,.lst (X _ _ (J _ _ T))⟩ (.cons ⟨_,.bl _⟩ (.cons ⟨_,.dK (X _ _ d0)⟩ (.cons ⟨_,.tup g0⟩ (.cons ⟨_,.str _⟩ .nil))))))))
  obtain⟨u,eu,au⟩:=e0.at (d:=(e:Int)/44%9) (by lia) (by show(e:Int)/44%9<9;lia);generalize c:Za Y pl _=n2;have z0:=ZM gl c;have n1:=ZN c;clear c;have l0:=((b0.trans J).trans X).trans z0;refine⟨_,R,_,_,R,R,⟨by lia,by lia⟩,_,_,R,R,(by show(0:Int)<9;lia),pl,_,_,_,R,R,Zg.of n1,eu,_,R,lg,_,0,0,R,R,l0 _ _ D,R,?_⟩;have y0:=l0 _ _ D;exact⟨Y7 (E.trans l0) j0 _,by rw[Zf p0];exact l0 _ _ B,(C.same l0).put y0,u,_,_,_,Zm,(Z8.cons (au.same z0) fun v H=>(G.same l0) v (SB _ H)).put y0,R⟩
 rintro σ L ⟨E,B,C,g,i,j,h,D,G,rfl⟩;sleep 1;clear S8 c8 s0 d6 d7 d8 s6 s7 s8 c5 S5 v0 t0;refine⟨fun f0 n=>Ze k0 n/\n lo=some (.lst q)/\Z8 n q/\∃g i j h:V,n lg=some (.lst [g,i,j,h])/\Z8 n [g,i,j,h]/\f0=[some (.ref wd),some (.ref m0),some (.ref ld),some (.int m),some (.ref lt),some (.str x.nm),some (.int e),some (.int ((M.length:Nat):Int)),some (.ref lg),some (.int I),some (.ref lo)],?_,?_⟩
 ·sleep 1;refine⟨_,R,_,_,R,R,⟨by lia,by lia⟩,_,_,R,R,(by show(0:Int)<4;lia),R,_,R,WM (fun _=>?_) (fun _=>⟨E,B,C,g,i,j,h,D,G,R⟩)⟩
  sleep 1;refine⟨_,R,8,R,lo,_,R,Zg.of B,fun r1 k1=>?_⟩;generalize c:Za L r1 _=c0;have b0:=ZM k1 c;have T:=ZN c;clear c;rw[show W3 q none (some 8)=q.take 8 from Q3 q 8]at T;refine⟨by show 1<=sizeLine;lia,fun Q k2=>?_⟩;generalize c:Za c0 Q _=a0;have J:=ZM k2 c;have d0:=ZN c;clear c;refine⟨r1,Q,_,_,R,R,J _ _ T,d0,by rw[Sx,i0];show 9<=sizeLine;lia,fun r3 k3=>?_⟩;generalize c:Za a0 r3 _=Y;have X:=ZM k3 c;have g0:=ZN c;clear c;have y:=(b0.trans J).trans X;have e0:Z8 Y (q.take 8++[.int 10000]):=Z8.app (fun v H=>(C.same y) v (List.mem_of_mem_take H)) (.cons ⟨_,.int _⟩ .nil);obtain⟨u,eu,au⟩:=e0.at (d:=(e:Int)/52%9) (by lia) (by rw[Su,Sx,i0];show(e:Int)/52%9<9;lia);have O:=y _ _ D;refine⟨_,R,_,_,R,R,⟨by lia,by lia⟩,_,_,R,R,(by show(0:Int)<9;lia),r3,_,_,_,R,R,Zg.of g0,eu,_,R,lg,_,1,1,R,R,O,R,?_⟩;have S:=G.same y;exact⟨Y7 (E.trans y) j0 _,by rw[Zf p0];exact y _ _ B,(C.same y).put O,g,u,j,h,Zm,(Z8.cons (S _ (SC)) (Z8.cons au (Z8.cons (S _ (SB _ (SB _ SC))) (Z8.cons (S _ (SB _ (SB _ (SB _ SC)))) Z8.nil)))).put O,R⟩
 clear E B C D G g i j h;rintro σ L ⟨E,B,C,g,i,j,h,D,G,rfl⟩;sleep 1;refine⟨fun f0 n=>Ze k0 n/\n lo=some (.lst q)/\Z8 n q/\∃g i j h:V,n lg=some (.lst [g,i,j,h])/\Z8 n [g,i,j,h]/\f0=[some (.ref wd),some (.ref m0),some (.ref ld),some (.int m),some (.ref lt),some (.str x.nm),some (.int e),some (.int ((M.length:Nat):Int)),some (.ref lg),some (.int I),some (.ref lo)],?_,?_⟩
 ·sleep 1;refine⟨_,R,_,_,R,R,⟨by lia,by lia⟩,_,_,R,R,(by show(0:Int)<4;lia),R,_,R,WM (fun _=>?_) (fun _=>⟨E,B,C,g,i,j,h,D,G,R⟩)⟩
  sleep 1;refine⟨_,R,8,R,lo,_,R,Zg.of B,fun r1 k1=>?_⟩;generalize c:Za L r1 _=c0;have b0:=ZM k1 c;have T:=ZN c;clear c;rw[show W3 q none (some 8)=q.take 8 from Q3 q 8]at T;refine⟨_,R,by show 1<=sizeLine;lia,fun Q k2=>?_⟩;generalize c:Za c0 Q _=a0;have J:=ZM k2 c;have d0:=ZN c;clear c;refine⟨r1,Q,_,_,R,R,J _ _ T,d0,by rw[Sx,i0];show 9<=sizeLine;lia,fun r3 k3=>?_⟩;generalize c:Za a0 r3 _=Y;have X:=ZM k3 c;have g0:=ZN c;clear c;have y:=(b0.trans J).trans X;have e0:Z8 Y (q.take 8++[.int ((M.length:Nat):Int)]):=Z8.app (fun v H=>(C.same y) v (List.mem_of_mem_take H)) (.cons ⟨_,.int _⟩ .nil);obtain⟨u,eu,au⟩:=e0.at (d:=(e:Int)/68%9) (by lia) (by rw[Su,Sx,i0];show(e:Int)/68%9<9;lia);have O:=y _ _ D;refine⟨_,R,_,_,R,R,⟨by lia,by lia⟩,_,_,R,R,(by show(0:Int)<9;lia),r3,_,_,_,R,R,Zg.of g0,eu,_,R,lg,_,2,2,R,R,O,R,?_⟩;have S:=G.same y;exact⟨Y7 (E.trans y) j0 _,by rw[Zf p0];exact y _ _ B,(C.same y).put O,g,i,u,h,Zm,(Z8.cons (S _ (SC)) (Z8.cons (S _ (SB _ SC)) (Z8.cons au (Z8.cons (S _ (SB _ (SB _ (SB _ SC)))) Z8.nil)))).put O,R⟩
 clear E B C D G g i j h;rintro σ L ⟨E,B,C,g,i,j,h,D,G,rfl⟩;sleep 1;refine⟨fun f0 n=>Ze k0 n/\n lo=some (.lst q)/\Z8 n q/\∃g i j h:V,n lg=some (.lst [g,i,j,h])/\Z8 n [g,i,j,h]/\f0=[some (.ref wd),some (.ref m0),some (.ref ld),some (.int m),some (.ref lt),some (.str x.nm),some (.int e),some (.int ((M.length:Nat):Int)),some (.ref lg),some (.int I),some (.ref lo)],?_,?_⟩
 ·sleep 1;refine⟨_,R,_,_,R,R,⟨by lia,by lia⟩,_,_,R,R,(by show(0:Int)<4;lia),R,_,R,WM (fun _=>?_) (fun _=>⟨E,B,C,g,i,j,h,D,G,R⟩)⟩
  sleep 1;refine⟨_,R,8,R,lo,_,R,Zg.of B,fun r1 k1=>?_⟩;generalize c:Za L r1 _=c0;have b0:=ZM k1 c;have T:=ZN c;clear c;rw[show W3 q none (some 8)=q.take 8 from Q3 q 8]at T;refine⟨by show 1<=sizeLine;lia,fun Q k2=>?_⟩;generalize c:Za c0 Q _=a0;have J:=ZM k2 c;have d0:=ZN c;clear c;refine⟨r1,Q,_,_,R,R,J _ _ T,d0,by rw[Sx,i0];show 9<=sizeLine;lia,fun r3 k3=>?_⟩;generalize c:Za a0 r3 _=Y;have X:=ZM k3 c;have g0:=ZN c;clear c;have y:=(b0.trans J).trans X;have e0:Z8 Y (q.take 8++[.int 301]):=Z8.app (fun v H=>(C.same y) v (List.mem_of_mem_take H)) (.cons ⟨_,.int _⟩ .nil);obtain⟨u,eu,au⟩:=e0.at (d:=(e:Int)/76%9) (by lia) (by rw[Su,Sx,i0];show(e:Int)/76%9<9;lia);have O:=y _ _ D;refine⟨_,R,_,_,R,R,⟨by lia,by lia⟩,_,_,R,R,(by show(0:Int)<9;lia),r3,_,_,_,R,R,Zg.of g0,eu,_,R,lg,_,3,3,R,R,O,R,?_⟩;have S:=G.same y;exact⟨Y7 (E.trans y) j0 _,by rw[Zf p0];exact y _ _ B,(C.same y).put O,g,i,j,u,Zm,(Z8.cons (S _ (SC)) (Z8.cons (S _ (SB _ SC)) (Z8.cons (S _ (SB _ (SB _ SC))) (Z8.cons au Z8.nil)))).put O,R⟩
 clear E B C D G g i j h;rintro σ L ⟨E,B,C,g,i,j,h,D,G,rfl⟩;sleep 1;exact⟨_,R,r0 lg g i j h L E j0 D G⟩
def wl(b:Bool)(w:Str):List V:=match b with
 |true=>[.str w]
 |false=>[]
theorem Yx(b:Bool)(w:Str):(wl b w).length<=1:=by
 cases b
 ·exact Sk _
 ·exact Sg _
def D7(t:TE)(e:St)(G:Hp->Prop)(L:List V):Prop:=∀H Q,G H->(∀p c,Ze H c->c p=some (.lst L)->Q (.ref p) c)->t e H Q
theorem WH{h t2:TE}{c:St}{G:Hp->Prop}{f e:List V}(B:∀H i,Ze H i->G H->G i)(x:f.length+e.length<=sizeLine)(h1:D7 h c G f)(C:D7 t2 c G e):D7 (Ux yQ h t2) c G (f++e):=fun H Q g k=>h1 H _ g fun p1 q j v=>C q _ (B _ _ j g) fun y D s2 n =>
 ⟨p1,y,_,_,R,R,s2 _ _ v,n,x,fun p u=>k p _ ((j.trans s2).trans (Zy u _)) Zm⟩
theorem Qg{i:Nat}{l:Addr}{c:St}{G:Hp->Prop}{L:List V}(e:c[i]? = some (some (.ref l)))(f:∀H,G H->H l=some (.lst L)):D7 (E5 i) c G L:=fun H Q g k=>⟨_,e,k l H (Ze.refl H) (f H g)⟩
theorem WI{c:Ow}{i:Nat}{a C D:Addr}{b:Bool}{w:Str}{e:St}{G:Hp->Prop}(h:e[i]? = some (some (.ref a)))(n:∀H,G H->H a=some (XJ a (.ref C)))(ex:Xy c C)(j:W.kitOne c (.ref C) (.ref D)=some b) :
  D7 (Ux MC (Mv (Yt (tC (.str w)) Xw)) (Qr (fun xs H Q=>∃b,xs=[.bl b]/\Q (.int (if b=true then 1 else 0)) H) (Yt (Qr (vQ c) (Yt (E5 i) (Yt (tC (.ref D)) Xw))) Xw))) e G (wl b w):=fun H Q g k=>by
 refine⟨by show 1<=sizeLine;lia,fun p1 g1=>?_⟩;have f:=Zy g1 (.lst [.str w]);refine⟨_,h,a,C,D,b,R,f _ _ (n H g),ex,j,b,R,p1,_,_,R,R,Zm,?_,?_,?_,fun q g2=>?_⟩
 ·cases b<;>decide
 ·cases b<;>decide
 ·cases b
  ·show 1*0<=sizeLine;lia
  ·show 1*1<=sizeLine;lia
 ·refine k q _ (f.trans (Zy g2 _)) ?_
  rw[Zm];cases b<;>rfl
theorem Zky{c:Ow}{i:Nat}{a C:Addr}{w:Str}{e:St}{G:Hp->Prop}(h:e[i]? = some (some (.ref a)))(n:∀H,G H->H a=some (XJ a (.ref C)))(ex:Xy c C)(j:W.kitOne c (.ref C) (.type "ValueError")=some true) :
  D7 (Ux MC (Mv (Yt (tC (.str w)) Xw)) (Qr (fun xs H Q=>∃b,xs=[.bl b]/\Q (.int (if b=true then 1 else 0)) H) (Yt (zD (Qr (vR c) (Yt (E5 i) (Yt (tC (.ty "ValueError")) Xw)))) Xw))) e G []:=fun H Q g k=>by
 refine⟨by show 1<=sizeLine;lia,fun p1 g1=>?_⟩;have f:=Zy g1 (.lst [.str w]);refine⟨_,h,a,C,"ValueError",true,R,f _ _ (n H g),ex,j,_,R,_,R,p1,_,_,R,R,Zm,by lia,by lia,by show 1*0<=sizeLine;lia,fun q g2=>?_⟩;refine k q _ (f.trans (Zy g2 _)) ?_;rw[Zm];rfl
theorem Zkz(c:Zs K mg t)(e:Wn):W.exmOne K (.ref (e.cls t)) (.ref t.QC)=some true:=by
 cases e with
 |trip=>exact c.Zh3
 |clock=>exact c.Zh7
 |run=>exact c.Zia
 |number=>exact c.Zie
 |calls=>exact c.Zii
theorem ZkA(c:Zs K mg t)(e:Wn):Xy K (e.cls t):=by
 cases e with
 |trip=>exact c.Zh1
 |clock=>exact c.Zh5
 |run=>exact c.Zh8
 |number=>exact c.Zic
 |calls=>exact c.Zig
theorem ZkB(c:Zs K mg t)(e:Wn):W.kitOne K (.ref (e.cls t)) (.type "ValueError")=some true:=by
 cases e with
 |trip=>exact c.Zh2
 |clock=>exact c.Zh6
 |run=>exact c.Zh9
 |number=>exact c.Zid
 |calls=>exact c.Zih
def Wn.is(a:Wn):Wn->Bool
 |.trip=>(match a with|.trip=>true|_=>false)
 |.clock=>(match a with|.clock=>true|_=>false)
 |.run=>(match a with|.run=>true|_=>false)
 |.number=>(match a with|.number=>true|_=>false)
 |.calls=>(match a with|.calls=>true|_=>false)
theorem ZkC(c:Zs K mg t)(e:Wn):W.kitOne K (.ref (e.cls t)) (.ref t.Vu)=some (e.is .clock):=by
 cases e with
 |trip=>exact c.Wz.1
 |clock=>exact c.WA.1
 |run=>exact c.WB.1
 |number=>exact c.WC.1
 |calls=>exact c.WD.1
theorem ZkD(c:Zs K mg t)(e:Wn):W.kitOne K (.ref (e.cls t)) (.ref t.QD)=some (false):=by
 cases e with
 |trip=>exact c.Wz.2.1
 |clock=>exact c.WA.2.1
 |run=>exact c.WB.2.1
 |number=>exact c.WC.2.1
 |calls=>exact c.WD.2.1
theorem ZkE(c:Zs K mg t)(e:Wn):W.kitOne K (.ref (e.cls t)) (.ref t.QE)=some (false):=by
 cases e with
 |trip=>exact c.Wz.2.2.1
 |clock=>exact c.WA.2.2.1
 |run=>exact c.WB.2.2.1
 |number=>exact c.WC.2.2.1
 |calls=>exact c.WD.2.2.1
theorem ZkF(c:Zs K mg t)(e:Wn):W.kitOne K (.ref (e.cls t)) (.ref t.QF)=some (false):=by
 cases e with
 |trip=>exact c.Wz.2.2.2.1
 |clock=>exact c.WA.2.2.2.1
 |run=>exact c.WB.2.2.2.1
 |number=>exact c.WC.2.2.2.1
 |calls=>exact c.WD.2.2.2.1
theorem ZkG(c:Zs K mg t)(e:Wn):W.kitOne K (.ref (e.cls t)) (.ref t.QG)=some (false):=by
 cases e with
 |trip=>exact c.Wz.2.2.2.2.1
 |clock=>exact c.WA.2.2.2.2.1
 |run=>exact c.WB.2.2.2.2.1
 |number=>exact c.WC.2.2.2.2.1
 |calls=>exact c.WD.2.2.2.2.1
theorem ZkH(c:Zs K mg t)(e:Wn):W.kitOne K (.ref (e.cls t)) (.ref t.QH)=some (false):=by
 cases e with
 |trip=>exact c.Wz.2.2.2.2.2.1
 |clock=>exact c.WA.2.2.2.2.2.1
 |run=>exact c.WB.2.2.2.2.2.1
 |number=>exact c.WC.2.2.2.2.2.1
 |calls=>exact c.WD.2.2.2.2.2.1
theorem ZkI(c:Zs K mg t)(e:Wn):W.kitOne K (.ref (e.cls t)) (.ref t.QI)=some (false):=by
 cases e with
 |trip=>exact c.Wz.2.2.2.2.2.2.1
 |clock=>exact c.WA.2.2.2.2.2.2.1
 |run=>exact c.WB.2.2.2.2.2.2.1
 |number=>exact c.WC.2.2.2.2.2.2.1
 |calls=>exact c.WD.2.2.2.2.2.2.1
theorem ZkJ(c:Zs K mg t)(e:Wn):W.kitOne K (.ref (e.cls t)) (.ref t.QJ)=some (false):=by
 cases e with
 |trip=>exact c.Wz.2.2.2.2.2.2.2.1
 |clock=>exact c.WA.2.2.2.2.2.2.2.1
 |run=>exact c.WB.2.2.2.2.2.2.2.1
 |number=>exact c.WC.2.2.2.2.2.2.2.1
 |calls=>exact c.WD.2.2.2.2.2.2.2.1
theorem ZkK(c:Zs K mg t)(e:Wn):W.kitOne K (.ref (e.cls t)) (.ref t.Vv)=some (e.is .trip):=by
 cases e with
 |trip=>exact c.Wz.2.2.2.2.2.2.2.2.1
 |clock=>exact c.WA.2.2.2.2.2.2.2.2.1
 |run=>exact c.WB.2.2.2.2.2.2.2.2.1
 |number=>exact c.WC.2.2.2.2.2.2.2.2.1
 |calls=>exact c.WD.2.2.2.2.2.2.2.2.1
theorem ZkL(c:Zs K mg t)(e:Wn):W.kitOne K (.ref (e.cls t)) (.ref t.Vh)=some (e.is .number):=by
 cases e with
 |trip=>exact c.Wz.2.2.2.2.2.2.2.2.2.1
 |clock=>exact c.WA.2.2.2.2.2.2.2.2.2.1
 |run=>exact c.WB.2.2.2.2.2.2.2.2.2.1
 |number=>exact c.WC.2.2.2.2.2.2.2.2.2.1
 |calls=>exact c.WD.2.2.2.2.2.2.2.2.2.1
theorem ZkM(c:Zs K mg t)(e:Wn):W.kitOne K (.ref (e.cls t)) (.ref t.Vi)=some (e.is .calls):=by
 cases e with
 |trip=>exact c.Wz.2.2.2.2.2.2.2.2.2.2.1
 |clock=>exact c.WA.2.2.2.2.2.2.2.2.2.2.1
 |run=>exact c.WB.2.2.2.2.2.2.2.2.2.2.1
 |number=>exact c.WC.2.2.2.2.2.2.2.2.2.2.1
 |calls=>exact c.WD.2.2.2.2.2.2.2.2.2.2.1
theorem ZkN(c:Zs K mg t)(e:Wn):W.kitOne K (.ref (e.cls t)) (.ref t.QK)=some (false):=by
 cases e with
 |trip=>exact c.Wz.2.2.2.2.2.2.2.2.2.2.2.1
 |clock=>exact c.WA.2.2.2.2.2.2.2.2.2.2.2.1
 |run=>exact c.WB.2.2.2.2.2.2.2.2.2.2.2.1
 |number=>exact c.WC.2.2.2.2.2.2.2.2.2.2.2.1
 |calls=>exact c.WD.2.2.2.2.2.2.2.2.2.2.2.1
theorem ZkO(c:Zs K mg t)(e:Wn):W.kitOne K (.ref (e.cls t)) (.ref t.Vw)=some (e.is .run):=by
 cases e with
 |trip=>exact c.Wz.2.2.2.2.2.2.2.2.2.2.2.2.1
 |clock=>exact c.WA.2.2.2.2.2.2.2.2.2.2.2.2.1
 |run=>exact c.WB.2.2.2.2.2.2.2.2.2.2.2.2.1
 |number=>exact c.WC.2.2.2.2.2.2.2.2.2.2.2.2.1
 |calls=>exact c.WD.2.2.2.2.2.2.2.2.2.2.2.2.1
theorem ZkP(c:Zs K mg t)(e:Wn):W.kitOne K (.ref (e.cls t)) (.ref t.QL)=some (false):=by
 cases e with
 |trip=>exact c.Wz.2.2.2.2.2.2.2.2.2.2.2.2.2.1
 |clock=>exact c.WA.2.2.2.2.2.2.2.2.2.2.2.2.2.1
 |run=>exact c.WB.2.2.2.2.2.2.2.2.2.2.2.2.2.1
 |number=>exact c.WC.2.2.2.2.2.2.2.2.2.2.2.2.2.1
 |calls=>exact c.WD.2.2.2.2.2.2.2.2.2.2.2.2.2.1
theorem ZkQ(c:Zs K mg t)(e:Wn):W.kitOne K (.ref (e.cls t)) (.ref t.QM)=some (false):=by
 cases e with
 |trip=>exact c.Wz.2.2.2.2.2.2.2.2.2.2.2.2.2.2.1
 |clock=>exact c.WA.2.2.2.2.2.2.2.2.2.2.2.2.2.2.1
 |run=>exact c.WB.2.2.2.2.2.2.2.2.2.2.2.2.2.2.1
 |number=>exact c.WC.2.2.2.2.2.2.2.2.2.2.2.2.2.2.1
 |calls=>exact c.WD.2.2.2.2.2.2.2.2.2.2.2.2.2.2.1
theorem ZkR(c:Zs K mg t)(e:Wn):W.kitOne K (.ref (e.cls t)) (.ref t.QO)=some (false):=by
 cases e with
 |trip=>exact c.Wz.2.2.2.2.2.2.2.2.2.2.2.2.2.2.2.1
 |clock=>exact c.WA.2.2.2.2.2.2.2.2.2.2.2.2.2.2.2.1
 |run=>exact c.WB.2.2.2.2.2.2.2.2.2.2.2.2.2.2.2.1
 |number=>exact c.WC.2.2.2.2.2.2.2.2.2.2.2.2.2.2.2.1
 |calls=>exact c.WD.2.2.2.2.2.2.2.2.2.2.2.2.2.2.2.1
theorem ZkS(c:Zs K mg t)(e:Wn):W.kitOne K (.ref (e.cls t)) (.ref t.QN)=some (false):=by
 cases e with
 |trip=>exact c.Wz.2.2.2.2.2.2.2.2.2.2.2.2.2.2.2.2.1
 |clock=>exact c.WA.2.2.2.2.2.2.2.2.2.2.2.2.2.2.2.2.1
 |run=>exact c.WB.2.2.2.2.2.2.2.2.2.2.2.2.2.2.2.2.1
 |number=>exact c.WC.2.2.2.2.2.2.2.2.2.2.2.2.2.2.2.2.1
 |calls=>exact c.WD.2.2.2.2.2.2.2.2.2.2.2.2.2.2.2.2.1
inductive ZkT(t:Yn)(P:Program)(w:World)(K:Ow)(mg:Ov)(base:Heap)(vs:List V)(H:Hp)(Q:VK)(_e3:XK):Prop|mk (f:Addr) (Wc:VK->XK->Prop) (TOLD:V->Hp->Prop) (REF:Wn->Hp->Prop) (_:vs=[.ref f]) (_:M6 P w K mg base 20 f H Wc) (_:(∀Q1 E1,(∀v H',TOLD v H'->Q1 v H')->(∀wd H',REF wd H'->E1 (.ref (wd.cls t)) none H')->Wc Q1 E1)) (_:(∀v H' H'' p,TOLD v H'->Ze H' H''->H'' p=some (.tup [.str (OK "told"),v])->Q (.ref p) H'')) (_:(∀wd H' H'',REF wd H'->Ze H' H''->Q (.str wd.txt) H''))
theorem Kw(c:Zs K mg t):Zq P w K mg base Zt 22 t.jJ t.jK ["_law_call"] (ZkT t P w K mg base):=by
 refine c.WP.F.ok Ub (by lia) fun f0 A outer s H vs a0 i0 hr h=>?_;obtain⟨c0,Wc,h0,g0,rfl,hC,hW,q1,E⟩:=h;refine⟨_,(Zh (ZdT (i:=1) ⟨R,R⟩ R Ub.nd R R R c.ZhL (fun pins Kx=>(Zh (Zx (Yj (Zr ZA (show PE _ _ (vK P w K mg base 20 0 fun e0 _ H=>Kx e0 H)from ZfH (x := "_law_call") (k:=20) (i:=0) R (Or.inl R) (hr.mono (j:=20) (by lia)) ZdR)))))) (fun a=>(Zi (ZR 2 Ub.nd (Zd Xx (Zd Xc (Z2 (Zj ZA)) (YF Wm R c.X0 XW (Zj (ZV (Wx (K:=K)) c.Y2 Y1 (Zr (pv 1) (Wj R c.ZaQ)))))) (Zd Xc (Z2 (Zj ZA)) (YF Wm R c.X0 XW (Zj (ZV (Wx (K:=K)) c.Y2 Y1 (Zr (pv 1) (Wj R c.ZhM)))))))) (Zi (ZR 2 Ub.nd (Zd Xx (Zd Xx (pv 2) (Zd Xc (Z2 (Zj ZA)) (YF Wm R c.X0 XW (Zj (ZV (Wx (K:=K)) c.Y2 Y1 (Zr (pv 1) (Wj R c.ZhN))))))) (Zd Xc (Z2 (Zj ZA)) (YF Wm R c.X0 XW (Zj (ZV (Wx (K:=K)) c.Y2 Y1 (Zr (pv 1) (Wj R c.ZhO)))))))) (Zi (ZR 2 Ub.nd (Zd Xx (Zd Xx (pv 2) (Zd Xc (Z2 (Zj ZA)) (YF Wm R c.X0 XW (Zj (ZV (Wx (K:=K)) c.Y2 Y1 (Zr (pv 1) (Wj R c.ZhP))))))) (Zd Xc (Z2 (Zj ZA)) (YF Wm R c.X0 XW (Zj (ZV (Wx (K:=K)) c.Y2 Y1 (Zr (pv 1) (Wj R c.ZhQ)))))))) (Zi (ZR 2 Ub.nd (Zd Xx (Zd Xx (pv 2) (Zd Xc (Z2 (Zj ZA)) (YF Wm R c.X0 XW (Zj (ZV (Wx (K:=K)) c.Y2 Y1 (Zr (pv 1) (Wj R c.ZhR))))))) (Zd Xc (Z2 (Zj ZA)) (YF Wm R c.X0 XW (Zj (ZV (Wx (K:=K)) c.Y2 Y1 (Zr (pv 1) (Wj R c.ZhS)))))))) (Zi (ZR 2 Ub.nd (Zd Xx (Zd Xx (pv 2) (Zd Xc (Z2 (Zj ZA)) (YF Wm R c.X0 XW (Zj (ZV (Wx (K:=K)) c.Y2 Y1 (Zr (pv 1) (Wj R c.ZaR))))))) (Zd Xc (Z2 (Zj ZA)) (YF Wm R c.X0 XW (Zj (ZV (Wx (K:=K)) c.Y2 Y1 (Zr (pv 1) (Wj R c.ZaS)))))))) (Zi (ZR 2 Ub.nd (Zd Xx (Zd Xx (pv 2) (Zd Xc (Z2 (Zj ZA)) (YF Wm R c.X0 XW (Zj (ZV (Wx (K:=K)) c.Y2 Y1 (Zr (pv 1) (Wj R c.ZaT))))))) (Zd Xc (Z2 (Zj ZA)) (YF Wm R c.X0 XW (Zj (ZV (Wx (K:=K)) c.Y2 Y1 (Zr (pv 1) (Wj R c.ZhT)))))))) (Zi (ZR 2 Ub.nd (Zd Xx (Zd Xx (pv 2) (Zd Xc (Z2 (Zj ZA)) (YF Wm R c.X0 XW (Zj (ZV (Wx (K:=K)) c.Y2 Y1 (Zr (pv 1) (Wj R c.TC))))))) (Zd Xc (Z2 (Zj ZA)) (YF Wm R c.X0 XW (Zj (ZV (Wx (K:=K)) c.Y2 Y1 (Zr (pv 1) (Wj R c.ZhU)))))))) (Zi (ZR 2 Ub.nd (Zd Xx (Zd Xx (pv 2) (Zd Xc (Z2 (Zj ZA)) (YF Wm R c.X0 XW (Zj (ZV (Wx (K:=K)) c.Y2 Y1 (Zr (pv 1) (Wj R c.ZhV))))))) (Zd Xc (Z2 (Zj ZA)) (YF Wm R c.X0 XW (Zj (ZV (Wx (K:=K)) c.Y2 Y1 (Zr (pv 1) (Wj R c.ZhX)))))))) (Zi (ZR 2 Ub.nd (Zd Xx (Zd Xx (pv 2) (Zd Xc (Z2 (Zj ZA)) (YF Wm R c.X0 XW (Zj (ZV (Wx (K:=K)) c.Y2 Y1 (Zr (pv 1) (Wj R c.ZhW))))))) (Zd Xc (Z2 (Zj ZA)) (YF Wm R c.X0 XW (Zj (Mh (ZV (Zf4 (K:=K)) c.Y2 Y1 (Zr (pv 1) (VL R c.ZgT ZgQ))))))))) (Zh (Zx (KB (Z5 YE (ZV (show Xb _ (.builtin "len") (fun xs H a0=>∃p I,xs=[V.ref p]/\(Zg K H p I\/Zk K H p I)/\a0 (V.int ↑I.length) H)from Xm) c.Y9 Y8 (Zj (pv 2))) Zb) (Zu (show V1 _ (yK K)from Yq) (pv 2) Zb) ZA))))))))))))))),?_⟩;sleep 1;refine⟨c0,Wc,R,hC,hW _ _ (fun b0 u hT=>⟨by show 2<=sizeLine;lia,fun p hp=>q1 b0 u _ p hT (Zy hp _) Zm⟩) (fun e u hR=>⟨Zkz c e,fun a ha=>?_⟩)⟩;sleep 10;have Y:=Zy ha (XJ a (.ref (e.cls t)));have f:=@Zm u a (XJ a (.ref (e.cls t)));have E:=fun d0=>E e u d0 hR;have ex:=ZkA c e;generalize Za u a (XJ a (.ref (e.cls t)))=H0 at Y f ⊢;have room:∀m,m<=100->m<=sizeLine:=fun m h=>Sh h (by lia);refine WH (G:=fun H=>H a=some (XJ a (.ref (e.cls t)))) (fun _ _ s g=>s _ _ g) (room _ (by have n:=Yx (e.is .clock) (OK "clock");have q:=Yx (false) (OK "days");lia)) (WI (w:=OK "clock") (i:=1) R (fun _ g=>g) ex (ZkC c e)) (WI (w:=OK "days") (i:=1) R (fun _ g=>g) ex (ZkD c e)) H0 _ f fun p1 H1 s1 k1=>?_;have l1:(wl (e.is .clock) (OK "clock")++wl (false) (OK "days")).length<=2:=by rw[Su];have n:=Yx (e.is .clock) (OK "clock");have q:=Yx (false) (OK "days");lia
 have S1:=Y.trans s1;have f:=s1 _ _ f;generalize e1:(wl (e.is .clock) (OK "clock")++wl (false) (OK "days"))=D at k1 l1;refine WH (G:=fun H=>H a=some (XJ a (.ref (e.cls t)))/\H p1=some (.lst D)) (fun _ _ s g=>⟨s _ _ g.1,s _ _ g.2⟩) (room _ (by rw[Su];have n:=Yx (false) (OK "many");have q:=Yx (false) (OK "name");lia)) (WH (fun _ _ s g=>⟨s _ _ g.1,s _ _ g.2⟩) (room _ (by have n:=Yx (false) (OK "many");lia)) (Qg R (fun _ g=>g.2)) (WI (w:=OK "many") (i:=1) R (fun _ g=>g.1) ex (ZkE c e))) (WI (w:=OK "name") (i:=1) R (fun _ g=>g.1) ex (ZkF c e)) H1 _ ⟨f,k1⟩ fun p2 H2 s2 k2=>?_;have l2:(D++wl (false) (OK "many")++wl (false) (OK "name")).length<=4:=by rw[Su,Su];have n:=Yx (false) (OK "many");have q:=Yx (false) (OK "name");lia
 have S2:=S1.trans s2;have f:=s2 _ _ f;generalize e2:D++wl (false) (OK "many")++wl (false) (OK "name")=B at k2 l2;refine WH (G:=fun H=>H a=some (XJ a (.ref (e.cls t)))/\H p2=some (.lst B)) (fun _ _ s g=>⟨s _ _ g.1,s _ _ g.2⟩) (room _ (by rw[Su];have n:=Yx (false) (OK "twice");have q:=Yx (false) (OK "stop");lia)) (WH (fun _ _ s g=>⟨s _ _ g.1,s _ _ g.2⟩) (room _ (by have n:=Yx (false) (OK "twice");lia)) (Qg R (fun _ g=>g.2)) (WI (w:=OK "twice") (i:=1) R (fun _ g=>g.1) ex (ZkG c e))) (WI (w:=OK "stop") (i:=1) R (fun _ g=>g.1) ex (ZkH c e)) H2 _ ⟨f,k2⟩ fun p3 H3 X Q=>?_;have l3:(B++wl (false) (OK "twice")++wl (false) (OK "stop")).length<=6:=by rw[Su,Su];have n:=Yx (false) (OK "twice");have q:=Yx (false) (OK "stop");lia
 have S3:=S2.trans X;have f:=X _ _ f;generalize e3:B++wl (false) (OK "twice")++wl (false) (OK "stop")=J at Q l3;refine WH (G:=fun H=>H a=some (XJ a (.ref (e.cls t)))/\H p3=some (.lst J)) (fun _ _ s g=>⟨s _ _ g.1,s _ _ g.2⟩) (room _ (by rw[Su];have n:=Yx (false) (OK "rule");have q:=Yx (false) (OK "ticket");lia)) (WH (fun _ _ s g=>⟨s _ _ g.1,s _ _ g.2⟩) (room _ (by have n:=Yx (false) (OK "rule");lia)) (Qg R (fun _ g=>g.2)) (WI (w:=OK "rule") (i:=1) R (fun _ g=>g.1) ex (ZkI c e))) (WI (w:=OK "ticket") (i:=1) R (fun _ g=>g.1) ex (ZkJ c e)) H3 _ ⟨f,Q⟩ fun p4 H4 s4 k4=>?_;have l4:(J++wl (false) (OK "rule")++wl (false) (OK "ticket")).length<=8:=by rw[Su,Su];have n:=Yx (false) (OK "rule");have q:=Yx (false) (OK "ticket");lia
 have S4:=S3.trans s4;have f:=s4 _ _ f;generalize e4:J++wl (false) (OK "rule")++wl (false) (OK "ticket")=L at k4 l4;refine WH (G:=fun H=>H a=some (XJ a (.ref (e.cls t)))/\H p4=some (.lst L)) (fun _ _ s g=>⟨s _ _ g.1,s _ _ g.2⟩) (room _ (by rw[Su];have n:=Yx (e.is .trip) (OK "trip");have q:=Yx (e.is .number) (OK "number");lia)) (WH (fun _ _ s g=>⟨s _ _ g.1,s _ _ g.2⟩) (room _ (by have n:=Yx (e.is .trip) (OK "trip");lia)) (Qg R (fun _ g=>g.2)) (WI (w:=OK "trip") (i:=1) R (fun _ g=>g.1) ex (ZkK c e))) (WI (w:=OK "number") (i:=1) R (fun _ g=>g.1) ex (ZkL c e)) H4 _ ⟨f,k4⟩ fun p5 H5 s5 k5=>?_;have l5:(L++wl (e.is .trip) (OK "trip")++wl (e.is .number) (OK "number")).length<=10:=by rw[Su,Su];have n:=Yx (e.is .trip) (OK "trip");have q:=Yx (e.is .number) (OK "number");lia
 have S5:=S4.trans s5;have f:=s5 _ _ f;generalize e5:L++wl (e.is .trip) (OK "trip")++wl (e.is .number) (OK "number")=y at k5 l5;refine WH (G:=fun H=>H a=some (XJ a (.ref (e.cls t)))/\H p5=some (.lst y)) (fun _ _ s g=>⟨s _ _ g.1,s _ _ g.2⟩) (room _ (by rw[Su];have n:=Yx (e.is .calls) (OK "calls");have q:=Yx (false) (OK "row");lia)) (WH (fun _ _ s g=>⟨s _ _ g.1,s _ _ g.2⟩) (room _ (by have n:=Yx (e.is .calls) (OK "calls");lia)) (Qg R (fun _ g=>g.2)) (WI (w:=OK "calls") (i:=1) R (fun _ g=>g.1) ex (ZkM c e))) (WI (w:=OK "row") (i:=1) R (fun _ g=>g.1) ex (ZkN c e)) H5 _ ⟨f,k5⟩ fun p6 H6 s6 Z=>?_;have l6:(y++wl (e.is .calls) (OK "calls")++wl (false) (OK "row")).length<=12:=by rw[Su,Su];have n:=Yx (e.is .calls) (OK "calls");have q:=Yx (false) (OK "row");lia
 have S6:=S5.trans s6;have f:=s6 _ _ f;generalize e6:y++wl (e.is .calls) (OK "calls")++wl (false) (OK "row")=O at Z l6;refine WH (G:=fun H=>H a=some (XJ a (.ref (e.cls t)))/\H p6=some (.lst O)) (fun _ _ s g=>⟨s _ _ g.1,s _ _ g.2⟩) (room _ (by rw[Su];have n:=Yx (e.is .run) (OK "run");have q:=Yx (false) (OK "plan");lia)) (WH (fun _ _ s g=>⟨s _ _ g.1,s _ _ g.2⟩) (room _ (by have n:=Yx (e.is .run) (OK "run");lia)) (Qg R (fun _ g=>g.2)) (WI (w:=OK "run") (i:=1) R (fun _ g=>g.1) ex (ZkO c e))) (WI (w:=OK "plan") (i:=1) R (fun _ g=>g.1) ex (ZkP c e)) H6 _ ⟨f,Z⟩ fun p7 H7 T k7=>?_;have l7:(O++wl (e.is .run) (OK "run")++wl (false) (OK "plan")).length<=14:=by rw[Su,Su];have n:=Yx (e.is .run) (OK "run");have q:=Yx (false) (OK "plan");lia
 have S7:=S6.trans T;have f:=T _ _ f;generalize e7:O++wl (e.is .run) (OK "run")++wl (false) (OK "plan")=C at k7 l7;refine WH (G:=fun H=>H a=some (XJ a (.ref (e.cls t)))/\H p7=some (.lst C)) (fun _ _ s g=>⟨s _ _ g.1,s _ _ g.2⟩) (room _ (by rw[Su];have n:=Yx (false) (OK "late");have q:=Yx (false) (OK "line");lia)) (WH (fun _ _ s g=>⟨s _ _ g.1,s _ _ g.2⟩) (room _ (by have n:=Yx (false) (OK "late");lia)) (Qg R (fun _ g=>g.2)) (WI (w:=OK "late") (i:=1) R (fun _ g=>g.1) ex (ZkQ c e))) (WI (w:=OK "line") (i:=1) R (fun _ g=>g.1) ex (ZkR c e)) H7 _ ⟨f,k7⟩ fun p8 H8 S k8=>?_;have l8:(C++wl (false) (OK "late")++wl (false) (OK "line")).length<=16:=by rw[Su,Su];have n:=Yx (false) (OK "late");have q:=Yx (false) (OK "line");lia
 have S8:=S7.trans S;have f:=S _ _ f;generalize e8:C++wl (false) (OK "late")++wl (false) (OK "line")=M at k8 l8;refine WH (G:=fun H=>H a=some (XJ a (.ref (e.cls t)))/\H p8=some (.lst M)) (fun _ _ s g=>⟨s _ _ g.1,s _ _ g.2⟩) (room _ (by rw[Su];have n:=Yx (false) (OK "traveller");have h3:([]:List V).length=0:=rfl;lia)) (WH (fun _ _ s g=>⟨s _ _ g.1,s _ _ g.2⟩) (room _ (by have n:=Yx (false) (OK "traveller");lia)) (Qg R (fun _ g=>g.2)) (WI (w:=OK "traveller") (i:=1) R (fun _ g=>g.1) ex (ZkS c e))) (Zky (w:=OK "bare") (i:=1) R (fun _ g=>g.1) ex (ZkB c e)) H8 _ ⟨f,k8⟩ fun p9 H9 U v=>?_;have l9:(M++wl (false) (OK "traveller")++([]:List V)).length<=18:=by rw[Su,Su];have n:=Yx (false) (OK "traveller");have h3:([]:List V).length=0:=rfl;lia
 have S9:=S8.trans U;have f:=U _ _ f;generalize e9:M++wl (false) (OK "traveller")++([]:List V)=L9 at v l9;have eL:L9=[.str e.txt]:=by
  rw[<-e9,<-e8,<-e7,<-e6,<-e5,<-e4,<-e3,<-e2,<-e1];cases e<;>rfl
 rw[eL]at v;refine⟨_,R,p9,_,R,.inl (Zg.of v),R,_,R,ZH (SO R) ?_⟩;exact⟨_,R,p9,_,0,_,R,R,Zg.of v,R,E H9 S9⟩
theorem ZkU{X:Cx}{e:Expr}{g1 g2:TG}(h1:PG X e g1)(g:PG X e g2):PG X e (fun v c H Q=>g1 v c H Q\/g2 v c H Q):=by
 intro pins s c H x v Q I f h;rcases h with h|h
 ·exact h1 pins s c H x v Q I f h
 ·exact g pins s c H x v Q I f h
theorem Ky{L:List (Str×V×Nat)}{scope:Scope}{cl:Oy}{cs:Addr->Option Obj}{FN:List (Str×Nat)}{j:St}{H:Hp}(f:Ld FN cl cs j H)(B:JJ (fun q:Str×V×Nat=>(q.1,q.2.2)∈FN/\j[q.2.2]? = some (some q.2.1)) L)(nd:(cl.map (·.2)).Nodup)
  (D:(scope.names.all fun p=>!(p.2 == .cell || p.2 == .free) || (cl.lookup p.1).isSome)=true) (E:JJ (fun x=>scope.names.lookup x=some .free) (L.map (·.1))):M5 (L.map (·.1)) scope cl (L.map (·.2.1)) cs:=by
 refine⟨by rw[Sv,Sv],fun i x v u h=>?_,f.cell,fun x y c=>vP nd,fun x g=>?_,fun x g=>JK E x g,fun b o e=>(f.free b o e).2⟩
 ·rw[S0]at u h
  obtain⟨q,n,rfl⟩:=Of.mp u;rw[n]at h;cases h;obtain⟨m,e⟩:=JK B q (SJ n);exact f.val _ m _ e
 ·have q:∃k,scope.names.lookup x=some k/\(k=.cell\/k=.free):=g.elim (fun z=>⟨_,z,.inl R⟩) fun z=>⟨_,z,.inr R⟩
  obtain⟨k,C,I⟩:=q;have z:=MI D C;have G:(cl.lookup x).isSome=true:=by
   rcases I with rfl|rfl
   ·simpa using z
   ·simpa using z
  exact Option.isSome_iff_exists.mp G
abbrev Mb:Str:=(("_law_tell" : Str) ++ ".<locals>.") ++ "<lambda>"
def newK(e:ZQ)(x:Zo)(z:Str)(day f c k:Nat):ZQ:=if f=0 then YV e z day (some (YW x (e z day) c k))else if f=1 then YV e z day none else VE e z day
def UU(H:Hp)(v:V):Option (List (Str×Int×Int))->Prop
 |none=>v=.non
 |some c=>∃l vs,v=.ref l/\H l=some (.lst vs)/\Al (X1 H) vs c
theorem UU.same{H c:Hp}{v:V}{o:Option (List (Str×Int×Int))}(s:Ze H c)(h:UU H v o):UU c v o:=by
 cases o with
 |none=>exact h
 |some j=>obtain⟨l,f,e,g,i⟩:=h;exact⟨l,f,e,s _ _ g,i.imp fun _ _=>X1.same s⟩
theorem Yf.tab{H f:Hp}{n:Addr}{b:NB}{TS:List Zo}{c:ZQ}{m:Nat}(k:∀a o,H a=some o->(∀I,o≠.tbl I)->f a=some o)(h:Yf t H n b TS c m):Yf t f n b TS c m:=by
 obtain⟨⟨D,fs,E,y⟩,ap,⟨rows,J,j⟩,⟨x,v,q,i⟩,⟨u,G,C,B⟩⟩:=h;refine⟨⟨D,fs,k _ _ E fun _ z=>(nomatch z),y⟩,ap,⟨rows,k _ _ J fun _ z=>(nomatch z),j.imp fun _ _=>YH.keep fun a o e _ nt _=>k a o e nt⟩,⟨x,k _ _ v fun _ z=>(nomatch z),q,i⟩,⟨u,k _ _ G fun _ z=>(nomatch z),C,fun z g=>?_⟩⟩;have:=B z g;revert this;cases c z g with
 |none=>exact id
 |some o=>cases o with
  |none=>exact id
  |some L=>exact fun⟨l,e,h⟩=>⟨l,e,k _ _ h fun _ z=>(nomatch z)⟩
theorem Yf.more{H:Hp}{n:Addr}{b:NB}{TS:List Zo}{c:ZQ}{m:Nat}(h:Yf t H n b TS c m):Yf t H n b TS c (m+1):=by
 obtain⟨o,ap,r,⟨g,f,v,q⟩,⟨e,i,u,j⟩⟩:=h;exact⟨o,ap,r,⟨g,f,Nat.le_succ_of_le v,q⟩,⟨e,i,Nat.le_succ_of_le u,j⟩⟩
theorem Xp.tab{H c:Hp}{v:V}(k:∀a o,H a=some o->(∀f,o≠.tbl f)->c a=some o)(h:Xp H v):Xp c v:=by
 obtain⟨T,h⟩:=h;cases h with
 |non=>exact⟨_,.non⟩
 |bl b=>exact⟨_,.bl b⟩
 |int i=>exact⟨_,.int i⟩
 |str x=>exact⟨_,.str x⟩
 |lst e=>exact⟨_,.lst (k _ _ e fun _ z=>(nomatch z))⟩
 |tup e=>exact⟨_,.tup (k _ _ e fun _ z=>(nomatch z))⟩
 |dK e=>exact⟨_,.dK (k _ _ e fun _ z=>(nomatch z))⟩
theorem TY{lt c f:Addr}{q:Str}{H:Hp}{k1 k2:List (List Zl×V)}(h:Y5 lt q H)(h1:H c=some (.dT k1))(g:H f=some (.dT k2)):Y5 lt q (wo (wo H c) f) :=
 h.keep (fun i e=>ZX (ZX e (Z3 e h1 (fun z=>(nomatch z)))) (Z3 e g (fun z=>(nomatch z)))) fun a e=>ZX (ZX e (Z3 e h1 (fun z=>(nomatch z)))) (Z3 e g (fun z=>(nomatch z)))
inductive ZkV(t:Yn)(vs:List V)(H:Hp)(Q:VK)(_e3:XK):Prop|mk (n lg:Addr) (b:NB) (TS:List Zo) (KF:ZQ) (m way:Nat) (vt vd vc vm:V) (_:vs=[.ref n,.int way,.ref lg]) (_:(H lg=some (.lst [vt,vd,vc,vm])\/H lg=some (.tup [vt,vd,vc,vm]))) (_:Yf t H n b TS KF m) (_:m<1000) (_:(∀x∈TS,x.Ok)) (_:Xg TS KF) (_:Z8 H [vt,vd,vc,vm]) (_:way<=3) (_:Y5 t.Wr Mb H) (_:(∀w H',Wf TS KF way vt vd vc vm=some w->Ze (wo H t.Wr) H'->Y5 t.Wr Mb H'->Q (.str w.txt) H')) (_:∀(x:Zo) (z:Str) (day c k:Nat) p v H',Wf TS KF way vt vd vc vm=none->vt=.str z->ZO Zo.nm TS z=some x->vd=.int day->day<=9999->(way=0->vc=.int c/\vm=.int k/\c<x.cs.length)->Y5 t.Wr Mb H'->H' p=some (.tup [.str (OK "told"),v])->(way<=2->v=.non/\Ze (wo (wo (wo H b.dk) b.dl) t.Wr) H'/\Yf t H' n b TS (newK KF x z day way c k) (m+1))->(way=3->Ze (wo H t.Wr) H'/\UU H' v (X4 x (KF z day) day))->Q (.ref p) H')
theorem Mc(g:Zs K mg t)(p0:W.CodeHd base t.C7 t.Wr)(q0:BM mg base):Zq P w K mg base Zt 24 t.jV t.P6 ["_law_notices","_law_way","_law_given_here"] (ZkV t):=by
 refine g.JY.F.okC UL (by lia) fun f1 A outer s H vs b1 t0 o0 Q h=>?_;obtain⟨n,lg,b,TS,O,m,k0,B,y,vc,vm,rfl,z0,hN,m1,s0,w0,hA,hw,m0,q2,q1⟩:=h;refine⟨_,(Ww (VX (pv 2) (ZkU (M4 (n:=4) R (Yv (ZY 3 UL.nd) (Yv (ZY 4 UL.nd) (Yv (ZY 5 UL.nd) (Yv (ZY 6 UL.nd) WJ))))) (Vm (n:=4) R (Yv (ZY 3 UL.nd) (Yv (ZY 4 UL.nd) (Yv (ZY 5 UL.nd) (Yv (ZY 6 UL.nd) WJ))))))) (Zi (ZJ (Z5 YE (pv 1) Zb) (Zh (Zx (JI (FN:=[(OK "_law_trip",3),(OK "_law_day",4),(OK "_law_call",5),(OK "_law_minutes",6),(OK "_law_notices",0)]) (cl:=[(OK "_law_trip",s.heap.objs.size+5),(OK "_law_notices",s.heap.objs.size+1),(OK "_law_minutes",s.heap.objs.size+4),(OK "_law_day",s.heap.objs.size+3),(OK "_law_call",s.heap.objs.size+2)]) (Kw g) (Q.mono (by lia)) R g.WP.m g.WP.F.kp g.WP.b (fun _=>R) ⟨R,⟨R,⟨R,⟨R,⟨R,trivial⟩⟩⟩⟩⟩ (JL ⟨⟨R,R,_,R,R⟩,⟨R,R,_,R,R⟩,⟨R,R,_,R,R⟩,⟨R,R,_,R,R⟩,⟨R,R,_,R,R⟩,trivial⟩) (I3 (cl:=[(OK "_law_trip",s.heap.objs.size+5),(OK "_law_notices",s.heap.objs.size+1),(OK "_law_minutes",s.heap.objs.size+4),(OK "_law_day",s.heap.objs.size+3),(OK "_law_call",s.heap.objs.size+2)]) (o0.symm.trans g.LN) p0 q0 R R)))) ZK) (Zi (ZJ (Z5 YE (pv 1) Zb) (Zh (Zx (JI (FN:=[(OK "_law_trip",3),(OK "_law_day",4),(OK "_law_notices",0)]) (cl:=[(OK "_law_trip",s.heap.objs.size+5),(OK "_law_notices",s.heap.objs.size+1),(OK "_law_day",s.heap.objs.size+3)]) (Kw g) (Q.mono (by lia)) R g.WP.m g.WP.F.kp g.WP.b (fun _=>R) ⟨R,⟨R,⟨R,trivial⟩⟩⟩ (JL ⟨⟨R,R,_,R,R⟩,⟨R,R,_,R,R⟩,⟨R,R,_,R,R⟩,trivial⟩) (I3 (cl:=[(OK "_law_trip",s.heap.objs.size+5),(OK "_law_notices",s.heap.objs.size+1),(OK "_law_day",s.heap.objs.size+3)]) (o0.symm.trans g.LN) p0 q0 R R)))) ZK) (Zi (ZJ (Z5 YE (pv 1) Zb) (Zh (Zx (JI (FN:=[(OK "_law_trip",3),(OK "_law_day",4),(OK "_law_notices",0)]) (cl:=[(OK "_law_trip",s.heap.objs.size+5),(OK "_law_notices",s.heap.objs.size+1),(OK "_law_day",s.heap.objs.size+3)]) (Kw g) (Q.mono (by lia)) R g.WP.m g.WP.F.kp g.WP.b (fun _=>R) ⟨R,⟨R,⟨R,trivial⟩⟩⟩ (JL ⟨⟨R,R,_,R,R⟩,⟨R,R,_,R,R⟩,⟨R,R,_,R,R⟩,trivial⟩) (I3 (cl:=[(OK "_law_trip",s.heap.objs.size+5),(OK "_law_notices",s.heap.objs.size+1),(OK "_law_day",s.heap.objs.size+3)]) (o0.symm.trans g.LN) p0 q0 R R)))) ZK) (Zh (Zx (JI (FN:=[(OK "_law_trip",3),(OK "_law_day",4),(OK "_law_notices",0)]) (cl:=[(OK "_law_trip",s.heap.objs.size+5),(OK "_law_notices",s.heap.objs.size+1),(OK "_law_day",s.heap.objs.size+3)]) (Kw g) (Q.mono (by lia)) R g.WP.m g.WP.F.kp g.WP.b (fun _=>R) ⟨R,⟨R,⟨R,trivial⟩⟩⟩ (JL ⟨⟨R,R,_,R,R⟩,⟨R,R,_,R,R⟩,⟨R,R,_,R,R⟩,trivial⟩) (I3 (cl:=[(OK "_law_trip",s.heap.objs.size+5),(OK "_law_notices",s.heap.objs.size+1),(OK "_law_day",s.heap.objs.size+3)]) (o0.symm.trans g.LN) p0 q0 R R)))))))),?_⟩;sleep 1;refine⟨fun y0 c=>c=H/\y0=[some (.ref n),some (.int k0),some (.ref lg),some B,some y,some vc,some vm],?_,?_⟩
 ·sleep 1;rcases z0 with h|h
  ·exact⟨_,R,.inl ⟨lg,_,R,Zg.of h,R,_,_,R,_,_,R,_,_,R,_,_,R,R,R,R⟩⟩
  ·exact⟨_,R,.inr ⟨lg,_,R,Zk.of h,R,_,_,R,_,_,R,_,_,R,_,_,R,R,R,R⟩⟩
 rintro y0 H1 ⟨rfl,rfl⟩;sleep 4;obtain⟨a1,r0⟩:=m0.at;obtain⟨⟨Tt,kt⟩,⟨Td,kd⟩,⟨Tc,kc⟩,⟨Tm,km⟩⟩:(∃d0,Kd H1 B d0)/\(∃d0,Kd H1 y d0)/\(∃d0,Kd H1 vc d0)/\(∃d0,Kd H1 vm d0):=⟨hA _ SC,hA _ (SB _ SC),hA _ (SB _ (SB _ SC)),hA _ (SB _ (SB _ (SB _ SC)))⟩;have v0:∀{a b:Nat},a≠b->¬ decide (V.int ((a:Nat):Int)=V.int ((b:Nat):Int))=true:=fun h=>by rw[WK];simpa using fun e=>h (by lia)
 by_cases c0:k0=0
 ·subst c0
  refine⟨_,R,R,_,R,ZH R ?_⟩;dsimp only[E6,JH];refine JR m0 ?_;intro f0 c' u0 f s2 U hf T cs Z;have a0:∀b o,cs b=some o->f b=none:=fun b o e=>(Z.free b o e).1;have S:∀{a o},f a=some o->cs a=none:=fun{a o} e=>by
   cases z:cs a with
   |none=>rfl
   |some ob=>rw[a0 a ob z]at e;cases e
  have eU:unl cs (lent cs f)=f:=JS a0;have calls:=I0 (P:=P) (w:=w) (K:=K) (mg:=mg) (base:=base) (k:=19) (H:=lent cs f) (by rw[Y4 (S hf)];exact hf) (by rw[Y4 (S T)];exact T) R R R (by lia) R (Ky (L:=[("_law_notices",.ref n,0),("_law_trip",B,3),("_law_day",y,4),("_law_call",vc,5),("_law_minutes",vm,6)]) Z ⟨⟨.tail _ (.tail _ (.tail _ (.tail _ (.head _)))),R⟩,⟨.head _,R⟩,⟨.tail _ (.head _),R⟩,⟨.tail _ (.tail _ (.head _)),R⟩,⟨.tail _ (.tail _ (.tail _ (.head _))),R⟩,trivial⟩ (by simp) R ⟨R,R,R,R,R,trivial⟩) (fun b o e=>Ve e) (fun A outer s t0 Q=>(YY (pv 0) g.YP g.J3.me (ZbK g) (Q.mono (by lia)) g.J3.b .nil G9 (Ym (pv 1) (Ym (pv 2) (Ym (pv 3) (Ym (pv 4) XE))))));have up:∀a o,H1 a=some o->(∀ps,o≠.tbl ps)->f a=some o:=fun a o e ne=>s2 _ _ (UJ r0 e ne);have J:=hN.tab up;obtain⟨dx,fs,e1,e2⟩:=J.ob;obtain⟨kk,g0,_⟩:=J.tk;obtain⟨kl,h0,_⟩:=J.lt;have d1:∀a o,wo H1 t.Wr a=some o->f a=some o:=s2;refine⟨f0,_,fun v D=>∃(c:Hp) (x:Zo) (z:Str) (i e0 k:Nat),D=lent cs c/\(∀b o,cs b=some o->c b=none)/\v=.non/\B=.str z/\ZO Zo.nm TS z=some x/\y=.int i/\vc=.int e0/\vm=.int k/\X5 TS O B y vc vm=none/\e0<x.cs.length/\Ze (wo (wo f b.dk) b.dl) c/\Yf t c n b TS (YV O z i (some (YW x (O z i) e0 k))) (m+1),
   fun C D=>∃c,D=lent cs c/\(∀b o,cs b=some o->c b=none)/\X5 TS O B y vc vm=some C/\Ze f c,R,calls,?_,?_,?_⟩
  ·intro Q1 E1 h1 h2
   show Qp _ _ _ _ _ _ _ _ (unl cs (lent cs f)) _;rw[eU];refine⟨_,R,n,dx,_,R,e1,e2.n_late,_,R,_,R,_,R,_,R,n,b,TS,O,m,B,y,vc,vm,R,J,m1,s0,w0,Xp.tab up ⟨Tt,kt⟩,Xp.tab up ⟨Td,kd⟩,Xp.tab up ⟨Tc,kc⟩,Xp.tab up ⟨Tm,km⟩,fun C hd c j q=>h2 C _ ⟨c,R,q,hd,j⟩,fun x z i e0 k M ex E ec em hd hc _ c j Y q=>h1 _ _ ⟨c,x,z,i,e0,k,R,q,R,M,ex,E,ec,em,hd,hc,j,Y⟩⟩
  ·rintro v D X p ⟨c,x,z,i,e0,k,rfl,q,rfl,M,ex,E,ec,em,hd,hc,j,Y⟩ G I
   have cp:cs p=none:=by
    cases z:cs p with
    |none=>rfl
    |some o=>have:=G p _ (Ve z);rw[I]at this;cases this
   have I:unl cs X p=some (.tup [.str (OK "told"),.non]):=by rw[Wo cp];exact I
   have u:=Us q G;have d9:i<=9999:=by
    have hg:Xa TS O B y=none:=by
     cases e:Xa TS O B y with
     |none=>rfl
     |some w=>unfold X5 at hd;rw[e]at hd;cases hd
    obtain⟨_,_,x0,_,_,b0,h9,_⟩:=Ks hg;rw[E]at b0;injection b0 with b0;lia
   refine q1 x z i e0 k p .non _ hd M ex E d9 (fun _=>⟨ec,em,hc⟩) ((TY U g0 h0).same (j.trans u)) I (fun _=>⟨R,fun a o e=>?_,Y.same u⟩) fun h=>(nomatch h);obtain⟨na,e⟩:=YR e;obtain⟨nb,e⟩:=YR e;obtain⟨nc,e⟩:=YR e;exact u _ _ (j _ _ (ZX (ZX (s2 _ _ (ZX e na)) nc) nb))
  ·rintro C D X ⟨c,rfl,q,hd,j⟩ G
   have u:=j.trans (Us q G);exact q2 C _ hd (s2.trans u) (U.same u)
 refine⟨_,R,R,_,R,Zn (v0 (b:=0) c0) ?_⟩;sleep 1;by_cases c1:k0=1
 ·subst c1
  refine⟨_,R,R,_,R,ZH R ?_⟩;dsimp only[E6,JH];refine JR m0 ?_;intro f0 c' u0 f s2 U hf T cs Z;have a0:∀b o,cs b=some o->f b=none:=fun b o e=>(Z.free b o e).1;have S:∀{a o},f a=some o->cs a=none:=fun{a o} e=>by
   cases z:cs a with
   |none=>rfl
   |some ob=>rw[a0 a ob z]at e;cases e
  have eU:unl cs (lent cs f)=f:=JS a0;have calls:=I0 (P:=P) (w:=w) (K:=K) (mg:=mg) (base:=base) (k:=19) (H:=lent cs f) (by rw[Y4 (S hf)];exact hf) (by rw[Y4 (S T)];exact T) R R R (by lia) R (Ky (L:=[("_law_notices",.ref n,0),("_law_trip",B,3),("_law_day",y,4)]) Z ⟨⟨.tail _ (.tail _ (.head _)),R⟩,⟨.head _,R⟩,⟨.tail _ (.head _),R⟩,trivial⟩ (by simp) R ⟨R,R,R,trivial⟩) (fun b o e=>Ve e) (fun A outer s t0 Q=>(YY (pv 0) g.YP g.Tq.me (Zj7 g) (Q.mono (by lia)) g.Tq.b .nil G9 (Ym (pv 1) (Ym (pv 2) XE))));have up:∀a o,H1 a=some o->(∀ps,o≠.tbl ps)->f a=some o:=fun a o e ne=>s2 _ _ (UJ r0 e ne);have J:=hN.tab up;obtain⟨dx,fs,e1,e2⟩:=J.ob;obtain⟨kk,g0,_⟩:=J.tk;obtain⟨kl,h0,_⟩:=J.lt;obtain⟨l0,j0⟩:=Xp.tab up ⟨Tt,kt⟩;obtain⟨n0,i0⟩:=Xp.tab up ⟨Td,kd⟩;refine⟨f0,_,fun v D=>∃(c:Hp) (x:Zo) (z:Str) (i:Nat),D=lent cs c/\(∀b o,cs b=some o->c b=none)/\v=.non/\B=.str z/\ZO Zo.nm TS z=some x/\y=.int i/\Xa TS O B y=none/\Ze (wo (wo f b.dk) b.dl) c/\Yf t c n b TS (YV O z i none) (m+1),
   fun C D=>∃c,D=lent cs c/\(∀b o,cs b=some o->c b=none)/\Xa TS O B y=some C/\Ze f c,R,calls,?_,?_,?_⟩
  ·intro Q1 E1 h1 h2
   show Qp _ _ _ _ _ _ _ _ (unl cs (lent cs f)) _;rw[eU];refine⟨_,R,n,dx,_,R,e1,e2.n_out,_,R,_,R,n,b,TS,O,m,B,y,l0,n0,R,J,m1,s0,j0,i0,fun C hd c j q=>h2 C _ ⟨c,R,q,hd,j⟩,fun x z i M ex E hd c j Y q=>h1 _ _ ⟨c,x,z,i,R,q,R,M,ex,E,hd,j,Y⟩⟩
  ·rintro v D X p ⟨c,x,z,i,rfl,q,rfl,M,ex,E,hd,j,Y⟩ G I
   have cp:cs p=none:=by
    cases z:cs p with
    |none=>rfl
    |some o=>have:=G p _ (Ve z);rw[I]at this;cases this
   have I:unl cs X p=some (.tup [.str (OK "told"),.non]):=by rw[Wo cp];exact I
   have u:=Us q G;have d9:i<=9999:=by
    obtain⟨_,_,x0,_,_,b0,h9,_⟩:=Ks hd;rw[E]at b0;injection b0 with b0;lia
   refine q1 x z i 0 0 p .non _ hd M ex E d9 (fun h=>(nomatch h)) ((TY U g0 h0).same (j.trans u)) I (fun _=>⟨R,fun a o e=>?_,Y.same u⟩) fun h=>(nomatch h);obtain⟨na,e⟩:=YR e;obtain⟨nb,e⟩:=YR e;obtain⟨nc,e⟩:=YR e;exact u _ _ (j _ _ (ZX (ZX (s2 _ _ (ZX e na)) nc) nb))
  ·rintro C D X ⟨c,rfl,q,hd,j⟩ G
   have u:=j.trans (Us q G);exact q2 C _ hd (s2.trans u) (U.same u)
 refine⟨_,R,R,_,R,Zn (v0 (b:=1) c1) ?_⟩;by_cases c2:k0=2
 ·subst c2
  refine⟨_,R,R,_,R,ZH R ?_⟩;dsimp only[E6,JH];refine JR m0 ?_;intro f0 c' u0 f s2 U hf T cs Z;have a0:∀b o,cs b=some o->f b=none:=fun b o e=>(Z.free b o e).1;have S:∀{a o},f a=some o->cs a=none:=fun{a o} e=>by
   cases z:cs a with
   |none=>rfl
   |some ob=>rw[a0 a ob z]at e;cases e
  have eU:unl cs (lent cs f)=f:=JS a0;have calls:=I0 (P:=P) (w:=w) (K:=K) (mg:=mg) (base:=base) (k:=19) (H:=lent cs f) (by rw[Y4 (S hf)];exact hf) (by rw[Y4 (S T)];exact T) R R R (by lia) R (Ky (L:=[("_law_notices",.ref n,0),("_law_trip",B,3),("_law_day",y,4)]) Z ⟨⟨.tail _ (.tail _ (.head _)),R⟩,⟨.head _,R⟩,⟨.tail _ (.head _),R⟩,trivial⟩ (by simp) R ⟨R,R,R,trivial⟩) (fun b o e=>Ve e) (fun A outer s t0 Q=>(YY (pv 0) g.YP g.J4.me (ZbL g) (Q.mono (by lia)) g.J4.b .nil G9 (Ym (pv 1) (Ym (pv 2) XE))));have up:∀a o,H1 a=some o->(∀ps,o≠.tbl ps)->f a=some o:=fun a o e ne=>s2 _ _ (UJ r0 e ne);have J:=hN.tab up;obtain⟨dx,fs,e1,e2⟩:=J.ob;obtain⟨kk,g0,_⟩:=J.tk;obtain⟨kl,h0,_⟩:=J.lt;obtain⟨l0,j0⟩:=Xp.tab up ⟨Tt,kt⟩;obtain⟨n0,i0⟩:=Xp.tab up ⟨Td,kd⟩;refine⟨f0,_,fun v D=>∃(c:Hp) (x:Zo) (z:Str) (i:Nat),D=lent cs c/\(∀b o,cs b=some o->c b=none)/\v=.non/\B=.str z/\ZO Zo.nm TS z=some x/\y=.int i/\Xk TS B y=none/\Ze (wo (wo f b.dk) b.dl) c/\Yf t c n b TS (VE O z i) m,
   fun C D=>∃c,D=lent cs c/\(∀b o,cs b=some o->c b=none)/\Xk TS B y=some C/\Ze f c,R,calls,?_,?_,?_⟩
  ·intro Q1 E1 h1 h2
   show Qp _ _ _ _ _ _ _ _ (unl cs (lent cs f)) _;rw[eU];refine⟨_,R,n,dx,_,R,e1,e2.n_back,_,R,_,R,n,b,TS,O,m,B,y,l0,n0,R,J,s0,j0,i0,fun C hd c j q=>h2 C _ ⟨c,R,q,hd,j⟩,fun x z i M ex E hd c j Y q=>h1 _ _ ⟨c,x,z,i,R,q,R,M,ex,E,hd,j,Y⟩⟩
  ·rintro v D X p ⟨c,x,z,i,rfl,q,rfl,M,ex,E,hd,j,Y⟩ G I
   have cp:cs p=none:=by
    cases z:cs p with
    |none=>rfl
    |some o=>have:=G p _ (Ve z);rw[I]at this;cases this
   have I:unl cs X p=some (.tup [.str (OK "told"),.non]):=by rw[Wo cp];exact I
   have u:=Us q G;have d9:i<=9999:=by
    obtain⟨_,_,x0,_,_,b0,h9,_⟩:=D6 hd;rw[E]at b0;injection b0 with b0;lia
   refine q1 x z i 0 0 p .non _ hd M ex E d9 (fun h=>(nomatch h)) ((TY U g0 h0).same (j.trans u)) I (fun _=>⟨R,fun a o e=>?_,(Y.same u).more⟩) fun h=>(nomatch h);obtain⟨na,e⟩:=YR e;obtain⟨nb,e⟩:=YR e;obtain⟨nc,e⟩:=YR e;exact u _ _ (j _ _ (ZX (ZX (s2 _ _ (ZX e na)) nc) nb))
  ·rintro C D X ⟨c,rfl,q,hd,j⟩ G
   have u:=j.trans (Us q G);exact q2 C _ hd (s2.trans u) (U.same u)
 refine⟨_,R,R,_,R,Zn (v0 (b:=2) c2) ?_⟩;obtain rfl:k0=3:=by lia
 dsimp only[zF,E6,JH];refine JR m0 ?_;intro f0 c' u0 f s2 U hf T cs Z;have a0:∀b o,cs b=some o->f b=none:=fun b o e=>(Z.free b o e).1;have S:∀{a o},f a=some o->cs a=none:=fun{a o} e=>by
  cases z:cs a with
  |none=>rfl
  |some ob=>rw[a0 a ob z]at e;cases e
 have eU:unl cs (lent cs f)=f:=JS a0;have calls:=I0 (P:=P) (w:=w) (K:=K) (mg:=mg) (base:=base) (k:=19) (H:=lent cs f) (by rw[Y4 (S hf)];exact hf) (by rw[Y4 (S T)];exact T) R R R (by lia) R (Ky (L:=[("_law_notices",.ref n,0),("_law_trip",B,3),("_law_day",y,4)]) Z ⟨⟨.tail _ (.tail _ (.head _)),R⟩,⟨.head _,R⟩,⟨.tail _ (.head _),R⟩,trivial⟩ (by simp) R ⟨R,R,R,trivial⟩) (fun b o e=>Ve e) (fun A outer s t0 Q=>(YY (pv 0) g.YP g.J5.me (ZbJ g) (Q.mono (by lia)) g.J5.b .nil G9 (Ym (pv 1) (Ym (pv 2) XE))));have up:∀a o,H1 a=some o->(∀ps,o≠.tbl ps)->f a=some o:=fun a o e ne=>s2 _ _ (UJ r0 e ne);have J:=hN.tab up;obtain⟨dx,fs,e1,e2⟩:=J.ob;obtain⟨kk,g0,_⟩:=J.tk;obtain⟨kl,h0,_⟩:=J.lt;obtain⟨l0,j0⟩:=Xp.tab up ⟨Tt,kt⟩;obtain⟨n0,i0⟩:=Xp.tab up ⟨Td,kd⟩;refine⟨f0,_,fun v D=>∃(c:Hp) (x:Zo) (z:Str) (i:Nat),D=lent cs c/\(∀b o,cs b=some o->c b=none)/\B=.str z/\ZO Zo.nm TS z=some x/\y=.int i/\i<=9999/\Ze f c/\UU c v (X4 x (O z i) i),
  fun C D=>∃c,D=lent cs c/\(∀b o,cs b=some o->c b=none)/\Xt TS B y=some C/\Ze f c,R,calls,?_,?_,?_⟩
 ·intro Q1 E1 h1 h2
  show Qp _ _ _ _ _ _ _ _ (unl cs (lent cs f)) _;rw[eU];refine⟨_,R,n,dx,_,R,e1,e2.n_moments,_,R,_,R,n,TS,O,m,B,y,l0,n0,R,⟨b,J⟩,s0,j0,i0,w0,fun C hd q=>h2 C _ ⟨f,R,q,hd,Ze.refl _⟩,fun x z i M ex E d9=>⟨fun hm c j q=>h1 _ _ ⟨c,x,z,i,R,q,M,ex,E,d9,j,by rw[hm];rfl⟩,fun ms hm l vs c j gl hl al q=>h1 _ _ ⟨c,x,z,i,R,q,M,ex,E,d9,j,by rw[hm];exact⟨l,vs,R,hl,al⟩⟩⟩⟩
 ·rintro v D X p ⟨c,x,z,i,rfl,q,M,ex,E,d9,j,hM⟩ G I
  have cp:cs p=none:=by
   cases z:cs p with
   |none=>rfl
   |some o=>have:=G p _ (Ve z);rw[I]at this;cases this
  have I:unl cs X p=some (.tup [.str (OK "told"),v]):=by rw[Wo cp];exact I
  have u:=Us q G;have hd:Xt TS B y=none:=by
   subst M E;unfold Xt;rw[SU (by show ¬ (ZO Zo.nm TS z).isNone=true;rw[ex];exact SN),SU (by rw[VN (show(0:Int)<=(i:Int) by lia) (show(i:Int)<=9999 by lia)];lia)]
  exact q1 x z i 0 0 p v _ hd M ex E d9 (fun h=>(nomatch h)) (U.same (j.trans u)) I (fun h=>Oq h (by lia)) fun _=>⟨s2.trans (j.trans u),hM.same u⟩
 ·rintro C D X ⟨c,rfl,q,hd,j⟩ G
  have u:=j.trans (Us q G);exact q2 C _ hd (s2.trans u) (U.same u)
def dM(m:Str×Int×Int):PyData:=.tuple [.str m.1,.int m.2.1,.int m.2.2]
theorem Md{H:Hp}{K:Ow}:∀{vs:List V} {ms:List (Str×Int×Int)},Al (X1 H) vs ms->(∀m∈ms,YU m.1)->Wu K H vs (ms.map dM)
 |_,_,.nil,_=>.nil
 |_,_,.cons ⟨p,e,h⟩ r,ok=>by
  subst e;exact .cons (.tup (Zk.of h) (.cons (.str _ (QZ (ok _ SC))) (.cons (.int _) (.cons (.int _) .nil)))) (Md r fun m hm=>ok m (SB _ hm))
theorem TZ:∀c:List (Str×Int×Int),PyData.depthAll (c.map dM)<=1
 |[]=>by simp[PyData.depthAll]
 |m::c=>by
  have:=TZ c;simp[dM,PyData.depth,PyData.depthAll];lia
def Me:Option (List (Str×Int×Int))->PyData
 |none=>.none
 |some c=>.list (c.map dM)
theorem UU.dv{H:Hp}{K:Ow}{v:V}{o:Option (List (Str×Int×Int))}(h:UU H v o)(ok:∀c,o=some c->∀m∈c,YU m.1):DV K H v (Me o):=by
 cases o with
 |none=>obtain rfl:v=.non:=h;exact .non
 |some c=>obtain⟨l,g,rfl,e,f⟩:=h;exact .lst (Zg.of e) (Md f (ok c R))
theorem ZkW(o:Option (List (Str×Int×Int))):(Me o).depth<=2:=by
 cases o with
 |none=>simp[Me,PyData.depth]
 |some c=>have:=TZ c;simp[Me,PyData.depth];lia
def Qh(TS:List Zo)(f e:ZQ):Prop:=∀x∈TS,∀c,(f x.nm c=some none↔e x.nm c=some none)/\Xo x (f x.nm c)=Xo x (e x.nm c)
theorem ZbU{TS:List Zo}{f g:ZQ}(h:Qh TS f g){x:Zo}(i:x∈TS)(day:Nat):X4 x (f x.nm day) day=X4 x (g x.nm day) day:=by
 have:=h x i day;unfold X4;by_cases c:f x.nm day=some none
 ·rw[SV c,SV (this.1.mp c)]
 ·rw[SU c,SU (fun e=>c (this.1.mpr e)),this.2]
theorem ZbV{g:OC}{x:Zo}{o:Option (Option (List Nat))}{day:Nat}(h:∀c∈x.cs,c.st∈g)(hn:∀z∈g,YU z):∀f,X4 x o day=some f->∀m∈f,YU m.1:=fun f e m hm=>by
 unfold X4 at e
 split at e
 ·split at e
  ·cases e
  ·cases e
   unfold YC at hm;obtain⟨i,j,rfl⟩:=List.mem_iff_getElem.mp hm;rw[List.getElem_zipWith];exact hn _ (h _ (Oi _))
 ·cases e
theorem VU.hold{G:Hp}{e:Addr}{W:Z7}(h:VU G e W):∃c dp rp,G e=some (.dK c)/\Zz c (Sum.inr (OK "trips"))=some (.ref dp)/\G dp=some (.dK rp)/\Al (Xl G) rp W.tp/\e≠dp/\∀ob g,XR G dp ob rp g->Qf g e W/\g e=some (.dK c):=by
 obtain⟨c,dr,dp,y,rp,u,B,v,C,i,x,n,q,D⟩:=h.ex;refine⟨c,dp,rp,u,v,i,n,q,fun ob g f=>?_⟩;have j:=f.s _ _ (show Za G dp (.frz ob (.dK rp)) e=some (.dK c) by rw[Zf q];exact u);exact⟨⟨c,dr,dp,y,rp,j,B,v,.inl (f.s _ _ (by rw[Zf D];exact C)),.inr ⟨ob,f.frz⟩,x.imp fun _ _ h=>(XQ.put i h).same f.s,n.imp fun _ _ h=>(Xl.put i h).same f.s⟩,j⟩
theorem Yf.put{H:Hp}{n d:Addr}{b:NB}{TS:List Zo}{c:ZQ}{m:Nat}{u:List (Zl×V)}{o:HO}(h:Yf t H n b TS c m)(hd:H d=some (.dK u))(D:b.dt≠d):Yf t (Za H d o) n b TS c m:=by
 obtain⟨⟨G,fs,I,B⟩,ap,⟨rows,J,q⟩,⟨y,f,v,j⟩,⟨x,i,E,C⟩⟩:=h;refine⟨⟨G,fs,UR hd ZI.k I,B⟩,ap,⟨rows,by rw[Zf D];exact J,q.imp fun _ _=>YH.put hd ZI.k (fun _ z=>(nomatch z))⟩,⟨y,by rw[Zf (Z3 f hd (by intro z;cases z))];exact f,v,j⟩,⟨x,by rw[Zf (Z3 i hd (by intro z;cases z))];exact i,E,fun z g=>?_⟩⟩;have:=C z g;revert this;cases c z g with
 |none=>exact id
 |some o=>cases o with
  |none=>exact id
  |some L=>exact fun⟨l,e,h⟩=>⟨l,e,XB hd h⟩
theorem Mf{W:Z7}(ok:US W){y:Tp}(c:y∈W.tp):ZO Zo.nm (ZL W) y.nm=some (WQ W y):=by
 unfold ZL;rw[Ku (nm:=Tp.nm) (f:=WQ W) (nm':=Zo.nm) (fun _=>R),VC ok.pn c];rfl
inductive ZkX(t:Yn)(vs:List V)(H:Hp)(Q:VK)(_e3:XK):Prop|mk (n wd g ld:Addr) (b:NB) (W:Z7) (KF GF:ZQ) (m:Nat) (kvs:List (List Zl×V)) (ds:OG) (G:Hp) (_:vs=[.ref n,.ref wd,.ref g,.ref ld]) (_:Yf t H n b (ZL W) KF m) (_:VU G wd W) (_:Ze G H) (_:G b.dt=none) (_:US W) (_:H g=some (.dT kvs)) (_:XI H kvs GF) (_:Xg (ZL W) KF) (_:Xg (ZL W) GF) (_:Qh (ZL W) KF GF) (_:H ld=some (.lst (Yb ds))) (_:(∀d∈ds,d<=9999)) (_:∀H',Ze H H'->Q (.bl true) H')
theorem ZkY(h:Zs K mg t):Zq P w K mg base Zt 13 t.jY t.jZ ["_law_notices","_law_world_here","_law_gaps","_law_days_here"] (ZkX t):=by
 refine h.ZaF.F.ok NO (by lia) fun k1 A outer s H vs h1 q1 S e0=>?_;obtain⟨n,I,g,ld,b,W,KF,T,m,O,ds,d1,rfl,hN,hW,u,nb,G,hg,gp,v0,y0,ag,r0,d9,o0⟩:=e0;obtain⟨wk,dp,rp,f1,f2,e,f4,o1,hold⟩:=hW.hold;refine⟨_,(Zi (B8 (XG (ZfX (YB S (pv 1) ZA)) (ZY 4 NO.nd) (Zh (XG (VZ (pv 3)) (ZY 5 NO.nd) (Zh (ZJ (Z5 (KW S.units) (YY (pv 0) h.YP h.J5.me (ZbJ h) (S.mono (by lia)) h.J5.b .nil wI (Zr (pv 4) (pv 5))) (ZC h.RP (ZbP h) S Zp (Wq (pv 1) (pv 2) (pv 4) (pv 5)))) (Zh (Zx XD)) ZK)))))) (Zh (Zx XD))),?_⟩;sleep 2;refine⟨dp,.dK rp,u _ _ e,.inl ⟨rp,R⟩,fun ob=>?_⟩;sleep 1;have j:=XR.new ob e u;have h0:=XR.new ob (u _ _ e) (Ze.refl H);have hf:=hN.put (o:=.frz ob (.dK rp)) (u _ _ e) (ZT e nb).symm;have c0:Za H dp (.frz ob (.dK rp)) g=some (.dT O):=by rw[Zf (Z3 hg (u _ _ e) (by intro z;cases z))];exact hg
 have a0:XI (Za H dp (.frz ob (.dK rp))) O T:=gp.keep fun l xs q0=>XB (u _ _ e) q0;have d0:Za H dp (.frz ob (.dK rp)) ld=some (.lst (Yb ds)):=XB (u _ _ e) r0;generalize Za H dp (.frz ob (.dK rp))=J at j h0 hf c0 a0 d0 ⊢;refine⟨_,R,I,.ref dp,R,by rw[<-f2];exact Z9.k (k:=Sum.inr (OK "trips")) (hold ob J j).2,dp,ob,rp,R,j.frz,ZfY (fun k0 c E=>Ze J E/\∃Z i:Option V,c=[some (.ref n),some (.ref I),some (.ref g),some (.ref ld),Z,i]) ⟨Ze.refl _,_,_,R⟩ (fun k0 c E _ ⟨X,_⟩=>X _ _ j.frz) ?_ ?_⟩
 ·rintro k0 kv c H3 z0 ⟨D,Z,i,rfl⟩
  obtain⟨y,ey,ek,_⟩:=f4.get z0;have C:=Mf G (SJ ey);generalize s0:WQ W y=x at C;have f0:y.nm=x.nm:=by rw[<-s0];rfl
  rw[f0]at C;have i0:=(X2 C).1;rw[ek,f0];sleep 101;refine⟨_,R,ld,R,⟨_,Zg.of (D _ _ d0)⟩,E9 (xs:=Yb ds) (fun n0 c E=>Ze J E/\∃i:Option V,c=[some (.ref n),some (.ref I),some (.ref g),some (.ref ld),some (.str x.nm),i]) ⟨D,_,R⟩ (fun n0 c E _ ⟨X,_⟩=>Zg.of (X _ _ d0)) ?_ ?_⟩
  ·rintro n0 i1 c H4 hv ⟨v,i,rfl⟩
   rw[S0]at hv;sleep 101;obtain⟨day,Q,rfl⟩:=Of.mp hv;have l1:=d9 day (SJ Q);have j0:=hf.same v;obtain⟨dx,fs,e1,e2⟩:=j0.ob;obtain⟨ru,hT,m0,_,l2,cs⟩:=((hold ob J j).1.same v).trip G C;have hd:Xt (ZL W) (.str x.nm) (.int day)=none:=by
    unfold Xt;rw[SU (by show ¬ (ZO Zo.nm (ZL W) x.nm).isNone=true;rw[C];exact SN),SU (by rw[VN (show(0:Int)<=(day:Int) by lia) (show(day:Int)<=9999 by lia)];lia)]
   have b1:=ZbV (x:=x) (o:=KF x.nm day) (day:=day) cs.st fun z hz=>by
    obtain⟨y,Y,rfl⟩:=SI.mp hz;exact(G.so y Y).1
   have a1:∀y∈ZL W,y.Ok:=fun y Y=>by
    obtain⟨c1,hu,rfl⟩:=SI.mp Y;exact((hold ob J j).1.trip G (Mf G hu)).choose_spec.2.1
   have b0:=ZbU ag i0 day;have g0:∀U,T x.nm day=some (some U)->U.length=x.cs.length:=fun U e0=>y0 x i0 day U e0;refine⟨_,R,n,dx,_,R,e1,e2.n_moments,_,R,_,R,n,ZL W,KF,m,.str x.nm,.int day,"str","int",R,⟨b,j0⟩,a1,.str _,.int _,v0,fun w hw=>(by rw[hd]at hw;cases hw),fun x' z x0 ez ex Q _=>?_⟩;injection ez with ez;injection Q with Q;subst ez;obtain rfl:day=x0:=by lia
   obtain rfl:x=x':=So (C.symm.trans ex);refine⟨fun hm H5 s5=>?_,fun B hm l vs H5 s5 gl hl al=>?_⟩
   ·have q:=v.trans s5
    refine⟨_,R,_,R,_,R,_,R,I,g,day,x,ru,O,T,R,hT.same s5,m0,q _ _ c0,a0.same q,g0,fun _ M L=>?_,fun B f=>(by rw[<-b0,hm]at f;cases f)⟩;exact⟨_,_,.non,.non,by simp[PyData.depth],_,R,Zn (by rw[SeqAt.eqv_refl _ (DV.non (K:=K) (H:=M)).can];lia) ⟨q.trans L,_,R⟩⟩
   ·have q:=v.trans s5
    refine⟨_,R,_,R,_,R,_,R,I,g,day,x,ru,O,T,R,hT.same s5,m0,q _ _ c0,a0.same q,g0,fun f=>(by rw[<-b0,hm]at f;cases f),fun p0 f l2 j1 M L m1 t0 u0=>?_⟩;obtain rfl:B=p0:=by rw[<-b0,hm]at f;exact So f
    have n1:=b1 B hm;have l0:DV K M (.ref l) (.list (B.map dM)):=.lst (Zg.of (L _ _ hl)) (Md (al.imp fun _ _=>X1.same L) n1);have w0:DV K M (.ref l2) (.list (B.map dM)):=.lst (Zg.of t0) (Md u0 n1);exact⟨_,_,l0,w0,by have:=TZ B;simp[PyData.depth];lia,_,R,Zn (by rw[SeqAt.eqv_refl _ l0.can];lia) ⟨q.trans L,_,R⟩⟩
  ·rintro c H4 ⟨v,i,rfl⟩
   exact⟨v,_,_,R⟩
 ·rintro c H3 ⟨D,Z,i,rfl⟩
  exact⟨D _ _ j.frz,o0 _ ((h0.same D).thaw)⟩
theorem ZbW{q:OC}{cs:List Cl}{c:OG}(h:WG q cs)(l:c.length=cs.length):We (YC 0 cs c)=true↔∀i (hi:i+1<cs.length),(cs[i].lv:Int)+(c[i]'(by lia):Nat)<cs[i+1].ar+(c[i+1]'(by lia):Nat):=by
 have f:∀i (hi:i<cs.length),(YC 0 cs c)[i]? = some (VB 0 cs[i] (c[i]'(by lia))):=fun i hi=>by
  unfold YC;rw[List.getElem?_zipWith,Ss hi,Ss (by lia)]
 have fl:∀i (hi:i+1<cs.length),Vk (VB 0 cs[i+1] (c[i+1]'(by lia))) (VB 0 cs[i] (c[i]'(by lia)))=decide ((cs[i].lv:Int)+(c[i]'(by lia):Nat)<cs[i+1].ar+(c[i+1]'(by lia):Nat)):=fun i hi=>by
  have u:=h.fol i cs[i] cs[i+1] (Ss _) (Ss _);unfold Vk;rw[SQ (show ¬ V.str (VB 0 cs[i+1] (c[i+1]'(by lia))).1=V.str (VB 0 cs[i] (c[i]'(by lia))).1 from fun e=>u.1 (by injection e))];show(true && decide _)=_;rw[Os];refine decide_eq_decide.mpr ?_;show(0:Int)+((c[i+1]'(by lia):Nat):Int)+(cs[i+1].ar:Nat)>0+((c[i]'(by lia):Nat):Int)+(cs[i].lv:Nat)↔_;constructor<;>intro h<;>omega
 rw[Ko];constructor
 ·intro j i hi
  have:=j i _ _ (f i (by lia)) (f (i+1) hi);rw[fl i hi]at this;exact SR this
 ·intro j i a b n g
  have x:=(Sr.mp g).1;have v:(YC 0 cs c).length=cs.length:=by unfold YC;rw[List.length_zipWith,l,Nat.min_self]
  rw[f i (by lia)]at n;rw[f (i+1) (by lia)]at g;cases n;cases g;rw[fl i (by lia)];exact SO (j i (by lia))
theorem D8{x:Zo}{o:Option (Option (List Nat))}{c k:Nat}(g:(Xo x o).length=x.cs.length)(f:c<=x.cs.length){i:Nat}(hi:i<x.cs.length)(e:i<(YW x o c k).length):(YW x o c k)[i]=if i<c then (Xo x o)[i] else k:=by
 rw[List.getElem_eq_iff];unfold YW;by_cases h:i<c
 ·rw[List.getElem?_append_left (by rw[Sx];lia),List.getElem?_take_of_lt h,SV h]
  exact Ss _
 ·rw[Oa (by rw[Sx];lia),List.getElem?_replicate,SV (by rw[Sx];lia),SU h]
theorem ZbX{TS:List Zo}{e:ZQ}{x:Zo}{z:Str}{day c k:Nat}(f:ZO Zo.nm TS z=some x)(hd:day<=9999)(h:x.r.runs day=true)(hn:e z day≠some none)(n:c<x.cs.length)(q:k<=300) :
  X5 TS e (.str z) (.int day) (.int c) (.int k)=if We (YC 0 x.cs (YW x (e z day) c k))=true then none else some .calls:=by
 have g:Xt TS (.str z) (.int day)=none:=by
  unfold Xt;rw[SU (by show ¬ (ZO Zo.nm TS z).isNone=true;rw[f];exact SN),SU (by rw[VN (show(0:Int)<=(day:Int) by lia) (show(day:Int)<=9999 by lia)];lia)]
 have j:Xk TS (.str z) (.int day)=none:=by
  unfold Xk;rw[g];show(if VT TS (.str z) (.int day)=true then none else some Wn.run)=_;rw[show VT TS (.str z) (.int day)=x.r.runs day by unfold VT;rw[show Wt TS (.str z)=some x from f];rfl,SV h]
 have i:Xa TS e (.str z) (.int day)=none:=by
  unfold Xa;rw[j];exact SU hn
 unfold X5;rw[i];dsimp only;rw[show Wt TS (.str z)=some x from f];dsimp only;rw[SU (by rw[VN (show(0:Int)<=(c:Int) by lia) (show(c:Int)<=((x.cs.length:Nat):Int) - 1 by lia)];lia),SU (by rw[VN (show(0:Int)<=(k:Int) by lia) (show(k:Int)<=300 by lia)];lia)];rfl
theorem Xg.set{TS:List Zo}{i:ZQ}(h:Xg TS i){x:Zo}{z:Str}{day:Nat}{o:Option (List Nat)}(nd:(TS.map Zo.nm).Nodup)(n:ZO Zo.nm TS z=some x)(j:∀f,o=some f->f.length=x.cs.length):Xg TS (YV i z day o):=fun y g d f e=>by
 unfold YV at e;by_cases c:y.nm=z/\d=day
 ·rw[SV c]at e
  have:ZO Zo.nm TS y.nm=some y:=VC nd g;rw[c.1,n]at this;cases this;exact j f (So e)
 ·rw[SU c]at e;exact h y g d f e
theorem Xg.del{TS:List Zo}{f:ZQ}(h:Xg TS f)(z:Str)(day:Nat):Xg TS (VE f z day):=fun y g d i e=>by
 unfold VE at e;by_cases c:y.nm=z/\d=day
 ·rw[SV c]at e;cases e
 ·rw[SU c]at e;exact h y g d i e
def Yi(H c:Hp):Prop:=∀a o,H a=some o->(∀f,o≠.dT f)->(∀e,o≠.tbl e)->c a=some o
theorem Yi.of{H c:Hp}(s:Ze H c):Yi H c:=fun a o e _ _=>s a o e
theorem Yi.trans{H h f:Hp}(a:Yi H h)(b:Yi h f):Yi H f:=fun c o e i g=>b c o (a c o e i g) i g
theorem Yi.late{H c:Hp}{n:Addr}{b:NB}{TS:List Zo}{i:ZQ}{m:Nat}(h:Yf t H n b TS i m)(s:Ze (wo (wo H b.dk) b.dl) c):Yi H c:=fun a o e f _=>by
 obtain⟨u,g,_⟩:=h.tk;obtain⟨q,j,_⟩:=h.lt;exact s _ _ (ZX (ZX e (Z3 e g (f _))) (Z3 e j (f _)))
theorem Yi.tab{H c:Hp}{lt:Addr}{q:Str}(h:Y5 lt q H)(s:Ze (wo H lt) c):Yi H c:=fun a o e _ f=>by
 obtain⟨i,g⟩:=h.at;exact s _ _ (ZX e (Z3 e g (f _)))
theorem Yi.both{H c:Hp}{n:Addr}{b:NB}{TS:List Zo}{j:ZQ}{m:Nat}{lt:Addr}{q:Str}(hn:Yf t H n b TS j m)(h:Y5 lt q H)(s:Ze (wo (wo (wo H b.dk) b.dl) lt) c):Yi H c:=fun a o e f i=>by
 obtain⟨y,g,_⟩:=hn.tk;obtain⟨x,v,_⟩:=hn.lt;obtain⟨B,u⟩:=h.at;exact s _ _ (ZX (ZX (ZX e (Z3 e g (f _))) (Z3 e v (f _))) (Z3 e u (i _)))
abbrev ZkZ:Str:=(("_law_borders" : Str) ++ ".<locals>.") ++ "<lambda>"
def XC(t:Yn)(H:Hp):Prop:=Y5 t.Wr Mb H/\Y5 t.Ut ZkZ H
theorem XC.keep{H e:Hp}(k1:∀a f,H a=some (.tbl f)->e a=some (.tbl f))(k2:∀a c q,H a=some (Vd c q)->e a=some (Vd c q))(h:XC t H):XC t e:=⟨h.1.keep (k1 _) fun a=>k2 a a _,h.2.keep (k1 _) fun a=>k2 a a _⟩
theorem XC.late{H g:Hp}{n:Addr}{b:NB}{TS:List Zo}{j:ZQ}{m:Nat}(hn:Yf t H n b TS j m)(h:XC t H)(s:Ze (wo (wo H b.dk) b.dl) g):XC t g:=by
 obtain⟨v,f,_⟩:=hn.tk;obtain⟨u,i,_⟩:=hn.lt;exact h.keep (fun a x e=>s _ _ (ZX (ZX e (Z3 e f (fun z=>(nomatch z)))) (Z3 e i (fun z=>(nomatch z))))) fun a c q e=>s _ _ (ZX (ZX e (Z3 e f (fun z=>(nomatch z)))) (Z3 e i (fun z=>(nomatch z))))
theorem Kz{H f:Hp}{lt c:Addr}{q g:Str}(h:Y5 lt q H)(j:Y5 c g H)(ne:c≠lt)(s:Ze (wo H lt) f):Y5 c g f:=by
 obtain⟨u,i⟩:=h.at;exact j.keep (fun n e=>s _ _ (ZX e ne)) fun a e=>s _ _ (ZX e (Z3 e i (fun z=>(nomatch z))))
theorem ZbY{H i:Hp}{lt c g j:Addr}{q n:Str}{k1 k2:List (List Zl×V)}(h:Y5 lt q H)(v:Y5 c n H)(ne:c≠lt)(h1:H g=some (.dT k1))(f:H j=some (.dT k2))(s:Ze (wo (wo (wo H g) j) lt) i):Y5 c n i:=by
 obtain⟨y,u⟩:=h.at;exact v.keep (fun x e=>s _ _ (ZX (ZX (ZX e (Z3 e h1 (fun z=>(nomatch z)))) (Z3 e f (fun z=>(nomatch z)))) ne)) fun a e=>s _ _ (ZX (ZX (ZX e (Z3 e h1 (fun z=>(nomatch z)))) (Z3 e f (fun z=>(nomatch z)))) (Z3 e u (fun z=>(nomatch z))))
theorem Zk0{f:OC}{x:Zo}{o:Option (Option (List Nat))}(h:WG f x.cs)(c:(Xo x o).length=x.cs.length):We (YC 0 x.cs (YW x o 0 300))=true:=by
 have e:(YW x o 0 300).length=x.cs.length:=by unfold YW;rw[Su,Sx,Sz];lia
 rw[ZbW h e];intro i g;rw[D8 c (Sk _) (by lia),D8 c (Sk _) (by lia),SU (by lia),SU (by lia)];have:=(h.fol i x.cs[i] x.cs[i+1] (Ss _) (Ss _)).2;lia
theorem ZbZ{B:OC}{x:Zo}{k j:Nat}(h:WG B x.cs)(h1:1<=k)(D:k<x.cs.length):We (YC 0 x.cs (YW x (some (some (List.replicate x.cs.length 300))) k j))=true↔(x.cs[k - 1].lv:Int)+300<x.cs[k].ar+(j:Nat):=by
 have c:(Xo x (some (some (List.replicate x.cs.length 300)))).length=x.cs.length:=Sz;have y:(YW x (some (some (List.replicate x.cs.length 300))) k j).length=x.cs.length:=by unfold YW;rw[Su,Sx,Sz,c];lia
 have f:∀i (n:i<x.cs.length) q,(Xo x (some (some (List.replicate x.cs.length 300))))[i]'q=300:=fun i n q=>List.getElem_replicate ..;rw[ZbW h y];constructor
 ·intro C
  have:=C (k - 1) (by lia);rw[D8 c (by lia) (by lia),D8 c (by lia) (by lia),SV (by lia),SU (by lia),f _ (by lia)]at this;have e:x.cs[k - 1+1]'(by lia)=x.cs[k]:=by congr 1;lia
  rw[e]at this;exact this
 ·intro v i n
  have E:=(h.fol i x.cs[i] x.cs[i+1] (Ss _) (Ss _)).2;rw[D8 c (by lia) (by lia),D8 c (by lia) (by lia)];by_cases g:i+1<k
  ·rw[SV (by lia),SV g,f _ (by lia),f _ (by lia)];lia
  ·by_cases u:i<k
   ·obtain rfl:k=i+1:=by lia
    rw[SV u,SU g,f _ (by lia)];exact v
   ·rw[SU u,SU g];lia
theorem Q6{H:Hp}{p:Addr}(h:H p=some (.tup [.str (OK "told"),.non])):DV K H (.ref p) (.tuple [.str (OK "told"),.none]):=.tup (Zk.of h) (.cons (.str _ (by lia)) (.cons .non .nil))
inductive Zk1(t:Yn)(vs:List V)(H:Hp)(Q:VK)(_e3:XK):Prop|mk (n wd ld:Addr) (b:NB) (W:Z7) (KF:ZQ) (m:Nat) (ds:OG) (G:Hp) (_:vs=[.ref n,.ref wd,.ref ld]) (_:Yf t H n b (ZL W) KF m) (_:m<=400) (_:VU G wd W) (_:Ze G H) (_:G b.dt=none) (_:US W) (_:Xg (ZL W) KF) (_:H ld=some (.lst (Yb ds))) (_:ds.length<=2) (_:(∀d∈ds,d<=9999)) (_:XC t H) (_:∀H',Q (.bl true) H')
theorem Zk2(i:Zs K mg t)(v2:W.CodeHd base t.C7 t.Wr)(y4:W.CodeHd base t.JV t.Ut)(q1:BM mg base):Zq P w K mg base Zt 26 t.kA t.P7 ["_law_notices","_law_world_here","_law_days_here"] (Zk1 t):=by
 refine i.ZaG.F.okC C5 (by lia) fun j5 A outer s H vs f5 u4 n3 G c0=>?_;obtain⟨n,Q,ld,b,W,f,m,ds,e5,rfl,hN,hm,hW,sG,nb,e0,b4,t3,l2,d9,z4,q⟩:=c0;obtain⟨wk,dp,rp,f1,f2,f3,f4,o5,hold⟩:=hW.hold;have g0:=sG _ _ f3;have h5:=f4.length;have p3:=e0.p3;refine⟨_,(Zi (B8 (XG (JO (YB G (pv 1) ZA)) (Vm (n:=2) R (Yv (ZY 3 C5.nd) (Yv (ZY 4 C5.nd) WJ))) (Zh (XG (VZ (pv 2)) (ZY 5 C5.nd) (Zh (ZJ (Z5 (Zd5 G.units) (JI (FN:=[(OK "_law_trip",3),(OK "_law_day",5),(OK "_law_notices",0)]) (cl:=[(OK "_law_trip",s.heap.objs.size+3),(OK "_law_notices",s.heap.objs.size+1),(OK "_law_day",s.heap.objs.size+2)]) (Kw i) (G.mono (by lia)) R i.WP.m i.WP.F.kp i.WP.b (fun _=>R) ⟨R,⟨R,⟨R,trivial⟩⟩⟩ (JL ⟨⟨R,R,_,R,R⟩,⟨R,R,_,R,R⟩,⟨R,R,_,R,R⟩,trivial⟩) (I3 (cl:=[(OK "_law_trip",s.heap.objs.size+3),(OK "_law_notices",s.heap.objs.size+1),(OK "_law_day",s.heap.objs.size+2)]) (n3.symm.trans i.Zil) y4 q1 R R)) (Yj (Zr ZA W2))) (Zh (XG (Mm R i.Vy (Zr Zb (ZV Xm i.Y9 Y8 (Zj (Zu ZP (pv 4) Zb))))) (ZY 6 C5.nd) (Zi (Yh (YY (pv 0) i.YP i.J3.me (ZbK i) (G.mono (by lia)) i.J3.b .nil wI (Wq (pv 3) (pv 5) Zb Zb))) (Zi (ZR 7 C5.nd (Zd Wh (Zd Ya Zb (Zu ZP (Zu Yq (Zu ZP (pv 4) Zb) (Zd Wh (pv 6) Zb)) Zb)) (Zu ZP (Zu Yq (Zu ZP (pv 4) Zb) (pv 6)) Zb))) (Zi (ZJ (Z5 Qm (ZC i.JY (Mc i v2 q1) G Zp (Yr (pv 0) Zb (Yj (Wq (pv 3) (pv 5) (pv 6) (pv 7))))) ZA) (Zh (Zx XD)) ZK) (Zh (ZJ (Z5 (KW G.units) (ZC i.JY (Mc i v2 q1) G Zp (Yr (pv 0) Zb (Yj (Wq (pv 3) (pv 5) (pv 6) (Zd Ya (pv 7) Zb))))) (Yj (Zr ZA W2))) (Zh (Zx XD)) ZK))))))) ZK)))))) (Zh (Zx XD))),?_⟩;sleep 2;refine⟨dp,.dK rp,g0,.inl ⟨rp,R⟩,fun ob=>?_⟩;sleep 1;have hh:=XR.new ob f3 sG;have hf:=hN.put (o:=.frz ob (.dK rp)) g0 (ZT f3 nb).symm;have t1:Za H dp (.frz ob (.dK rp)) ld=some (.lst (Yb ds)):=XB g0 t3;have q2:XC t (Za H dp (.frz ob (.dK rp))):=z4.keep (fun a ps e=>by rw[Zf (Z3 e g0 (by intro z;cases z))];exact e) fun a c q e=>by rw[Zf (Z3 e g0 (by intro z;cases z))];exact e
 have h3:Al (Xl (Za H dp (.frz ob (.dK rp)))) rp W.tp:=f4.imp fun _ _ c0=>Xl.put g0 (c0.same sG);generalize Za H dp (.frz ob (.dK rp))=T at hh hf t1 q2 h3 ⊢;have w2:=(hold ob T hh).1;have w0:∀d0∈ZL W,d0.Ok:=fun d0 hy=>by
  obtain⟨b5,hu,rfl⟩:=SI.mp hy;exact(w2.trip e0 (Mf e0 hu)).choose_spec.2.1
 have a3:((ZL W).map Zo.nm).Nodup:=by
  unfold ZL;rw[Od];exact e0.pn
 have u1:T dp=some (.frz ob (.dK rp)):=hh.frz;refine⟨_,R,Q,.ref dp,R,by rw[<-f2];exact Z9.k (k:=Sum.inr (OK "trips")) (hold ob T hh).2,dp,ob,rp,R,u1,JP (fun h0 B g=>∃(f:ZQ) (C:Nat) (v3 v4 Y E D:Option V),Yi T g/\Yf t g n b (ZL W) f C/\C<=400+60*h0/\Xg (ZL W) f/\XC t g/\B=[some (.ref n),some (.ref Q),some (.ref ld),v3,v4,Y,E,D])
  ⟨f,m,_,_,_,_,_,Yi.of (Ze.refl _),hf,by lia,b4,q2,R⟩ (fun h0 B g _ ⟨_,_,_,_,_,_,_,k,_⟩=>k _ _ u1 (fun _ z=>(nomatch z)) fun _ z=>(nomatch z)) ?_ ?_⟩
 ·rintro h0 kv p B H3 d3 gp ⟨f,C,v3,v4,Y,E,D,k3,j1,i2,b1,x1,rfl⟩
  have l5:h0<3:=by have:=(Sr.mp d3).1;lia
  generalize j:Za H3 p _=H4;have v:=ZM gp j;have c4:=ZN j;clear j;obtain⟨d0,ey,ek,r,l,vs,er,j3,hl,al⟩:=h3.get d3;have I:=Mf e0 (SJ ey);have k4:=k3.trans (Yi.of v);generalize m2:WQ W d0=x at I;have y1:d0.nm=x.nm:=by rw[<-m2];rfl
  have z3:d0.cs=x.cs:=by rw[<-m2];rfl
  rw[y1]at I;rw[z3]at al;rw[ek,y1]at c4;have x2:=(X2 I).1;obtain⟨ru,_,t4,_,n5,n0⟩:=w2.trip e0 I;have r5:=al.length;have l6:=t4.len;have q5:(Yb ds).length=ds.length:=Sv ..;refine⟨p,_,R,Zk.of c4,R,_,_,R,_,_,R,R,?_⟩;rw[er];sleep 1;refine⟨_,R,ld,R,⟨_,Zg.of (k4 _ _ t1 (fun _ z=>(nomatch z)) fun _ z=>(nomatch z))⟩,E9 (xs:=Yb ds) (fun o0 B g=>∃(f:ZQ) (C:Nat) (Y E D:Option V),Yi T g/\Yf t g n b (ZL W) f C/\C<=400+60*h0+30*o0/\Xg (ZL W) f/\XC t g/\B=[some (.ref n),some (.ref Q),some (.ref ld),some (.str x.nm),some (.ref r),Y,E,D])
   ⟨f,C,_,_,_,k4,j1.same v,by lia,b1,x1.keep (fun a ps=>v _ _) fun a c q=>v _ _,R⟩ (fun o0 B g _ ⟨_,_,_,_,_,k,_⟩=>Zg.of (k _ _ t1 (fun _ z=>(nomatch z)) fun _ z=>(nomatch z))) ?_ ?_⟩
  ·clear k4 j1 v c4 gp k3 x1 b1 i2
   rintro o0 r0 B H5 hv ⟨f,m5,Y,E,D,k5,p0,i3,k0,S,rfl⟩;sleep 101;have hj:o0<ds.length:=by have:=(Sr.mp hv).1;lia
   rw[S0]at hv;obtain⟨h,y,rfl⟩:=Of.mp hv;have b3:=d9 h (SJ y);obtain⟨a5,c3⟩:=S.2.at;refine JR S.2 ?_;intro l4 c' i5 M s2 j2 hf c1 cs LC;have v1:∀b o,cs b=some o->M b=none:=fun b o e=>(LC.free b o e).1;have z0:∀{a o},M a=some o->cs a=none:=fun{a o} e=>by
    cases z:cs a with
    |none=>rfl
    |some ob=>rw[v1 a ob z]at e;cases e
   have eU:unl cs (lent cs M)=M:=JS v1;have calls:=I0 (P:=P) (w:=w) (K:=K) (mg:=mg) (base:=base) (k:=19) (H:=lent cs M) (by rw[Y4 (z0 hf)];exact hf) (by rw[Y4 (z0 c1)];exact c1) R R R (by lia) R (Ky (L:=[("_law_notices",.ref n,0),("_law_trip",.str x.nm,3),("_law_day",.int h,5)]) LC ⟨⟨.tail _ (.tail _ (.head _)),R⟩,⟨.head _,R⟩,⟨.tail _ (.head _),R⟩,trivial⟩ (by simp) R ⟨R,R,R,trivial⟩) (fun b o e=>Ve e) (fun A outer s u4 G=>(YY (pv 0) i.YP i.J4.me (ZbL i) (G.mono (by lia)) i.J4.b .nil G9 (Ym (pv 1) (Ym (pv 2) XE))));have n2:=p0.tab fun a o e ne=>s2 _ _ (UJ c3 e ne);obtain⟨dx,fs,e1,e2⟩:=n2.ob;have k2:Yi T M:=k5.trans (Yi.tab S.2 s2);have T2:XC t M:=⟨Kz S.2 S.1 i.QU s2,j2⟩;refine⟨l4,_,fun r0 Hx=>∃g,Hx=lent cs g/\(∀b o,cs b=some o->g b=none)/\r0=.non/\Xk (ZL W) (.str x.nm) (.int h)=none/\Ze (wo (wo M b.dk) b.dl) g/\Yf t g n b (ZL W) (VE f x.nm h) m5,
    fun Q Hx=>∃g,Hx=lent cs g/\(∀b o,cs b=some o->g b=none)/\Ze M g,R,calls,?_,?_,?_⟩
   ·intro Q1 E1 h1 h2
    show Qp _ _ _ _ _ _ _ _ (unl cs (lent cs M)) _;rw[eU];refine⟨_,R,n,dx,_,R,e1,e2.n_back,_,R,_,R,n,b,ZL W,f,m5,.str x.nm,.int h,"str","int",R,n2,w0,.str _,.int _,fun Q hd g O X=>h2 Q _ ⟨g,R,X,O⟩,fun x' z b0 u ex y hd g O q0 X=>?_⟩;injection u with u;injection y with y;subst u;obtain rfl:h=b0:=by lia
    exact h1 _ _ ⟨g,R,X,R,hd,O,q0⟩
   ·rintro r0 Hx H3 p ⟨g,rfl,X,rfl,hd,O,q0⟩ s3 hp
    have cp:cs p=none:=by
     cases z:cs p with
     |none=>rfl
     |some o=>have:=s3 p _ (Ve z);rw[hp]at this;cases this
    have hp:unl cs H3 p=some (.tup [.str (OK "told"),.non]):=by rw[Wo cp];exact hp
    have v:=Us X s3;generalize unl cs H3=H6 at hp v ⊢;have N6:=q0.same v;have K6:Yi T H6:=(k2.trans (Yi.late n2 O)).trans (Yi.of v);have T6:XC t H6:=(XC.late n2 T2 O).keep (fun a ps=>v _ _) fun a c q=>v _ _;have u2:x.r.runs h=true:=by
     obtain⟨x',z,b0,u,ex,y,_,G⟩:=D6 hd;injection u with u;injection y with y;subst u;obtain rfl:h=b0:=by lia
     rw[I]at ex;cases ex;exact G
    refine⟨by lia,fun p2 g2=>?_⟩;generalize j:Za H6 p2 _=H7;have s7:=ZM g2 j;have c7:=ZN j;clear j;have N7:=N6.same s7;have K7:=K6.trans (Yi.of s7);have T7:XC t H7:=T6.keep (fun a ps=>s7 _ _) fun a c q=>s7 _ _;have m3:=K7 _ _ hl (fun _ z=>(nomatch z)) fun _ z=>(nomatch z);have r2:=K7 _ _ j3 (fun _ z=>(nomatch z)) fun _ z=>(nomatch z);have i0:DV K H7 (.ref p) _:=Q6 (s7 _ _ hp);refine⟨_,_,i0,Q6 c7,by simp[PyData.depth,PyData.depthAll],_,R,ZH (by rw[SeqAt.eqv_refl _ i0.can];rfl) ?_⟩;sleep 1;clear i0 q0 N6 s7 c7 O v hp K6 T6 k2 T2 n2 calls eU z0 v1 LC hf c1 s2 j2;refine⟨_,R,r,_,1,_,R,R,Zk.of r2,R,l,_,R,.inl (Zg.of m3),1,_,R,⟨by lia,by lia,by lia,by lia⟩,Uj (lo:=1) (n:=(((vs.length:Nat):Int) - 1).toNat) (fun k B g=>∃(f:ZQ) (C:Nat) (E D:Option V),Yi T g/\Yf t g n b (ZL W) f C/\C<=400+60*h0+30*o0+2*k/\Xg (ZL W) f/\XC t g/\f x.nm h≠some none/\B=[some (.ref n),some (.ref Q),some (.ref ld),some (.str x.nm),some (.ref r),some (.int h),E,D])
     ⟨VE f x.nm h,m5,_,_,K7,N7,by lia,k0.del _ _,T7,by unfold VE;rw[SV ⟨R,R⟩];exact fun z=>(nomatch z),R⟩ ?_ ?_⟩
    ·clear p0 i3 k0 S N7 T7 K7 m3 r2 c3 k5
     rintro k B H8 hk ⟨f,m8,E,D,K8,N8,r4,L8,T8,nn,rfl⟩;have k6:k+1<x.cs.length:=by lia
     obtain⟨ca,k1,p1,x3,v0⟩:=al.get (Ss (show k<vs.length by lia));obtain⟨cb,i1,p2,i4,u0⟩:=al.get (Ss (show k+1<vs.length by lia));rw[show(1:Int)+(k:Int)=((k+1:Nat):Int) by lia];sleep 104;have a1:YG vs ((k+1:Nat):Int)=some (.ref p2):=by
      rw[<-i4];exact XF (Ss (by lia))
     have a2:YG vs (((k+1:Nat):Int) - 1)=some (.ref p1):=by
      rw[show((k+1:Nat):Int) - 1=(k:Int) by lia,<-x3];exact XF (Ss (by lia))
     have fo:=(n0.fol k ca cb k1 i1).2;have ga:=n0.gap k ca cb k1 i1;have b2:=(Sr.mp k1).2;have d2:=(Sr.mp i1).2;have o2:(Xo x (f x.nm h)).length=x.cs.length:=Q2 fun ls e=>L8 x x2 h ls e;have d1:X5 (ZL W) f (.str x.nm) (.int h) (.int ((0:Nat):Int)) (.int ((300:Nat):Int))=none:=by
      rw[ZbX I b3 u2 nn (by lia) (by lia),SV (Zk0 n0 o2)]
     obtain⟨dx,fs,e1,e2⟩:=N8.ob;refine⟨_,R,n,dx,_,R,e1,e2.n_late,_,R,_,R,n,b,ZL W,f,m8,.str x.nm,.int h,.int ((0:Nat):Int),.int ((300:Nat):Int),R,N8,by lia,w0,L8,⟨_,.str _⟩,⟨_,.int _⟩,⟨_,.int _⟩,⟨_,.int _⟩,fun w J=>(by rw[d1]at J;cases J),fun x' z b0 c q u ex y Z eq _ _ _ H9 s9 N9=>?_⟩;injection u with u;injection y with y;injection Z with Z;injection eq with eq;subst u;obtain rfl:h=b0:=by lia
     obtain rfl:c=0:=by lia
     obtain rfl:q=300:=by lia
     rw[I]at ex;cases ex;have K9:=K8.trans (Yi.late N8 s9);have T9:=XC.late N8 T8 s9;rw[show YW x (f x.nm h) 0 300=List.replicate x.cs.length 300 from R]at N9;have L9:Xg (ZL W) (YV f x.nm h (some (List.replicate x.cs.length 300))):=L8.set a3 I fun ls e=>by cases e;exact Sz
     have w1:YV f x.nm h (some (List.replicate x.cs.length 300)) x.nm h=some (some (List.replicate x.cs.length 300)):=by unfold YV;rw[SV ⟨R,R⟩]
     generalize YV f x.nm h (some (List.replicate x.cs.length 300))=KG at N9 L9 w1;clear K8 N8 L8 T8 s9 d1 o2 nn e1 e2;have m1:=K9 _ _ hl (fun _ z=>(nomatch z)) fun _ z=>(nomatch z);have n1:=K9 _ _ j3 (fun _ z=>(nomatch z)) fun _ z=>(nomatch z);have v0:=K9 _ _ v0 (fun _ z=>(nomatch z)) fun _ z=>(nomatch z);have u0:=K9 _ _ u0 (fun _ z=>(nomatch z)) fun _ z=>(nomatch z);refine⟨_,R,r,_,1,_,R,R,Zk.of n1,R,_,R,_,_,R,R,l,_,_,_,R,R,Zg.of m1,a2,p1,_,2,_,R,R,Zk.of v0,R,_,_,R,R,_,R,r,_,1,_,R,R,Zk.of n1,R,_,R,l,_,_,_,R,R,Zg.of m1,a1,p2,_,1,_,R,R,Zk.of u0,R,_,_,R,R,?_⟩;obtain⟨U,ej,c5⟩:∃U:Nat,(300:Int)+(ca.lv:Nat) - (cb.ar:Nat)=(U:Nat)/\U<=299:=⟨300+ca.lv - cb.ar,by lia,by lia⟩;show Wg 7 (.int ((300:Int)+(ca.lv:Nat) - (cb.ar:Nat))) _ _ _;rw[ej];have nn:KG x.nm h≠some none:=by rw[w1];exact fun z=>(nomatch z)
     have dj:∀a0:Nat,a0<=300->Wf (ZL W) KG 0 (.str x.nm) (.int h) (.int ((k+1:Nat):Int)) (.int (a0:Nat))=if U<a0 then none else some .calls:=fun a0 c0=>by
      show X5 _ _ _ _ _ _=_;rw[ZbX I b3 u2 nn k6 c0,w1];by_cases c:U<a0
      ·rw[SV c,SV ((ZbZ n0 (by lia) k6).mpr (by show(x.cs[k].lv:Int)+300<_;rw[b2,d2];lia))]
      ·rw[SU c,SU fun z=>by have:=(ZbZ n0 (by lia) k6).mp z;rw[show x.cs[k+1 - 1]=ca from b2,d2]at this;lia]
     have aV:∀{g:Hp} (a0:Int),Z8 g [.str x.nm,.int h,.int ((k+1:Nat):Int),.int a0]:=fun _=>.cons ⟨_,.str _⟩ (.cons ⟨_,.int _⟩ (.cons ⟨_,.int _⟩ (.cons ⟨_,.int _⟩ fun _ c0=>(nomatch c0))));refine⟨_,R,_,R,_,R,_,R,_,R,(by lia:4<=sizeLine),fun p3 g3=>?_⟩;generalize j:Za H9 p3 _=a4;have m0:=ZM g3 j;have y2:=ZN j;clear j;have s1:=N9.same m0;have f0:XC t a4:=T9.keep (fun a ps=>m0 _ _) fun a c q=>m0 _ _;have c2:=K9.trans (Yi.of m0);refine⟨n,p3,b,ZL W,KG,m8+1,0,_,_,_,_,R,.inr y2,s1,by lia,w0,L9,aV _,by lia,f0.1,fun w l1 J j0 s0=>?_,fun _ _ _ _ _ _ _ _ J=>by rw[dj U (by lia),SU (Sl _)]at J;cases J⟩;rw[dj U (by lia),SU (Sl _)]at J;cases J;obtain⟨d5,e3⟩:=f0.1.at;have o3:=s1.tab fun a o e ne=>j0 _ _ (UJ e3 e ne);have y3:=c2.trans (Yi.tab f0.1 j0);have s0:XC t l1:=⟨s0,Kz f0.1 f0.2 (Ne.symm i.QU) j0⟩;clear N9 s1 T9 f0 K9 c2 m0 y2 j0 e3 m1 n1 v0 u0 g3;refine⟨R,_,R,Zn (by lia) ⟨_,R,_,R,_,R,_,R,_,R,_,_,R,R,(by lia:4<=sizeLine),fun p3 g3=>?_⟩⟩;generalize j:Za l1 p3 _=u3;have t0:=ZM g3 j;have x4:=ZN j;clear j;have y0:=o3.same t0;have x0:XC t u3:=s0.keep (fun a ps=>t0 _ _) fun a c q=>t0 _ _;have q4:=y3.trans (Yi.of t0);refine⟨n,p3,b,ZL W,KG,m8+1,0,_,_,_,_,R,.inr x4,y0,by lia,w0,L9,aV _,by lia,x0.1,fun w l1 J j0 s0=>(by have hz:=dj (U+1) (by lia);rw[SV (Sm _)]at hz;exact nomatch hz.symm.trans J),fun x' z b0 c q p4 r0 l3 J u ex y _ Z o1 w3 hv _=>?_⟩;obtain⟨rfl,z2,e4⟩:=hv (by lia);obtain⟨Z,eq,hc⟩:=Z R;injection u with u;injection y with y;injection Z with Z;injection eq with eq;subst u;obtain rfl:h=b0:=by lia
     rw[I]at ex;cases ex;obtain⟨kk,q3,_⟩:=y0.tk;obtain⟨kl,o4,_⟩:=y0.lt;have h4:=q4.trans (Yi.both y0 x0.1 z2);have o1:XC t l3:=⟨o1,ZbY x0.1 x0.2 (Ne.symm i.QU) q3 o4 z2⟩;have j4:Xg (ZL W) (newK KG x x.nm h 0 c q):=by
      show Xg _ (YV _ _ _ _);exact L9.set a3 I fun ls e=>by cases e;exact Kr (fun ls e=>L9 x x2 h ls e) q (by lia)
     have d4:newK KG x x.nm h 0 c q x.nm h≠some none:=by
      show YV _ _ _ _ x.nm h≠_;unfold YV;rw[SV ⟨R,R⟩];exact fun z=>(nomatch z)
     refine⟨by lia,fun p5 g5=>?_⟩;generalize j:Za l3 p5 _=m4;have l0:=ZM g5 j;have n4:=ZN j;have i0:DV K m4 (.ref p4) _:=Q6 (l0 _ _ w3);exact⟨_,_,i0,Q6 n4,by simp[PyData.depth,PyData.depthAll],_,R,Zn (by rw[SeqAt.eqv_refl _ i0.can];lia) ⟨_,m8+1+1,_,_,h4.trans (Yi.of l0),e4.same l0,by lia,j4,o1.keep (fun a ps=>l0 _ _) fun a c q=>l0 _ _,d4,R⟩⟩
    ·rintro B H8 ⟨f,m8,E,D,K8,N8,r4,L8,T8,nn,rfl⟩
     exact⟨f,m8,_,_,_,K8,N8,by lia,L8,T8,R⟩
   ·rintro Q Hx H3 ⟨g,rfl,X,O⟩ s3
    have v:=O.trans (Us X s3);generalize unl cs H3=H6 at v ⊢;refine⟨by lia,fun p2 g2=>?_⟩;generalize j:Za H6 p2 _=H7;have s5:=v.trans (ZM g2 j);exact⟨_,_,.str _ (by cases Q<;>decide +kernel),Q6 (ZN j),by simp[PyData.depth],_,R,Zn (by simp[PyData.eqv]) ⟨f,m5,_,_,_,k2.trans (Yi.of s5),n2.same s5,by lia,k0,T2.keep (fun a ps=>s5 _ _) fun a c q=>s5 _ _,R⟩⟩
  ·rintro B H5 ⟨f,m5,Y,E,D,k5,p0,i3,k0,S,rfl⟩
   exact⟨f,m5,_,_,_,_,_,k5,p0,by lia,k0,S,R⟩
 ·rintro B H3 ⟨f,C,v3,v4,Y,E,D,k3,j1,i2,b1,x1,rfl⟩
  exact⟨k3 _ _ u1 (fun _ z=>(nomatch z)) fun _ z=>(nomatch z),q _⟩
theorem YQ.keepE{H f:Hp}(k:Yi H f){tp:Addr}{v:V}{r:RT}(h:YQ tp H v r):YQ tp f v r:=by
 have q:∀{a c},H a=some (.tup c)->f a=some (.tup c):=fun e=>k _ _ e (fun _ z=>(nomatch z)) fun _ z=>(nomatch z);have u:∀{a c},H a=some (.lst c)->f a=some (.lst c):=fun e=>k _ _ e (fun _ z=>(nomatch z)) fun _ z=>(nomatch z)
 induction h with
 |always h=>exact .always (q h)
 |week h=>exact .week (q h)
 |span h _ j=>exact .span (q h) j
 |each h n ne=>exact .each (q h) (u n) ne
 |either h _ _ i g=>exact .either (q h) i g
 |both h _ _ i g=>exact .both (q h) i g
 |but h n ne _ j=>exact .but (q h) (u n) ne j
theorem VU.keepE{H c:Hp}(k:Yi H c){g:Addr}{W:Z7}(h:VU H g W):VU c g W:=by
 obtain⟨u,dr,dp,G,rp,I,B,L,v,E,y,j,D⟩:=h.ex;have q:∀{a f},H a=some (.dK f)->c a=some (.dK f):=fun e=>k _ _ e (fun _ z=>(nomatch z)) fun _ z=>(nomatch z);refine⟨u,dr,dp,G,rp,q I,B,L,q v,q E,y.imp fun _ _ ⟨e,tp,h⟩=>⟨e,tp,YQ.keepE k h⟩,j.imp fun _ _ ⟨e,r,l,i,x,J,n,C⟩=>⟨e,r,l,i,x,k _ _ J (fun _ z=>(nomatch z)) fun _ z=>(nomatch z),k _ _ n (fun _ z=>(nomatch z)) fun _ z=>(nomatch z),C.imp fun _ _ ⟨p,e,h⟩=>⟨p,e,k _ _ h (fun _ z=>(nomatch z)) fun _ z=>(nomatch z)⟩⟩,D⟩
def bare(H:Hp):Hp:=fun a=>match H a with
 |some (.tbl _)=>none
 |some (.dT _)=>none
 |o=>o
theorem Zk3{H:Hp}:Yi H (bare H):=fun a o e f g=>by
 unfold bare;rw[e];cases o with
 |tbl c=>exact Oq R (g c)
 |dT c=>exact Oq R (f c)
 |_=>rfl
theorem Zk4{H c:Hp}(k:Yi H c):Ze (bare H) c:=fun a o e=>by
 unfold bare at e;cases h:H a with
 |none=>rw[h]at e;cases e
 |some u=>rw[h]at e;cases u with
  |tbl f=>cases e
  |dT f=>cases e
  |_=>cases e;exact k _ _ h (fun _ z=>(nomatch z)) fun _ z=>(nomatch z)
theorem Yf.keepE{H c:Hp}{n:Addr}{b:NB}{TS:List Zo}{f:ZQ}{m:Nat}(k:Yi H c)(y:c b.dk=H b.dk)(E:c b.dl=H b.dl)(h:Yf t H n b TS f m):Yf t c n b TS f m:=by
 obtain⟨⟨G,fs,I,B⟩,ap,⟨rows,L,j⟩,⟨x,v,q,i⟩,⟨u,J,D,C⟩⟩:=h;refine⟨⟨G,fs,k _ _ I (fun _ z=>(nomatch z)) fun _ z=>(nomatch z),B⟩,ap,⟨rows,k _ _ L (fun _ z=>(nomatch z)) fun _ z=>(nomatch z),j.imp fun _ _=>YH.keep fun a o e nd nt _=>k a o e nd nt⟩,⟨x,y.trans v,q,i⟩,⟨u,E.trans J,D,fun z g=>?_⟩⟩;have:=C z g;revert this;cases f z g with
 |none=>exact id
 |some o=>cases o with
  |none=>exact id
  |some M=>exact fun⟨l,e,h⟩=>⟨l,e,k _ _ h (fun _ z=>(nomatch z)) fun _ z=>(nomatch z)⟩
theorem Zb0{TS:List Zo}{g n:ZQ}(h:Qh TS g n)(i j:V):Xa TS g i j=Xa TS n i j:=by
 unfold Xa;cases v:Xk TS i j with
 |some w=>rfl
 |none =>
  obtain⟨x,z,f,rfl,u,rfl,_⟩:=D6 v;obtain⟨hm,rfl⟩:=X2 u;have q:=(h x hm f).1;show(if g x.nm f=some none then some Wn.run else none)=if n x.nm f=some none then some Wn.run else none
  by_cases c:g x.nm f=some none
  ·rw[SV c,SV (q.mp c)]
  ·rw[SU c,SU fun e=>c (q.mpr e)]
theorem Zb1{TS:List Zo}{f e:ZQ}(h:Qh TS f e){x:Zo}(hm:x∈TS)(day c k:Nat):YW x (f x.nm day) c k=YW x (e x.nm day) c k:=by
 unfold YW;rw[(h x hm day).2]
theorem Zk5{TS:List Zo}{g j:ZQ}(h:Qh TS g j)(n:Nat)(c e f i:V):Wf TS g n c e f i=Wf TS j n c e f i:=by
 have u:X5 TS g c e f i=X5 TS j c e f i:=by
  unfold X5;rw[Zb0 h];cases y:Xa TS j c e with
  |some w=>rfl
  |none =>
   obtain⟨x,z,v,rfl,q,rfl,_⟩:=Ks y;obtain⟨hm,rfl⟩:=X2 q;show(match ZO Zo.nm TS x.nm with|none=>none|some x'=>_)=match ZO Zo.nm TS x.nm with|none=>none|some x'=>_
   rw[q];show(if _ then _ else if _ then _ else if We (YC 0 x.cs (YW x (g x.nm v) _ _))=true then _ else _)=_;rw[Zb1 h hm];rfl
 unfold Wf;rw[u,Zb0 h]
theorem Zk6{TS:List Zo}{j q:ZQ}(h:Qh TS j q)(nd:(TS.map Zo.nm).Nodup){x:Zo}(hm:x∈TS)(day f c k:Nat)(D:f<=2):Qh TS (newK j x x.nm day f c k) (YV q x.nm day (newG x (q x.nm day) f c k)):=fun y n d=>by
 unfold newK newG;by_cases e:y.nm=x.nm/\d=day
 ·obtain⟨C,rfl⟩:=e
  obtain rfl:y=x:=So ((VC nd n).symm.trans (C ▸ VC nd hm));by_cases i:f=0
  ·rw[SV i,SV i,Zb1 h n]
   unfold YV;rw[SV ⟨R,R⟩,SV ⟨R,R⟩];exact⟨Iff.rfl,R⟩
  ·rw[SU i,SU i]
   by_cases g:f=1
   ·rw[SV g,SV g]
    unfold YV;rw[SV ⟨R,R⟩,SV ⟨R,R⟩];exact⟨Iff.rfl,R⟩
   ·rw[SU g,SU g]
    unfold YV VE;rw[SV ⟨R,R⟩,SV ⟨R,R⟩];exact⟨⟨fun z=>(nomatch z),fun z=>(nomatch z)⟩,R⟩
 ·have u:∀o,YV j x.nm day o y.nm d=j y.nm d:=fun o=>SU e
  have B:∀o,YV q x.nm day o y.nm d=q y.nm d:=fun o=>SU e;have v:VE j x.nm day y.nm d=j y.nm d:=SU e;rw[B];by_cases i:f=0
  ·rw[SV i,u];exact h y n d
  ·rw[SU i]
   by_cases g:f=1
   ·rw[SV g,u];exact h y n d
   ·rw[SU g,v];exact h y n d
theorem Xg.newK{TS:List Zo}{n:ZQ}(h:Xg TS n)(nd:(TS.map Zo.nm).Nodup){x:Zo}(hm:x∈TS){day f c k:Nat}(q:f=0->c<x.cs.length):Xg TS (newK n x x.nm day f c k):=by
 unfold K29.newK;by_cases i:f=0
 ·rw[SV i]
  exact h.set nd (VC nd hm) fun g e=>by cases e;exact Kr (fun g e=>h x hm day g e) k (Nat.le_of_lt (q i))
 ·rw[SU i]
  by_cases j:f=1
  ·rw[SV j];exact h.set nd (VC nd hm) fun g e=>(nomatch e)
  ·rw[SU j];exact h.del _ _
theorem Xg.newG{TS:List Zo}{i:ZQ}(h:Xg TS i)(nd:(TS.map Zo.nm).Nodup){x:Zo}(hm:x∈TS){day f c k:Nat}(q:f=0->c<x.cs.length):Xg TS (YV i x.nm day (newG x (i x.nm day) f c k)):=by
 refine h.set nd (VC nd hm) fun n e=>?_;unfold K29.newG at e;by_cases g:f=0
 ·rw[SV g]at e;cases e;exact Kr (fun n e=>h x hm day n e) k (Nat.le_of_lt (q g))
 ·rw[SU g]at e
  by_cases j:f=1
  ·rw[SV j]at e;cases e
  ·rw[SU j]at e;cases e;exact Sz
theorem Zb2{W:Z7}(ok:US W):Al (D4 W) W.tp (ZL W)/\∀x∈ZL W,x.r.Ok:=by
 have q:∀y∈W.tp,D4 W y (WQ W y)/\(WQ W y).r.Ok:=fun y e=>by
  obtain⟨u,f,B⟩:=SI.mp (ok.po y e).2.1;have i:ZO Yl.nm W.ru y.ru=some u:=by rw[<-B];exact VC ok.rn f
  have g:(WQ W y).r=u.r:=by unfold WQ;rw[i];rfl
  exact⟨⟨R,R,u,i,g.symm⟩,by rw[g];exact(ok.ro u f).2⟩
 refine⟨?_,fun x n=>?_⟩
 ·unfold ZL
  have:∀c:List Tp,(∀y∈c,D4 W y (WQ W y))->Al (D4 W) c (c.map (WQ W)):=fun c=>by
   induction c with
   |nil=>exact fun _=>.nil
   |cons y c v=>exact fun h=>.cons (h y SC) (v fun z j=>h z (SB _ j))
  exact this _ fun y e=>(q y e).1
 ·obtain⟨y,e,rfl⟩:=SI.mp n
  exact(q y e).2
inductive sp_law(K:Ow)(Ts:OH)(vs:List V)(H:Hp)(Q:VK)(_e3:XK):Prop|mk (a:Addr) (ns:OE) (_:vs=[.ref a]) (_:(∀T∈Ts,H T=some (.tbl #[]))) (_:Zg K H a (ns.map V.int)) (_:ns.length<=63) (_:∀H',Q (.bl true) H')
structure Qi(t:Yn)(W:Z7)(n g:Addr)(b:NB)(H H':Hp)(KF GF:ZQ)(m:Nat):Prop where
 k:Yi H H'
 no:Yf t H' n b (ZL W) KF m
 gp:∃kvs,H' g=some (.dT kvs)/\kvs.length<=m/\XI H' kvs GF
 lk:Xg (ZL W) KF
 lg:Xg (ZL W) GF
 ag:Qh (ZL W) KF GF
 tb:XC t H'
theorem Qi.same{W:Z7}{n g:Addr}{b:NB}{H i e:Hp}{f j:ZQ}{m:Nat}(h:Qi t W n g b H i f j m)(s:Ze i e):Qi t W n g b H e f j m:=by
 obtain⟨k,no,⟨v,u,y,x⟩,lk,lg,ag,tb⟩:=h;exact⟨k.trans (Yi.of s),no.same s,⟨v,s _ _ u,y,x.same s⟩,lk,lg,ag,tb.keep (fun a B=>s _ _) fun a c q=>s _ _⟩
theorem Zk7{i g:Addr}{day:Nat}{x:Zo}{ru:Str}{j:List (List Zl×V)}{f:ZQ}{H:Hp}{Q:VK}{E:XK}(u:UT H i x ru)(ok:x.Ok)(B:H g=some (.dT j))(gp:XI H j f)(n:∀q,f x.nm day=some (some q)->q.length=x.cs.length)(h:∀v c,Ze H c->UU c v (X4 x (f x.nm day) day)->Q v c):ZbO [.ref i,.ref g,.str x.nm,.int day] H Q E :=
 ⟨i,g,day,x,ru,j,f,R,u,ok,B,gp,n,fun e c s=>h _ _ s (by rw[e];rfl),fun D e l y c s _ n C=>h _ _ s (by rw[e];exact⟨l,y,R,n,C⟩)⟩
theorem Zk8(f:Zs K mg t)(x0:W.CodeHd base t.C7 t.Wr)(z2:W.CodeHd base t.JV t.Ut)(z0:BM mg base):Zq P w K mg base Zt 60 t.kB t.P8 ["_law_script"] (sp_law K [t.Wr,t.Ut]):=by
 refine f.RQ.F.ok Vt (by lia) fun i3 A outer s v1 vs e3 n3 C k0=>?_;obtain⟨a,ns,rfl,f1,hS,k3,t0⟩:=k0;have hT:XC t v1:=⟨Y5.nil (f1 _ (.head _)),Y5.nil (f1 _ (.tail _ (.head _)))⟩;refine⟨_,(Zi (ZR 1 Vt.nd (ZC f.Zay (Zkk f) C Zp (Zj (ZC f.Ud (Uu f) C Zp (Zr (ZC f.RO (Zbs f) C Zp (Zr (pv 0) Zb)) Zb))))) (Zi (ZR 2 Vt.nd (Vo f.Zhw (ZjT f) (C.mono (by lia)) R f.ZhZ f.ZaI.b .nil Zp (Zj (ZC f.Zaz (Zkm f) C Zp (Zj (pv 1)))))) (Zi (ZR 3 Vt.nd MX) (Zi (ZR 4 Vt.nd (Zu Yq (Z2 (Wq Zb Zb Zb Zb)) (Zd Z0 (ZC f.RO (Zbs f) C Zp (Zr (pv 0) Zb)) Zb))) (Zi (ZR 5 Vt.nd (Z2 (Wq (pv 4) (Zd Ya (pv 4) Zb) (Zd Ya (pv 4) Zb) (Zd Ya (pv 4) Zb)))) (Zi (XG (wM R f.Zal (Zj (Um U0 (pv 0) (VI Zb) (VI Zb)))) (Vm (n:=2) R (Yv (ZY 6 Vt.nd) (Yv (ZY 7 Vt.nd) WJ))) (Zi (ZR 8 Vt.nd (ZC f.Ud (Uu f) C Zp (Zr (pv 7) (Zd Ya Zb (pv 6))))) (Zi (ZR 9 Vt.nd (Zu Yq (Z2 (M9 Zb Zb Zb Zb Zb Zb)) (Zd Z0 (pv 8) Zb))) (Zi (ZR 10 Vt.nd (ZC f.ZaD (Zkx f) C Zp (Wq (pv 1) (pv 3) (pv 5) (Zd YJ (pv 8) Zb)))) (Zi (ZR 11 Vt.nd (ZC f.ZaB (Zkr f) C Zp (Wq (pv 1) (pv 3) (pv 9) (pv 10)))) (Ww (ZR 12 Vt.nd (ZC f.JY (Mc f x0 z0) C Zp (Yr (pv 2) (pv 9) (pv 10)))) (Ww (ZJ (Qk (Zci (pv 11))) (Zh (ZJ (PW.pt (UX (Z5 Qm (pv 12) (pv 11)) (UW (Z5 Qm (ZC f.JY (Mc f x0 z0) C Zp (Yr (pv 2) (pv 9) (pv 10))) (pv 11))))) (Zh (Zx XD)) ZK)) (Zh (ZJ (Z5 YE (pv 9) Zb) (Zh (ZJ (Z5 (KW C.units) (pv 12) (Yj (Zr ZA (ZC f.RP (ZbP f) C Zp (Wq (pv 1) (pv 3) (Zu Yq (pv 10) Zb) (Zu Yq (pv 10) Zb)))))) (Zh (Zx XD)) ZK)) (Zi (Yh (ZC f.ZaE (Zkv f) C Zp (Wq (pv 1) (pv 3) (pv 9) (pv 10)))) (Zh (ZJ (Z5 (KW C.units) (pv 12) (Yj (Zr ZA W2))) (Zh (Zx XD)) ZK)))))) (Zh (ZJ (YI (YL (ZC f.ZaF (ZkY f) C Zp (Wq (pv 2) (pv 1) (pv 3) (pv 5))))) (Zh (Zx XD)) ZK))))))))) (Zh (Zx (ZC f.ZaG (Zk2 f x0 z2 z0) C Zp (Yr (pv 2) (pv 1) (Um U0 (pv 5) UA (VI Zb)))))))))))),?_⟩;sleep 7;refine⟨_,R,a,ns,0,R,hS,by lia,fun d=>⟨d,0,R,by lia,by lia,WE d 0,R,TM _ _,fun I aw W H1 s1 nw hW H=>?_⟩⟩;have i0:((ZL W).map Zo.nm).Nodup:=by
  unfold ZL;rw[Od];exact H.pn
 have m3:(ZL W).length<=3:=by unfold ZL;rw[Sv];exact H.p3
 have l1:VU H1 I W:=by
  obtain⟨M,e1,e2⟩:=hW.ob;obtain⟨r2,a2,b2⟩:=hW.ru;obtain⟨r4,a4,b4⟩:=hW.tp;exact⟨M,aw.dr,aw.dp,r2,r4,e1,e2.r,e2.p,a2,a4,b2,b4,nw.np,hW.ap.rp⟩
 refine⟨_,R,I,aw,W,v1,R,hW,nw,H,fun nn bn H2 s2 T _ x dx g1 g2 nd=>?_⟩;refine⟨x,nn,H2,W,ZL W,R,g1,(Zy g2 _).trans (Zy (by rw[Zf nd.symm];exact g1) _),⟨dx,Zm⟩,⟨bn,T⟩,(Zb2 H).1,i0,(Zb2 H).2,by lia,fun H3 b s3 q0 gt gk gl=>⟨R,?_⟩⟩;have q2:H1 b.dt=none:=by
  cases z:H1 b.dt with
  |none=>rfl
  |some o=>rw[s2 _ _ z]at gt;cases gt
 have S3:=(s1.trans s2).trans s3;have u1:=s2.trans s3;clear T nd g1 g2 gt gk gl s2 s3;refine fun g gg=>?_;generalize h:Za H3 g _=H4;have s4:=ZM gg h;have c4:=ZN h;clear h;obtain⟨kk,d0,_⟩:=q0.tk;obtain⟨kl,g0,_⟩:=q0.lt;have m1:g≠b.dk:=fun z=>by rw[z,d0]at gg;cases gg
 have h1:g≠b.dl:=fun z=>by rw[z,g0]at gg;cases gg
 refine⟨by show 4<=sizeLine;lia,fun p gp=>?_⟩;generalize h:Za H4 p _=H5;have s5:=ZM gp h;have c5:=ZN h;clear h;refine⟨_,R,a,ns,1,R,((S3.trans s4).trans s5).seq hS,by lia,fun d=>?_⟩;obtain⟨_,es,B,rfl,j3⟩:=A9 (p:=fun v=>∃b:Nat,v=V.int (b:Nat)/\b<=9990) (xs:=[.int 0,.int 5,.int 700,.int 9990]) (d:=d%4) (fun v E=>by
  simp only[SE,List.not_mem_nil,or_false]at E;rcases E with rfl|rfl|rfl|rfl
  ·exact⟨0,R,by lia⟩
  ·exact⟨5,R,by lia⟩
  ·exact⟨700,R,by lia⟩
  ·exact⟨9990,R,by lia⟩) (by lia) (by show d%4<4;lia)
 refine⟨_,_,R,R,(by show(0:Int)<4;lia),p,_,_,_,R,R,Zg.of c5,es,_,R,_,R,_,_,R,R,_,R,_,_,R,R,_,R,_,_,R,R,by show 4<=sizeLine;lia,fun ld gl=>?_⟩;generalize h:Za H5 ld _=H6;have s6:=ZM gl h;have c6:H6 ld=some (.lst (Yb [B,B+1,B+2,B+3])):=ZN h;clear h;have S6:=s5.trans s6;refine⟨_,R,2,R,13,R,a,_,R,((S3.trans s4).trans S6).seq hS,fun ls j1=>?_⟩;generalize h:Za H6 ls _=Y;have s7:=ZM j1 h;have c7:=ZN h;clear h;have S7:=S6.trans s7;have w1:Yi H1 Y:=Yi.of ((u1.trans s4).trans S7);have W7:=l1.keepE w1;have u0:=s7 _ _ c6;have u2:Qi t W x g b Y Y K0 K0 0:=⟨Yi.of (Ze.refl _),(q0.same s4).same S7,⟨[],S7 _ _ c4,Sg _,fun z day=>R⟩,fun y hy day ls e=>(nomatch e),fun y hy day ls e=>(nomatch e),fun y hy day=>⟨Iff.rfl,R⟩,hT.keep (fun a ps=>((S3.trans s4).trans S7) _ _) fun a c t0=>((S3.trans s4).trans S7) _ _⟩;generalize a1:W3 (ns.map V.int) (some 2) (some 13)=xs at c7;have l3:xs.length<=63:=by
  rw[<-a1];unfold W3;rw[Sx,SA,Sv];lia
 have j2:∀v∈xs,∃c:Int,v=.int c:=fun v E=>by
  rw[<-a1]at E;unfold W3 at E;obtain⟨c,_,rfl⟩:=SI.mp (List.mem_of_mem_drop (List.mem_of_mem_take E));exact⟨c,R⟩
 clear a1 q0 d0 g0 c4 s4 c5 s5 c6 s6 S6 S7 S3 u1 gg gp gl j1 s7 hS f1 hT;have bs:∀{H'},Yi Y H'->Ze (bare H1) H':=fun k=>Zk4 (w1.trans k);have wb:VU (bare H1) I W:=l1.keepE Zk3;have x1:∀y∈ZL W,y.Ok:=fun y hy=>(W7.toT.trip H (VC i0 hy)).choose_spec.2.1;have nb:bare H1 b.dt=none:=by unfold bare;rw[q2]
 refine⟨ls,R,⟨_,Zg.of c7⟩,wN (xs:=xs) (fun i σ H'=>∃(j u:ZQ) (v6 v7 v8 v9 d1 v0 b1:Option V),Qi t W x g b Y H' j u i/\σ=[some (.ref a),some (.ref I),some (.ref x),some (.ref g),some (.int B),some (.ref ld),v6,v7,v8,v9,d1,v0,b1]) ⟨K0,K0,_,_,_,_,_,_,_,u2,R⟩ (fun i σ H' _ ⟨_,_,_,_,_,_,_,_,_,st,_⟩=>Zg.of (st.k _ _ c7 (fun _ z=>(nomatch z)) fun _ z=>(nomatch z))) ?_ ?_⟩
 ·rintro i v pp σ H8 E q1 ⟨j,u,v6,v7,v8,v9,d1,v0,b1,st,rfl⟩
  have hi:=(Sr.mp E).1;obtain⟨c,rfl⟩:=j2 v (SJ E);generalize h:Za H8 pp _=H9;have st:=st.same (ZM q1 h);have c9:=ZN h;clear h q1 E;refine⟨pp,_,R,Zk.of c9,R,_,_,R,_,_,R,R,?_⟩;sleep 5;refine⟨_,R,_,R,_,_,R,R,c,2+(i:Nat),R,by lia,by lia,?_⟩;generalize WE c (2+(i:Nat))=e0;refine⟨by show 6<=sizeLine;lia,fun p gp=>?_⟩;generalize h:Za H9 p _=f3;have st:=st.same (ZM gp h);have t1:=ZN h;clear h gp c9;obtain⟨_,ew,D,rfl,hw⟩:=A9 (p:=fun v=>∃b:Nat,v=V.int (b:Nat)/\b<=3) (xs:=[.int 0,.int 0,.int 0,.int 1,.int 2,.int 3]) (d:=(e0:Int)%6) (fun v E=>by
   simp only[SE,List.not_mem_nil,or_false]at E;rcases E with rfl|rfl|rfl|rfl|rfl|rfl
   ·exact⟨0,R,by lia⟩
   ·exact⟨0,R,by lia⟩
   ·exact⟨0,R,by lia⟩
   ·exact⟨1,R,by lia⟩
   ·exact⟨2,R,by lia⟩
   ·exact⟨3,R,by lia⟩) (by lia) (by show(e0:Int)%6<6;lia)
  obtain⟨M,q,lk,gp⟩:=st.gp;refine⟨_,R,_,_,R,R,(by show(0:Int)<6;lia),p,_,_,_,R,R,Zg.of t1,ew,?_⟩;refine⟨_,R,_,R,_,R,_,R,_,_,R,R,⟨by lia,by lia⟩,I,g,ld,e0/6,_,W,M,u,congrArg (fun z=>[V.ref I,.ref g,.ref ld,.int z]) (show(e0:Int)/6=((e0/6:Nat):Int) by lia),W7.keepE st.k,H,q,gp,st.lg,st.k _ _ u0 (fun _ z=>(nomatch z)) fun _ z=>(nomatch z),R,fun lg vt vd Z X d3 r0 a3 G Q=>?_⟩;have st:=st.same r0;have gp:=gp.same r0;have q:=r0 _ _ q;clear t1 r0 a3 ew;refine⟨_,R,_,R,_,R,_,R,I,g,lg,D,vt,vd,Z,X,W,M,u,R,(W7.keepE st.k).toT,H,q,gp,st.lg,hw,G,Q _ SC,Q _ (SB _ SC),Q _ (SB _ (SB _ SC)),Q _ (SB _ (SB _ (SB _ SC))),fun k1 j0=>?_⟩;have O:=Zk5 st.ag D vt vd Z X;generalize Wf (ZL W) u D vt vd Z X=du at O;have st:=st.same j0;have gp:=gp.same j0;have q:=j0 _ _ q;have G:=j0 _ _ G;have Q:=Q.same j0;clear j0;refine⟨fun σ H'=>∃l0:V,Yi Y H'/\XC t H'/\H' g=some (.dT M)/\XI H' M u/\H' lg=some (.lst [vt,vd,Z,X]) /\
    ((∃w,du=some w/\l0=.str w.txt/\Z8 H' [vt,vd,Z,X]/\Yf t H' x b (ZL W) j i)\/∃(y:Zo) (day c k:Nat) (p:Addr) (v:V),du=none/\vt=.str y.nm/\y∈ZL W/\vd=.int day/\day<=9999/\(D=0->Z=.int c/\X=.int k/\c<y.cs.length)/\l0=.ref p/\H' p=some (.tup [.str (OK "told"),v])/\(D<=2->v=.non/\Yf t H' x b (ZL W) (newK j y y.nm day D c k) (i+1))/\(D=3->Yf t H' x b (ZL W) j i/\UU H' v (X4 y (j y.nm day) day))) /\
    σ=[some (.ref a),some (.ref I),some (.ref x),some (.ref g),some (.int B),some (.ref ld),some (.int i),some (.int c),some (.int e0),some (.int D),some (.ref lg),some (Kv du),some l0],?_,?_⟩
  ·sleep 1;obtain⟨i2,n0⟩:=st.tb.1.at
   refine⟨_,R,_,R,_,R,x,lg,b,ZL W,j,i,D,vt,vd,Z,X,R,.inl G,st.no,by lia,x1,st.lk,Q,hw,st.tb.1,fun w c0 hd S J=>?_,fun y z day c k p v c0 hd ez ex ed h9 hc J hp h2 h3=>?_⟩
   ·have up:∀a o,k1 a=some o->(∀ps,o≠.tbl ps)->c0 a=some o:=fun a o e ne=>S _ _ (UJ n0 e ne)
    exact⟨_,st.k.trans (Yi.tab st.tb.1 S),⟨J,Kz st.tb.1 st.tb.2 (Ne.symm f.QU) S⟩,up _ _ q fun _ z=>(nomatch z),gp.keep fun l xs e=>up _ _ e fun _ z=>(nomatch z),up _ _ G fun _ z=>(nomatch z),.inl ⟨w,O.symm.trans hd,R,fun v E=>Xp.tab up (Q v E),st.no.tab up⟩,R⟩
   ·obtain⟨hm,rfl⟩:=X2 ex
    by_cases c3:D=3
    ·obtain⟨S,hM⟩:=h3 c3
     have up:∀a o,k1 a=some o->(∀ps,o≠.tbl ps)->c0 a=some o:=fun a o e ne=>S _ _ (UJ n0 e ne);exact⟨_,st.k.trans (Yi.tab st.tb.1 S),⟨J,Kz st.tb.1 st.tb.2 (Ne.symm f.QU) S⟩,up _ _ q fun _ z=>(nomatch z),gp.keep fun l xs e=>up _ _ e fun _ z=>(nomatch z),up _ _ G fun _ z=>(nomatch z),.inr ⟨y,day,c,k,p,v,O.symm.trans hd,ez,hm,ed,h9,hc,R,hp,fun k0=>by lia,fun _=>⟨st.no.tab up,hM⟩⟩,R⟩
    ·obtain⟨rfl,S,k2⟩:=h2 (by lia)
     obtain⟨kk,d0,_⟩:=st.no.tk;obtain⟨kl,g0,_⟩:=st.no.lt;have a0:=Yi.both st.no st.tb.1 S;exact⟨_,st.k.trans a0,⟨J,ZbY st.tb.1 st.tb.2 (Ne.symm f.QU) d0 g0 S⟩,S _ _ (ZX (ZX (ZX q m1) h1) (Z3 q n0 fun z=>(nomatch z))),gp.keep fun l xs e=>a0 _ _ e (fun _ z=>(nomatch z)) fun _ z=>(nomatch z),a0 _ _ G (fun _ z=>(nomatch z)) fun _ z=>(nomatch z),.inr ⟨y,day,c,k,p,.non,O.symm.trans hd,ez,hm,ed,h9,hc,R,hp,fun _=>⟨R,k2⟩,fun k0=>Oq k0 c3⟩,R⟩
  ·have lK:=st.lk
   have lG:=st.lg;have m0:=st.ag;clear st q gp G Q;rintro σ c0 ⟨l0,a0,J,q,gp,G,hO,rfl⟩;sleep 1;refine⟨fun w2 H'=>∃(j u:ZQ),Qi t W x g b Y H' j u (i+1)/\w2=[some (.ref a),some (.ref I),some (.ref x),some (.ref g),some (.int B),some (.ref ld),some (.int i),some (.int c),some (.int e0),some (.int D),some (.ref lg),some (Kv du),some l0],?_,?_⟩
   ·sleep 1;rcases hO with⟨w,rfl,rfl,Q,T⟩|⟨y,day,cc,k,p,v,rfl,rfl,hm,rfl,h9,hc,rfl,hp,h2,h3⟩
    ·have o1:¬ (!decide (V.str w.txt=Kv (some w)))=true:=by rw[SO (show V.str w.txt=Kv (some w)from R)];lia
     refine⟨_,R,_,R,ZH R ⟨_,R,_,R,R,_,R,Zn o1 ⟨_,R,_,R,_,R,x,lg,b,ZL W,j,i,D,vt,vd,Z,X,R,.inl G,T,by lia,x1,lK,Q,hw,J.1,fun w' b0 hd L y2=>?_,fun y z day c k p v c0 hd=>by rw[O]at hd;cases hd⟩⟩⟩;rw[O]at hd;cases hd;obtain⟨i2,n0⟩:=J.1.at;have up:∀a o,c0 a=some o->(∀ps,o≠.tbl ps)->b0 a=some o:=fun a o e ne=>L _ _ (UJ n0 e ne);exact⟨_,R,R,_,R,Zn o1 ⟨j,u,⟨a0.trans (Yi.tab J.1 L),(T.tab up).more,⟨M,up _ _ q fun _ z=>(nomatch z),by lia,gp.keep fun l xs e=>up _ _ e fun _ z=>(nomatch z)⟩,lK,lG,m0,⟨y2,Kz J.1 J.2 (Ne.symm f.QU) L⟩⟩,R⟩⟩
    ·refine⟨_,R,_,R,Zn (by lia) ?_⟩
     sleep 1;obtain⟨ru,hT,c2,_,l2,cs⟩:=(W7.keepE a0).toT.trip H (VC i0 hm);have i1:∀ls,u y.nm day=some (some ls)->ls.length=y.cs.length:=fun ls k0=>lG y hm day ls k0;by_cases c3:D=3
     ·obtain⟨T,hM⟩:=h3 c3
      subst c3;refine⟨_,R,R,_,R,ZH R ?_⟩;sleep 1;refine⟨_,R,_,R,_,R,_,R,lg,_,0,_,R,R,Zg.of G,R,_,R,lg,_,1,_,R,R,Zg.of G,R,?_⟩;dsimp only[Xw,Yt,Ob];refine Zk7 hT c2 q gp i1 fun v' b0 L o2=>⟨by show 2<=sizeLine;lia,fun p2 g2=>?_⟩;generalize h:Za b0 p2 _=p0;have f0:=ZM g2 h;have y0:=ZN h;clear h;have w0:=L.trans f0;have y1:=ZbV (x:=y) (o:=u y.nm day) (day:=day) cs.st fun z hz=>by
       obtain⟨y,hy,rfl⟩:=SI.mp hz;exact(H.so y hy).1
      rw[ZbU m0 hm]at hM;have o0:DV K p0 (.ref p) _:=.tup (Zk.of (w0 _ _ hp)) (.cons (.str _ (by lia)) (.cons ((hM.same w0).dv y1) .nil));have m2:DV K p0 (.ref p2) _:=.tup (Zk.of y0) (.cons (.str _ (by lia)) (.cons ((o2.same f0).dv y1) .nil));have st:Qi t W x g b Y c0 j u (i+1):=⟨a0,T.more,⟨M,q,by lia,gp⟩,lK,lG,m0,J⟩;exact⟨_,_,o0,m2,by have:=ZkW (X4 y (u y.nm day) day);simp[PyData.depth,PyData.depthAll];lia,_,R,Zn (by rw[SeqAt.eqv_refl _ o0.can];lia) ⟨j,u,st.same w0,R⟩⟩
     ·obtain⟨rfl,T⟩:=h2 (by lia)
      refine⟨_,R,R,_,R,Zn (by rw[WK];simpa using fun e=>c3 (by lia)) ?_⟩;sleep 2;have hz:D=0->u y.nm day≠some none:=fun U e=>by
       unfold Wf at O;rw[SV U]at O;have hG:Xa (ZL W) j (.str y.nm) (.int day)=none:=by
        cases z:Xa (ZL W) j (.str y.nm) (.int day)with
        |none=>rfl
        |some w=>unfold X5 at O;rw[z]at O;cases O
       unfold Xa at hG;cases z:Xk (ZL W) (.str y.nm) (.int day)with
       |some w=>rw[z]at hG;cases hG
       |none=>rw[z]at hG;change (if j y.nm day=some none then some Wn.run else none)=none at hG;rw[SV ((m0 y hm day).1.mpr e)]at hG;cases hG
      refine⟨_,R,_,R,_,R,_,R,I,g,lg,D,day,cc,k,Z,X,y,ru,M,u,R,hT,c2,q,by lia,gp,i1,by lia,G,fun U=>⟨(hc U).1,(hc U).2.1,(hc U).2.2,hz U⟩,fun x2 b0 L v2 b3 f2=>⟨_,R,by show 2<=sizeLine;lia,fun p2 g2=>?_⟩⟩;generalize h:Za b0 p2 _=p0;have f0:=ZM g2 h;have y0:=ZN h;clear h;have c1:Yi c0 b0:=fun a o e n1 n2=>L _ _ (ZX e (Z3 e q (n1 _)));obtain⟨kk,d0,_⟩:=T.tk;obtain⟨kl,g0,_⟩:=T.lt;have st:Qi t W x g b Y b0 _ _ (i+1):=⟨a0.trans c1,T.keepE c1 ((L _ _ (ZX d0 m1.symm)).trans d0.symm) ((L _ _ (ZX g0 h1.symm)).trans g0.symm),⟨x2,v2,by lia,f2⟩,lK.newK i0 hm fun U=>(hc U).2.2,lG.newG i0 hm fun U=>(hc U).2.2,Zk6 m0 i0 hm day D cc k (by lia),J.keep (fun a ps e=>L _ _ (ZX e (Z3 e q fun z=>(nomatch z)))) fun a c t0 e=>L _ _ (ZX e (Z3 e q fun z=>(nomatch z)))⟩;have o0:DV K p0 (.ref p) _:=Q6 ((Yi.of f0) _ _ (c1 _ _ hp (fun _ z=>(nomatch z)) fun _ z=>(nomatch z)) (fun _ z=>(nomatch z)) fun _ z=>(nomatch z));exact⟨_,_,o0,Q6 y0,by simp[PyData.depth,PyData.depthAll],_,R,Zn (by rw[SeqAt.eqv_refl _ o0.can];lia) ⟨_,_,st.same f0,R⟩⟩
   ·rintro σ b0 ⟨j,u,st,rfl⟩
    sleep 1;obtain⟨M,q,_,gp⟩:=st.gp;refine⟨_,R,_,R,_,R,_,R,x,I,g,ld,b,W,j,u,i+1,M,_,bare H1,R,st.no,wb,bs st.k,nb,H,q,gp,st.lk,st.lg,st.ag,st.k _ _ u0 (fun _ z=>(nomatch z)) fun _ z=>(nomatch z),fun d hd=>by simp only[SE,List.not_mem_nil,or_false]at hd;lia,fun p0 f0=>⟨_,R,Zn (by lia) ⟨j,u,_,_,_,_,_,_,_,st.same f0,R⟩⟩⟩
 ·rintro σ H8 ⟨j,u,v6,v7,v8,v9,d1,v0,b1,st,rfl⟩
  have d2:=st.k _ _ u0 (fun _ z=>(nomatch z)) fun _ z=>(nomatch z);refine⟨_,R,_,R,_,R,2,R,ld,_,R,Zg.of d2,fun p2 g2=>?_⟩;rw[show W3 (Yb [B,B+1,B+2,B+3]) none (some 2)=Yb [B,B+1] from Q3 _ 2];have st:=st.same (Zy g2 (.lst (Yb [B,B+1])));exact⟨x,I,p2,b,W,j,xs.length,[B,B+1],bare H1,R,st.no,by lia,wb,bs st.k,nb,H,st.lk,Zm,Sg _,fun d hd=>by simp only[SE,List.not_mem_nil,or_false]at hd;lia,st.tb,fun H'=>t0 _⟩
end
theorem all_mk{K:Ow}{h:Heap}{mg:Ov}(X:K.In h)(G:h.Ns mainGlobals mg)
  {Aa Ab Ac Ad Ae Af Ag Ah Ai Aj Ak Al Am An Ao Ap Aq Ar As At Au Av Aw Ax:Tok}
  {Ay Az AA AB AC AD AE AF AG AH AI AJ AK AL AM AN AO AP AQ AR AS AT AU AV AW AX AY AZ Ba Bb Bc Bd Be Bf Bg Bh Bi Bj Bk Bl Bm Bn Bo Bp Bq Br Bs Bt Bu Bv Bw Bx By Bz BA BB BC BD BE BF BG BH BI BJ BK BL BM BN BO BP BQ BR BS BT BU BV BW BX BY BZ Ca Cb Cc Cd Ce Cf Cg Ch Ci Cj Ck Cl Cm Cn Co Cp Cq Cr Cs Ct Cu Cv Cw Cx Cy Cz CA CB CC CD CE CF CG CH CI CJ CK:Addr}
  {CL CM CN CO CP CQ CR CS CT CU CV CW CY CZ Da Db Dc Dd De Df Dg Dh Di Dj Dk Dl Dm Dn Do Dp Dq Dr Ds Dt Du Dv Dw Dx Dy Dz DA DB DC DD DE DF DG DH DI DJ DK DL DN DO DP DQ DR DS DT DU DV DW DX DY DZ Ea Eb Ec Ed Ee Ef Eg Eh Ei Ej Ek El Em En Eo Ep Er Es Et Eu Ev:OJ}
  {Ew Ex:Value}
  {Ey Ez:OF}
  {EA EB:Array Value}
  {EC ED:Oz}
  (EE:OH)
  (EF:W.nsIn K mainGlobals "RoadError" = some (some (.ref Bi)))
  (EG:W.nsIn K mainGlobals "BadClock" = some (some (.ref Bj)))
  (EH:W.nsIn K mainGlobals "BadRule" = some (some (.ref Bk)))
  (EI:W.nsIn K mainGlobals "TooMany" = some (some (.ref Bl)))
  (EJ:W.nsIn K mainGlobals "BadName" = some (some (.ref Bm)))
  (EK:W.nsIn K mainGlobals "Twice" = some (some (.ref Bn)))
  (EL:W.nsIn K mainGlobals "NoStop" = some (some (.ref Bo)))
  (EM:W.nsIn K mainGlobals "NoRule" = some (some (.ref Bp)))
  (EN:W.nsIn K mainGlobals "NoTicket" = some (some (.ref Bq)))
  (EO:W.nsIn K mainGlobals "NoTrip" = some (some (.ref Br)))
  (EP:W.nsIn K mainGlobals "BadNumber" = some (some (.ref Bs)))
  (EQ:W.nsIn K mainGlobals "BadCalls" = some (some (.ref Bt)))
  (ER:W.nsIn K mainGlobals "BadRow" = some (some (.ref Bu)))
  (ES:W.nsIn K mainGlobals "NoRun" = some (some (.ref Bv)))
  (ET:W.nsIn K mainGlobals "NoPlan" = some (some (.ref Bw)))
  (EU:W.nsIn K mainGlobals "TooLate" = some (some (.ref Bx)))
  (EV:W.nsIn K mainGlobals "NoTraveller" = some (some (.ref By)))
  (EW:W.nsIn K mainGlobals "BadLine" = some (some (.ref Bz)))
  (EX:W.nsIn K mainGlobals "Rule" = some (some (.ref BA)))
  (EY:W.nsIn K mainGlobals "Week" = some (some (.ref BB)))
  (EZ:W.nsIn K mainGlobals "Span" = some (some (.ref BC)))
  (Fa:W.nsIn K mainGlobals "Each" = some (some (.ref BD)))
  (Fb:W.nsIn K mainGlobals "Either" = some (some (.ref BE)))
  (Fc:W.nsIn K mainGlobals "Both" = some (some (.ref BF)))
  (Fd:W.nsIn K mainGlobals "But" = some (some (.ref BG)))
  (Fe:W.nsIn K mainGlobals "Net" = some (some (.ref BH)))
  (Ff:W.nsIn K mainGlobals "Notices" = some (some (.ref BI)))
  (Fg:W.nsIn K mainGlobals "ValueError" = some none)
  (Fh:W.nsIn K mainGlobals "all" = some none)
  (Fi:W.nsIn K mainGlobals "any" = some none)
  (Fj:W.nsIn K mainGlobals "bool" = some none)
  (Fk:W.nsIn K mainGlobals "enumerate" = some none)
  (Fl:W.nsIn K mainGlobals "int" = some none)
  (Fm:W.nsIn K mainGlobals "isinstance" = some none)
  (Fn:W.nsIn K mainGlobals "len" = some none)
  (Fo:W.nsIn K mainGlobals "list" = some none)
  (Fp:W.nsIn K mainGlobals "max" = some none)
  (Fq:W.nsIn K mainGlobals "min" = some none)
  (Fr:W.nsIn K mainGlobals "range" = some none)
  (Fs:W.nsIn K mainGlobals "set" = some none)
  (Ft:W.nsIn K mainGlobals "sorted" = some none)
  (Fu:W.nsIn K mainGlobals "str" = some none)
  (Fv:W.nsIn K mainGlobals "sum" = some none)
  (Fw:W.nsIn K mainGlobals "tuple" = some none)
  (Fx:W.nsIn K mainGlobals "zip" = some none)
  (Fy:W.nsIn K mainGlobals "LETTERS" = some (some (.str (OK "abcdefghijklmnopqrstuvwxyz") Aa)))
  (Fz:W.nsIn K mainGlobals "MOST_LETTERS" = some (some (.int 8 Ab)))
  (FA:W.nsIn K mainGlobals "LAST_DAY" = some (some (.int 9999 Ac)))
  (FB:W.nsIn K mainGlobals "DAY_MINUTES" = some (some (.int 1440 Ad)))
  (FC:W.nsIn K mainGlobals "LAST_MINUTE" = some (some (.int 2879 Ae)))
  (FD:W.nsIn K mainGlobals "WEEK_DAYS" = some (some (.int 7 Af)))
  (FE:W.nsIn K mainGlobals "ALL_WEEK" = some (some (.int 127 Ag)))
  (FF:W.nsIn K mainGlobals "MOST_LENGTH" = some (some (.int 28 Ah)))
  (FG:W.nsIn K mainGlobals "MOST_LISTED" = some (some (.int 12 Ai)))
  (FH:W.nsIn K mainGlobals "MOST_WEIGHT" = some (some (.int 15 Aj)))
  (FI:W.nsIn K mainGlobals "MOST_DEPTH" = some (some (.int 8 Ak)))
  (FJ:W.nsIn K mainGlobals "MOST_STOPS" = some (some (.int 8 Al)))
  (FK:W.nsIn K mainGlobals "MOST_WALKS" = some (some (.int 12 Am)))
  (FL:W.nsIn K mainGlobals "MOST_RULES" = some (some (.int 6 An)))
  (FM:W.nsIn K mainGlobals "MOST_TICKETS" = some (some (.int 3 Ao)))
  (FN:W.nsIn K mainGlobals "MOST_TRIPS" = some (some (.int 10 Ap)))
  (FO:W.nsIn K mainGlobals "LAST_ZONE" = some (some (.int 6 Aq)))
  (FP:W.nsIn K mainGlobals "MOST_CHANGE" = some (some (.int 30 Ar)))
  (FQ:W.nsIn K mainGlobals "MOST_WALKED" = some (some (.int 60 As)))
  (FR:W.nsIn K mainGlobals "MOST_PRICE" = some (some (.int 10000 At)))
  (FS:W.nsIn K mainGlobals "MOST_LASTING" = some (some (.int 1440 Au)))
  (FT:W.nsIn K mainGlobals "LEAST_CALLS" = some (some (.int 2 Av)))
  (FU:W.nsIn K mainGlobals "MOST_CALLS" = some (some (.int 6 Aw)))
  (FV:W.nsIn K mainGlobals "MOST_LATE" = some (some (.int 300 Ax)))
  (FW:DM K "is_any_number" Na Ay CL)
  (FX:DM K "is_number" Nb Az CM)
  (FY:DM K "check_number" Nc AA CN)
  (FZ:DM K "are_rising" Nd AB CO)
  (Ga:DM K "is_name" Nf AC CP)
  (Gb:DM K "is_known" Ng AD CQ)
  (Gc:DM K "copy_of" Nh AE CR)
  (Gd:DM K "check_size" Ni AF CS)
  (Ge:DM K "check_new" Nj AG CT)
  (Gf:DM K "check_room" Nk AH CU)
  (Gg:DM K "have_calls_form" Nl AI CV)
  (Gh:DM K "can_follow" Nm AJ CW)
  (Gi:DM K "moved" Nn AK CY)
  (Gj:DM K "check_rising" No AL CZ)
  (Gk:DM K "_law_cell_at" Np AM Da)
  (Gl:DM K "_law_mixed" Nq AN Db)
  (Gm:DM K "_law_among" Nr AO Dc)
  (Gn:DM K "_law_name" Nt AP Dd)
  (Go:DM K "_law_days" Nu AQ De)
  (Gp:DM K "_law_rule" Nv AR Df)
  (Gq:DM K "_law_runs" Nw AS Dg)
  (Gr:DM K "_law_calls" Ny AT Dh)
  (Gs:DM K "_law_world" Nz AU Di)
  (Gt:DM K "_law_drawn" NC AV Dj)
  (Gu:DM K "_law_made" ND AW Dk)
  (Gv:DM K "_law_said" NE AX Dl)
  (Gw:DM K "_law_moments" NF AY Dm)
  (Gx:DM K "_law_rises" NG AZ Dn)
  (Gy:DM K "_law_due" NH Ba Do)
  (Gz:DM K "_law_just" NI Bb Dp)
  (GA:DM K "_law_given" NK Bc Dq)
  (GB:DM K "_law_tell" NL Bd Dr)
  (GC:DM K "_law_kept" NM Be Ds)
  (GD:DM K "_law_stands" NN Bf Dt)
  (GE:DM K "_law_borders" NP Bg Du)
  (GF:DM K "law" NQ Bh Dv)
  (GG:MM K BA "copied" "Rule.copied" NR BJ Dw)
  (GH:MM K BA "parts" "Rule.parts" NT BK Dx)
  (GI:MM K BA "runs" "Rule.runs" NU BL Dy)
  (GJ:MM K BA "weight" "Rule.weight" NV BM Dz)
  (GK:MM K BA "depth" "Rule.depth" NW BN DA)
  (GL:MM K BB "__init__" "Week.__init__" NX BO DB)
  (GM:MM K BB "copied" "Week.copied" NY BP DC)
  (GN:MM K BB "runs" "Week.runs" NZ BQ DD)
  (GO:MM K BC "__init__" "Span.__init__" N0 BR DE)
  (GP:MM K BC "copied" "Span.copied" N2 BS DF)
  (GQ:MM K BC "parts" "Span.parts" N3 BT DG)
  (GR:MM K BC "runs" "Span.runs" N4 BU DH)
  (GS:MM K BD "__init__" "Each.__init__" N5 BV DI)
  (GT:MM K BD "copied" "Each.copied" Pa BW DJ)
  (GU:MM K BD "runs" "Each.runs" Pb BX DK)
  (GV:MM K BE "__init__" "Either.__init__" Pc BY DL)
  (GW:MM K BE "copied" "Either.copied" Pd BZ DN)
  (GX:MM K BE "parts" "Either.parts" Pe Ca DO)
  (GY:MM K BE "runs" "Either.runs" Pf Cb DP)
  (GZ:MM K BF "__init__" "Both.__init__" Pg Cc DQ)
  (Ha:MM K BF "copied" "Both.copied" Ph Cd DR)
  (Hb:MM K BF "parts" "Both.parts" Pi Ce DS)
  (Hc:MM K BF "runs" "Both.runs" Pj Cf DT)
  (Hd:MM K BG "__init__" "But.__init__" Pk Cg DU)
  (He:MM K BG "copied" "But.copied" Pl Ch DV)
  (Hf:MM K BG "parts" "But.parts" Pm Ci DW)
  (Hg:MM K BG "runs" "But.runs" Pn Cj DX)
  (Hh:MM K BH "__init__" "Net.__init__" Po Ck DY)
  (Hi:MM K BH "add_stop" "Net.add_stop" Pp Cl DZ)
  (Hj:MM K BH "add_walk" "Net.add_walk" Pq Cm Ea)
  (Hk:MM K BH "add_rule" "Net.add_rule" Pr Cn Eb)
  (Hl:MM K BH "add_ticket" "Net.add_ticket" Ps Co Ec)
  (Hm:MM K BH "add_trip" "Net.add_trip" Pu Cp Ed)
  (Hn:MM K BH "check_stop" "Net.check_stop" Pw Cq Ee)
  (Ho:MM K BH "check_trip" "Net.check_trip" Px Cr Ef)
  (Hp:MM K BH "check_call" "Net.check_call" Py Cs Eg)
  (Hq:MM K BH "has_walk" "Net.has_walk" Pz Ct Eh)
  (Hr:MM K BH "trips" "Net.trips" PB Cu Ei)
  (Hs:MM K BH "rule" "Net.rule" PD Cv Ej)
  (Ht:MM K BH "rule_name" "Net.rule_name" PF Cw Ek)
  (Hu:MM K BH "calls" "Net.calls" PH Cx El)
  (Hv:MM K BI "__init__" "Notices.__init__" PJ Cy Em)
  (Hw:MM K BI "late" "Notices.late" PL Cz En)
  (Hx:MM K BI "out" "Notices.out" PN CA Eo)
  (Hy:MM K BI "back" "Notices.back" PP CB Ep)
  (Hz:MM K BI "moments" "Notices.moments" PQ CC Er)
  (HA:MM K BI "late_minutes" "Notices.late_minutes" PR CD Es)
  (HB:MM K BI "check_day" "Notices.check_day" PU CE Et)
  (HC:MM K BI "check_runs" "Notices.check_runs" PV CF Eu)
  (HD:MM K BI "check_goes" "Notices.check_goes" PX CG Ev)
  (HE:YN K BA)
  (HF:ML K BA)
  (HG:YN K BB)
  (HH:Mk K BB BO)
  (HI:Yz K BB "depth" BN)
  (HJ:Yz K BB "parts" BK)
  (HK:Yz K BB "weight" BM)
  (HL:W.findIn K (.ref BB) "bits" = some none)
  (HM:YN K BC)
  (HN:Mk K BC BR)
  (HO:Yz K BC "depth" BN)
  (HP:Yz K BC "weight" BM)
  (HQ:W.findIn K (.ref BC) "first" = some none)
  (HR:W.findIn K (.ref BC) "last" = some none)
  (HS:W.findIn K (.ref BC) "inner" = some none)
  (HT:YN K BD)
  (HU:Mk K BD BV)
  (HV:Yz K BD "depth" BN)
  (HW:Yz K BD "parts" BK)
  (HX:Yz K BD "weight" BM)
  (HY:W.findIn K (.ref BD) "length" = some none)
  (HZ:W.findIn K (.ref BD) "starts" = some none)
  (Ia:YN K BE)
  (Ib:Mk K BE BY)
  (Ic:Yz K BE "depth" BN)
  (Ie:Yz K BE "weight" BM)
  (If:W.findIn K (.ref BE) "one" = some none)
  (Ig:W.findIn K (.ref BE) "other" = some none)
  (Ih:YN K BF)
  (Ii:Mk K BF Cc)
  (Ij:Yz K BF "depth" BN)
  (Ik:Yz K BF "weight" BM)
  (Il:W.findIn K (.ref BF) "one" = some none)
  (Im:W.findIn K (.ref BF) "other" = some none)
  (Io:YN K BG)
  (Ip:Mk K BG Cg)
  (Iq:Yz K BG "depth" BN)
  (Ir:Yz K BG "weight" BM)
  (Is:W.findIn K (.ref BG) "days" = some none)
  (It:W.findIn K (.ref BG) "inner" = some none)
  (Iu:YN K BH)
  (Iv:Mk K BH Ck)
  (Iw:W.findIn K (.ref BH) "stop_rows" = some none)
  (Ix:W.findIn K (.ref BH) "walk_rows" = some none)
  (Iy:W.findIn K (.ref BH) "rule_rows" = some none)
  (Iz:W.findIn K (.ref BH) "ticket_rows" = some none)
  (IA:W.findIn K (.ref BH) "trip_rows" = some none)
  (IB:YN K BI)
  (IC:Mk K BI Cy)
  (ID:W.findIn K (.ref BI) "timetable" = some none)
  (IE:W.findIn K (.ref BI) "taken" = some none)
  (IF:W.findIn K (.ref BI) "lateness" = some none)
  (IG:WN K BA)
  (IH:W.kitOne K (.ref BA) (.ref BA)=some true)
  (II:WN K BB)
  (IJ:W.kitOne K (.ref BB) (.ref BA)=some true)
  (IK:WN K BC)
  (IL:W.kitOne K (.ref BC) (.ref BA)=some true)
  (IM:WN K BD)
  (IN:W.kitOne K (.ref BD) (.ref BA)=some true)
  (IP:WN K BE)
  (IQ:W.kitOne K (.ref BE) (.ref BA)=some true)
  (IR:WN K BF)
  (IS:W.kitOne K (.ref BF) (.ref BA)=some true)
  (IT:WN K BG)
  (IU:W.kitOne K (.ref BG) (.ref BA)=some true)
  (IV:V2 K Br)
  (IW:Xy K Br)
  (IX:KX K Br [(Bj,false),(Bk,false),(Bl,false),(Bm,false),(Bn,false),(Bo,false),(Bp,false),(Bq,false),(Br,true),(Bs,false),(Bt,false),(Bu,false),(Bv,false),(Bw,false),(Bx,false),(Bz,false),(By,false)])
  (IY:W.kitOne K (.ref Br) (.type "ValueError")=some true)
  (IZ:W.exmOne K (.ref Br) (.ref Bi)=some true)
  (Ja:V2 K Bj)
  (Jb:Xy K Bj)
  (Jc:KX K Bj [(Bj,true),(Bk,false),(Bl,false),(Bm,false),(Bn,false),(Bo,false),(Bp,false),(Bq,false),(Br,false),(Bs,false),(Bt,false),(Bu,false),(Bv,false),(Bw,false),(Bx,false),(Bz,false),(By,false)])
  (Jd:W.kitOne K (.ref Bj) (.type "ValueError")=some true)
  (Je:W.exmOne K (.ref Bj) (.ref Bi)=some true)
  (Jf:V2 K Bv)
  (Jg:Xy K Bv)
  (Jh:KX K Bv [(Bj,false),(Bk,false),(Bl,false),(Bm,false),(Bn,false),(Bo,false),(Bp,false),(Bq,false),(Br,false),(Bs,false),(Bt,false),(Bu,false),(Bv,true),(Bw,false),(Bx,false),(Bz,false),(By,false)])
  (Ji:W.kitOne K (.ref Bv) (.type "ValueError")=some true)
  (Jj:W.exmOne K (.ref Bv) (.ref Bi)=some true)
  (Jk:V2 K Bs)
  (Jl:Xy K Bs)
  (Jm:KX K Bs [(Bj,false),(Bk,false),(Bl,false),(Bm,false),(Bn,false),(Bo,false),(Bp,false),(Bq,false),(Br,false),(Bs,true),(Bt,false),(Bu,false),(Bv,false),(Bw,false),(Bx,false),(Bz,false),(By,false)])
  (Jn:W.kitOne K (.ref Bs) (.type "ValueError")=some true)
  (Jo:W.exmOne K (.ref Bs) (.ref Bi)=some true)
  (Jp:V2 K Bt)
  (Jq:Xy K Bt)
  (Jr:KX K Bt [(Bj,false),(Bk,false),(Bl,false),(Bm,false),(Bn,false),(Bo,false),(Bp,false),(Bq,false),(Br,false),(Bs,false),(Bt,true),(Bu,false),(Bv,false),(Bw,false),(Bx,false),(Bz,false),(By,false)])
  (Js:W.kitOne K (.ref Bt) (.type "ValueError")=some true)
  (Jt:W.exmOne K (.ref Bt) (.ref Bi)=some true)
  (Ju:Dr.code=.ref CH)
  (Jv:K.lookup CH=some ⟨Ew,Ey,.fields EA,EC⟩)
  (Jw:(EA[11]?:Option Value)=some (.ref CI))
  (Jx:K.lookup CI=none)
  (Jy:W.codeHdIn K CH CI=true)
  (Jz:CI∈EE)
  (JA:Du.code=.ref CJ)
  (JB:K.lookup CJ=some ⟨Ex,Ez,.fields EB,ED⟩)
  (JC:(EB[11]?:Option Value)=some (.ref CK))
  (JD:K.lookup CK=none)
  (JE:W.codeHdIn K CJ CK=true)
  (JF:CK∈EE)
  (JG:CI≠CK)
  : ∃t:Yn,Zs K mg t/\t.Wr∈EE/\t.Ut∈EE :=
 ⟨⟨Ay,CL,Az,CM,AA,CN,AB,CO,AC,CP,AD,CQ,AE,CR,AF,CS,AG,CT,AH,CU,AI,CV,AJ,CW,AK,CY,AL,CZ,AM,Da,AN,Db,AO,Dc,AP,Dd,AQ,De,AR,Df,AS,Dg,AT,Dh,AU,Di,AV,Dj,AW,Dk,AX,Dl,AY,Dm,AZ,Dn,Ba,Do,Bb,Dp,Bc,Dq,Bd,Dr,Be,Ds,Bf,Dt,Bg,Du,Bh,Dv,BJ,Dw,BK,Dx,BL,Dy,BM,Dz,BN,DA,BO,DB,BP,DC,BQ,DD,BR,DE,BS,DF,BT,DG,BU,DH,BV,DI,BW,DJ,BX,DK,BY,DL,BZ,DN,Ca,DO,Cb,DP,Cc,DQ,Cd,DR,Ce,DS,Cf,DT,Cg,DU,Ch,DV,Ci,DW,Cj,DX,Ck,DY,Cl,DZ,Cm,Ea,Cn,Eb,Co,Ec,Cp,Ed,Cq,Ee,Cr,Ef,Cs,Eg,Ct,Eh,Cu,Ei,Cv,Ej,Cw,Ek,Cx,El,Cy,Em,Cz,En,CA,Eo,CB,Ep,CC,Er,CD,Es,CE,Et,CF,Eu,CG,Ev,Bi,Bj,Bk,Bl,Bm,Bn,Bo,Bp,Bq,Br,Bs,Bt,Bu,Bv,Bw,Bx,By,Bz,BA,BB,BC,BD,BE,BF,BG,BH,BI,CH,CI,CJ,CK,K⟩,⟨W.mg_none_of X G Fg,
  W.mg_none_of X G Fh,
  W.mg_none_of X G Fi,
  W.mg_none_of X G Fj,
  W.mg_none_of X G Fk,
  W.mg_none_of X G Fl,
  W.mg_none_of X G Fm,
  W.mg_none_of X G Fn,
  W.mg_none_of X G Fo,
  W.mg_none_of X G Fp,
  W.mg_none_of X G Fq,
  W.mg_none_of X G Fr,
  W.mg_none_of X G Fs,
  W.mg_none_of X G Ft,
  W.mg_none_of X G Fu,
  W.mg_none_of X G Fv,
  W.mg_none_of X G Fw,
  W.mg_none_of X G Fx,
  ⟨_,W.mg_of X G Fy⟩,
  ⟨_,W.mg_of X G Fz⟩,
  ⟨_,W.mg_of X G FA⟩,
  ⟨_,W.mg_of X G FB⟩,
  ⟨_,W.mg_of X G FC⟩,
  ⟨_,W.mg_of X G FD⟩,
  ⟨_,W.mg_of X G FE⟩,
  ⟨_,W.mg_of X G FF⟩,
  ⟨_,W.mg_of X G FG⟩,
  ⟨_,W.mg_of X G FH⟩,
  ⟨_,W.mg_of X G FI⟩,
  ⟨_,W.mg_of X G FJ⟩,
  ⟨_,W.mg_of X G FK⟩,
  ⟨_,W.mg_of X G FL⟩,
  ⟨_,W.mg_of X G FM⟩,
  ⟨_,W.mg_of X G FN⟩,
  ⟨_,W.mg_of X G FO⟩,
  ⟨_,W.mg_of X G FP⟩,
  ⟨_,W.mg_of X G FQ⟩,
  ⟨_,W.mg_of X G FR⟩,
  ⟨_,W.mg_of X G FS⟩,
  ⟨_,W.mg_of X G FT⟩,
  ⟨_,W.mg_of X G FU⟩,
  ⟨_,W.mg_of X G FV⟩,
  YK X G FW (Xe fun _ _ _ _ _ _ _=>R),
  YK X G FX (XV fun _ _ _ _ _ _ _ _ _=>R),
  YK X G FY (XV fun _ _ _ _ _ _ _ _ _=>R),
  YK X G FZ (Ur fun _ _ _ _ _ _ _ _ _ _=>R),
  YK X G Ga (Xe fun _ _ _ _ _ _ _=>R),
  YK X G Gb (Xs fun _ _ _ _ _ _ _ _=>R),
  YK X G Gc (Xe fun _ _ _ _ _ _ _=>R),
  YK X G Gd (Xe fun _ _ _ _ _ _ _=>R),
  YK X G Ge (Xs fun _ _ _ _ _ _ _ _=>R),
  YK X G Gf (Xs fun _ _ _ _ _ _ _ _=>R),
  YK X G Gg (Xe fun _ _ _ _ _ _ _=>R),
  YK X G Gh (Xs fun _ _ _ _ _ _ _ _=>R),
  YK X G Gi (XV fun _ _ _ _ _ _ _ _ _=>R),
  YK X G Gj (Xe fun _ _ _ _ _ _ _=>R),
  YK X G Gk (Xs fun _ _ _ _ _ _ _ _=>R),
  YK X G Gl (Xs fun _ _ _ _ _ _ _ _=>R),
  YK X G Gm (XV fun _ _ _ _ _ _ _ _ _=>R),
  YK X G Gn (Xs fun _ _ _ _ _ _ _ _=>R),
  YK X G Go (Xs fun _ _ _ _ _ _ _ _=>R),
  YK X G Gp (Xe fun _ _ _ _ _ _ _=>R),
  YK X G Gq (Xs fun _ _ _ _ _ _ _ _=>R),
  YK X G Gr (XV fun _ _ _ _ _ _ _ _ _=>R),
  YK X G Gs (on0 fun _ _ _ _ _ _=>R),
  YK X G Gt (Xe fun _ _ _ _ _ _ _=>R),
  YK X G Gu (Xe fun _ _ _ _ _ _ _=>R),
  YK X G Gv (Xe fun _ _ _ _ _ _ _=>R),
  YK X G Gw (Ur fun _ _ _ _ _ _ _ _ _ _=>R),
  YK X G Gx (on6 fun _ _ _ _ _ _ _ _ _ _ _ _=>R),
  YK X G Gy (Ur fun _ _ _ _ _ _ _ _ _ _=>R),
  YK X G Gz (M7 fun _ _ _ _ _ _ _ _ _ _ _=>R),
  YK X G GA (Ur fun _ _ _ _ _ _ _ _ _ _=>R),
  YK X G GB (XV fun _ _ _ _ _ _ _ _ _=>R),
  YK X G GC (Ur fun _ _ _ _ _ _ _ _ _ _=>R),
  YK X G GD (Ur fun _ _ _ _ _ _ _ _ _ _=>R),
  YK X G GE (XV fun _ _ _ _ _ _ _ _ _=>R),
  YK X G GF (Xe fun _ _ _ _ _ _ _=>R),
  Ye GG (Xe fun _ _ _ _ _ _ _=>R),
  Ye GH (Xe fun _ _ _ _ _ _ _=>R),
  Ye GI (Xs fun _ _ _ _ _ _ _ _=>R),
  Ye GJ (Xe fun _ _ _ _ _ _ _=>R),
  Ye GK (Xe fun _ _ _ _ _ _ _=>R),
  Ye GL (Xs fun _ _ _ _ _ _ _ _=>R),
  Ye GM (Xe fun _ _ _ _ _ _ _=>R),
  Ye GN (Xs fun _ _ _ _ _ _ _ _=>R),
  Ye GO (Ur fun _ _ _ _ _ _ _ _ _ _=>R),
  Ye GP (Xe fun _ _ _ _ _ _ _=>R),
  Ye GQ (Xe fun _ _ _ _ _ _ _=>R),
  Ye GR (Xs fun _ _ _ _ _ _ _ _=>R),
  Ye GS (XV fun _ _ _ _ _ _ _ _ _=>R),
  Ye GT (Xe fun _ _ _ _ _ _ _=>R),
  Ye GU (Xs fun _ _ _ _ _ _ _ _=>R),
  Ye GV (XV fun _ _ _ _ _ _ _ _ _=>R),
  Ye GW (Xe fun _ _ _ _ _ _ _=>R),
  Ye GX (Xe fun _ _ _ _ _ _ _=>R),
  Ye GY (Xs fun _ _ _ _ _ _ _ _=>R),
  Ye GZ (XV fun _ _ _ _ _ _ _ _ _=>R),
  Ye Ha (Xe fun _ _ _ _ _ _ _=>R),
  Ye Hb (Xe fun _ _ _ _ _ _ _=>R),
  Ye Hc (Xs fun _ _ _ _ _ _ _ _=>R),
  Ye Hd (XV fun _ _ _ _ _ _ _ _ _=>R),
  Ye He (Xe fun _ _ _ _ _ _ _=>R),
  Ye Hf (Xe fun _ _ _ _ _ _ _=>R),
  Ye Hg (Xs fun _ _ _ _ _ _ _ _=>R),
  Ye Hh (Xe fun _ _ _ _ _ _ _=>R),
  Ye Hi (Ur fun _ _ _ _ _ _ _ _ _ _=>R),
  Ye Hj (Ur fun _ _ _ _ _ _ _ _ _ _=>R),
  Ye Hk (XV fun _ _ _ _ _ _ _ _ _=>R),
  Ye Hl (M7 fun _ _ _ _ _ _ _ _ _ _ _=>R),
  Ye Hm (Ur fun _ _ _ _ _ _ _ _ _ _=>R),
  Ye Hn (Xs fun _ _ _ _ _ _ _ _=>R),
  Ye Ho (Xs fun _ _ _ _ _ _ _ _=>R),
  Ye Hp (Xs fun _ _ _ _ _ _ _ _=>R),
  Ye Hq (XV fun _ _ _ _ _ _ _ _ _=>R),
  Ye Hr (Xe fun _ _ _ _ _ _ _=>R),
  Ye Hs (Xs fun _ _ _ _ _ _ _ _=>R),
  Ye Ht (Xs fun _ _ _ _ _ _ _ _=>R),
  Ye Hu (Xs fun _ _ _ _ _ _ _ _=>R),
  Ye Hv (Xs fun _ _ _ _ _ _ _ _=>R),
  Ye Hw (M7 fun _ _ _ _ _ _ _ _ _ _ _=>R),
  Ye Hx (XV fun _ _ _ _ _ _ _ _ _=>R),
  Ye Hy (XV fun _ _ _ _ _ _ _ _ _=>R),
  Ye Hz (XV fun _ _ _ _ _ _ _ _ _=>R),
  Ye HA (XV fun _ _ _ _ _ _ _ _ _=>R),
  Ye HB (XV fun _ _ _ _ _ _ _ _ _=>R),
  Ye HC (XV fun _ _ _ _ _ _ _ _ _=>R),
  Ye HD (XV fun _ _ _ _ _ _ _ _ _=>R),
  HE,
  HF,
  HG,
  HH,
  HI,
  HJ,
  HK,
  HL,
  HM,
  HN,
  HO,
  HP,
  HQ,
  HR,
  HS,
  HT,
  HU,
  HV,
  HW,
  HX,
  HY,
  HZ,
  Ia,
  Ib,
  Ic,
  Ie,
  If,
  Ig,
  Ih,
  Ii,
  Ij,
  Ik,
  Il,
  Im,
  Io,
  Ip,
  Iq,
  Ir,
  Is,
  It,
  Iu,
  Iv,
  Iw,
  Ix,
  Iy,
  Iz,
  IA,
  IB,
  IC,
  ID,
  IE,
  IF,
  IG,
  IH,
  II,
  IJ,
  IK,
  IL,
  IM,
  IN,
  IP,
  IQ,
  IR,
  IS,
  IT,
  IU,
  W.mg_of X G EF,
  W.mg_of X G EG,
  W.mg_of X G EH,
  W.mg_of X G EI,
  W.mg_of X G EJ,
  W.mg_of X G EK,
  W.mg_of X G EL,
  W.mg_of X G EM,
  W.mg_of X G EN,
  W.mg_of X G EO,
  W.mg_of X G EP,
  W.mg_of X G EQ,
  W.mg_of X G ER,
  W.mg_of X G ES,
  W.mg_of X G ET,
  W.mg_of X G EU,
  W.mg_of X G EV,
  W.mg_of X G EW,
  W.mg_of X G EX,
  W.mg_of X G EY,
  W.mg_of X G EZ,
  W.mg_of X G Fa,
  W.mg_of X G Fb,
  W.mg_of X G Fc,
  W.mg_of X G Fd,
  W.mg_of X G Fe,
  W.mg_of X G Ff,
  IV,
  IW,
  IX,
  IY,
  IZ,
  Ja,
  Jb,
  Jc,
  Jd,
  Je,
  Jf,
  Jg,
  Jh,
  Ji,
  Jj,
  Jk,
  Jl,
  Jm,
  Jn,
  Jo,
  Jp,
  Jq,
  Jr,
  Js,
  Jt,
  Ju,
  Jy,
  Jx,
  JA,
  JE,
  JD,
  JG,
  rfl⟩,Jz,JF⟩
end K29
local macro_rules|`(command|#where)=>do
 let n:=`PySem.Challenge
 let f(k:String)(i:Nat):=Lean.mkIdent (.str `PySem.W.Fast s!"tw{((n.str "cw_roadbook_k29_notices_refused_holds").str s!"{k}{i}").hash}")
 let x:=(Array.range 1311).map (f "o_")++#[39,46,1271].map (f "heap_")++#[49,71,86,101,116,131,146,161,176,191,206,221,236,258,273,295,310,325,373,396,450,493,543,586,636,686,736,764,1014,1028,1119,1199].map (f "sts_")++#[47,70,85,100,115,130,145,160,175,190,205,220,235,257,272,294,309,324,372,395,449,492,542,585,635,685,735,763,929,1010,1027,1118,1198,1270].map (f "tree_")++#[39].map (f "view_")
 return Lean.mkNullNode (←x.mapM λi=>`(theorem $i:ident:True:=trivial))
#where
def PySem.W.Fast.tw9100649841126262724:=0
open PySem PySem.W PyProof.Rows
set_option maxRecDepth 100000 in
set_option maxHeartbeats 0 in
theorem PySem.Challenge.cw_roadbook_k29_notices_refused_holds : PySem.Challenge.rw_roadbook_k29_notices_refused.Holds := by
 w_on;o_law;k_head;(case hw=>w_witness2)
 k_fill
 refine L2.ZfJ (l:=PySem.Challenge.rw_roadbook_k29_notices_refused) (n:=63) (k:=60) (x := "_law_script") (CX:=L2.Zt) (sp:=K29.sp_law) rfl (by lia) rfl ⟨rfl,by lia,by lia⟩ (fun w h Y=>⟨PySem.W.km_in_of Y,PySem.W.km_tabs_of Y⟩) ?F (fun _ _ _ a ns hl hT hS=>⟨a,ns,rfl,hT,hS,hl,fun _=>rfl⟩) fun _ _ _ _ z=>z
 case F =>
  intro EE eu w mg fa h KX G hmg
  have T:∃t,K29.Zs (L2.yS KX) mg t/\t.Wr∈EE/\t.Ut∈EE:=by
   dsimp only[L2.yS]
   refine' K29.all_mk (EE:=EE) KX G ?EF ?EG ?EH ?EI ?EJ ?EK ?EL ?EM ?EN ?EO ?EP ?EQ ?ER ?ES ?ET ?EU ?EV ?EW ?EX ?EY ?EZ ?Fa ?Fb ?Fc ?Fd ?Fe ?Ff ?Fg ?Fh ?Fi ?Fj ?Fk ?Fl ?Fm ?Fn ?Fo ?Fp ?Fq ?Fr ?Fs ?Ft ?Fu ?Fv ?Fw ?Fx ?Fy ?Fz ?FA ?FB ?FC ?FD ?FE ?FF ?FG ?FH ?FI ?FJ ?FK ?FL ?FM ?FN ?FO ?FP ?FQ ?FR ?FS ?FT ?FU ?FV ?FW ?FX ?FY ?FZ ?Ga ?Gb ?Gc ?Gd ?Ge ?Gf ?Gg ?Gh ?Gi ?Gj ?Gk ?Gl ?Gm ?Gn ?Go ?Gp ?Gq ?Gr ?Gs ?Gt ?Gu ?Gv ?Gw ?Gx ?Gy ?Gz ?GA ?GB ?GC ?GD ?GE ?GF ?GG ?GH ?GI ?GJ ?GK ?GL ?GM ?GN ?GO ?GP ?GQ ?GR ?GS ?GT ?GU ?GV ?GW ?GX ?GY ?GZ ?Ha ?Hb ?Hc ?Hd ?He ?Hf ?Hg ?Hh ?Hi ?Hj ?Hk ?Hl ?Hm ?Hn ?Ho ?Hp ?Hq ?Hr ?Hs ?Ht ?Hu ?Hv ?Hw ?Hx ?Hy ?Hz ?HA ?HB ?HC ?HD ?HE ?HF ?HG ?HH ?HI ?HJ ?HK ?HL ?HM ?HN ?HO ?HP ?HQ ?HR ?HS ?HT ?HU ?HV ?HW ?HX ?HY ?HZ ?Ia ?Ib ?Ic ?Ie ?If ?Ig ?Ih ?Ii ?Ij ?Ik ?Il ?Im ?Io ?Ip ?Iq ?Ir ?Is ?It ?Iu ?Iv ?Iw ?Ix ?Iy ?Iz ?IA ?IB ?IC ?ID ?IE ?IF ?IG ?IH ?II ?IJ ?IK ?IL ?IM ?IN ?IP ?IQ ?IR ?IS ?IT ?IU ?IV ?IW ?IX ?IY ?IZ ?Ja ?Jb ?Jc ?Jd ?Je ?Jf ?Jg ?Jh ?Ji ?Jj ?Jk ?Jl ?Jm ?Jn ?Jo ?Jp ?Jq ?Jr ?Js ?Jt ?Ju ?Jv ?Jw ?Jx ?Jy ?Jz ?JA ?JB ?JC ?JD ?JE ?JF ?JG
   (case EF|EG|EH|EI|EJ|EK|EL|EM|EN|EO|EP|EQ|ER|ES|ET|EU|EV|EW|EX|EY|EZ|Fa|Fb|Fc|Fd|Fe|Ff|Fg|Fh|Fi|Fj|Fk|Fl|Fm|Fn|Fo|Fp|Fq|Fr|Fs|Ft|Fu|Fv|Fw|Fx|Fy|Fz|FA|FB|FC|FD|FE|FF|FG|FH|FI|FJ|FK|FL|FM|FN|FO|FP|FQ|FR|FS|FT|FU|FV=>k_is)
   (case FW|FX|FY|FZ|Ga|Gb|Gc|Gd|Ge|Gf|Gg|Gh|Gi|Gj|Gk|Gl|Gm|Gn|Go|Gp|Gq|Gr|Gs|Gt|Gu|Gv|Gw|Gx|Gy|Gz|GA|GB|GC|GD|GE|GF=>refine' ⟨?a,L2.yT ?b ?c ?d⟩;(case a|b|c|d=>k_is))
   (case GG|GH|GI|GJ|GK|GL|GM|GN|GO|GP|GQ|GR|GS|GT|GU|GV|GW|GX|GY|GZ|Ha|Hb|Hc|Hd|He|Hf|Hg|Hh|Hi|Hj|Hk|Hl|Hm|Hn|Ho|Hp|Hq|Hr|Hs|Ht|Hu|Hv|Hw|Hx|Hy|Hz|HA|HB|HC|HD=>refine' ⟨⟨?a,?b,?c⟩,L2.yT ?d ?e ?f⟩;(case a|b|c|d|e|f=>k_is))
   (case HE=>refine' ⟨?a,?b,?c,?d⟩;(case a|b|c|d=>k_is))
   (case HF=>refine' ⟨?a,?b,?c⟩;(case a|b|c=>k_is))
   (case HG|HH=>refine' ⟨?a,?b,?c,?d⟩;(case a|b|c|d=>k_is))
   (case HI|HJ|HK=>refine' ⟨?a,?b,?c⟩;(case a|b|c=>k_is))
   (case HL=>k_is)
   (case HM|HN=>refine' ⟨?a,?b,?c,?d⟩;(case a|b|c|d=>k_is))
   (case HO|HP=>refine' ⟨?a,?b,?c⟩;(case a|b|c=>k_is))
   (case HQ|HR|HS=>k_is)
   (case HT|HU=>refine' ⟨?a,?b,?c,?d⟩;(case a|b|c|d=>k_is))
   (case HV|HW|HX=>refine' ⟨?a,?b,?c⟩;(case a|b|c=>k_is))
   (case HY|HZ=>k_is)
   (case Ia|Ib=>refine' ⟨?a,?b,?c,?d⟩;(case a|b|c|d=>k_is))
   (case Ic|Ie=>refine' ⟨?a,?b,?c⟩;(case a|b|c=>k_is))
   (case If|Ig=>k_is)
   (case Ih|Ii=>refine' ⟨?a,?b,?c,?d⟩;(case a|b|c|d=>k_is))
   (case Ij|Ik=>refine' ⟨?a,?b,?c⟩;(case a|b|c=>k_is))
   (case Il|Im=>k_is)
   (case Io|Ip=>refine' ⟨?a,?b,?c,?d⟩;(case a|b|c|d=>k_is))
   (case Iq|Ir=>refine' ⟨?a,?b,?c⟩;(case a|b|c=>k_is))
   (case Is|It=>k_is)
   (case Iu|Iv=>refine' ⟨?a,?b,?c,?d⟩;(case a|b|c|d=>k_is))
   (case Iw|Ix|Iy|Iz|IA=>k_is)
   (case IB|IC=>refine' ⟨?a,?b,?c,?d⟩;(case a|b|c|d=>k_is))
   (case ID|IE|IF=>k_is)
   (case IG=>refine' ⟨?a,?b,?c,?d⟩;(case a|b|c|d=>k_is))
   (case IH=>kit_is)
   (case II=>refine' ⟨?a,?b,?c,?d⟩;(case a|b|c|d=>k_is))
   (case IJ=>kit_is)
   (case IK=>refine' ⟨?a,?b,?c,?d⟩;(case a|b|c|d=>k_is))
   (case IL=>kit_is)
   (case IM=>refine' ⟨?a,?b,?c,?d⟩;(case a|b|c|d=>k_is))
   (case IN=>kit_is)
   (case IP=>refine' ⟨?a,?b,?c,?d⟩;(case a|b|c|d=>k_is))
   (case IQ=>kit_is)
   (case IR=>refine' ⟨?a,?b,?c,?d⟩;(case a|b|c|d=>k_is))
   (case IS=>kit_is)
   (case IT=>refine' ⟨?a,?b,?c,?d⟩;(case a|b|c|d=>k_is))
   (case IU=>kit_is)
   (case IV=>refine' ⟨?_⟩;k_exc)
   (case IW=>refine' L2.JT ?a ?b ?c ?d ?e ?f ?g ?h;(case a|b|c|d|e|f|g|h=>k_is))
   (case IX=>refine' L2.ZF ?_ (L2.ZF ?_ (L2.ZF ?_ (L2.ZF ?_ (L2.ZF ?_ (L2.ZF ?_ (L2.ZF ?_ (L2.ZF ?_ (L2.ZF ?_ (L2.ZF ?_ (L2.ZF ?_ (L2.ZF ?_ (L2.ZF ?_ (L2.ZF ?_ (L2.ZF ?_ (L2.ZF ?_ (L2.ZF ?_ (L2.JU)))))))))))))))))<;>kit_is)
   (case IY=>kit_is)
   (case IZ=>kts_exm)
   (case Ja=>refine' ⟨?_⟩;k_exc)
   (case Jb=>refine' L2.JT ?a ?b ?c ?d ?e ?f ?g ?h;(case a|b|c|d|e|f|g|h=>k_is))
   (case Jc=>refine' L2.ZF ?_ (L2.ZF ?_ (L2.ZF ?_ (L2.ZF ?_ (L2.ZF ?_ (L2.ZF ?_ (L2.ZF ?_ (L2.ZF ?_ (L2.ZF ?_ (L2.ZF ?_ (L2.ZF ?_ (L2.ZF ?_ (L2.ZF ?_ (L2.ZF ?_ (L2.ZF ?_ (L2.ZF ?_ (L2.ZF ?_ (L2.JU)))))))))))))))))<;>kit_is)
   (case Jd=>kit_is)
   (case Je=>kts_exm)
   (case Jf=>refine' ⟨?_⟩;k_exc)
   (case Jg=>refine' L2.JT ?a ?b ?c ?d ?e ?f ?g ?h;(case a|b|c|d|e|f|g|h=>k_is))
   (case Jh=>refine' L2.ZF ?_ (L2.ZF ?_ (L2.ZF ?_ (L2.ZF ?_ (L2.ZF ?_ (L2.ZF ?_ (L2.ZF ?_ (L2.ZF ?_ (L2.ZF ?_ (L2.ZF ?_ (L2.ZF ?_ (L2.ZF ?_ (L2.ZF ?_ (L2.ZF ?_ (L2.ZF ?_ (L2.ZF ?_ (L2.ZF ?_ (L2.JU)))))))))))))))))<;>kit_is)
   (case Ji=>kit_is)
   (case Jj=>kts_exm)
   (case Jk=>refine' ⟨?_⟩;k_exc)
   (case Jl=>refine' L2.JT ?a ?b ?c ?d ?e ?f ?g ?h;(case a|b|c|d|e|f|g|h=>k_is))
   (case Jm=>refine' L2.ZF ?_ (L2.ZF ?_ (L2.ZF ?_ (L2.ZF ?_ (L2.ZF ?_ (L2.ZF ?_ (L2.ZF ?_ (L2.ZF ?_ (L2.ZF ?_ (L2.ZF ?_ (L2.ZF ?_ (L2.ZF ?_ (L2.ZF ?_ (L2.ZF ?_ (L2.ZF ?_ (L2.ZF ?_ (L2.ZF ?_ (L2.JU)))))))))))))))))<;>kit_is)
   (case Jn=>kit_is)
   (case Jo=>kts_exm)
   (case Jp=>refine' ⟨?_⟩;k_exc)
   (case Jq=>refine' L2.JT ?a ?b ?c ?d ?e ?f ?g ?h;(case a|b|c|d|e|f|g|h=>k_is))
   (case Jr=>refine' L2.ZF ?_ (L2.ZF ?_ (L2.ZF ?_ (L2.ZF ?_ (L2.ZF ?_ (L2.ZF ?_ (L2.ZF ?_ (L2.ZF ?_ (L2.ZF ?_ (L2.ZF ?_ (L2.ZF ?_ (L2.ZF ?_ (L2.ZF ?_ (L2.ZF ?_ (L2.ZF ?_ (L2.ZF ?_ (L2.ZF ?_ (L2.JU)))))))))))))))))<;>kit_is)
   (case Js=>kit_is)
   (case Jt=>kts_exm)
   (case Ju=>exact rfl)
   (case Jv=>k_is)
   (case Jw=>exact rfl)
   (case Jx=>first|k_is|exact rfl|decide +kernel)
   (case Jy=>first|kernel_rfl|k_is|exact rfl|decide +kernel)
   (case Jz=>rw[eu];lia)
   (case JA=>exact rfl)
   (case JB=>k_is)
   (case JC=>exact rfl)
   (case JD=>first|k_is|exact rfl|decide +kernel)
   (case JE=>first|kernel_rfl|k_is|exact rfl|decide +kernel)
   (case JF=>rw[eu];lia)
   (case JG=>decide)
  obtain⟨t,T,m_law_tell,m_law_borders⟩:=T
  have e0:=hmg.symm.trans T.RQ.m
  cases e0
  refine' ⟨[(t.C7,t.Wr),(t.JV,t.Ut)],L2.JK ⟨⟨⟨T.Zij,m_law_tell⟩,T.Zik⟩,⟨⟨T.Zim,m_law_borders⟩,T.Zin⟩,trivial⟩,t.P8,?b,fun base kb nb hC hB=>K29.Zk8 T (hC _ (.head _)) (hC _ (.tail _ (.head _))) hB⟩
  obtain⟨oc,od,kV,doc,pm,an,cdv,ct,osl,e,_,_⟩:=T.RQ.F.ex
  rw[e]
  exact fun s EE=>.of_eq rfl
